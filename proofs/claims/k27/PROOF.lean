import PyProof.Rows.All
import Wide.All
import OpenK.AllK
import Wide.FinOn
import HandS.Base
import HandS.Call
import HandS.List
import HandS.Comp
import HandS.Ends
import HandS.Text
import HandS.Words
import HandS.Codes
import HandS.Wide
import HandS.Dict
import HandS.Style
import HandS.Small
import HandS.Lambda
import HandS.IsInst
import HandS.Defaults
import HandS.MakeKwOnly
import HandS.Property
import HandS.CallRecv
import HandS.Conv
import HandS.Flow
import HandS.Strs
import HandS.EndTab
import KE.KDictZip
import KE.KItemsList
import HandS.Iter
import HandS.SortInts
import HandS.Walk
import HandS.DictComp
import HandS.WideBits
import HandS.More
import HandS.OwnEq
import HandS.WordsDict
import PySem.Challenge.RW_livingroll_k27_doubts_due
set_option Elab.async false
set_option maxRecDepth 100000
set_option maxHeartbeats 4000000
set_option exponentiation.threshold 4096
/-! what stays between two heaps -/
namespace UF
open PySem PySem.Spec PyProof.Rows L2 C8 LamX

/-- none stands there, or a table of code -/
def Nw (H : Hp) (a : Addr) : Prop := ∀ o, H a = some o → ∃ ps, o = .tbl ps
theorem Nw.of {H : Hp} {a : Addr} (h : H a = none) : Nw H a := fun o e => by rw [h] at e; cases e
theorem ne_nw {H : Hp} {a b : Addr} {o : HO} (h : H a = some o) (n : Nw H b) (nt : ∀ ps, o ≠ .tbl ps := by intro ps z; cases z) : a ≠ b := fun e => by
  obtain ⟨ps, z⟩ := n o (by rw [← e]; exact h)
  exact nt ps z
/-- what stands there is no table and no code -/
def Pl (H : Hp) (a : Addr) : Prop := ∃ o, H a = some o ∧ (∀ ps, o ≠ .tbl ps) ∧ ∀ φ, o ≠ .ext φ
section
variable {H : Hp} {a : Addr}
theorem Pl.lst {xs : List V} (h : H a = some (.lst xs)) : Pl H a := ⟨_, h, fun _ z => (nomatch z), fun _ z => nomatch z⟩
theorem Pl.tup {xs : List V} (h : H a = some (.tup xs)) : Pl H a := ⟨_, h, fun _ z => (nomatch z), fun _ z => nomatch z⟩
theorem Pl.dK {xs : List (Key × V)} (h : H a = some (.dK xs)) : Pl H a := ⟨_, h, fun _ z => (nomatch z), fun _ z => nomatch z⟩
theorem Pl.dT {xs : List (List Key × V)} (h : H a = some (.dT xs)) : Pl H a := ⟨_, h, fun _ z => (nomatch z), fun _ z => nomatch z⟩
theorem Pl.ins {C dx : Addr} {fs : List (Str × V)} (h : H a = some (.ins C dx fs)) : Pl H a := ⟨_, h, fun _ z => (nomatch z), fun _ z => nomatch z⟩
end
/-- all that was tracked stays, but what stands at ds and tables; nothing is dropped (weak: tables may grow) -/
structure Fw (ds : List Addr) (H H' : Hp) : Prop where
  keep : ∀ a o, H a = some o → a ∉ ds → (∀ ps, o ≠ .tbl ps) → H' a = some o
  live : ∀ a, Nw H' a → Nw H a
/-- .. and tables stay as they are -/
structure Fr (ds : List Addr) (H H' : Hp) : Prop extends Fw ds H H' where
  tabs : ∀ T, Tabs T H → Tabs T H'
variable {ds es : List Addr} {H H1 H2 : Hp} {a b : Addr}
theorem Fr.w (x : Fr ds H H1) : Fw ds H H1 := x.toFw
theorem Fw.refl (ds : List Addr) (H : Hp) : Fw ds H H := ⟨fun _ _ h _ _ => h, fun _ h => h⟩
theorem Fr.refl (ds : List Addr) (H : Hp) : Fr ds H H := ⟨.refl _ _, fun _ h => h⟩
theorem Fw.trans (x : Fw ds H H1) (y : Fw ds H1 H2) : Fw ds H H2 := ⟨fun a o h n t => y.keep a o (x.keep a o h n t) n t, fun a h => x.live a (y.live a h)⟩
theorem Fr.trans (x : Fr ds H H1) (y : Fr ds H1 H2) : Fr ds H H2 := ⟨x.w.trans y.w, fun T h => y.tabs T (x.tabs T h)⟩
theorem Fw.mono (x : Fw ds H H1) (h : ∀ a, a ∈ ds → a ∈ es) : Fw es H H1 := ⟨fun a o z n t => x.keep a o z (fun m => n (h a m)) t, x.live⟩
theorem Fr.mono (x : Fr ds H H1) (h : ∀ a, a ∈ ds → a ∈ es) : Fr es H H1 := ⟨x.w.mono h, x.tabs⟩
theorem tabs_new {T : List (Addr × Str)} (hT : Tabs T H) (h : H b = none) (o : HO) : Tabs T (L2.upd H b o) := hT.ext fun c u e => by
  rw [upd_ne (ne_of_none e h)]
  exact e
theorem tabs_put {T : List (Addr × Str)} (hT : Tabs T H) (h : Pl H b) (o : HO) : Tabs T (L2.upd H b o) := fun p hp => by
  obtain ⟨ps, h1, h2, h3⟩ := hT p hp
  obtain ⟨u, hu, n1, n2⟩ := h
  refine ⟨ps, ?_, h2, fun pos cv hc => ?_⟩
  · rw [upd_ne (fun e => by rw [e, hu] at h1; exact n1 _ (Option.some.inj h1))]
    exact h1
  · obtain ⟨c, e, hcc⟩ := h3 pos cv hc
    refine ⟨c, e, ?_⟩
    rw [upd_ne (fun z => by rw [z, hu] at hcc; exact n2 _ (Option.some.inj hcc))]
    exact hcc
theorem Fw.upd (x : Fw ds H H1) (m : b ∈ ds) (o : HO) (nt : ∀ ps, o ≠ .tbl ps := by intro ps z; cases z) : Fw ds H (L2.upd H1 b o) := ⟨fun a u h n t => by
  rw [upd_ne (fun e : a = b => n (by rw [e]; exact m))]
  exact x.keep a u h n t, fun a h' => by
  refine x.live a fun u e => ?_
  by_cases q : a = b
  · obtain ⟨ps, z⟩ := h' o (by rw [q, upd_same])
    exact absurd z (nt ps)
  · exact h' u (by rw [upd_ne q]; exact e)⟩
theorem Fr.upd (x : Fr ds H H1) (m : b ∈ ds) (h : Pl H1 b) (o : HO) (nt : ∀ ps, o ≠ .tbl ps := by intro ps z; cases z) : Fr ds H (L2.upd H1 b o) := ⟨x.w.upd m o nt, fun T hT => tabs_put (x.tabs T hT) h o⟩
theorem Fw.new (x : Fw ds H H1) (n : H1 b = none) (o : HO) : Fw ds H (L2.upd H1 b o) := ⟨fun a u h q t => by
  have z := x.keep a u h q t
  rw [upd_ne (ne_of_none z n)]
  exact z, fun a h' => by
  refine x.live a fun u e => ?_
  refine h' u ?_
  rw [upd_ne (ne_of_none e n)]
  exact e⟩
theorem Fr.new (x : Fr ds H H1) (n : H1 b = none) (o : HO) : Fr ds H (L2.upd H1 b o) := ⟨x.w.new n o, fun T hT => tabs_new (x.tabs T hT) n o⟩
/-- a store into what was not there at the start -/
theorem Fw.late (x : Fw ds H H1) (n : Nw H b) (o : HO) (nt : ∀ ps, o ≠ .tbl ps := by intro ps z; cases z) : Fw ds H (L2.upd H1 b o) := ⟨fun a u h q t => by
  rw [upd_ne (ne_nw h n t)]
  exact x.keep a u h q t, fun a h' => by
  refine x.live a fun u e => ?_
  by_cases q : a = b
  · obtain ⟨ps, z⟩ := h' o (by rw [q, upd_same])
    exact absurd z (nt ps)
  · exact h' u (by rw [upd_ne q]; exact e)⟩
theorem Fr.late (x : Fr ds H H1) (n : Nw H b) (h : Pl H1 b) (o : HO) (nt : ∀ ps, o ≠ .tbl ps := by intro ps z; cases z) : Fr ds H (L2.upd H1 b o) := ⟨x.w.late n o nt, fun T hT => tabs_put (x.tabs T hT) h o⟩
theorem Fr.new0 (n : H b = none) (o : HO) : Fr ds H (L2.upd H b o) := (Fr.refl ds H).new n o
/-- then a step that changes what was not there at the start -/
theorem Fw.tail (x : Fw ds H H1) (y : Fw es H1 H2) (h : ∀ a, a ∈ es → a ∈ ds ∨ Nw H a) : Fw ds H H2 := ⟨fun a o z n t => y.keep a o (x.keep a o z n t) (fun m => by
  rcases h a m with q | q
  · exact n q
  · exact ne_nw z q t rfl) t, fun a h => x.live a (y.live a h)⟩
theorem Fr.tail (x : Fr ds H H1) (y : Fr es H1 H2) (h : ∀ a, a ∈ es → a ∈ ds ∨ Nw H a) : Fr ds H H2 := ⟨x.w.tail y.w h, fun T hT => y.tabs T (x.tabs T hT)⟩
theorem Fw.ofN (e : ExtN H H1) (l : ∀ a, Nw H1 a → Nw H a) : Fw ds H H1 := ⟨fun a o h _ t => e a o h t, l⟩
/-- a lambda's step: nothing that is no table goes, so new is new -/
theorem Fw.ext (e : ExtN H H1) : Fw ds H H1 := ⟨fun a o h _ t => e a o h t, fun a n o h => by
  by_cases t : ∃ ps, o = .tbl ps
  · exact t
  · exact n o (e a o h fun ps z => t ⟨ps, z⟩)⟩
section
variable {x : Fw ds H H1}
theorem Fw.lst {xs : List V} (x : Fw ds H H1) (h : H a = some (.lst xs)) (n : a ∉ ds) : H1 a = some (.lst xs) := x.keep a _ h n fun _ z => nomatch z
theorem Fw.tup {xs : List V} (x : Fw ds H H1) (h : H a = some (.tup xs)) (n : a ∉ ds) : H1 a = some (.tup xs) := x.keep a _ h n fun _ z => nomatch z
theorem Fw.dK {xs : List (Key × V)} (x : Fw ds H H1) (h : H a = some (.dK xs)) (n : a ∉ ds) : H1 a = some (.dK xs) := x.keep a _ h n fun _ z => nomatch z
theorem Fw.dT {xs : List (List Key × V)} (x : Fw ds H H1) (h : H a = some (.dT xs)) (n : a ∉ ds) : H1 a = some (.dT xs) := x.keep a _ h n fun _ z => nomatch z
theorem Fw.ins {C dx : Addr} {fs : List (Str × V)} (x : Fw ds H H1) (h : H a = some (.ins C dx fs)) (n : a ∉ ds) : H1 a = some (.ins C dx fs) := x.keep a _ h n fun _ z => nomatch z
theorem Fr.lst {xs : List V} (x : Fr ds H H1) (h : H a = some (.lst xs)) (n : a ∉ ds) : H1 a = some (.lst xs) := x.w.lst h n
theorem Fr.tup {xs : List V} (x : Fr ds H H1) (h : H a = some (.tup xs)) (n : a ∉ ds) : H1 a = some (.tup xs) := x.w.tup h n
theorem Fr.dK {xs : List (Key × V)} (x : Fr ds H H1) (h : H a = some (.dK xs)) (n : a ∉ ds) : H1 a = some (.dK xs) := x.w.dK h n
theorem Fr.dT {xs : List (List Key × V)} (x : Fr ds H H1) (h : H a = some (.dT xs)) (n : a ∉ ds) : H1 a = some (.dT xs) := x.w.dT h n
theorem Fr.ins {C dx : Addr} {fs : List (Str × V)} (x : Fr ds H H1) (h : H a = some (.ins C dx fs)) (n : a ∉ ds) : H1 a = some (.ins C dx fs) := x.w.ins h n
end
theorem not_nil {a : Addr} : a ∉ ([] : List Addr) := fun m => nomatch m
theorem not_one {a b : Addr} (h : a ≠ b) : a ∉ [b] := fun m => h (List.mem_singleton.mp m)
theorem not_two {a b c : Addr} (h : a ≠ b) (g : a ≠ c) : a ∉ [b, c] := fun m => by
  rcases List.mem_cons.mp m with e | m
  · exact h e
  · exact g (List.mem_singleton.mp m)
theorem not_cons {a b : Addr} {ds : List Addr} (h : a ≠ b) (g : a ∉ ds) : a ∉ b :: ds := fun m => by
  rcases List.mem_cons.mp m with e | m
  · exact h e
  · exact g m
/-- the same objects with fewer premises -/
theorem upd_new {o : HO} (h : H1 b = none) {p : HO} (q : H1 a = some p) : L2.upd H1 b o a = some p := by
  rw [upd_ne (ne_of_none q h)]; exact q

/-! ### numbers -/
theorem pm {b : Int} (h : 0 < b) : 0 < b := h
theorem dvw {j : Int} (h : 0 < j) (h2 : j < 2 ^ 2000) (i : Int) : CDivW i j := by
  refine wide_div h (b := 2000) ?_ (by decide) (by decide)
  have e : (2 : Int) ^ 2000 = ((2 ^ 2000 : Nat) : Int) := by simp
  rw [e] at h2
  generalize (2 : Nat) ^ 2000 = z at h2 ⊢
  omega
theorem at_lt {α : Type} {xs : List α} {z : Int} (h0 : 0 ≤ z) (h1 : z < xs.length) : ∃ v, atI xs z = some v := by
  obtain ⟨j, rfl⟩ := Int.eq_ofNat_of_zero_le h0
  have hl : j < xs.length := by omega
  exact ⟨xs[j], atI_nat (List.getElem?_eq_getElem hl)⟩
theorem at_map {xs : List Int} {z : Int} {v : V} (h : atI (xs.map V.int) z = some v) : ∃ n : Int, v = .int n := by
  obtain ⟨j, _, e, _⟩ := atI_get h
  rw [List.getElem?_map] at e
  cases q : xs[j]? with
  | none => rw [q] at e; cases e
  | some n => rw [q] at e; exact ⟨n, (Option.some.inj e).symm⟩
theorem small1000' {n : Nat} (h : n ≤ 1000) : n < sizeLine := Nat.lt_of_le_of_lt h (by decide)
/-- an item of a list of whole numbers -/
theorem int_at {xs : List Int} {z : Int} (h0 : 0 ≤ z) (h1 : z < xs.length) : ∃ n : Int, atI (xs.map V.int) z = some (.int n) ∧ n ∈ xs ∧ xs[z.toNat]? = some n := by
  obtain ⟨j, rfl⟩ := Int.eq_ofNat_of_zero_le h0
  have hl : j < xs.length := by omega
  refine ⟨xs[j], atI_nat ?_, List.getElem_mem hl, ?_⟩
  · rw [List.getElem?_map, List.getElem?_eq_getElem hl]; rfl
  · exact List.getElem?_eq_getElem hl
theorem map_at {α : Type} {f : α → V} {xs : List α} {z : Int} (h0 : 0 ≤ z) (h1 : z < xs.length) : ∃ n, atI (xs.map f) z = some (f n) ∧ n ∈ xs ∧ xs[z.toNat]? = some n := by
  obtain ⟨j, rfl⟩ := Int.eq_ofNat_of_zero_le h0
  have hl : j < xs.length := by omega
  refine ⟨xs[j], atI_nat ?_, List.getElem_mem hl, ?_⟩
  · rw [List.getElem?_map, List.getElem?_eq_getElem hl]; rfl
  · exact List.getElem?_eq_getElem hl
theorem twoP {a b : Int} {P Q : Prop} (h1 : a = b → P) (h2 : ¬ a = b → Q) : (decide (V.int a = V.int b) = true → P) ∧ (¬ decide (V.int a = V.int b) = true → Q) := by
  refine ⟨fun z => h1 ?_, fun z => h2 fun e => z ?_⟩
  · have z := of_decide_eq_true z
    injection z
  · rw [e]
    exact decide_eq_true rfl
theorem eqI {a b : Int} (h : decide (V.int a = V.int b) = true) : a = b := by
  have z := of_decide_eq_true h
  injection z
theorem neI {a b : Int} (h : ¬ decide (V.int a = V.int b) = true) : ¬ a = b := fun e => h (by rw [e]; exact decide_eq_true rfl)
theorem decI {a b : Int} (h : a = b) : decide (V.int a = V.int b) = true := by rw [h]; exact decide_eq_true rfl
theorem decIn {a b : Int} (h : ¬ a = b) : decide (V.int a = V.int b) = false := decide_eq_false fun e => h (by injection e)

/-! ### settings' fields -/
def fs5 (n p r g h : Int) : List (Str × V) := [("bits", .int n), ("patience", .int p), ("room", .int r), ("grace", .int g), ("helpers", .int h)]
section
variable {n p r g h : Int}
theorem fs5_bits : (fs5 n p r g h).lookup ("bits" : Str) = some (.int n) := by kernel_rfl
theorem fs5_patience : (fs5 n p r g h).lookup ("patience" : Str) = some (.int p) := by kernel_rfl
theorem fs5_room : (fs5 n p r g h).lookup ("room" : Str) = some (.int r) := by kernel_rfl
theorem fs5_grace : (fs5 n p r g h).lookup ("grace" : Str) = some (.int g) := by kernel_rfl
theorem fs5_helpers : (fs5 n p r g h).lookup ("helpers" : Str) = some (.int h) := by kernel_rfl
theorem fs5_seats : (fs5 n p r g h).lookup ("seats" : Str) = none := by kernel_rfl
theorem fs5_cycle : (fs5 n p r g h).lookup ("cycle" : Str) = none := by kernel_rfl
theorem fs5_stripes : (fs5 n p r g h).lookup ("stripes" : Str) = none := by kernel_rfl
theorem fs5_puts : putF ("helpers" : Str) (V.int h) (putF ("grace" : Str) (V.int g) (putF ("room" : Str) (V.int r) (putF ("patience" : Str) (V.int p) (putF ("bits" : Str) (V.int n) [])))) = fs5 n p r g h := by kernel_rfl
end
end UF
namespace UF
open PySem PySem.Spec PyProof.Rows L2
theorem putF_len (f : Str) (v : V) : ∀ fs : List (Str × V), (putF f v fs).length ≤ fs.length + 1
  | [] => Nat.le_refl _
  | (g, x) :: r => by
    unfold putF
    split
    · exact Nat.le_succ _
    · exact Nat.succ_le_succ (putF_len f v r)
end UF

set_option Elab.async false
set_option maxRecDepth 100000
set_option maxHeartbeats 4000000
/-! how the defs, classes and built-ins of a text are named, whatever the law -/
namespace UF
open PySem PySem.Spec PyProof.Rows L2 C8 LamX

/-- the built-ins that a text may call -/
structure Bl (mg : Str → Option Value) : Prop where
  int : mg "int" = none
  bool : mg "bool" = none
  list : mg "list" = none
  len : mg "len" = none
  tuple : mg "tuple" = none
  str : mg "str" = none
  sum : mg "sum" = none
  abs : mg "abs" = none
  max : mg "max" = none
  min : mg "min" = none
  range : mg "range" = none
  isinstance : mg "isinstance" = none
  sorted : mg "sorted" = none
  reversed : mg "reversed" = none
  enumerate : mg "enumerate" = none
  zip : mg "zip" = none
  all : mg "all" = none
  any : mg "any" = none
  dict : mg "dict" = none
  set : mg "set" = none
  ord : mg "ord" = none

/-- a def of the text that is called with all its parameters -/
structure D0 (K : PySem.W.Frag) (mg : Str → Option Value) (x : Str) (st : Stmt) (ps : List Str) : Prop where
  ex : ∃ (f : Addr) (fd : FuncData), C8.Def K mg x st f fd ∧ L2.Binds K fd ps []
/-- a method, a property of the class at C -/
def MethP (K : PySem.W.Frag) (C : Addr) (m q : Str) (st : Stmt) (ps : List Str) : Prop := ∃ (f : Addr) (fd : FuncData), Meth K C m f ∧ C8.Fun K m q st f fd ∧ L2.Binds K fd ps []
def PropP (K : PySem.W.Frag) (C : Addr) (m q : Str) (st : Stmt) : Prop := ∃ (p g : Addr) (fd : FuncData), PropOf K C m p g ∧ C8.Fun K m q st g fd ∧ L2.Binds K fd ["self"] []
def IniP (K : PySem.W.Frag) (C : Addr) (q : Str) (st : Stmt) (ps : List Str) : Prop := ∃ (f : Addr) (fd : FuncData), Mk K C f ∧ C8.Fun K "__init__" q st f fd ∧ L2.Binds K fd ps []
/-- an __init__ with keyword-only defaults -/
def IniD (K : PySem.W.Frag) (C : Addr) (q : Str) (st : Stmt) (kws : List (Str × V)) : Prop := ∃ (f : Addr) (fd : FuncData), Mk K C f ∧ FunD K "__init__" q (C8.fnArgs st) (C8.fnBody st) (C8.fnScope st) [] kws f fd
def ConP (K : PySem.W.Frag) (C : Addr) (x : Str) (n : Int) : Prop := ∃ u, Con K C x (.int n) u

section
variable {P : Program} {w : World} {K : PySem.W.Frag} {mg : Str → Option Value} {base : Heap}
theorem cal {x : Str} {st : Stmt} {N ps : List Str} {k : Nat} {sp : Sp} (d : D0 K mg x st ps) (S : FnScope N ps (C8.fnScope st)) (len : ∀ vs H Q E, sp vs H Q E → vs.length = ps.length)
    (hbody : ∀ (cdv : Value) (A : Around) (outer : List Env) (f : Addr) (s : Shared) (H : Hp) (vs : List V) (Q : VK) (E : XK), Room k (A.deeper (envOfC x (C8.fnScope st) s.heap.objs.size f cdv)) → sp vs H Q E →
      ∃ t, PSs (cxOf C8.CX0 P w K mg base N x (C8.fnScope st) f cdv A outer s H E).nox (C8.fnBody st) t ∧ t { nx := fun _ H' => Q .non H', rt := Q } (start N vs) H) : Cal P w K mg base (k + 1) x sp [] := by
  obtain ⟨f, fd, D, b⟩ := d.ex
  exact cal0 D b .nil S len fun cdv A outer s H vs Q E hr h => hbody cdv A outer f s H vs Q E hr h
theorem met {m q : Str} {C : Addr} {st : Stmt} {N ps : List Str} {k : Nat} {sp : Sp} (d : MethP K C m q st ps) (c : Cls K C) (S : FnScope N ps (C8.fnScope st)) (len : ∀ vs H Q E, sp vs H Q E → vs.length = ps.length)
    (hbody : ∀ (cdv : Value) (A : Around) (outer : List Env) (f : Addr) (s : Shared) (H : Hp) (vs : List V) (Q : VK) (E : XK), Room k (A.deeper (envOfC q (C8.fnScope st) s.heap.objs.size f cdv)) → sp vs H Q E →
      ∃ t, PSs (cxOf C8.CX0 P w K mg base N q (C8.fnScope st) f cdv A outer s H E).nox (C8.fnBody st) t ∧ t { nx := fun _ H' => Q .non H', rt := Q } (start N vs) H) : Met P w K mg base (k + 1) C m sp [] := by
  obtain ⟨f, fd, M, F, b⟩ := d
  exact met0 c M F b S len fun cdv A outer s H vs Q E hr h => hbody cdv A outer f s H vs Q E hr h
theorem mak {x q : Str} {C : Addr} {st : Stmt} {N ps : List Str} {k : Nat} {sp : Sp} (d : IniP K C q st ps) (hm : mg x = some (.ref C)) (S : FnScope N ps (C8.fnScope st)) (len : ∀ vs H Q E, sp vs H Q E → vs.length = ps.length)
    (hbody : ∀ (cdv : Value) (A : Around) (outer : List Env) (f : Addr) (s : Shared) (H : Hp) (vs : List V) (Q : VK) (E : XK), Room k (A.deeper (envOfC q (C8.fnScope st) s.heap.objs.size f cdv)) → sp vs H Q E →
      ∃ t, PSs (cxOf C8.CX0 P w K mg base N q (C8.fnScope st) f cdv A outer s H E).nox (C8.fnBody st) t ∧ t { nx := fun _ H' => Q .non H', rt := Q } (start N vs) H) : Mak P w K mg base (k + 1) x C sp [] := by
  obtain ⟨f, fd, M, F, b⟩ := d
  exact mak0 M hm F b .nil S len fun cdv A outer s H vs Q E hr h => hbody cdv A outer f s H vs Q E hr h
/-- the promise of a property's getter -/
def Prp (P : Program) (w : World) (K : PySem.W.Frag) (mg : Str → Option Value) (base : Heap) (k : Nat) (C : Addr) (m : Str) (sp : Sp) : Prop :=
  ∃ (p g : Addr) (fd : FuncData), Cls K C ∧ PropOf K C m p g ∧ FnOk P w K mg base C8.CX0 k g fd ["self"] sp ∧ L2.Binds K fd ["self"] []
theorem prp {m q : Str} {C : Addr} {st : Stmt} {N : List Str} {k : Nat} {sp : Sp} (d : PropP K C m q st) (c : Cls K C) (S : FnScope N ["self"] (C8.fnScope st)) (len : ∀ vs H Q E, sp vs H Q E → vs.length = 1)
    (hbody : ∀ (cdv : Value) (A : Around) (outer : List Env) (f : Addr) (s : Shared) (H : Hp) (vs : List V) (Q : VK) (E : XK), Room k (A.deeper (envOfC q (C8.fnScope st) s.heap.objs.size f cdv)) → sp vs H Q E →
      ∃ t, PSs (cxOf C8.CX0 P w K mg base N q (C8.fnScope st) f cdv A outer s H E).nox (C8.fnBody st) t ∧ t { nx := fun _ H' => Q .non H', rt := Q } (start N vs) H) : Prp P w K mg base (k + 1) C m sp := by
  obtain ⟨p, g, fd, M, F, b⟩ := d
  exact ⟨p, g, fd, c, M, C8.fn0 F S len fun cdv A outer s H vs Q E hr h => hbody cdv A outer g s H vs Q E hr h, b⟩
end
theorem pe_pr {X : Cx} {k j : Nat} {C : Addr} {m : Str} {sp : Sp} {e : Expr} {pos : Pos} {ta : TE} (c : Prp X.prog X.w X.K X.mg X.base k C m sp) (hr : Room j X.A) (hk : k + 1 ≤ j) (he : PE X e ta)
    (hab : attributeBase e m X.env (eval e X.env) = eval e X.env := by rfl) : PE X (.Attribute e m pos) (tProp C sp [] C8.E0 ta) := by
  obtain ⟨p, g, fd, cl, hp, F, b⟩ := c
  exact pe_prop he cl hp F (hr.mono hk) b .nil (C8.pass0 (E := C8.E0)) hab
theorem pe_c0 {X : Cx} {k j : Nat} {x : Str} {sp : Sp} {dvs : List V} {p pos : Pos} (c : Cal X.prog X.w X.K X.mg X.base k x sp dvs) (hr : Room j X.A) (hk : k ≤ j) (hg : Gl X x) (hdb : (x == ("__debug__" : Str)) = false := by decide) :
    PE X (.Call (.Name x p) [] [] pos) (tCall sp dvs C8.E0 tNil) := by
  obtain ⟨f, fd, ps, ds, F, hm, kp, b, d⟩ := c.ex
  exact pe_call0 F (hr.mono hk) hg hm kp b d C8.pass0 hdb
theorem pe_mk0 {X : Cx} {k j : Nat} {C : Addr} {x : Str} {sp : Sp} {dvs : List V} {p pos : Pos} (c : Mak X.prog X.w X.K X.mg X.base k x C sp dvs) (hr : Room j X.A) (hk : k + 1 ≤ j) (hg : Gl X x) (hdb : (x == ("__debug__" : Str)) = false := by decide) :
    PE X (.Call (.Name x p) [] [] pos) (tMake C sp dvs C8.E0 tNil) := by
  obtain ⟨f, fd, ps, ds, M, F, hm, b, d⟩ := c.ex
  exact pe_make0 M F (hr.mono hk) hg hm b d C8.pass0 hdb
theorem u1 {k : Nat} {A : Around} (hr : Room k A) : A.units + 1 < cLine := by
  have := hr.units
  omega

section
variable {K : PySem.W.Frag} {h : Heap} {mg : Str → Option Value}
theorem d0_mk {x : Str} {st : Stmt} {ps : List Str} {f : Addr} {oc : Value} {od an : Option Addr} {osl : Array (Option Value)} {kV doc pm cdv ct : Value} (X : K.In h) (G : h.Ns mainGlobals mg) (a : PySem.W.nsIn K mainGlobals x = some (some (.ref f)))
    (l : K.lookup f = some ⟨oc, od, .func (PySem.W.fnOf x x (C8.fnArgs st) (C8.fnBody st) (C8.fnScope st) .none kV doc pm an cdv ct), osl⟩) (c : PySem.W.codeIn K cdv x = true) (k : PySem.W.keepIn K (.ref f) = true)
    (hb : ∀ (kV doc pm : Value) (an : Option Addr) (cdv ct : Value) (us : List Value), us.length = ps.length → bindArgs (PySem.W.fnOf x x (C8.fnArgs st) (C8.fnBody st) (C8.fnScope st) .none kV doc pm an cdv ct) ⟨us, []⟩ = pure (ps.zip us)) : D0 K mg x st ps :=
  have F : C8.Fun K x x st f _ := ⟨⟨oc, od, _, kV, doc, pm, an, cdv, ct, osl, rfl, l, c⟩⟩
  ⟨f, _, ⟨F, PySem.W.mg_of X G a, k⟩, F.binds rfl hb⟩
theorem meth_mk {C f : Addr} {m q : Str} {st : Stmt} {ps : List Str} {oc : Value} {od an : Option Addr} {osl : Array (Option Value)} {kV doc pm cdv ct : Value} (a : PySem.W.findIn K (.ref C) m = some (some (.ref f))) (i : PySem.W.isFn K (.ref f) = true)
    (l : K.lookup f = some ⟨oc, od, .func (PySem.W.fnOf m q (C8.fnArgs st) (C8.fnBody st) (C8.fnScope st) .none kV doc pm an cdv ct), osl⟩) (c : PySem.W.codeIn K cdv q = true) (k : PySem.W.keepIn K (.ref f) = true)
    (hb : ∀ (kV doc pm : Value) (an : Option Addr) (cdv ct : Value) (us : List Value), us.length = ps.length → bindArgs (PySem.W.fnOf m q (C8.fnArgs st) (C8.fnBody st) (C8.fnScope st) .none kV doc pm an cdv ct) ⟨us, []⟩ = pure (ps.zip us)) : MethP K C m q st ps :=
  have F : C8.Fun K m q st f _ := ⟨⟨oc, od, _, kV, doc, pm, an, cdv, ct, osl, rfl, l, c⟩⟩
  ⟨f, _, ⟨a, i, k⟩, F, F.binds rfl hb⟩
theorem ini_mk {C f : Addr} {q : Str} {st : Stmt} {ps : List Str} {oc : Value} {od an : Option Addr} {osl : Array (Option Value)} {kV doc pm cdv ct : Value} (m : PySem.W.makesIn K C = true) (a : PySem.W.findIn K (.ref C) "__init__" = some (some (.ref f))) (i : PySem.W.isFn K (.ref f) = true) (kc : PySem.W.keepIn K (.ref C) = true)
    (l : K.lookup f = some ⟨oc, od, .func (PySem.W.fnOf "__init__" q (C8.fnArgs st) (C8.fnBody st) (C8.fnScope st) .none kV doc pm an cdv ct), osl⟩) (c : PySem.W.codeIn K cdv q = true)
    (hb : ∀ (kV doc pm : Value) (an : Option Addr) (cdv ct : Value) (us : List Value), us.length = ps.length → bindArgs (PySem.W.fnOf "__init__" q (C8.fnArgs st) (C8.fnBody st) (C8.fnScope st) .none kV doc pm an cdv ct) ⟨us, []⟩ = pure (ps.zip us)) : IniP K C q st ps :=
  have F : C8.Fun K "__init__" q st f _ := ⟨⟨oc, od, _, kV, doc, pm, an, cdv, ct, osl, rfl, l, c⟩⟩
  ⟨f, _, ⟨m, a, i, kc⟩, F, F.binds rfl hb⟩
theorem con_mk {C : Addr} {x : Str} {n : Int} {tk : Tok} (a : PySem.W.findIn K (.ref C) x = some (some (.int n tk))) (g : PySem.W.specialIn K (.int n tk) "__get__" = some none) (cp : PySem.W.copiedNames.contains x = false) : ConP K C x n :=
  ⟨.int n tk, a, ⟨_, rfl⟩, g, cp⟩
theorem inid2_mk {C f D : Addr} {q x1 x2 : Str} {n1 n2 : Int} {st : Stmt} {oc : Value} {od an : Option Addr} {osl : Array (Option Value)} {doc pm cdv ct : Value} {t1 t2 : Tok} (m : PySem.W.makesIn K C = true) (a : PySem.W.findIn K (.ref C) "__init__" = some (some (.ref f))) (i : PySem.W.isFn K (.ref f) = true) (kc : PySem.W.keepIn K (.ref C) = true)
    (l : K.lookup f = some ⟨oc, od, .func (PySem.W.fnOf "__init__" q (C8.fnArgs st) (C8.fnBody st) (C8.fnScope st) .none (.ref D) doc pm an cdv ct), osl⟩) (c : PySem.W.codeIn K cdv q = true) (k : PySem.W.keepIn K (.ref f) = true)
    (g1 : PySem.W.nsIn K D x1 = some (some (.int n1 t1))) (g2 : PySem.W.nsIn K D x2 = some (some (.int n2 t2))) : IniD K C q st [(x1, .int n1), (x2, .int n2)] :=
  ⟨f, _, ⟨m, a, i, kc⟩, ⟨oc, od, _, _, doc, pm, an, cdv, ct, osl, rfl, l, c, .inl ⟨rfl, rfl⟩, .inr ⟨D, rfl, fun q hq => by
    cases hq with
    | head => exact ⟨_, g1, _, rfl⟩
    | tail _ hq => cases hq with
      | head => exact ⟨_, g2, _, rfl⟩
      | tail _ hq => cases hq⟩⟩, k⟩
theorem inidN_mk {C f D : Addr} {q x1 : Str} {st : Stmt} {oc : Value} {od an : Option Addr} {osl : Array (Option Value)} {doc pm cdv ct : Value} (m : PySem.W.makesIn K C = true) (a : PySem.W.findIn K (.ref C) "__init__" = some (some (.ref f))) (i : PySem.W.isFn K (.ref f) = true) (kc : PySem.W.keepIn K (.ref C) = true)
    (l : K.lookup f = some ⟨oc, od, .func (PySem.W.fnOf "__init__" q (C8.fnArgs st) (C8.fnBody st) (C8.fnScope st) .none (.ref D) doc pm an cdv ct), osl⟩) (c : PySem.W.codeIn K cdv q = true) (k : PySem.W.keepIn K (.ref f) = true)
    (g1 : PySem.W.nsIn K D x1 = some (some .none)) : IniD K C q st [(x1, .non)] :=
  ⟨f, _, ⟨m, a, i, kc⟩, ⟨oc, od, _, _, doc, pm, an, cdv, ct, osl, rfl, l, c, .inl ⟨rfl, rfl⟩, .inr ⟨D, rfl, fun q hq => by
    cases hq with
    | head => exact ⟨_, g1, rfl⟩
    | tail _ hq => cases hq⟩⟩, k⟩
theorem prop_mk {C p g : Addr} {m q : Str} {st : Stmt} {rest : List Value} {oc : Value} {od an : Option Addr} {osl : Array (Option Value)} {kV doc pm cdv ct : Value} (a : PySem.W.findIn K (.ref C) m = some (some (.ref p))) (gt : PySem.W.specialIn K (.ref p) "__get__" = some (some (.builtin "property.__get__"))) (tk : PySem.W.takesIn K (.ref p) = some true)
    (r : PySem.W.recIn K p "property" = some (.ref g :: rest))
    (l : K.lookup g = some ⟨oc, od, .func (PySem.W.fnOf m q (C8.fnArgs st) (C8.fnBody st) (C8.fnScope st) .none kV doc pm an cdv ct), osl⟩) (c : PySem.W.codeIn K cdv q = true)
    (hb : ∀ (kV doc pm : Value) (an : Option Addr) (cdv ct : Value) (us : List Value), us.length = ["self"].length → bindArgs (PySem.W.fnOf m q (C8.fnArgs st) (C8.fnBody st) (C8.fnScope st) .none kV doc pm an cdv ct) ⟨us, []⟩ = pure ((["self"] : List Str).zip us)) : PropP K C m q st :=
  have F : C8.Fun K m q st g _ := ⟨⟨oc, od, _, kV, doc, pm, an, cdv, ct, osl, rfl, l, c⟩⟩
  ⟨p, g, _, ⟨a, gt, tk, rest, r⟩, F, F.binds (ps := ["self"]) rfl hb⟩
theorem cls_mk {C : Addr} (pg : PySem.W.plainGet K C Str.empty = true) (hd : PySem.W.hasDictIn K C = true) (po : PySem.W.plainOver K C = true) (sa : PySem.W.findIn K (.ref C) "__setattr__" = some (some (.builtin "object.__setattr__"))) : Cls K C := ⟨pg, hd, po, sa⟩
theorem bl_mk (X : K.In h) (G : h.Ns mainGlobals mg) (z0 : PySem.W.nsIn K mainGlobals "int" = some none) (z1 : PySem.W.nsIn K mainGlobals "bool" = some none) (z2 : PySem.W.nsIn K mainGlobals "list" = some none) (z3 : PySem.W.nsIn K mainGlobals "len" = some none)
    (z4 : PySem.W.nsIn K mainGlobals "tuple" = some none) (z5 : PySem.W.nsIn K mainGlobals "str" = some none) (z6 : PySem.W.nsIn K mainGlobals "sum" = some none) (z7 : PySem.W.nsIn K mainGlobals "abs" = some none) (z8 : PySem.W.nsIn K mainGlobals "max" = some none) (z9 : PySem.W.nsIn K mainGlobals "min" = some none)
    (z10 : PySem.W.nsIn K mainGlobals "range" = some none) (z11 : PySem.W.nsIn K mainGlobals "isinstance" = some none) (z12 : PySem.W.nsIn K mainGlobals "sorted" = some none) (z13 : PySem.W.nsIn K mainGlobals "reversed" = some none) (z14 : PySem.W.nsIn K mainGlobals "enumerate" = some none) (z15 : PySem.W.nsIn K mainGlobals "zip" = some none)
    (z16 : PySem.W.nsIn K mainGlobals "all" = some none) (z17 : PySem.W.nsIn K mainGlobals "any" = some none) (z18 : PySem.W.nsIn K mainGlobals "dict" = some none) (z19 : PySem.W.nsIn K mainGlobals "set" = some none) (z20 : PySem.W.nsIn K mainGlobals "ord" = some none) : Bl mg :=
  ⟨PySem.W.mg_none_of X G z0, PySem.W.mg_none_of X G z1, PySem.W.mg_none_of X G z2, PySem.W.mg_none_of X G z3, PySem.W.mg_none_of X G z4, PySem.W.mg_none_of X G z5, PySem.W.mg_none_of X G z6, PySem.W.mg_none_of X G z7, PySem.W.mg_none_of X G z8, PySem.W.mg_none_of X G z9, PySem.W.mg_none_of X G z10,
    PySem.W.mg_none_of X G z11, PySem.W.mg_none_of X G z12, PySem.W.mg_none_of X G z13, PySem.W.mg_none_of X G z14, PySem.W.mg_none_of X G z15, PySem.W.mg_none_of X G z16, PySem.W.mg_none_of X G z17, PySem.W.mg_none_of X G z18, PySem.W.mg_none_of X G z19, PySem.W.mg_none_of X G z20⟩
/-- a tuple of texts of the module -/
def TupP (K : PySem.W.Frag) (mg : Str → Option Value) (x : Str) (l : List V) : Prop := ∃ a : Addr, mg x = some (.ref a) ∧ ∀ H, SqT K H a l
theorem tup2s_mk {x : Str} {a : Addr} {s1 s2 : Str} {t1 t2 : Tok} {n : Nat} {od : Option Addr} {osl : Array (Option Value)} (X : K.In h) (G : h.Ns mainGlobals mg) (e : PySem.W.nsIn K mainGlobals x = some (some (.ref a))) (l : K.lookup a = some ⟨.type "tuple", od, .seq #[.str s1 t1, .str s2 t2] n, osl⟩) : TupP K mg x [.str s1, .str s2] :=
  ⟨a, PySem.W.mg_of X G e, fun _ => .inr ⟨_, _, _, l, rfl, rfl, by show 2 ≤ sizeLine; decide, .cons ⟨_, rfl⟩ (.cons ⟨_, rfl⟩ .nil)⟩⟩
/-- a def of the text whose code makes a lambda: its code object at c -/
structure D1 (K : PySem.W.Frag) (mg : Str → Option Value) (x : Str) (st : Stmt) (c : Addr) : Prop where
  ex : ∃ (f : Addr) (oc : Value) (od : Option Addr) (kV doc pm : Value) (an : Option Addr) (ct : Value) (osl : Array (Option Value)),
    K.lookup f = some ⟨oc, od, .func (PySem.W.fnOf x x (C8.fnArgs st) (C8.fnBody st) (C8.fnScope st) .none kV doc pm an (.ref c) ct), osl⟩ ∧ PySem.W.codeIn K (.ref c) x = true ∧ mg x = some (.ref f) ∧ PySem.W.keepIn K (.ref f) = true
theorem d1_mk {x : Str} {st : Stmt} {f c : Addr} {oc : Value} {od an : Option Addr} {osl : Array (Option Value)} {kV doc pm ct : Value} (X : K.In h) (G : h.Ns mainGlobals mg) (a : PySem.W.nsIn K mainGlobals x = some (some (.ref f)))
    (l : K.lookup f = some ⟨oc, od, .func (PySem.W.fnOf x x (C8.fnArgs st) (C8.fnBody st) (C8.fnScope st) .none kV doc pm an (.ref c) ct), osl⟩) (cd : PySem.W.codeIn K (.ref c) x = true) (k : PySem.W.keepIn K (.ref f) = true) : D1 K mg x st c :=
  ⟨f, oc, od, kV, doc, pm, an, ct, osl, l, cd, PySem.W.mg_of X G a, k⟩
/-- the law's own def -/
def LawP (K : PySem.W.Frag) (mg : Str → Option Value) (st : Stmt) (fa : Addr) : Prop := ∃ fd, C8.Fun K "law" "law" st fa fd ∧ ∀ (s : Shared) (u : Value), BindsTo s fd ⟨[u], []⟩ [("script", u)]
theorem law_mk {st : Stmt} {fa fL : Addr} {oc : Value} {od an : Option Addr} {osl : Array (Option Value)} {kV doc pm cdv ct : Value} (X : K.In h) (G : h.Ns mainGlobals mg) (hfa : mg "law" = some (.ref fa)) (aL : PySem.W.nsIn K mainGlobals "law" = some (some (.ref fL)))
    (lL : K.lookup fL = some ⟨oc, od, .func (PySem.W.fnOf "law" "law" (C8.fnArgs st) (C8.fnBody st) (C8.fnScope st) .none kV doc pm an cdv ct), osl⟩) (cL : PySem.W.codeIn K cdv "law" = true)
    (hb : ∀ (kV doc pm : Value) (an : Option Addr) (cdv ct u : Value), bindArgs (PySem.W.fnOf "law" "law" (C8.fnArgs st) (C8.fnBody st) (C8.fnScope st) .none kV doc pm an cdv ct) ⟨[u], []⟩ = pure [(("script" : Str), u)]) : LawP K mg st fa := by
  have e := hfa.symm.trans (PySem.W.mg_of X G aL)
  cases e
  exact ⟨_, ⟨⟨oc, od, _, kV, doc, pm, an, cdv, ct, osl, rfl, lL, cL⟩⟩, fun s u => .of_eq (hb _ _ _ _ _ _ u)⟩
/-- the promise of a law: whatever the script, True -/
def spLaw (K : PySem.W.Frag) : Sp := fun vs H Q _ => ∃ (a : Addr) (ns : List Int), vs = [.ref a] ∧ SqL K H a (ns.map V.int) ∧ ns.length ≤ 63 ∧ ∀ H' : Hp, Q (.bl true) H'
/-- .. of a law whose text makes a lambda, its table at t -/
def spLawT (K : PySem.W.Frag) (t : Addr) : Sp := fun vs H Q _ => ∃ (a : Addr) (ns : List Int), vs = [.ref a] ∧ SqL K H a (ns.map V.int) ∧ ns.length ≤ 63 ∧ H t = some (.tbl #[]) ∧ ∀ H' : Hp, Q (.bl true) H'
end
theorem walkN {l : PySem.W.OpenLaw} {k : Nat} {q : Program} {loose : List Str} {XP : (Str → Option Value) → Heap → Prop} {YP : World → Heap → Prop} {d : DefRec} {K : Params → PySem.W.Frag} (hk : Room k callerA) (hn : l.most = some 63) (hdf : d.params.defaults = [])
    (hY : ∀ (w : World) (h : Heap), YP w h → (K w.params).In h)
    (F : ∀ (w : World) (mg : Str → Option Value) (fa : Addr) (h : Heap), (K w.params).In h → h.Ns mainGlobals mg → mg d.name = some (.ref fa) →
      ∃ fd : FuncData, (∀ (s : Shared) (u : Value), BindsTo s fd ⟨[u], []⟩ [("script", u)]) ∧ ∀ base : Heap, (K w.params).In base → base.Ns mainGlobals mg → FnOk l.prog w (K w.params) mg base C8.CX0 k fa fd ["script"] (spLaw (K w.params))) :
    PySem.W.WalkO q loose XP YP l.row.toRowW d [] (fun f vs => PySem.call f vs) :=
  L2.walk_of (n := 63) (k := k) (x := "script") (CX := fun _ => C8.CX0) (sp := fun w => spLaw (K w.params)) hn (by decide) hdf hk hY F (fun _ _ a ns hl _ hS => ⟨a, ns, rfl, hS, hl, fun _ => rfl⟩) fun _ _ _ _ _ z => z
/-- the end of a law with one table -/
theorem lawT {l : PySem.W.OpenLaw} {w : World} {K : PySem.W.Frag} {h : Heap} {mg : Str → Option Value} {fa c t : Addr} {st : Stmt} {k : Nat} (X : K.In h) (hT : h.get? t = some { cls := .none, data := .fields #[] }) (nT : K.lookup t = none) (hC : PySem.W.codeHdIn K c t = true) (L : LawP K mg st fa)
    (F : ∀ fd, C8.Fun K "law" "law" st fa fd → ∀ base : Heap, K.In base → base.Ns mainGlobals mg → TabB base mg c t → FnOk l.prog w K mg base C8.CX0 k fa fd ["script"] (spLawT K t)) : LamX.LawAtS l w K C8.CX0 k 63 "script" mg fa h := by
  obtain ⟨fd, FL, bt⟩ := L
  refine ⟨fd, [(c, t)], spLawT K t, ?_, ?_, ?_, bt, ?_, fun base h1 h2 hTB => F fd FL base h1 h2 (hTB (c, t) (.head _))⟩
  · intro p hp
    cases hp with
    | head => exact hT
    | tail _ hp => cases hp
  · intro p hp
    cases hp with
    | head => exact nT
    | tail _ hp => cases hp
  · intro p hp
    cases hp with
    | head => exact PySem.W.codeHd_of_K X hC
    | tail _ hp => cases hp
  · exact fun H a ns hl _ hH hS => ⟨a, ns, rfl, hS, hl, hH (c, t) (.head _), fun _ => rfl⟩
end UF

set_option Elab.async false
set_option maxRecDepth 100000
set_option maxHeartbeats 4000000
/-! defs with a keyword-only default None; rows of whole numbers as data -/
namespace UF
open PySem PySem.Spec PyProof.Rows L2 C8 LamX
/-- a def of the text with keyword-only defaults -/
def DkD (K : PySem.W.Frag) (mg : Str → Option Value) (x : Str) (st : Stmt) (kws : List (Str × V)) : Prop := ∃ (f : Addr) (fd : FuncData), FunD K x x (C8.fnArgs st) (C8.fnBody st) (C8.fnScope st) [] kws f fd ∧ mg x = some (.ref f)
section
variable {K : PySem.W.Frag} {h : Heap} {mg : Str → Option Value}
theorem dkN_mk {x x1 : Str} {st : Stmt} {f D : Addr} {oc : Value} {od an : Option Addr} {osl : Array (Option Value)} {doc pm cdv ct : Value} (X : K.In h) (G : h.Ns mainGlobals mg) (a : PySem.W.nsIn K mainGlobals x = some (some (.ref f)))
    (l : K.lookup f = some ⟨oc, od, .func (PySem.W.fnOf x x (C8.fnArgs st) (C8.fnBody st) (C8.fnScope st) .none (.ref D) doc pm an cdv ct), osl⟩) (c : PySem.W.codeIn K cdv x = true) (k : PySem.W.keepIn K (.ref f) = true)
    (g1 : PySem.W.nsIn K D x1 = some (some .none)) : DkD K mg x st [(x1, .non)] :=
  ⟨f, _, ⟨⟨oc, od, _, _, doc, pm, an, cdv, ct, osl, rfl, l, c, .inl ⟨rfl, rfl⟩, .inr ⟨D, rfl, fun q hq => by
    cases hq with
    | head => exact ⟨_, g1, rfl⟩
    | tail _ hq => cases hq⟩⟩, k⟩, PySem.W.mg_of X G a⟩
theorem dk2N_mk {x x1 x2 : Str} {st : Stmt} {f D : Addr} {oc : Value} {od an : Option Addr} {osl : Array (Option Value)} {doc pm cdv ct : Value} (X : K.In h) (G : h.Ns mainGlobals mg) (a : PySem.W.nsIn K mainGlobals x = some (some (.ref f)))
    (l : K.lookup f = some ⟨oc, od, .func (PySem.W.fnOf x x (C8.fnArgs st) (C8.fnBody st) (C8.fnScope st) .none (.ref D) doc pm an cdv ct), osl⟩) (c : PySem.W.codeIn K cdv x = true) (k : PySem.W.keepIn K (.ref f) = true)
    (g1 : PySem.W.nsIn K D x1 = some (some .none)) (g2 : PySem.W.nsIn K D x2 = some (some .none)) : DkD K mg x st [(x1, .non), (x2, .non)] :=
  ⟨f, _, ⟨⟨oc, od, _, _, doc, pm, an, cdv, ct, osl, rfl, l, c, .inl ⟨rfl, rfl⟩, .inr ⟨D, rfl, fun q hq => by
    cases hq with
    | head => exact ⟨_, g1, rfl⟩
    | tail _ hq => cases hq with
      | head => exact ⟨_, g2, rfl⟩
      | tail _ hq => cases hq⟩⟩, k⟩, PySem.W.mg_of X G a⟩
theorem inid2N_mk {C f D : Addr} {q x1 x2 : Str} {st : Stmt} {oc : Value} {od an : Option Addr} {osl : Array (Option Value)} {doc pm cdv ct : Value} (m : PySem.W.makesIn K C = true) (a : PySem.W.findIn K (.ref C) "__init__" = some (some (.ref f))) (i : PySem.W.isFn K (.ref f) = true) (kc : PySem.W.keepIn K (.ref C) = true)
    (l : K.lookup f = some ⟨oc, od, .func (PySem.W.fnOf "__init__" q (C8.fnArgs st) (C8.fnBody st) (C8.fnScope st) .none (.ref D) doc pm an cdv ct), osl⟩) (c : PySem.W.codeIn K cdv q = true) (k : PySem.W.keepIn K (.ref f) = true)
    (g1 : PySem.W.nsIn K D x1 = some (some .none)) (g2 : PySem.W.nsIn K D x2 = some (some .none)) : IniD K C q st [(x1, .non), (x2, .non)] :=
  ⟨f, _, ⟨m, a, i, kc⟩, ⟨oc, od, _, _, doc, pm, an, cdv, ct, osl, rfl, l, c, .inl ⟨rfl, rfl⟩, .inr ⟨D, rfl, fun q hq => by
    cases hq with
    | head => exact ⟨_, g1, rfl⟩
    | tail _ hq => cases hq with
      | head => exact ⟨_, g2, rfl⟩
      | tail _ hq => cases hq⟩⟩, k⟩
end
/-- a method with one default, an empty tuple -/
def MethE (K : PySem.W.Frag) (C : Addr) (m q : Str) (st : Stmt) : Prop := ∃ (f a : Addr) (fd : FuncData), Meth K C m f ∧ FunD K m q (C8.fnArgs st) (C8.fnBody st) (C8.fnScope st) [.ref a] [] f fd ∧ ∀ H, SqT K H a []
theorem methE_mk {K : PySem.W.Frag} {C f TT e : Addr} {m q : Str} {st : Stmt} {oc : Value} {od an : Option Addr} {osl : Array (Option Value)} {kV doc pm cdv ct : Value} {o1 : Value} {o2 : Option Addr} {o3 : Array (Option Value)} {n1 n2 : Nat} {p2 : Option Addr} {p3 : Array (Option Value)} (a : PySem.W.findIn K (.ref C) m = some (some (.ref f))) (i : PySem.W.isFn K (.ref f) = true)
    (l : K.lookup f = some ⟨oc, od, .func (PySem.W.fnOf m q (C8.fnArgs st) (C8.fnBody st) (C8.fnScope st) (.ref TT) kV doc pm an cdv ct), osl⟩) (c : PySem.W.codeIn K cdv q = true) (k : PySem.W.keepIn K (.ref f) = true)
    (lT : K.lookup TT = some ⟨o1, o2, .seq #[.ref e] n1, o3⟩) (le : K.lookup e = some ⟨.type "tuple", p2, .seq #[] n2, p3⟩) : MethE K C m q st :=
  ⟨f, e, _, ⟨a, i, k⟩, ⟨⟨oc, od, _, kV, doc, pm, an, cdv, ct, osl, rfl, l, c, .inr ⟨fun z => (nomatch z), TT, _, [.ref e], n1, rfl, lT, rfl, .cons rfl .nil⟩, .inl rfl⟩, k⟩, fun H => .inr ⟨_, #[], n2, le, rfl, rfl, Nat.zero_le _, .nil⟩⟩
end UF

set_option Elab.async false
set_option maxRecDepth 100000
set_option maxHeartbeats 4000000
/-! list(zip(xs, ys)): a new list of new pairs -/
namespace UF
open PySem PySem.Spec PyProof.Rows PyProof.V L2 PySem.Calls
/-- a zip between two turns -/
structure ZSt (z TI TO i1 i2 l1 l2 S : Addr) (xs ys : Array Value) (i : Nat) (h : Heap) : Prop where
  hTI : IsPair h TI (.ref i1) (.ref i2)
  h1 : h.IsListIter i1 l1 i
  h2 : h.IsListIter i2 l2 i
  hl1 : h.IsList l1 xs
  hl2 : h.IsList l2 ys
  hz : (IsZip h z TI TO .none ∧ ∃ a b, IsPair h TO a b) ∨ ∃ T f oT, IsZipHeld h z TI TO T f ∧ h.get? T = some oT ∧ T ≠ z ∧ T ≠ i1 ∧ T ≠ i2 ∧ T ≠ S
/-- where the list's address lies -/
structure ZOff (z TI TO i1 i2 l1 l2 S : Addr) : Prop where
  z : z < S
  TI : TI < S
  TO : TO < S
  i1 : i1 < S
  i2 : i2 < S
  l1 : l1 < S
  l2 : l2 < S
section
variable {z TI TO i1 i2 l1 l2 S : Addr} {xs ys : Array Value} {i : Nat} {h h' : Heap}
theorem ZSt.fr (s : ZSt z TI TO i1 i2 l1 l2 S xs ys i h) (o : ZOff z TI TO i1 i2 l1 l2 S) (k : ∀ b u, b ≠ S → h.get? b = some u → h'.get? b = some u) : ZSt z TI TO i1 i2 l1 l2 S xs ys i h' := by
  refine ⟨k _ _ (Nat.ne_of_lt o.TI) s.hTI, s.h1.at fun u e => k _ u (Nat.ne_of_lt o.i1) e, s.h2.at fun u e => k _ u (Nat.ne_of_lt o.i2) e, s.hl1.at fun u e => k _ u (Nat.ne_of_lt o.l1) e, s.hl2.at fun u e => k _ u (Nat.ne_of_lt o.l2) e, ?_⟩
  rcases s.hz with ⟨a, b, c, d⟩ | ⟨T, f, oT, a, b, r⟩
  · exact .inl ⟨k _ _ (Nat.ne_of_lt o.z) a, b, c, k _ _ (Nat.ne_of_lt o.TO) d⟩
  · exact .inr ⟨T, f, oT, k _ _ (Nat.ne_of_lt o.z) a, k _ _ r.2.2.2 b, r⟩
end
/-- all but the iterators' cells and the list stays -/
def ZKp (z TO i1 i2 S : Addr) (h h' : Heap) : Prop := ∀ b o, b ≠ S → b ≠ z → b ≠ TO → b ≠ i1 → b ≠ i2 → h.get? b = some o → h'.get? b = some o
/-- the pairs so far -/
structure ZPr (xs ys : Array Value) (S : Addr) (h : Heap) (as : List Addr) : Prop where
  up : as.Pairwise (· < ·)
  over : ∀ a ∈ as, S < a
  is : ∀ (j : Nat) (a : Addr), as[j]? = some a → ∃ x y, xs[j]? = some x ∧ ys[j]? = some y ∧ IsPair h a x y
abbrev LstO (acc : Array Value) (c : Nat) : Obj := { cls := .type "list", dict := none, data := .seq acc c, slots := #[] }
section
variable {prog : Program} {w : World} {A : Around} {s : Shared} {z TI TO i1 i2 l1 l2 S : Addr} {xs ys : Array Value}
theorem zl_item {i : Nat} {E : Value → Shared → Prop} {Q : Option Value → Shared → Prop} (D : ZipApart z TI TO i1 i2 l1 l2) (t : ZSt z TI TO i1 i2 l1 l2 S xs ys i s.heap) (hS : S < s.heap.objs.size) (hx : i < xs.size) (hy : i < ys.size)
    (q : ∀ h', ZSt z TI TO i1 i2 l1 l2 S xs ys (i + 1) h' → IsPair h' s.heap.objs.size xs[i] ys[i] → (∀ b o, b ≠ z → b ≠ TO → b ≠ i1 → b ≠ i2 → s.heap.get? b = some o → h'.get? b = some o) → Q (some (.ref s.heap.objs.size)) { s with heap := h' }) :
    wpAny (model prog w) A (pyNext (.ref z)) Q E s := by
  obtain ⟨hTI, h1, h2, hl1, hl2, hz⟩ := t
  have ex := Array.getElem?_eq_getElem hx
  have ey := Array.getElem?_eq_getElem hy
  have lt : ∀ {c : Addr} {o : Obj}, s.heap.get? c = some o → s.heap.objs.size ≠ c := fun e => Nat.ne_of_gt (Heap.lt_size e)
  have n1 : s.heap.objs.size ≠ i1 := by obtain ⟨_, e, _⟩ := h1; exact lt e
  have n2 : s.heap.objs.size ≠ i2 := by obtain ⟨_, e, _⟩ := h2; exact lt e
  rcases hz with ⟨hz, a, b, hTO⟩ | ⟨T, f, oT, hz, hT, r1, r2, r3, r4⟩
  · exact wpAny_pyNext_zip_item D hz hTI hTO h1 h2 hl1 hl2 ex ey fun h' a1 a2 a3 a4 a5 a6 hk => q h'
      ⟨hk _ _ D.TIz D.TITO D.TIi1 D.TIi2 hTI, a3, a4, hl1.at fun o e => hk _ o D.l1z D.l1TO D.l1i1 D.l1i2 e, hl2.at fun o e => hk _ o D.l2z D.l2TO D.l2i1 D.l2i2 e, .inr ⟨s.heap.objs.size, false, _, a1, a5, lt hz, n1, n2, Nat.ne_of_gt hS⟩⟩
      a5 fun b o b1 b2 b3 b4 e => hk b o b1 b2 b3 b4 e
  · exact wpAny_pyNext_zip_item_held D hz hT hTI h1 h2 hl1 hl2 ex ey fun h' a1 a3 a4 a5 a6 hk => q h'
      ⟨hk _ _ D.TIz D.TIi1 D.TIi2 hTI, a3, a4, hl1.at fun o e => hk _ o D.l1z D.l1i1 D.l1i2 e, hl2.at fun o e => hk _ o D.l2z D.l2i1 D.l2i2 e, .inr ⟨T, true, oT, a1, hk _ _ r1 r2 r3 hT, r1, r2, r3, r4⟩⟩
      a5 fun b o b1 _ b3 b4 e => hk b o b1 b3 b4 e
theorem zl_done {E : Value → Shared → Prop} {Q : Option Value → Shared → Prop} {i : Nat} (hh : A.handled = none) (D : ZipApart z TI TO i1 i2 l1 l2) (t : ZSt z TI TO i1 i2 l1 l2 S xs ys i s.heap) (hend : xs[i]? = none ∨ ys[i]? = none)
    (q : ∀ h', (∀ b o, b ≠ z → b ≠ TO → b ≠ i1 → b ≠ i2 → s.heap.get? b = some o → h'.get? b = some o) → Q none { s with heap := h' }) : wpAny (model prog w) A (pyNext (.ref z)) Q E s := by
  obtain ⟨hTI, h1, h2, hl1, hl2, hz⟩ := t
  rcases hz with ⟨hz, a, b, hTO⟩ | ⟨T, f, oT, hz, hT, r1, r2, r3, r4⟩
  · exact wpAny_pyNext_zip_end hh D hz hTI hTO h1 h2 hl1 hl2 hend fun h' hk => q h' fun b o b1 b2 b3 b4 e => hk b o b1 b2 b3 b4 e
  · exact wpAny_pyNext_zip_end_held hh D hz hT hTI h1 h2 hl1 hl2 hend fun h' hk => q h' fun b o b1 _ b3 b4 e => hk b o b1 b3 b4 e
theorem zl_loop {R : Result → Shared → Prop} {h₁ : Heap} (hh : A.handled = none) (D : ZipApart z TI TO i1 i2 l1 l2) (O : ZOff z TI TO i1 i2 l1 l2 S) (n : Nat) (en : n = min xs.size ys.size) (hn : n ≤ sizeLine) (res : Value)
    (hR : ∀ h' tk acc c as, ZKp z TO i1 i2 S h₁ h' → h'.get? S = some (LstO acc c) → as.length = n → ZPr xs ys S h' as → acc.toList = as.map Value.ref → R (.ok (.ret res)) { s with heap := h', toks := tk }) :
    ∀ (k i : Nat) (h : Heap) (tk c : Nat) (acc : Array Value) (as : List Addr), n - i = k → i ≤ n → ZSt z TI TO i1 i2 l1 l2 S xs ys i h → ZKp z TO i1 i2 S h₁ h → h.get? S = some (LstO acc c) → acc.toList = as.map Value.ref → as.length = i → ZPr xs ys S h as →
      codeAny (model prog w) A (.builtin "list.extend.loop" ⟨[.ref S, .ref z, res], []⟩) R { s with heap := h, toks := tk } := by
  have ab : ∀ {a : Addr}, S < a → a ≠ S ∧ a ≠ z ∧ a ≠ TO ∧ a ≠ i1 ∧ a ≠ i2 := fun {a} g =>
    ⟨Nat.ne_of_gt g, Nat.ne_of_gt (Nat.lt_trans O.z g), Nat.ne_of_gt (Nat.lt_trans O.TO g), Nat.ne_of_gt (Nat.lt_trans O.i1 g), Nat.ne_of_gt (Nat.lt_trans O.i2 g)⟩
  intro k
  induction k with
  | zero =>
    intro i h tk c acc as hk hi st kp hS ha hl hp
    have ei : i = n := by omega
    refine codeAny_builtin PySem.F.entry_extend_loop ?_; rw [Around.under_plainId PySem.F.plain_extend_loop _]
    show wpAny _ A.in1 (pyNext (.ref z) >>= _) _ _ _
    have he : xs[i]? = none ∨ ys[i]? = none := by
      rcases Nat.le_total xs.size ys.size with q | q
      · exact .inl (Array.getElem?_eq_none (by omega))
      · exact .inr (Array.getElem?_eq_none (by omega))
    refine wpAny_bind (zl_done (s := { s with heap := h, toks := tk }) (A := A.in1) hh D st he fun h' hk' => ?_)
    have nS : S ≠ z ∧ S ≠ TO ∧ S ≠ i1 ∧ S ≠ i2 := ⟨Nat.ne_of_gt O.z, Nat.ne_of_gt O.TO, Nat.ne_of_gt O.i1, Nat.ne_of_gt O.i2⟩
    refine wpAny_pure (hR h' tk acc c as (fun b o b0 b1 b2 b3 b4 e => hk' b o b1 b2 b3 b4 (kp b o b0 b1 b2 b3 b4 e)) (hk' S _ nS.1 nS.2.1 nS.2.2.1 nS.2.2.2 hS) (by omega) ⟨hp.up, hp.over, fun j a hj => ?_⟩ ha)
    obtain ⟨x, y, ex, ey, p⟩ := hp.is j a hj
    obtain ⟨m0, m1, m2, m3, m4⟩ := ab (hp.over a (List.mem_of_getElem? hj))
    exact ⟨x, y, ex, ey, hk' a _ m1 m2 m3 m4 p⟩
  | succ k ih =>
    intro i h tk c acc as hk hi st kp hS ha hl hp
    have hx : i < xs.size := by omega
    have hy : i < ys.size := by omega
    have hsz : acc.size = i := by rw [← Array.length_toList, ha, List.length_map, hl]
    have hSl : S < h.objs.size := Heap.lt_size hS
    refine codeAny_builtin PySem.F.entry_extend_loop ?_; rw [Around.under_plainId PySem.F.plain_extend_loop _]
    show wpAny _ A.in1 (pyNext (.ref z) >>= _) _ _ _
    refine wpAny_bind (zl_item (s := { s with heap := h, toks := tk }) D st hSl hx hy fun h' st' hp' hk' => ?_)
    dsimp only at hp' hk' ⊢
    have hS' := hk' S _ (Nat.ne_of_gt O.z) (Nat.ne_of_gt O.TO) (Nat.ne_of_gt O.i1) (Nat.ne_of_gt O.i2) hS
    have up : ∀ b o, b ≠ S → h'.get? b = some o → (h'.update S (Obj.mapSeq (·.push (Value.ref h.objs.size)))).get? b = some o := fun b o nb e => (Heap.get?_update_other _ _ (Ne.symm nb)).trans e
    show wpAny _ A.in1 (updateSeq S (·.push (Value.ref h.objs.size)) >>= _) _ _ _
    refine wpAny_bind ?_
    refine wpAny_updateSeq hS' rfl (wpAny_pure ⟨plainId_quiet PySem.F.plain_extend_loop _, ih (i + 1) _ tk _ (acc.push (Value.ref h.objs.size)) (as ++ [h.objs.size]) (by omega) (by omega) (st'.fr O up)
      (fun b o b0 b1 b2 b3 b4 e => up b o b0 (hk' b o b1 b2 b3 b4 (kp b o b0 b1 b2 b3 b4 e))) (Heap.get?_update_self _ hS' rfl) (by rw [Array.toList_push, ha, List.map_append]; rfl) (by rw [List.length_append, hl]; rfl) ⟨?_, ?_, ?_⟩⟩) (by rw [hsz]; omega) (by show (acc.push (Value.ref h.objs.size)).size ≤ sizeLine + 1; rw [Array.size_push, hsz]; omega)
    · refine List.pairwise_append.mpr ⟨hp.up, List.pairwise_singleton _ _, fun a ma b mb => ?_⟩
      rw [List.mem_singleton.mp mb]
      obtain ⟨j, hj⟩ := List.mem_iff_getElem?.mp ma
      obtain ⟨_, _, _, _, p⟩ := hp.is j a hj
      exact Heap.lt_size p
    · intro a ma
      rcases List.mem_append.mp ma with ma | ma
      · exact hp.over a ma
      · rw [List.mem_singleton.mp ma]; exact hSl
    · intro j b hj
      rcases Nat.lt_trichotomy j as.length with q | q | q
      · rw [List.getElem?_append_left q] at hj
        obtain ⟨x, y, ex, ey, p⟩ := hp.is j b hj
        obtain ⟨m0, m1, m2, m3, m4⟩ := ab (hp.over b (List.mem_of_getElem? hj))
        exact ⟨x, y, ex, ey, up b _ m0 (hk' b _ m1 m2 m3 m4 p)⟩
      · have hb : h.objs.size = b := by subst q; simpa using hj
        have ej : j = i := by omega
        subst ej
        subst hb
        exact ⟨_, _, Array.getElem?_eq_getElem hx, Array.getElem?_eq_getElem hy, up _ _ (Nat.ne_of_gt hSl) hp'⟩
      · have e0 : (as ++ [h.objs.size])[j]? = none := List.getElem?_eq_none (by rw [List.length_append, List.length_singleton]; omega)
        rw [e0] at hj; cases hj
end
section
variable {prog : Program} {w : World} {A : Around} {s : Shared} {z TI TO i1 i2 l1 l2 S : Addr} {xs ys : Array Value}
theorem z_len : typeLookup (.type "zip") "__len__" = pure none := am_miss_of_fast (by decide +kernel)
theorem z_lh : typeLookup (.type "zip") "__length_hint__" = pure none := am_miss_of_fast (by decide +kernel)
theorem zip_room {E : Value → Shared → Prop} {Q : Bool → Shared → Prop} (hT : s.TypeIs (.ref z) "zip") (h : Q true s) : wpAny (model prog w) A (Builtin.List.listLengthHint (.ref z)) Q E s := by
  unfold Builtin.List.listLengthHint
  refine wpAny_bind (wpAny_specialOf hT z_len ?_)
  refine wpAny_ite_split (fun hab => absurd hab (by decide)) (fun _ => ?_)
  refine wpAny_ite_split (fun hab => absurd hab (by decide)) (fun _ => ?_)
  exact wpAny_bind (wpAny_specialOf hT z_lh (wpAny_pure h))
theorem zl_extend {R : Result → Shared → Prop} (hh : A.handled = none) (D : ZipApart z TI TO i1 i2 l1 l2) (O : ZOff z TI TO i1 i2 l1 l2 S) (st : ZSt z TI TO i1 i2 l1 l2 S xs ys 0 s.heap) (hz : IsZip s.heap z TI TO .none) (n : Nat) (en : n = min xs.size ys.size) (hn : n ≤ sizeLine) (res : Value) (c₀ : Nat)
    (hS : s.heap.get? S = some (LstO #[] c₀)) (hR : ∀ h' tk acc c as, ZKp z TO i1 i2 S s.heap h' → h'.get? S = some (LstO acc c) → as.length = n → ZPr xs ys S h' as → acc.toList = as.map Value.ref → R (.ok (.ret res)) { s with heap := h', toks := tk }) :
    wpAny (model prog w) A.in1 (Builtin.List.listExtendWith (.ref S) (.ref z) res) (fun fin s' => match fin with | .done f => R (.ok f) s' | .again c' => c'.quiet = true ∧ codeAny (model prog w) A c' R s') (fun e s' => R (.error e) s') s := by
  have nSz : S ≠ z := Nat.ne_of_gt O.z
  have hT : s.TypeIs (.ref z) "zip" := ⟨_, hz, rfl⟩
  have t1 : Builtin.List.listSameRef (.ref S) (.ref z) = false := by simp [Builtin.List.listSameRef, nSz]
  have t2 : (Value.type "zip" == Value.type "list") = false := by decide
  have t3 : (Value.type "zip" == Value.type "tuple") = false := by decide
  have key : ∀ (h : Heap) (c₁ tk : Nat), (∀ b o, b ≠ S → s.heap.get? b = some o → h.get? b = some o) → h.get? S = some (LstO #[] c₁) → codeAny (model prog w) A (.builtin "list.extend.loop" ⟨[.ref S, .ref z, res], []⟩) R { s with heap := h, toks := tk } := fun h c₁ tk hk hS₁ =>
    zl_loop (h₁ := s.heap) hh D O n en hn res (fun h' tk acc c as a1 a2 a3 a4 a5 => hR h' tk acc c as a1 a2 a3 a4 a5) n 0 h tk c₁ #[] [] rfl (Nat.zero_le _) (st.fr O hk) (fun b o b0 _ _ _ _ e => hk b o b0 e) hS₁ rfl rfl ⟨.nil, (fun _ m => nomatch m), fun j a e => by simp at e⟩
  unfold Builtin.List.listExtendWith
  refine wpAny_bind (wpAny_typeOf (T := "zip") hT ?_)
  simp only [t1, t2, t3, Bool.or_false, Bool.false_eq_true, if_false]
  refine wpAny_bind (wpAny_pyIter_zip hz (wpAny_bind (wpAny_holding (zip_room hT ?_))))
  refine wpAny_ite_split (fun _ => ?_) (fun hab => (hab (by simp)).elim)
  refine wpAny_bind (wpAny_rule (wpAny_bind ?_))
  show wpAny _ _ (updateSeq S (·.push .none) >>= fun _ => updateSeq S (·.pop)) _ _ _
  refine wpAny_bind (wpAny_updateSeq hS rfl ?_); have hS₂ := Heap.get?_update_self (Obj.mapSeq (·.push Value.none)) hS rfl
  refine wpAny_updateSeq (hz := by seq_fits) hS₂ rfl ?_; have hS₃ := Heap.get?_update_self (Obj.mapSeq (·.pop)) hS₂ rfl
  refine wpAny_pure ⟨plainId_quiet PySem.F.plain_extend_loop _, key _ _ _ (fun b o hb e => (Heap.get?_update_other _ _ (Ne.symm hb)).trans ((Heap.get?_update_other _ _ (Ne.symm hb)).trans e)) hS₃⟩
theorem zl_call {Q : Value → Shared → Prop} {E : Value → Shared → Prop} (hh : A.handled = none) (D : ZipApart z TI TO i1 i2 l1 l2) (O : ZOff z TI TO i1 i2 l1 l2 s.heap.objs.size) (st : ZSt z TI TO i1 i2 l1 l2 s.heap.objs.size xs ys 0 s.heap) (hz : IsZip s.heap z TI TO .none) (n : Nat) (en : n = min xs.size ys.size) (hn : n ≤ sizeLine)
    (hQ : ∀ h' tk acc c as, ZKp z TO i1 i2 s.heap.objs.size s.heap h' → h'.get? s.heap.objs.size = some (LstO acc c) → as.length = n → ZPr xs ys s.heap.objs.size h' as → acc.toList = as.map Value.ref → Q (.ref s.heap.objs.size) { s with heap := h', toks := tk }) :
    wpAny (model prog w) A (call (.type "list") [.ref z]) Q E s := by
  have psh : ∀ (o : Obj) b u, s.heap.get? b = some u → (s.heap.push o).get? b = some u := fun o b u e => Heap.get?_push_of_some _ e
  refine callType_codes PySem.F.called_list (PySem.F.typeCall_list_1 _) PySem.F.entry_list_init (Q₁ := fun obj s₁ => obj = .ref s.heap.objs.size ∧ s₁ = { s with heap := s.heap.push { cls := .type "list", data := .seq #[] } })
    (code_list_new _ ⟨rfl, rfl⟩) fun obj s₁ h₁ => ?_
  obtain ⟨e1, e2⟩ := h₁; subst e1; subst e2
  have hS : (s.heap.push { cls := .type "list", data := .seq #[] }).get? s.heap.objs.size = some (LstO #[] 0) := Heap.get?_push_size _ rfl
  refine ⟨⟨_, hS, rfl⟩, PySem.F.args_list_init_2 _ _, ?_⟩
  show wpAny _ _ (do let old ← Builtin.List.listItems (.ref s.heap.objs.size); Builtin.List.listUpdate (.ref s.heap.objs.size) (fun _ => #[]); letGo old.toList.reverse; Builtin.List.listExtendWith (.ref s.heap.objs.size) (.ref z) .none) _ _ _
  refine wpAny_bind ?_
  unfold Builtin.List.listItems
  refine wpAny_bind (wpAny_seqItems hS rfl (wpAny_pure ?_))
  show wpAny _ _ (updateSeq s.heap.objs.size (fun _ => #[]) >>= fun _ => letGo (#[] : Array Value).toList.reverse >>= fun _ => Builtin.List.listExtendWith (.ref s.heap.objs.size) (.ref z) .none) _ _ _
  refine wpAny_bind (wpAny_updateSeq hS rfl ?_)
  have hS₂ := Heap.get?_update_self (Obj.mapSeq (fun _ => (#[] : Array Value))) hS rfl
  have oth : ∀ b o, b ≠ s.heap.objs.size → s.heap.get? b = some o → ((s.heap.push { cls := .type "list", data := .seq #[] }).update s.heap.objs.size (Obj.mapSeq (fun _ => (#[] : Array Value)))).get? b = some o := fun b o hb e => (Heap.get?_update_other _ _ (Ne.symm hb)).trans (psh _ b o e)
  refine wpAny_bind (wpAny_letGo ?_)
  refine zl_extend (A := A.in1) hh D O (st.fr O oth) (oth z _ (Nat.ne_of_lt O.z) hz) n en hn .none _ hS₂ fun h' tk acc c as hk hS' hl hG ha => ⟨rfl, hQ h' tk acc c as (fun b o b0 b1 b2 b3 b4 e => hk b o b0 b1 b2 b3 b4 (oth b o b0 e)) hS' hl hG ha⟩
end
/-- the new pairs laid into the tracked heap -/
def layT : List (Addr × V × V) → Hp → Hp
  | [], H => H
  | p :: r, H => L2.upd (layT r H) p.1 (.tup [p.2.1, p.2.2])
theorem layT_old {H : Hp} {c : Addr} : ∀ {l : List (Addr × V × V)}, (∀ p ∈ l, p.1 ≠ c) → layT l H c = H c
  | [], _ => rfl
  | p :: r, h => by
    show L2.upd (layT r H) p.1 _ c = _
    rw [upd_ne (Ne.symm (h p (.head _)))]
    exact layT_old fun q m => h q (.tail _ m)
theorem layT_new {H : Hp} {t : Addr} {x y : V} : ∀ {l : List (Addr × V × V)}, (l.map (·.1)).Nodup → (t, x, y) ∈ l → layT l H t = some (.tup [x, y])
  | p :: r, nd, m => by
    have nd' := List.nodup_cons.mp nd
    show L2.upd (layT r H) p.1 _ t = _
    rcases List.mem_cons.mp m with e | m
    · subst e
      exact upd_same
    · have ne : t ≠ p.1 := fun e => nd'.1 (List.mem_map.mpr ⟨_, m, e⟩)
      rw [upd_ne ne]
      exact layT_new nd'.2 m
theorem layT_inv {H : Hp} {c : Addr} {o : HO} : ∀ {l : List (Addr × V × V)}, layT l H c = some o → (∃ x y, (c, x, y) ∈ l ∧ o = .tup [x, y]) ∨ H c = some o
  | [], h => .inr h
  | p :: r, h => by
    by_cases e : c = p.1
    · have h' : L2.upd (layT r H) p.1 (.tup [p.2.1, p.2.2]) c = some o := h
      rw [e, upd_same] at h'
      exact .inl ⟨p.2.1, p.2.2, by rw [e]; exact .head _, (Option.some.inj h').symm⟩
    · have h' : L2.upd (layT r H) p.1 (.tup [p.2.1, p.2.2]) c = some o := h
      rw [upd_ne e] at h'
      rcases layT_inv h' with ⟨x, y, m, z⟩ | z
      · exact .inl ⟨x, y, .tail _ m, z⟩
      · exact .inr z
theorem Fr.exts {ds : List Addr} {H H' : Hp} (e : ∀ c o, H c = some o → H' c = some o) : Fr ds H H' := ⟨⟨fun a o h _ _ => e a o h, fun a n o h => n o (e a o h)⟩, fun T hT => hT.ext fun c u h => e c u h⟩
/-- list(zip(e, e2)) -/
def tLZ (K : PySem.W.Frag) (ta : TA) : TE := fun σ H Q => ta σ H fun vs H1 => ∃ a b xs ys, vs = [.ref a, .ref b] ∧ SqL K H1 a xs ∧ SqL K H1 b ys ∧ ∀ (l : Addr) (ts : List Addr) (H2 : Hp), Fr [] H1 H2 → H1 l = none → H2 l = some (.lst (ts.map V.ref)) → ts.length = min xs.length ys.length →
  (∀ (j : Nat) (t : Addr), ts[j]? = some t → ∃ x y, xs[j]? = some x ∧ ys[j]? = some y ∧ H1 t = none ∧ H2 t = some (.tup [x, y])) → Q (.ref l) H2
theorem ne_plus {c n : Nat} (h : c < n) (k : Nat) : c ≠ n + k := by omega
theorem le_of5 {c n m : Nat} (h : m ≤ c) (e : m = n + 5) : n ≤ c := by omega
theorem vals_ref : ∀ as : List Addr, Vals (as.map V.ref) (as.map Value.ref)
  | [] => .nil
  | _ :: as => .cons rfl (vals_ref as)
theorem vals_at {xs : List V} {us : List Value} (r : Vals xs us) : ∀ {j : Nat} {u : Value}, us[j]? = some u → ∃ x, xs[j]? = some x ∧ RelV x u := by
  induction r with
  | nil => intro j u h; simp at h
  | cons h t ih =>
    intro j u e
    cases j with
    | zero => cases e; exact ⟨_, rfl, h⟩
    | succ j => exact ih e
theorem pe_listZip {X : Cx} {e e2 : Expr} {ta : TA} {p p2 pos pos2 : Pos} (hc : X.calm = true) (gl : Gl X "list") (ml : X.mg "list" = none) (gz : Gl X "zip") (mz : X.mg "zip" = none) (ha : PA X [e, e2] ta)
    (hs : starEach [e, e2] X.env = (false, eval e X.env) :: starEach [e2] X.env := by rfl) (hpl : (backTo pos2 (starEach [e2] X.env)).any (·.1) = false := by rfl)
    (na : starEach [.Call (.Name "zip" p2) [e, e2] [] pos2] X.env = (false, eval (.Call (.Name "zip" p2) [e, e2] [] pos2) X.env) :: starEach [] X.env := by rfl) :
    PE X (.Call (.Name "list" p) [.Call (.Name "zip" p2) [e, e2] [] pos2] [] pos) (tLZ X.K ta) := by
  refine ⟨fun pins s σ H Q I h => ?_⟩
  refine Call_ (ld_blt I gl ml boot_list (PyProof.Rows.callWith_type1 (args_cons (Call_ (ld_blt I gz mz PyProof.Rows.boot_zip (PyProof.Rows.callWith_type1 (thn (ha.run pos2 pins s σ H _ I h) fun us s1 ⟨vs, H1, I1, r1, q1⟩ => ?_) hs hpl))) na) na))
  obtain ⟨a, b, xs, ys, ex, hqx, hqy, q⟩ := q1; subst ex
  cases r1 with
  | cons r rr => cases rr with
    | cons r' rr =>
      cases rr; cases r; cases r'
      obtain ⟨its, rv, p1, z1⟩ := I1.list hqx
      obtain ⟨its2, rv2, pp2, z2⟩ := I1.list hqy
      have la : a < s1.heap.objs.size := p1.lt
      have lb : b < s1.heap.objs.size := pp2.lt
      refine call_zip_2 p1.isList pp2.isList fun h' hz hTI hTO h1 h2 hsz hk => args_nil ?_
      have hl1 := p1.isList.at fun o e => hk _ o e
      have hl2 := pp2.isList.at fun o e => hk _ o e
      have ll := rv.length
      have ll2 := rv2.length
      have D := PySem.W.ktu_apart s1.heap.objs.size a b la lb
      have O : ZOff (s1.heap.objs.size + 4) (s1.heap.objs.size + 2) (s1.heap.objs.size + 3) s1.heap.objs.size (s1.heap.objs.size + 1) a b h'.objs.size := by
        rw [hsz]
        have f : ∀ n a : Nat, a < n → a < n + 5 := fun n a h => by omega
        have g : ∀ n i : Nat, i < 5 → n + i < n + 5 := fun n i h => by omega
        exact ⟨g _ 4 (by decide), g _ 2 (by decide), g _ 3 (by decide), g _ 0 (by decide), g _ 1 (by decide), f _ _ la, f _ _ lb⟩
      refine zl_call (s := { s1 with heap := h' }) (I1.ok.hd hc) D O ⟨hTI, h1, h2, hl1, hl2, .inl ⟨hz, _, _, hTO⟩⟩ hz (min xs.length ys.length) (by simp only [List.size_toArray]; omega) (by omega) fun h2' tk acc c as kp hS hl hG hacc => ?_
      have old : ∀ c o, s1.heap.get? c = some o → h2'.get? c = some o := fun c o e => by
        have lc : c < s1.heap.objs.size := Heap.lt_size e
        have f : ∀ k : Nat, c ≠ s1.heap.objs.size + k := ne_plus lc
        exact kp c o (by rw [hsz]; exact f 5) (f 4) (f 3) (f 0) (f 1) (hk c o e)
      have new : ∀ c : Addr, h'.objs.size ≤ c → s1.heap.objs.size ≤ c := fun c g => by
        exact le_of5 g hsz
      have nH : ∀ c : Addr, h'.objs.size ≤ c → H1 c = none := fun c g => I1.hok.fresh (new c g)
      have nas : ∀ c ∈ as, H1 c = none := fun c m => nH c (Nat.le_of_lt (hG.over c m))
      have lz : (xs.zip ys).length = as.length := by rw [List.length_zip, hl]
      have e1 : (as.zip (xs.zip ys)).map (·.1) = as := List.map_fst_zip (by omega)
      have nd : ((as.zip (xs.zip ys)).map (·.1)).Nodup := by
        rw [e1]
        exact hG.up.imp fun {a b} g => Nat.ne_of_lt g
      have memA : ∀ t x y, (t, x, y) ∈ as.zip (xs.zip ys) → t ∈ as ∧ ∃ j : Nat, as[j]? = some t ∧ xs[j]? = some x ∧ ys[j]? = some y := fun t x y m => by
        obtain ⟨j, hj⟩ := List.mem_iff_getElem?.mp m
        obtain ⟨q1, q2⟩ := List.getElem?_zip_eq_some.mp hj
        obtain ⟨q2, q3⟩ := List.getElem?_zip_eq_some.mp q2
        exact ⟨List.mem_of_getElem? q1, j, q1, q2, q3⟩
      have oldH : ∀ c o, H1 c = some o → L2.upd (layT (as.zip (xs.zip ys)) H1) h'.objs.size (.lst (as.map V.ref)) c = some o := fun c o e => by
        rw [upd_ne (ne_of_none e (nH _ (Nat.le_refl _))), layT_old fun p m z => ?_]
        · exact e
        · obtain ⟨t, x, y⟩ := p
          have := nas t (memA t x y m).1
          rw [show t = c from z, e] at this
          cases this
      have freeH : ∀ c o, s1.heap.get? c = some o → H1 c = none → L2.upd (layT (as.zip (xs.zip ys)) H1) h'.objs.size (.lst (as.map V.ref)) c = none := fun c o e n => by
        have lc : c < s1.heap.objs.size := Heap.lt_size e
        rw [upd_ne (fun z => Nat.lt_irrefl _ (Nat.lt_of_lt_of_le lc (new c (by rw [z]; exact Nat.le_refl _)))), layT_old fun p m z => ?_]
        · exact n
        · obtain ⟨t, x, y⟩ := p
          have g := hG.over t (memA t x y m).1
          rw [show t = c from z] at g
          exact Nat.lt_irrefl _ (Nat.lt_of_lt_of_le lc (new c (Nat.le_of_lt g)))
      have tupV : ∀ (j : Nat) (t : Addr), as[j]? = some t → ∃ x y, xs[j]? = some x ∧ ys[j]? = some y ∧ (t, x, y) ∈ as.zip (xs.zip ys) ∧ ∃ u v, RelV x u ∧ RelV y v ∧ IsPair h2' t u v := fun j t ej => by
        obtain ⟨u, v, eu, ev, pr⟩ := hG.is j t ej
        rw [List.getElem?_toArray] at eu ev
        obtain ⟨x, ex, rx⟩ := vals_at rv eu
        obtain ⟨y, ey, ry⟩ := vals_at rv2 ev
        exact ⟨x, y, ex, ey, List.mem_of_getElem? (i := j) (List.getElem?_zip_eq_some.mpr ⟨ej, List.getElem?_zip_eq_some.mpr ⟨ex, ey⟩⟩), u, v, rx, ry, pr⟩
      have u : Un X.fs [] H1 (L2.upd (layT (as.zip (xs.zip ys)) H1) h'.objs.size (.lst (as.map V.ref))) s1.heap h2' :=
        { keep := fun b o e _ _ _ => old b o e
          slot := fun b o e _ _ _ => ⟨o.slots, old b o e⟩
          free := fun b o e n _ => freeH b o e n
          there := fun b o e _ => ⟨o, old b o e⟩
          tups := fun b xs e => oldH b _ e
          frzs := fun b o u e => oldH b _ e
          tbls := fun b ps e => ⟨#[], by rw [oldH b _ e]; simp⟩ }
      have ok : HOk X.prog X.w (L2.upd (layT (as.zip (xs.zip ys)) H1) h'.objs.size (.lst (as.map V.ref))) h2' := fun c o e => by
        by_cases ec : c = h'.objs.size
        · subst ec
          rw [upd_same] at e
          cases e
          exact ⟨by rw [List.length_map]; omega, as.map Value.ref, _, vals_ref as, by rw [← hacc, Array.toArray_toList]; exact hS⟩
        · rw [upd_ne ec] at e
          rcases layT_inv e with ⟨x, y, m, rfl⟩ | e0
          · obtain ⟨_, j, ej, _, _⟩ := memA c x y m
            obtain ⟨x', y', _, _, m', u, v, ru, rw', pr⟩ := tupV j c ej
            have e' := layT_new (H := H1) nd m'
            rw [layT_new (H := H1) nd m] at e'
            cases e'
            exact ⟨by show 2 ≤ sizeLine; decide, [u, v], .cons ru (.cons rw' .nil), _, pr, rfl, _, rfl⟩
          · exact (I1.hok c o e0).stay (fun b u _ e => old b u e) (fun b e => oldH b _ e) fun b xs e => oldH b _ e
      have J := I1.un (t' := tk) u ok
      refine ⟨.ref h'.objs.size, _, J, rfl, q _ as _ (Fr.exts oldH) (nH _ (Nat.le_refl _)) upd_same hl fun j t ej => ?_⟩
      obtain ⟨x, y, ex, ey, m, _⟩ := tupV j t ej
      have mt := List.mem_of_getElem? ej
      exact ⟨x, y, ex, ey, nas t mt, by rw [upd_ne (Nat.ne_of_gt (hG.over t mt))]; exact layT_new nd m⟩
end UF

set_option Elab.async false
set_option maxRecDepth 100000
set_option maxHeartbeats 4000000
/-! seats of a ring, walks around it: mathematics -/
namespace UF
open PySem PySem.Spec PyProof.Rows L2

/-- the seats met on a walk of n steps that begins at s -/
def walkL (r s : Int) (n : Nat) (ns : List Int) : List Int := ((List.range n).map fun k => (s + ((k : Nat) : Int)) % r).filter fun x => decide (x ∈ ns)
theorem walkL_succ (r s : Int) (n : Nat) (ns : List Int) : walkL r s (n + 1) ns = if (s + (n : Int)) % r ∈ ns then walkL r s n ns ++ [(s + (n : Int)) % r] else walkL r s n ns := by
  unfold walkL
  rw [List.range_succ, List.map_append, List.filter_append]
  by_cases h : (s + (n : Int)) % r ∈ ns
  · rw [if_pos h]
    simp [h]
  · rw [if_neg h]
    simp [h]
/-- two rising lists with the same members are one -/
theorem rising_ext : ∀ {xs ys : List Int}, xs.Pairwise (· < ·) → ys.Pairwise (· < ·) → (∀ z, z ∈ xs ↔ z ∈ ys) → xs = ys
  | [], [], _, _, _ => rfl
  | [], y :: ys, _, _, h => absurd ((h y).mpr (.head _)) (by simp)
  | x :: xs, [], _, _, h => absurd ((h x).mp (.head _)) (by simp)
  | x :: xs, y :: ys, hx, hy, h => by
    have hx' := List.pairwise_cons.mp hx
    have hy' := List.pairwise_cons.mp hy
    have e : x = y := by
      have h1 := (h x).mp (.head _)
      have h2 := (h y).mpr (.head _)
      rcases List.mem_cons.mp h1 with e | m1
      · exact e
      · rcases List.mem_cons.mp h2 with e | m2
        · exact e.symm
        · have := hx'.1 y m2
          have := hy'.1 x m1
          omega
    subst e
    refine congrArg (List.cons x) (rising_ext hx'.2 hy'.2 fun z => ?_)
    constructor
    · intro m
      have l := hx'.1 z m
      rcases List.mem_cons.mp ((h z).mp (.tail _ m)) with e | m2
      · omega
      · exact m2
    · intro m
      have l := hy'.1 z m
      rcases List.mem_cons.mp ((h z).mpr (.tail _ m)) with e | m2
      · omega
      · exact m2
theorem emod_lt' {r : Int} (h : 0 < r) (a : Int) : a % r < r := Int.emod_lt_of_pos _ h
theorem emod_nn {r : Int} (h : 0 < r) (a : Int) : 0 ≤ a % r := Int.emod_nonneg _ (by omega)
/-- a seat is met again at its distance -/
theorem back {r s x : Int} (h0 : 0 ≤ x) (h1 : x < r) : (s + (x - s) % r) % r = x := by
  rw [Int.add_emod, Int.emod_emod, ← Int.add_emod, show s + (x - s) = x by omega]
  exact Int.emod_eq_of_lt h0 h1
theorem forth {r s k : Int} (h0 : 0 ≤ k) (h1 : k < r) : ((s + k) % r - s) % r = k := by
  rw [Int.sub_emod, Int.emod_emod, ← Int.sub_emod, show s + k - s = k by omega]
  exact Int.emod_eq_of_lt h0 h1
/-- the sorted distances up to span, as the walk tells them -/
theorem steps_walk {r s : Int} {ns st : List Int} {n : Nat} (hr : 0 < r) (hn : (n : Int) ≤ r) (h0 : ∀ x ∈ ns, 0 ≤ x) (h1 : ∀ x ∈ ns, x < r) (nd : ns.Nodup) (pm : st.Perm (ns.map fun x => (x - s) % r)) (so : st.Pairwise (· ≤ ·)) :
    (st.filter fun k => decide (k < (n : Int))).map (fun k => (s + k) % r) = walkL r s n ns := by
  have mem : ∀ k, k ∈ st ↔ ∃ x ∈ ns, (x - s) % r = k := fun k => by
    rw [pm.mem_iff, List.mem_map]
  have inj : (ns.map fun x => (x - s) % r).Nodup := by
    unfold List.Nodup
    rw [List.pairwise_map]
    refine List.Pairwise.imp_of_mem (fun {a b} ha hb hab e => hab ?_) nd
    rw [← back (s := s) (h0 a ha) (h1 a ha), ← back (s := s) (h0 b hb) (h1 b hb), e]
  have up : st.Pairwise (· < ·) := by
    have z := so.and (pm.nodup_iff.mpr inj)
    exact z.imp fun {a b} h => by
      have h1 := h.1
      have h2 := h.2
      omega
  have e : (st.filter fun k => decide (k < (n : Int))) = ((List.range n).filter fun k => decide ((s + ((k : Nat) : Int)) % r ∈ ns)).map fun k => ((k : Nat) : Int) := by
    refine rising_ext (up.filter _) (List.Pairwise.map _ (fun a b h => by omega) (List.pairwise_lt_range.filter _)) fun z => ?_
    rw [List.mem_filter, mem, List.mem_map]
    constructor
    · rintro ⟨⟨x, hx, rfl⟩, hz⟩
      have hz := of_decide_eq_true hz
      have p0 := emod_nn hr (x - s)
      refine ⟨((x - s) % r).toNat, List.mem_filter.mpr ⟨List.mem_range.mpr (by omega), decide_eq_true ?_⟩, by omega⟩
      rw [Int.toNat_of_nonneg p0, back (h0 x hx) (h1 x hx)]
      exact hx
    · rintro ⟨k, hk, rfl⟩
      obtain ⟨k1, k2⟩ := List.mem_filter.mp hk
      have k1 := List.mem_range.mp k1
      refine ⟨⟨_, of_decide_eq_true k2, forth (by omega) (by omega)⟩, decide_eq_true (by omega)⟩
  rw [e, List.map_map]
  unfold walkL
  rw [List.filter_map]
  rfl
theorem walkL_nil (r s : Int) (n : Nat) : walkL r s n [] = [] := by
  unfold walkL
  rw [List.filter_eq_nil_iff]
  intro a _
  simp
/-- the first seat of the walk is the one of the least distance -/
theorem walk_first {r s m : Int} {ns : List Int} (hr : 0 < r) (h0 : ∀ x ∈ ns, 0 ≤ x) (h1 : ∀ x ∈ ns, x < r) (hm : m ∈ ns) (best : ∀ x ∈ ns, (m - s) % r ≤ (x - s) % r) : ∃ rest, walkL r s r.toNat ns = m :: rest := by
  have p0 := emod_nn hr (m - s)
  have p1 := emod_lt' hr (m - s)
  obtain ⟨t, ht⟩ : ∃ t, r.toNat = ((m - s) % r).toNat + (t + 1) := ⟨r.toNat - ((m - s) % r).toNat - 1, by omega⟩
  have bk := back (s := s) (h0 m hm) (h1 m hm)
  unfold walkL
  rw [ht, List.range_add, List.map_append, List.filter_append]
  have e1 : ((List.range ((m - s) % r).toNat).map fun k => (s + ((k : Nat) : Int)) % r).filter (fun x => decide (x ∈ ns)) = [] := by
    rw [List.filter_eq_nil_iff]
    intro x hx hd
    obtain ⟨k, hk, rfl⟩ := List.mem_map.mp hx
    have hk := List.mem_range.mp hk
    have b := best _ (of_decide_eq_true hd)
    rw [forth (by omega) (by omega)] at b
    omega
  rw [e1, List.nil_append, List.range_succ_eq_map, List.map_cons, List.map_cons, List.filter_cons]
  have e2 : (s + (((((m - s) % r).toNat + 0 : Nat)) : Int)) % r = m := by
    rw [show ((((m - s) % r).toNat + 0 : Nat) : Int) = (m - s) % r by omega]
    exact bk
  rw [e2, if_pos (decide_eq_true hm)]
  exact ⟨_, rfl⟩
theorem emod_is {a r c q : Int} (e : a = c + r * q) (h0 : 0 ≤ c) (h1 : c < r) : a % r = c := by
  rw [e, Int.add_mul_emod_self_left]
  exact Int.emod_eq_of_lt h0 h1
theorem count_eq {r : Int} (hr : 0 < r) (lo hi : Int) : (if (hi - lo) % r = 0 then r else (hi - lo) % r) = (hi - (lo + 1)) % r + 1 := by
  have e := Int.emod_add_mul_ediv (hi - lo) r
  have p0 := emod_nn hr (hi - lo)
  have p1 := emod_lt' hr (hi - lo)
  generalize (hi - lo) % r = d at e p0 p1
  generalize (hi - lo) / r = q at e
  by_cases h : d = 0
  · rw [if_pos h, emod_is (c := r - 1) (q := q - 1) (r := r) ?_ (by omega) (by omega)]
    · omega
    · rw [Int.mul_sub, Int.mul_one]
      omega
  · rw [if_neg h, emod_is (c := d - 1) (q := q) (r := r) (by omega) (by omega) (by omega)]
    omega
theorem gap_eq {r : Int} (a : Int) : (a - a % r) / r * r = a - a % r := by
  refine Int.ediv_mul_cancel ⟨a / r, ?_⟩
  have e := Int.emod_add_mul_ediv a r
  omega
/-- a list of seats of the ring, each once -/
structure Seats (ns : List Int) (r : Int) : Prop where
  nd : ns.Nodup
  lo : ∀ x ∈ ns, 0 ≤ x
  hi : ∀ x ∈ ns, x < r
theorem seqIx_lt {d : Int} {n : Nat} (h0 : 0 ≤ d) (h1 : d < n) : seqIndex? d n = some d.toNat := by
  refine (ixN_seq (n := n) (i := d) (j := d.toNat) ?_).1
  unfold ixN
  rw [if_pos h0, if_pos h1]
theorem map_erase (f : Int → V) : ∀ (l : List Int) (i : Nat), (l.map f).eraseIdx i = (l.eraseIdx i).map f
  | [], _ => rfl
  | _ :: _, 0 => rfl
  | a :: l, i + 1 => congrArg (List.cons (f a)) (map_erase f l i)
theorem erase_perm : ∀ {l : List Int} {i : Nat} {y : Int}, l[i]? = some y → (y :: l.eraseIdx i).Perm l
  | [], i, y, h => by simp at h
  | a :: l, 0, y, h => by
    cases h
    exact List.Perm.refl _
  | a :: l, i + 1, y, h => by
    have h' : l[i]? = some y := h
    exact (List.Perm.swap a y _).trans ((erase_perm h').cons a)
theorem nodup_move {hs ps : List Int} {i : Nat} {y : Int} (h : (hs ++ ps).Nodup) (e : ps[i]? = some y) : ((hs ++ [y]) ++ ps.eraseIdx i).Nodup := by
  have p1 := erase_perm e
  rw [List.append_assoc]
  exact (List.Perm.append_left hs p1).symm.nodup h
theorem mem_move {hs ps : List Int} {i : Nat} {y x : Int} (e : ps[i]? = some y) (h : x ∈ (hs ++ [y]) ++ ps.eraseIdx i) : x ∈ hs ++ ps := by
  have p1 := erase_perm e
  rw [List.append_assoc] at h
  exact (List.Perm.append_left hs p1).mem_iff.mp h

theorem nodup_len : ∀ (n : Nat) (l : List Nat), l.Nodup → (∀ x ∈ l, x < n) → l.length ≤ n
  | 0, [], _, _ => Nat.le_refl _
  | 0, a :: l, _, h => absurd (h a (.head _)) (Nat.not_lt_zero _)
  | n + 1, l, nd, h => by
    by_cases m : n ∈ l
    · have z := nodup_len n (l.erase n) (nd.erase n) fun x hx => by
        have q := (nd.mem_erase_iff).mp hx
        have := h x q.2
        have := q.1
        omega
      rw [List.length_erase_of_mem m] at z
      omega
    · refine Nat.le_succ_of_le (nodup_len n l nd fun x hx => ?_)
      have := h x hx
      have : x ≠ n := fun e => m (e ▸ hx)
      omega
theorem seats_len {ns : List Int} {r : Int} (h : Seats ns r) (hr : 0 ≤ r) : ns.length ≤ r.toNat := by
  have sub : (ns.map Int.toNat).Nodup := by
    unfold List.Nodup
    rw [List.pairwise_map]
    refine List.Pairwise.imp_of_mem (fun {a b} ha hb hab e => hab ?_) h.nd
    have := h.lo a ha
    have := h.lo b hb
    omega
  have hs : (ns.map Int.toNat).Subset (List.range r.toNat) := by
    intro x hx
    obtain ⟨a, ha, rfl⟩ := List.mem_map.mp hx
    have := h.lo a ha
    have := h.hi a ha
    exact List.mem_range.mpr (by omega)
  have z := nodup_len r.toNat _ sub fun x hx => List.mem_range.mp (hs hx)
  rw [List.length_map] at z
  exact z


def ringN (n : Nat) : Int := ((2 ^ n : Nat) : Int)
theorem ring_pos (n : Nat) : 0 < ringN n := by
  unfold ringN
  have := Nat.two_pow_pos n
  omega
theorem ring_two {n : Nat} (h : 1 ≤ n) : 2 ≤ ringN n := by
  unfold ringN
  have : (2 : Nat) ^ 1 ≤ 2 ^ n := Nat.pow_le_pow_right (by decide) h
  omega
theorem ringN_le {n : Nat} (h : n ≤ 8) : ringN n ≤ 256 := by
  unfold ringN
  have : 2 ^ n ≤ 2 ^ 8 := Nat.pow_le_pow_right (by decide) h
  omega
theorem ringN_succ (i : Nat) : ringN i * 2 = ringN (i + 1) := by
  unfold ringN
  rw [Nat.pow_succ]
  omega
theorem ring_lt {n : Nat} (h : n ≤ 8) : ringN n < 2 ^ 2000 := Int.lt_of_le_of_lt (ringN_le h) (by decide +kernel)
theorem shl_eq (n : Nat) : (1 : Int) * 2 ^ ((n : Int)).toNat = ringN n := by
  unfold ringN
  rw [Int.toNat_natCast, Int.one_mul]
  simp
theorem rg_int (r : Int) : rgV 0 r = ((List.range r.toNat).map fun i => ((i : Nat) : Int)).map V.int := by
  unfold rgV
  rw [List.map_map, show (r - 0).toNat = r.toNat by rw [Int.sub_zero]]
  refine List.map_congr_left fun i _ => ?_
  show V.int (0 + (i : Nat)) = V.int ((i : Nat) : Int)
  rw [Int.zero_add]
end UF

set_option Elab.async false
set_option maxRecDepth 100000
set_option maxHeartbeats 4000000
/-! lists of whole numbers as data; slices; lists by filters -/
namespace UF
open PySem PySem.Spec PyProof.Rows L2
theorem dpList {K : PySem.W.Frag} {H : Hp} {a : Addr} {ns : List Int} (h : SqL K H a (ns.map V.int)) : Dp K H (.ref a) (.list (ns.map PyData.int)) := by
  refine .lst h ?_
  clear h
  induction ns with
  | nil => exact .nil
  | cons n ns ih => exact .cons (.int n) ih
theorem lay_ints : ∀ ns : List Int, PyData.canLayAll0 (ns.map PyData.int) = true
  | [] => by simp [PyData.canLayAll0]
  | n :: ns => by
    rw [List.map_cons, PyData.canLayAll0, lay_ints ns]
    simp [PyData.canLay0]
theorem dep_ints : ∀ ns : List Int, PyData.depthAll (ns.map PyData.int) = 0
  | [] => by simp [PyData.depthAll]
  | n :: ns => by
    rw [List.map_cons, PyData.depthAll, dep_ints ns]
    simp [PyData.depth]
theorem can_list (ns : List Int) : (PyData.list (ns.map PyData.int)).canLay0 = true := by
  rw [PyData.canLay0]
  exact lay_ints ns
theorem shaped_list (ns : List Int) : SeqAt.shaped (.list (ns.map PyData.int)) = true := by
  unfold SeqAt.shaped
  rw [can_list, PyData.depth, dep_ints]
  rfl
theorem eqv_list (ns : List Int) : PyData.eqv (.list (ns.map PyData.int)) (.list (ns.map PyData.int)) = true := SeqAt.eqv_refl _ (can_list ns)
theorem eqvAll_ints : ∀ xs ys : List Int, PyData.eqvAll (xs.map PyData.int) (ys.map PyData.int) = decide (xs = ys)
  | [], [] => by simp [PyData.eqvAll]
  | [], _ :: _ => by simp [PyData.eqvAll]
  | _ :: _, [] => by simp [PyData.eqvAll]
  | x :: xs, y :: ys => by
    rw [List.map_cons, List.map_cons, PyData.eqvAll, eqvAll_ints xs ys, PyData.eqv]
    by_cases h : x = y
    · subst h; simp
    · simp [h]
theorem eqv_ints (xs ys : List Int) : PyData.eqv (.list (xs.map PyData.int)) (.list (ys.map PyData.int)) = decide (xs = ys) := by
  rw [PyData.eqv]
  exact eqvAll_ints xs ys
theorem cut_to {xs : List V} {k : Int} (h : 0 ≤ k) : cutV xs none (some k) = xs.take k.toNat := by
  obtain ⟨j, rfl⟩ := Int.eq_ofNat_of_zero_le h
  unfold cutV
  rw [HT.sIx_nat, HT.sIx_none, List.drop_zero, Int.toNat_natCast, Nat.sub_zero]
  by_cases q : j ≤ xs.length
  · rw [Nat.min_eq_left q]
  · rw [Nat.min_eq_right (by omega), List.take_of_length_le (Nat.le_refl _), List.take_of_length_le (by omega)]
theorem cut_from {xs : List V} {k : Int} (h : 0 ≤ k) : cutV xs (some k) none = xs.drop k.toNat := by
  obtain ⟨j, rfl⟩ := Int.eq_ofNat_of_zero_le h
  unfold cutV
  rw [HT.sIx_nat, HT.sIx_none, Int.toNat_natCast]
  by_cases q : j ≤ xs.length
  · rw [Nat.min_eq_left q]
    exact List.take_of_length_le (by rw [List.length_drop]; exact Nat.le_refl _)
  · rw [Nat.min_eq_right (by omega), List.drop_of_length_le (Nat.le_refl _), List.drop_of_length_le (by omega)]
    exact List.take_nil
theorem take_snoc {α : Type} {xs : List α} {i : Nat} {z : α} (e : xs[i]? = some z) : xs.take (i + 1) = xs.take i ++ [z] := by rw [List.take_add_one, e]; rfl
theorem map_get {α : Type} {f : α → V} {xs : List α} {i : Nat} {v : V} (h : (xs.map f)[i]? = some v) : ∃ z, xs[i]? = some z ∧ v = f z := by
  rw [List.getElem?_map] at h
  cases e : xs[i]? with
  | none => rw [e] at h; cases h
  | some z => rw [e] at h; cases h; exact ⟨z, rfl, rfl⟩
theorem map_getE {xs : List Int} {i : Nat} {v : V} (h : (xs.map V.int)[i]? = some v) : ∃ z, xs[i]? = some z ∧ v = .int z := map_get h
theorem flat_ints : ∀ xs : List Int, (xs.map V.int).all flatV = true
  | [] => rfl
  | _ :: xs => by rw [List.map_cons, List.all_cons, flat_ints xs]; rfl
theorem inV_ints (x : Int) : ∀ xs : List Int, inV (.int x) (xs.map V.int) = decide (x ∈ xs)
  | [] => by simp [inV]
  | y :: xs => by
    have ih := inV_ints x xs
    unfold inV at ih ⊢
    rw [List.map_cons, List.any_cons, ih]
    by_cases h : x = y
    · subst h
      have : eqV (V.int x) (V.int x) = true := by simp [eqV]
      simp [this]
    · have : eqV (V.int y) (V.int x) = false := by simp [eqV]; omega
      simp [this, h]
end UF

set_option Elab.async false
set_option maxRecDepth 100000
set_option maxHeartbeats 4000000
set_option exponentiation.threshold 4096
/-! the purse of draws (a dict of seven) -/
namespace UF
open PySem PySem.Spec PyProof.Rows L2 C8
/-! ### the purse -/
def pv7 (c : Addr) (a r l m s n : Int) : List (Key × V) := [(.inr "cells", .ref c), (.inr "at", .int a), (.inr "rest", .int r), (.inr "left", .int l), (.inr "mixed", .int m), (.inr "seed", .int s), (.inr "count", .int n)]
structure PuV (H : Hp) (p c : Addr) (cells : List Int) (a r l m s n : Int) : Prop where
  hp : H p = some (.dK (pv7 c a r l m s n))
  hc : H c = some (.lst (cells.map V.int))
theorem PuV.ne {H : Hp} {p c : Addr} {cells : List Int} {a r l m s n : Int} (B : PuV H p c cells a r l m s n) : c ≠ p := by
  intro e
  have h := B.hc
  rw [e, B.hp] at h
  cases h
theorem PuV.set {H : Hp} {p c : Addr} {cells : List Int} {a r l m s n : Int} (B : PuV H p c cells a r l m s n) (a' r' l' m' s' n' : Int) : PuV (upd H p (.dK (pv7 c a' r' l' m' s' n'))) p c cells a' r' l' m' s' n' :=
  ⟨upd_same, by rw [upd_ne B.ne]; exact B.hc⟩
/-- the purse, between two draws -/
def Purse (H : Hp) (p c : Addr) : Prop := ∃ (cells : List Int) (a r l m s n : Int), PuV H p c cells a r l m s n ∧ 0 ≤ a
section
variable {H : Hp} {p c : Addr} {cells : List Int} {a r l m s n : Int}
theorem PuV.g_cells (B : PuV H p c cells a r l m s n) : DGet H p (.str "cells") (some (.ref c)) := by
  have h := DGet.k (k := Sum.inr "cells") B.hp
  rw [show valV (pv7 c a r l m s n) (Sum.inr "cells") = some (.ref c) by kernel_rfl] at h
  exact h
theorem PuV.g_at (B : PuV H p c cells a r l m s n) : DGet H p (.str "at") (some (.int a)) := by
  have h := DGet.k (k := Sum.inr "at") B.hp
  rw [show valV (pv7 c a r l m s n) (Sum.inr "at") = some (.int a) by kernel_rfl] at h
  exact h
theorem PuV.p_at (B : PuV H p c cells a r l m s n) (z : Int) : DPut H p (.str "at") (.int z) (upd H p (.dK (pv7 c z r l m s n))) := by
  have h := DPut.k (k := Sum.inr "at") (v := .int z) B.hp (by show 7 < sizeLine; decide)
  rw [show putK (pv7 c a r l m s n) (Sum.inr "at") (.int z) = pv7 c z r l m s n by kernel_rfl] at h
  exact h
theorem PuV.g_rest (B : PuV H p c cells a r l m s n) : DGet H p (.str "rest") (some (.int r)) := by
  have h := DGet.k (k := Sum.inr "rest") B.hp
  rw [show valV (pv7 c a r l m s n) (Sum.inr "rest") = some (.int r) by kernel_rfl] at h
  exact h
theorem PuV.p_rest (B : PuV H p c cells a r l m s n) (z : Int) : DPut H p (.str "rest") (.int z) (upd H p (.dK (pv7 c a z l m s n))) := by
  have h := DPut.k (k := Sum.inr "rest") (v := .int z) B.hp (by show 7 < sizeLine; decide)
  rw [show putK (pv7 c a r l m s n) (Sum.inr "rest") (.int z) = pv7 c a z l m s n by kernel_rfl] at h
  exact h
theorem PuV.g_left (B : PuV H p c cells a r l m s n) : DGet H p (.str "left") (some (.int l)) := by
  have h := DGet.k (k := Sum.inr "left") B.hp
  rw [show valV (pv7 c a r l m s n) (Sum.inr "left") = some (.int l) by kernel_rfl] at h
  exact h
theorem PuV.p_left (B : PuV H p c cells a r l m s n) (z : Int) : DPut H p (.str "left") (.int z) (upd H p (.dK (pv7 c a r z m s n))) := by
  have h := DPut.k (k := Sum.inr "left") (v := .int z) B.hp (by show 7 < sizeLine; decide)
  rw [show putK (pv7 c a r l m s n) (Sum.inr "left") (.int z) = pv7 c a r z m s n by kernel_rfl] at h
  exact h
theorem PuV.g_mixed (B : PuV H p c cells a r l m s n) : DGet H p (.str "mixed") (some (.int m)) := by
  have h := DGet.k (k := Sum.inr "mixed") B.hp
  rw [show valV (pv7 c a r l m s n) (Sum.inr "mixed") = some (.int m) by kernel_rfl] at h
  exact h
theorem PuV.p_mixed (B : PuV H p c cells a r l m s n) (z : Int) : DPut H p (.str "mixed") (.int z) (upd H p (.dK (pv7 c a r l z s n))) := by
  have h := DPut.k (k := Sum.inr "mixed") (v := .int z) B.hp (by show 7 < sizeLine; decide)
  rw [show putK (pv7 c a r l m s n) (Sum.inr "mixed") (.int z) = pv7 c a r l z s n by kernel_rfl] at h
  exact h
theorem PuV.g_seed (B : PuV H p c cells a r l m s n) : DGet H p (.str "seed") (some (.int s)) := by
  have h := DGet.k (k := Sum.inr "seed") B.hp
  rw [show valV (pv7 c a r l m s n) (Sum.inr "seed") = some (.int s) by kernel_rfl] at h
  exact h
theorem PuV.p_seed (B : PuV H p c cells a r l m s n) (z : Int) : DPut H p (.str "seed") (.int z) (upd H p (.dK (pv7 c a r l m z n))) := by
  have h := DPut.k (k := Sum.inr "seed") (v := .int z) B.hp (by show 7 < sizeLine; decide)
  rw [show putK (pv7 c a r l m s n) (Sum.inr "seed") (.int z) = pv7 c a r l m z n by kernel_rfl] at h
  exact h
theorem PuV.g_count (B : PuV H p c cells a r l m s n) : DGet H p (.str "count") (some (.int n)) := by
  have h := DGet.k (k := Sum.inr "count") B.hp
  rw [show valV (pv7 c a r l m s n) (Sum.inr "count") = some (.int n) by kernel_rfl] at h
  exact h
theorem PuV.p_count (B : PuV H p c cells a r l m s n) (z : Int) : DPut H p (.str "count") (.int z) (upd H p (.dK (pv7 c a r l m s z))) := by
  have h := DPut.k (k := Sum.inr "count") (v := .int z) B.hp (by show 7 < sizeLine; decide)
  rw [show putK (pv7 c a r l m s n) (Sum.inr "count") (.int z) = pv7 c a r l m s z by kernel_rfl] at h
  exact h
end


section
variable {H H' : Hp} {p c : Addr} {cells : List Int} {a r l m s n : Int} {ds : List Addr}
theorem PuV.pl (B : PuV H p c cells a r l m s n) : Pl H p := .dK B.hp
theorem PuV.fr (B : PuV H p c cells a r l m s n) (x : Fr ds H H') (n1 : p ∉ ds) (n2 : c ∉ ds) : PuV H' p c cells a r l m s n := ⟨x.dK B.hp n1, x.lst B.hc n2⟩
theorem Purse.fr (B : Purse H p c) (x : Fr ds H H') (n1 : p ∉ ds) (n2 : c ∉ ds) : Purse H' p c := by
  obtain ⟨cells, a, r, l, m, s, n, B, h⟩ := B
  exact ⟨cells, a, r, l, m, s, n, B.fr x n1 n2, h⟩
theorem Purse.new (B : Purse H p c) {q : Addr} (z : H q = none) (o : HO) : Purse (upd H q o) p c := B.fr (Fr.new0 (ds := []) z o) not_nil not_nil
theorem Purse.at_ (B : Purse H p c) : ∃ o, H p = some o := by
  obtain ⟨cells, a, r, l, m, s, n, B, h⟩ := B
  exact ⟨_, B.hp⟩
theorem Purse.in_ (B : Purse H p c) : ∃ o, H c = some o := by
  obtain ⟨cells, a, r, l, m, s, n, B, h⟩ := B
  exact ⟨_, B.hc⟩
theorem Purse.nw_ne (B : Purse H p c) {q : Addr} (n : Nw H q) : q ≠ p ∧ q ≠ c := by
  obtain ⟨cells, a, r, l, m, s, k, B, h⟩ := B
  exact ⟨(ne_nw B.hp n).symm, (ne_nw B.hc n).symm⟩
theorem Purse.off (B : Purse H p c) {q : Addr} (n1 : q ≠ p) (n2 : q ≠ c) (o : HO) : Purse (upd H q o) p c := by
  obtain ⟨cells, a, r, l, m, s, n, B, h⟩ := B
  exact ⟨cells, a, r, l, m, s, n, ⟨by rw [upd_ne n1.symm]; exact B.hp, by rw [upd_ne n2.symm]; exact B.hc⟩, h⟩
end
def spMixed : Sp := fun vs H Q _ => ∃ a t : Int, vs = [.int a, .int t] ∧ ∀ m : Int, Q (.int m) H
def spDrawP : Sp := fun vs H Q _ => ∃ (p c : Addr) (m : Int), vs = [.ref p, .int m] ∧ Purse H p c ∧ 0 < m ∧ m < 2 ^ 2000 ∧ ∀ (d : Int) (H' : Hp), 0 ≤ d → d < m → Purse H' p c → Fr [p] H H' → Q (.int d) H'
def spPurse (K : PySem.W.Frag) : Sp := fun vs H Q _ => ∃ (a : Addr) (ns : List Int), vs = [.ref a] ∧ SqL K H a (ns.map V.int) ∧ ∀ (p c : Addr) (H' : Hp), Nw H p → Nw H c → Purse H' p c → Fr [] H H' → Q (.ref p) H'
theorem cut_map (ns : List Int) (lo hi : Option Int) : ∃ ms : List Int, cutV (ns.map V.int) lo hi = ms.map V.int ∧ ms.length ≤ ns.length := by
  refine ⟨((ns.drop (HT.sIx ns.length 0 lo)).take (HT.sIx ns.length ns.length hi - HT.sIx ns.length 0 lo)), ?_, ?_⟩
  · unfold cutV
    rw [List.length_map, List.map_take, List.map_drop]
  · rw [List.length_take, List.length_drop]
    omega
end UF

set_option Elab.async false
set_option maxRecDepth 100000
set_option maxHeartbeats 4000000
/-! papers: lists of lines of pairs; who knows behind them -/
namespace UF
open PySem PySem.Spec PyProof.Rows L2 C8
/-- a dict comprehension over a walk -/
theorem dc_it {J : It} {n : Nat} {G : Hp → Prop} {Y : Nat → Hp → V → Hp → Prop} (w : Walk J n G Y) {g : TG} {tt : TT} {tk tv : TE} {vs : List Nat} {σ : L2.St} {H1 : Hp} {D : Addr} {Qd : Hp → Prop} (Pv : Nat → Hp → Prop) (h0 : Pv 0 (upd H1 D (.dK []))) (hG : ∀ i H, i ≤ n → Pv i H → G H)
    (hs : ∀ i x H H', i < n → Pv i H → Y i H x H' → g x (wipe σ vs) H' fun σ2 H2 => wipe σ2 vs = wipe σ vs ∧ tt σ2 H2 fun b H3 =>
      if b = true then tk σ2 H3 fun y H4 => tv σ2 H4 fun z H5 => ∃ kvs k, y = kV k ∧ H5 D = some (.dK kvs) ∧ kvs.length < sizeLine ∧ Pv (i + 1) (upd H5 D (.dK (putK kvs k z))) else Pv (i + 1) H3) (hd : ∀ H, Pv n H → Qd H) :
    ∃ W : Nat → Nat → Hp → Prop, (∃ m, W 0 m (upd H1 D (.dK []))) ∧ ∀ i m H, W i m H →
      (J.stop i H ∧ Qd H) ∨ (J.go i H ∧ ∃ Nx : Hp → Prop, (∀ H', Nx H' → ∃ m', m' < m ∧ W (i + 1) m' H') ∧ ∀ x H', J.yld i H x H' → g x (wipe σ vs) H' fun σ2 H2 => wipe σ2 vs = wipe σ vs ∧ tt σ2 H2 fun b H3 =>
        if b = true then tk σ2 H3 fun y H4 => tv σ2 H4 fun z H5 => ∃ kvs k, y = kV k ∧ H5 D = some (.dK kvs) ∧ kvs.length < sizeLine ∧ Nx (upd H5 D (.dK (putK kvs k z))) else Nx H3) := by
  refine ⟨fun i m H => m = n - i ∧ i ≤ n ∧ Pv i H, ⟨n, by simp, Nat.zero_le _, h0⟩, fun i m H q => ?_⟩
  obtain ⟨rfl, hi, p⟩ := q
  by_cases hlt : i < n
  · exact .inr ⟨w.goes i H hlt (hG i H hi p), Pv (i + 1), fun H' p' => ⟨n - (i + 1), by omega, rfl, hlt, p'⟩, fun x H' y => hs i x H H' hlt p (w.yields i H x H' hlt (hG i H hi p) y)⟩
  · have e : i = n := by omega
    subst e
    exact .inl ⟨w.stops H (hG _ H hi p), hd H p⟩
section
variable {α β : Type} {F G : α → β → Prop}
theorem pd_get {xs : List α} {ys : List β} (p : Paired F xs ys) : ∀ {j : Nat} {x : α}, xs[j]? = some x → ∃ y, ys[j]? = some y ∧ F x y := by
  induction p with
  | nil => intro j x h; simp at h
  | cons h t ih =>
    intro j x e
    cases j with
    | zero => cases e; exact ⟨_, rfl, h⟩
    | succ j => exact ih e
theorem pd_of {xs : List α} {ys : List β} : xs.length = ys.length → (∀ (j : Nat) (x : α) (y : β), xs[j]? = some x → ys[j]? = some y → F x y) → Paired F xs ys := by
  induction xs generalizing ys with
  | nil => intro h _; cases ys with
    | nil => exact .nil
    | cons _ _ => simp at h
  | cons x xs ih => intro h k; cases ys with
    | nil => simp at h
    | cons y ys => exact .cons (k 0 x y rfl rfl) (ih (by simpa using h) fun j a b e1 e2 => k (j + 1) a b e1 e2)
theorem pd_mem {xs : List α} {ys : List β} (p : Paired F xs ys) (h : ∀ x y, x ∈ xs → F x y → G x y) : Paired G xs ys := by
  induction p with
  | nil => exact .nil
  | cons q t ih => exact .cons (h _ _ (.head _) q) (ih fun x y m => h x y (.tail _ m))
end
/-! ### on the heap -/
def PairO (H : Hp) (t : Addr) (p : Int × Int) : Prop := H t = some (.tup [.int p.1, .int p.2])
def LineO (H : Hp) (l : Addr) (ps : List (Int × Int)) : Prop := ∃ ts : List Addr, H l = some (.lst (ts.map V.ref)) ∧ Paired (PairO H) ts ps
def PapO (H : Hp) (q : Addr) (pp : List (List (Int × Int))) : Prop := ∃ ls : List Addr, H q = some (.lst (ls.map V.ref)) ∧ Paired (LineO H) ls pp
/-- neither lists nor tuples stand at ds -/
def Nlt (H : Hp) (ds : List Addr) : Prop := ∀ a ∈ ds, (∀ xs, H a ≠ some (.lst xs)) ∧ ∀ xs, H a ≠ some (.tup xs)
theorem Nlt.nil {H : Hp} : Nlt H [] := fun _ m => nomatch m
theorem Purse.nlt {H : Hp} {p c : Addr} (B : Purse H p c) : Nlt H [p] := fun a m => by
  obtain ⟨cells, x, r, l, mx, s, n, B, _⟩ := B
  rw [List.mem_singleton.mp m, B.hp]
  exact ⟨(fun xs e => nomatch e), (fun xs e => nomatch e)⟩
section
variable {H H' : Hp} {ds : List Addr} {l q t : Addr} {ps : List (Int × Int)} {pp : List (List (Int × Int))} {p : Int × Int}
theorem PairO.fr (h : PairO H t p) (x : Fr ds H H') (n : Nlt H ds) : PairO H' t p := x.tup h fun m => (n t m).2 _ h
theorem LineO.fr (h : LineO H l ps) (x : Fr ds H H') (n : Nlt H ds) : LineO H' l ps := by
  obtain ⟨ts, e, p⟩ := h
  exact ⟨ts, x.lst e fun m => (n l m).1 _ e, Paired.mono (fun _ _ z => PairO.fr z x n) p⟩
theorem PapO.fr (h : PapO H q pp) (x : Fr ds H H') (n : Nlt H ds) : PapO H' q pp := by
  obtain ⟨ls, e, p⟩ := h
  exact ⟨ls, x.lst e fun m => (n q m).1 _ e, Paired.mono (fun _ _ z => LineO.fr z x n) p⟩
end
/-! ### who knows -/
def dkv (ks : List Int) : List (Key × V) := ks.map fun x => (.inl x, .bl true)
def addK (ks : List Int) (x : Int) : List Int := if x ∈ ks then ks else ks ++ [x]
theorem dk_val (x : Int) : ∀ ks : List Int, valV (dkv ks) (.inl x) = if x ∈ ks then some (.bl true) else none
  | [] => rfl
  | k :: ks => by
    have ih := dk_val x ks
    by_cases e : k = x
    · subst e
      rw [if_pos (.head _)]
      exact valV_pos rfl
    · have e' : ¬ (Sum.inl k : Key) = .inl x := fun z => e (Sum.inl.inj z)
      show valV ((.inl k, .bl true) :: dkv ks) (.inl x) = _
      rw [valV_neg (p := (Sum.inl k, V.bl true)) e', ih]
      by_cases m : x ∈ ks
      · rw [if_pos m, if_pos (.tail _ m)]
      · rw [if_neg m, if_neg fun z => (List.mem_cons.mp z).elim (fun y => e y.symm) m]
theorem dk_put (x : Int) (ks : List Int) : putK (dkv ks) (.inl x) (.bl true) = dkv (addK ks x) := by
  unfold putK addK
  rw [valV_any, dk_val]
  by_cases m : x ∈ ks
  · rw [if_pos m, if_pos m]
    simp only [Option.isSome_some, if_true]
    unfold dkv
    rw [List.map_map]
    refine List.map_congr_left fun k _ => ?_
    show (if (Sum.inl k : Key) = .inl x then ((Sum.inl k : Key), V.bl true) else (.inl k, .bl true)) = (.inl k, .bl true)
    split <;> rfl
  · rw [if_neg m, if_neg m]
    unfold dkv
    rw [List.map_append]
    rfl
theorem dk_len (ks : List Int) : (dkv ks).length = ks.length := List.length_map ..
def DkO (H : Hp) (D : Addr) (ks : List Int) : Prop := H D = some (.dK (dkv ks))
theorem DkO.get {H : Hp} {D : Addr} {ks : List Int} (h : DkO H D ks) (x : Int) : DGet H D (.int x) (if x ∈ ks then some (.bl true) else none) := by
  have g := DGet.k (k := Sum.inl x) h
  rw [dk_val] at g
  exact g
theorem isS {b : Prop} [Decidable b] {v : V} : (if b then some v else none).isSome = decide b := by
  by_cases h : b <;> simp [h]
theorem DkO.put {H : Hp} {D : Addr} {ks : List Int} (h : DkO H D ks) (x : Int) (l : ks.length ≤ 10000000) : DPut H D (.int x) (.bl true) (upd H D (.dK (dkv (addK ks x)))) := by
  have g := DPut.k (k := Sum.inl x) (v := .bl true) h (by rw [dk_len]; exact Nat.lt_of_le_of_lt l (by decide))
  rw [dk_put] at g
  exact g
theorem addK_len (ks : List Int) (x : Int) : (addK ks x).length ≤ ks.length + 1 := by
  unfold addK
  split
  · omega
  · rw [List.length_append]; exact Nat.le_refl _
theorem mem_addK {ks : List Int} {x y : Int} : y ∈ addK ks x ↔ y ∈ ks ∨ y = x := by
  unfold addK
  by_cases m : x ∈ ks
  · rw [if_pos m]
    exact ⟨.inl, fun h => h.elim id fun e => e ▸ m⟩
  · rw [if_neg m, List.mem_append, List.mem_singleton]
/-- is a line a round -/
def roundF (kn mem : List Int) : List (Int × Int) → List Int → Bool
  | [], _ => true
  | p :: r, cs => if p.1 ∈ kn ∧ p.1 ∉ cs ∧ p.2 ∈ mem ∧ p.2 ≠ p.1 then roundF kn mem r (addK cs p.1) else false
/-- those who know behind a line -/
def learnF (kn : List Int) (l : List (Int × Int)) : List Int := l.foldl (fun k p => addK k p.2) kn
/-- the first line that is no round, or those who know at the end -/
def walkF (mem : List Int) : List (List (Int × Int)) → List Int → Nat → Nat ⊕ List Int
  | [], kn, _ => .inr kn
  | l :: r, kn, i => if roundF kn mem l [] = true then walkF mem r (learnF kn l) (i + 1) else .inl i
def totalF (pp : List (List (Int × Int))) : Int := (pp.map fun l => (l.length : Int)).sum
theorem learn_snoc {kn : List Int} {l : List (Int × Int)} {p : Int × Int} : learnF kn (l ++ [p]) = addK (learnF kn l) p.2 := by
  unfold learnF
  rw [List.foldl_append]
  rfl
theorem learn_len : ∀ (l : List (Int × Int)) (kn : List Int), (learnF kn l).length ≤ kn.length + l.length
  | [], kn => Nat.le_refl _
  | p :: l, kn => by
    have := learn_len l (addK kn p.2)
    have := addK_len kn p.2
    show (learnF (addK kn p.2) l).length ≤ _
    rw [List.length_cons]
    omega
theorem learn_mem {y : Int} : ∀ (l : List (Int × Int)) (kn : List Int), y ∈ learnF kn l → y ∈ kn ∨ ∃ p ∈ l, y = p.2
  | [], kn, h => .inl h
  | p :: l, kn, h => by
    rcases learn_mem l (addK kn p.2) h with h | ⟨r, m, e⟩
    · rcases mem_addK.mp h with h | h
      · exact .inl h
      · exact .inr ⟨p, .head _, h⟩
    · exact .inr ⟨r, .tail _ m, e⟩
theorem round_mem {kn mem : List Int} : ∀ {l : List (Int × Int)} {cs : List Int}, roundF kn mem l cs = true → ∀ p ∈ l, p.2 ∈ mem
  | [], _, _, p, m => nomatch m
  | q :: l, cs, h, p, m => by
    unfold roundF at h
    split at h
    · rename_i c
      rcases List.mem_cons.mp m with e | m
      · rw [e]; exact c.2.2.1
      · exact round_mem h p m
    · cases h
theorem total_snoc {pp : List (List (Int × Int))} {l : List (Int × Int)} : totalF (pp ++ [l]) = totalF pp + (l.length : Int) := by
  unfold totalF
  rw [List.map_append, List.sum_append]
  simp
theorem take_at {α : Type} {xs : List α} {i : Nat} {z : α} (e : xs[i]? = some z) : xs.drop i = z :: xs.drop (i + 1) := by
  obtain ⟨h, rfl⟩ := List.getElem?_eq_some_iff.mp e
  exact List.drop_eq_getElem_cons h
end UF

set_option Elab.async false
set_option maxRecDepth 100000
set_option maxHeartbeats 4000000
/-! y = {k: v for ..} on one line, y a local -/
namespace UF
open PySem PySem.Spec PyProof.Rows L2
/-- len of a list or tuple, K written out -/
abbrev rLn (K : PySem.W.Frag) : List V → Hp → VK → Prop := fun xs H Q => ∃ p ys, xs = [V.ref p] ∧ (SqL K H p ys ∨ SqT K H p ys) ∧ Q (.int ys.length) H
variable {X : Cx}
theorem ps_setDc {i : Nat} {y : Str} {py : Pos} {kx vx tg iter : Expr} {ifs : List Expr} {scope : Scope} {own : List (Str × Nat)} {pos spos : Pos} {wi : TI} {g : TG} {tt : TT} {tk tv : TE} (hc : X.calm = true) (hN : X.N.Nodup) (hy : X.N[i]? = some y) (hyl : X.env.scope.names.lookup y = some .local)
    (hsw : swapsWith (.DictComp kx vx [⟨tg, iter, ifs, 0⟩] scope pos) (some (.Name y py)) spos.line X.env = pure true) (hi : PI X tg iter wi) (ok : BlkOk X.N X.env.scope scope own)
    (hg : ∀ s H C cl fp, PG (X.blk s H scope (compEnvC scope cl C X.env) fp) tg g) (ht : ∀ s H C cl fp, PTs (X.blk s H scope (compEnvC scope cl C X.env) fp) ifs tt)
    (hk : ∀ s H C cl fp, PE (X.blk s H scope (compEnvC scope cl C X.env) fp) kx tk) (he : ∀ s H C cl fp, PE (X.blk s H scope (compEnvC scope cl C X.env) fp) vx tv) (hs : ∀ x, foldedSetIterable iter X.env x = pure x := by intro _; rfl) :
    PS X (.Assign [.Name y py] (.DictComp kx vx [⟨tg, iter, ifs, 0⟩] scope pos) spos) (tAsg (tDc wi g tt tk tv (own.map (·.2))) (gName i)) := by
  refine ⟨fun pins s σ H D I h => ?_⟩; rw [exec_Assign_Name_used _ _ _ _ hsw]
  refine wpAny_bind (wpAny_standAt (wpAny_bind ?_))
  show wpAny _ X.A (do let _ ← comprehension (.DictComp kx vx [⟨tg, iter, ifs, 0⟩] scope pos) scope X.env (firstIterPos [⟨tg, iter, ifs, 0⟩] pos) newDict false (eval iter X.env) (some (assign (.Name y py) X.env))) _ _ s
  have h : tDc wi g tt tk tv (own.map (·.2)) σ H (fun x H1 => gName i x σ H1 D.nx) := h
  refine wpAny_bind (thn (dc_core (Qf := fun _ s' => SP X pins D .next s') hc hN I hi ok hg ht hk he hs h fun L C s' m H' I' q hn f => ?_) fun _ s' hq => wpAny_pure (wpAny_pure hq))
  show wpAny _ _ (assign (.Name y py) X.env (.ref L)) _ _ _
  refine wpAny_assign_Name (store_ok2 (v := V.ref L) I' hN hy (.inl hyl) rfl (fun s2 I2 ha => ?_) (.inr hyl))
  have haC : C ≠ ha.choose := ha.choose_spec.2.elim (fun z => by rw [z]; exact f.2.1) fun z e => f.2.2.2.2.1 y _ z e.symm
  exact ⟨m, hn.sameBut ha.choose_spec.1 haC, fun h3 sb3 => ⟨_, H', I2.turned (t' := s2.toks) (fun b o hb e => (sb3.2 b hb).trans e) f.1 f.2.1 f.2.2.2.1 f.2.2.2.2.1 f.2.2.2.2.2, q⟩⟩
theorem sw_dc {kx vx : Expr} {gs : List Comprehension} {scope : Scope} {pos py : Pos} {y : Str} {l : Nat} {env : Env} (hk : env.scope.kind = .function) (hy : env.scope.names.lookup y = some .local) (hl : (py.line == pos.line) = true)
    (ha : (scope.names.any fun (n, k) => n == y && (k == .local || k == .cell)) = false) : swapsWith (.DictComp kx vx gs scope pos) (some (.Name y py)) l env = pure true := by
  have z1 : env.kindOf y = some .local := hy
  have z2 : env.blockKind = .function := (by unfold Env.blockKind; rw [hk]; rfl)
  unfold swapsWith; simp only [z2, z1, ha, Expr.pos, hl]; rfl
end UF

set_option Elab.async false
set_option maxRecDepth 100000
set_option maxHeartbeats 4000000
/-! papers that are being written -/
namespace UF
open PySem PySem.Spec PyProof.Rows L2 C8
structure Lw (H : Hp) (l : Addr) (ts : List Addr) (ps : List (Int × Int)) : Prop where
  hl : H l = some (.lst (ts.map V.ref))
  pl : Paired (PairO H) ts ps
structure Pw (H : Hp) (q : Addr) (ls : List Addr) (pp : List (List (Int × Int))) : Prop where
  hq : H q = some (.lst (ls.map V.ref))
  pl : Paired (LineO H) ls pp
  off : ∀ l ∈ ls, l ≠ q
section
variable {H H' : Hp} {ds : List Addr} {l q a t : Addr} {ts ls : List Addr} {ps : List (Int × Int)} {pp : List (List (Int × Int))} {p : Int × Int} {xs ys : List V}
theorem Lw.line (h : Lw H l ts ps) : LineO H l ps := ⟨ts, h.hl, h.pl⟩
theorem Pw.pap (h : Pw H q ls pp) : PapO H q pp := ⟨ls, h.hq, h.pl⟩
theorem Lw.fr (h : Lw H l ts ps) (x : Fr ds H H') (n : Nlt H ds) : Lw H' l ts ps := ⟨x.lst h.hl fun m => (n l m).1 _ h.hl, Paired.mono (fun _ _ z => PairO.fr z x n) h.pl⟩
theorem Pw.fr (h : Pw H q ls pp) (x : Fr ds H H') (n : Nlt H ds) : Pw H' q ls pp := ⟨x.lst h.hq fun m => (n q m).1 _ h.hq, Paired.mono (fun _ _ z => LineO.fr z x n) h.pl, h.off⟩
theorem Lw.new (h : Lw H l ts ps) (n : H a = none) (o : HO) : Lw (upd H a o) l ts ps := h.fr (Fr.new0 (ds := []) n o) .nil
theorem Pw.new (h : Pw H q ls pp) (n : H a = none) (o : HO) : Pw (upd H a o) q ls pp := h.fr (Fr.new0 (ds := []) n o) .nil
theorem pair_upd (h : PairO H t p) (ha : H a = some (.lst xs)) (o : HO) : PairO (upd H a o) t p := by
  have h : H t = some (.tup [.int p.1, .int p.2]) := h
  show upd H a o t = _
  rw [upd_ne fun e => by rw [e, ha] at h; cases h]
  exact h
theorem line_upd (h : LineO H l ps) (ha : H a = some (.lst xs)) (ne : l ≠ a) (o : HO) : LineO (upd H a o) l ps := by
  obtain ⟨ts, e, p⟩ := h
  exact ⟨ts, by rw [upd_ne ne]; exact e, Paired.mono (fun _ _ z => pair_upd z ha o) p⟩
theorem Lw.upd (h : Lw H l ts ps) (ha : H a = some (.lst xs)) (ne : l ≠ a) (o : HO) : Lw (upd H a o) l ts ps := ⟨by rw [upd_ne ne]; exact h.hl, Paired.mono (fun _ _ z => pair_upd z ha o) h.pl⟩
theorem Pw.upd (h : Pw H q ls pp) (ha : H a = some (.lst xs)) (ne : q ≠ a) (nl : ∀ l ∈ ls, l ≠ a) (o : HO) : Pw (upd H a o) q ls pp := ⟨by rw [upd_ne ne]; exact h.hq, pd_mem h.pl fun l _ m z => line_upd z ha (nl l m) o, h.off⟩
theorem Lw.push (h : Lw H l ts ps) (z : PairO H t p) : Lw (L2.upd H l (.lst (ts.map V.ref ++ [.ref t]))) l (ts ++ [t]) (ps ++ [p]) := ⟨by rw [upd_same, List.map_append]; rfl, Paired.snoc (Paired.mono (fun _ _ z => pair_upd z h.hl _) h.pl) (pair_upd z h.hl _)⟩
theorem Pw.push (h : Pw H q ls pp) (z : LineO H l ps) (ne : l ≠ q) : Pw (L2.upd H q (.lst (ls.map V.ref ++ [.ref l]))) q (ls ++ [l]) (pp ++ [ps]) := by
  refine ⟨by rw [upd_same, List.map_append]; rfl, Paired.snoc (pd_mem h.pl fun l _ m z => line_upd z h.hq (h.off l m) _) (line_upd z h.hq ne _), fun l' m => ?_⟩
  rcases List.mem_append.mp m with m | m
  · exact h.off l' m
  · rw [List.mem_singleton.mp m]; exact ne
theorem Lw.nil (h : H l = some (.lst [])) : Lw H l [] [] := ⟨h, .nil⟩
theorem Pw.nil (h : H q = some (.lst [])) : Pw H q [] [] := ⟨h, .nil, fun _ m => nomatch m⟩
theorem Lw.len (h : Lw H l ts ps) : ts.length = ps.length := h.pl.length
theorem Pw.len (h : Pw H q ls pp) : ls.length = pp.length := h.pl.length
/-- what is new is none of the lines -/
theorem Pw.ne (h : Pw H q ls pp) (n : H a = none) : q ≠ a ∧ ∀ l ∈ ls, l ≠ a := ⟨ne_of_none h.hq n, fun l m => by
  obtain ⟨j, hj⟩ := List.mem_iff_getElem?.mp m
  obtain ⟨ps, _, ts, hts, _⟩ := pd_get h.pl hj
  exact ne_of_none hts n⟩
theorem Purse.lst_ne {p c : Addr} (B : Purse H p c) (h : H a = some (.lst xs)) : a ≠ p := fun e => by
  obtain ⟨cells, x, r, l, m, s, n, B, _⟩ := B
  rw [e, B.hp] at h
  cases h
end
/-- at most k lines of at most k pairs -/
structure PSz (k : Nat) (pp : List (List (Int × Int))) : Prop where
  n : pp.length ≤ k
  w : ∀ l ∈ pp, l.length ≤ k
theorem PSz.le {k m : Nat} {pp : List (List (Int × Int))} (h : PSz k pp) (g : k ≤ m) : PSz m pp := ⟨Nat.le_trans h.n g, fun l z => Nat.le_trans (h.w l z) g⟩
theorem rest_snoc {ns : List Int} {i : Nat} {z : Int} (e : ns[i]? = some z) (f : Int → Bool) : (ns.take (i + 1)).filter f = if f z = true then (ns.take i).filter f ++ [z] else (ns.take i).filter f := by
  rw [take_snoc e, List.filter_append]
  by_cases h : f z = true
  · rw [if_pos h]; simp [h]
  · rw [if_neg h]; simp [h]
/-! ### papers as data -/
def pairD (p : Int × Int) : PyData := .tuple [.int p.1, .int p.2]
def lineD (ps : List (Int × Int)) : PyData := .list (ps.map pairD)
def papD (pp : List (List (Int × Int))) : PyData := .list (pp.map lineD)
theorem can_pairs : ∀ ps : List (Int × Int), PyData.canLayAll0 (ps.map pairD) = true
  | [] => by simp [PyData.canLayAll0]
  | p :: ps => by rw [List.map_cons, PyData.canLayAll0, can_pairs ps]; simp [pairD, PyData.canLay0, PyData.canLayAll0]
theorem dep_pairs : ∀ ps : List (Int × Int), PyData.depthAll (ps.map pairD) ≤ 1
  | [] => by simp [PyData.depthAll]
  | p :: ps => by
    rw [List.map_cons, PyData.depthAll]
    have := dep_pairs ps
    have : (pairD p).depth = 1 := by simp [pairD, PyData.depth, PyData.depthAll]
    omega
theorem can_lines : ∀ pp : List (List (Int × Int)), PyData.canLayAll0 (pp.map lineD) = true
  | [] => by simp [PyData.canLayAll0]
  | ps :: pp => by rw [List.map_cons, PyData.canLayAll0, can_lines pp]; simp [lineD, PyData.canLay0, can_pairs]
theorem dep_lines : ∀ pp : List (List (Int × Int)), PyData.depthAll (pp.map lineD) ≤ 2
  | [] => by simp [PyData.depthAll]
  | ps :: pp => by
    rw [List.map_cons, PyData.depthAll]
    have := dep_lines pp
    have e : (lineD ps).depth = PyData.depthAll (ps.map pairD) + 1 := by simp [lineD, PyData.depth]
    have := dep_pairs ps
    omega
theorem shaped_pair (p : Int × Int) : SeqAt.shaped (pairD p) = true := by unfold SeqAt.shaped pairD; simp [PyData.canLay0, PyData.canLayAll0, PyData.depth, PyData.depthAll]
theorem shaped_line (ps : List (Int × Int)) : SeqAt.shaped (lineD ps) = true := by
  have h := dep_pairs ps
  unfold SeqAt.shaped lineD
  rw [PyData.canLay0, can_pairs, PyData.depth, decide_eq_true (by omega)]
  rfl
theorem shaped_pap (pp : List (List (Int × Int))) : SeqAt.shaped (papD pp) = true := by
  have h := dep_lines pp
  unfold SeqAt.shaped papD
  rw [PyData.canLay0, can_lines, PyData.depth, decide_eq_true (by omega)]
  rfl
theorem eqv_pap (pp : List (List (Int × Int))) : PyData.eqv (papD pp) (papD pp) = true := SeqAt.eqv_refl _ (SeqAt.canLay_of_shaped (shaped_pap pp))
theorem eqv_pair (p : Int × Int) : PyData.eqv (pairD p) (pairD p) = true := SeqAt.eqv_refl _ (SeqAt.canLay_of_shaped (shaped_pair p))
theorem pap_nil (pp : List (List (Int × Int))) : PyData.eqv (papD pp) (.list []) = decide (pp = []) := by
  cases pp <;> simp [papD, PyData.eqv, PyData.eqvAll]
theorem line_nil (ps : List (Int × Int)) : PyData.eqv (lineD ps) (.list []) = decide (ps = []) := by
  cases ps <;> simp [lineD, PyData.eqv, PyData.eqvAll]
theorem nil_dp {K : PySem.W.Frag} {H : Hp} {a : Addr} (h : H a = some (.lst [])) : Dp K H (.ref a) (.list []) := .lst (SqL.of h) .nil
theorem nil_shaped : SeqAt.shaped (.list []) = true := shaped_list []
theorem pair_dp {K : PySem.W.Frag} {H : Hp} {t : Addr} {p : Int × Int} (h : PairO H t p) : Dp K H (.ref t) (pairD p) := .tup (SqT.of h) (.cons (.int _) (.cons (.int _) .nil))
theorem pairs_dp {K : PySem.W.Frag} {H : Hp} {ts : List Addr} {ps : List (Int × Int)} (h : Paired (PairO H) ts ps) : DpAll K H (ts.map V.ref) (ps.map pairD) := by
  induction h with
  | nil => exact .nil
  | cons a t ih => exact .cons (pair_dp a) ih
theorem line_dp {K : PySem.W.Frag} {H : Hp} {l : Addr} {ps : List (Int × Int)} (h : LineO H l ps) : Dp K H (.ref l) (lineD ps) := by
  obtain ⟨ts, e, p⟩ := h
  exact .lst (SqL.of e) (pairs_dp p)
theorem pap_dp {K : PySem.W.Frag} {H : Hp} {q : Addr} {pp : List (List (Int × Int))} (h : PapO H q pp) : Dp K H (.ref q) (papD pp) := by
  obtain ⟨ls, e, p⟩ := h
  refine .lst (SqL.of e) ?_
  clear e
  induction p with
  | nil => exact .nil
  | cons a t ih => exact .cons (line_dp a) ih
/-! ### lists changed in the middle -/
section
variable {α β : Type} {F : α → β → Prop}
theorem pd_take {xs : List α} {ys : List β} (h : Paired F xs ys) : ∀ n : Nat, Paired F (xs.take n) (ys.take n) := by
  induction h with
  | nil => intro n; rw [List.take_nil, List.take_nil]; exact .nil
  | cons a t ih => intro n; cases n with
    | zero => exact .nil
    | succ n => exact .cons a (ih n)
theorem pd_drop {xs : List α} {ys : List β} (h : Paired F xs ys) : ∀ n : Nat, Paired F (xs.drop n) (ys.drop n) := by
  induction h with
  | nil => intro n; rw [List.drop_nil, List.drop_nil]; exact .nil
  | cons a t ih => intro n; cases n with
    | zero => exact .cons a t
    | succ n => exact ih n
theorem pd_app {xs xs' : List α} {ys ys' : List β} (h : Paired F xs ys) (g : Paired F xs' ys') : Paired F (xs ++ xs') (ys ++ ys') := by
  induction h with
  | nil => exact g
  | cons a t ih => exact .cons a ih
theorem pd_ins {xs : List α} {ys : List β} (h : Paired F xs ys) (n : Nat) {x : α} {y : β} (z : F x y) : Paired F (xs.take n ++ [x] ++ xs.drop n) (ys.take n ++ [y] ++ ys.drop n) := pd_app (pd_app (pd_take h n) (.cons z .nil)) (pd_drop h n)
theorem pd_erase {xs : List α} {ys : List β} (h : Paired F xs ys) : ∀ n : Nat, Paired F (xs.eraseIdx n) (ys.eraseIdx n) := by
  induction h with
  | nil => intro n; exact .nil
  | cons a t ih => intro n; cases n with
    | zero => exact t
    | succ n => exact .cons a (ih n)
theorem map_eraseG {γ : Type} (f : α → γ) : ∀ (l : List α) (i : Nat), (l.map f).eraseIdx i = (l.eraseIdx i).map f
  | [], _ => rfl
  | _ :: _, 0 => rfl
  | a :: l, i + 1 => congrArg (List.cons (f a)) (map_eraseG f l i)
theorem first_of {δ : Type} {P : δ → Bool} : ∀ (ds : List δ) (j : Nat) (z : δ), ds[j]? = some z → P z = true → ∃ (i : Nat) (y : δ), ds[i]? = some y ∧ P y = true ∧ ∀ (m : Nat) (x : δ), m < i → ds[m]? = some x → P x = false
  | [], j, z, h, _ => by simp at h
  | d :: ds, j, z, h, hz => by
    by_cases e : P d = true
    · exact ⟨0, d, rfl, e, fun m x hm => absurd hm (Nat.not_lt_zero _)⟩
    · cases j with
      | zero => cases h; exact absurd hz e
      | succ j =>
        obtain ⟨i, y, h1, h2, h3⟩ := first_of ds j z h hz
        refine ⟨i + 1, y, h1, h2, fun m x hm hx => ?_⟩
        cases m with
        | zero => cases hx; simpa using e
        | succ m => exact h3 m x (by omega) hx
theorem len_ins {xs : List α} {n : Nat} {x : α} : (xs.take n ++ [x] ++ xs.drop n).length = xs.length + 1 := by
  rw [List.length_append, List.length_append, List.length_take, List.length_drop]
  show min n xs.length + 1 + _ = _
  omega
theorem map_ins {γ : Type} (f : α → γ) {xs : List α} {n : Nat} {x : α} : (xs.take n ++ [x] ++ xs.drop n).map f = (xs.map f).take n ++ [f x] ++ (xs.map f).drop n := by
  rw [List.map_append, List.map_append, List.map_take, List.map_drop]
  rfl
end
section
variable {H : Hp} {q l : Addr} {ls ts : List Addr} {ps : List (Int × Int)} {pp : List (List (Int × Int))} {xs : List V}
/-- a line of the paper gets another list of pairs -/
theorem Pw.change (h : Pw H q ls pp) (hl : H l = some (.lst xs)) (lq : l ≠ q) (pl : Paired (PairO H) ts ps) : ∃ pp', Pw (L2.upd H l (.lst (ts.map V.ref))) q ls pp' ∧ pp'.length = pp.length ∧ ∀ x ∈ pp', x ∈ pp ∨ x = ps := by
  have line : LineO (L2.upd H l (.lst (ts.map V.ref))) l ps := ⟨ts, upd_same, Paired.mono (fun _ _ z => pair_upd z hl _) pl⟩
  have key : ∀ {ls : List Addr} {pp : List (List (Int × Int))}, Paired (LineO H) ls pp → ∃ pp', Paired (LineO (L2.upd H l (.lst (ts.map V.ref)))) ls pp' ∧ pp'.length = pp.length ∧ ∀ x ∈ pp', x ∈ pp ∨ x = ps := by
    intro ls pp p
    induction p with
    | nil => exact ⟨[], .nil, rfl, fun x m => nomatch m⟩
    | @cons a b l1 l2 z t ih =>
      obtain ⟨pp', i1, i2, i3⟩ := ih
      by_cases e : a = l
      · subst e
        refine ⟨ps :: pp', .cons line i1, by rw [List.length_cons, List.length_cons, i2], fun x m => ?_⟩
        rcases List.mem_cons.mp m with m | m
        · exact .inr m
        · exact (i3 x m).elim (fun g => .inl (.tail _ g)) .inr
      · refine ⟨b :: pp', .cons (line_upd z hl e _) i1, by rw [List.length_cons, List.length_cons, i2], fun x m => ?_⟩
        rcases List.mem_cons.mp m with m | m
        · exact .inl (by rw [m]; exact .head _)
        · exact (i3 x m).elim (fun g => .inl (.tail _ g)) .inr
  obtain ⟨pp', p, e1, e2⟩ := key h.pl
  exact ⟨pp', ⟨by rw [upd_ne lq.symm]; exact h.hq, p, h.off⟩, e1, e2⟩
/-- other lines in the paper -/
theorem Pw.put (h : Pw H q ls pp) {ls' : List Addr} {pp' : List (List (Int × Int))} (p : Paired (LineO H) ls' pp') (off : ∀ l ∈ ls', l ≠ q) : Pw (L2.upd H q (.lst (ls'.map V.ref))) q ls' pp' := ⟨upd_same, pd_mem p fun l _ m z => line_upd z h.hq (off l m) _, off⟩
end
/-- list(xs), K written out -/
abbrev rLc (K : PySem.W.Frag) : List V → Hp → VK → Prop := fun xs H Q => ∃ p ys, xs = [V.ref p] ∧ (SqL K H p ys ∨ SqT K H p ys) ∧ ∀ l, H l = none → Q (.ref l) (upd H l (.lst ys))
/-- a list without doubles among others is no longer than they -/
theorem nd_le : ∀ (l kn : List Int), l.Nodup → (∀ x ∈ l, x ∈ kn) → l.length ≤ kn.length
  | [], _, _, _ => Nat.zero_le _
  | a :: l, kn, nd, h => by
    have nd' := List.nodup_cons.mp nd
    have ma := h a (.head _)
    have z := nd_le l (kn.erase a) nd'.2 fun x m => (List.mem_erase_of_ne fun (e : x = a) => nd'.1 (by rw [← e]; exact m)).mpr (h x (.tail _ m))
    rw [List.length_erase_of_mem ma] at z
    have : 0 < kn.length := List.length_pos_of_mem ma
    rw [List.length_cons]
    omega
end UF

set_option Elab.async false
set_option maxRecDepth 100000
set_option maxHeartbeats 4000000
/-! d == {}: is the dict empty -/
namespace UF
open PySem PySem.Spec PyProof.Rows L2 C8 LamX
theorem u0 {k : Nat} {A : Around} (hr : Room k A) : A.units < cLine := Nat.lt_of_succ_lt (u1 hr)
def rEqE : R2 := fun x y H Q => ∃ a b ks, x = .ref a ∧ y = .ref b ∧ H a = some (.dK ks) ∧ H b = some (.dK []) ∧ Q (.bl ks.isEmpty) H
theorem op_eqE {X : Cx} (hu : X.A.units < cLine) : OpR X (compareOp .Eq) rEqE := by
  rintro pins s σ H _ _ v u Q I rx ry ⟨a, b, ks, rfl, rfl, ea, eb, q⟩
  obtain rfl : v = Value.ref a := rx
  obtain rfl : u = Value.ref b := ry
  obtain ⟨_, ya, va, ra, da⟩ := (show ObjOk X.prog X.w H s.heap a (.dK ks) from I.hok a _ ea)
  obtain ⟨_, yb, vb, rb, db⟩ := (show ObjOk X.prog X.w H s.heap b (.dK []) from I.hok b _ eb)
  have lb : vb.length = 0 := rb.length.symm
  refine PySem.W.keq_eq (knd := mixKind X.prog X.w) (r := true) ya yb da db hu (fun e => ?_) (fin_bl I q ?_)
  · have e0 : ks = [] := List.eq_nil_of_length_eq_zero (by
      rw [ra.length, e]
      exact lb)
    subst e0
    exact hits_all rb ra fun p hp => nomatch hp
  · rw [lb, ← ra.length, Bool.and_true]
    cases ks <;> rfl
end UF

set_option Elab.async false
set_option maxRecDepth 100000
set_option maxHeartbeats 4000000
namespace SortD
open PySem PySem.Spec PyProof.Rows L2
/-- sorted(d), d a dict whose keys are whole numbers, any number of them -/
def rSortD : List V → Hp → VK → Prop := fun zs G W => ∃ (D : Addr) (kv : List (Key × V)) (ns : List Int), zs = [.ref D] ∧ Rd G D (.dK kv) ∧ kv.map (·.1) = ns.map Sum.inl ∧
  ∀ (ms : List Int) (L : Addr), ms.Perm ns → ms.Pairwise (· ≤ ·) → G L = none → W (.ref L) (upd G L (.lst (ms.map V.int)))
theorem cr_sortD {X : Cx} (calm : X.calm = true) : CallR X (.builtin "sorted") rSortD := by
  intro pins s τ G zs ws W I r h
  obtain ⟨D, kv, ns, ez, hd, hkeys, q⟩ := h
  subst ez
  obtain ⟨w1, ew, rx⟩ := vals1 r
  subst ew
  cases rx
  obtain ⟨small, notMods, vs, rel, dd⟩ := dk_rd I.hok hd
  obtain ⟨ep, hat⟩ := dd.dictAt
  have kk : vs.map (·.1) = ns.map Sum.inl := rel.keys.symm.trans hkeys
  have lvs : vs.length = ns.length := by simpa using congrArg List.length kk
  have lkv : kv.length = ns.length := by simpa using congrArg List.length hkeys
  have fits : ns.length ≤ sizeLine := by rw [← lkv]; exact small
  refine Calls.call_function_entry kind_sorted plain_sorted entry_sorted (args_sorted1 _) ?_
  unfold Builtin.«sorted»
  refine wpAny_bind (m := checkCount "sorted" 1 1 _) (wpAny_pure ?_)
  refine wpAny_bind (PySem.W.kdu_collect (A := X.A.in1) (PySem.W.kdl_dict (knd := mixKind X.prog X.w) (kvs := vs) (ep := ep) notMods) (I.ok.hd calm) hat (by rw [lvs]; exact fits) fun g tk got keep hgot => ?_)
  have lgot : got.toList.length = ns.length := by rw [Array.length_toList, hgot.1, lvs]
  have allInt : IntsAre got.toList ns := by
    refine ints_each lgot fun j v ej => ?_
    obtain ⟨k, x, e1, e2⟩ := hgot.2 j v (by rw [← Array.getElem?_toList]; exact ej)
    have e3 : (vs.map (·.1))[j]? = some k := by rw [List.getElem?_map, e1]; rfl
    rw [kk, List.getElem?_map] at e3
    cases e4 : ns[j]? with
    | none => rw [e4] at e3; cases e3
    | some y =>
      rw [e4] at e3
      have e5 : Sum.inl y = k := Option.some.inj e3
      subst e5
      rcases keyIs_shape (show keyIs (Sum.inl y) v = true from e2) with ⟨i, t, ek, ev⟩ | ⟨z, t, ek, _⟩
      · injection ek with ek
        subst ek
        exact ⟨y, t, rfl, ev⟩
      · cases ek
  have I1 : Inv X pins τ G { s with heap := g, toks := tk } := I.kept keep
  have fits2 : got.toList.length ≤ sizeLine := by rw [lgot]; exact fits
  refine wpAny_bind (wpAny_newList ?_ fits2)
  have at0 : (g.push (seqObj "list" got.toList.toArray 0)).get? g.objs.size = some (seqObj "list" got.toList.toArray 0) := Heap.get?_push_size _ rfl
  show wpAny _ _ _ _ _ { s with heap := g.push (seqObj "list" got.toList.toArray 0), toks := tk }
  refine wpAny_bind (wpAny_holding (wpAny_call_entry slot_list_sort ⟨_, at0, rfl⟩ entry_list_sort ?_ (args_list_sort _)))
  refine SrtO.list_sort_ord SrtO.swo_int at0 fits2 (fun two => SrtO.ints_sortable allInt two) fun out h1 h2 => ⟨_, rfl, ?_⟩
  obtain ⟨k1, k2, k3⟩ := SrtO.ints_out allInt h1 h2
  obtain ⟨ep2, he2⟩ := sortedHeap_at (vs := got.toList) (out := out.toArray) at0
  have fits3 : ((out.map SrtO.iv).map V.int).length ≤ sizeLine := by rw [List.length_map, k2.length_eq]; exact fits
  refine wpAny_pure ⟨_, rfl, .ref g.objs.size, upd G g.objs.size (.lst ((out.map SrtO.iv).map V.int)), ?_, rfl, q _ _ k2 k3 (I1.hok.fresh (Nat.le_refl _))⟩
  refine I1.laid (t' := tk) (fun b u e => ?_) (Nat.le_refl _) ⟨fits3, out, ep2, vals_of_ints k1, he2⟩
  have lb : b < g.objs.size := Heap.lt_size e
  rw [sortedHeap_old (Nat.ne_of_lt lb) (by rw [size_push']; exact Nat.lt_succ_of_lt lb)]
  exact Heap.get?_push_of_some _ e
end SortD

set_option Elab.async false
set_option maxRecDepth 100000
set_option maxHeartbeats 4000000
set_option exponentiation.threshold 4096
set_option linter.unusedVariables false
/-! dicts of whole numbers as lists of pairs, whatever the values; dicts of tuples; constants of the module -/
namespace UF
open PySem PySem.Spec PyProof.Rows L2 C8 LamX
section
variable {β γ : Type}
def lkA : List (Int × β) → Int → Option β
  | [], _ => none
  | q :: ks, s => if q.1 = s then some q.2 else lkA ks s
def putA (ts : List (Int × β)) (s : Int) (t : β) : List (Int × β) := if (lkA ts s).isSome = true then ts.map (fun q => if q.1 = s then (q.1, t) else q) else ts ++ [(s, t)]
def dropA (ts : List (Int × β)) (s : Int) : List (Int × β) := ts.filter fun q => decide (q.1 ≠ s)
def dA (f : β → V) (ks : List (Int × β)) : List (Key × V) := ks.map fun q => (.inl q.1, f q.2)
theorem valV_dA (f : β → V) : ∀ (ks : List (Int × β)) (s : Int), valV (dA f ks) (.inl s) = (lkA ks s).map f
  | [], _ => rfl
  | q :: ks, s => by
    have ih := valV_dA f ks s
    show valV ((Sum.inl q.1, f q.2) :: dA f ks) (Sum.inl s) = Option.map f (if q.1 = s then some q.2 else lkA ks s)
    by_cases e : q.1 = s
    · rw [valV_pos (by rw [e]), if_pos e]
      rfl
    · rw [valV_neg (fun z => e (Sum.inl.inj z)), if_neg e]
      exact ih
theorem put_dA (f : β → V) (ts : List (Int × β)) (s : Int) (t : β) : putK (dA f ts) (.inl s) (f t) = dA f (putA ts s t) := by
  unfold putK putA
  rw [valV_any, valV_dA, Option.isSome_map]
  cases (lkA ts s).isSome with
  | false =>
    rw [if_neg Bool.false_ne_true, if_neg Bool.false_ne_true]
    unfold dA
    rw [List.map_append]
    rfl
  | true =>
    rw [if_pos rfl, if_pos rfl]
    unfold dA
    rw [List.map_map, List.map_map]
    refine List.map_congr_left fun p _ => ?_
    show (if (Sum.inl p.1 : Key) = Sum.inl s then ((Sum.inl p.1 : Key), f t) else (Sum.inl p.1, f p.2)) = (Sum.inl (if p.1 = s then (p.1, t) else p).1, f (if p.1 = s then (p.1, t) else p).2)
    by_cases e : p.1 = s
    · rw [if_pos (by rw [e]), if_pos e]
    · rw [if_neg (fun z => e (Sum.inl.inj z)), if_neg e]
theorem drop_dA (f : β → V) (ts : List (Int × β)) (s : Int) : dropK (dA f ts) (.inl s) = dA f (dropA ts s) := by
  unfold dropK dropA dA
  rw [List.filter_map]
  congr 1
  refine List.filter_congr fun q _ => ?_
  show decide ((Sum.inl q.1 : Key) ≠ Sum.inl s) = decide (q.1 ≠ s)
  by_cases e : q.1 = s
  · simp [e]
  · have : (Sum.inl q.1 : Key) ≠ Sum.inl s := fun z => e (Sum.inl.inj z)
    simp [e]
theorem lkA_map (g : β → γ) : ∀ (ts : List (Int × β)) (s : Int), lkA (ts.map fun q => (q.1, g q.2)) s = (lkA ts s).map g
  | [], _ => rfl
  | q :: ts, s => by
    show (if q.1 = s then some (g q.2) else lkA (ts.map fun q => (q.1, g q.2)) s) = Option.map g (if q.1 = s then some q.2 else lkA ts s)
    by_cases e : q.1 = s
    · rw [if_pos e, if_pos e]; rfl
    · rw [if_neg e, if_neg e]; exact lkA_map g ts s
theorem putA_map (g : β → γ) (ts : List (Int × β)) (s : Int) (t : β) : (putA ts s t).map (fun q => (q.1, g q.2)) = putA (ts.map fun q => (q.1, g q.2)) s (g t) := by
  unfold putA
  rw [lkA_map, Option.isSome_map]
  cases (lkA ts s).isSome with
  | false => rw [if_neg Bool.false_ne_true, if_neg Bool.false_ne_true, List.map_append]; rfl
  | true =>
    rw [if_pos rfl, if_pos rfl, List.map_map, List.map_map]
    refine List.map_congr_left fun p _ => ?_
    show ((if p.1 = s then (p.1, t) else p).1, g (if p.1 = s then (p.1, t) else p).2) = if p.1 = s then (p.1, g t) else (p.1, g p.2)
    split <;> rfl
theorem dropA_map (g : β → γ) (ts : List (Int × β)) (s : Int) : (dropA ts s).map (fun q => (q.1, g q.2)) = dropA (ts.map fun q => (q.1, g q.2)) s := by
  unfold dropA
  rw [List.filter_map]
  rfl
theorem lkA_app : ∀ (ts : List (Int × β)) (s s1 : Int) (t1 : β), lkA (ts ++ [(s1, t1)]) s = match lkA ts s with
    | some t => some t
    | none => if s1 = s then some t1 else none
  | [], s, s1, t1 => rfl
  | q :: ts, s, s1, t1 => by
    have ih := lkA_app ts s s1 t1
    show (if q.1 = s then some q.2 else lkA (ts ++ [(s1, t1)]) s) = match (if q.1 = s then some q.2 else lkA ts s) with
      | some t => some t
      | none => if s1 = s then some t1 else none
    by_cases e : q.1 = s
    · rw [if_pos e, if_pos e]
    · rw [if_neg e, if_neg e]
      exact ih
theorem lkA_upd (s x : Int) (t : β) : ∀ ts : List (Int × β), lkA (ts.map (fun q => if q.1 = s then (q.1, t) else q)) x = if x = s then (lkA ts s).map (fun _ => t) else lkA ts x
  | [] => by split <;> rfl
  | q :: ts => by
    have ih := lkA_upd s x t ts
    show (if (if q.1 = s then (q.1, t) else q).1 = x then some (if q.1 = s then (q.1, t) else q).2 else lkA (ts.map (fun q => if q.1 = s then (q.1, t) else q)) x) = if x = s then Option.map (fun _ => t) (if q.1 = s then some q.2 else lkA ts s) else (if q.1 = x then some q.2 else lkA ts x)
    rw [ih]
    by_cases e : q.1 = s
    · rw [if_pos e, if_pos e]
      show (if q.1 = x then some t else (if x = s then Option.map (fun _ => t) (lkA ts s) else lkA ts x)) = if x = s then some t else (if q.1 = x then some q.2 else lkA ts x)
      by_cases z : x = s
      · rw [if_pos (show q.1 = x by rw [e, z]), if_pos z]
      · rw [if_neg (show ¬ q.1 = x from fun y => z (by rw [← y, e])), if_neg z, if_neg z, if_neg (show ¬ q.1 = x from fun y => z (by rw [← y, e]))]
    · rw [if_neg e, if_neg e]
      show (if q.1 = x then some q.2 else (if x = s then Option.map (fun _ => t) (lkA ts s) else lkA ts x)) = if x = s then Option.map (fun _ => t) (lkA ts s) else (if q.1 = x then some q.2 else lkA ts x)
      by_cases z : x = s
      · rw [if_pos z, if_pos z, if_neg (show ¬ q.1 = x from fun y => e (by rw [y, z]))]
      · rw [if_neg z, if_neg z]
theorem lk_putA (ts : List (Int × β)) (s : Int) (t : β) (x : Int) : lkA (putA ts s t) x = if x = s then some t else lkA ts x := by
  unfold putA
  by_cases q : (lkA ts s).isSome = true
  · rw [if_pos q, lkA_upd]
    obtain ⟨u, e⟩ := Option.isSome_iff_exists.mp q
    rw [e]
    rfl
  · rw [if_neg q, lkA_app]
    have q : lkA ts s = none := by
      cases z : lkA ts s with
      | none => rfl
      | some u => rw [z] at q; exact absurd rfl q
    by_cases e : x = s
    · rw [if_pos e, e, q]
      show (if s = s then some t else none) = some t
      rw [if_pos rfl]
    · rw [if_neg e]
      cases lkA ts x with
      | some u => rfl
      | none =>
        show (if s = x then some t else none) = none
        rw [if_neg (fun z => e z.symm)]
theorem lk_dropA : ∀ (ts : List (Int × β)) (s x : Int), lkA (dropA ts s) x = if x = s then none else lkA ts x
  | [], s, x => by
    show none = if x = s then none else none
    split <;> rfl
  | q :: ts, s, x => by
    have ih := lk_dropA ts s x
    unfold dropA at ih ⊢
    by_cases e : q.1 = s
    · rw [List.filter_cons_of_neg (by simp [e]), ih]
      by_cases z : x = s
      · rw [if_pos z, if_pos z]
      · rw [if_neg z, if_neg z]
        show lkA ts x = if q.1 = x then some q.2 else lkA ts x
        rw [if_neg (fun y => z (by rw [← y, e]))]
    · rw [List.filter_cons_of_pos (by simp [e])]
      show (if q.1 = x then some q.2 else lkA _ x) = if x = s then none else (if q.1 = x then some q.2 else lkA ts x)
      by_cases z : q.1 = x
      · rw [if_pos z, if_pos z, if_neg (fun y => e (by rw [z, y]))]
      · rw [if_neg z, if_neg z]
        exact ih
theorem lkA_in : ∀ {ks : List (Int × β)} {s : Int}, s ∈ ks.map Prod.fst → ∃ t, lkA ks s = some t
  | [], _, m => nomatch m
  | q :: ks, s, m => by
    unfold lkA
    by_cases e : q.1 = s
    · exact ⟨_, if_pos e⟩
    · rw [if_neg e]
      exact lkA_in ((List.mem_cons.mp m).resolve_left fun z => e z.symm)
theorem lkA_pair {ks : List (Int × β)} {s : Int} {t : β} (h : lkA ks s = some t) : (s, t) ∈ ks := by
  induction ks with
  | nil => cases h
  | cons r ks ih =>
    have h : (if r.1 = s then some r.2 else lkA ks s) = some t := h
    by_cases e : r.1 = s
    · rw [if_pos e] at h
      have h := Option.some.inj h
      rw [← e, ← h]
      exact .head _
    · rw [if_neg e] at h
      exact .tail _ (ih h)
theorem lkA_mem {ks : List (Int × β)} {s : Int} {t : β} (h : lkA ks s = some t) : s ∈ ks.map Prod.fst := List.mem_map.mpr ⟨_, lkA_pair h, rfl⟩
theorem keyA {ks : List (Int × β)} {s : Int} : s ∈ ks.map Prod.fst ↔ (lkA ks s).isSome = true := by
  constructor
  · intro m
    obtain ⟨t, e⟩ := lkA_in m
    rw [e]
    rfl
  · intro h
    cases q : lkA ks s with
    | none => rw [q] at h; cases h
    | some t => exact lkA_mem q
theorem lkA_get {ks : List (Int × β)} (nd : (ks.map Prod.fst).Nodup) {q : Int × β} (m : q ∈ ks) : lkA ks q.1 = some q.2 := by
  induction ks with
  | nil => nomatch m
  | cons r ks ih =>
    rw [List.map_cons, List.nodup_cons] at nd
    show (if r.1 = q.1 then some r.2 else lkA ks q.1) = some q.2
    rcases List.mem_cons.mp m with e | m
    · rw [e, if_pos rfl]
    · rw [if_neg (fun z => nd.1 (by rw [z]; exact List.mem_map.mpr ⟨q, m, rfl⟩))]
      exact ih nd.2 m
theorem nd_putA {ts : List (Int × β)} {s : Int} {t : β} (nd : (ts.map Prod.fst).Nodup) : ((putA ts s t).map Prod.fst).Nodup := by
  unfold putA
  cases q : (lkA ts s).isSome with
  | true =>
    rw [if_pos rfl, List.map_map]
    rw [show ts.map (Prod.fst ∘ fun q => if q.1 = s then (q.1, t) else q) = ts.map Prod.fst from List.map_congr_left fun p _ => by show (if p.1 = s then (p.1, t) else p).1 = p.1; split <;> rfl]
    exact nd
  | false =>
    rw [if_neg Bool.false_ne_true, List.map_append]
    refine List.nodup_append.mpr ⟨nd, List.nodup_cons.mpr ⟨(fun m => nomatch m), List.nodup_nil⟩, fun a am b bm e => ?_⟩
    have bm : b ∈ [s] := bm
    rw [List.mem_singleton.mp bm] at e
    subst e
    rw [keyA.mp am] at q
    cases q
theorem nd_dropA {ts : List (Int × β)} {s : Int} (nd : (ts.map Prod.fst).Nodup) : ((dropA ts s).map Prod.fst).Nodup :=
  nd.sublist (List.Sublist.map _ (List.filter_sublist ..))
theorem len_putA (ts : List (Int × β)) (s : Int) (t : β) : (putA ts s t).length ≤ ts.length + 1 := by
  unfold putA
  split
  · rw [List.length_map]; omega
  · rw [List.length_append]; exact Nat.le_refl _
theorem putA_new {ts : List (Int × β)} {s : Int} {t : β} (h : lkA ts s = none) : putA ts s t = ts ++ [(s, t)] := by
  unfold putA
  rw [h]
  rfl
theorem putA_in {ts : List (Int × β)} {s : Int} {t : β} {q : Int × β} (m : q ∈ putA ts s t) : q = (s, t) ∨ q ∈ ts := by
  unfold putA at m
  split at m
  · obtain ⟨p, hp, e⟩ := List.mem_map.mp m
    by_cases z : p.1 = s
    · rw [if_pos z] at e
      left
      rw [← e, z]
    · rw [if_neg z] at e
      right
      rw [← e]
      exact hp
  · rcases List.mem_append.mp m with m | m
    · exact .inr m
    · exact .inl (List.mem_singleton.mp m)
theorem dropA_in {ts : List (Int × β)} {s : Int} {q : Int × β} (m : q ∈ dropA ts s) : q ∈ ts ∧ q.1 ≠ s := by
  obtain ⟨a, b⟩ := List.mem_filter.mp m
  exact ⟨a, by simpa using b⟩
end
/-- a dict of tuples at d: what its tuples hold is told by f -/
def TupD {β : Type} (f : β → List V) (H : Hp) (d : Addr) (ms : List (Int × β)) : Prop := ∃ es : List (Int × (Addr × β)), H d = some (.dK (dA (fun p : Addr × β => V.ref p.1) es)) ∧ (∀ e ∈ es, H e.2.1 = some (.tup (f e.2.2))) ∧ es.map (fun e => (e.1, e.2.2)) = ms
section
variable {β : Type} {f : β → List V} {H H' : Hp} {d : Addr} {ms : List (Int × β)} {ds : List Addr}
theorem TupD.nil (h : H d = some (.dK [])) : TupD f H d [] := ⟨[], h, (fun e m => nomatch m), rfl⟩
theorem TupD.at_ (T : TupD f H d ms) : ∃ kv, H d = some (.dK kv) := by
  obtain ⟨es, h, _⟩ := T
  exact ⟨_, h⟩
theorem TupD.fr (T : TupD f H d ms) (X : Fr ds H H') (n : d ∉ ds) (nt : ∀ a ∈ ds, ∀ vs, H a ≠ some (.tup vs)) : TupD f H' d ms := by
  obtain ⟨es, h, h2, h3⟩ := T
  exact ⟨es, X.dK h n, fun e m => X.tup (h2 e m) fun z => nt _ z _ (h2 e m), h3⟩
theorem TupD.fr0 (T : TupD f H d ms) (X : Fr [] H H') : TupD f H' d ms := T.fr X not_nil fun a m => nomatch m
theorem lk_es {es : List (Int × (Addr × β))} (h3 : es.map (fun e => (e.1, e.2.2)) = ms) (k : Int) : lkA ms k = (lkA es k).map Prod.snd := by
  rw [← h3]
  exact lkA_map Prod.snd es k
theorem TupD.none_ (T : TupD f H d ms) {k : Int} (e : lkA ms k = none) : DGet H d (.int k) none := by
  obtain ⟨es, h, h2, h3⟩ := T
  have g := DGet.k (k := Sum.inl k) h
  rw [valV_dA] at g
  rw [lk_es h3] at e
  cases q : lkA es k with
  | none => rw [q] at g; exact g
  | some p => rw [q] at e; cases e
theorem TupD.some_ (T : TupD f H d ms) {k : Int} {v : β} (e : lkA ms k = some v) : ∃ a, DGet H d (.int k) (some (.ref a)) ∧ H a = some (.tup (f v)) := by
  obtain ⟨es, h, h2, h3⟩ := T
  have g := DGet.k (k := Sum.inl k) h
  rw [valV_dA] at g
  rw [lk_es h3] at e
  cases q : lkA es k with
  | none => rw [q] at e; cases e
  | some p =>
    rw [q] at g e
    injection e with e
    have e : p.2 = v := e
    refine ⟨p.1, g, ?_⟩
    rw [← e]
    exact h2 _ (lkA_pair q)
theorem TupD.has (T : TupD f H d ms) (k : Int) : ∃ o, DGet H d (.int k) o ∧ o.isSome = (lkA ms k).isSome := by
  cases q : lkA ms k with
  | none => exact ⟨_, T.none_ q, rfl⟩
  | some v =>
    obtain ⟨a, g, _⟩ := T.some_ q
    exact ⟨_, g, rfl⟩
theorem TupD.len (T : TupD f H d ms) : ∃ kv, H d = some (.dK kv) ∧ kv.length = ms.length ∧ kv.map (·.1) = (ms.map Prod.fst).map Sum.inl := by
  obtain ⟨es, h, h2, h3⟩ := T
  refine ⟨_, h, by rw [← h3]; unfold dA; rw [List.length_map, List.length_map], ?_⟩
  rw [← h3]
  unfold dA
  rw [List.map_map, List.map_map, List.map_map]
  rfl
theorem TupD.put (T : TupD f H d ms) {a : Addr} {v : β} (k : Int) (ha : H a = some (.tup (f v))) (l : ms.length ≤ 100000) : ∃ kv, DPut H d (.int k) (.ref a) (upd H d (.dK kv)) ∧ TupD f (upd H d (.dK kv)) d (putA ms k v) := by
  obtain ⟨es, h, h2, h3⟩ := T
  have hl : es.length = ms.length := by rw [← h3, List.length_map]
  have g := DPut.k (k := Sum.inl k) (v := V.ref a) h (by unfold dA; rw [List.length_map, hl]; exact Nat.lt_of_le_of_lt l (by decide))
  have e := put_dA (fun p : Addr × β => V.ref p.1) es k (a, v)
  have e : putK (dA (fun p : Addr × β => V.ref p.1) es) (.inl k) (.ref a) = _ := e
  rw [e] at g
  refine ⟨_, g, putA es k (a, v), upd_same, fun x m => ?_, ?_⟩
  · have hx : H x.2.1 = some (.tup (f x.2.2)) := by
      rcases putA_in m with z | z
      · rw [z]; exact ha
      · exact h2 x z
    rw [upd_ne (fun z => by rw [z, h] at hx; cases hx)]
    exact hx
  · rw [← h3]
    exact putA_map Prod.snd es k (a, v)
theorem TupD.drop (T : TupD f H d ms) (k : Int) : ∃ kv, H d = some (.dK kv) ∧ (valV kv (.inl k)).isSome = (lkA ms k).isSome ∧ TupD f (upd H d (.dK (dropK kv (.inl k)))) d (dropA ms k) := by
  obtain ⟨es, h, h2, h3⟩ := T
  refine ⟨_, h, by rw [valV_dA, lk_es h3, Option.isSome_map, Option.isSome_map], dropA es k, ?_, fun x m => ?_, ?_⟩
  · rw [upd_same, drop_dA]
  · have hx := h2 x (dropA_in m).1
    rw [upd_ne (fun z => by rw [z, h] at hx; cases hx)]
    exact hx
  · rw [← h3]
    exact dropA_map Prod.snd es k
end
/-- a constant of the module -/
def GcP (mg : Str → Option Value) (x : Str) (v : V) : Prop := ∃ u, mg x = some u ∧ RelV v u
/-- an __init__ with one default, an empty tuple -/
def IniE (K : PySem.W.Frag) (C : Addr) (q : Str) (st : Stmt) : Prop := ∃ (f a : Addr) (fd : FuncData), Mk K C f ∧ FunD K "__init__" q (C8.fnArgs st) (C8.fnBody st) (C8.fnScope st) [.ref a] [] f fd ∧ ∀ H, SqT K H a []
section
variable {K : PySem.W.Frag} {h : Heap} {mg : Str → Option Value}
theorem gcs_mk {x s : Str} {t : Tok} (X : K.In h) (G : h.Ns mainGlobals mg) (e : PySem.W.nsIn K mainGlobals x = some (some (.str s t))) : GcP mg x (.str s) := ⟨_, PySem.W.mg_of X G e, _, rfl⟩
theorem gci_mk {x : Str} {i : Int} {t : Tok} (X : K.In h) (G : h.Ns mainGlobals mg) (e : PySem.W.nsIn K mainGlobals x = some (some (.int i t))) : GcP mg x (.int i) := ⟨_, PySem.W.mg_of X G e, _, rfl⟩
theorem tup4s_mk {x : Str} {a : Addr} {s1 s2 s3 s4 : Str} {t1 t2 t3 t4 : Tok} {n : Nat} {od : Option Addr} {osl : Array (Option Value)} (X : K.In h) (G : h.Ns mainGlobals mg) (e : PySem.W.nsIn K mainGlobals x = some (some (.ref a))) (l : K.lookup a = some ⟨.type "tuple", od, .seq #[.str s1 t1, .str s2 t2, .str s3 t3, .str s4 t4] n, osl⟩) : TupP K mg x [.str s1, .str s2, .str s3, .str s4] :=
  ⟨a, PySem.W.mg_of X G e, fun _ => .inr ⟨_, _, _, l, rfl, rfl, by show 4 ≤ sizeLine; decide, .cons ⟨_, rfl⟩ (.cons ⟨_, rfl⟩ (.cons ⟨_, rfl⟩ (.cons ⟨_, rfl⟩ .nil)))⟩⟩
theorem iniE_mk {C f TT e : Addr} {q : Str} {st : Stmt} {oc : Value} {od an : Option Addr} {osl : Array (Option Value)} {kV doc pm cdv ct : Value} {o1 : Value} {o2 : Option Addr} {o3 : Array (Option Value)} {n1 n2 : Nat} {p2 : Option Addr} {p3 : Array (Option Value)} (m : PySem.W.makesIn K C = true) (a : PySem.W.findIn K (.ref C) "__init__" = some (some (.ref f))) (i : PySem.W.isFn K (.ref f) = true) (kc : PySem.W.keepIn K (.ref C) = true)
    (l : K.lookup f = some ⟨oc, od, .func (PySem.W.fnOf "__init__" q (C8.fnArgs st) (C8.fnBody st) (C8.fnScope st) (.ref TT) kV doc pm an cdv ct), osl⟩) (c : PySem.W.codeIn K cdv q = true) (k : PySem.W.keepIn K (.ref f) = true)
    (lT : K.lookup TT = some ⟨o1, o2, .seq #[.ref e] n1, o3⟩) (le : K.lookup e = some ⟨.type "tuple", p2, .seq #[] n2, p3⟩) : IniE K C q st :=
  ⟨f, e, _, ⟨m, a, i, kc⟩, ⟨⟨oc, od, _, kV, doc, pm, an, cdv, ct, osl, rfl, l, c, .inr ⟨fun z => (nomatch z), TT, _, [.ref e], n1, rfl, lT, rfl, .cons rfl .nil⟩, .inl rfl⟩, k⟩, fun H => .inr ⟨_, #[], n2, le, rfl, rfl, Nat.zero_le _, .nil⟩⟩
/-- the ranks of marks, a written dict -/
def RanksP (K : PySem.W.Frag) (w : World) (mg : Str → Option Value) (x : Str) : Prop := ∃ p : Addr, mg x = some (.ref p) ∧ KDct K w p "alive" (.int 1) ∧ KDct K w p "suspect" (.int 2) ∧ KDct K w p "dead" (.int 3) ∧ KDct K w p "left" (.int 4)
theorem ranks_mk {w : World} {x : Str} {p : Addr} {es : Array DictEntry} {n : Nat} {t1 t2 t3 t4 : Tok} (X : K.In h) (G : h.Ns mainGlobals mg) (e : PySem.W.nsIn K mainGlobals x = some (some (.ref p))) (l : K.lookup p = some ⟨.type "dict", none, .dict es n, #[]⟩) (hk : PySem.W.KeysLit w.params es.toList)
    (n1 : PySem.W.nsIn K p "alive" = some (some (.int 1 t1))) (n2 : PySem.W.nsIn K p "suspect" = some (some (.int 2 t2))) (n3 : PySem.W.nsIn K p "dead" = some (some (.int 3 t3))) (n4 : PySem.W.nsIn K p "left" = some (some (.int 4 t4))) : RanksP K w mg x :=
  ⟨p, PySem.W.mg_of X G e, ⟨es, n, _, l, hk, n1, _, rfl⟩, ⟨es, n, _, l, hk, n2, _, rfl⟩, ⟨es, n, _, l, hk, n3, _, rfl⟩, ⟨es, n, _, l, hk, n4, _, rfl⟩⟩
end
/-! ### sayings -/
structure Say where
  seat : Int
  life : Int
  mark : Str
  worth : Str
def Say.vs (s : Say) : List V := [.int s.seat, .int s.life, .str s.mark, .str s.worth]
def marksL : List Str := ["alive", "suspect", "dead", "left"]
def markN (m : Str) : Nat := marksL.idxOf m
def rankI (s : Say) : Int := 4 * s.life + (markN s.mark : Int) + 1
def rankO : Option Say → Int
  | none => 0
  | some s => rankI s
def plainS : Str := "abcdefghijklmnopqrstuvwxyz0123456789"
def Plain (w : Str) : Prop := ∀ c ∈ w.cps.toList, c ∈ plainS.cps.toList
structure Say.Ok (r : Int) (s : Say) : Prop where
  s0 : 0 ≤ s.seat
  s1 : s.seat < r
  l0 : 0 ≤ s.life
  l1 : s.life < 10 ^ 60
  m : s.mark ∈ marksL
  w : s.worth.length ≤ 12
  p : Plain s.worth
theorem mark_lt {m : Str} (h : m ∈ marksL) : markN m < 4 := List.idxOf_lt_length_of_mem h
theorem mark_at {m : Str} (h : m ∈ marksL) : marksL[markN m]? = some m ∧ ∀ j, j < markN m → marksL[j]? ≠ some m := by
  have e := List.idxOf_lt_length_of_mem h
  refine ⟨?_, fun j hj => ?_⟩
  · unfold markN
    rw [List.getElem?_eq_getElem e, List.getElem_idxOf]
  · intro z
    obtain ⟨h1, h2⟩ := List.getElem?_eq_some_iff.mp z
    have := List.not_of_lt_findIdx (p := (· == m)) (xs := marksL) (i := j) hj
    rw [h2] at this
    simp at this
theorem rank_pos {s : Say} {r : Int} (o : s.Ok r) : 0 < rankI s := by
  unfold rankI
  have := o.l0
  omega
theorem foldl_ones : ∀ (cs : List Nat) (acc : Array Nat), ((cs.map fun c => (⟨#[c]⟩ : Str)).foldl (fun acc p => acc ++ ("" : Str).cps ++ p.cps) acc).toList = acc.toList ++ cs
  | [], acc => by simp
  | c :: cs, acc => by
    rw [List.map_cons, List.foldl_cons, foldl_ones cs]
    have e : ("" : Str).cps = #[] := by decide +kernel
    rw [e]
    simp
theorem join_ones (cs : List Nat) : (Txt.join ("" : Str) (cs.map fun c => (⟨#[c]⟩ : Str))).cps.toList = cs := by
  cases cs with
  | nil => rfl
  | cons c cs =>
    have h := foldl_ones cs #[c]
    exact h
theorem ones_len : ∀ cs : List Nat, (((cs.map fun c => (⟨#[c]⟩ : Str)).map fun x : Str => x.length).sum) = cs.length
  | [] => rfl
  | c :: cs => by
    rw [List.map_cons, List.map_cons, List.sum_cons, ones_len cs, List.length_cons]
    show 1 + cs.length = _
    omega
theorem join_worth {cs : List Nat} {m : Nat} (l : cs.length ≤ m) (h : ∀ c ∈ cs, c ∈ plainS.cps.toList) : (Txt.join ("" : Str) (cs.map fun c => (⟨#[c]⟩ : Str))).length ≤ m ∧ Plain (Txt.join ("" : Str) (cs.map fun c => (⟨#[c]⟩ : Str))) := by
  refine ⟨?_, fun c hc => ?_⟩
  · show (Txt.join ("" : Str) (cs.map fun c => (⟨#[c]⟩ : Str))).cps.size ≤ m
    rw [← Array.length_toList, join_ones]
    exact l
  · rw [join_ones] at hc
    exact h c hc
def latS (ms : List (Int × Say)) (s : Say) : List (Int × Say) := if rankO (lkA ms s.seat) < rankI s then putA ms s.seat s else ms
def latL (ss : List Say) : List (Int × Say) := ss.foldl latS []
theorem latL_snoc (ss : List Say) (s : Say) : latL (ss ++ [s]) = latS (latL ss) s := by
  unfold latL
  rw [List.foldl_append]
  rfl
end UF

set_option Elab.async false
set_option maxRecDepth 100000
set_option maxHeartbeats 4000000
namespace K27
open PySem PySem.Spec PyProof.Rows L2 C8 LamX UF

def top (i : Nat) : Stmt := PySem.Challenge.pw_livingroll_k27_doubts_due.main.body.getD i (.Pass ⟨0, 0, 0, 0⟩)

abbrev s_is_integer : Stmt := top 7
abbrev n_is_integer : List Str := ["value"]
theorem sc_is_integer : FnScope n_is_integer ["value"] (C8.fnScope s_is_integer) := ⟨rfl, rfl, rfl, by decide +kernel, rfl, by decide +kernel, by decide +kernel⟩

abbrev s_is_below : Stmt := top 8
abbrev n_is_below : List Str := ["value", "limit"]
theorem sc_is_below : FnScope n_is_below ["value", "limit"] (C8.fnScope s_is_below) := ⟨rfl, rfl, rfl, by decide +kernel, rfl, by decide +kernel, by decide +kernel⟩

abbrev s_is_plain : Stmt := top 9
abbrev n_is_plain : List Str := ["value", "most", "sign"]
theorem sc_is_plain : FnScope n_is_plain ["value", "most"] (C8.fnScope s_is_plain) := ⟨rfl, rfl, rfl, by decide +kernel, rfl, by decide +kernel, by decide +kernel⟩

abbrev s_check_field : Stmt := top 12
abbrev n_check_field : List Str := ["field", "value", "least", "most"]
theorem sc_check_field : FnScope n_check_field ["field", "value", "least", "most"] (C8.fnScope s_check_field) := ⟨rfl, rfl, rfl, by decide +kernel, rfl, by decide +kernel, by decide +kernel⟩

abbrev s_check_saying : Stmt := top 19
abbrev n_check_saying : List Str := ["setting", "saying"]
theorem sc_check_saying : FnScope n_check_saying ["setting", "saying"] (C8.fnScope s_check_saying) := ⟨rfl, rfl, rfl, by decide +kernel, rfl, by decide +kernel, by decide +kernel⟩

abbrev s_is_saying : Stmt := top 20
abbrev n_is_saying : List Str := ["setting", "value", "seat", "life", "mark", "worth"]
theorem sc_is_saying : FnScope n_is_saying ["setting", "value"] (C8.fnScope s_is_saying) := ⟨rfl, rfl, rfl, by decide +kernel, rfl, by decide +kernel, by decide +kernel⟩

abbrev s_is_worth : Stmt := top 21
abbrev n_is_worth : List Str := ["value"]
theorem sc_is_worth : FnScope n_is_worth ["value"] (C8.fnScope s_is_worth) := ⟨rfl, rfl, rfl, by decide +kernel, rfl, by decide +kernel, by decide +kernel⟩

abbrev s_rank : Stmt := top 22
abbrev n_rank : List Str := ["saying"]
theorem sc_rank : FnScope n_rank ["saying"] (C8.fnScope s_rank) := ⟨rfl, rfl, rfl, by decide +kernel, rfl, by decide +kernel, by decide +kernel⟩

abbrev s_format_saying : Stmt := top 23
abbrev n_format_saying : List Str := ["saying", "seat", "life", "mark", "worth", "shown"]
theorem sc_format_saying : FnScope n_format_saying ["saying"] (C8.fnScope s_format_saying) := ⟨rfl, rfl, rfl, by decide +kernel, rfl, by decide +kernel, by decide +kernel⟩

abbrev s_format_worth : Stmt := top 24
abbrev n_format_worth : List Str := ["worth"]
theorem sc_format_worth : FnScope n_format_worth ["worth"] (C8.fnScope s_format_worth) := ⟨rfl, rfl, rfl, by decide +kernel, rfl, by decide +kernel, by decide +kernel⟩

abbrev s_latest_of : Stmt := top 27
abbrev n_latest_of : List Str := ["setting", "sayings", "latest", "saying"]
theorem sc_latest_of : FnScope n_latest_of ["setting", "sayings"] (C8.fnScope s_latest_of) := ⟨rfl, rfl, rfl, by decide +kernel, rfl, by decide +kernel, by decide +kernel⟩

abbrev s_law_box : Stmt := top 29
abbrev n_law_box : List Str := ["script", "cells", "cell"]
theorem sc_law_box : FnScope n_law_box ["script"] (C8.fnScope s_law_box) := ⟨rfl, rfl, rfl, by decide +kernel, rfl, by decide +kernel, by decide +kernel⟩

abbrev s_law_draw : Stmt := top 30
abbrev n_law_draw : List Str := ["box", "top", "digit", "cells", "place", "cell", "mixed"]
theorem sc_law_draw : FnScope n_law_draw ["box", "top"] (C8.fnScope s_law_draw) := ⟨rfl, rfl, rfl, by decide +kernel, rfl, by decide +kernel, by decide +kernel⟩

abbrev s_law_bits : Stmt := top 31
abbrev n_law_bits : List Str := ["box", "way"]
theorem sc_law_bits : FnScope n_law_bits ["box"] (C8.fnScope s_law_bits) := ⟨rfl, rfl, rfl, by decide +kernel, rfl, by decide +kernel, by decide +kernel⟩

abbrev s_law_marks : Stmt := top 32
abbrev n_law_marks : List Str := []
theorem sc_law_marks : FnScope n_law_marks [] (C8.fnScope s_law_marks) := ⟨rfl, rfl, rfl, by decide +kernel, rfl, by decide +kernel, by decide +kernel⟩

abbrev s_law_mark : Stmt := top 33
abbrev n_law_mark : List Str := ["box", "way"]
theorem sc_law_mark : FnScope n_law_mark ["box"] (C8.fnScope s_law_mark) := ⟨rfl, rfl, rfl, by decide +kernel, rfl, by decide +kernel, by decide +kernel⟩

abbrev s_law_worth : Stmt := top 34
abbrev n_law_worth : List Str := ["box", "letters", "many", "k"]
theorem sc_law_worth : FnScope n_law_worth ["box"] (C8.fnScope s_law_worth) := ⟨rfl, rfl, rfl, by decide +kernel, rfl, by decide +kernel, by decide +kernel⟩

abbrev s_law_setting : Stmt := top 35
abbrev n_law_setting : List Str := ["box", "bits", "way", "room", "wait"]
theorem sc_law_setting : FnScope n_law_setting ["box", "bits"] (C8.fnScope s_law_setting) := ⟨rfl, rfl, rfl, by decide +kernel, rfl, by decide +kernel, by decide +kernel⟩

abbrev s_law_made : Stmt := top 36
abbrev n_law_made : List Str := ["box", "bits", "ring", "made", "base", "pool", "rows", "spot", "word", "side", "k"]
theorem sc_law_made : FnScope n_law_made ["box"] (C8.fnScope s_law_made) := ⟨rfl, rfl, rfl, by decide +kernel, rfl, by decide +kernel, by decide +kernel⟩

abbrev s_law_next_saying : Stmt := top 37
abbrev n_law_next_saying : List Str := ["box", "side", "spot", "rows", "mark", "same", "held"]
theorem sc_law_next_saying : FnScope n_law_next_saying ["box", "side", "spot"] (C8.fnScope s_law_next_saying) := ⟨rfl, rfl, rfl, by decide +kernel, rfl, by decide +kernel, by decide +kernel⟩

abbrev s_law_doubted_life : Stmt := top 38
abbrev n_law_doubted_life : List Str := ["box", "side", "spot", "way", "rows"]
theorem sc_law_doubted_life : FnScope n_law_doubted_life ["box", "side", "spot"] (C8.fnScope s_law_doubted_life) := ⟨rfl, rfl, rfl, by decide +kernel, rfl, by decide +kernel, by decide +kernel⟩

abbrev s_law_doubt : Stmt := top 39
abbrev n_law_doubt : List Str := ["box", "doubts", "side", "spot", "now", "number", "clocks"]
theorem sc_law_doubt : FnScope n_law_doubt ["box", "doubts", "side", "spot", "now"] (C8.fnScope s_law_doubt) := ⟨rfl, rfl, rfl, by decide +kernel, rfl, by decide +kernel, by decide +kernel⟩

abbrev s_law_moment : Stmt := top 40
abbrev n_law_moment : List Str := ["box", "side", "now", "clocks", "way", "spots", "spot"]
theorem sc_law_moment : FnScope n_law_moment ["box", "side", "now"] (C8.fnScope s_law_moment) := ⟨rfl, rfl, rfl, by decide +kernel, rfl, by decide +kernel, by decide +kernel⟩

abbrev s_law_due : Stmt := top 41
abbrev n_law_due : List Str := ["side", "now", "rows", "clocks", "found", "spot"]
theorem sc_law_due : FnScope n_law_due ["side", "now"] (C8.fnScope s_law_due) := ⟨rfl, rfl, rfl, by decide +kernel, rfl, by decide +kernel, by decide +kernel⟩

abbrev s_law_is_whole : Stmt := top 42
abbrev n_law_is_whole : List Str := ["answer"]
theorem sc_law_is_whole : FnScope n_law_is_whole ["answer"] (C8.fnScope s_law_is_whole) := ⟨rfl, rfl, rfl, by decide +kernel, rfl, by decide +kernel, by decide +kernel⟩

abbrev s_law_sayings_are : Stmt := top 43
abbrev n_law_sayings_are : List Str := ["answer", "want", "k", "one"]
theorem sc_law_sayings_are : FnScope n_law_sayings_are ["answer", "want"] (C8.fnScope s_law_sayings_are) := ⟨rfl, rfl, rfl, by decide +kernel, rfl, by decide +kernel, by decide +kernel⟩

abbrev s_law_due_holds : Stmt := top 44
abbrev n_law_due_holds : List Str := ["doubts", "book", "side", "now", "want", "rows", "kept", "answer", "spot"]
theorem sc_law_due_holds : FnScope n_law_due_holds ["doubts", "book", "side", "now"] (C8.fnScope s_law_due_holds) := ⟨rfl, rfl, rfl, by decide +kernel, rfl, by decide +kernel, by decide +kernel⟩

abbrev s_law_since_holds : Stmt := top 45
abbrev n_law_since_holds : List Str := ["doubts", "side", "spots", "clocks", "spot", "answer"]
theorem sc_law_since_holds : FnScope n_law_since_holds ["doubts", "side", "spots"] (C8.fnScope s_law_since_holds) := ⟨rfl, rfl, rfl, by decide +kernel, rfl, by decide +kernel, by decide +kernel⟩

abbrev s_law_row_holds : Stmt := top 46
abbrev n_law_row_holds : List Str := ["box", "made", "now", "doubts", "book", "side", "pool", "spot", "way", "each", "clocks", "saying", "rows"]
theorem sc_law_row_holds : FnScope n_law_row_holds ["box", "made", "now"] (C8.fnScope s_law_row_holds) := ⟨rfl, rfl, rfl, by decide +kernel, rfl, by decide +kernel, by decide +kernel⟩

abbrev s_law : Stmt := top 47
abbrev n_law : List Str := ["script", "box", "many", "now", "made", "row", "which", "asked", "one", "spots"]
theorem sc_law : FnScope n_law ["script"] (C8.fnScope s_law) := ⟨rfl, rfl, rfl, by decide +kernel, rfl, by decide +kernel, by decide +kernel⟩

abbrev s_Setting__init : Stmt := inClass (top 11) 5
abbrev n_Setting__init : List Str := ["self", "bits", "patience", "room", "grace", "helpers"]
theorem sc_Setting__init : FnScope n_Setting__init ["self", "bits", "patience", "room", "grace", "helpers"] (C8.fnScope s_Setting__init) := ⟨rfl, rfl, rfl, by decide +kernel, rfl, by decide +kernel, by decide +kernel⟩

abbrev s_Setting_seats : Stmt := inClass (top 11) 6
abbrev n_Setting_seats : List Str := ["self"]
theorem sc_Setting_seats : FnScope n_Setting_seats ["self"] (C8.fnScope s_Setting_seats) := ⟨rfl, rfl, rfl, by decide +kernel, rfl, by decide +kernel, by decide +kernel⟩

structure T_Setting (K : PySem.W.Frag) (mg : Str → Option Value) (C : Addr) : Prop where
  cl : Cls K C
  mgC : mg "Setting" = some (.ref C)
  n_bits : NoAttr K C "bits"
  n_patience : NoAttr K C "patience"
  n_room : NoAttr K C "room"
  n_grace : NoAttr K C "grace"
  n_helpers : NoAttr K C "helpers"
  k_MOST_BITS : ConP K C "MOST_BITS" 8
  k_MOST_PATIENCE : ConP K C "MOST_PATIENCE" 6
  k_MOST_ROOM : ConP K C "MOST_ROOM" 64
  k_MOST_GRACE : ConP K C "MOST_GRACE" 200
  k_MOST_HELPERS : ConP K C "MOST_HELPERS" 3
  ini : IniD K C "Setting.__init__" s_Setting__init [("grace", .int 6), ("helpers", .int 1)]
  p_seats : PropP K C "seats" "Setting.seats" s_Setting_seats

abbrev s_Doubts__init : Stmt := inClass (top 14) 0
abbrev n_Doubts__init : List Str := ["self", "setting"]
theorem sc_Doubts__init : FnScope n_Doubts__init ["self", "setting"] (C8.fnScope s_Doubts__init) := ⟨rfl, rfl, rfl, by decide +kernel, rfl, by decide +kernel, by decide +kernel⟩

abbrev s_Doubts_doubt : Stmt := inClass (top 14) 1
abbrev n_Doubts_doubt : List Str := ["self", "seat", "life", "now"]
theorem sc_Doubts_doubt : FnScope n_Doubts_doubt ["self", "seat", "life", "now"] (C8.fnScope s_Doubts_doubt) := ⟨rfl, rfl, rfl, by decide +kernel, rfl, by decide +kernel, by decide +kernel⟩

abbrev s_Doubts_lift : Stmt := inClass (top 14) 2
abbrev n_Doubts_lift : List Str := ["self", "seat"]
theorem sc_Doubts_lift : FnScope n_Doubts_lift ["self", "seat"] (C8.fnScope s_Doubts_lift) := ⟨rfl, rfl, rfl, by decide +kernel, rfl, by decide +kernel, by decide +kernel⟩

abbrev s_Doubts_since : Stmt := inClass (top 14) 3
abbrev n_Doubts_since : List Str := ["self", "seat"]
theorem sc_Doubts_since : FnScope n_Doubts_since ["self", "seat"] (C8.fnScope s_Doubts_since) := ⟨rfl, rfl, rfl, by decide +kernel, rfl, by decide +kernel, by decide +kernel⟩

abbrev s_Doubts_due : Stmt := inClass (top 14) 4
abbrev n_Doubts_due : List Str := ["self", "book", "now", "rows", "seat", "row"]
theorem sc_Doubts_due : FnScope n_Doubts_due ["self", "book", "now"] (C8.fnScope s_Doubts_due) := ⟨rfl, rfl, rfl, by decide +kernel, rfl, by decide +kernel, by decide +kernel⟩

abbrev s_Doubts_is_due : Stmt := inClass (top 14) 5
abbrev n_Doubts_is_due : List Str := ["self", "row", "now", "life", "start"]
theorem sc_Doubts_is_due : FnScope n_Doubts_is_due ["self", "row", "now"] (C8.fnScope s_Doubts_is_due) := ⟨rfl, rfl, rfl, by decide +kernel, rfl, by decide +kernel, by decide +kernel⟩

structure T_Doubts (K : PySem.W.Frag) (mg : Str → Option Value) (C : Addr) : Prop where
  cl : Cls K C
  mgC : mg "Doubts" = some (.ref C)
  n_setting : NoAttr K C "setting"
  n_clocks : NoAttr K C "_clocks"
  ini : IniP K C "Doubts.__init__" s_Doubts__init ["self", "setting"]
  m_doubt : MethP K C "doubt" "Doubts.doubt" s_Doubts_doubt ["self", "seat", "life", "now"]
  m_lift : MethP K C "lift" "Doubts.lift" s_Doubts_lift ["self", "seat"]
  m_since : MethP K C "since" "Doubts.since" s_Doubts_since ["self", "seat"]
  m_due : MethP K C "due" "Doubts.due" s_Doubts_due ["self", "book", "now"]
  m_is_due : MethP K C "_is_due" "Doubts._is_due" s_Doubts_is_due ["self", "row", "now"]

abbrev s_Book__init : Stmt := inClass (top 26) 0
abbrev n_Book__init : List Str := ["self", "setting", "sayings"]
theorem sc_Book__init : FnScope n_Book__init ["self", "setting", "sayings"] (C8.fnScope s_Book__init) := ⟨rfl, rfl, rfl, by decide +kernel, rfl, by decide +kernel, by decide +kernel⟩

abbrev s_Book_take : Stmt := inClass (top 26) 1
abbrev n_Book_take : List Str := ["self", "saying"]
theorem sc_Book_take : FnScope n_Book_take ["self", "saying"] (C8.fnScope s_Book_take) := ⟨rfl, rfl, rfl, by decide +kernel, rfl, by decide +kernel, by decide +kernel⟩

abbrev s_Book_of : Stmt := inClass (top 26) 2
abbrev n_Book_of : List Str := ["self", "seat"]
theorem sc_Book_of : FnScope n_Book_of ["self", "seat"] (C8.fnScope s_Book_of) := ⟨rfl, rfl, rfl, by decide +kernel, rfl, by decide +kernel, by decide +kernel⟩

abbrev s_Book_rows : Stmt := inClass (top 26) 3
abbrev n_Book_rows : List Str := ["self", "seat"]
theorem sc_Book_rows : FnScope n_Book_rows ["self"] (C8.fnScope s_Book_rows) := ⟨rfl, rfl, rfl, by decide +kernel, rfl, by decide +kernel, by decide +kernel⟩

abbrev s_Book_held : Stmt := inClass (top 26) 4
abbrev n_Book_held : List Str := ["self"]
theorem sc_Book_held : FnScope n_Book_held ["self"] (C8.fnScope s_Book_held) := ⟨rfl, rfl, rfl, by decide +kernel, rfl, by decide +kernel, by decide +kernel⟩

abbrev s_Book_text : Stmt := inClass (top 26) 9
abbrev n_Book_text : List Str := ["self", "row"]
theorem sc_Book_text : FnScope n_Book_text ["self"] (C8.fnScope s_Book_text) := ⟨rfl, rfl, rfl, by decide +kernel, rfl, by decide +kernel, by decide +kernel⟩

abbrev s_Book__contains : Stmt := inClass (top 26) 11
abbrev n_Book__contains : List Str := ["self", "seat"]
theorem sc_Book__contains : FnScope n_Book__contains ["self", "seat"] (C8.fnScope s_Book__contains) := ⟨rfl, rfl, rfl, by decide +kernel, rfl, by decide +kernel, by decide +kernel⟩

abbrev s_Book__len : Stmt := inClass (top 26) 12
abbrev n_Book__len : List Str := ["self"]
theorem sc_Book__len : FnScope n_Book__len ["self"] (C8.fnScope s_Book__len) := ⟨rfl, rfl, rfl, by decide +kernel, rfl, by decide +kernel, by decide +kernel⟩

abbrev s_Book__or : Stmt := inClass (top 26) 13
abbrev n_Book__or : List Str := ["self", "other"]
theorem sc_Book__or : FnScope n_Book__or ["self", "other"] (C8.fnScope s_Book__or) := ⟨rfl, rfl, rfl, by decide +kernel, rfl, by decide +kernel, by decide +kernel⟩

abbrev s_Book__eq : Stmt := inClass (top 26) 14
abbrev n_Book__eq : List Str := ["self", "other"]
theorem sc_Book__eq : FnScope n_Book__eq ["self", "other"] (C8.fnScope s_Book__eq) := ⟨rfl, rfl, rfl, by decide +kernel, rfl, by decide +kernel, by decide +kernel⟩

structure T_Book (K : PySem.W.Frag) (mg : Str → Option Value) (C : Addr) : Prop where
  cl : Cls K C
  mgC : mg "Book" = some (.ref C)
  n_setting : NoAttr K C "setting"
  n_latest : NoAttr K C "_latest"
  ini : IniE K C "Book.__init__" s_Book__init
  m_take : MethP K C "take" "Book.take" s_Book_take ["self", "saying"]
  m_of : MethP K C "of" "Book.of" s_Book_of ["self", "seat"]
  m_rows : MethP K C "rows" "Book.rows" s_Book_rows ["self"]
  m_held : MethP K C "held" "Book.held" s_Book_held ["self"]
  m_text : MethP K C "text" "Book.text" s_Book_text ["self"]
  m_contains : MethP K C "__contains__" "Book.__contains__" s_Book__contains ["self", "seat"]
  m_len : MethP K C "__len__" "Book.__len__" s_Book__len ["self"]
  m_or : MethP K C "__or__" "Book.__or__" s_Book__or ["self", "other"]
  m_eq : MethP K C "__eq__" "Book.__eq__" s_Book__eq ["self", "other"]

-- const MARK_RANKS
structure Ds (K : PySem.W.Frag) (mg : Str → Option Value) (C_Setting C_Doubts C_Book : Addr) : Prop where
  d_is_integer : D0 K mg "is_integer" s_is_integer ["value"]
  d_is_below : D0 K mg "is_below" s_is_below ["value", "limit"]
  d_is_plain : D0 K mg "is_plain" s_is_plain ["value", "most"]
  d_check_field : D0 K mg "check_field" s_check_field ["field", "value", "least", "most"]
  d_check_saying : D0 K mg "check_saying" s_check_saying ["setting", "saying"]
  d_is_saying : D0 K mg "is_saying" s_is_saying ["setting", "value"]
  d_is_worth : D0 K mg "is_worth" s_is_worth ["value"]
  d_rank : D0 K mg "rank" s_rank ["saying"]
  d_format_saying : D0 K mg "format_saying" s_format_saying ["saying"]
  d_format_worth : D0 K mg "format_worth" s_format_worth ["worth"]
  d_latest_of : D0 K mg "latest_of" s_latest_of ["setting", "sayings"]
  d_law_box : D0 K mg "_law_box" s_law_box ["script"]
  d_law_draw : D0 K mg "_law_draw" s_law_draw ["box", "top"]
  d_law_bits : D0 K mg "_law_bits" s_law_bits ["box"]
  d_law_marks : D0 K mg "_law_marks" s_law_marks []
  d_law_mark : D0 K mg "_law_mark" s_law_mark ["box"]
  d_law_worth : D0 K mg "_law_worth" s_law_worth ["box"]
  d_law_setting : D0 K mg "_law_setting" s_law_setting ["box", "bits"]
  d_law_made : D0 K mg "_law_made" s_law_made ["box"]
  d_law_next_saying : D0 K mg "_law_next_saying" s_law_next_saying ["box", "side", "spot"]
  d_law_doubted_life : D0 K mg "_law_doubted_life" s_law_doubted_life ["box", "side", "spot"]
  d_law_doubt : D0 K mg "_law_doubt" s_law_doubt ["box", "doubts", "side", "spot", "now"]
  d_law_moment : D0 K mg "_law_moment" s_law_moment ["box", "side", "now"]
  d_law_due : D0 K mg "_law_due" s_law_due ["side", "now"]
  d_law_is_whole : D0 K mg "_law_is_whole" s_law_is_whole ["answer"]
  d_law_sayings_are : D0 K mg "_law_sayings_are" s_law_sayings_are ["answer", "want"]
  d_law_due_holds : D0 K mg "_law_due_holds" s_law_due_holds ["doubts", "book", "side", "now"]
  d_law_since_holds : D0 K mg "_law_since_holds" s_law_since_holds ["doubts", "side", "spots"]
  d_law_row_holds : D0 K mg "_law_row_holds" s_law_row_holds ["box", "made", "now"]
  t_Setting : T_Setting K mg C_Setting
  t_Doubts : T_Doubts K mg C_Doubts
  t_Book : T_Book K mg C_Book
  g_PLAIN_SIGNS : GcP mg "PLAIN_SIGNS" (.str "abcdefghijklmnopqrstuvwxyz0123456789")
  g_MARKS : TupP K mg "MARKS" [.str "alive", .str "suspect", .str "dead", .str "left"]
  g_MOST_WORTH : GcP mg "MOST_WORTH" (.int 12)
end K27

set_option Elab.async false
set_option maxRecDepth 100000
set_option maxHeartbeats 4000000
/-! settings -/
namespace K27
open PySem PySem.Spec PyProof.Rows L2 C8 LamX UF

def spInt : Sp := fun vs H Q _ => ∃ n : Int, vs = [.int n] ∧ Q (.bl true) H
def spCheck : Sp := fun vs H Q _ => ∃ (x : Str) (v l m : Int), vs = [.str x, .int v, .int l, .int m] ∧ l ≤ v ∧ v ≤ m ∧ Q .non H
/-- a setting stands at q -/
def SetO (C : Addr) (H : Hp) (q : Addr) (n p r g h : Int) : Prop := ∃ dx : Addr, H q = some (.ins C dx (fs5 n p r g h))
theorem SetO.fr {C : Addr} {H H' : Hp} {q : Addr} {n p r g h : Int} {ds : List Addr} (s : SetO C H q n p r g h) (x : Fr ds H H') (m : q ∉ ds) : SetO C H' q n p r g h := s.imp fun _ e => x.ins e m
theorem SetO.fw {C : Addr} {H H' : Hp} {q : Addr} {n p r g h : Int} {ds : List Addr} (s : SetO C H q n p r g h) (x : Fw ds H H') (m : q ∉ ds) : SetO C H' q n p r g h := s.imp fun _ e => x.ins e m
theorem SetO.at_ {C : Addr} {H : Hp} {q : Addr} {n p r g h : Int} (s : SetO C H q n p r g h) : ∃ o, H q = some o := s.elim fun _ e => ⟨_, e⟩
def spInit (C : Addr) : Sp := fun vs H Q _ => ∃ (q dx : Addr) (n p r g h : Int), vs = [.ref q, .int n, .int p, .int r, .int g, .int h] ∧ H q = some (.ins C dx []) ∧ 1 ≤ n ∧ n ≤ 8 ∧ 1 ≤ p ∧ p ≤ 6 ∧ 1 ≤ r ∧ r ≤ 64 ∧ 1 ≤ g ∧ g ≤ 200 ∧ 0 ≤ h ∧ h ≤ 3 ∧
  ∀ H' : Hp, SetO C H' q n p r g h → Fr [q] H H' → Q .non H'
section
variable {P : Program} {w : World} {K : PySem.W.Frag} {mg : Str → Option Value} {base : Heap} {C : Addr}
theorem c_is_integer (T : Bl mg) (d : D0 K mg "is_integer" s_is_integer ["value"]) : Cal P w K mg base 1 "is_integer" spInt [] := by
  refine cal d sc_is_integer (fun vs H Q E h => ?_) (fun cdv A outer f s H vs Q E hr h => ?_)
  · obtain ⟨n, rfl, _⟩ := h
    rfl
  · obtain ⟨n, rfl, k⟩ := h
    refine ⟨_, (pss_one (ps_ret (pe_and (pe_callB call_isi (by rfl) T.isinstance (by decide +kernel) (pa_cons (pv 0) (pa_cons (pe_bltn (v := .ty "int") (by rfl) T.int (by decide +kernel) rfl) pa_nil))) (pe_one (pe_not (pe_callB call_isi (by rfl) T.isinstance (by decide +kernel) (pa_cons (pv 0) (pa_cons (pe_bltn (v := .ty "bool") (by rfl) T.bool (by decide +kernel) rfl) pa_nil)))))))), ?_⟩
    refine ⟨_, rfl, _, _, _, _, true, rfl, .ty _, .base (.int _), kit_ty (by decide +kernel), _, rfl, iteT ?_⟩
    exact ⟨_, rfl, _, _, _, _, false, rfl, .ty _, .base (.int _), kit_ty (by decide +kernel), _, rfl, k⟩
theorem c_check_field (c_is_integer : Cal P w K mg base 1 "is_integer" spInt []) (d : D0 K mg "check_field" s_check_field ["field", "value", "least", "most"]) : Cal P w K mg base 2 "check_field" spCheck [] := by
  refine cal d sc_check_field (fun vs H Q E h => ?_) (fun cdv A outer f s H vs Q E hr h => ?_)
  · obtain ⟨x, v, l, m, rfl, _⟩ := h
    rfl
  · obtain ⟨x, v, l, m, rfl, h1, h2, k⟩ := h
    refine ⟨_, (pss_one (ps_if (pt_not (PW.pt (pw_and (pt_val (pe_c c_is_integer hr (by decide) rfl (pa_cons (pv 1) pa_nil))) (pw_and1 (pt_chain op_le op_le (pv 2) (pv 1) (pv 3)))))) (pss_one (ps_never)) pss_nil)), ?_⟩
    refine ⟨_, rfl, _, rfl, _, rfl, iteT ?_⟩
    refine ⟨_, rfl, _, rfl, _, _, rfl, rfl, _, rfl, ?_⟩
    rw [if_pos (decide_eq_true h1)]
    refine ⟨_, rfl, _, _, rfl, rfl, _, rfl, ?_⟩
    rw [decide_eq_true h2]
    exact k
theorem f_init (ST : T_Setting K mg C) {f : Addr} {fd : FuncData} (F : FunD K "__init__" "Setting.__init__" (C8.fnArgs s_Setting__init) (C8.fnBody s_Setting__init) (C8.fnScope s_Setting__init) [] [("grace", .int 6), ("helpers", .int 1)] f fd) (c_check_field : Cal P w K mg base 2 "check_field" spCheck []) : FnOk P w K mg base C8.CX0 3 f fd ["self", "bits", "patience", "room", "grace", "helpers"] (spInit C) := by
  refine F.ok (N := n_Setting__init) sc_Setting__init (fun vs H Q E h => ?_) (fun cdv A outer s H vs Q E hr h => ?_)
  · obtain ⟨q, dx, n, p, r, g, h, rfl, _⟩ := h
    rfl
  · obtain ⟨q, dx, n, p, r, g, h, rfl, hq, a1, a2, a3, a4, a5, a6, a7, a8, a9, a10, k⟩ := h
    obtain ⟨u1, k1⟩ := ST.k_MOST_BITS
    obtain ⟨u2, k2⟩ := ST.k_MOST_PATIENCE
    obtain ⟨u3, k3⟩ := ST.k_MOST_ROOM
    obtain ⟨u4, k4⟩ := ST.k_MOST_GRACE
    obtain ⟨u5, k5⟩ := ST.k_MOST_HELPERS
    refine ⟨_, PSs.nox (pss_cons (ps_expr (pe_c c_check_field hr (by decide) rfl (pa_cons pe_str (pa_cons (pv 1) (pa_cons pe_int (pa_cons (pe_con (pv 0) rfl) pa_nil))))))
      (pss_cons (ps_expr (pe_c c_check_field hr (by decide) rfl (pa_cons pe_str (pa_cons (pv 2) (pa_cons pe_int (pa_cons (pe_con (pv 0) rfl) pa_nil))))))
      (pss_cons (ps_expr (pe_c c_check_field hr (by decide) rfl (pa_cons pe_str (pa_cons (pv 3) (pa_cons pe_int (pa_cons (pe_con (pv 0) rfl) pa_nil))))))
      (pss_cons (ps_expr (pe_c c_check_field hr (by decide) rfl (pa_cons pe_str (pa_cons (pv 4) (pa_cons pe_int (pa_cons (pe_con (pv 0) rfl) pa_nil))))))
      (pss_cons (ps_expr (pe_c c_check_field hr (by decide) rfl (pa_cons pe_str (pa_cons (pv 5) (pa_cons pe_int (pa_cons (pe_con (pv 0) rfl) pa_nil))))))
      (pss_cons (ps_fld (pv 0) (pv 1) rfl)
      (pss_cons (ps_fld (pv 0) (pv 2) rfl)
      (pss_cons (ps_fld (pv 0) (pv 3) rfl)
      (pss_cons (ps_fld (pv 0) (pv 4) rfl)
      (pss_one (ps_fld (pv 0) (pv 5) rfl))))))))))), ?_⟩
    refine ⟨_, rfl, _, rfl, q, C, dx, [], _, u1, rfl, hq, ST.cl, k1, rfl, _, _, _, _, rfl, a1, a2, ?_⟩
    refine ⟨_, rfl, _, rfl, q, C, dx, [], _, u2, rfl, hq, ST.cl, k2, rfl, _, _, _, _, rfl, a3, a4, ?_⟩
    refine ⟨_, rfl, _, rfl, q, C, dx, [], _, u3, rfl, hq, ST.cl, k3, rfl, _, _, _, _, rfl, a5, a6, ?_⟩
    refine ⟨_, rfl, _, rfl, q, C, dx, [], _, u4, rfl, hq, ST.cl, k4, rfl, _, _, _, _, rfl, a7, a8, ?_⟩
    refine ⟨_, rfl, _, rfl, q, C, dx, [], _, u5, rfl, hq, ST.cl, k5, rfl, _, _, _, _, rfl, a9, a10, ?_⟩
    have e5 := fs5_puts (n := n) (p := p) (r := r) (g := g) (h := h)
    refine ⟨_, rfl, _, rfl, q, C, dx, [], rfl, hq, ST.cl, ST.n_bits, by show 0 < 1000; decide, ?_⟩
    generalize e1 : putF ("bits" : Str) (V.int n) [] = f1
    refine ⟨_, rfl, _, rfl, q, C, dx, f1, rfl, upd_same, ST.cl, ST.n_patience, by subst e1; show 1 < 1000; decide, ?_⟩
    generalize e2 : putF ("patience" : Str) (V.int p) f1 = f2
    have l1 : f1.length ≤ 1 := by subst e1; exact putF_len _ _ _
    have l2 : f2.length ≤ 2 := by subst e2; exact Nat.le_trans (putF_len _ _ _) (by omega)
    refine ⟨_, rfl, _, rfl, q, C, dx, f2, rfl, upd_same, ST.cl, ST.n_room, by omega, ?_⟩
    generalize e3 : putF ("room" : Str) (V.int r) f2 = f3
    have l3 : f3.length ≤ 3 := by subst e3; exact Nat.le_trans (putF_len _ _ _) (by omega)
    refine ⟨_, rfl, _, rfl, q, C, dx, f3, rfl, upd_same, ST.cl, ST.n_grace, by omega, ?_⟩
    generalize e4 : putF ("grace" : Str) (V.int g) f3 = f4
    have l4 : f4.length ≤ 4 := by subst e4; exact Nat.le_trans (putF_len _ _ _) (by omega)
    refine ⟨_, rfl, _, rfl, q, C, dx, f4, rfl, upd_same, ST.cl, ST.n_helpers, by omega, ?_⟩
    rw [e1, e2, e3, e4] at e5
    rw [e5]
    exact k _ ⟨dx, upd_same⟩ ((((((Fr.refl [q] H).upd (.head _) (.ins hq) _).upd (.head _) (.ins upd_same) _).upd (.head _) (.ins upd_same) _).upd (.head _) (.ins upd_same) _).upd (.head _) (.ins upd_same) _)
/-- Setting(bits, patience, room) -/
theorem c_Setting (ST : T_Setting K mg C) (c_check_field : Cal P w K mg base 2 "check_field" spCheck []) : Mak P w K mg base 3 "Setting" C (spInit C) [.int 6, .int 1] := by
  obtain ⟨f, fd, M, F⟩ := ST.ini
  obtain ⟨ds, r, b⟩ := F.binds0 (ps := ["self", "bits", "patience", "room", "grace", "helpers"]) 4 (by decide) rfl (fun D doc pm an cdv ct us ks hl hk => match us, hl, ks, hk with
      | [_, _, _, _], _, [_, _], _ => ⟨_, _, _, _, _, _, rfl, rfl, ⟨_, _, _, _, _, _, rfl, rfl, rfl⟩⟩)
  exact ⟨f, fd, _, ds, M, f_init ST F c_check_field, ST.mgC, b, r⟩
/-- what the making of a setting promises, between two heaps -/
theorem set_made {H : Hp} {x dx : Addr} {n p r g h : Int} {R : Hp → Prop} {E : XK} (nx : H x = none) (ndx : H dx = none) (ne : dx ≠ x) (a1 : 1 ≤ n) (a2 : n ≤ 8) (a3 : 1 ≤ p) (a4 : p ≤ 6) (a5 : 1 ≤ r) (a6 : r ≤ 64) (a7 : 1 ≤ g) (a8 : g ≤ 200) (a9 : 0 ≤ h) (a10 : h ≤ 3)
    (k : ∀ H' : Hp, Fr [] H H' → SetO C H' x n p r g h → R H') :
    spInit C [.ref x, .int n, .int p, .int r, .int g, .int h] (upd (upd H dx (.own x)) x (.ins C dx [])) (fun v H3 => v = .non ∧ R H3) E := by
  have nx' : upd H dx (.own x) x = none := by rw [upd_ne ne.symm]; exact nx
  refine ⟨x, dx, n, p, r, g, h, rfl, upd_same, a1, a2, a3, a4, a5, a6, a7, a8, a9, a10, fun H3 hs hk => ⟨rfl, k H3 ?_ hs⟩⟩
  exact (((Fr.refl [] H).new ndx _).new nx' _).tail hk fun a m => by rw [List.mem_singleton.mp m]; exact .inr (.of nx)
end
end K27

set_option Elab.async false
set_option maxRecDepth 100000
set_option maxHeartbeats 4000000
set_option exponentiation.threshold 4096
/-! the ring: seats, distance -/
namespace K27
open PySem PySem.Spec PyProof.Rows L2 C8 LamX UF
/-- a setting of n bits at q -/
def SetN (C : Addr) (H : Hp) (q : Addr) (n : Nat) : Prop := ∃ p r g h : Int, SetO C H q (n : Int) p r g h
theorem SetN.fr {C : Addr} {H H' : Hp} {q : Addr} {n : Nat} {ds : List Addr} (s : SetN C H q n) (x : Fr ds H H') (m : q ∉ ds) : SetN C H' q n := by
  obtain ⟨p, r, g, h, z⟩ := s
  exact ⟨p, r, g, h, z.fr x m⟩
theorem SetN.fw {C : Addr} {H H' : Hp} {q : Addr} {n : Nat} {ds : List Addr} (s : SetN C H q n) (x : Fw ds H H') (m : q ∉ ds) : SetN C H' q n := by
  obtain ⟨p, r, g, h, z⟩ := s
  exact ⟨p, r, g, h, z.fw x m⟩
def spSeats (C : Addr) : Sp := fun vs H Q _ => ∃ (q : Addr) (n : Nat), vs = [.ref q] ∧ SetN C H q n ∧ n ≤ 8 ∧ Q (.int (ringN n)) H
def spDist (C : Addr) : Sp := fun vs H Q _ => ∃ (q : Addr) (a b : Int) (n : Nat), vs = [.ref q, .int a, .int b] ∧ SetN C H q n ∧ n ≤ 8 ∧ Q (.int ((b - a) % ringN n)) H
section
variable {P : Program} {w : World} {K : PySem.W.Frag} {mg : Str → Option Value} {base : Heap} {C : Addr}
theorem p_seats (ST : T_Setting K mg C) : Prp P w K mg base 1 C "seats" (spSeats C) := by
  refine prp ST.p_seats ST.cl sc_Setting_seats (fun vs H Q E h => ?_) (fun cdv A outer f s H vs Q E hr h => ?_)
  · obtain ⟨q, n, rfl, _⟩ := h
    rfl
  · obtain ⟨q, n, rfl, ⟨p, r, g, h, dx, e⟩, hn, k⟩ := h
    refine ⟨_, (pss_one (ps_ret (pe_op op_shl pe_int (pe_fld (pv 0) rfl)))), ?_⟩
    refine ⟨_, rfl, q, C, dx, _, _, rfl, e, ST.cl, ST.n_bits, fs5_bits, _, _, rfl, rfl, ⟨by omega, by omega, by decide⟩, ?_⟩
    show Q (.int (1 * 2 ^ ((n : Int)).toNat)) H
    rw [shl_eq]
    exact k
end
end K27

set_option Elab.async false
set_option maxRecDepth 100000
set_option maxHeartbeats 4000000
set_option exponentiation.threshold 4096
set_option linter.unusedVariables false
/-! words and sayings, good ones -/
namespace K27
open PySem PySem.Spec PyProof.Rows L2 C8 LamX UF
def rSg : R2 := fun x y H Q => ∃ (c : Nat) (z : Str), x = .str ⟨#[c]⟩ ∧ y = .str z ∧ Q (.bl (decide (c ∈ z.cps.toList))) H
theorem op_in_sg {X : Cx} : OpR X (compareOp .In) rSg := op_in_sign
def SayAt (H : Hp) (a : Addr) (s : Say) : Prop := H a = some (.tup s.vs)
def spBelow : Sp := fun vs H Q _ => ∃ n l : Int, vs = [.int n, .int l] ∧ 0 ≤ n ∧ n < l ∧ Q (.bl true) H
def spPlain : Sp := fun vs H Q _ => ∃ (w : Str) (m : Int), vs = [.str w, .int m] ∧ (w.length : Int) ≤ m ∧ w.length ≤ 1000 ∧ Plain w ∧ ∀ H' : Hp, Fr [] H H' → Q (.bl true) H'
def spWorthP : Sp := fun vs H Q _ => ∃ (w : Str), vs = [.str w] ∧ w.length ≤ 12 ∧ Plain w ∧ ∀ H' : Hp, Fr [] H H' → Q (.bl true) H'
def spIsSay (CS : Addr) : Sp := fun vs H Q _ => ∃ (x a : Addr) (n : Nat) (s : Say), vs = [.ref x, .ref a] ∧ SetN CS H x n ∧ n ≤ 8 ∧ SayAt H a s ∧ s.Ok (ringN n) ∧ ∀ H' : Hp, Fr [] H H' → Q (.bl true) H'
def spChkSay (CS : Addr) : Sp := fun vs H Q _ => ∃ (x a : Addr) (n : Nat) (s : Say), vs = [.ref x, .ref a] ∧ SetN CS H x n ∧ n ≤ 8 ∧ SayAt H a s ∧ s.Ok (ringN n) ∧ ∀ H' : Hp, Fr [] H H' → Q (.ref a) H'
def oSay (H : Hp) (v : V) (o : Option Say) : Prop := match o with
  | none => v = .non
  | some s => ∃ a, v = .ref a ∧ SayAt H a s
def spRankP : Sp := fun vs H Q _ => ∃ (v : V) (o : Option Say), vs = [v] ∧ oSay H v o ∧ (∀ s, o = some s → s.mark ∈ marksL) ∧ Q (.int (rankO o)) H
section
variable {P : Program} {w : World} {K : PySem.W.Frag} {mg : Str → Option Value} {base : Heap} {CS : Addr}
theorem c_is_below (c_is_integer : Cal P w K mg base 1 "is_integer" spInt []) (d : D0 K mg "is_below" s_is_below ["value", "limit"]) : Cal P w K mg base 2 "is_below" spBelow [] := by
  refine cal d sc_is_below (fun vs H Q E h => ?_) (fun cdv A outer f s0 H vs Q E hr h => ?_)
  · obtain ⟨n, l, rfl, _⟩ := h
    rfl
  · obtain ⟨n, l, rfl, h1, h2, k⟩ := h
    refine ⟨_, (pss_one (ps_ret (pe_and (pe_c c_is_integer hr (by decide) rfl (pa_cons (pv 0) pa_nil)) (pe_one (pe_chain op_le op_lt pe_int (pv 0) (pv 1)))))), ?_⟩
    refine ⟨_, rfl, _, rfl, _, rfl, iteT ?_⟩
    refine ⟨_, rfl, _, _, rfl, rfl, _, rfl, ?_⟩
    rw [if_pos (decide_eq_true h1)]
    refine ⟨_, rfl, _, _, rfl, rfl, ?_⟩
    show Q (.bl (decide (n < l))) H
    rw [decide_eq_true h2]
    exact k
theorem c_is_plain (T : Bl mg) (g_PLAIN_SIGNS : GcP mg "PLAIN_SIGNS" (.str plainS)) (d : D0 K mg "is_plain" s_is_plain ["value", "most"]) : Cal P w K mg base 1 "is_plain" spPlain [] := by
  refine cal d sc_is_plain (fun vs H Q E h => ?_) (fun cdv A outer f s0 H vs Q E hr h => ?_)
  · obtain ⟨x, m, rfl, _⟩ := h
    rfl
  · obtain ⟨x, m, rfl, h1, hl, hp, k⟩ := h
    refine ⟨_, (pss_cons (ps_if (pt_not (PW.pt (pw_and (pt_val (pe_callB call_isi (by rfl) T.isinstance (by decide +kernel) (pa_cons (pv 0) (pa_cons (pe_bltn (v := .ty "str") (by rfl) T.str (by decide +kernel) rfl) pa_nil)))) (pw_and1 (pt_cmpR op_le (pe_callB call_len_str (by rfl) T.len (by decide +kernel) (pa_cons (pv 0) pa_nil)) (pv 1) (nomark _)))))) (pss_one (ps_ret pe_bl)) pss_nil)
      (pss_one (ps_ret (pe_callB (cr_all rfl) (by rfl) T.all (by decide +kernel) (pa_cons (pe_lc (own := [("sign", 2)]) (g := gName 2) (tt := tYes) (by rfl) sc_is_plain.nd (pi_str (pv 0)) (blkOk_by (own := [("sign", 2)]) (N := n_is_plain) (sc := C8.fnScope s_is_plain) (by decide +kernel)) (fun _ _ _ _ _ => pg_name (i := 2) sc_is_plain.nd rfl (Or.inl rfl)) (fun _ _ _ _ _ => pts_nil) (fun _ _ _ _ _ => (pe_cmpR (show OpR _ (compareOp .In) rSg from op_in_sg) (pv 2) (pe_gc (by rfl) g_PLAIN_SIGNS) (by with_unfolding_all rfl)))) pa_nil))))), ?_⟩
    refine ⟨_, rfl, _, _, _, _, true, rfl, .ty _, .base (.str _), kit_ty (by decide +kernel), _, rfl, iteT ?_⟩
    refine ⟨_, rfl, x, rfl, Nat.le_of_lt (small1000' hl), _, rfl, _, _, rfl, rfl, _, rfl, ?_⟩
    rw [decide_eq_true h1]
    refine iteF ⟨_, rfl, x, rfl, fun D nD => ?_⟩
    refine lc_it walk_str (fun j H' => Fr [] H H' ∧ H' D = some (.lst ((List.replicate j true).map V.bl))) ⟨Fr.new0 nD _, upd_same⟩ (fun j H' _ pv => trivial) (fun j v H1 H2 hj pv hv => ?_) (fun H' pv => ?_)
    · obtain ⟨X1, hD⟩ := pv
      obtain ⟨rfl, c, ec, rfl⟩ := hv
      have cm : c ∈ x.cps.toList := by
        rw [← Array.getElem?_toList] at ec
        exact List.mem_of_getElem? ec
      have jl : j < x.length := hj
      refine ⟨rfl, _, rfl, c, plainS, rfl, rfl, _, hD, by rw [List.length_map, List.length_replicate]; exact small1000' (by omega), X1.late (.of nD) (.lst hD) _, ?_⟩
      rw [upd_same, decide_eq_true (hp c cm), List.replicate_succ', List.map_append]
      rfl
    · obtain ⟨X, hD⟩ := pv
      refine ⟨D, List.replicate x.cps.size true, rfl, SqL.of hD, ?_⟩
      rw [show (List.replicate x.cps.size true).all id = true from List.all_eq_true.mpr fun b m => (List.mem_replicate.mp m).2]
      exact k _ X
theorem c_is_worth (c_is_plain : Cal P w K mg base 1 "is_plain" spPlain []) (g_MOST_WORTH : GcP mg "MOST_WORTH" (.int 12)) (d : D0 K mg "is_worth" s_is_worth ["value"]) : Cal P w K mg base 2 "is_worth" spWorthP [] := by
  refine cal d sc_is_worth (fun vs H Q E h => ?_) (fun cdv A outer f s0 H vs Q E hr h => ?_)
  · obtain ⟨x, rfl, _⟩ := h
    rfl
  · obtain ⟨x, rfl, h1, hp, k⟩ := h
    refine ⟨_, (pss_one (ps_ret (pe_c c_is_plain hr (by decide) rfl (pa_cons (pv 0) (pa_cons (pe_gc (by rfl) g_MOST_WORTH) pa_nil))))), ?_⟩
    exact ⟨_, rfl, x, 12, rfl, by omega, by omega, hp, fun H' X => k H' X⟩
theorem inV_mark {m : Str} (h : m ∈ marksL) : inV (.str m) (marksL.map V.str) = true := by
  unfold marksL at h
  simp only [List.mem_cons, List.not_mem_nil, or_false] at h
  rcases h with rfl | rfl | rfl | rfl <;> decide +kernel
theorem c_is_saying (T : Bl mg) (p_seats : Prp P w K mg base 1 CS "seats" (spSeats CS)) (c_is_below : Cal P w K mg base 2 "is_below" spBelow []) (c_is_worth : Cal P w K mg base 2 "is_worth" spWorthP []) (tMARKS : TupP K mg "MARKS" [.str "alive", .str "suspect", .str "dead", .str "left"]) (d : D0 K mg "is_saying" s_is_saying ["setting", "value"]) : Cal P w K mg base 3 "is_saying" (spIsSay CS) [] := by
  obtain ⟨ma, gm, hm⟩ := tMARKS
  have g_MARKS : GcP mg "MARKS" (.ref ma) := ⟨_, gm, rfl⟩
  refine cal d sc_is_saying (fun vs H Q E h => ?_) (fun cdv A outer f s0 H vs Q E hr h => ?_)
  · obtain ⟨x, a, n, s, rfl, _⟩ := h
    rfl
  · obtain ⟨x, a, n, s, rfl, hx, n8, ha, so, k⟩ := h
    refine ⟨_, (pss_cons (ps_if (pt_not (PW.pt (pw_and (pt_val (pe_callB call_isi (by rfl) T.isinstance (by decide +kernel) (pa_cons (pv 1) (pa_cons (pe_bltn (v := .ty "tuple") (by rfl) T.tuple (by decide +kernel) rfl) pa_nil)))) (pw_and1 (pt_cmpR op_eq (pe_callB call_len_seq (by rfl) T.len (by decide +kernel) (pa_cons (pv 1) pa_nil)) pe_int (nomark _)))))) (pss_one (ps_ret pe_bl)) pss_nil)
      (pss_cons (ps_asg (pv 1) (pg_tup rfl (pgs_cons (pg_name (i := 2) sc_is_saying.nd rfl (Or.inl rfl)) (pgs_cons (pg_name (i := 3) sc_is_saying.nd rfl (Or.inl rfl)) (pgs_cons (pg_name (i := 4) sc_is_saying.nd rfl (Or.inl rfl)) (pgs_cons (pg_name (i := 5) sc_is_saying.nd rfl (Or.inl rfl)) pgs_nil))))))
      (pss_cons (ps_if (pt_not (PW.pt (pw_and (pt_val (pe_c c_is_below hr (by decide) rfl (pa_cons (pv 2) (pa_cons (pe_pr p_seats hr (by decide) (pv 0)) pa_nil)))) (pw_and1 (pt_val (pe_c c_is_below hr (by decide) rfl (pa_cons (pv 3) (pa_cons (pe_op op_pow pe_int pe_int) pa_nil)))))))) (pss_one (ps_ret pe_bl)) pss_nil)
      (pss_one (ps_ret (pe_and (pe_cmpR (show OpR _ (compareOp .In) (rIn K false) from op_in_seq) (pv 4) (pe_gc (by rfl) g_MARKS) (by with_unfolding_all rfl)) (pe_one (pe_c c_is_worth hr (by decide) rfl (pa_cons (pv 5) pa_nil))))))))), ?_⟩
    obtain ⟨p, r, g, hh, dx, e⟩ := id hx
    refine ⟨_, rfl, _, _, _, _, true, rfl, .ty _, .base (.tup ha), kit_ty (by decide +kernel), _, rfl, iteT ?_⟩
    refine ⟨_, rfl, _, _, rfl, .inr (SqT.of ha), rfl, _, rfl, iteF ?_⟩
    refine ⟨_, rfl, a, _, rfl, SqT.of ha, rfl, _, _, rfl, _, _, rfl, _, _, rfl, _, _, rfl, rfl, ?_⟩
    refine ⟨_, rfl, _, rfl, x, dx, _, rfl, e, x, n, rfl, hx, n8, s.seat, ringN n, rfl, so.s0, so.s1, _, rfl, iteT ?_⟩
    refine ⟨_, rfl, _, _, rfl, rfl, ⟨by decide, by decide, by decide⟩, s.life, _, rfl, so.l0, so.l1, _, rfl, iteF ?_⟩
    refine ⟨_, rfl, ma, _, rfl, .inr (hm H), rfl, rfl, _, rfl, ?_⟩
    rw [show inV (V.str s.mark) [V.str "alive", V.str "suspect", V.str "dead", V.str "left"] = true from inV_mark so.m]
    exact ⟨_, rfl, s.worth, rfl, so.w, so.p, k⟩
theorem c_check_saying (c_is_saying : Cal P w K mg base 3 "is_saying" (spIsSay CS) []) (d : D0 K mg "check_saying" s_check_saying ["setting", "saying"]) : Cal P w K mg base 4 "check_saying" (spChkSay CS) [] := by
  refine cal d sc_check_saying (fun vs H Q E h => ?_) (fun cdv A outer f s0 H vs Q E hr h => ?_)
  · obtain ⟨x, a, n, s, rfl, _⟩ := h
    rfl
  · obtain ⟨x, a, n, s, rfl, hx, n8, ha, so, k⟩ := h
    refine ⟨_, (pss_cons (ps_if (pt_not (pt_val (pe_c c_is_saying hr (by decide) rfl (pa_cons (pv 0) (pa_cons (pv 1) pa_nil))))) (pss_one (ps_never)) pss_nil)
      (pss_one (ps_ret (pv 1)))), ?_⟩
    exact ⟨_, rfl, _, rfl, x, a, n, s, rfl, hx, n8, ha, so, fun H' X => ⟨_, rfl, iteF ⟨_, rfl, k H' X⟩⟩⟩
theorem c_rank (R : RanksP K w mg "MARK_RANKS") (d : D0 K mg "rank" s_rank ["saying"]) : Cal P w K mg base 1 "rank" spRankP [] := by
  obtain ⟨rp, gr, r1, r2, r3, r4⟩ := R
  have g_MARK_RANKS : GcP mg "MARK_RANKS" (.ref rp) := ⟨_, gr, rfl⟩
  refine cal d sc_rank (fun vs H Q E h => ?_) (fun cdv A outer f s0 H vs Q E hr h => ?_)
  · obtain ⟨v, o, rfl, _⟩ := h
    rfl
  · obtain ⟨v, o, rfl, ho, hm, k⟩ := h
    refine ⟨_, (pss_cons (ps_if (pt_cmp (pc_isN (pv 0))) (pss_one (ps_ret pe_int)) pss_nil)
      (pss_one (ps_ret (pe_op op_add (pe_op op_mul pe_int (pe_ix ix_tup (pv 0) pe_int (fun _ _ => rfl))) (pe_ix (show IxR _ (rIxD K w) from ix_kdict) (pe_gc (by rfl) g_MARK_RANKS) (pe_ix ix_tup (pv 0) pe_int (fun _ _ => rfl)) (fun _ _ => rfl)))))), ?_⟩
    cases o with
    | none =>
      have ho : v = .non := ho
      subst ho
      exact ⟨_, rfl, _, rfl, iteT k⟩
    | some s =>
      obtain ⟨a, rfl, ha⟩ := ho
      have sm := hm s rfl
      refine ⟨_, rfl, _, rfl, iteF ?_⟩
      refine ⟨_, rfl, _, _, _, _, rfl, rfl, SqT.of ha, rfl, _, _, rfl, rfl, .inl ⟨by decide, by decide⟩, ?_⟩
      refine ⟨_, rfl, _, _, _, _, rfl, rfl, SqT.of ha, rfl, rp, s.mark, .int ((markN s.mark : Int) + 1), rfl, rfl, ?_, ?_⟩
      · unfold marksL at sm
        simp only [List.mem_cons, List.not_mem_nil, or_false] at sm
        rcases sm with e | e | e | e <;> rw [e]
        · exact r1
        · exact r2
        · exact r3
        · exact r4
      · refine ⟨_, _, rfl, rfl, ?_⟩
        have : rankO (some s) = 4 * s.life + ((markN s.mark : Int) + 1) := by
          show rankI s = _
          unfold rankI
          omega
        rw [this] at k
        exact k
end
end K27

set_option Elab.async false
set_option maxRecDepth 100000
set_option maxHeartbeats 4000000
set_option linter.unusedVariables false
/-! how news spreads: one round, whatever the order in which the callers are taken -/
namespace UF
open PySem PySem.Spec PyProof.Rows L2 C8 LamX
def mayF (sp : Int → Int) (most : Option Int) (c : Int) : Bool := match most with
  | none => true
  | some m => decide (sp c < m)
/-- whom c tells in a round, if anybody -/
def callF (goal : Int → Option Int) (tm : Int → Option Int) (sp : Int → Int) (most : Option Int) (c : Int) : Option Int :=
  if (tm c).isSome = true ∧ mayF sp most c = true then goal c else none
/-- who comes to know it -/
def newF (goal : Int → Option Int) (tm : Int → Option Int) (sp : Int → Int) (most : Option Int) (hs lost : List Int) : List Int :=
  hs.filter fun s => (tm s).isNone && hs.any fun c => decide (callF goal tm sp most c = some s) && !decide (c ∈ lost)
def tmS (new : List Int) (r : Int) (tm : Int → Option Int) : Int → Option Int := fun s => if s ∈ new then some r else tm s
def spS (goal : Int → Option Int) (tm : Int → Option Int) (sp : Int → Int) (most : Option Int) : Int → Int := fun c => if (callF goal tm sp most c).isSome = true then sp c + 1 else sp c
section
variable {goal : Int → Option Int} {tm : Int → Option Int} {sp : Int → Int} {most : Option Int} {hs lost : List Int}
theorem mem_newF {s : Int} : s ∈ newF goal tm sp most hs lost ↔ s ∈ hs ∧ tm s = none ∧ ∃ c ∈ hs, callF goal tm sp most c = some s ∧ c ∉ lost := by
  unfold newF
  rw [List.mem_filter, Bool.and_eq_true, List.any_eq_true, Option.isNone_iff_eq_none]
  constructor
  · rintro ⟨h, h1, c, hc, h2⟩
    rw [Bool.and_eq_true] at h2
    refine ⟨h, h1, c, hc, of_decide_eq_true h2.1, fun z => ?_⟩
    rw [decide_eq_true z] at h2
    exact absurd h2.2 (by decide)
  · rintro ⟨h, h1, c, hc, h2, h3⟩
    refine ⟨h, h1, c, hc, ?_⟩
    rw [decide_eq_true h2, decide_eq_false h3]
    rfl
theorem newF_nodup (nd : hs.Nodup) : (newF goal tm sp most hs lost).Nodup := nd.filter _
theorem newF_sorted (so : hs.Pairwise (· ≤ ·)) : (newF goal tm sp most hs lost).Pairwise (· ≤ ·) := so.filter _
theorem sorted_eq : ∀ {a b : List Int}, a.Pairwise (· ≤ ·) → b.Pairwise (· ≤ ·) → a.Perm b → a = b
  | [], b, _, _, p => (List.Perm.nil_eq p)
  | x :: a, b, ha, hb, p => by
    cases b with
    | nil => exact absurd p.length_eq (by simp)
    | cons y b =>
      have e : x = y := by
        have h1 := List.pairwise_cons.mp ha
        have h2 := List.pairwise_cons.mp hb
        have m1 : x ∈ y :: b := p.mem_iff.mp (.head _)
        have m2 : y ∈ x :: a := p.mem_iff.mpr (.head _)
        rcases List.mem_cons.mp m1 with e | m1
        · exact e
        · rcases List.mem_cons.mp m2 with e | m2
          · exact e.symm
          · have := h1.1 y m2
            have := h2.1 x m1
            omega
      subst e
      rw [sorted_eq (List.pairwise_cons.mp ha).2 (List.pairwise_cons.mp hb).2 (List.Perm.cons_inv p)]
/-- two lists without repeats with the same items -/
theorem perm_of_mem {a b : List Int} (na : a.Nodup) (nb : b.Nodup) (h : ∀ x, x ∈ a ↔ x ∈ b) : a.Perm b := (List.perm_ext_iff_of_nodup na nb).mpr h
theorem sorted_same {a b : List Int} (sa : a.Pairwise (· ≤ ·)) (sb : b.Pairwise (· ≤ ·)) (na : a.Nodup) (nb : b.Nodup) (h : ∀ x, x ∈ a ↔ x ∈ b) : a = b := sorted_eq sa sb (perm_of_mem na nb h)
theorem newF_perm {ks : List Int} (p : hs.Perm ks) (x : Int) : x ∈ newF goal tm sp most hs lost ↔ x ∈ newF goal tm sp most ks lost := by
  rw [mem_newF, mem_newF, p.mem_iff]
  exact ⟨fun ⟨a, b, c, hc, d⟩ => ⟨a, b, c, p.mem_iff.mp hc, d⟩, fun ⟨a, b, c, hc, d⟩ => ⟨a, b, c, p.mem_iff.mpr hc, d⟩⟩
end
/-- the dict of moments -/
def kvM (kn : List Int) (tm : Int → Option Int) : List (Key × V) := kn.map fun s => (.inl s, match tm s with
  | some v => V.int v
  | none => .non)
theorem kvM_val {kn : List Int} {tm : Int → Option Int} (h : ∀ s, s ∈ kn ↔ (tm s).isSome = true) (s : Int) : valV (kvM kn tm) (.inl s) = (tm s).map V.int := by
  have go : ∀ l : List Int, (∀ x ∈ l, (tm x).isSome = true) → valV (kvM l tm) (.inl s) = if s ∈ l then (tm s).map V.int else none := by
    intro l
    induction l with
    | nil => intro _; rfl
    | cons x l ih =>
      intro hx
      unfold kvM
      rw [List.map_cons]
      by_cases e : x = s
      · subst e
        rw [valV_pos rfl, if_pos (.head _)]
        have := hx x (.head _)
        cases q : tm x with
        | none => rw [q] at this; cases this
        | some v => rfl
      · rw [valV_neg (fun z => e (Sum.inl.inj z))]
        have := ih fun y m => hx y (.tail _ m)
        unfold kvM at this
        rw [this]
        by_cases m : s ∈ l
        · rw [if_pos m, if_pos (.tail _ m)]
        · rw [if_neg m, if_neg fun z => (List.mem_cons.mp z).elim (fun q => e q.symm) m]
  rw [go kn fun x m => (h x).mp m]
  by_cases m : s ∈ kn
  · rw [if_pos m]
  · rw [if_neg m]
    cases q : tm s with
    | none => rfl
    | some v => exact absurd ((h s).mpr (by rw [q]; rfl)) m
theorem kvM_len (kn : List Int) (tm : Int → Option Int) : (kvM kn tm).length = kn.length := List.length_map ..
theorem kvM_keys (kn : List Int) (tm : Int → Option Int) : (kvM kn tm).map (·.1) = kn.map Sum.inl := by
  unfold kvM
  rw [List.map_map]
  rfl
theorem kvM_congr {kn : List Int} {tm tm' : Int → Option Int} (h : ∀ s ∈ kn, tm s = tm' s) : kvM kn tm = kvM kn tm' := by
  unfold kvM
  exact List.map_congr_left fun s m => by rw [h s m]
/-- a new moment goes to the end -/
theorem kvM_put {kn : List Int} {tm : Int → Option Int} (h : ∀ s, s ∈ kn ↔ (tm s).isSome = true) {s r : Int} (n : s ∉ kn) : putK (kvM kn tm) (.inl s) (.int r) = kvM (kn ++ [s]) (fun x => if x = s then some r else tm x) := by
  unfold putK
  rw [valV_any, kvM_val h]
  have e : tm s = none := by
    cases q : tm s with
    | none => rfl
    | some v => exact absurd ((h s).mpr (by rw [q]; rfl)) n
  rw [e]
  simp only [Option.map_none, Option.isSome_none]
  rw [if_neg (by decide)]
  unfold kvM
  rw [List.map_append]
  congr 1
  · refine List.map_congr_left fun x m => ?_
    have : x ≠ s := fun z => n (by rw [← z]; exact m)
    simp only [this, if_false]
  · simp
end UF
namespace UF
open PySem PySem.Spec PyProof.Rows L2 C8 LamX
/-- a list or a tuple -/
def iSeq (K : PySem.W.Frag) (tl : TE) : TI := fun σ H R => tl σ H fun x H1 => ∃ a, x = .ref a ∧ (((∃ xs, SqL K H1 a xs) ∧ R (Itl K a) H1) ∨ ((∃ xs, SqT K H1 a xs) ∧ R (Itt K a) H1))
theorem pi_seq {X : Cx} {tg : Expr} {l : Expr} {tl : TE} (hl : PE X l tl) : PI X tg l (iSeq X.K tl) := by
  refine ⟨fun pins s σ H R I h => ?_⟩
  refine thn (hl.run pins s σ H _ I h) fun v s1 ⟨x, H1, I1, r1, q1⟩ => ?_
  obtain ⟨a, e, q1⟩ := q1
  subst e
  cases r1
  rcases q1 with ⟨⟨xs, hq⟩, q⟩ | ⟨⟨xs, hq⟩, q⟩
  · obtain ⟨its, rv, p, hz⟩ := I1.list hq
    refine wpAny_pyIter_list p.isList ?_
    refine ⟨s1.heap.objs.size, [s1.heap.objs.size], _, _, H1, rfl, I1.kept (t' := s1.toks) fun b o e => Heap.get?_push_of_some _ e, turn_list a _, ⟨_, Heap.get?_push_size _ rfl, rfl, rfl⟩, fun b hb => ?_, q⟩
    have e : b = s1.heap.objs.size := by simpa using hb
    subst e
    exact I1.fpOk (Nat.le_refl _) (I1.hok.fresh (Nat.le_refl _))
  · obtain ⟨its, rv, p, hz⟩ := I1.tuple hq
    refine wpAny_pyIter_tuple (show s1.heap.IsTuple a its.toArray from p) ?_
    refine ⟨s1.heap.objs.size, [s1.heap.objs.size], _, _, H1, rfl, I1.kept (t' := s1.toks) fun b o e => Heap.get?_push_of_some _ e, turn_tuple a _, ⟨_, Heap.get?_push_size _ rfl, rfl, rfl⟩, fun b hb => ?_, q⟩
    have e : b = s1.heap.objs.size := by simpa using hb
    subst e
    exact I1.fpOk (Nat.le_refl _) (I1.hok.fresh (Nat.le_refl _))
end UF
namespace UF
open PySem PySem.Spec PyProof.Rows L2 C8 LamX
/-- what was read locked is as before -/
theorem Fr.lock {ds : List Addr} {H H' : Hp} {d : Addr} {u : HO} {od : Obj} (h : H d = some u) (n1 : ∀ ps, u ≠ .tbl ps) (n2 : ∀ φ, u ≠ .ext φ) (X : Fr ds (L2.upd H d (.frz od u)) H') (m : d ∉ ds) : Fr ds H (L2.upd H' d u) := by
  have hd : H' d = some (.frz od u) := X.keep d _ upd_same m fun _ z => nomatch z
  have p1 : Pl H d := ⟨u, h, n1, n2⟩
  have p2 : Pl H' d := ⟨_, hd, (fun _ z => nomatch z), fun _ z => nomatch z⟩
  refine ⟨⟨fun a o ha n t => ?_, fun a h' => ?_⟩, fun T hT => tabs_put (X.tabs T (tabs_put hT p1 _)) p2 _⟩
  · by_cases e : a = d
    · subst e
      rw [upd_same]
      rw [h] at ha
      exact ha
    · rw [upd_ne e]
      exact X.keep a o (by rw [upd_ne e]; exact ha) n t
  · by_cases e : a = d
    · subst e
      obtain ⟨ps, z⟩ := h' u upd_same
      exact absurd z (n1 ps)
    · have q : Nw H' a := fun o ho => h' o (by rw [upd_ne e]; exact ho)
      exact fun o ho => X.live a q o (by rw [upd_ne e]; exact ho)
theorem Fr.lockK {ds : List Addr} {H H' : Hp} {d : Addr} {kv : List (Key × V)} {od : Obj} (h : H d = some (.dK kv)) (X : Fr ds (L2.upd H d (.frz od (.dK kv))) H') (m : d ∉ ds) : Fr ds H (L2.upd H' d (.dK kv)) := X.lock h (fun _ z => nomatch z) (fun _ z => nomatch z) m
end UF
namespace UF
open PySem PySem.Spec PyProof.Rows L2 C8 LamX
theorem snoc_ind {α : Type} {P : List α → Prop} (h0 : P []) (h1 : ∀ l x, P l → P (l ++ [x])) (l : List α) : P l := by
  have : ∀ l : List α, P l.reverse := by
    intro l
    induction l with
    | nil => exact h0
    | cons x l ih =>
      rw [List.reverse_cons]
      exact h1 _ _ ih
  have := this l.reverse
  rwa [List.reverse_reverse] at this
theorem putK_len {κ : Type} [DecidableEq κ] {kvs : List (κ × V)} {k : κ} {v w : V} (h : valV kvs k = some w) : (putK kvs k v).length = kvs.length := by
  unfold putK
  rw [valV_any, h]
  simp
theorem nd_nin {α : Type} {l : List α} (nd : l.Nodup) {j : Nat} {x : α} (e : l[j]? = some x) : x ∉ l.take j := fun m => by
  obtain ⟨i, hi⟩ := List.mem_iff_getElem?.mp m
  obtain ⟨jl, je⟩ := List.getElem?_eq_some_iff.mp e
  obtain ⟨il, ie⟩ := List.getElem?_eq_some_iff.mp hi
  rw [List.length_take] at il
  rw [List.getElem_take] at ie
  exact List.pairwise_iff_getElem.mp nd i j (by omega) jl (by omega) (ie.trans je.symm)
theorem dkv_keys (ks : List Int) : (dkv ks).map (·.1) = ks.map Sum.inl := by
  unfold dkv
  rw [List.map_map]
  rfl
end UF
namespace UF
open PySem PySem.Spec PyProof.Rows L2 C8 LamX
theorem sqL_fr {K : PySem.W.Frag} {H H' : Hp} {a : Addr} {xs : List V} {ds : List Addr} (h : SqL K H a xs) (X : Fr ds H H') (n : a ∉ ds) : SqL K H' a xs := by
  rcases h with (h | ⟨o, h⟩) | h
  · exact .inl (.inl (X.lst h n))
  · exact .inl (.inr ⟨o, X.keep a _ h n fun _ z => nomatch z⟩)
  · exact .inr h
theorem sqT_fr {K : PySem.W.Frag} {H H' : Hp} {a : Addr} {xs : List V} {ds : List Addr} (h : SqT K H a xs) (X : Fr ds H H') (n : a ∉ ds) : SqT K H' a xs := by
  rcases h with (h | ⟨o, h⟩) | h
  · exact .inl (.inl (X.tup h n))
  · exact .inl (.inr ⟨o, X.keep a _ h n fun _ z => nomatch z⟩)
  · exact .inr h
/-- a list or a tuple of whole numbers -/
def SqI (K : PySem.W.Frag) (H : Hp) (l : Addr) (ns : List Int) : Prop := SqL K H l (ns.map V.int) ∨ SqT K H l (ns.map V.int)
theorem SqI.fr {K : PySem.W.Frag} {H H' : Hp} {a : Addr} {ns : List Int} {ds : List Addr} (h : SqI K H a ns) (X : Fr ds H H') (n : a ∉ ds) : SqI K H' a ns := h.imp (fun z => sqL_fr z X n) (fun z => sqT_fr z X n)
end UF

set_option Elab.async false
set_option maxRecDepth 100000
set_option maxHeartbeats 4000000
set_option exponentiation.threshold 4096
set_option linter.unusedVariables false
/-! a book -/
namespace K27
open PySem PySem.Spec PyProof.Rows L2 C8 LamX UF
def fsB (x L : Addr) : List (Str × V) := [("setting", .ref x), ("_latest", .ref L)]
theorem fb_setting {x L : Addr} : (fsB x L).lookup ("setting" : Str) = some (.ref x) := by kernel_rfl
theorem fb_latest {x L : Addr} : (fsB x L).lookup ("_latest" : Str) = some (.ref L) := by kernel_rfl
theorem fb_of {x L : Addr} : (fsB x L).lookup ("of" : Str) = none := by kernel_rfl
theorem fb_held {x L : Addr} : (fsB x L).lookup ("held" : Str) = none := by kernel_rfl
theorem fb_rows {x L : Addr} : (fsB x L).lookup ("rows" : Str) = none := by kernel_rfl
theorem fb_take {x L : Addr} : (fsB x L).lookup ("take" : Str) = none := by kernel_rfl
theorem fb_puts {x L : Addr} : putF ("_latest" : Str) (V.ref L) (putF ("setting" : Str) (V.ref x) []) = fsB x L := by kernel_rfl
def BkO (CB : Addr) (H : Hp) (b x L : Addr) : Prop := ∃ dx, H b = some (.ins CB dx (fsB x L))
theorem BkO.fr {CB : Addr} {H H' : Hp} {b x L : Addr} {ds : List Addr} (h : BkO CB H b x L) (X : Fr ds H H') (n : b ∉ ds) : BkO CB H' b x L := by
  obtain ⟨dx, e⟩ := h
  exact ⟨dx, X.ins e n⟩
def MarksOk (ms : List (Int × Say)) : Prop := ∀ k s, lkA ms k = some s → s.mark ∈ marksL
/-- sayings at addresses -/
def SaysAt (H : Hp) (as : List Addr) (ss : List Say) : Prop := Paired (SayAt H) as ss
theorem paired_imp0 {α β : Type} {F G : α → β → Prop} {xs : List α} {ys : List β} (h : Paired F xs ys) (im : ∀ a b, F a b → G a b) : Paired G xs ys := by
  induction h with
  | nil => exact .nil
  | cons q t ih => exact .cons (im _ _ q) ih
theorem paired_snoc {α β : Type} {F : α → β → Prop} {xs : List α} {ys : List β} {x : α} {y : β} (h : Paired F xs ys) (q : F x y) : Paired F (xs ++ [x]) (ys ++ [y]) := by
  induction h with
  | nil => exact .cons q .nil
  | cons a t ih => exact .cons a ih
theorem SaysAt.fr {H H' : Hp} {as : List Addr} {ss : List Say} {ds : List Addr} (h : SaysAt H as ss) (X : Fr ds H H') (nt : ∀ a ∈ ds, ∀ vs, H a ≠ some (.tup vs)) : SaysAt H' as ss := paired_imp0 h fun a s e => X.tup e fun m => nt a m _ e
theorem SaysAt.fr0 {H H' : Hp} {as : List Addr} {ss : List Say} (h : SaysAt H as ss) (X : Fr [] H H') : SaysAt H' as ss := h.fr X fun a m => nomatch m
def spLatest (CS : Addr) : Sp := fun vs H Q _ => ∃ (x l : Addr) (n : Nat) (as : List Addr) (ss : List Say), vs = [.ref x, .ref l] ∧ SetN CS H x n ∧ n ≤ 8 ∧ H l = some (.lst (as.map V.ref)) ∧ SaysAt H as ss ∧ (∀ s ∈ ss, s.Ok (ringN n)) ∧ ss.length ≤ 10000 ∧
  ∀ (L : Addr) (H' : Hp), Nw H L → Fr [] H H' → TupD Say.vs H' L (latL ss) → Q (.ref L) H'
def spBook (CB CS : Addr) : Sp := fun vs H Q _ => ∃ (b dx x l : Addr) (n : Nat) (as : List Addr) (ss : List Say), vs = [.ref b, .ref x, .ref l] ∧ H b = some (.ins CB dx []) ∧ SetN CS H x n ∧ n ≤ 8 ∧ H l = some (.lst (as.map V.ref)) ∧ SaysAt H as ss ∧ (∀ s ∈ ss, s.Ok (ringN n)) ∧ ss.length ≤ 10000 ∧
  ∀ (L : Addr) (H' : Hp), Nw H L → Fr [b] H H' → BkO CB H' b x L → TupD Say.vs H' L (latL ss) → Q .non H'
def spOf (CB : Addr) : Sp := fun vs H Q _ => ∃ (b x L : Addr) (k : Int) (ms : List (Int × Say)), vs = [.ref b, .int k] ∧ BkO CB H b x L ∧ TupD Say.vs H L ms ∧ ∀ v, oSay H v (lkA ms k) → Q v H
def spTake (CB CS : Addr) : Sp := fun vs H Q _ => ∃ (b x L a : Addr) (n : Nat) (ms : List (Int × Say)) (s : Say), vs = [.ref b, .ref a] ∧ BkO CB H b x L ∧ SetN CS H x n ∧ n ≤ 8 ∧ TupD Say.vs H L ms ∧ ms.length ≤ 10000 ∧ MarksOk ms ∧ SayAt H a s ∧ s.Ok (ringN n) ∧
  (rankI s ≤ rankO (lkA ms s.seat) → ∀ H' : Hp, Fr [] H H' → Q (.bl false) H') ∧ (rankO (lkA ms s.seat) < rankI s → ∀ H' : Hp, Fr [L] H H' → TupD Say.vs H' L (putA ms s.seat s) → Q (.bl true) H')
def spHeldB (CB : Addr) : Sp := fun vs H Q _ => ∃ (b x L : Addr) (ms : List (Int × Say)), vs = [.ref b] ∧ BkO CB H b x L ∧ TupD Say.vs H L ms ∧
  ∀ (q : Addr) (ys : List Int) (H' : Hp), ys.Perm (ms.map Prod.fst) → ys.Pairwise (· ≤ ·) → Nw H q → Fr [] H H' → H' q = some (.lst (ys.map V.int)) → Q (.ref q) H'
def rowsM (ms : List (Int × Say)) (ys : List Int) : List Say := ys.filterMap (lkA ms)
def spRowsB (CB : Addr) : Sp := fun vs H Q _ => ∃ (b x L : Addr) (ms : List (Int × Say)), vs = [.ref b] ∧ BkO CB H b x L ∧ TupD Say.vs H L ms ∧ ms.length ≤ 10000 ∧
  ∀ (q : Addr) (ys : List Int) (as : List Addr) (H' : Hp), ys.Perm (ms.map Prod.fst) → ys.Pairwise (· ≤ ·) → Nw H q → Fr [] H H' → H' q = some (.lst (as.map V.ref)) → SaysAt H' as (rowsM ms ys) → Q (.ref q) H'
theorem latL_marks {ss : List Say} (h : ∀ s ∈ ss, s.mark ∈ marksL) : MarksOk (latL ss) := by
  refine snoc_ind (P := fun ss => (∀ s ∈ ss, s.mark ∈ marksL) → MarksOk (latL ss)) (fun _ k s e => nomatch e) (fun l x ih h => ?_) ss h
  have ih := ih fun s m => h s (List.mem_append_left _ m)
  rw [latL_snoc]
  unfold latS
  split
  · intro k s e
    rw [lk_putA] at e
    split at e
    · cases e
      exact h x (List.mem_append_right _ (.head _))
    · exact ih k s e
  · exact ih
theorem latL_len (ss : List Say) : (latL ss).length ≤ ss.length := by
  refine snoc_ind (P := fun ss => (latL ss).length ≤ ss.length) (Nat.le_refl _) (fun l x ih => ?_) ss
  rw [latL_snoc, List.length_append]
  unfold latS
  show _ ≤ l.length + 1
  split
  · exact Nat.le_trans (len_putA _ _ _) (by omega)
  · omega
theorem pd_get0 {α β : Type} {F : α → β → Prop} {xs : List α} {ys : List β} (h : Paired F xs ys) {i : Nat} {a : α} (e : xs[i]? = some a) : ∃ b, ys[i]? = some b ∧ F a b := by
  induction h generalizing i with
  | nil => cases e
  | cons q t ih =>
    cases i with
    | zero => cases e; exact ⟨_, rfl, q⟩
    | succ i => exact ih e
section
variable {P : Program} {w : World} {K : PySem.W.Frag} {mg : Str → Option Value} {base : Heap} {CS CB : Addr}
theorem c_latest_of (c_check_saying : Cal P w K mg base 4 "check_saying" (spChkSay CS) []) (c_rank : Cal P w K mg base 1 "rank" spRankP []) (d : D0 K mg "latest_of" s_latest_of ["setting", "sayings"]) : Cal P w K mg base 5 "latest_of" (spLatest CS) [] := by
  refine cal d sc_latest_of (fun vs H Q E h => ?_) (fun cdv A outer f s0 H vs Q E hr h => ?_)
  · obtain ⟨x, l, n, as, ss, rfl, _⟩ := h
    rfl
  · obtain ⟨x, l, n, as, ss, rfl, hx, n8, hl, hs, so, l1, k⟩ := h
    refine ⟨_, (pss_cons (ps_set (i := 2) sc_latest_of.nd rfl (Or.inl rfl) pe_dnewK)
      (pss_cons (ps_for PassesOwn.never rfl (pi_list (pv 1)) (pg_name (i := 3) sc_latest_of.nd rfl (Or.inl rfl)) (pss_cons (ps_expr (pe_c c_check_saying hr (by decide) rfl (pa_cons (pv 0) (pa_cons (pv 3) pa_nil))))
      (pss_one (ps_if (pt_cmpR op_gt (pe_c c_rank hr (by decide) rfl (pa_cons (pv 3) pa_nil)) (pe_c c_rank hr (by decide) rfl (pa_cons (pe_dget1 (u1 hr) (pv 2) (pe_ix ix_tup (pv 3) pe_int (fun _ _ => rfl)) (M1.mk (by rfl) (by rfl) (by rfl) (by rfl))) pa_nil)) (nomark _)) (pss_one (ps_asg (pv 3) (pg_sub (pv 2) (pe_ix ix_tup (pv 3) pe_int (fun _ _ => rfl)) (set_dict (u1 hr))))) pss_nil))))
      (pss_one (ps_ret (pv 2))))), ?_⟩
    intro L nL
    have nwL : Nw H L := .of nL
    have X0 : Fr [] H (upd H L (.dK [])) := Fr.new0 nL _
    have hL0 : TupD Say.vs (upd H L (.dK [])) L (latL []) := TupD.nil upd_same
    generalize upd H L (.dK []) = H0 at X0 hL0
    refine ⟨_, rfl, l, rfl, ⟨_, SqL.of (X0.lst hl not_nil)⟩, ?_⟩
    refine for_list (xs := as.map V.ref) (fun i σ H' => Fr [] H H' ∧ TupD Say.vs H' L (latL (ss.take i)) ∧ ∃ v3 : Option V, σ = [some (.ref x), some (.ref l), some (.ref L), v3]) ⟨X0, hL0, _, rfl⟩ (fun i σ H' _ pv => SqL.of (pv.1.lst hl not_nil)) (fun i v σ H1 hv pv => ?_) (fun σ H1 pv => ?_)
    · obtain ⟨X1, hL1, v3, rfl⟩ := pv
      obtain ⟨a, ea, rfl⟩ := map_get hv
      obtain ⟨s, es, ha⟩ := pd_get0 hs ea
      have sm := List.mem_of_getElem? es
      have il := (List.getElem?_eq_some_iff.mp es).1
      refine ⟨_, rfl, _, rfl, x, a, n, s, rfl, hx.fr X1 not_nil, n8, X1.tup ha not_nil, so s sm, fun H2 X2 => ?_⟩
      have X12 := X1.trans X2
      have ha2 := X12.tup ha not_nil
      have hL2 := hL1.fr0 X2
      have mo : MarksOk (latL (ss.take i)) := latL_marks fun s m => (so s (List.mem_of_mem_take m)).m
      have ll : (latL (ss.take i)).length ≤ 10000 := Nat.le_trans (latL_len _) (by rw [List.length_take]; omega)
      have go : ∀ (v : V), oSay H2 v (lkA (latL (ss.take i)) s.seat) → ∀ {R : V → Hp → Prop}, R v H2 → R v H2 := fun v _ R r => r
      have fin : ∀ (o : Option Say), o = lkA (latL (ss.take i)) s.seat → (rankO o < rankI s → ∃ kv, DPut H2 L (.int s.seat) (.ref a) (upd H2 L (.dK kv)) ∧ Fr [] H (upd H2 L (.dK kv)) ∧ TupD Say.vs (upd H2 L (.dK kv)) L (latL (ss.take (i + 1)))) ∧ (¬ rankO o < rankI s → latL (ss.take (i + 1)) = latL (ss.take i)) := fun o eo => by
        subst eo
        rw [take_snoc es, latL_snoc]
        unfold latS
        refine ⟨fun c => ?_, fun c => if_neg c⟩
        rw [if_pos c]
        obtain ⟨kv, g1, g2⟩ := hL2.put s.seat ha2 (Nat.le_trans ll (by decide))
        obtain ⟨kv0, e0⟩ := hL2.at_
        exact ⟨kv, g1, X12.late nwL (.dK e0) _, g2⟩
      have step : ∀ (v : V) (o : Option Say), oSay H2 v o → o = lkA (latL (ss.take i)) s.seat → (∀ s, o = some s → s.mark ∈ marksL) := fun v o _ e s' e' => mo s.seat s' (by rw [← e, e'])
      refine ⟨_, rfl, .ref a, some s, rfl, ⟨a, rfl, ha2⟩, (fun s' e => by cases e; exact (so s sm).m), ?_⟩
      cases q : lkA (latL (ss.take i)) s.seat with
      | none =>
        obtain ⟨f1, f2⟩ := fin none q.symm
        refine ⟨_, rfl, L, rfl, ?_, _, rfl, _, _, _, _, rfl, rfl, SqT.of ha2, rfl, none, hL2.none_ q, .non, none, rfl, rfl, (fun s' e => nomatch e), ?_⟩
        · obtain ⟨kv0, e0⟩ := hL2.at_
          exact .inl ⟨kv0, .inl e0⟩
        · refine ⟨_, _, rfl, rfl, _, rfl, ite2 (fun c => ?_) (fun c => ?_)⟩
          · obtain ⟨kv, g1, g2, g3⟩ := f1 (of_decide_eq_true c)
            exact ⟨_, rfl, _, rfl, _, rfl, _, _, _, _, rfl, rfl, SqT.of ha2, rfl, L, _, rfl, g1, g2, g3, _, rfl⟩
          · exact ⟨X12, by rw [f2 (fun z => c (decide_eq_true z))]; exact hL2, _, rfl⟩
      | some s' =>
        obtain ⟨f1, f2⟩ := fin (some s') q.symm
        obtain ⟨a', gg, ha'⟩ := hL2.some_ q
        refine ⟨_, rfl, L, rfl, ?_, _, rfl, _, _, _, _, rfl, rfl, SqT.of ha2, rfl, _, gg, .ref a', some s', rfl, ⟨a', rfl, ha'⟩, (fun s'' e => by cases e; exact mo _ _ q), ?_⟩
        · obtain ⟨kv0, e0⟩ := hL2.at_
          exact .inl ⟨kv0, .inl e0⟩
        · refine ⟨_, _, rfl, rfl, _, rfl, ite2 (fun c => ?_) (fun c => ?_)⟩
          · obtain ⟨kv, g1, g2, g3⟩ := f1 (of_decide_eq_true c)
            exact ⟨_, rfl, _, rfl, _, rfl, _, _, _, _, rfl, rfl, SqT.of ha2, rfl, L, _, rfl, g1, g2, g3, _, rfl⟩
          · exact ⟨X12, by rw [f2 (fun z => c (decide_eq_true z))]; exact hL2, _, rfl⟩
    · obtain ⟨X1, hL1, v3, rfl⟩ := pv
      have ll := hs.length
      rw [List.length_map, ll, List.take_length] at hL1
      exact ⟨_, rfl, k L H1 nwL X1 hL1⟩
theorem f_book (TB : T_Book K mg CB) (c_latest_of : Cal P w K mg base 5 "latest_of" (spLatest CS) []) {f a : Addr} {fd : FuncData} (F : FunD K "__init__" "Book.__init__" (C8.fnArgs s_Book__init) (C8.fnBody s_Book__init) (C8.fnScope s_Book__init) [.ref a] [] f fd) : FnOk P w K mg base C8.CX0 6 f fd ["self", "setting", "sayings"] (spBook CB CS) := by
  refine F.ok (N := n_Book__init) sc_Book__init (fun vs H Q E h => ?_) (fun cdv A outer s0 H vs Q E hr h => ?_)
  · obtain ⟨b, dx, x, l, n, as, ss, rfl, _⟩ := h
    rfl
  · obtain ⟨b, dx, x, l, n, as, ss, rfl, hb, hx, n8, hl, hs, so, l1, k⟩ := h
    refine ⟨_, PSs.nox (pss_cons (ps_fld (pv 0) (pv 1) rfl)
      (pss_one (ps_fld (pv 0) (pe_c c_latest_of hr (by decide) rfl (pa_cons (pv 1) (pa_cons (pv 2) pa_nil))) rfl))), ?_⟩
    refine ⟨_, rfl, _, rfl, b, CB, dx, [], rfl, hb, TB.cl, TB.n_setting, by show 0 < 1000; decide, ?_⟩
    have X1 : Fr [b] H (upd H b (.ins CB dx (putF ("setting" : Str) (V.ref x) []))) := (Fr.refl [b] H).upd (.head _) (.ins hb) _
    have hb1 : upd H b (.ins CB dx (putF ("setting" : Str) (V.ref x) [])) b = some (.ins CB dx (putF ("setting" : Str) (V.ref x) [])) := upd_same
    have xb : x ≠ b := fun z => by
      obtain ⟨p, r, g, hh, dx', e⟩ := hx
      rw [z, hb] at e
      cases e
    have lb : l ≠ b := fun z => by rw [z, hb] at hl; cases hl
    have nt : ∀ a ∈ [b], ∀ vs, H a ≠ some (.tup vs) := fun a m vs z => by
      rw [List.mem_singleton.mp m, hb] at z
      cases z
    have hx1 := hx.fr X1 (not_one xb)
    have hl1 := X1.lst hl (not_one lb)
    have hs1 := hs.fr X1 nt
    generalize upd H b (.ins CB dx (putF ("setting" : Str) (V.ref x) [])) = H1 at X1 hb1 hx1 hl1 hs1
    refine ⟨_, rfl, _, rfl, x, l, n, as, ss, rfl, hx1, n8, hl1, hs1, so, l1, fun L H2 nL X2 hL2 => ?_⟩
    have hb2 := X2.ins hb1 not_nil
    refine ⟨_, rfl, b, CB, dx, _, rfl, hb2, TB.cl, TB.n_latest, by show 1 < 1000; decide, ?_⟩
    have X3 : Fr [b] H2 (upd H2 b (.ins CB dx (putF ("_latest" : Str) (V.ref L) (putF ("setting" : Str) (V.ref x) [])))) := (Fr.refl [b] H2).upd (.head _) (.ins hb2) _
    have Lb : L ≠ b := fun z => by
      obtain ⟨kv, e⟩ := hL2.at_
      rw [z, hb2] at e
      cases e
    refine k L _ (X1.live L nL) (X1.trans ((X2.mono fun a m => nomatch m).trans X3)) ⟨dx, by rw [upd_same, fb_puts]⟩ (hL2.fr X3 (not_one Lb) fun a m vs z => ?_)
    rw [List.mem_singleton.mp m, hb2] at z
    cases z
theorem c_Book (TB : T_Book K mg CB) (c_latest_of : Cal P w K mg base 5 "latest_of" (spLatest CS) []) : Mak P w K mg base 6 "Book" CB (spBook CB CS) [] := by
  obtain ⟨f, a, fd, M, F, ha⟩ := TB.ini
  obtain ⟨ds, r, b⟩ := F.binds1 (ps := ["self", "setting", "sayings"]) 3 1 (fun z => nomatch z) rfl (fun T kV doc pm an cdv ct us its hl hi => match us, hl, its, hi with
    | [_, _, _], _, [_], _ => ⟨_, rfl, rfl⟩)
  exact ⟨f, fd, _, ds, M, f_book TB c_latest_of F, TB.mgC, b, r⟩
theorem m_of (TB : T_Book K mg CB) : Met P w K mg base 1 CB "of" (spOf CB) [] := by
  refine met TB.m_of TB.cl sc_Book_of (fun vs H Q E h => ?_) (fun cdv A outer f s0 H vs Q E hr h => ?_)
  · obtain ⟨b, x, L, kk, ms, rfl, _⟩ := h
    rfl
  · obtain ⟨b, x, L, kk, ms, rfl, ⟨dx, hb⟩, hL, k⟩ := h
    refine ⟨_, (pss_one (ps_ret (pe_dget1 (u1 hr) (pe_fld (pv 0) rfl) (pv 1) (M1.mk (by rfl) (by rfl) (by rfl) (by rfl))))), ?_⟩
    have isd : IsD H L := by
      obtain ⟨kv0, e0⟩ := hL.at_
      exact .inl ⟨kv0, .inl e0⟩
    refine ⟨_, rfl, b, CB, dx, _, _, rfl, hb, TB.cl, TB.n_latest, fb_latest, L, rfl, isd, _, rfl, ?_⟩
    cases q : lkA ms kk with
    | none => exact ⟨none, hL.none_ q, k .non (by rw [q]; rfl)⟩
    | some s =>
      obtain ⟨a, g, ha⟩ := hL.some_ q
      exact ⟨_, g, k (.ref a) (by rw [q]; exact ⟨a, rfl, ha⟩)⟩
theorem m_take (TB : T_Book K mg CB) (c_check_saying : Cal P w K mg base 4 "check_saying" (spChkSay CS) []) (c_rank : Cal P w K mg base 1 "rank" spRankP []) (m_of : Met P w K mg base 1 CB "of" (spOf CB) []) : Met P w K mg base 5 CB "take" (spTake CB CS) [] := by
  refine met TB.m_take TB.cl sc_Book_take (fun vs H Q E h => ?_) (fun cdv A outer f s0 H vs Q E hr h => ?_)
  · obtain ⟨b, x, L, a, n, ms, s, rfl, _⟩ := h
    rfl
  · obtain ⟨b, x, L, a, n, ms, s, rfl, hb, hx, n8, hL, l1, mo, ha, so, k1, k2⟩ := h
    refine ⟨_, (pss_cons (ps_expr (pe_c c_check_saying hr (by decide) rfl (pa_cons (pe_fld (pv 0) rfl) (pa_cons (pv 1) pa_nil))))
      (pss_cons (ps_if (pt_cmpR op_le (pe_c c_rank hr (by decide) rfl (pa_cons (pv 1) pa_nil)) (pe_c c_rank hr (by decide) rfl (pa_cons (pe_mt m_of hr (by decide) (pv 0) (pa_cons (pe_ix ix_tup (pv 1) pe_int (fun _ _ => rfl)) pa_nil)) pa_nil)) (nomark _)) (pss_one (ps_ret pe_bl)) pss_nil)
      (pss_cons (ps_asg (pv 1) (pg_sub (pe_fld (pv 0) rfl) (pe_ix ix_tup (pv 1) pe_int (fun _ _ => rfl)) (set_dict (u1 hr))))
      (pss_one (ps_ret pe_bl))))), ?_⟩
    obtain ⟨dx, eb⟩ := id hb
    refine ⟨_, rfl, b, CB, dx, _, _, rfl, eb, TB.cl, TB.n_setting, fb_setting, _, rfl, x, a, n, s, rfl, hx, n8, ha, so, fun H1 X1 => ?_⟩
    have ha1 := X1.tup ha not_nil
    have hb1 := hb.fr X1 not_nil
    have hL1 := hL.fr0 X1
    obtain ⟨dx1, eb1⟩ := id hb1
    refine ⟨_, rfl, .ref a, some s, rfl, ⟨a, rfl, ha1⟩, (fun s' e => by cases e; exact so.m), ?_⟩
    refine ⟨_, rfl, b, dx1, _, rfl, eb1, fb_of, _, rfl, _, _, _, _, rfl, rfl, SqT.of ha1, rfl, b, x, L, s.seat, ms, rfl, hb1, hL1, fun v hv => ?_⟩
    refine ⟨v, _, rfl, hv, (fun s' e => mo _ _ e), ?_⟩
    refine ⟨_, _, rfl, rfl, _, rfl, ite2 (fun c => ?_) (fun c => ?_)⟩
    · have c : rankI s ≤ rankO (lkA ms s.seat) := of_decide_eq_true c
      exact k1 c H1 X1
    · have c : ¬ rankI s ≤ rankO (lkA ms s.seat) := fun z => c (decide_eq_true z)
      obtain ⟨kv, g1, g2⟩ := hL1.put s.seat ha1 (Nat.le_trans l1 (by decide))
      obtain ⟨kv0, e0⟩ := hL1.at_
      refine ⟨_, rfl, _, rfl, b, CB, dx1, _, _, rfl, eb1, TB.cl, TB.n_latest, fb_latest, _, rfl, _, _, _, _, rfl, rfl, SqT.of ha1, rfl, L, _, rfl, g1, ?_⟩
      exact k2 (by omega) _ ((X1.mono fun a m => nomatch m).upd (.head _) (.dK e0) _) g2
theorem m_held (T : Bl mg) (TB : T_Book K mg CB) : Met P w K mg base 1 CB "held" (spHeldB CB) [] := by
  refine met TB.m_held TB.cl sc_Book_held (fun vs H Q E h => ?_) (fun cdv A outer f s0 H vs Q E hr h => ?_)
  · obtain ⟨b, x, L, ms, rfl, _⟩ := h
    rfl
  · obtain ⟨b, x, L, ms, rfl, ⟨dx, hb⟩, hL, k⟩ := h
    refine ⟨_, (pss_one (ps_ret (pe_callB (SortD.cr_sortD rfl) (by rfl) T.sorted (by decide +kernel) (pa_cons (pe_fld (pv 0) rfl) pa_nil)))), ?_⟩
    obtain ⟨kv, e, _, ek⟩ := hL.len
    exact ⟨_, rfl, b, CB, dx, _, _, rfl, hb, TB.cl, TB.n_latest, fb_latest, L, kv, _, rfl, .inl e, ek, fun ys q pm srt nq => k q ys _ pm srt (.of nq) (Fr.new0 nq _) upd_same⟩
theorem m_rows (T : Bl mg) (TB : T_Book K mg CB) (m_held : Met P w K mg base 1 CB "held" (spHeldB CB) []) : Met P w K mg base 2 CB "rows" (spRowsB CB) [] := by
  refine met TB.m_rows TB.cl sc_Book_rows (fun vs H Q E h => ?_) (fun cdv A outer f s0 H vs Q E hr h => ?_)
  · obtain ⟨b, x, L, ms, rfl, _⟩ := h
    rfl
  · obtain ⟨b, x, L, ms, rfl, hb, hL, l1, k⟩ := h
    refine ⟨_, (pss_one (ps_ret (pe_lc (own := [("seat", 1)]) (g := gName 1) (tt := tYes) (te := tDGet (tFld K (tVar 0) "_latest") (tVar 1)) (by rfl) sc_Book_rows.nd (pi_list (pe_mt0 m_held hr (by decide) (pv 0))) (blkOk_by (own := [("seat", 1)]) (N := n_Book_rows) (sc := C8.fnScope s_Book_rows) (by decide +kernel)) (fun _ _ _ _ _ => pg_name (i := 1) sc_Book_rows.nd rfl (Or.inl rfl)) (fun _ _ _ _ _ => pts_nil) (fun _ _ _ _ _ => (pe_dget (u1 hr) (pe_fld (pv 0) rfl) (pv 1) (fun _ _ => rfl)))))), ?_⟩
    obtain ⟨dx, eb⟩ := id hb
    refine ⟨_, rfl, b, dx, _, rfl, eb, fb_held, b, x, L, ms, rfl, hb, hL, fun q ys H1 pm srt nq X1 hq => ?_⟩
    refine ⟨q, rfl, ⟨_, SqL.of hq⟩, fun D nD => ?_⟩
    have ly : ys.length ≤ 10000 := by rw [pm.length_eq, List.length_map]; exact l1
    refine lc_list (xs := ys.map V.int) (fun j H' => Fr [] H1 H' ∧ ∃ as : List Addr, as.length ≤ j ∧ H' D = some (.lst (as.map V.ref)) ∧ SaysAt H' as (rowsM ms (ys.take j))) ⟨Fr.new0 nD _, [], Nat.le_refl _, upd_same, .nil⟩ (fun j H' _ pv => SqL.of (pv.1.lst hq not_nil)) (fun j v H2 hv pv => ?_) (fun H2 pv => ?_)
    · obtain ⟨X2, as, las, hD, pas⟩ := pv
      obtain ⟨s1, es, rfl⟩ := map_getE hv
      have jl := (List.getElem?_eq_some_iff.mp es).1
      obtain ⟨s, e⟩ := lkA_in (pm.mem_iff.mp (List.mem_of_getElem? es))
      have X02 := X1.trans X2
      obtain ⟨dx2, eb2⟩ := hb.fr X02 not_nil
      have hL2 := hL.fr0 X02
      obtain ⟨a, g, ha⟩ := hL2.some_ e
      refine ⟨rfl, _, rfl, b, CB, dx2, _, _, rfl, eb2, TB.cl, TB.n_latest, fb_latest, _, rfl, L, _, rfl, g, _, hD, by rw [List.length_map]; exact Nat.lt_of_le_of_lt (show as.length ≤ 100000 by omega) (by decide), X2.late (.of nD) (.lst hD) _, as ++ [a], by rw [List.length_append]; show as.length + 1 ≤ _; omega, by rw [upd_same, List.map_append]; rfl, ?_⟩
      have ne : ∀ {c : Addr} {vs : List V}, H2 c = some (.tup vs) → c ≠ D := fun h z => by rw [z, hD] at h; cases h
      have e1 : rowsM ms (ys.take (j + 1)) = rowsM ms (ys.take j) ++ [s] := by
        unfold rowsM
        rw [take_snoc es, List.filterMap_append, List.filterMap_cons_some e]
        rfl
      rw [e1]
      refine paired_snoc (paired_imp0 pas fun c s' h => ?_) ?_
      · have h : H2 c = some (.tup s'.vs) := h
        show upd H2 D _ c = _
        rw [upd_ne (ne h)]
        exact h
      · show upd H2 D _ a = _
        rw [upd_ne (ne ha)]
        exact ha
    · obtain ⟨X2, as, las, hD, pas⟩ := pv
      rw [List.length_map, List.take_length] at pas
      exact k D ys as H2 pm srt (X1.live D (.of nD)) (X1.trans X2) hD pas
end
end K27

set_option Elab.async false
set_option maxRecDepth 100000
set_option maxHeartbeats 4000000
set_option exponentiation.threshold 4096
set_option linter.unusedVariables false
/-! doubts -/
namespace K27
open PySem PySem.Spec PyProof.Rows L2 C8 LamX UF
def fsD (x D : Addr) : List (Str × V) := [("setting", .ref x), ("_clocks", .ref D)]
theorem fd_setting {x D : Addr} : (fsD x D).lookup ("setting" : Str) = some (.ref x) := by kernel_rfl
theorem fd_clocks {x D : Addr} : (fsD x D).lookup ("_clocks" : Str) = some (.ref D) := by kernel_rfl
theorem fd_m {x D : Addr} : (fsD x D).lookup ("_is_due" : Str) = none ∧ (fsD x D).lookup ("doubt" : Str) = none ∧ (fsD x D).lookup ("lift" : Str) = none ∧ (fsD x D).lookup ("since" : Str) = none ∧ (fsD x D).lookup ("due" : Str) = none := ⟨by kernel_rfl, by kernel_rfl, by kernel_rfl, by kernel_rfl, by kernel_rfl⟩
theorem fd_puts {x D : Addr} : putF ("_clocks" : Str) (V.ref D) (putF ("setting" : Str) (V.ref x) []) = fsD x D := by kernel_rfl
def vsC (p : Int × Int) : List V := [.int p.1, .int p.2]
abbrev Clk := List (Int × (Int × Int))
def DbO (CD : Addr) (H : Hp) (o x D : Addr) : Prop := ∃ dx, H o = some (.ins CD dx (fsD x D))
theorem DbO.fr {CD : Addr} {H H' : Hp} {b x L : Addr} {ds : List Addr} (h : DbO CD H b x L) (X : Fr ds H H') (n : b ∉ ds) : DbO CD H' b x L := by
  obtain ⟨dx, e⟩ := h
  exact ⟨dx, X.ins e n⟩
def SetG (C : Addr) (H : Hp) (q : Addr) (n : Nat) (g : Int) : Prop := ∃ p r h : Int, SetO C H q (n : Int) p r g h
theorem SetG.fr {C : Addr} {H H' : Hp} {q : Addr} {n : Nat} {g : Int} {ds : List Addr} (s : SetG C H q n g) (x : Fr ds H H') (m : q ∉ ds) : SetG C H' q n g := by
  obtain ⟨p, r, h, z⟩ := s
  exact ⟨p, r, h, z.fr x m⟩
theorem SetG.sn {C : Addr} {H : Hp} {q : Addr} {n : Nat} {g : Int} (s : SetG C H q n g) : SetN C H q n := by
  obtain ⟨p, r, h, z⟩ := s
  exact ⟨p, r, g, h, z⟩
def dbtF (cs : Clk) (s l now : Int) : Clk := if (lkA cs s).map Prod.fst = some l then cs else putA cs s (l, now)
def oI : Option Int → V
  | none => .non
  | some i => .int i
def dueB (cs : Clk) (g now : Int) (s : Say) : Bool := match lkA cs s.seat with
  | none => false
  | some c => decide (s.life = c.1) && (decide (s.mark = "suspect") && decide (g ≤ now - c.2))
def deadS (s : Say) : Say := ⟨s.seat, s.life, "dead", s.worth⟩
def dueF (cs : Clk) (ms : List (Int × Say)) (g now : Int) (ys : List Int) : List Say := ((rowsM ms ys).filter (dueB cs g now)).map deadS
def SeatOk (ms : List (Int × Say)) : Prop := ∀ k s, lkA ms k = some s → s.seat = k
def spDbts (CD : Addr) : Sp := fun vs H Q _ => ∃ (o dx x : Addr), vs = [.ref o, .ref x] ∧ H o = some (.ins CD dx []) ∧ ∀ (D : Addr) (H' : Hp), Nw H D → Fr [o] H H' → DbO CD H' o x D → TupD vsC H' D [] → Q .non H'
def spDoubt (CD : Addr) : Sp := fun vs H Q _ => ∃ (o x D : Addr) (cs : Clk) (s l now : Int), vs = [.ref o, .int s, .int l, .int now] ∧ DbO CD H o x D ∧ TupD vsC H D cs ∧ cs.length ≤ 10000 ∧ ∀ H' : Hp, Fr [D] H H' → TupD vsC H' D (dbtF cs s l now) → Q .non H'
def spLift (CD : Addr) : Sp := fun vs H Q _ => ∃ (o x D : Addr) (cs : Clk) (s : Int), vs = [.ref o, .int s] ∧ DbO CD H o x D ∧ TupD vsC H D cs ∧ ∀ H' : Hp, Fr [D] H H' → TupD vsC H' D (dropA cs s) → Q .non H'
def spSinceD (CD : Addr) : Sp := fun vs H Q _ => ∃ (o x D : Addr) (cs : Clk) (s : Int), vs = [.ref o, .int s] ∧ DbO CD H o x D ∧ TupD vsC H D cs ∧ Q (oI ((lkA cs s).map Prod.snd)) H
def spIsDue (CD CS : Addr) : Sp := fun vs H Q _ => ∃ (o x D a : Addr) (n : Nat) (g now : Int) (cs : Clk) (s : Say), vs = [.ref o, .ref a, .int now] ∧ DbO CD H o x D ∧ TupD vsC H D cs ∧ SetG CS H x n g ∧ SayAt H a s ∧ (lkA cs s.seat).isSome = true ∧ Q (.bl (dueB cs g now s)) H
def spDueD (CD CB CS : Addr) : Sp := fun vs H Q _ => ∃ (o x D b xb L : Addr) (n : Nat) (g now : Int) (cs : Clk) (ms : List (Int × Say)), vs = [.ref o, .ref b, .int now] ∧ DbO CD H o x D ∧ TupD vsC H D cs ∧ BkO CB H b xb L ∧ TupD Say.vs H L ms ∧ SetG CS H x n g ∧ SeatOk ms ∧ cs.length ≤ 1000 ∧
  ∀ (q : Addr) (ys : List Int) (as : List Addr) (H' : Hp), ys.Perm (cs.map Prod.fst) → ys.Pairwise (· ≤ ·) → Nw H q → Fr [] H H' → H' q = some (.lst (as.map V.ref)) → SaysAt H' as (dueF cs ms g now ys) → Q (.ref q) H'
theorem oSay.fr0 {H H' : Hp} {v : V} {o : Option Say} (h : oSay H v o) (X : Fr [] H H') : oSay H' v o := by
  cases o with
  | none => exact h
  | some s =>
    obtain ⟨a, e, h⟩ := h
    exact ⟨a, e, X.tup h not_nil⟩
theorem dropA_none {β : Type} {cs : List (Int × β)} {s : Int} (h : lkA cs s = none) : dropA cs s = cs := by
  unfold dropA
  refine List.filter_eq_self.mpr fun q m => ?_
  refine decide_eq_true fun e => ?_
  have := keyA.mp (List.mem_map.mpr ⟨q, m, e⟩ : s ∈ cs.map Prod.fst)
  rw [h] at this
  cases this
section
variable {P : Program} {w : World} {K : PySem.W.Frag} {mg : Str → Option Value} {base : Heap} {CS CB CD : Addr}
theorem c_Doubts (TD : T_Doubts K mg CD) : Mak P w K mg base 1 "Doubts" CD (spDbts CD) [] := by
  refine mak TD.ini TD.mgC sc_Doubts__init (fun vs H Q E h => ?_) (fun cdv A outer f s0 H vs Q E hr h => ?_)
  · obtain ⟨o, dx, x, rfl, _⟩ := h
    rfl
  · obtain ⟨o, dx, x, rfl, ho, k⟩ := h
    refine ⟨_, (pss_cons (ps_fld (pv 0) (pv 1) rfl)
      (pss_one (ps_fld (pv 0) pe_dnewK rfl))), ?_⟩
    refine ⟨_, rfl, _, rfl, o, CD, dx, [], rfl, ho, TD.cl, TD.n_setting, by show 0 < 1000; decide, ?_⟩
    have X1 : Fr [o] H (upd H o (.ins CD dx (putF ("setting" : Str) (V.ref x) []))) := (Fr.refl [o] H).upd (.head _) (.ins ho) _
    have ho1 : upd H o (.ins CD dx (putF ("setting" : Str) (V.ref x) [])) o = some (.ins CD dx (putF ("setting" : Str) (V.ref x) [])) := upd_same
    generalize upd H o (.ins CD dx (putF ("setting" : Str) (V.ref x) [])) = H1 at X1 ho1
    intro D nD
    have X2 := X1.new nD (.dK [])
    have ho2 := upd_new (o := .dK []) nD ho1
    have hD2 : upd H1 D (.dK []) D = some (.dK []) := upd_same
    have Do : D ≠ o := (ne_of_none ho1 nD).symm
    generalize upd H1 D (.dK []) = H2 at X2 ho2 hD2
    refine ⟨_, rfl, o, CD, dx, _, rfl, ho2, TD.cl, TD.n_clocks, by show 1 < 1000; decide, ?_⟩
    refine k D _ (X1.live D (.of nD)) (X2.upd (.head _) (.ins ho2) _) ⟨dx, by rw [upd_same, fd_puts]⟩ (TupD.nil ?_)
    rw [upd_ne Do]
    exact hD2
theorem m_doubt (TD : T_Doubts K mg CD) : Met P w K mg base 1 CD "doubt" (spDoubt CD) [] := by
  refine met TD.m_doubt TD.cl sc_Doubts_doubt (fun vs H Q E h => ?_) (fun cdv A outer f s0 H vs Q E hr h => ?_)
  · obtain ⟨o, x, D, cs, s, l, now, rfl, _⟩ := h
    rfl
  · obtain ⟨o, x, D, cs, s, l, now, rfl, ⟨dx, ho⟩, hD, l1, k⟩ := h
    refine ⟨_, (pss_one (ps_if (PW.pt (pw_or (pt_cmp (pc_dnotin (u1 hr) (pv 1) (pe_fld (pv 0) rfl))) (pw_or1 (pt_cmpR op_ne (pe_ix ix_tup (pe_dget (u1 hr) (pe_fld (pv 0) rfl) (pv 1) (fun _ _ => rfl)) pe_int (fun _ _ => rfl)) (pv 2) (nomark _))))) (pss_one (ps_asg (pe_tup (pa_cons (pv 2) (pa_cons (pv 3) pa_nil))) (pg_sub (pe_fld (pv 0) rfl) (pv 1) (set_dict (u1 hr))))) pss_nil)), ?_⟩
    have put : (lkA cs s).map Prod.fst ≠ some l → ∀ t, H t = none → ∃ kv, DPut (upd H t (.tup [.int l, .int now])) D (.int s) (.ref t) (upd (upd H t (.tup [.int l, .int now])) D (.dK kv)) ∧ Q .non (upd (upd H t (.tup [.int l, .int now])) D (.dK kv)) := fun ne t nt => by
      have X1 : Fr [D] H (upd H t (.tup [.int l, .int now])) := Fr.new0 nt _
      have hD1 := hD.fr0 (Fr.new0 (ds := []) nt (.tup [.int l, .int now]))
      have ht : upd H t (.tup [.int l, .int now]) t = some (.tup (vsC (l, now))) := upd_same
      obtain ⟨kv, g1, g2⟩ := hD1.put s ht (Nat.le_trans l1 (by decide))
      obtain ⟨kv0, e0⟩ := hD1.at_
      refine ⟨kv, g1, k _ (X1.upd (.head _) (.dK e0) _) ?_⟩
      unfold dbtF
      rw [if_neg ne]
      exact g2
    cases q : lkA cs s with
    | none =>
      refine ⟨_, rfl, _, rfl, o, CD, dx, _, _, rfl, ho, TD.cl, TD.n_clocks, fd_clocks, D, none, rfl, hD.none_ q, _, rfl, iteT (iteT ?_)⟩
      refine ⟨_, rfl, _, rfl, by show 2 ≤ sizeLine; decide, fun t nt => ?_⟩
      obtain ⟨kv, g1, g2⟩ := put (by rw [q]; exact fun z => nomatch z) t nt
      have ho1 := upd_new (o := .tup [.int l, .int now]) nt ho
      exact ⟨_, rfl, o, CD, dx, _, _, rfl, ho1, TD.cl, TD.n_clocks, fd_clocks, _, rfl, D, _, rfl, g1, g2⟩
    | some c =>
      obtain ⟨a, g, ha⟩ := hD.some_ q
      refine ⟨_, rfl, _, rfl, o, CD, dx, _, _, rfl, ho, TD.cl, TD.n_clocks, fd_clocks, D, _, rfl, g, _, rfl, iteF ?_⟩
      refine ⟨_, rfl, o, CD, dx, _, _, rfl, ho, TD.cl, TD.n_clocks, fd_clocks, _, rfl, D, _, rfl, g, _, _, _, _, rfl, rfl, SqT.of ha, rfl, _, rfl, rfl, _, rfl, ?_⟩
      by_cases e : c.1 = l
      · rw [show (!decide (V.int c.1 = V.int l)) = false by rw [decI e]; rfl]
        refine iteF ?_
        refine k H (Fr.refl _ _) ?_
        unfold dbtF
        rw [q, if_pos (by show some c.1 = some l; rw [e])]
        exact hD
      · rw [show (!decide (V.int c.1 = V.int l)) = true by rw [decIn e]; rfl]
        refine iteT ?_
        refine ⟨_, rfl, _, rfl, by show 2 ≤ sizeLine; decide, fun t nt => ?_⟩
        obtain ⟨kv, g1, g2⟩ := put (by rw [q]; exact fun z => e (by injection z)) t nt
        have ho1 := upd_new (o := .tup [.int l, .int now]) nt ho
        exact ⟨_, rfl, o, CD, dx, _, _, rfl, ho1, TD.cl, TD.n_clocks, fd_clocks, _, rfl, D, _, rfl, g1, g2⟩
theorem m_lift (TD : T_Doubts K mg CD) : Met P w K mg base 1 CD "lift" (spLift CD) [] := by
  refine met TD.m_lift TD.cl sc_Doubts_lift (fun vs H Q E h => ?_) (fun cdv A outer f s0 H vs Q E hr h => ?_)
  · obtain ⟨o, x, D, cs, s, rfl, _⟩ := h
    rfl
  · obtain ⟨o, x, D, cs, s, rfl, ⟨dx, ho⟩, hD, k⟩ := h
    refine ⟨_, (pss_one (ps_if (pt_cmp (pc_din (u1 hr) (pv 1) (pe_fld (pv 0) rfl))) (pss_one (ps_ddel (pe_fld (pv 0) rfl) (pv 1))) pss_nil)), ?_⟩
    obtain ⟨ov, gv, ev⟩ := hD.has s
    refine ⟨_, rfl, _, rfl, o, CD, dx, _, _, rfl, ho, TD.cl, TD.n_clocks, fd_clocks, D, _, rfl, gv, _, rfl, ?_⟩
    rw [ev]
    cases q : lkA cs s with
    | none =>
      refine iteF (k H (Fr.refl _ _) ?_)
      rw [dropA_none q]
      exact hD
    | some c =>
      obtain ⟨kv, e1, e2, g⟩ := hD.drop s
      refine iteT ⟨_, rfl, o, CD, dx, _, _, rfl, ho, TD.cl, TD.n_clocks, fd_clocks, _, rfl, D, kv, .inl s, rfl, e1, rfl, by rw [e2, q]; rfl, ?_⟩
      exact k _ ((Fr.refl [D] H).upd (.head _) (.dK e1) _) g
theorem m_sinceD (TD : T_Doubts K mg CD) : Met P w K mg base 1 CD "since" (spSinceD CD) [] := by
  refine met TD.m_since TD.cl sc_Doubts_since (fun vs H Q E h => ?_) (fun cdv A outer f s0 H vs Q E hr h => ?_)
  · obtain ⟨o, x, D, cs, s, rfl, _⟩ := h
    rfl
  · obtain ⟨o, x, D, cs, s, rfl, ⟨dx, ho⟩, hD, k⟩ := h
    refine ⟨_, (pss_one (ps_ret (pe_ifExp (pt_cmp (pc_din (u1 hr) (pv 1) (pe_fld (pv 0) rfl))) (pe_ix ix_tup (pe_dget (u1 hr) (pe_fld (pv 0) rfl) (pv 1) (fun _ _ => rfl)) pe_int (fun _ _ => rfl)) pe_non))), ?_⟩
    cases q : lkA cs s with
    | none =>
      rw [q] at k
      exact ⟨_, rfl, _, rfl, o, CD, dx, _, _, rfl, ho, TD.cl, TD.n_clocks, fd_clocks, D, none, rfl, hD.none_ q, _, rfl, iteF k⟩
    | some c =>
      rw [q] at k
      obtain ⟨a, g, ha⟩ := hD.some_ q
      exact ⟨_, rfl, _, rfl, o, CD, dx, _, _, rfl, ho, TD.cl, TD.n_clocks, fd_clocks, D, _, rfl, g, _, rfl, iteT ⟨_, rfl, o, CD, dx, _, _, rfl, ho, TD.cl, TD.n_clocks, fd_clocks, _, rfl, D, _, rfl, g, _, _, _, _, rfl, rfl, SqT.of ha, rfl, k⟩⟩
theorem m_is_due (ST : T_Setting K mg CS) (TD : T_Doubts K mg CD) : Met P w K mg base 1 CD "_is_due" (spIsDue CD CS) [] := by
  refine met TD.m_is_due TD.cl sc_Doubts_is_due (fun vs H Q E h => ?_) (fun cdv A outer f s0 H vs Q E hr h => ?_)
  · obtain ⟨o, x, D, a, n, g, now, cs, s, rfl, _⟩ := h
    rfl
  · obtain ⟨o, x, D, a, n, g, now, cs, s, rfl, ⟨dx, ho⟩, hD, ⟨p, r, hh, dx2, hx⟩, ha, hin, k⟩ := h
    refine ⟨_, (pss_cons (ps_asg (pe_dget (u1 hr) (pe_fld (pv 0) rfl) (pe_ix ix_tup (pv 1) pe_int (fun _ _ => rfl)) (fun _ _ => rfl)) (pg_tup rfl (pgs_cons (pg_name (i := 3) sc_Doubts_is_due.nd rfl (Or.inl rfl)) (pgs_cons (pg_name (i := 4) sc_Doubts_is_due.nd rfl (Or.inl rfl)) pgs_nil))))
      (pss_one (ps_ret (pe_and (pe_cmpR op_eq (pe_ix ix_tup (pv 1) pe_int (fun _ _ => rfl)) (pv 3) (nomark _)) (pe_and (pe_cmpR op_eq (pe_ix ix_tup (pv 1) pe_int (fun _ _ => rfl)) pe_str (nomark _)) (pe_one (pe_cmpR op_ge (pe_op op_sub (pv 2) (pv 4)) (pe_fld (pe_fld (pv 0) rfl) rfl) (nomark _)))))))), ?_⟩
    obtain ⟨c, q⟩ := Option.isSome_iff_exists.mp hin
    obtain ⟨ac, gc, hc⟩ := hD.some_ q
    unfold dueB at k
    rw [q] at k
    have k : Q (.bl (decide (s.life = c.1) && (decide (s.mark = "suspect") && decide (g ≤ now - c.2)))) H := k
    refine ⟨_, rfl, o, CD, dx, _, _, rfl, ho, TD.cl, TD.n_clocks, fd_clocks, _, rfl, _, _, _, _, rfl, rfl, SqT.of ha, rfl, D, _, rfl, gc, ?_⟩
    refine ⟨ac, _, rfl, SqT.of hc, rfl, _, _, rfl, _, _, rfl, rfl, ?_⟩
    refine ⟨_, rfl, _, _, _, _, rfl, rfl, SqT.of ha, rfl, _, rfl, rfl, _, rfl, ?_⟩
    by_cases e1 : s.life = c.1
    · rw [decI e1]
      rw [decide_eq_true e1] at k
      refine iteT ⟨_, rfl, _, _, _, _, rfl, rfl, SqT.of ha, rfl, rfl, _, rfl, ?_⟩
      by_cases e2 : s.mark = "suspect"
      · rw [decide_eq_true (show V.str s.mark = V.str "suspect" by rw [e2])]
        rw [decide_eq_true e2] at k
        refine iteT ⟨_, rfl, _, rfl, _, _, rfl, rfl, _, rfl, o, CD, dx, _, _, rfl, ho, TD.cl, TD.n_setting, fd_setting, x, CS, dx2, _, _, rfl, hx, ST.cl, ST.n_grace, fs5_grace, _, _, rfl, rfl, ?_⟩
        exact k
      · rw [decide_eq_false (show ¬ V.str s.mark = V.str "suspect" from fun z => e2 (by injection z))]
        rw [decide_eq_false e2] at k
        exact iteF k
    · rw [decIn e1]
      rw [decide_eq_false e1] at k
      exact iteF k
theorem m_due (T : Bl mg) (TD : T_Doubts K mg CD) (m_of : Met P w K mg base 1 CB "of" (spOf CB) []) (m_is_due : Met P w K mg base 1 CD "_is_due" (spIsDue CD CS) []) : Met P w K mg base 2 CD "due" (spDueD CD CB CS) [] := by
  refine met TD.m_due TD.cl sc_Doubts_due (fun vs H Q E h => ?_) (fun cdv A outer f s0 H vs Q E hr h => ?_)
  · obtain ⟨o, x, D, b, xb, L, n, g, now, cs, ms, rfl, _⟩ := h
    rfl
  · obtain ⟨o, x, D, b, xb, L, n, g, now, cs, ms, rfl, ho, hD, hb, hL, hx, so, l1, k⟩ := h
    refine ⟨_, (pss_cons (ps_setLc (i := 3) (own := [("seat", 4)]) (g := gName 4) (tt := tYes) (by rfl) sc_Doubts_due.nd rfl rfl (sw_true rfl rfl rfl (by decide +kernel)) (pi_list (pe_callB (SortD.cr_sortD rfl) (by rfl) T.sorted (by decide +kernel) (pa_cons (pe_fld (pv 0) rfl) pa_nil))) (blkOk_by (own := [("seat", 4)]) (N := n_Doubts_due) (sc := C8.fnScope s_Doubts_due) (by decide +kernel)) (fun _ _ _ _ _ => pg_name (i := 4) sc_Doubts_due.nd rfl (Or.inl rfl)) (fun _ _ _ _ _ => pts_nil) (fun _ _ _ _ _ => (pe_mt m_of hr (by decide) (pv 1) (pa_cons (pv 4) pa_nil))))
      (pss_one (ps_ret (pe_lc (own := [("row", 5)]) (g := gName 5) (by rfl) sc_Doubts_due.nd (pi_list (pv 3)) (blkOk_by (own := [("row", 5)]) (N := n_Doubts_due) (sc := C8.fnScope s_Doubts_due) (by decide +kernel)) (fun _ _ _ _ _ => pg_name (i := 5) sc_Doubts_due.nd rfl (Or.inl rfl)) (fun _ _ _ _ _ => (pts_one (PW.pt (pw_and (pt_cmp (pc_notN (pv 5))) (pw_and1 (pt_val (pe_mt m_is_due hr (by decide) (pv 0) (pa_cons (pv 5) (pa_cons (pv 2) pa_nil))))))))) (fun _ _ _ _ _ => (pe_tup (pa_cons (pe_ix (show IxR _ (rIxT K) from ix_tup) (pv 5) pe_int (fun _ _ => rfl)) (pa_cons (pe_ix (show IxR _ (rIxT K) from ix_tup) (pv 5) pe_int (fun _ _ => rfl)) (pa_cons pe_str (pa_cons (pe_ix (show IxR _ (rIxT K) from ix_tup) (pv 5) pe_int (fun _ _ => rfl)) pa_nil)))))))))), ?_⟩
    obtain ⟨dx, eo⟩ := id ho
    obtain ⟨kv, e, _, ek⟩ := hD.len
    refine ⟨_, rfl, o, CD, dx, _, _, rfl, eo, TD.cl, TD.n_clocks, fd_clocks, D, kv, _, rfl, .inl e, ek, fun ys q pm srt nq => ?_⟩
    have X1 : Fr [] H (upd H q (.lst (ys.map V.int))) := Fr.new0 nq _
    have hq1 : upd H q (.lst (ys.map V.int)) q = some (.lst (ys.map V.int)) := upd_same
    generalize upd H q (.lst (ys.map V.int)) = H1 at X1 hq1
    have ly : ys.length ≤ 1000 := by rw [pm.length_eq, List.length_map]; exact l1
    refine ⟨q, rfl, ⟨_, SqL.of hq1⟩, fun R nR => ?_⟩
    refine lc_list (xs := ys.map V.int) (fun j H' => Fr [] H1 H' ∧ ∃ vs : List V, vs.length ≤ j ∧ H' R = some (.lst vs) ∧ Paired (oSay H') vs ((ys.take j).map (lkA ms))) ⟨Fr.new0 nR _, [], Nat.le_refl _, upd_same, .nil⟩ (fun j H' _ pv => SqL.of (pv.1.lst hq1 not_nil)) (fun j v H2 hv pv => ?_) (fun H2 pv => ?_)
    · obtain ⟨X2, vs, lvs, hR, pvs⟩ := pv
      obtain ⟨s1, es, rfl⟩ := map_getE hv
      have jl := (List.getElem?_eq_some_iff.mp es).1
      have X02 := X1.trans X2
      obtain ⟨dxb, eb⟩ := hb.fr X02 not_nil
      refine ⟨rfl, _, rfl, b, dxb, _, rfl, eb, fb_of, _, rfl, b, xb, L, s1, ms, rfl, ⟨dxb, eb⟩, hL.fr0 X02, fun v hv => ?_⟩
      have ne : ∀ {c : Addr} {us : List V}, H2 c = some (.tup us) → c ≠ R := fun h z => by rw [z, hR] at h; cases h
      have keep : ∀ (u : V) (o : Option Say), oSay H2 u o → oSay (upd H2 R (.lst (vs ++ [v]))) u o := fun u o h => by
        cases o with
        | none => exact h
        | some s =>
          obtain ⟨a, e, h⟩ := h
          refine ⟨a, e, ?_⟩
          show upd H2 R _ a = _
          rw [upd_ne (ne h)]
          exact h
      refine ⟨_, hR, small1000' (by omega), X2.late (.of nR) (.lst hR) _, vs ++ [v], by rw [List.length_append]; show vs.length + 1 ≤ _; omega, upd_same, ?_⟩
      rw [take_snoc es, List.map_append]
      exact paired_snoc (paired_imp0 pvs keep) (keep v _ hv)
    · obtain ⟨X2, vs, lvs, hR, pvs⟩ := pv
      rw [List.length_map] at lvs pvs
      rw [List.take_length] at pvs
      have X02 := X1.trans X2
      have nwR : Nw H R := X1.live R (.of nR)
      have lvs2 := pvs.length
      rw [List.length_map] at lvs2
      refine ⟨_, rfl, R, rfl, ⟨_, SqL.of hR⟩, fun F nF => ?_⟩
      refine lc_list (xs := vs) (fun j H' => Fr [] H2 H' ∧ ∃ as : List Addr, as.length ≤ j ∧ H' F = some (.lst (as.map V.ref)) ∧ SaysAt H' as (dueF cs ms g now (ys.take j))) ⟨Fr.new0 nF _, [], Nat.le_refl _, upd_same, .nil⟩ (fun j H' _ pv => SqL.of (pv.1.lst hR not_nil)) (fun j v H3 hv pv => ?_) (fun H3 pv => ?_)
      · obtain ⟨X3, as, las, hF, pas⟩ := pv
        obtain ⟨ov, eov, hov⟩ := pd_get0 pvs hv
        obtain ⟨s1, es, rfl⟩ : ∃ s1, ys[j]? = some s1 ∧ ov = lkA ms s1 := by
          rw [List.getElem?_map] at eov
          cases z : ys[j]? with
          | none => rw [z] at eov; cases eov
          | some s1 => rw [z] at eov; exact ⟨s1, rfl, (Option.some.inj eov).symm⟩
        have jl := (List.getElem?_eq_some_iff.mp hv).1
        have tk : dueF cs ms g now (ys.take (j + 1)) = dueF cs ms g now (ys.take j) ++ (([s1].filterMap (lkA ms)).filter (dueB cs g now)).map deadS := by
          unfold dueF rowsM
          rw [take_snoc es, List.filterMap_append, List.filter_append, List.map_append]
        have X03 := X02.trans X3
        cases q1 : lkA ms s1 with
        | none =>
          rw [q1] at hov
          have hov : v = .non := hov
          subst hov
          refine ⟨rfl, _, rfl, _, rfl, iteF (iteF ⟨X3, as, by omega, hF, ?_⟩)⟩
          rw [tk, List.filterMap_cons_none q1]
          show SaysAt H3 as (dueF cs ms g now (ys.take j) ++ [])
          rw [List.append_nil]
          exact pas
        | some s =>
          rw [q1] at hov
          obtain ⟨a, rfl, ha⟩ := hov
          have ha3 := X3.tup ha not_nil
          have ss : s.seat = s1 := so s1 s q1
          have hin : (lkA cs s.seat).isSome = true := by
            rw [ss]
            exact keyA.mp (pm.mem_iff.mp (List.mem_of_getElem? es))
          obtain ⟨dx3, eo3⟩ := ho.fr X03 not_nil
          refine ⟨rfl, _, rfl, _, rfl, iteT ⟨_, rfl, o, dx3, _, rfl, eo3, fd_m.1, _, rfl, _, rfl, o, x, D, a, n, g, now, cs, s, rfl, ⟨dx3, eo3⟩, hD.fr0 X03, hx.fr X03 not_nil, ha3, hin, _, rfl, ?_⟩⟩
          have e1 : ([s1].filterMap (lkA ms)) = [s] := by rw [List.filterMap_cons_some q1]; rfl
          cases q2 : dueB cs g now s with
          | false =>
            refine iteF ⟨X3, as, by omega, hF, ?_⟩
            rw [tk, e1, List.filter_cons_of_neg (by rw [q2]; exact Bool.false_ne_true)]
            show SaysAt H3 as (dueF cs ms g now (ys.take j) ++ [])
            rw [List.append_nil]
            exact pas
          | true =>
            refine iteT ⟨_, rfl, _, _, _, _, rfl, rfl, SqT.of ha3, rfl, _, rfl, _, _, _, _, rfl, rfl, SqT.of ha3, rfl, _, rfl, _, _, _, _, rfl, rfl, SqT.of ha3, rfl, by show 4 ≤ sizeLine; decide, fun t nt => ?_⟩
            have hF4 := upd_new (o := .tup (deadS s).vs) nt hF
            have X4 : Fr [] H3 (upd H3 t (.tup (deadS s).vs)) := Fr.new0 nt _
            have tF : t ≠ F := (ne_of_none hF nt).symm
            refine ⟨_, hF4, by rw [List.length_map]; exact small1000' (by omega), (X3.trans X4).late (.of nF) (.lst hF4) _, as ++ [t], by rw [List.length_append]; show as.length + 1 ≤ _; omega, by rw [upd_same, List.map_append]; rfl, ?_⟩
            rw [tk, e1, List.filter_cons_of_pos q2]
            refine paired_snoc (paired_imp0 pas fun c s' h => ?_) ?_
            · have h : H3 c = some (.tup s'.vs) := h
              show upd _ F _ c = _
              rw [upd_ne (fun z => by rw [z, hF] at h; cases h), upd_ne (ne_of_none h nt)]
              exact h
            · show upd _ F _ t = _
              rw [upd_ne tF, upd_same]
              rfl
      · obtain ⟨X3, as, las, hF, pas⟩ := pv
        rw [lvs2, List.take_length] at pas
        exact k F ys as H3 pm srt (X02.live F (.of nF)) (X02.trans X3) hF pas
end
end K27

set_option Elab.async false
set_option maxRecDepth 100000
set_option maxHeartbeats 4000000
set_option exponentiation.threshold 4096
/-! the box of draws -/
namespace K27
open PySem PySem.Spec PyProof.Rows L2 C8 LamX UF

structure BxV (H : Hp) (b c : Addr) (cells : List Int) (x y z : Int) : Prop where
  hb : H b = some (.lst [.ref c, .int x, .int y, .int z])
  hc : H c = some (.lst (cells.map V.int))
  ln : 0 < cells.length
  x0 : 0 ≤ x
def Box (H : Hp) (b c : Addr) : Prop := ∃ (cells : List Int) (x y z : Int), BxV H b c cells x y z
theorem BxV.ne {H : Hp} {b c : Addr} {cells : List Int} {x y z : Int} (B : BxV H b c cells x y z) : c ≠ b := by
  intro e
  have h := B.hc
  rw [e, B.hb] at h
  injection h with h
  injection h with h
  cases cells with
  | nil => cases h
  | cons a l => injection h with h1 h2; cases h1
theorem BxV.set {H : Hp} {b c : Addr} {cells : List Int} {x y z : Int} (B : BxV H b c cells x y z) (x' y' z' : Int) (h : 0 ≤ x') : BxV (upd H b (.lst [.ref c, .int x', .int y', .int z'])) b c cells x' y' z' :=
  ⟨upd_same, by rw [upd_ne B.ne]; exact B.hc, B.ln, h⟩
theorem Box.fw {H H' : Hp} {b c : Addr} {ds : List Addr} (B : Box H b c) (x : Fw ds H H') (m : b ∉ ds) (n : c ∉ ds) : Box H' b c := by
  obtain ⟨cells, u, y, z, B⟩ := B
  exact ⟨cells, u, y, z, x.lst B.hb m, x.lst B.hc n, B.ln, B.x0⟩
theorem Box.fr {H H' : Hp} {b c : Addr} {ds : List Addr} (B : Box H b c) (x : Fr ds H H') (m : b ∉ ds) (n : c ∉ ds) : Box H' b c := B.fw x.w m n
theorem Box.pl {H : Hp} {b c : Addr} (B : Box H b c) : Pl H b := by
  obtain ⟨cells, u, y, z, B⟩ := B
  exact .lst B.hb
theorem Box.new {H : Hp} {b c : Addr} (B : Box H b c) {q : Addr} (n : H q = none) (o : HO) : Box (upd H q o) b c := B.fr (Fr.new0 (ds := []) n o) not_nil not_nil
theorem Box.off {H : Hp} {b c : Addr} (B : Box H b c) {q : Addr} (n1 : q ≠ b) (n2 : q ≠ c) (o : HO) : Box (upd H q o) b c := by
  obtain ⟨cells, u, y, z, B⟩ := B
  exact ⟨cells, u, y, z, by rw [upd_ne n1.symm]; exact B.hb, by rw [upd_ne n2.symm]; exact B.hc, B.ln, B.x0⟩
theorem Box.at_ {H : Hp} {b c : Addr} (B : Box H b c) : ∃ o, H b = some o := by
  obtain ⟨cells, u, y, z, B⟩ := B
  exact ⟨_, B.hb⟩
theorem Box.in_ {H : Hp} {b c : Addr} (B : Box H b c) : ∃ o, H c = some o := by
  obtain ⟨cells, u, y, z, B⟩ := B
  exact ⟨_, B.hc⟩
theorem Box.ne {H : Hp} {b c : Addr} (B : Box H b c) : c ≠ b := by
  obtain ⟨cells, u, y, z, B⟩ := B
  exact B.ne
theorem Box.nw_ne {H : Hp} {b c : Addr} (B : Box H b c) {q : Addr} (n : Nw H q) : q ≠ b ∧ q ≠ c := by
  obtain ⟨cells, u, y, z, B⟩ := B
  exact ⟨(ne_nw B.hb n).symm, (ne_nw B.hc n).symm⟩
theorem Box.new_ne {H : Hp} {b c : Addr} (B : Box H b c) {q : Addr} (n : H q = none) : q ≠ b ∧ q ≠ c := B.nw_ne (.of n)
def spBox (K : PySem.W.Frag) : Sp := fun vs H Q _ => ∃ (a : Addr) (ns : List Int), vs = [.ref a] ∧ SqL K H a (ns.map V.int) ∧ ns.length ≤ 63 ∧ ∀ (b c : Addr) (H' : Hp), Nw H b → Nw H c → Box H' b c → Fr [] H H' → Q (.ref b) H'
def spDraw : Sp := fun vs H Q _ => ∃ (b c : Addr) (m : Int), vs = [.ref b, .int m] ∧ Box H b c ∧ 0 < m ∧ m < 2 ^ 2000 ∧ ∀ (d : Int) (H' : Hp), 0 ≤ d → d < m → Box H' b c → Fr [b] H H' → Q (.int d) H'
section
variable {P : Program} {w : World} {K : PySem.W.Frag} {mg : Str → Option Value} {base : Heap}
theorem c_law_box (T : Bl mg) (d : D0 K mg "_law_box" s_law_box ["script"]) : Cal P w K mg base 1 "_law_box" (spBox K) [] := by
  refine cal d sc_law_box (fun vs H Q E h => ?_) (fun cdv A outer f s H vs Q E hr h => ?_)
  · obtain ⟨a, ns, rfl, _⟩ := h
    rfl
  · obtain ⟨a, ns, rfl, hs, hl, k⟩ := h
    refine ⟨_, (pss_cons (ps_setLc (i := 1) (own := [("cell", 2)]) (g := gName 2) (tt := tYes) (by rfl) sc_law_box.nd rfl rfl (sw_true rfl rfl rfl (by decide +kernel)) (pi_list (pv 0)) (blkOk_by (own := [("cell", 2)]) (N := n_law_box) (sc := C8.fnScope s_law_box) (by decide +kernel)) (fun _ _ _ _ _ => pg_name (i := 2) sc_law_box.nd rfl (Or.inl rfl)) (fun _ _ _ _ _ => pts_nil) (fun _ _ _ _ _ => (pe_callTy call_int1 (by rfl) T.int (by decide +kernel) (pa_cons (pv 2) pa_nil))))
      (pss_cut (ps_if (pt_cmpR op_eq (pe_callB call_len_seq (by rfl) T.len (by decide +kernel) (pa_cons (pv 1) pa_nil)) pe_int (nomark _)) (pss_one (ps_set (i := 1) sc_law_box.nd rfl (Or.inl rfl) (pe_lst (pa_cons pe_int pa_nil)))) pss_nil)
      (pss_one (ps_ret (pe_lst (pa_cons (pv 1) (pa_cons pe_int (pa_cons pe_int (pa_cons pe_int pa_nil))))))))), ?_⟩
    refine ⟨_, rfl, a, rfl, ⟨_, hs⟩, fun D nD => ?_⟩
    refine lc_list (K := K) (a := a) (xs := ns.map V.int) (fun i H' => H' = upd H D (.lst ((ns.take i).map V.int))) ?_ ?_ ?_ ?_
    · rw [List.take_zero]; rfl
    · rintro i H2 _ rfl
      exact hs.imp (fun h => h.imp (fun h => upd_new nD h) fun ⟨o, h⟩ => ⟨o, upd_new nD h⟩) id
    · rintro i v H2 hi rfl
      rw [List.getElem?_map] at hi
      cases e : ns[i]? with
      | none => rw [e] at hi; cases hi
      | some z =>
        rw [e] at hi
        cases hi
        refine ⟨rfl, _, rfl, .inl ⟨_, rfl, _, upd_same, ?_, ?_⟩⟩
        · rw [List.length_map, List.length_take]
          exact small1000' (by omega)
        · rw [upd_upd]
          have : ns.take (i + 1) = ns.take i ++ [z] := by rw [List.take_add_one, e]; rfl
          rw [this, List.map_append]
          rfl
    · rintro H2 rfl
      rw [List.length_map, List.take_length]
      refine ⟨fun σ H' => ∃ (c : Addr) (ms : List Int), σ = [some (.ref a), some (.ref c), none] ∧ Nw H c ∧ H' c = some (.lst (ms.map V.int)) ∧ 0 < ms.length ∧ Fr [] H H', ?_, ?_⟩
      · refine ⟨_, rfl, _, _, rfl, .inl (SqL.of upd_same), rfl, _, rfl, ite2 (fun h0 => ?_) (fun h0 => ?_)⟩
        · refine ⟨by show 1 ≤ sizeLine; decide, fun c nc => ?_⟩
          exact ⟨c, [0], rfl, (Fr.new0 (ds := []) nD _).live c (.of nc), upd_same, by decide, (Fr.new0 nD _).new nc _⟩
        · refine ⟨D, ns, rfl, .of nD, upd_same, ?_, Fr.new0 nD _⟩
          have := neI h0
          rw [List.length_map] at this
          omega
      · rintro σ H2 ⟨c, ms, rfl, nc, hc, lm, X⟩
        refine ⟨_, rfl, by show 4 ≤ sizeLine; decide, fun b nb => ?_⟩
        refine k b c _ (X.live b (.of nb)) nc ⟨ms, 0, 0, 0, upd_same, upd_new nb hc, lm, by decide⟩ (X.new nb _)
theorem c_law_draw (T : Bl mg) (d : D0 K mg "_law_draw" s_law_draw ["box", "top"]) : Cal P w K mg base 1 "_law_draw" spDraw [] := by
  refine cal d sc_law_draw (fun vs H Q E h => ?_) (fun cdv A outer f s H vs Q E hr h => ?_)
  · obtain ⟨b, c, m, rfl, _⟩ := h
    rfl
  · obtain ⟨b, c, m, rfl, ⟨cells, x, y, z, B⟩, m0, m1, k⟩ := h
    refine ⟨_, (pss_cons (ps_asg (pe_op op_add (pe_callTy call_int1 (by rfl) T.int (by decide +kernel) (pa_cons (pe_ix ix_list (pv 0) pe_int (fun _ _ => rfl)) pa_nil)) pe_int) (pg_sub (pv 0) pe_int set_list))
      (pss_cons (ps_if (pt_cmpR op_gt (pe_ix ix_list (pv 0) pe_int (fun _ _ => rfl)) pe_int (nomark _)) (pss_cons (ps_set (i := 2) sc_law_draw.nd rfl (Or.inl rfl) (pe_op op_mod (pe_callTy call_int1 (by rfl) T.int (by decide +kernel) (pa_cons (pe_ix ix_list (pv 0) pe_int (fun _ _ => rfl)) pa_nil)) (pv 1)))
      (pss_cons (ps_asg (pe_op op_fdivW (pe_callTy call_int1 (by rfl) T.int (by decide +kernel) (pa_cons (pe_ix ix_list (pv 0) pe_int (fun _ _ => rfl)) pa_nil)) (pv 1)) (pg_sub (pv 0) pe_int set_list))
      (pss_one (ps_ret (pv 2))))) pss_nil)
      (pss_cons (ps_set (i := 3) sc_law_draw.nd rfl (Or.inl rfl) (pe_ix ix_list (pv 0) pe_int (fun _ _ => rfl)))
      (pss_cons (ps_set (i := 4) sc_law_draw.nd rfl (Or.inl rfl) (pe_callTy call_int1 (by rfl) T.int (by decide +kernel) (pa_cons (pe_ix ix_list (pv 0) pe_int (fun _ _ => rfl)) pa_nil)))
      (pss_cons (ps_asg (pe_op op_add (pv 4) pe_int) (pg_sub (pv 0) pe_int set_list))
      (pss_cons (ps_set (i := 5) sc_law_draw.nd rfl (Or.inl rfl) (pe_callTy call_int1 (by rfl) T.int (by decide +kernel) (pa_cons (pe_ix ix_list (pv 3) (pe_op op_mod (pv 4) (pe_callB call_len_seq (by rfl) T.len (by decide +kernel) (pa_cons (pv 3) pa_nil))) (fun _ _ => rfl)) pa_nil)))
      (pss_cut (ps_if (PW.pt (pw_and (pt_cmpR op_lt (pv 4) (pe_callB call_len_seq (by rfl) T.len (by decide +kernel) (pa_cons (pv 3) pa_nil)) (nomark _)) (pw_and1 (pt_cmpR op_ge (pe_callB call_abs (by rfl) T.abs (by decide +kernel) (pa_cons (pv 5) pa_nil)) (pe_op op_pow pe_int pe_int) (nomark _))))) (pss_cons (ps_asg (pe_op op_fdivW (pe_callB call_abs (by rfl) T.abs (by decide +kernel) (pa_cons (pv 5) pa_nil)) (pv 1)) (pg_sub (pv 0) pe_int set_list))
      (pss_one (ps_ret (pe_op op_mod (pe_callTy call_int1 (by rfl) T.int (by decide +kernel) (pa_cons (pe_callB call_abs (by rfl) T.abs (by decide +kernel) (pa_cons (pv 5) pa_nil)) pa_nil)) (pv 1))))) pss_nil)
      (pss_cons (ps_set (i := 6) sc_law_draw.nd rfl (Or.inl rfl) (pe_op op_mod (pe_callTy call_int1 (by rfl) T.int (by decide +kernel) (pa_cons (pe_op op_add (pe_op op_add (pe_op op_mul (pv 5) pe_int) (pe_op op_mul (pe_ix ix_list (pv 0) pe_int (fun _ _ => rfl)) pe_int)) pe_int) pa_nil)) pe_int))
      (pss_cons (ps_set (i := 6) sc_law_draw.nd rfl (Or.inl rfl) (pe_op op_mod (pe_callTy call_int1 (by rfl) T.int (by decide +kernel) (pa_cons (pe_op op_add (pe_op op_mul (pv 6) (pv 6)) (pe_op op_mul (pe_ix ix_list (pv 0) pe_int (fun _ _ => rfl)) pe_int)) pa_nil)) pe_int))
      (pss_cons (ps_set (i := 6) sc_law_draw.nd rfl (Or.inl rfl) (pe_op op_mod (pe_callTy call_int1 (by rfl) T.int (by decide +kernel) (pa_cons (pe_op op_add (pe_op op_mul (pv 6) (pv 6)) (pe_op op_fdivW (pv 6) pe_int)) pa_nil)) pe_int))
      (pss_one (ps_ret (pe_op op_mod (pe_callTy call_int1 (by rfl) T.int (by decide +kernel) (pa_cons (pe_op op_fdivW (pv 6) pe_int) pa_nil)) (pv 1)))))))))))))), ?_⟩
    have X0 := Fr.refl [b] H
    refine ⟨_, rfl, _, _, _, _, rfl, rfl, SqL.of B.hb, rfl, .inl ⟨_, rfl, _, _, rfl, rfl, _, rfl, _, _, _, 3, rfl, rfl, B.hb, rfl, ?_⟩⟩
    have B1 := B.set x y (z + 1) B.x0
    have X1 := X0.upd (.head _) (.lst B.hb) (.lst [.ref c, .int x, .int y, .int (z + 1)])
    change Fr [b] H (upd H b (.lst [.ref c, .int x, .int y, .int (z + 1)])) at X1
    refine ⟨_, rfl, _, _, _, _, rfl, rfl, SqL.of B1.hb, rfl, _, _, rfl, rfl, _, rfl, ite2 (fun hgt => ?_) (fun hle => ?_)⟩
    · refine ⟨_, rfl, _, _, _, _, rfl, rfl, SqL.of B1.hb, rfl, .inl ⟨_, rfl, _, rfl, _, _, rfl, rfl, pm m0, ?_⟩⟩
      refine ⟨_, rfl, _, _, _, _, rfl, rfl, SqL.of B1.hb, rfl, .inl ⟨_, rfl, _, rfl, _, _, rfl, rfl, dvw m0 m1 _, _, rfl, _, _, _, 2, rfl, rfl, B1.hb, rfl, _, rfl, ?_⟩⟩
      exact k _ _ (Int.emod_nonneg _ (by omega)) (Int.emod_lt_of_pos _ m0) ⟨_, _, _, _, B1.set x (y / m) (z + 1) B.x0⟩ (X1.upd (.head _) (.lst B1.hb) _)
    · refine ⟨_, rfl, _, _, _, _, rfl, rfl, SqL.of B1.hb, rfl, ?_⟩
      refine ⟨_, rfl, _, _, _, _, rfl, rfl, SqL.of B1.hb, rfl, .inl ⟨_, rfl, ?_⟩⟩
      refine ⟨_, rfl, _, _, rfl, rfl, _, rfl, _, _, _, 1, rfl, rfl, B1.hb, rfl, ?_⟩
      have B2 := B1.set (x + 1) y (z + 1) (by have := B.x0; omega)
      have X2 := X1.upd (.head _) (.lst B1.hb) (.lst [.ref c, .int (x + 1), .int y, .int (z + 1)])
      have ln := B.ln
      have q0 : 0 ≤ x % (cells.length : Int) := Int.emod_nonneg _ (by omega)
      have q1 : x % (cells.length : Int) < cells.length := Int.emod_lt_of_pos _ (by omega)
      obtain ⟨cell, hcell, _⟩ := int_at q0 q1
      refine ⟨_, rfl, _, rfl, _, rfl, _, _, rfl, .inl (SqL.of B2.hc), _, _, rfl, rfl, pm (by rw [List.length_map]; omega), _, _, _, _, rfl, rfl, SqL.of B2.hc, (by rw [List.length_map]; exact hcell), .inl ⟨_, rfl, ?_⟩⟩
      refine ⟨fun σ H' => H' = upd (upd H b (.lst [.ref c, .int x, .int y, .int (z + 1)])) b (.lst [.ref c, .int (x + 1), .int y, .int (z + 1)]) ∧ σ = [some (.ref b), some (.int m), none, some (.ref c), some (.int x), some (.int cell), none], ?_, ?_⟩
      · refine ⟨_, rfl, _, rfl, _, _, rfl, .inl (SqL.of B2.hc), _, _, rfl, rfl, _, rfl, ite2 (fun hin => ?_) (fun hout => iteF ⟨rfl, rfl⟩)⟩
        refine ⟨_, rfl, _, rfl, _, _, rfl, rfl, ⟨by decide, by decide, by decide⟩, _, _, rfl, rfl, _, rfl, ite2 (fun hbig => ?_) (fun hsm => ⟨rfl, rfl⟩)⟩
        refine ⟨_, rfl, _, rfl, _, rfl, _, _, rfl, rfl, dvw m0 m1 _, _, rfl, _, _, _, 2, rfl, rfl, B2.hb, rfl, ?_⟩
        refine ⟨_, rfl, _, rfl, .inl ⟨_, rfl, _, rfl, _, _, rfl, rfl, pm m0, ?_⟩⟩
        exact k _ _ (Int.emod_nonneg _ (by omega)) (Int.emod_lt_of_pos _ m0) ⟨_, _, _, _, B2.set (x + 1) _ (z + 1) B2.x0⟩ (X2.upd (.head _) (.lst B2.hb) _)
      · rintro σ H2 ⟨rfl, rfl⟩
        refine ⟨_, rfl, _, _, rfl, rfl, .inr ⟨by decide, by decide⟩, _, rfl, _, _, _, _, rfl, rfl, SqL.of B2.hb, rfl, _, _, rfl, rfl, .inr ⟨by decide, by decide⟩, _, _, rfl, rfl, _, _, rfl, rfl, .inl ⟨_, rfl, _, _, rfl, rfl, pm (by decide), ?_⟩⟩
        refine ⟨_, rfl, _, rfl, _, _, rfl, rfl, .inl ⟨by omega, by omega⟩, _, rfl, _, _, _, _, rfl, rfl, SqL.of B2.hb, rfl, _, _, rfl, rfl, .inr ⟨by decide, by decide⟩, _, _, rfl, rfl, .inl ⟨_, rfl, _, _, rfl, rfl, pm (by decide), ?_⟩⟩
        refine ⟨_, rfl, _, rfl, _, _, rfl, rfl, .inl ⟨by omega, by omega⟩, _, rfl, _, _, rfl, rfl, dvw (by decide) (by decide +kernel) _, _, _, rfl, rfl, .inl ⟨_, rfl, _, _, rfl, rfl, pm (by decide), ?_⟩⟩
        refine ⟨_, rfl, _, _, rfl, rfl, dvw (by decide) (by decide +kernel) _, .inl ⟨_, rfl, _, rfl, _, _, rfl, rfl, pm m0, ?_⟩⟩
        exact k _ _ (Int.emod_nonneg _ (by omega)) (Int.emod_lt_of_pos _ m0) ⟨_, _, _, _, B2⟩ X2
end
end K27

set_option Elab.async false
set_option maxRecDepth 100000
set_option maxHeartbeats 4000000
set_option exponentiation.threshold 4096
set_option linter.unusedVariables false
/-! what the law draws: bits, marks, worths, settings -/
namespace K27
open PySem PySem.Spec PyProof.Rows L2 C8 LamX UF
def spBits : Sp := fun vs H Q _ => ∃ b c : Addr, vs = [.ref b] ∧ Box H b c ∧ ∀ (n : Nat) (H' : Hp), 1 ≤ n → n ≤ 8 → Box H' b c → Fr [b] H H' → Q (.int (n : Int)) H'
def spMarks : Sp := fun vs H Q _ => vs = [] ∧ ∀ (p : Addr) (H' : Hp), Nw H p → Fr [] H H' → H' p = some (.lst (marksL.map V.str)) → Q (.ref p) H'
def spMark : Sp := fun vs H Q _ => ∃ b c : Addr, vs = [.ref b] ∧ Box H b c ∧ ∀ (i : Int) (H' : Hp), 0 ≤ i → i < 4 → Box H' b c → Fr [b] H H' → Q (.int i) H'
def spWorth : Sp := fun vs H Q _ => ∃ b c : Addr, vs = [.ref b] ∧ Box H b c ∧ ∀ (wt : Str) (H' : Hp), wt.length ≤ 12 → Plain wt → Box H' b c → Fr [b] H H' → Q (.str wt) H'
def spSetW (CS : Addr) : Sp := fun vs H Q _ => ∃ (b c : Addr) (n : Nat), vs = [.ref b, .int (n : Int)] ∧ Box H b c ∧ 1 ≤ n ∧ n ≤ 8 ∧ ∀ (t x : Addr) (g : Int) (H' : Hp), Nw H x → Box H' b c → Fr [b] H H' → H' t = some (.tup [.ref x, .int g]) → SetG CS H' x n g → Q (.ref t) H'
section
variable {P : Program} {w : World} {K : PySem.W.Frag} {mg : Str → Option Value} {base : Heap} {CS : Addr}
theorem c_law_bits (c_law_draw : Cal P w K mg base 1 "_law_draw" spDraw []) (d : D0 K mg "_law_bits" s_law_bits ["box"]) : Cal P w K mg base 2 "_law_bits" spBits [] := by
  refine cal d sc_law_bits (fun vs H Q E h => ?_) (fun cdv A outer f s0 H vs Q E hr h => ?_)
  · obtain ⟨b, c, rfl, _⟩ := h
    rfl
  · obtain ⟨b, c, rfl, B, k⟩ := h
    refine ⟨_, (pss_cons (ps_set (i := 1) sc_law_bits.nd rfl (Or.inl rfl) (pe_c c_law_draw hr (by decide) rfl (pa_cons (pv 0) (pa_cons pe_int pa_nil))))
      (pss_cons (ps_if (pt_cmpR op_lt (pv 1) pe_int (nomark _)) (pss_one (ps_ret pe_int)) pss_nil)
      (pss_cons (ps_if (pt_cmpR op_lt (pv 1) pe_int (nomark _)) (pss_one (ps_ret pe_int)) pss_nil)
      (pss_one (ps_ret (pe_op op_add pe_int (pe_c c_law_draw hr (by decide) rfl (pa_cons (pv 0) (pa_cons pe_int pa_nil))))))))), ?_⟩
    refine ⟨_, rfl, b, c, 8, rfl, B, by decide, by decide +kernel, fun d1 H1 a1 a2 B1 X1 => ?_⟩
    refine ⟨_, rfl, _, _, rfl, rfl, _, rfl, ite2 (fun _ => k 2 H1 (by decide) (by decide) B1 X1) (fun _ => ?_)⟩
    refine ⟨_, rfl, _, _, rfl, rfl, _, rfl, ite2 (fun _ => k 3 H1 (by decide) (by decide) B1 X1) (fun _ => ?_)⟩
    refine ⟨_, rfl, b, c, 8, rfl, B1, by decide, by decide +kernel, fun d2 H2 a3 a4 B2 X2 => ?_⟩
    obtain ⟨j, rfl⟩ := Int.eq_ofNat_of_zero_le a3
    refine ⟨_, _, rfl, rfl, ?_⟩
    have := k (1 + j) H2 (by omega) (by omega) B2 (X1.trans X2)
    rw [Int.natCast_add] at this
    exact this
theorem c_law_marks (d : D0 K mg "_law_marks" s_law_marks []) : Cal P w K mg base 1 "_law_marks" spMarks [] := by
  refine cal d sc_law_marks (fun vs H Q E h => ?_) (fun cdv A outer f s0 H vs Q E hr h => ?_)
  · obtain ⟨rfl, _⟩ := h
    rfl
  · obtain ⟨rfl, k⟩ := h
    refine ⟨_, (pss_one (ps_ret (pe_lst (pa_cons pe_str (pa_cons pe_str (pa_cons pe_str (pa_cons pe_str pa_nil))))))), ?_⟩
    exact ⟨by show 4 ≤ sizeLine; decide, fun p np => k p _ (.of np) (Fr.new0 np _) upd_same⟩
theorem c_law_mark (c_law_draw : Cal P w K mg base 1 "_law_draw" spDraw []) (d : D0 K mg "_law_mark" s_law_mark ["box"]) : Cal P w K mg base 2 "_law_mark" spMark [] := by
  refine cal d sc_law_mark (fun vs H Q E h => ?_) (fun cdv A outer f s0 H vs Q E hr h => ?_)
  · obtain ⟨b, c, rfl, _⟩ := h
    rfl
  · obtain ⟨b, c, rfl, B, k⟩ := h
    refine ⟨_, (pss_cons (ps_set (i := 1) sc_law_mark.nd rfl (Or.inl rfl) (pe_c c_law_draw hr (by decide) rfl (pa_cons (pv 0) (pa_cons pe_int pa_nil))))
      (pss_cons (ps_if (pt_cmpR op_lt (pv 1) pe_int (nomark _)) (pss_one (ps_ret pe_int)) pss_nil)
      (pss_one (ps_ret (pe_ix ix_list (pe_lst (pa_cons pe_int (pa_cons pe_int (pa_cons pe_int pa_nil)))) (pe_op op_sub (pv 1) pe_int) (fun _ _ => rfl)))))), ?_⟩
    refine ⟨_, rfl, b, c, 6, rfl, B, by decide, by decide +kernel, fun d1 H1 a1 a2 B1 X1 => ?_⟩
    refine ⟨_, rfl, _, _, rfl, rfl, _, rfl, ite2 (fun _ => k 1 H1 (by decide) (by decide) B1 X1) (fun z => ?_)⟩
    have z : ¬ d1 < 3 := fun y => z (decide_eq_true y)
    refine ⟨by show 3 ≤ sizeLine; decide, fun L nL => ?_⟩
    obtain ⟨i, hi, im, _⟩ := int_at (xs := [0, 2, 3]) (z := d1 - 3) (by omega) (by show d1 - 3 < 3; omega)
    simp only [List.mem_cons, List.not_mem_nil, or_false] at im
    have hL : upd H1 L (.lst ([0, 2, 3].map V.int)) L = some (.lst ([0, 2, 3].map V.int)) := upd_same
    exact ⟨_, rfl, _, _, rfl, rfl, _, _, _, _, rfl, rfl, SqL.of hL, hi, k i _ (by omega) (by omega) (B1.new nL _) (X1.new nL _)⟩
theorem c_law_worth (T : Bl mg) (c_law_draw : Cal P w K mg base 1 "_law_draw" spDraw []) (d : D0 K mg "_law_worth" s_law_worth ["box"]) : Cal P w K mg base 2 "_law_worth" spWorth [] := by
  refine cal d sc_law_worth (fun vs H Q E h => ?_) (fun cdv A outer f s0 H vs Q E hr h => ?_)
  · obtain ⟨b, c, rfl, _⟩ := h
    rfl
  · obtain ⟨b, c, rfl, B, k⟩ := h
    refine ⟨_, (pss_cons (ps_set (i := 1) sc_law_worth.nd rfl (Or.inr rfl) pe_str)
      (pss_cons (ps_set (i := 2) sc_law_worth.nd rfl (Or.inl rfl) (pe_c c_law_draw hr (by decide) rfl (pa_cons (pv 0) (pa_cons pe_int pa_nil))))
      (pss_cut (ps_if (pt_cmpR op_eq (pe_c c_law_draw hr (by decide) rfl (pa_cons (pv 0) (pa_cons pe_int pa_nil))) pe_int (nomark _)) (pss_one (ps_set (i := 2) sc_law_worth.nd rfl (Or.inl rfl) (pe_c c_law_draw hr (by decide) rfl (pa_cons (pv 0) (pa_cons pe_int pa_nil))))) pss_nil)
      (pss_one (ps_ret (pe_join pe_str (pe_lc (own := [("k", 3)]) (g := gName 3) (tt := tYes) (by rfl) sc_law_worth.nd (pi_range1 rfl T.range (pa_cons (pv 2) pa_nil)) (blkOk_by (own := [("k", 3)]) (N := n_law_worth) (sc := C8.fnScope s_law_worth) (by decide +kernel)) (fun _ _ _ _ _ => pg_name (i := 3) sc_law_worth.nd rfl (Or.inl rfl)) (fun _ _ _ _ _ => pts_nil) (fun _ _ _ _ _ => (pe_ix ix_str (pv 1) (pe_c c_law_draw hr (by decide) rfl (pa_cons (pv 0) (pa_cons pe_int pa_nil))) (fun _ _ => rfl)))))))))), ?_⟩
    refine ⟨_, rfl, b, c, 4, rfl, B, by decide, by decide +kernel, fun d1 H1 a1 a2 B1 X1 => ?_⟩
    refine ⟨fun σ H' => Box H' b c ∧ Fr [b] H H' ∧ ∃ z : Int, 0 ≤ z ∧ z ≤ 12 ∧ σ = [some (.ref b), some (.str plainS), some (.int z), none], ?_, ?_⟩
    · refine ⟨_, rfl, b, c, 8, rfl, B1, by decide, by decide +kernel, fun d2 H2 b1 b2 B2 X2 => ⟨rfl, _, rfl, ite2 (fun _ => ?_) (fun _ => ⟨B2, X1.trans X2, d1, a1, by omega, rfl⟩)⟩⟩
      exact ⟨_, rfl, b, c, 13, rfl, B2, by decide, by decide +kernel, fun d3 H3 c1 c2 B3 X3 => ⟨B3, (X1.trans X2).trans X3, d3, c1, by omega, rfl⟩⟩
    · rintro σ H2 ⟨B2, X2, z, z0, z1, rfl⟩
      refine ⟨⟨_, rfl⟩, _, rfl, _, rfl, by omega, by omega, fun D nD => ?_⟩
      have Db : D ≠ b := (B2.nw_ne (.of nD)).1
      have Dc : D ≠ c := (B2.nw_ne (.of nD)).2
      refine lc_range (lo := 0) (n := z.toNat) (fun i H' => Box H' b c ∧ Fr [b] H2 H' ∧ ∃ cs : List Nat, (cs.length = i ∧ ∀ x ∈ cs, x ∈ plainS.cps.toList) ∧ H' D = some (.lst ((cs.map fun c => (⟨#[c]⟩ : Str)).map V.str))) ⟨B2.new nD _, Fr.new0 nD _, [], ⟨rfl, (fun c hc => nomatch hc)⟩, upd_same⟩ (fun i H3 hi pv => ?_) (fun H3 pv => ?_)
      · obtain ⟨B3, X3, cs, ⟨lc, cin⟩, hD⟩ := pv
        refine ⟨rfl, _, rfl, _, rfl, b, c, 36, rfl, B3, by decide, by decide +kernel, fun d2 H4 b1 b2 B4 X4 => ?_⟩
        have hD4 := X4.lst hD (not_one Db)
        obtain ⟨ch, hc⟩ := at_lt (xs := plainS.cps.toList) b1 (by rw [show plainS.cps.toList.length = 36 by decide +kernel]; exact b2)
        refine ⟨_, _, ch, rfl, rfl, by decide +kernel, hc, _, hD4, by rw [List.length_map, List.length_map]; exact small1000' (by omega), B4.off Db Dc _, (X3.trans X4).late (.of nD) (.lst hD4) _, cs ++ [ch], ⟨by rw [List.length_append, lc]; rfl, fun x hx => ?_⟩, by rw [upd_same, List.map_append, List.map_append]; rfl⟩
        rcases List.mem_append.mp hx with hx | hx
        · exact cin x hx
        · rw [List.mem_singleton] at hx
          obtain ⟨jj, _, e, _⟩ := atI_get hc
          rw [hx]
          exact List.mem_of_getElem? e
      · obtain ⟨B3, X3, cs, ⟨lc, cin⟩, hD⟩ := pv
        refine ⟨_, D, cs.map fun c => (⟨#[c]⟩ : Str), rfl, rfl, .inl (SqL.of hD), ?_, ?_⟩
        · rw [ones_len, List.length_map, show ("" : Str).length = 0 by decide +kernel]
          omega
        · obtain ⟨w1, w2⟩ := join_worth (m := 12) (by omega) cin
          exact k _ H3 w1 w2 B3 (X2.trans X3)
theorem c_law_setting (ST : T_Setting K mg CS) (c_check_field : Cal P w K mg base 2 "check_field" spCheck []) (c_law_draw : Cal P w K mg base 1 "_law_draw" spDraw []) (d : D0 K mg "_law_setting" s_law_setting ["box", "bits"]) : Cal P w K mg base 5 "_law_setting" (spSetW CS) [] := by
  obtain ⟨f0, fd0, M0, F0⟩ := ST.ini
  have c_Setting : Mak P w K mg base 3 "Setting" CS (spInit CS) [.int 6, .int 1] := c_Setting ST c_check_field
  have FO : FnOk P w K mg base C8.CX0 3 f0 fd0 ["self", "bits", "patience", "room", "grace", "helpers"] (spInit CS) := f_init ST F0 c_check_field
  obtain ⟨mv, KB⟩ := F0.kbinds0 (ps := ["self", "bits", "patience", "room", "grace", "helpers"]) 4 ["grace"] [("helpers", .int 1)] (fun us mv ws => us ++ ws ++ mv) (by decide) (fun q hq => by
    cases hq with
    | head => exact .tail _ (.head _)
    | tail _ hq => nomatch hq) (fun r1 r2 r3 => (r1.append r3).append r2) (fun D doc pm an cdv ct us mv ws l1 l2 l3 => match us, l1, mv, l2, ws, l3 with
    | [_, _, _, _], _, [_], _, [_], _ => ⟨_, _, _, _, _, _, rfl, rfl, rfl⟩)
  refine cal d sc_law_setting (fun vs H Q E h => ?_) (fun cdv A outer f s0 H vs Q E hr h => ?_)
  · obtain ⟨b, c, n, rfl, _⟩ := h
    rfl
  · obtain ⟨b, c, n, rfl, B, n1, n8, k⟩ := h
    refine ⟨_, (pss_cons (ps_set (i := 2) sc_law_setting.nd rfl (Or.inl rfl) (pe_c c_law_draw hr (by decide) rfl (pa_cons (pv 0) (pa_cons pe_int pa_nil))))
      (pss_cons (ps_set (i := 3) sc_law_setting.nd rfl (Or.inl rfl) (pe_op op_add pe_int (pe_c c_law_draw hr (by decide) rfl (pa_cons (pv 0) (pa_cons pe_int pa_nil)))))
      (pss_cons (ps_if (pt_cmpR op_eq (pv 2) pe_int (nomark _)) (pss_one (ps_ret (pe_tup (pa_cons (pe_mk c_Setting hr (by decide) rfl (pa_cons (pv 1) (pa_cons (pe_op op_add pe_int (pe_c c_law_draw hr (by decide) rfl (pa_cons (pv 0) (pa_cons pe_int pa_nil)))) (pa_cons (pv 3) pa_nil)))) (pa_cons pe_int pa_nil))))) pss_nil)
      (pss_cons (ps_set (i := 4) sc_law_setting.nd rfl (Or.inl rfl) (pe_op op_add pe_int (pe_c c_law_draw hr (by decide) rfl (pa_cons (pv 0) (pa_cons pe_int pa_nil)))))
      (pss_cut (ps_if (pt_cmpR op_eq (pv 2) pe_int (nomark _)) (pss_one (ps_set (i := 4) sc_law_setting.nd rfl (Or.inl rfl) (pe_op op_add pe_int (pe_c c_law_draw hr (by decide) rfl (pa_cons (pv 0) (pa_cons pe_int pa_nil)))))) pss_nil)
      (pss_one (ps_ret (pe_tup (pa_cons (pe_makeK M0 FO hr rfl ST.mgC KB (C8.pass0 (E := C8.E0)) (pa_cons (pv 1) (pa_cons (pe_op op_add pe_int (pe_c c_law_draw hr (by decide) rfl (pa_cons (pv 0) (pa_cons pe_int pa_nil)))) (pa_cons (pv 3) pa_nil))) (pk_cons (pv 4) pk_nil)) (pa_cons (pv 4) pa_nil)))))))))), ?_⟩
    refine ⟨_, rfl, b, c, 5, rfl, B, by decide, by decide +kernel, fun d1 H1 a1 a2 B1 X1 => ?_⟩
    refine ⟨_, rfl, b, c, 64, rfl, B1, by decide, by decide +kernel, fun d2 H2 b1 b2 B2 X2 => ?_⟩
    have X12 := X1.trans X2
    refine ⟨_, _, rfl, rfl, ?_⟩
    have xb : ∀ {x : Addr} {H : Hp} {n p r g h : Int}, SetO CS H x n p r g h → Box H b c → x ≠ b := fun {x H n p r g h} hx B z => by
      obtain ⟨dx, e⟩ := hx
      obtain ⟨cells, x', y', z', B'⟩ := B
      have := B'.hb
      rw [← z, e] at this
      cases this
    refine ⟨_, rfl, rfl, _, rfl, ite2 (fun _ => ?_) (fun _ => ?_)⟩
    · refine ⟨_, rfl, _, rfl, b, c, 6, rfl, B2, by decide, by decide +kernel, fun d3 H3 c1 c2 B3 X3 => ?_⟩
      refine ⟨_, _, rfl, rfl, _, rfl, fun x dx nx ndx ne => ?_⟩
      refine set_made (n := (n : Int)) (p := 1 + d3) (r := 1 + d2) (g := 6) (h := 1) nx ndx ne (by omega) (by omega) (by omega) (by omega) (by omega) (by omega) (by decide) (by decide) (by decide) (by decide) fun H4 X4 hx4 => ?_
      have X14 := (X12.trans X3).trans (X4.mono (es := [b]) fun a q => nomatch q)
      refine ⟨by show 2 ≤ sizeLine; decide, fun t nt => ?_⟩
      refine k t x 6 _ ((X12.trans X3).live x (.of nx)) ((B3.fr X4 not_nil not_nil).new nt _) (X14.new nt _) upd_same ⟨1 + d3, 1 + d2, 1, ?_⟩
      exact hx4.fr (Fr.new0 (ds := []) nt _) not_nil
    · refine ⟨_, rfl, b, c, 6, rfl, B2, by decide, by decide +kernel, fun d3 H3 c1 c2 B3 X3 => ?_⟩
      refine ⟨_, _, rfl, rfl, ?_⟩
      have X13 := X12.trans X3
      refine ⟨fun σ H' => Box H' b c ∧ Fr [b] H H' ∧ ∃ g : Int, 1 ≤ g ∧ g ≤ 200 ∧ σ = [some (.ref b), some (.int (n : Int)), some (.int d1), some (.int (1 + d2)), some (.int g)], ?_, ?_⟩
      · refine ⟨_, rfl, rfl, _, rfl, ite2 (fun _ => ?_) (fun _ => ⟨B3, X13, 1 + d3, by omega, by omega, rfl⟩)⟩
        refine ⟨_, rfl, b, c, 200, rfl, B3, by decide, by decide +kernel, fun d4 H4 e1 e2 B4 X4 => ⟨_, _, rfl, rfl, B4, X13.trans X4, 1 + d4, by omega, by omega, rfl⟩⟩
      · rintro σ H4 ⟨B4, X4, g, g1, g2, rfl⟩
        refine ⟨_, rfl, _, rfl, b, c, 6, rfl, B4, by decide, by decide +kernel, fun d5 H5 e1 e2 B5 X5 => ?_⟩
        refine ⟨_, _, rfl, rfl, _, rfl, _, rfl, rfl, rfl, fun x dx nx ndx ne => ?_⟩
        refine set_made (n := (n : Int)) (p := 1 + d5) (r := 1 + d2) (g := g) (h := 1) nx ndx ne (by omega) (by omega) (by omega) (by omega) (by omega) (by omega) (by omega) (by omega) (by decide) (by decide) fun H6 X6 hx6 => ?_
        have X16 := (X4.trans X5).trans (X6.mono (es := [b]) fun a q => nomatch q)
        refine ⟨_, rfl, by show 2 ≤ sizeLine; decide, fun t nt => ?_⟩
        refine k t x g _ ((X4.trans X5).live x (.of nx)) ((B5.fr X6 not_nil not_nil).new nt _) (X16.new nt _) upd_same ⟨1 + d5, 1 + d2, 1, ?_⟩
        exact hx6.fr (Fr.new0 (ds := []) nt _) not_nil
end
end K27

set_option Elab.async false
set_option maxRecDepth 100000
set_option maxHeartbeats 8000000
set_option exponentiation.threshold 4096
set_option linter.unusedVariables false
/-! doubts, a book and what the law holds beside them; how they are made -/
namespace K27
open PySem PySem.Spec PyProof.Rows L2 C8 LamX UF
structure Wd where
  t : Addr
  o : Addr
  D : Addr
  b : Addr
  L : Addr
  sd : Addr
  pl : Addr
  rw : Addr
  cl : Addr
  x : Addr
  n : Nat
  g : Int
  base : Int
  pool : List Int
def side5 (g base : Int) (pl rw cl : Addr) : List (Key × V) := [(.inr "wait", .int g), (.inr "base", .int base), (.inr "pool", .ref pl), (.inr "rows", .ref rw), (.inr "clocks", .ref cl)]
structure WAt (CD CB CS : Addr) (H : Hp) (W : Wd) (ms : List (Int × Say)) (cs : Clk) (i : Nat) : Prop where
  ht : H W.t = some (.tup [.ref W.o, .ref W.b, .ref W.sd])
  ho : DbO CD H W.o W.x W.D
  hb : BkO CB H W.b W.x W.L
  hx : SetG CS H W.x W.n W.g
  hD : TupD vsC H W.D cs
  hL : TupD Say.vs H W.L ms
  hs : H W.sd = some (.dK (side5 W.g W.base W.pl W.rw W.cl))
  hp : H W.pl = some (.lst (W.pool.map V.int))
  hr : TupD Say.vs H W.rw ms
  hc : TupD vsC H W.cl cs
  n1 : 1 ≤ W.n
  n8 : W.n ≤ 8
  p0 : 0 < W.pool.length
  p6 : W.pool.length ≤ 6
  pr : ∀ s ∈ W.pool, 0 ≤ s ∧ s < ringN W.n
  b0 : 0 ≤ W.base
  b1 : W.base ≤ 10 ^ 57
  ndm : (ms.map Prod.fst).Nodup
  ok : ∀ k s, lkA ms k = some s → s.seat = k ∧ s.Ok (ringN W.n) ∧ s.life ≤ 10 ^ 58 + 2 * (i : Int)
  ndc : (cs.map Prod.fst).Nodup
  ck : ∀ k ∈ cs.map Prod.fst, k ∈ W.pool
  dis : [W.D, W.L, W.rw, W.cl, W.sd, W.pl].Nodup
def Wd.adr (W : Wd) : List Addr := [W.t, W.o, W.D, W.b, W.L, W.sd, W.pl, W.rw, W.cl, W.x]
def Wd.mut (W : Wd) : List Addr := [W.D, W.L, W.rw, W.cl]
section
variable {CD CB CS : Addr} {H H' : Hp} {W : Wd} {ms : List (Int × Say)} {cs : Clk} {i : Nat} {ds : List Addr}
theorem WAt.fr (A : WAt CD CB CS H W ms cs i) (X : Fr ds H H') (n : ∀ a ∈ W.adr, a ∉ ds) (nt : ∀ a ∈ ds, ∀ vs, H a ≠ some (.tup vs)) : WAt CD CB CS H' W ms cs i where
  ht := X.tup A.ht (n _ (.head _))
  ho := A.ho.fr X (n _ (by simp [Wd.adr]))
  hb := A.hb.fr X (n _ (by simp [Wd.adr]))
  hx := A.hx.fr X (n _ (by simp [Wd.adr]))
  hD := A.hD.fr X (n _ (by simp [Wd.adr])) nt
  hL := A.hL.fr X (n _ (by simp [Wd.adr])) nt
  hs := X.dK A.hs (n _ (by simp [Wd.adr]))
  hp := X.lst A.hp (n _ (by simp [Wd.adr]))
  hr := A.hr.fr X (n _ (by simp [Wd.adr])) nt
  hc := A.hc.fr X (n _ (by simp [Wd.adr])) nt
  n1 := A.n1
  n8 := A.n8
  p0 := A.p0
  p6 := A.p6
  pr := A.pr
  b0 := A.b0
  b1 := A.b1
  ndm := A.ndm
  ok := A.ok
  ndc := A.ndc
  ck := A.ck
  dis := A.dis
theorem WAt.fr0 (A : WAt CD CB CS H W ms cs i) (X : Fr [] H H') : WAt CD CB CS H' W ms cs i := A.fr X (fun _ _ => not_nil) fun a m => nomatch m
theorem WAt.up (A : WAt CD CB CS H W ms cs i) {j : Nat} (h : i ≤ j) : WAt CD CB CS H W ms cs j := { A with ok := fun k s e => ⟨(A.ok k s e).1, (A.ok k s e).2.1, by have := (A.ok k s e).2.2; omega⟩ }
theorem WAt.lc (A : WAt CD CB CS H W ms cs i) : cs.length ≤ 6 := by
  have := nd_le _ _ A.ndc A.ck
  rw [List.length_map] at this
  have := A.p6
  omega
theorem WAt.lm (A : WAt CD CB CS H W ms cs i) : ms.length ≤ 256 := by
  have h := nd_le (ms.map Prod.fst) ((List.range (ringN W.n).toNat).map fun j => ((j : Nat) : Int)) A.ndm fun k m => by
    obtain ⟨s, e⟩ := lkA_in m
    obtain ⟨a, b, _⟩ := A.ok k s e
    have h0 := b.s0
    have h1 := b.s1
    rw [a] at h0 h1
    exact List.mem_map.mpr ⟨k.toNat, List.mem_range.mpr (by omega), by omega⟩
  rw [List.length_map, List.length_map, List.length_range] at h
  have := ringN_le A.n8
  omega
theorem WAt.mo (A : WAt CD CB CS H W ms cs i) : MarksOk ms := fun k s e => (A.ok k s e).2.1.m
theorem WAt.so (A : WAt CD CB CS H W ms cs i) : SeatOk ms := fun k s e => (A.ok k s e).1
theorem WAt.at_ (A : WAt CD CB CS H W ms cs i) : ∀ a ∈ W.adr, ¬ Nw H a := fun a m z => by
  have f : ∀ {o : HO}, H a = some o → (∀ ps, o ≠ .tbl ps) → False := fun h n => by
    obtain ⟨ps, e⟩ := z _ h
    exact n ps e
  unfold Wd.adr at m
  simp only [List.mem_cons, List.not_mem_nil, or_false] at m
  rcases m with rfl | rfl | rfl | rfl | rfl | rfl | rfl | rfl | rfl | rfl
  · exact f A.ht fun _ z => nomatch z
  · obtain ⟨dx, e⟩ := A.ho; exact f e fun _ z => nomatch z
  · obtain ⟨kv, e⟩ := A.hD.at_; exact f e fun _ z => nomatch z
  · obtain ⟨dx, e⟩ := A.hb; exact f e fun _ z => nomatch z
  · obtain ⟨kv, e⟩ := A.hL.at_; exact f e fun _ z => nomatch z
  · exact f A.hs fun _ z => nomatch z
  · exact f A.hp fun _ z => nomatch z
  · obtain ⟨kv, e⟩ := A.hr.at_; exact f e fun _ z => nomatch z
  · obtain ⟨kv, e⟩ := A.hc.at_; exact f e fun _ z => nomatch z
  · obtain ⟨p, r, h, dx, e⟩ := A.hx; exact f e fun _ z => nomatch z
theorem WAt.nt (A : WAt CD CB CS H W ms cs i) : ∀ a ∈ W.mut, ∀ vs, H a ≠ some (.tup vs) := fun a m vs z => by
  have f : (∃ kv, H a = some (.dK kv)) → False := fun ⟨kv, e⟩ => by rw [e] at z; cases z
  unfold Wd.mut at m
  simp only [List.mem_cons, List.not_mem_nil, or_false] at m
  rcases m with rfl | rfl | rfl | rfl
  · exact f A.hD.at_
  · exact f A.hL.at_
  · exact f A.hr.at_
  · exact f A.hc.at_
end
theorem Box.nt {H : Hp} {b c : Addr} (B : Box H b c) : ∀ a ∈ [b], ∀ vs, H a ≠ some (.tup vs) := fun a m vs z => by
  obtain ⟨cells, x', y', z', B'⟩ := B
  have := B'.hb
  rw [List.mem_singleton.mp m, this] at z
  cases z
theorem latL_ids : ∀ {ms : List (Int × Say)}, (ms.map Prod.fst).Nodup → (∀ q ∈ ms, q.2.seat = q.1 ∧ 0 ≤ q.2.life) → latL (ms.map Prod.snd) = ms := fun {ms} => by
  refine snoc_ind (P := fun ms : List (Int × Say) => (ms.map Prod.fst).Nodup → (∀ q ∈ ms, q.2.seat = q.1 ∧ 0 ≤ q.2.life) → latL (ms.map Prod.snd) = ms) (fun _ _ => rfl) (fun l x ih nd h => ?_) ms
  rw [List.map_append] at nd
  obtain ⟨nd1, _, nd2⟩ := List.nodup_append.mp nd
  rw [List.map_append]
  show latL (l.map Prod.snd ++ [x.2]) = l ++ [x]
  rw [latL_snoc, ih nd1 fun q m => h q (List.mem_append_left _ m)]
  obtain ⟨e1, e2⟩ := h x (List.mem_append_right _ (.head _))
  have e0 : lkA l x.2.seat = none := by
    rw [e1]
    cases q : lkA l x.1 with
    | none => rfl
    | some s => exact absurd rfl (nd2 x.1 (lkA_mem q) x.1 (.head _))
  unfold latS
  rw [e0, if_pos (by show 0 < rankI x.2; unfold rankI; omega), putA_new e0, e1]
theorem rows_ids : ∀ {ms : List (Int × Say)}, (ms.map Prod.fst).Nodup → rowsM ms (ms.map Prod.fst) = ms.map Prod.snd := fun {ms} nd => by
  have go : ∀ l : List (Int × Say), (∀ q ∈ l, lkA ms q.1 = some q.2) → (l.map Prod.fst).filterMap (lkA ms) = l.map Prod.snd := fun l => by
    induction l with
    | nil => intro _; rfl
    | cons x l ih =>
      intro h
      rw [List.map_cons, List.filterMap_cons_some (h x (.head _)), ih fun q m => h q (.tail _ m), List.map_cons]
  exact go ms fun q m => lkA_get nd m
theorem srt_perm_eq : ∀ {a b : List Int}, a.Perm b → a.Pairwise (· ≤ ·) → b.Pairwise (· < ·) → a = b := fun {a b} p sa sb => List.Perm.eq_of_pairwise (fun x y _ _ h1 h2 => Int.le_antisymm h1 h2) sa (sb.imp fun h => Int.le_of_lt h) p
def spMade (CD CB CS : Addr) : Sp := fun vs H Q _ => ∃ b c : Addr, vs = [.ref b] ∧ Box H b c ∧ ∀ (W : Wd) (ms : List (Int × Say)) (H' : Hp), (∀ a ∈ W.adr, Nw H a) → Box H' b c → Fr [b] H H' → WAt CD CB CS H' W ms [] 0 → Q (.ref W.t) H'
section
variable {P : Program} {w : World} {K : PySem.W.Frag} {mg : Str → Option Value} {base : Heap} {CS CD CB : Addr}
theorem c_law_made (T : Bl mg) (c_law_draw : Cal P w K mg base 1 "_law_draw" spDraw []) (c_law_bits : Cal P w K mg base 2 "_law_bits" spBits []) (c_law_marks : Cal P w K mg base 1 "_law_marks" spMarks []) (c_law_mark : Cal P w K mg base 2 "_law_mark" spMark []) (c_law_worth : Cal P w K mg base 2 "_law_worth" spWorth []) (c_law_setting : Cal P w K mg base 5 "_law_setting" (spSetW CS) [])
    (c_Doubts : Mak P w K mg base 1 "Doubts" CD (spDbts CD) []) (c_Book : Mak P w K mg base 6 "Book" CB (spBook CB CS) []) (d : D0 K mg "_law_made" s_law_made ["box"]) : Cal P w K mg base 8 "_law_made" (spMade CD CB CS) [] := by
  refine cal d sc_law_made (fun vs H Q E h => ?_) (fun cdv A outer f s0 H vs Q E hr h => ?_)
  · obtain ⟨b, c, rfl, _⟩ := h
    rfl
  · obtain ⟨b, c, rfl, B, k⟩ := h
    refine ⟨_, (pss_cons (ps_set (i := 1) sc_law_made.nd rfl (Or.inl rfl) (pe_c c_law_bits hr (by decide) rfl (pa_cons (pv 0) pa_nil)))
      (pss_cons (ps_set (i := 2) sc_law_made.nd rfl (Or.inr rfl) (pe_op op_shl pe_int (pv 1)))
      (pss_cons (ps_set (i := 3) sc_law_made.nd rfl (Or.inl rfl) (pe_c c_law_setting hr (by decide) rfl (pa_cons (pv 0) (pa_cons (pv 1) pa_nil))))
      (pss_cons (ps_set (i := 4) sc_law_made.nd rfl (Or.inl rfl) pe_int)
      (pss_cut (ps_if (pt_cmpR op_eq (pe_c c_law_draw hr (by decide) rfl (pa_cons (pv 0) (pa_cons pe_int pa_nil))) pe_int (nomark _)) (pss_one (ps_set (i := 4) sc_law_made.nd rfl (Or.inl rfl) (pe_op op_pow pe_int pe_int))) pss_nil)
      (pss_cons (ps_setLc (i := 5) (own := [("k", 10)]) (g := gName 10) (tt := tYes) (by rfl) sc_law_made.nd rfl rfl (sw_true rfl rfl rfl (by decide +kernel)) (pi_range1 rfl T.range (pa_cons (pe_op op_add pe_int (pe_c c_law_draw hr (by decide) rfl (pa_cons (pv 0) (pa_cons pe_int pa_nil)))) pa_nil)) (blkOk_by (own := [("k", 10)]) (N := n_law_made) (sc := C8.fnScope s_law_made) (by decide +kernel)) (fun _ _ _ _ _ => pg_name (i := 10) sc_law_made.nd rfl (Or.inl rfl)) (fun _ _ _ _ _ => pts_nil) (fun _ _ _ _ _ => (pe_c c_law_draw hr (by decide) rfl (pa_cons (pv 0) (pa_cons (pv 2) pa_nil)))))
      (pss_cons (ps_set (i := 6) sc_law_made.nd rfl (Or.inr rfl) pe_dnewK)
      (pss_cons (ps_for PassesOwn.never rfl (pi_range1 rfl T.range (pa_cons (pv 2) pa_nil)) (pg_name (i := 7) sc_law_made.nd rfl (Or.inl rfl)) (pss_one (ps_if (PW.pt (pw_and (PW.pt (pw_or (pt_cmpR op_le (pv 2) pe_int (nomark _)) (pw_or1 (pt_cmpR (show OpR _ (compareOp .In) (rIn K false) from op_in_seq) (pv 7) (pv 5) (by with_unfolding_all rfl))))) (pw_and1 (pt_cmpR op_gt (pe_c c_law_draw hr (by decide) rfl (pa_cons (pv 0) (pa_cons pe_int pa_nil))) pe_int (nomark _))))) (pss_cons (ps_set (i := 8) sc_law_made.nd rfl (Or.inl rfl) (pe_ix ix_list (pe_c0 c_law_marks hr (by decide) rfl) (pe_c c_law_mark hr (by decide) rfl (pa_cons (pv 0) pa_nil)) (fun _ _ => rfl)))
      (pss_one (ps_asg (pe_tup (pa_cons (pv 7) (pa_cons (pe_op op_add (pv 4) (pe_c c_law_draw hr (by decide) rfl (pa_cons (pv 0) (pa_cons pe_int pa_nil)))) (pa_cons (pv 8) (pa_cons (pe_c c_law_worth hr (by decide) rfl (pa_cons (pv 0) pa_nil)) pa_nil))))) (pg_sub (pv 6) (pv 7) (set_dict (u1 hr)))))) pss_nil)))
      (pss_cons (ps_set (i := 9) sc_law_made.nd rfl (Or.inl rfl) (pe_disp (pps_cons pe_str (pe_ix ix_tup (pv 3) pe_int (fun _ _ => rfl)) (pps_cons pe_str (pv 4) (pps_cons pe_str (pv 5) (pps_cons pe_str (pv 6) (pps_cons pe_str pe_dnewK pps_nil))))) rfl rfl (fun z => nomatch z) (by decide)))
      (pss_one (ps_ret (pe_tup (pa_cons (pe_mk c_Doubts hr (by decide) rfl (pa_cons (pe_ix ix_tup (pv 3) pe_int (fun _ _ => rfl)) pa_nil)) (pa_cons (pe_mk c_Book hr (by decide) rfl (pa_cons (pe_ix ix_tup (pv 3) pe_int (fun _ _ => rfl)) (pa_cons (pe_lc (own := [("spot", 7)]) (g := gName 7) (tt := tYes) (by rfl) sc_law_made.nd (pi_list (pe_callB cr_sortedI (by rfl) T.sorted (by decide +kernel) (pa_cons (pe_callTy (call_listD rfl) (by rfl) T.list (by decide +kernel) (pa_cons (pv 6) pa_nil)) pa_nil))) (blkOk_by (own := [("spot", 7)]) (N := n_law_made) (sc := C8.fnScope s_law_made) (by decide +kernel)) (fun _ _ _ _ _ => pg_name (i := 7) sc_law_made.nd rfl (Or.inl rfl)) (fun _ _ _ _ _ => pts_nil) (fun _ _ _ _ _ => (pe_dget (u1 hr) (pv 6) (pv 7) (fun _ _ => rfl)))) pa_nil))) (pa_cons (pv 9) pa_nil))))))))))))))), ?_⟩
    refine ⟨_, rfl, b, c, rfl, B, fun n H1 n1 n8 B1 X1 => ?_⟩
    have R0 := ring_pos n
    have R6 := ringN_le n8
    refine ⟨_, rfl, _, _, rfl, rfl, ⟨by omega, by omega, by decide⟩, ?_⟩
    show gName 2 (V.int (1 * 2 ^ ((n : Int)).toNat)) _ H1 _
    rw [shl_eq]
    refine ⟨_, rfl, _, rfl, b, c, n, rfl, B1, n1, n8, fun mt x g H2 nx B2 X2 hmt hx2 => ?_⟩
    have X02 := X1.trans X2
    have nwx := X1.live x nx
    refine ⟨fun σ H' => Box H' b c ∧ Fr [b] H2 H' ∧ ∃ base : Int, 0 ≤ base ∧ base ≤ 10 ^ 57 ∧ σ = [some (.ref b), some (.int (n : Int)), some (.int (ringN n)), some (.ref mt), some (.int base), none, none, none, none, none, none], ?_, ?_⟩
    · refine ⟨_, rfl, b, c, 8, rfl, B2, by decide, by decide +kernel, fun d1 H3 a1 a2 B3 X3 => ⟨rfl, _, rfl, ite2 (fun _ => ?_) (fun _ => ⟨B3, X3, 0, by decide, by decide, rfl⟩)⟩⟩
      exact ⟨_, _, rfl, rfl, ⟨by decide, by decide, by decide⟩, B3, X3, 10 ^ 57, by decide, by decide, rfl⟩
    rintro σ H3 ⟨B3, X3, base, b0, b1, rfl⟩
    have X03 := X02.trans X3
    -- pool
    refine ⟨_, rfl, b, c, 6, rfl, B3, by decide, by decide +kernel, fun d2 H4 a3 a4 B4 X4 => ?_⟩
    have X04 := X03.trans X4
    refine ⟨_, _, rfl, rfl, _, rfl, by omega, by omega, fun pl npl => ?_⟩
    have plb : pl ≠ b := (B4.nw_ne (.of npl)).1
    have plc : pl ≠ c := (B4.nw_ne (.of npl)).2
    have nwpl : Nw H pl := X04.live pl (.of npl)
    refine lc_range (lo := 0) (n := (1 + d2).toNat) (fun i H' => Box H' b c ∧ Fr [b] H4 H' ∧ ∃ ns : List Int, ns.length = i ∧ H' pl = some (.lst (ns.map V.int)) ∧ ∀ s ∈ ns, 0 ≤ s ∧ s < ringN n) ⟨B4.new npl _, Fr.new0 npl _, [], rfl, upd_same, (fun s m => nomatch m)⟩ (fun i H5 hi pv => ?_) (fun H5 pv => ?_)
    · obtain ⟨B5, X5, ns, ln, hp5, hns⟩ := pv
      refine ⟨rfl, _, rfl, _, rfl, b, c, ringN n, rfl, B5, R0, Int.lt_of_le_of_lt (show ringN n ≤ 1000 by omega) (by decide +kernel), fun d3 H6 c1 c2 B6 X6 => ?_⟩
      have hp6 := X6.lst hp5 (not_one plb)
      refine ⟨_, hp6, by rw [List.length_map]; exact small1000' (by omega), B6.off plb plc _, (X5.trans X6).late (.of npl) (.lst hp6) _, ns ++ [d3], by rw [List.length_append, ln]; rfl, by rw [upd_same, List.map_append]; rfl, fun s m => ?_⟩
      rcases List.mem_append.mp m with m | m
      · exact hns s m
      · rw [List.mem_singleton.mp m]
        exact ⟨c1, c2⟩
    obtain ⟨B5, X5, pool, lp, hp5, hpool⟩ := pv
    have X05 := X04.trans X5
    -- rows
    intro rw nrw
    have nwrw : Nw H rw := X05.live rw (.of nrw)
    have rwb : rw ≠ b := (B5.nw_ne (.of nrw)).1
    have rwc : rw ≠ c := (B5.nw_ne (.of nrw)).2
    have rwpl : rw ≠ pl := (ne_of_none hp5 nrw).symm
    have hp6 := upd_new (o := .dK []) nrw hp5
    have B6 := B5.new nrw (.dK [])
    have X06 := X05.new nrw (.dK [])
    have X56 : Fr [b] H5 (upd H5 rw (.dK [])) := Fr.new0 nrw _
    have hr6 : TupD Say.vs (upd H5 rw (.dK [])) rw [] := TupD.nil upd_same
    have nrw5 : Nw H5 rw := .of nrw
    generalize upd H5 rw (.dK []) = H6 at hp6 B6 X06 X56 hr6
    refine ⟨_, rfl, _, rfl, by omega, by omega, ?_⟩
    refine for_range (lo := 0) (n := _) (fun i σ H' => Box H' b c ∧ Fr [b] H5 H' ∧ H' pl = some (.lst (pool.map V.int)) ∧ ∃ (ms : List (Int × Say)) (v7 v8 : Option V), TupD Say.vs H' rw ms ∧ (ms.map Prod.fst).Pairwise (· < ·) ∧ ms.length ≤ i ∧ (∀ q ∈ ms, q.2.seat = q.1 ∧ q.2.Ok (ringN n) ∧ q.2.life ≤ 10 ^ 58 ∧ q.1 < (i : Int)) ∧ σ = [some (.ref b), some (.int (n : Int)), some (.int (ringN n)), some (.ref mt), some (.int base), some (.ref pl), some (.ref rw), v7, v8, none, none]) ⟨B6, X56, hp6, [], _, _, hr6, .nil, Nat.le_refl _, (fun q m => nomatch m), rfl⟩ ?_ ?_
    · rintro i σ H7 hi ⟨B7, X7, hp7, ms, v7, v8, hr7, srt, lms, hms, rfl⟩
      have go : Fr [b] H5 H7 → ∀ (v7 v8 : Option V) (H8 : Hp), Box H8 b c → Fr [b] H7 H8 → (Box H8 b c ∧ Fr [b] H5 H8 ∧ H8 pl = some (.lst (pool.map V.int)) ∧ ∃ (ms : List (Int × Say)) (w7 w8 : Option V), TupD Say.vs H8 rw ms ∧ (ms.map Prod.fst).Pairwise (· < ·) ∧ ms.length ≤ i + 1 ∧ (∀ q ∈ ms, q.2.seat = q.1 ∧ q.2.Ok (ringN n) ∧ q.2.life ≤ 10 ^ 58 ∧ q.1 < ((i + 1 : Nat) : Int)) ∧ ([some (.ref b), some (.int (n : Int)), some (.int (ringN n)), some (.ref mt), some (.int base), some (.ref pl), some (.ref rw), v7, v8, none, none] : List (Option V)) = [some (.ref b), some (.int (n : Int)), some (.int (ringN n)), some (.ref mt), some (.int base), some (.ref pl), some (.ref rw), w7, w8, none, none]) := fun X57 v7 v8 H8 B8 X8 =>
        ⟨B8, X57.trans X8, X8.lst hp7 (not_one plb), ms, v7, v8, hr7.fr X8 (not_one rwb) B7.nt, srt, by omega, fun q m => ⟨(hms q m).1, (hms q m).2.1, (hms q m).2.2.1, by have := (hms q m).2.2.2; omega⟩, rfl⟩
      have lki : lkA ms (i : Int) = none := by
        cases q : lkA ms (i : Int) with
        | none => rfl
        | some s =>
          have := (hms _ (lkA_pair q)).2.2.2
          exact absurd this (Int.lt_irrefl _)
      refine ⟨_, rfl, _, _, rfl, rfl, _, rfl, ?_⟩
      by_cases c1 : ringN n ≤ 8
      case' pos =>
        rw [decide_eq_true c1]
        refine iteT (iteT ?_)
      case' neg =>
        rw [decide_eq_false c1]
        refine iteF ⟨_, rfl, _, rfl, pl, _, rfl, .inl (SqL.of hp7), rfl, flat_ints _, ?_⟩
        rw [inV_ints]
        by_cases c2 : (0 : Int) + (i : Int) ∈ pool
        case' neg =>
          rw [decide_eq_false c2]
          exact ⟨_, rfl, iteF (go X7 _ _ H7 B7 (Fr.refl _ _))⟩
        case' pos =>
          rw [decide_eq_true c2]
          refine ⟨_, rfl, iteT ?_⟩
      all_goals
        refine ⟨_, rfl, b, c, 4, rfl, B7, by decide, by decide +kernel, fun d3 H8 e1 e2 B8 X8 => ?_⟩
        refine ⟨_, _, rfl, rfl, _, rfl, ite2 (fun _ => ?_) (fun _ => go X7 _ _ H8 B8 X8)⟩
        refine ⟨rfl, fun mk H9 nmk X9 hmk => ?_⟩
        have mkb : mk ≠ b := (B8.nw_ne nmk).1
        refine ⟨_, rfl, b, c, rfl, B8.fr X9 not_nil not_nil, fun mi H10 m0 m4 B10 X10 => ?_⟩
        obtain ⟨mj, rfl⟩ := Int.eq_ofNat_of_zero_le m0
        have jl : mj < marksL.length := by show mj < 4; omega
        have hmk10 := X10.lst hmk (not_one mkb)
        refine ⟨_, _, _, _, rfl, rfl, SqL.of hmk10, (show atI (marksL.map V.str) (mj : Int) = some (V.str marksL[mj]) from atI_nat (by rw [List.getElem?_map, List.getElem?_eq_getElem jl]; rfl)), ?_⟩
        refine ⟨_, rfl, _, rfl, _, rfl, b, c, 4, rfl, B10, by decide, by decide +kernel, fun d4 H11 f1 f2 B11 X11 => ?_⟩
        refine ⟨_, _, rfl, rfl, _, rfl, _, rfl, b, c, rfl, B11, fun wt H12 w1 w2 B12 X12 => ?_⟩
        have X712 : Fr [b] H7 H12 := (((X8.trans (X9.mono fun a m => nomatch m)).trans X10).trans X11).trans X12
        refine ⟨by show 4 ≤ sizeLine; decide, fun t nt => ?_⟩
        rw [show (0 : Int) + (i : Int) = (i : Int) by omega]
        obtain ⟨s, hs⟩ : ∃ s : Say, s = ⟨(i : Int), base + d4, marksL[mj], wt⟩ := ⟨_, rfl⟩
        have X13 : Fr [b] H12 (upd H12 t (.tup [.int (i : Int), .int (base + d4), .str marksL[mj], .str wt])) := Fr.new0 nt _
        have ht13 : upd H12 t (.tup [.int (i : Int), .int (base + d4), .str marksL[mj], .str wt]) t = some (.tup s.vs) := by rw [upd_same, hs]; rfl
        have B13 := B12.new nt (.tup [.int (i : Int), .int (base + d4), .str marksL[mj], .str wt])
        generalize upd H12 t (.tup [.int (i : Int), .int (base + d4), .str marksL[mj], .str wt]) = H13 at X13 ht13 B13
        have X713 := X712.trans X13
        have hr13 := hr7.fr X713 (not_one rwb) B7.nt
        obtain ⟨kv, g1, g2⟩ := hr13.put (i : Int) ht13 (by omega)
        obtain ⟨kv0, e0⟩ := hr13.at_
        rw [putA_new lki] at g2
        refine ⟨_, rfl, _, rfl, rw, _, rfl, g1, ?_⟩
        refine ⟨B13.off rwb rwc _, (X7.trans X713).late nrw5 (.dK e0) _, by rw [upd_ne rwpl.symm]; exact X713.lst hp7 (not_one plb), ms ++ [((i : Int), s)], _, _, g2, ?_, by rw [List.length_append]; show ms.length + 1 ≤ _; omega, fun q m => ?_, rfl⟩
        · rw [List.map_append]
          refine List.pairwise_append.mpr ⟨srt, List.pairwise_singleton _ _, fun a ma z mz => ?_⟩
          obtain ⟨q, mq, rfl⟩ := List.mem_map.mp ma
          have mz : z ∈ [(i : Int)] := mz
          rw [List.mem_singleton.mp mz]
          exact (hms q mq).2.2.2
        · rcases List.mem_append.mp m with m | m
          · exact ⟨(hms q m).1, (hms q m).2.1, (hms q m).2.2.1, by have := (hms q m).2.2.2; omega⟩
          · rw [List.mem_singleton.mp m, hs]
            exact ⟨rfl, ⟨by show (0 : Int) ≤ i; omega, by show (i : Int) < ringN n; omega, by show 0 ≤ base + d4; omega, by show base + d4 < 10 ^ 60; omega, List.getElem_mem jl, w1, w2⟩, by show base + d4 ≤ 10 ^ 58; omega, by show (i : Int) < ((i + 1 : Nat) : Int); omega⟩
    · rintro σ H7 ⟨B7, X7, hp7, ms, v7, v8, hr7, srt, lms, hms, rfl⟩
      have lms : ms.length ≤ 256 := by omega
      have X07 := X05.trans X7
      have X27 : Fr [b] H2 H7 := ((X3.trans X4).trans X5).trans X7
      have mtb : mt ∉ [b] := fun z => B2.nt _ z _ hmt
      have hmt7 := X27.tup hmt mtb
      have xb : x ≠ b := fun z => by
        obtain ⟨p, r, h, dx, e⟩ := hx2
        obtain ⟨cells, x', y', z', B'⟩ := B2
        have := B'.hb
        rw [← z, e] at this
        cases this
      have hx7 := hx2.fr X27 (not_one xb)
      intro sd nsd
      have nwsd : Nw H sd := X07.live sd (.of nsd)
      obtain ⟨kvr, ekr, _, _⟩ := hr7.len
      have sdrw : sd ≠ rw := (ne_of_none ekr nsd).symm
      have sdpl : sd ≠ pl := (ne_of_none hp7 nsd).symm
      have X78 : Fr [] H7 (upd H7 sd (.dK [])) := Fr.new0 nsd _
      have hsd8 : upd H7 sd (.dK []) sd = some (.dK []) := upd_same
      generalize upd H7 sd (.dK []) = H8 at X78 hsd8
      have hmt8 := X78.tup hmt7 not_nil
      refine ⟨_, rfl, _, _, _, _, rfl, rfl, SqT.of hmt8, rfl, _, rfl, _, rfl, _, rfl, fun cl ncl => ?_⟩
      have nwcl : Nw H cl := X07.live cl (X78.live cl (.of ncl))
      have clsd : cl ≠ sd := (ne_of_none hsd8 ncl).symm
      have clrw : cl ≠ rw := (ne_of_none (X78.dK ekr not_nil) ncl).symm
      have clpl : cl ≠ pl := (ne_of_none (X78.lst hp7 not_nil) ncl).symm
      have X79 := X78.new ncl (.dK [])
      have hsd9 := upd_new (o := .dK []) ncl hsd8
      have hcl9 : upd H8 cl (.dK []) cl = some (.dK []) := upd_same
      generalize upd H8 cl (.dK []) = H9 at X79 hsd9 hcl9
      refine ⟨hsd9, [(.inr "wait", .int g), (.inr "base", .int base), (.inr "pool", .ref pl), (.inr "rows", .ref rw), (.inr "clocks", .ref cl)], rfl, by show 5 ≤ 15; decide, ?_⟩
      rw [show mergeK [] [((.inr "wait" : Key), V.int g), (.inr "base", .int base), (.inr "pool", .ref pl), (.inr "rows", .ref rw), (.inr "clocks", .ref cl)] = side5 g base pl rw cl by kernel_rfl]
      have X710 : Fr [] H7 (upd H9 sd (.dK (side5 g base pl rw cl))) := X79.late (.of nsd) (.dK hsd9) _
      have hsd10 : upd H9 sd (.dK (side5 g base pl rw cl)) sd = some (.dK (side5 g base pl rw cl)) := upd_same
      have hcl10 : upd H9 sd (.dK (side5 g base pl rw cl)) cl = some (.dK []) := by rw [upd_ne clsd]; exact hcl9
      generalize upd H9 sd (.dK (side5 g base pl rw cl)) = H10 at X710 hsd10 hcl10
      have hmt10 := X710.tup hmt7 not_nil
      have hx10 := hx7.fr X710 not_nil
      have hr10 := hr7.fr0 X710
      have hp10 := X710.lst hp7 not_nil
      -- doubts
      refine ⟨_, rfl, _, _, _, _, rfl, rfl, SqT.of hmt10, rfl, fun o dxo no ndxo dxoo => ?_⟩
      have no' : upd H10 dxo (.own o) o = none := by rw [upd_ne dxoo.symm]; exact no
      have Xo : Fr [] H10 (upd (upd H10 dxo (.own o)) o (.ins CD dxo [])) := ((Fr.refl [] H10).new ndxo _).new no' _
      refine ⟨o, dxo, x, rfl, upd_same, fun D H11 nD Xd ho11 hD11 => ⟨rfl, ?_⟩⟩
      have nwo : Nw H10 o := .of no
      have X11 : Fr [] H10 H11 := Xo.tail Xd fun a m => .inr (by rw [List.mem_singleton.mp m]; exact nwo)
      have nD10 : Nw H10 D := Xo.live D nD
      have hmt11 := X11.tup hmt10 not_nil
      have hr11 := hr10.fr0 X11
      obtain ⟨kvr11, ekr11, _, ekk11⟩ := hr11.len
      -- the book's rows
      refine ⟨_, rfl, _, _, _, _, rfl, rfl, SqT.of hmt11, rfl, _, rfl, rw, kvr11, rfl, .inl ekr11, fun kl nkl => ?_⟩
      have ekl : (kvr11.map fun kv => kV kv.1) = (ms.map Prod.fst).map V.int := by
        have : (kvr11.map (·.1)).map kV = ((ms.map Prod.fst).map Sum.inl).map kV := by rw [ekk11]
        rw [List.map_map, List.map_map] at this
        exact this
      rw [ekl]
      have X12 : Fr [] H11 (upd H11 kl (.lst ((ms.map Prod.fst).map V.int))) := Fr.new0 nkl _
      have hkl12 : upd H11 kl (.lst ((ms.map Prod.fst).map V.int)) kl = some (.lst ((ms.map Prod.fst).map V.int)) := upd_same
      generalize upd H11 kl (.lst ((ms.map Prod.fst).map V.int)) = H12 at X12 hkl12
      refine ⟨kl, _, rfl, SqL.of hkl12, fun ys sl perm srt' nsl => ?_⟩
      have ey : ys = ms.map Prod.fst := srt_perm_eq perm srt' srt
      subst ey
      have X13 := X12.new nsl (.lst ((ms.map Prod.fst).map V.int))
      have hsl13 : upd H12 sl (.lst ((ms.map Prod.fst).map V.int)) sl = some (.lst ((ms.map Prod.fst).map V.int)) := upd_same
      generalize upd H12 sl (.lst ((ms.map Prod.fst).map V.int)) = H13 at X13 hsl13
      have ndm : (ms.map Prod.fst).Nodup := srt.imp fun h => by omega
      refine ⟨sl, rfl, ⟨_, SqL.of hsl13⟩, fun RL nRL => ?_⟩
      refine lc_list (xs := (ms.map Prod.fst).map V.int) (fun j H' => Fr [] H13 H' ∧ ∃ as : List Addr, as.length ≤ j ∧ H' RL = some (.lst (as.map V.ref)) ∧ SaysAt H' as ((ms.take j).map Prod.snd)) ⟨Fr.new0 nRL _, [], Nat.le_refl _, upd_same, .nil⟩ (fun j H' _ pv => SqL.of (pv.1.lst hsl13 not_nil)) (fun j v H14 hv pv => ?_) (fun H14 pv => ?_)
      · obtain ⟨X14, as, las, hRL, pas⟩ := pv
        obtain ⟨k1, ek1, rfl⟩ := map_getE hv
        rw [List.getElem?_map] at ek1
        obtain ⟨q1, eq1, rfl⟩ : ∃ q1, ms[j]? = some q1 ∧ q1.1 = k1 := by
          cases z : ms[j]? with
          | none => rw [z] at ek1; cases ek1
          | some q1 => rw [z] at ek1; exact ⟨q1, rfl, Option.some.inj ek1⟩
        have jl := (List.getElem?_eq_some_iff.mp eq1).1
        have X1114 := X13.trans X14
        obtain ⟨a, ga, ha⟩ := (hr11.fr0 X1114).some_ (lkA_get ndm (List.mem_of_getElem? eq1))
        have ne : ∀ {c : Addr} {us : List V}, H14 c = some (.tup us) → c ≠ RL := fun h z => by rw [z, hRL] at h; cases h
        refine ⟨rfl, _, rfl, _, rfl, rw, _, rfl, ga, _, hRL, by rw [List.length_map]; exact small1000' (by omega), X14.late (.of nRL) (.lst hRL) _, as ++ [a], by rw [List.length_append]; show as.length + 1 ≤ _; omega, by rw [upd_same, List.map_append]; rfl, ?_⟩
        rw [take_snoc eq1, List.map_append]
        refine paired_snoc (paired_imp0 pas fun c s' h => ?_) ?_
        · have h : H14 c = some (.tup s'.vs) := h
          show upd H14 RL _ c = _
          rw [upd_ne (ne h)]
          exact h
        · show upd H14 RL _ a = _
          rw [upd_ne (ne ha)]
          exact ha
      obtain ⟨X14, as, las, hRL, pas⟩ := pv
      rw [List.length_map, List.length_map, List.take_length] at pas
      have X1114 := X13.trans X14
      have X1014 := X11.trans X1114
      have hx14 := hx10.fr X1014 not_nil
      -- book
      intro bk dxb nb ndxb dxbb
      have nb' : upd H14 dxb (.own bk) bk = none := by rw [upd_ne dxbb.symm]; exact nb
      have Xb : Fr [] H14 (upd (upd H14 dxb (.own bk)) bk (.ins CB dxb [])) := ((Fr.refl [] H14).new ndxb _).new nb' _
      refine ⟨bk, dxb, x, RL, n, as, ms.map Prod.snd, rfl, upd_same, hx14.sn.fr Xb not_nil, n8, Xb.lst hRL not_nil, pas.fr0 Xb, fun s m => ?_, by rw [List.length_map]; omega, fun L H15 nL Xbb hb15 hL15 => ⟨rfl, ?_⟩⟩
      · obtain ⟨q, mq, rfl⟩ := List.mem_map.mp m
        exact (hms q mq).2.1
      rw [latL_ids ndm fun q m => ⟨(hms q m).1, (hms q m).2.1.l0⟩] at hL15
      have nwb : Nw H14 bk := .of nb
      have X15 : Fr [] H14 H15 := Xb.tail Xbb fun a m => .inr (by rw [List.mem_singleton.mp m]; exact nwb)
      have nL14 : Nw H14 L := Xb.live L nL
      refine ⟨_, rfl, by show 3 ≤ sizeLine; decide, fun t nt => ?_⟩
      have X16 := X15.new nt (.tup [.ref o, .ref bk, .ref sd])
      have X1516 : Fr [] H15 (upd H15 t (.tup [.ref o, .ref bk, .ref sd])) := Fr.new0 nt _
      have ht16 : upd H15 t (.tup [.ref o, .ref bk, .ref sd]) t = some (.tup [.ref o, .ref bk, .ref sd]) := upd_same
      generalize upd H15 t (.tup [.ref o, .ref bk, .ref sd]) = H16 at X16 X1516 ht16
      have X1016 := X1014.trans X16
      have X1116 := X1114.trans X16
      have X716 := X710.trans X1016
      have X016 : Fr [b] H H16 := X07.trans (X716.mono fun a m => nomatch m)
      have dn : ∀ {a : Addr} {kv : List (Key × V)} {y : Addr}, H10 a = some (.dK kv) → Nw H10 y → y ≠ a := fun h q => (ne_nw h q).symm
      obtain ⟨kvr10, ekr10, _, _⟩ := hr10.len
      have nL10 : Nw H10 L := X1014.live L nL14
      obtain ⟨kvd, ekd⟩ := hD11.at_
      have DL : D ≠ L := ne_nw (X1114.dK ekd not_nil) nL14
      refine k ⟨t, o, D, bk, L, sd, pl, rw, cl, x, n, g, base, pool⟩ ms H16 (fun a m => ?_) (B7.fr X716 not_nil not_nil) X016 { ht := ht16, ho := ho11.fr X1116 not_nil, hb := hb15.fr X1516 not_nil, hx := hx10.fr X1016 not_nil, hD := hD11.fr0 X1116, hL := hL15.fr0 X1516, hs := X1016.dK hsd10 not_nil, hp := X1016.lst hp10 not_nil, hr := hr10.fr0 X1016, hc := TupD.nil (X1016.dK hcl10 not_nil), n1 := n1, n8 := n8, p0 := by show 0 < pool.length; omega, p6 := by show pool.length ≤ 6; omega, pr := hpool, b0 := b0, b1 := b1, ndm := ndm, ok := fun kk s e => ?_, ndc := List.nodup_nil, ck := (fun kk m => nomatch m), dis := ?_ }
      · simp only [Wd.adr, List.mem_cons, List.not_mem_nil, or_false] at m
        have b7 : ∀ {y : Addr}, Nw H7 y → Nw H y := fun q => X07.live _ q
        have b10 : ∀ {y : Addr}, Nw H10 y → Nw H y := fun q => b7 (X710.live _ q)
        rcases m with rfl | rfl | rfl | rfl | rfl | rfl | rfl | rfl | rfl | rfl
        · exact b10 (X1014.live _ (X15.live _ (.of nt)))
        · exact b10 nwo
        · exact b10 nD10
        · exact b10 (X1014.live _ nwb)
        · exact b10 nL10
        · exact nwsd
        · exact nwpl
        · exact nwrw
        · exact nwcl
        · exact nwx
      · have hq := hms _ (lkA_pair e)
        have h2 : s.life ≤ 10 ^ 58 := hq.2.2.1
        exact ⟨hq.1, hq.2.1, by show s.life ≤ 10 ^ 58 + 2 * ((0 : Nat) : Int); omega⟩
      · simp only [List.nodup_cons, List.mem_cons, List.not_mem_nil, or_false, not_or, List.nodup_nil, not_false_eq_true, and_true]
        have Dpl : D ≠ pl := (ne_nw hp10 nD10).symm
        have Lpl : L ≠ pl := (ne_nw hp10 nL10).symm
        exact ⟨⟨DL, dn ekr10 nD10, dn hcl10 nD10, dn hsd10 nD10, Dpl⟩, ⟨dn ekr10 nL10, dn hcl10 nL10, dn hsd10 nL10, Lpl⟩, ⟨clrw.symm, sdrw.symm, rwpl⟩, ⟨clsd, clpl⟩, sdpl⟩
end
end K27

set_option Elab.async false
set_option maxRecDepth 100000
set_option maxHeartbeats 8000000
set_option exponentiation.threshold 4096
set_option linter.unusedVariables false
/-! the next saying, a doubt, a moment -/
namespace K27
open PySem PySem.Spec PyProof.Rows L2 C8 LamX UF
theorem dgetS {H : Hp} {g : Addr} {kv : List (Key × V)} {x : Str} {v : V} (h : H g = some (.dK kv)) (e : valV kv (.inr x) = some v) : DGet H g (.str x) (some v) := by
  have z := DGet.k (k := Sum.inr x) h
  rw [e] at z
  exact z
section
variable {g base : Int} {pl rw cl : Addr}
theorem s5_wait : valV (side5 g base pl rw cl) (.inr "wait") = some (.int g) := by kernel_rfl
theorem s5_base : valV (side5 g base pl rw cl) (.inr "base") = some (.int base) := by kernel_rfl
theorem s5_pool : valV (side5 g base pl rw cl) (.inr "pool") = some (.ref pl) := by kernel_rfl
theorem s5_rows : valV (side5 g base pl rw cl) (.inr "rows") = some (.ref rw) := by kernel_rfl
theorem s5_clocks : valV (side5 g base pl rw cl) (.inr "clocks") = some (.ref cl) := by kernel_rfl
end
theorem mark_idx : ∀ (j : Nat) (h : j < marksL.length), markN marksL[j] = j
  | 0, _ => (show markN "alive" = 0 by decide +kernel)
  | 1, _ => (show markN "suspect" = 1 by decide +kernel)
  | 2, _ => (show markN "dead" = 2 by decide +kernel)
  | 3, _ => (show markN "left" = 3 by decide +kernel)
  | n + 4, h => absurd h (by show ¬ n + 4 < 4; omega)
theorem mark_eq {m : Str} (h : m ∈ marksL) : (marksL.map V.str)[markN m]? = some (V.str m) ∧ ∀ (k : Nat) (z : V), k < markN m → (marksL.map V.str)[k]? = some z → eqV z (.str m) = false := by
  obtain ⟨a, b⟩ := mark_at h
  refine ⟨by rw [List.getElem?_map, a]; rfl, fun k z hk hz => ?_⟩
  obtain ⟨m', e, rfl⟩ := map_get hz
  have := b k hk
  show (m' == m) = false
  rw [e] at this
  cases q : (m' == m) with
  | false => rfl
  | true => exact absurd (by rw [eq_of_beq q]) this
section
variable {CD CB CS : Addr} {H H' : Hp} {W : Wd} {ms ms' : List (Int × Say)} {cs cs' : Clk} {i j : Nat} {b c : Addr}
theorem WAt.off (A : WAt CD CB CS H W ms cs i) {a : Addr} (m : a ∈ W.mut) : W.t ≠ a ∧ W.o ≠ a ∧ W.b ≠ a ∧ W.x ≠ a := by
  have f : ∃ kv, H a = some (.dK kv) := by
    unfold Wd.mut at m
    simp only [List.mem_cons, List.not_mem_nil, or_false] at m
    rcases m with rfl | rfl | rfl | rfl
    · exact A.hD.at_
    · exact A.hL.at_
    · exact A.hr.at_
    · exact A.hc.at_
  obtain ⟨kv, e⟩ := f
  obtain ⟨d1, e1⟩ := A.ho
  obtain ⟨d2, e2⟩ := A.hb
  obtain ⟨p, r, h, dx, e3⟩ := A.hx
  refine ⟨fun z => ?_, fun z => ?_, fun z => ?_, fun z => ?_⟩
  · rw [← z, A.ht] at e; cases e
  · rw [← z, e1] at e; cases e
  · rw [← z, e2] at e; cases e
  · rw [← z, e3] at e; cases e
theorem WAt.ds (A : WAt CD CB CS H W ms cs i) : (W.D ≠ W.L ∧ W.D ≠ W.rw ∧ W.D ≠ W.cl ∧ W.D ≠ W.sd ∧ W.D ≠ W.pl) ∧ (W.L ≠ W.rw ∧ W.L ≠ W.cl ∧ W.L ≠ W.sd ∧ W.L ≠ W.pl) ∧ (W.rw ≠ W.cl ∧ W.rw ≠ W.sd ∧ W.rw ≠ W.pl) ∧ (W.cl ≠ W.sd ∧ W.cl ≠ W.pl) ∧ W.sd ≠ W.pl := by
  have := A.dis
  simp only [List.nodup_cons, List.mem_cons, List.not_mem_nil, or_false, not_or, List.nodup_nil, not_false_eq_true, and_true] at this
  exact this
theorem WAt.setC (A : WAt CD CB CS H W ms cs i) (X : Fr [W.D, W.cl] H H') (hD : TupD vsC H' W.D cs') (hc : TupD vsC H' W.cl cs') (nd : (cs'.map Prod.fst).Nodup) (ck : ∀ k ∈ cs'.map Prod.fst, k ∈ W.pool) : WAt CD CB CS H' W ms cs' i := by
  obtain ⟨o1, o2, o3, o4⟩ := A.off (a := W.D) (by simp [Wd.mut])
  obtain ⟨q1, q2, q3, q4⟩ := A.off (a := W.cl) (by simp [Wd.mut])
  obtain ⟨⟨DL, Dr, Dc, Dsd, Dpl⟩, ⟨Lr, Lc, Ls, Lp⟩, ⟨rc, rs, rp⟩, ⟨cs1, cp⟩, sp⟩ := A.ds
  have nt : ∀ a ∈ [W.D, W.cl], ∀ vs, H a ≠ some (.tup vs) := fun a m => A.nt a (by simp only [List.mem_cons, List.not_mem_nil, or_false] at m; rcases m with rfl | rfl <;> simp [Wd.mut])
  exact { A with ht := X.tup A.ht (not_two o1 q1), ho := A.ho.fr X (not_two o2 q2), hb := A.hb.fr X (not_two o3 q3), hx := A.hx.fr X (not_two o4 q4), hD := hD, hL := A.hL.fr X (not_two DL.symm Lc) nt, hs := X.dK A.hs (not_two Dsd.symm cs1.symm), hp := X.lst A.hp (not_two Dpl.symm cp.symm), hr := A.hr.fr X (not_two Dr.symm rc) nt, hc := hc, ndc := nd, ck := ck }
theorem WAt.setM (A : WAt CD CB CS H W ms cs i) (X : Fr [W.L, W.rw] H H') (hL : TupD Say.vs H' W.L ms') (hr : TupD Say.vs H' W.rw ms') (nd : (ms'.map Prod.fst).Nodup) (ok : ∀ k s, lkA ms' k = some s → s.seat = k ∧ s.Ok (ringN W.n) ∧ s.life ≤ 10 ^ 58 + 2 * (j : Int)) : WAt CD CB CS H' W ms' cs j := by
  obtain ⟨o1, o2, o3, o4⟩ := A.off (a := W.L) (by simp [Wd.mut])
  obtain ⟨q1, q2, q3, q4⟩ := A.off (a := W.rw) (by simp [Wd.mut])
  obtain ⟨⟨DL, Dr, Dc, Dsd, Dpl⟩, ⟨Lr, Lc, Ls, Lp⟩, ⟨rc, rs, rp⟩, ⟨cs1, cp⟩, sp⟩ := A.ds
  have nt : ∀ a ∈ [W.L, W.rw], ∀ vs, H a ≠ some (.tup vs) := fun a m => A.nt a (by simp only [List.mem_cons, List.not_mem_nil, or_false] at m; rcases m with rfl | rfl <;> simp [Wd.mut])
  exact { ht := X.tup A.ht (not_two o1 q1), ho := A.ho.fr X (not_two o2 q2), hb := A.hb.fr X (not_two o3 q3), hx := A.hx.fr X (not_two o4 q4), hD := A.hD.fr X (not_two DL Dr) nt, hL := hL, hs := X.dK A.hs (not_two Ls.symm rs.symm), hp := X.lst A.hp (not_two Lp.symm rp.symm), hr := hr, hc := A.hc.fr X (not_two Lc.symm rc.symm) nt, n1 := A.n1, n8 := A.n8, p0 := A.p0, p6 := A.p6, pr := A.pr, b0 := A.b0, b1 := A.b1, ndm := nd, ok := ok, ndc := A.ndc, ck := A.ck, dis := A.dis }
theorem WAt.box (A : WAt CD CB CS H W ms cs i) (B : Box H b c) (off : ∀ a ∈ W.adr, a ≠ b) (X : Fr [b] H H') : WAt CD CB CS H' W ms cs i := A.fr X (fun a m => not_one (off a m)) B.nt
end
/-- the box stands apart from a world -/
def Apart (W : Wd) (b c : Addr) : Prop := (∀ a ∈ W.adr, a ≠ b) ∧ ∀ a ∈ W.adr, a ≠ c
def spNext (CD CB CS : Addr) : Sp := fun vs H Q _ => ∃ (b c : Addr) (W : Wd) (ms : List (Int × Say)) (cs : Clk) (i : Nat) (s : Int), vs = [.ref b, .ref W.sd, .int s] ∧ Box H b c ∧ Apart W b c ∧ WAt CD CB CS H W ms cs i ∧ i ≤ 1000 ∧ 0 ≤ s ∧ s < ringN W.n ∧
  ∀ (a : Addr) (s' : Say) (H' : Hp), Box H' b c → Fr [b] H H' → SayAt H' a s' → s'.seat = s → s'.Ok (ringN W.n) → s'.life ≤ 10 ^ 58 + 2 * ((i + 1 : Nat) : Int) → rankO (lkA ms s) < rankI s' → Q (.ref a) H'
def spDlife (CD CB CS : Addr) : Sp := fun vs H Q _ => ∃ (b c : Addr) (W : Wd) (ms : List (Int × Say)) (cs : Clk) (i : Nat) (s : Int), vs = [.ref b, .ref W.sd, .int s] ∧ Box H b c ∧ Apart W b c ∧ WAt CD CB CS H W ms cs i ∧ ∀ (l : Int) (H' : Hp), Box H' b c → Fr [b] H H' → Q (.int l) H'
def spLDoubt (CD CB CS : Addr) : Sp := fun vs H Q _ => ∃ (b c : Addr) (W : Wd) (ms : List (Int × Say)) (cs : Clk) (i : Nat) (s now : Int), vs = [.ref b, .ref W.o, .ref W.sd, .int s, .int now] ∧ Box H b c ∧ Apart W b c ∧ WAt CD CB CS H W ms cs i ∧ s ∈ W.pool ∧
  ∀ (cs' : Clk) (H' : Hp), Box H' b c → Fr (b :: W.mut) H H' → WAt CD CB CS H' W ms cs' i → Q (.bl true) H'
def spMoment (CD CB CS : Addr) : Sp := fun vs H Q _ => ∃ (b c : Addr) (W : Wd) (ms : List (Int × Say)) (cs : Clk) (i : Nat) (now : Int), vs = [.ref b, .ref W.sd, .int now] ∧ Box H b c ∧ Apart W b c ∧ WAt CD CB CS H W ms cs i ∧ ∀ (z : Int) (H' : Hp), Box H' b c → Fr [b] H H' → Q (.int z) H'
section
variable {P : Program} {w : World} {K : PySem.W.Frag} {mg : Str → Option Value} {base : Heap} {CS CD CB : Addr}
theorem c_law_next_saying (T : Bl mg) (c_law_draw : Cal P w K mg base 1 "_law_draw" spDraw []) (c_law_marks : Cal P w K mg base 1 "_law_marks" spMarks []) (c_law_mark : Cal P w K mg base 2 "_law_mark" spMark []) (c_law_worth : Cal P w K mg base 2 "_law_worth" spWorth []) (d : D0 K mg "_law_next_saying" s_law_next_saying ["box", "side", "spot"]) : Cal P w K mg base 3 "_law_next_saying" (spNext CD CB CS) [] := by
  refine cal d sc_law_next_saying (fun vs H Q E h => ?_) (fun cdv A outer f s0 H vs Q E hr h => ?_)
  · obtain ⟨b, c, W, ms, cs, i, s, rfl, _⟩ := h
    rfl
  · obtain ⟨b, c, W, ms, cs, i, s, rfl, B, ap, A, i1, s0, s1, k⟩ := h
    refine ⟨_, (pss_cons (ps_set (i := 3) sc_law_next_saying.nd rfl (Or.inl rfl) (pe_dget (u1 hr) (pv 1) pe_str (fun _ _ => rfl)))
      (pss_cons (ps_set (i := 4) sc_law_next_saying.nd rfl (Or.inl rfl) (pe_c c_law_mark hr (by decide) rfl (pa_cons (pv 0) pa_nil)))
      (pss_cons (ps_set (i := 5) sc_law_next_saying.nd rfl (Or.inl rfl) (pe_cmpR op_eq (pe_c c_law_draw hr (by decide) rfl (pa_cons (pv 0) (pa_cons pe_int pa_nil))) pe_int (nomark _)))
      (pss_cons (ps_if (pt_cmp (pc_dnotin (u1 hr) (pv 2) (pv 3))) (pss_one (ps_ret (pe_tup (pa_cons (pv 2) (pa_cons (pe_op op_add (pe_dget (u1 hr) (pv 1) pe_str (fun _ _ => rfl)) (pe_c c_law_draw hr (by decide) rfl (pa_cons (pv 0) (pa_cons pe_int pa_nil)))) (pa_cons (pe_ix ix_list (pe_c0 c_law_marks hr (by decide) rfl) (pv 4) (fun _ _ => rfl)) (pa_cons (pe_c c_law_worth hr (by decide) rfl (pa_cons (pv 0) pa_nil)) pa_nil))))))) pss_nil)
      (pss_cons (ps_set (i := 6) sc_law_next_saying.nd rfl (Or.inl rfl) (pe_dget (u1 hr) (pv 3) (pv 2) (fun _ _ => rfl)))
      (pss_cons (ps_if (PW.pt (pw_and (pt_val (pv 5)) (pw_and1 (pt_cmpR op_gt (pv 4) (pe_bm PySem.F.plainAttrs_list PySem.F.slot_list_index PySem.F.type_list_index mt_index (pe_c0 c_law_marks hr (by decide) rfl) (pa_cons (pe_ix ix_tup (pv 6) pe_int (fun _ _ => rfl)) pa_nil)) (nomark _))))) (pss_one (ps_ret (pe_tup (pa_cons (pv 2) (pa_cons (pe_ix ix_tup (pv 6) pe_int (fun _ _ => rfl)) (pa_cons (pe_ix ix_list (pe_c0 c_law_marks hr (by decide) rfl) (pv 4) (fun _ _ => rfl)) (pa_cons (pe_ix ix_tup (pv 6) pe_int (fun _ _ => rfl)) pa_nil))))))) pss_nil)
      (pss_one (ps_ret (pe_tup (pa_cons (pv 2) (pa_cons (pe_op op_add (pe_op op_add (pe_ix ix_tup (pv 6) pe_int (fun _ _ => rfl)) pe_int) (pe_c c_law_draw hr (by decide) rfl (pa_cons (pv 0) (pa_cons pe_int pa_nil)))) (pa_cons (pe_ix ix_list (pe_c0 c_law_marks hr (by decide) rfl) (pv 4) (fun _ _ => rfl)) (pa_cons (pe_c c_law_worth hr (by decide) rfl (pa_cons (pv 0) pa_nil)) pa_nil))))))))))))), ?_⟩
    refine ⟨_, rfl, _, _, rfl, dgetS A.hs s5_rows, ?_⟩
    refine ⟨_, rfl, b, c, rfl, B, fun mi H1 m0 m4 B1 X1 => ?_⟩
    obtain ⟨mj, rfl⟩ := Int.eq_ofNat_of_zero_le m0
    have jl : mj < marksL.length := by show mj < 4; omega
    have A1 := A.box B ap.1 X1
    refine ⟨_, rfl, b, c, 2, rfl, B1, by decide, by decide +kernel, fun d2 H2 a3 a4 B2 X2 => ⟨rfl, ?_⟩⟩
    have A2 := A1.box B1 ap.1 X2
    have X02 := X1.trans X2
    obtain ⟨same, hsame⟩ : ∃ same : Bool, same = decide (V.int d2 = V.int 0) := ⟨_, rfl⟩
    rw [← hsame]
    have bas0 := A.b0
    have bas1 := A.b1
    -- a tuple of a new worth
    have fin : ∀ (life : Int), 0 ≤ life → life ≤ 10 ^ 58 + 2 * ((i + 1 : Nat) : Int) → (∀ wt : Str, rankO (lkA ms s) < rankI ⟨s, life, marksL[mj], wt⟩) → ∀ (H3 : Hp), Fr [b] H H3 → ∀ (wt : Str), wt.length ≤ 12 → Plain wt → Box H3 b c → ∀ t, H3 t = none → Q (.ref t) (upd H3 t (.tup [.int s, .int life, .str marksL[mj], .str wt])) := fun life l0 l1 lr H3 X3 wt w1 w2 B3 t nt =>
      k t ⟨s, life, marksL[mj], wt⟩ _ (B3.new nt _) (X3.new nt _) upd_same rfl ⟨s0, s1, l0, by show life < 10 ^ 60; omega, List.getElem_mem jl, w1, w2⟩ l1 (lr wt)
    have mx : ∀ {H3 : Hp} {mk : Addr}, H3 mk = some (.lst (marksL.map V.str)) → SqL K H3 mk (marksL.map V.str) ∧ atI (marksL.map V.str) (mj : Int) = some (V.str marksL[mj]) := fun {H3 mk} h => ⟨SqL.of h, atI_nat (by rw [List.getElem?_map, List.getElem?_eq_getElem jl]; rfl)⟩
    cases q : lkA ms s with
    | none =>
      rw [q] at fin
      refine ⟨_, rfl, _, rfl, W.rw, none, rfl, A2.hr.none_ q, _, rfl, iteT ?_⟩
      refine ⟨_, rfl, _, rfl, _, _, rfl, dgetS A2.hs s5_base, _, rfl, b, c, 4, rfl, B2, by decide, by decide +kernel, fun d3 H3 c1 c2 B3 X3 => ⟨_, _, rfl, rfl, ?_⟩⟩
      refine ⟨rfl, fun mk H4 nmk X4 hmk => ?_⟩
      obtain ⟨z1, z2⟩ := mx hmk
      refine ⟨_, rfl, _, _, _, _, rfl, rfl, z1, z2, _, rfl, b, c, rfl, B3.fr X4 not_nil not_nil, fun wt H5 w1 w2 B5 X5 => ⟨by show 4 ≤ sizeLine; decide, fun t nt => ?_⟩⟩
      refine fin (W.base + d3) (by omega) (by omega) (fun wt => ?_) H5 ((X02.trans X3).trans ((X4.mono fun a m => nomatch m).trans X5)) wt w1 w2 B5 t nt
      show 0 < rankI _
      unfold rankI
      show 0 < 4 * (W.base + d3) + _ + 1
      omega
    | some s2 =>
      rw [q] at fin
      obtain ⟨a, ga, ha⟩ := A2.hr.some_ q
      obtain ⟨e1, o2, l2⟩ := A.ok s s2 q
      have l20 := o2.l0
      refine ⟨_, rfl, _, rfl, W.rw, _, rfl, ga, _, rfl, iteF ?_⟩
      refine ⟨_, rfl, _, rfl, W.rw, _, rfl, ga, ?_⟩
      -- the last way
      have later : ∀ (H3 : Hp), Fr [] H2 H3 → ∀ (R : V → Hp → Prop), True := fun _ _ _ => trivial
      have rk2 := mark_lt o2.m
      have rkj := mark_idx mj jl
      have higher : ∀ d4 : Int, 0 ≤ d4 → ∀ wt : Str, rankO (some s2) < rankI ⟨s, s2.life + 1 + d4, marksL[mj], wt⟩ := fun d4 d0 wt => by
        show rankI s2 < rankI _
        unfold rankI
        show _ < 4 * (s2.life + 1 + d4) + (markN marksL[mj] : Int) + 1
        rw [rkj]
        omega
      cases same with
      | false =>
        refine ⟨_, rfl, _, rfl, iteF (iteF ?_)⟩
        refine ⟨_, rfl, _, rfl, _, _, _, _, rfl, rfl, SqT.of ha, rfl, _, _, rfl, rfl, _, rfl, b, c, 2, rfl, B2, by decide, by decide +kernel, fun d4 H3 c1 c2 B3 X3 => ⟨_, _, rfl, rfl, ?_⟩⟩
        refine ⟨rfl, fun mk H4 nmk X4 hmk => ?_⟩
        obtain ⟨z1, z2⟩ := mx hmk
        refine ⟨_, rfl, _, _, _, _, rfl, rfl, z1, z2, _, rfl, b, c, rfl, B3.fr X4 not_nil not_nil, fun wt H5 w1 w2 B5 X5 => ⟨by show 4 ≤ sizeLine; decide, fun t nt => ?_⟩⟩
        exact fin (s2.life + 1 + d4) (by omega) (by omega) (higher d4 c1) H5 ((X02.trans X3).trans ((X4.mono fun a m => nomatch m).trans X5)) wt w1 w2 B5 t nt
      | true =>
        refine ⟨_, rfl, _, rfl, iteT ⟨_, rfl, rfl, fun mk0 H3 nmk0 X3 hmk0 => ?_⟩⟩
        have ha3 := X3.tup ha not_nil
        obtain ⟨y1, y2⟩ := mark_eq o2.m
        refine ⟨.inl ⟨rfl, _, SqL.of hmk0⟩, _, rfl, _, _, _, _, rfl, rfl, SqT.of ha3, rfl, mk0, marksL.map V.str, .str s2.mark, markN s2.mark, .str s2.mark, rfl, rfl, SqL.of hmk0, rfl, rfl, y1, by simp [eqV], y2, ?_⟩
        refine ⟨_, _, rfl, rfl, _, rfl, ite2 (fun hc => ?_) (fun hc => ?_)⟩
        · have hc : (mj : Int) > (markN s2.mark : Int) := of_decide_eq_true hc
          refine ⟨_, rfl, _, rfl, _, _, _, _, rfl, rfl, SqT.of ha3, rfl, ?_⟩
          refine ⟨rfl, fun mk H4 nmk X4 hmk => ?_⟩
          obtain ⟨z1, z2⟩ := mx hmk
          have ha4 := X4.tup ha3 not_nil
          refine ⟨_, rfl, _, _, _, _, rfl, rfl, z1, z2, _, rfl, _, _, _, _, rfl, rfl, SqT.of ha4, rfl, by show 4 ≤ sizeLine; decide, fun t nt => ?_⟩
          have X34 := X3.trans X4
          exact k t ⟨s, s2.life, marksL[mj], s2.worth⟩ _ ((B2.fr X34 not_nil not_nil).new nt _) ((X02.trans (X34.mono fun a m => nomatch m)).new nt _) upd_same rfl ⟨s0, s1, o2.l0, o2.l1, List.getElem_mem jl, o2.w, o2.p⟩ (by show s2.life ≤ _; omega) (by rw [q]; show rankI s2 < rankI _; unfold rankI; show _ < 4 * s2.life + (markN marksL[mj] : Int) + 1; rw [rkj]; omega)
        · refine ⟨_, rfl, _, rfl, _, _, _, _, rfl, rfl, SqT.of ha3, rfl, _, _, rfl, rfl, _, rfl, b, c, 2, rfl, B2.fr X3 not_nil not_nil, by decide, by decide +kernel, fun d4 H4 c1 c2 B4 X4 => ⟨_, _, rfl, rfl, ?_⟩⟩
          refine ⟨rfl, fun mk H5 nmk X5 hmk => ?_⟩
          obtain ⟨z1, z2⟩ := mx hmk
          refine ⟨_, rfl, _, _, _, _, rfl, rfl, z1, z2, _, rfl, b, c, rfl, B4.fr X5 not_nil not_nil, fun wt H6 w1 w2 B6 X6 => ⟨by show 4 ≤ sizeLine; decide, fun t nt => ?_⟩⟩
          exact fin (s2.life + 1 + d4) (by omega) (by omega) (higher d4 c1) H6 ((X02.trans ((X3.mono fun a m => nomatch m).trans X4)).trans ((X5.mono fun a m => nomatch m).trans X6)) wt w1 w2 B6 t nt
theorem c_law_doubted_life (T : Bl mg) (c_law_draw : Cal P w K mg base 1 "_law_draw" spDraw []) (d : D0 K mg "_law_doubted_life" s_law_doubted_life ["box", "side", "spot"]) : Cal P w K mg base 2 "_law_doubted_life" (spDlife CD CB CS) [] := by
  refine cal d sc_law_doubted_life (fun vs H Q E h => ?_) (fun cdv A outer f s0 H vs Q E hr h => ?_)
  · obtain ⟨b, c, W, ms, cs, i, s, rfl, _⟩ := h
    rfl
  · obtain ⟨b, c, W, ms, cs, i, s, rfl, B, ap, A, k⟩ := h
    refine ⟨_, (pss_cons (ps_set (i := 3) sc_law_doubted_life.nd rfl (Or.inl rfl) (pe_c c_law_draw hr (by decide) rfl (pa_cons (pv 0) (pa_cons pe_int pa_nil))))
      (pss_cons (ps_set (i := 4) sc_law_doubted_life.nd rfl (Or.inl rfl) (pe_dget (u1 hr) (pv 1) pe_str (fun _ _ => rfl)))
      (pss_cons (ps_if (PW.pt (pw_or (pt_cmpR op_eq (pv 3) pe_int (nomark _)) (pw_or1 (pt_cmp (pc_dnotin (u1 hr) (pv 2) (pv 4)))))) (pss_one (ps_ret (pe_op op_add (pe_dget (u1 hr) (pv 1) pe_str (fun _ _ => rfl)) (pe_c c_law_draw hr (by decide) rfl (pa_cons (pv 0) (pa_cons pe_int pa_nil)))))) pss_nil)
      (pss_cons (ps_if (pt_cmpR op_eq (pv 3) pe_int (nomark _)) (pss_one (ps_ret (pe_op op_add (pe_ix ix_tup (pe_dget (u1 hr) (pv 4) (pv 2) (fun _ _ => rfl)) pe_int (fun _ _ => rfl)) pe_int))) pss_nil)
      (pss_cons (ps_if (pt_cmpR op_eq (pv 3) pe_int (nomark _)) (pss_one (ps_ret (pe_callB (call_max2 rfl) (by rfl) T.max (by decide +kernel) (pa_cons pe_int (pa_cons (pe_op op_sub (pe_ix ix_tup (pe_dget (u1 hr) (pv 4) (pv 2) (fun _ _ => rfl)) pe_int (fun _ _ => rfl)) pe_int) pa_nil))))) pss_nil)
      (pss_one (ps_ret (pe_ix ix_tup (pe_dget (u1 hr) (pv 4) (pv 2) (fun _ _ => rfl)) pe_int (fun _ _ => rfl))))))))), ?_⟩
    refine ⟨_, rfl, b, c, 8, rfl, B, by decide, by decide +kernel, fun d1 H1 a1 a2 B1 X1 => ?_⟩
    have A1 := A.box B ap.1 X1
    refine ⟨_, rfl, _, _, rfl, dgetS A1.hs s5_rows, ?_⟩
    have base_ : ∀ {R : Prop}, (∀ (d : Int) (H2 : Hp), 0 ≤ d → d < 4 → Box H2 b c → Fr [b] H1 H2 → R) → (∀ (d : Int) (H2 : Hp), 0 ≤ d → d < 4 → Box H2 b c → Fr [b] H1 H2 → R) := fun h => h
    cases q : lkA ms s with
    | none =>
      refine ⟨_, rfl, rfl, _, rfl, ite2 (fun _ => iteT ?_) (fun _ => ⟨_, rfl, _, rfl, W.rw, none, rfl, A1.hr.none_ q, _, rfl, iteT ?_⟩)⟩
      all_goals exact ⟨_, rfl, _, _, rfl, dgetS A1.hs s5_base, _, rfl, b, c, 4, rfl, B1, by decide, by decide +kernel, fun d3 H3 c1 c2 B3 X3 => ⟨_, _, rfl, rfl, k _ H3 B3 (X1.trans X3)⟩⟩
    | some s2 =>
      obtain ⟨a, ga, ha⟩ := A1.hr.some_ q
      refine ⟨_, rfl, rfl, _, rfl, ite2 (fun _ => iteT ?_) (fun _ => ⟨_, rfl, _, rfl, W.rw, _, rfl, ga, _, rfl, iteF ?_⟩)⟩
      · exact ⟨_, rfl, _, _, rfl, dgetS A1.hs s5_base, _, rfl, b, c, 4, rfl, B1, by decide, by decide +kernel, fun d3 H3 c1 c2 B3 X3 => ⟨_, _, rfl, rfl, k _ H3 B3 (X1.trans X3)⟩⟩
      · refine ⟨_, rfl, rfl, _, rfl, ite2 (fun _ => ?_) (fun _ => ?_)⟩
        · exact ⟨_, rfl, _, rfl, W.rw, _, rfl, ga, _, _, _, _, rfl, rfl, SqT.of ha, rfl, _, _, rfl, rfl, k _ H1 B1 X1⟩
        · refine ⟨_, rfl, rfl, _, rfl, ite2 (fun _ => ?_) (fun _ => ?_)⟩
          · exact ⟨_, rfl, _, rfl, W.rw, _, rfl, ga, _, _, _, _, rfl, rfl, SqT.of ha, rfl, _, _, rfl, rfl, _, _, rfl, k _ H1 B1 X1⟩
          · exact ⟨_, rfl, _, rfl, W.rw, _, rfl, ga, _, _, _, _, rfl, rfl, SqT.of ha, rfl, k _ H1 B1 X1⟩
theorem dbt_nd {cs : Clk} {s l now : Int} (nd : (cs.map Prod.fst).Nodup) : ((dbtF cs s l now).map Prod.fst).Nodup := by
  unfold dbtF
  split
  · exact nd
  · exact nd_putA nd
theorem dbt_ck {cs : Clk} {s l now : Int} {pool : List Int} (sm : s ∈ pool) (h : ∀ k ∈ cs.map Prod.fst, k ∈ pool) : ∀ k ∈ (dbtF cs s l now).map Prod.fst, k ∈ pool := fun k m => by
  unfold dbtF at m
  split at m
  · exact h k m
  · obtain ⟨q, mq, rfl⟩ := List.mem_map.mp m
    rcases putA_in mq with e | e
    · rw [e]; exact sm
    · exact h _ (List.mem_map.mpr ⟨q, e, rfl⟩)
theorem c_law_doubt (T : Bl mg) (c_law_doubted_life : Cal P w K mg base 2 "_law_doubted_life" (spDlife CD CB CS) []) (m_doubt : Met P w K mg base 1 CD "doubt" (spDoubt CD) []) (d : D0 K mg "_law_doubt" s_law_doubt ["box", "doubts", "side", "spot", "now"]) : Cal P w K mg base 3 "_law_doubt" (spLDoubt CD CB CS) [] := by
  refine cal d sc_law_doubt (fun vs H Q E h => ?_) (fun cdv A outer f s0 H vs Q E hr h => ?_)
  · obtain ⟨b, c, W, ms, cs, i, s, now, rfl, _⟩ := h
    rfl
  · obtain ⟨b, c, W, ms, cs, i, s, now, rfl, B, ap, A, sm, k⟩ := h
    refine ⟨_, (pss_cons (ps_set (i := 5) sc_law_doubt.nd rfl (Or.inl rfl) (pe_c c_law_doubted_life hr (by decide) rfl (pa_cons (pv 0) (pa_cons (pv 2) (pa_cons (pv 3) pa_nil)))))
      (pss_cons (ps_set (i := 6) sc_law_doubt.nd rfl (Or.inl rfl) (pe_dget (u1 hr) (pv 2) pe_str (fun _ _ => rfl)))
      (pss_cut (ps_if (PW.pt (pw_or (pt_cmp (pc_dnotin (u1 hr) (pv 3) (pv 6))) (pw_or1 (pt_cmpR op_ne (pe_ix ix_tup (pe_dget (u1 hr) (pv 6) (pv 3) (fun _ _ => rfl)) pe_int (fun _ _ => rfl)) (pv 5) (nomark _))))) (pss_one (ps_asg (pe_tup (pa_cons (pv 5) (pa_cons (pv 4) pa_nil))) (pg_sub (pv 6) (pv 3) (set_dict (u1 hr))))) pss_nil)
      (pss_one (ps_ret (pe_cmp (pc_isN (pe_mt m_doubt hr (by decide) (pv 1) (pa_cons (pv 3) (pa_cons (pv 5) (pa_cons (pv 4) pa_nil))))))))))), ?_⟩
    refine ⟨_, rfl, _, rfl, _, rfl, b, c, W, ms, cs, i, s, rfl, B, ap, A, fun l H1 B1 X1 => ?_⟩
    have A1 := A.box B ap.1 X1
    have lc := A.lc
    refine ⟨_, rfl, _, _, rfl, dgetS A1.hs s5_clocks, ?_⟩
    refine ⟨fun σ H' => Fr [W.cl] H1 H' ∧ TupD vsC H' W.cl (dbtF cs s l now) ∧ σ = [some (.ref b), some (.ref W.o), some (.ref W.sd), some (.int s), some (.int now), some (.int l), some (.ref W.cl)], ?_, ?_⟩
    · have put : (lkA cs s).map Prod.fst ≠ some l → ∀ t, H1 t = none → ∃ kv, DPut (upd H1 t (.tup [.int l, .int now])) W.cl (.int s) (.ref t) (upd (upd H1 t (.tup [.int l, .int now])) W.cl (.dK kv)) ∧ Fr [W.cl] H1 (upd (upd H1 t (.tup [.int l, .int now])) W.cl (.dK kv)) ∧ TupD vsC (upd (upd H1 t (.tup [.int l, .int now])) W.cl (.dK kv)) W.cl (dbtF cs s l now) := fun ne t nt => by
        have X2 : Fr [W.cl] H1 (upd H1 t (.tup [.int l, .int now])) := Fr.new0 nt _
        have hc2 := A1.hc.fr0 (Fr.new0 (ds := []) nt (.tup [.int l, .int now]))
        have ht : upd H1 t (.tup [.int l, .int now]) t = some (.tup (vsC (l, now))) := upd_same
        obtain ⟨kv, g1, g2⟩ := hc2.put s ht (by omega)
        obtain ⟨kv0, e0⟩ := hc2.at_
        refine ⟨kv, g1, X2.upd (.head _) (.dK e0) _, ?_⟩
        unfold dbtF
        rw [if_neg ne]
        exact g2
      cases q : lkA cs s with
      | none =>
        refine ⟨_, rfl, _, rfl, W.cl, none, rfl, A1.hc.none_ q, _, rfl, iteT (iteT ?_)⟩
        refine ⟨_, rfl, _, rfl, by show 2 ≤ sizeLine; decide, fun t nt => ?_⟩
        obtain ⟨kv, g1, g2, g3⟩ := put (by rw [q]; exact fun z => nomatch z) t nt
        exact ⟨_, rfl, _, rfl, W.cl, _, rfl, g1, g2, g3, rfl⟩
      | some cc =>
        obtain ⟨a, g, ha⟩ := A1.hc.some_ q
        refine ⟨_, rfl, _, rfl, W.cl, _, rfl, g, _, rfl, iteF ?_⟩
        refine ⟨_, rfl, _, rfl, W.cl, _, rfl, g, _, _, _, _, rfl, rfl, SqT.of ha, rfl, _, rfl, rfl, _, rfl, ?_⟩
        by_cases e : cc.1 = l
        · rw [show (!decide (V.int cc.1 = V.int l)) = false by rw [decI e]; rfl]
          refine iteF ⟨.refl _ _, ?_, rfl⟩
          unfold dbtF
          rw [q, if_pos (by show some cc.1 = some l; rw [e])]
          exact A1.hc
        · rw [show (!decide (V.int cc.1 = V.int l)) = true by rw [decIn e]; rfl]
          refine iteT ?_
          refine ⟨_, rfl, _, rfl, by show 2 ≤ sizeLine; decide, fun t nt => ?_⟩
          obtain ⟨kv, g1, g2, g3⟩ := put (by rw [q]; exact fun z => e (by injection z)) t nt
          exact ⟨_, rfl, _, rfl, W.cl, _, rfl, g1, g2, g3, rfl⟩
    · rintro σ H2 ⟨X2, hc2, rfl⟩
      obtain ⟨⟨DL, Dr, Dc, Dsd, Dpl⟩, _⟩ := A.ds
      have ntc : ∀ a ∈ [W.cl], ∀ vs, H1 a ≠ some (.tup vs) := fun a m => A1.nt a (by rw [List.mem_singleton.mp m]; simp [Wd.mut])
      obtain ⟨o1, o2, o3, o4⟩ := A1.off (a := W.cl) (by simp [Wd.mut])
      have hD2 := A1.hD.fr X2 (not_one Dc) ntc
      obtain ⟨dx, ho2⟩ := A1.ho.fr X2 (not_one o2)
      refine ⟨_, rfl, W.o, dx, _, rfl, ho2, fd_m.2.1, _, rfl, _, rfl, _, rfl, W.o, W.x, W.D, cs, s, l, now, rfl, ⟨dx, ho2⟩, hD2, by omega, fun H3 X3 hD3 => ?_⟩
      have X13 : Fr [W.D, W.cl] H1 H3 := (X2.mono fun a m => .tail _ m).trans (X3.mono fun a m => by rw [List.mem_singleton.mp m]; exact .head _)
      have ntD : ∀ a ∈ [W.D], ∀ vs, H2 a ≠ some (.tup vs) := fun a m vs z => by
        obtain ⟨kv, e⟩ := hD2.at_
        rw [List.mem_singleton.mp m, e] at z
        cases z
      have A3 := A1.setC X13 hD3 (hc2.fr X3 (not_one Dc.symm) ntD) (dbt_nd A.ndc) (dbt_ck sm A.ck)
      have clb : W.cl ≠ b ∧ W.cl ≠ c := ⟨ap.1 _ (by simp [Wd.adr]), ap.2 _ (by simp [Wd.adr])⟩
      have Db : W.D ≠ b ∧ W.D ≠ c := ⟨ap.1 _ (by simp [Wd.adr]), ap.2 _ (by simp [Wd.adr])⟩
      show Q (.bl (decide (V.non = V.non))) H3
      rw [show decide (V.non = V.non) = true from decide_eq_true rfl]
      refine k _ H3 (B1.fr X13 (not_two Db.1.symm clb.1.symm) (not_two Db.2.symm clb.2.symm)) ((X1.mono fun a m => by rw [List.mem_singleton.mp m]; exact .head _).trans (X13.mono fun a m => ?_)) A3
      simp only [List.mem_cons, List.not_mem_nil, or_false] at m
      rcases m with rfl | rfl <;> simp [Wd.mut]
theorem c_law_moment (T : Bl mg) (c_law_draw : Cal P w K mg base 1 "_law_draw" spDraw []) (d : D0 K mg "_law_moment" s_law_moment ["box", "side", "now"]) : Cal P w K mg base 2 "_law_moment" (spMoment CD CB CS) [] := by
  refine cal d sc_law_moment (fun vs H Q E h => ?_) (fun cdv A outer f s0 H vs Q E hr h => ?_)
  · obtain ⟨b, c, W, ms, cs, i, now, rfl, _⟩ := h
    rfl
  · obtain ⟨b, c, W, ms, cs, i, now, rfl, B, ap, A, k⟩ := h
    refine ⟨_, (pss_cons (ps_set (i := 3) sc_law_moment.nd rfl (Or.inl rfl) (pe_dget (u1 hr) (pv 1) pe_str (fun _ _ => rfl)))
      (pss_cons (ps_set (i := 4) sc_law_moment.nd rfl (Or.inl rfl) (pe_c c_law_draw hr (by decide) rfl (pa_cons (pv 0) (pa_cons pe_int pa_nil))))
      (pss_cons (ps_if (PW.pt (pw_or (pt_cmpR op_eq (pv 4) pe_int (nomark _)) (pw_or1 (pt_cmpR op_eq (pe_callB call_lenD (by rfl) T.len (by decide +kernel) (pa_cons (pv 3) pa_nil)) pe_int (nomark _))))) (pss_one (ps_ret (pv 2))) pss_nil)
      (pss_cons (ps_set (i := 5) sc_law_moment.nd rfl (Or.inl rfl) (pe_callB cr_sortedI (by rfl) T.sorted (by decide +kernel) (pa_cons (pe_callTy (call_listD rfl) (by rfl) T.list (by decide +kernel) (pa_cons (pv 3) pa_nil)) pa_nil)))
      (pss_cons (ps_set (i := 6) sc_law_moment.nd rfl (Or.inl rfl) (pe_ix ix_list (pv 5) (pe_c c_law_draw hr (by decide) rfl (pa_cons (pv 0) (pa_cons (pe_callB call_len_seq (by rfl) T.len (by decide +kernel) (pa_cons (pv 5) pa_nil)) pa_nil))) (fun _ _ => rfl)))
      (pss_one (ps_ret (pe_op op_sub (pe_op op_add (pe_op op_add (pe_ix ix_tup (pe_dget (u1 hr) (pv 3) (pv 6) (fun _ _ => rfl)) pe_int (fun _ _ => rfl)) (pe_dget (u1 hr) (pv 1) pe_str (fun _ _ => rfl))) (pv 4)) pe_int)))))))), ?_⟩
    refine ⟨_, rfl, _, _, rfl, dgetS A.hs s5_clocks, ?_⟩
    refine ⟨_, rfl, b, c, 4, rfl, B, by decide, by decide +kernel, fun d1 H1 a1 a2 B1 X1 => ?_⟩
    have A1 := A.box B ap.1 X1
    have lc := A.lc
    obtain ⟨kv, ekv, lkv, kkv⟩ := A1.hc.len
    refine ⟨_, rfl, rfl, _, rfl, ite2 (fun _ => iteT ⟨_, rfl, k now H1 B1 X1⟩) (fun _ => ?_)⟩
    refine ⟨_, rfl, _, kv, rfl, ekv, rfl, _, rfl, ite2 (fun _ => ⟨_, rfl, k now H1 B1 X1⟩) (fun hz => ?_)⟩
    have hz : ¬ (kv.length : Int) = 0 := neI hz
    refine ⟨_, rfl, W.cl, kv, rfl, .inl ekv, fun kl nkl => ?_⟩
    have ekl : (kv.map fun q => kV q.1) = (cs.map Prod.fst).map V.int := by
      have : (kv.map (·.1)).map kV = ((cs.map Prod.fst).map Sum.inl).map kV := by rw [kkv]
      rw [List.map_map, List.map_map] at this
      exact this
    rw [ekl]
    have X2 : Fr [b] H1 (upd H1 kl (.lst ((cs.map Prod.fst).map V.int))) := Fr.new0 nkl _
    have B2 := B1.new nkl (.lst ((cs.map Prod.fst).map V.int))
    have hkl : upd H1 kl (.lst ((cs.map Prod.fst).map V.int)) kl = some (.lst ((cs.map Prod.fst).map V.int)) := upd_same
    generalize upd H1 kl (.lst ((cs.map Prod.fst).map V.int)) = H2 at X2 B2 hkl
    refine ⟨kl, _, rfl, SqL.of hkl, fun ys sl perm srt nsl => ?_⟩
    have X3 := X2.new nsl (.lst (ys.map V.int))
    have B3 := B2.new nsl (.lst (ys.map V.int))
    have hsl : upd H2 sl (.lst (ys.map V.int)) sl = some (.lst (ys.map V.int)) := upd_same
    have slb : sl ≠ b := (B2.nw_ne (.of nsl)).1
    generalize upd H2 sl (.lst (ys.map V.int)) = H3 at X3 B3 hsl
    have ly : ys.length = cs.length := by rw [perm.length_eq, List.length_map]
    refine ⟨_, rfl, _, rfl, _, rfl, _, _, rfl, .inl (SqL.of hsl), b, c, _, rfl, B3, by rw [List.length_map]; omega, by rw [List.length_map]; exact Int.lt_of_le_of_lt (show (ys.length : Int) ≤ 1000 by omega) (by decide +kernel), fun d2 H4 e1 e2 B4 X4 => ?_⟩
    rw [List.length_map] at e2
    obtain ⟨y, hy, ym, _⟩ := int_at (xs := ys) e1 e2
    have hsl4 := X4.lst hsl (not_one slb)
    refine ⟨_, _, _, _, rfl, rfl, SqL.of hsl4, hy, ?_⟩
    have X14 := X3.trans X4
    have A4 := A1.box B1 ap.1 X14
    obtain ⟨cc, ecc⟩ := lkA_in (perm.mem_iff.mp ym)
    obtain ⟨a, ga, ha⟩ := A4.hc.some_ ecc
    refine ⟨_, rfl, _, rfl, W.cl, _, rfl, ga, _, _, _, _, rfl, rfl, SqT.of ha, rfl, _, rfl, _, _, rfl, dgetS A4.hs s5_wait, _, _, rfl, rfl, _, rfl, _, _, rfl, rfl, _, _, rfl, rfl, ?_⟩
    exact k _ H4 B4 (X1.trans X14)
end
end K27

set_option Elab.async false
set_option maxRecDepth 100000
set_option maxHeartbeats 8000000
set_option exponentiation.threshold 4096
set_option linter.unusedVariables false
/-! what is due, by the law -/
namespace K27
open PySem PySem.Spec PyProof.Rows L2 C8 LamX UF
def spLDue (CD CB CS : Addr) : Sp := fun vs H Q _ => ∃ (W : Wd) (ms : List (Int × Say)) (cs : Clk) (i : Nat) (now : Int), vs = [.ref W.sd, .int now] ∧ WAt CD CB CS H W ms cs i ∧
  ∀ (q : Addr) (ys : List Int) (as : List Addr) (H' : Hp), ys.Perm (cs.map Prod.fst) → ys.Pairwise (· ≤ ·) → Nw H q → Fr [] H H' → H' q = some (.lst (as.map V.ref)) → SaysAt H' as (dueF cs ms W.g now ys) → Q (.ref q) H'
def spWh : Sp := fun vs H Q _ => ∃ n : Int, vs = [.int n] ∧ Q (.bl true) H
def SayF (s : Say) : Prop := PyData.strOk s.mark = true ∧ PyData.strOk s.worth = true
def spAre : Sp := fun vs H Q _ => ∃ (p q : Addr) (as bs : List Addr) (ss : List Say), vs = [.ref p, .ref q] ∧ H p = some (.lst (as.map V.ref)) ∧ SaysAt H as ss ∧ H q = some (.lst (bs.map V.ref)) ∧ SaysAt H bs ss ∧ ss.length ≤ 1000 ∧ (∀ s ∈ ss, SayF s) ∧ Q (.bl true) H
def spHolds (CD CB CS : Addr) : Sp := fun vs H Q _ => ∃ (W : Wd) (ms : List (Int × Say)) (cs : Clk) (i : Nat) (now : Int), vs = [.ref W.o, .ref W.b, .ref W.sd, .int now] ∧ WAt CD CB CS H W ms cs i ∧ ∀ H' : Hp, Fr [] H H' → Q (.bl true) H'
def spSinceL (CD CB CS : Addr) : Sp := fun vs H Q _ => ∃ (W : Wd) (ms : List (Int × Say)) (cs : Clk) (i : Nat) (l : Addr) (ns : List Int), vs = [.ref W.o, .ref W.sd, .ref l] ∧ WAt CD CB CS H W ms cs i ∧ H l = some (.lst (ns.map V.int)) ∧ Q (.bl true) H
def sayD (s : Say) : PyData := .tuple [.int s.seat, .int s.life, .str s.mark, .str s.worth]
theorem say_dp {K : PySem.W.Frag} {H : Hp} {a : Addr} {s : Say} (h : SayAt H a s) : Dp K H (.ref a) (sayD s) := .tup (SqT.of h) (.cons (.int _) (.cons (.int _) (.cons (.str _) (.cons (.str _) .nil))))
theorem plain_str {wt : Str} (h : Plain wt) : PyData.strOk wt = true := by
  unfold PyData.strOk
  rw [← Array.all_toList, List.all_eq_true]
  intro c hc
  have z : plainS.cps.toList.all (fun c => decide (c < 0x110000)) = true := by decide +kernel
  exact List.all_eq_true.mp z c (h c hc)
theorem mark_str {m : Str} (h : m ∈ marksL) : PyData.strOk m = true := by
  have z : marksL.all PyData.strOk = true := by decide +kernel
  exact List.all_eq_true.mp z m h
theorem ok_fine {r : Int} {s : Say} (o : s.Ok r) : SayF s := ⟨mark_str o.m, plain_str o.p⟩
theorem fine_dead {s : Say} (h : SayF s) : SayF (deadS s) := ⟨mark_str (m := "dead") (by decide +kernel), h.2⟩
theorem lay_say {s : Say} (h : SayF s) : PyData.canLay0 (sayD s) = true := by
  simp [sayD, PyData.canLay0, PyData.canLayAll0, h.1, h.2]
theorem shaped_say {s : Say} (h : SayF s) : SeqAt.shaped (sayD s) = true := by
  unfold SeqAt.shaped
  rw [lay_say h]
  simp [sayD, PyData.depth, PyData.depthAll]
theorem eqv_say {s : Say} (h : SayF s) : PyData.eqv (sayD s) (sayD s) = true := SeqAt.eqv_refl _ (lay_say h)
def saysD (ss : List Say) : PyData := .list (ss.map sayD)
theorem can_says : ∀ ss : List Say, (∀ s ∈ ss, SayF s) → PyData.canLayAll0 (ss.map sayD) = true
  | [], _ => by simp [PyData.canLayAll0]
  | s :: ss, h => by rw [List.map_cons, PyData.canLayAll0, can_says ss (fun x m => h x (.tail _ m)), lay_say (h s (.head _))]; rfl
theorem dep_says : ∀ ss : List Say, PyData.depthAll (ss.map sayD) ≤ 1
  | [] => by simp [PyData.depthAll]
  | s :: ss => by
    rw [List.map_cons, PyData.depthAll]
    have := dep_says ss
    have e : (sayD s).depth = 1 := by simp [sayD, PyData.depth, PyData.depthAll]
    omega
theorem lay_says {ss : List Say} (h : ∀ s ∈ ss, SayF s) : PyData.canLay0 (saysD ss) = true := by
  unfold saysD
  rw [PyData.canLay0, can_says ss h]
theorem shaped_says {ss : List Say} (h : ∀ s ∈ ss, SayF s) : SeqAt.shaped (saysD ss) = true := by
  have := dep_says ss
  unfold SeqAt.shaped
  rw [lay_says h]
  unfold saysD
  rw [PyData.depth]
  simp
  omega
theorem eqv_says {ss : List Say} (h : ∀ s ∈ ss, SayF s) : PyData.eqv (saysD ss) (saysD ss) = true := SeqAt.eqv_refl _ (lay_says h)
theorem says_dps {K : PySem.W.Frag} {H : Hp} {as : List Addr} {ss : List Say} (h : SaysAt H as ss) : DpAll K H (as.map V.ref) (ss.map sayD) := by
  induction h with
  | nil => exact .nil
  | cons a t ih => exact .cons (say_dp a) ih
theorem says_dp {K : PySem.W.Frag} {H : Hp} {l : Addr} {as : List Addr} {ss : List Say} (hl : H l = some (.lst (as.map V.ref))) (h : SaysAt H as ss) : Dp K H (.ref l) (saysD ss) := .lst (SqL.of hl) (says_dps h)
theorem keys_eq {β : Type} {ms : List (Int × β)} {kv : List (Key × V)} (h : kv.map (·.1) = (ms.map Prod.fst).map Sum.inl) : (kv.map fun q => kV q.1) = (ms.map Prod.fst).map V.int := by
  have : (kv.map (·.1)).map kV = ((ms.map Prod.fst).map Sum.inl).map kV := by rw [h]
  rw [List.map_map, List.map_map] at this
  exact this
section
variable {P : Program} {w : World} {K : PySem.W.Frag} {mg : Str → Option Value} {base : Heap} {CS CD CB : Addr}
theorem c_law_is_whole (T : Bl mg) (d : D0 K mg "_law_is_whole" s_law_is_whole ["answer"]) : Cal P w K mg base 1 "_law_is_whole" spWh [] := by
  refine cal d sc_law_is_whole (fun vs H Q E h => ?_) (fun cdv A outer f s H vs Q E hr h => ?_)
  · obtain ⟨n, rfl, _⟩ := h
    rfl
  · obtain ⟨n, rfl, k⟩ := h
    refine ⟨_, (pss_one (ps_ret (pe_and (pe_callB call_isi (by rfl) T.isinstance (by decide +kernel) (pa_cons (pv 0) (pa_cons (pe_bltn (v := .ty "int") (by rfl) T.int (by decide +kernel) rfl) pa_nil))) (pe_one (pe_not (pe_callB call_isi (by rfl) T.isinstance (by decide +kernel) (pa_cons (pv 0) (pa_cons (pe_bltn (v := .ty "bool") (by rfl) T.bool (by decide +kernel) rfl) pa_nil)))))))), ?_⟩
    refine ⟨_, rfl, _, _, _, _, true, rfl, .ty _, .base (.int _), kit_ty (by decide +kernel), _, rfl, iteT ?_⟩
    exact ⟨_, rfl, _, _, _, _, false, rfl, .ty _, .base (.int _), kit_ty (by decide +kernel), _, rfl, k⟩
theorem c_law_due (T : Bl mg) (d : D0 K mg "_law_due" s_law_due ["side", "now"]) : Cal P w K mg base 1 "_law_due" (spLDue CD CB CS) [] := by
  refine cal d sc_law_due (fun vs H Q E h => ?_) (fun cdv A outer f s0 H vs Q E hr h => ?_)
  · obtain ⟨W, ms, cs, i, now, rfl, _⟩ := h
    rfl
  · obtain ⟨W, ms, cs, i, now, rfl, A, k⟩ := h
    refine ⟨_, (pss_cons (ps_set (i := 2) sc_law_due.nd rfl (Or.inl rfl) (pe_dget (u1 hr) (pv 0) pe_str (fun _ _ => rfl)))
      (pss_cons (ps_set (i := 3) sc_law_due.nd rfl (Or.inl rfl) (pe_dget (u1 hr) (pv 0) pe_str (fun _ _ => rfl)))
      (pss_cons (ps_set (i := 4) sc_law_due.nd rfl (Or.inl rfl) (pe_lst pa_nil))
      (pss_cons (ps_for PassesOwn.never rfl (pi_list (pe_callB cr_sortedI (by rfl) T.sorted (by decide +kernel) (pa_cons (pe_callTy (call_listD rfl) (by rfl) T.list (by decide +kernel) (pa_cons (pv 3) pa_nil)) pa_nil))) (pg_name (i := 5) sc_law_due.nd rfl (Or.inl rfl)) (pss_one (ps_if (PW.pt (pw_and (pt_cmp (pc_din (u1 hr) (pv 5) (pv 2))) (pw_and (pt_cmpR op_eq (pe_ix ix_tup (pe_dget (u1 hr) (pv 2) (pv 5) (fun _ _ => rfl)) pe_int (fun _ _ => rfl)) (pe_ix ix_tup (pe_dget (u1 hr) (pv 3) (pv 5) (fun _ _ => rfl)) pe_int (fun _ _ => rfl)) (nomark _)) (pw_and1 (pt_cmpR op_eq (pe_ix ix_tup (pe_dget (u1 hr) (pv 2) (pv 5) (fun _ _ => rfl)) pe_int (fun _ _ => rfl)) pe_str (nomark _)))))) (pss_one (ps_if (pt_cmpR op_ge (pe_op op_sub (pv 1) (pe_ix ix_tup (pe_dget (u1 hr) (pv 3) (pv 5) (fun _ _ => rfl)) pe_int (fun _ _ => rfl))) (pe_dget (u1 hr) (pv 0) pe_str (fun _ _ => rfl)) (nomark _)) (pss_one (ps_expr (pe_bm PySem.F.plainAttrs_list PySem.F.slot_list_append PySem.F.type_list_append mt_append (pv 4) (pa_cons (pe_tup (pa_cons (pv 5) (pa_cons (pe_ix ix_tup (pe_dget (u1 hr) (pv 2) (pv 5) (fun _ _ => rfl)) pe_int (fun _ _ => rfl)) (pa_cons pe_str (pa_cons (pe_ix ix_tup (pe_dget (u1 hr) (pv 2) (pv 5) (fun _ _ => rfl)) pe_int (fun _ _ => rfl)) pa_nil))))) pa_nil)))) pss_nil)) pss_nil)))
      (pss_one (ps_ret (pv 4))))))), ?_⟩
    have lc := A.lc
    refine ⟨_, rfl, _, _, rfl, dgetS A.hs s5_rows, _, rfl, _, _, rfl, dgetS A.hs s5_clocks, ?_⟩
    refine ⟨by show 0 ≤ sizeLine; decide, fun fo nfo => ?_⟩
    have nwfo : Nw H fo := .of nfo
    have X1 : Fr [] H (upd H fo (.lst [])) := Fr.new0 nfo _
    have hfo1 : upd H fo (.lst []) fo = some (.lst (([] : List Addr).map V.ref)) := upd_same
    generalize upd H fo (.lst []) = H1 at X1 hfo1
    have A1 := A.fr0 X1
    obtain ⟨kv, ekv, lkv, kkv⟩ := A1.hc.len
    refine ⟨_, rfl, W.cl, kv, rfl, .inl ekv, fun kl nkl => ?_⟩
    rw [keys_eq kkv]
    have X2 := X1.new nkl (.lst ((cs.map Prod.fst).map V.int))
    have hkl : upd H1 kl (.lst ((cs.map Prod.fst).map V.int)) kl = some (.lst ((cs.map Prod.fst).map V.int)) := upd_same
    have hfo2 := upd_new (o := .lst ((cs.map Prod.fst).map V.int)) nkl hfo1
    generalize upd H1 kl (.lst ((cs.map Prod.fst).map V.int)) = H2 at X2 hkl hfo2
    refine ⟨kl, _, rfl, SqL.of hkl, fun ys sl perm srt nsl => ?_⟩
    have X3 := X2.new nsl (.lst (ys.map V.int))
    have hsl : upd H2 sl (.lst (ys.map V.int)) sl = some (.lst (ys.map V.int)) := upd_same
    have hfo3 := upd_new (o := .lst (ys.map V.int)) nsl hfo2
    have slfo : sl ≠ fo := (ne_of_none hfo2 nsl).symm
    generalize upd H2 sl (.lst (ys.map V.int)) = H3 at X3 hsl hfo3
    have ly : ys.length ≤ 6 := by rw [perm.length_eq, List.length_map]; exact lc
    refine ⟨sl, rfl, ⟨_, SqL.of hsl⟩, ?_⟩
    refine for_list (xs := ys.map V.int) (fun j σ H' => Fr [] H H' ∧ Fr [fo] H3 H' ∧ ∃ (as : List Addr) (v5 : Option V), as.length ≤ j ∧ H' fo = some (.lst (as.map V.ref)) ∧ SaysAt H' as (dueF cs ms W.g now (ys.take j)) ∧ σ = [some (.ref W.sd), some (.int now), some (.ref W.rw), some (.ref W.cl), some (.ref fo), v5]) ⟨X3, .refl _ _, [], _, Nat.le_refl _, hfo3, .nil, rfl⟩ (fun j σ H' _ pv => SqL.of (pv.2.1.lst hsl (not_one slfo))) (fun j v σ H4 hv pv => ?_) (fun σ H4 pv => ?_)
    · obtain ⟨X4, X34, as, v5, las, hfo4, pas, rfl⟩ := pv
      obtain ⟨s1, es, rfl⟩ := map_getE hv
      have jl := (List.getElem?_eq_some_iff.mp es).1
      have A4 := A.fr0 X4
      obtain ⟨cc, ecc⟩ := lkA_in (perm.mem_iff.mp (List.mem_of_getElem? es))
      obtain ⟨ac, gc, hac⟩ := A4.hc.some_ ecc
      have tk : dueF cs ms W.g now (ys.take (j + 1)) = dueF cs ms W.g now (ys.take j) ++ (([s1].filterMap (lkA ms)).filter (dueB cs W.g now)).map deadS := by
        unfold dueF rowsM
        rw [take_snoc es, List.filterMap_append, List.filter_append, List.map_append]
      cases q : lkA ms s1 with
      | none =>
        refine ⟨_, rfl, _, rfl, W.rw, none, rfl, A4.hr.none_ q, _, rfl, iteF (iteF ⟨X4, X34, as, _, by omega, hfo4, ?_, rfl⟩)⟩
        rw [tk, List.filterMap_cons_none q]
        show SaysAt H4 as (dueF cs ms W.g now (ys.take j) ++ [])
        rw [List.append_nil]
        exact pas
      | some s =>
        obtain ⟨a, ga, ha⟩ := A4.hr.some_ q
        have ss : s.seat = s1 := A.so s1 s q
        have eb : dueB cs W.g now s = (decide (s.life = cc.1) && (decide (s.mark = "suspect") && decide (W.g ≤ now - cc.2))) := by
          unfold dueB
          rw [ss, ecc]
        have e1 : ([s1].filterMap (lkA ms)) = [s] := by rw [List.filterMap_cons_some q]; rfl
        have skip : dueB cs W.g now s = false → (Fr [] H H4 ∧ Fr [fo] H3 H4 ∧ ∃ (as : List Addr) (v5 : Option V), as.length ≤ j + 1 ∧ H4 fo = some (.lst (as.map V.ref)) ∧ SaysAt H4 as (dueF cs ms W.g now (ys.take (j + 1))) ∧ ([some (.ref W.sd), some (.int now), some (.ref W.rw), some (.ref W.cl), some (.ref fo), some (.int s1)] : List (Option V)) = [some (.ref W.sd), some (.int now), some (.ref W.rw), some (.ref W.cl), some (.ref fo), v5]) := fun z => by
          refine ⟨X4, X34, as, _, by omega, hfo4, ?_, rfl⟩
          rw [tk, e1, List.filter_cons_of_neg (by rw [z]; exact Bool.false_ne_true)]
          show SaysAt H4 as (dueF cs ms W.g now (ys.take j) ++ [])
          rw [List.append_nil]
          exact pas
        refine ⟨_, rfl, _, rfl, W.rw, _, rfl, ga, _, rfl, iteT ?_⟩
        refine ⟨_, rfl, _, rfl, W.rw, _, rfl, ga, _, _, _, _, rfl, rfl, SqT.of ha, rfl, _, rfl, _, rfl, W.cl, _, rfl, gc, _, _, _, _, rfl, rfl, SqT.of hac, rfl, rfl, _, rfl, ?_⟩
        by_cases c1 : s.life = cc.1
        · rw [decI c1]
          refine iteT ⟨_, rfl, _, rfl, W.rw, _, rfl, ga, _, _, _, _, rfl, rfl, SqT.of ha, rfl, rfl, _, rfl, ?_⟩
          by_cases c2 : s.mark = "suspect"
          · rw [decide_eq_true (show V.str s.mark = V.str "suspect" by rw [c2])]
            refine iteT ?_
            refine ⟨_, rfl, _, rfl, _, rfl, W.cl, _, rfl, gc, _, _, _, _, rfl, rfl, SqT.of hac, rfl, _, _, rfl, rfl, _, rfl, _, _, rfl, dgetS A4.hs s5_wait, _, _, rfl, rfl, _, rfl, ite2 (fun c3 => ?_) (fun c3 => ?_)⟩
            · have c3 : W.g ≤ now - cc.2 := of_decide_eq_true c3
              refine ⟨_, rfl, .inl ⟨rfl, _, SqL.of hfo4⟩, _, rfl, _, rfl, _, rfl, W.rw, _, rfl, ga, _, _, _, _, rfl, rfl, SqT.of ha, rfl, _, rfl, _, rfl, W.rw, _, rfl, ga, _, _, _, _, rfl, rfl, SqT.of ha, rfl, by show 4 ≤ sizeLine; decide, fun t nt => ?_⟩
              have ed : ([.int s1, .int s.life, .str "dead", .str s.worth] : List V) = (deadS s).vs := by
                show _ = [V.int s.seat, V.int s.life, V.str "dead", V.str s.worth]
                rw [ss]
              rw [ed]
              have X5 : Fr [] H4 (upd H4 t (.tup (deadS s).vs)) := Fr.new0 nt _
              have ht5 : upd H4 t (.tup (deadS s).vs) t = some (.tup (deadS s).vs) := upd_same
              have hfo5 := upd_new (o := .tup (deadS s).vs) nt hfo4
              have pas5 := pas.fr0 X5
              generalize upd H4 t (.tup (deadS s).vs) = H5 at X5 ht5 hfo5 pas5
              refine ⟨fo, _, _, rfl, rfl, hfo5, by rw [List.length_map]; exact small1000' (by omega), ?_⟩
              refine ⟨(X4.trans X5).late nwfo (.lst hfo5) _, (X34.trans (X5.mono fun a m => nomatch m)).upd (.head _) (.lst hfo5) _, as ++ [t], _, by rw [List.length_append]; show as.length + 1 ≤ _; omega, by rw [upd_same, List.map_append]; rfl, ?_, rfl⟩
              rw [tk, e1, List.filter_cons_of_pos (by rw [eb, decide_eq_true c1, decide_eq_true c2, decide_eq_true c3]; rfl)]
              refine paired_snoc (paired_imp0 pas5 fun x s' h => ?_) ?_
              · have h : H5 x = some (.tup s'.vs) := h
                show upd H5 fo _ x = _
                rw [upd_ne (fun z => by rw [z, hfo5] at h; cases h)]
                exact h
              · show upd H5 fo _ t = _
                rw [upd_ne (fun z => by rw [z, hfo5] at ht5; cases ht5)]
                exact ht5
            · exact skip (by rw [eb, decide_eq_false (fun z => c3 (decide_eq_true z)), Bool.and_false, Bool.and_false])
          · rw [decide_eq_false (show ¬ V.str s.mark = V.str "suspect" from fun z => c2 (by injection z))]
            exact iteF (skip (by rw [eb, decide_eq_false c2, Bool.false_and, Bool.and_false]))
        · rw [decIn c1]
          exact iteF (iteF (skip (by rw [eb, decide_eq_false c1, Bool.false_and])))
    · obtain ⟨X4, X34, as, v5, las, hfo4, pas, rfl⟩ := pv
      rw [List.length_map, List.take_length] at pas
      exact ⟨_, rfl, k fo ys as H4 perm srt nwfo X4 hfo4 pas⟩
theorem c_law_sayings_are (T : Bl mg) (c_law_is_whole : Cal P w K mg base 1 "_law_is_whole" spWh []) (d : D0 K mg "_law_sayings_are" s_law_sayings_are ["answer", "want"]) : Cal P w K mg base 2 "_law_sayings_are" spAre [] := by
  refine cal d sc_law_sayings_are (fun vs H Q E h => ?_) (fun cdv A outer f s0 H vs Q E hr h => ?_)
  · obtain ⟨p, q, as, bs, ss, rfl, _⟩ := h
    rfl
  · obtain ⟨p, q, as, bs, ss, rfl, hp, has, hq, hbs, l1, fn, k⟩ := h
    refine ⟨_, (pss_cons (ps_if (PW.pt (pw_or (pt_not (pt_val (pe_callB call_isi (by rfl) T.isinstance (by decide +kernel) (pa_cons (pv 0) (pa_cons (pe_bltn (v := .ty "list") (by rfl) T.list (by decide +kernel) rfl) pa_nil))))) (pw_or1 (pt_cmpR op_ne (pe_callB call_len_seq (by rfl) T.len (by decide +kernel) (pa_cons (pv 0) pa_nil)) (pe_callB call_len_seq (by rfl) T.len (by decide +kernel) (pa_cons (pv 1) pa_nil)) (nomark _))))) (pss_one (ps_ret pe_bl)) pss_nil)
      (pss_cons (ps_for PassesOwn.never rfl (pi_range1 rfl T.range (pa_cons (pe_callB call_len_seq (by rfl) T.len (by decide +kernel) (pa_cons (pv 1) pa_nil)) pa_nil)) (pg_name (i := 2) sc_law_sayings_are.nd rfl (Or.inl rfl)) (pss_cons (ps_set (i := 3) sc_law_sayings_are.nd rfl (Or.inl rfl) (pe_ix ix_list (pv 0) (pv 2) (fun _ _ => rfl)))
      (pss_cons (ps_if (PW.pt (pw_or (pt_not (pt_val (pe_callB call_isi (by rfl) T.isinstance (by decide +kernel) (pa_cons (pv 3) (pa_cons (pe_bltn (v := .ty "tuple") (by rfl) T.tuple (by decide +kernel) rfl) pa_nil))))) (pw_or1 (pt_cmpR op_ne (pe_callB call_len_seq (by rfl) T.len (by decide +kernel) (pa_cons (pv 3) pa_nil)) pe_int (nomark _))))) (pss_one (ps_ret pe_bl)) pss_nil)
      (pss_cons (ps_if (PW.pt (pw_or (pt_not (pt_val (pe_c c_law_is_whole hr (by decide) rfl (pa_cons (pe_ix ix_tup (pv 3) pe_int (fun _ _ => rfl)) pa_nil)))) (pw_or1 (pt_not (pt_val (pe_c c_law_is_whole hr (by decide) rfl (pa_cons (pe_ix ix_tup (pv 3) pe_int (fun _ _ => rfl)) pa_nil))))))) (pss_one (ps_ret pe_bl)) pss_nil)
      (pss_one (ps_if (PW.pt (pw_or (pt_not (pt_val (pe_callB call_isi (by rfl) T.isinstance (by decide +kernel) (pa_cons (pe_ix ix_tup (pv 3) pe_int (fun _ _ => rfl)) (pa_cons (pe_bltn (v := .ty "str") (by rfl) T.str (by decide +kernel) rfl) pa_nil))))) (pw_or (pt_not (pt_val (pe_callB call_isi (by rfl) T.isinstance (by decide +kernel) (pa_cons (pe_ix ix_tup (pv 3) pe_int (fun _ _ => rfl)) (pa_cons (pe_bltn (v := .ty "str") (by rfl) T.str (by decide +kernel) rfl) pa_nil))))) (pw_or1 (pt_cmpR (op_neD hr.units) (pv 3) (pe_ix ix_list (pv 1) (pv 2) (fun _ _ => rfl)) (nomark _)))))) (pss_one (ps_ret pe_bl)) pss_nil))))))
      (pss_one (ps_ret pe_bl)))), ?_⟩
    have la := has.length
    have lb := hbs.length
    refine ⟨_, rfl, _, _, _, _, true, rfl, .ty _, .base (.lst hp), kit_ty (by decide +kernel), _, rfl, iteF ?_⟩
    refine ⟨_, rfl, _, _, rfl, .inl (SqL.of hp), _, rfl, _, _, rfl, .inl (SqL.of hq), rfl, _, rfl, ?_⟩
    rw [show (!decide (V.int (((as.map V.ref).length : Nat) : Int) = V.int (((bs.map V.ref).length : Nat) : Int))) = false by rw [decide_eq_true (by rw [List.length_map, List.length_map, la, lb])]; rfl]
    refine iteF ?_
    refine ⟨_, rfl, _, _, rfl, .inl (SqL.of hq), _, rfl, by rw [List.length_map]; omega, by rw [List.length_map]; omega, ?_⟩
    rw [List.length_map, lb]
    refine for_range (lo := 0) (n := _) (fun i σ H' => H' = H ∧ ∃ v2 v3 : Option V, σ = [some (.ref p), some (.ref q), v2, v3]) ⟨rfl, _, _, rfl⟩ ?_ ?_
    · rintro i σ H' hi ⟨rfl, v2, v3, rfl⟩
      rw [Int.toNat_natCast] at hi
      obtain ⟨a, ea⟩ : ∃ a, as[i]? = some a := ⟨as[i], List.getElem?_eq_getElem (by omega)⟩
      obtain ⟨b, eb⟩ : ∃ b, bs[i]? = some b := ⟨bs[i], List.getElem?_eq_getElem (by omega)⟩
      obtain ⟨s, es, ha⟩ := pd_get0 has ea
      obtain ⟨s', es', hb⟩ := pd_get0 hbs eb
      rw [es] at es'
      cases es'
      have a1 : atI (as.map V.ref) (i : Int) = some (.ref a) := atI_nat (by rw [List.getElem?_map, ea]; rfl)
      have a2 : atI (bs.map V.ref) (i : Int) = some (.ref b) := atI_nat (by rw [List.getElem?_map, eb]; rfl)
      rw [show (0 : Int) + (i : Int) = (i : Int) by omega]
      refine ⟨_, rfl, _, rfl, _, _, _, _, rfl, rfl, SqL.of hp, a1, ?_⟩
      refine ⟨_, rfl, _, _, _, _, true, rfl, .ty _, .base (.tup ha), kit_ty (by decide +kernel), _, rfl, iteF ?_⟩
      refine ⟨_, rfl, _, _, rfl, .inr (SqT.of ha), rfl, _, rfl, iteF ?_⟩
      refine ⟨_, rfl, _, _, _, _, rfl, rfl, SqT.of ha, rfl, _, rfl, _, rfl, iteF ?_⟩
      refine ⟨_, rfl, _, _, _, _, rfl, rfl, SqT.of ha, rfl, _, rfl, _, rfl, iteF ?_⟩
      refine ⟨_, rfl, _, _, _, _, rfl, rfl, SqT.of ha, rfl, _, _, _, _, true, rfl, .ty _, .base (.str _), kit_ty (by decide +kernel), _, rfl, iteF ?_⟩
      refine ⟨_, rfl, _, _, _, _, rfl, rfl, SqT.of ha, rfl, _, _, _, _, true, rfl, .ty _, .base (.str _), kit_ty (by decide +kernel), _, rfl, iteF ?_⟩
      refine ⟨_, rfl, _, rfl, _, rfl, _, _, _, _, rfl, rfl, SqL.of hq, a2, _, _, say_dp ha, say_dp hb, shaped_say (fn s (List.mem_of_getElem? es)), shaped_say (fn s (List.mem_of_getElem? es)), _, rfl, ?_⟩
      rw [eqv_say (fn s (List.mem_of_getElem? es))]
      exact iteF ⟨rfl, _, _, rfl⟩
    · rintro σ H' ⟨rfl, v2, v3, rfl⟩
      exact k
theorem c_law_due_holds (T : Bl mg) (c_law_due : Cal P w K mg base 1 "_law_due" (spLDue CD CB CS) []) (c_law_sayings_are : Cal P w K mg base 2 "_law_sayings_are" spAre []) (m_due : Met P w K mg base 2 CD "due" (spDueD CD CB CS) []) (m_rows : Met P w K mg base 2 CB "rows" (spRowsB CB) []) (d : D0 K mg "_law_due_holds" s_law_due_holds ["doubts", "book", "side", "now"]) : Cal P w K mg base 3 "_law_due_holds" (spHolds CD CB CS) [] := by
  refine cal d sc_law_due_holds (fun vs H Q E h => ?_) (fun cdv A outer f s0 H vs Q E hr h => ?_)
  · obtain ⟨W, ms, cs, i, now, rfl, _⟩ := h
    rfl
  · obtain ⟨W, ms, cs, i, now, rfl, A, k⟩ := h
    refine ⟨_, (pss_cons (ps_set (i := 4) sc_law_due_holds.nd rfl (Or.inl rfl) (pe_c c_law_due hr (by decide) rfl (pa_cons (pv 2) (pa_cons (pv 3) pa_nil))))
      (pss_cons (ps_set (i := 5) sc_law_due_holds.nd rfl (Or.inr rfl) (pe_dget (u1 hr) (pv 2) pe_str (fun _ _ => rfl)))
      (pss_cons (ps_setLc (i := 6) (own := [("spot", 8)]) (g := gName 8) (tt := tYes) (by rfl) sc_law_due_holds.nd rfl rfl (sw_true rfl rfl rfl (by decide +kernel)) (pi_list (pe_callB cr_sortedI (by rfl) T.sorted (by decide +kernel) (pa_cons (pe_callTy (call_listD rfl) (by rfl) T.list (by decide +kernel) (pa_cons (pv 5) pa_nil)) pa_nil))) (blkOk_by (own := [("spot", 8)]) (N := n_law_due_holds) (sc := C8.fnScope s_law_due_holds) (by decide +kernel)) (fun _ _ _ _ _ => pg_name (i := 8) sc_law_due_holds.nd rfl (Or.inl rfl)) (fun _ _ _ _ _ => pts_nil) (fun _ _ _ _ _ => (pe_dget (u1 hr) (pv 5) (pv 8) (fun _ _ => rfl))))
      (pss_cons (ps_set (i := 7) sc_law_due_holds.nd rfl (Or.inl rfl) (pe_mt m_due hr (by decide) (pv 0) (pa_cons (pv 1) (pa_cons (pv 3) pa_nil))))
      (pss_cons (ps_if (pt_not (pt_val (pe_c c_law_sayings_are hr (by decide) rfl (pa_cons (pv 7) (pa_cons (pv 4) pa_nil))))) (pss_one (ps_ret pe_bl)) pss_nil)
      (pss_cons (ps_expr (pe_bm PySem.F.plainAttrs_list PySem.F.slot_list_append PySem.F.type_list_append mt_append (pv 7) (pa_cons (pe_tup (pa_cons pe_int (pa_cons pe_int (pa_cons pe_str (pa_cons pe_str pa_nil))))) pa_nil)))
      (pss_cons (ps_if (pt_not (pt_val (pe_c c_law_sayings_are hr (by decide) rfl (pa_cons (pe_mt m_due hr (by decide) (pv 0) (pa_cons (pv 1) (pa_cons (pv 3) pa_nil))) (pa_cons (pv 4) pa_nil))))) (pss_one (ps_ret pe_bl)) pss_nil)
      (pss_one (ps_ret (pe_cmpR (op_eqD hr.units) (pe_mt0 m_rows hr (by decide) (pv 1)) (pv 6) (nomark _))))))))))), ?_⟩
    have lc := A.lc
    have lm := A.lm
    refine ⟨_, rfl, _, rfl, W, ms, cs, i, now, rfl, A, fun wq ys as H1 perm srt nwq X1 hwq has => ?_⟩
    have ly : ys.length ≤ 6 := by rw [perm.length_eq, List.length_map]; exact lc
    have ld : (dueF cs ms W.g now ys).length ≤ 1000 := by
      unfold dueF rowsM
      rw [List.length_map]
      exact Nat.le_trans (List.length_filter_le _ _) (Nat.le_trans (List.length_filterMap_le _ _) (by omega))
    have fnr : ∀ zs : List Int, ∀ s ∈ rowsM ms zs, SayF s := fun zs s m => by
      unfold rowsM at m
      obtain ⟨x, _, e⟩ := List.mem_filterMap.mp m
      exact ok_fine (A.ok x s e).2.1
    have fnd : ∀ zs : List Int, ∀ s ∈ dueF cs ms W.g now zs, SayF s := fun zs s m => by
      unfold dueF at m
      obtain ⟨s', m', rfl⟩ := List.mem_map.mp m
      exact fine_dead (fnr zs s' (List.mem_filter.mp m').1)
    have A1 := A.fr0 X1
    refine ⟨_, rfl, _, _, rfl, dgetS A1.hs s5_rows, ?_⟩
    obtain ⟨kv, ekv, lkv, kkv⟩ := A1.hr.len
    refine ⟨_, rfl, W.rw, kv, rfl, .inl ekv, fun kl nkl => ?_⟩
    rw [keys_eq kkv]
    have X2 : Fr [] H1 (upd H1 kl (.lst ((ms.map Prod.fst).map V.int))) := Fr.new0 nkl _
    have hkl : upd H1 kl (.lst ((ms.map Prod.fst).map V.int)) kl = some (.lst ((ms.map Prod.fst).map V.int)) := upd_same
    generalize upd H1 kl (.lst ((ms.map Prod.fst).map V.int)) = H2 at X2 hkl
    refine ⟨kl, _, rfl, SqL.of hkl, fun zs sl permz srtz nsl => ?_⟩
    have X3 := X2.new nsl (.lst (zs.map V.int))
    have hsl : upd H2 sl (.lst (zs.map V.int)) sl = some (.lst (zs.map V.int)) := upd_same
    generalize upd H2 sl (.lst (zs.map V.int)) = H3 at X3 hsl
    have lz : zs.length ≤ 256 := by rw [permz.length_eq, List.length_map]; exact lm
    refine ⟨sl, rfl, ⟨_, SqL.of hsl⟩, fun D nD => ?_⟩
    refine lc_list (xs := zs.map V.int) (fun j H' => Fr [] H3 H' ∧ ∃ bs : List Addr, bs.length ≤ j ∧ H' D = some (.lst (bs.map V.ref)) ∧ SaysAt H' bs (rowsM ms (zs.take j))) ⟨Fr.new0 nD _, [], Nat.le_refl _, upd_same, .nil⟩ (fun j H' _ pv => SqL.of (pv.1.lst hsl not_nil)) (fun j v H4 hv pv => ?_) (fun H4 pv => ?_)
    · obtain ⟨X4, bs, lbs, hD, pbs⟩ := pv
      obtain ⟨s1, es, rfl⟩ := map_getE hv
      have jl := (List.getElem?_eq_some_iff.mp es).1
      obtain ⟨s, e⟩ := lkA_in (permz.mem_iff.mp (List.mem_of_getElem? es))
      have A4 := A1.fr0 (X3.trans X4)
      obtain ⟨a, ga, ha⟩ := A4.hr.some_ e
      refine ⟨rfl, _, rfl, _, rfl, W.rw, _, rfl, ga, _, hD, by rw [List.length_map]; exact small1000' (by omega), X4.late (.of nD) (.lst hD) _, bs ++ [a], by rw [List.length_append]; show bs.length + 1 ≤ _; omega, by rw [upd_same, List.map_append]; rfl, ?_⟩
      have ne : ∀ {c : Addr} {vs : List V}, H4 c = some (.tup vs) → c ≠ D := fun h z => by rw [z, hD] at h; cases h
      have e1 : rowsM ms (zs.take (j + 1)) = rowsM ms (zs.take j) ++ [s] := by
        unfold rowsM
        rw [take_snoc es, List.filterMap_append, List.filterMap_cons_some e]
        rfl
      rw [e1]
      refine paired_snoc (paired_imp0 pbs fun c s' h => ?_) ?_
      · have h : H4 c = some (.tup s'.vs) := h
        show upd H4 D _ c = _
        rw [upd_ne (ne h)]
        exact h
      · show upd H4 D _ a = _
        rw [upd_ne (ne ha)]
        exact ha
    obtain ⟨X4, bs, lbs, hD, pbs⟩ := pv
    rw [List.length_map, List.take_length] at pbs
    have X14 := X3.trans X4
    have A4 := A1.fr0 X14
    obtain ⟨dxo, eo⟩ := A4.ho
    refine ⟨_, rfl, W.o, dxo, _, rfl, eo, fd_m.2.2.2.2, _, rfl, _, rfl, W.o, W.x, W.D, W.b, W.x, W.L, W.n, W.g, now, cs, ms, rfl, A4.ho, A4.hD, A4.hb, A4.hL, A4.hx, A.so, by omega, fun aq ys2 as2 H5 perm2 srt2 naq X5 haq has2 => ?_⟩
    have ey2 : ys2 = ys := List.Perm.eq_of_pairwise (fun x y _ _ h1 h2 => Int.le_antisymm h1 h2) srt2 srt (perm2.trans perm.symm)
    subst ey2
    have X15 := X14.trans X5
    have hwq5 := X15.lst hwq not_nil
    have has5 := has.fr0 X15
    refine ⟨_, rfl, _, rfl, aq, wq, as2, as, _, rfl, haq, has2, hwq5, has5, ld, fnd _, _, rfl, iteF ?_⟩
    refine ⟨_, rfl, .inl ⟨rfl, _, SqL.of haq⟩, by show 4 ≤ sizeLine; decide, fun t nt => ?_⟩
    have X6 : Fr [] H5 (upd H5 t (.tup [.int 0, .int 0, .str "dead", .str ""])) := Fr.new0 nt _
    have haq6 := upd_new (o := .tup [.int 0, .int 0, .str "dead", .str ""]) nt haq
    generalize upd H5 t (.tup [.int 0, .int 0, .str "dead", .str ""]) = H6 at X6 haq6
    have las2 := has2.length
    refine ⟨aq, _, _, rfl, rfl, haq6, by rw [List.length_map, las2]; exact small1000' ld, ?_⟩
    have X47 : Fr [] H4 (upd H6 aq (.lst (as2.map V.ref ++ [.ref t]))) := (X5.trans X6).late naq (.lst haq6) _
    generalize upd H6 aq (.lst (as2.map V.ref ++ [.ref t])) = H7 at X47
    have A7 := A4.fr0 X47
    obtain ⟨dxo7, eo7⟩ := A7.ho
    refine ⟨_, rfl, W.o, dxo7, _, rfl, eo7, fd_m.2.2.2.2, _, rfl, _, rfl, W.o, W.x, W.D, W.b, W.x, W.L, W.n, W.g, now, cs, ms, rfl, A7.ho, A7.hD, A7.hb, A7.hL, A7.hx, A.so, by omega, fun aq8 ys8 as8 H8 perm8 srt8 naq8 X8 haq8 has8 => ?_⟩
    have ey8 : ys8 = ys2 := List.Perm.eq_of_pairwise (fun x y _ _ h1 h2 => Int.le_antisymm h1 h2) srt8 srt (perm8.trans perm.symm)
    subst ey8
    have X48 := X47.trans X8
    have X18 := X14.trans X48
    refine ⟨_, rfl, aq8, wq, as8, as, _, rfl, haq8, has8, X18.lst hwq not_nil, has.fr0 X18, ld, fnd _, _, rfl, iteF ?_⟩
    have A8 := A4.fr0 X48
    obtain ⟨dxb, ebk⟩ := A8.hb
    refine ⟨_, rfl, W.b, dxb, _, rfl, ebk, fb_rows, W.b, W.x, W.L, ms, rfl, A8.hb, A8.hL, by omega, fun rq zs9 as9 H9 perm9 srt9 nrq X9 hrq has9 => ?_⟩
    have ez9 : zs9 = zs := List.Perm.eq_of_pairwise (fun x y _ _ h1 h2 => Int.le_antisymm h1 h2) srt9 srtz (perm9.trans permz.symm)
    subst ez9
    have X49 := X48.trans X9
    refine ⟨_, rfl, _, _, says_dp hrq has9, says_dp (X49.lst hD not_nil) (pbs.fr0 X49), shaped_says (fnr _), shaped_says (fnr _), ?_⟩
    show Q (.bl (PyData.eqv _ _)) H9
    rw [eqv_says (fnr _)]
    exact k H9 ((X1.trans X14).trans X49)
theorem c_law_since_holds (T : Bl mg) (c_law_is_whole : Cal P w K mg base 1 "_law_is_whole" spWh []) (m_sinceD : Met P w K mg base 1 CD "since" (spSinceD CD) []) (d : D0 K mg "_law_since_holds" s_law_since_holds ["doubts", "side", "spots"]) : Cal P w K mg base 2 "_law_since_holds" (spSinceL CD CB CS) [] := by
  refine cal d sc_law_since_holds (fun vs H Q E h => ?_) (fun cdv A outer f s0 H vs Q E hr h => ?_)
  · obtain ⟨W, ms, cs, i, l, ns, rfl, _⟩ := h
    rfl
  · obtain ⟨W, ms, cs, i, l, ns, rfl, A, hl, k⟩ := h
    refine ⟨_, (pss_cons (ps_set (i := 3) sc_law_since_holds.nd rfl (Or.inl rfl) (pe_dget (u1 hr) (pv 1) pe_str (fun _ _ => rfl)))
      (pss_cons (ps_for PassesOwn.never rfl (pi_list (pv 2)) (pg_name (i := 4) sc_law_since_holds.nd rfl (Or.inl rfl)) (pss_cons (ps_set (i := 5) sc_law_since_holds.nd rfl (Or.inl rfl) (pe_mt m_sinceD hr (by decide) (pv 0) (pa_cons (pv 4) pa_nil)))
      (pss_one (ps_if (pt_cmp (pc_dnotin (u1 hr) (pv 4) (pv 3))) (pss_one (ps_if (pt_cmp (pc_notN (pv 5))) (pss_one (ps_ret pe_bl)) pss_nil)) (pss_one (ps_if (PW.pt (pw_or (pt_not (pt_val (pe_c c_law_is_whole hr (by decide) rfl (pa_cons (pv 5) pa_nil)))) (pw_or1 (pt_cmpR op_ne (pv 5) (pe_ix ix_tup (pe_dget (u1 hr) (pv 3) (pv 4) (fun _ _ => rfl)) pe_int (fun _ _ => rfl)) (nomark _))))) (pss_one (ps_ret pe_bl)) pss_nil))))))
      (pss_one (ps_ret pe_bl)))), ?_⟩
    refine ⟨_, rfl, _, _, rfl, dgetS A.hs s5_clocks, ?_⟩
    refine ⟨_, rfl, l, rfl, ⟨_, SqL.of hl⟩, ?_⟩
    obtain ⟨dxo, eo⟩ := A.ho
    refine for_list (xs := ns.map V.int) (fun j σ H' => H' = H ∧ ∃ v4 v5 : Option V, σ = [some (.ref W.o), some (.ref W.sd), some (.ref l), some (.ref W.cl), v4, v5]) ⟨rfl, _, _, rfl⟩ (fun j σ H' _ pv => by rw [pv.1]; exact SqL.of hl) (fun j v σ H4 hv pv => ?_) (fun σ H4 pv => ?_)
    · obtain ⟨rfl, v4, v5, rfl⟩ := pv
      obtain ⟨s1, es, rfl⟩ := map_getE hv
      refine ⟨_, rfl, W.o, dxo, _, rfl, eo, fd_m.2.2.2.1, _, rfl, W.o, W.x, W.D, cs, s1, rfl, A.ho, A.hD, ?_⟩
      cases q : lkA cs s1 with
      | none => exact ⟨_, rfl, _, rfl, W.cl, none, rfl, A.hc.none_ q, _, rfl, iteT ⟨_, rfl, _, rfl, iteF ⟨rfl, _, _, rfl⟩⟩⟩
      | some cc =>
        obtain ⟨a, g, ha⟩ := A.hc.some_ q
        refine ⟨_, rfl, _, rfl, W.cl, _, rfl, g, _, rfl, iteF ?_⟩
        refine ⟨_, rfl, cc.2, rfl, _, rfl, iteF ?_⟩
        refine ⟨_, rfl, _, rfl, _, rfl, W.cl, _, rfl, g, _, _, _, _, rfl, rfl, SqT.of ha, rfl, rfl, _, rfl, ?_⟩
        show (if (!decide (V.int cc.2 = V.int cc.2)) = true then _ else _)
        rw [show (!decide (V.int cc.2 = V.int cc.2)) = false by rw [decI rfl]; rfl]
        exact iteF ⟨rfl, _, _, rfl⟩
    · obtain ⟨rfl, v4, v5, rfl⟩ := pv
      exact k
end
end K27

set_option Elab.async false
set_option maxRecDepth 100000
set_option maxHeartbeats 8000000
set_option exponentiation.threshold 4096
set_option linter.unusedVariables false
/-! a row of the law, and the law -/
namespace K27
open PySem PySem.Spec PyProof.Rows L2 C8 LamX UF
def spRow (CD CB CS : Addr) : Sp := fun vs H Q _ => ∃ (b c : Addr) (W : Wd) (ms : List (Int × Say)) (cs : Clk) (i : Nat) (now : Int), vs = [.ref b, .ref W.t, .int now] ∧ Box H b c ∧ Apart W b c ∧ WAt CD CB CS H W ms cs i ∧ i ≤ 1000 ∧
  ∀ (ms' : List (Int × Say)) (cs' : Clk) (H' : Hp), Box H' b c → Fr (b :: W.mut) H H' → WAt CD CB CS H' W ms' cs' (i + 1) → Q (.bl true) H'
theorem mem_mut {W : Wd} {b : Addr} {a : Addr} (h : a = W.D ∨ a = W.L ∨ a = W.rw ∨ a = W.cl) : a ∈ b :: W.mut := .tail _ (by
  rcases h with rfl | rfl | rfl | rfl
  · exact .head _
  · exact .tail _ (.head _)
  · exact .tail _ (.tail _ (.head _))
  · exact .tail _ (.tail _ (.tail _ (.head _))))
theorem tup_nt {β : Type} {f : β → List V} {H : Hp} {d : Addr} {ms : List (Int × β)} (T : TupD f H d ms) : ∀ a ∈ [d], ∀ vs, H a ≠ some (.tup vs) := fun a m vs z => by
  obtain ⟨kv, e⟩ := T.at_
  rw [List.mem_singleton.mp m, e] at z
  cases z
theorem ck_drop {cs : Clk} {s : Int} {pool : List Int} (h : ∀ k ∈ cs.map Prod.fst, k ∈ pool) : ∀ k ∈ (dropA cs s).map Prod.fst, k ∈ pool := fun k m => by
  obtain ⟨q, mq, rfl⟩ := List.mem_map.mp m
  exact h _ (List.mem_map.mpr ⟨q, (dropA_in mq).1, rfl⟩)
section
variable {P : Program} {w : World} {K : PySem.W.Frag} {mg : Str → Option Value} {base : Heap} {CS CD CB : Addr}
theorem c_law_row_holds (T : Bl mg) (c_law_draw : Cal P w K mg base 1 "_law_draw" spDraw []) (c_law_doubt : Cal P w K mg base 3 "_law_doubt" (spLDoubt CD CB CS) []) (m_lift : Met P w K mg base 1 CD "lift" (spLift CD) []) (c_law_next_saying : Cal P w K mg base 3 "_law_next_saying" (spNext CD CB CS) []) (m_take : Met P w K mg base 5 CB "take" (spTake CB CS) []) (c_law_since_holds : Cal P w K mg base 2 "_law_since_holds" (spSinceL CD CB CS) [])
    (d : D0 K mg "_law_row_holds" s_law_row_holds ["box", "made", "now"]) : Cal P w K mg base 6 "_law_row_holds" (spRow CD CB CS) [] := by
  refine cal d sc_law_row_holds (fun vs H Q E h => ?_) (fun cdv A outer f s0 H vs Q E hr h => ?_)
  · obtain ⟨b, c, W, ms, cs, i, now, rfl, _⟩ := h
    rfl
  · obtain ⟨b, c, W, ms, cs, i, now, rfl, B, ap, A, il, k⟩ := h
    refine ⟨_, (pss_cons (ps_set (i := 3) sc_law_row_holds.nd rfl (Or.inl rfl) (pe_ix ix_tup (pv 1) pe_int (fun _ _ => rfl)))
      (pss_cons (ps_set (i := 4) sc_law_row_holds.nd rfl (Or.inl rfl) (pe_ix ix_tup (pv 1) pe_int (fun _ _ => rfl)))
      (pss_cons (ps_set (i := 5) sc_law_row_holds.nd rfl (Or.inl rfl) (pe_ix ix_tup (pv 1) pe_int (fun _ _ => rfl)))
      (pss_cons (ps_set (i := 6) sc_law_row_holds.nd rfl (Or.inl rfl) (pe_dget (u1 hr) (pv 5) pe_str (fun _ _ => rfl)))
      (pss_cons (ps_set (i := 7) sc_law_row_holds.nd rfl (Or.inl rfl) (pe_ix ix_list (pv 6) (pe_c c_law_draw hr (by decide) rfl (pa_cons (pv 0) (pa_cons (pe_callB call_len_seq (by rfl) T.len (by decide +kernel) (pa_cons (pv 6) pa_nil)) pa_nil))) (fun _ _ => rfl)))
      (pss_cons (ps_set (i := 8) sc_law_row_holds.nd rfl (Or.inl rfl) (pe_c c_law_draw hr (by decide) rfl (pa_cons (pv 0) (pa_cons pe_int pa_nil))))
      (pss_cut (ps_if (pt_cmpR op_eq (pv 8) pe_int (nomark _)) (pss_one (ps_for PassesOwn.never rfl (pi_list (pv 6)) (pg_name (i := 9) sc_law_row_holds.nd rfl (Or.inl rfl)) (pss_one (ps_if (pt_not (pt_val (pe_c c_law_doubt hr (by decide) rfl (pa_cons (pv 0) (pa_cons (pv 3) (pa_cons (pv 5) (pa_cons (pv 9) (pa_cons (pv 2) pa_nil)))))))) (pss_one (ps_ret pe_bl)) pss_nil)))) (pss_one (ps_if (pt_cmpR op_lt (pv 8) pe_int (nomark _)) (pss_one (ps_if (pt_not (pt_val (pe_c c_law_doubt hr (by decide) rfl (pa_cons (pv 0) (pa_cons (pv 3) (pa_cons (pv 5) (pa_cons (pv 7) (pa_cons (pv 2) pa_nil)))))))) (pss_one (ps_ret pe_bl)) pss_nil)) (pss_one (ps_if (pt_cmpR op_eq (pv 8) pe_int (nomark _)) (pss_cons (ps_set (i := 10) sc_law_row_holds.nd rfl (Or.inl rfl) (pe_dget (u1 hr) (pv 5) pe_str (fun _ _ => rfl)))
      (pss_cons (ps_expr (pe_dpop2 (pv 10) (pv 7) pe_non (M2.mk (by rfl) (by rfl) (by rfl) (by rfl))))
      (pss_one (ps_if (pt_cmp (pc_notN (pe_mt m_lift hr (by decide) (pv 3) (pa_cons (pv 7) pa_nil)))) (pss_one (ps_ret pe_bl)) pss_nil)))) (pss_one (ps_if (pt_cmpR op_lt (pv 8) pe_int (nomark _)) (pss_cons (ps_set (i := 11) sc_law_row_holds.nd rfl (Or.inl rfl) (pe_c c_law_next_saying hr (by decide) rfl (pa_cons (pv 0) (pa_cons (pv 5) (pa_cons (pv 7) pa_nil)))))
      (pss_cons (ps_set (i := 12) sc_law_row_holds.nd rfl (Or.inl rfl) (pe_dget (u1 hr) (pv 5) pe_str (fun _ _ => rfl)))
      (pss_cons (ps_asg (pv 11) (pg_sub (pv 12) (pv 7) (set_dict (u1 hr))))
      (pss_one (ps_expr (pe_mt m_take hr (by decide) (pv 4) (pa_cons (pv 11) pa_nil))))))) pss_nil)))))))
      (pss_cons (ps_if (pt_cmpR op_eq (pe_c c_law_draw hr (by decide) rfl (pa_cons (pv 0) (pa_cons pe_int pa_nil))) pe_int (nomark _)) (pss_one (ps_ret (pe_c c_law_since_holds hr (by decide) rfl (pa_cons (pv 3) (pa_cons (pv 5) (pa_cons (pe_lst (pa_cons (pv 7) pa_nil)) pa_nil)))))) pss_nil)
      (pss_one (ps_ret pe_bl)))))))))), ?_⟩
    have p0 := A.p0
    have p6 := A.p6
    refine ⟨_, rfl, _, _, _, _, rfl, rfl, SqT.of A.ht, rfl, ?_⟩
    refine ⟨_, rfl, _, _, _, _, rfl, rfl, SqT.of A.ht, rfl, ?_⟩
    refine ⟨_, rfl, _, _, _, _, rfl, rfl, SqT.of A.ht, rfl, ?_⟩
    refine ⟨_, rfl, _, _, rfl, dgetS A.hs s5_pool, ?_⟩
    refine ⟨_, rfl, _, rfl, _, rfl, _, _, rfl, .inl (SqL.of A.hp), b, c, _, rfl, B, by rw [List.length_map]; omega, by rw [List.length_map]; exact Int.lt_of_le_of_lt (show (W.pool.length : Int) ≤ 6 by omega) (by decide +kernel), fun d1 H1 g1 g2 B1 X1 => ?_⟩
    rw [List.length_map] at g2
    obtain ⟨j, rfl⟩ := Int.eq_ofNat_of_zero_le g1
    have jl : j < W.pool.length := by omega
    obtain ⟨spot, espot⟩ : ∃ s, W.pool[j]? = some s := ⟨_, List.getElem?_eq_getElem jl⟩
    have sm : spot ∈ W.pool := List.mem_of_getElem? espot
    have A1 := A.box B ap.1 X1
    refine ⟨_, _, _, _, rfl, rfl, SqL.of A1.hp, (show atI (W.pool.map V.int) (j : Int) = some (V.int spot) from atI_nat (by rw [List.getElem?_map, espot]; rfl)), ?_⟩
    refine ⟨_, rfl, b, c, 12, rfl, B1, by decide, by decide +kernel, fun way H2 w1 w2 B2 X2 => ?_⟩
    have X02 := X1.trans X2
    have A2 := A1.box B1 ap.1 X2
    have ub : ∀ {H' : Hp}, Fr [b] H H' → Fr (b :: W.mut) H H' := fun X => X.mono fun a m => by rw [List.mem_singleton.mp m]; exact .head _
    refine ⟨fun σ H' => Box H' b c ∧ Fr (b :: W.mut) H H' ∧ ∃ (ms' : List (Int × Say)) (cs' : Clk) (v9 v10 v11 v12 : Option V), WAt CD CB CS H' W ms' cs' (i + 1) ∧ σ = [some (.ref b), some (.ref W.t), some (.int now), some (.ref W.o), some (.ref W.b), some (.ref W.sd), some (.ref W.pl), some (.int spot), some (.int way), v9, v10, v11, v12], ?_, ?_⟩
    · have D2 : [W.D, W.cl].all (fun _ => true) = true := rfl
      have bW : b ≠ W.D ∧ b ≠ W.L ∧ b ≠ W.rw ∧ b ≠ W.cl := ⟨(ap.1 _ (by simp [Wd.adr])).symm, (ap.1 _ (by simp [Wd.adr])).symm, (ap.1 _ (by simp [Wd.adr])).symm, (ap.1 _ (by simp [Wd.adr])).symm⟩
      have cW : c ≠ W.D ∧ c ≠ W.L ∧ c ≠ W.rw ∧ c ≠ W.cl := ⟨(ap.2 _ (by simp [Wd.adr])).symm, (ap.2 _ (by simp [Wd.adr])).symm, (ap.2 _ (by simp [Wd.adr])).symm, (ap.2 _ (by simp [Wd.adr])).symm⟩
      have sr := A.pr spot sm
      refine ⟨_, rfl, rfl, _, rfl, ite2 (fun _ => ?_) (fun _ => ?_)⟩
      · refine ⟨_, rfl, W.pl, rfl, ⟨_, SqL.of A2.hp⟩, ?_⟩
        refine for_list (xs := W.pool.map V.int) (fun j σ H' => Box H' b c ∧ Fr (b :: W.mut) H H' ∧ ∃ (cs' : Clk) (v9 : Option V), WAt CD CB CS H' W ms cs' i ∧ σ = [some (.ref b), some (.ref W.t), some (.int now), some (.ref W.o), some (.ref W.b), some (.ref W.sd), some (.ref W.pl), some (.int spot), some (.int way), v9, none, none, none]) ⟨B2, ub X02, cs, _, A2, rfl⟩ (fun j σ H' _ pv => ?_) (fun j v σ H3 hv pv => ?_) (fun σ H3 pv => ?_)
        · obtain ⟨_, _, cs', v9, A', _⟩ := pv
          exact SqL.of A'.hp
        · obtain ⟨B3, X3, cs3, v9, A3, rfl⟩ := pv
          obtain ⟨s1, es, rfl⟩ := map_getE hv
          refine ⟨_, rfl, _, rfl, _, rfl, _, rfl, _, rfl, b, c, W, ms, cs3, i, s1, now, rfl, B3, ap, A3, List.mem_of_getElem? es, fun cs4 H4 B4 X4 A4 => ⟨_, rfl, iteF ⟨B4, X3.trans X4, cs4, _, A4, rfl⟩⟩⟩
        · obtain ⟨B3, X3, cs3, v9, A3, rfl⟩ := pv
          exact ⟨B3, X3, ms, cs3, _, _, _, _, A3.up (Nat.le_succ i), rfl⟩
      refine ⟨_, rfl, _, _, rfl, rfl, _, rfl, ite2 (fun _ => ?_) (fun _ => ?_)⟩
      · refine ⟨_, rfl, _, rfl, _, rfl, _, rfl, _, rfl, b, c, W, ms, cs, i, spot, now, rfl, B2, ap, A2, sm, fun cs4 H4 B4 X4 A4 => ⟨_, rfl, iteF ?_⟩⟩
        exact ⟨B4, (ub X02).trans X4, ms, cs4, _, _, _, _, A4.up (Nat.le_succ i), rfl⟩
      refine ⟨_, rfl, rfl, _, rfl, ite2 (fun _ => ?_) (fun _ => ?_)⟩
      · refine ⟨_, rfl, _, _, rfl, dgetS A2.hs s5_clocks, ?_⟩
        obtain ⟨kv, ek, ev, hc3⟩ := A2.hc.drop spot
        have ntc : ∀ a ∈ [W.cl], ∀ vs, H2 a ≠ some (.tup vs) := fun a m => A2.nt a (by rw [List.mem_singleton.mp m]; simp [Wd.mut])
        obtain ⟨o1, o2, o3, o4⟩ := A2.off (a := W.cl) (by simp [Wd.mut])
        obtain ⟨⟨DL, Dr, Dc, Dsd, Dpl⟩, _⟩ := A.ds
        refine ⟨_, rfl, W.cl, rfl, .inl ⟨_, .inl ek⟩, _, rfl, kv, .inl spot, ek, rfl, fun v e => ?_, fun e => ?_⟩
        case' refine_1 =>
          have X3 : Fr [W.cl] H2 (upd H2 W.cl (.dK (dropK kv (.inl spot)))) := (Fr.refl _ _).upd (.head _) (.dK ek) _
          generalize upd H2 W.cl (.dK (dropK kv (.inl spot))) = H3 at X3 hc3
        case' refine_2 =>
          rw [e] at ev
          have X3 : Fr [W.cl] H2 H2 := Fr.refl _ _
          replace hc3 : TupD vsC H2 W.cl (dropA cs spot) := by
            rw [dropA_none (Option.isSome_eq_false_iff.mp ev.symm |> Option.isNone_iff_eq_none.mp)]
            exact A2.hc
        all_goals
          have hD3 := A2.hD.fr X3 (not_one Dc) ntc
          obtain ⟨dx, ho3⟩ := A2.ho.fr X3 (not_one o2)
          refine ⟨_, rfl, W.o, dx, _, rfl, ho3, fd_m.2.2.1, _, rfl, W.o, W.x, W.D, cs, spot, rfl, ⟨dx, ho3⟩, hD3, fun H4 X4 hD4 => ?_⟩
          have X24 : Fr [W.D, W.cl] H2 H4 := (X3.mono fun a m => .tail _ m).trans (X4.mono fun a m => by rw [List.mem_singleton.mp m]; exact .head _)
          have A4 := A2.setC X24 hD4 (hc3.fr X4 (not_one Dc.symm) (tup_nt hD3)) (nd_dropA A.ndc) (ck_drop A.ck)
          refine ⟨_, rfl, iteF ?_⟩
          refine ⟨B2.fr X24 (not_two bW.1 bW.2.2.2) (not_two cW.1 cW.2.2.2), (ub X02).trans (X24.mono fun a m => ?_), _, _, _, _, _, _, A4.up (Nat.le_succ i), rfl⟩
          simp only [List.mem_cons, List.not_mem_nil, or_false] at m
          rcases m with rfl | rfl
          · exact mem_mut (.inl rfl)
          · exact mem_mut (.inr (.inr (.inr rfl)))
      refine ⟨_, rfl, _, _, rfl, rfl, _, rfl, ite2 (fun _ => ?_) (fun _ => ?_)⟩
      · refine ⟨_, rfl, _, rfl, _, rfl, b, c, W, ms, cs, i, spot, rfl, B2, ap, A2, il, sr.1, sr.2, fun a s' H3 B3 X3 ha es so sl rk => ?_⟩
        have A3 := A2.box B2 ap.1 X3
        refine ⟨_, rfl, _, _, rfl, dgetS A3.hs s5_rows, ?_⟩
        obtain ⟨kv, g1, hr4⟩ := A3.hr.put spot ha (Nat.le_trans A3.lm (by decide))
        obtain ⟨kv0, e0⟩ := A3.hr.at_
        obtain ⟨⟨DL, Dr, Dc, Dsd, Dpl⟩, ⟨Lr, Lc, Ls, Lp⟩, ⟨rc, rs, rp⟩, ⟨cs1, cp⟩, sp⟩ := A.ds
        refine ⟨_, rfl, _, rfl, _, rfl, W.rw, _, rfl, g1, ?_⟩
        have X4 : Fr [W.rw] H3 (upd H3 W.rw (.dK kv)) := (Fr.refl _ _).upd (.head _) (.dK e0) _
        generalize upd H3 W.rw (.dK kv) = H4 at X4 hr4
        have nt3 : ∀ a ∈ [W.rw], ∀ vs, H3 a ≠ some (.tup vs) := fun a m => A3.nt a (by rw [List.mem_singleton.mp m]; simp [Wd.mut])
        obtain ⟨o1, o2, o3, o4⟩ := A3.off (a := W.rw) (by simp [Wd.mut])
        have hL4 := A3.hL.fr X4 (not_one Lr) nt3
        have hb4 := A3.hb.fr X4 (not_one o3)
        have hx4 := A3.hx.fr X4 (not_one o4)
        have ha4 := X4.tup ha (fun m => nt3 _ m _ ha)
        obtain ⟨dxb, ebk⟩ := hb4
        subst es
        refine ⟨_, rfl, W.b, dxb, _, rfl, ebk, fb_take, _, rfl, W.b, W.x, W.L, a, W.n, ms, s', rfl, ⟨dxb, ebk⟩, hx4.sn, A.n8, hL4, Nat.le_trans A.lm (by decide), A.mo, ha4, so, (fun z => absurd z (by omega)), fun _ H5 X5 hL5 => ?_⟩
        have ntL : ∀ a ∈ [W.L], ∀ vs, H4 a ≠ some (.tup vs) := fun a m vs z => by
          obtain ⟨kv, e⟩ := hL4.at_
          rw [List.mem_singleton.mp m, e] at z
          cases z
        have X35 : Fr [W.L, W.rw] H3 H5 := (X4.mono fun a m => .tail _ m).trans (X5.mono fun a m => by rw [List.mem_singleton.mp m]; exact .head _)
        have A5 : WAt CD CB CS H5 W (putA ms s'.seat s') cs (i + 1) := A3.setM X35 hL5 (hr4.fr X5 (not_one Lr.symm) ntL) (nd_putA A.ndm) (fun k s e => by
          rw [lk_putA] at e
          split at e
          · injection e with e
            subst e
            exact ⟨(by assumption : k = _).symm, so, sl⟩
          · obtain ⟨z1, z2, z3⟩ := A.ok k s e
            exact ⟨z1, z2, by omega⟩)
        refine ⟨B3.fr X35 (not_two bW.2.1 bW.2.2.1) (not_two cW.2.1 cW.2.2.1), ((ub (X02.trans X3)).trans (X35.mono fun a m => ?_)), _, _, _, _, _, _, A5, rfl⟩
        simp only [List.mem_cons, List.not_mem_nil, or_false] at m
        rcases m with rfl | rfl
        · exact mem_mut (.inr (.inl rfl))
        · exact mem_mut (.inr (.inr (.inl rfl)))
      · exact ⟨B2, ub X02, ms, cs, _, _, _, _, A2.up (Nat.le_succ i), rfl⟩
    · rintro σ H3 ⟨B3, X3, ms', cs', v9, v10, v11, v12, A3, rfl⟩
      refine ⟨_, rfl, b, c, 3, rfl, B3, by decide, by decide +kernel, fun d2 H4 a1 a2 B4 X4 => ?_⟩
      have A4 := A3.box B3 ap.1 X4
      have X04 : Fr (b :: W.mut) H H4 := X3.trans (X4.mono fun a m => by rw [List.mem_singleton.mp m]; exact .head _)
      refine ⟨rfl, _, rfl, ite2 (fun _ => ?_) (fun _ => k ms' cs' H4 B4 X04 A4)⟩
      refine ⟨_, rfl, _, rfl, _, rfl, by show 1 ≤ sizeLine; decide, fun l nl => ?_⟩
      exact ⟨W, ms', cs', i + 1, l, [spot], rfl, A4.fr0 (Fr.new0 nl _), upd_same, k ms' cs' _ (B4.new nl _) (X04.new nl _) (A4.fr0 (Fr.new0 nl _))⟩
/-- two worlds beside a box -/
structure Two (CD CB CS : Addr) (H : Hp) (b c : Addr) (W U : Wd) (i : Nat) : Prop where
  B : Box H b c
  a1 : Apart W b c
  a2 : Apart U b c
  w : ∃ ms cs, WAt CD CB CS H W ms cs i
  v : ∃ ms cs, WAt CD CB CS H U ms cs i
  d : ∀ a ∈ W.adr, a ∉ U.adr
theorem Two.symm {H : Hp} {b c : Addr} {W U : Wd} {i : Nat} (t : Two CD CB CS H b c W U i) : Two CD CB CS H b c U W i := ⟨t.B, t.a2, t.a1, t.v, t.w, fun a m n => t.d a n m⟩
theorem mut_adr {W : Wd} {a : Addr} (m : a ∈ W.mut) : a ∈ W.adr := by
  unfold Wd.mut at m
  simp only [List.mem_cons, List.not_mem_nil, or_false] at m
  rcases m with rfl | rfl | rfl | rfl <;> simp [Wd.adr]
theorem Two.step {H H' : Hp} {b c : Addr} {W U : Wd} {i j : Nat} (t : Two CD CB CS H b c W U i) (h : i ≤ j) (B' : Box H' b c) (X : Fr (b :: W.mut) H H') (w' : ∃ ms cs, WAt CD CB CS H' W ms cs j) : Two CD CB CS H' b c W U j := by
  obtain ⟨ms, cs, A⟩ := t.v
  obtain ⟨ms1, cs1, A1⟩ := t.w
  refine ⟨B', t.a1, t.a2, w', ⟨ms, cs, (A.fr X (fun a m n => ?_) fun a m vs => ?_).up h⟩, t.d⟩
  · rcases List.mem_cons.mp n with e | n
    · exact t.a2.1 a m e
    · exact t.d a (mut_adr n) m
  · rcases List.mem_cons.mp m with e | m
    · exact t.B.nt a (by rw [e]; exact .head _) vs
    · exact A1.nt a m vs
theorem Two.box {H H' : Hp} {b c : Addr} {W U : Wd} {i : Nat} (t : Two CD CB CS H b c W U i) (B' : Box H' b c) (X : Fr [b] H H') : Two CD CB CS H' b c W U i := by
  obtain ⟨ms1, cs1, A1⟩ := t.w
  exact t.step (Nat.le_refl i) B' (X.mono fun a m => by rw [List.mem_singleton.mp m]; exact .head _) ⟨_, _, A1.box t.B t.a1.1 X⟩
theorem Two.fr0 {H H' : Hp} {b c : Addr} {W U : Wd} {i : Nat} (t : Two CD CB CS H b c W U i) (X : Fr [] H H') : Two CD CB CS H' b c W U i := t.box (t.B.fr X not_nil not_nil) (X.mono fun a m => nomatch m)
theorem f_law (T : Bl mg) (c_law_box : Cal P w K mg base 1 "_law_box" (spBox K) []) (c_law_draw : Cal P w K mg base 1 "_law_draw" spDraw []) (c_law_made : Cal P w K mg base 8 "_law_made" (spMade CD CB CS) []) (c_law_row_holds : Cal P w K mg base 6 "_law_row_holds" (spRow CD CB CS) []) (c_law_moment : Cal P w K mg base 2 "_law_moment" (spMoment CD CB CS) [])
    (c_law_due_holds : Cal P w K mg base 3 "_law_due_holds" (spHolds CD CB CS) []) (c_law_since_holds : Cal P w K mg base 2 "_law_since_holds" (spSinceL CD CB CS) []) {fa : Addr} {fd : FuncData} (F : C8.Fun K "law" "law" s_law fa fd) : FnOk P w K mg base C8.CX0 9 fa fd ["script"] (spLaw K) := by
  refine C8.fn0 F sc_law (fun vs H Q E h => ?_) (fun cdv A outer s H vs Q E hr h => ?_)
  · obtain ⟨a, ns, rfl, _⟩ := h
    rfl
  · obtain ⟨sc, is, rfl, hS, hl, k⟩ := h
    refine ⟨_, (pss_cons (ps_set (i := 1) sc_law.nd rfl (Or.inl rfl) (pe_c c_law_box hr (by decide) rfl (pa_cons (pv 0) pa_nil)))
      (pss_cons (ps_set (i := 2) sc_law.nd rfl (Or.inl rfl) (pe_op op_add pe_int (pe_c c_law_draw hr (by decide) rfl (pa_cons (pv 1) (pa_cons pe_int pa_nil)))))
      (pss_cons (ps_set (i := 3) sc_law.nd rfl (Or.inl rfl) (pe_op op_mul (pe_op op_pow pe_int pe_int) (pe_callTy call_int1 (by rfl) T.int (by decide +kernel) (pa_cons (pe_cmpR op_eq (pe_c c_law_draw hr (by decide) rfl (pa_cons (pv 1) (pa_cons pe_int pa_nil))) pe_int (nomark _)) pa_nil))))
      (pss_cons (ps_set (i := 4) sc_law.nd rfl (Or.inl rfl) (pe_lst (pa_cons (pe_c c_law_made hr (by decide) rfl (pa_cons (pv 1) pa_nil)) (pa_cons (pe_c c_law_made hr (by decide) rfl (pa_cons (pv 1) pa_nil)) pa_nil))))
      (pss_cons (ps_for PassesOwn.never rfl (pi_range1 rfl T.range (pa_cons (pv 2) pa_nil)) (pg_name (i := 5) sc_law.nd rfl (Or.inl rfl)) (pss_cons (ps_set (i := 6) sc_law.nd rfl (Or.inl rfl) (pe_c c_law_draw hr (by decide) rfl (pa_cons (pv 1) (pa_cons pe_int pa_nil))))
      (pss_cons (ps_if (pt_not (pt_val (pe_c c_law_row_holds hr (by decide) rfl (pa_cons (pv 1) (pa_cons (pe_ix ix_list (pv 4) (pv 6) (fun _ _ => rfl)) (pa_cons (pv 3) pa_nil)))))) (pss_one (ps_ret pe_bl)) pss_nil)
      (pss_cut (ps_if (pt_cmpR op_eq (pe_c c_law_draw hr (by decide) rfl (pa_cons (pv 1) (pa_cons pe_int pa_nil))) pe_int (nomark _)) (pss_cons (ps_set (i := 7) sc_law.nd rfl (Or.inl rfl) (pe_c c_law_moment hr (by decide) rfl (pa_cons (pv 1) (pa_cons (pe_ix ix_tup (pe_ix ix_list (pv 4) (pv 6) (fun _ _ => rfl)) pe_int (fun _ _ => rfl)) (pa_cons (pv 3) pa_nil)))))
      (pss_cons (ps_if (pt_not (pt_val (pe_c c_law_due_holds hr (by decide) rfl (pa_cons (pe_ix ix_tup (pe_ix ix_list (pv 4) (pv 6) (fun _ _ => rfl)) pe_int (fun _ _ => rfl)) (pa_cons (pe_ix ix_tup (pe_ix ix_list (pv 4) (pv 6) (fun _ _ => rfl)) pe_int (fun _ _ => rfl)) (pa_cons (pe_ix ix_tup (pe_ix ix_list (pv 4) (pv 6) (fun _ _ => rfl)) pe_int (fun _ _ => rfl)) (pa_cons (pv 7) pa_nil))))))) (pss_one (ps_ret pe_bl)) pss_nil)
      (pss_one (ps_if (pt_cmpR op_eq (pe_c c_law_draw hr (by decide) rfl (pa_cons (pv 1) (pa_cons pe_int pa_nil))) pe_int (nomark _)) (pss_one (ps_set (i := 3) sc_law.nd rfl (Or.inl rfl) (pe_callB (call_max2 rfl) (by rfl) T.max (by decide +kernel) (pa_cons (pv 3) (pa_cons (pv 7) pa_nil))))) pss_nil)))) pss_nil)
      (pss_cons (ps_set (i := 3) sc_law.nd rfl (Or.inl rfl) (pe_op op_add (pv 3) (pe_c c_law_draw hr (by decide) rfl (pa_cons (pv 1) (pa_cons pe_int pa_nil)))))
      (pss_one (ps_if (pt_cmpR op_eq (pe_c c_law_draw hr (by decide) rfl (pa_cons (pv 1) (pa_cons pe_int pa_nil))) pe_int (nomark _)) (pss_one (ps_set (i := 3) sc_law.nd rfl (Or.inl rfl) (pe_op op_add (pv 3) (pe_c c_law_draw hr (by decide) rfl (pa_cons (pv 1) (pa_cons pe_int pa_nil)))))) pss_nil)))))))
      (pss_cons (ps_for PassesOwn.never rfl (pi_list (pv 4)) (pg_name (i := 8) sc_law.nd rfl (Or.inl rfl)) (pss_cons (ps_set (i := 9) sc_law.nd rfl (Or.inl rfl) (pe_op op_cat (pe_dget (u1 hr) (pe_ix ix_tup (pv 8) pe_int (fun _ _ => rfl)) pe_str (fun _ _ => rfl)) (pe_callB cr_sortedI (by rfl) T.sorted (by decide +kernel) (pa_cons (pe_callTy (call_listD rfl) (by rfl) T.list (by decide +kernel) (pa_cons (pe_dget (u1 hr) (pe_ix ix_tup (pv 8) pe_int (fun _ _ => rfl)) pe_str (fun _ _ => rfl)) pa_nil)) pa_nil))))
      (pss_cons (ps_if (pt_not (pt_val (pe_c c_law_since_holds hr (by decide) rfl (pa_cons (pe_ix ix_tup (pv 8) pe_int (fun _ _ => rfl)) (pa_cons (pe_ix ix_tup (pv 8) pe_int (fun _ _ => rfl)) (pa_cons (pv 9) pa_nil)))))) (pss_one (ps_ret pe_bl)) pss_nil)
      (pss_one (ps_if (pt_not (pt_val (pe_c c_law_due_holds hr (by decide) rfl (pa_cons (pe_ix ix_tup (pv 8) pe_int (fun _ _ => rfl)) (pa_cons (pe_ix ix_tup (pv 8) pe_int (fun _ _ => rfl)) (pa_cons (pe_ix ix_tup (pv 8) pe_int (fun _ _ => rfl)) (pa_cons (pv 3) pa_nil))))))) (pss_one (ps_ret pe_bl)) pss_nil)))))
      (pss_one (ps_ret pe_bl)))))))), ?_⟩
    refine ⟨_, rfl, sc, is, rfl, hS, hl, fun b c H1 nb nc B1 X1 => ?_⟩
    refine ⟨_, rfl, b, c, 41, rfl, B1, by decide, by decide +kernel, fun d1 H2 m0 m1 B2 X2 => ?_⟩
    refine ⟨_, _, rfl, rfl, ?_⟩
    refine ⟨_, _, rfl, rfl, ⟨by decide, by decide, by decide⟩, ?_⟩
    refine ⟨_, rfl, b, c, 8, rfl, B2, by decide, by decide +kernel, fun d2 H3 e0 e1 B3 X3 => ⟨rfl, .inr ⟨_, rfl, ?_⟩⟩⟩
    refine ⟨_, _, rfl, rfl, by cases decide (V.int d2 = V.int 0) <;> exact .inl ⟨by decide, by decide⟩, ?_⟩
    refine ⟨_, rfl, b, c, rfl, B3, fun W1 ms1 H4 nw1 B4 X4 A1 => ?_⟩
    refine ⟨_, rfl, b, c, rfl, B4, fun W2 ms2 H5 nw2 B5 X5 A2 => ?_⟩
    have ap1 : Apart W1 b c := ⟨fun a m => (B3.nw_ne (nw1 a m)).1, fun a m => (B3.nw_ne (nw1 a m)).2⟩
    have ap2 : Apart W2 b c := ⟨fun a m => (B4.nw_ne (nw2 a m)).1, fun a m => (B4.nw_ne (nw2 a m)).2⟩
    have t5 : Two CD CB CS H5 b c W1 W2 0 := ⟨B5, ap1, ap2, ⟨_, _, A1.box B4 ap1.1 X5⟩, ⟨_, _, A2⟩, fun a m n => A1.at_ a m (nw2 a n)⟩
    refine ⟨by show 2 ≤ sizeLine; decide, fun mq nmq => ?_⟩
    have t6 := t5.fr0 (Fr.new0 nmq (.lst [.ref W1.t, .ref W2.t]))
    have hm6 : upd H5 mq (.lst [.ref W1.t, .ref W2.t]) mq = some (.lst [.ref W1.t, .ref W2.t]) := upd_same
    have mqb : mq ≠ b := (B5.new_ne nmq).1
    have mq1 : ∀ a ∈ W1.adr, mq ≠ a := fun a m z => by
      obtain ⟨ms, cs, A⟩ := t5.w
      exact A.at_ a m (by rw [← z]; exact .of nmq)
    have mq2 : ∀ a ∈ W2.adr, mq ≠ a := fun a m z => by
      obtain ⟨ms, cs, A⟩ := t5.v
      exact A.at_ a m (by rw [← z]; exact .of nmq)
    generalize upd H5 mq (.lst [.ref W1.t, .ref W2.t]) = H6 at t6 hm6
    refine ⟨_, rfl, _, rfl, by omega, by omega, ?_⟩
    refine for_range (lo := 0) (n := _) (fun i σ H' => Two CD CB CS H' b c W1 W2 i ∧ H' mq = some (.lst [.ref W1.t, .ref W2.t]) ∧ ∃ (now : Int) (v5 v6 v7 : Option V), σ = [some (.ref sc), some (.ref b), some (.int (10 + d1)), some (.int now), some (.ref mq), v5, v6, v7, none, none]) ⟨t6, hm6, _, _, _, _, rfl⟩ ?_ ?_
    · rintro i σ H7 hi ⟨t7, hm7, now, v5, v6, v7, rfl⟩
      have i1 : i ≤ 1000 := by omega
      refine ⟨_, rfl, b, c, 2, rfl, t7.B, by decide, by decide +kernel, fun wh H8 e2 e3 B8 X8 => ?_⟩
      have t8 := t7.box B8 X8
      have hm8 := X8.lst hm7 (not_one mqb)
      obtain ⟨W, U, hw, tw, mqw, back⟩ : ∃ W U : Wd, atI [V.ref W1.t, V.ref W2.t] wh = some (V.ref W.t) ∧ Two CD CB CS H8 b c W U i ∧ (∀ a ∈ W.adr, mq ≠ a) ∧ ∀ H' j, Two CD CB CS H' b c W U j → Two CD CB CS H' b c W1 W2 j := by
        rcases Int.lt_or_le wh 1 with z | z
        · have : wh = 0 := by omega
          subst this
          exact ⟨W1, W2, rfl, t8, mq1, fun _ _ t => t⟩
        · have : wh = 1 := by omega
          subst this
          exact ⟨W2, W1, rfl, t8.symm, mq2, fun _ _ t => t.symm⟩
      obtain ⟨msW, csW, A8⟩ := tw.w
      have nmq : ∀ a ∈ b :: W.mut, mq ≠ a := fun a m => by
        rcases List.mem_cons.mp m with e | m
        · rw [e]; exact mqb
        · exact mqw a (mut_adr m)
      refine ⟨_, rfl, _, rfl, _, rfl, _, _, _, _, rfl, rfl, SqL.of hm8, hw, _, rfl, b, c, W, msW, csW, i, now, rfl, tw.B, tw.a1, A8, i1, fun ms9 cs9 H9 B9 X9 A9 => ⟨_, rfl, iteF ?_⟩⟩
      have t9 := tw.step (Nat.le_succ i) B9 X9 ⟨_, _, A9⟩
      have hm9 := X9.lst hm8 (fun m => nmq mq m rfl)
      refine ⟨fun σ H' => Two CD CB CS H' b c W U (i + 1) ∧ H' mq = some (.lst [.ref W1.t, .ref W2.t]) ∧ ∃ (now : Int) (v7 : Option V), σ = [some (.ref sc), some (.ref b), some (.int (10 + d1)), some (.int now), some (.ref mq), some (.int (0 + (i : Int))), some (.int wh), v7, none, none], ?_, ?_⟩
      · refine ⟨_, rfl, b, c, 2, rfl, t9.B, by decide, by decide +kernel, fun d3 H10 e4 e5 B10 X10 => ?_⟩
        have t10 := t9.box B10 X10
        have hm10 := X10.lst hm9 (not_one mqb)
        refine ⟨rfl, _, rfl, ite2 (fun _ => ?_) (fun _ => ⟨t10, hm10, _, _, rfl⟩)⟩
        have A10 := A9.box B9 tw.a1.1 X10
        refine ⟨_, rfl, _, rfl, _, rfl, _, _, _, _, rfl, rfl, SqL.of hm10, hw, _, _, _, _, rfl, rfl, SqT.of A10.ht, rfl, _, rfl, b, c, W, ms9, cs9, i + 1, now, rfl, B10, tw.a1, A10, fun z H11 B11 X11 => ?_⟩
        have t11 := t10.box B11 X11
        have hm11 := X11.lst hm10 (not_one mqb)
        have A11 := A10.box B10 tw.a1.1 X11
        have hot := SqT.of (K := (cxOf C8.CX0 P w K mg base n_law "law" (C8.fnScope s_law) fa cdv A outer s H E).nox.K) A11.ht
        refine ⟨_, rfl, _, rfl, _, _, _, _, rfl, rfl, SqL.of hm11, hw, _, _, _, _, rfl, rfl, hot, rfl, _, rfl, _, rfl, _, _, _, _, rfl, rfl, SqL.of hm11, hw, _, _, _, _, rfl, rfl, hot, rfl, _, rfl, _, rfl, _, _, _, _, rfl, rfl, SqL.of hm11, hw, _, _, _, _, rfl, rfl, hot, rfl, _, rfl, W, ms9, cs9, i + 1, z, rfl, A11, fun H12 X12 => ⟨_, rfl, iteF ?_⟩⟩
        have t12 := t11.fr0 X12
        have hm12 := X12.lst hm11 not_nil
        refine ⟨_, rfl, b, c, 3, rfl, t12.B, by decide, by decide +kernel, fun d4 H13 e6 e7 B13 X13 => ?_⟩
        have t13 := t12.box B13 X13
        have hm13 := X13.lst hm12 (not_one mqb)
        refine ⟨rfl, _, rfl, ite2 (fun _ => ?_) (fun _ => ⟨t13, hm13, _, _, rfl⟩)⟩
        exact ⟨_, rfl, _, rfl, _, _, rfl, t13, hm13, _, _, rfl⟩
      · rintro σ H10 ⟨t10, hm10, now, v7, rfl⟩
        refine ⟨_, rfl, _, rfl, b, c, 4, rfl, t10.B, by decide, by decide +kernel, fun d5 H11 e8 e9 B11 X11 => ?_⟩
        have t11 := t10.box B11 X11
        have hm11 := X11.lst hm10 (not_one mqb)
        refine ⟨_, _, rfl, rfl, ?_⟩
        refine ⟨_, rfl, b, c, 8, rfl, B11, by decide, by decide +kernel, fun d6 H12 f0 f1 B12 X12 => ?_⟩
        have t12 := t11.box B12 X12
        have hm12 := X12.lst hm11 (not_one mqb)
        refine ⟨rfl, _, rfl, ite2 (fun _ => ?_) (fun _ => ⟨back _ _ t12, hm12, _, _, _, _, rfl⟩)⟩
        refine ⟨_, rfl, _, rfl, b, c, 21, rfl, B12, by decide, by decide +kernel, fun d7 H13 f2 f3 B13 X13 => ?_⟩
        exact ⟨_, _, rfl, rfl, back _ _ (t12.box B13 X13), X13.lst hm12 (not_one mqb), _, _, _, _, rfl⟩
    · rintro σ H7 ⟨t7, hm7, now, v5, v6, v7, rfl⟩
      refine ⟨_, rfl, mq, rfl, ⟨_, SqL.of hm7⟩, ?_⟩
      refine for_list (xs := [.ref W1.t, .ref W2.t]) (fun j σ H' => Two CD CB CS H' b c W1 W2 (10 + d1).toNat ∧ H' mq = some (.lst [.ref W1.t, .ref W2.t]) ∧ ∃ v8 v9 : Option V, σ = [some (.ref sc), some (.ref b), some (.int (10 + d1)), some (.int now), some (.ref mq), v5, v6, v7, v8, v9]) ⟨t7, hm7, _, _, rfl⟩ (fun j σ H' _ pv => SqL.of pv.2.1) (fun j v σ H8 hv pv => ?_) (fun σ H8 pv => ?_)
      · obtain ⟨t8, hm8, v8, v9, rfl⟩ := pv
        obtain ⟨W, U, rfl, tw, back⟩ : ∃ W U : Wd, v = V.ref W.t ∧ Two CD CB CS H8 b c W U (10 + d1).toNat ∧ ∀ H' j, Two CD CB CS H' b c W U j → Two CD CB CS H' b c W1 W2 j := by
          match j, hv with
          | 0, hv => exact ⟨W1, W2, by injection hv with e; exact e.symm, t8, fun _ _ t => t⟩
          | 1, hv => exact ⟨W2, W1, by injection hv with e; exact e.symm, t8.symm, fun _ _ t => t.symm⟩
          | j + 2, hv => cases hv
        obtain ⟨ms, cs, A8⟩ := tw.w
        refine ⟨_, rfl, _, _, _, _, rfl, rfl, SqT.of A8.ht, rfl, _, _, rfl, dgetS A8.hs s5_pool, ?_⟩
        refine ⟨_, rfl, _, _, _, _, rfl, rfl, SqT.of A8.ht, rfl, _, _, rfl, dgetS A8.hs s5_rows, ?_⟩
        obtain ⟨kv, ekv, lkv, kkv⟩ := A8.hr.len
        refine ⟨W.rw, kv, rfl, .inl ekv, fun kl nkl => ?_⟩
        rw [keys_eq kkv]
        have X9 : Fr [] H8 (upd H8 kl (.lst ((ms.map Prod.fst).map V.int))) := Fr.new0 nkl _
        have hkl : upd H8 kl (.lst ((ms.map Prod.fst).map V.int)) kl = some (.lst ((ms.map Prod.fst).map V.int)) := upd_same
        generalize upd H8 kl (.lst ((ms.map Prod.fst).map V.int)) = H9 at X9 hkl
        refine ⟨kl, _, rfl, SqL.of hkl, fun ys sl perm srt nsl => ?_⟩
        have X10 := X9.new nsl (.lst (ys.map V.int))
        have hsl : upd H9 sl (.lst (ys.map V.int)) sl = some (.lst (ys.map V.int)) := upd_same
        generalize upd H9 sl (.lst (ys.map V.int)) = H10 at X10 hsl
        refine ⟨W.pl, sl, _, _, rfl, rfl, X10.lst A8.hp not_nil, hsl, ?_⟩
        refine ⟨by
          rw [List.length_map, List.length_map, perm.length_eq, List.length_map]
          have := A8.lm
          have := A8.p6
          exact Nat.le_trans (show W.pool.length + ms.length ≤ 1000 by omega) (by decide), fun sp nsp => ?_⟩
        rw [← List.map_append]
        have X11 := X10.new nsp (.lst ((W.pool ++ ys).map V.int))
        have hsp : upd H10 sp (.lst ((W.pool ++ ys).map V.int)) sp = some (.lst ((W.pool ++ ys).map V.int)) := upd_same
        generalize upd H10 sp (.lst ((W.pool ++ ys).map V.int)) = H11 at X11 hsp
        have A11 := A8.fr0 X11
        refine ⟨_, rfl, _, _, _, _, rfl, rfl, SqT.of A11.ht, rfl, _, rfl, _, _, _, _, rfl, rfl, SqT.of A11.ht, rfl, _, rfl, W, ms, cs, _, sp, W.pool ++ ys, rfl, A11, hsp, _, rfl, iteF ?_⟩
        refine ⟨_, rfl, _, _, _, _, rfl, rfl, SqT.of A11.ht, rfl, _, rfl, _, _, _, _, rfl, rfl, SqT.of A11.ht, rfl, _, rfl, _, _, _, _, rfl, rfl, SqT.of A11.ht, rfl, _, rfl, W, ms, cs, _, now, rfl, A11, fun H12 X12 => ⟨_, rfl, iteF ?_⟩⟩
        have X812 := X11.trans X12
        exact ⟨back _ _ (tw.fr0 X812), X812.lst hm8 not_nil, _, _, rfl⟩
      · exact k H8
end
end K27
namespace K27
open PySem PySem.Spec PyProof.Rows L2 C8 LamX UF
/-- from the names of the text to the law's promise -/
theorem fin {l : PySem.W.OpenLaw} {w : World} {K : PySem.W.Frag} {mg : Str → Option Value} {fa CS CD CB : Addr} (T : Bl mg) (D : Ds K mg CS CD CB) (M : RanksP K w mg "MARK_RANKS") (L : LawP K mg s_law fa) :
    ∃ fd : FuncData, (∀ (s : Shared) (u : Value), BindsTo s fd ⟨[u], []⟩ [("script", u)]) ∧ ∀ base : Heap, K.In base → base.Ns mainGlobals mg → FnOk l.prog w K mg base C8.CX0 9 fa fd ["script"] (spLaw K) := by
  obtain ⟨fd, FL, bt⟩ := L
  refine ⟨fd, bt, fun base _ _ => ?_⟩
  have p_draw : Cal l.prog w K mg base 1 "_law_draw" spDraw [] := c_law_draw T D.d_law_draw
  have p_int : Cal l.prog w K mg base 1 "is_integer" spInt [] := c_is_integer T D.d_is_integer
  have p_check : Cal l.prog w K mg base 2 "check_field" spCheck [] := c_check_field p_int D.d_check_field
  have p_st : Prp l.prog w K mg base 1 CS "seats" (spSeats CS) := p_seats D.t_Setting
  have p_below : Cal l.prog w K mg base 2 "is_below" spBelow [] := c_is_below p_int D.d_is_below
  have p_plain : Cal l.prog w K mg base 1 "is_plain" spPlain [] := c_is_plain T D.g_PLAIN_SIGNS D.d_is_plain
  have p_worthy : Cal l.prog w K mg base 2 "is_worth" spWorthP [] := c_is_worth p_plain D.g_MOST_WORTH D.d_is_worth
  have p_chk : Cal l.prog w K mg base 4 "check_saying" (spChkSay CS) [] := c_check_saying (c_is_saying T p_st p_below p_worthy D.g_MARKS D.d_is_saying) D.d_check_saying
  have p_rank : Cal l.prog w K mg base 1 "rank" spRankP [] := c_rank M D.d_rank
  have p_latest : Cal l.prog w K mg base 5 "latest_of" (spLatest CS) [] := c_latest_of p_chk p_rank D.d_latest_of
  have p_Book : Mak l.prog w K mg base 6 "Book" CB (spBook CB CS) [] := c_Book D.t_Book p_latest
  have p_of : Met l.prog w K mg base 1 CB "of" (spOf CB) [] := m_of D.t_Book
  have p_take : Met l.prog w K mg base 5 CB "take" (spTake CB CS) [] := m_take D.t_Book p_chk p_rank p_of
  have p_rows : Met l.prog w K mg base 2 CB "rows" (spRowsB CB) [] := m_rows T D.t_Book (m_held T D.t_Book)
  have p_Doubts : Mak l.prog w K mg base 1 "Doubts" CD (spDbts CD) [] := c_Doubts D.t_Doubts
  have p_doubt : Met l.prog w K mg base 1 CD "doubt" (spDoubt CD) [] := m_doubt D.t_Doubts
  have p_lift : Met l.prog w K mg base 1 CD "lift" (spLift CD) [] := m_lift D.t_Doubts
  have p_since : Met l.prog w K mg base 1 CD "since" (spSinceD CD) [] := m_sinceD D.t_Doubts
  have p_due : Met l.prog w K mg base 2 CD "due" (spDueD CD CB CS) [] := m_due T D.t_Doubts p_of (m_is_due D.t_Setting D.t_Doubts)
  have p_marks : Cal l.prog w K mg base 1 "_law_marks" spMarks [] := c_law_marks D.d_law_marks
  have p_mark : Cal l.prog w K mg base 2 "_law_mark" spMark [] := c_law_mark p_draw D.d_law_mark
  have p_worth : Cal l.prog w K mg base 2 "_law_worth" spWorth [] := c_law_worth T p_draw D.d_law_worth
  have p_made : Cal l.prog w K mg base 8 "_law_made" (spMade CD CB CS) [] := c_law_made T p_draw (c_law_bits p_draw D.d_law_bits) p_marks p_mark p_worth (c_law_setting D.t_Setting p_check p_draw D.d_law_setting) p_Doubts p_Book D.d_law_made
  have p_whole : Cal l.prog w K mg base 1 "_law_is_whole" spWh [] := c_law_is_whole T D.d_law_is_whole
  have p_sholds : Cal l.prog w K mg base 2 "_law_since_holds" (spSinceL CD CB CS) [] := c_law_since_holds T p_whole p_since D.d_law_since_holds
  have p_dholds : Cal l.prog w K mg base 3 "_law_due_holds" (spHolds CD CB CS) [] := c_law_due_holds T (c_law_due T D.d_law_due) (c_law_sayings_are T p_whole D.d_law_sayings_are) p_due p_rows D.d_law_due_holds
  have p_next : Cal l.prog w K mg base 3 "_law_next_saying" (spNext CD CB CS) [] := c_law_next_saying T p_draw p_marks p_mark p_worth D.d_law_next_saying
  have p_ldoubt : Cal l.prog w K mg base 3 "_law_doubt" (spLDoubt CD CB CS) [] := c_law_doubt T (c_law_doubted_life T p_draw D.d_law_doubted_life) p_doubt D.d_law_doubt
  have p_row : Cal l.prog w K mg base 6 "_law_row_holds" (spRow CD CB CS) [] := c_law_row_holds T p_draw p_ldoubt p_lift p_next p_take p_sholds D.d_law_row_holds
  exact f_law T (c_law_box T D.d_law_box) p_draw p_made p_row (c_law_moment T p_draw D.d_law_moment) p_dholds p_sholds FL
theorem walk {l : PySem.W.OpenLaw} {q : Program} {loose : List Str} {XP : (Str → Option Value) → Heap → Prop} {YP : World → Heap → Prop} {d : DefRec} {K : Params → PySem.W.Frag} (hn : l.most = some 63) (hdf : d.params.defaults = [])
    (hY : ∀ (w : World) (h : Heap), YP w h → (K w.params).In h)
    (F : ∀ (w : World) (mg : Str → Option Value) (fa : Addr) (h : Heap), (K w.params).In h → h.Ns mainGlobals mg → mg d.name = some (.ref fa) →
      ∃ fd : FuncData, (∀ (s : Shared) (u : Value), BindsTo s fd ⟨[u], []⟩ [("script", u)]) ∧ ∀ base : Heap, (K w.params).In base → base.Ns mainGlobals mg → FnOk l.prog w (K w.params) mg base C8.CX0 9 fa fd ["script"] (spLaw (K w.params))) :
    PySem.W.WalkO q loose XP YP l.row.toRowW d [] (fun f vs => PySem.call f vs) := walkN ⟨rfl, by decide, by decide⟩ hn hdf hY F
end K27

set_option Elab.async false
set_option maxRecDepth 100000
open PySem PySem.W PyProof.Rows
set_option maxRecDepth 100000 in
set_option maxHeartbeats 0 in
theorem PySem.Challenge.cw_livingroll_k27_doubts_due_holds : PySem.Challenge.rw_livingroll_k27_doubts_due.Holds := by
  w_on; o_law; k_head; (case hw => w_witness2)
  k_fill
  refine K27.walk (l := PySem.Challenge.rw_livingroll_k27_doubts_due) rfl rfl (fun w h Y => PySem.W.kIn_of Y) ?F
  case F =>
    intro w mg fa h KX G hmg
    refine' K27.fin ?B ?D ?rkM ?L
    (case B =>
      refine' UF.bl_mk KX G ?z0 ?z1 ?z2 ?z3 ?z4 ?z5 ?z6 ?z7 ?z8 ?z9 ?z10 ?z11 ?z12 ?z13 ?z14 ?z15 ?z16 ?z17 ?z18 ?z19 ?z20
      (case z0 => k_is)
      (case z1 => k_is)
      (case z2 => k_is)
      (case z3 => k_is)
      (case z4 => k_is)
      (case z5 => k_is)
      (case z6 => k_is)
      (case z7 => k_is)
      (case z8 => k_is)
      (case z9 => k_is)
      (case z10 => k_is)
      (case z11 => k_is)
      (case z12 => k_is)
      (case z13 => k_is)
      (case z14 => k_is)
      (case z15 => k_is)
      (case z16 => k_is)
      (case z17 => k_is)
      (case z18 => k_is)
      (case z19 => k_is)
      (case z20 => k_is))
    (case D =>
      refine' @K27.Ds.mk _ _ _ _ _ ?is_integer ?is_below ?is_plain ?check_field ?check_saying ?is_saying ?is_worth ?rank ?format_saying ?format_worth ?latest_of ?law_box ?law_draw ?law_bits ?law_marks ?law_mark ?law_worth ?law_setting ?law_made ?law_next_saying ?law_doubted_life ?law_doubt ?law_moment ?law_due ?law_is_whole ?law_sayings_are ?law_due_holds ?law_since_holds ?law_row_holds ?t_Setting ?t_Doubts ?t_Book ?g_PLAIN_SIGNS ?g_MARKS ?g_MOST_WORTH
      (case t_Setting =>
        refine' K27.T_Setting.mk ?cl ?mgC ?n_bits ?n_patience ?n_room ?n_grace ?n_helpers ?k_MOST_BITS ?k_MOST_PATIENCE ?k_MOST_ROOM ?k_MOST_GRACE ?k_MOST_HELPERS ?ini ?p_seats
        (case mgC =>
          refine' PySem.W.mg_of KX G ?a
          (case a => k_is))
        (case cl =>
          refine' UF.cls_mk ?a ?b ?c ?d
          (case a => k_is)
          (case b => k_is)
          (case c => k_is)
          (case d => k_is))
        (case n_bits => (show PySem.W.findIn _ _ _ = some none); k_is)
        (case n_patience => (show PySem.W.findIn _ _ _ = some none); k_is)
        (case n_room => (show PySem.W.findIn _ _ _ = some none); k_is)
        (case n_grace => (show PySem.W.findIn _ _ _ = some none); k_is)
        (case n_helpers => (show PySem.W.findIn _ _ _ = some none); k_is)
        (case k_MOST_BITS =>
          refine' UF.con_mk ?a ?b ?c
          (case a => k_is)
          (case b => k_is)
          (case c => decide +kernel))
        (case k_MOST_PATIENCE =>
          refine' UF.con_mk ?a ?b ?c
          (case a => k_is)
          (case b => k_is)
          (case c => decide +kernel))
        (case k_MOST_ROOM =>
          refine' UF.con_mk ?a ?b ?c
          (case a => k_is)
          (case b => k_is)
          (case c => decide +kernel))
        (case k_MOST_GRACE =>
          refine' UF.con_mk ?a ?b ?c
          (case a => k_is)
          (case b => k_is)
          (case c => decide +kernel))
        (case k_MOST_HELPERS =>
          refine' UF.con_mk ?a ?b ?c
          (case a => k_is)
          (case b => k_is)
          (case c => decide +kernel))
        (case ini =>
          refine' UF.inid2_mk ?m ?a ?i ?kc ?l ?c ?k ?g1 ?g2
          (case m => k_is)
          (case a => k_is)
          (case i => k_is)
          (case kc => k_is)
          (case l => k_is)
          (case c => k_is)
          (case k => k_is)
          (case g1 => k_is)
          (case g2 => k_is))
        (case p_seats =>
          refine' UF.prop_mk ?a ?gt ?tk ?r ?l ?c (fun _ _ _ _ _ _ us hl => match us, hl with | [_], _ => rfl)
          (case a => k_is)
          (case gt => k_is)
          (case tk => k_is)
          (case r => k_is)
          (case l => k_is)
          (case c => k_is)))
      (case t_Doubts =>
        refine' K27.T_Doubts.mk ?cl ?mgC ?n_setting ?n_clocks ?ini ?m_doubt ?m_lift ?m_since ?m_due ?m_is_due
        (case mgC =>
          refine' PySem.W.mg_of KX G ?a
          (case a => k_is))
        (case cl =>
          refine' UF.cls_mk ?a ?b ?c ?d
          (case a => k_is)
          (case b => k_is)
          (case c => k_is)
          (case d => k_is))
        (case n_setting => (show PySem.W.findIn _ _ _ = some none); k_is)
        (case n_clocks => (show PySem.W.findIn _ _ _ = some none); k_is)
        (case ini =>
          refine' UF.ini_mk ?m ?a ?i ?kc ?l ?c (fun _ _ _ _ _ _ us hl => match us, hl with | [_, _], _ => rfl)
          (case m => k_is)
          (case a => k_is)
          (case i => k_is)
          (case kc => k_is)
          (case l => k_is)
          (case c => k_is))
        (case m_doubt =>
          refine' UF.meth_mk ?a ?i ?l ?c ?k (fun _ _ _ _ _ _ us hl => match us, hl with | [_, _, _, _], _ => rfl)
          (case a => k_is)
          (case i => k_is)
          (case l => k_is)
          (case c => k_is)
          (case k => k_is))
        (case m_lift =>
          refine' UF.meth_mk ?a ?i ?l ?c ?k (fun _ _ _ _ _ _ us hl => match us, hl with | [_, _], _ => rfl)
          (case a => k_is)
          (case i => k_is)
          (case l => k_is)
          (case c => k_is)
          (case k => k_is))
        (case m_since =>
          refine' UF.meth_mk ?a ?i ?l ?c ?k (fun _ _ _ _ _ _ us hl => match us, hl with | [_, _], _ => rfl)
          (case a => k_is)
          (case i => k_is)
          (case l => k_is)
          (case c => k_is)
          (case k => k_is))
        (case m_due =>
          refine' UF.meth_mk ?a ?i ?l ?c ?k (fun _ _ _ _ _ _ us hl => match us, hl with | [_, _, _], _ => rfl)
          (case a => k_is)
          (case i => k_is)
          (case l => k_is)
          (case c => k_is)
          (case k => k_is))
        (case m_is_due =>
          refine' UF.meth_mk ?a ?i ?l ?c ?k (fun _ _ _ _ _ _ us hl => match us, hl with | [_, _, _], _ => rfl)
          (case a => k_is)
          (case i => k_is)
          (case l => k_is)
          (case c => k_is)
          (case k => k_is)))
      (case t_Book =>
        refine' K27.T_Book.mk ?cl ?mgC ?n_setting ?n_latest ?ini ?m_take ?m_of ?m_rows ?m_held ?m_text ?m_contains ?m_len ?m_or ?m_eq
        (case mgC =>
          refine' PySem.W.mg_of KX G ?a
          (case a => k_is))
        (case cl =>
          refine' UF.cls_mk ?a ?b ?c ?d
          (case a => k_is)
          (case b => k_is)
          (case c => k_is)
          (case d => k_is))
        (case n_setting => (show PySem.W.findIn _ _ _ = some none); k_is)
        (case n_latest => (show PySem.W.findIn _ _ _ = some none); k_is)
        (case ini =>
          refine' UF.iniE_mk ?m ?a ?i ?kc ?l ?c ?k ?qT ?qE
          (case m => k_is)
          (case a => k_is)
          (case i => k_is)
          (case kc => k_is)
          (case l => k_is)
          (case c => k_is)
          (case k => k_is)
          (case qT => k_is)
          (case qE => k_is))
        (case m_take =>
          refine' UF.meth_mk ?a ?i ?l ?c ?k (fun _ _ _ _ _ _ us hl => match us, hl with | [_, _], _ => rfl)
          (case a => k_is)
          (case i => k_is)
          (case l => k_is)
          (case c => k_is)
          (case k => k_is))
        (case m_of =>
          refine' UF.meth_mk ?a ?i ?l ?c ?k (fun _ _ _ _ _ _ us hl => match us, hl with | [_, _], _ => rfl)
          (case a => k_is)
          (case i => k_is)
          (case l => k_is)
          (case c => k_is)
          (case k => k_is))
        (case m_rows =>
          refine' UF.meth_mk ?a ?i ?l ?c ?k (fun _ _ _ _ _ _ us hl => match us, hl with | [_], _ => rfl)
          (case a => k_is)
          (case i => k_is)
          (case l => k_is)
          (case c => k_is)
          (case k => k_is))
        (case m_held =>
          refine' UF.meth_mk ?a ?i ?l ?c ?k (fun _ _ _ _ _ _ us hl => match us, hl with | [_], _ => rfl)
          (case a => k_is)
          (case i => k_is)
          (case l => k_is)
          (case c => k_is)
          (case k => k_is))
        (case m_text =>
          refine' UF.meth_mk ?a ?i ?l ?c ?k (fun _ _ _ _ _ _ us hl => match us, hl with | [_], _ => rfl)
          (case a => k_is)
          (case i => k_is)
          (case l => k_is)
          (case c => k_is)
          (case k => k_is))
        (case m_contains =>
          refine' UF.meth_mk ?a ?i ?l ?c ?k (fun _ _ _ _ _ _ us hl => match us, hl with | [_, _], _ => rfl)
          (case a => k_is)
          (case i => k_is)
          (case l => k_is)
          (case c => k_is)
          (case k => k_is))
        (case m_len =>
          refine' UF.meth_mk ?a ?i ?l ?c ?k (fun _ _ _ _ _ _ us hl => match us, hl with | [_], _ => rfl)
          (case a => k_is)
          (case i => k_is)
          (case l => k_is)
          (case c => k_is)
          (case k => k_is))
        (case m_or =>
          refine' UF.meth_mk ?a ?i ?l ?c ?k (fun _ _ _ _ _ _ us hl => match us, hl with | [_, _], _ => rfl)
          (case a => k_is)
          (case i => k_is)
          (case l => k_is)
          (case c => k_is)
          (case k => k_is))
        (case m_eq =>
          refine' UF.meth_mk ?a ?i ?l ?c ?k (fun _ _ _ _ _ _ us hl => match us, hl with | [_, _], _ => rfl)
          (case a => k_is)
          (case i => k_is)
          (case l => k_is)
          (case c => k_is)
          (case k => k_is)))
      (case is_integer =>
        refine' UF.d0_mk KX G ?a ?l ?c ?k (fun _ _ _ _ _ _ us hl => match us, hl with | [_], _ => rfl)
        (case a => k_is)
        (case l => k_is)
        (case c => k_is)
        (case k => k_is))
      (case is_below =>
        refine' UF.d0_mk KX G ?a ?l ?c ?k (fun _ _ _ _ _ _ us hl => match us, hl with | [_, _], _ => rfl)
        (case a => k_is)
        (case l => k_is)
        (case c => k_is)
        (case k => k_is))
      (case is_plain =>
        refine' UF.d0_mk KX G ?a ?l ?c ?k (fun _ _ _ _ _ _ us hl => match us, hl with | [_, _], _ => rfl)
        (case a => k_is)
        (case l => k_is)
        (case c => k_is)
        (case k => k_is))
      (case check_field =>
        refine' UF.d0_mk KX G ?a ?l ?c ?k (fun _ _ _ _ _ _ us hl => match us, hl with | [_, _, _, _], _ => rfl)
        (case a => k_is)
        (case l => k_is)
        (case c => k_is)
        (case k => k_is))
      (case check_saying =>
        refine' UF.d0_mk KX G ?a ?l ?c ?k (fun _ _ _ _ _ _ us hl => match us, hl with | [_, _], _ => rfl)
        (case a => k_is)
        (case l => k_is)
        (case c => k_is)
        (case k => k_is))
      (case is_saying =>
        refine' UF.d0_mk KX G ?a ?l ?c ?k (fun _ _ _ _ _ _ us hl => match us, hl with | [_, _], _ => rfl)
        (case a => k_is)
        (case l => k_is)
        (case c => k_is)
        (case k => k_is))
      (case is_worth =>
        refine' UF.d0_mk KX G ?a ?l ?c ?k (fun _ _ _ _ _ _ us hl => match us, hl with | [_], _ => rfl)
        (case a => k_is)
        (case l => k_is)
        (case c => k_is)
        (case k => k_is))
      (case rank =>
        refine' UF.d0_mk KX G ?a ?l ?c ?k (fun _ _ _ _ _ _ us hl => match us, hl with | [_], _ => rfl)
        (case a => k_is)
        (case l => k_is)
        (case c => k_is)
        (case k => k_is))
      (case format_saying =>
        refine' UF.d0_mk KX G ?a ?l ?c ?k (fun _ _ _ _ _ _ us hl => match us, hl with | [_], _ => rfl)
        (case a => k_is)
        (case l => k_is)
        (case c => k_is)
        (case k => k_is))
      (case format_worth =>
        refine' UF.d0_mk KX G ?a ?l ?c ?k (fun _ _ _ _ _ _ us hl => match us, hl with | [_], _ => rfl)
        (case a => k_is)
        (case l => k_is)
        (case c => k_is)
        (case k => k_is))
      (case latest_of =>
        refine' UF.d0_mk KX G ?a ?l ?c ?k (fun _ _ _ _ _ _ us hl => match us, hl with | [_, _], _ => rfl)
        (case a => k_is)
        (case l => k_is)
        (case c => k_is)
        (case k => k_is))
      (case law_box =>
        refine' UF.d0_mk KX G ?a ?l ?c ?k (fun _ _ _ _ _ _ us hl => match us, hl with | [_], _ => rfl)
        (case a => k_is)
        (case l => k_is)
        (case c => k_is)
        (case k => k_is))
      (case law_draw =>
        refine' UF.d0_mk KX G ?a ?l ?c ?k (fun _ _ _ _ _ _ us hl => match us, hl with | [_, _], _ => rfl)
        (case a => k_is)
        (case l => k_is)
        (case c => k_is)
        (case k => k_is))
      (case law_bits =>
        refine' UF.d0_mk KX G ?a ?l ?c ?k (fun _ _ _ _ _ _ us hl => match us, hl with | [_], _ => rfl)
        (case a => k_is)
        (case l => k_is)
        (case c => k_is)
        (case k => k_is))
      (case law_marks =>
        refine' UF.d0_mk KX G ?a ?l ?c ?k (fun _ _ _ _ _ _ us hl => match us, hl with | [], _ => rfl)
        (case a => k_is)
        (case l => k_is)
        (case c => k_is)
        (case k => k_is))
      (case law_mark =>
        refine' UF.d0_mk KX G ?a ?l ?c ?k (fun _ _ _ _ _ _ us hl => match us, hl with | [_], _ => rfl)
        (case a => k_is)
        (case l => k_is)
        (case c => k_is)
        (case k => k_is))
      (case law_worth =>
        refine' UF.d0_mk KX G ?a ?l ?c ?k (fun _ _ _ _ _ _ us hl => match us, hl with | [_], _ => rfl)
        (case a => k_is)
        (case l => k_is)
        (case c => k_is)
        (case k => k_is))
      (case law_setting =>
        refine' UF.d0_mk KX G ?a ?l ?c ?k (fun _ _ _ _ _ _ us hl => match us, hl with | [_, _], _ => rfl)
        (case a => k_is)
        (case l => k_is)
        (case c => k_is)
        (case k => k_is))
      (case law_made =>
        refine' UF.d0_mk KX G ?a ?l ?c ?k (fun _ _ _ _ _ _ us hl => match us, hl with | [_], _ => rfl)
        (case a => k_is)
        (case l => k_is)
        (case c => k_is)
        (case k => k_is))
      (case law_next_saying =>
        refine' UF.d0_mk KX G ?a ?l ?c ?k (fun _ _ _ _ _ _ us hl => match us, hl with | [_, _, _], _ => rfl)
        (case a => k_is)
        (case l => k_is)
        (case c => k_is)
        (case k => k_is))
      (case law_doubted_life =>
        refine' UF.d0_mk KX G ?a ?l ?c ?k (fun _ _ _ _ _ _ us hl => match us, hl with | [_, _, _], _ => rfl)
        (case a => k_is)
        (case l => k_is)
        (case c => k_is)
        (case k => k_is))
      (case law_doubt =>
        refine' UF.d0_mk KX G ?a ?l ?c ?k (fun _ _ _ _ _ _ us hl => match us, hl with | [_, _, _, _, _], _ => rfl)
        (case a => k_is)
        (case l => k_is)
        (case c => k_is)
        (case k => k_is))
      (case law_moment =>
        refine' UF.d0_mk KX G ?a ?l ?c ?k (fun _ _ _ _ _ _ us hl => match us, hl with | [_, _, _], _ => rfl)
        (case a => k_is)
        (case l => k_is)
        (case c => k_is)
        (case k => k_is))
      (case law_due =>
        refine' UF.d0_mk KX G ?a ?l ?c ?k (fun _ _ _ _ _ _ us hl => match us, hl with | [_, _], _ => rfl)
        (case a => k_is)
        (case l => k_is)
        (case c => k_is)
        (case k => k_is))
      (case law_is_whole =>
        refine' UF.d0_mk KX G ?a ?l ?c ?k (fun _ _ _ _ _ _ us hl => match us, hl with | [_], _ => rfl)
        (case a => k_is)
        (case l => k_is)
        (case c => k_is)
        (case k => k_is))
      (case law_sayings_are =>
        refine' UF.d0_mk KX G ?a ?l ?c ?k (fun _ _ _ _ _ _ us hl => match us, hl with | [_, _], _ => rfl)
        (case a => k_is)
        (case l => k_is)
        (case c => k_is)
        (case k => k_is))
      (case law_due_holds =>
        refine' UF.d0_mk KX G ?a ?l ?c ?k (fun _ _ _ _ _ _ us hl => match us, hl with | [_, _, _, _], _ => rfl)
        (case a => k_is)
        (case l => k_is)
        (case c => k_is)
        (case k => k_is))
      (case law_since_holds =>
        refine' UF.d0_mk KX G ?a ?l ?c ?k (fun _ _ _ _ _ _ us hl => match us, hl with | [_, _, _], _ => rfl)
        (case a => k_is)
        (case l => k_is)
        (case c => k_is)
        (case k => k_is))
      (case law_row_holds =>
        refine' UF.d0_mk KX G ?a ?l ?c ?k (fun _ _ _ _ _ _ us hl => match us, hl with | [_, _, _], _ => rfl)
        (case a => k_is)
        (case l => k_is)
        (case c => k_is)
        (case k => k_is))
      (case g_PLAIN_SIGNS =>
        refine' UF.gcs_mk KX G ?e
        (case e => k_is))
      (case g_MARKS =>
        refine' UF.tup4s_mk KX G ?e ?l
        (case e => k_is)
        (case l => k_is))
      (case g_MOST_WORTH =>
        refine' UF.gci_mk KX G ?e
        (case e => k_is)))
    (case rkM =>
      refine' UF.ranks_mk KX G ?e ?l ?k ?n1 ?n2 ?n3 ?n4
      (case e => k_is)
      (case l => k_is)
      (case k => exact ⟨⟨_, _, rfl, rfl⟩, ⟨_, _, rfl, rfl⟩, ⟨_, _, rfl, rfl⟩, ⟨_, _, rfl, rfl⟩, trivial⟩)
      (case n1 => k_is)
      (case n2 => k_is)
      (case n3 => k_is)
      (case n4 => k_is))
    (case L =>
      refine' UF.law_mk KX G hmg ?aL ?lL ?cL (fun _ _ _ _ _ _ _ => rfl)
      (case aL => k_is)
      (case lL => k_is)
      (case cL => k_is))
