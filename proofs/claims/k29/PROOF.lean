import PyProof.Rows.All
import Wide.All
import OpenK.AllK
import Wide.FinOn
import HandS.Base
import HandS.Call
import HandS.List
import HandS.Comp
import HandS.Ends
import HandS.Text
import HandS.Words
import HandS.Codes
import HandS.Wide
import HandS.Dict
import HandS.Style
import HandS.Small
import HandS.Lambda
import HandS.IsInst
import HandS.Defaults
import HandS.MakeKwOnly
import HandS.Property
import HandS.CallRecv
import HandS.Conv
import HandS.Flow
import HandS.Strs
import HandS.EndTab
import KE.KDictZip
import KE.KItemsList
import HandS.Iter
import HandS.SortInts
import HandS.Walk
import HandS.DictComp
import HandS.WideBits
import HandS.More
import HandS.OwnEq
import PySem.Challenge.RW_livingroll_k29_whole_moments
set_option Elab.async false
set_option maxRecDepth 100000
set_option maxHeartbeats 4000000
set_option exponentiation.threshold 4096
/-! what stays between two heaps -/
namespace UF
open PySem PySem.Spec PyProof.Rows L2 C8 LamX

/-- none stands there, or a table of code -/
def Nw (H : Hp) (a : Addr) : Prop := ∀ o, H a = some o → ∃ ps, o = .tbl ps
theorem Nw.of {H : Hp} {a : Addr} (h : H a = none) : Nw H a := fun o e => by rw [h] at e; cases e
theorem ne_nw {H : Hp} {a b : Addr} {o : HO} (h : H a = some o) (n : Nw H b) (nt : ∀ ps, o ≠ .tbl ps := by intro ps z; cases z) : a ≠ b := fun e => by
  obtain ⟨ps, z⟩ := n o (by rw [← e]; exact h)
  exact nt ps z
/-- what stands there is no table and no code -/
def Pl (H : Hp) (a : Addr) : Prop := ∃ o, H a = some o ∧ (∀ ps, o ≠ .tbl ps) ∧ ∀ φ, o ≠ .ext φ
section
variable {H : Hp} {a : Addr}
theorem Pl.lst {xs : List V} (h : H a = some (.lst xs)) : Pl H a := ⟨_, h, fun _ z => (nomatch z), fun _ z => nomatch z⟩
theorem Pl.tup {xs : List V} (h : H a = some (.tup xs)) : Pl H a := ⟨_, h, fun _ z => (nomatch z), fun _ z => nomatch z⟩
theorem Pl.dK {xs : List (Key × V)} (h : H a = some (.dK xs)) : Pl H a := ⟨_, h, fun _ z => (nomatch z), fun _ z => nomatch z⟩
theorem Pl.dT {xs : List (List Key × V)} (h : H a = some (.dT xs)) : Pl H a := ⟨_, h, fun _ z => (nomatch z), fun _ z => nomatch z⟩
theorem Pl.ins {C dx : Addr} {fs : List (Str × V)} (h : H a = some (.ins C dx fs)) : Pl H a := ⟨_, h, fun _ z => (nomatch z), fun _ z => nomatch z⟩
end
/-- all that was tracked stays, but what stands at ds and tables; nothing is dropped (weak: tables may grow) -/
structure Fw (ds : List Addr) (H H' : Hp) : Prop where
  keep : ∀ a o, H a = some o → a ∉ ds → (∀ ps, o ≠ .tbl ps) → H' a = some o
  live : ∀ a, Nw H' a → Nw H a
/-- .. and tables stay as they are -/
structure Fr (ds : List Addr) (H H' : Hp) : Prop extends Fw ds H H' where
  tabs : ∀ T, Tabs T H → Tabs T H'
variable {ds es : List Addr} {H H1 H2 : Hp} {a b : Addr}
theorem Fr.w (x : Fr ds H H1) : Fw ds H H1 := x.toFw
theorem Fw.refl (ds : List Addr) (H : Hp) : Fw ds H H := ⟨fun _ _ h _ _ => h, fun _ h => h⟩
theorem Fr.refl (ds : List Addr) (H : Hp) : Fr ds H H := ⟨.refl _ _, fun _ h => h⟩
theorem Fw.trans (x : Fw ds H H1) (y : Fw ds H1 H2) : Fw ds H H2 := ⟨fun a o h n t => y.keep a o (x.keep a o h n t) n t, fun a h => x.live a (y.live a h)⟩
theorem Fr.trans (x : Fr ds H H1) (y : Fr ds H1 H2) : Fr ds H H2 := ⟨x.w.trans y.w, fun T h => y.tabs T (x.tabs T h)⟩
theorem Fw.mono (x : Fw ds H H1) (h : ∀ a, a ∈ ds → a ∈ es) : Fw es H H1 := ⟨fun a o z n t => x.keep a o z (fun m => n (h a m)) t, x.live⟩
theorem Fr.mono (x : Fr ds H H1) (h : ∀ a, a ∈ ds → a ∈ es) : Fr es H H1 := ⟨x.w.mono h, x.tabs⟩
theorem tabs_new {T : List (Addr × Str)} (hT : Tabs T H) (h : H b = none) (o : HO) : Tabs T (L2.upd H b o) := hT.ext fun c u e => by
  rw [upd_ne (ne_of_none e h)]
  exact e
theorem tabs_put {T : List (Addr × Str)} (hT : Tabs T H) (h : Pl H b) (o : HO) : Tabs T (L2.upd H b o) := fun p hp => by
  obtain ⟨ps, h1, h2, h3⟩ := hT p hp
  obtain ⟨u, hu, n1, n2⟩ := h
  refine ⟨ps, ?_, h2, fun pos cv hc => ?_⟩
  · rw [upd_ne (fun e => by rw [e, hu] at h1; exact n1 _ (Option.some.inj h1))]
    exact h1
  · obtain ⟨c, e, hcc⟩ := h3 pos cv hc
    refine ⟨c, e, ?_⟩
    rw [upd_ne (fun z => by rw [z, hu] at hcc; exact n2 _ (Option.some.inj hcc))]
    exact hcc
theorem Fw.upd (x : Fw ds H H1) (m : b ∈ ds) (o : HO) (nt : ∀ ps, o ≠ .tbl ps := by intro ps z; cases z) : Fw ds H (L2.upd H1 b o) := ⟨fun a u h n t => by
  rw [upd_ne (fun e : a = b => n (by rw [e]; exact m))]
  exact x.keep a u h n t, fun a h' => by
  refine x.live a fun u e => ?_
  by_cases q : a = b
  · obtain ⟨ps, z⟩ := h' o (by rw [q, upd_same])
    exact absurd z (nt ps)
  · exact h' u (by rw [upd_ne q]; exact e)⟩
theorem Fr.upd (x : Fr ds H H1) (m : b ∈ ds) (h : Pl H1 b) (o : HO) (nt : ∀ ps, o ≠ .tbl ps := by intro ps z; cases z) : Fr ds H (L2.upd H1 b o) := ⟨x.w.upd m o nt, fun T hT => tabs_put (x.tabs T hT) h o⟩
theorem Fw.new (x : Fw ds H H1) (n : H1 b = none) (o : HO) : Fw ds H (L2.upd H1 b o) := ⟨fun a u h q t => by
  have z := x.keep a u h q t
  rw [upd_ne (ne_of_none z n)]
  exact z, fun a h' => by
  refine x.live a fun u e => ?_
  refine h' u ?_
  rw [upd_ne (ne_of_none e n)]
  exact e⟩
theorem Fr.new (x : Fr ds H H1) (n : H1 b = none) (o : HO) : Fr ds H (L2.upd H1 b o) := ⟨x.w.new n o, fun T hT => tabs_new (x.tabs T hT) n o⟩
/-- a store into what was not there at the start -/
theorem Fw.late (x : Fw ds H H1) (n : Nw H b) (o : HO) (nt : ∀ ps, o ≠ .tbl ps := by intro ps z; cases z) : Fw ds H (L2.upd H1 b o) := ⟨fun a u h q t => by
  rw [upd_ne (ne_nw h n t)]
  exact x.keep a u h q t, fun a h' => by
  refine x.live a fun u e => ?_
  by_cases q : a = b
  · obtain ⟨ps, z⟩ := h' o (by rw [q, upd_same])
    exact absurd z (nt ps)
  · exact h' u (by rw [upd_ne q]; exact e)⟩
theorem Fr.late (x : Fr ds H H1) (n : Nw H b) (h : Pl H1 b) (o : HO) (nt : ∀ ps, o ≠ .tbl ps := by intro ps z; cases z) : Fr ds H (L2.upd H1 b o) := ⟨x.w.late n o nt, fun T hT => tabs_put (x.tabs T hT) h o⟩
theorem Fr.new0 (n : H b = none) (o : HO) : Fr ds H (L2.upd H b o) := (Fr.refl ds H).new n o
/-- then a step that changes what was not there at the start -/
theorem Fw.tail (x : Fw ds H H1) (y : Fw es H1 H2) (h : ∀ a, a ∈ es → a ∈ ds ∨ Nw H a) : Fw ds H H2 := ⟨fun a o z n t => y.keep a o (x.keep a o z n t) (fun m => by
  rcases h a m with q | q
  · exact n q
  · exact ne_nw z q t rfl) t, fun a h => x.live a (y.live a h)⟩
theorem Fr.tail (x : Fr ds H H1) (y : Fr es H1 H2) (h : ∀ a, a ∈ es → a ∈ ds ∨ Nw H a) : Fr ds H H2 := ⟨x.w.tail y.w h, fun T hT => y.tabs T (x.tabs T hT)⟩
theorem Fw.ofN (e : ExtN H H1) (l : ∀ a, Nw H1 a → Nw H a) : Fw ds H H1 := ⟨fun a o h _ t => e a o h t, l⟩
/-- a lambda's step: nothing that is no table goes, so new is new -/
theorem Fw.ext (e : ExtN H H1) : Fw ds H H1 := ⟨fun a o h _ t => e a o h t, fun a n o h => by
  by_cases t : ∃ ps, o = .tbl ps
  · exact t
  · exact n o (e a o h fun ps z => t ⟨ps, z⟩)⟩
section
variable {x : Fw ds H H1}
theorem Fw.lst {xs : List V} (x : Fw ds H H1) (h : H a = some (.lst xs)) (n : a ∉ ds) : H1 a = some (.lst xs) := x.keep a _ h n fun _ z => nomatch z
theorem Fw.tup {xs : List V} (x : Fw ds H H1) (h : H a = some (.tup xs)) (n : a ∉ ds) : H1 a = some (.tup xs) := x.keep a _ h n fun _ z => nomatch z
theorem Fw.dK {xs : List (Key × V)} (x : Fw ds H H1) (h : H a = some (.dK xs)) (n : a ∉ ds) : H1 a = some (.dK xs) := x.keep a _ h n fun _ z => nomatch z
theorem Fw.dT {xs : List (List Key × V)} (x : Fw ds H H1) (h : H a = some (.dT xs)) (n : a ∉ ds) : H1 a = some (.dT xs) := x.keep a _ h n fun _ z => nomatch z
theorem Fw.ins {C dx : Addr} {fs : List (Str × V)} (x : Fw ds H H1) (h : H a = some (.ins C dx fs)) (n : a ∉ ds) : H1 a = some (.ins C dx fs) := x.keep a _ h n fun _ z => nomatch z
theorem Fr.lst {xs : List V} (x : Fr ds H H1) (h : H a = some (.lst xs)) (n : a ∉ ds) : H1 a = some (.lst xs) := x.w.lst h n
theorem Fr.tup {xs : List V} (x : Fr ds H H1) (h : H a = some (.tup xs)) (n : a ∉ ds) : H1 a = some (.tup xs) := x.w.tup h n
theorem Fr.dK {xs : List (Key × V)} (x : Fr ds H H1) (h : H a = some (.dK xs)) (n : a ∉ ds) : H1 a = some (.dK xs) := x.w.dK h n
theorem Fr.dT {xs : List (List Key × V)} (x : Fr ds H H1) (h : H a = some (.dT xs)) (n : a ∉ ds) : H1 a = some (.dT xs) := x.w.dT h n
theorem Fr.ins {C dx : Addr} {fs : List (Str × V)} (x : Fr ds H H1) (h : H a = some (.ins C dx fs)) (n : a ∉ ds) : H1 a = some (.ins C dx fs) := x.w.ins h n
end
theorem not_nil {a : Addr} : a ∉ ([] : List Addr) := fun m => nomatch m
theorem not_one {a b : Addr} (h : a ≠ b) : a ∉ [b] := fun m => h (List.mem_singleton.mp m)
theorem not_two {a b c : Addr} (h : a ≠ b) (g : a ≠ c) : a ∉ [b, c] := fun m => by
  rcases List.mem_cons.mp m with e | m
  · exact h e
  · exact g (List.mem_singleton.mp m)
theorem not_cons {a b : Addr} {ds : List Addr} (h : a ≠ b) (g : a ∉ ds) : a ∉ b :: ds := fun m => by
  rcases List.mem_cons.mp m with e | m
  · exact h e
  · exact g m
/-- the same objects with fewer premises -/
theorem upd_new {o : HO} (h : H1 b = none) {p : HO} (q : H1 a = some p) : L2.upd H1 b o a = some p := by
  rw [upd_ne (ne_of_none q h)]; exact q

/-! ### numbers -/
theorem pm {b : Int} (h : 0 < b) : 0 < b := h
theorem dvw {j : Int} (h : 0 < j) (h2 : j < 2 ^ 2000) (i : Int) : CDivW i j := by
  refine wide_div h (b := 2000) ?_ (by decide) (by decide)
  have e : (2 : Int) ^ 2000 = ((2 ^ 2000 : Nat) : Int) := by simp
  rw [e] at h2
  generalize (2 : Nat) ^ 2000 = z at h2 ⊢
  omega
theorem at_lt {α : Type} {xs : List α} {z : Int} (h0 : 0 ≤ z) (h1 : z < xs.length) : ∃ v, atI xs z = some v := by
  obtain ⟨j, rfl⟩ := Int.eq_ofNat_of_zero_le h0
  have hl : j < xs.length := by omega
  exact ⟨xs[j], atI_nat (List.getElem?_eq_getElem hl)⟩
theorem at_map {xs : List Int} {z : Int} {v : V} (h : atI (xs.map V.int) z = some v) : ∃ n : Int, v = .int n := by
  obtain ⟨j, _, e, _⟩ := atI_get h
  rw [List.getElem?_map] at e
  cases q : xs[j]? with
  | none => rw [q] at e; cases e
  | some n => rw [q] at e; exact ⟨n, (Option.some.inj e).symm⟩
theorem small1000' {n : Nat} (h : n ≤ 1000) : n < sizeLine := Nat.lt_of_le_of_lt h (by decide)
/-- an item of a list of whole numbers -/
theorem int_at {xs : List Int} {z : Int} (h0 : 0 ≤ z) (h1 : z < xs.length) : ∃ n : Int, atI (xs.map V.int) z = some (.int n) ∧ n ∈ xs ∧ xs[z.toNat]? = some n := by
  obtain ⟨j, rfl⟩ := Int.eq_ofNat_of_zero_le h0
  have hl : j < xs.length := by omega
  refine ⟨xs[j], atI_nat ?_, List.getElem_mem hl, ?_⟩
  · rw [List.getElem?_map, List.getElem?_eq_getElem hl]; rfl
  · exact List.getElem?_eq_getElem hl
theorem map_at {α : Type} {f : α → V} {xs : List α} {z : Int} (h0 : 0 ≤ z) (h1 : z < xs.length) : ∃ n, atI (xs.map f) z = some (f n) ∧ n ∈ xs ∧ xs[z.toNat]? = some n := by
  obtain ⟨j, rfl⟩ := Int.eq_ofNat_of_zero_le h0
  have hl : j < xs.length := by omega
  refine ⟨xs[j], atI_nat ?_, List.getElem_mem hl, ?_⟩
  · rw [List.getElem?_map, List.getElem?_eq_getElem hl]; rfl
  · exact List.getElem?_eq_getElem hl
theorem twoP {a b : Int} {P Q : Prop} (h1 : a = b → P) (h2 : ¬ a = b → Q) : (decide (V.int a = V.int b) = true → P) ∧ (¬ decide (V.int a = V.int b) = true → Q) := by
  refine ⟨fun z => h1 ?_, fun z => h2 fun e => z ?_⟩
  · have z := of_decide_eq_true z
    injection z
  · rw [e]
    exact decide_eq_true rfl
theorem eqI {a b : Int} (h : decide (V.int a = V.int b) = true) : a = b := by
  have z := of_decide_eq_true h
  injection z
theorem neI {a b : Int} (h : ¬ decide (V.int a = V.int b) = true) : ¬ a = b := fun e => h (by rw [e]; exact decide_eq_true rfl)
theorem decI {a b : Int} (h : a = b) : decide (V.int a = V.int b) = true := by rw [h]; exact decide_eq_true rfl
theorem decIn {a b : Int} (h : ¬ a = b) : decide (V.int a = V.int b) = false := decide_eq_false fun e => h (by injection e)

/-! ### settings' fields -/
def fs5 (n p r g h : Int) : List (Str × V) := [("bits", .int n), ("patience", .int p), ("room", .int r), ("grace", .int g), ("helpers", .int h)]
section
variable {n p r g h : Int}
theorem fs5_bits : (fs5 n p r g h).lookup ("bits" : Str) = some (.int n) := by kernel_rfl
theorem fs5_patience : (fs5 n p r g h).lookup ("patience" : Str) = some (.int p) := by kernel_rfl
theorem fs5_room : (fs5 n p r g h).lookup ("room" : Str) = some (.int r) := by kernel_rfl
theorem fs5_grace : (fs5 n p r g h).lookup ("grace" : Str) = some (.int g) := by kernel_rfl
theorem fs5_helpers : (fs5 n p r g h).lookup ("helpers" : Str) = some (.int h) := by kernel_rfl
theorem fs5_seats : (fs5 n p r g h).lookup ("seats" : Str) = none := by kernel_rfl
theorem fs5_cycle : (fs5 n p r g h).lookup ("cycle" : Str) = none := by kernel_rfl
theorem fs5_stripes : (fs5 n p r g h).lookup ("stripes" : Str) = none := by kernel_rfl
theorem fs5_puts : putF ("helpers" : Str) (V.int h) (putF ("grace" : Str) (V.int g) (putF ("room" : Str) (V.int r) (putF ("patience" : Str) (V.int p) (putF ("bits" : Str) (V.int n) [])))) = fs5 n p r g h := by kernel_rfl
end
end UF
namespace UF
open PySem PySem.Spec PyProof.Rows L2
theorem putF_len (f : Str) (v : V) : ∀ fs : List (Str × V), (putF f v fs).length ≤ fs.length + 1
  | [] => Nat.le_refl _
  | (g, x) :: r => by
    unfold putF
    split
    · exact Nat.le_succ _
    · exact Nat.succ_le_succ (putF_len f v r)
end UF

set_option Elab.async false
set_option maxRecDepth 100000
set_option maxHeartbeats 4000000
/-! how the defs, classes and built-ins of a text are named, whatever the law -/
namespace UF
open PySem PySem.Spec PyProof.Rows L2 C8 LamX

/-- the built-ins that a text may call -/
structure Bl (mg : Str → Option Value) : Prop where
  int : mg "int" = none
  bool : mg "bool" = none
  list : mg "list" = none
  len : mg "len" = none
  tuple : mg "tuple" = none
  str : mg "str" = none
  sum : mg "sum" = none
  abs : mg "abs" = none
  max : mg "max" = none
  min : mg "min" = none
  range : mg "range" = none
  isinstance : mg "isinstance" = none
  sorted : mg "sorted" = none
  reversed : mg "reversed" = none
  enumerate : mg "enumerate" = none
  zip : mg "zip" = none
  all : mg "all" = none
  any : mg "any" = none
  dict : mg "dict" = none
  set : mg "set" = none
  ord : mg "ord" = none

/-- a def of the text that is called with all its parameters -/
structure D0 (K : PySem.W.Frag) (mg : Str → Option Value) (x : Str) (st : Stmt) (ps : List Str) : Prop where
  ex : ∃ (f : Addr) (fd : FuncData), C8.Def K mg x st f fd ∧ L2.Binds K fd ps []
/-- a method, a property of the class at C -/
def MethP (K : PySem.W.Frag) (C : Addr) (m q : Str) (st : Stmt) (ps : List Str) : Prop := ∃ (f : Addr) (fd : FuncData), Meth K C m f ∧ C8.Fun K m q st f fd ∧ L2.Binds K fd ps []
def PropP (K : PySem.W.Frag) (C : Addr) (m q : Str) (st : Stmt) : Prop := ∃ (p g : Addr) (fd : FuncData), PropOf K C m p g ∧ C8.Fun K m q st g fd ∧ L2.Binds K fd ["self"] []
def IniP (K : PySem.W.Frag) (C : Addr) (q : Str) (st : Stmt) (ps : List Str) : Prop := ∃ (f : Addr) (fd : FuncData), Mk K C f ∧ C8.Fun K "__init__" q st f fd ∧ L2.Binds K fd ps []
/-- an __init__ with keyword-only defaults -/
def IniD (K : PySem.W.Frag) (C : Addr) (q : Str) (st : Stmt) (kws : List (Str × V)) : Prop := ∃ (f : Addr) (fd : FuncData), Mk K C f ∧ FunD K "__init__" q (C8.fnArgs st) (C8.fnBody st) (C8.fnScope st) [] kws f fd
def ConP (K : PySem.W.Frag) (C : Addr) (x : Str) (n : Int) : Prop := ∃ u, Con K C x (.int n) u

section
variable {P : Program} {w : World} {K : PySem.W.Frag} {mg : Str → Option Value} {base : Heap}
theorem cal {x : Str} {st : Stmt} {N ps : List Str} {k : Nat} {sp : Sp} (d : D0 K mg x st ps) (S : FnScope N ps (C8.fnScope st)) (len : ∀ vs H Q E, sp vs H Q E → vs.length = ps.length)
    (hbody : ∀ (cdv : Value) (A : Around) (outer : List Env) (f : Addr) (s : Shared) (H : Hp) (vs : List V) (Q : VK) (E : XK), Room k (A.deeper (envOfC x (C8.fnScope st) s.heap.objs.size f cdv)) → sp vs H Q E →
      ∃ t, PSs (cxOf C8.CX0 P w K mg base N x (C8.fnScope st) f cdv A outer s H E).nox (C8.fnBody st) t ∧ t { nx := fun _ H' => Q .non H', rt := Q } (start N vs) H) : Cal P w K mg base (k + 1) x sp [] := by
  obtain ⟨f, fd, D, b⟩ := d.ex
  exact cal0 D b .nil S len fun cdv A outer s H vs Q E hr h => hbody cdv A outer f s H vs Q E hr h
theorem met {m q : Str} {C : Addr} {st : Stmt} {N ps : List Str} {k : Nat} {sp : Sp} (d : MethP K C m q st ps) (c : Cls K C) (S : FnScope N ps (C8.fnScope st)) (len : ∀ vs H Q E, sp vs H Q E → vs.length = ps.length)
    (hbody : ∀ (cdv : Value) (A : Around) (outer : List Env) (f : Addr) (s : Shared) (H : Hp) (vs : List V) (Q : VK) (E : XK), Room k (A.deeper (envOfC q (C8.fnScope st) s.heap.objs.size f cdv)) → sp vs H Q E →
      ∃ t, PSs (cxOf C8.CX0 P w K mg base N q (C8.fnScope st) f cdv A outer s H E).nox (C8.fnBody st) t ∧ t { nx := fun _ H' => Q .non H', rt := Q } (start N vs) H) : Met P w K mg base (k + 1) C m sp [] := by
  obtain ⟨f, fd, M, F, b⟩ := d
  exact met0 c M F b S len fun cdv A outer s H vs Q E hr h => hbody cdv A outer f s H vs Q E hr h
theorem mak {x q : Str} {C : Addr} {st : Stmt} {N ps : List Str} {k : Nat} {sp : Sp} (d : IniP K C q st ps) (hm : mg x = some (.ref C)) (S : FnScope N ps (C8.fnScope st)) (len : ∀ vs H Q E, sp vs H Q E → vs.length = ps.length)
    (hbody : ∀ (cdv : Value) (A : Around) (outer : List Env) (f : Addr) (s : Shared) (H : Hp) (vs : List V) (Q : VK) (E : XK), Room k (A.deeper (envOfC q (C8.fnScope st) s.heap.objs.size f cdv)) → sp vs H Q E →
      ∃ t, PSs (cxOf C8.CX0 P w K mg base N q (C8.fnScope st) f cdv A outer s H E).nox (C8.fnBody st) t ∧ t { nx := fun _ H' => Q .non H', rt := Q } (start N vs) H) : Mak P w K mg base (k + 1) x C sp [] := by
  obtain ⟨f, fd, M, F, b⟩ := d
  exact mak0 M hm F b .nil S len fun cdv A outer s H vs Q E hr h => hbody cdv A outer f s H vs Q E hr h
/-- the promise of a property's getter -/
def Prp (P : Program) (w : World) (K : PySem.W.Frag) (mg : Str → Option Value) (base : Heap) (k : Nat) (C : Addr) (m : Str) (sp : Sp) : Prop :=
  ∃ (p g : Addr) (fd : FuncData), Cls K C ∧ PropOf K C m p g ∧ FnOk P w K mg base C8.CX0 k g fd ["self"] sp ∧ L2.Binds K fd ["self"] []
theorem prp {m q : Str} {C : Addr} {st : Stmt} {N : List Str} {k : Nat} {sp : Sp} (d : PropP K C m q st) (c : Cls K C) (S : FnScope N ["self"] (C8.fnScope st)) (len : ∀ vs H Q E, sp vs H Q E → vs.length = 1)
    (hbody : ∀ (cdv : Value) (A : Around) (outer : List Env) (f : Addr) (s : Shared) (H : Hp) (vs : List V) (Q : VK) (E : XK), Room k (A.deeper (envOfC q (C8.fnScope st) s.heap.objs.size f cdv)) → sp vs H Q E →
      ∃ t, PSs (cxOf C8.CX0 P w K mg base N q (C8.fnScope st) f cdv A outer s H E).nox (C8.fnBody st) t ∧ t { nx := fun _ H' => Q .non H', rt := Q } (start N vs) H) : Prp P w K mg base (k + 1) C m sp := by
  obtain ⟨p, g, fd, M, F, b⟩ := d
  exact ⟨p, g, fd, c, M, C8.fn0 F S len fun cdv A outer s H vs Q E hr h => hbody cdv A outer g s H vs Q E hr h, b⟩
end
theorem pe_pr {X : Cx} {k j : Nat} {C : Addr} {m : Str} {sp : Sp} {e : Expr} {pos : Pos} {ta : TE} (c : Prp X.prog X.w X.K X.mg X.base k C m sp) (hr : Room j X.A) (hk : k + 1 ≤ j) (he : PE X e ta)
    (hab : attributeBase e m X.env (eval e X.env) = eval e X.env := by rfl) : PE X (.Attribute e m pos) (tProp C sp [] C8.E0 ta) := by
  obtain ⟨p, g, fd, cl, hp, F, b⟩ := c
  exact pe_prop he cl hp F (hr.mono hk) b .nil (C8.pass0 (E := C8.E0)) hab
theorem pe_c0 {X : Cx} {k j : Nat} {x : Str} {sp : Sp} {dvs : List V} {p pos : Pos} (c : Cal X.prog X.w X.K X.mg X.base k x sp dvs) (hr : Room j X.A) (hk : k ≤ j) (hg : Gl X x) (hdb : (x == ("__debug__" : Str)) = false := by decide) :
    PE X (.Call (.Name x p) [] [] pos) (tCall sp dvs C8.E0 tNil) := by
  obtain ⟨f, fd, ps, ds, F, hm, kp, b, d⟩ := c.ex
  exact pe_call0 F (hr.mono hk) hg hm kp b d C8.pass0 hdb
theorem pe_mk0 {X : Cx} {k j : Nat} {C : Addr} {x : Str} {sp : Sp} {dvs : List V} {p pos : Pos} (c : Mak X.prog X.w X.K X.mg X.base k x C sp dvs) (hr : Room j X.A) (hk : k + 1 ≤ j) (hg : Gl X x) (hdb : (x == ("__debug__" : Str)) = false := by decide) :
    PE X (.Call (.Name x p) [] [] pos) (tMake C sp dvs C8.E0 tNil) := by
  obtain ⟨f, fd, ps, ds, M, F, hm, b, d⟩ := c.ex
  exact pe_make0 M F (hr.mono hk) hg hm b d C8.pass0 hdb
theorem u1 {k : Nat} {A : Around} (hr : Room k A) : A.units + 1 < cLine := by
  have := hr.units
  omega

section
variable {K : PySem.W.Frag} {h : Heap} {mg : Str → Option Value}
theorem d0_mk {x : Str} {st : Stmt} {ps : List Str} {f : Addr} {oc : Value} {od an : Option Addr} {osl : Array (Option Value)} {kV doc pm cdv ct : Value} (X : K.In h) (G : h.Ns mainGlobals mg) (a : PySem.W.nsIn K mainGlobals x = some (some (.ref f)))
    (l : K.lookup f = some ⟨oc, od, .func (PySem.W.fnOf x x (C8.fnArgs st) (C8.fnBody st) (C8.fnScope st) .none kV doc pm an cdv ct), osl⟩) (c : PySem.W.codeIn K cdv x = true) (k : PySem.W.keepIn K (.ref f) = true)
    (hb : ∀ (kV doc pm : Value) (an : Option Addr) (cdv ct : Value) (us : List Value), us.length = ps.length → bindArgs (PySem.W.fnOf x x (C8.fnArgs st) (C8.fnBody st) (C8.fnScope st) .none kV doc pm an cdv ct) ⟨us, []⟩ = pure (ps.zip us)) : D0 K mg x st ps :=
  have F : C8.Fun K x x st f _ := ⟨⟨oc, od, _, kV, doc, pm, an, cdv, ct, osl, rfl, l, c⟩⟩
  ⟨f, _, ⟨F, PySem.W.mg_of X G a, k⟩, F.binds rfl hb⟩
theorem meth_mk {C f : Addr} {m q : Str} {st : Stmt} {ps : List Str} {oc : Value} {od an : Option Addr} {osl : Array (Option Value)} {kV doc pm cdv ct : Value} (a : PySem.W.findIn K (.ref C) m = some (some (.ref f))) (i : PySem.W.isFn K (.ref f) = true)
    (l : K.lookup f = some ⟨oc, od, .func (PySem.W.fnOf m q (C8.fnArgs st) (C8.fnBody st) (C8.fnScope st) .none kV doc pm an cdv ct), osl⟩) (c : PySem.W.codeIn K cdv q = true) (k : PySem.W.keepIn K (.ref f) = true)
    (hb : ∀ (kV doc pm : Value) (an : Option Addr) (cdv ct : Value) (us : List Value), us.length = ps.length → bindArgs (PySem.W.fnOf m q (C8.fnArgs st) (C8.fnBody st) (C8.fnScope st) .none kV doc pm an cdv ct) ⟨us, []⟩ = pure (ps.zip us)) : MethP K C m q st ps :=
  have F : C8.Fun K m q st f _ := ⟨⟨oc, od, _, kV, doc, pm, an, cdv, ct, osl, rfl, l, c⟩⟩
  ⟨f, _, ⟨a, i, k⟩, F, F.binds rfl hb⟩
theorem ini_mk {C f : Addr} {q : Str} {st : Stmt} {ps : List Str} {oc : Value} {od an : Option Addr} {osl : Array (Option Value)} {kV doc pm cdv ct : Value} (m : PySem.W.makesIn K C = true) (a : PySem.W.findIn K (.ref C) "__init__" = some (some (.ref f))) (i : PySem.W.isFn K (.ref f) = true) (kc : PySem.W.keepIn K (.ref C) = true)
    (l : K.lookup f = some ⟨oc, od, .func (PySem.W.fnOf "__init__" q (C8.fnArgs st) (C8.fnBody st) (C8.fnScope st) .none kV doc pm an cdv ct), osl⟩) (c : PySem.W.codeIn K cdv q = true)
    (hb : ∀ (kV doc pm : Value) (an : Option Addr) (cdv ct : Value) (us : List Value), us.length = ps.length → bindArgs (PySem.W.fnOf "__init__" q (C8.fnArgs st) (C8.fnBody st) (C8.fnScope st) .none kV doc pm an cdv ct) ⟨us, []⟩ = pure (ps.zip us)) : IniP K C q st ps :=
  have F : C8.Fun K "__init__" q st f _ := ⟨⟨oc, od, _, kV, doc, pm, an, cdv, ct, osl, rfl, l, c⟩⟩
  ⟨f, _, ⟨m, a, i, kc⟩, F, F.binds rfl hb⟩
theorem con_mk {C : Addr} {x : Str} {n : Int} {tk : Tok} (a : PySem.W.findIn K (.ref C) x = some (some (.int n tk))) (g : PySem.W.specialIn K (.int n tk) "__get__" = some none) (cp : PySem.W.copiedNames.contains x = false) : ConP K C x n :=
  ⟨.int n tk, a, ⟨_, rfl⟩, g, cp⟩
theorem inid2_mk {C f D : Addr} {q x1 x2 : Str} {n1 n2 : Int} {st : Stmt} {oc : Value} {od an : Option Addr} {osl : Array (Option Value)} {doc pm cdv ct : Value} {t1 t2 : Tok} (m : PySem.W.makesIn K C = true) (a : PySem.W.findIn K (.ref C) "__init__" = some (some (.ref f))) (i : PySem.W.isFn K (.ref f) = true) (kc : PySem.W.keepIn K (.ref C) = true)
    (l : K.lookup f = some ⟨oc, od, .func (PySem.W.fnOf "__init__" q (C8.fnArgs st) (C8.fnBody st) (C8.fnScope st) .none (.ref D) doc pm an cdv ct), osl⟩) (c : PySem.W.codeIn K cdv q = true) (k : PySem.W.keepIn K (.ref f) = true)
    (g1 : PySem.W.nsIn K D x1 = some (some (.int n1 t1))) (g2 : PySem.W.nsIn K D x2 = some (some (.int n2 t2))) : IniD K C q st [(x1, .int n1), (x2, .int n2)] :=
  ⟨f, _, ⟨m, a, i, kc⟩, ⟨oc, od, _, _, doc, pm, an, cdv, ct, osl, rfl, l, c, .inl ⟨rfl, rfl⟩, .inr ⟨D, rfl, fun q hq => by
    cases hq with
    | head => exact ⟨_, g1, _, rfl⟩
    | tail _ hq => cases hq with
      | head => exact ⟨_, g2, _, rfl⟩
      | tail _ hq => cases hq⟩⟩, k⟩
theorem inidN_mk {C f D : Addr} {q x1 : Str} {st : Stmt} {oc : Value} {od an : Option Addr} {osl : Array (Option Value)} {doc pm cdv ct : Value} (m : PySem.W.makesIn K C = true) (a : PySem.W.findIn K (.ref C) "__init__" = some (some (.ref f))) (i : PySem.W.isFn K (.ref f) = true) (kc : PySem.W.keepIn K (.ref C) = true)
    (l : K.lookup f = some ⟨oc, od, .func (PySem.W.fnOf "__init__" q (C8.fnArgs st) (C8.fnBody st) (C8.fnScope st) .none (.ref D) doc pm an cdv ct), osl⟩) (c : PySem.W.codeIn K cdv q = true) (k : PySem.W.keepIn K (.ref f) = true)
    (g1 : PySem.W.nsIn K D x1 = some (some .none)) : IniD K C q st [(x1, .non)] :=
  ⟨f, _, ⟨m, a, i, kc⟩, ⟨oc, od, _, _, doc, pm, an, cdv, ct, osl, rfl, l, c, .inl ⟨rfl, rfl⟩, .inr ⟨D, rfl, fun q hq => by
    cases hq with
    | head => exact ⟨_, g1, rfl⟩
    | tail _ hq => cases hq⟩⟩, k⟩
theorem prop_mk {C p g : Addr} {m q : Str} {st : Stmt} {rest : List Value} {oc : Value} {od an : Option Addr} {osl : Array (Option Value)} {kV doc pm cdv ct : Value} (a : PySem.W.findIn K (.ref C) m = some (some (.ref p))) (gt : PySem.W.specialIn K (.ref p) "__get__" = some (some (.builtin "property.__get__"))) (tk : PySem.W.takesIn K (.ref p) = some true)
    (r : PySem.W.recIn K p "property" = some (.ref g :: rest))
    (l : K.lookup g = some ⟨oc, od, .func (PySem.W.fnOf m q (C8.fnArgs st) (C8.fnBody st) (C8.fnScope st) .none kV doc pm an cdv ct), osl⟩) (c : PySem.W.codeIn K cdv q = true)
    (hb : ∀ (kV doc pm : Value) (an : Option Addr) (cdv ct : Value) (us : List Value), us.length = ["self"].length → bindArgs (PySem.W.fnOf m q (C8.fnArgs st) (C8.fnBody st) (C8.fnScope st) .none kV doc pm an cdv ct) ⟨us, []⟩ = pure ((["self"] : List Str).zip us)) : PropP K C m q st :=
  have F : C8.Fun K m q st g _ := ⟨⟨oc, od, _, kV, doc, pm, an, cdv, ct, osl, rfl, l, c⟩⟩
  ⟨p, g, _, ⟨a, gt, tk, rest, r⟩, F, F.binds (ps := ["self"]) rfl hb⟩
theorem cls_mk {C : Addr} (pg : PySem.W.plainGet K C Str.empty = true) (hd : PySem.W.hasDictIn K C = true) (po : PySem.W.plainOver K C = true) (sa : PySem.W.findIn K (.ref C) "__setattr__" = some (some (.builtin "object.__setattr__"))) : Cls K C := ⟨pg, hd, po, sa⟩
theorem bl_mk (X : K.In h) (G : h.Ns mainGlobals mg) (z0 : PySem.W.nsIn K mainGlobals "int" = some none) (z1 : PySem.W.nsIn K mainGlobals "bool" = some none) (z2 : PySem.W.nsIn K mainGlobals "list" = some none) (z3 : PySem.W.nsIn K mainGlobals "len" = some none)
    (z4 : PySem.W.nsIn K mainGlobals "tuple" = some none) (z5 : PySem.W.nsIn K mainGlobals "str" = some none) (z6 : PySem.W.nsIn K mainGlobals "sum" = some none) (z7 : PySem.W.nsIn K mainGlobals "abs" = some none) (z8 : PySem.W.nsIn K mainGlobals "max" = some none) (z9 : PySem.W.nsIn K mainGlobals "min" = some none)
    (z10 : PySem.W.nsIn K mainGlobals "range" = some none) (z11 : PySem.W.nsIn K mainGlobals "isinstance" = some none) (z12 : PySem.W.nsIn K mainGlobals "sorted" = some none) (z13 : PySem.W.nsIn K mainGlobals "reversed" = some none) (z14 : PySem.W.nsIn K mainGlobals "enumerate" = some none) (z15 : PySem.W.nsIn K mainGlobals "zip" = some none)
    (z16 : PySem.W.nsIn K mainGlobals "all" = some none) (z17 : PySem.W.nsIn K mainGlobals "any" = some none) (z18 : PySem.W.nsIn K mainGlobals "dict" = some none) (z19 : PySem.W.nsIn K mainGlobals "set" = some none) (z20 : PySem.W.nsIn K mainGlobals "ord" = some none) : Bl mg :=
  ⟨PySem.W.mg_none_of X G z0, PySem.W.mg_none_of X G z1, PySem.W.mg_none_of X G z2, PySem.W.mg_none_of X G z3, PySem.W.mg_none_of X G z4, PySem.W.mg_none_of X G z5, PySem.W.mg_none_of X G z6, PySem.W.mg_none_of X G z7, PySem.W.mg_none_of X G z8, PySem.W.mg_none_of X G z9, PySem.W.mg_none_of X G z10,
    PySem.W.mg_none_of X G z11, PySem.W.mg_none_of X G z12, PySem.W.mg_none_of X G z13, PySem.W.mg_none_of X G z14, PySem.W.mg_none_of X G z15, PySem.W.mg_none_of X G z16, PySem.W.mg_none_of X G z17, PySem.W.mg_none_of X G z18, PySem.W.mg_none_of X G z19, PySem.W.mg_none_of X G z20⟩
/-- a tuple of texts of the module -/
def TupP (K : PySem.W.Frag) (mg : Str → Option Value) (x : Str) (l : List V) : Prop := ∃ a : Addr, mg x = some (.ref a) ∧ ∀ H, SqT K H a l
theorem tup2s_mk {x : Str} {a : Addr} {s1 s2 : Str} {t1 t2 : Tok} {n : Nat} {od : Option Addr} {osl : Array (Option Value)} (X : K.In h) (G : h.Ns mainGlobals mg) (e : PySem.W.nsIn K mainGlobals x = some (some (.ref a))) (l : K.lookup a = some ⟨.type "tuple", od, .seq #[.str s1 t1, .str s2 t2] n, osl⟩) : TupP K mg x [.str s1, .str s2] :=
  ⟨a, PySem.W.mg_of X G e, fun _ => .inr ⟨_, _, _, l, rfl, rfl, by show 2 ≤ sizeLine; decide, .cons ⟨_, rfl⟩ (.cons ⟨_, rfl⟩ .nil)⟩⟩
/-- a def of the text whose code makes a lambda: its code object at c -/
structure D1 (K : PySem.W.Frag) (mg : Str → Option Value) (x : Str) (st : Stmt) (c : Addr) : Prop where
  ex : ∃ (f : Addr) (oc : Value) (od : Option Addr) (kV doc pm : Value) (an : Option Addr) (ct : Value) (osl : Array (Option Value)),
    K.lookup f = some ⟨oc, od, .func (PySem.W.fnOf x x (C8.fnArgs st) (C8.fnBody st) (C8.fnScope st) .none kV doc pm an (.ref c) ct), osl⟩ ∧ PySem.W.codeIn K (.ref c) x = true ∧ mg x = some (.ref f) ∧ PySem.W.keepIn K (.ref f) = true
theorem d1_mk {x : Str} {st : Stmt} {f c : Addr} {oc : Value} {od an : Option Addr} {osl : Array (Option Value)} {kV doc pm ct : Value} (X : K.In h) (G : h.Ns mainGlobals mg) (a : PySem.W.nsIn K mainGlobals x = some (some (.ref f)))
    (l : K.lookup f = some ⟨oc, od, .func (PySem.W.fnOf x x (C8.fnArgs st) (C8.fnBody st) (C8.fnScope st) .none kV doc pm an (.ref c) ct), osl⟩) (cd : PySem.W.codeIn K (.ref c) x = true) (k : PySem.W.keepIn K (.ref f) = true) : D1 K mg x st c :=
  ⟨f, oc, od, kV, doc, pm, an, ct, osl, l, cd, PySem.W.mg_of X G a, k⟩
/-- the law's own def -/
def LawP (K : PySem.W.Frag) (mg : Str → Option Value) (st : Stmt) (fa : Addr) : Prop := ∃ fd, C8.Fun K "law" "law" st fa fd ∧ ∀ (s : Shared) (u : Value), BindsTo s fd ⟨[u], []⟩ [("script", u)]
theorem law_mk {st : Stmt} {fa fL : Addr} {oc : Value} {od an : Option Addr} {osl : Array (Option Value)} {kV doc pm cdv ct : Value} (X : K.In h) (G : h.Ns mainGlobals mg) (hfa : mg "law" = some (.ref fa)) (aL : PySem.W.nsIn K mainGlobals "law" = some (some (.ref fL)))
    (lL : K.lookup fL = some ⟨oc, od, .func (PySem.W.fnOf "law" "law" (C8.fnArgs st) (C8.fnBody st) (C8.fnScope st) .none kV doc pm an cdv ct), osl⟩) (cL : PySem.W.codeIn K cdv "law" = true)
    (hb : ∀ (kV doc pm : Value) (an : Option Addr) (cdv ct u : Value), bindArgs (PySem.W.fnOf "law" "law" (C8.fnArgs st) (C8.fnBody st) (C8.fnScope st) .none kV doc pm an cdv ct) ⟨[u], []⟩ = pure [(("script" : Str), u)]) : LawP K mg st fa := by
  have e := hfa.symm.trans (PySem.W.mg_of X G aL)
  cases e
  exact ⟨_, ⟨⟨oc, od, _, kV, doc, pm, an, cdv, ct, osl, rfl, lL, cL⟩⟩, fun s u => .of_eq (hb _ _ _ _ _ _ u)⟩
/-- the promise of a law: whatever the script, True -/
def spLaw (K : PySem.W.Frag) : Sp := fun vs H Q _ => ∃ (a : Addr) (ns : List Int), vs = [.ref a] ∧ SqL K H a (ns.map V.int) ∧ ns.length ≤ 63 ∧ ∀ H' : Hp, Q (.bl true) H'
/-- .. of a law whose text makes a lambda, its table at t -/
def spLawT (K : PySem.W.Frag) (t : Addr) : Sp := fun vs H Q _ => ∃ (a : Addr) (ns : List Int), vs = [.ref a] ∧ SqL K H a (ns.map V.int) ∧ ns.length ≤ 63 ∧ H t = some (.tbl #[]) ∧ ∀ H' : Hp, Q (.bl true) H'
end
theorem walkN {l : PySem.W.OpenLaw} {k : Nat} {q : Program} {loose : List Str} {XP : (Str → Option Value) → Heap → Prop} {YP : World → Heap → Prop} {d : DefRec} {K : Params → PySem.W.Frag} (hk : Room k callerA) (hn : l.most = some 63) (hdf : d.params.defaults = [])
    (hY : ∀ (w : World) (h : Heap), YP w h → (K w.params).In h)
    (F : ∀ (w : World) (mg : Str → Option Value) (fa : Addr) (h : Heap), (K w.params).In h → h.Ns mainGlobals mg → mg d.name = some (.ref fa) →
      ∃ fd : FuncData, (∀ (s : Shared) (u : Value), BindsTo s fd ⟨[u], []⟩ [("script", u)]) ∧ ∀ base : Heap, (K w.params).In base → base.Ns mainGlobals mg → FnOk l.prog w (K w.params) mg base C8.CX0 k fa fd ["script"] (spLaw (K w.params))) :
    PySem.W.WalkO q loose XP YP l.row.toRowW d [] (fun f vs => PySem.call f vs) :=
  L2.walk_of (n := 63) (k := k) (x := "script") (CX := fun _ => C8.CX0) (sp := fun w => spLaw (K w.params)) hn (by decide) hdf hk hY F (fun _ _ a ns hl _ hS => ⟨a, ns, rfl, hS, hl, fun _ => rfl⟩) fun _ _ _ _ _ z => z
/-- the end of a law with one table -/
theorem lawT {l : PySem.W.OpenLaw} {w : World} {K : PySem.W.Frag} {h : Heap} {mg : Str → Option Value} {fa c t : Addr} {st : Stmt} {k : Nat} (X : K.In h) (hT : h.get? t = some { cls := .none, data := .fields #[] }) (nT : K.lookup t = none) (hC : PySem.W.codeHdIn K c t = true) (L : LawP K mg st fa)
    (F : ∀ fd, C8.Fun K "law" "law" st fa fd → ∀ base : Heap, K.In base → base.Ns mainGlobals mg → TabB base mg c t → FnOk l.prog w K mg base C8.CX0 k fa fd ["script"] (spLawT K t)) : LamX.LawAtS l w K C8.CX0 k 63 "script" mg fa h := by
  obtain ⟨fd, FL, bt⟩ := L
  refine ⟨fd, [(c, t)], spLawT K t, ?_, ?_, ?_, bt, ?_, fun base h1 h2 hTB => F fd FL base h1 h2 (hTB (c, t) (.head _))⟩
  · intro p hp
    cases hp with
    | head => exact hT
    | tail _ hp => cases hp
  · intro p hp
    cases hp with
    | head => exact nT
    | tail _ hp => cases hp
  · intro p hp
    cases hp with
    | head => exact PySem.W.codeHd_of_K X hC
    | tail _ hp => cases hp
  · exact fun H a ns hl _ hH hS => ⟨a, ns, rfl, hS, hl, hH (c, t) (.head _), fun _ => rfl⟩
end UF

set_option Elab.async false
set_option maxRecDepth 100000
set_option maxHeartbeats 4000000
/-! defs with a keyword-only default None; rows of whole numbers as data -/
namespace UF
open PySem PySem.Spec PyProof.Rows L2 C8 LamX
/-- a def of the text with keyword-only defaults -/
def DkD (K : PySem.W.Frag) (mg : Str → Option Value) (x : Str) (st : Stmt) (kws : List (Str × V)) : Prop := ∃ (f : Addr) (fd : FuncData), FunD K x x (C8.fnArgs st) (C8.fnBody st) (C8.fnScope st) [] kws f fd ∧ mg x = some (.ref f)
section
variable {K : PySem.W.Frag} {h : Heap} {mg : Str → Option Value}
theorem dkN_mk {x x1 : Str} {st : Stmt} {f D : Addr} {oc : Value} {od an : Option Addr} {osl : Array (Option Value)} {doc pm cdv ct : Value} (X : K.In h) (G : h.Ns mainGlobals mg) (a : PySem.W.nsIn K mainGlobals x = some (some (.ref f)))
    (l : K.lookup f = some ⟨oc, od, .func (PySem.W.fnOf x x (C8.fnArgs st) (C8.fnBody st) (C8.fnScope st) .none (.ref D) doc pm an cdv ct), osl⟩) (c : PySem.W.codeIn K cdv x = true) (k : PySem.W.keepIn K (.ref f) = true)
    (g1 : PySem.W.nsIn K D x1 = some (some .none)) : DkD K mg x st [(x1, .non)] :=
  ⟨f, _, ⟨⟨oc, od, _, _, doc, pm, an, cdv, ct, osl, rfl, l, c, .inl ⟨rfl, rfl⟩, .inr ⟨D, rfl, fun q hq => by
    cases hq with
    | head => exact ⟨_, g1, rfl⟩
    | tail _ hq => cases hq⟩⟩, k⟩, PySem.W.mg_of X G a⟩
theorem dk2N_mk {x x1 x2 : Str} {st : Stmt} {f D : Addr} {oc : Value} {od an : Option Addr} {osl : Array (Option Value)} {doc pm cdv ct : Value} (X : K.In h) (G : h.Ns mainGlobals mg) (a : PySem.W.nsIn K mainGlobals x = some (some (.ref f)))
    (l : K.lookup f = some ⟨oc, od, .func (PySem.W.fnOf x x (C8.fnArgs st) (C8.fnBody st) (C8.fnScope st) .none (.ref D) doc pm an cdv ct), osl⟩) (c : PySem.W.codeIn K cdv x = true) (k : PySem.W.keepIn K (.ref f) = true)
    (g1 : PySem.W.nsIn K D x1 = some (some .none)) (g2 : PySem.W.nsIn K D x2 = some (some .none)) : DkD K mg x st [(x1, .non), (x2, .non)] :=
  ⟨f, _, ⟨⟨oc, od, _, _, doc, pm, an, cdv, ct, osl, rfl, l, c, .inl ⟨rfl, rfl⟩, .inr ⟨D, rfl, fun q hq => by
    cases hq with
    | head => exact ⟨_, g1, rfl⟩
    | tail _ hq => cases hq with
      | head => exact ⟨_, g2, rfl⟩
      | tail _ hq => cases hq⟩⟩, k⟩, PySem.W.mg_of X G a⟩
theorem inid2N_mk {C f D : Addr} {q x1 x2 : Str} {st : Stmt} {oc : Value} {od an : Option Addr} {osl : Array (Option Value)} {doc pm cdv ct : Value} (m : PySem.W.makesIn K C = true) (a : PySem.W.findIn K (.ref C) "__init__" = some (some (.ref f))) (i : PySem.W.isFn K (.ref f) = true) (kc : PySem.W.keepIn K (.ref C) = true)
    (l : K.lookup f = some ⟨oc, od, .func (PySem.W.fnOf "__init__" q (C8.fnArgs st) (C8.fnBody st) (C8.fnScope st) .none (.ref D) doc pm an cdv ct), osl⟩) (c : PySem.W.codeIn K cdv q = true) (k : PySem.W.keepIn K (.ref f) = true)
    (g1 : PySem.W.nsIn K D x1 = some (some .none)) (g2 : PySem.W.nsIn K D x2 = some (some .none)) : IniD K C q st [(x1, .non), (x2, .non)] :=
  ⟨f, _, ⟨m, a, i, kc⟩, ⟨oc, od, _, _, doc, pm, an, cdv, ct, osl, rfl, l, c, .inl ⟨rfl, rfl⟩, .inr ⟨D, rfl, fun q hq => by
    cases hq with
    | head => exact ⟨_, g1, rfl⟩
    | tail _ hq => cases hq with
      | head => exact ⟨_, g2, rfl⟩
      | tail _ hq => cases hq⟩⟩, k⟩
end
/-- a method with one default, an empty tuple -/
def MethE (K : PySem.W.Frag) (C : Addr) (m q : Str) (st : Stmt) : Prop := ∃ (f a : Addr) (fd : FuncData), Meth K C m f ∧ FunD K m q (C8.fnArgs st) (C8.fnBody st) (C8.fnScope st) [.ref a] [] f fd ∧ ∀ H, SqT K H a []
theorem methE_mk {K : PySem.W.Frag} {C f TT e : Addr} {m q : Str} {st : Stmt} {oc : Value} {od an : Option Addr} {osl : Array (Option Value)} {kV doc pm cdv ct : Value} {o1 : Value} {o2 : Option Addr} {o3 : Array (Option Value)} {n1 n2 : Nat} {p2 : Option Addr} {p3 : Array (Option Value)} (a : PySem.W.findIn K (.ref C) m = some (some (.ref f))) (i : PySem.W.isFn K (.ref f) = true)
    (l : K.lookup f = some ⟨oc, od, .func (PySem.W.fnOf m q (C8.fnArgs st) (C8.fnBody st) (C8.fnScope st) (.ref TT) kV doc pm an cdv ct), osl⟩) (c : PySem.W.codeIn K cdv q = true) (k : PySem.W.keepIn K (.ref f) = true)
    (lT : K.lookup TT = some ⟨o1, o2, .seq #[.ref e] n1, o3⟩) (le : K.lookup e = some ⟨.type "tuple", p2, .seq #[] n2, p3⟩) : MethE K C m q st :=
  ⟨f, e, _, ⟨a, i, k⟩, ⟨⟨oc, od, _, kV, doc, pm, an, cdv, ct, osl, rfl, l, c, .inr ⟨fun z => (nomatch z), TT, _, [.ref e], n1, rfl, lT, rfl, .cons rfl .nil⟩, .inl rfl⟩, k⟩, fun H => .inr ⟨_, #[], n2, le, rfl, rfl, Nat.zero_le _, .nil⟩⟩
end UF

set_option Elab.async false
set_option maxRecDepth 100000
set_option maxHeartbeats 4000000
/-! list(zip(xs, ys)): a new list of new pairs -/
namespace UF
open PySem PySem.Spec PyProof.Rows PyProof.V L2 PySem.Calls
/-- a zip between two turns -/
structure ZSt (z TI TO i1 i2 l1 l2 S : Addr) (xs ys : Array Value) (i : Nat) (h : Heap) : Prop where
  hTI : IsPair h TI (.ref i1) (.ref i2)
  h1 : h.IsListIter i1 l1 i
  h2 : h.IsListIter i2 l2 i
  hl1 : h.IsList l1 xs
  hl2 : h.IsList l2 ys
  hz : (IsZip h z TI TO .none ∧ ∃ a b, IsPair h TO a b) ∨ ∃ T f oT, IsZipHeld h z TI TO T f ∧ h.get? T = some oT ∧ T ≠ z ∧ T ≠ i1 ∧ T ≠ i2 ∧ T ≠ S
/-- where the list's address lies -/
structure ZOff (z TI TO i1 i2 l1 l2 S : Addr) : Prop where
  z : z < S
  TI : TI < S
  TO : TO < S
  i1 : i1 < S
  i2 : i2 < S
  l1 : l1 < S
  l2 : l2 < S
section
variable {z TI TO i1 i2 l1 l2 S : Addr} {xs ys : Array Value} {i : Nat} {h h' : Heap}
theorem ZSt.fr (s : ZSt z TI TO i1 i2 l1 l2 S xs ys i h) (o : ZOff z TI TO i1 i2 l1 l2 S) (k : ∀ b u, b ≠ S → h.get? b = some u → h'.get? b = some u) : ZSt z TI TO i1 i2 l1 l2 S xs ys i h' := by
  refine ⟨k _ _ (Nat.ne_of_lt o.TI) s.hTI, s.h1.at fun u e => k _ u (Nat.ne_of_lt o.i1) e, s.h2.at fun u e => k _ u (Nat.ne_of_lt o.i2) e, s.hl1.at fun u e => k _ u (Nat.ne_of_lt o.l1) e, s.hl2.at fun u e => k _ u (Nat.ne_of_lt o.l2) e, ?_⟩
  rcases s.hz with ⟨a, b, c, d⟩ | ⟨T, f, oT, a, b, r⟩
  · exact .inl ⟨k _ _ (Nat.ne_of_lt o.z) a, b, c, k _ _ (Nat.ne_of_lt o.TO) d⟩
  · exact .inr ⟨T, f, oT, k _ _ (Nat.ne_of_lt o.z) a, k _ _ r.2.2.2 b, r⟩
end
/-- all but the iterators' cells and the list stays -/
def ZKp (z TO i1 i2 S : Addr) (h h' : Heap) : Prop := ∀ b o, b ≠ S → b ≠ z → b ≠ TO → b ≠ i1 → b ≠ i2 → h.get? b = some o → h'.get? b = some o
/-- the pairs so far -/
structure ZPr (xs ys : Array Value) (S : Addr) (h : Heap) (as : List Addr) : Prop where
  up : as.Pairwise (· < ·)
  over : ∀ a ∈ as, S < a
  is : ∀ (j : Nat) (a : Addr), as[j]? = some a → ∃ x y, xs[j]? = some x ∧ ys[j]? = some y ∧ IsPair h a x y
abbrev LstO (acc : Array Value) (c : Nat) : Obj := { cls := .type "list", dict := none, data := .seq acc c, slots := #[] }
section
variable {prog : Program} {w : World} {A : Around} {s : Shared} {z TI TO i1 i2 l1 l2 S : Addr} {xs ys : Array Value}
theorem zl_item {i : Nat} {E : Value → Shared → Prop} {Q : Option Value → Shared → Prop} (D : ZipApart z TI TO i1 i2 l1 l2) (t : ZSt z TI TO i1 i2 l1 l2 S xs ys i s.heap) (hS : S < s.heap.objs.size) (hx : i < xs.size) (hy : i < ys.size)
    (q : ∀ h', ZSt z TI TO i1 i2 l1 l2 S xs ys (i + 1) h' → IsPair h' s.heap.objs.size xs[i] ys[i] → (∀ b o, b ≠ z → b ≠ TO → b ≠ i1 → b ≠ i2 → s.heap.get? b = some o → h'.get? b = some o) → Q (some (.ref s.heap.objs.size)) { s with heap := h' }) :
    wpAny (model prog w) A (pyNext (.ref z)) Q E s := by
  obtain ⟨hTI, h1, h2, hl1, hl2, hz⟩ := t
  have ex := Array.getElem?_eq_getElem hx
  have ey := Array.getElem?_eq_getElem hy
  have lt : ∀ {c : Addr} {o : Obj}, s.heap.get? c = some o → s.heap.objs.size ≠ c := fun e => Nat.ne_of_gt (Heap.lt_size e)
  have n1 : s.heap.objs.size ≠ i1 := by obtain ⟨_, e, _⟩ := h1; exact lt e
  have n2 : s.heap.objs.size ≠ i2 := by obtain ⟨_, e, _⟩ := h2; exact lt e
  rcases hz with ⟨hz, a, b, hTO⟩ | ⟨T, f, oT, hz, hT, r1, r2, r3, r4⟩
  · exact wpAny_pyNext_zip_item D hz hTI hTO h1 h2 hl1 hl2 ex ey fun h' a1 a2 a3 a4 a5 a6 hk => q h'
      ⟨hk _ _ D.TIz D.TITO D.TIi1 D.TIi2 hTI, a3, a4, hl1.at fun o e => hk _ o D.l1z D.l1TO D.l1i1 D.l1i2 e, hl2.at fun o e => hk _ o D.l2z D.l2TO D.l2i1 D.l2i2 e, .inr ⟨s.heap.objs.size, false, _, a1, a5, lt hz, n1, n2, Nat.ne_of_gt hS⟩⟩
      a5 fun b o b1 b2 b3 b4 e => hk b o b1 b2 b3 b4 e
  · exact wpAny_pyNext_zip_item_held D hz hT hTI h1 h2 hl1 hl2 ex ey fun h' a1 a3 a4 a5 a6 hk => q h'
      ⟨hk _ _ D.TIz D.TIi1 D.TIi2 hTI, a3, a4, hl1.at fun o e => hk _ o D.l1z D.l1i1 D.l1i2 e, hl2.at fun o e => hk _ o D.l2z D.l2i1 D.l2i2 e, .inr ⟨T, true, oT, a1, hk _ _ r1 r2 r3 hT, r1, r2, r3, r4⟩⟩
      a5 fun b o b1 _ b3 b4 e => hk b o b1 b3 b4 e
theorem zl_done {E : Value → Shared → Prop} {Q : Option Value → Shared → Prop} {i : Nat} (hh : A.handled = none) (D : ZipApart z TI TO i1 i2 l1 l2) (t : ZSt z TI TO i1 i2 l1 l2 S xs ys i s.heap) (hend : xs[i]? = none ∨ ys[i]? = none)
    (q : ∀ h', (∀ b o, b ≠ z → b ≠ TO → b ≠ i1 → b ≠ i2 → s.heap.get? b = some o → h'.get? b = some o) → Q none { s with heap := h' }) : wpAny (model prog w) A (pyNext (.ref z)) Q E s := by
  obtain ⟨hTI, h1, h2, hl1, hl2, hz⟩ := t
  rcases hz with ⟨hz, a, b, hTO⟩ | ⟨T, f, oT, hz, hT, r1, r2, r3, r4⟩
  · exact wpAny_pyNext_zip_end hh D hz hTI hTO h1 h2 hl1 hl2 hend fun h' hk => q h' fun b o b1 b2 b3 b4 e => hk b o b1 b2 b3 b4 e
  · exact wpAny_pyNext_zip_end_held hh D hz hT hTI h1 h2 hl1 hl2 hend fun h' hk => q h' fun b o b1 _ b3 b4 e => hk b o b1 b3 b4 e
theorem zl_loop {R : Result → Shared → Prop} {h₁ : Heap} (hh : A.handled = none) (D : ZipApart z TI TO i1 i2 l1 l2) (O : ZOff z TI TO i1 i2 l1 l2 S) (n : Nat) (en : n = min xs.size ys.size) (hn : n ≤ sizeLine) (res : Value)
    (hR : ∀ h' tk acc c as, ZKp z TO i1 i2 S h₁ h' → h'.get? S = some (LstO acc c) → as.length = n → ZPr xs ys S h' as → acc.toList = as.map Value.ref → R (.ok (.ret res)) { s with heap := h', toks := tk }) :
    ∀ (k i : Nat) (h : Heap) (tk c : Nat) (acc : Array Value) (as : List Addr), n - i = k → i ≤ n → ZSt z TI TO i1 i2 l1 l2 S xs ys i h → ZKp z TO i1 i2 S h₁ h → h.get? S = some (LstO acc c) → acc.toList = as.map Value.ref → as.length = i → ZPr xs ys S h as →
      codeAny (model prog w) A (.builtin "list.extend.loop" ⟨[.ref S, .ref z, res], []⟩) R { s with heap := h, toks := tk } := by
  have ab : ∀ {a : Addr}, S < a → a ≠ S ∧ a ≠ z ∧ a ≠ TO ∧ a ≠ i1 ∧ a ≠ i2 := fun {a} g =>
    ⟨Nat.ne_of_gt g, Nat.ne_of_gt (Nat.lt_trans O.z g), Nat.ne_of_gt (Nat.lt_trans O.TO g), Nat.ne_of_gt (Nat.lt_trans O.i1 g), Nat.ne_of_gt (Nat.lt_trans O.i2 g)⟩
  intro k
  induction k with
  | zero =>
    intro i h tk c acc as hk hi st kp hS ha hl hp
    have ei : i = n := by omega
    refine codeAny_builtin PySem.F.entry_extend_loop ?_; rw [Around.under_plainId PySem.F.plain_extend_loop _]
    show wpAny _ A.in1 (pyNext (.ref z) >>= _) _ _ _
    have he : xs[i]? = none ∨ ys[i]? = none := by
      rcases Nat.le_total xs.size ys.size with q | q
      · exact .inl (Array.getElem?_eq_none (by omega))
      · exact .inr (Array.getElem?_eq_none (by omega))
    refine wpAny_bind (zl_done (s := { s with heap := h, toks := tk }) (A := A.in1) hh D st he fun h' hk' => ?_)
    have nS : S ≠ z ∧ S ≠ TO ∧ S ≠ i1 ∧ S ≠ i2 := ⟨Nat.ne_of_gt O.z, Nat.ne_of_gt O.TO, Nat.ne_of_gt O.i1, Nat.ne_of_gt O.i2⟩
    refine wpAny_pure (hR h' tk acc c as (fun b o b0 b1 b2 b3 b4 e => hk' b o b1 b2 b3 b4 (kp b o b0 b1 b2 b3 b4 e)) (hk' S _ nS.1 nS.2.1 nS.2.2.1 nS.2.2.2 hS) (by omega) ⟨hp.up, hp.over, fun j a hj => ?_⟩ ha)
    obtain ⟨x, y, ex, ey, p⟩ := hp.is j a hj
    obtain ⟨m0, m1, m2, m3, m4⟩ := ab (hp.over a (List.mem_of_getElem? hj))
    exact ⟨x, y, ex, ey, hk' a _ m1 m2 m3 m4 p⟩
  | succ k ih =>
    intro i h tk c acc as hk hi st kp hS ha hl hp
    have hx : i < xs.size := by omega
    have hy : i < ys.size := by omega
    have hsz : acc.size = i := by rw [← Array.length_toList, ha, List.length_map, hl]
    have hSl : S < h.objs.size := Heap.lt_size hS
    refine codeAny_builtin PySem.F.entry_extend_loop ?_; rw [Around.under_plainId PySem.F.plain_extend_loop _]
    show wpAny _ A.in1 (pyNext (.ref z) >>= _) _ _ _
    refine wpAny_bind (zl_item (s := { s with heap := h, toks := tk }) D st hSl hx hy fun h' st' hp' hk' => ?_)
    dsimp only at hp' hk' ⊢
    have hS' := hk' S _ (Nat.ne_of_gt O.z) (Nat.ne_of_gt O.TO) (Nat.ne_of_gt O.i1) (Nat.ne_of_gt O.i2) hS
    have up : ∀ b o, b ≠ S → h'.get? b = some o → (h'.update S (Obj.mapSeq (·.push (Value.ref h.objs.size)))).get? b = some o := fun b o nb e => (Heap.get?_update_other _ _ (Ne.symm nb)).trans e
    show wpAny _ A.in1 (updateSeq S (·.push (Value.ref h.objs.size)) >>= _) _ _ _
    refine wpAny_bind ?_
    refine wpAny_updateSeq hS' rfl (wpAny_pure ⟨plainId_quiet PySem.F.plain_extend_loop _, ih (i + 1) _ tk _ (acc.push (Value.ref h.objs.size)) (as ++ [h.objs.size]) (by omega) (by omega) (st'.fr O up)
      (fun b o b0 b1 b2 b3 b4 e => up b o b0 (hk' b o b1 b2 b3 b4 (kp b o b0 b1 b2 b3 b4 e))) (Heap.get?_update_self _ hS' rfl) (by rw [Array.toList_push, ha, List.map_append]; rfl) (by rw [List.length_append, hl]; rfl) ⟨?_, ?_, ?_⟩⟩) (by rw [hsz]; omega) (by show (acc.push (Value.ref h.objs.size)).size ≤ sizeLine + 1; rw [Array.size_push, hsz]; omega)
    · refine List.pairwise_append.mpr ⟨hp.up, List.pairwise_singleton _ _, fun a ma b mb => ?_⟩
      rw [List.mem_singleton.mp mb]
      obtain ⟨j, hj⟩ := List.mem_iff_getElem?.mp ma
      obtain ⟨_, _, _, _, p⟩ := hp.is j a hj
      exact Heap.lt_size p
    · intro a ma
      rcases List.mem_append.mp ma with ma | ma
      · exact hp.over a ma
      · rw [List.mem_singleton.mp ma]; exact hSl
    · intro j b hj
      rcases Nat.lt_trichotomy j as.length with q | q | q
      · rw [List.getElem?_append_left q] at hj
        obtain ⟨x, y, ex, ey, p⟩ := hp.is j b hj
        obtain ⟨m0, m1, m2, m3, m4⟩ := ab (hp.over b (List.mem_of_getElem? hj))
        exact ⟨x, y, ex, ey, up b _ m0 (hk' b _ m1 m2 m3 m4 p)⟩
      · have hb : h.objs.size = b := by subst q; simpa using hj
        have ej : j = i := by omega
        subst ej
        subst hb
        exact ⟨_, _, Array.getElem?_eq_getElem hx, Array.getElem?_eq_getElem hy, up _ _ (Nat.ne_of_gt hSl) hp'⟩
      · have e0 : (as ++ [h.objs.size])[j]? = none := List.getElem?_eq_none (by rw [List.length_append, List.length_singleton]; omega)
        rw [e0] at hj; cases hj
end
section
variable {prog : Program} {w : World} {A : Around} {s : Shared} {z TI TO i1 i2 l1 l2 S : Addr} {xs ys : Array Value}
theorem z_len : typeLookup (.type "zip") "__len__" = pure none := am_miss_of_fast (by decide +kernel)
theorem z_lh : typeLookup (.type "zip") "__length_hint__" = pure none := am_miss_of_fast (by decide +kernel)
theorem zip_room {E : Value → Shared → Prop} {Q : Bool → Shared → Prop} (hT : s.TypeIs (.ref z) "zip") (h : Q true s) : wpAny (model prog w) A (Builtin.List.listLengthHint (.ref z)) Q E s := by
  unfold Builtin.List.listLengthHint
  refine wpAny_bind (wpAny_specialOf hT z_len ?_)
  refine wpAny_ite_split (fun hab => absurd hab (by decide)) (fun _ => ?_)
  refine wpAny_ite_split (fun hab => absurd hab (by decide)) (fun _ => ?_)
  exact wpAny_bind (wpAny_specialOf hT z_lh (wpAny_pure h))
theorem zl_extend {R : Result → Shared → Prop} (hh : A.handled = none) (D : ZipApart z TI TO i1 i2 l1 l2) (O : ZOff z TI TO i1 i2 l1 l2 S) (st : ZSt z TI TO i1 i2 l1 l2 S xs ys 0 s.heap) (hz : IsZip s.heap z TI TO .none) (n : Nat) (en : n = min xs.size ys.size) (hn : n ≤ sizeLine) (res : Value) (c₀ : Nat)
    (hS : s.heap.get? S = some (LstO #[] c₀)) (hR : ∀ h' tk acc c as, ZKp z TO i1 i2 S s.heap h' → h'.get? S = some (LstO acc c) → as.length = n → ZPr xs ys S h' as → acc.toList = as.map Value.ref → R (.ok (.ret res)) { s with heap := h', toks := tk }) :
    wpAny (model prog w) A.in1 (Builtin.List.listExtendWith (.ref S) (.ref z) res) (fun fin s' => match fin with | .done f => R (.ok f) s' | .again c' => c'.quiet = true ∧ codeAny (model prog w) A c' R s') (fun e s' => R (.error e) s') s := by
  have nSz : S ≠ z := Nat.ne_of_gt O.z
  have hT : s.TypeIs (.ref z) "zip" := ⟨_, hz, rfl⟩
  have t1 : Builtin.List.listSameRef (.ref S) (.ref z) = false := by simp [Builtin.List.listSameRef, nSz]
  have t2 : (Value.type "zip" == Value.type "list") = false := by decide
  have t3 : (Value.type "zip" == Value.type "tuple") = false := by decide
  have key : ∀ (h : Heap) (c₁ tk : Nat), (∀ b o, b ≠ S → s.heap.get? b = some o → h.get? b = some o) → h.get? S = some (LstO #[] c₁) → codeAny (model prog w) A (.builtin "list.extend.loop" ⟨[.ref S, .ref z, res], []⟩) R { s with heap := h, toks := tk } := fun h c₁ tk hk hS₁ =>
    zl_loop (h₁ := s.heap) hh D O n en hn res (fun h' tk acc c as a1 a2 a3 a4 a5 => hR h' tk acc c as a1 a2 a3 a4 a5) n 0 h tk c₁ #[] [] rfl (Nat.zero_le _) (st.fr O hk) (fun b o b0 _ _ _ _ e => hk b o b0 e) hS₁ rfl rfl ⟨.nil, (fun _ m => nomatch m), fun j a e => by simp at e⟩
  unfold Builtin.List.listExtendWith
  refine wpAny_bind (wpAny_typeOf (T := "zip") hT ?_)
  simp only [t1, t2, t3, Bool.or_false, Bool.false_eq_true, if_false]
  refine wpAny_bind (wpAny_pyIter_zip hz (wpAny_bind (wpAny_holding (zip_room hT ?_))))
  refine wpAny_ite_split (fun _ => ?_) (fun hab => (hab (by simp)).elim)
  refine wpAny_bind (wpAny_rule (wpAny_bind ?_))
  show wpAny _ _ (updateSeq S (·.push .none) >>= fun _ => updateSeq S (·.pop)) _ _ _
  refine wpAny_bind (wpAny_updateSeq hS rfl ?_); have hS₂ := Heap.get?_update_self (Obj.mapSeq (·.push Value.none)) hS rfl
  refine wpAny_updateSeq (hz := by seq_fits) hS₂ rfl ?_; have hS₃ := Heap.get?_update_self (Obj.mapSeq (·.pop)) hS₂ rfl
  refine wpAny_pure ⟨plainId_quiet PySem.F.plain_extend_loop _, key _ _ _ (fun b o hb e => (Heap.get?_update_other _ _ (Ne.symm hb)).trans ((Heap.get?_update_other _ _ (Ne.symm hb)).trans e)) hS₃⟩
theorem zl_call {Q : Value → Shared → Prop} {E : Value → Shared → Prop} (hh : A.handled = none) (D : ZipApart z TI TO i1 i2 l1 l2) (O : ZOff z TI TO i1 i2 l1 l2 s.heap.objs.size) (st : ZSt z TI TO i1 i2 l1 l2 s.heap.objs.size xs ys 0 s.heap) (hz : IsZip s.heap z TI TO .none) (n : Nat) (en : n = min xs.size ys.size) (hn : n ≤ sizeLine)
    (hQ : ∀ h' tk acc c as, ZKp z TO i1 i2 s.heap.objs.size s.heap h' → h'.get? s.heap.objs.size = some (LstO acc c) → as.length = n → ZPr xs ys s.heap.objs.size h' as → acc.toList = as.map Value.ref → Q (.ref s.heap.objs.size) { s with heap := h', toks := tk }) :
    wpAny (model prog w) A (call (.type "list") [.ref z]) Q E s := by
  have psh : ∀ (o : Obj) b u, s.heap.get? b = some u → (s.heap.push o).get? b = some u := fun o b u e => Heap.get?_push_of_some _ e
  refine callType_codes PySem.F.called_list (PySem.F.typeCall_list_1 _) PySem.F.entry_list_init (Q₁ := fun obj s₁ => obj = .ref s.heap.objs.size ∧ s₁ = { s with heap := s.heap.push { cls := .type "list", data := .seq #[] } })
    (code_list_new _ ⟨rfl, rfl⟩) fun obj s₁ h₁ => ?_
  obtain ⟨e1, e2⟩ := h₁; subst e1; subst e2
  have hS : (s.heap.push { cls := .type "list", data := .seq #[] }).get? s.heap.objs.size = some (LstO #[] 0) := Heap.get?_push_size _ rfl
  refine ⟨⟨_, hS, rfl⟩, PySem.F.args_list_init_2 _ _, ?_⟩
  show wpAny _ _ (do let old ← Builtin.List.listItems (.ref s.heap.objs.size); Builtin.List.listUpdate (.ref s.heap.objs.size) (fun _ => #[]); letGo old.toList.reverse; Builtin.List.listExtendWith (.ref s.heap.objs.size) (.ref z) .none) _ _ _
  refine wpAny_bind ?_
  unfold Builtin.List.listItems
  refine wpAny_bind (wpAny_seqItems hS rfl (wpAny_pure ?_))
  show wpAny _ _ (updateSeq s.heap.objs.size (fun _ => #[]) >>= fun _ => letGo (#[] : Array Value).toList.reverse >>= fun _ => Builtin.List.listExtendWith (.ref s.heap.objs.size) (.ref z) .none) _ _ _
  refine wpAny_bind (wpAny_updateSeq hS rfl ?_)
  have hS₂ := Heap.get?_update_self (Obj.mapSeq (fun _ => (#[] : Array Value))) hS rfl
  have oth : ∀ b o, b ≠ s.heap.objs.size → s.heap.get? b = some o → ((s.heap.push { cls := .type "list", data := .seq #[] }).update s.heap.objs.size (Obj.mapSeq (fun _ => (#[] : Array Value)))).get? b = some o := fun b o hb e => (Heap.get?_update_other _ _ (Ne.symm hb)).trans (psh _ b o e)
  refine wpAny_bind (wpAny_letGo ?_)
  refine zl_extend (A := A.in1) hh D O (st.fr O oth) (oth z _ (Nat.ne_of_lt O.z) hz) n en hn .none _ hS₂ fun h' tk acc c as hk hS' hl hG ha => ⟨rfl, hQ h' tk acc c as (fun b o b0 b1 b2 b3 b4 e => hk b o b0 b1 b2 b3 b4 (oth b o b0 e)) hS' hl hG ha⟩
end
/-- the new pairs laid into the tracked heap -/
def layT : List (Addr × V × V) → Hp → Hp
  | [], H => H
  | p :: r, H => L2.upd (layT r H) p.1 (.tup [p.2.1, p.2.2])
theorem layT_old {H : Hp} {c : Addr} : ∀ {l : List (Addr × V × V)}, (∀ p ∈ l, p.1 ≠ c) → layT l H c = H c
  | [], _ => rfl
  | p :: r, h => by
    show L2.upd (layT r H) p.1 _ c = _
    rw [upd_ne (Ne.symm (h p (.head _)))]
    exact layT_old fun q m => h q (.tail _ m)
theorem layT_new {H : Hp} {t : Addr} {x y : V} : ∀ {l : List (Addr × V × V)}, (l.map (·.1)).Nodup → (t, x, y) ∈ l → layT l H t = some (.tup [x, y])
  | p :: r, nd, m => by
    have nd' := List.nodup_cons.mp nd
    show L2.upd (layT r H) p.1 _ t = _
    rcases List.mem_cons.mp m with e | m
    · subst e
      exact upd_same
    · have ne : t ≠ p.1 := fun e => nd'.1 (List.mem_map.mpr ⟨_, m, e⟩)
      rw [upd_ne ne]
      exact layT_new nd'.2 m
theorem layT_inv {H : Hp} {c : Addr} {o : HO} : ∀ {l : List (Addr × V × V)}, layT l H c = some o → (∃ x y, (c, x, y) ∈ l ∧ o = .tup [x, y]) ∨ H c = some o
  | [], h => .inr h
  | p :: r, h => by
    by_cases e : c = p.1
    · have h' : L2.upd (layT r H) p.1 (.tup [p.2.1, p.2.2]) c = some o := h
      rw [e, upd_same] at h'
      exact .inl ⟨p.2.1, p.2.2, by rw [e]; exact .head _, (Option.some.inj h').symm⟩
    · have h' : L2.upd (layT r H) p.1 (.tup [p.2.1, p.2.2]) c = some o := h
      rw [upd_ne e] at h'
      rcases layT_inv h' with ⟨x, y, m, z⟩ | z
      · exact .inl ⟨x, y, .tail _ m, z⟩
      · exact .inr z
theorem Fr.exts {ds : List Addr} {H H' : Hp} (e : ∀ c o, H c = some o → H' c = some o) : Fr ds H H' := ⟨⟨fun a o h _ _ => e a o h, fun a n o h => n o (e a o h)⟩, fun T hT => hT.ext fun c u h => e c u h⟩
/-- list(zip(e, e2)) -/
def tLZ (K : PySem.W.Frag) (ta : TA) : TE := fun σ H Q => ta σ H fun vs H1 => ∃ a b xs ys, vs = [.ref a, .ref b] ∧ SqL K H1 a xs ∧ SqL K H1 b ys ∧ ∀ (l : Addr) (ts : List Addr) (H2 : Hp), Fr [] H1 H2 → H1 l = none → H2 l = some (.lst (ts.map V.ref)) → ts.length = min xs.length ys.length →
  (∀ (j : Nat) (t : Addr), ts[j]? = some t → ∃ x y, xs[j]? = some x ∧ ys[j]? = some y ∧ H1 t = none ∧ H2 t = some (.tup [x, y])) → Q (.ref l) H2
theorem ne_plus {c n : Nat} (h : c < n) (k : Nat) : c ≠ n + k := by omega
theorem le_of5 {c n m : Nat} (h : m ≤ c) (e : m = n + 5) : n ≤ c := by omega
theorem vals_ref : ∀ as : List Addr, Vals (as.map V.ref) (as.map Value.ref)
  | [] => .nil
  | _ :: as => .cons rfl (vals_ref as)
theorem vals_at {xs : List V} {us : List Value} (r : Vals xs us) : ∀ {j : Nat} {u : Value}, us[j]? = some u → ∃ x, xs[j]? = some x ∧ RelV x u := by
  induction r with
  | nil => intro j u h; simp at h
  | cons h t ih =>
    intro j u e
    cases j with
    | zero => cases e; exact ⟨_, rfl, h⟩
    | succ j => exact ih e
theorem pe_listZip {X : Cx} {e e2 : Expr} {ta : TA} {p p2 pos pos2 : Pos} (hc : X.calm = true) (gl : Gl X "list") (ml : X.mg "list" = none) (gz : Gl X "zip") (mz : X.mg "zip" = none) (ha : PA X [e, e2] ta)
    (hs : starEach [e, e2] X.env = (false, eval e X.env) :: starEach [e2] X.env := by rfl) (hpl : (backTo pos2 (starEach [e2] X.env)).any (·.1) = false := by rfl)
    (na : starEach [.Call (.Name "zip" p2) [e, e2] [] pos2] X.env = (false, eval (.Call (.Name "zip" p2) [e, e2] [] pos2) X.env) :: starEach [] X.env := by rfl) :
    PE X (.Call (.Name "list" p) [.Call (.Name "zip" p2) [e, e2] [] pos2] [] pos) (tLZ X.K ta) := by
  refine ⟨fun pins s σ H Q I h => ?_⟩
  refine Call_ (ld_blt I gl ml boot_list (PyProof.Rows.callWith_type1 (args_cons (Call_ (ld_blt I gz mz PyProof.Rows.boot_zip (PyProof.Rows.callWith_type1 (thn (ha.run pos2 pins s σ H _ I h) fun us s1 ⟨vs, H1, I1, r1, q1⟩ => ?_) hs hpl))) na) na))
  obtain ⟨a, b, xs, ys, ex, hqx, hqy, q⟩ := q1; subst ex
  cases r1 with
  | cons r rr => cases rr with
    | cons r' rr =>
      cases rr; cases r; cases r'
      obtain ⟨its, rv, p1, z1⟩ := I1.list hqx
      obtain ⟨its2, rv2, pp2, z2⟩ := I1.list hqy
      have la : a < s1.heap.objs.size := p1.lt
      have lb : b < s1.heap.objs.size := pp2.lt
      refine call_zip_2 p1.isList pp2.isList fun h' hz hTI hTO h1 h2 hsz hk => args_nil ?_
      have hl1 := p1.isList.at fun o e => hk _ o e
      have hl2 := pp2.isList.at fun o e => hk _ o e
      have ll := rv.length
      have ll2 := rv2.length
      have D := PySem.W.ktu_apart s1.heap.objs.size a b la lb
      have O : ZOff (s1.heap.objs.size + 4) (s1.heap.objs.size + 2) (s1.heap.objs.size + 3) s1.heap.objs.size (s1.heap.objs.size + 1) a b h'.objs.size := by
        rw [hsz]
        have f : ∀ n a : Nat, a < n → a < n + 5 := fun n a h => by omega
        have g : ∀ n i : Nat, i < 5 → n + i < n + 5 := fun n i h => by omega
        exact ⟨g _ 4 (by decide), g _ 2 (by decide), g _ 3 (by decide), g _ 0 (by decide), g _ 1 (by decide), f _ _ la, f _ _ lb⟩
      refine zl_call (s := { s1 with heap := h' }) (I1.ok.hd hc) D O ⟨hTI, h1, h2, hl1, hl2, .inl ⟨hz, _, _, hTO⟩⟩ hz (min xs.length ys.length) (by simp only [List.size_toArray]; omega) (by omega) fun h2' tk acc c as kp hS hl hG hacc => ?_
      have old : ∀ c o, s1.heap.get? c = some o → h2'.get? c = some o := fun c o e => by
        have lc : c < s1.heap.objs.size := Heap.lt_size e
        have f : ∀ k : Nat, c ≠ s1.heap.objs.size + k := ne_plus lc
        exact kp c o (by rw [hsz]; exact f 5) (f 4) (f 3) (f 0) (f 1) (hk c o e)
      have new : ∀ c : Addr, h'.objs.size ≤ c → s1.heap.objs.size ≤ c := fun c g => by
        exact le_of5 g hsz
      have nH : ∀ c : Addr, h'.objs.size ≤ c → H1 c = none := fun c g => I1.hok.fresh (new c g)
      have nas : ∀ c ∈ as, H1 c = none := fun c m => nH c (Nat.le_of_lt (hG.over c m))
      have lz : (xs.zip ys).length = as.length := by rw [List.length_zip, hl]
      have e1 : (as.zip (xs.zip ys)).map (·.1) = as := List.map_fst_zip (by omega)
      have nd : ((as.zip (xs.zip ys)).map (·.1)).Nodup := by
        rw [e1]
        exact hG.up.imp fun {a b} g => Nat.ne_of_lt g
      have memA : ∀ t x y, (t, x, y) ∈ as.zip (xs.zip ys) → t ∈ as ∧ ∃ j : Nat, as[j]? = some t ∧ xs[j]? = some x ∧ ys[j]? = some y := fun t x y m => by
        obtain ⟨j, hj⟩ := List.mem_iff_getElem?.mp m
        obtain ⟨q1, q2⟩ := List.getElem?_zip_eq_some.mp hj
        obtain ⟨q2, q3⟩ := List.getElem?_zip_eq_some.mp q2
        exact ⟨List.mem_of_getElem? q1, j, q1, q2, q3⟩
      have oldH : ∀ c o, H1 c = some o → L2.upd (layT (as.zip (xs.zip ys)) H1) h'.objs.size (.lst (as.map V.ref)) c = some o := fun c o e => by
        rw [upd_ne (ne_of_none e (nH _ (Nat.le_refl _))), layT_old fun p m z => ?_]
        · exact e
        · obtain ⟨t, x, y⟩ := p
          have := nas t (memA t x y m).1
          rw [show t = c from z, e] at this
          cases this
      have freeH : ∀ c o, s1.heap.get? c = some o → H1 c = none → L2.upd (layT (as.zip (xs.zip ys)) H1) h'.objs.size (.lst (as.map V.ref)) c = none := fun c o e n => by
        have lc : c < s1.heap.objs.size := Heap.lt_size e
        rw [upd_ne (fun z => Nat.lt_irrefl _ (Nat.lt_of_lt_of_le lc (new c (by rw [z]; exact Nat.le_refl _)))), layT_old fun p m z => ?_]
        · exact n
        · obtain ⟨t, x, y⟩ := p
          have g := hG.over t (memA t x y m).1
          rw [show t = c from z] at g
          exact Nat.lt_irrefl _ (Nat.lt_of_lt_of_le lc (new c (Nat.le_of_lt g)))
      have tupV : ∀ (j : Nat) (t : Addr), as[j]? = some t → ∃ x y, xs[j]? = some x ∧ ys[j]? = some y ∧ (t, x, y) ∈ as.zip (xs.zip ys) ∧ ∃ u v, RelV x u ∧ RelV y v ∧ IsPair h2' t u v := fun j t ej => by
        obtain ⟨u, v, eu, ev, pr⟩ := hG.is j t ej
        rw [List.getElem?_toArray] at eu ev
        obtain ⟨x, ex, rx⟩ := vals_at rv eu
        obtain ⟨y, ey, ry⟩ := vals_at rv2 ev
        exact ⟨x, y, ex, ey, List.mem_of_getElem? (i := j) (List.getElem?_zip_eq_some.mpr ⟨ej, List.getElem?_zip_eq_some.mpr ⟨ex, ey⟩⟩), u, v, rx, ry, pr⟩
      have u : Un X.fs [] H1 (L2.upd (layT (as.zip (xs.zip ys)) H1) h'.objs.size (.lst (as.map V.ref))) s1.heap h2' :=
        { keep := fun b o e _ _ _ => old b o e
          slot := fun b o e _ _ _ => ⟨o.slots, old b o e⟩
          free := fun b o e n _ => freeH b o e n
          there := fun b o e _ => ⟨o, old b o e⟩
          tups := fun b xs e => oldH b _ e
          frzs := fun b o u e => oldH b _ e
          tbls := fun b ps e => ⟨#[], by rw [oldH b _ e]; simp⟩ }
      have ok : HOk X.prog X.w (L2.upd (layT (as.zip (xs.zip ys)) H1) h'.objs.size (.lst (as.map V.ref))) h2' := fun c o e => by
        by_cases ec : c = h'.objs.size
        · subst ec
          rw [upd_same] at e
          cases e
          exact ⟨by rw [List.length_map]; omega, as.map Value.ref, _, vals_ref as, by rw [← hacc, Array.toArray_toList]; exact hS⟩
        · rw [upd_ne ec] at e
          rcases layT_inv e with ⟨x, y, m, rfl⟩ | e0
          · obtain ⟨_, j, ej, _, _⟩ := memA c x y m
            obtain ⟨x', y', _, _, m', u, v, ru, rw', pr⟩ := tupV j c ej
            have e' := layT_new (H := H1) nd m'
            rw [layT_new (H := H1) nd m] at e'
            cases e'
            exact ⟨by show 2 ≤ sizeLine; decide, [u, v], .cons ru (.cons rw' .nil), _, pr, rfl, _, rfl⟩
          · exact (I1.hok c o e0).stay (fun b u _ e => old b u e) (fun b e => oldH b _ e) fun b xs e => oldH b _ e
      have J := I1.un (t' := tk) u ok
      refine ⟨.ref h'.objs.size, _, J, rfl, q _ as _ (Fr.exts oldH) (nH _ (Nat.le_refl _)) upd_same hl fun j t ej => ?_⟩
      obtain ⟨x, y, ex, ey, m, _⟩ := tupV j t ej
      have mt := List.mem_of_getElem? ej
      exact ⟨x, y, ex, ey, nas t mt, by rw [upd_ne (Nat.ne_of_gt (hG.over t mt))]; exact layT_new nd m⟩
end UF

set_option Elab.async false
set_option maxRecDepth 100000
set_option maxHeartbeats 4000000
/-! seats of a ring, walks around it: mathematics -/
namespace UF
open PySem PySem.Spec PyProof.Rows L2

/-- the seats met on a walk of n steps that begins at s -/
def walkL (r s : Int) (n : Nat) (ns : List Int) : List Int := ((List.range n).map fun k => (s + ((k : Nat) : Int)) % r).filter fun x => decide (x ∈ ns)
theorem walkL_succ (r s : Int) (n : Nat) (ns : List Int) : walkL r s (n + 1) ns = if (s + (n : Int)) % r ∈ ns then walkL r s n ns ++ [(s + (n : Int)) % r] else walkL r s n ns := by
  unfold walkL
  rw [List.range_succ, List.map_append, List.filter_append]
  by_cases h : (s + (n : Int)) % r ∈ ns
  · rw [if_pos h]
    simp [h]
  · rw [if_neg h]
    simp [h]
/-- two rising lists with the same members are one -/
theorem rising_ext : ∀ {xs ys : List Int}, xs.Pairwise (· < ·) → ys.Pairwise (· < ·) → (∀ z, z ∈ xs ↔ z ∈ ys) → xs = ys
  | [], [], _, _, _ => rfl
  | [], y :: ys, _, _, h => absurd ((h y).mpr (.head _)) (by simp)
  | x :: xs, [], _, _, h => absurd ((h x).mp (.head _)) (by simp)
  | x :: xs, y :: ys, hx, hy, h => by
    have hx' := List.pairwise_cons.mp hx
    have hy' := List.pairwise_cons.mp hy
    have e : x = y := by
      have h1 := (h x).mp (.head _)
      have h2 := (h y).mpr (.head _)
      rcases List.mem_cons.mp h1 with e | m1
      · exact e
      · rcases List.mem_cons.mp h2 with e | m2
        · exact e.symm
        · have := hx'.1 y m2
          have := hy'.1 x m1
          omega
    subst e
    refine congrArg (List.cons x) (rising_ext hx'.2 hy'.2 fun z => ?_)
    constructor
    · intro m
      have l := hx'.1 z m
      rcases List.mem_cons.mp ((h z).mp (.tail _ m)) with e | m2
      · omega
      · exact m2
    · intro m
      have l := hy'.1 z m
      rcases List.mem_cons.mp ((h z).mpr (.tail _ m)) with e | m2
      · omega
      · exact m2
theorem emod_lt' {r : Int} (h : 0 < r) (a : Int) : a % r < r := Int.emod_lt_of_pos _ h
theorem emod_nn {r : Int} (h : 0 < r) (a : Int) : 0 ≤ a % r := Int.emod_nonneg _ (by omega)
/-- a seat is met again at its distance -/
theorem back {r s x : Int} (h0 : 0 ≤ x) (h1 : x < r) : (s + (x - s) % r) % r = x := by
  rw [Int.add_emod, Int.emod_emod, ← Int.add_emod, show s + (x - s) = x by omega]
  exact Int.emod_eq_of_lt h0 h1
theorem forth {r s k : Int} (h0 : 0 ≤ k) (h1 : k < r) : ((s + k) % r - s) % r = k := by
  rw [Int.sub_emod, Int.emod_emod, ← Int.sub_emod, show s + k - s = k by omega]
  exact Int.emod_eq_of_lt h0 h1
/-- the sorted distances up to span, as the walk tells them -/
theorem steps_walk {r s : Int} {ns st : List Int} {n : Nat} (hr : 0 < r) (hn : (n : Int) ≤ r) (h0 : ∀ x ∈ ns, 0 ≤ x) (h1 : ∀ x ∈ ns, x < r) (nd : ns.Nodup) (pm : st.Perm (ns.map fun x => (x - s) % r)) (so : st.Pairwise (· ≤ ·)) :
    (st.filter fun k => decide (k < (n : Int))).map (fun k => (s + k) % r) = walkL r s n ns := by
  have mem : ∀ k, k ∈ st ↔ ∃ x ∈ ns, (x - s) % r = k := fun k => by
    rw [pm.mem_iff, List.mem_map]
  have inj : (ns.map fun x => (x - s) % r).Nodup := by
    unfold List.Nodup
    rw [List.pairwise_map]
    refine List.Pairwise.imp_of_mem (fun {a b} ha hb hab e => hab ?_) nd
    rw [← back (s := s) (h0 a ha) (h1 a ha), ← back (s := s) (h0 b hb) (h1 b hb), e]
  have up : st.Pairwise (· < ·) := by
    have z := so.and (pm.nodup_iff.mpr inj)
    exact z.imp fun {a b} h => by
      have h1 := h.1
      have h2 := h.2
      omega
  have e : (st.filter fun k => decide (k < (n : Int))) = ((List.range n).filter fun k => decide ((s + ((k : Nat) : Int)) % r ∈ ns)).map fun k => ((k : Nat) : Int) := by
    refine rising_ext (up.filter _) (List.Pairwise.map _ (fun a b h => by omega) (List.pairwise_lt_range.filter _)) fun z => ?_
    rw [List.mem_filter, mem, List.mem_map]
    constructor
    · rintro ⟨⟨x, hx, rfl⟩, hz⟩
      have hz := of_decide_eq_true hz
      have p0 := emod_nn hr (x - s)
      refine ⟨((x - s) % r).toNat, List.mem_filter.mpr ⟨List.mem_range.mpr (by omega), decide_eq_true ?_⟩, by omega⟩
      rw [Int.toNat_of_nonneg p0, back (h0 x hx) (h1 x hx)]
      exact hx
    · rintro ⟨k, hk, rfl⟩
      obtain ⟨k1, k2⟩ := List.mem_filter.mp hk
      have k1 := List.mem_range.mp k1
      refine ⟨⟨_, of_decide_eq_true k2, forth (by omega) (by omega)⟩, decide_eq_true (by omega)⟩
  rw [e, List.map_map]
  unfold walkL
  rw [List.filter_map]
  rfl
theorem walkL_nil (r s : Int) (n : Nat) : walkL r s n [] = [] := by
  unfold walkL
  rw [List.filter_eq_nil_iff]
  intro a _
  simp
/-- the first seat of the walk is the one of the least distance -/
theorem walk_first {r s m : Int} {ns : List Int} (hr : 0 < r) (h0 : ∀ x ∈ ns, 0 ≤ x) (h1 : ∀ x ∈ ns, x < r) (hm : m ∈ ns) (best : ∀ x ∈ ns, (m - s) % r ≤ (x - s) % r) : ∃ rest, walkL r s r.toNat ns = m :: rest := by
  have p0 := emod_nn hr (m - s)
  have p1 := emod_lt' hr (m - s)
  obtain ⟨t, ht⟩ : ∃ t, r.toNat = ((m - s) % r).toNat + (t + 1) := ⟨r.toNat - ((m - s) % r).toNat - 1, by omega⟩
  have bk := back (s := s) (h0 m hm) (h1 m hm)
  unfold walkL
  rw [ht, List.range_add, List.map_append, List.filter_append]
  have e1 : ((List.range ((m - s) % r).toNat).map fun k => (s + ((k : Nat) : Int)) % r).filter (fun x => decide (x ∈ ns)) = [] := by
    rw [List.filter_eq_nil_iff]
    intro x hx hd
    obtain ⟨k, hk, rfl⟩ := List.mem_map.mp hx
    have hk := List.mem_range.mp hk
    have b := best _ (of_decide_eq_true hd)
    rw [forth (by omega) (by omega)] at b
    omega
  rw [e1, List.nil_append, List.range_succ_eq_map, List.map_cons, List.map_cons, List.filter_cons]
  have e2 : (s + (((((m - s) % r).toNat + 0 : Nat)) : Int)) % r = m := by
    rw [show ((((m - s) % r).toNat + 0 : Nat) : Int) = (m - s) % r by omega]
    exact bk
  rw [e2, if_pos (decide_eq_true hm)]
  exact ⟨_, rfl⟩
theorem emod_is {a r c q : Int} (e : a = c + r * q) (h0 : 0 ≤ c) (h1 : c < r) : a % r = c := by
  rw [e, Int.add_mul_emod_self_left]
  exact Int.emod_eq_of_lt h0 h1
theorem count_eq {r : Int} (hr : 0 < r) (lo hi : Int) : (if (hi - lo) % r = 0 then r else (hi - lo) % r) = (hi - (lo + 1)) % r + 1 := by
  have e := Int.emod_add_mul_ediv (hi - lo) r
  have p0 := emod_nn hr (hi - lo)
  have p1 := emod_lt' hr (hi - lo)
  generalize (hi - lo) % r = d at e p0 p1
  generalize (hi - lo) / r = q at e
  by_cases h : d = 0
  · rw [if_pos h, emod_is (c := r - 1) (q := q - 1) (r := r) ?_ (by omega) (by omega)]
    · omega
    · rw [Int.mul_sub, Int.mul_one]
      omega
  · rw [if_neg h, emod_is (c := d - 1) (q := q) (r := r) (by omega) (by omega) (by omega)]
    omega
theorem gap_eq {r : Int} (a : Int) : (a - a % r) / r * r = a - a % r := by
  refine Int.ediv_mul_cancel ⟨a / r, ?_⟩
  have e := Int.emod_add_mul_ediv a r
  omega
/-- a list of seats of the ring, each once -/
structure Seats (ns : List Int) (r : Int) : Prop where
  nd : ns.Nodup
  lo : ∀ x ∈ ns, 0 ≤ x
  hi : ∀ x ∈ ns, x < r
theorem seqIx_lt {d : Int} {n : Nat} (h0 : 0 ≤ d) (h1 : d < n) : seqIndex? d n = some d.toNat := by
  refine (ixN_seq (n := n) (i := d) (j := d.toNat) ?_).1
  unfold ixN
  rw [if_pos h0, if_pos h1]
theorem map_erase (f : Int → V) : ∀ (l : List Int) (i : Nat), (l.map f).eraseIdx i = (l.eraseIdx i).map f
  | [], _ => rfl
  | _ :: _, 0 => rfl
  | a :: l, i + 1 => congrArg (List.cons (f a)) (map_erase f l i)
theorem erase_perm : ∀ {l : List Int} {i : Nat} {y : Int}, l[i]? = some y → (y :: l.eraseIdx i).Perm l
  | [], i, y, h => by simp at h
  | a :: l, 0, y, h => by
    cases h
    exact List.Perm.refl _
  | a :: l, i + 1, y, h => by
    have h' : l[i]? = some y := h
    exact (List.Perm.swap a y _).trans ((erase_perm h').cons a)
theorem nodup_move {hs ps : List Int} {i : Nat} {y : Int} (h : (hs ++ ps).Nodup) (e : ps[i]? = some y) : ((hs ++ [y]) ++ ps.eraseIdx i).Nodup := by
  have p1 := erase_perm e
  rw [List.append_assoc]
  exact (List.Perm.append_left hs p1).symm.nodup h
theorem mem_move {hs ps : List Int} {i : Nat} {y x : Int} (e : ps[i]? = some y) (h : x ∈ (hs ++ [y]) ++ ps.eraseIdx i) : x ∈ hs ++ ps := by
  have p1 := erase_perm e
  rw [List.append_assoc] at h
  exact (List.Perm.append_left hs p1).mem_iff.mp h

theorem nodup_len : ∀ (n : Nat) (l : List Nat), l.Nodup → (∀ x ∈ l, x < n) → l.length ≤ n
  | 0, [], _, _ => Nat.le_refl _
  | 0, a :: l, _, h => absurd (h a (.head _)) (Nat.not_lt_zero _)
  | n + 1, l, nd, h => by
    by_cases m : n ∈ l
    · have z := nodup_len n (l.erase n) (nd.erase n) fun x hx => by
        have q := (nd.mem_erase_iff).mp hx
        have := h x q.2
        have := q.1
        omega
      rw [List.length_erase_of_mem m] at z
      omega
    · refine Nat.le_succ_of_le (nodup_len n l nd fun x hx => ?_)
      have := h x hx
      have : x ≠ n := fun e => m (e ▸ hx)
      omega
theorem seats_len {ns : List Int} {r : Int} (h : Seats ns r) (hr : 0 ≤ r) : ns.length ≤ r.toNat := by
  have sub : (ns.map Int.toNat).Nodup := by
    unfold List.Nodup
    rw [List.pairwise_map]
    refine List.Pairwise.imp_of_mem (fun {a b} ha hb hab e => hab ?_) h.nd
    have := h.lo a ha
    have := h.lo b hb
    omega
  have hs : (ns.map Int.toNat).Subset (List.range r.toNat) := by
    intro x hx
    obtain ⟨a, ha, rfl⟩ := List.mem_map.mp hx
    have := h.lo a ha
    have := h.hi a ha
    exact List.mem_range.mpr (by omega)
  have z := nodup_len r.toNat _ sub fun x hx => List.mem_range.mp (hs hx)
  rw [List.length_map] at z
  exact z


def ringN (n : Nat) : Int := ((2 ^ n : Nat) : Int)
theorem ring_pos (n : Nat) : 0 < ringN n := by
  unfold ringN
  have := Nat.two_pow_pos n
  omega
theorem ring_two {n : Nat} (h : 1 ≤ n) : 2 ≤ ringN n := by
  unfold ringN
  have : (2 : Nat) ^ 1 ≤ 2 ^ n := Nat.pow_le_pow_right (by decide) h
  omega
theorem ringN_le {n : Nat} (h : n ≤ 8) : ringN n ≤ 256 := by
  unfold ringN
  have : 2 ^ n ≤ 2 ^ 8 := Nat.pow_le_pow_right (by decide) h
  omega
theorem ringN_succ (i : Nat) : ringN i * 2 = ringN (i + 1) := by
  unfold ringN
  rw [Nat.pow_succ]
  omega
theorem ring_lt {n : Nat} (h : n ≤ 8) : ringN n < 2 ^ 2000 := Int.lt_of_le_of_lt (ringN_le h) (by decide +kernel)
theorem shl_eq (n : Nat) : (1 : Int) * 2 ^ ((n : Int)).toNat = ringN n := by
  unfold ringN
  rw [Int.toNat_natCast, Int.one_mul]
  simp
theorem rg_int (r : Int) : rgV 0 r = ((List.range r.toNat).map fun i => ((i : Nat) : Int)).map V.int := by
  unfold rgV
  rw [List.map_map, show (r - 0).toNat = r.toNat by rw [Int.sub_zero]]
  refine List.map_congr_left fun i _ => ?_
  show V.int (0 + (i : Nat)) = V.int ((i : Nat) : Int)
  rw [Int.zero_add]
end UF

set_option Elab.async false
set_option maxRecDepth 100000
set_option maxHeartbeats 4000000
/-! lists of whole numbers as data; slices; lists by filters -/
namespace UF
open PySem PySem.Spec PyProof.Rows L2
theorem dpList {K : PySem.W.Frag} {H : Hp} {a : Addr} {ns : List Int} (h : SqL K H a (ns.map V.int)) : Dp K H (.ref a) (.list (ns.map PyData.int)) := by
  refine .lst h ?_
  clear h
  induction ns with
  | nil => exact .nil
  | cons n ns ih => exact .cons (.int n) ih
theorem lay_ints : ∀ ns : List Int, PyData.canLayAll0 (ns.map PyData.int) = true
  | [] => by simp [PyData.canLayAll0]
  | n :: ns => by
    rw [List.map_cons, PyData.canLayAll0, lay_ints ns]
    simp [PyData.canLay0]
theorem dep_ints : ∀ ns : List Int, PyData.depthAll (ns.map PyData.int) = 0
  | [] => by simp [PyData.depthAll]
  | n :: ns => by
    rw [List.map_cons, PyData.depthAll, dep_ints ns]
    simp [PyData.depth]
theorem can_list (ns : List Int) : (PyData.list (ns.map PyData.int)).canLay0 = true := by
  rw [PyData.canLay0]
  exact lay_ints ns
theorem shaped_list (ns : List Int) : SeqAt.shaped (.list (ns.map PyData.int)) = true := by
  unfold SeqAt.shaped
  rw [can_list, PyData.depth, dep_ints]
  rfl
theorem eqv_list (ns : List Int) : PyData.eqv (.list (ns.map PyData.int)) (.list (ns.map PyData.int)) = true := SeqAt.eqv_refl _ (can_list ns)
theorem eqvAll_ints : ∀ xs ys : List Int, PyData.eqvAll (xs.map PyData.int) (ys.map PyData.int) = decide (xs = ys)
  | [], [] => by simp [PyData.eqvAll]
  | [], _ :: _ => by simp [PyData.eqvAll]
  | _ :: _, [] => by simp [PyData.eqvAll]
  | x :: xs, y :: ys => by
    rw [List.map_cons, List.map_cons, PyData.eqvAll, eqvAll_ints xs ys, PyData.eqv]
    by_cases h : x = y
    · subst h; simp
    · simp [h]
theorem eqv_ints (xs ys : List Int) : PyData.eqv (.list (xs.map PyData.int)) (.list (ys.map PyData.int)) = decide (xs = ys) := by
  rw [PyData.eqv]
  exact eqvAll_ints xs ys
theorem cut_to {xs : List V} {k : Int} (h : 0 ≤ k) : cutV xs none (some k) = xs.take k.toNat := by
  obtain ⟨j, rfl⟩ := Int.eq_ofNat_of_zero_le h
  unfold cutV
  rw [HT.sIx_nat, HT.sIx_none, List.drop_zero, Int.toNat_natCast, Nat.sub_zero]
  by_cases q : j ≤ xs.length
  · rw [Nat.min_eq_left q]
  · rw [Nat.min_eq_right (by omega), List.take_of_length_le (Nat.le_refl _), List.take_of_length_le (by omega)]
theorem cut_from {xs : List V} {k : Int} (h : 0 ≤ k) : cutV xs (some k) none = xs.drop k.toNat := by
  obtain ⟨j, rfl⟩ := Int.eq_ofNat_of_zero_le h
  unfold cutV
  rw [HT.sIx_nat, HT.sIx_none, Int.toNat_natCast]
  by_cases q : j ≤ xs.length
  · rw [Nat.min_eq_left q]
    exact List.take_of_length_le (by rw [List.length_drop]; exact Nat.le_refl _)
  · rw [Nat.min_eq_right (by omega), List.drop_of_length_le (Nat.le_refl _), List.drop_of_length_le (by omega)]
    exact List.take_nil
theorem take_snoc {α : Type} {xs : List α} {i : Nat} {z : α} (e : xs[i]? = some z) : xs.take (i + 1) = xs.take i ++ [z] := by rw [List.take_add_one, e]; rfl
theorem map_get {α : Type} {f : α → V} {xs : List α} {i : Nat} {v : V} (h : (xs.map f)[i]? = some v) : ∃ z, xs[i]? = some z ∧ v = f z := by
  rw [List.getElem?_map] at h
  cases e : xs[i]? with
  | none => rw [e] at h; cases h
  | some z => rw [e] at h; cases h; exact ⟨z, rfl, rfl⟩
theorem map_getE {xs : List Int} {i : Nat} {v : V} (h : (xs.map V.int)[i]? = some v) : ∃ z, xs[i]? = some z ∧ v = .int z := map_get h
theorem flat_ints : ∀ xs : List Int, (xs.map V.int).all flatV = true
  | [] => rfl
  | _ :: xs => by rw [List.map_cons, List.all_cons, flat_ints xs]; rfl
theorem inV_ints (x : Int) : ∀ xs : List Int, inV (.int x) (xs.map V.int) = decide (x ∈ xs)
  | [] => by simp [inV]
  | y :: xs => by
    have ih := inV_ints x xs
    unfold inV at ih ⊢
    rw [List.map_cons, List.any_cons, ih]
    by_cases h : x = y
    · subst h
      have : eqV (V.int x) (V.int x) = true := by simp [eqV]
      simp [this]
    · have : eqV (V.int y) (V.int x) = false := by simp [eqV]; omega
      simp [this, h]
end UF

set_option Elab.async false
set_option maxRecDepth 100000
set_option maxHeartbeats 4000000
set_option exponentiation.threshold 4096
/-! the purse of draws (a dict of seven) -/
namespace UF
open PySem PySem.Spec PyProof.Rows L2 C8
/-! ### the purse -/
def pv7 (c : Addr) (a r l m s n : Int) : List (Key × V) := [(.inr "cells", .ref c), (.inr "at", .int a), (.inr "rest", .int r), (.inr "left", .int l), (.inr "mixed", .int m), (.inr "seed", .int s), (.inr "count", .int n)]
structure PuV (H : Hp) (p c : Addr) (cells : List Int) (a r l m s n : Int) : Prop where
  hp : H p = some (.dK (pv7 c a r l m s n))
  hc : H c = some (.lst (cells.map V.int))
theorem PuV.ne {H : Hp} {p c : Addr} {cells : List Int} {a r l m s n : Int} (B : PuV H p c cells a r l m s n) : c ≠ p := by
  intro e
  have h := B.hc
  rw [e, B.hp] at h
  cases h
theorem PuV.set {H : Hp} {p c : Addr} {cells : List Int} {a r l m s n : Int} (B : PuV H p c cells a r l m s n) (a' r' l' m' s' n' : Int) : PuV (upd H p (.dK (pv7 c a' r' l' m' s' n'))) p c cells a' r' l' m' s' n' :=
  ⟨upd_same, by rw [upd_ne B.ne]; exact B.hc⟩
/-- the purse, between two draws -/
def Purse (H : Hp) (p c : Addr) : Prop := ∃ (cells : List Int) (a r l m s n : Int), PuV H p c cells a r l m s n ∧ 0 ≤ a
section
variable {H : Hp} {p c : Addr} {cells : List Int} {a r l m s n : Int}
theorem PuV.g_cells (B : PuV H p c cells a r l m s n) : DGet H p (.str "cells") (some (.ref c)) := by
  have h := DGet.k (k := Sum.inr "cells") B.hp
  rw [show valV (pv7 c a r l m s n) (Sum.inr "cells") = some (.ref c) by kernel_rfl] at h
  exact h
theorem PuV.g_at (B : PuV H p c cells a r l m s n) : DGet H p (.str "at") (some (.int a)) := by
  have h := DGet.k (k := Sum.inr "at") B.hp
  rw [show valV (pv7 c a r l m s n) (Sum.inr "at") = some (.int a) by kernel_rfl] at h
  exact h
theorem PuV.p_at (B : PuV H p c cells a r l m s n) (z : Int) : DPut H p (.str "at") (.int z) (upd H p (.dK (pv7 c z r l m s n))) := by
  have h := DPut.k (k := Sum.inr "at") (v := .int z) B.hp (by show 7 < sizeLine; decide)
  rw [show putK (pv7 c a r l m s n) (Sum.inr "at") (.int z) = pv7 c z r l m s n by kernel_rfl] at h
  exact h
theorem PuV.g_rest (B : PuV H p c cells a r l m s n) : DGet H p (.str "rest") (some (.int r)) := by
  have h := DGet.k (k := Sum.inr "rest") B.hp
  rw [show valV (pv7 c a r l m s n) (Sum.inr "rest") = some (.int r) by kernel_rfl] at h
  exact h
theorem PuV.p_rest (B : PuV H p c cells a r l m s n) (z : Int) : DPut H p (.str "rest") (.int z) (upd H p (.dK (pv7 c a z l m s n))) := by
  have h := DPut.k (k := Sum.inr "rest") (v := .int z) B.hp (by show 7 < sizeLine; decide)
  rw [show putK (pv7 c a r l m s n) (Sum.inr "rest") (.int z) = pv7 c a z l m s n by kernel_rfl] at h
  exact h
theorem PuV.g_left (B : PuV H p c cells a r l m s n) : DGet H p (.str "left") (some (.int l)) := by
  have h := DGet.k (k := Sum.inr "left") B.hp
  rw [show valV (pv7 c a r l m s n) (Sum.inr "left") = some (.int l) by kernel_rfl] at h
  exact h
theorem PuV.p_left (B : PuV H p c cells a r l m s n) (z : Int) : DPut H p (.str "left") (.int z) (upd H p (.dK (pv7 c a r z m s n))) := by
  have h := DPut.k (k := Sum.inr "left") (v := .int z) B.hp (by show 7 < sizeLine; decide)
  rw [show putK (pv7 c a r l m s n) (Sum.inr "left") (.int z) = pv7 c a r z m s n by kernel_rfl] at h
  exact h
theorem PuV.g_mixed (B : PuV H p c cells a r l m s n) : DGet H p (.str "mixed") (some (.int m)) := by
  have h := DGet.k (k := Sum.inr "mixed") B.hp
  rw [show valV (pv7 c a r l m s n) (Sum.inr "mixed") = some (.int m) by kernel_rfl] at h
  exact h
theorem PuV.p_mixed (B : PuV H p c cells a r l m s n) (z : Int) : DPut H p (.str "mixed") (.int z) (upd H p (.dK (pv7 c a r l z s n))) := by
  have h := DPut.k (k := Sum.inr "mixed") (v := .int z) B.hp (by show 7 < sizeLine; decide)
  rw [show putK (pv7 c a r l m s n) (Sum.inr "mixed") (.int z) = pv7 c a r l z s n by kernel_rfl] at h
  exact h
theorem PuV.g_seed (B : PuV H p c cells a r l m s n) : DGet H p (.str "seed") (some (.int s)) := by
  have h := DGet.k (k := Sum.inr "seed") B.hp
  rw [show valV (pv7 c a r l m s n) (Sum.inr "seed") = some (.int s) by kernel_rfl] at h
  exact h
theorem PuV.p_seed (B : PuV H p c cells a r l m s n) (z : Int) : DPut H p (.str "seed") (.int z) (upd H p (.dK (pv7 c a r l m z n))) := by
  have h := DPut.k (k := Sum.inr "seed") (v := .int z) B.hp (by show 7 < sizeLine; decide)
  rw [show putK (pv7 c a r l m s n) (Sum.inr "seed") (.int z) = pv7 c a r l m z n by kernel_rfl] at h
  exact h
theorem PuV.g_count (B : PuV H p c cells a r l m s n) : DGet H p (.str "count") (some (.int n)) := by
  have h := DGet.k (k := Sum.inr "count") B.hp
  rw [show valV (pv7 c a r l m s n) (Sum.inr "count") = some (.int n) by kernel_rfl] at h
  exact h
theorem PuV.p_count (B : PuV H p c cells a r l m s n) (z : Int) : DPut H p (.str "count") (.int z) (upd H p (.dK (pv7 c a r l m s z))) := by
  have h := DPut.k (k := Sum.inr "count") (v := .int z) B.hp (by show 7 < sizeLine; decide)
  rw [show putK (pv7 c a r l m s n) (Sum.inr "count") (.int z) = pv7 c a r l m s z by kernel_rfl] at h
  exact h
end


section
variable {H H' : Hp} {p c : Addr} {cells : List Int} {a r l m s n : Int} {ds : List Addr}
theorem PuV.pl (B : PuV H p c cells a r l m s n) : Pl H p := .dK B.hp
theorem PuV.fr (B : PuV H p c cells a r l m s n) (x : Fr ds H H') (n1 : p ∉ ds) (n2 : c ∉ ds) : PuV H' p c cells a r l m s n := ⟨x.dK B.hp n1, x.lst B.hc n2⟩
theorem Purse.fr (B : Purse H p c) (x : Fr ds H H') (n1 : p ∉ ds) (n2 : c ∉ ds) : Purse H' p c := by
  obtain ⟨cells, a, r, l, m, s, n, B, h⟩ := B
  exact ⟨cells, a, r, l, m, s, n, B.fr x n1 n2, h⟩
theorem Purse.new (B : Purse H p c) {q : Addr} (z : H q = none) (o : HO) : Purse (upd H q o) p c := B.fr (Fr.new0 (ds := []) z o) not_nil not_nil
theorem Purse.at_ (B : Purse H p c) : ∃ o, H p = some o := by
  obtain ⟨cells, a, r, l, m, s, n, B, h⟩ := B
  exact ⟨_, B.hp⟩
theorem Purse.in_ (B : Purse H p c) : ∃ o, H c = some o := by
  obtain ⟨cells, a, r, l, m, s, n, B, h⟩ := B
  exact ⟨_, B.hc⟩
theorem Purse.nw_ne (B : Purse H p c) {q : Addr} (n : Nw H q) : q ≠ p ∧ q ≠ c := by
  obtain ⟨cells, a, r, l, m, s, k, B, h⟩ := B
  exact ⟨(ne_nw B.hp n).symm, (ne_nw B.hc n).symm⟩
theorem Purse.off (B : Purse H p c) {q : Addr} (n1 : q ≠ p) (n2 : q ≠ c) (o : HO) : Purse (upd H q o) p c := by
  obtain ⟨cells, a, r, l, m, s, n, B, h⟩ := B
  exact ⟨cells, a, r, l, m, s, n, ⟨by rw [upd_ne n1.symm]; exact B.hp, by rw [upd_ne n2.symm]; exact B.hc⟩, h⟩
end
def spMixed : Sp := fun vs H Q _ => ∃ a t : Int, vs = [.int a, .int t] ∧ ∀ m : Int, Q (.int m) H
def spDrawP : Sp := fun vs H Q _ => ∃ (p c : Addr) (m : Int), vs = [.ref p, .int m] ∧ Purse H p c ∧ 0 < m ∧ m < 2 ^ 2000 ∧ ∀ (d : Int) (H' : Hp), 0 ≤ d → d < m → Purse H' p c → Fr [p] H H' → Q (.int d) H'
def spPurse (K : PySem.W.Frag) : Sp := fun vs H Q _ => ∃ (a : Addr) (ns : List Int), vs = [.ref a] ∧ SqL K H a (ns.map V.int) ∧ ∀ (p c : Addr) (H' : Hp), Nw H p → Nw H c → Purse H' p c → Fr [] H H' → Q (.ref p) H'
theorem cut_map (ns : List Int) (lo hi : Option Int) : ∃ ms : List Int, cutV (ns.map V.int) lo hi = ms.map V.int ∧ ms.length ≤ ns.length := by
  refine ⟨((ns.drop (HT.sIx ns.length 0 lo)).take (HT.sIx ns.length ns.length hi - HT.sIx ns.length 0 lo)), ?_, ?_⟩
  · unfold cutV
    rw [List.length_map, List.map_take, List.map_drop]
  · rw [List.length_take, List.length_drop]
    omega
end UF

set_option Elab.async false
set_option maxRecDepth 100000
set_option maxHeartbeats 4000000
/-! papers: lists of lines of pairs; who knows behind them -/
namespace UF
open PySem PySem.Spec PyProof.Rows L2 C8
/-- a dict comprehension over a walk -/
theorem dc_it {J : It} {n : Nat} {G : Hp → Prop} {Y : Nat → Hp → V → Hp → Prop} (w : Walk J n G Y) {g : TG} {tt : TT} {tk tv : TE} {vs : List Nat} {σ : L2.St} {H1 : Hp} {D : Addr} {Qd : Hp → Prop} (Pv : Nat → Hp → Prop) (h0 : Pv 0 (upd H1 D (.dK []))) (hG : ∀ i H, i ≤ n → Pv i H → G H)
    (hs : ∀ i x H H', i < n → Pv i H → Y i H x H' → g x (wipe σ vs) H' fun σ2 H2 => wipe σ2 vs = wipe σ vs ∧ tt σ2 H2 fun b H3 =>
      if b = true then tk σ2 H3 fun y H4 => tv σ2 H4 fun z H5 => ∃ kvs k, y = kV k ∧ H5 D = some (.dK kvs) ∧ kvs.length < sizeLine ∧ Pv (i + 1) (upd H5 D (.dK (putK kvs k z))) else Pv (i + 1) H3) (hd : ∀ H, Pv n H → Qd H) :
    ∃ W : Nat → Nat → Hp → Prop, (∃ m, W 0 m (upd H1 D (.dK []))) ∧ ∀ i m H, W i m H →
      (J.stop i H ∧ Qd H) ∨ (J.go i H ∧ ∃ Nx : Hp → Prop, (∀ H', Nx H' → ∃ m', m' < m ∧ W (i + 1) m' H') ∧ ∀ x H', J.yld i H x H' → g x (wipe σ vs) H' fun σ2 H2 => wipe σ2 vs = wipe σ vs ∧ tt σ2 H2 fun b H3 =>
        if b = true then tk σ2 H3 fun y H4 => tv σ2 H4 fun z H5 => ∃ kvs k, y = kV k ∧ H5 D = some (.dK kvs) ∧ kvs.length < sizeLine ∧ Nx (upd H5 D (.dK (putK kvs k z))) else Nx H3) := by
  refine ⟨fun i m H => m = n - i ∧ i ≤ n ∧ Pv i H, ⟨n, by simp, Nat.zero_le _, h0⟩, fun i m H q => ?_⟩
  obtain ⟨rfl, hi, p⟩ := q
  by_cases hlt : i < n
  · exact .inr ⟨w.goes i H hlt (hG i H hi p), Pv (i + 1), fun H' p' => ⟨n - (i + 1), by omega, rfl, hlt, p'⟩, fun x H' y => hs i x H H' hlt p (w.yields i H x H' hlt (hG i H hi p) y)⟩
  · have e : i = n := by omega
    subst e
    exact .inl ⟨w.stops H (hG _ H hi p), hd H p⟩
section
variable {α β : Type} {F G : α → β → Prop}
theorem pd_get {xs : List α} {ys : List β} (p : Paired F xs ys) : ∀ {j : Nat} {x : α}, xs[j]? = some x → ∃ y, ys[j]? = some y ∧ F x y := by
  induction p with
  | nil => intro j x h; simp at h
  | cons h t ih =>
    intro j x e
    cases j with
    | zero => cases e; exact ⟨_, rfl, h⟩
    | succ j => exact ih e
theorem pd_of {xs : List α} {ys : List β} : xs.length = ys.length → (∀ (j : Nat) (x : α) (y : β), xs[j]? = some x → ys[j]? = some y → F x y) → Paired F xs ys := by
  induction xs generalizing ys with
  | nil => intro h _; cases ys with
    | nil => exact .nil
    | cons _ _ => simp at h
  | cons x xs ih => intro h k; cases ys with
    | nil => simp at h
    | cons y ys => exact .cons (k 0 x y rfl rfl) (ih (by simpa using h) fun j a b e1 e2 => k (j + 1) a b e1 e2)
theorem pd_mem {xs : List α} {ys : List β} (p : Paired F xs ys) (h : ∀ x y, x ∈ xs → F x y → G x y) : Paired G xs ys := by
  induction p with
  | nil => exact .nil
  | cons q t ih => exact .cons (h _ _ (.head _) q) (ih fun x y m => h x y (.tail _ m))
end
/-! ### on the heap -/
def PairO (H : Hp) (t : Addr) (p : Int × Int) : Prop := H t = some (.tup [.int p.1, .int p.2])
def LineO (H : Hp) (l : Addr) (ps : List (Int × Int)) : Prop := ∃ ts : List Addr, H l = some (.lst (ts.map V.ref)) ∧ Paired (PairO H) ts ps
def PapO (H : Hp) (q : Addr) (pp : List (List (Int × Int))) : Prop := ∃ ls : List Addr, H q = some (.lst (ls.map V.ref)) ∧ Paired (LineO H) ls pp
/-- neither lists nor tuples stand at ds -/
def Nlt (H : Hp) (ds : List Addr) : Prop := ∀ a ∈ ds, (∀ xs, H a ≠ some (.lst xs)) ∧ ∀ xs, H a ≠ some (.tup xs)
theorem Nlt.nil {H : Hp} : Nlt H [] := fun _ m => nomatch m
theorem Purse.nlt {H : Hp} {p c : Addr} (B : Purse H p c) : Nlt H [p] := fun a m => by
  obtain ⟨cells, x, r, l, mx, s, n, B, _⟩ := B
  rw [List.mem_singleton.mp m, B.hp]
  exact ⟨(fun xs e => nomatch e), (fun xs e => nomatch e)⟩
section
variable {H H' : Hp} {ds : List Addr} {l q t : Addr} {ps : List (Int × Int)} {pp : List (List (Int × Int))} {p : Int × Int}
theorem PairO.fr (h : PairO H t p) (x : Fr ds H H') (n : Nlt H ds) : PairO H' t p := x.tup h fun m => (n t m).2 _ h
theorem LineO.fr (h : LineO H l ps) (x : Fr ds H H') (n : Nlt H ds) : LineO H' l ps := by
  obtain ⟨ts, e, p⟩ := h
  exact ⟨ts, x.lst e fun m => (n l m).1 _ e, Paired.mono (fun _ _ z => PairO.fr z x n) p⟩
theorem PapO.fr (h : PapO H q pp) (x : Fr ds H H') (n : Nlt H ds) : PapO H' q pp := by
  obtain ⟨ls, e, p⟩ := h
  exact ⟨ls, x.lst e fun m => (n q m).1 _ e, Paired.mono (fun _ _ z => LineO.fr z x n) p⟩
end
/-! ### who knows -/
def dkv (ks : List Int) : List (Key × V) := ks.map fun x => (.inl x, .bl true)
def addK (ks : List Int) (x : Int) : List Int := if x ∈ ks then ks else ks ++ [x]
theorem dk_val (x : Int) : ∀ ks : List Int, valV (dkv ks) (.inl x) = if x ∈ ks then some (.bl true) else none
  | [] => rfl
  | k :: ks => by
    have ih := dk_val x ks
    by_cases e : k = x
    · subst e
      rw [if_pos (.head _)]
      exact valV_pos rfl
    · have e' : ¬ (Sum.inl k : Key) = .inl x := fun z => e (Sum.inl.inj z)
      show valV ((.inl k, .bl true) :: dkv ks) (.inl x) = _
      rw [valV_neg (p := (Sum.inl k, V.bl true)) e', ih]
      by_cases m : x ∈ ks
      · rw [if_pos m, if_pos (.tail _ m)]
      · rw [if_neg m, if_neg fun z => (List.mem_cons.mp z).elim (fun y => e y.symm) m]
theorem dk_put (x : Int) (ks : List Int) : putK (dkv ks) (.inl x) (.bl true) = dkv (addK ks x) := by
  unfold putK addK
  rw [valV_any, dk_val]
  by_cases m : x ∈ ks
  · rw [if_pos m, if_pos m]
    simp only [Option.isSome_some, if_true]
    unfold dkv
    rw [List.map_map]
    refine List.map_congr_left fun k _ => ?_
    show (if (Sum.inl k : Key) = .inl x then ((Sum.inl k : Key), V.bl true) else (.inl k, .bl true)) = (.inl k, .bl true)
    split <;> rfl
  · rw [if_neg m, if_neg m]
    unfold dkv
    rw [List.map_append]
    rfl
theorem dk_len (ks : List Int) : (dkv ks).length = ks.length := List.length_map ..
def DkO (H : Hp) (D : Addr) (ks : List Int) : Prop := H D = some (.dK (dkv ks))
theorem DkO.get {H : Hp} {D : Addr} {ks : List Int} (h : DkO H D ks) (x : Int) : DGet H D (.int x) (if x ∈ ks then some (.bl true) else none) := by
  have g := DGet.k (k := Sum.inl x) h
  rw [dk_val] at g
  exact g
theorem isS {b : Prop} [Decidable b] {v : V} : (if b then some v else none).isSome = decide b := by
  by_cases h : b <;> simp [h]
theorem DkO.put {H : Hp} {D : Addr} {ks : List Int} (h : DkO H D ks) (x : Int) (l : ks.length ≤ 10000000) : DPut H D (.int x) (.bl true) (upd H D (.dK (dkv (addK ks x)))) := by
  have g := DPut.k (k := Sum.inl x) (v := .bl true) h (by rw [dk_len]; exact Nat.lt_of_le_of_lt l (by decide))
  rw [dk_put] at g
  exact g
theorem addK_len (ks : List Int) (x : Int) : (addK ks x).length ≤ ks.length + 1 := by
  unfold addK
  split
  · omega
  · rw [List.length_append]; exact Nat.le_refl _
theorem mem_addK {ks : List Int} {x y : Int} : y ∈ addK ks x ↔ y ∈ ks ∨ y = x := by
  unfold addK
  by_cases m : x ∈ ks
  · rw [if_pos m]
    exact ⟨.inl, fun h => h.elim id fun e => e ▸ m⟩
  · rw [if_neg m, List.mem_append, List.mem_singleton]
/-- is a line a round -/
def roundF (kn mem : List Int) : List (Int × Int) → List Int → Bool
  | [], _ => true
  | p :: r, cs => if p.1 ∈ kn ∧ p.1 ∉ cs ∧ p.2 ∈ mem ∧ p.2 ≠ p.1 then roundF kn mem r (addK cs p.1) else false
/-- those who know behind a line -/
def learnF (kn : List Int) (l : List (Int × Int)) : List Int := l.foldl (fun k p => addK k p.2) kn
/-- the first line that is no round, or those who know at the end -/
def walkF (mem : List Int) : List (List (Int × Int)) → List Int → Nat → Nat ⊕ List Int
  | [], kn, _ => .inr kn
  | l :: r, kn, i => if roundF kn mem l [] = true then walkF mem r (learnF kn l) (i + 1) else .inl i
def totalF (pp : List (List (Int × Int))) : Int := (pp.map fun l => (l.length : Int)).sum
theorem learn_snoc {kn : List Int} {l : List (Int × Int)} {p : Int × Int} : learnF kn (l ++ [p]) = addK (learnF kn l) p.2 := by
  unfold learnF
  rw [List.foldl_append]
  rfl
theorem learn_len : ∀ (l : List (Int × Int)) (kn : List Int), (learnF kn l).length ≤ kn.length + l.length
  | [], kn => Nat.le_refl _
  | p :: l, kn => by
    have := learn_len l (addK kn p.2)
    have := addK_len kn p.2
    show (learnF (addK kn p.2) l).length ≤ _
    rw [List.length_cons]
    omega
theorem learn_mem {y : Int} : ∀ (l : List (Int × Int)) (kn : List Int), y ∈ learnF kn l → y ∈ kn ∨ ∃ p ∈ l, y = p.2
  | [], kn, h => .inl h
  | p :: l, kn, h => by
    rcases learn_mem l (addK kn p.2) h with h | ⟨r, m, e⟩
    · rcases mem_addK.mp h with h | h
      · exact .inl h
      · exact .inr ⟨p, .head _, h⟩
    · exact .inr ⟨r, .tail _ m, e⟩
theorem round_mem {kn mem : List Int} : ∀ {l : List (Int × Int)} {cs : List Int}, roundF kn mem l cs = true → ∀ p ∈ l, p.2 ∈ mem
  | [], _, _, p, m => nomatch m
  | q :: l, cs, h, p, m => by
    unfold roundF at h
    split at h
    · rename_i c
      rcases List.mem_cons.mp m with e | m
      · rw [e]; exact c.2.2.1
      · exact round_mem h p m
    · cases h
theorem total_snoc {pp : List (List (Int × Int))} {l : List (Int × Int)} : totalF (pp ++ [l]) = totalF pp + (l.length : Int) := by
  unfold totalF
  rw [List.map_append, List.sum_append]
  simp
theorem take_at {α : Type} {xs : List α} {i : Nat} {z : α} (e : xs[i]? = some z) : xs.drop i = z :: xs.drop (i + 1) := by
  obtain ⟨h, rfl⟩ := List.getElem?_eq_some_iff.mp e
  exact List.drop_eq_getElem_cons h
end UF

set_option Elab.async false
set_option maxRecDepth 100000
set_option maxHeartbeats 4000000
/-! y = {k: v for ..} on one line, y a local -/
namespace UF
open PySem PySem.Spec PyProof.Rows L2
/-- len of a list or tuple, K written out -/
abbrev rLn (K : PySem.W.Frag) : List V → Hp → VK → Prop := fun xs H Q => ∃ p ys, xs = [V.ref p] ∧ (SqL K H p ys ∨ SqT K H p ys) ∧ Q (.int ys.length) H
variable {X : Cx}
theorem ps_setDc {i : Nat} {y : Str} {py : Pos} {kx vx tg iter : Expr} {ifs : List Expr} {scope : Scope} {own : List (Str × Nat)} {pos spos : Pos} {wi : TI} {g : TG} {tt : TT} {tk tv : TE} (hc : X.calm = true) (hN : X.N.Nodup) (hy : X.N[i]? = some y) (hyl : X.env.scope.names.lookup y = some .local)
    (hsw : swapsWith (.DictComp kx vx [⟨tg, iter, ifs, 0⟩] scope pos) (some (.Name y py)) spos.line X.env = pure true) (hi : PI X tg iter wi) (ok : BlkOk X.N X.env.scope scope own)
    (hg : ∀ s H C cl fp, PG (X.blk s H scope (compEnvC scope cl C X.env) fp) tg g) (ht : ∀ s H C cl fp, PTs (X.blk s H scope (compEnvC scope cl C X.env) fp) ifs tt)
    (hk : ∀ s H C cl fp, PE (X.blk s H scope (compEnvC scope cl C X.env) fp) kx tk) (he : ∀ s H C cl fp, PE (X.blk s H scope (compEnvC scope cl C X.env) fp) vx tv) (hs : ∀ x, foldedSetIterable iter X.env x = pure x := by intro _; rfl) :
    PS X (.Assign [.Name y py] (.DictComp kx vx [⟨tg, iter, ifs, 0⟩] scope pos) spos) (tAsg (tDc wi g tt tk tv (own.map (·.2))) (gName i)) := by
  refine ⟨fun pins s σ H D I h => ?_⟩; rw [exec_Assign_Name_used _ _ _ _ hsw]
  refine wpAny_bind (wpAny_standAt (wpAny_bind ?_))
  show wpAny _ X.A (do let _ ← comprehension (.DictComp kx vx [⟨tg, iter, ifs, 0⟩] scope pos) scope X.env (firstIterPos [⟨tg, iter, ifs, 0⟩] pos) newDict false (eval iter X.env) (some (assign (.Name y py) X.env))) _ _ s
  have h : tDc wi g tt tk tv (own.map (·.2)) σ H (fun x H1 => gName i x σ H1 D.nx) := h
  refine wpAny_bind (thn (dc_core (Qf := fun _ s' => SP X pins D .next s') hc hN I hi ok hg ht hk he hs h fun L C s' m H' I' q hn f => ?_) fun _ s' hq => wpAny_pure (wpAny_pure hq))
  show wpAny _ _ (assign (.Name y py) X.env (.ref L)) _ _ _
  refine wpAny_assign_Name (store_ok2 (v := V.ref L) I' hN hy (.inl hyl) rfl (fun s2 I2 ha => ?_) (.inr hyl))
  have haC : C ≠ ha.choose := ha.choose_spec.2.elim (fun z => by rw [z]; exact f.2.1) fun z e => f.2.2.2.2.1 y _ z e.symm
  exact ⟨m, hn.sameBut ha.choose_spec.1 haC, fun h3 sb3 => ⟨_, H', I2.turned (t' := s2.toks) (fun b o hb e => (sb3.2 b hb).trans e) f.1 f.2.1 f.2.2.2.1 f.2.2.2.2.1 f.2.2.2.2.2, q⟩⟩
theorem sw_dc {kx vx : Expr} {gs : List Comprehension} {scope : Scope} {pos py : Pos} {y : Str} {l : Nat} {env : Env} (hk : env.scope.kind = .function) (hy : env.scope.names.lookup y = some .local) (hl : (py.line == pos.line) = true)
    (ha : (scope.names.any fun (n, k) => n == y && (k == .local || k == .cell)) = false) : swapsWith (.DictComp kx vx gs scope pos) (some (.Name y py)) l env = pure true := by
  have z1 : env.kindOf y = some .local := hy
  have z2 : env.blockKind = .function := (by unfold Env.blockKind; rw [hk]; rfl)
  unfold swapsWith; simp only [z2, z1, ha, Expr.pos, hl]; rfl
end UF

set_option Elab.async false
set_option maxRecDepth 100000
set_option maxHeartbeats 4000000
/-! papers that are being written -/
namespace UF
open PySem PySem.Spec PyProof.Rows L2 C8
structure Lw (H : Hp) (l : Addr) (ts : List Addr) (ps : List (Int × Int)) : Prop where
  hl : H l = some (.lst (ts.map V.ref))
  pl : Paired (PairO H) ts ps
structure Pw (H : Hp) (q : Addr) (ls : List Addr) (pp : List (List (Int × Int))) : Prop where
  hq : H q = some (.lst (ls.map V.ref))
  pl : Paired (LineO H) ls pp
  off : ∀ l ∈ ls, l ≠ q
section
variable {H H' : Hp} {ds : List Addr} {l q a t : Addr} {ts ls : List Addr} {ps : List (Int × Int)} {pp : List (List (Int × Int))} {p : Int × Int} {xs ys : List V}
theorem Lw.line (h : Lw H l ts ps) : LineO H l ps := ⟨ts, h.hl, h.pl⟩
theorem Pw.pap (h : Pw H q ls pp) : PapO H q pp := ⟨ls, h.hq, h.pl⟩
theorem Lw.fr (h : Lw H l ts ps) (x : Fr ds H H') (n : Nlt H ds) : Lw H' l ts ps := ⟨x.lst h.hl fun m => (n l m).1 _ h.hl, Paired.mono (fun _ _ z => PairO.fr z x n) h.pl⟩
theorem Pw.fr (h : Pw H q ls pp) (x : Fr ds H H') (n : Nlt H ds) : Pw H' q ls pp := ⟨x.lst h.hq fun m => (n q m).1 _ h.hq, Paired.mono (fun _ _ z => LineO.fr z x n) h.pl, h.off⟩
theorem Lw.new (h : Lw H l ts ps) (n : H a = none) (o : HO) : Lw (upd H a o) l ts ps := h.fr (Fr.new0 (ds := []) n o) .nil
theorem Pw.new (h : Pw H q ls pp) (n : H a = none) (o : HO) : Pw (upd H a o) q ls pp := h.fr (Fr.new0 (ds := []) n o) .nil
theorem pair_upd (h : PairO H t p) (ha : H a = some (.lst xs)) (o : HO) : PairO (upd H a o) t p := by
  have h : H t = some (.tup [.int p.1, .int p.2]) := h
  show upd H a o t = _
  rw [upd_ne fun e => by rw [e, ha] at h; cases h]
  exact h
theorem line_upd (h : LineO H l ps) (ha : H a = some (.lst xs)) (ne : l ≠ a) (o : HO) : LineO (upd H a o) l ps := by
  obtain ⟨ts, e, p⟩ := h
  exact ⟨ts, by rw [upd_ne ne]; exact e, Paired.mono (fun _ _ z => pair_upd z ha o) p⟩
theorem Lw.upd (h : Lw H l ts ps) (ha : H a = some (.lst xs)) (ne : l ≠ a) (o : HO) : Lw (upd H a o) l ts ps := ⟨by rw [upd_ne ne]; exact h.hl, Paired.mono (fun _ _ z => pair_upd z ha o) h.pl⟩
theorem Pw.upd (h : Pw H q ls pp) (ha : H a = some (.lst xs)) (ne : q ≠ a) (nl : ∀ l ∈ ls, l ≠ a) (o : HO) : Pw (upd H a o) q ls pp := ⟨by rw [upd_ne ne]; exact h.hq, pd_mem h.pl fun l _ m z => line_upd z ha (nl l m) o, h.off⟩
theorem Lw.push (h : Lw H l ts ps) (z : PairO H t p) : Lw (L2.upd H l (.lst (ts.map V.ref ++ [.ref t]))) l (ts ++ [t]) (ps ++ [p]) := ⟨by rw [upd_same, List.map_append]; rfl, Paired.snoc (Paired.mono (fun _ _ z => pair_upd z h.hl _) h.pl) (pair_upd z h.hl _)⟩
theorem Pw.push (h : Pw H q ls pp) (z : LineO H l ps) (ne : l ≠ q) : Pw (L2.upd H q (.lst (ls.map V.ref ++ [.ref l]))) q (ls ++ [l]) (pp ++ [ps]) := by
  refine ⟨by rw [upd_same, List.map_append]; rfl, Paired.snoc (pd_mem h.pl fun l _ m z => line_upd z h.hq (h.off l m) _) (line_upd z h.hq ne _), fun l' m => ?_⟩
  rcases List.mem_append.mp m with m | m
  · exact h.off l' m
  · rw [List.mem_singleton.mp m]; exact ne
theorem Lw.nil (h : H l = some (.lst [])) : Lw H l [] [] := ⟨h, .nil⟩
theorem Pw.nil (h : H q = some (.lst [])) : Pw H q [] [] := ⟨h, .nil, fun _ m => nomatch m⟩
theorem Lw.len (h : Lw H l ts ps) : ts.length = ps.length := h.pl.length
theorem Pw.len (h : Pw H q ls pp) : ls.length = pp.length := h.pl.length
/-- what is new is none of the lines -/
theorem Pw.ne (h : Pw H q ls pp) (n : H a = none) : q ≠ a ∧ ∀ l ∈ ls, l ≠ a := ⟨ne_of_none h.hq n, fun l m => by
  obtain ⟨j, hj⟩ := List.mem_iff_getElem?.mp m
  obtain ⟨ps, _, ts, hts, _⟩ := pd_get h.pl hj
  exact ne_of_none hts n⟩
theorem Purse.lst_ne {p c : Addr} (B : Purse H p c) (h : H a = some (.lst xs)) : a ≠ p := fun e => by
  obtain ⟨cells, x, r, l, m, s, n, B, _⟩ := B
  rw [e, B.hp] at h
  cases h
end
/-- at most k lines of at most k pairs -/
structure PSz (k : Nat) (pp : List (List (Int × Int))) : Prop where
  n : pp.length ≤ k
  w : ∀ l ∈ pp, l.length ≤ k
theorem PSz.le {k m : Nat} {pp : List (List (Int × Int))} (h : PSz k pp) (g : k ≤ m) : PSz m pp := ⟨Nat.le_trans h.n g, fun l z => Nat.le_trans (h.w l z) g⟩
theorem rest_snoc {ns : List Int} {i : Nat} {z : Int} (e : ns[i]? = some z) (f : Int → Bool) : (ns.take (i + 1)).filter f = if f z = true then (ns.take i).filter f ++ [z] else (ns.take i).filter f := by
  rw [take_snoc e, List.filter_append]
  by_cases h : f z = true
  · rw [if_pos h]; simp [h]
  · rw [if_neg h]; simp [h]
/-! ### papers as data -/
def pairD (p : Int × Int) : PyData := .tuple [.int p.1, .int p.2]
def lineD (ps : List (Int × Int)) : PyData := .list (ps.map pairD)
def papD (pp : List (List (Int × Int))) : PyData := .list (pp.map lineD)
theorem can_pairs : ∀ ps : List (Int × Int), PyData.canLayAll0 (ps.map pairD) = true
  | [] => by simp [PyData.canLayAll0]
  | p :: ps => by rw [List.map_cons, PyData.canLayAll0, can_pairs ps]; simp [pairD, PyData.canLay0, PyData.canLayAll0]
theorem dep_pairs : ∀ ps : List (Int × Int), PyData.depthAll (ps.map pairD) ≤ 1
  | [] => by simp [PyData.depthAll]
  | p :: ps => by
    rw [List.map_cons, PyData.depthAll]
    have := dep_pairs ps
    have : (pairD p).depth = 1 := by simp [pairD, PyData.depth, PyData.depthAll]
    omega
theorem can_lines : ∀ pp : List (List (Int × Int)), PyData.canLayAll0 (pp.map lineD) = true
  | [] => by simp [PyData.canLayAll0]
  | ps :: pp => by rw [List.map_cons, PyData.canLayAll0, can_lines pp]; simp [lineD, PyData.canLay0, can_pairs]
theorem dep_lines : ∀ pp : List (List (Int × Int)), PyData.depthAll (pp.map lineD) ≤ 2
  | [] => by simp [PyData.depthAll]
  | ps :: pp => by
    rw [List.map_cons, PyData.depthAll]
    have := dep_lines pp
    have e : (lineD ps).depth = PyData.depthAll (ps.map pairD) + 1 := by simp [lineD, PyData.depth]
    have := dep_pairs ps
    omega
theorem shaped_pair (p : Int × Int) : SeqAt.shaped (pairD p) = true := by unfold SeqAt.shaped pairD; simp [PyData.canLay0, PyData.canLayAll0, PyData.depth, PyData.depthAll]
theorem shaped_line (ps : List (Int × Int)) : SeqAt.shaped (lineD ps) = true := by
  have h := dep_pairs ps
  unfold SeqAt.shaped lineD
  rw [PyData.canLay0, can_pairs, PyData.depth, decide_eq_true (by omega)]
  rfl
theorem shaped_pap (pp : List (List (Int × Int))) : SeqAt.shaped (papD pp) = true := by
  have h := dep_lines pp
  unfold SeqAt.shaped papD
  rw [PyData.canLay0, can_lines, PyData.depth, decide_eq_true (by omega)]
  rfl
theorem eqv_pap (pp : List (List (Int × Int))) : PyData.eqv (papD pp) (papD pp) = true := SeqAt.eqv_refl _ (SeqAt.canLay_of_shaped (shaped_pap pp))
theorem eqv_pair (p : Int × Int) : PyData.eqv (pairD p) (pairD p) = true := SeqAt.eqv_refl _ (SeqAt.canLay_of_shaped (shaped_pair p))
theorem pap_nil (pp : List (List (Int × Int))) : PyData.eqv (papD pp) (.list []) = decide (pp = []) := by
  cases pp <;> simp [papD, PyData.eqv, PyData.eqvAll]
theorem line_nil (ps : List (Int × Int)) : PyData.eqv (lineD ps) (.list []) = decide (ps = []) := by
  cases ps <;> simp [lineD, PyData.eqv, PyData.eqvAll]
theorem nil_dp {K : PySem.W.Frag} {H : Hp} {a : Addr} (h : H a = some (.lst [])) : Dp K H (.ref a) (.list []) := .lst (SqL.of h) .nil
theorem nil_shaped : SeqAt.shaped (.list []) = true := shaped_list []
theorem pair_dp {K : PySem.W.Frag} {H : Hp} {t : Addr} {p : Int × Int} (h : PairO H t p) : Dp K H (.ref t) (pairD p) := .tup (SqT.of h) (.cons (.int _) (.cons (.int _) .nil))
theorem pairs_dp {K : PySem.W.Frag} {H : Hp} {ts : List Addr} {ps : List (Int × Int)} (h : Paired (PairO H) ts ps) : DpAll K H (ts.map V.ref) (ps.map pairD) := by
  induction h with
  | nil => exact .nil
  | cons a t ih => exact .cons (pair_dp a) ih
theorem line_dp {K : PySem.W.Frag} {H : Hp} {l : Addr} {ps : List (Int × Int)} (h : LineO H l ps) : Dp K H (.ref l) (lineD ps) := by
  obtain ⟨ts, e, p⟩ := h
  exact .lst (SqL.of e) (pairs_dp p)
theorem pap_dp {K : PySem.W.Frag} {H : Hp} {q : Addr} {pp : List (List (Int × Int))} (h : PapO H q pp) : Dp K H (.ref q) (papD pp) := by
  obtain ⟨ls, e, p⟩ := h
  refine .lst (SqL.of e) ?_
  clear e
  induction p with
  | nil => exact .nil
  | cons a t ih => exact .cons (line_dp a) ih
/-! ### lists changed in the middle -/
section
variable {α β : Type} {F : α → β → Prop}
theorem pd_take {xs : List α} {ys : List β} (h : Paired F xs ys) : ∀ n : Nat, Paired F (xs.take n) (ys.take n) := by
  induction h with
  | nil => intro n; rw [List.take_nil, List.take_nil]; exact .nil
  | cons a t ih => intro n; cases n with
    | zero => exact .nil
    | succ n => exact .cons a (ih n)
theorem pd_drop {xs : List α} {ys : List β} (h : Paired F xs ys) : ∀ n : Nat, Paired F (xs.drop n) (ys.drop n) := by
  induction h with
  | nil => intro n; rw [List.drop_nil, List.drop_nil]; exact .nil
  | cons a t ih => intro n; cases n with
    | zero => exact .cons a t
    | succ n => exact ih n
theorem pd_app {xs xs' : List α} {ys ys' : List β} (h : Paired F xs ys) (g : Paired F xs' ys') : Paired F (xs ++ xs') (ys ++ ys') := by
  induction h with
  | nil => exact g
  | cons a t ih => exact .cons a ih
theorem pd_ins {xs : List α} {ys : List β} (h : Paired F xs ys) (n : Nat) {x : α} {y : β} (z : F x y) : Paired F (xs.take n ++ [x] ++ xs.drop n) (ys.take n ++ [y] ++ ys.drop n) := pd_app (pd_app (pd_take h n) (.cons z .nil)) (pd_drop h n)
theorem pd_erase {xs : List α} {ys : List β} (h : Paired F xs ys) : ∀ n : Nat, Paired F (xs.eraseIdx n) (ys.eraseIdx n) := by
  induction h with
  | nil => intro n; exact .nil
  | cons a t ih => intro n; cases n with
    | zero => exact t
    | succ n => exact .cons a (ih n)
theorem map_eraseG {γ : Type} (f : α → γ) : ∀ (l : List α) (i : Nat), (l.map f).eraseIdx i = (l.eraseIdx i).map f
  | [], _ => rfl
  | _ :: _, 0 => rfl
  | a :: l, i + 1 => congrArg (List.cons (f a)) (map_eraseG f l i)
theorem first_of {δ : Type} {P : δ → Bool} : ∀ (ds : List δ) (j : Nat) (z : δ), ds[j]? = some z → P z = true → ∃ (i : Nat) (y : δ), ds[i]? = some y ∧ P y = true ∧ ∀ (m : Nat) (x : δ), m < i → ds[m]? = some x → P x = false
  | [], j, z, h, _ => by simp at h
  | d :: ds, j, z, h, hz => by
    by_cases e : P d = true
    · exact ⟨0, d, rfl, e, fun m x hm => absurd hm (Nat.not_lt_zero _)⟩
    · cases j with
      | zero => cases h; exact absurd hz e
      | succ j =>
        obtain ⟨i, y, h1, h2, h3⟩ := first_of ds j z h hz
        refine ⟨i + 1, y, h1, h2, fun m x hm hx => ?_⟩
        cases m with
        | zero => cases hx; simpa using e
        | succ m => exact h3 m x (by omega) hx
theorem len_ins {xs : List α} {n : Nat} {x : α} : (xs.take n ++ [x] ++ xs.drop n).length = xs.length + 1 := by
  rw [List.length_append, List.length_append, List.length_take, List.length_drop]
  show min n xs.length + 1 + _ = _
  omega
theorem map_ins {γ : Type} (f : α → γ) {xs : List α} {n : Nat} {x : α} : (xs.take n ++ [x] ++ xs.drop n).map f = (xs.map f).take n ++ [f x] ++ (xs.map f).drop n := by
  rw [List.map_append, List.map_append, List.map_take, List.map_drop]
  rfl
end
section
variable {H : Hp} {q l : Addr} {ls ts : List Addr} {ps : List (Int × Int)} {pp : List (List (Int × Int))} {xs : List V}
/-- a line of the paper gets another list of pairs -/
theorem Pw.change (h : Pw H q ls pp) (hl : H l = some (.lst xs)) (lq : l ≠ q) (pl : Paired (PairO H) ts ps) : ∃ pp', Pw (L2.upd H l (.lst (ts.map V.ref))) q ls pp' ∧ pp'.length = pp.length ∧ ∀ x ∈ pp', x ∈ pp ∨ x = ps := by
  have line : LineO (L2.upd H l (.lst (ts.map V.ref))) l ps := ⟨ts, upd_same, Paired.mono (fun _ _ z => pair_upd z hl _) pl⟩
  have key : ∀ {ls : List Addr} {pp : List (List (Int × Int))}, Paired (LineO H) ls pp → ∃ pp', Paired (LineO (L2.upd H l (.lst (ts.map V.ref)))) ls pp' ∧ pp'.length = pp.length ∧ ∀ x ∈ pp', x ∈ pp ∨ x = ps := by
    intro ls pp p
    induction p with
    | nil => exact ⟨[], .nil, rfl, fun x m => nomatch m⟩
    | @cons a b l1 l2 z t ih =>
      obtain ⟨pp', i1, i2, i3⟩ := ih
      by_cases e : a = l
      · subst e
        refine ⟨ps :: pp', .cons line i1, by rw [List.length_cons, List.length_cons, i2], fun x m => ?_⟩
        rcases List.mem_cons.mp m with m | m
        · exact .inr m
        · exact (i3 x m).elim (fun g => .inl (.tail _ g)) .inr
      · refine ⟨b :: pp', .cons (line_upd z hl e _) i1, by rw [List.length_cons, List.length_cons, i2], fun x m => ?_⟩
        rcases List.mem_cons.mp m with m | m
        · exact .inl (by rw [m]; exact .head _)
        · exact (i3 x m).elim (fun g => .inl (.tail _ g)) .inr
  obtain ⟨pp', p, e1, e2⟩ := key h.pl
  exact ⟨pp', ⟨by rw [upd_ne lq.symm]; exact h.hq, p, h.off⟩, e1, e2⟩
/-- other lines in the paper -/
theorem Pw.put (h : Pw H q ls pp) {ls' : List Addr} {pp' : List (List (Int × Int))} (p : Paired (LineO H) ls' pp') (off : ∀ l ∈ ls', l ≠ q) : Pw (L2.upd H q (.lst (ls'.map V.ref))) q ls' pp' := ⟨upd_same, pd_mem p fun l _ m z => line_upd z h.hq (off l m) _, off⟩
end
/-- list(xs), K written out -/
abbrev rLc (K : PySem.W.Frag) : List V → Hp → VK → Prop := fun xs H Q => ∃ p ys, xs = [V.ref p] ∧ (SqL K H p ys ∨ SqT K H p ys) ∧ ∀ l, H l = none → Q (.ref l) (upd H l (.lst ys))
/-- a list without doubles among others is no longer than they -/
theorem nd_le : ∀ (l kn : List Int), l.Nodup → (∀ x ∈ l, x ∈ kn) → l.length ≤ kn.length
  | [], _, _, _ => Nat.zero_le _
  | a :: l, kn, nd, h => by
    have nd' := List.nodup_cons.mp nd
    have ma := h a (.head _)
    have z := nd_le l (kn.erase a) nd'.2 fun x m => (List.mem_erase_of_ne fun (e : x = a) => nd'.1 (by rw [← e]; exact m)).mpr (h x (.tail _ m))
    rw [List.length_erase_of_mem ma] at z
    have : 0 < kn.length := List.length_pos_of_mem ma
    rw [List.length_cons]
    omega
end UF

set_option Elab.async false
set_option maxRecDepth 100000
set_option maxHeartbeats 4000000
/-! d == {}: is the dict empty -/
namespace UF
open PySem PySem.Spec PyProof.Rows L2 C8 LamX
theorem u0 {k : Nat} {A : Around} (hr : Room k A) : A.units < cLine := Nat.lt_of_succ_lt (u1 hr)
def rEqE : R2 := fun x y H Q => ∃ a b ks, x = .ref a ∧ y = .ref b ∧ H a = some (.dK ks) ∧ H b = some (.dK []) ∧ Q (.bl ks.isEmpty) H
theorem op_eqE {X : Cx} (hu : X.A.units < cLine) : OpR X (compareOp .Eq) rEqE := by
  rintro pins s σ H _ _ v u Q I rx ry ⟨a, b, ks, rfl, rfl, ea, eb, q⟩
  obtain rfl : v = Value.ref a := rx
  obtain rfl : u = Value.ref b := ry
  obtain ⟨_, ya, va, ra, da⟩ := (show ObjOk X.prog X.w H s.heap a (.dK ks) from I.hok a _ ea)
  obtain ⟨_, yb, vb, rb, db⟩ := (show ObjOk X.prog X.w H s.heap b (.dK []) from I.hok b _ eb)
  have lb : vb.length = 0 := rb.length.symm
  refine PySem.W.keq_eq (knd := mixKind X.prog X.w) (r := true) ya yb da db hu (fun e => ?_) (fin_bl I q ?_)
  · have e0 : ks = [] := List.eq_nil_of_length_eq_zero (by
      rw [ra.length, e]
      exact lb)
    subst e0
    exact hits_all rb ra fun p hp => nomatch hp
  · rw [lb, ← ra.length, Bool.and_true]
    cases ks <;> rfl
end UF

set_option Elab.async false
set_option maxRecDepth 100000
set_option maxHeartbeats 4000000
namespace SortD
open PySem PySem.Spec PyProof.Rows L2
/-- sorted(d), d a dict whose keys are whole numbers, any number of them -/
def rSortD : List V → Hp → VK → Prop := fun zs G W => ∃ (D : Addr) (kv : List (Key × V)) (ns : List Int), zs = [.ref D] ∧ Rd G D (.dK kv) ∧ kv.map (·.1) = ns.map Sum.inl ∧
  ∀ (ms : List Int) (L : Addr), ms.Perm ns → ms.Pairwise (· ≤ ·) → G L = none → W (.ref L) (upd G L (.lst (ms.map V.int)))
theorem cr_sortD {X : Cx} (calm : X.calm = true) : CallR X (.builtin "sorted") rSortD := by
  intro pins s τ G zs ws W I r h
  obtain ⟨D, kv, ns, ez, hd, hkeys, q⟩ := h
  subst ez
  obtain ⟨w1, ew, rx⟩ := vals1 r
  subst ew
  cases rx
  obtain ⟨small, notMods, vs, rel, dd⟩ := dk_rd I.hok hd
  obtain ⟨ep, hat⟩ := dd.dictAt
  have kk : vs.map (·.1) = ns.map Sum.inl := rel.keys.symm.trans hkeys
  have lvs : vs.length = ns.length := by simpa using congrArg List.length kk
  have lkv : kv.length = ns.length := by simpa using congrArg List.length hkeys
  have fits : ns.length ≤ sizeLine := by rw [← lkv]; exact small
  refine Calls.call_function_entry kind_sorted plain_sorted entry_sorted (args_sorted1 _) ?_
  unfold Builtin.«sorted»
  refine wpAny_bind (m := checkCount "sorted" 1 1 _) (wpAny_pure ?_)
  refine wpAny_bind (PySem.W.kdu_collect (A := X.A.in1) (PySem.W.kdl_dict (knd := mixKind X.prog X.w) (kvs := vs) (ep := ep) notMods) (I.ok.hd calm) hat (by rw [lvs]; exact fits) fun g tk got keep hgot => ?_)
  have lgot : got.toList.length = ns.length := by rw [Array.length_toList, hgot.1, lvs]
  have allInt : IntsAre got.toList ns := by
    refine ints_each lgot fun j v ej => ?_
    obtain ⟨k, x, e1, e2⟩ := hgot.2 j v (by rw [← Array.getElem?_toList]; exact ej)
    have e3 : (vs.map (·.1))[j]? = some k := by rw [List.getElem?_map, e1]; rfl
    rw [kk, List.getElem?_map] at e3
    cases e4 : ns[j]? with
    | none => rw [e4] at e3; cases e3
    | some y =>
      rw [e4] at e3
      have e5 : Sum.inl y = k := Option.some.inj e3
      subst e5
      rcases keyIs_shape (show keyIs (Sum.inl y) v = true from e2) with ⟨i, t, ek, ev⟩ | ⟨z, t, ek, _⟩
      · injection ek with ek
        subst ek
        exact ⟨y, t, rfl, ev⟩
      · cases ek
  have I1 : Inv X pins τ G { s with heap := g, toks := tk } := I.kept keep
  have fits2 : got.toList.length ≤ sizeLine := by rw [lgot]; exact fits
  refine wpAny_bind (wpAny_newList ?_ fits2)
  have at0 : (g.push (seqObj "list" got.toList.toArray 0)).get? g.objs.size = some (seqObj "list" got.toList.toArray 0) := Heap.get?_push_size _ rfl
  show wpAny _ _ _ _ _ { s with heap := g.push (seqObj "list" got.toList.toArray 0), toks := tk }
  refine wpAny_bind (wpAny_holding (wpAny_call_entry slot_list_sort ⟨_, at0, rfl⟩ entry_list_sort ?_ (args_list_sort _)))
  refine SrtO.list_sort_ord SrtO.swo_int at0 fits2 (fun two => SrtO.ints_sortable allInt two) fun out h1 h2 => ⟨_, rfl, ?_⟩
  obtain ⟨k1, k2, k3⟩ := SrtO.ints_out allInt h1 h2
  obtain ⟨ep2, he2⟩ := sortedHeap_at (vs := got.toList) (out := out.toArray) at0
  have fits3 : ((out.map SrtO.iv).map V.int).length ≤ sizeLine := by rw [List.length_map, k2.length_eq]; exact fits
  refine wpAny_pure ⟨_, rfl, .ref g.objs.size, upd G g.objs.size (.lst ((out.map SrtO.iv).map V.int)), ?_, rfl, q _ _ k2 k3 (I1.hok.fresh (Nat.le_refl _))⟩
  refine I1.laid (t' := tk) (fun b u e => ?_) (Nat.le_refl _) ⟨fits3, out, ep2, vals_of_ints k1, he2⟩
  have lb : b < g.objs.size := Heap.lt_size e
  rw [sortedHeap_old (Nat.ne_of_lt lb) (by rw [size_push']; exact Nat.lt_succ_of_lt lb)]
  exact Heap.get?_push_of_some _ e
end SortD

set_option Elab.async false
set_option maxRecDepth 100000
set_option maxHeartbeats 4000000
set_option exponentiation.threshold 4096
set_option linter.unusedVariables false
/-! dicts of whole numbers as lists of pairs, whatever the values; dicts of tuples; constants of the module -/
namespace UF
open PySem PySem.Spec PyProof.Rows L2 C8 LamX
section
variable {β γ : Type}
def lkA : List (Int × β) → Int → Option β
  | [], _ => none
  | q :: ks, s => if q.1 = s then some q.2 else lkA ks s
def putA (ts : List (Int × β)) (s : Int) (t : β) : List (Int × β) := if (lkA ts s).isSome = true then ts.map (fun q => if q.1 = s then (q.1, t) else q) else ts ++ [(s, t)]
def dropA (ts : List (Int × β)) (s : Int) : List (Int × β) := ts.filter fun q => decide (q.1 ≠ s)
def dA (f : β → V) (ks : List (Int × β)) : List (Key × V) := ks.map fun q => (.inl q.1, f q.2)
theorem valV_dA (f : β → V) : ∀ (ks : List (Int × β)) (s : Int), valV (dA f ks) (.inl s) = (lkA ks s).map f
  | [], _ => rfl
  | q :: ks, s => by
    have ih := valV_dA f ks s
    show valV ((Sum.inl q.1, f q.2) :: dA f ks) (Sum.inl s) = Option.map f (if q.1 = s then some q.2 else lkA ks s)
    by_cases e : q.1 = s
    · rw [valV_pos (by rw [e]), if_pos e]
      rfl
    · rw [valV_neg (fun z => e (Sum.inl.inj z)), if_neg e]
      exact ih
theorem put_dA (f : β → V) (ts : List (Int × β)) (s : Int) (t : β) : putK (dA f ts) (.inl s) (f t) = dA f (putA ts s t) := by
  unfold putK putA
  rw [valV_any, valV_dA, Option.isSome_map]
  cases (lkA ts s).isSome with
  | false =>
    rw [if_neg Bool.false_ne_true, if_neg Bool.false_ne_true]
    unfold dA
    rw [List.map_append]
    rfl
  | true =>
    rw [if_pos rfl, if_pos rfl]
    unfold dA
    rw [List.map_map, List.map_map]
    refine List.map_congr_left fun p _ => ?_
    show (if (Sum.inl p.1 : Key) = Sum.inl s then ((Sum.inl p.1 : Key), f t) else (Sum.inl p.1, f p.2)) = (Sum.inl (if p.1 = s then (p.1, t) else p).1, f (if p.1 = s then (p.1, t) else p).2)
    by_cases e : p.1 = s
    · rw [if_pos (by rw [e]), if_pos e]
    · rw [if_neg (fun z => e (Sum.inl.inj z)), if_neg e]
theorem drop_dA (f : β → V) (ts : List (Int × β)) (s : Int) : dropK (dA f ts) (.inl s) = dA f (dropA ts s) := by
  unfold dropK dropA dA
  rw [List.filter_map]
  congr 1
  refine List.filter_congr fun q _ => ?_
  show decide ((Sum.inl q.1 : Key) ≠ Sum.inl s) = decide (q.1 ≠ s)
  by_cases e : q.1 = s
  · simp [e]
  · have : (Sum.inl q.1 : Key) ≠ Sum.inl s := fun z => e (Sum.inl.inj z)
    simp [e]
theorem lkA_map (g : β → γ) : ∀ (ts : List (Int × β)) (s : Int), lkA (ts.map fun q => (q.1, g q.2)) s = (lkA ts s).map g
  | [], _ => rfl
  | q :: ts, s => by
    show (if q.1 = s then some (g q.2) else lkA (ts.map fun q => (q.1, g q.2)) s) = Option.map g (if q.1 = s then some q.2 else lkA ts s)
    by_cases e : q.1 = s
    · rw [if_pos e, if_pos e]; rfl
    · rw [if_neg e, if_neg e]; exact lkA_map g ts s
theorem putA_map (g : β → γ) (ts : List (Int × β)) (s : Int) (t : β) : (putA ts s t).map (fun q => (q.1, g q.2)) = putA (ts.map fun q => (q.1, g q.2)) s (g t) := by
  unfold putA
  rw [lkA_map, Option.isSome_map]
  cases (lkA ts s).isSome with
  | false => rw [if_neg Bool.false_ne_true, if_neg Bool.false_ne_true, List.map_append]; rfl
  | true =>
    rw [if_pos rfl, if_pos rfl, List.map_map, List.map_map]
    refine List.map_congr_left fun p _ => ?_
    show ((if p.1 = s then (p.1, t) else p).1, g (if p.1 = s then (p.1, t) else p).2) = if p.1 = s then (p.1, g t) else (p.1, g p.2)
    split <;> rfl
theorem dropA_map (g : β → γ) (ts : List (Int × β)) (s : Int) : (dropA ts s).map (fun q => (q.1, g q.2)) = dropA (ts.map fun q => (q.1, g q.2)) s := by
  unfold dropA
  rw [List.filter_map]
  rfl
theorem lkA_app : ∀ (ts : List (Int × β)) (s s1 : Int) (t1 : β), lkA (ts ++ [(s1, t1)]) s = match lkA ts s with
    | some t => some t
    | none => if s1 = s then some t1 else none
  | [], s, s1, t1 => rfl
  | q :: ts, s, s1, t1 => by
    have ih := lkA_app ts s s1 t1
    show (if q.1 = s then some q.2 else lkA (ts ++ [(s1, t1)]) s) = match (if q.1 = s then some q.2 else lkA ts s) with
      | some t => some t
      | none => if s1 = s then some t1 else none
    by_cases e : q.1 = s
    · rw [if_pos e, if_pos e]
    · rw [if_neg e, if_neg e]
      exact ih
theorem lkA_upd (s x : Int) (t : β) : ∀ ts : List (Int × β), lkA (ts.map (fun q => if q.1 = s then (q.1, t) else q)) x = if x = s then (lkA ts s).map (fun _ => t) else lkA ts x
  | [] => by split <;> rfl
  | q :: ts => by
    have ih := lkA_upd s x t ts
    show (if (if q.1 = s then (q.1, t) else q).1 = x then some (if q.1 = s then (q.1, t) else q).2 else lkA (ts.map (fun q => if q.1 = s then (q.1, t) else q)) x) = if x = s then Option.map (fun _ => t) (if q.1 = s then some q.2 else lkA ts s) else (if q.1 = x then some q.2 else lkA ts x)
    rw [ih]
    by_cases e : q.1 = s
    · rw [if_pos e, if_pos e]
      show (if q.1 = x then some t else (if x = s then Option.map (fun _ => t) (lkA ts s) else lkA ts x)) = if x = s then some t else (if q.1 = x then some q.2 else lkA ts x)
      by_cases z : x = s
      · rw [if_pos (show q.1 = x by rw [e, z]), if_pos z]
      · rw [if_neg (show ¬ q.1 = x from fun y => z (by rw [← y, e])), if_neg z, if_neg z, if_neg (show ¬ q.1 = x from fun y => z (by rw [← y, e]))]
    · rw [if_neg e, if_neg e]
      show (if q.1 = x then some q.2 else (if x = s then Option.map (fun _ => t) (lkA ts s) else lkA ts x)) = if x = s then Option.map (fun _ => t) (lkA ts s) else (if q.1 = x then some q.2 else lkA ts x)
      by_cases z : x = s
      · rw [if_pos z, if_pos z, if_neg (show ¬ q.1 = x from fun y => e (by rw [y, z]))]
      · rw [if_neg z, if_neg z]
theorem lk_putA (ts : List (Int × β)) (s : Int) (t : β) (x : Int) : lkA (putA ts s t) x = if x = s then some t else lkA ts x := by
  unfold putA
  by_cases q : (lkA ts s).isSome = true
  · rw [if_pos q, lkA_upd]
    obtain ⟨u, e⟩ := Option.isSome_iff_exists.mp q
    rw [e]
    rfl
  · rw [if_neg q, lkA_app]
    have q : lkA ts s = none := by
      cases z : lkA ts s with
      | none => rfl
      | some u => rw [z] at q; exact absurd rfl q
    by_cases e : x = s
    · rw [if_pos e, e, q]
      show (if s = s then some t else none) = some t
      rw [if_pos rfl]
    · rw [if_neg e]
      cases lkA ts x with
      | some u => rfl
      | none =>
        show (if s = x then some t else none) = none
        rw [if_neg (fun z => e z.symm)]
theorem lk_dropA : ∀ (ts : List (Int × β)) (s x : Int), lkA (dropA ts s) x = if x = s then none else lkA ts x
  | [], s, x => by
    show none = if x = s then none else none
    split <;> rfl
  | q :: ts, s, x => by
    have ih := lk_dropA ts s x
    unfold dropA at ih ⊢
    by_cases e : q.1 = s
    · rw [List.filter_cons_of_neg (by simp [e]), ih]
      by_cases z : x = s
      · rw [if_pos z, if_pos z]
      · rw [if_neg z, if_neg z]
        show lkA ts x = if q.1 = x then some q.2 else lkA ts x
        rw [if_neg (fun y => z (by rw [← y, e]))]
    · rw [List.filter_cons_of_pos (by simp [e])]
      show (if q.1 = x then some q.2 else lkA _ x) = if x = s then none else (if q.1 = x then some q.2 else lkA ts x)
      by_cases z : q.1 = x
      · rw [if_pos z, if_pos z, if_neg (fun y => e (by rw [z, y]))]
      · rw [if_neg z, if_neg z]
        exact ih
theorem lkA_in : ∀ {ks : List (Int × β)} {s : Int}, s ∈ ks.map Prod.fst → ∃ t, lkA ks s = some t
  | [], _, m => nomatch m
  | q :: ks, s, m => by
    unfold lkA
    by_cases e : q.1 = s
    · exact ⟨_, if_pos e⟩
    · rw [if_neg e]
      exact lkA_in ((List.mem_cons.mp m).resolve_left fun z => e z.symm)
theorem lkA_pair {ks : List (Int × β)} {s : Int} {t : β} (h : lkA ks s = some t) : (s, t) ∈ ks := by
  induction ks with
  | nil => cases h
  | cons r ks ih =>
    have h : (if r.1 = s then some r.2 else lkA ks s) = some t := h
    by_cases e : r.1 = s
    · rw [if_pos e] at h
      have h := Option.some.inj h
      rw [← e, ← h]
      exact .head _
    · rw [if_neg e] at h
      exact .tail _ (ih h)
theorem lkA_mem {ks : List (Int × β)} {s : Int} {t : β} (h : lkA ks s = some t) : s ∈ ks.map Prod.fst := List.mem_map.mpr ⟨_, lkA_pair h, rfl⟩
theorem keyA {ks : List (Int × β)} {s : Int} : s ∈ ks.map Prod.fst ↔ (lkA ks s).isSome = true := by
  constructor
  · intro m
    obtain ⟨t, e⟩ := lkA_in m
    rw [e]
    rfl
  · intro h
    cases q : lkA ks s with
    | none => rw [q] at h; cases h
    | some t => exact lkA_mem q
theorem lkA_get {ks : List (Int × β)} (nd : (ks.map Prod.fst).Nodup) {q : Int × β} (m : q ∈ ks) : lkA ks q.1 = some q.2 := by
  induction ks with
  | nil => nomatch m
  | cons r ks ih =>
    rw [List.map_cons, List.nodup_cons] at nd
    show (if r.1 = q.1 then some r.2 else lkA ks q.1) = some q.2
    rcases List.mem_cons.mp m with e | m
    · rw [e, if_pos rfl]
    · rw [if_neg (fun z => nd.1 (by rw [z]; exact List.mem_map.mpr ⟨q, m, rfl⟩))]
      exact ih nd.2 m
theorem nd_putA {ts : List (Int × β)} {s : Int} {t : β} (nd : (ts.map Prod.fst).Nodup) : ((putA ts s t).map Prod.fst).Nodup := by
  unfold putA
  cases q : (lkA ts s).isSome with
  | true =>
    rw [if_pos rfl, List.map_map]
    rw [show ts.map (Prod.fst ∘ fun q => if q.1 = s then (q.1, t) else q) = ts.map Prod.fst from List.map_congr_left fun p _ => by show (if p.1 = s then (p.1, t) else p).1 = p.1; split <;> rfl]
    exact nd
  | false =>
    rw [if_neg Bool.false_ne_true, List.map_append]
    refine List.nodup_append.mpr ⟨nd, List.nodup_cons.mpr ⟨(fun m => nomatch m), List.nodup_nil⟩, fun a am b bm e => ?_⟩
    have bm : b ∈ [s] := bm
    rw [List.mem_singleton.mp bm] at e
    subst e
    rw [keyA.mp am] at q
    cases q
theorem nd_dropA {ts : List (Int × β)} {s : Int} (nd : (ts.map Prod.fst).Nodup) : ((dropA ts s).map Prod.fst).Nodup :=
  nd.sublist (List.Sublist.map _ (List.filter_sublist ..))
theorem len_putA (ts : List (Int × β)) (s : Int) (t : β) : (putA ts s t).length ≤ ts.length + 1 := by
  unfold putA
  split
  · rw [List.length_map]; omega
  · rw [List.length_append]; exact Nat.le_refl _
theorem putA_new {ts : List (Int × β)} {s : Int} {t : β} (h : lkA ts s = none) : putA ts s t = ts ++ [(s, t)] := by
  unfold putA
  rw [h]
  rfl
theorem putA_in {ts : List (Int × β)} {s : Int} {t : β} {q : Int × β} (m : q ∈ putA ts s t) : q = (s, t) ∨ q ∈ ts := by
  unfold putA at m
  split at m
  · obtain ⟨p, hp, e⟩ := List.mem_map.mp m
    by_cases z : p.1 = s
    · rw [if_pos z] at e
      left
      rw [← e, z]
    · rw [if_neg z] at e
      right
      rw [← e]
      exact hp
  · rcases List.mem_append.mp m with m | m
    · exact .inr m
    · exact .inl (List.mem_singleton.mp m)
theorem dropA_in {ts : List (Int × β)} {s : Int} {q : Int × β} (m : q ∈ dropA ts s) : q ∈ ts ∧ q.1 ≠ s := by
  obtain ⟨a, b⟩ := List.mem_filter.mp m
  exact ⟨a, by simpa using b⟩
end
/-- a dict of tuples at d: what its tuples hold is told by f -/
def TupD {β : Type} (f : β → List V) (H : Hp) (d : Addr) (ms : List (Int × β)) : Prop := ∃ es : List (Int × (Addr × β)), H d = some (.dK (dA (fun p : Addr × β => V.ref p.1) es)) ∧ (∀ e ∈ es, H e.2.1 = some (.tup (f e.2.2))) ∧ es.map (fun e => (e.1, e.2.2)) = ms
section
variable {β : Type} {f : β → List V} {H H' : Hp} {d : Addr} {ms : List (Int × β)} {ds : List Addr}
theorem TupD.nil (h : H d = some (.dK [])) : TupD f H d [] := ⟨[], h, (fun e m => nomatch m), rfl⟩
theorem TupD.at_ (T : TupD f H d ms) : ∃ kv, H d = some (.dK kv) := by
  obtain ⟨es, h, _⟩ := T
  exact ⟨_, h⟩
theorem TupD.fr (T : TupD f H d ms) (X : Fr ds H H') (n : d ∉ ds) (nt : ∀ a ∈ ds, ∀ vs, H a ≠ some (.tup vs)) : TupD f H' d ms := by
  obtain ⟨es, h, h2, h3⟩ := T
  exact ⟨es, X.dK h n, fun e m => X.tup (h2 e m) fun z => nt _ z _ (h2 e m), h3⟩
theorem TupD.fr0 (T : TupD f H d ms) (X : Fr [] H H') : TupD f H' d ms := T.fr X not_nil fun a m => nomatch m
theorem lk_es {es : List (Int × (Addr × β))} (h3 : es.map (fun e => (e.1, e.2.2)) = ms) (k : Int) : lkA ms k = (lkA es k).map Prod.snd := by
  rw [← h3]
  exact lkA_map Prod.snd es k
theorem TupD.none_ (T : TupD f H d ms) {k : Int} (e : lkA ms k = none) : DGet H d (.int k) none := by
  obtain ⟨es, h, h2, h3⟩ := T
  have g := DGet.k (k := Sum.inl k) h
  rw [valV_dA] at g
  rw [lk_es h3] at e
  cases q : lkA es k with
  | none => rw [q] at g; exact g
  | some p => rw [q] at e; cases e
theorem TupD.some_ (T : TupD f H d ms) {k : Int} {v : β} (e : lkA ms k = some v) : ∃ a, DGet H d (.int k) (some (.ref a)) ∧ H a = some (.tup (f v)) := by
  obtain ⟨es, h, h2, h3⟩ := T
  have g := DGet.k (k := Sum.inl k) h
  rw [valV_dA] at g
  rw [lk_es h3] at e
  cases q : lkA es k with
  | none => rw [q] at e; cases e
  | some p =>
    rw [q] at g e
    injection e with e
    have e : p.2 = v := e
    refine ⟨p.1, g, ?_⟩
    rw [← e]
    exact h2 _ (lkA_pair q)
theorem TupD.has (T : TupD f H d ms) (k : Int) : ∃ o, DGet H d (.int k) o ∧ o.isSome = (lkA ms k).isSome := by
  cases q : lkA ms k with
  | none => exact ⟨_, T.none_ q, rfl⟩
  | some v =>
    obtain ⟨a, g, _⟩ := T.some_ q
    exact ⟨_, g, rfl⟩
theorem TupD.len (T : TupD f H d ms) : ∃ kv, H d = some (.dK kv) ∧ kv.length = ms.length ∧ kv.map (·.1) = (ms.map Prod.fst).map Sum.inl := by
  obtain ⟨es, h, h2, h3⟩ := T
  refine ⟨_, h, by rw [← h3]; unfold dA; rw [List.length_map, List.length_map], ?_⟩
  rw [← h3]
  unfold dA
  rw [List.map_map, List.map_map, List.map_map]
  rfl
theorem TupD.put (T : TupD f H d ms) {a : Addr} {v : β} (k : Int) (ha : H a = some (.tup (f v))) (l : ms.length ≤ 100000) : ∃ kv, DPut H d (.int k) (.ref a) (upd H d (.dK kv)) ∧ TupD f (upd H d (.dK kv)) d (putA ms k v) := by
  obtain ⟨es, h, h2, h3⟩ := T
  have hl : es.length = ms.length := by rw [← h3, List.length_map]
  have g := DPut.k (k := Sum.inl k) (v := V.ref a) h (by unfold dA; rw [List.length_map, hl]; exact Nat.lt_of_le_of_lt l (by decide))
  have e := put_dA (fun p : Addr × β => V.ref p.1) es k (a, v)
  have e : putK (dA (fun p : Addr × β => V.ref p.1) es) (.inl k) (.ref a) = _ := e
  rw [e] at g
  refine ⟨_, g, putA es k (a, v), upd_same, fun x m => ?_, ?_⟩
  · have hx : H x.2.1 = some (.tup (f x.2.2)) := by
      rcases putA_in m with z | z
      · rw [z]; exact ha
      · exact h2 x z
    rw [upd_ne (fun z => by rw [z, h] at hx; cases hx)]
    exact hx
  · rw [← h3]
    exact putA_map Prod.snd es k (a, v)
theorem TupD.drop (T : TupD f H d ms) (k : Int) : ∃ kv, H d = some (.dK kv) ∧ (valV kv (.inl k)).isSome = (lkA ms k).isSome ∧ TupD f (upd H d (.dK (dropK kv (.inl k)))) d (dropA ms k) := by
  obtain ⟨es, h, h2, h3⟩ := T
  refine ⟨_, h, by rw [valV_dA, lk_es h3, Option.isSome_map, Option.isSome_map], dropA es k, ?_, fun x m => ?_, ?_⟩
  · rw [upd_same, drop_dA]
  · have hx := h2 x (dropA_in m).1
    rw [upd_ne (fun z => by rw [z, h] at hx; cases hx)]
    exact hx
  · rw [← h3]
    exact dropA_map Prod.snd es k
end
/-- a constant of the module -/
def GcP (mg : Str → Option Value) (x : Str) (v : V) : Prop := ∃ u, mg x = some u ∧ RelV v u
/-- an __init__ with one default, an empty tuple -/
def IniE (K : PySem.W.Frag) (C : Addr) (q : Str) (st : Stmt) : Prop := ∃ (f a : Addr) (fd : FuncData), Mk K C f ∧ FunD K "__init__" q (C8.fnArgs st) (C8.fnBody st) (C8.fnScope st) [.ref a] [] f fd ∧ ∀ H, SqT K H a []
section
variable {K : PySem.W.Frag} {h : Heap} {mg : Str → Option Value}
theorem gcs_mk {x s : Str} {t : Tok} (X : K.In h) (G : h.Ns mainGlobals mg) (e : PySem.W.nsIn K mainGlobals x = some (some (.str s t))) : GcP mg x (.str s) := ⟨_, PySem.W.mg_of X G e, _, rfl⟩
theorem gci_mk {x : Str} {i : Int} {t : Tok} (X : K.In h) (G : h.Ns mainGlobals mg) (e : PySem.W.nsIn K mainGlobals x = some (some (.int i t))) : GcP mg x (.int i) := ⟨_, PySem.W.mg_of X G e, _, rfl⟩
theorem tup4s_mk {x : Str} {a : Addr} {s1 s2 s3 s4 : Str} {t1 t2 t3 t4 : Tok} {n : Nat} {od : Option Addr} {osl : Array (Option Value)} (X : K.In h) (G : h.Ns mainGlobals mg) (e : PySem.W.nsIn K mainGlobals x = some (some (.ref a))) (l : K.lookup a = some ⟨.type "tuple", od, .seq #[.str s1 t1, .str s2 t2, .str s3 t3, .str s4 t4] n, osl⟩) : TupP K mg x [.str s1, .str s2, .str s3, .str s4] :=
  ⟨a, PySem.W.mg_of X G e, fun _ => .inr ⟨_, _, _, l, rfl, rfl, by show 4 ≤ sizeLine; decide, .cons ⟨_, rfl⟩ (.cons ⟨_, rfl⟩ (.cons ⟨_, rfl⟩ (.cons ⟨_, rfl⟩ .nil)))⟩⟩
theorem iniE_mk {C f TT e : Addr} {q : Str} {st : Stmt} {oc : Value} {od an : Option Addr} {osl : Array (Option Value)} {kV doc pm cdv ct : Value} {o1 : Value} {o2 : Option Addr} {o3 : Array (Option Value)} {n1 n2 : Nat} {p2 : Option Addr} {p3 : Array (Option Value)} (m : PySem.W.makesIn K C = true) (a : PySem.W.findIn K (.ref C) "__init__" = some (some (.ref f))) (i : PySem.W.isFn K (.ref f) = true) (kc : PySem.W.keepIn K (.ref C) = true)
    (l : K.lookup f = some ⟨oc, od, .func (PySem.W.fnOf "__init__" q (C8.fnArgs st) (C8.fnBody st) (C8.fnScope st) (.ref TT) kV doc pm an cdv ct), osl⟩) (c : PySem.W.codeIn K cdv q = true) (k : PySem.W.keepIn K (.ref f) = true)
    (lT : K.lookup TT = some ⟨o1, o2, .seq #[.ref e] n1, o3⟩) (le : K.lookup e = some ⟨.type "tuple", p2, .seq #[] n2, p3⟩) : IniE K C q st :=
  ⟨f, e, _, ⟨m, a, i, kc⟩, ⟨⟨oc, od, _, kV, doc, pm, an, cdv, ct, osl, rfl, l, c, .inr ⟨fun z => (nomatch z), TT, _, [.ref e], n1, rfl, lT, rfl, .cons rfl .nil⟩, .inl rfl⟩, k⟩, fun H => .inr ⟨_, #[], n2, le, rfl, rfl, Nat.zero_le _, .nil⟩⟩
/-- the ranks of marks, a written dict -/
def RanksP (K : PySem.W.Frag) (w : World) (mg : Str → Option Value) (x : Str) : Prop := ∃ p : Addr, mg x = some (.ref p) ∧ KDct K w p "alive" (.int 1) ∧ KDct K w p "suspect" (.int 2) ∧ KDct K w p "dead" (.int 3) ∧ KDct K w p "left" (.int 4)
theorem ranks_mk {w : World} {x : Str} {p : Addr} {es : Array DictEntry} {n : Nat} {t1 t2 t3 t4 : Tok} (X : K.In h) (G : h.Ns mainGlobals mg) (e : PySem.W.nsIn K mainGlobals x = some (some (.ref p))) (l : K.lookup p = some ⟨.type "dict", none, .dict es n, #[]⟩) (hk : PySem.W.KeysLit w.params es.toList)
    (n1 : PySem.W.nsIn K p "alive" = some (some (.int 1 t1))) (n2 : PySem.W.nsIn K p "suspect" = some (some (.int 2 t2))) (n3 : PySem.W.nsIn K p "dead" = some (some (.int 3 t3))) (n4 : PySem.W.nsIn K p "left" = some (some (.int 4 t4))) : RanksP K w mg x :=
  ⟨p, PySem.W.mg_of X G e, ⟨es, n, _, l, hk, n1, _, rfl⟩, ⟨es, n, _, l, hk, n2, _, rfl⟩, ⟨es, n, _, l, hk, n3, _, rfl⟩, ⟨es, n, _, l, hk, n4, _, rfl⟩⟩
end
/-! ### sayings -/
structure Say where
  seat : Int
  life : Int
  mark : Str
  worth : Str
def Say.vs (s : Say) : List V := [.int s.seat, .int s.life, .str s.mark, .str s.worth]
def marksL : List Str := ["alive", "suspect", "dead", "left"]
def markN (m : Str) : Nat := marksL.idxOf m
def rankI (s : Say) : Int := 4 * s.life + (markN s.mark : Int) + 1
def rankO : Option Say → Int
  | none => 0
  | some s => rankI s
def plainS : Str := "abcdefghijklmnopqrstuvwxyz0123456789"
def Plain (w : Str) : Prop := ∀ c ∈ w.cps.toList, c ∈ plainS.cps.toList
structure Say.Ok (r : Int) (s : Say) : Prop where
  s0 : 0 ≤ s.seat
  s1 : s.seat < r
  l0 : 0 ≤ s.life
  l1 : s.life < 10 ^ 60
  m : s.mark ∈ marksL
  w : s.worth.length ≤ 12
  p : Plain s.worth
theorem mark_lt {m : Str} (h : m ∈ marksL) : markN m < 4 := List.idxOf_lt_length_of_mem h
theorem mark_at {m : Str} (h : m ∈ marksL) : marksL[markN m]? = some m ∧ ∀ j, j < markN m → marksL[j]? ≠ some m := by
  have e := List.idxOf_lt_length_of_mem h
  refine ⟨?_, fun j hj => ?_⟩
  · unfold markN
    rw [List.getElem?_eq_getElem e, List.getElem_idxOf]
  · intro z
    obtain ⟨h1, h2⟩ := List.getElem?_eq_some_iff.mp z
    have := List.not_of_lt_findIdx (p := (· == m)) (xs := marksL) (i := j) hj
    rw [h2] at this
    simp at this
theorem rank_pos {s : Say} {r : Int} (o : s.Ok r) : 0 < rankI s := by
  unfold rankI
  have := o.l0
  omega
theorem foldl_ones : ∀ (cs : List Nat) (acc : Array Nat), ((cs.map fun c => (⟨#[c]⟩ : Str)).foldl (fun acc p => acc ++ ("" : Str).cps ++ p.cps) acc).toList = acc.toList ++ cs
  | [], acc => by simp
  | c :: cs, acc => by
    rw [List.map_cons, List.foldl_cons, foldl_ones cs]
    have e : ("" : Str).cps = #[] := by decide +kernel
    rw [e]
    simp
theorem join_ones (cs : List Nat) : (Txt.join ("" : Str) (cs.map fun c => (⟨#[c]⟩ : Str))).cps.toList = cs := by
  cases cs with
  | nil => rfl
  | cons c cs =>
    have h := foldl_ones cs #[c]
    exact h
theorem ones_len : ∀ cs : List Nat, (((cs.map fun c => (⟨#[c]⟩ : Str)).map fun x : Str => x.length).sum) = cs.length
  | [] => rfl
  | c :: cs => by
    rw [List.map_cons, List.map_cons, List.sum_cons, ones_len cs, List.length_cons]
    show 1 + cs.length = _
    omega
theorem join_worth {cs : List Nat} {m : Nat} (l : cs.length ≤ m) (h : ∀ c ∈ cs, c ∈ plainS.cps.toList) : (Txt.join ("" : Str) (cs.map fun c => (⟨#[c]⟩ : Str))).length ≤ m ∧ Plain (Txt.join ("" : Str) (cs.map fun c => (⟨#[c]⟩ : Str))) := by
  refine ⟨?_, fun c hc => ?_⟩
  · show (Txt.join ("" : Str) (cs.map fun c => (⟨#[c]⟩ : Str))).cps.size ≤ m
    rw [← Array.length_toList, join_ones]
    exact l
  · rw [join_ones] at hc
    exact h c hc
def latS (ms : List (Int × Say)) (s : Say) : List (Int × Say) := if rankO (lkA ms s.seat) < rankI s then putA ms s.seat s else ms
def latL (ss : List Say) : List (Int × Say) := ss.foldl latS []
theorem latL_snoc (ss : List Say) (s : Say) : latL (ss ++ [s]) = latS (latL ss) s := by
  unfold latL
  rw [List.foldl_append]
  rfl
end UF

set_option Elab.async false
set_option maxRecDepth 100000
set_option maxHeartbeats 4000000
namespace K29
open PySem PySem.Spec PyProof.Rows L2 C8 LamX UF

def top (i : Nat) : Stmt := PySem.Challenge.pw_livingroll_k29_whole_moments.main.body.getD i (.Pass ⟨0, 0, 0, 0⟩)

abbrev s_is_integer : Stmt := top 7
abbrev n_is_integer : List Str := ["value"]
theorem sc_is_integer : FnScope n_is_integer ["value"] (C8.fnScope s_is_integer) := ⟨rfl, rfl, rfl, by decide +kernel, rfl, by decide +kernel, by decide +kernel⟩

abbrev s_is_below : Stmt := top 8
abbrev n_is_below : List Str := ["value", "limit"]
theorem sc_is_below : FnScope n_is_below ["value", "limit"] (C8.fnScope s_is_below) := ⟨rfl, rfl, rfl, by decide +kernel, rfl, by decide +kernel, by decide +kernel⟩

abbrev s_is_plain : Stmt := top 9
abbrev n_is_plain : List Str := ["value", "most", "sign"]
theorem sc_is_plain : FnScope n_is_plain ["value", "most"] (C8.fnScope s_is_plain) := ⟨rfl, rfl, rfl, by decide +kernel, rfl, by decide +kernel, by decide +kernel⟩

abbrev s_check_saying : Stmt := top 14
abbrev n_check_saying : List Str := ["setting", "saying"]
theorem sc_check_saying : FnScope n_check_saying ["setting", "saying"] (C8.fnScope s_check_saying) := ⟨rfl, rfl, rfl, by decide +kernel, rfl, by decide +kernel, by decide +kernel⟩

abbrev s_is_saying : Stmt := top 15
abbrev n_is_saying : List Str := ["setting", "value", "seat", "life", "mark", "worth"]
theorem sc_is_saying : FnScope n_is_saying ["setting", "value"] (C8.fnScope s_is_saying) := ⟨rfl, rfl, rfl, by decide +kernel, rfl, by decide +kernel, by decide +kernel⟩

abbrev s_is_worth : Stmt := top 16
abbrev n_is_worth : List Str := ["value"]
theorem sc_is_worth : FnScope n_is_worth ["value"] (C8.fnScope s_is_worth) := ⟨rfl, rfl, rfl, by decide +kernel, rfl, by decide +kernel, by decide +kernel⟩

abbrev s_rank : Stmt := top 17
abbrev n_rank : List Str := ["saying"]
theorem sc_rank : FnScope n_rank ["saying"] (C8.fnScope s_rank) := ⟨rfl, rfl, rfl, by decide +kernel, rfl, by decide +kernel, by decide +kernel⟩

abbrev s_format_saying : Stmt := top 18
abbrev n_format_saying : List Str := ["saying", "seat", "life", "mark", "worth", "shown"]
theorem sc_format_saying : FnScope n_format_saying ["saying"] (C8.fnScope s_format_saying) := ⟨rfl, rfl, rfl, by decide +kernel, rfl, by decide +kernel, by decide +kernel⟩

abbrev s_format_worth : Stmt := top 19
abbrev n_format_worth : List Str := ["worth"]
theorem sc_format_worth : FnScope n_format_worth ["worth"] (C8.fnScope s_format_worth) := ⟨rfl, rfl, rfl, by decide +kernel, rfl, by decide +kernel, by decide +kernel⟩

abbrev s_moments : Stmt := top 21
abbrev n_moments : List Str := ["book", "low", "width", "plain", "weighed", "squared", "place", "held"]
theorem sc_moments : FnScope n_moments ["book", "low", "width"] (C8.fnScope s_moments) := ⟨rfl, rfl, rfl, by decide +kernel, rfl, by decide +kernel, by decide +kernel⟩

abbrev s_clash : Stmt := top 22
abbrev n_clash : List Str := ["book", "other", "seats", "widths", "ranges", "power", "width", "low"]
theorem sc_clash : FnScope n_clash ["book", "other"] (C8.fnScope s_clash) := ⟨rfl, rfl, rfl, by decide +kernel, rfl, by decide +kernel, by decide +kernel⟩

abbrev s_is_clash : Stmt := top 23
abbrev n_is_clash : List Str := ["book", "other", "low", "width", "seat"]
theorem sc_is_clash : FnScope n_is_clash ["book", "other", "low", "width"] (C8.fnScope s_is_clash) := ⟨rfl, rfl, rfl, by decide +kernel, rfl, by decide +kernel, by decide +kernel⟩

abbrev s_check_field : Stmt := top 26
abbrev n_check_field : List Str := ["field", "value", "least", "most"]
theorem sc_check_field : FnScope n_check_field ["field", "value", "least", "most"] (C8.fnScope s_check_field) := ⟨rfl, rfl, rfl, by decide +kernel, rfl, by decide +kernel, by decide +kernel⟩

abbrev s_latest_of : Stmt := top 29
abbrev n_latest_of : List Str := ["setting", "sayings", "latest", "saying"]
theorem sc_latest_of : FnScope n_latest_of ["setting", "sayings"] (C8.fnScope s_latest_of) := ⟨rfl, rfl, rfl, by decide +kernel, rfl, by decide +kernel, by decide +kernel⟩

abbrev s_law_whole : Stmt := top 31
abbrev n_law_whole : List Str := ["x"]
theorem sc_law_whole : FnScope n_law_whole ["x"] (C8.fnScope s_law_whole) := ⟨rfl, rfl, rfl, by decide +kernel, rfl, by decide +kernel, by decide +kernel⟩

abbrev s_law_box : Stmt := top 32
abbrev n_law_box : List Str := ["script", "cell", "cells", "seed"]
theorem sc_law_box : FnScope n_law_box ["script"] (C8.fnScope s_law_box) := ⟨rfl, rfl, rfl, by decide +kernel, rfl, by decide +kernel, by decide +kernel⟩

abbrev s_law_mixed : Stmt := top 33
abbrev n_law_mixed : List Str := ["seed", "count", "one", "two"]
theorem sc_law_mixed : FnScope n_law_mixed ["seed", "count"] (C8.fnScope s_law_mixed) := ⟨rfl, rfl, rfl, by decide +kernel, rfl, by decide +kernel, by decide +kernel⟩

abbrev s_law_take : Stmt := top 34
abbrev n_law_take : List Str := ["box", "limit", "cell", "digit"]
theorem sc_law_take : FnScope n_law_take ["box", "limit"] (C8.fnScope s_law_take) := ⟨rfl, rfl, rfl, by decide +kernel, rfl, by decide +kernel, by decide +kernel⟩

abbrev s_law_base : Stmt := top 35
abbrev n_law_base : List Str := ["box", "pick", "base", "turn"]
theorem sc_law_base : FnScope n_law_base ["box"] (C8.fnScope s_law_base) := ⟨rfl, rfl, rfl, by decide +kernel, rfl, by decide +kernel, by decide +kernel⟩

abbrev s_law_level : Stmt := top 36
abbrev n_law_level : List Str := ["box", "base", "pick"]
theorem sc_law_level : FnScope n_law_level ["box", "base"] (C8.fnScope s_law_level) := ⟨rfl, rfl, rfl, by decide +kernel, rfl, by decide +kernel, by decide +kernel⟩

abbrev s_law_worth : Stmt := top 37
abbrev n_law_worth : List Str := ["seat", "age", "salt", "letters", "start", "k"]
theorem sc_law_worth : FnScope n_law_worth ["seat", "age", "salt"] (C8.fnScope s_law_worth) := ⟨rfl, rfl, rfl, by decide +kernel, rfl, by decide +kernel, by decide +kernel⟩

abbrev s_law_saying : Stmt := top 38
abbrev n_law_saying : List Str := ["seat", "level", "salt", "age", "mark"]
theorem sc_law_saying : FnScope n_law_saying ["seat", "level", "salt"] (C8.fnScope s_law_saying) := ⟨rfl, rfl, rfl, by decide +kernel, rfl, by decide +kernel, by decide +kernel⟩

abbrev s_law_rows : Stmt := top 39
abbrev n_law_rows : List Str := ["levels", "salt", "seat"]
theorem sc_law_rows : FnScope n_law_rows ["levels", "salt"] (C8.fnScope s_law_rows) := ⟨rfl, rfl, rfl, by decide +kernel, rfl, by decide +kernel, by decide +kernel⟩

abbrev s_law_book : Stmt := top 40
abbrev n_law_book : List Str := ["setting", "levels", "salt", "box", "rows", "cut"]
theorem sc_law_book : FnScope n_law_book ["setting", "levels", "salt", "box"] (C8.fnScope s_law_book) := ⟨rfl, rfl, rfl, by decide +kernel, rfl, by decide +kernel, by decide +kernel⟩

abbrev s_law_is_saying : Stmt := top 41
abbrev n_law_is_saying : List Str := ["x"]
theorem sc_law_is_saying : FnScope n_law_is_saying ["x"] (C8.fnScope s_law_is_saying) := ⟨rfl, rfl, rfl, by decide +kernel, rfl, by decide +kernel, by decide +kernel⟩

abbrev s_law_same : Stmt := top 42
abbrev n_law_same : List Str := ["found", "rows", "k"]
theorem sc_law_same : FnScope n_law_same ["found", "rows"] (C8.fnScope s_law_same) := ⟨rfl, rfl, rfl, by decide +kernel, rfl, by decide +kernel, by decide +kernel⟩

abbrev s_law_few : Stmt := top 43
abbrev n_law_few : List Str := ["box", "levels", "base", "other", "turn", "place", "level"]
theorem sc_law_few : FnScope n_law_few ["box", "levels", "base"] (C8.fnScope s_law_few) := ⟨rfl, rfl, rfl, by decide +kernel, rfl, by decide +kernel, by decide +kernel⟩

abbrev s_law_above : Stmt := top 44
abbrev n_law_above : List Str := ["box", "levels", "base", "other", "level", "rise"]
theorem sc_law_above : FnScope n_law_above ["box", "levels", "base"] (C8.fnScope s_law_above) := ⟨rfl, rfl, rfl, by decide +kernel, rfl, by decide +kernel, by decide +kernel⟩

abbrev s_law_vector : Stmt := top 45
abbrev n_law_vector : List Str := ["box", "levels", "base", "many", "one", "two", "gap", "start", "rise", "place"]
theorem sc_law_vector : FnScope n_law_vector ["box", "levels", "base"] (C8.fnScope s_law_vector) := ⟨rfl, rfl, rfl, by decide +kernel, rfl, by decide +kernel, by decide +kernel⟩

abbrev s_law_pair : Stmt := top 46
abbrev n_law_pair : List Str := ["box", "levels", "base", "mode", "one", "two", "level"]
theorem sc_law_pair : FnScope n_law_pair ["box", "levels", "base"] (C8.fnScope s_law_pair) := ⟨rfl, rfl, rfl, by decide +kernel, rfl, by decide +kernel, by decide +kernel⟩

abbrev s_law_ranges : Stmt := top 47
abbrev n_law_ranges : List Str := ["box", "many", "ranges", "low", "turn", "width"]
theorem sc_law_ranges : FnScope n_law_ranges ["box", "many"] (C8.fnScope s_law_ranges) := ⟨rfl, rfl, rfl, by decide +kernel, rfl, by decide +kernel, by decide +kernel⟩

abbrev s_law_sums : Stmt := top 48
abbrev n_law_sums : List Str := ["levels", "low", "width", "s0", "s1", "s2", "n", "level"]
theorem sc_law_sums : FnScope n_law_sums ["levels", "low", "width"] (C8.fnScope s_law_sums) := ⟨rfl, rfl, rfl, by decide +kernel, rfl, by decide +kernel, by decide +kernel⟩

abbrev s_law_exact : Stmt := top 49
abbrev n_law_exact : List Str := ["found", "due"]
theorem sc_law_exact : FnScope n_law_exact ["found", "due"] (C8.fnScope s_law_exact) := ⟨rfl, rfl, rfl, by decide +kernel, rfl, by decide +kernel, by decide +kernel⟩

abbrev s_law_range_right : Stmt := top 50
abbrev n_law_range_right : List Str := ["books", "levels", "low", "width", "first", "second", "less", "more", "seat"]
theorem sc_law_range_right : FnScope n_law_range_right ["books", "levels", "low", "width"] (C8.fnScope s_law_range_right) := ⟨rfl, rfl, rfl, by decide +kernel, rfl, by decide +kernel, by decide +kernel⟩

abbrev s_law_meets : Stmt := top 51
abbrev n_law_meets : List Str := ["one", "two", "many", "width", "turn", "k", "low"]
theorem sc_law_meets : FnScope n_law_meets ["one", "two"] (C8.fnScope s_law_meets) := ⟨rfl, rfl, rfl, by decide +kernel, rfl, by decide +kernel, by decide +kernel⟩

abbrev s_law_meets_bent : Stmt := top 52
abbrev n_law_meets_bent : List Str := ["one", "two", "seat", "many", "width", "turn", "k", "low", "apart"]
theorem sc_law_meets_bent : FnScope n_law_meets_bent ["one", "two", "seat"] (C8.fnScope s_law_meets_bent) := ⟨rfl, rfl, rfl, by decide +kernel, rfl, by decide +kernel, by decide +kernel⟩

abbrev s_law_clash_right : Stmt := top 53
abbrev n_law_clash_right : List Str := ["books", "levels", "due", "one", "two", "wanted", "found"]
theorem sc_law_clash_right : FnScope n_law_clash_right ["books", "levels"] (C8.fnScope s_law_clash_right) := ⟨rfl, rfl, rfl, by decide +kernel, rfl, by decide +kernel, by decide +kernel⟩

abbrev s_law_asked : Stmt := top 54
abbrev n_law_asked : List Str := ["books", "levels", "salt", "ranges", "low", "width", "k"]
theorem sc_law_asked : FnScope n_law_asked ["books", "levels", "salt", "ranges"] (C8.fnScope s_law_asked) := ⟨rfl, rfl, rfl, by decide +kernel, rfl, by decide +kernel, by decide +kernel⟩

abbrev s_law_bent : Stmt := top 55
abbrev n_law_bent : List Str := ["saying", "worth"]
theorem sc_law_bent : FnScope n_law_bent ["saying"] (C8.fnScope s_law_bent) := ⟨rfl, rfl, rfl, by decide +kernel, rfl, by decide +kernel, by decide +kernel⟩

abbrev s_law_other_worth : Stmt := top 56
abbrev n_law_other_worth : List Str := ["box", "setting", "books", "both", "salt", "book", "levels", "rows", "place", "bent", "other", "due", "found"]
theorem sc_law_other_worth : FnScope n_law_other_worth ["box", "setting", "books", "both", "salt"] (C8.fnScope s_law_other_worth) := ⟨rfl, rfl, rfl, by decide +kernel, rfl, by decide +kernel, by decide +kernel⟩

abbrev s_law : Stmt := top 57
abbrev n_law : List Str := ["script", "box", "bits", "many", "setting", "base", "salt", "turn", "levels", "books", "ranges", "turns", "side", "seat", "level"]
theorem sc_law : FnScope n_law ["script"] (C8.fnScope s_law) := ⟨rfl, rfl, rfl, by decide +kernel, rfl, by decide +kernel, by decide +kernel⟩

abbrev s_Setting__init : Stmt := inClass (top 25) 5
abbrev n_Setting__init : List Str := ["self", "bits", "patience", "room", "grace", "helpers"]
theorem sc_Setting__init : FnScope n_Setting__init ["self", "bits", "patience", "room", "grace", "helpers"] (C8.fnScope s_Setting__init) := ⟨rfl, rfl, rfl, by decide +kernel, rfl, by decide +kernel, by decide +kernel⟩

abbrev s_Setting_seats : Stmt := inClass (top 25) 6
abbrev n_Setting_seats : List Str := ["self"]
theorem sc_Setting_seats : FnScope n_Setting_seats ["self"] (C8.fnScope s_Setting_seats) := ⟨rfl, rfl, rfl, by decide +kernel, rfl, by decide +kernel, by decide +kernel⟩

structure T_Setting (K : PySem.W.Frag) (mg : Str → Option Value) (C : Addr) : Prop where
  cl : Cls K C
  mgC : mg "Setting" = some (.ref C)
  n_bits : NoAttr K C "bits"
  n_patience : NoAttr K C "patience"
  n_room : NoAttr K C "room"
  n_grace : NoAttr K C "grace"
  n_helpers : NoAttr K C "helpers"
  k_MOST_BITS : ConP K C "MOST_BITS" 8
  k_MOST_PATIENCE : ConP K C "MOST_PATIENCE" 6
  k_MOST_ROOM : ConP K C "MOST_ROOM" 64
  k_MOST_GRACE : ConP K C "MOST_GRACE" 200
  k_MOST_HELPERS : ConP K C "MOST_HELPERS" 3
  ini : IniD K C "Setting.__init__" s_Setting__init [("grace", .int 6), ("helpers", .int 1)]
  p_seats : PropP K C "seats" "Setting.seats" s_Setting_seats

abbrev s_Book__init : Stmt := inClass (top 28) 0
abbrev n_Book__init : List Str := ["self", "setting", "sayings"]
theorem sc_Book__init : FnScope n_Book__init ["self", "setting", "sayings"] (C8.fnScope s_Book__init) := ⟨rfl, rfl, rfl, by decide +kernel, rfl, by decide +kernel, by decide +kernel⟩

abbrev s_Book_take : Stmt := inClass (top 28) 1
abbrev n_Book_take : List Str := ["self", "saying"]
theorem sc_Book_take : FnScope n_Book_take ["self", "saying"] (C8.fnScope s_Book_take) := ⟨rfl, rfl, rfl, by decide +kernel, rfl, by decide +kernel, by decide +kernel⟩

abbrev s_Book_of : Stmt := inClass (top 28) 2
abbrev n_Book_of : List Str := ["self", "seat"]
theorem sc_Book_of : FnScope n_Book_of ["self", "seat"] (C8.fnScope s_Book_of) := ⟨rfl, rfl, rfl, by decide +kernel, rfl, by decide +kernel, by decide +kernel⟩

abbrev s_Book_rows : Stmt := inClass (top 28) 3
abbrev n_Book_rows : List Str := ["self", "seat"]
theorem sc_Book_rows : FnScope n_Book_rows ["self"] (C8.fnScope s_Book_rows) := ⟨rfl, rfl, rfl, by decide +kernel, rfl, by decide +kernel, by decide +kernel⟩

abbrev s_Book_held : Stmt := inClass (top 28) 4
abbrev n_Book_held : List Str := ["self"]
theorem sc_Book_held : FnScope n_Book_held ["self"] (C8.fnScope s_Book_held) := ⟨rfl, rfl, rfl, by decide +kernel, rfl, by decide +kernel, by decide +kernel⟩

abbrev s_Book_text : Stmt := inClass (top 28) 9
abbrev n_Book_text : List Str := ["self", "row"]
theorem sc_Book_text : FnScope n_Book_text ["self"] (C8.fnScope s_Book_text) := ⟨rfl, rfl, rfl, by decide +kernel, rfl, by decide +kernel, by decide +kernel⟩

abbrev s_Book__contains : Stmt := inClass (top 28) 11
abbrev n_Book__contains : List Str := ["self", "seat"]
theorem sc_Book__contains : FnScope n_Book__contains ["self", "seat"] (C8.fnScope s_Book__contains) := ⟨rfl, rfl, rfl, by decide +kernel, rfl, by decide +kernel, by decide +kernel⟩

abbrev s_Book__len : Stmt := inClass (top 28) 12
abbrev n_Book__len : List Str := ["self"]
theorem sc_Book__len : FnScope n_Book__len ["self"] (C8.fnScope s_Book__len) := ⟨rfl, rfl, rfl, by decide +kernel, rfl, by decide +kernel, by decide +kernel⟩

abbrev s_Book__or : Stmt := inClass (top 28) 13
abbrev n_Book__or : List Str := ["self", "other"]
theorem sc_Book__or : FnScope n_Book__or ["self", "other"] (C8.fnScope s_Book__or) := ⟨rfl, rfl, rfl, by decide +kernel, rfl, by decide +kernel, by decide +kernel⟩

abbrev s_Book__eq : Stmt := inClass (top 28) 14
abbrev n_Book__eq : List Str := ["self", "other"]
theorem sc_Book__eq : FnScope n_Book__eq ["self", "other"] (C8.fnScope s_Book__eq) := ⟨rfl, rfl, rfl, by decide +kernel, rfl, by decide +kernel, by decide +kernel⟩

structure T_Book (K : PySem.W.Frag) (mg : Str → Option Value) (C : Addr) : Prop where
  cl : Cls K C
  mgC : mg "Book" = some (.ref C)
  n_setting : NoAttr K C "setting"
  n_latest : NoAttr K C "_latest"
  ini : IniE K C "Book.__init__" s_Book__init
  m_take : MethP K C "take" "Book.take" s_Book_take ["self", "saying"]
  m_of : MethP K C "of" "Book.of" s_Book_of ["self", "seat"]
  m_rows : MethP K C "rows" "Book.rows" s_Book_rows ["self"]
  m_held : MethP K C "held" "Book.held" s_Book_held ["self"]
  m_text : MethP K C "text" "Book.text" s_Book_text ["self"]
  m_contains : MethP K C "__contains__" "Book.__contains__" s_Book__contains ["self", "seat"]
  m_len : MethP K C "__len__" "Book.__len__" s_Book__len ["self"]
  m_or : MethP K C "__or__" "Book.__or__" s_Book__or ["self", "other"]
  m_eq : MethP K C "__eq__" "Book.__eq__" s_Book__eq ["self", "other"]

-- const MARK_RANKS
structure Ds (K : PySem.W.Frag) (mg : Str → Option Value) (C_Setting C_Book : Addr) : Prop where
  d_is_integer : D0 K mg "is_integer" s_is_integer ["value"]
  d_is_below : D0 K mg "is_below" s_is_below ["value", "limit"]
  d_is_plain : D0 K mg "is_plain" s_is_plain ["value", "most"]
  d_check_saying : D0 K mg "check_saying" s_check_saying ["setting", "saying"]
  d_is_saying : D0 K mg "is_saying" s_is_saying ["setting", "value"]
  d_is_worth : D0 K mg "is_worth" s_is_worth ["value"]
  d_rank : D0 K mg "rank" s_rank ["saying"]
  d_format_saying : D0 K mg "format_saying" s_format_saying ["saying"]
  d_format_worth : D0 K mg "format_worth" s_format_worth ["worth"]
  d_moments : D0 K mg "moments" s_moments ["book", "low", "width"]
  d_clash : D0 K mg "clash" s_clash ["book", "other"]
  d_is_clash : D0 K mg "is_clash" s_is_clash ["book", "other", "low", "width"]
  d_check_field : D0 K mg "check_field" s_check_field ["field", "value", "least", "most"]
  d_latest_of : D0 K mg "latest_of" s_latest_of ["setting", "sayings"]
  d_law_whole : D0 K mg "_law_whole" s_law_whole ["x"]
  d_law_box : D0 K mg "_law_box" s_law_box ["script"]
  d_law_mixed : D0 K mg "_law_mixed" s_law_mixed ["seed", "count"]
  d_law_take : D0 K mg "_law_take" s_law_take ["box", "limit"]
  d_law_base : D0 K mg "_law_base" s_law_base ["box"]
  d_law_level : D0 K mg "_law_level" s_law_level ["box", "base"]
  d_law_worth : D0 K mg "_law_worth" s_law_worth ["seat", "age", "salt"]
  d_law_saying : D0 K mg "_law_saying" s_law_saying ["seat", "level", "salt"]
  d_law_rows : D0 K mg "_law_rows" s_law_rows ["levels", "salt"]
  d_law_book : D0 K mg "_law_book" s_law_book ["setting", "levels", "salt", "box"]
  d_law_is_saying : D0 K mg "_law_is_saying" s_law_is_saying ["x"]
  d_law_same : D0 K mg "_law_same" s_law_same ["found", "rows"]
  d_law_few : D0 K mg "_law_few" s_law_few ["box", "levels", "base"]
  d_law_above : D0 K mg "_law_above" s_law_above ["box", "levels", "base"]
  d_law_vector : D0 K mg "_law_vector" s_law_vector ["box", "levels", "base"]
  d_law_pair : D0 K mg "_law_pair" s_law_pair ["box", "levels", "base"]
  d_law_ranges : D0 K mg "_law_ranges" s_law_ranges ["box", "many"]
  d_law_sums : D0 K mg "_law_sums" s_law_sums ["levels", "low", "width"]
  d_law_exact : D0 K mg "_law_exact" s_law_exact ["found", "due"]
  d_law_range_right : D0 K mg "_law_range_right" s_law_range_right ["books", "levels", "low", "width"]
  d_law_meets : D0 K mg "_law_meets" s_law_meets ["one", "two"]
  d_law_meets_bent : D0 K mg "_law_meets_bent" s_law_meets_bent ["one", "two", "seat"]
  d_law_clash_right : D0 K mg "_law_clash_right" s_law_clash_right ["books", "levels"]
  d_law_asked : D0 K mg "_law_asked" s_law_asked ["books", "levels", "salt", "ranges"]
  d_law_bent : D0 K mg "_law_bent" s_law_bent ["saying"]
  d_law_other_worth : D0 K mg "_law_other_worth" s_law_other_worth ["box", "setting", "books", "both", "salt"]
  t_Setting : T_Setting K mg C_Setting
  t_Book : T_Book K mg C_Book
  g_PLAIN_SIGNS : GcP mg "PLAIN_SIGNS" (.str "abcdefghijklmnopqrstuvwxyz0123456789")
  g_MARKS : TupP K mg "MARKS" [.str "alive", .str "suspect", .str "dead", .str "left"]
  g_MOST_WORTH : GcP mg "MOST_WORTH" (.int 12)
end K29

set_option Elab.async false
set_option maxRecDepth 100000
set_option maxHeartbeats 4000000
/-! settings -/
namespace K29
open PySem PySem.Spec PyProof.Rows L2 C8 LamX UF

def spInt : Sp := fun vs H Q _ => ∃ n : Int, vs = [.int n] ∧ Q (.bl true) H
def spCheck : Sp := fun vs H Q _ => ∃ (x : Str) (v l m : Int), vs = [.str x, .int v, .int l, .int m] ∧ l ≤ v ∧ v ≤ m ∧ Q .non H
/-- a setting stands at q -/
def SetO (C : Addr) (H : Hp) (q : Addr) (n p r g h : Int) : Prop := ∃ dx : Addr, H q = some (.ins C dx (fs5 n p r g h))
theorem SetO.fr {C : Addr} {H H' : Hp} {q : Addr} {n p r g h : Int} {ds : List Addr} (s : SetO C H q n p r g h) (x : Fr ds H H') (m : q ∉ ds) : SetO C H' q n p r g h := s.imp fun _ e => x.ins e m
theorem SetO.fw {C : Addr} {H H' : Hp} {q : Addr} {n p r g h : Int} {ds : List Addr} (s : SetO C H q n p r g h) (x : Fw ds H H') (m : q ∉ ds) : SetO C H' q n p r g h := s.imp fun _ e => x.ins e m
theorem SetO.at_ {C : Addr} {H : Hp} {q : Addr} {n p r g h : Int} (s : SetO C H q n p r g h) : ∃ o, H q = some o := s.elim fun _ e => ⟨_, e⟩
def spInit (C : Addr) : Sp := fun vs H Q _ => ∃ (q dx : Addr) (n p r g h : Int), vs = [.ref q, .int n, .int p, .int r, .int g, .int h] ∧ H q = some (.ins C dx []) ∧ 1 ≤ n ∧ n ≤ 8 ∧ 1 ≤ p ∧ p ≤ 6 ∧ 1 ≤ r ∧ r ≤ 64 ∧ 1 ≤ g ∧ g ≤ 200 ∧ 0 ≤ h ∧ h ≤ 3 ∧
  ∀ H' : Hp, SetO C H' q n p r g h → Fr [q] H H' → Q .non H'
section
variable {P : Program} {w : World} {K : PySem.W.Frag} {mg : Str → Option Value} {base : Heap} {C : Addr}
theorem c_is_integer (T : Bl mg) (d : D0 K mg "is_integer" s_is_integer ["value"]) : Cal P w K mg base 1 "is_integer" spInt [] := by
  refine cal d sc_is_integer (fun vs H Q E h => ?_) (fun cdv A outer f s H vs Q E hr h => ?_)
  · obtain ⟨n, rfl, _⟩ := h
    rfl
  · obtain ⟨n, rfl, k⟩ := h
    refine ⟨_, (pss_one (ps_ret (pe_and (pe_callB call_isi (by rfl) T.isinstance (by decide +kernel) (pa_cons (pv 0) (pa_cons (pe_bltn (v := .ty "int") (by rfl) T.int (by decide +kernel) rfl) pa_nil))) (pe_one (pe_not (pe_callB call_isi (by rfl) T.isinstance (by decide +kernel) (pa_cons (pv 0) (pa_cons (pe_bltn (v := .ty "bool") (by rfl) T.bool (by decide +kernel) rfl) pa_nil)))))))), ?_⟩
    refine ⟨_, rfl, _, _, _, _, true, rfl, .ty _, .base (.int _), kit_ty (by decide +kernel), _, rfl, iteT ?_⟩
    exact ⟨_, rfl, _, _, _, _, false, rfl, .ty _, .base (.int _), kit_ty (by decide +kernel), _, rfl, k⟩
theorem c_check_field (c_is_integer : Cal P w K mg base 1 "is_integer" spInt []) (d : D0 K mg "check_field" s_check_field ["field", "value", "least", "most"]) : Cal P w K mg base 2 "check_field" spCheck [] := by
  refine cal d sc_check_field (fun vs H Q E h => ?_) (fun cdv A outer f s H vs Q E hr h => ?_)
  · obtain ⟨x, v, l, m, rfl, _⟩ := h
    rfl
  · obtain ⟨x, v, l, m, rfl, h1, h2, k⟩ := h
    refine ⟨_, (pss_one (ps_if (pt_not (PW.pt (pw_and (pt_val (pe_c c_is_integer hr (by decide) rfl (pa_cons (pv 1) pa_nil))) (pw_and1 (pt_chain op_le op_le (pv 2) (pv 1) (pv 3)))))) (pss_one (ps_never)) pss_nil)), ?_⟩
    refine ⟨_, rfl, _, rfl, _, rfl, iteT ?_⟩
    refine ⟨_, rfl, _, rfl, _, _, rfl, rfl, _, rfl, ?_⟩
    rw [if_pos (decide_eq_true h1)]
    refine ⟨_, rfl, _, _, rfl, rfl, _, rfl, ?_⟩
    rw [decide_eq_true h2]
    exact k
theorem f_init (ST : T_Setting K mg C) {f : Addr} {fd : FuncData} (F : FunD K "__init__" "Setting.__init__" (C8.fnArgs s_Setting__init) (C8.fnBody s_Setting__init) (C8.fnScope s_Setting__init) [] [("grace", .int 6), ("helpers", .int 1)] f fd) (c_check_field : Cal P w K mg base 2 "check_field" spCheck []) : FnOk P w K mg base C8.CX0 3 f fd ["self", "bits", "patience", "room", "grace", "helpers"] (spInit C) := by
  refine F.ok (N := n_Setting__init) sc_Setting__init (fun vs H Q E h => ?_) (fun cdv A outer s H vs Q E hr h => ?_)
  · obtain ⟨q, dx, n, p, r, g, h, rfl, _⟩ := h
    rfl
  · obtain ⟨q, dx, n, p, r, g, h, rfl, hq, a1, a2, a3, a4, a5, a6, a7, a8, a9, a10, k⟩ := h
    obtain ⟨u1, k1⟩ := ST.k_MOST_BITS
    obtain ⟨u2, k2⟩ := ST.k_MOST_PATIENCE
    obtain ⟨u3, k3⟩ := ST.k_MOST_ROOM
    obtain ⟨u4, k4⟩ := ST.k_MOST_GRACE
    obtain ⟨u5, k5⟩ := ST.k_MOST_HELPERS
    refine ⟨_, PSs.nox (pss_cons (ps_expr (pe_c c_check_field hr (by decide) rfl (pa_cons pe_str (pa_cons (pv 1) (pa_cons pe_int (pa_cons (pe_con (pv 0) rfl) pa_nil))))))
      (pss_cons (ps_expr (pe_c c_check_field hr (by decide) rfl (pa_cons pe_str (pa_cons (pv 2) (pa_cons pe_int (pa_cons (pe_con (pv 0) rfl) pa_nil))))))
      (pss_cons (ps_expr (pe_c c_check_field hr (by decide) rfl (pa_cons pe_str (pa_cons (pv 3) (pa_cons pe_int (pa_cons (pe_con (pv 0) rfl) pa_nil))))))
      (pss_cons (ps_expr (pe_c c_check_field hr (by decide) rfl (pa_cons pe_str (pa_cons (pv 4) (pa_cons pe_int (pa_cons (pe_con (pv 0) rfl) pa_nil))))))
      (pss_cons (ps_expr (pe_c c_check_field hr (by decide) rfl (pa_cons pe_str (pa_cons (pv 5) (pa_cons pe_int (pa_cons (pe_con (pv 0) rfl) pa_nil))))))
      (pss_cons (ps_fld (pv 0) (pv 1) rfl)
      (pss_cons (ps_fld (pv 0) (pv 2) rfl)
      (pss_cons (ps_fld (pv 0) (pv 3) rfl)
      (pss_cons (ps_fld (pv 0) (pv 4) rfl)
      (pss_one (ps_fld (pv 0) (pv 5) rfl))))))))))), ?_⟩
    refine ⟨_, rfl, _, rfl, q, C, dx, [], _, u1, rfl, hq, ST.cl, k1, rfl, _, _, _, _, rfl, a1, a2, ?_⟩
    refine ⟨_, rfl, _, rfl, q, C, dx, [], _, u2, rfl, hq, ST.cl, k2, rfl, _, _, _, _, rfl, a3, a4, ?_⟩
    refine ⟨_, rfl, _, rfl, q, C, dx, [], _, u3, rfl, hq, ST.cl, k3, rfl, _, _, _, _, rfl, a5, a6, ?_⟩
    refine ⟨_, rfl, _, rfl, q, C, dx, [], _, u4, rfl, hq, ST.cl, k4, rfl, _, _, _, _, rfl, a7, a8, ?_⟩
    refine ⟨_, rfl, _, rfl, q, C, dx, [], _, u5, rfl, hq, ST.cl, k5, rfl, _, _, _, _, rfl, a9, a10, ?_⟩
    have e5 := fs5_puts (n := n) (p := p) (r := r) (g := g) (h := h)
    refine ⟨_, rfl, _, rfl, q, C, dx, [], rfl, hq, ST.cl, ST.n_bits, by show 0 < 1000; decide, ?_⟩
    generalize e1 : putF ("bits" : Str) (V.int n) [] = f1
    refine ⟨_, rfl, _, rfl, q, C, dx, f1, rfl, upd_same, ST.cl, ST.n_patience, by subst e1; show 1 < 1000; decide, ?_⟩
    generalize e2 : putF ("patience" : Str) (V.int p) f1 = f2
    have l1 : f1.length ≤ 1 := by subst e1; exact putF_len _ _ _
    have l2 : f2.length ≤ 2 := by subst e2; exact Nat.le_trans (putF_len _ _ _) (by omega)
    refine ⟨_, rfl, _, rfl, q, C, dx, f2, rfl, upd_same, ST.cl, ST.n_room, by omega, ?_⟩
    generalize e3 : putF ("room" : Str) (V.int r) f2 = f3
    have l3 : f3.length ≤ 3 := by subst e3; exact Nat.le_trans (putF_len _ _ _) (by omega)
    refine ⟨_, rfl, _, rfl, q, C, dx, f3, rfl, upd_same, ST.cl, ST.n_grace, by omega, ?_⟩
    generalize e4 : putF ("grace" : Str) (V.int g) f3 = f4
    have l4 : f4.length ≤ 4 := by subst e4; exact Nat.le_trans (putF_len _ _ _) (by omega)
    refine ⟨_, rfl, _, rfl, q, C, dx, f4, rfl, upd_same, ST.cl, ST.n_helpers, by omega, ?_⟩
    rw [e1, e2, e3, e4] at e5
    rw [e5]
    exact k _ ⟨dx, upd_same⟩ ((((((Fr.refl [q] H).upd (.head _) (.ins hq) _).upd (.head _) (.ins upd_same) _).upd (.head _) (.ins upd_same) _).upd (.head _) (.ins upd_same) _).upd (.head _) (.ins upd_same) _)
/-- Setting(bits, patience, room) -/
theorem c_Setting (ST : T_Setting K mg C) (c_check_field : Cal P w K mg base 2 "check_field" spCheck []) : Mak P w K mg base 3 "Setting" C (spInit C) [.int 6, .int 1] := by
  obtain ⟨f, fd, M, F⟩ := ST.ini
  obtain ⟨ds, r, b⟩ := F.binds0 (ps := ["self", "bits", "patience", "room", "grace", "helpers"]) 4 (by decide) rfl (fun D doc pm an cdv ct us ks hl hk => match us, hl, ks, hk with
      | [_, _, _, _], _, [_, _], _ => ⟨_, _, _, _, _, _, rfl, rfl, ⟨_, _, _, _, _, _, rfl, rfl, rfl⟩⟩)
  exact ⟨f, fd, _, ds, M, f_init ST F c_check_field, ST.mgC, b, r⟩
/-- what the making of a setting promises, between two heaps -/
theorem set_made {H : Hp} {x dx : Addr} {n p r g h : Int} {R : Hp → Prop} {E : XK} (nx : H x = none) (ndx : H dx = none) (ne : dx ≠ x) (a1 : 1 ≤ n) (a2 : n ≤ 8) (a3 : 1 ≤ p) (a4 : p ≤ 6) (a5 : 1 ≤ r) (a6 : r ≤ 64) (a7 : 1 ≤ g) (a8 : g ≤ 200) (a9 : 0 ≤ h) (a10 : h ≤ 3)
    (k : ∀ H' : Hp, Fr [] H H' → SetO C H' x n p r g h → R H') :
    spInit C [.ref x, .int n, .int p, .int r, .int g, .int h] (upd (upd H dx (.own x)) x (.ins C dx [])) (fun v H3 => v = .non ∧ R H3) E := by
  have nx' : upd H dx (.own x) x = none := by rw [upd_ne ne.symm]; exact nx
  refine ⟨x, dx, n, p, r, g, h, rfl, upd_same, a1, a2, a3, a4, a5, a6, a7, a8, a9, a10, fun H3 hs hk => ⟨rfl, k H3 ?_ hs⟩⟩
  exact (((Fr.refl [] H).new ndx _).new nx' _).tail hk fun a m => by rw [List.mem_singleton.mp m]; exact .inr (.of nx)
end
end K29

set_option Elab.async false
set_option maxRecDepth 100000
set_option maxHeartbeats 4000000
set_option exponentiation.threshold 4096
/-! the ring: seats, distance -/
namespace K29
open PySem PySem.Spec PyProof.Rows L2 C8 LamX UF
/-- a setting of n bits at q -/
def SetN (C : Addr) (H : Hp) (q : Addr) (n : Nat) : Prop := ∃ p r g h : Int, SetO C H q (n : Int) p r g h
theorem SetN.fr {C : Addr} {H H' : Hp} {q : Addr} {n : Nat} {ds : List Addr} (s : SetN C H q n) (x : Fr ds H H') (m : q ∉ ds) : SetN C H' q n := by
  obtain ⟨p, r, g, h, z⟩ := s
  exact ⟨p, r, g, h, z.fr x m⟩
theorem SetN.fw {C : Addr} {H H' : Hp} {q : Addr} {n : Nat} {ds : List Addr} (s : SetN C H q n) (x : Fw ds H H') (m : q ∉ ds) : SetN C H' q n := by
  obtain ⟨p, r, g, h, z⟩ := s
  exact ⟨p, r, g, h, z.fw x m⟩
def spSeats (C : Addr) : Sp := fun vs H Q _ => ∃ (q : Addr) (n : Nat), vs = [.ref q] ∧ SetN C H q n ∧ n ≤ 8 ∧ Q (.int (ringN n)) H
def spDist (C : Addr) : Sp := fun vs H Q _ => ∃ (q : Addr) (a b : Int) (n : Nat), vs = [.ref q, .int a, .int b] ∧ SetN C H q n ∧ n ≤ 8 ∧ Q (.int ((b - a) % ringN n)) H
section
variable {P : Program} {w : World} {K : PySem.W.Frag} {mg : Str → Option Value} {base : Heap} {C : Addr}
theorem p_seats (ST : T_Setting K mg C) : Prp P w K mg base 1 C "seats" (spSeats C) := by
  refine prp ST.p_seats ST.cl sc_Setting_seats (fun vs H Q E h => ?_) (fun cdv A outer f s H vs Q E hr h => ?_)
  · obtain ⟨q, n, rfl, _⟩ := h
    rfl
  · obtain ⟨q, n, rfl, ⟨p, r, g, h, dx, e⟩, hn, k⟩ := h
    refine ⟨_, (pss_one (ps_ret (pe_op op_shl pe_int (pe_fld (pv 0) rfl)))), ?_⟩
    refine ⟨_, rfl, q, C, dx, _, _, rfl, e, ST.cl, ST.n_bits, fs5_bits, _, _, rfl, rfl, ⟨by omega, by omega, by decide⟩, ?_⟩
    show Q (.int (1 * 2 ^ ((n : Int)).toNat)) H
    rw [shl_eq]
    exact k
end
end K29

set_option Elab.async false
set_option maxRecDepth 100000
set_option maxHeartbeats 4000000
set_option exponentiation.threshold 4096
set_option linter.unusedVariables false
/-! words and sayings, good ones -/
namespace K29
open PySem PySem.Spec PyProof.Rows L2 C8 LamX UF
def rSg : R2 := fun x y H Q => ∃ (c : Nat) (z : Str), x = .str ⟨#[c]⟩ ∧ y = .str z ∧ Q (.bl (decide (c ∈ z.cps.toList))) H
theorem op_in_sg {X : Cx} : OpR X (compareOp .In) rSg := op_in_sign
def SayAt (H : Hp) (a : Addr) (s : Say) : Prop := H a = some (.tup s.vs)
def spBelow : Sp := fun vs H Q _ => ∃ n l : Int, vs = [.int n, .int l] ∧ 0 ≤ n ∧ n < l ∧ Q (.bl true) H
def spPlain : Sp := fun vs H Q _ => ∃ (w : Str) (m : Int), vs = [.str w, .int m] ∧ (w.length : Int) ≤ m ∧ w.length ≤ 1000 ∧ Plain w ∧ ∀ H' : Hp, Fr [] H H' → Q (.bl true) H'
def spWorthP : Sp := fun vs H Q _ => ∃ (w : Str), vs = [.str w] ∧ w.length ≤ 12 ∧ Plain w ∧ ∀ H' : Hp, Fr [] H H' → Q (.bl true) H'
def spIsSay (CS : Addr) : Sp := fun vs H Q _ => ∃ (x a : Addr) (n : Nat) (s : Say), vs = [.ref x, .ref a] ∧ SetN CS H x n ∧ n ≤ 8 ∧ SayAt H a s ∧ s.Ok (ringN n) ∧ ∀ H' : Hp, Fr [] H H' → Q (.bl true) H'
def spChkSay (CS : Addr) : Sp := fun vs H Q _ => ∃ (x a : Addr) (n : Nat) (s : Say), vs = [.ref x, .ref a] ∧ SetN CS H x n ∧ n ≤ 8 ∧ SayAt H a s ∧ s.Ok (ringN n) ∧ ∀ H' : Hp, Fr [] H H' → Q (.ref a) H'
def oSay (H : Hp) (v : V) (o : Option Say) : Prop := match o with
  | none => v = .non
  | some s => ∃ a, v = .ref a ∧ SayAt H a s
def spRankP : Sp := fun vs H Q _ => ∃ (v : V) (o : Option Say), vs = [v] ∧ oSay H v o ∧ (∀ s, o = some s → s.mark ∈ marksL) ∧ Q (.int (rankO o)) H
section
variable {P : Program} {w : World} {K : PySem.W.Frag} {mg : Str → Option Value} {base : Heap} {CS : Addr}
theorem c_is_below (c_is_integer : Cal P w K mg base 1 "is_integer" spInt []) (d : D0 K mg "is_below" s_is_below ["value", "limit"]) : Cal P w K mg base 2 "is_below" spBelow [] := by
  refine cal d sc_is_below (fun vs H Q E h => ?_) (fun cdv A outer f s0 H vs Q E hr h => ?_)
  · obtain ⟨n, l, rfl, _⟩ := h
    rfl
  · obtain ⟨n, l, rfl, h1, h2, k⟩ := h
    refine ⟨_, (pss_one (ps_ret (pe_and (pe_c c_is_integer hr (by decide) rfl (pa_cons (pv 0) pa_nil)) (pe_one (pe_chain op_le op_lt pe_int (pv 0) (pv 1)))))), ?_⟩
    refine ⟨_, rfl, _, rfl, _, rfl, iteT ?_⟩
    refine ⟨_, rfl, _, _, rfl, rfl, _, rfl, ?_⟩
    rw [if_pos (decide_eq_true h1)]
    refine ⟨_, rfl, _, _, rfl, rfl, ?_⟩
    show Q (.bl (decide (n < l))) H
    rw [decide_eq_true h2]
    exact k
theorem c_is_plain (T : Bl mg) (g_PLAIN_SIGNS : GcP mg "PLAIN_SIGNS" (.str plainS)) (d : D0 K mg "is_plain" s_is_plain ["value", "most"]) : Cal P w K mg base 1 "is_plain" spPlain [] := by
  refine cal d sc_is_plain (fun vs H Q E h => ?_) (fun cdv A outer f s0 H vs Q E hr h => ?_)
  · obtain ⟨x, m, rfl, _⟩ := h
    rfl
  · obtain ⟨x, m, rfl, h1, hl, hp, k⟩ := h
    refine ⟨_, (pss_cons (ps_if (pt_not (PW.pt (pw_and (pt_val (pe_callB call_isi (by rfl) T.isinstance (by decide +kernel) (pa_cons (pv 0) (pa_cons (pe_bltn (v := .ty "str") (by rfl) T.str (by decide +kernel) rfl) pa_nil)))) (pw_and1 (pt_cmpR op_le (pe_callB call_len_str (by rfl) T.len (by decide +kernel) (pa_cons (pv 0) pa_nil)) (pv 1) (nomark _)))))) (pss_one (ps_ret pe_bl)) pss_nil)
      (pss_one (ps_ret (pe_callB (cr_all rfl) (by rfl) T.all (by decide +kernel) (pa_cons (pe_lc (own := [("sign", 2)]) (g := gName 2) (tt := tYes) (by rfl) sc_is_plain.nd (pi_str (pv 0)) (blkOk_by (own := [("sign", 2)]) (N := n_is_plain) (sc := C8.fnScope s_is_plain) (by decide +kernel)) (fun _ _ _ _ _ => pg_name (i := 2) sc_is_plain.nd rfl (Or.inl rfl)) (fun _ _ _ _ _ => pts_nil) (fun _ _ _ _ _ => (pe_cmpR (show OpR _ (compareOp .In) rSg from op_in_sg) (pv 2) (pe_gc (by rfl) g_PLAIN_SIGNS) (by with_unfolding_all rfl)))) pa_nil))))), ?_⟩
    refine ⟨_, rfl, _, _, _, _, true, rfl, .ty _, .base (.str _), kit_ty (by decide +kernel), _, rfl, iteT ?_⟩
    refine ⟨_, rfl, x, rfl, Nat.le_of_lt (small1000' hl), _, rfl, _, _, rfl, rfl, _, rfl, ?_⟩
    rw [decide_eq_true h1]
    refine iteF ⟨_, rfl, x, rfl, fun D nD => ?_⟩
    refine lc_it walk_str (fun j H' => Fr [] H H' ∧ H' D = some (.lst ((List.replicate j true).map V.bl))) ⟨Fr.new0 nD _, upd_same⟩ (fun j H' _ pv => trivial) (fun j v H1 H2 hj pv hv => ?_) (fun H' pv => ?_)
    · obtain ⟨X1, hD⟩ := pv
      obtain ⟨rfl, c, ec, rfl⟩ := hv
      have cm : c ∈ x.cps.toList := by
        rw [← Array.getElem?_toList] at ec
        exact List.mem_of_getElem? ec
      have jl : j < x.length := hj
      refine ⟨rfl, _, rfl, c, plainS, rfl, rfl, _, hD, by rw [List.length_map, List.length_replicate]; exact small1000' (by omega), X1.late (.of nD) (.lst hD) _, ?_⟩
      rw [upd_same, decide_eq_true (hp c cm), List.replicate_succ', List.map_append]
      rfl
    · obtain ⟨X, hD⟩ := pv
      refine ⟨D, List.replicate x.cps.size true, rfl, SqL.of hD, ?_⟩
      rw [show (List.replicate x.cps.size true).all id = true from List.all_eq_true.mpr fun b m => (List.mem_replicate.mp m).2]
      exact k _ X
theorem c_is_worth (c_is_plain : Cal P w K mg base 1 "is_plain" spPlain []) (g_MOST_WORTH : GcP mg "MOST_WORTH" (.int 12)) (d : D0 K mg "is_worth" s_is_worth ["value"]) : Cal P w K mg base 2 "is_worth" spWorthP [] := by
  refine cal d sc_is_worth (fun vs H Q E h => ?_) (fun cdv A outer f s0 H vs Q E hr h => ?_)
  · obtain ⟨x, rfl, _⟩ := h
    rfl
  · obtain ⟨x, rfl, h1, hp, k⟩ := h
    refine ⟨_, (pss_one (ps_ret (pe_c c_is_plain hr (by decide) rfl (pa_cons (pv 0) (pa_cons (pe_gc (by rfl) g_MOST_WORTH) pa_nil))))), ?_⟩
    exact ⟨_, rfl, x, 12, rfl, by omega, by omega, hp, fun H' X => k H' X⟩
theorem inV_mark {m : Str} (h : m ∈ marksL) : inV (.str m) (marksL.map V.str) = true := by
  unfold marksL at h
  simp only [List.mem_cons, List.not_mem_nil, or_false] at h
  rcases h with rfl | rfl | rfl | rfl <;> decide +kernel
theorem c_is_saying (T : Bl mg) (p_seats : Prp P w K mg base 1 CS "seats" (spSeats CS)) (c_is_below : Cal P w K mg base 2 "is_below" spBelow []) (c_is_worth : Cal P w K mg base 2 "is_worth" spWorthP []) (tMARKS : TupP K mg "MARKS" [.str "alive", .str "suspect", .str "dead", .str "left"]) (d : D0 K mg "is_saying" s_is_saying ["setting", "value"]) : Cal P w K mg base 3 "is_saying" (spIsSay CS) [] := by
  obtain ⟨ma, gm, hm⟩ := tMARKS
  have g_MARKS : GcP mg "MARKS" (.ref ma) := ⟨_, gm, rfl⟩
  refine cal d sc_is_saying (fun vs H Q E h => ?_) (fun cdv A outer f s0 H vs Q E hr h => ?_)
  · obtain ⟨x, a, n, s, rfl, _⟩ := h
    rfl
  · obtain ⟨x, a, n, s, rfl, hx, n8, ha, so, k⟩ := h
    refine ⟨_, (pss_cons (ps_if (pt_not (PW.pt (pw_and (pt_val (pe_callB call_isi (by rfl) T.isinstance (by decide +kernel) (pa_cons (pv 1) (pa_cons (pe_bltn (v := .ty "tuple") (by rfl) T.tuple (by decide +kernel) rfl) pa_nil)))) (pw_and1 (pt_cmpR op_eq (pe_callB call_len_seq (by rfl) T.len (by decide +kernel) (pa_cons (pv 1) pa_nil)) pe_int (nomark _)))))) (pss_one (ps_ret pe_bl)) pss_nil)
      (pss_cons (ps_asg (pv 1) (pg_tup rfl (pgs_cons (pg_name (i := 2) sc_is_saying.nd rfl (Or.inl rfl)) (pgs_cons (pg_name (i := 3) sc_is_saying.nd rfl (Or.inl rfl)) (pgs_cons (pg_name (i := 4) sc_is_saying.nd rfl (Or.inl rfl)) (pgs_cons (pg_name (i := 5) sc_is_saying.nd rfl (Or.inl rfl)) pgs_nil))))))
      (pss_cons (ps_if (pt_not (PW.pt (pw_and (pt_val (pe_c c_is_below hr (by decide) rfl (pa_cons (pv 2) (pa_cons (pe_pr p_seats hr (by decide) (pv 0)) pa_nil)))) (pw_and1 (pt_val (pe_c c_is_below hr (by decide) rfl (pa_cons (pv 3) (pa_cons (pe_op op_pow pe_int pe_int) pa_nil)))))))) (pss_one (ps_ret pe_bl)) pss_nil)
      (pss_one (ps_ret (pe_and (pe_cmpR (show OpR _ (compareOp .In) (rIn K false) from op_in_seq) (pv 4) (pe_gc (by rfl) g_MARKS) (by with_unfolding_all rfl)) (pe_one (pe_c c_is_worth hr (by decide) rfl (pa_cons (pv 5) pa_nil))))))))), ?_⟩
    obtain ⟨p, r, g, hh, dx, e⟩ := id hx
    refine ⟨_, rfl, _, _, _, _, true, rfl, .ty _, .base (.tup ha), kit_ty (by decide +kernel), _, rfl, iteT ?_⟩
    refine ⟨_, rfl, _, _, rfl, .inr (SqT.of ha), rfl, _, rfl, iteF ?_⟩
    refine ⟨_, rfl, a, _, rfl, SqT.of ha, rfl, _, _, rfl, _, _, rfl, _, _, rfl, _, _, rfl, rfl, ?_⟩
    refine ⟨_, rfl, _, rfl, x, dx, _, rfl, e, x, n, rfl, hx, n8, s.seat, ringN n, rfl, so.s0, so.s1, _, rfl, iteT ?_⟩
    refine ⟨_, rfl, _, _, rfl, rfl, ⟨by decide, by decide, by decide⟩, s.life, _, rfl, so.l0, so.l1, _, rfl, iteF ?_⟩
    refine ⟨_, rfl, ma, _, rfl, .inr (hm H), rfl, rfl, _, rfl, ?_⟩
    rw [show inV (V.str s.mark) [V.str "alive", V.str "suspect", V.str "dead", V.str "left"] = true from inV_mark so.m]
    exact ⟨_, rfl, s.worth, rfl, so.w, so.p, k⟩
theorem c_check_saying (c_is_saying : Cal P w K mg base 3 "is_saying" (spIsSay CS) []) (d : D0 K mg "check_saying" s_check_saying ["setting", "saying"]) : Cal P w K mg base 4 "check_saying" (spChkSay CS) [] := by
  refine cal d sc_check_saying (fun vs H Q E h => ?_) (fun cdv A outer f s0 H vs Q E hr h => ?_)
  · obtain ⟨x, a, n, s, rfl, _⟩ := h
    rfl
  · obtain ⟨x, a, n, s, rfl, hx, n8, ha, so, k⟩ := h
    refine ⟨_, (pss_cons (ps_if (pt_not (pt_val (pe_c c_is_saying hr (by decide) rfl (pa_cons (pv 0) (pa_cons (pv 1) pa_nil))))) (pss_one (ps_never)) pss_nil)
      (pss_one (ps_ret (pv 1)))), ?_⟩
    exact ⟨_, rfl, _, rfl, x, a, n, s, rfl, hx, n8, ha, so, fun H' X => ⟨_, rfl, iteF ⟨_, rfl, k H' X⟩⟩⟩
theorem c_rank (R : RanksP K w mg "MARK_RANKS") (d : D0 K mg "rank" s_rank ["saying"]) : Cal P w K mg base 1 "rank" spRankP [] := by
  obtain ⟨rp, gr, r1, r2, r3, r4⟩ := R
  have g_MARK_RANKS : GcP mg "MARK_RANKS" (.ref rp) := ⟨_, gr, rfl⟩
  refine cal d sc_rank (fun vs H Q E h => ?_) (fun cdv A outer f s0 H vs Q E hr h => ?_)
  · obtain ⟨v, o, rfl, _⟩ := h
    rfl
  · obtain ⟨v, o, rfl, ho, hm, k⟩ := h
    refine ⟨_, (pss_cons (ps_if (pt_cmp (pc_isN (pv 0))) (pss_one (ps_ret pe_int)) pss_nil)
      (pss_one (ps_ret (pe_op op_add (pe_op op_mul pe_int (pe_ix ix_tup (pv 0) pe_int (fun _ _ => rfl))) (pe_ix (show IxR _ (rIxD K w) from ix_kdict) (pe_gc (by rfl) g_MARK_RANKS) (pe_ix ix_tup (pv 0) pe_int (fun _ _ => rfl)) (fun _ _ => rfl)))))), ?_⟩
    cases o with
    | none =>
      have ho : v = .non := ho
      subst ho
      exact ⟨_, rfl, _, rfl, iteT k⟩
    | some s =>
      obtain ⟨a, rfl, ha⟩ := ho
      have sm := hm s rfl
      refine ⟨_, rfl, _, rfl, iteF ?_⟩
      refine ⟨_, rfl, _, _, _, _, rfl, rfl, SqT.of ha, rfl, _, _, rfl, rfl, .inl ⟨by decide, by decide⟩, ?_⟩
      refine ⟨_, rfl, _, _, _, _, rfl, rfl, SqT.of ha, rfl, rp, s.mark, .int ((markN s.mark : Int) + 1), rfl, rfl, ?_, ?_⟩
      · unfold marksL at sm
        simp only [List.mem_cons, List.not_mem_nil, or_false] at sm
        rcases sm with e | e | e | e <;> rw [e]
        · exact r1
        · exact r2
        · exact r3
        · exact r4
      · refine ⟨_, _, rfl, rfl, ?_⟩
        have : rankO (some s) = 4 * s.life + ((markN s.mark : Int) + 1) := by
          show rankI s = _
          unfold rankI
          omega
        rw [this] at k
        exact k
end
end K29

set_option Elab.async false
set_option maxRecDepth 100000
set_option maxHeartbeats 4000000
set_option linter.unusedVariables false
/-! how news spreads: one round, whatever the order in which the callers are taken -/
namespace UF
open PySem PySem.Spec PyProof.Rows L2 C8 LamX
def mayF (sp : Int → Int) (most : Option Int) (c : Int) : Bool := match most with
  | none => true
  | some m => decide (sp c < m)
/-- whom c tells in a round, if anybody -/
def callF (goal : Int → Option Int) (tm : Int → Option Int) (sp : Int → Int) (most : Option Int) (c : Int) : Option Int :=
  if (tm c).isSome = true ∧ mayF sp most c = true then goal c else none
/-- who comes to know it -/
def newF (goal : Int → Option Int) (tm : Int → Option Int) (sp : Int → Int) (most : Option Int) (hs lost : List Int) : List Int :=
  hs.filter fun s => (tm s).isNone && hs.any fun c => decide (callF goal tm sp most c = some s) && !decide (c ∈ lost)
def tmS (new : List Int) (r : Int) (tm : Int → Option Int) : Int → Option Int := fun s => if s ∈ new then some r else tm s
def spS (goal : Int → Option Int) (tm : Int → Option Int) (sp : Int → Int) (most : Option Int) : Int → Int := fun c => if (callF goal tm sp most c).isSome = true then sp c + 1 else sp c
section
variable {goal : Int → Option Int} {tm : Int → Option Int} {sp : Int → Int} {most : Option Int} {hs lost : List Int}
theorem mem_newF {s : Int} : s ∈ newF goal tm sp most hs lost ↔ s ∈ hs ∧ tm s = none ∧ ∃ c ∈ hs, callF goal tm sp most c = some s ∧ c ∉ lost := by
  unfold newF
  rw [List.mem_filter, Bool.and_eq_true, List.any_eq_true, Option.isNone_iff_eq_none]
  constructor
  · rintro ⟨h, h1, c, hc, h2⟩
    rw [Bool.and_eq_true] at h2
    refine ⟨h, h1, c, hc, of_decide_eq_true h2.1, fun z => ?_⟩
    rw [decide_eq_true z] at h2
    exact absurd h2.2 (by decide)
  · rintro ⟨h, h1, c, hc, h2, h3⟩
    refine ⟨h, h1, c, hc, ?_⟩
    rw [decide_eq_true h2, decide_eq_false h3]
    rfl
theorem newF_nodup (nd : hs.Nodup) : (newF goal tm sp most hs lost).Nodup := nd.filter _
theorem newF_sorted (so : hs.Pairwise (· ≤ ·)) : (newF goal tm sp most hs lost).Pairwise (· ≤ ·) := so.filter _
theorem sorted_eq : ∀ {a b : List Int}, a.Pairwise (· ≤ ·) → b.Pairwise (· ≤ ·) → a.Perm b → a = b
  | [], b, _, _, p => (List.Perm.nil_eq p)
  | x :: a, b, ha, hb, p => by
    cases b with
    | nil => exact absurd p.length_eq (by simp)
    | cons y b =>
      have e : x = y := by
        have h1 := List.pairwise_cons.mp ha
        have h2 := List.pairwise_cons.mp hb
        have m1 : x ∈ y :: b := p.mem_iff.mp (.head _)
        have m2 : y ∈ x :: a := p.mem_iff.mpr (.head _)
        rcases List.mem_cons.mp m1 with e | m1
        · exact e
        · rcases List.mem_cons.mp m2 with e | m2
          · exact e.symm
          · have := h1.1 y m2
            have := h2.1 x m1
            omega
      subst e
      rw [sorted_eq (List.pairwise_cons.mp ha).2 (List.pairwise_cons.mp hb).2 (List.Perm.cons_inv p)]
/-- two lists without repeats with the same items -/
theorem perm_of_mem {a b : List Int} (na : a.Nodup) (nb : b.Nodup) (h : ∀ x, x ∈ a ↔ x ∈ b) : a.Perm b := (List.perm_ext_iff_of_nodup na nb).mpr h
theorem sorted_same {a b : List Int} (sa : a.Pairwise (· ≤ ·)) (sb : b.Pairwise (· ≤ ·)) (na : a.Nodup) (nb : b.Nodup) (h : ∀ x, x ∈ a ↔ x ∈ b) : a = b := sorted_eq sa sb (perm_of_mem na nb h)
theorem newF_perm {ks : List Int} (p : hs.Perm ks) (x : Int) : x ∈ newF goal tm sp most hs lost ↔ x ∈ newF goal tm sp most ks lost := by
  rw [mem_newF, mem_newF, p.mem_iff]
  exact ⟨fun ⟨a, b, c, hc, d⟩ => ⟨a, b, c, p.mem_iff.mp hc, d⟩, fun ⟨a, b, c, hc, d⟩ => ⟨a, b, c, p.mem_iff.mpr hc, d⟩⟩
end
/-- the dict of moments -/
def kvM (kn : List Int) (tm : Int → Option Int) : List (Key × V) := kn.map fun s => (.inl s, match tm s with
  | some v => V.int v
  | none => .non)
theorem kvM_val {kn : List Int} {tm : Int → Option Int} (h : ∀ s, s ∈ kn ↔ (tm s).isSome = true) (s : Int) : valV (kvM kn tm) (.inl s) = (tm s).map V.int := by
  have go : ∀ l : List Int, (∀ x ∈ l, (tm x).isSome = true) → valV (kvM l tm) (.inl s) = if s ∈ l then (tm s).map V.int else none := by
    intro l
    induction l with
    | nil => intro _; rfl
    | cons x l ih =>
      intro hx
      unfold kvM
      rw [List.map_cons]
      by_cases e : x = s
      · subst e
        rw [valV_pos rfl, if_pos (.head _)]
        have := hx x (.head _)
        cases q : tm x with
        | none => rw [q] at this; cases this
        | some v => rfl
      · rw [valV_neg (fun z => e (Sum.inl.inj z))]
        have := ih fun y m => hx y (.tail _ m)
        unfold kvM at this
        rw [this]
        by_cases m : s ∈ l
        · rw [if_pos m, if_pos (.tail _ m)]
        · rw [if_neg m, if_neg fun z => (List.mem_cons.mp z).elim (fun q => e q.symm) m]
  rw [go kn fun x m => (h x).mp m]
  by_cases m : s ∈ kn
  · rw [if_pos m]
  · rw [if_neg m]
    cases q : tm s with
    | none => rfl
    | some v => exact absurd ((h s).mpr (by rw [q]; rfl)) m
theorem kvM_len (kn : List Int) (tm : Int → Option Int) : (kvM kn tm).length = kn.length := List.length_map ..
theorem kvM_keys (kn : List Int) (tm : Int → Option Int) : (kvM kn tm).map (·.1) = kn.map Sum.inl := by
  unfold kvM
  rw [List.map_map]
  rfl
theorem kvM_congr {kn : List Int} {tm tm' : Int → Option Int} (h : ∀ s ∈ kn, tm s = tm' s) : kvM kn tm = kvM kn tm' := by
  unfold kvM
  exact List.map_congr_left fun s m => by rw [h s m]
/-- a new moment goes to the end -/
theorem kvM_put {kn : List Int} {tm : Int → Option Int} (h : ∀ s, s ∈ kn ↔ (tm s).isSome = true) {s r : Int} (n : s ∉ kn) : putK (kvM kn tm) (.inl s) (.int r) = kvM (kn ++ [s]) (fun x => if x = s then some r else tm x) := by
  unfold putK
  rw [valV_any, kvM_val h]
  have e : tm s = none := by
    cases q : tm s with
    | none => rfl
    | some v => exact absurd ((h s).mpr (by rw [q]; rfl)) n
  rw [e]
  simp only [Option.map_none, Option.isSome_none]
  rw [if_neg (by decide)]
  unfold kvM
  rw [List.map_append]
  congr 1
  · refine List.map_congr_left fun x m => ?_
    have : x ≠ s := fun z => n (by rw [← z]; exact m)
    simp only [this, if_false]
  · simp
end UF
namespace UF
open PySem PySem.Spec PyProof.Rows L2 C8 LamX
/-- a list or a tuple -/
def iSeq (K : PySem.W.Frag) (tl : TE) : TI := fun σ H R => tl σ H fun x H1 => ∃ a, x = .ref a ∧ (((∃ xs, SqL K H1 a xs) ∧ R (Itl K a) H1) ∨ ((∃ xs, SqT K H1 a xs) ∧ R (Itt K a) H1))
theorem pi_seq {X : Cx} {tg : Expr} {l : Expr} {tl : TE} (hl : PE X l tl) : PI X tg l (iSeq X.K tl) := by
  refine ⟨fun pins s σ H R I h => ?_⟩
  refine thn (hl.run pins s σ H _ I h) fun v s1 ⟨x, H1, I1, r1, q1⟩ => ?_
  obtain ⟨a, e, q1⟩ := q1
  subst e
  cases r1
  rcases q1 with ⟨⟨xs, hq⟩, q⟩ | ⟨⟨xs, hq⟩, q⟩
  · obtain ⟨its, rv, p, hz⟩ := I1.list hq
    refine wpAny_pyIter_list p.isList ?_
    refine ⟨s1.heap.objs.size, [s1.heap.objs.size], _, _, H1, rfl, I1.kept (t' := s1.toks) fun b o e => Heap.get?_push_of_some _ e, turn_list a _, ⟨_, Heap.get?_push_size _ rfl, rfl, rfl⟩, fun b hb => ?_, q⟩
    have e : b = s1.heap.objs.size := by simpa using hb
    subst e
    exact I1.fpOk (Nat.le_refl _) (I1.hok.fresh (Nat.le_refl _))
  · obtain ⟨its, rv, p, hz⟩ := I1.tuple hq
    refine wpAny_pyIter_tuple (show s1.heap.IsTuple a its.toArray from p) ?_
    refine ⟨s1.heap.objs.size, [s1.heap.objs.size], _, _, H1, rfl, I1.kept (t' := s1.toks) fun b o e => Heap.get?_push_of_some _ e, turn_tuple a _, ⟨_, Heap.get?_push_size _ rfl, rfl, rfl⟩, fun b hb => ?_, q⟩
    have e : b = s1.heap.objs.size := by simpa using hb
    subst e
    exact I1.fpOk (Nat.le_refl _) (I1.hok.fresh (Nat.le_refl _))
end UF
namespace UF
open PySem PySem.Spec PyProof.Rows L2 C8 LamX
/-- what was read locked is as before -/
theorem Fr.lock {ds : List Addr} {H H' : Hp} {d : Addr} {u : HO} {od : Obj} (h : H d = some u) (n1 : ∀ ps, u ≠ .tbl ps) (n2 : ∀ φ, u ≠ .ext φ) (X : Fr ds (L2.upd H d (.frz od u)) H') (m : d ∉ ds) : Fr ds H (L2.upd H' d u) := by
  have hd : H' d = some (.frz od u) := X.keep d _ upd_same m fun _ z => nomatch z
  have p1 : Pl H d := ⟨u, h, n1, n2⟩
  have p2 : Pl H' d := ⟨_, hd, (fun _ z => nomatch z), fun _ z => nomatch z⟩
  refine ⟨⟨fun a o ha n t => ?_, fun a h' => ?_⟩, fun T hT => tabs_put (X.tabs T (tabs_put hT p1 _)) p2 _⟩
  · by_cases e : a = d
    · subst e
      rw [upd_same]
      rw [h] at ha
      exact ha
    · rw [upd_ne e]
      exact X.keep a o (by rw [upd_ne e]; exact ha) n t
  · by_cases e : a = d
    · subst e
      obtain ⟨ps, z⟩ := h' u upd_same
      exact absurd z (n1 ps)
    · have q : Nw H' a := fun o ho => h' o (by rw [upd_ne e]; exact ho)
      exact fun o ho => X.live a q o (by rw [upd_ne e]; exact ho)
theorem Fr.lockK {ds : List Addr} {H H' : Hp} {d : Addr} {kv : List (Key × V)} {od : Obj} (h : H d = some (.dK kv)) (X : Fr ds (L2.upd H d (.frz od (.dK kv))) H') (m : d ∉ ds) : Fr ds H (L2.upd H' d (.dK kv)) := X.lock h (fun _ z => nomatch z) (fun _ z => nomatch z) m
end UF
namespace UF
open PySem PySem.Spec PyProof.Rows L2 C8 LamX
theorem snoc_ind {α : Type} {P : List α → Prop} (h0 : P []) (h1 : ∀ l x, P l → P (l ++ [x])) (l : List α) : P l := by
  have : ∀ l : List α, P l.reverse := by
    intro l
    induction l with
    | nil => exact h0
    | cons x l ih =>
      rw [List.reverse_cons]
      exact h1 _ _ ih
  have := this l.reverse
  rwa [List.reverse_reverse] at this
theorem putK_len {κ : Type} [DecidableEq κ] {kvs : List (κ × V)} {k : κ} {v w : V} (h : valV kvs k = some w) : (putK kvs k v).length = kvs.length := by
  unfold putK
  rw [valV_any, h]
  simp
theorem nd_nin {α : Type} {l : List α} (nd : l.Nodup) {j : Nat} {x : α} (e : l[j]? = some x) : x ∉ l.take j := fun m => by
  obtain ⟨i, hi⟩ := List.mem_iff_getElem?.mp m
  obtain ⟨jl, je⟩ := List.getElem?_eq_some_iff.mp e
  obtain ⟨il, ie⟩ := List.getElem?_eq_some_iff.mp hi
  rw [List.length_take] at il
  rw [List.getElem_take] at ie
  exact List.pairwise_iff_getElem.mp nd i j (by omega) jl (by omega) (ie.trans je.symm)
theorem dkv_keys (ks : List Int) : (dkv ks).map (·.1) = ks.map Sum.inl := by
  unfold dkv
  rw [List.map_map]
  rfl
end UF
namespace UF
open PySem PySem.Spec PyProof.Rows L2 C8 LamX
theorem sqL_fr {K : PySem.W.Frag} {H H' : Hp} {a : Addr} {xs : List V} {ds : List Addr} (h : SqL K H a xs) (X : Fr ds H H') (n : a ∉ ds) : SqL K H' a xs := by
  rcases h with (h | ⟨o, h⟩) | h
  · exact .inl (.inl (X.lst h n))
  · exact .inl (.inr ⟨o, X.keep a _ h n fun _ z => nomatch z⟩)
  · exact .inr h
theorem sqT_fr {K : PySem.W.Frag} {H H' : Hp} {a : Addr} {xs : List V} {ds : List Addr} (h : SqT K H a xs) (X : Fr ds H H') (n : a ∉ ds) : SqT K H' a xs := by
  rcases h with (h | ⟨o, h⟩) | h
  · exact .inl (.inl (X.tup h n))
  · exact .inl (.inr ⟨o, X.keep a _ h n fun _ z => nomatch z⟩)
  · exact .inr h
/-- a list or a tuple of whole numbers -/
def SqI (K : PySem.W.Frag) (H : Hp) (l : Addr) (ns : List Int) : Prop := SqL K H l (ns.map V.int) ∨ SqT K H l (ns.map V.int)
theorem SqI.fr {K : PySem.W.Frag} {H H' : Hp} {a : Addr} {ns : List Int} {ds : List Addr} (h : SqI K H a ns) (X : Fr ds H H') (n : a ∉ ds) : SqI K H' a ns := h.imp (fun z => sqL_fr z X n) (fun z => sqT_fr z X n)
end UF

set_option Elab.async false
set_option maxRecDepth 100000
set_option maxHeartbeats 4000000
set_option exponentiation.threshold 4096
set_option linter.unusedVariables false
/-! a book -/
namespace K29
open PySem PySem.Spec PyProof.Rows L2 C8 LamX UF
def fsB (x L : Addr) : List (Str × V) := [("setting", .ref x), ("_latest", .ref L)]
theorem fb_setting {x L : Addr} : (fsB x L).lookup ("setting" : Str) = some (.ref x) := by kernel_rfl
theorem fb_latest {x L : Addr} : (fsB x L).lookup ("_latest" : Str) = some (.ref L) := by kernel_rfl
theorem fb_of {x L : Addr} : (fsB x L).lookup ("of" : Str) = none := by kernel_rfl
theorem fb_held {x L : Addr} : (fsB x L).lookup ("held" : Str) = none := by kernel_rfl
theorem fb_rows {x L : Addr} : (fsB x L).lookup ("rows" : Str) = none := by kernel_rfl
theorem fb_take {x L : Addr} : (fsB x L).lookup ("take" : Str) = none := by kernel_rfl
theorem fb_puts {x L : Addr} : putF ("_latest" : Str) (V.ref L) (putF ("setting" : Str) (V.ref x) []) = fsB x L := by kernel_rfl
def BkO (CB : Addr) (H : Hp) (b x L : Addr) : Prop := ∃ dx, H b = some (.ins CB dx (fsB x L))
theorem BkO.fr {CB : Addr} {H H' : Hp} {b x L : Addr} {ds : List Addr} (h : BkO CB H b x L) (X : Fr ds H H') (n : b ∉ ds) : BkO CB H' b x L := by
  obtain ⟨dx, e⟩ := h
  exact ⟨dx, X.ins e n⟩
def MarksOk (ms : List (Int × Say)) : Prop := ∀ k s, lkA ms k = some s → s.mark ∈ marksL
/-- sayings at addresses -/
def SaysAt (H : Hp) (as : List Addr) (ss : List Say) : Prop := Paired (SayAt H) as ss
theorem paired_imp0 {α β : Type} {F G : α → β → Prop} {xs : List α} {ys : List β} (h : Paired F xs ys) (im : ∀ a b, F a b → G a b) : Paired G xs ys := by
  induction h with
  | nil => exact .nil
  | cons q t ih => exact .cons (im _ _ q) ih
theorem paired_snoc {α β : Type} {F : α → β → Prop} {xs : List α} {ys : List β} {x : α} {y : β} (h : Paired F xs ys) (q : F x y) : Paired F (xs ++ [x]) (ys ++ [y]) := by
  induction h with
  | nil => exact .cons q .nil
  | cons a t ih => exact .cons a ih
theorem SaysAt.fr {H H' : Hp} {as : List Addr} {ss : List Say} {ds : List Addr} (h : SaysAt H as ss) (X : Fr ds H H') (nt : ∀ a ∈ ds, ∀ vs, H a ≠ some (.tup vs)) : SaysAt H' as ss := paired_imp0 h fun a s e => X.tup e fun m => nt a m _ e
theorem SaysAt.fr0 {H H' : Hp} {as : List Addr} {ss : List Say} (h : SaysAt H as ss) (X : Fr [] H H') : SaysAt H' as ss := h.fr X fun a m => nomatch m
def spLatest (CS : Addr) : Sp := fun vs H Q _ => ∃ (x l : Addr) (n : Nat) (as : List Addr) (ss : List Say), vs = [.ref x, .ref l] ∧ SetN CS H x n ∧ n ≤ 8 ∧ H l = some (.lst (as.map V.ref)) ∧ SaysAt H as ss ∧ (∀ s ∈ ss, s.Ok (ringN n)) ∧ ss.length ≤ 10000 ∧
  ∀ (L : Addr) (H' : Hp), Nw H L → Fr [] H H' → TupD Say.vs H' L (latL ss) → Q (.ref L) H'
def spBook (CB CS : Addr) : Sp := fun vs H Q _ => ∃ (b dx x l : Addr) (n : Nat) (as : List Addr) (ss : List Say), vs = [.ref b, .ref x, .ref l] ∧ H b = some (.ins CB dx []) ∧ SetN CS H x n ∧ n ≤ 8 ∧ H l = some (.lst (as.map V.ref)) ∧ SaysAt H as ss ∧ (∀ s ∈ ss, s.Ok (ringN n)) ∧ ss.length ≤ 10000 ∧
  ∀ (L : Addr) (H' : Hp), Nw H L → Fr [b] H H' → BkO CB H' b x L → TupD Say.vs H' L (latL ss) → Q .non H'
def spOf (CB : Addr) : Sp := fun vs H Q _ => ∃ (b x L : Addr) (k : Int) (ms : List (Int × Say)), vs = [.ref b, .int k] ∧ BkO CB H b x L ∧ TupD Say.vs H L ms ∧ ∀ v, oSay H v (lkA ms k) → Q v H
def spTake (CB CS : Addr) : Sp := fun vs H Q _ => ∃ (b x L a : Addr) (n : Nat) (ms : List (Int × Say)) (s : Say), vs = [.ref b, .ref a] ∧ BkO CB H b x L ∧ SetN CS H x n ∧ n ≤ 8 ∧ TupD Say.vs H L ms ∧ ms.length ≤ 10000 ∧ MarksOk ms ∧ SayAt H a s ∧ s.Ok (ringN n) ∧
  (rankI s ≤ rankO (lkA ms s.seat) → ∀ H' : Hp, Fr [] H H' → Q (.bl false) H') ∧ (rankO (lkA ms s.seat) < rankI s → ∀ H' : Hp, Fr [L] H H' → TupD Say.vs H' L (putA ms s.seat s) → Q (.bl true) H')
def spHeldB (CB : Addr) : Sp := fun vs H Q _ => ∃ (b x L : Addr) (ms : List (Int × Say)), vs = [.ref b] ∧ BkO CB H b x L ∧ TupD Say.vs H L ms ∧
  ∀ (q : Addr) (ys : List Int) (H' : Hp), ys.Perm (ms.map Prod.fst) → ys.Pairwise (· ≤ ·) → Nw H q → Fr [] H H' → H' q = some (.lst (ys.map V.int)) → Q (.ref q) H'
def rowsM (ms : List (Int × Say)) (ys : List Int) : List Say := ys.filterMap (lkA ms)
def spRowsB (CB : Addr) : Sp := fun vs H Q _ => ∃ (b x L : Addr) (ms : List (Int × Say)), vs = [.ref b] ∧ BkO CB H b x L ∧ TupD Say.vs H L ms ∧ ms.length ≤ 10000 ∧
  ∀ (q : Addr) (ys : List Int) (as : List Addr) (H' : Hp), ys.Perm (ms.map Prod.fst) → ys.Pairwise (· ≤ ·) → Nw H q → Fr [] H H' → H' q = some (.lst (as.map V.ref)) → SaysAt H' as (rowsM ms ys) → Q (.ref q) H'
theorem latL_marks {ss : List Say} (h : ∀ s ∈ ss, s.mark ∈ marksL) : MarksOk (latL ss) := by
  refine snoc_ind (P := fun ss => (∀ s ∈ ss, s.mark ∈ marksL) → MarksOk (latL ss)) (fun _ k s e => nomatch e) (fun l x ih h => ?_) ss h
  have ih := ih fun s m => h s (List.mem_append_left _ m)
  rw [latL_snoc]
  unfold latS
  split
  · intro k s e
    rw [lk_putA] at e
    split at e
    · cases e
      exact h x (List.mem_append_right _ (.head _))
    · exact ih k s e
  · exact ih
theorem latL_len (ss : List Say) : (latL ss).length ≤ ss.length := by
  refine snoc_ind (P := fun ss => (latL ss).length ≤ ss.length) (Nat.le_refl _) (fun l x ih => ?_) ss
  rw [latL_snoc, List.length_append]
  unfold latS
  show _ ≤ l.length + 1
  split
  · exact Nat.le_trans (len_putA _ _ _) (by omega)
  · omega
theorem pd_get0 {α β : Type} {F : α → β → Prop} {xs : List α} {ys : List β} (h : Paired F xs ys) {i : Nat} {a : α} (e : xs[i]? = some a) : ∃ b, ys[i]? = some b ∧ F a b := by
  induction h generalizing i with
  | nil => cases e
  | cons q t ih =>
    cases i with
    | zero => cases e; exact ⟨_, rfl, q⟩
    | succ i => exact ih e
section
variable {P : Program} {w : World} {K : PySem.W.Frag} {mg : Str → Option Value} {base : Heap} {CS CB : Addr}
theorem c_latest_of (c_check_saying : Cal P w K mg base 4 "check_saying" (spChkSay CS) []) (c_rank : Cal P w K mg base 1 "rank" spRankP []) (d : D0 K mg "latest_of" s_latest_of ["setting", "sayings"]) : Cal P w K mg base 5 "latest_of" (spLatest CS) [] := by
  refine cal d sc_latest_of (fun vs H Q E h => ?_) (fun cdv A outer f s0 H vs Q E hr h => ?_)
  · obtain ⟨x, l, n, as, ss, rfl, _⟩ := h
    rfl
  · obtain ⟨x, l, n, as, ss, rfl, hx, n8, hl, hs, so, l1, k⟩ := h
    refine ⟨_, (pss_cons (ps_set (i := 2) sc_latest_of.nd rfl (Or.inl rfl) pe_dnewK)
      (pss_cons (ps_for PassesOwn.never rfl (pi_list (pv 1)) (pg_name (i := 3) sc_latest_of.nd rfl (Or.inl rfl)) (pss_cons (ps_expr (pe_c c_check_saying hr (by decide) rfl (pa_cons (pv 0) (pa_cons (pv 3) pa_nil))))
      (pss_one (ps_if (pt_cmpR op_gt (pe_c c_rank hr (by decide) rfl (pa_cons (pv 3) pa_nil)) (pe_c c_rank hr (by decide) rfl (pa_cons (pe_dget1 (u1 hr) (pv 2) (pe_ix ix_tup (pv 3) pe_int (fun _ _ => rfl)) (M1.mk (by rfl) (by rfl) (by rfl) (by rfl))) pa_nil)) (nomark _)) (pss_one (ps_asg (pv 3) (pg_sub (pv 2) (pe_ix ix_tup (pv 3) pe_int (fun _ _ => rfl)) (set_dict (u1 hr))))) pss_nil))))
      (pss_one (ps_ret (pv 2))))), ?_⟩
    intro L nL
    have nwL : Nw H L := .of nL
    have X0 : Fr [] H (upd H L (.dK [])) := Fr.new0 nL _
    have hL0 : TupD Say.vs (upd H L (.dK [])) L (latL []) := TupD.nil upd_same
    generalize upd H L (.dK []) = H0 at X0 hL0
    refine ⟨_, rfl, l, rfl, ⟨_, SqL.of (X0.lst hl not_nil)⟩, ?_⟩
    refine for_list (xs := as.map V.ref) (fun i σ H' => Fr [] H H' ∧ TupD Say.vs H' L (latL (ss.take i)) ∧ ∃ v3 : Option V, σ = [some (.ref x), some (.ref l), some (.ref L), v3]) ⟨X0, hL0, _, rfl⟩ (fun i σ H' _ pv => SqL.of (pv.1.lst hl not_nil)) (fun i v σ H1 hv pv => ?_) (fun σ H1 pv => ?_)
    · obtain ⟨X1, hL1, v3, rfl⟩ := pv
      obtain ⟨a, ea, rfl⟩ := map_get hv
      obtain ⟨s, es, ha⟩ := pd_get0 hs ea
      have sm := List.mem_of_getElem? es
      have il := (List.getElem?_eq_some_iff.mp es).1
      refine ⟨_, rfl, _, rfl, x, a, n, s, rfl, hx.fr X1 not_nil, n8, X1.tup ha not_nil, so s sm, fun H2 X2 => ?_⟩
      have X12 := X1.trans X2
      have ha2 := X12.tup ha not_nil
      have hL2 := hL1.fr0 X2
      have mo : MarksOk (latL (ss.take i)) := latL_marks fun s m => (so s (List.mem_of_mem_take m)).m
      have ll : (latL (ss.take i)).length ≤ 10000 := Nat.le_trans (latL_len _) (by rw [List.length_take]; omega)
      have go : ∀ (v : V), oSay H2 v (lkA (latL (ss.take i)) s.seat) → ∀ {R : V → Hp → Prop}, R v H2 → R v H2 := fun v _ R r => r
      have fin : ∀ (o : Option Say), o = lkA (latL (ss.take i)) s.seat → (rankO o < rankI s → ∃ kv, DPut H2 L (.int s.seat) (.ref a) (upd H2 L (.dK kv)) ∧ Fr [] H (upd H2 L (.dK kv)) ∧ TupD Say.vs (upd H2 L (.dK kv)) L (latL (ss.take (i + 1)))) ∧ (¬ rankO o < rankI s → latL (ss.take (i + 1)) = latL (ss.take i)) := fun o eo => by
        subst eo
        rw [take_snoc es, latL_snoc]
        unfold latS
        refine ⟨fun c => ?_, fun c => if_neg c⟩
        rw [if_pos c]
        obtain ⟨kv, g1, g2⟩ := hL2.put s.seat ha2 (Nat.le_trans ll (by decide))
        obtain ⟨kv0, e0⟩ := hL2.at_
        exact ⟨kv, g1, X12.late nwL (.dK e0) _, g2⟩
      have step : ∀ (v : V) (o : Option Say), oSay H2 v o → o = lkA (latL (ss.take i)) s.seat → (∀ s, o = some s → s.mark ∈ marksL) := fun v o _ e s' e' => mo s.seat s' (by rw [← e, e'])
      refine ⟨_, rfl, .ref a, some s, rfl, ⟨a, rfl, ha2⟩, (fun s' e => by cases e; exact (so s sm).m), ?_⟩
      cases q : lkA (latL (ss.take i)) s.seat with
      | none =>
        obtain ⟨f1, f2⟩ := fin none q.symm
        refine ⟨_, rfl, L, rfl, ?_, _, rfl, _, _, _, _, rfl, rfl, SqT.of ha2, rfl, none, hL2.none_ q, .non, none, rfl, rfl, (fun s' e => nomatch e), ?_⟩
        · obtain ⟨kv0, e0⟩ := hL2.at_
          exact .inl ⟨kv0, .inl e0⟩
        · refine ⟨_, _, rfl, rfl, _, rfl, ite2 (fun c => ?_) (fun c => ?_)⟩
          · obtain ⟨kv, g1, g2, g3⟩ := f1 (of_decide_eq_true c)
            exact ⟨_, rfl, _, rfl, _, rfl, _, _, _, _, rfl, rfl, SqT.of ha2, rfl, L, _, rfl, g1, g2, g3, _, rfl⟩
          · exact ⟨X12, by rw [f2 (fun z => c (decide_eq_true z))]; exact hL2, _, rfl⟩
      | some s' =>
        obtain ⟨f1, f2⟩ := fin (some s') q.symm
        obtain ⟨a', gg, ha'⟩ := hL2.some_ q
        refine ⟨_, rfl, L, rfl, ?_, _, rfl, _, _, _, _, rfl, rfl, SqT.of ha2, rfl, _, gg, .ref a', some s', rfl, ⟨a', rfl, ha'⟩, (fun s'' e => by cases e; exact mo _ _ q), ?_⟩
        · obtain ⟨kv0, e0⟩ := hL2.at_
          exact .inl ⟨kv0, .inl e0⟩
        · refine ⟨_, _, rfl, rfl, _, rfl, ite2 (fun c => ?_) (fun c => ?_)⟩
          · obtain ⟨kv, g1, g2, g3⟩ := f1 (of_decide_eq_true c)
            exact ⟨_, rfl, _, rfl, _, rfl, _, _, _, _, rfl, rfl, SqT.of ha2, rfl, L, _, rfl, g1, g2, g3, _, rfl⟩
          · exact ⟨X12, by rw [f2 (fun z => c (decide_eq_true z))]; exact hL2, _, rfl⟩
    · obtain ⟨X1, hL1, v3, rfl⟩ := pv
      have ll := hs.length
      rw [List.length_map, ll, List.take_length] at hL1
      exact ⟨_, rfl, k L H1 nwL X1 hL1⟩
theorem f_book (TB : T_Book K mg CB) (c_latest_of : Cal P w K mg base 5 "latest_of" (spLatest CS) []) {f a : Addr} {fd : FuncData} (F : FunD K "__init__" "Book.__init__" (C8.fnArgs s_Book__init) (C8.fnBody s_Book__init) (C8.fnScope s_Book__init) [.ref a] [] f fd) : FnOk P w K mg base C8.CX0 6 f fd ["self", "setting", "sayings"] (spBook CB CS) := by
  refine F.ok (N := n_Book__init) sc_Book__init (fun vs H Q E h => ?_) (fun cdv A outer s0 H vs Q E hr h => ?_)
  · obtain ⟨b, dx, x, l, n, as, ss, rfl, _⟩ := h
    rfl
  · obtain ⟨b, dx, x, l, n, as, ss, rfl, hb, hx, n8, hl, hs, so, l1, k⟩ := h
    refine ⟨_, PSs.nox (pss_cons (ps_fld (pv 0) (pv 1) rfl)
      (pss_one (ps_fld (pv 0) (pe_c c_latest_of hr (by decide) rfl (pa_cons (pv 1) (pa_cons (pv 2) pa_nil))) rfl))), ?_⟩
    refine ⟨_, rfl, _, rfl, b, CB, dx, [], rfl, hb, TB.cl, TB.n_setting, by show 0 < 1000; decide, ?_⟩
    have X1 : Fr [b] H (upd H b (.ins CB dx (putF ("setting" : Str) (V.ref x) []))) := (Fr.refl [b] H).upd (.head _) (.ins hb) _
    have hb1 : upd H b (.ins CB dx (putF ("setting" : Str) (V.ref x) [])) b = some (.ins CB dx (putF ("setting" : Str) (V.ref x) [])) := upd_same
    have xb : x ≠ b := fun z => by
      obtain ⟨p, r, g, hh, dx', e⟩ := hx
      rw [z, hb] at e
      cases e
    have lb : l ≠ b := fun z => by rw [z, hb] at hl; cases hl
    have nt : ∀ a ∈ [b], ∀ vs, H a ≠ some (.tup vs) := fun a m vs z => by
      rw [List.mem_singleton.mp m, hb] at z
      cases z
    have hx1 := hx.fr X1 (not_one xb)
    have hl1 := X1.lst hl (not_one lb)
    have hs1 := hs.fr X1 nt
    generalize upd H b (.ins CB dx (putF ("setting" : Str) (V.ref x) [])) = H1 at X1 hb1 hx1 hl1 hs1
    refine ⟨_, rfl, _, rfl, x, l, n, as, ss, rfl, hx1, n8, hl1, hs1, so, l1, fun L H2 nL X2 hL2 => ?_⟩
    have hb2 := X2.ins hb1 not_nil
    refine ⟨_, rfl, b, CB, dx, _, rfl, hb2, TB.cl, TB.n_latest, by show 1 < 1000; decide, ?_⟩
    have X3 : Fr [b] H2 (upd H2 b (.ins CB dx (putF ("_latest" : Str) (V.ref L) (putF ("setting" : Str) (V.ref x) [])))) := (Fr.refl [b] H2).upd (.head _) (.ins hb2) _
    have Lb : L ≠ b := fun z => by
      obtain ⟨kv, e⟩ := hL2.at_
      rw [z, hb2] at e
      cases e
    refine k L _ (X1.live L nL) (X1.trans ((X2.mono fun a m => nomatch m).trans X3)) ⟨dx, by rw [upd_same, fb_puts]⟩ (hL2.fr X3 (not_one Lb) fun a m vs z => ?_)
    rw [List.mem_singleton.mp m, hb2] at z
    cases z
theorem c_Book (TB : T_Book K mg CB) (c_latest_of : Cal P w K mg base 5 "latest_of" (spLatest CS) []) : Mak P w K mg base 6 "Book" CB (spBook CB CS) [] := by
  obtain ⟨f, a, fd, M, F, ha⟩ := TB.ini
  obtain ⟨ds, r, b⟩ := F.binds1 (ps := ["self", "setting", "sayings"]) 3 1 (fun z => nomatch z) rfl (fun T kV doc pm an cdv ct us its hl hi => match us, hl, its, hi with
    | [_, _, _], _, [_], _ => ⟨_, rfl, rfl⟩)
  exact ⟨f, fd, _, ds, M, f_book TB c_latest_of F, TB.mgC, b, r⟩
theorem m_of (TB : T_Book K mg CB) : Met P w K mg base 1 CB "of" (spOf CB) [] := by
  refine met TB.m_of TB.cl sc_Book_of (fun vs H Q E h => ?_) (fun cdv A outer f s0 H vs Q E hr h => ?_)
  · obtain ⟨b, x, L, kk, ms, rfl, _⟩ := h
    rfl
  · obtain ⟨b, x, L, kk, ms, rfl, ⟨dx, hb⟩, hL, k⟩ := h
    refine ⟨_, (pss_one (ps_ret (pe_dget1 (u1 hr) (pe_fld (pv 0) rfl) (pv 1) (M1.mk (by rfl) (by rfl) (by rfl) (by rfl))))), ?_⟩
    have isd : IsD H L := by
      obtain ⟨kv0, e0⟩ := hL.at_
      exact .inl ⟨kv0, .inl e0⟩
    refine ⟨_, rfl, b, CB, dx, _, _, rfl, hb, TB.cl, TB.n_latest, fb_latest, L, rfl, isd, _, rfl, ?_⟩
    cases q : lkA ms kk with
    | none => exact ⟨none, hL.none_ q, k .non (by rw [q]; rfl)⟩
    | some s =>
      obtain ⟨a, g, ha⟩ := hL.some_ q
      exact ⟨_, g, k (.ref a) (by rw [q]; exact ⟨a, rfl, ha⟩)⟩
theorem m_take (TB : T_Book K mg CB) (c_check_saying : Cal P w K mg base 4 "check_saying" (spChkSay CS) []) (c_rank : Cal P w K mg base 1 "rank" spRankP []) (m_of : Met P w K mg base 1 CB "of" (spOf CB) []) : Met P w K mg base 5 CB "take" (spTake CB CS) [] := by
  refine met TB.m_take TB.cl sc_Book_take (fun vs H Q E h => ?_) (fun cdv A outer f s0 H vs Q E hr h => ?_)
  · obtain ⟨b, x, L, a, n, ms, s, rfl, _⟩ := h
    rfl
  · obtain ⟨b, x, L, a, n, ms, s, rfl, hb, hx, n8, hL, l1, mo, ha, so, k1, k2⟩ := h
    refine ⟨_, (pss_cons (ps_expr (pe_c c_check_saying hr (by decide) rfl (pa_cons (pe_fld (pv 0) rfl) (pa_cons (pv 1) pa_nil))))
      (pss_cons (ps_if (pt_cmpR op_le (pe_c c_rank hr (by decide) rfl (pa_cons (pv 1) pa_nil)) (pe_c c_rank hr (by decide) rfl (pa_cons (pe_mt m_of hr (by decide) (pv 0) (pa_cons (pe_ix ix_tup (pv 1) pe_int (fun _ _ => rfl)) pa_nil)) pa_nil)) (nomark _)) (pss_one (ps_ret pe_bl)) pss_nil)
      (pss_cons (ps_asg (pv 1) (pg_sub (pe_fld (pv 0) rfl) (pe_ix ix_tup (pv 1) pe_int (fun _ _ => rfl)) (set_dict (u1 hr))))
      (pss_one (ps_ret pe_bl))))), ?_⟩
    obtain ⟨dx, eb⟩ := id hb
    refine ⟨_, rfl, b, CB, dx, _, _, rfl, eb, TB.cl, TB.n_setting, fb_setting, _, rfl, x, a, n, s, rfl, hx, n8, ha, so, fun H1 X1 => ?_⟩
    have ha1 := X1.tup ha not_nil
    have hb1 := hb.fr X1 not_nil
    have hL1 := hL.fr0 X1
    obtain ⟨dx1, eb1⟩ := id hb1
    refine ⟨_, rfl, .ref a, some s, rfl, ⟨a, rfl, ha1⟩, (fun s' e => by cases e; exact so.m), ?_⟩
    refine ⟨_, rfl, b, dx1, _, rfl, eb1, fb_of, _, rfl, _, _, _, _, rfl, rfl, SqT.of ha1, rfl, b, x, L, s.seat, ms, rfl, hb1, hL1, fun v hv => ?_⟩
    refine ⟨v, _, rfl, hv, (fun s' e => mo _ _ e), ?_⟩
    refine ⟨_, _, rfl, rfl, _, rfl, ite2 (fun c => ?_) (fun c => ?_)⟩
    · have c : rankI s ≤ rankO (lkA ms s.seat) := of_decide_eq_true c
      exact k1 c H1 X1
    · have c : ¬ rankI s ≤ rankO (lkA ms s.seat) := fun z => c (decide_eq_true z)
      obtain ⟨kv, g1, g2⟩ := hL1.put s.seat ha1 (Nat.le_trans l1 (by decide))
      obtain ⟨kv0, e0⟩ := hL1.at_
      refine ⟨_, rfl, _, rfl, b, CB, dx1, _, _, rfl, eb1, TB.cl, TB.n_latest, fb_latest, _, rfl, _, _, _, _, rfl, rfl, SqT.of ha1, rfl, L, _, rfl, g1, ?_⟩
      exact k2 (by omega) _ ((X1.mono fun a m => nomatch m).upd (.head _) (.dK e0) _) g2
theorem m_held (T : Bl mg) (TB : T_Book K mg CB) : Met P w K mg base 1 CB "held" (spHeldB CB) [] := by
  refine met TB.m_held TB.cl sc_Book_held (fun vs H Q E h => ?_) (fun cdv A outer f s0 H vs Q E hr h => ?_)
  · obtain ⟨b, x, L, ms, rfl, _⟩ := h
    rfl
  · obtain ⟨b, x, L, ms, rfl, ⟨dx, hb⟩, hL, k⟩ := h
    refine ⟨_, (pss_one (ps_ret (pe_callB (SortD.cr_sortD rfl) (by rfl) T.sorted (by decide +kernel) (pa_cons (pe_fld (pv 0) rfl) pa_nil)))), ?_⟩
    obtain ⟨kv, e, _, ek⟩ := hL.len
    exact ⟨_, rfl, b, CB, dx, _, _, rfl, hb, TB.cl, TB.n_latest, fb_latest, L, kv, _, rfl, .inl e, ek, fun ys q pm srt nq => k q ys _ pm srt (.of nq) (Fr.new0 nq _) upd_same⟩
theorem m_rows (T : Bl mg) (TB : T_Book K mg CB) (m_held : Met P w K mg base 1 CB "held" (spHeldB CB) []) : Met P w K mg base 2 CB "rows" (spRowsB CB) [] := by
  refine met TB.m_rows TB.cl sc_Book_rows (fun vs H Q E h => ?_) (fun cdv A outer f s0 H vs Q E hr h => ?_)
  · obtain ⟨b, x, L, ms, rfl, _⟩ := h
    rfl
  · obtain ⟨b, x, L, ms, rfl, hb, hL, l1, k⟩ := h
    refine ⟨_, (pss_one (ps_ret (pe_lc (own := [("seat", 1)]) (g := gName 1) (tt := tYes) (te := tDGet (tFld K (tVar 0) "_latest") (tVar 1)) (by rfl) sc_Book_rows.nd (pi_list (pe_mt0 m_held hr (by decide) (pv 0))) (blkOk_by (own := [("seat", 1)]) (N := n_Book_rows) (sc := C8.fnScope s_Book_rows) (by decide +kernel)) (fun _ _ _ _ _ => pg_name (i := 1) sc_Book_rows.nd rfl (Or.inl rfl)) (fun _ _ _ _ _ => pts_nil) (fun _ _ _ _ _ => (pe_dget (u1 hr) (pe_fld (pv 0) rfl) (pv 1) (fun _ _ => rfl)))))), ?_⟩
    obtain ⟨dx, eb⟩ := id hb
    refine ⟨_, rfl, b, dx, _, rfl, eb, fb_held, b, x, L, ms, rfl, hb, hL, fun q ys H1 pm srt nq X1 hq => ?_⟩
    refine ⟨q, rfl, ⟨_, SqL.of hq⟩, fun D nD => ?_⟩
    have ly : ys.length ≤ 10000 := by rw [pm.length_eq, List.length_map]; exact l1
    refine lc_list (xs := ys.map V.int) (fun j H' => Fr [] H1 H' ∧ ∃ as : List Addr, as.length ≤ j ∧ H' D = some (.lst (as.map V.ref)) ∧ SaysAt H' as (rowsM ms (ys.take j))) ⟨Fr.new0 nD _, [], Nat.le_refl _, upd_same, .nil⟩ (fun j H' _ pv => SqL.of (pv.1.lst hq not_nil)) (fun j v H2 hv pv => ?_) (fun H2 pv => ?_)
    · obtain ⟨X2, as, las, hD, pas⟩ := pv
      obtain ⟨s1, es, rfl⟩ := map_getE hv
      have jl := (List.getElem?_eq_some_iff.mp es).1
      obtain ⟨s, e⟩ := lkA_in (pm.mem_iff.mp (List.mem_of_getElem? es))
      have X02 := X1.trans X2
      obtain ⟨dx2, eb2⟩ := hb.fr X02 not_nil
      have hL2 := hL.fr0 X02
      obtain ⟨a, g, ha⟩ := hL2.some_ e
      refine ⟨rfl, _, rfl, b, CB, dx2, _, _, rfl, eb2, TB.cl, TB.n_latest, fb_latest, _, rfl, L, _, rfl, g, _, hD, by rw [List.length_map]; exact Nat.lt_of_le_of_lt (show as.length ≤ 100000 by omega) (by decide), X2.late (.of nD) (.lst hD) _, as ++ [a], by rw [List.length_append]; show as.length + 1 ≤ _; omega, by rw [upd_same, List.map_append]; rfl, ?_⟩
      have ne : ∀ {c : Addr} {vs : List V}, H2 c = some (.tup vs) → c ≠ D := fun h z => by rw [z, hD] at h; cases h
      have e1 : rowsM ms (ys.take (j + 1)) = rowsM ms (ys.take j) ++ [s] := by
        unfold rowsM
        rw [take_snoc es, List.filterMap_append, List.filterMap_cons_some e]
        rfl
      rw [e1]
      refine paired_snoc (paired_imp0 pas fun c s' h => ?_) ?_
      · have h : H2 c = some (.tup s'.vs) := h
        show upd H2 D _ c = _
        rw [upd_ne (ne h)]
        exact h
      · show upd H2 D _ a = _
        rw [upd_ne (ne ha)]
        exact ha
    · obtain ⟨X2, as, las, hD, pas⟩ := pv
      rw [List.length_map, List.take_length] at pas
      exact k D ys as H2 pm srt (X1.live D (.of nD)) (X1.trans X2) hD pas
end
end K29

set_option Elab.async false
set_option maxRecDepth 100000
set_option maxHeartbeats 4000000
set_option exponentiation.threshold 4096
set_option linter.unusedVariables false
/-! a box of five: cells, a place, a number, a seed, a count -/
namespace K29
open PySem PySem.Spec PyProof.Rows L2 C8 LamX UF
structure BxV (H : Hp) (b c : Addr) (cells : List Int) (u y s z : Int) : Prop where
  hb : H b = some (.lst [.ref c, .int u, .int y, .int s, .int z])
  hc : H c = some (.lst (cells.map V.int))
  u0 : 0 ≤ u
def Box (H : Hp) (b c : Addr) : Prop := ∃ (cells : List Int) (u y s z : Int), BxV H b c cells u y s z
theorem BxV.ne {H : Hp} {b c : Addr} {cells : List Int} {u y s z : Int} (B : BxV H b c cells u y s z) : c ≠ b := by
  intro e
  have h := B.hc
  rw [e, B.hb] at h
  injection h with h
  injection h with h
  cases cells with
  | nil => cases h
  | cons a l => injection h with h1 h2; cases h1
theorem BxV.set {H : Hp} {b c : Addr} {cells : List Int} {u y s z : Int} (B : BxV H b c cells u y s z) (u' y' s' z' : Int) (h : 0 ≤ u') : BxV (upd H b (.lst [.ref c, .int u', .int y', .int s', .int z'])) b c cells u' y' s' z' :=
  ⟨upd_same, by rw [upd_ne B.ne]; exact B.hc, h⟩
theorem Box.fr {H H' : Hp} {b c : Addr} {ds : List Addr} (B : Box H b c) (x : Fr ds H H') (m : b ∉ ds) (n : c ∉ ds) : Box H' b c := by
  obtain ⟨cells, u, y, s, z, B⟩ := B
  exact ⟨cells, u, y, s, z, x.lst B.hb m, x.lst B.hc n, B.u0⟩
theorem Box.fr0 {H H' : Hp} {b c : Addr} (B : Box H b c) (X : Fr [] H H') : Box H' b c := B.fr X not_nil not_nil
theorem Box.new {H : Hp} {b c : Addr} (B : Box H b c) {q : Addr} (n : H q = none) (o : HO) : Box (upd H q o) b c := B.fr0 (Fr.new0 n o)
theorem Box.off {H : Hp} {b c : Addr} (B : Box H b c) {q : Addr} (n1 : q ≠ b) (n2 : q ≠ c) (o : HO) : Box (upd H q o) b c := by
  obtain ⟨cells, u, y, s, z, B⟩ := B
  exact ⟨cells, u, y, s, z, by rw [upd_ne n1.symm]; exact B.hb, by rw [upd_ne n2.symm]; exact B.hc, B.u0⟩
theorem Box.nw_ne {H : Hp} {b c : Addr} (B : Box H b c) {q : Addr} (n : Nw H q) : q ≠ b ∧ q ≠ c := by
  obtain ⟨cells, u, y, s, z, B⟩ := B
  exact ⟨(ne_nw B.hb n).symm, (ne_nw B.hc n).symm⟩
theorem Box.nt {H : Hp} {b c : Addr} (B : Box H b c) : ∀ a ∈ [b], ∀ vs, H a ≠ some (.tup vs) := fun a m vs e => by
  obtain ⟨cells, u, y, s, z, B⟩ := B
  rw [List.mem_singleton.mp m, B.hb] at e
  cases e
def spBox (K : PySem.W.Frag) : Sp := fun vs H Q _ => ∃ (a : Addr) (ns : List Int), vs = [.ref a] ∧ SqL K H a (ns.map V.int) ∧ ns.length ≤ 63 ∧ ∀ (b c : Addr) (H' : Hp), Nw H b → Nw H c → Box H' b c → Fr [] H H' → Q (.ref b) H'
def spMixed : Sp := fun vs H Q _ => ∃ x y : Int, vs = [.int x, .int y] ∧ ∀ z : Int, Q (.int z) H
def spDraw : Sp := fun vs H Q _ => ∃ (b c : Addr) (m : Int), vs = [.ref b, .int m] ∧ Box H b c ∧ 0 < m ∧ m < 2 ^ 2000 ∧ ∀ (d : Int) (H' : Hp), 0 ≤ d → d < m → Box H' b c → Fr [b] H H' → Q (.int d) H'
def spBase : Sp := fun vs H Q _ => ∃ b c : Addr, vs = [.ref b] ∧ Box H b c ∧ ∀ (d : Int) (H' : Hp), 3 ≤ d → d ≤ 10 ^ 57 → Box H' b c → Fr [b] H H' → Q (.int d) H'
def spLevel : Sp := fun vs H Q _ => ∃ (b c : Addr) (s : Int), vs = [.ref b, .int s] ∧ Box H b c ∧ 3 ≤ s ∧ ∀ (d : Int) (H' : Hp), 0 ≤ d → d ≤ 4 * s + 4 → Box H' b c → Fr [b] H H' → Q (.int d) H'
section
variable {P : Program} {w : World} {K : PySem.W.Frag} {mg : Str → Option Value} {base : Heap}
theorem c_law_box (T : Bl mg) (d : D0 K mg "_law_box" s_law_box ["script"]) : Cal P w K mg base 1 "_law_box" (spBox K) [] := by
  refine cal d sc_law_box (fun vs H Q E h => ?_) (fun cdv A outer f s0 H vs Q E hr h => ?_)
  · obtain ⟨a, ns, rfl, _⟩ := h
    rfl
  · obtain ⟨a, ns, rfl, hs, hl, k⟩ := h
    refine ⟨_, (pss_cons (ps_setLc (i := 2) (own := [("cell", 1)]) (g := gName 1) (tt := tYes) (by rfl) sc_law_box.nd rfl rfl (sw_true rfl rfl rfl (by decide +kernel)) (pi_list (pe_slice sl_list (pv 0) po_none (po_some pe_int))) (blkOk_by (own := [("cell", 1)]) (N := n_law_box) (sc := C8.fnScope s_law_box) (by decide +kernel)) (fun _ _ _ _ _ => pg_name (i := 1) sc_law_box.nd rfl (Or.inl rfl)) (fun _ _ _ _ _ => pts_nil) (fun _ _ _ _ _ => (pe_callTy call_int1 (by rfl) T.int (by decide +kernel) (pa_cons (pv 1) pa_nil))))
      (pss_cons (ps_set (i := 3) sc_law_box.nd rfl (Or.inl rfl) pe_int)
      (pss_cons (ps_for PassesOwn.never rfl (pi_list (pv 2)) (pg_name (i := 1) sc_law_box.nd rfl (Or.inl rfl)) (pss_one (ps_set (i := 3) sc_law_box.nd rfl (Or.inl rfl) (pe_op op_mod (pe_callTy call_int1 (by rfl) T.int (by decide +kernel) (pa_cons (pe_op op_add (pe_op op_add (pe_op op_mul (pv 3) pe_int) (pe_op op_mul (pe_op op_mod (pe_callTy call_int1 (by rfl) T.int (by decide +kernel) (pa_cons (pv 1) pa_nil)) pe_int) pe_int)) pe_int) pa_nil)) pe_int))))
      (pss_one (ps_ret (pe_lst (pa_cons (pv 2) (pa_cons pe_int (pa_cons pe_int (pa_cons (pv 3) (pa_cons pe_int pa_nil))))))))))), ?_⟩
    obtain ⟨ms, em, lm⟩ := cut_map ns none (some 63)
    refine ⟨_, rfl, _, rfl, _, _, rfl, hs, fun p np => ?_⟩
    rw [em]
    have X1 : Fr [] H (upd H p (.lst (ms.map V.int))) := Fr.new0 np _
    have hp1 : upd H p (.lst (ms.map V.int)) p = some (.lst (ms.map V.int)) := upd_same
    generalize upd H p (.lst (ms.map V.int)) = H1 at X1 hp1
    refine ⟨p, rfl, ⟨_, SqL.of hp1⟩, fun D nD => ?_⟩
    have Dp : D ≠ p := (ne_of_none hp1 nD).symm
    refine lc_list (xs := ms.map V.int) (fun j H' => Fr [] H1 H' ∧ ∃ xs : List Int, xs.length = j ∧ H' D = some (.lst (xs.map V.int))) ⟨Fr.new0 nD _, [], rfl, upd_same⟩ (fun j H' _ pv => SqL.of (pv.1.lst hp1 not_nil)) (fun j v H2 hv pv => ?_) (fun H2 pv => ?_)
    · obtain ⟨X2, xs, lx, hD⟩ := pv
      obtain ⟨n, en, rfl⟩ := map_getE hv
      have jl := (List.getElem?_eq_some_iff.mp en).1
      refine ⟨rfl, _, rfl, .inl ⟨_, rfl, ?_⟩⟩
      exact ⟨_, hD, by rw [List.length_map]; exact small1000' (by omega), X2.late (.of nD) (.lst hD) _, xs ++ [n], by rw [List.length_append, lx]; rfl, by rw [upd_same, List.map_append]; rfl⟩
    · obtain ⟨X2, xs, lx, hD⟩ := pv
      have X02 := X1.trans X2
      refine ⟨_, rfl, D, rfl, ⟨_, SqL.of hD⟩, ?_⟩
      refine for_list (xs := xs.map V.int) (fun j σ H' => H' = H2 ∧ ∃ (v1 : Option V) (sd : Int), σ = [some (.ref a), v1, some (.ref D), some (.int sd)]) ⟨rfl, _, _, rfl⟩ (fun j σ H' _ pv => by rw [pv.1]; exact SqL.of hD) (fun j v σ H3 hv pv => ?_) (fun σ H3 pv => ?_)
      · obtain ⟨rfl, v1, sd, rfl⟩ := pv
        obtain ⟨n, en, rfl⟩ := map_getE hv
        refine ⟨_, rfl, _, _, rfl, rfl, .inr ⟨by decide, by decide⟩, _, rfl, .inl ⟨_, rfl, _, _, rfl, rfl, pm (by decide), _, _, rfl, rfl, .inr ⟨by decide, by decide⟩, _, _, rfl, rfl, _, _, rfl, rfl, .inl ⟨_, rfl, _, _, rfl, rfl, pm (by decide), rfl, _, _, rfl⟩⟩⟩
      · obtain ⟨rfl, v1, sd, rfl⟩ := pv
        refine ⟨_, rfl, _, rfl, by show 5 ≤ sizeLine; decide, fun b nb => ?_⟩
        exact k b D _ (X02.live b (.of nb)) (X1.live D (.of nD)) ⟨xs, 0, 0, sd, 0, upd_same, upd_new nb hD, Int.le_refl _⟩ (X02.new nb _)
theorem c_law_mixed (T : Bl mg) (d : D0 K mg "_law_mixed" s_law_mixed ["seed", "count"]) : Cal P w K mg base 1 "_law_mixed" spMixed [] := by
  refine cal d sc_law_mixed (fun vs H Q E h => ?_) (fun cdv A outer f s0 H vs Q E hr h => ?_)
  · obtain ⟨x, y, rfl, _⟩ := h
    rfl
  · obtain ⟨x, y, rfl, k⟩ := h
    refine ⟨_, (pss_cons (ps_set (i := 2) sc_law_mixed.nd rfl (Or.inl rfl) (pe_op op_mod (pe_callTy call_int1 (by rfl) T.int (by decide +kernel) (pa_cons (pe_op op_add (pe_op op_add (pe_op op_mul (pv 0) pe_int) (pe_op op_mul (pv 1) pe_int)) pe_int) pa_nil)) pe_int))
      (pss_cons (ps_set (i := 3) sc_law_mixed.nd rfl (Or.inl rfl) (pe_op op_mod (pe_callTy call_int1 (by rfl) T.int (by decide +kernel) (pa_cons (pe_op op_add (pe_op op_add (pe_op op_mul (pv 2) (pv 2)) (pe_op op_mul (pv 1) pe_int)) (pv 0)) pa_nil)) pe_int))
      (pss_one (ps_ret (pe_op op_fdivW (pe_op op_mod (pe_callTy call_int1 (by rfl) T.int (by decide +kernel) (pa_cons (pe_op op_add (pe_op op_add (pe_op op_mul (pv 3) pe_int) (pe_op op_mul (pv 2) pe_int)) (pv 1)) pa_nil)) pe_int) pe_int))))), ?_⟩
    refine ⟨_, rfl, _, _, rfl, rfl, .inr ⟨by decide, by decide⟩, _, rfl, _, _, rfl, rfl, .inr ⟨by decide, by decide⟩, _, _, rfl, rfl, _, _, rfl, rfl, .inl ⟨_, rfl, _, _, rfl, rfl, pm (by decide), ?_⟩⟩
    refine ⟨_, rfl, _, rfl, _, _, rfl, rfl, .inl ⟨by omega, by omega⟩, _, rfl, _, _, rfl, rfl, .inr ⟨by decide, by decide⟩, _, _, rfl, rfl, _, rfl, _, _, rfl, rfl, .inl ⟨_, rfl, _, _, rfl, rfl, pm (by decide), ?_⟩⟩
    refine ⟨_, rfl, _, _, rfl, rfl, .inr ⟨by decide, by decide⟩, _, rfl, _, _, rfl, rfl, .inr ⟨by decide, by decide⟩, _, _, rfl, rfl, _, rfl, _, _, rfl, rfl, .inl ⟨_, rfl, _, _, rfl, rfl, pm (by decide), ?_⟩⟩
    exact ⟨_, _, rfl, rfl, dvw (by decide) (by decide +kernel) _, k _⟩
theorem c_law_take (T : Bl mg) (c_law_mixed : Cal P w K mg base 1 "_law_mixed" spMixed []) (d : D0 K mg "_law_take" s_law_take ["box", "limit"]) : Cal P w K mg base 2 "_law_take" spDraw [] := by
  refine cal d sc_law_take (fun vs H Q E h => ?_) (fun cdv A outer f s0 H vs Q E hr h => ?_)
  · obtain ⟨b, c, m, rfl, _⟩ := h
    rfl
  · obtain ⟨b, c, m, rfl, ⟨cells, u, y, s, z, B⟩, m0, m1, k⟩ := h
    refine ⟨_, (pss_cut (ps_if (PW.pt (pw_and (pt_cmpR op_eq (pe_ix ix_list (pv 0) pe_int (fun _ _ => rfl)) pe_int (nomark _)) (pw_and1 (pt_cmpR op_lt (pe_ix ix_list (pv 0) pe_int (fun _ _ => rfl)) (pe_callB call_len_seq (by rfl) T.len (by decide +kernel) (pa_cons (pe_ix ix_list (pv 0) pe_int (fun _ _ => rfl)) pa_nil)) (nomark _))))) (pss_cons (ps_set (i := 2) sc_law_take.nd rfl (Or.inl rfl) (pe_callB call_abs (by rfl) T.abs (by decide +kernel) (pa_cons (pe_ix ix_list (pe_ix ix_list (pv 0) pe_int (fun _ _ => rfl)) (pe_ix ix_list (pv 0) pe_int (fun _ _ => rfl)) (fun _ _ => rfl)) pa_nil)))
      (pss_cons (ps_asg (pe_op op_add (pe_ix ix_list (pv 0) pe_int (fun _ _ => rfl)) pe_int) (pg_sub (pv 0) pe_int set_list))
      (pss_one (ps_if (pt_cmpR op_ge (pv 2) (pe_op op_pow pe_int pe_int) (nomark _)) (pss_one (ps_asg (pv 2) (pg_sub (pv 0) pe_int set_list))) pss_nil)))) pss_nil)
      (pss_cons (ps_if (pt_cmpR op_gt (pe_ix ix_list (pv 0) pe_int (fun _ _ => rfl)) pe_int (nomark _)) (pss_cons (ps_set (i := 3) sc_law_take.nd rfl (Or.inl rfl) (pe_op op_mod (pe_callTy call_int1 (by rfl) T.int (by decide +kernel) (pa_cons (pe_ix ix_list (pv 0) pe_int (fun _ _ => rfl)) pa_nil)) (pv 1)))
      (pss_cons (ps_asg (pe_op op_fdivW (pe_ix ix_list (pv 0) pe_int (fun _ _ => rfl)) (pv 1)) (pg_sub (pv 0) pe_int set_list))
      (pss_one (ps_ret (pv 3))))) pss_nil)
      (pss_cons (ps_asg (pe_op op_add (pe_ix ix_list (pv 0) pe_int (fun _ _ => rfl)) pe_int) (pg_sub (pv 0) pe_int set_list))
      (pss_one (ps_ret (pe_op op_mod (pe_callTy call_int1 (by rfl) T.int (by decide +kernel) (pa_cons (pe_c c_law_mixed hr (by decide) rfl (pa_cons (pe_ix ix_list (pv 0) pe_int (fun _ _ => rfl)) (pa_cons (pe_ix ix_list (pv 0) pe_int (fun _ _ => rfl)) pa_nil))) pa_nil)) (pv 1))))))), ?_⟩
    refine ⟨fun σ H' => Fr [b] H H' ∧ ∃ (u y s z : Int) (v2 : Option V), BxV H' b c cells u y s z ∧ σ = [some (.ref b), some (.int m), v2, none], ?_, ?_⟩
    · refine ⟨_, rfl, _, _, _, _, rfl, rfl, SqL.of B.hb, rfl, rfl, _, rfl, ite2 (fun _ => ?_) (fun _ => iteF ⟨Fr.refl _ _, u, y, s, z, _, B, rfl⟩)⟩
      refine ⟨_, rfl, _, _, _, _, rfl, rfl, SqL.of B.hb, rfl, _, rfl, _, _, _, _, rfl, rfl, SqL.of B.hb, rfl, _, _, rfl, .inl (SqL.of B.hc), _, _, rfl, rfl, _, rfl, ite2 (fun lt => ?_) (fun _ => ⟨Fr.refl _ _, u, y, s, z, _, B, rfl⟩)⟩
      have lt : u < ((cells.map V.int).length : Int) := of_decide_eq_true lt
      rw [List.length_map] at lt
      obtain ⟨cell, hcell, _⟩ := int_at B.u0 lt
      refine ⟨_, rfl, _, _, _, _, rfl, rfl, SqL.of B.hb, rfl, _, rfl, _, _, _, _, rfl, rfl, SqL.of B.hb, rfl, _, _, _, _, rfl, rfl, SqL.of B.hc, hcell, _, rfl, ?_⟩
      refine ⟨_, rfl, _, _, _, _, rfl, rfl, SqL.of B.hb, rfl, _, _, rfl, rfl, _, rfl, _, _, _, 1, rfl, rfl, B.hb, rfl, ?_⟩
      have B1 := B.set (u + 1) y s z (by have := B.u0; omega)
      have X1 := (Fr.refl [b] H).upd (.head _) (.lst B.hb) (.lst [.ref c, .int (u + 1), .int y, .int s, .int z])
      change BxV (upd H b (.lst [.ref c, .int (u + 1), .int y, .int s, .int z])) b c cells (u + 1) y s z at B1
      change Fr [b] H (upd H b (.lst [.ref c, .int (u + 1), .int y, .int s, .int z])) at X1
      refine ⟨_, rfl, _, _, rfl, rfl, ⟨by decide, by decide, by decide⟩, _, _, rfl, rfl, _, rfl, ite2 (fun _ => ?_) (fun _ => ⟨X1, _, _, _, _, _, B1, rfl⟩)⟩
      refine ⟨_, rfl, _, rfl, _, _, _, 2, rfl, rfl, B1.hb, rfl, ?_⟩
      exact ⟨X1.upd (.head _) (.lst B1.hb) _, _, _, _, _, _, B1.set (u + 1) _ s z B1.u0, rfl⟩
    · rintro σ H1 ⟨X1, u, y, s, z, v2, B1, rfl⟩
      refine ⟨_, rfl, _, _, _, _, rfl, rfl, SqL.of B1.hb, rfl, _, _, rfl, rfl, _, rfl, ite2 (fun _ => ?_) (fun _ => ?_)⟩
      · refine ⟨_, rfl, _, _, _, _, rfl, rfl, SqL.of B1.hb, rfl, .inl ⟨_, rfl, _, rfl, _, _, rfl, rfl, pm m0, ?_⟩⟩
        refine ⟨_, rfl, _, _, _, _, rfl, rfl, SqL.of B1.hb, rfl, _, rfl, _, _, rfl, rfl, dvw m0 m1 _, _, rfl, _, _, _, 2, rfl, rfl, B1.hb, rfl, _, rfl, ?_⟩
        exact k _ _ (Int.emod_nonneg _ (by omega)) (Int.emod_lt_of_pos _ m0) ⟨_, _, _, _, _, B1.set u _ s z B1.u0⟩ (X1.upd (.head _) (.lst B1.hb) _)
      · refine ⟨_, rfl, _, _, _, _, rfl, rfl, SqL.of B1.hb, rfl, _, _, rfl, rfl, _, rfl, _, _, _, 4, rfl, rfl, B1.hb, rfl, ?_⟩
        have B2 := B1.set u y s (z + 1) B1.u0
        have X2 := X1.upd (.head _) (.lst B1.hb) (.lst [.ref c, .int u, .int y, .int s, .int (z + 1)])
        refine ⟨_, rfl, _, _, _, _, rfl, rfl, SqL.of B2.hb, rfl, _, rfl, _, _, _, _, rfl, rfl, SqL.of B2.hb, rfl, _, _, rfl, fun n => .inl ⟨_, rfl, _, rfl, _, _, rfl, rfl, pm m0, ?_⟩⟩
        exact k _ _ (Int.emod_nonneg _ (by omega)) (Int.emod_lt_of_pos _ m0) ⟨_, _, _, _, _, B2⟩ X2
theorem c_law_base (T : Bl mg) (c_law_take : Cal P w K mg base 2 "_law_take" spDraw []) (d : D0 K mg "_law_base" s_law_base ["box"]) : Cal P w K mg base 3 "_law_base" spBase [] := by
  refine cal d sc_law_base (fun vs H Q E h => ?_) (fun cdv A outer f s0 H vs Q E hr h => ?_)
  · obtain ⟨b, c, rfl, _⟩ := h
    rfl
  · obtain ⟨b, c, rfl, B, k⟩ := h
    refine ⟨_, (pss_cons (ps_set (i := 1) sc_law_base.nd rfl (Or.inl rfl) (pe_c c_law_take hr (by decide) rfl (pa_cons (pv 0) (pa_cons pe_int pa_nil))))
      (pss_cons (ps_if (pt_cmpR op_eq (pv 1) pe_int (nomark _)) (pss_one (ps_ret pe_int)) pss_nil)
      (pss_cons (ps_if (pt_cmpR op_lt (pv 1) pe_int (nomark _)) (pss_one (ps_ret (pe_op op_add pe_int (pe_c c_law_take hr (by decide) rfl (pa_cons (pv 0) (pa_cons pe_int pa_nil)))))) pss_nil)
      (pss_cons (ps_set (i := 2) sc_law_base.nd rfl (Or.inl rfl) pe_int)
      (pss_cons (ps_for PassesOwn.never rfl (pi_range1 rfl T.range (pa_cons pe_int pa_nil)) (pg_name (i := 3) sc_law_base.nd rfl (Or.inl rfl)) (pss_one (ps_set (i := 2) sc_law_base.nd rfl (Or.inl rfl) (pe_op op_add (pe_op op_mul (pv 2) (pe_op op_pow pe_int pe_int)) (pe_c c_law_take hr (by decide) rfl (pa_cons (pv 0) (pa_cons (pe_op op_pow pe_int pe_int) pa_nil)))))))
      (pss_one (ps_ret (pe_op op_add (pv 2) pe_int)))))))), ?_⟩
    refine ⟨_, rfl, b, c, 4, rfl, B, by decide, by decide +kernel, fun d1 H1 a1 a2 B1 X1 => ⟨_, rfl, rfl, _, rfl, ite2 (fun _ => k 3 H1 (by decide) (by decide +kernel) B1 X1) (fun _ => ?_)⟩⟩
    refine ⟨_, rfl, _, _, rfl, rfl, _, rfl, ite2 (fun _ => ?_) (fun _ => ?_)⟩
    · exact ⟨_, rfl, b, c, 1000, rfl, B1, by decide, by decide +kernel, fun d2 H2 b1 b2 B2 X2 => ⟨_, _, rfl, rfl, k _ H2 (by omega) (Int.le_trans (show 4 + d2 ≤ 2000 by omega) (by decide +kernel)) B2 (X1.trans X2)⟩⟩
    · refine ⟨_, rfl, by decide, by decide, ?_⟩
      refine for_range (lo := 0) (n := 7) (fun i σ H' => Box H' b c ∧ Fr [b] H H' ∧ ∃ (x : Int) (v3 : Option V), 0 ≤ x ∧ x < 100000000 ^ i ∧ σ = [some (.ref b), some (.int d1), some (.int x), v3]) ⟨B1, X1, 0, _, by decide, by decide, rfl⟩ ?_ ?_
      · rintro i σ H2 hi ⟨B2, X2, x, v3, x0, x1, rfl⟩
        refine ⟨_, rfl, _, _, rfl, rfl, ⟨by decide, by decide, by decide⟩, _, _, rfl, rfl, .inr ⟨by decide, by decide⟩, ?_⟩
        refine ⟨_, rfl, _, _, rfl, rfl, ⟨by decide, by decide, by decide⟩, b, c, _, rfl, B2, by decide +kernel, by decide +kernel, fun d2 H3 b1 b2 B3 X3 => ⟨_, _, rfl, rfl, B3, X2.trans X3, _, _, ?_, ?_, rfl⟩⟩
        · have : 0 ≤ x * 10 ^ 8 := Int.mul_nonneg x0 (by decide)
          show 0 ≤ x * 10 ^ 8 + d2
          omega
        · have b2 : d2 < 10 ^ 8 := b2
          show x * 10 ^ 8 + d2 < 100000000 ^ (i + 1)
          have e : (10 : Int) ^ 8 = 100000000 := by decide
          rw [e] at b2 ⊢
          rw [Int.pow_succ]
          generalize (100000000 : Int) ^ i = y at x1 ⊢
          omega
      · rintro σ H2 ⟨B2, X2, x, v3, x0, x1, rfl⟩
        have e : (100000000 : Int) ^ 7 = 10 ^ 56 := by decide +kernel
        have x1 : x < 100000000 ^ 7 := x1
        rw [e] at x1
        exact ⟨_, rfl, _, _, rfl, rfl, k (x + 3) H2 (by omega) (by omega) B2 X2⟩
theorem c_law_level (c_law_take : Cal P w K mg base 2 "_law_take" spDraw []) (d : D0 K mg "_law_level" s_law_level ["box", "base"]) : Cal P w K mg base 3 "_law_level" spLevel [] := by
  refine cal d sc_law_level (fun vs H Q E h => ?_) (fun cdv A outer f s0 H vs Q E hr h => ?_)
  · obtain ⟨b, c, s, rfl, _⟩ := h
    rfl
  · obtain ⟨b, c, s, rfl, B, s3, k⟩ := h
    refine ⟨_, (pss_cons (ps_set (i := 2) sc_law_level.nd rfl (Or.inl rfl) (pe_c c_law_take hr (by decide) rfl (pa_cons (pv 0) (pa_cons pe_int pa_nil))))
      (pss_cons (ps_if (pt_cmpR op_lt (pv 2) pe_int (nomark _)) (pss_one (ps_ret pe_int)) pss_nil)
      (pss_cons (ps_if (pt_cmpR op_lt (pv 2) pe_int (nomark _)) (pss_one (ps_ret (pe_op op_sub (pv 2) pe_int))) pss_nil)
      (pss_one (ps_ret (pe_op op_sub (pe_op op_add (pe_op op_mul pe_int (pv 1)) (pv 2)) pe_int)))))), ?_⟩
    refine ⟨_, rfl, b, c, 20, rfl, B, by decide, by decide +kernel, fun d1 H1 a1 a2 B1 X1 => ⟨_, rfl, _, _, rfl, rfl, _, rfl, ite2 (fun _ => k 0 H1 (by decide) (by omega) B1 X1) (fun c1 => ?_)⟩⟩
    have c1 : ¬ d1 < 4 := fun z => c1 (decide_eq_true z)
    refine ⟨_, rfl, _, _, rfl, rfl, _, rfl, ite2 (fun _ => ?_) (fun c2 => ?_)⟩
    · exact ⟨_, rfl, _, _, rfl, rfl, k _ H1 (by omega) (by omega) B1 X1⟩
    · have c2 : ¬ d1 < 16 := fun z => c2 (decide_eq_true z)
      exact ⟨_, rfl, _, _, rfl, rfl, .inl ⟨by decide, by decide⟩, _, rfl, _, _, rfl, rfl, _, _, rfl, rfl, k _ H1 (by omega) (by omega) B1 X1⟩
end
end K29

set_option Elab.async false
set_option maxRecDepth 100000
set_option maxHeartbeats 4000000
set_option exponentiation.threshold 4096
set_option linter.unusedVariables false
/-! a book by the seats -/
namespace K29
open PySem PySem.Spec PyProof.Rows L2 C8 LamX UF
theorem latL_ids : ∀ {ms : List (Int × Say)}, (ms.map Prod.fst).Nodup → (∀ q ∈ ms, q.2.seat = q.1 ∧ 0 ≤ q.2.life) → latL (ms.map Prod.snd) = ms := fun {ms} => by
  refine snoc_ind (P := fun ms : List (Int × Say) => (ms.map Prod.fst).Nodup → (∀ q ∈ ms, q.2.seat = q.1 ∧ 0 ≤ q.2.life) → latL (ms.map Prod.snd) = ms) (fun _ _ => rfl) (fun l x ih nd h => ?_) ms
  rw [List.map_append] at nd
  obtain ⟨nd1, _, nd2⟩ := List.nodup_append.mp nd
  rw [List.map_append]
  show latL (l.map Prod.snd ++ [x.2]) = l ++ [x]
  rw [latL_snoc, ih nd1 fun q m => h q (List.mem_append_left _ m)]
  obtain ⟨e1, e2⟩ := h x (List.mem_append_right _ (.head _))
  have e0 : lkA l x.2.seat = none := by
    rw [e1]
    cases q : lkA l x.1 with
    | none => rfl
    | some s => exact absurd rfl (nd2 x.1 (lkA_mem q) x.1 (.head _))
  unfold latS
  rw [e0, if_pos (by show 0 < rankI x.2; unfold rankI; omega), putA_new e0, e1]
theorem srt_perm_eq : ∀ {a b : List Int}, a.Perm b → a.Pairwise (· ≤ ·) → b.Pairwise (· < ·) → a = b := fun {a b} p sa sb => List.Perm.eq_of_pairwise (fun x y _ _ h1 h2 => Int.le_antisymm h1 h2) sa (sb.imp fun h => Int.le_of_lt h) p
theorem tup_nt {β : Type} {f : β → List V} {H : Hp} {d : Addr} {ms : List (Int × β)} (T : TupD f H d ms) : ∀ a ∈ [d], ∀ vs, H a ≠ some (.tup vs) := fun a m vs z => by
  obtain ⟨kv, e⟩ := T.at_
  rw [List.mem_singleton.mp m, e] at z
  cases z
/-- what the making of a book promises, between two heaps -/
theorem book_made {CB CS : Addr} {H : Hp} {o dx x l : Addr} {n : Nat} {as : List Addr} {ss : List Say} {R : Hp → Prop} {E : XK} (no : H o = none) (ndx : H dx = none) (ne : dx ≠ o) (hx : SetN CS H x n) (n8 : n ≤ 8) (hl : H l = some (.lst (as.map V.ref))) (has : SaysAt H as ss) (ok : ∀ s ∈ ss, s.Ok (ringN n)) (len : ss.length ≤ 10000)
    (k : ∀ (L : Addr) (H' : Hp), Nw H L → Fr [] H H' → BkO CB H' o x L → TupD Say.vs H' L (latL ss) → R H') :
    spBook CB CS [.ref o, .ref x, .ref l] (upd (upd H dx (.own o)) o (.ins CB dx [])) (fun v H3 => v = .non ∧ R H3) E := by
  have no' : upd H dx (.own o) o = none := by rw [upd_ne ne.symm]; exact no
  have Xb : Fr [] H (upd (upd H dx (.own o)) o (.ins CB dx [])) := ((Fr.refl [] H).new ndx _).new no' _
  exact ⟨o, dx, x, l, n, as, ss, rfl, upd_same, hx.fr Xb not_nil, n8, Xb.lst hl not_nil, has.fr0 Xb, ok, len, fun L H15 nL Xbb hb hL => ⟨rfl, k L H15 (Xb.live L nL) (Xb.tail Xbb fun a m => .inr (by rw [List.mem_singleton.mp m]; exact .of no)) hb hL⟩⟩
/-- a book that holds f -/
structure BkF (CB : Addr) (H : Hp) (bk x L : Addr) (ms : List (Int × Say)) (f : Nat → Option Say) (N : Nat) : Prop where
  hb : BkO CB H bk x L
  hL : TupD Say.vs H L ms
  nd : (ms.map Prod.fst).Nodup
  cov : ∀ k : Int, lkA ms k = if 0 ≤ k then f k.toNat else none
  top : ∀ j, N ≤ j → f j = none
  seat : ∀ j s, f j = some s → s.seat = j
  ok : ∀ j s, f j = some s → s.Ok (N : Int)
section
variable {CB CS : Addr} {H H' : Hp} {bk x L : Addr} {ms : List (Int × Say)} {f : Nat → Option Say} {N : Nat}
theorem BkF.at_ (B : BkF CB H bk x L ms f N) (j : Nat) : lkA ms (j : Int) = f j := by
  rw [B.cov, if_pos (by omega), Int.toNat_natCast]
theorem BkF.fr (B : BkF CB H bk x L ms f N) {ds : List Addr} (X : Fr ds H H') (n1 : bk ∉ ds) (n2 : L ∉ ds) (nt : ∀ a ∈ ds, ∀ vs, H a ≠ some (.tup vs)) : BkF CB H' bk x L ms f N :=
  { B with hb := B.hb.fr X n1, hL := B.hL.fr X n2 nt }
theorem BkF.fr0 (B : BkF CB H bk x L ms f N) (X : Fr [] H H') : BkF CB H' bk x L ms f N := B.fr X not_nil not_nil fun a m => nomatch m
theorem BkF.key (B : BkF CB H bk x L ms f N) {k : Int} : k ∈ ms.map Prod.fst ↔ ∃ j : Nat, k = j ∧ j < N ∧ (f j).isSome = true := by
  constructor
  · intro m
    obtain ⟨s, e⟩ := lkA_in m
    rw [B.cov] at e
    split at e
    · rename_i h
      obtain ⟨j, rfl⟩ := Int.eq_ofNat_of_zero_le h
      rw [Int.toNat_natCast] at e
      refine ⟨j, rfl, ?_, by rw [e]; rfl⟩
      rcases Nat.lt_or_ge j N with z | z
      · exact z
      · rw [B.top j z] at e; cases e
    · cases e
  · rintro ⟨j, rfl, _, h⟩
    cases q : f j with
    | none => rw [q] at h; cases h
    | some s => exact lkA_mem (by rw [B.at_, q])
theorem BkF.mo (B : BkF CB H bk x L ms f N) : MarksOk ms := fun k s e => by
  rw [B.cov] at e
  split at e
  · exact (B.ok _ s e).m
  · cases e
theorem BkF.len (B : BkF CB H bk x L ms f N) : ms.length ≤ N := by
  have h := nd_le (ms.map Prod.fst) ((List.range N).map fun j => ((j : Nat) : Int)) B.nd fun k m => by
    obtain ⟨j, rfl, jl, _⟩ := B.key.mp m
    exact List.mem_map.mpr ⟨j, List.mem_range.mpr jl, rfl⟩
  rw [List.length_map, List.length_map, List.length_range] at h
  exact h
theorem BkF.rows (B : BkF CB H bk x L ms f N) {ys : List Int} (perm : ys.Perm (ms.map Prod.fst)) (srt : ys.Pairwise (· ≤ ·)) : rowsM ms ys = (List.range N).filterMap f := by
  have p2 : (ms.map Prod.fst).Perm (((List.range N).filter fun j => (f j).isSome).map fun j : Nat => (j : Int)) := by
    refine (List.perm_ext_iff_of_nodup B.nd ?_).2 fun k => ?_
    · refine List.Pairwise.map _ (fun a b h => ?_) ((List.nodup_range (n := N)).filter _)
      intro z
      exact h (by omega)
    · rw [B.key, List.mem_map]
      constructor
      · rintro ⟨j, rfl, jl, h⟩
        exact ⟨j, List.mem_filter.mpr ⟨List.mem_range.mpr jl, h⟩, rfl⟩
      · rintro ⟨j, m, rfl⟩
        obtain ⟨m1, m2⟩ := List.mem_filter.mp m
        exact ⟨j, rfl, List.mem_range.mp m1, m2⟩
  have e : ys = ((List.range N).filter fun j => (f j).isSome).map fun j : Nat => (j : Int) := srt_perm_eq (perm.trans p2) srt (List.Pairwise.map _ (fun a b h => by omega) ((List.pairwise_lt_range (n := N)).filter _))
  rw [e]
  unfold rowsM
  have go : ∀ l : List Nat, ((l.filter fun j => (f j).isSome).map fun j : Nat => (j : Int)).filterMap (lkA ms) = l.filterMap f := fun l => by
    induction l with
    | nil => rfl
    | cons j l ih =>
      cases q : f j with
      | none => rw [List.filter_cons_of_neg (by rw [q]; exact Bool.false_ne_true), List.filterMap_cons_none q]; exact ih
      | some s => rw [List.filter_cons_of_pos (by rw [q]; rfl), List.map_cons, List.filterMap_cons_some (b := s) (by rw [B.at_, q]), List.filterMap_cons_some q, ih]
  exact go _
theorem BkF.put (B : BkF CB H bk x L ms f N) {j : Nat} {s : Say} (jl : j < N) (e : s.seat = j) (o : s.Ok (N : Int)) (hb : BkO CB H' bk x L) (hL : TupD Say.vs H' L (putA ms s.seat s)) : BkF CB H' bk x L (putA ms s.seat s) (fun i => if i = j then some s else f i) N where
  hb := hb
  hL := hL
  nd := nd_putA B.nd
  cov := fun k => by
    rw [lk_putA, B.cov, e]
    by_cases h : 0 ≤ k
    · obtain ⟨i, rfl⟩ := Int.eq_ofNat_of_zero_le h
      rw [if_pos h, if_pos h, Int.toNat_natCast]
      by_cases z : i = j
      · rw [if_pos z, if_pos (by omega)]
      · rw [if_neg z, if_neg (by omega)]
    · rw [if_neg h, if_neg h, if_neg (by omega)]
  top := fun i h => by
    show (if i = j then some s else f i) = none
    rw [if_neg (by omega)]
    exact B.top i h
  seat := fun i s' h => by
    have h : (if i = j then some s else f i) = some s' := h
    split at h
    · cases h
      rename_i z
      rw [e, z]
    · exact B.seat i s' h
  ok := fun i s' h => by
    have h : (if i = j then some s else f i) = some s' := h
    split at h
    · cases h
      exact o
    · exact B.ok i s' h
end
end K29

set_option Elab.async false
set_option maxRecDepth 100000
set_option maxHeartbeats 4000000
set_option exponentiation.threshold 4096
set_option linter.unusedVariables false
/-! sayings by levels -/
namespace K29
open PySem PySem.Spec PyProof.Rows L2 C8 LamX UF
def plainL : List Nat := plainS.cps.toList
theorem plainL_len : plainL.length = 36 := by decide +kernel
def wsI (start : Int) (k : Nat) : Int := (start * ((k : Int) + 3) + (k : Int) * (k : Int)) % 36
def wsN (start : Int) (k : Nat) : Nat := plainL.getD (wsI start k).toNat 97
theorem ws_at (start : Int) (k : Nat) : atI plainL (wsI start k) = some (wsN start k) ∧ wsN start k ∈ plainL := by
  have h0 : 0 ≤ wsI start k := Int.emod_nonneg _ (by decide)
  have h1 : wsI start k < 36 := Int.emod_lt_of_pos _ (by decide)
  obtain ⟨j, hj⟩ := Int.eq_ofNat_of_zero_le h0
  have jl : j < plainL.length := by rw [plainL_len]; omega
  have e : wsN start k = plainL[j] := by
    unfold wsN
    rw [hj, Int.toNat_natCast, List.getD_eq_getElem?_getD, List.getElem?_eq_getElem jl]
    rfl
  rw [hj, e]
  exact ⟨atI_nat (List.getElem?_eq_getElem jl), List.getElem_mem jl⟩
def startF (seat age salt : Int) : Int := (seat * 7 + age % 10007 * 5 + salt) % 1009
def worthF (seat age salt : Int) : Str := Txt.join ("" : Str) (((List.range (startF seat age salt % 13).toNat).map (wsN (startF seat age salt))).map fun c => (⟨#[c]⟩ : Str))
theorem worthF_ok (seat age salt : Int) : (worthF seat age salt).length ≤ 12 ∧ Plain (worthF seat age salt) := by
  refine join_worth ?_ fun c hc => ?_
  · rw [List.length_map, List.length_range]
    have h0 : 0 ≤ startF seat age salt % 13 := Int.emod_nonneg _ (by decide)
    have h1 : startF seat age salt % 13 < 13 := Int.emod_lt_of_pos _ (by decide)
    omega
  · obtain ⟨k, _, rfl⟩ := List.mem_map.mp hc
    exact (ws_at _ k).2
def markF (l : Int) : Str := marksL.getD ((l - 1) % 4).toNat "alive"
def sayF (seat l salt : Int) : Say := ⟨seat, (l - 1) / 4, markF l, worthF seat ((l - 1) / 4) salt⟩
theorem mark_idx : ∀ (j : Nat) (h : j < marksL.length), markN marksL[j] = j
  | 0, _ => (show markN "alive" = 0 by decide +kernel)
  | 1, _ => (show markN "suspect" = 1 by decide +kernel)
  | 2, _ => (show markN "dead" = 2 by decide +kernel)
  | 3, _ => (show markN "left" = 3 by decide +kernel)
  | n + 4, h => absurd h (by show ¬ n + 4 < 4; omega)
theorem markF_at (l : Int) : ∃ (j : Nat) (h : j < marksL.length), (l - 1) % 4 = j ∧ markF l = marksL[j] := by
  have h0 : 0 ≤ (l - 1) % 4 := Int.emod_nonneg _ (by decide)
  have h1 : (l - 1) % 4 < 4 := Int.emod_lt_of_pos _ (by decide)
  obtain ⟨j, hj⟩ := Int.eq_ofNat_of_zero_le h0
  have jl : j < marksL.length := by show j < 4; omega
  refine ⟨j, jl, hj, ?_⟩
  unfold markF
  rw [hj, Int.toNat_natCast, List.getD_eq_getElem?_getD, List.getElem?_eq_getElem jl]
  rfl
theorem sayF_rank {seat l salt : Int} : rankI (sayF seat l salt) = l := by
  obtain ⟨j, jl, e, em⟩ := markF_at l
  show 4 * ((l - 1) / 4) + (markN (markF l) : Int) + 1 = l
  rw [em, mark_idx j jl]
  have := Int.mul_ediv_add_emod (l - 1) 4
  omega
theorem sayF_ok {seat l salt r : Int} (s0 : 0 ≤ seat) (s1 : seat < r) (l1 : 1 ≤ l) (l2 : l ≤ 10 ^ 60) : (sayF seat l salt).Ok r := by
  obtain ⟨j, jl, e, em⟩ := markF_at l
  obtain ⟨w1, w2⟩ := worthF_ok seat ((l - 1) / 4) salt
  refine ⟨s0, s1, Int.ediv_nonneg (by omega) (by decide), ?_, by show markF l ∈ marksL; rw [em]; exact List.getElem_mem jl, w1, w2⟩
  show (l - 1) / 4 < 10 ^ 60
  omega
/-- what a book by levels holds -/
def rowAt (ls : List Int) (salt : Int) (j : Nat) : Option Say := match ls[j]? with
  | some l => if 0 < l then some (sayF j l salt) else none
  | none => none
theorem rowAt_some {ls : List Int} {salt : Int} {j : Nat} {s : Say} (h : rowAt ls salt j = some s) : ∃ l, ls[j]? = some l ∧ 0 < l ∧ s = sayF j l salt := by
  unfold rowAt at h
  split at h
  · rename_i l e
    split at h
    · rename_i p
      exact ⟨l, e, p, (Option.some.inj h).symm⟩
    · cases h
  · cases h
theorem rowAt_at {ls : List Int} {salt : Int} {j : Nat} {l : Int} (e : ls[j]? = some l) : rowAt ls salt j = if 0 < l then some (sayF j l salt) else none := by
  unfold rowAt
  rw [e]
theorem rowAt_top {ls : List Int} {salt : Int} {j : Nat} (h : ls.length ≤ j) : rowAt ls salt j = none := by
  unfold rowAt
  rw [List.getElem?_eq_none h]
def LvOk (ls : List Int) : Prop := ∀ l ∈ ls, 0 ≤ l ∧ l ≤ 10 ^ 60
def rowsF (ls : List Int) (salt : Int) : List Say := (List.range ls.length).filterMap (rowAt ls salt)
def SayF (s : Say) : Prop := PyData.strOk s.mark = true ∧ PyData.strOk s.worth = true
def sayD (s : Say) : PyData := .tuple [.int s.seat, .int s.life, .str s.mark, .str s.worth]
theorem say_dp {K : PySem.W.Frag} {H : Hp} {a : Addr} {s : Say} (h : SayAt H a s) : Dp K H (.ref a) (sayD s) := .tup (SqT.of h) (.cons (.int _) (.cons (.int _) (.cons (.str _) (.cons (.str _) .nil))))
theorem plain_str {wt : Str} (h : Plain wt) : PyData.strOk wt = true := by
  unfold PyData.strOk
  rw [← Array.all_toList, List.all_eq_true]
  intro c hc
  have z : plainS.cps.toList.all (fun c => decide (c < 0x110000)) = true := by decide +kernel
  exact List.all_eq_true.mp z c (h c hc)
theorem mark_str {m : Str} (h : m ∈ marksL) : PyData.strOk m = true := by
  have z : marksL.all PyData.strOk = true := by decide +kernel
  exact List.all_eq_true.mp z m h
theorem ok_fine {r : Int} {s : Say} (o : s.Ok r) : SayF s := ⟨mark_str o.m, plain_str o.p⟩
theorem lay_say {s : Say} (h : SayF s) : PyData.canLay0 (sayD s) = true := by
  simp [sayD, PyData.canLay0, PyData.canLayAll0, h.1, h.2]
theorem shaped_say {s : Say} (h : SayF s) : SeqAt.shaped (sayD s) = true := by
  unfold SeqAt.shaped
  rw [lay_say h]
  simp [sayD, PyData.depth, PyData.depthAll]
theorem eqv_say {s : Say} (h : SayF s) : PyData.eqv (sayD s) (sayD s) = true := SeqAt.eqv_refl _ (lay_say h)
theorem pd_drop {α β : Type} {F : α → β → Prop} {xs : List α} {ys : List β} (h : Paired F xs ys) : ∀ n, Paired F (xs.drop n) (ys.drop n) := by
  induction h with
  | nil => intro n; rw [List.drop_nil, List.drop_nil]; exact .nil
  | cons a t ih =>
    intro n
    cases n with
    | zero => exact .cons a t
    | succ n => exact ih n
theorem pd_take {α β : Type} {F : α → β → Prop} {xs : List α} {ys : List β} (h : Paired F xs ys) : ∀ n, Paired F (xs.take n) (ys.take n) := by
  induction h with
  | nil => intro n; rw [List.take_nil, List.take_nil]; exact .nil
  | cons a t ih =>
    intro n
    cases n with
    | zero => exact .nil
    | succ n => exact .cons a (ih n)
theorem pd_app {α β : Type} {F : α → β → Prop} {xs xs' : List α} {ys ys' : List β} (h : Paired F xs ys) (g : Paired F xs' ys') : Paired F (xs ++ xs') (ys ++ ys') := by
  induction h with
  | nil => exact g
  | cons a t ih => exact .cons a ih
theorem rows_srt (ls : List Int) (salt : Int) : ∀ n, ((((List.range n).filterMap (rowAt ls salt)).map Say.seat).Pairwise (· < ·) ∧ ∀ s ∈ (List.range n).filterMap (rowAt ls salt), s.seat < n)
  | 0 => ⟨.nil, fun s m => nomatch m⟩
  | n + 1 => by
    obtain ⟨h1, h2⟩ := rows_srt ls salt n
    rw [List.range_succ, List.filterMap_append]
    cases q : rowAt ls salt n with
    | none =>
      rw [List.filterMap_cons_none q, List.filterMap_nil, List.append_nil]
      exact ⟨h1, fun s m => by have := h2 s m; omega⟩
    | some s =>
      obtain ⟨l, _, _, rfl⟩ := rowAt_some q
      rw [List.filterMap_cons_some q, List.filterMap_nil, List.map_append]
      refine ⟨List.pairwise_append.mpr ⟨h1, List.pairwise_singleton _ _, fun a ma z mz => ?_⟩, fun s m => ?_⟩
      · obtain ⟨s, ms, rfl⟩ := List.mem_map.mp ma
        have mz : z ∈ [(n : Int)] := mz
        rw [List.mem_singleton.mp mz]
        exact h2 s ms
      · rcases List.mem_append.mp m with m | m
        · have := h2 s m; omega
        · rw [List.mem_singleton.mp m]
          show (n : Int) < ((n + 1 : Nat) : Int)
          omega
theorem rowsF_mem {ls : List Int} {salt : Int} {s : Say} : s ∈ rowsF ls salt ↔ ∃ j : Nat, rowAt ls salt j = some s := by
  unfold rowsF
  rw [List.mem_filterMap]
  constructor
  · rintro ⟨j, _, e⟩
    exact ⟨j, e⟩
  · rintro ⟨j, e⟩
    refine ⟨j, List.mem_range.mpr ?_, e⟩
    rcases Nat.lt_or_ge j ls.length with z | z
    · exact z
    · rw [rowAt_top z] at e; cases e
theorem rowAt_ok {ls : List Int} {salt : Int} (lv : LvOk ls) {j : Nat} {s : Say} (e : rowAt ls salt j = some s) : s.seat = j ∧ s.Ok (ls.length : Int) := by
  obtain ⟨l, el, l0, rfl⟩ := rowAt_some e
  have jl := (List.getElem?_eq_some_iff.mp el).1
  exact ⟨rfl, sayF_ok (by omega) (by omega) (by omega) (lv l (List.mem_of_getElem? el)).2⟩
def keyed (ss : List Say) : List (Int × Say) := ss.map fun s => (s.seat, s)
theorem keyed_snd (ss : List Say) : (keyed ss).map Prod.snd = ss := by
  unfold keyed
  rw [List.map_map]
  exact List.map_id' ss
theorem keyed_fst (ss : List Say) : (keyed ss).map Prod.fst = ss.map Say.seat := by
  unfold keyed
  rw [List.map_map]
  rfl
/-- a book of all rows of levels, in any order -/
theorem bk_of {CB : Addr} {H : Hp} {bk x L : Addr} {ls : List Int} {salt : Int} {ss : List Say} (lv : LvOk ls) (p : ss.Perm (rowsF ls salt)) (hb : BkO CB H bk x L) (hL : TupD Say.vs H L (latL ss)) : BkF CB H bk x L (keyed ss) (rowAt ls salt) ls.length := by
  have nd : ((keyed ss).map Prod.fst).Nodup := by
    rw [keyed_fst]
    exact (p.map Say.seat).nodup_iff.mpr ((rows_srt ls salt ls.length).1.imp fun h => by omega)
  have inR : ∀ s, s ∈ ss ↔ ∃ j : Nat, rowAt ls salt j = some s := fun s => by rw [p.mem_iff, rowsF_mem]
  have e : latL ss = keyed ss := by
    have := latL_ids nd fun q m => by
      obtain ⟨s, ms, rfl⟩ := List.mem_map.mp m
      obtain ⟨j, ej⟩ := (inR s).mp ms
      exact ⟨rfl, (rowAt_ok lv ej).2.l0⟩
    rw [keyed_snd] at this
    exact this
  rw [e] at hL
  refine ⟨hb, hL, nd, fun k => ?_, fun j h => rowAt_top h, fun j s h => (rowAt_ok lv h).1, fun j s h => (rowAt_ok lv h).2⟩
  cases q : lkA (keyed ss) k with
  | some s =>
    obtain ⟨s', ms, e'⟩ := List.mem_map.mp (lkA_pair q)
    injection e' with e1 e2
    subst e2
    obtain ⟨j, ej⟩ := (inR s').mp ms
    have := (rowAt_ok lv ej).1
    rw [if_pos (by omega), show k.toNat = j by omega, ej]
  | none =>
    split
    · rename_i h
      cases z : rowAt ls salt k.toNat with
      | none => rfl
      | some s =>
        have m : s ∈ ss := (inR s).mpr ⟨_, z⟩
        have := (rowAt_ok lv z).1
        have g := lkA_get nd (List.mem_map.mpr ⟨s, m, rfl⟩ : (s.seat, s) ∈ keyed ss)
        rw [show s.seat = k by omega, q] at g
        cases g
    · rfl
def spWhole : Sp := fun vs H Q _ => ∃ n : Int, vs = [.int n] ∧ Q (.bl true) H
def spWF : Sp := fun vs H Q _ => ∃ seat age salt : Int, vs = [.int seat, .int age, .int salt] ∧ ∀ H' : Hp, Fr [] H H' → Q (.str (worthF seat age salt)) H'
def spSF : Sp := fun vs H Q _ => ∃ seat l salt : Int, vs = [.int seat, .int l, .int salt] ∧ ∀ (a : Addr) (H' : Hp), Nw H a → Fr [] H H' → SayAt H' a (sayF seat l salt) → Q (.ref a) H'
def spRowsF : Sp := fun vs H Q _ => ∃ (q : Addr) (ls : List Int) (salt : Int), vs = [.ref q, .int salt] ∧ H q = some (.lst (ls.map V.int)) ∧ ls.length ≤ 256 ∧ ∀ (p : Addr) (as : List Addr) (H' : Hp), Nw H p → Fr [] H H' → H' p = some (.lst (as.map V.ref)) → SaysAt H' as (rowsF ls salt) → Q (.ref p) H'
def spIsS : Sp := fun vs H Q _ => ∃ (a : Addr) (s : Say), vs = [.ref a] ∧ SayAt H a s ∧ Q (.bl true) H
def spSameF : Sp := fun vs H Q _ => ∃ (p q : Addr) (as bs : List Addr) (ss : List Say), vs = [.ref p, .ref q] ∧ H p = some (.lst (as.map V.ref)) ∧ SaysAt H as ss ∧ H q = some (.lst (bs.map V.ref)) ∧ SaysAt H bs ss ∧ ss.length ≤ 1000 ∧ (∀ s ∈ ss, SayF s) ∧ Q (.bl true) H
def spBookF (CB CS : Addr) : Sp := fun vs H Q _ => ∃ (x q b c : Addr) (n : Nat) (ls : List Int) (salt : Int), vs = [.ref x, .ref q, .int salt, .ref b] ∧ SetN CS H x n ∧ n ≤ 8 ∧ H q = some (.lst (ls.map V.int)) ∧ (ls.length : Int) = ringN n ∧ LvOk ls ∧ Box H b c ∧ x ≠ b ∧
  ∀ (bk L : Addr) (ms : List (Int × Say)) (H' : Hp), Nw H bk → Nw H L → Box H' b c → Fr [b] H H' → BkF CB H' bk x L ms (rowAt ls salt) ls.length → Q (.ref bk) H'
section
variable {P : Program} {w : World} {K : PySem.W.Frag} {mg : Str → Option Value} {base : Heap} {CS CB : Addr}
theorem c_law_whole (T : Bl mg) (d : D0 K mg "_law_whole" s_law_whole ["x"]) : Cal P w K mg base 1 "_law_whole" spWhole [] := by
  refine cal d sc_law_whole (fun vs H Q E h => ?_) (fun cdv A outer f s H vs Q E hr h => ?_)
  · obtain ⟨n, rfl, _⟩ := h
    rfl
  · obtain ⟨n, rfl, k⟩ := h
    refine ⟨_, (pss_one (ps_ret (pe_and (pe_callB call_isi (by rfl) T.isinstance (by decide +kernel) (pa_cons (pv 0) (pa_cons (pe_bltn (v := .ty "int") (by rfl) T.int (by decide +kernel) rfl) pa_nil))) (pe_one (pe_not (pe_callB call_isi (by rfl) T.isinstance (by decide +kernel) (pa_cons (pv 0) (pa_cons (pe_bltn (v := .ty "bool") (by rfl) T.bool (by decide +kernel) rfl) pa_nil)))))))), ?_⟩
    refine ⟨_, rfl, _, _, _, _, true, rfl, .ty _, .base (.int _), kit_ty (by decide +kernel), _, rfl, iteT ?_⟩
    exact ⟨_, rfl, _, _, _, _, false, rfl, .ty _, .base (.int _), kit_ty (by decide +kernel), _, rfl, k⟩
theorem c_law_worth (T : Bl mg) (d : D0 K mg "_law_worth" s_law_worth ["seat", "age", "salt"]) : Cal P w K mg base 1 "_law_worth" spWF [] := by
  refine cal d sc_law_worth (fun vs H Q E h => ?_) (fun cdv A outer f s0 H vs Q E hr h => ?_)
  · obtain ⟨seat, age, salt, rfl, _⟩ := h
    rfl
  · obtain ⟨seat, age, salt, rfl, k⟩ := h
    refine ⟨_, (pss_cons (ps_set (i := 3) sc_law_worth.nd rfl (Or.inr rfl) pe_str)
      (pss_cons (ps_set (i := 4) sc_law_worth.nd rfl (Or.inr rfl) (pe_op op_mod (pe_callTy call_int1 (by rfl) T.int (by decide +kernel) (pa_cons (pe_op op_add (pe_op op_add (pe_op op_mul (pv 0) pe_int) (pe_op op_mul (pe_op op_mod (pe_callTy call_int1 (by rfl) T.int (by decide +kernel) (pa_cons (pv 1) pa_nil)) pe_int) pe_int)) (pv 2)) pa_nil)) pe_int))
      (pss_one (ps_ret (pe_join pe_str (pe_lc (own := [("k", 5)]) (g := gName 5) (tt := tYes) (by rfl) sc_law_worth.nd (pi_range1 rfl T.range (pa_cons (pe_op op_mod (pe_callTy call_int1 (by rfl) T.int (by decide +kernel) (pa_cons (pv 4) pa_nil)) pe_int) pa_nil)) (blkOk_by (own := [("k", 5)]) (N := n_law_worth) (sc := C8.fnScope s_law_worth) (by decide +kernel)) (fun _ _ _ _ _ => pg_name (i := 5) sc_law_worth.nd rfl (Or.inl rfl)) (fun _ _ _ _ _ => pts_nil) (fun _ _ _ _ _ => (pe_ix ix_str (pv 3) (pe_op op_mod (pe_callTy call_int1 (by rfl) T.int (by decide +kernel) (pa_cons (pe_op op_add (pe_op op_mul (pv 4) (pe_op op_add (pv 5) pe_int)) (pe_op op_mul (pv 5) (pv 5))) pa_nil)) pe_int) (fun _ _ => rfl))))))))), ?_⟩
    refine ⟨_, rfl, _, _, rfl, rfl, .inr ⟨by decide, by decide⟩, _, rfl, .inl ⟨_, rfl, _, _, rfl, rfl, pm (by decide), _, _, rfl, rfl, .inr ⟨by decide, by decide⟩, _, _, rfl, rfl, _, rfl, _, _, rfl, rfl, .inl ⟨_, rfl, _, _, rfl, rfl, pm (by decide), ?_⟩⟩⟩
    have h0 : 0 ≤ startF seat age salt % 13 := Int.emod_nonneg _ (by decide)
    have h1 : startF seat age salt % 13 < 13 := Int.emod_lt_of_pos _ (by decide)
    have g0 : 0 ≤ startF seat age salt := Int.emod_nonneg _ (by decide)
    have g1 : startF seat age salt < 1009 := Int.emod_lt_of_pos _ (by decide)
    refine ⟨⟨_, rfl⟩, _, rfl, .inl ⟨_, rfl, _, _, rfl, rfl, pm (by decide), _, rfl, ?_⟩⟩
    change (-2 ^ 62 ≤ startF seat age salt % 13 ∧ startF seat age salt % 13 < 2 ^ 62 ∧ _)
    refine ⟨by omega, by omega, fun D nD => ?_⟩
    refine lc_range (lo := 0) (n := (startF seat age salt % 13).toNat) (fun i H' => Fr [] H H' ∧ H' D = some (.lst ((((List.range i).map (wsN (startF seat age salt))).map fun c => (⟨#[c]⟩ : Str)).map V.str))) ⟨Fr.new0 nD _, upd_same⟩ (fun i H3 hi pv => ?_) (fun H3 pv => ?_)
    · obtain ⟨X3, hD⟩ := pv
      obtain ⟨w1, w2⟩ := ws_at (startF seat age salt) i
      rw [show (0 : Int) + (i : Int) = (i : Int) by omega]
      refine ⟨rfl, _, rfl, _, rfl, _, rfl, _, _, rfl, rfl, _, _, rfl, rfl, .inl ⟨by omega, by omega⟩, _, rfl, _, rfl, _, _, rfl, rfl, .inl ⟨by omega, by omega⟩, _, _, rfl, rfl, .inl ⟨_, rfl, _, _, rfl, rfl, pm (by decide), ?_⟩⟩
      refine ⟨_, _, _, rfl, rfl, by decide +kernel, w1, _, hD, by rw [List.length_map, List.length_map, List.length_map, List.length_range]; exact small1000' (by omega), X3.late (.of nD) (.lst hD) _, ?_⟩
      rw [upd_same, List.range_succ, List.map_append, List.map_append, List.map_append]
      rfl
    · obtain ⟨X3, hD⟩ := pv
      refine ⟨_, D, ((List.range (startF seat age salt % 13).toNat).map (wsN (startF seat age salt))).map fun c => (⟨#[c]⟩ : Str), rfl, rfl, .inl (SqL.of hD), ?_, k H3 X3⟩
      rw [List.map_map, List.length_map, List.length_map, List.length_range]
      have e : ∀ cs : List Nat, ((cs.map ((fun x : Str => x.length) ∘ fun c => (⟨#[c]⟩ : Str))).sum) = cs.length := fun cs => by
        induction cs with
        | nil => rfl
        | cons c cs ih =>
          rw [List.map_cons, List.sum_cons, ih, List.length_cons]
          show 1 + cs.length = _
          omega
      rw [e, List.length_map, List.length_range]
      show _ + _ * (("" : Str).length) ≤ _
      rw [show ("" : Str).length = 0 by decide +kernel]
      omega
theorem c_law_saying (T : Bl mg) (c_law_worth : Cal P w K mg base 1 "_law_worth" spWF []) (d : D0 K mg "_law_saying" s_law_saying ["seat", "level", "salt"]) : Cal P w K mg base 2 "_law_saying" spSF [] := by
  refine cal d sc_law_saying (fun vs H Q E h => ?_) (fun cdv A outer f s0 H vs Q E hr h => ?_)
  · obtain ⟨seat, l, salt, rfl, _⟩ := h
    rfl
  · obtain ⟨seat, l, salt, rfl, k⟩ := h
    refine ⟨_, (pss_cons (ps_set (i := 3) sc_law_saying.nd rfl (Or.inl rfl) (pe_op op_fdivW (pe_op op_sub (pv 1) pe_int) pe_int))
      (pss_cons (ps_set (i := 4) sc_law_saying.nd rfl (Or.inl rfl) (pe_ix ix_tup (pe_tup (pa_cons pe_str (pa_cons pe_str (pa_cons pe_str (pa_cons pe_str pa_nil))))) (pe_op op_mod (pe_callTy call_int1 (by rfl) T.int (by decide +kernel) (pa_cons (pe_op op_sub (pv 1) pe_int) pa_nil)) pe_int) (fun _ _ => rfl)))
      (pss_one (ps_ret (pe_tup (pa_cons (pv 0) (pa_cons (pv 3) (pa_cons (pv 4) (pa_cons (pe_c c_law_worth hr (by decide) rfl (pa_cons (pv 0) (pa_cons (pv 3) (pa_cons (pv 2) pa_nil)))) pa_nil))))))))), ?_⟩
    refine ⟨_, rfl, _, _, rfl, rfl, _, _, rfl, rfl, dvw (by decide) (by decide +kernel) _, ?_⟩
    refine ⟨by show 4 ≤ sizeLine; decide, fun p np => ?_⟩
    have X1 : Fr [] H (upd H p (.tup (marksL.map V.str))) := Fr.new0 np _
    have hp : upd H p (.tup (marksL.map V.str)) p = some (.tup (marksL.map V.str)) := upd_same
    obtain ⟨j, jl, e, em⟩ := markF_at l
    refine ⟨_, rfl, _, _, rfl, rfl, .inl ⟨_, rfl, _, _, rfl, rfl, pm (by decide), _, _, _, _, rfl, rfl, SqT.of hp, (show atI (marksL.map V.str) ((l - 1) % 4) = some (V.str marksL[j]) from by rw [e]; exact atI_nat (by rw [List.getElem?_map, List.getElem?_eq_getElem jl]; rfl)), ?_⟩⟩
    refine ⟨_, rfl, _, rfl, _, rfl, _, rfl, _, rfl, _, rfl, seat, (l - 1) / 4, salt, rfl, fun H2 X2 => ?_⟩
    refine ⟨by show 4 ≤ sizeLine; decide, fun t nt => ?_⟩
    have X12 := X1.trans X2
    refine k t _ (X12.live t (.of nt)) (X12.new nt _) ?_
    show upd H2 t _ t = some (.tup [V.int seat, V.int ((l - 1) / 4), V.str (markF l), V.str (worthF seat ((l - 1) / 4) salt)])
    rw [upd_same, em]
theorem c_law_rows (T : Bl mg) (c_law_saying : Cal P w K mg base 2 "_law_saying" spSF []) (d : D0 K mg "_law_rows" s_law_rows ["levels", "salt"]) : Cal P w K mg base 3 "_law_rows" spRowsF [] := by
  refine cal d sc_law_rows (fun vs H Q E h => ?_) (fun cdv A outer f s0 H vs Q E hr h => ?_)
  · obtain ⟨q, ls, salt, rfl, _⟩ := h
    rfl
  · obtain ⟨q, ls, salt, rfl, hq, l1, k⟩ := h
    refine ⟨_, (pss_one (ps_ret (pe_lc (own := [("seat", 2)]) (g := gName 2) (by rfl) sc_law_rows.nd (pi_range1 rfl T.range (pa_cons (pe_callB call_len_seq (by rfl) T.len (by decide +kernel) (pa_cons (pv 0) pa_nil)) pa_nil)) (blkOk_by (own := [("seat", 2)]) (N := n_law_rows) (sc := C8.fnScope s_law_rows) (by decide +kernel)) (fun _ _ _ _ _ => pg_name (i := 2) sc_law_rows.nd rfl (Or.inl rfl)) (fun _ _ _ _ _ => (pts_one (pt_cmpR op_gt (pe_ix (show IxR _ (rIxL K) from ix_list) (pv 0) (pv 2) (fun _ _ => rfl)) pe_int (nomark _)))) (fun _ _ _ _ _ => (pe_c c_law_saying hr (by decide) rfl (pa_cons (pv 2) (pa_cons (pe_ix (show IxR _ (rIxL K) from ix_list) (pv 0) (pv 2) (fun _ _ => rfl)) (pa_cons (pv 1) pa_nil)))))))), ?_⟩
    refine ⟨_, rfl, _, _, rfl, .inl (SqL.of hq), _, rfl, by rw [List.length_map]; omega, by rw [List.length_map]; omega, fun D nD => ?_⟩
    rw [List.length_map, Int.toNat_natCast]
    have Dq : D ≠ q := (ne_of_none hq nD).symm
    refine lc_range (lo := 0) (n := ls.length) (fun i H' => Fr [] H H' ∧ ∃ as : List Addr, as.length ≤ i ∧ H' D = some (.lst (as.map V.ref)) ∧ SaysAt H' as ((List.range i).filterMap (rowAt ls salt))) ⟨Fr.new0 nD _, [], Nat.le_refl _, upd_same, .nil⟩ (fun i H3 hi pv => ?_) (fun H3 pv => ?_)
    · obtain ⟨X3, as, las, hD, pas⟩ := pv
      have ei : ls[i]? = some (ls[i]'hi) := List.getElem?_eq_getElem hi
      have a1 : atI (ls.map V.int) (i : Int) = some (.int (ls[i]'hi)) := atI_nat (by rw [List.getElem?_map, ei]; rfl)
      have er := rowAt_at (salt := salt) ei
      have hq3 := X3.lst hq not_nil
      rw [show (0 : Int) + (i : Int) = (i : Int) by omega]
      refine ⟨rfl, _, rfl, _, rfl, _, _, _, _, rfl, rfl, SqL.of hq3, a1, _, _, rfl, rfl, _, rfl, ite2 (fun c => ?_) (fun c => ?_)⟩
      · have c : 0 < ls[i]'hi := of_decide_eq_true c
        refine ⟨_, rfl, _, rfl, _, rfl, _, _, _, _, rfl, rfl, SqL.of hq3, a1, _, rfl, (i : Int), ls[i]'hi, salt, rfl, fun a H4 na X4 ha => ?_⟩
        have hD4 := X4.lst hD not_nil
        refine ⟨_, hD4, by rw [List.length_map]; exact small1000' (by omega), (X3.trans X4).late (.of nD) (.lst hD4) _, as ++ [a], by rw [List.length_append]; show as.length + 1 ≤ _; omega, by rw [upd_same, List.map_append]; rfl, ?_⟩
        have ne : ∀ {x : Addr} {vs : List V}, H4 x = some (.tup vs) → x ≠ D := fun h z => by rw [z, hD4] at h; cases h
        rw [List.range_succ, List.filterMap_append, List.filterMap_cons_some (b := sayF i (ls[i]'hi) salt) (by rw [er, if_pos c])]
        refine paired_snoc (paired_imp0 (pas.fr0 X4) fun x s' h => ?_) ?_
        · have h : H4 x = some (.tup s'.vs) := h
          show upd H4 D _ x = _
          rw [upd_ne (ne h)]
          exact h
        · show upd H4 D _ a = _
          rw [upd_ne (ne ha)]
          exact ha
      · have c : ¬ 0 < ls[i]'hi := fun z => c (decide_eq_true z)
        refine ⟨X3, as, by omega, hD, ?_⟩
        rw [List.range_succ, List.filterMap_append, List.filterMap_cons_none (by rw [er, if_neg c]), List.filterMap_nil, List.append_nil]
        exact pas
    · obtain ⟨X3, as, las, hD, pas⟩ := pv
      exact k D as H3 (.of nD) X3 hD pas
theorem c_law_is_saying (T : Bl mg) (c_law_whole : Cal P w K mg base 1 "_law_whole" spWhole []) (d : D0 K mg "_law_is_saying" s_law_is_saying ["x"]) : Cal P w K mg base 2 "_law_is_saying" spIsS [] := by
  refine cal d sc_law_is_saying (fun vs H Q E h => ?_) (fun cdv A outer f s0 H vs Q E hr h => ?_)
  · obtain ⟨a, s, rfl, _⟩ := h
    rfl
  · obtain ⟨a, s, rfl, ha, k⟩ := h
    refine ⟨_, (pss_cons (ps_if (PW.pt (pw_or (pt_not (pt_val (pe_callB call_isi (by rfl) T.isinstance (by decide +kernel) (pa_cons (pv 0) (pa_cons (pe_bltn (v := .ty "tuple") (by rfl) T.tuple (by decide +kernel) rfl) pa_nil))))) (pw_or1 (pt_cmpR op_ne (pe_callB call_len_seq (by rfl) T.len (by decide +kernel) (pa_cons (pv 0) pa_nil)) pe_int (nomark _))))) (pss_one (ps_ret pe_bl)) pss_nil)
      (pss_one (ps_ret (pe_and (pe_c c_law_whole hr (by decide) rfl (pa_cons (pe_ix ix_tup (pv 0) pe_int (fun _ _ => rfl)) pa_nil)) (pe_and (pe_c c_law_whole hr (by decide) rfl (pa_cons (pe_ix ix_tup (pv 0) pe_int (fun _ _ => rfl)) pa_nil)) (pe_and (pe_callB call_isi (by rfl) T.isinstance (by decide +kernel) (pa_cons (pe_ix ix_tup (pv 0) pe_int (fun _ _ => rfl)) (pa_cons (pe_bltn (v := .ty "str") (by rfl) T.str (by decide +kernel) rfl) pa_nil))) (pe_one (pe_callB call_isi (by rfl) T.isinstance (by decide +kernel) (pa_cons (pe_ix ix_tup (pv 0) pe_int (fun _ _ => rfl)) (pa_cons (pe_bltn (v := .ty "str") (by rfl) T.str (by decide +kernel) rfl) pa_nil)))))))))), ?_⟩
    have q := SqT.of (K := K) ha
    refine ⟨_, rfl, _, _, _, _, true, rfl, .ty _, .base (.tup ha), kit_ty (by decide +kernel), _, rfl, iteF ?_⟩
    refine ⟨_, rfl, _, _, rfl, .inr q, rfl, _, rfl, iteF ?_⟩
    refine ⟨_, rfl, _, _, _, _, rfl, rfl, q, rfl, s.seat, rfl, _, rfl, iteT ?_⟩
    refine ⟨_, rfl, _, _, _, _, rfl, rfl, q, rfl, s.life, rfl, _, rfl, iteT ?_⟩
    refine ⟨_, rfl, _, _, _, _, rfl, rfl, q, rfl, _, _, _, _, true, rfl, .ty _, .base (.str _), kit_ty (by decide +kernel), _, rfl, iteT ?_⟩
    exact ⟨_, rfl, _, _, _, _, rfl, rfl, q, rfl, _, _, _, _, true, rfl, .ty _, .base (.str _), kit_ty (by decide +kernel), k⟩
theorem c_law_same (T : Bl mg) (c_law_is_saying : Cal P w K mg base 2 "_law_is_saying" spIsS []) (d : D0 K mg "_law_same" s_law_same ["found", "rows"]) : Cal P w K mg base 3 "_law_same" spSameF [] := by
  refine cal d sc_law_same (fun vs H Q E h => ?_) (fun cdv A outer f s0 H vs Q E hr h => ?_)
  · obtain ⟨p, q, as, bs, ss, rfl, _⟩ := h
    rfl
  · obtain ⟨p, q, as, bs, ss, rfl, hp, has, hq, hbs, ll, fine, k⟩ := h
    refine ⟨_, (pss_cons (ps_if (PW.pt (pw_or (pt_not (pt_val (pe_callB call_isi (by rfl) T.isinstance (by decide +kernel) (pa_cons (pv 0) (pa_cons (pe_bltn (v := .ty "list") (by rfl) T.list (by decide +kernel) rfl) pa_nil))))) (pw_or1 (pt_cmpR op_ne (pe_callB call_len_seq (by rfl) T.len (by decide +kernel) (pa_cons (pv 0) pa_nil)) (pe_callB call_len_seq (by rfl) T.len (by decide +kernel) (pa_cons (pv 1) pa_nil)) (nomark _))))) (pss_one (ps_ret pe_bl)) pss_nil)
      (pss_cons (ps_for PassesOwn.never rfl (pi_range1 rfl T.range (pa_cons (pe_callB call_len_seq (by rfl) T.len (by decide +kernel) (pa_cons (pv 1) pa_nil)) pa_nil)) (pg_name (i := 2) sc_law_same.nd rfl (Or.inl rfl)) (pss_one (ps_if (PW.pt (pw_or (pt_not (pt_val (pe_c c_law_is_saying hr (by decide) rfl (pa_cons (pe_ix ix_list (pv 0) (pv 2) (fun _ _ => rfl)) pa_nil)))) (pw_or1 (pt_cmpR (op_neD hr.units) (pe_ix ix_list (pv 0) (pv 2) (fun _ _ => rfl)) (pe_ix ix_list (pv 1) (pv 2) (fun _ _ => rfl)) (nomark _))))) (pss_one (ps_ret pe_bl)) pss_nil)))
      (pss_one (ps_ret pe_bl)))), ?_⟩
    have la := has.length
    have lb := hbs.length
    refine ⟨_, rfl, _, _, _, _, true, rfl, .ty _, .base (.lst hp), kit_ty (by decide +kernel), _, rfl, iteF ?_⟩
    refine ⟨_, rfl, _, _, rfl, .inl (SqL.of hp), _, rfl, _, _, rfl, .inl (SqL.of hq), rfl, _, rfl, ?_⟩
    rw [show (!decide (V.int (((as.map V.ref).length : Nat) : Int) = V.int (((bs.map V.ref).length : Nat) : Int))) = false by rw [decide_eq_true (by rw [List.length_map, List.length_map, la, lb])]; rfl]
    refine iteF ?_
    refine ⟨_, rfl, _, _, rfl, .inl (SqL.of hq), _, rfl, by rw [List.length_map]; omega, by rw [List.length_map]; omega, ?_⟩
    rw [List.length_map, lb]
    refine for_range (lo := 0) (n := _) (fun i σ H2 => H2 = H ∧ ∃ v1 : Option V, σ = [some (.ref p), some (.ref q), v1]) ⟨rfl, _, rfl⟩ ?_ ?_
    · rintro i σ H2 hi ⟨rfl, v1, rfl⟩
      rw [Int.toNat_natCast] at hi
      obtain ⟨a, ea⟩ : ∃ a, as[i]? = some a := ⟨as[i], List.getElem?_eq_getElem (by omega)⟩
      obtain ⟨b, eb⟩ : ∃ b, bs[i]? = some b := ⟨bs[i], List.getElem?_eq_getElem (by omega)⟩
      obtain ⟨s, es, ha⟩ := pd_get0 has ea
      obtain ⟨s', es', hb⟩ := pd_get0 hbs eb
      rw [es] at es'
      cases es'
      have a1 : atI (as.map V.ref) (i : Int) = some (.ref a) := atI_nat (by rw [List.getElem?_map, ea]; rfl)
      have a2 : atI (bs.map V.ref) (i : Int) = some (.ref b) := atI_nat (by rw [List.getElem?_map, eb]; rfl)
      have fs := fine s (List.mem_of_getElem? es)
      rw [show (0 : Int) + (i : Int) = (i : Int) by omega]
      refine ⟨_, rfl, _, rfl, _, _, _, _, rfl, rfl, SqL.of hp, a1, a, s, rfl, ha, _, rfl, iteF ?_⟩
      refine ⟨_, rfl, _, rfl, _, _, _, _, rfl, rfl, SqL.of hp, a1, _, rfl, _, rfl, _, _, _, _, rfl, rfl, SqL.of hq, a2, _, _, say_dp ha, say_dp hb, shaped_say fs, shaped_say fs, _, rfl, ?_⟩
      rw [eqv_say fs]
      exact iteF ⟨rfl, _, rfl⟩
    · rintro σ H2 ⟨rfl, v1, rfl⟩
      exact k
theorem c_law_book (T : Bl mg) (c_law_take : Cal P w K mg base 2 "_law_take" spDraw []) (c_law_rows : Cal P w K mg base 3 "_law_rows" spRowsF []) (c_Book : Mak P w K mg base 6 "Book" CB (spBook CB CS) []) (d : D0 K mg "_law_book" s_law_book ["setting", "levels", "salt", "box"]) : Cal P w K mg base 8 "_law_book" (spBookF CB CS) [] := by
  refine cal d sc_law_book (fun vs H Q E h => ?_) (fun cdv A outer f s0 H vs Q E hr h => ?_)
  · obtain ⟨x, q, b, c, n, ls, salt, rfl, _⟩ := h
    rfl
  · obtain ⟨x, q, b, c, n, ls, salt, rfl, hx, n8, hq, ln, lv, B, xb, k⟩ := h
    refine ⟨_, (pss_cons (ps_set (i := 4) sc_law_book.nd rfl (Or.inl rfl) (pe_c c_law_rows hr (by decide) rfl (pa_cons (pv 1) (pa_cons (pv 2) pa_nil))))
      (pss_cons (ps_set (i := 5) sc_law_book.nd rfl (Or.inl rfl) (pe_c c_law_take hr (by decide) rfl (pa_cons (pv 3) (pa_cons (pe_op op_add (pe_callB call_len_seq (by rfl) T.len (by decide +kernel) (pa_cons (pv 4) pa_nil)) pe_int) pa_nil))))
      (pss_one (ps_ret (pe_mk c_Book hr (by decide) rfl (pa_cons (pv 0) (pa_cons (pe_op op_cat (pe_slice sl_list (pv 4) (po_some (pv 5)) po_none) (pe_slice sl_list (pv 4) po_none (po_some (pv 5)))) pa_nil))))))), ?_⟩
    have R6 := ringN_le n8
    have l256 : ls.length ≤ 256 := by omega
    refine ⟨_, rfl, _, rfl, q, ls, salt, rfl, hq, l256, fun p as H1 np X1 hp has => ?_⟩
    have la := has.length
    have lr : (rowsF ls salt).length ≤ 256 := Nat.le_trans (List.length_filterMap_le _ _) (by rw [List.length_range]; exact l256)
    have B1 := B.fr0 X1
    refine ⟨_, rfl, _, rfl, _, _, rfl, .inl (SqL.of hp), _, _, rfl, rfl, b, c, _, rfl, B1, by omega, ?_, fun ct H2 c0 c1 B2 X2 => ?_⟩
    · refine Int.lt_of_le_of_lt (show _ ≤ (1000 : Int) from ?_) (by decide +kernel)
      rw [List.length_map, la]
      omega
    have hp2 := X2.lst hp (not_one (B.nw_ne np).1)
    have has2 := has.fr X2 B1.nt
    have hx2 := (hx.fr X1 not_nil).fr X2 (not_one xb)
    refine ⟨_, rfl, _, rfl, _, rfl, _, rfl, p, _, rfl, SqL.of hp2, fun s1 ns1 => ?_⟩
    have Y1 : Fr [] H2 (upd H2 s1 (.lst (cutV (as.map V.ref) (some ct) none))) := Fr.new0 ns1 _
    refine ⟨_, rfl, _, rfl, _, rfl, p, _, rfl, SqL.of (Y1.lst hp2 not_nil), fun s2 ns2 => ?_⟩
    have Y2 := Y1.new ns2 (.lst (cutV (as.map V.ref) none (some ct)))
    refine ⟨_, _, _, _, rfl, rfl, upd_new ns2 upd_same, upd_same, ?_, fun l nl => ?_⟩
    · rw [cut_from c0, cut_to c0, List.length_drop, List.length_take, List.length_map, la]
      exact Nat.le_of_lt (small1000' (by omega))
    have Y3 := Y2.new nl (.lst (cutV (as.map V.ref) (some ct) none ++ cutV (as.map V.ref) none (some ct)))
    have hl3 : upd (upd (upd H2 s1 (.lst (cutV (as.map V.ref) (some ct) none))) s2 (.lst (cutV (as.map V.ref) none (some ct)))) l (.lst (cutV (as.map V.ref) (some ct) none ++ cutV (as.map V.ref) none (some ct))) l = some (.lst ((as.drop ct.toNat ++ as.take ct.toNat).map V.ref)) := by
      rw [upd_same, cut_from c0, cut_to c0, List.map_append, List.map_drop, List.map_take]
    generalize upd (upd (upd H2 s1 (.lst (cutV (as.map V.ref) (some ct) none))) s2 (.lst (cutV (as.map V.ref) none (some ct)))) l (.lst (cutV (as.map V.ref) (some ct) none ++ cutV (as.map V.ref) none (some ct))) = H3 at Y3 hl3
    have has3 := has2.fr0 Y3
    have pm3 : ((rowsF ls salt).drop ct.toNat ++ (rowsF ls salt).take ct.toNat).Perm (rowsF ls salt) := List.perm_append_comm.trans (by rw [List.take_append_drop])
    intro o dx no ndx ne
    refine book_made no ndx ne (hx2.fr Y3 not_nil) n8 hl3 (pd_app (pd_drop has3 _) (pd_take has3 _)) (fun s m => ?_) (by rw [pm3.length_eq]; omega) fun L H4 nL X4 hb hL => ?_
    · obtain ⟨j, ej⟩ := rowsF_mem.mp (pm3.mem_iff.mp m)
      rw [← ln]
      exact (rowAt_ok lv ej).2
    have X24 := Y3.trans X4
    have X14 : Fr [b] H1 H4 := X2.trans (X24.mono fun a m => nomatch m)
    have X04 : Fr [b] H H4 := (X1.mono fun a m => nomatch m).trans X14
    exact k o L _ H4 (X1.live o (X2.live o (Y3.live o (.of no)))) (X1.live L (X2.live L (Y3.live L nL))) (B2.fr0 X24) X04 (bk_of lv pm3 hb hL)
end
end K29

set_option Elab.async false
set_option maxRecDepth 100000
set_option maxHeartbeats 4000000
set_option exponentiation.threshold 4096
set_option linter.unusedVariables false
/-! moments, and what differs in a range -/
namespace K29
open PySem PySem.Spec PyProof.Rows L2 C8 LamX UF
def S0 (g : Nat → Int) : Nat → Int
  | 0 => 0
  | n + 1 => S0 g n + g n
def S1 (g : Nat → Int) : Nat → Int
  | 0 => 0
  | n + 1 => S1 g n + g n * (1 + (n : Int))
def S2 (g : Nat → Int) : Nat → Int
  | 0 => 0
  | n + 1 => S2 g n + g n * (1 + (n : Int)) * (1 + (n : Int))
theorem S_congr {g h : Nat → Int} : ∀ w, (∀ n, n < w → g n = h n) → S0 g w = S0 h w ∧ S1 g w = S1 h w ∧ S2 g w = S2 h w
  | 0, _ => ⟨rfl, rfl, rfl⟩
  | w + 1, e => by
    obtain ⟨a, b, c⟩ := S_congr w fun n h => e n (by omega)
    have := e w (by omega)
    exact ⟨by unfold S0; rw [a, this], by unfold S1; rw [b, this], by unfold S2; rw [c, this]⟩
structure Mom where
  a : Int
  b : Int
  c : Int
deriving DecidableEq
def momF (g : Nat → Int) (w : Nat) : Mom := ⟨S0 g w, S1 g w, S2 g w⟩
theorem momF_congr {g h : Nat → Int} {w : Nat} (e : ∀ n, n < w → g n = h n) : momF g w = momF h w := by
  obtain ⟨a, b, c⟩ := S_congr w e
  unfold momF
  rw [a, b, c]
def Mom.vs (m : Mom) : List V := [.int m.a, .int m.b, .int m.c]
def momD (m : Mom) : PyData := .tuple [.int m.a, .int m.b, .int m.c]
theorem mom_dp {K : PySem.W.Frag} {H : Hp} {a : Addr} {m : Mom} (h : H a = some (.tup m.vs)) : Dp K H (.ref a) (momD m) := .tup (SqT.of h) (.cons (.int _) (.cons (.int _) (.cons (.int _) .nil)))
theorem shaped_mom (m : Mom) : SeqAt.shaped (momD m) = true := by
  unfold SeqAt.shaped
  simp [momD, PyData.canLay0, PyData.canLayAll0, PyData.depth, PyData.depthAll]
theorem eqv_mom (m k : Mom) : PyData.eqv (momD m) (momD k) = decide (m = k) := by
  cases m with
  | mk a b c =>
    cases k with
    | mk a' b' c' =>
      simp only [momD, PyData.eqv, PyData.eqvAll, Bool.and_true]
      rw [Bool.eq_iff_iff]
      simp
def oD : Option Say → PyData
  | none => .none
  | some s => sayD s
theorem o_dp {K : PySem.W.Frag} {H : Hp} {v : V} {o : Option Say} (h : oSay H v o) : Dp K H v (oD o) := by
  cases o with
  | none => cases (show v = V.non from h); exact .non
  | some s => obtain ⟨a, rfl, ha⟩ := h; exact say_dp ha
theorem shaped_o {o : Option Say} (h : ∀ s, o = some s → SayF s) : SeqAt.shaped (oD o) = true := by
  cases o with
  | none => unfold SeqAt.shaped; simp [oD, PyData.canLay0, PyData.depth]
  | some s => exact shaped_say (h s rfl)
theorem eqv_o (o p : Option Say) : PyData.eqv (oD o) (oD p) = true ↔ o = p := by
  cases o with
  | none =>
    cases p with
    | none => simp [oD, PyData.eqv]
    | some t => simp [oD, sayD, PyData.eqv]
  | some s =>
    cases p with
    | none => simp [oD, sayD, PyData.eqv]
    | some t =>
      cases s with
      | mk a b c d =>
        cases t with
        | mk a' b' c' d' => simp [oD, sayD, PyData.eqv, PyData.eqvAll]
/-- the same rows in a range -/
def SameR (f g : Nat → Option Say) (low w : Nat) : Prop := ∀ n, n < w → f (low + n) = g (low + n)
def lvl (f : Nat → Option Say) (low n : Nat) : Int := rankO (f (low + n))
def ClashR (f g : Nat → Option Say) (low w : Nat) : Prop := ¬ SameR f g low w ∧ momF (lvl f low) w = momF (lvl g low) w
def spMom (CB : Addr) : Sp := fun vs H Q _ => ∃ (bk x L : Addr) (ms : List (Int × Say)) (f : Nat → Option Say) (N low wd : Nat), vs = [.ref bk, .int (low : Int), .int (wd : Int)] ∧ BkF CB H bk x L ms f N ∧ wd ≤ 1000 ∧ ∀ (t : Addr) (H' : Hp), Nw H t → Fr [] H H' → H' t = some (.tup (momF (lvl f low) wd).vs) → Q (.ref t) H'
def spSums : Sp := fun vs H Q _ => ∃ (q : Addr) (ls : List Int) (low wd : Nat), vs = [.ref q, .int (low : Int), .int (wd : Int)] ∧ H q = some (.lst (ls.map V.int)) ∧ low + wd ≤ ls.length ∧ wd ≤ 1000 ∧ ∀ (t : Addr) (H' : Hp), Nw H t → Fr [] H H' → H' t = some (.tup (momF (fun n => ls.getD (low + n) 0) wd).vs) → Q (.ref t) H'
def spExact : Sp := fun vs H Q _ => ∃ (t u : Addr) (m : Mom), vs = [.ref t, .ref u] ∧ H t = some (.tup m.vs) ∧ H u = some (.tup m.vs) ∧ Q (.bl true) H
def spIsCl (CB : Addr) : Sp := fun vs H Q _ => ∃ (bk x L ok xo Lo : Addr) (ms mo : List (Int × Say)) (f g : Nat → Option Say) (N low wd : Nat), vs = [.ref bk, .ref ok, .int (low : Int), .int (wd : Int)] ∧ BkF CB H bk x L ms f N ∧ BkF CB H ok xo Lo mo g N ∧ wd ≤ 1000 ∧ low ≤ 1000 ∧ ∀ (c : Bool) (H' : Hp), (c = true ↔ ClashR f g low wd) → Fr [] H H' → Q (.bl c) H'
section
variable {P : Program} {w : World} {K : PySem.W.Frag} {mg : Str → Option Value} {base : Heap} {CS CB : Addr}
theorem c_moments (T : Bl mg) (m_of : Met P w K mg base 1 CB "of" (spOf CB) []) (c_rank : Cal P w K mg base 1 "rank" spRankP []) (d : D0 K mg "moments" s_moments ["book", "low", "width"]) : Cal P w K mg base 2 "moments" (spMom CB) [] := by
  refine cal d sc_moments (fun vs H Q E h => ?_) (fun cdv A outer f0 s0 H vs Q E hr h => ?_)
  · obtain ⟨bk, x, L, ms, f, N, low, wd, rfl, _⟩ := h
    rfl
  · obtain ⟨bk, x, L, ms, f, N, low, wd, rfl, B, l1, k⟩ := h
    refine ⟨_, (pss_cons (ps_set (i := 3) sc_moments.nd rfl (Or.inl rfl) pe_int)
      (pss_cons (ps_set (i := 4) sc_moments.nd rfl (Or.inl rfl) pe_int)
      (pss_cons (ps_set (i := 5) sc_moments.nd rfl (Or.inl rfl) pe_int)
      (pss_cons (ps_for PassesOwn.never rfl (pi_range2 rfl T.range (pa_cons pe_int (pa_cons (pe_op op_add (pv 2) pe_int) pa_nil))) (pg_name (i := 6) sc_moments.nd rfl (Or.inl rfl)) (pss_cons (ps_set (i := 7) sc_moments.nd rfl (Or.inl rfl) (pe_c c_rank hr (by decide) rfl (pa_cons (pe_mt m_of hr (by decide) (pv 0) (pa_cons (pe_op op_sub (pe_op op_add (pv 1) (pv 6)) pe_int) pa_nil)) pa_nil)))
      (pss_cons (ps_aug (i := 3) sc_moments.nd rfl (Or.inl rfl) (pv 7) ip_add)
      (pss_cons (ps_aug (i := 4) sc_moments.nd rfl (Or.inl rfl) (pe_op op_mul (pv 7) (pv 6)) ip_add)
      (pss_one (ps_aug (i := 5) sc_moments.nd rfl (Or.inl rfl) (pe_op op_mul (pe_op op_mul (pv 7) (pv 6)) (pv 6)) ip_add))))))
      (pss_one (ps_ret (pe_tup (pa_cons (pv 3) (pa_cons (pv 4) (pa_cons (pv 5) pa_nil)))))))))), ?_⟩
    refine ⟨_, rfl, _, _, rfl, rfl, 1, (wd : Int) + 1, rfl, ⟨by decide, by decide, by omega, by omega⟩, ?_⟩
    rw [show ((wd : Int) + 1 - 1).toNat = wd by omega]
    obtain ⟨dx, eb⟩ := id B.hb
    refine for_range (lo := 1) (n := wd) (fun i σ H' => H' = H ∧ ∃ v6 v7 : Option V, σ = [some (.ref bk), some (.int (low : Int)), some (.int (wd : Int)), some (.int (S0 (lvl f low) i)), some (.int (S1 (lvl f low) i)), some (.int (S2 (lvl f low) i)), v6, v7]) ⟨rfl, _, _, rfl⟩ ?_ ?_
    · rintro i σ H' hi ⟨rfl, v6, v7, rfl⟩
      refine ⟨_, rfl, bk, dx, _, rfl, eb, fb_of, _, rfl, _, rfl, _, _, rfl, rfl, _, _, rfl, rfl, ?_⟩
      refine ⟨bk, x, L, ((low + i : Nat) : Int), ms, by show [V.ref bk, V.int ((low : Int) + (1 + (i : Int)) - 1)] = _; rw [show (low : Int) + (1 + (i : Int)) - 1 = ((low + i : Nat) : Int) by omega], B.hb, B.hL, fun v hv => ?_⟩
      rw [B.at_] at hv
      refine ⟨v, f (low + i), rfl, hv, (fun s e => (B.ok _ s e).m), ?_⟩
      refine ⟨_, rfl, _, rfl, _, _, rfl, rfl, ?_⟩
      refine ⟨_, rfl, _, rfl, _, rfl, _, _, rfl, rfl, .inr ⟨by omega, by omega⟩, _, _, rfl, rfl, ?_⟩
      refine ⟨_, rfl, _, rfl, _, rfl, _, _, rfl, rfl, .inr ⟨by omega, by omega⟩, _, rfl, _, _, rfl, rfl, .inr ⟨by omega, by omega⟩, _, _, rfl, rfl, ?_⟩
      exact ⟨rfl, _, _, rfl⟩
    · rintro σ H' ⟨rfl, v6, v7, rfl⟩
      refine ⟨_, rfl, _, rfl, _, rfl, by show 3 ≤ sizeLine; decide, fun t nt => ?_⟩
      exact k t _ (.of nt) (Fr.new0 nt _) upd_same
theorem c_law_sums (T : Bl mg) (d : D0 K mg "_law_sums" s_law_sums ["levels", "low", "width"]) : Cal P w K mg base 1 "_law_sums" spSums [] := by
  refine cal d sc_law_sums (fun vs H Q E h => ?_) (fun cdv A outer f0 s0 H vs Q E hr h => ?_)
  · obtain ⟨q, ls, low, wd, rfl, _⟩ := h
    rfl
  · obtain ⟨q, ls, low, wd, rfl, hq, lw, l1, k⟩ := h
    refine ⟨_, (pss_cons (ps_set (i := 3) sc_law_sums.nd rfl (Or.inl rfl) pe_int)
      (pss_cons (ps_set (i := 4) sc_law_sums.nd rfl (Or.inl rfl) pe_int)
      (pss_cons (ps_set (i := 5) sc_law_sums.nd rfl (Or.inl rfl) pe_int)
      (pss_cons (ps_for PassesOwn.never rfl (pi_range2 rfl T.range (pa_cons pe_int (pa_cons (pe_op op_add (pv 2) pe_int) pa_nil))) (pg_name (i := 6) sc_law_sums.nd rfl (Or.inl rfl)) (pss_cons (ps_set (i := 7) sc_law_sums.nd rfl (Or.inl rfl) (pe_ix ix_list (pv 0) (pe_op op_sub (pe_op op_add (pv 1) (pv 6)) pe_int) (fun _ _ => rfl)))
      (pss_cons (ps_set (i := 3) sc_law_sums.nd rfl (Or.inl rfl) (pe_op op_add (pv 3) (pv 7)))
      (pss_cons (ps_set (i := 4) sc_law_sums.nd rfl (Or.inl rfl) (pe_op op_add (pv 4) (pe_op op_mul (pv 7) (pv 6))))
      (pss_one (ps_set (i := 5) sc_law_sums.nd rfl (Or.inl rfl) (pe_op op_add (pv 5) (pe_op op_mul (pe_op op_mul (pv 7) (pv 6)) (pv 6)))))))))
      (pss_one (ps_ret (pe_tup (pa_cons (pv 3) (pa_cons (pv 4) (pa_cons (pv 5) pa_nil)))))))))), ?_⟩
    refine ⟨_, rfl, _, _, rfl, rfl, 1, (wd : Int) + 1, rfl, ⟨by decide, by decide, by omega, by omega⟩, ?_⟩
    rw [show ((wd : Int) + 1 - 1).toNat = wd by omega]
    refine for_range (lo := 1) (n := wd) (fun i σ H' => H' = H ∧ ∃ v6 v7 : Option V, σ = [some (.ref q), some (.int (low : Int)), some (.int (wd : Int)), some (.int (S0 (fun n => ls.getD (low + n) 0) i)), some (.int (S1 (fun n => ls.getD (low + n) 0) i)), some (.int (S2 (fun n => ls.getD (low + n) 0) i)), v6, v7]) ⟨rfl, _, _, rfl⟩ ?_ ?_
    · rintro i σ H' hi ⟨rfl, v6, v7, rfl⟩
      have il : low + i < ls.length := by omega
      have e : ls.getD (low + i) 0 = ls[low + i] := by rw [List.getD_eq_getElem?_getD, List.getElem?_eq_getElem il]; rfl
      have a1 : atI (ls.map V.int) ((low : Int) + (1 + (i : Int)) - 1) = some (.int (ls.getD (low + i) 0)) := by
        rw [show (low : Int) + (1 + (i : Int)) - 1 = ((low + i : Nat) : Int) by omega, e]
        exact atI_nat (by rw [List.getElem?_map, List.getElem?_eq_getElem il]; rfl)
      refine ⟨_, rfl, _, rfl, _, rfl, _, _, rfl, rfl, _, _, rfl, rfl, _, _, _, _, rfl, rfl, SqL.of hq, a1, ?_⟩
      refine ⟨_, rfl, _, rfl, _, _, rfl, rfl, ?_⟩
      refine ⟨_, rfl, _, rfl, _, rfl, _, _, rfl, rfl, .inr ⟨by omega, by omega⟩, _, _, rfl, rfl, ?_⟩
      refine ⟨_, rfl, _, rfl, _, rfl, _, _, rfl, rfl, .inr ⟨by omega, by omega⟩, _, rfl, _, _, rfl, rfl, .inr ⟨by omega, by omega⟩, _, _, rfl, rfl, ?_⟩
      exact ⟨rfl, _, _, rfl⟩
    · rintro σ H' ⟨rfl, v6, v7, rfl⟩
      refine ⟨_, rfl, _, rfl, _, rfl, by show 3 ≤ sizeLine; decide, fun t nt => ?_⟩
      exact k t _ (.of nt) (Fr.new0 nt _) upd_same
theorem c_law_exact (T : Bl mg) (c_law_whole : Cal P w K mg base 1 "_law_whole" spWhole []) (d : D0 K mg "_law_exact" s_law_exact ["found", "due"]) : Cal P w K mg base 2 "_law_exact" spExact [] := by
  refine cal d sc_law_exact (fun vs H Q E h => ?_) (fun cdv A outer f0 s0 H vs Q E hr h => ?_)
  · obtain ⟨t, u, m, rfl, _⟩ := h
    rfl
  · obtain ⟨t, u, m, rfl, ht, hu, k⟩ := h
    refine ⟨_, (pss_cons (ps_if (PW.pt (pw_or (pt_not (pt_val (pe_callB call_isi (by rfl) T.isinstance (by decide +kernel) (pa_cons (pv 0) (pa_cons (pe_bltn (v := .ty "tuple") (by rfl) T.tuple (by decide +kernel) rfl) pa_nil))))) (pw_or1 (pt_cmpR op_ne (pe_callB call_len_seq (by rfl) T.len (by decide +kernel) (pa_cons (pv 0) pa_nil)) pe_int (nomark _))))) (pss_one (ps_ret pe_bl)) pss_nil)
      (pss_one (ps_ret (pe_and (pe_c c_law_whole hr (by decide) rfl (pa_cons (pe_ix ix_tup (pv 0) pe_int (fun _ _ => rfl)) pa_nil)) (pe_and (pe_c c_law_whole hr (by decide) rfl (pa_cons (pe_ix ix_tup (pv 0) pe_int (fun _ _ => rfl)) pa_nil)) (pe_and (pe_c c_law_whole hr (by decide) rfl (pa_cons (pe_ix ix_tup (pv 0) pe_int (fun _ _ => rfl)) pa_nil)) (pe_one (pe_cmpR (op_eqD hr.units) (pv 0) (pv 1) (nomark _))))))))), ?_⟩
    have q := SqT.of (K := K) ht
    refine ⟨_, rfl, _, _, _, _, true, rfl, .ty _, .base (.tup ht), kit_ty (by decide +kernel), _, rfl, iteF ?_⟩
    refine ⟨_, rfl, _, _, rfl, .inr q, rfl, _, rfl, iteF ?_⟩
    refine ⟨_, rfl, _, _, _, _, rfl, rfl, q, rfl, m.a, rfl, _, rfl, iteT ?_⟩
    refine ⟨_, rfl, _, _, _, _, rfl, rfl, q, rfl, m.b, rfl, _, rfl, iteT ?_⟩
    refine ⟨_, rfl, _, _, _, _, rfl, rfl, q, rfl, m.c, rfl, _, rfl, iteT ?_⟩
    refine ⟨_, rfl, _, rfl, _, _, mom_dp ht, mom_dp hu, shaped_mom m, shaped_mom m, ?_⟩
    rw [eqv_mom, decide_eq_true rfl]
    exact k
theorem c_is_clash (T : Bl mg) (m_of : Met P w K mg base 1 CB "of" (spOf CB) []) (c_moments : Cal P w K mg base 2 "moments" (spMom CB) []) (d : D0 K mg "is_clash" s_is_clash ["book", "other", "low", "width"]) : Cal P w K mg base 3 "is_clash" (spIsCl CB) [] := by
  refine cal d sc_is_clash (fun vs H Q E h => ?_) (fun cdv A outer f0 s0 H vs Q E hr h => ?_)
  · obtain ⟨bk, x, L, ok, xo, Lo, ms, mo, f, g, N, low, wd, rfl, _⟩ := h
    rfl
  · obtain ⟨bk, x, L, ok, xo, Lo, ms, mo, f, g, N, low, wd, rfl, B, C, l1, l2, k⟩ := h
    refine ⟨_, (pss_cons (ps_if (pt_val (pe_callB (cr_all rfl) (by rfl) T.all (by decide +kernel) (pa_cons (pe_lc (own := [("seat", 4)]) (g := gName 4) (tt := tYes) (by rfl) sc_is_clash.nd (pi_range2 rfl T.range (pa_cons (pv 2) (pa_cons (pe_op op_add (pv 2) (pv 3)) pa_nil))) (blkOk_by (own := [("seat", 4)]) (N := n_is_clash) (sc := C8.fnScope s_is_clash) (by decide +kernel)) (fun _ _ _ _ _ => pg_name (i := 4) sc_is_clash.nd rfl (Or.inl rfl)) (fun _ _ _ _ _ => pts_nil) (fun _ _ _ _ _ => (pe_cmpR (show OpR _ (compareOp .Eq) (rEqD K) from op_eqD hr.units) (pe_mt m_of hr (by decide) (pv 0) (pa_cons (pv 4) pa_nil)) (pe_mt m_of hr (by decide) (pv 1) (pa_cons (pv 4) pa_nil)) (nomark _)))) pa_nil))) (pss_one (ps_ret pe_bl)) pss_nil)
      (pss_one (ps_ret (pe_cmpR (op_eqD hr.units) (pe_c c_moments hr (by decide) rfl (pa_cons (pv 0) (pa_cons (pv 2) (pa_cons (pv 3) pa_nil)))) (pe_c c_moments hr (by decide) rfl (pa_cons (pv 1) (pa_cons (pv 2) (pa_cons (pv 3) pa_nil)))) (nomark _))))), ?_⟩
    refine ⟨_, rfl, _, rfl, _, rfl, _, _, rfl, rfl, (low : Int), (low : Int) + (wd : Int), rfl, ⟨by omega, by omega, by omega, by omega⟩, fun D nD => ?_⟩
    rw [show ((low : Int) + (wd : Int) - (low : Int)).toNat = wd by omega]
    have Db : D ≠ bk := by
      obtain ⟨dx, e⟩ := B.hb
      exact (ne_of_none e nD).symm
    refine lc_range (lo := low) (n := wd) (fun i H' => Fr [] H H' ∧ ∃ bs : List Bool, bs.length = i ∧ H' D = some (.lst (bs.map V.bl)) ∧ (bs.all id = true ↔ SameR f g low i)) ⟨Fr.new0 nD _, [], rfl, upd_same, (fun _ n h => absurd h (Nat.not_lt_zero n)), fun _ => rfl⟩ (fun i H3 hi pv => ?_) (fun H3 pv => ?_)
    · obtain ⟨X3, bs, lb, hD, hb⟩ := pv
      have B3 := B.fr0 X3
      have C3 := C.fr0 X3
      obtain ⟨dx, eb⟩ := id B3.hb
      obtain ⟨dy, ec⟩ := id C3.hb
      have es : (low : Int) + (i : Int) = ((low + i : Nat) : Int) := by omega
      rw [es]
      refine ⟨rfl, _, rfl, bk, dx, _, rfl, eb, fb_of, _, rfl, bk, x, L, ((low + i : Nat) : Int), ms, rfl, B3.hb, B3.hL, fun v hv => ?_⟩
      rw [B.at_] at hv
      refine ⟨_, rfl, ok, dy, _, rfl, ec, fb_of, _, rfl, ok, xo, Lo, ((low + i : Nat) : Int), mo, rfl, C3.hb, C3.hL, fun u hu => ?_⟩
      rw [C.at_] at hu
      refine ⟨_, _, o_dp hv, o_dp hu, shaped_o fun s e => ok_fine (B.ok _ s e), shaped_o fun s e => ok_fine (C.ok _ s e), ?_⟩
      refine ⟨_, hD, by rw [List.length_map]; exact small1000' (by omega), X3.late (.of nD) (.lst hD) _, bs ++ [PyData.eqv (oD (f (low + i))) (oD (g (low + i)))], by rw [List.length_append, lb]; rfl, by rw [upd_same, List.map_append]; rfl, ?_⟩
      rw [List.all_append, Bool.and_eq_true, hb]
      have e1 : ([PyData.eqv (oD (f (low + i))) (oD (g (low + i)))].all id = true) ↔ f (low + i) = g (low + i) := by
        rw [← eqv_o]
        simp
      rw [e1]
      constructor
      · rintro ⟨h1, h2⟩ n hn
        rcases Nat.lt_or_ge n i with z | z
        · exact h1 n z
        · rw [show n = i by omega]; exact h2
      · intro h
        exact ⟨fun n hn => h n (by omega), h i (by omega)⟩
    · obtain ⟨X3, bs, lb, hD, hb⟩ := pv
      refine ⟨D, bs, rfl, SqL.of hD, _, rfl, ite2 (fun c => ?_) (fun c => ?_)⟩
      · exact k false H3 ⟨(fun z => nomatch z), fun z => absurd (hb.mp c) z.1⟩ X3
      · have ns : ¬ SameR f g low wd := fun z => c (hb.mpr z)
        have B3 := B.fr0 X3
        refine ⟨_, rfl, _, rfl, _, rfl, bk, x, L, ms, f, N, low, wd, rfl, B3, l1, fun t H4 nt X4 ht => ?_⟩
        have X04 := X3.trans X4
        refine ⟨_, rfl, _, rfl, _, rfl, ok, xo, Lo, mo, g, N, low, wd, rfl, C.fr0 X04, l1, fun u H5 nu X5 hu => ?_⟩
        refine ⟨_, _, mom_dp (X5.tup ht not_nil), mom_dp hu, shaped_mom _, shaped_mom _, ?_⟩
        rw [eqv_mom]
        exact k _ H5 ⟨fun z => ⟨ns, of_decide_eq_true z⟩, fun z => decide_eq_true z.2⟩ (X04.trans X5)
end
end K29

set_option Elab.async false
set_option maxRecDepth 100000
set_option maxHeartbeats 4000000
set_option exponentiation.threshold 4096
set_option linter.unusedVariables false
/-! a clash in the halving tree -/
namespace K29
open PySem PySem.Spec PyProof.Rows L2 C8 LamX UF
/-- a walk over a list, whatever its turn does -/
theorem it_list {K : PySem.W.Frag} {a : Addr} {xs : List V} {Bd : V → Hp → (Hp → Prop) → Prop} {H0 : Hp} {Qd : Hp → Prop} (Pv : Nat → Hp → Prop) (h0 : Pv 0 H0) (hl : ∀ i H, i ≤ xs.length → Pv i H → SqL K H a xs)
    (hs : ∀ i x H, xs[i]? = some x → Pv i H → Bd x H (Pv (i + 1))) (hd : ∀ H, Pv xs.length H → Qd H) :
    ∃ W : Nat → Nat → Hp → Prop, (∃ m, W 0 m H0) ∧ ∀ i m H, W i m H →
      ((Itl K a).stop i H ∧ Qd H) ∨ ((Itl K a).go i H ∧ ∃ Nx : Hp → Prop, (∀ H', Nx H' → ∃ m', m' < m ∧ W (i + 1) m' H') ∧ ∀ x H', (Itl K a).yld i H x H' → Bd x H' Nx) := by
  refine ⟨fun i m H => m = xs.length - i ∧ i ≤ xs.length ∧ Pv i H, ⟨xs.length, by simp, Nat.zero_le _, h0⟩, ?_⟩
  rintro i m H ⟨rfl, hi, p⟩
  have q := hl i H hi p
  by_cases hlt : i < xs.length
  · refine .inr ⟨⟨xs, xs[i], q, by simp [hlt]⟩, Pv (i + 1), fun H' p' => ⟨xs.length - (i + 1), by omega, rfl, hlt, p'⟩, fun x H' y => ?_⟩
    obtain ⟨e, y⟩ := y
    subst e
    exact hs i x _ (y xs q) p
  · have e : i = xs.length := by omega
    subst e
    exact .inl ⟨⟨xs, q, Nat.le_refl _⟩, hd H p⟩
/-- a walk by steps -/
theorem it_c {lo c : Int} {n : Nat} {Bd : V → Hp → (Hp → Prop) → Prop} {H0 : Hp} {Qd : Hp → Prop} (Pv : Nat → Hp → Prop) (h0 : Pv 0 H0)
    (hs : ∀ i H, i < n → Pv i H → Bd (.int (lo + (i : Nat) * c)) H (Pv (i + 1))) (hd : ∀ H, Pv n H → Qd H) :
    ∃ W : Nat → Nat → Hp → Prop, (∃ m, W 0 m H0) ∧ ∀ i m H, W i m H →
      ((Itc lo c n).stop i H ∧ Qd H) ∨ ((Itc lo c n).go i H ∧ ∃ Nx : Hp → Prop, (∀ H', Nx H' → ∃ m', m' < m ∧ W (i + 1) m' H') ∧ ∀ x H', (Itc lo c n).yld i H x H' → Bd x H' Nx) := by
  refine ⟨fun i m H => m = n - i ∧ i ≤ n ∧ Pv i H, ⟨n, by simp, Nat.zero_le _, h0⟩, ?_⟩
  rintro i m H ⟨rfl, hi, p⟩
  by_cases hlt : i < n
  · refine .inr ⟨hlt, Pv (i + 1), fun H' p' => ⟨n - (i + 1), by omega, rfl, hlt, p'⟩, fun x H' y => ?_⟩
    obtain ⟨e, y⟩ := y
    subst e
    subst y
    exact hs i _ hlt p
  · have e : i = n := by omega
    subst e
    exact .inl ⟨Nat.le_refl _, hd H p⟩
def TreeR (n low w : Nat) : Prop := ∃ p k : Nat, p ≤ n ∧ (k + 1) * 2 ^ p ≤ 2 ^ n ∧ low = k * 2 ^ p ∧ w = 2 ^ p
def ClashT (f g : Nat → Option Say) (n : Nat) : Prop := ∃ low w, TreeR n low w ∧ ClashR f g low w
theorem rgc_all : ∀ n p : Fin 9, p.val ≤ n.val → ((2 : Int) ^ p.val ≠ 0 ∧ ((2 : Int) ^ p.val).natAbs < 1073741824 ∧ Builtin.Range.small 0 (2 ^ n.val) (2 ^ p.val) = true ∧ Builtin.Range.rangeSize 0 (2 ^ n.val) (2 ^ p.val) = 2 ^ (n.val - p.val)) := by decide +kernel
theorem ringN_pow (n : Nat) : ringN n = (2 : Int) ^ n := by
  unfold ringN
  rw [Int.natCast_pow]
  rfl
theorem rgc {n p : Nat} (n8 : n ≤ 8) (h : p ≤ n) : RgC 0 (ringN n) (ringN p) (2 ^ (n - p)) := by
  rw [ringN_pow, ringN_pow]
  exact rgc_all ⟨n, by omega⟩ ⟨p, by omega⟩ h
theorem pow_le8 {n p : Nat} (h : p ≤ n) (n8 : n ≤ 8) : 2 ^ p ≤ 256 := Nat.le_trans (Nat.pow_le_pow_right (by decide) (show p ≤ 8 by omega)) (by decide)
theorem tree_k {n p k : Nat} (h : p ≤ n) : (k + 1) * 2 ^ p ≤ 2 ^ n ↔ k < 2 ^ (n - p) := by
  have e : 2 ^ n = 2 ^ (n - p) * 2 ^ p := by rw [← Nat.pow_add]; congr 1; omega
  rw [e]
  constructor
  · intro z
    have := Nat.le_of_mul_le_mul_right z (Nat.two_pow_pos p)
    omega
  · intro z
    exact Nat.mul_le_mul_right _ (by omega)
def PairAt (H : Hp) (a : Addr) (q : Nat × Nat) : Prop := H a = some (.tup [.int (q.1 : Int), .int (q.2 : Int)])
def spClash (CB CS : Addr) : Sp := fun vs H Q _ => ∃ (bk x L ok xo Lo : Addr) (ms mo : List (Int × Say)) (f g : Nat → Option Say) (n N : Nat), vs = [.ref bk, .ref ok] ∧ BkF CB H bk x L ms f N ∧ BkF CB H ok xo Lo mo g N ∧ SetN CS H x n ∧ n ≤ 8 ∧ ∀ (c : Bool) (H' : Hp), (c = true ↔ ClashT f g n) → Fr [] H H' → Q (.bl c) H'
section
variable {P : Program} {w : World} {K : PySem.W.Frag} {mg : Str → Option Value} {base : Heap} {CS CB : Addr}
theorem c_clash (T : Bl mg) (ST : T_Setting K mg CS) (TB : T_Book K mg CB) (p_seats : Prp P w K mg base 1 CS "seats" (spSeats CS)) (c_is_clash : Cal P w K mg base 3 "is_clash" (spIsCl CB) []) (d : D0 K mg "clash" s_clash ["book", "other"]) : Cal P w K mg base 4 "clash" (spClash CB CS) [] := by
  refine cal d sc_clash (fun vs H Q E h => ?_) (fun cdv A outer f0 s0 H vs Q E hr h => ?_)
  · obtain ⟨bk, x, L, ok, xo, Lo, ms, mo, f, g, n, N, rfl, _⟩ := h
    rfl
  · obtain ⟨bk, x, L, ok, xo, Lo, ms, mo, f, g, n, N, rfl, B, C, hx, n8, k⟩ := h
    refine ⟨_, (pss_cons (ps_set (i := 2) sc_clash.nd rfl (Or.inr rfl) (pe_pr p_seats hr (by decide) (pe_fld (pv 0) rfl)))
      (pss_cons (ps_setLc (i := 3) (own := [("power", 5)]) (g := gName 5) (tt := tYes) (by rfl) sc_clash.nd rfl rfl (sw_true rfl rfl rfl (by decide +kernel)) (pi_range1 rfl T.range (pa_cons (pe_op op_add (pe_fld (pe_fld (pv 0) rfl) rfl) pe_int) pa_nil)) (blkOk_by (own := [("power", 5)]) (N := n_clash) (sc := C8.fnScope s_clash) (by decide +kernel)) (fun _ _ _ _ _ => pg_name (i := 5) sc_clash.nd rfl (Or.inl rfl)) (fun _ _ _ _ _ => pts_nil) (fun _ _ _ _ _ => (pe_op op_shl pe_int (pv 5))))
      (pss_cons (ps_setLc2 (i := 4) (own := [("width", 6), ("low", 7)]) (vs1 := [7]) (g := gName 6) (g1 := gName 7) (tt := tYes) (tt1 := tYes) (by rfl) sc_clash.nd rfl rfl (sw_true rfl rfl rfl (by decide +kernel)) (pi_list (pv 3)) (blkOk_by (own := [("width", 6), ("low", 7)]) (N := n_clash) (sc := C8.fnScope s_clash) (by decide +kernel)) (by decide) (fun _ _ _ _ _ => pg_name (i := 6) sc_clash.nd rfl (Or.inl rfl)) (fun _ _ _ _ _ => pts_nil) (fun _ _ _ _ _ => (pi_range3 rfl T.range (pa_cons pe_int (pa_cons (pv 2) (pa_cons (pv 6) pa_nil))))) (fun _ _ _ _ _ => pg_name (i := 7) sc_clash.nd rfl (Or.inl rfl)) (fun _ _ _ _ _ => pts_nil) (fun _ _ _ _ _ => (pe_tup (pa_cons (pv 7) (pa_cons (pv 6) pa_nil)))))
      (pss_one (ps_ret (pe_callB (cr_any rfl) (by rfl) T.any (by decide +kernel) (pa_cons (pe_lc (own := [("low", 7), ("width", 6)]) (g := gTup K 2 (gCons (gName 7) (gCons (gName 6) gNil))) (tt := tYes) (by rfl) sc_clash.nd (pi_list (pv 4)) (blkOk_by (own := [("low", 7), ("width", 6)]) (N := n_clash) (sc := C8.fnScope s_clash) (by decide +kernel)) (fun _ _ _ _ _ => (pg_tup rfl (pgs_cons (pg_name (i := 7) sc_clash.nd rfl (Or.inl rfl)) (pgs_cons (pg_name (i := 6) sc_clash.nd rfl (Or.inl rfl)) pgs_nil)))) (fun _ _ _ _ _ => pts_nil) (fun _ _ _ _ _ => (pe_c c_is_clash hr (by decide) rfl (pa_cons (pv 0) (pa_cons (pv 1) (pa_cons (pv 7) (pa_cons (pv 6) pa_nil))))))) pa_nil))))))), ?_⟩
    obtain ⟨dx, eb⟩ := id B.hb
    obtain ⟨p5, r5, g5, h5, dxs, es⟩ := id hx
    refine ⟨_, rfl, bk, CB, dx, _, _, rfl, eb, TB.cl, TB.n_setting, fb_setting, x, dxs, _, rfl, es, x, n, rfl, hx, n8, ?_⟩
    refine ⟨_, rfl, bk, CB, dx, _, _, rfl, eb, TB.cl, TB.n_setting, fb_setting, x, CS, dxs, _, _, rfl, es, ST.cl, ST.n_bits, fs5_bits, _, _, rfl, rfl, _, rfl, by omega, by omega, fun D nD => ?_⟩
    rw [show ((n : Int) + 1).toNat = n + 1 by omega]
    refine lc_range (lo := 0) (n := n + 1) (fun i H' => Fr [] H H' ∧ H' D = some (.lst (((List.range i).map ringN).map V.int))) ⟨Fr.new0 nD _, upd_same⟩ (fun i H2 hi pv => ?_) (fun H2 pv => ?_)
    · obtain ⟨X2, hD⟩ := pv
      rw [show (0 : Int) + (i : Int) = (i : Int) by omega]
      refine ⟨rfl, _, rfl, _, _, rfl, rfl, ⟨by omega, by omega, by decide⟩, ?_⟩
      refine ⟨_, hD, by rw [List.length_map, List.length_map, List.length_range]; exact small1000' (by omega), X2.late (.of nD) (.lst hD) _, ?_⟩
      rw [upd_same, List.range_succ, List.map_append, List.map_append]
      show some (HO.lst (_ ++ [V.int (1 * 2 ^ ((i : Int)).toNat)])) = _
      rw [shl_eq]
      rfl
    obtain ⟨X2, hD⟩ := pv
    refine ⟨_, rfl, D, rfl, ⟨_, SqL.of hD⟩, fun R nR => ?_⟩
    have RD : R ≠ D := (ne_of_none hD nR).symm
    have nwR : Nw H2 R := .of nR
    refine it_list (xs := ((List.range (n + 1)).map ringN).map V.int) (fun i H' => Fr [] H2 H' ∧ ∃ (as : List Addr) (rs : List (Nat × Nat)), rs.length ≤ i * 256 ∧ H' R = some (.lst (as.map V.ref)) ∧ Paired (PairAt H') as rs ∧ ∀ q : Nat × Nat, q ∈ rs ↔ ∃ p k, p < i ∧ (k + 1) * 2 ^ p ≤ 2 ^ n ∧ q = (k * 2 ^ p, 2 ^ p)) ⟨Fr.new0 nR _, [], [], Nat.zero_le _, upd_same, .nil, fun q => ⟨(fun m => nomatch m), fun ⟨p, k, h, _⟩ => absurd h (Nat.not_lt_zero p)⟩⟩ (fun i H' _ pv => SqL.of (pv.1.lst hD not_nil)) (fun i v H3 hv pv => ?_) (fun H3 pv => ?_)
    · obtain ⟨X3, as, rs, lrs, hR, prs, mem⟩ := pv
      obtain ⟨wd, ew, rfl⟩ := map_getE hv
      have il : i < n + 1 := by
        have := (List.getElem?_eq_some_iff.mp ew).1
        rw [List.length_map, List.length_range] at this
        exact this
      rw [List.getElem?_map, List.getElem?_range il] at ew
      have ew : ringN i = wd := Option.some.inj ew
      subst ew
      have rg := rgc n8 (show i ≤ n by omega)
      refine ⟨rfl, _, rfl, _, rfl, _, _, _, _, rfl, rg, ?_⟩
      have e256 : 2 ^ (n - i) ≤ 256 := pow_le8 (by omega) n8
      refine it_c (fun j H' => Fr [] H2 H' ∧ ∃ (as : List Addr) (rs : List (Nat × Nat)), rs.length ≤ i * 256 + j ∧ H' R = some (.lst (as.map V.ref)) ∧ Paired (PairAt H') as rs ∧ ∀ q : Nat × Nat, q ∈ rs ↔ (∃ p k, p < i ∧ (k + 1) * 2 ^ p ≤ 2 ^ n ∧ q = (k * 2 ^ p, 2 ^ p)) ∨ ∃ k, k < j ∧ q = (k * 2 ^ i, 2 ^ i)) ⟨X3, as, rs, by omega, hR, prs, fun q => ⟨fun m => .inl ((mem q).mp m), fun h => by
        rcases h with h | ⟨k, h, _⟩
        · exact (mem q).mpr h
        · exact absurd h (Nat.not_lt_zero k)⟩⟩ (fun j H4 jl pv => ?_) (fun H4 pv => ?_)
      · obtain ⟨X4, as, rs, lrs, hR, prs, mem⟩ := pv
        have la := prs.length
        refine ⟨rfl, _, rfl, _, rfl, by show 2 ≤ sizeLine; decide, fun t nt => ?_⟩
        have e1 : (0 : Int) + (j : Int) * ringN i = ((j * 2 ^ i : Nat) : Int) := by unfold ringN; rw [Int.natCast_mul]; omega
        rw [e1]
        have e2 : ringN i = ((2 ^ i : Nat) : Int) := rfl
        have X5 := X4.new nt (.tup [.int ((j * 2 ^ i : Nat) : Int), .int (ringN i)])
        have hR5 := upd_new (o := .tup [.int ((j * 2 ^ i : Nat) : Int), .int (ringN i)]) nt hR
        have ht5 : upd H4 t (.tup [.int ((j * 2 ^ i : Nat) : Int), .int (ringN i)]) t = some (.tup [.int ((j * 2 ^ i : Nat) : Int), .int (ringN i)]) := upd_same
        have prs5 : Paired (PairAt (upd H4 t (.tup [.int ((j * 2 ^ i : Nat) : Int), .int (ringN i)]))) as rs := paired_imp0 prs fun a q h => upd_new (o := .tup [.int ((j * 2 ^ i : Nat) : Int), .int (ringN i)]) nt h
        generalize upd H4 t (.tup [.int ((j * 2 ^ i : Nat) : Int), .int (ringN i)]) = H5 at X5 hR5 ht5 prs5
        have ne : ∀ {c : Addr} {vs : List V}, H5 c = some (.tup vs) → c ≠ R := fun h z => by rw [z, hR5] at h; cases h
        refine ⟨_, hR5, by rw [List.length_map, la]; exact Nat.lt_of_le_of_lt (show rs.length ≤ 5000 by omega) (by decide), X5.late nwR (.lst hR5) _, as ++ [t], rs ++ [(j * 2 ^ i, 2 ^ i)], by rw [List.length_append]; show rs.length + 1 ≤ _; omega, by rw [upd_same, List.map_append]; rfl, ?_, fun q => ?_⟩
        · refine paired_snoc (paired_imp0 prs5 fun c q h => ?_) ?_
          · have h : H5 c = some (.tup [.int (q.1 : Int), .int (q.2 : Int)]) := h
            show upd H5 R _ c = _
            rw [upd_ne (ne h)]
            exact h
          · show upd H5 R _ t = _
            rw [upd_ne (ne ht5)]
            exact ht5
        · rw [List.mem_append, mem, List.mem_singleton]
          constructor
          · rintro ((h | ⟨k, kj, e⟩) | e)
            · exact .inl h
            · exact .inr ⟨k, by omega, e⟩
            · exact .inr ⟨j, by omega, e⟩
          · rintro (h | ⟨k, kj, e⟩)
            · exact .inl (.inl h)
            · rcases Nat.lt_or_ge k j with z | z
              · exact .inl (.inr ⟨k, z, e⟩)
              · rw [show k = j by omega] at e
                exact .inr e
      · obtain ⟨X4, as, rs, lrs, hR, prs, mem⟩ := pv
        refine ⟨X4, as, rs, by omega, hR, prs, fun q => ?_⟩
        rw [mem]
        constructor
        · rintro (⟨p, k, h1, h2, e⟩ | ⟨k, kj, e⟩)
          · exact ⟨p, k, by omega, h2, e⟩
          · exact ⟨i, k, by omega, (tree_k (by omega)).mpr kj, e⟩
        · rintro ⟨p, k, h1, h2, e⟩
          rcases Nat.lt_or_ge p i with z | z
          · exact .inl ⟨p, k, z, h2, e⟩
          · rw [show p = i by omega] at h2 e
            exact .inr ⟨k, (tree_k (by omega)).mp h2, e⟩
    obtain ⟨X3, as, rs, lrs, hR, prs, mem⟩ := pv
    rw [List.length_map, List.length_map, List.length_range] at lrs mem
    have la := prs.length
    have X03 := X2.trans X3
    have memT : ∀ q : Nat × Nat, q ∈ rs ↔ TreeR n q.1 q.2 := fun q => by
      rw [mem]
      constructor
      · rintro ⟨p, k, h1, h2, e⟩
        rw [e]
        exact ⟨p, k, by omega, h2, rfl, rfl⟩
      · rintro ⟨p, k, h1, h2, e1, e2⟩
        exact ⟨p, k, by omega, h2, by rw [← e1, ← e2]⟩
    refine ⟨_, rfl, R, rfl, ⟨_, SqL.of hR⟩, fun Z nZ => ?_⟩
    refine lc_list (xs := as.map V.ref) (fun j H' => Fr [] H3 H' ∧ ∃ bs : List Bool, bs.length = j ∧ H' Z = some (.lst (bs.map V.bl)) ∧ (bs.any id = true ↔ ∃ q ∈ rs.take j, ClashR f g q.1 q.2)) ⟨Fr.new0 nZ _, [], rfl, upd_same, (fun h => nomatch h), fun ⟨q, m, _⟩ => nomatch m⟩ (fun j H' _ pv => SqL.of (pv.1.lst hR not_nil)) (fun j v H4 hv pv => ?_) (fun H4 pv => ?_)
    · obtain ⟨X4, bs, lb, hZ, hb⟩ := pv
      obtain ⟨a, ea, rfl⟩ := map_get hv
      obtain ⟨q, eq, ha⟩ := pd_get0 prs ea
      have ha4 : H4 a = some (.tup [.int (q.1 : Int), .int (q.2 : Int)]) := X4.tup ha not_nil
      obtain ⟨p, k', h1, h2, e1, e2⟩ := (memT q).mp (List.mem_of_getElem? eq)
      have p256 := pow_le8 h1 n8
      have n256 := pow_le8 (Nat.le_refl n) n8
      have jl : j < rs.length := (List.getElem?_eq_some_iff.mp eq).1
      have X04 := X03.trans X4
      refine ⟨a, _, rfl, SqT.of ha4, rfl, _, _, rfl, _, _, rfl, rfl, rfl, _, rfl, _, rfl, _, rfl, _, rfl, bk, x, L, ok, xo, Lo, ms, mo, f, g, N, q.1, q.2, rfl, B.fr0 X04, C.fr0 X04, by omega, ?_, fun cc H5 hcc X5 => ?_⟩
      · rw [e1]
        have : k' * 2 ^ p ≤ (k' + 1) * 2 ^ p := Nat.mul_le_mul_right _ (by omega)
        omega
      have hZ5 := X5.lst hZ not_nil
      refine ⟨_, hZ5, by rw [List.length_map]; exact Nat.lt_of_le_of_lt (show bs.length ≤ 5000 by omega) (by decide), (X4.trans X5).late (.of nZ) (.lst hZ5) _, bs ++ [cc], by rw [List.length_append, lb]; rfl, by rw [upd_same, List.map_append]; rfl, ?_⟩
      rw [List.any_append, Bool.or_eq_true, hb, take_snoc eq]
      constructor
      · rintro (⟨q', m, h⟩ | h)
        · exact ⟨q', List.mem_append_left _ m, h⟩
        · exact ⟨q, List.mem_append_right _ (.head _), hcc.mp (by simpa using h)⟩
      · rintro ⟨q', m, h⟩
        rcases List.mem_append.mp m with m | m
        · exact .inl ⟨q', m, h⟩
        · rw [List.mem_singleton.mp m] at h
          exact .inr (by simpa using hcc.mpr h)
    · obtain ⟨X4, bs, lb, hZ, hb⟩ := pv
      refine ⟨Z, bs, rfl, SqL.of hZ, k _ H4 ?_ (X03.trans X4)⟩
      rw [hb, List.length_map, la, List.take_length]
      constructor
      · rintro ⟨q, m, h⟩
        exact ⟨q.1, q.2, (memT q).mp m, h⟩
      · rintro ⟨low, wd, t, h⟩
        exact ⟨(low, wd), (memT (low, wd)).mpr t, h⟩
end
end K29

set_option Elab.async false
set_option maxRecDepth 100000
set_option maxHeartbeats 8000000
set_option exponentiation.threshold 4096
set_option linter.unusedVariables false
/-! levels: few others, above, a vector, a pair -/
namespace K29
open PySem PySem.Spec PyProof.Rows L2 C8 LamX UF
def LvB (m : Int) (ls : List Int) : Prop := ∀ l ∈ ls, 0 ≤ l ∧ l ≤ m
theorem LvB.mono {m k : Int} {ls : List Int} (h : LvB m ls) (e : m ≤ k) : LvB k ls := fun l hl => ⟨(h l hl).1, Int.le_trans (h l hl).2 e⟩
theorem LvB.set {m : Int} {ls : List Int} {j : Nat} {v : Int} (h : LvB m ls) (v0 : 0 ≤ v) (v1 : v ≤ m) : LvB m (ls.set j v) := fun l hl => by
  rcases List.mem_or_eq_of_mem_set hl with z | z
  · exact h l z
  · rw [z]; exact ⟨v0, v1⟩
theorem LvB.snoc {m : Int} {ls : List Int} {v : Int} (h : LvB m ls) (v0 : 0 ≤ v) (v1 : v ≤ m) : LvB m (ls ++ [v]) := fun l hl => by
  rcases List.mem_append.mp hl with z | z
  · exact h l z
  · rw [List.mem_singleton.mp z]; exact ⟨v0, v1⟩
theorem ix_nat {n j : Nat} (h : j < n) : ixN n (j : Int) = some j := by
  unfold ixN
  simp [h]
/-- a list of levels at q -/
structure LvA (H : Hp) (q : Addr) (ls : List Int) (m : Int) : Prop where
  h : H q = some (.lst (ls.map V.int))
  b : LvB m ls
def spFew : Sp := fun vs H Q _ => ∃ (b c q : Addr) (ls : List Int) (m s : Int), vs = [.ref b, .ref q, .int s] ∧ Box H b c ∧ q ≠ b ∧ LvA H q ls m ∧ 0 < ls.length ∧ ls.length ≤ 256 ∧ 3 ≤ s ∧ 4 * s + 4 ≤ m ∧
  ∀ (p : Addr) (ks : List Int) (H' : Hp), Nw H p → Box H' b c → Fr [b] H H' → LvA H' p ks (m + 1) → ks.length = ls.length → Q (.ref p) H'
def spAbove : Sp := fun vs H Q _ => ∃ (b c q : Addr) (ls : List Int) (m s : Int), vs = [.ref b, .ref q, .int s] ∧ Box H b c ∧ q ≠ b ∧ LvA H q ls m ∧ ls.length ≤ 256 ∧ 3 ≤ s ∧
  ∀ (p : Addr) (ks : List Int) (H' : Hp), Nw H p → Box H' b c → Fr [b] H H' → LvA H' p ks (m + 4 * s + 5) → ks.length = ls.length → Q (.ref p) H'
def spVector : Sp := fun vs H Q _ => ∃ (b c q : Addr) (ls : List Int) (m s : Int), vs = [.ref b, .ref q, .int s] ∧ Box H b c ∧ q ≠ b ∧ LvA H q ls m ∧ ls.length ≤ 256 ∧ 3 ≤ s ∧
  ∀ (t p1 p2 : Addr) (k1 k2 : List Int) (H' : Hp), Nw H p1 → Nw H p2 → p1 ≠ p2 → Box H' b c → Fr [b] H H' → H' t = some (.tup [.ref p1, .ref p2]) → LvA H' p1 k1 (m + 16 * s + 40) → LvA H' p2 k2 (m + 16 * s + 40) → k1.length = ls.length → k2.length = ls.length → Q (.ref t) H'
def spPair : Sp := fun vs H Q _ => ∃ (b c q : Addr) (ls : List Int) (m s : Int), vs = [.ref b, .ref q, .int s] ∧ Box H b c ∧ q ≠ b ∧ LvA H q ls m ∧ 0 < ls.length ∧ ls.length ≤ 256 ∧ 3 ≤ s ∧ 4 * s + 4 ≤ m ∧
  ∀ (t p1 p2 : Addr) (k1 k2 : List Int) (H' : Hp), Nw H t → Nw H p1 → Nw H p2 → t ≠ p1 → t ≠ p2 → p1 ≠ p2 → Box H' b c → Fr [b] H H' → H' t = some (.lst [.ref p1, .ref p2]) → LvA H' p1 k1 (m + 16 * s + 41) → LvA H' p2 k2 (m + 16 * s + 41) → k1.length = ls.length → k2.length = ls.length → Q (.ref t) H'
section
variable {P : Program} {w : World} {K : PySem.W.Frag} {mg : Str → Option Value} {base : Heap} {CS CB : Addr}
theorem c_law_few (T : Bl mg) (c_law_take : Cal P w K mg base 2 "_law_take" spDraw []) (c_law_level : Cal P w K mg base 3 "_law_level" spLevel []) (d : D0 K mg "_law_few" s_law_few ["box", "levels", "base"]) : Cal P w K mg base 4 "_law_few" spFew [] := by
  refine cal d sc_law_few (fun vs H Q E h => ?_) (fun cdv A outer f s0 H vs Q E hr h => ?_)
  · obtain ⟨b, c, q, ls, m, s, rfl, _⟩ := h
    rfl
  · obtain ⟨b, c, q, ls, m, s, rfl, B, qb, A0, l0, l1, s3, ms, k⟩ := h
    refine ⟨_, (pss_cons (ps_set (i := 3) sc_law_few.nd rfl (Or.inl rfl) (pe_callTy call_list_of (by rfl) T.list (by decide +kernel) (pa_cons (pv 1) pa_nil)))
      (pss_cons (ps_for PassesOwn.never rfl (pi_range1 rfl T.range (pa_cons (pe_c c_law_take hr (by decide) rfl (pa_cons (pv 0) (pa_cons pe_int pa_nil))) pa_nil)) (pg_name (i := 4) sc_law_few.nd rfl (Or.inl rfl)) (pss_cons (ps_set (i := 5) sc_law_few.nd rfl (Or.inl rfl) (pe_c c_law_take hr (by decide) rfl (pa_cons (pv 0) (pa_cons (pe_callB call_len_seq (by rfl) T.len (by decide +kernel) (pa_cons (pv 1) pa_nil)) pa_nil))))
      (pss_cons (ps_set (i := 6) sc_law_few.nd rfl (Or.inl rfl) (pe_c c_law_level hr (by decide) rfl (pa_cons (pv 0) (pa_cons (pv 2) pa_nil))))
      (pss_cons (ps_if (pt_cmpR op_eq (pv 6) (pe_ix ix_list (pv 1) (pv 5) (fun _ _ => rfl)) (nomark _)) (pss_one (ps_set (i := 6) sc_law_few.nd rfl (Or.inl rfl) (pe_op op_add (pv 6) pe_int))) pss_nil)
      (pss_one (ps_asg (pv 6) (pg_sub (pv 3) (pv 5) set_list)))))))
      (pss_one (ps_ret (pv 3))))), ?_⟩
    refine ⟨_, rfl, q, _, rfl, .inl (SqL.of A0.h), fun p np => ?_⟩
    have X1 : Fr [b] H (upd H p (.lst (ls.map V.int))) := Fr.new0 np _
    have B1 := B.new np (.lst (ls.map V.int))
    have pb : p ≠ b := (B.nw_ne (.of np)).1
    have pc : p ≠ c := (B.nw_ne (.of np)).2
    have pq : p ≠ q := (ne_of_none A0.h np).symm
    have hp1 : upd H p (.lst (ls.map V.int)) p = some (.lst (ls.map V.int)) := upd_same
    generalize upd H p (.lst (ls.map V.int)) = H1 at X1 B1 hp1
    refine ⟨_, rfl, b, c, 4, rfl, B1, by decide, by decide +kernel, fun d1 H2 a1 a2 B2 X2 => ⟨_, rfl, by omega, by omega, ?_⟩⟩
    refine for_range (lo := 0) (n := d1.toNat) (fun i σ H' => Box H' b c ∧ Fr [b] H H' ∧ ∃ (ks : List Int) (v4 v5 v6 : Option V), ks.length = ls.length ∧ LvA H' p ks (m + 1) ∧ σ = [some (.ref b), some (.ref q), some (.int s), some (.ref p), v4, v5, v6]) ⟨B2, X1.trans X2, ls, _, _, _, rfl, ⟨X2.lst hp1 (not_one pb), A0.b.mono (by omega)⟩, rfl⟩ ?_ ?_
    · rintro i σ H3 hi ⟨B3, X3, ks, v4, v5, v6, lk, A3, rfl⟩
      have hq3 := X3.lst A0.h (not_one qb)
      refine ⟨_, rfl, _, rfl, _, _, rfl, .inl (SqL.of hq3), b, c, _, rfl, B3, by rw [List.length_map]; omega, ?_, fun d2 H4 b1 b2 B4 X4 => ?_⟩
      · exact Int.lt_of_le_of_lt (show _ ≤ (1000 : Int) by rw [List.length_map]; omega) (by decide +kernel)
      rw [List.length_map] at b2
      refine ⟨_, rfl, _, rfl, b, c, s, rfl, B4, s3, fun d3 H5 c1 c2 B5 X5 => ?_⟩
      have X35 := X4.trans X5
      have X05 := X3.trans X35
      have hq5 := X05.lst A0.h (not_one qb)
      have hp5 := X35.lst A3.h (not_one pb)
      obtain ⟨j, rfl⟩ := Int.eq_ofNat_of_zero_le b1
      have jl : j < ls.length := by omega
      obtain ⟨z, ez, _, _⟩ := int_at b1 b2
      have fin : ∀ v : Int, 0 ≤ v → v ≤ m + 1 → Box (upd H5 p (.lst ((ks.map V.int).set j (.int v)))) b c ∧ Fr [b] H (upd H5 p (.lst ((ks.map V.int).set j (.int v)))) ∧ ∃ (k' : List Int) (v4' v5' v6' : Option V), k'.length = ls.length ∧ LvA (upd H5 p (.lst ((ks.map V.int).set j (.int v)))) p k' (m + 1) ∧ [some (.ref b), some (.ref q), some (.int s), some (.ref p), some (V.int (0 + (i : Int))), some (.int (j : Int)), some (.int v)] = [some (.ref b), some (.ref q), some (.int s), some (.ref p), v4', v5', v6'] := fun v v0 v1 =>
        ⟨B5.off pb pc _, X05.late (.of np) (.lst hp5) _, ks.set j v, _, _, _, by rw [List.length_set, lk], ⟨by rw [upd_same, List.map_set], A3.b.set v0 v1⟩, rfl⟩
      have ixj : ixN (ks.map V.int).length (j : Int) = some j := ix_nat (by rw [List.length_map, lk]; exact jl)
      refine ⟨_, rfl, _, rfl, _, rfl, _, _, _, _, rfl, rfl, SqL.of hq5, ez, rfl, _, rfl, ite2 (fun _ => ?_) (fun _ => ?_)⟩
      · exact ⟨_, rfl, _, _, rfl, rfl, _, rfl, _, rfl, _, rfl, p, _, _, j, rfl, rfl, hp5, ixj, fin (d3 + 1) (by omega) (by omega)⟩
      · exact ⟨_, rfl, _, rfl, _, rfl, p, _, _, j, rfl, rfl, hp5, ixj, fin d3 (by omega) (by omega)⟩
    · rintro σ H3 ⟨B3, X3, ks, v4, v5, v6, lk, A3, rfl⟩
      exact ⟨_, rfl, k p ks H3 (.of np) B3 X3 A3 lk⟩
theorem c_law_above (T : Bl mg) (c_law_take : Cal P w K mg base 2 "_law_take" spDraw []) (d : D0 K mg "_law_above" s_law_above ["box", "levels", "base"]) : Cal P w K mg base 3 "_law_above" spAbove [] := by
  refine cal d sc_law_above (fun vs H Q E h => ?_) (fun cdv A outer f s0 H vs Q E hr h => ?_)
  · obtain ⟨b, c, q, ls, m, s, rfl, _⟩ := h
    rfl
  · obtain ⟨b, c, q, ls, m, s, rfl, B, qb, A0, l1, s3, k⟩ := h
    refine ⟨_, (pss_cons (ps_set (i := 3) sc_law_above.nd rfl (Or.inl rfl) (pe_lst pa_nil))
      (pss_cons (ps_for PassesOwn.never rfl (pi_list (pv 1)) (pg_name (i := 4) sc_law_above.nd rfl (Or.inl rfl)) (pss_cons (ps_set (i := 5) sc_law_above.nd rfl (Or.inl rfl) (pe_c c_law_take hr (by decide) rfl (pa_cons (pv 0) (pa_cons pe_int pa_nil))))
      (pss_one (ps_if (pt_cmpR op_eq (pv 5) pe_int (nomark _)) (pss_one (ps_expr (pe_bm PySem.F.plainAttrs_list PySem.F.slot_list_append PySem.F.type_list_append mt_append (pv 3) (pa_cons (pe_op op_add (pe_op op_add (pv 4) (pe_op op_mul pe_int (pv 2))) pe_int) pa_nil)))) (pss_one (ps_expr (pe_bm PySem.F.plainAttrs_list PySem.F.slot_list_append PySem.F.type_list_append mt_append (pv 3) (pa_cons (pe_op op_add (pv 4) (pe_callB (call_max2 rfl) (by rfl) T.max (by decide +kernel) (pa_cons pe_int (pa_cons (pe_op op_sub (pv 5) pe_int) pa_nil)))) pa_nil))))))))
      (pss_one (ps_ret (pv 3))))), ?_⟩
    refine ⟨by show 0 ≤ sizeLine; decide, fun p np => ?_⟩
    have X1 : Fr [b] H (upd H p (.lst [])) := Fr.new0 np _
    have B1 := B.new np (.lst [])
    have pb : p ≠ b := (B.nw_ne (.of np)).1
    have pc : p ≠ c := (B.nw_ne (.of np)).2
    have hp1 : upd H p (.lst []) p = some (.lst (([] : List Int).map V.int)) := upd_same
    generalize upd H p (.lst []) = H1 at X1 B1 hp1
    refine ⟨_, rfl, q, rfl, ⟨_, SqL.of (X1.lst A0.h (not_one qb))⟩, ?_⟩
    refine for_list (xs := ls.map V.int) (fun j σ H' => Box H' b c ∧ Fr [b] H H' ∧ ∃ (ks : List Int) (v4 v5 : Option V), ks.length = j ∧ LvA H' p ks (m + 4 * s + 5) ∧ σ = [some (.ref b), some (.ref q), some (.int s), some (.ref p), v4, v5]) ⟨B1, X1, [], _, _, rfl, ⟨hp1, fun l h => nomatch h⟩, rfl⟩ (fun j σ H' _ pv => SqL.of (pv.2.1.lst A0.h (not_one qb))) (fun j v σ H3 hv pv => ?_) (fun σ H3 pv => ?_)
    · obtain ⟨B3, X3, ks, v4, v5, lk, A3, rfl⟩ := pv
      obtain ⟨l, el, rfl⟩ := map_getE hv
      have jl := (List.getElem?_eq_some_iff.mp el).1
      obtain ⟨l0, lm⟩ := A0.b l (List.mem_of_getElem? el)
      refine ⟨_, rfl, b, c, 8, rfl, B3, by decide, by decide +kernel, fun d1 H4 a1 a2 B4 X4 => ?_⟩
      have hp4 := X4.lst A3.h (not_one pb)
      have add : ∀ v : Int, 0 ≤ v → v ≤ m + 4 * s + 5 → Box (upd H4 p (.lst (ks.map V.int ++ [.int v]))) b c ∧ Fr [b] H (upd H4 p (.lst (ks.map V.int ++ [.int v]))) ∧ ∃ (k' : List Int) (v4 v5 : Option V), k'.length = j + 1 ∧ LvA (upd H4 p (.lst (ks.map V.int ++ [.int v]))) p k' (m + 4 * s + 5) ∧ [some (.ref b), some (.ref q), some (.int s), some (.ref p), some (.int l), some (.int d1)] = [some (.ref b), some (.ref q), some (.int s), some (.ref p), v4, v5] := fun v v0 v1 =>
        ⟨B4.off pb pc _, (X3.trans X4).late (.of np) (.lst hp4) _, ks ++ [v], _, _, by rw [List.length_append, lk]; rfl, ⟨by rw [upd_same, List.map_append]; rfl, A3.b.snoc v0 v1⟩, rfl⟩
      refine ⟨_, rfl, rfl, _, rfl, ite2 (fun _ => ?_) (fun _ => ?_)⟩
      · refine ⟨_, rfl, .inl ⟨rfl, _, SqL.of hp4⟩, _, rfl, _, rfl, _, _, rfl, rfl, .inl ⟨by decide, by decide⟩, _, _, rfl, rfl, _, _, rfl, rfl, p, _, _, rfl, rfl, hp4, by rw [List.length_map]; exact small1000' (by omega), add (l + 4 * s + 1) (by omega) (by omega)⟩
      · refine ⟨_, rfl, .inl ⟨rfl, _, SqL.of hp4⟩, _, rfl, _, rfl, _, _, rfl, rfl, _, _, rfl, _, _, rfl, rfl, p, _, _, rfl, rfl, hp4, by rw [List.length_map]; exact small1000' (by omega), add _ ?_ ?_⟩
        · show 0 ≤ l + (if d1 - 2 > 0 then d1 - 2 else 0)
          split <;> omega
        · show l + (if d1 - 2 > 0 then d1 - 2 else 0) ≤ m + 4 * s + 5
          split <;> omega
    · obtain ⟨B3, X3, ks, v4, v5, lk, A3, rfl⟩ := pv
      exact ⟨_, rfl, k p ks H3 (.of np) B3 X3 A3 (by rw [lk, List.length_map])⟩
theorem c_law_vector (T : Bl mg) (c_law_take : Cal P w K mg base 2 "_law_take" spDraw []) (d : D0 K mg "_law_vector" s_law_vector ["box", "levels", "base"]) : Cal P w K mg base 3 "_law_vector" spVector [] := by
  refine cal d sc_law_vector (fun vs H Q E h => ?_) (fun cdv A outer f s0 H vs Q E hr h => ?_)
  · obtain ⟨b, c, q, ls, m, s, rfl, _⟩ := h
    rfl
  · obtain ⟨b, c, q, ls, m, s, rfl, B, qb, A0, l1, s3, k⟩ := h
    refine ⟨_, (pss_cons (ps_set (i := 3) sc_law_vector.nd rfl (Or.inl rfl) (pe_callB call_len_seq (by rfl) T.len (by decide +kernel) (pa_cons (pv 1) pa_nil)))
      (pss_cons (ps_set (i := 4) sc_law_vector.nd rfl (Or.inl rfl) (pe_callTy call_list_of (by rfl) T.list (by decide +kernel) (pa_cons (pv 1) pa_nil)))
      (pss_cons (ps_set (i := 5) sc_law_vector.nd rfl (Or.inl rfl) (pe_callTy call_list_of (by rfl) T.list (by decide +kernel) (pa_cons (pv 1) pa_nil)))
      (pss_cons (ps_if (pt_cmpR op_lt (pv 3) pe_int (nomark _)) (pss_one (ps_ret (pe_tup (pa_cons (pv 4) (pa_cons (pv 5) pa_nil))))) pss_nil)
      (pss_cons (ps_set (i := 6) sc_law_vector.nd rfl (Or.inl rfl) (pe_op op_add pe_int (pe_c c_law_take hr (by decide) rfl (pa_cons (pv 0) (pa_cons (pe_op op_fdivW (pe_op op_sub (pv 3) pe_int) pe_int) pa_nil)))))
      (pss_cons (ps_set (i := 7) sc_law_vector.nd rfl (Or.inl rfl) (pe_c c_law_take hr (by decide) rfl (pa_cons (pv 0) (pa_cons (pe_op op_sub (pv 3) (pe_op op_mul pe_int (pv 6))) pa_nil))))
      (pss_cons (ps_set (i := 8) sc_law_vector.nd rfl (Or.inl rfl) (pe_op op_add pe_int (pe_c c_law_take hr (by decide) rfl (pa_cons (pv 0) (pa_cons pe_int pa_nil)))))
      (pss_cut (ps_if (pt_cmpR op_eq (pe_c c_law_take hr (by decide) rfl (pa_cons (pv 0) (pa_cons pe_int pa_nil))) pe_int (nomark _)) (pss_one (ps_set (i := 8) sc_law_vector.nd rfl (Or.inl rfl) (pe_op op_add (pv 8) (pe_op op_mul pe_int (pv 2))))) pss_nil)
      (pss_cut (ps_if (PW.pt (pw_and (pt_cmpR op_gt (pv 3) pe_int (nomark _)) (pw_and1 (pt_cmpR op_eq (pe_c c_law_take hr (by decide) rfl (pa_cons (pv 0) (pa_cons pe_int pa_nil))) pe_int (nomark _))))) (pss_cons (ps_set (i := 6) sc_law_vector.nd rfl (Or.inl rfl) pe_int)
      (pss_cons (ps_set (i := 7) sc_law_vector.nd rfl (Or.inl rfl) (pe_op op_mul pe_int (pe_c c_law_take hr (by decide) rfl (pa_cons (pv 0) (pa_cons (pe_op op_fdivW (pv 3) pe_int) pa_nil)))))
      (pss_cons (ps_set (i := 9) sc_law_vector.nd rfl (Or.inl rfl) (pe_op op_mod (pe_callTy call_int1 (by rfl) T.int (by decide +kernel) (pa_cons (pe_op op_add (pe_op op_add (pv 7) pe_int) (pe_c c_law_take hr (by decide) rfl (pa_cons (pv 0) (pa_cons (pe_op op_sub (pv 3) pe_int) pa_nil)))) pa_nil)) (pv 3)))
      (pss_one (ps_asg (pe_op op_add (pe_op op_add (pe_ix ix_list (pv 5) (pv 9) (fun _ _ => rfl)) pe_int) (pe_c c_law_take hr (by decide) rfl (pa_cons (pv 0) (pa_cons pe_int pa_nil)))) (pg_sub (pv 5) (pv 9) set_list)))))) pss_nil)
      (pss_cons (ps_asg (pe_op op_add (pe_ix ix_list (pv 4) (pv 7) (fun _ _ => rfl)) (pv 8)) (pg_sub (pv 4) (pv 7) set_list))
      (pss_cons (ps_asg (pe_op op_add (pe_ix ix_list (pv 5) (pe_op op_add (pv 7) (pv 6)) (fun _ _ => rfl)) (pe_op op_mul pe_int (pv 8))) (pg_sub (pv 5) (pe_op op_add (pv 7) (pv 6)) set_list))
      (pss_cons (ps_asg (pe_op op_add (pe_ix ix_list (pv 4) (pe_op op_add (pv 7) (pe_op op_mul pe_int (pv 6))) (fun _ _ => rfl)) (pe_op op_mul pe_int (pv 8))) (pg_sub (pv 4) (pe_op op_add (pv 7) (pe_op op_mul pe_int (pv 6))) set_list))
      (pss_cons (ps_asg (pe_op op_add (pe_ix ix_list (pv 5) (pe_op op_add (pv 7) (pe_op op_mul pe_int (pv 6))) (fun _ _ => rfl)) (pv 8)) (pg_sub (pv 5) (pe_op op_add (pv 7) (pe_op op_mul pe_int (pv 6))) set_list))
      (pss_one (ps_ret (pe_tup (pa_cons (pv 4) (pa_cons (pv 5) pa_nil)))))))))))))))))), ?_⟩
    have hl : (ls.map V.int).length = ls.length := List.length_map ..
    refine ⟨_, rfl, _, _, rfl, .inl (SqL.of A0.h), ?_⟩
    refine ⟨_, rfl, q, _, rfl, .inl (SqL.of A0.h), fun p1 np1 => ?_⟩
    have X1 : Fr [b] H (upd H p1 (.lst (ls.map V.int))) := Fr.new0 np1 _
    have B1 := B.new np1 (.lst (ls.map V.int))
    have p1b : p1 ≠ b := (B.nw_ne (.of np1)).1
    have p1c : p1 ≠ c := (B.nw_ne (.of np1)).2
    have h11 : upd H p1 (.lst (ls.map V.int)) p1 = some (.lst (ls.map V.int)) := upd_same
    have hq1 := upd_new (o := .lst (ls.map V.int)) np1 A0.h
    generalize upd H p1 (.lst (ls.map V.int)) = H1 at X1 B1 h11 hq1
    refine ⟨_, rfl, q, _, rfl, .inl (SqL.of hq1), fun p2 np2 => ?_⟩
    have X2 := X1.new np2 (.lst (ls.map V.int))
    have B2 := B1.new np2 (.lst (ls.map V.int))
    have p2b : p2 ≠ b := (B1.nw_ne (.of np2)).1
    have p2c : p2 ≠ c := (B1.nw_ne (.of np2)).2
    have p12 : p1 ≠ p2 := ne_of_none h11 np2
    have nw1 : Nw H p1 := .of np1
    have nw2 : Nw H p2 := X1.live p2 (.of np2)
    have h12 := upd_new (o := .lst (ls.map V.int)) np2 h11
    have h22 : upd H1 p2 (.lst (ls.map V.int)) p2 = some (.lst (ls.map V.int)) := upd_same
    generalize upd H1 p2 (.lst (ls.map V.int)) = H2 at X2 B2 h12 h22
    rw [hl]
    refine ⟨_, rfl, _, _, rfl, rfl, _, rfl, ite2 (fun _ => ?_) (fun c4 => ?_)⟩
    · refine ⟨_, rfl, _, rfl, by show 2 ≤ sizeLine; decide, fun t nt => ?_⟩
      exact k t p1 p2 ls ls _ nw1 nw2 p12 (B2.new nt _) (X2.new nt _) upd_same ⟨upd_new nt h12, A0.b.mono (by omega)⟩ ⟨upd_new nt h22, A0.b.mono (by omega)⟩ rfl rfl
    have c4 : ¬ (ls.length : Int) < 4 := fun z => c4 (decide_eq_true z)
    have XX2 : Fr [b] H H2 := X2
    have lt2000 : ∀ z : Int, z ≤ 1000 → z < 2 ^ 2000 := fun z h => Int.lt_of_le_of_lt h (by decide +kernel)
    refine ⟨_, rfl, _, rfl, _, _, rfl, rfl, _, _, rfl, rfl, dvw (by decide) (by decide +kernel) _, b, c, _, rfl, B2, by omega, lt2000 _ (by omega), fun d1 H3 a1 a2 B3 X3 => ⟨_, _, rfl, rfl, ?_⟩⟩
    refine ⟨_, rfl, _, rfl, _, rfl, _, _, rfl, rfl, .inl ⟨by decide, by decide⟩, _, _, rfl, rfl, b, c, _, rfl, B3, by omega, lt2000 _ (by omega), fun d2 H4 b1 b2 B4 X4 => ?_⟩
    refine ⟨_, rfl, b, c, 4, rfl, B4, by decide, by decide +kernel, fun d3 H5 e1 e2 B5 X5 => ⟨_, _, rfl, rfl, ?_⟩⟩
    have X25 := (X3.trans X4).trans X5
    have keep1 : ∀ {H' : Hp} {zs : List V}, H2 p1 = some (.lst zs) → Fr [b] H2 H' → H' p1 = some (.lst zs) := fun h X => X.lst h (not_one p1b)
    refine ⟨fun σ H' => Box H' b c ∧ Fr [b] H2 H' ∧ ∃ rise : Int, 1 ≤ rise ∧ rise ≤ 4 * s + 4 ∧ σ = [some (.ref b), some (.ref q), some (.int s), some (.int ls.length), some (.ref p1), some (.ref p2), some (.int (1 + d1)), some (.int d2), some (.int rise), none], ?_, ?_⟩
    · refine ⟨_, rfl, b, c, 3, rfl, B5, by decide, by decide +kernel, fun d4 H6 f1 f2 B6 X6 => ⟨rfl, _, rfl, ite2 (fun _ => ?_) (fun _ => ⟨B6, X25.trans X6, 1 + d3, by omega, by omega, rfl⟩)⟩⟩
      exact ⟨_, rfl, _, rfl, _, _, rfl, rfl, .inl ⟨by decide, by decide⟩, _, _, rfl, rfl, B6, X25.trans X6, 1 + d3 + 4 * s, by omega, by omega, rfl⟩
    rintro σ H6 ⟨B6, X26, rise, r1, r2, rfl⟩
    have h16 := keep1 h12 X26
    have h26 : H6 p2 = some (.lst (ls.map V.int)) := X26.lst h22 (not_one p2b)
    have X06 := XX2.trans X26
    refine ⟨fun σ H' => Box H' b c ∧ Fr [b] H H' ∧ ∃ (gap start : Int) (k2 : List Int) (v9 : Option V), 1 ≤ gap ∧ 0 ≤ start ∧ start + 3 * gap < ls.length ∧ H' p1 = some (.lst (ls.map V.int)) ∧ LvA H' p2 k2 (m + 9) ∧ k2.length = ls.length ∧ σ = [some (.ref b), some (.ref q), some (.int s), some (.int ls.length), some (.ref p1), some (.ref p2), some (.int gap), some (.int start), some (.int rise), v9], ?_, ?_⟩
    · refine ⟨_, rfl, _, _, rfl, rfl, _, rfl, ite2 (fun c5 => ?_) (fun _ => iteF ⟨B6, X06, 1 + d1, d2, ls, _, by omega, by omega, by omega, h16, ⟨h26, A0.b.mono (by omega)⟩, rfl, rfl⟩)⟩
      have c5 : (4 : Int) < ls.length := of_decide_eq_true c5
      refine ⟨_, rfl, b, c, 2, rfl, B6, by decide, by decide +kernel, fun d4 H7 g1 g2 B7 X7 => ?_⟩
      have X07 := X06.trans X7
      have h17 := X7.lst h16 (not_one p1b)
      have h27 := X7.lst h26 (not_one p2b)
      refine ⟨rfl, _, rfl, ite2 (fun _ => ?_) (fun _ => ⟨B7, X07, 1 + d1, d2, ls, _, by omega, by omega, by omega, h17, ⟨h27, A0.b.mono (by omega)⟩, rfl, rfl⟩)⟩
      refine ⟨_, rfl, _, rfl, _, _, rfl, rfl, dvw (by decide) (by decide +kernel) _, b, c, _, rfl, B7, by omega, lt2000 _ (by omega), fun d5 H8 j1 j2 B8 X8 => ⟨_, _, rfl, rfl, .inl ⟨by decide, by decide⟩, ?_⟩⟩
      have X08 := X07.trans X8
      have h18 := X8.lst h17 (not_one p1b)
      have h28 := X8.lst h27 (not_one p2b)
      refine ⟨_, rfl, _, _, rfl, rfl, _, rfl, _, rfl, _, _, rfl, rfl, b, c, _, rfl, B8, by omega, lt2000 _ (by omega), fun d6 H9 m1 m2 B9 X9 => ⟨_, _, rfl, rfl, .inl ⟨_, rfl, ?_⟩⟩⟩
      have X09 := X08.trans X9
      have h19 := X9.lst h18 (not_one p1b)
      have h29 := X9.lst h28 (not_one p2b)
      refine ⟨_, rfl, _, _, rfl, rfl, pm (by omega), ?_⟩
      have q0 : 0 ≤ (4 * d5 + 4 + d6) % (ls.length : Int) := Int.emod_nonneg _ (by omega)
      have q1 : (4 * d5 + 4 + d6) % (ls.length : Int) < ls.length := Int.emod_lt_of_pos _ (by omega)
      obtain ⟨z, ez, mz, _⟩ := int_at q0 q1
      obtain ⟨j, ej⟩ := Int.eq_ofNat_of_zero_le q0
      have jl : j < ls.length := by omega
      obtain ⟨z0, z1⟩ := A0.b z mz
      refine ⟨_, rfl, _, rfl, _, _, _, _, rfl, rfl, SqL.of h29, ez, _, _, rfl, rfl, _, rfl, b, c, 9, rfl, B9, by decide, by decide +kernel, fun d7 H10 o1 o2 B10 X10 => ⟨_, _, rfl, rfl, ?_⟩⟩
      have h1x := X10.lst h19 (not_one p1b)
      have h2x := X10.lst h29 (not_one p2b)
      refine ⟨_, rfl, _, rfl, p2, _, _, j, rfl, rfl, h2x, ?_, ?_⟩
      · show ixN (ls.map V.int).length ((4 * d5 + 4 + d6) % (ls.length : Int)) = some j
        rw [ej, hl]
        exact ix_nat jl
      refine ⟨B10.off p2b p2c _, (X09.trans X10).late nw2 (.lst h2x) _, 1, 4 * d5, ls.set j (z + 1 + d7), _, by decide, by omega, by omega, by rw [upd_ne p12]; exact h1x, ⟨by rw [upd_same, List.map_set], (A0.b.mono (by omega)).set (by omega) (by omega)⟩, by rw [List.length_set], rfl⟩
    rintro σ H7 ⟨B7, X07, gap, start, k2, v9, g1, s1, sg, h17, A7, lk, rfl⟩
    have A17 : LvA H7 p1 ls m := ⟨h17, A0.b⟩
    have at_ : ∀ {ks : List Int} {M i : Int}, LvB M ks → ks.length = ls.length → 0 ≤ i → i < ls.length → ∃ (z : Int) (j : Nat), atI (ks.map V.int) i = some (.int z) ∧ 0 ≤ z ∧ z ≤ M ∧ ixN (ks.map V.int).length i = some j := fun {ks M i} h l i0 i1 => by
      obtain ⟨z, ez, mz, _⟩ := int_at (xs := ks) i0 (by omega)
      obtain ⟨j, rfl⟩ := Int.eq_ofNat_of_zero_le i0
      exact ⟨z, j, ez, (h z mz).1, (h z mz).2, ix_nat (by rw [List.length_map]; omega)⟩
    have put : ∀ {G : Hp} {p : Addr} {ks : List Int} {M e z : Int} {j : Nat}, LvA G p ks M → 0 ≤ z → z ≤ M → 0 ≤ e → LvA (upd G p (.lst ((ks.map V.int).set j (.int (z + e))))) p (ks.set j (z + e)) (M + e) := fun {G p ks M e z j} h z0 z1 e0 => ⟨by rw [upd_same, List.map_set], (h.b.mono (by omega)).set (by omega) (by omega)⟩
    obtain ⟨z1, j1, e1, za1, zb1, i1⟩ := at_ A17.b rfl s1 (show start < ls.length by omega)
    refine ⟨_, rfl, _, rfl, _, _, _, _, rfl, rfl, SqL.of A17.h, e1, _, rfl, _, _, rfl, rfl, _, rfl, _, rfl, p1, _, _, j1, rfl, rfl, A17.h, i1, ?_⟩
    have A18 := put (j := j1) A17 za1 zb1 (show 0 ≤ rise by omega)
    have A28 : LvA (upd H7 p1 (.lst ((ls.map V.int).set j1 (.int (z1 + rise))))) p2 k2 (m + 9) := ⟨by rw [upd_ne p12.symm]; exact A7.h, A7.b⟩
    have X08 := X07.late nw1 (.lst A17.h) (.lst ((ls.map V.int).set j1 (.int (z1 + rise))))
    have B8 := B7.off p1b p1c (.lst ((ls.map V.int).set j1 (.int (z1 + rise))))
    generalize upd H7 p1 (.lst ((ls.map V.int).set j1 (.int (z1 + rise)))) = H8 at A18 A28 X08 B8
    have l8 : (ls.set j1 (z1 + rise)).length = ls.length := List.length_set
    generalize ls.set j1 (z1 + rise) = k8 at A18 l8
    obtain ⟨z2, j2, e2, za2, zb2, i2⟩ := at_ A28.b lk (show 0 ≤ start + gap by omega) (show start + gap < ls.length by omega)
    refine ⟨_, rfl, _, rfl, _, rfl, _, _, rfl, rfl, _, _, _, _, rfl, rfl, SqL.of A28.h, e2, _, rfl, _, _, rfl, rfl, .inl ⟨by decide, by decide⟩, _, _, rfl, rfl, _, rfl, _, rfl, _, rfl, _, _, rfl, rfl, p2, _, _, j2, rfl, rfl, A28.h, i2, ?_⟩
    have A29 := put (j := j2) A28 za2 zb2 (show 0 ≤ 3 * rise by omega)
    have A19 : LvA (upd H8 p2 (.lst ((k2.map V.int).set j2 (.int (z2 + 3 * rise))))) p1 k8 (m + rise) := ⟨by rw [upd_ne p12]; exact A18.h, A18.b⟩
    have X09 := X08.late nw2 (.lst A28.h) (.lst ((k2.map V.int).set j2 (.int (z2 + 3 * rise))))
    have B9 := B8.off p2b p2c (.lst ((k2.map V.int).set j2 (.int (z2 + 3 * rise))))
    generalize upd H8 p2 (.lst ((k2.map V.int).set j2 (.int (z2 + 3 * rise)))) = H9 at A29 A19 X09 B9
    have l9 : (k2.set j2 (z2 + 3 * rise)).length = ls.length := by rw [List.length_set, lk]
    generalize k2.set j2 (z2 + 3 * rise) = k9 at A29 l9
    obtain ⟨z3, j3, e3, za3, zb3, i3⟩ := at_ A19.b l8 (show 0 ≤ start + 2 * gap by omega) (show start + 2 * gap < ls.length by omega)
    refine ⟨_, rfl, _, rfl, _, rfl, _, _, rfl, rfl, .inl ⟨by decide, by decide⟩, _, _, rfl, rfl, _, _, _, _, rfl, rfl, SqL.of A19.h, e3, _, rfl, _, _, rfl, rfl, .inl ⟨by decide, by decide⟩, _, _, rfl, rfl, _, rfl, _, rfl, _, rfl, _, _, rfl, rfl, .inl ⟨by decide, by decide⟩, _, _, rfl, rfl, p1, _, _, j3, rfl, rfl, A19.h, i3, ?_⟩
    have A1x := put (j := j3) A19 za3 zb3 (show 0 ≤ 3 * rise by omega)
    have A2x : LvA (upd H9 p1 (.lst ((k8.map V.int).set j3 (.int (z3 + 3 * rise))))) p2 k9 (m + 9 + 3 * rise) := ⟨by rw [upd_ne p12.symm]; exact A29.h, A29.b⟩
    have X0x := X09.late nw1 (.lst A19.h) (.lst ((k8.map V.int).set j3 (.int (z3 + 3 * rise))))
    have Bx := B9.off p1b p1c (.lst ((k8.map V.int).set j3 (.int (z3 + 3 * rise))))
    generalize upd H9 p1 (.lst ((k8.map V.int).set j3 (.int (z3 + 3 * rise)))) = Hx at A1x A2x X0x Bx
    have lx : (k8.set j3 (z3 + 3 * rise)).length = ls.length := by rw [List.length_set, l8]
    generalize k8.set j3 (z3 + 3 * rise) = kx at A1x lx
    obtain ⟨z4, j4, e4, za4, zb4, i4⟩ := at_ A2x.b l9 (show 0 ≤ start + 3 * gap by omega) (show start + 3 * gap < ls.length by omega)
    refine ⟨_, rfl, _, rfl, _, rfl, _, _, rfl, rfl, .inl ⟨by decide, by decide⟩, _, _, rfl, rfl, _, _, _, _, rfl, rfl, SqL.of A2x.h, e4, _, rfl, _, _, rfl, rfl, _, rfl, _, rfl, _, rfl, _, _, rfl, rfl, .inl ⟨by decide, by decide⟩, _, _, rfl, rfl, p2, _, _, j4, rfl, rfl, A2x.h, i4, ?_⟩
    have A2y := put (j := j4) A2x za4 zb4 (show 0 ≤ rise by omega)
    have A1y : LvA (upd Hx p2 (.lst ((k9.map V.int).set j4 (.int (z4 + rise))))) p1 kx (m + rise + 3 * rise) := ⟨by rw [upd_ne p12]; exact A1x.h, A1x.b⟩
    have X0y := X0x.late nw2 (.lst A2x.h) (.lst ((k9.map V.int).set j4 (.int (z4 + rise))))
    have By := Bx.off p2b p2c (.lst ((k9.map V.int).set j4 (.int (z4 + rise))))
    generalize upd Hx p2 (.lst ((k9.map V.int).set j4 (.int (z4 + rise)))) = Hy at A2y A1y X0y By
    refine ⟨_, rfl, _, rfl, by show 2 ≤ sizeLine; decide, fun t nt => ?_⟩
    exact k t p1 p2 kx _ _ nw1 nw2 p12 (By.new nt _) (X0y.new nt _) upd_same ⟨upd_new nt A1y.h, A1y.b.mono (by omega)⟩ ⟨upd_new nt A2y.h, A2y.b.mono (by omega)⟩ lx (by rw [List.length_set, l9])
theorem c_law_pair (T : Bl mg) (c_law_take : Cal P w K mg base 2 "_law_take" spDraw []) (c_law_level : Cal P w K mg base 3 "_law_level" spLevel []) (c_law_few : Cal P w K mg base 4 "_law_few" spFew []) (c_law_above : Cal P w K mg base 3 "_law_above" spAbove []) (c_law_vector : Cal P w K mg base 3 "_law_vector" spVector []) (d : D0 K mg "_law_pair" s_law_pair ["box", "levels", "base"]) : Cal P w K mg base 5 "_law_pair" spPair [] := by
  refine cal d sc_law_pair (fun vs H Q E h => ?_) (fun cdv A outer f s0 H vs Q E hr h => ?_)
  · obtain ⟨b, c, q, ls, m, s, rfl, _⟩ := h
    rfl
  · obtain ⟨b, c, q, ls, m, s, rfl, B, qb, A0, l0, l1, s3, ms, k⟩ := h
    refine ⟨_, (pss_cons (ps_set (i := 3) sc_law_pair.nd rfl (Or.inl rfl) (pe_c c_law_take hr (by decide) rfl (pa_cons (pv 0) (pa_cons pe_int pa_nil))))
      (pss_cons (ps_set (i := 4) sc_law_pair.nd rfl (Or.inl rfl) (pe_callTy call_list_of (by rfl) T.list (by decide +kernel) (pa_cons (pv 1) pa_nil)))
      (pss_cons (ps_set (i := 5) sc_law_pair.nd rfl (Or.inl rfl) (pe_callTy call_list_of (by rfl) T.list (by decide +kernel) (pa_cons (pv 1) pa_nil)))
      (pss_cut (ps_if (pt_cmpR op_lt (pv 3) pe_int (nomark _)) (pss_one (ps_set (i := 5) sc_law_pair.nd rfl (Or.inl rfl) (pe_c c_law_few hr (by decide) rfl (pa_cons (pv 0) (pa_cons (pv 1) (pa_cons (pv 2) pa_nil)))))) (pss_one (ps_if (pt_cmpR op_eq (pv 3) pe_int (nomark _)) (pss_one (ps_set (i := 5) sc_law_pair.nd rfl (Or.inl rfl) (pe_c c_law_above hr (by decide) rfl (pa_cons (pv 0) (pa_cons (pv 1) (pa_cons (pv 2) pa_nil)))))) (pss_one (ps_if (pt_cmpR op_lt (pv 3) pe_int (nomark _)) (pss_cons (ps_asg (pe_c c_law_vector hr (by decide) rfl (pa_cons (pv 0) (pa_cons (pv 1) (pa_cons (pv 2) pa_nil)))) (pg_tup rfl (pgs_cons (pg_name (i := 4) sc_law_pair.nd rfl (Or.inl rfl)) (pgs_cons (pg_name (i := 5) sc_law_pair.nd rfl (Or.inl rfl)) pgs_nil))))
      (pss_one (ps_if (pt_cmpR op_eq (pe_c c_law_take hr (by decide) rfl (pa_cons (pv 0) (pa_cons pe_int pa_nil))) pe_int (nomark _)) (pss_one (ps_set (i := 5) sc_law_pair.nd rfl (Or.inl rfl) (pe_c c_law_few hr (by decide) rfl (pa_cons (pv 0) (pa_cons (pv 5) (pa_cons (pv 2) pa_nil)))))) pss_nil))) (pss_one (ps_if (pt_cmpR op_eq (pv 3) pe_int (nomark _)) (pss_one (ps_setLc (i := 5) (own := [("level", 6)]) (g := gName 6) (tt := tYes) (by rfl) sc_law_pair.nd rfl rfl (sw_true rfl rfl rfl (by decide +kernel)) (pi_list (pv 1)) (blkOk_by (own := [("level", 6)]) (N := n_law_pair) (sc := C8.fnScope s_law_pair) (by decide +kernel)) (fun _ _ _ _ _ => pg_name (i := 6) sc_law_pair.nd rfl (Or.inl rfl)) (fun _ _ _ _ _ => pts_nil) (fun _ _ _ _ _ => (pe_c c_law_level hr (by decide) rfl (pa_cons (pv 0) (pa_cons (pv 2) pa_nil)))))) (pss_one (ps_if (pt_cmpR op_eq (pv 3) pe_int (nomark _)) (pss_one (ps_setLc (i := 5) (own := [("level", 6)]) (g := gName 6) (tt := tYes) (by rfl) sc_law_pair.nd rfl rfl (sw_true rfl rfl rfl (by decide +kernel)) (pi_list (pv 1)) (blkOk_by (own := [("level", 6)]) (N := n_law_pair) (sc := C8.fnScope s_law_pair) (by decide +kernel)) (fun _ _ _ _ _ => pg_name (i := 6) sc_law_pair.nd rfl (Or.inl rfl)) (fun _ _ _ _ _ => pts_nil) (fun _ _ _ _ _ => pe_int))) pss_nil)))))))))
      (pss_cons (ps_if (pt_cmpR op_eq (pe_c c_law_take hr (by decide) rfl (pa_cons (pv 0) (pa_cons pe_int pa_nil))) pe_int (nomark _)) (pss_one (ps_ret (pe_lst (pa_cons (pv 5) (pa_cons (pv 4) pa_nil))))) pss_nil)
      (pss_one (ps_ret (pe_lst (pa_cons (pv 4) (pa_cons (pv 5) pa_nil)))))))))), ?_⟩
    refine ⟨_, rfl, b, c, 8, rfl, B, by decide, by decide +kernel, fun md H0 a1 a2 B0 X0 => ?_⟩
    have hq0 := X0.lst A0.h (not_one qb)
    refine ⟨_, rfl, q, _, rfl, .inl (SqL.of hq0), fun p1 np1 => ?_⟩
    have X1 := X0.new np1 (.lst (ls.map V.int))
    have B1 := B0.new np1 (.lst (ls.map V.int))
    have p1b : p1 ≠ b := (B0.nw_ne (.of np1)).1
    have h11 : upd H0 p1 (.lst (ls.map V.int)) p1 = some (.lst (ls.map V.int)) := upd_same
    have hq1 := upd_new (o := .lst (ls.map V.int)) np1 hq0
    have nw1 : Nw H p1 := X0.live p1 (.of np1)
    generalize upd H0 p1 (.lst (ls.map V.int)) = H1 at X1 B1 h11 hq1
    refine ⟨_, rfl, q, _, rfl, .inl (SqL.of hq1), fun p2 np2 => ?_⟩
    have X2 := X1.new np2 (.lst (ls.map V.int))
    have B2 := B1.new np2 (.lst (ls.map V.int))
    have p2b : p2 ≠ b := (B1.nw_ne (.of np2)).1
    have p12 : p1 ≠ p2 := ne_of_none h11 np2
    have nw2 : Nw H p2 := X1.live p2 (.of np2)
    have h12 := upd_new (o := .lst (ls.map V.int)) np2 h11
    have hq2 := upd_new (o := .lst (ls.map V.int)) np2 hq1
    have h22 : upd H1 p2 (.lst (ls.map V.int)) p2 = some (.lst (ls.map V.int)) := upd_same
    generalize upd H1 p2 (.lst (ls.map V.int)) = H2 at X2 B2 h12 h22 hq2
    refine ⟨fun σ H' => Box H' b c ∧ Fr [b] H H' ∧ ∃ (p1 p2 : Addr) (k1 k2 : List Int) (v6 : Option V), Nw H p1 ∧ Nw H p2 ∧ p1 ≠ p2 ∧ LvA H' p1 k1 (m + 16 * s + 41) ∧ LvA H' p2 k2 (m + 16 * s + 41) ∧ k1.length = ls.length ∧ k2.length = ls.length ∧ σ = [some (.ref b), some (.ref q), some (.int s), some (.int md), some (.ref p1), some (.ref p2), v6], ?_, ?_⟩
    · have le : ∀ {G : Hp} {p : Addr} {ks : List Int} {M : Int}, G p = some (.lst (ks.map V.int)) → LvB M ks → M ≤ m + 16 * s + 41 → LvA G p ks (m + 16 * s + 41) := fun h b e => ⟨h, b.mono e⟩
      refine ⟨_, rfl, _, _, rfl, rfl, _, rfl, ite2 (fun _ => ?_) (fun _ => ?_)⟩
      · refine ⟨_, rfl, _, rfl, _, rfl, b, c, q, ls, m, s, rfl, B2, qb, ⟨hq2, A0.b⟩, l0, l1, s3, ms, fun p ks H3 np B3 X3 A3 lk => ?_⟩
        exact ⟨B3, X2.trans X3, p1, p, ls, ks, _, nw1, X2.live p np, ne_nw h12 np, le (X3.lst h12 (not_one p1b)) A0.b (by omega), le A3.h A3.b (by omega), rfl, lk, rfl⟩
      refine ⟨_, rfl, rfl, _, rfl, ite2 (fun _ => ?_) (fun _ => ?_)⟩
      · refine ⟨_, rfl, _, rfl, _, rfl, b, c, q, ls, m, s, rfl, B2, qb, ⟨hq2, A0.b⟩, l1, s3, fun p ks H3 np B3 X3 A3 lk => ?_⟩
        exact ⟨B3, X2.trans X3, p1, p, ls, ks, _, nw1, X2.live p np, ne_nw h12 np, le (X3.lst h12 (not_one p1b)) A0.b (by omega), le A3.h A3.b (by omega), rfl, lk, rfl⟩
      refine ⟨_, rfl, _, _, rfl, rfl, _, rfl, ite2 (fun _ => ?_) (fun _ => ?_)⟩
      · refine ⟨_, rfl, _, rfl, _, rfl, b, c, q, ls, m, s, rfl, B2, qb, ⟨hq2, A0.b⟩, l1, s3, fun t o1 o2 k1 k2 H3 no1 no2 o12 B3 X3 ht A13 A23 lk1 lk2 => ?_⟩
        refine ⟨t, _, rfl, SqT.of ht, rfl, _, _, rfl, _, _, rfl, rfl, ?_⟩
        have X03 := X2.trans X3
        have o1b : o1 ≠ b := (B2.nw_ne no1).1
        have o2b : o2 ≠ b := (B2.nw_ne no2).1
        refine ⟨_, rfl, b, c, 2, rfl, B3, by decide, by decide +kernel, fun d2 H4 b1 b2 B4 X4 => ⟨rfl, _, rfl, ite2 (fun _ => ?_) (fun _ => ?_)⟩⟩
        · refine ⟨_, rfl, _, rfl, _, rfl, b, c, o2, k2, m + 16 * s + 40, s, rfl, B4, o2b, ⟨X4.lst A23.h (not_one o2b), A23.b⟩, by omega, by omega, s3, by omega, fun p ks H5 np B5 X5 A5 lk => ?_⟩
          have X45 := X4.trans X5
          exact ⟨B5, X03.trans X45, o1, p, k1, ks, _, X2.live o1 no1, X03.live p (X4.live p np), ne_nw (X4.lst A13.h (not_one o1b)) np, le (X45.lst A13.h (not_one o1b)) A13.b (by omega), le A5.h A5.b (by omega), lk1, by omega, rfl⟩
        · exact ⟨B4, X03.trans X4, o1, o2, k1, k2, _, X2.live o1 no1, X2.live o2 no2, o12, le (X4.lst A13.h (not_one o1b)) A13.b (by omega), le (X4.lst A23.h (not_one o2b)) A23.b (by omega), lk1, lk2, rfl⟩
      refine ⟨_, rfl, rfl, _, rfl, ite2 (fun _ => ?_) (fun _ => ?_)⟩
      · refine ⟨_, rfl, q, rfl, ⟨_, SqL.of hq2⟩, fun D nD => ?_⟩
        have Db : D ≠ b := (B2.nw_ne (.of nD)).1
        have Dc : D ≠ c := (B2.nw_ne (.of nD)).2
        refine lc_list (xs := ls.map V.int) (fun j H' => Box H' b c ∧ Fr [b] H2 H' ∧ ∃ ks : List Int, ks.length = j ∧ LvA H' D ks m) ⟨B2.new nD _, Fr.new0 nD _, [], rfl, ⟨upd_same, fun l h => nomatch h⟩⟩ (fun j H' _ pv => SqL.of (pv.2.1.lst hq2 (not_one qb))) (fun j v H3 hv pv => ?_) (fun H3 pv => ?_)
        · obtain ⟨B3, X3, ks, lk, A3⟩ := pv
          obtain ⟨n, en, rfl⟩ := map_getE hv
          have jl := (List.getElem?_eq_some_iff.mp en).1
          refine ⟨rfl, _, rfl, _, rfl, b, c, s, rfl, B3, s3, fun d3 H4 c1 c2 B4 X4 => ?_⟩
          have hD4 := X4.lst A3.h (not_one Db)
          exact ⟨_, hD4, by rw [List.length_map]; exact small1000' (by omega), B4.off Db Dc _, (X3.trans X4).late (.of nD) (.lst hD4) _, ks ++ [d3], by rw [List.length_append, lk]; rfl, ⟨by rw [upd_same, List.map_append]; rfl, A3.b.snoc c1 (by omega)⟩⟩
        · obtain ⟨B3, X3, ks, lk, A3⟩ := pv
          rw [List.length_map] at lk
          exact ⟨B3, X2.trans X3, p1, D, ls, ks, _, nw1, X2.live D (.of nD), ne_of_none h12 nD, le (X3.lst h12 (not_one p1b)) A0.b (by omega), le A3.h A3.b (by omega), rfl, lk, rfl⟩
      refine ⟨_, rfl, rfl, _, rfl, ite2 (fun _ => ?_) (fun _ => ?_)⟩
      · refine ⟨_, rfl, q, rfl, ⟨_, SqL.of hq2⟩, fun D nD => ?_⟩
        have Db : D ≠ b := (B2.nw_ne (.of nD)).1
        have Dc : D ≠ c := (B2.nw_ne (.of nD)).2
        refine lc_list (xs := ls.map V.int) (fun j H' => Box H' b c ∧ Fr [b] H2 H' ∧ ∃ ks : List Int, ks.length = j ∧ LvA H' D ks m) ⟨B2.new nD _, Fr.new0 nD _, [], rfl, ⟨upd_same, fun l h => nomatch h⟩⟩ (fun j H' _ pv => SqL.of (pv.2.1.lst hq2 (not_one qb))) (fun j v H3 hv pv => ?_) (fun H3 pv => ?_)
        · obtain ⟨B3, X3, ks, lk, A3⟩ := pv
          obtain ⟨n, en, rfl⟩ := map_getE hv
          have jl := (List.getElem?_eq_some_iff.mp en).1
          exact ⟨rfl, _, A3.h, by rw [List.length_map]; exact small1000' (by omega), B3.off Db Dc _, X3.late (.of nD) (.lst A3.h) _, ks ++ [0], by rw [List.length_append, lk]; rfl, ⟨by rw [upd_same, List.map_append]; rfl, A3.b.snoc (by decide) (by omega)⟩⟩
        · obtain ⟨B3, X3, ks, lk, A3⟩ := pv
          rw [List.length_map] at lk
          exact ⟨B3, X2.trans X3, p1, D, ls, ks, _, nw1, X2.live D (.of nD), ne_of_none h12 nD, le (X3.lst h12 (not_one p1b)) A0.b (by omega), le A3.h A3.b (by omega), rfl, lk, rfl⟩
      · exact ⟨B2, X2, p1, p2, ls, ls, _, nw1, nw2, p12, le h12 A0.b (by omega), le h22 A0.b (by omega), rfl, rfl, rfl⟩
    rintro σ H3 ⟨B3, X3, o1, o2, k1, k2, v6, no1, no2, o12, A13, A23, lk1, lk2, rfl⟩
    have o1b : o1 ≠ b := (B.nw_ne no1).1
    have o2b : o2 ≠ b := (B.nw_ne no2).1
    refine ⟨_, rfl, b, c, 2, rfl, B3, by decide, by decide +kernel, fun d2 H4 b1 b2 B4 X4 => ?_⟩
    have X04 := X3.trans X4
    have h14 := X4.lst A13.h (not_one o1b)
    have h24 := X4.lst A23.h (not_one o2b)
    refine ⟨rfl, _, rfl, ite2 (fun _ => ?_) (fun _ => ?_)⟩
    · refine ⟨_, rfl, _, rfl, by show 2 ≤ sizeLine; decide, fun t nt => ?_⟩
      exact k t o2 o1 k2 k1 _ (X04.live t (.of nt)) no2 no1 (ne_of_none h24 nt).symm (ne_of_none h14 nt).symm o12.symm (B4.new nt _) (X04.new nt _) upd_same ⟨upd_new nt h24, A23.b⟩ ⟨upd_new nt h14, A13.b⟩ lk2 lk1
    · refine ⟨_, rfl, _, rfl, by show 2 ≤ sizeLine; decide, fun t nt => ?_⟩
      exact k t o1 o2 k1 k2 _ (X04.live t (.of nt)) no1 no2 (ne_of_none h14 nt).symm (ne_of_none h24 nt).symm o12 (B4.new nt _) (X04.new nt _) upd_same ⟨upd_new nt h14, A13.b⟩ ⟨upd_new nt h24, A23.b⟩ lk1 lk2
end
end K29

set_option Elab.async false
set_option maxRecDepth 100000
set_option maxHeartbeats 4000000
set_option exponentiation.threshold 4096
set_option linter.unusedVariables false
/-! moments that differ (mathematics), ranges, a range by the law -/
namespace K29
open PySem PySem.Spec PyProof.Rows L2 C8 LamX UF
def cL (g h : Nat → Int) : Nat → Int
  | 0 => 0
  | n + 1 => cL g h n + if decide (g n < h n) = true then 1 else 0
def cM (g h : Nat → Int) : Nat → Int
  | 0 => 0
  | n + 1 => cM g h n + if decide (h n < g n) = true then 1 else 0
theorem cL_nn (g h : Nat → Int) : ∀ w, 0 ≤ cL g h w
  | 0 => Int.le_refl 0
  | w + 1 => by have := cL_nn g h w; unfold cL; split <;> omega
theorem cM_nn (g h : Nat → Int) : ∀ w, 0 ≤ cM g h w
  | 0 => Int.le_refl 0
  | w + 1 => by have := cM_nn g h w; unfold cM; split <;> omega
theorem cL_le (g h : Nat → Int) : ∀ w : Nat, cL g h w ≤ w ∧ cM g h w ≤ w
  | 0 => ⟨Int.le_refl 0, Int.le_refl 0⟩
  | w + 1 => by
    obtain ⟨a, b⟩ := cL_le g h w
    constructor
    · unfold cL; split <;> omega
    · unfold cM; split <;> omega
theorem one_sign {g h : Nat → Int} : ∀ w, cL g h w = 0 → S0 h w + cM g h w ≤ S0 g w
  | 0, _ => Int.le_refl 0
  | w + 1, e => by
    have n0 := cL_nn g h w
    unfold cL at e
    have e1 : cL g h w = 0 := by split at e <;> omega
    have e2 : ¬ g w < h w := fun z => by rw [if_pos (decide_eq_true z)] at e; omega
    have := one_sign w e1
    unfold S0 cM
    by_cases z : h w < g w
    · rw [if_pos (decide_eq_true z)]; omega
    · rw [if_neg (by rw [decide_eq_false z]; exact Bool.false_ne_true)]; omega
theorem one_sign' {g h : Nat → Int} : ∀ w, cM g h w = 0 → S0 g w + cL g h w ≤ S0 h w
  | 0, _ => Int.le_refl 0
  | w + 1, e => by
    have n0 := cM_nn g h w
    unfold cM at e
    have e1 : cM g h w = 0 := by split at e <;> omega
    have e2 : ¬ h w < g w := fun z => by rw [if_pos (decide_eq_true z)] at e; omega
    have := one_sign' w e1
    unfold S0 cL
    by_cases z : g w < h w
    · rw [if_pos (decide_eq_true z)]; omega
    · rw [if_neg (by rw [decide_eq_false z]; exact Bool.false_ne_true)]; omega
theorem none_apart {g h : Nat → Int} : ∀ w, cL g h w + cM g h w = 0 → ∀ n, n < w → g n = h n
  | 0, _, n, l => absurd l (Nat.not_lt_zero n)
  | w + 1, e, n, l => by
    have a := cL_nn g h w
    have b := cM_nn g h w
    unfold cL cM at e
    have e1 : cL g h w + cM g h w = 0 := by split at e <;> split at e <;> omega
    rcases Nat.lt_or_ge n w with z | z
    · exact none_apart w e1 n z
    · rw [show n = w by omega]
      have x : ¬ g w < h w := fun z => by rw [if_pos (decide_eq_true z)] at e; split at e <;> omega
      have y : ¬ h w < g w := fun z => by
        rw [if_pos (decide_eq_true z)] at e
        split at e <;> omega
      omega
theorem apart_len {g h : Nat → Int} : ∀ w, ((((List.range w).filter fun n => decide (g n ≠ h n)).length : Nat) : Int) = cL g h w + cM g h w
  | 0 => rfl
  | w + 1 => by
    have ih := apart_len (g := g) (h := h) w
    rw [List.range_succ, List.filter_append, List.length_append]
    unfold cL cM
    by_cases e : g w = h w
    · rw [List.filter_cons_of_neg (by simp [e])]
      rw [if_neg (by rw [decide_eq_false (by omega)]; exact Bool.false_ne_true), if_neg (by rw [decide_eq_false (by omega)]; exact Bool.false_ne_true)]
      show ((_ + 0 : Nat) : Int) = _
      omega
    · rw [List.filter_cons_of_pos (by simpa using e)]
      show ((_ + 1 : Nat) : Int) = _
      rcases Int.lt_or_gt_of_ne e with z | z
      · rw [if_pos (decide_eq_true z), if_neg (by rw [decide_eq_false (by omega)]; exact Bool.false_ne_true)]; omega
      · rw [if_neg (by rw [decide_eq_false (by omega)]; exact Bool.false_ne_true), if_pos (decide_eq_true z)]; omega
/-- a sum with one number -/
theorem S0_one {F : Nat → Int} {a : Nat} : ∀ w, (∀ n, n < w → n ≠ a → F n = 0) → S0 F w = if a < w then F a else 0
  | 0, _ => by rw [if_neg (Nat.not_lt_zero a)]; rfl
  | w + 1, e => by
    have ih := S0_one w fun n h => e n (by omega)
    unfold S0
    rw [ih]
    by_cases z : a = w
    · subst z
      rw [if_neg (Nat.lt_irrefl a), if_pos (Nat.lt_succ_self a)]
      omega
    · rw [e w (Nat.lt_succ_self w) (fun q => z q.symm)]
      by_cases y : a < w
      · rw [if_pos y, if_pos (by omega)]; omega
      · rw [if_neg y, if_neg (by omega)]; omega
def Dg (g h : Nat → Int) (n : Nat) : Int := g n - h n
theorem quad_sum (g h : Nat → Int) (b c : Int) : ∀ w, S0 (fun n => Dg g h n * ((1 + (n : Int)) - b) * ((1 + (n : Int)) - c)) w = (S2 g w - S2 h w) - (b + c) * (S1 g w - S1 h w) + b * c * (S0 g w - S0 h w)
  | 0 => by simp [S0, S1, S2]
  | w + 1 => by
    have ih := quad_sum g h b c w
    show S0 _ w + Dg g h w * ((1 + (w : Int)) - b) * ((1 + (w : Int)) - c) = _
    rw [ih]
    rw [show S0 g (w + 1) = S0 g w + g w from rfl, show S0 h (w + 1) = S0 h w + h w from rfl, show S1 g (w + 1) = S1 g w + g w * (1 + (w : Int)) from rfl, show S1 h (w + 1) = S1 h w + h w * (1 + (w : Int)) from rfl, show S2 g (w + 1) = S2 g w + g w * (1 + (w : Int)) * (1 + (w : Int)) from rfl, show S2 h (w + 1) = S2 h w + h w * (1 + (w : Int)) * (1 + (w : Int)) from rfl]
    unfold Dg
    generalize S2 g w = a1
    generalize S2 h w = a2
    generalize S1 g w = a3
    generalize S1 h w = a4
    generalize S0 g w = a5
    generalize S0 h w = a6
    generalize g w = x
    generalize h w = y
    generalize (1 + (w : Int)) = t
    simp only [Int.sub_mul, Int.mul_sub, Int.add_mul, Int.mul_add]
    simp only [Int.mul_comm, Int.mul_left_comm, Int.mul_assoc]
    omega
theorem few_ne {g h : Nat → Int} {w : Nat} (l : cL g h w + cM g h w ≤ 3) (p : 0 < cL g h w + cM g h w) : momF g w ≠ momF h w := fun e => by
  unfold momF at e
  injection e with e0 e1 e2
  have ln := apart_len (g := g) (h := h) w
  have mem : ∀ n, n ∈ (List.range w).filter (fun n => decide (g n ≠ h n)) ↔ n < w ∧ g n ≠ h n := fun n => by
    rw [List.mem_filter, List.mem_range, decide_eq_true_eq]
  have nd : ((List.range w).filter fun n => decide (g n ≠ h n)).Nodup := (List.nodup_range (n := w)).filter _
  generalize (List.range w).filter (fun n => decide (g n ≠ h n)) = nz at ln mem nd
  have go : ∀ a b c : Nat, (∀ n, n ∈ nz → n = a ∨ n = b ∨ n = c) → a ∈ nz → a ≠ b → a ≠ c → False := fun a b c all am ab ac => by
    obtain ⟨al, ad⟩ := (mem a).mp am
    have q := quad_sum g h (1 + (b : Int)) (1 + (c : Int)) w
    rw [e0, e1, e2] at q
    have z : S0 (fun n => Dg g h n * ((1 + (n : Int)) - (1 + (b : Int))) * ((1 + (n : Int)) - (1 + (c : Int)))) w = if a < w then (fun n : Nat => Dg g h n * ((1 + (n : Int)) - (1 + (b : Int))) * ((1 + (n : Int)) - (1 + (c : Int)))) a else 0 := S0_one w fun n nl na => by
      by_cases y : g n = h n
      · show Dg g h n * _ * _ = 0
        unfold Dg
        rw [y, Int.sub_self, Int.zero_mul, Int.zero_mul]
      · rcases all n ((mem n).mpr ⟨nl, y⟩) with r | r | r
        · exact absurd r na
        · show Dg g h n * ((1 + (n : Int)) - (1 + (b : Int))) * _ = 0
          rw [r, Int.sub_self, Int.mul_zero, Int.zero_mul]
        · show Dg g h n * _ * ((1 + (n : Int)) - (1 + (c : Int))) = 0
          rw [r, Int.sub_self, Int.mul_zero]
    rw [z, if_pos al] at q
    simp only [Int.sub_self, Int.mul_zero, Int.sub_zero, Int.add_zero] at q
    rcases Int.mul_eq_zero.mp q with q | q
    · rcases Int.mul_eq_zero.mp q with q | q
      · unfold Dg at q; omega
      · omega
    · omega
  match nz, ln, go, nd with
  | [], ln, _, _ => have ln : (0 : Int) = _ := ln; omega
  | [a], _, go, _ => 
    obtain ⟨al, _⟩ := (mem a).mp (.head _)
    exact go a w w (fun n m => .inl (List.mem_singleton.mp m)) (.head _) (by omega) (by omega)
  | [a, b], _, go, nd =>
    obtain ⟨al, _⟩ := (mem a).mp (.head _)
    refine go a b w (fun n m => ?_) (.head _) (fun z => ?_) (by omega)
    · simp only [List.mem_cons, List.not_mem_nil, or_false] at m
      rcases m with m | m
      · exact .inl m
      · exact .inr (.inl m)
    · simp only [List.nodup_cons, List.mem_cons, List.not_mem_nil, or_false] at nd
      exact nd.1 z
  | [a, b, c], _, go, nd =>
    simp only [List.nodup_cons, List.mem_cons, List.not_mem_nil, or_false, not_or] at nd
    refine go a b c (fun n m => ?_) (.head _) nd.1.1 nd.1.2
    simp only [List.mem_cons, List.not_mem_nil, or_false] at m
    exact m
  | a :: b :: c :: d :: r, ln, _, _ =>
    have ln : ((r.length + 1 + 1 + 1 + 1 : Nat) : Int) = _ := ln
    omega
theorem mom_apart {g h : Nat → Int} {w : Nat} (p : 0 < cL g h w + cM g h w) (c : cL g h w + cM g h w ≤ 3 ∨ cL g h w = 0 ∨ cM g h w = 0) : momF g w ≠ momF h w := by
  rcases c with c | c | c
  · exact few_ne c p
  · intro e
    unfold momF at e
    injection e with e0 e1 e2
    have := one_sign w c
    omega
  · intro e
    unfold momF at e
    injection e with e0 e1 e2
    have := one_sign' w c
    omega
end K29

set_option Elab.async false
set_option maxRecDepth 100000
set_option maxHeartbeats 8000000
set_option exponentiation.threshold 4096
set_option linter.unusedVariables false
/-! ranges, a range by the law, the halving tree by the law -/
namespace K29
open PySem PySem.Spec PyProof.Rows L2 C8 LamX UF
structure StB (CB CS : Addr) (H : Hp) (bl ll b1 b2 p1 p2 x L1 L2 : Addr) (m1 m2 : List (Int × Say)) (k1 k2 : List Int) (salt : Int) (n : Nat) : Prop where
  hbl : H bl = some (.lst [.ref b1, .ref b2])
  hll : H ll = some (.lst [.ref p1, .ref p2])
  B1 : BkF CB H b1 x L1 m1 (rowAt k1 salt) k1.length
  B2 : BkF CB H b2 x L2 m2 (rowAt k2 salt) k2.length
  h1 : H p1 = some (.lst (k1.map V.int))
  h2 : H p2 = some (.lst (k2.map V.int))
  v1 : LvOk k1
  v2 : LvOk k2
  l1 : k1.length = 2 ^ n
  l2 : k2.length = 2 ^ n
  hx : SetN CS H x n
  n8 : n ≤ 8
theorem StB.fr0 {CB CS : Addr} {H H' : Hp} {bl ll b1 b2 p1 p2 x L1 L2 : Addr} {m1 m2 : List (Int × Say)} {k1 k2 : List Int} {salt : Int} {n : Nat} (S : StB CB CS H bl ll b1 b2 p1 p2 x L1 L2 m1 m2 k1 k2 salt n) (X : Fr [] H H') : StB CB CS H' bl ll b1 b2 p1 p2 x L1 L2 m1 m2 k1 k2 salt n :=
  { S with hbl := X.lst S.hbl not_nil, hll := X.lst S.hll not_nil, B1 := S.B1.fr0 X, B2 := S.B2.fr0 X, h1 := X.lst S.h1 not_nil, h2 := X.lst S.h2 not_nil, hx := S.hx.fr X not_nil }
def gt0 (ks : List Int) (low n : Nat) : Int := ks.getD (low + n) 0
theorem lvl_row {ks : List Int} {salt : Int} {low n : Nat} (lv : LvOk ks) : lvl (rowAt ks salt) low n = gt0 ks low n := by
  unfold lvl gt0
  rw [List.getD_eq_getElem?_getD]
  cases q : ks[low + n]? with
  | none =>
    unfold rowAt
    rw [q]
    rfl
  | some l =>
    have l0 := (lv l (List.mem_of_getElem? q)).1
    rw [rowAt_at q]
    split
    · exact sayF_rank
    · show (0 : Int) = l
      omega
theorem mom_row {ks : List Int} {salt : Int} {low w : Nat} (lv : LvOk ks) : momF (lvl (rowAt ks salt) low) w = momF (gt0 ks low) w := momF_congr fun n _ => lvl_row lv
def spRanges : Sp := fun vs H Q _ => ∃ (b c : Addr) (N : Nat), vs = [.ref b, .int (N : Int)] ∧ Box H b c ∧ 0 < N ∧ N ≤ 256 ∧ ∀ (p : Addr) (as : List Addr) (rs : List (Nat × Nat)) (H' : Hp), Nw H p → Box H' b c → Fr [b] H H' → H' p = some (.lst (as.map V.ref)) → Paired (PairAt H') as rs → (∀ q ∈ rs, q.1 + q.2 ≤ N) → Q (.ref p) H'
def spRange (CB CS : Addr) : Sp := fun vs H Q _ => ∃ (bl ll b1 b2 p1 p2 x L1 L2 : Addr) (m1 m2 : List (Int × Say)) (k1 k2 : List Int) (salt : Int) (n low wd : Nat), vs = [.ref bl, .ref ll, .int (low : Int), .int (wd : Int)] ∧ StB CB CS H bl ll b1 b2 p1 p2 x L1 L2 m1 m2 k1 k2 salt n ∧ low + wd ≤ 2 ^ n ∧ ∀ H' : Hp, Fr [] H H' → Q (.bl true) H'
section
variable {P : Program} {w : World} {K : PySem.W.Frag} {mg : Str → Option Value} {base : Heap} {CS CB : Addr}
theorem c_law_range_right (T : Bl mg) (c_moments : Cal P w K mg base 2 "moments" (spMom CB) []) (c_law_sums : Cal P w K mg base 1 "_law_sums" spSums []) (c_law_exact : Cal P w K mg base 2 "_law_exact" spExact []) (d : D0 K mg "_law_range_right" s_law_range_right ["books", "levels", "low", "width"]) : Cal P w K mg base 3 "_law_range_right" (spRange CB CS) [] := by
  refine cal d sc_law_range_right (fun vs H Q E h => ?_) (fun cdv A outer f0 s0 H vs Q E hr h => ?_)
  · obtain ⟨bl, ll, b1, b2, p1, p2, x, L1, L2, m1, m2, k1, k2, salt, n, low, wd, rfl, _⟩ := h
    rfl
  · obtain ⟨bl, ll, b1, b2, p1, p2, x, L1, L2, m1, m2, k1, k2, salt, n, low, wd, rfl, S, lw, k⟩ := h
    refine ⟨_, (pss_cons (ps_set (i := 4) sc_law_range_right.nd rfl (Or.inl rfl) (pe_c c_moments hr (by decide) rfl (pa_cons (pe_ix ix_list (pv 0) pe_int (fun _ _ => rfl)) (pa_cons (pv 2) (pa_cons (pv 3) pa_nil)))))
      (pss_cons (ps_set (i := 5) sc_law_range_right.nd rfl (Or.inl rfl) (pe_c c_moments hr (by decide) rfl (pa_cons (pe_ix ix_list (pv 0) pe_int (fun _ _ => rfl)) (pa_cons (pv 2) (pa_cons (pv 3) pa_nil)))))
      (pss_cons (ps_if (pt_not (pt_val (pe_c c_law_exact hr (by decide) rfl (pa_cons (pv 4) (pa_cons (pe_c c_law_sums hr (by decide) rfl (pa_cons (pe_ix ix_list (pv 1) pe_int (fun _ _ => rfl)) (pa_cons (pv 2) (pa_cons (pv 3) pa_nil)))) pa_nil))))) (pss_one (ps_ret pe_bl)) pss_nil)
      (pss_cons (ps_if (pt_not (pt_val (pe_c c_law_exact hr (by decide) rfl (pa_cons (pv 5) (pa_cons (pe_c c_law_sums hr (by decide) rfl (pa_cons (pe_ix ix_list (pv 1) pe_int (fun _ _ => rfl)) (pa_cons (pv 2) (pa_cons (pv 3) pa_nil)))) pa_nil))))) (pss_one (ps_ret pe_bl)) pss_nil)
      (pss_cons (ps_set (i := 6) sc_law_range_right.nd rfl (Or.inl rfl) pe_int)
      (pss_cons (ps_set (i := 7) sc_law_range_right.nd rfl (Or.inl rfl) pe_int)
      (pss_cons (ps_for PassesOwn.never rfl (pi_range2 rfl T.range (pa_cons (pv 2) (pa_cons (pe_op op_add (pv 2) (pv 3)) pa_nil))) (pg_name (i := 8) sc_law_range_right.nd rfl (Or.inl rfl)) (pss_cons (ps_set (i := 6) sc_law_range_right.nd rfl (Or.inl rfl) (pe_op op_add (pv 6) (pe_callTy call_int1 (by rfl) T.int (by decide +kernel) (pa_cons (pe_cmpR op_lt (pe_ix ix_list (pe_ix ix_list (pv 1) pe_int (fun _ _ => rfl)) (pv 8) (fun _ _ => rfl)) (pe_ix ix_list (pe_ix ix_list (pv 1) pe_int (fun _ _ => rfl)) (pv 8) (fun _ _ => rfl)) (nomark _)) pa_nil))))
      (pss_one (ps_set (i := 7) sc_law_range_right.nd rfl (Or.inl rfl) (pe_op op_add (pv 7) (pe_callTy call_int1 (by rfl) T.int (by decide +kernel) (pa_cons (pe_cmpR op_gt (pe_ix ix_list (pe_ix ix_list (pv 1) pe_int (fun _ _ => rfl)) (pv 8) (fun _ _ => rfl)) (pe_ix ix_list (pe_ix ix_list (pv 1) pe_int (fun _ _ => rfl)) (pv 8) (fun _ _ => rfl)) (nomark _)) pa_nil)))))))
      (pss_cons (ps_if (pt_cmpR op_eq (pe_op op_add (pv 6) (pv 7)) pe_int (nomark _)) (pss_one (ps_ret (pe_cmpR (op_eqD hr.units) (pv 4) (pv 5) (nomark _)))) pss_nil)
      (pss_cons (ps_if (PW.pt (pw_or (pt_cmpR op_le (pe_op op_add (pv 6) (pv 7)) pe_int (nomark _)) (pw_or (pt_cmpR op_eq (pv 6) pe_int (nomark _)) (pw_or1 (pt_cmpR op_eq (pv 7) pe_int (nomark _)))))) (pss_one (ps_ret (pe_cmpR (op_neD hr.units) (pv 4) (pv 5) (nomark _)))) pss_nil)
      (pss_one (ps_ret pe_bl))))))))))), ?_⟩
    have n256 := pow_le8 (Nat.le_refl n) S.n8
    have l1 := S.l1
    have l2 := S.l2
    refine ⟨_, rfl, _, _, _, _, rfl, rfl, SqL.of S.hbl, rfl, _, rfl, _, rfl, b1, x, L1, m1, rowAt k1 salt, k1.length, low, wd, rfl, S.B1, by omega, fun t1 H1 nt1 X1 ht1 => ?_⟩
    rw [mom_row S.v1] at ht1
    have S1 := S.fr0 X1
    refine ⟨_, rfl, _, _, _, _, rfl, rfl, SqL.of S1.hbl, rfl, _, rfl, _, rfl, b2, x, L2, m2, rowAt k2 salt, k2.length, low, wd, rfl, S1.B2, by omega, fun t2 H2 nt2 X2 ht2 => ?_⟩
    rw [mom_row S.v2] at ht2
    have S2 := S1.fr0 X2
    have X02 := X1.trans X2
    refine ⟨_, rfl, _, rfl, _, _, _, _, rfl, rfl, SqL.of S2.hll, rfl, _, rfl, _, rfl, p1, k1, low, wd, rfl, S2.h1, by omega, by omega, fun u1 H3 nu1 X3 hu1 => ?_⟩
    refine ⟨t1, u1, momF (gt0 k1 low) wd, rfl, (X2.trans X3).tup ht1 not_nil, hu1, _, rfl, iteF ?_⟩
    have S3 := S2.fr0 X3
    refine ⟨_, rfl, _, rfl, _, _, _, _, rfl, rfl, SqL.of S3.hll, rfl, _, rfl, _, rfl, p2, k2, low, wd, rfl, S3.h2, by omega, by omega, fun u2 H4 nu2 X4 hu2 => ?_⟩
    refine ⟨t2, u2, momF (gt0 k2 low) wd, rfl, (X3.trans X4).tup ht2 not_nil, hu2, _, rfl, iteF ?_⟩
    have S4 := S3.fr0 X4
    have X04 := (X02.trans X3).trans X4
    have ht14 := ((X2.trans X3).trans X4).tup ht1 not_nil
    have ht24 := (X3.trans X4).tup ht2 not_nil
    refine ⟨_, rfl, _, rfl, _, rfl, _, _, rfl, rfl, (low : Int), (low : Int) + (wd : Int), rfl, ⟨by omega, by omega, by omega, by omega⟩, ?_⟩
    rw [show ((low : Int) + (wd : Int) - (low : Int)).toNat = wd by omega]
    refine for_range (lo := low) (n := wd) (fun i σ H' => H' = H4 ∧ ∃ v8 : Option V, σ = [some (.ref bl), some (.ref ll), some (.int (low : Int)), some (.int (wd : Int)), some (.ref t1), some (.ref t2), some (.int (cL (gt0 k1 low) (gt0 k2 low) i)), some (.int (cM (gt0 k1 low) (gt0 k2 low) i)), v8]) ⟨rfl, _, rfl⟩ ?_ ?_
    · rintro i σ H' hi ⟨rfl, v8, rfl⟩
      have at_ : ∀ {ks : List Int}, low + i < ks.length → atI (ks.map V.int) ((low : Int) + (i : Int)) = some (.int (gt0 ks low i)) := fun {ks} h => by
        rw [show (low : Int) + (i : Int) = ((low + i : Nat) : Int) by omega]
        unfold gt0
        rw [List.getD_eq_getElem?_getD, List.getElem?_eq_getElem h]
        exact atI_nat (by rw [List.getElem?_map, List.getElem?_eq_getElem h]; rfl)
      have a1 := at_ (ks := k1) (by omega)
      have a2 := at_ (ks := k2) (by omega)
      refine ⟨_, rfl, _, rfl, _, _, _, _, rfl, rfl, SqL.of S4.hll, rfl, _, rfl, _, _, _, _, rfl, rfl, SqL.of S4.h1, a1, _, rfl, _, _, _, _, rfl, rfl, SqL.of S4.hll, rfl, _, rfl, _, _, _, _, rfl, rfl, SqL.of S4.h2, a2, _, _, rfl, rfl, .inr ⟨_, rfl, _, _, rfl, rfl, ?_⟩⟩
      refine ⟨_, rfl, _, rfl, _, _, _, _, rfl, rfl, SqL.of S4.hll, rfl, _, rfl, _, _, _, _, rfl, rfl, SqL.of S4.h1, a1, _, rfl, _, _, _, _, rfl, rfl, SqL.of S4.hll, rfl, _, rfl, _, _, _, _, rfl, rfl, SqL.of S4.h2, a2, _, _, rfl, rfl, .inr ⟨_, rfl, _, _, rfl, rfl, ?_⟩⟩
      exact ⟨rfl, _, rfl⟩
    · rintro σ H' ⟨rfl, v8, rfl⟩
      have e := eqv_mom (momF (gt0 k1 low) wd) (momF (gt0 k2 low) wd)
      have nL := cL_nn (gt0 k1 low) (gt0 k2 low) wd
      have nM := cM_nn (gt0 k1 low) (gt0 k2 low) wd
      refine ⟨_, rfl, _, rfl, _, _, rfl, rfl, rfl, _, rfl, ite2 (fun c => ?_) (fun c => ?_)⟩
      · have c : cL (gt0 k1 low) (gt0 k2 low) wd + cM (gt0 k1 low) (gt0 k2 low) wd = 0 := by
          have := of_decide_eq_true c
          injection this
        refine ⟨_, rfl, _, rfl, _, _, mom_dp ht14, mom_dp ht24, shaped_mom _, shaped_mom _, ?_⟩
        rw [e, decide_eq_true (momF_congr fun n hn => none_apart wd c n hn)]
        exact k _ X04
      · have c : 0 < cL (gt0 k1 low) (gt0 k2 low) wd + cM (gt0 k1 low) (gt0 k2 low) wd := by
          rcases Int.lt_or_le 0 (cL (gt0 k1 low) (gt0 k2 low) wd + cM (gt0 k1 low) (gt0 k2 low) wd) with z | z
          · exact z
          · exact absurd (decide_eq_true (congrArg V.int (show cL (gt0 k1 low) (gt0 k2 low) wd + cM (gt0 k1 low) (gt0 k2 low) wd = 0 by omega))) c
        have fin : (cL (gt0 k1 low) (gt0 k2 low) wd + cM (gt0 k1 low) (gt0 k2 low) wd ≤ 3 ∨ cL (gt0 k1 low) (gt0 k2 low) wd = 0 ∨ cM (gt0 k1 low) (gt0 k2 low) wd = 0) → Q (.bl (!PyData.eqv (momD (momF (gt0 k1 low) wd)) (momD (momF (gt0 k2 low) wd)))) H' := fun h => by
          rw [e, decide_eq_false (mom_apart c h)]
          exact k _ X04
        have isz : ∀ {z : Int}, decide (V.int z = V.int 0) = true → z = 0 := fun h => by
          have := of_decide_eq_true h
          injection this
        refine ⟨_, rfl, _, rfl, _, _, rfl, rfl, _, _, rfl, rfl, _, rfl, ite2 (fun c3 => ?_) (fun c3 => ?_)⟩
        · exact iteT ⟨_, rfl, _, rfl, _, _, mom_dp ht14, mom_dp ht24, shaped_mom _, shaped_mom _, fin (.inl (of_decide_eq_true c3))⟩
        refine ⟨_, rfl, rfl, _, rfl, ite2 (fun c4 => ?_) (fun c4 => ?_)⟩
        · exact iteT ⟨_, rfl, _, rfl, _, _, mom_dp ht14, mom_dp ht24, shaped_mom _, shaped_mom _, fin (.inr (.inl (isz c4)))⟩
        refine ⟨_, rfl, rfl, _, rfl, ite2 (fun c5 => ?_) (fun c5 => ?_)⟩
        · exact ⟨_, rfl, _, rfl, _, _, mom_dp ht14, mom_dp ht24, shaped_mom _, shaped_mom _, fin (.inr (.inr (isz c5)))⟩
        · exact k _ X04
theorem c_law_ranges (T : Bl mg) (c_law_take : Cal P w K mg base 2 "_law_take" spDraw []) (d : D0 K mg "_law_ranges" s_law_ranges ["box", "many"]) : Cal P w K mg base 3 "_law_ranges" spRanges [] := by
  refine cal d sc_law_ranges (fun vs H Q E h => ?_) (fun cdv A outer f0 s0 H vs Q E hr h => ?_)
  · obtain ⟨b, c, N, rfl, _⟩ := h
    rfl
  · obtain ⟨b, c, N, rfl, B, N0, N1, k⟩ := h
    refine ⟨_, (pss_cons (ps_set (i := 2) sc_law_ranges.nd rfl (Or.inl rfl) (pe_lst (pa_cons (pe_tup (pa_cons pe_int (pa_cons (pv 1) pa_nil))) pa_nil)))
      (pss_cons (ps_if (pt_cmpR op_le (pv 1) pe_int (nomark _)) (pss_cons (ps_for PassesOwn.never rfl (pi_range1 rfl T.range (pa_cons (pv 1) pa_nil)) (pg_name (i := 3) sc_law_ranges.nd rfl (Or.inr rfl)) (pss_one (ps_set (i := 2) sc_law_ranges.nd rfl (Or.inl rfl) (pe_op op_cat (pv 2) (pe_lc (own := [("width", 5)]) (g := gName 5) (tt := tYes) (by rfl) sc_law_ranges.nd (pi_range2 rfl T.range (pa_cons pe_int (pa_cons (pe_op op_add (pe_op op_sub (pv 1) (pv 3)) pe_int) pa_nil))) (blkOk_by (own := [("width", 5)]) (N := n_law_ranges) (sc := C8.fnScope s_law_ranges) (by decide +kernel)) (fun _ _ _ _ _ => pg_name (i := 5) sc_law_ranges.nd rfl (Or.inl rfl)) (fun _ _ _ _ _ => pts_nil) (fun _ _ _ _ _ => (pe_tup (pa_cons (pv 3) (pa_cons (pv 5) pa_nil)))))))))
      (pss_one (ps_ret (pv 2)))) pss_nil)
      (pss_cons (ps_for PassesOwn.never rfl (pi_range1 rfl T.range (pa_cons pe_int pa_nil)) (pg_name (i := 4) sc_law_ranges.nd rfl (Or.inl rfl)) (pss_cons (ps_set (i := 3) sc_law_ranges.nd rfl (Or.inr rfl) (pe_c c_law_take hr (by decide) rfl (pa_cons (pv 0) (pa_cons (pv 1) pa_nil))))
      (pss_one (ps_expr (pe_bm PySem.F.plainAttrs_list PySem.F.slot_list_append PySem.F.type_list_append mt_append (pv 2) (pa_cons (pe_tup (pa_cons (pv 3) (pa_cons (pe_op op_add pe_int (pe_c c_law_take hr (by decide) rfl (pa_cons (pv 0) (pa_cons (pe_op op_sub (pv 1) (pv 3)) pa_nil)))) pa_nil))) pa_nil))))))
      (pss_one (ps_ret (pv 2)))))), ?_⟩
    refine ⟨_, rfl, by show 2 ≤ sizeLine; decide, fun t nt => ⟨by show 1 ≤ sizeLine; decide, fun p np => ?_⟩⟩
    have X1 := (Fr.new0 (ds := [b]) nt (.tup [.int 0, .int (N : Int)])).new np (.lst [.ref t])
    have B1 := (B.new nt (.tup [.int 0, .int (N : Int)])).new np (.lst [.ref t])
    have ht : upd (upd H t (.tup [.int 0, .int (N : Int)])) p (.lst [.ref t]) t = some (.tup [.int 0, .int (N : Int)]) := upd_new np upd_same
    have hp : upd (upd H t (.tup [.int 0, .int (N : Int)])) p (.lst [.ref t]) p = some (.lst ([t].map V.ref)) := upd_same
    have nwp : Nw H p := (Fr.new0 (ds := []) nt (.tup [.int 0, .int (N : Int)])).live p (.of np)
    generalize upd (upd H t (.tup [.int 0, .int (N : Int)])) p (.lst [.ref t]) = H1 at X1 B1 ht hp
    have pr1 : Paired (PairAt H1) [t] [(0, N)] := .cons ht .nil
    refine ⟨_, rfl, _, _, rfl, rfl, _, rfl, ite2 (fun c8 => ?_) (fun _ => ?_)⟩
    · have c8 : (N : Int) ≤ 8 := of_decide_eq_true c8
      refine ⟨_, rfl, _, rfl, by omega, by omega, ?_⟩
      rw [Int.toNat_natCast]
      refine for_range (lo := 0) (n := N) (fun i σ H' => Box H' b c ∧ Fr [b] H H' ∧ ∃ (p : Addr) (as : List Addr) (rs : List (Nat × Nat)) (v3 : Option V), Nw H p ∧ H' p = some (.lst (as.map V.ref)) ∧ Paired (PairAt H') as rs ∧ (∀ q ∈ rs, q.1 + q.2 ≤ N) ∧ rs.length ≤ 1 + i * 8 ∧ σ = [some (.ref b), some (.int (N : Int)), some (.ref p), v3, none, none]) ⟨B1, X1, p, [t], [(0, N)], _, nwp, hp, pr1, (fun q m => by rw [List.mem_singleton.mp m]; show 0 + N ≤ N; omega), Nat.le_refl _, rfl⟩ ?_ ?_
      · rintro i σ H2 hi ⟨B2, X2, p, as, rs, v3, nwp, hp, pr, le, lr, rfl⟩
        rw [show (0 : Int) + (i : Int) = (i : Int) by omega]
        have la := pr.length
        refine ⟨_, rfl, _, rfl, _, rfl, _, _, rfl, rfl, _, _, rfl, rfl, 1, (N : Int) - (i : Int) + 1, rfl, ⟨by decide, by decide, by omega, by omega⟩, fun D nD => ?_⟩
        rw [show ((N : Int) - (i : Int) + 1 - 1).toNat = N - i by omega]
        have Dp : D ≠ p := (ne_of_none hp nD).symm
        refine lc_range (lo := 1) (n := N - i) (fun j H' => Fr [] H2 H' ∧ ∃ (cs : List Addr) (ts : List (Nat × Nat)), H' D = some (.lst (cs.map V.ref)) ∧ Paired (PairAt H') cs ts ∧ (∀ q ∈ ts, q.1 + q.2 ≤ N) ∧ ts.length ≤ j) ⟨Fr.new0 nD _, [], [], upd_same, .nil, (fun q m => nomatch m), Nat.le_refl _⟩ (fun j H3 hj pv => ?_) (fun H3 pv => ?_)
        · obtain ⟨X3, cs, ts, hD, pc, lc, lt⟩ := pv
          have lcs := pc.length
          refine ⟨rfl, _, rfl, _, rfl, by show 2 ≤ sizeLine; decide, fun t nt => ?_⟩
          rw [show (1 : Int) + (j : Int) = ((1 + j : Nat) : Int) by omega]
          have X4 := X3.new nt (.tup [.int (i : Int), .int ((1 + j : Nat) : Int)])
          have hD4 := upd_new (o := .tup [.int (i : Int), .int ((1 + j : Nat) : Int)]) nt hD
          have ht4 : upd H3 t (.tup [.int (i : Int), .int ((1 + j : Nat) : Int)]) t = some (.tup [.int (i : Int), .int ((1 + j : Nat) : Int)]) := upd_same
          have pc4 : Paired (PairAt (upd H3 t (.tup [.int (i : Int), .int ((1 + j : Nat) : Int)]))) cs ts := paired_imp0 pc fun a q h => upd_new (o := .tup [.int (i : Int), .int ((1 + j : Nat) : Int)]) nt h
          generalize upd H3 t (.tup [.int (i : Int), .int ((1 + j : Nat) : Int)]) = H4 at X4 hD4 ht4 pc4
          have ne : ∀ {x : Addr} {vs : List V}, H4 x = some (.tup vs) → x ≠ D := fun h z => by rw [z, hD4] at h; cases h
          refine ⟨_, hD4, by rw [List.length_map]; exact small1000' (by omega), X4.late (.of nD) (.lst hD4) _, cs ++ [t], ts ++ [(i, 1 + j)], by rw [upd_same, List.map_append]; rfl, ?_, fun q m => ?_, by rw [List.length_append]; show ts.length + 1 ≤ _; omega⟩
          · refine paired_snoc (paired_imp0 pc4 fun x q h => ?_) ?_
            · have h : H4 x = some (.tup [.int (q.1 : Int), .int (q.2 : Int)]) := h
              show upd H4 D _ x = _
              rw [upd_ne (ne h)]
              exact h
            · show upd H4 D _ t = _
              rw [upd_ne (ne ht4)]
              exact ht4
          · rcases List.mem_append.mp m with m | m
            · exact lc q m
            · rw [List.mem_singleton.mp m]
              show i + (1 + j) ≤ N
              omega
        · obtain ⟨X3, cs, ts, hD, pc, lc, lt⟩ := pv
          have lcs := pc.length
          refine ⟨p, D, _, _, rfl, rfl, X3.lst hp not_nil, hD, ?_, fun p' np' => ?_⟩
          · rw [List.length_map, List.length_map, la, lcs]
            exact Nat.le_of_lt (small1000' (by omega))
          have X4 := X3.new np' (.lst (as.map V.ref ++ cs.map V.ref))
          refine ⟨B2.fr0 X4, X2.trans (X4.mono fun a m => nomatch m), p', as ++ cs, rs ++ ts, _, X2.live p' (X3.live p' (.of np')), by rw [upd_same, List.map_append], ?_, fun q m => ?_, by rw [List.length_append]; omega, rfl⟩
          · exact pd_app (paired_imp0 pr fun a q h => X4.tup h not_nil) (paired_imp0 pc fun a q h => upd_new np' h)
          · rcases List.mem_append.mp m with m | m
            · exact le q m
            · exact lc q m
      · rintro σ H2 ⟨B2, X2, p, as, rs, v3, nwp, hp, pr, le, lr, rfl⟩
        exact ⟨_, rfl, k p as rs H2 nwp B2 X2 hp pr le⟩
    · refine ⟨10, rfl, by decide, by decide, ?_⟩
      refine for_range (lo := 0) (n := 10) (fun i σ H' => Box H' b c ∧ Fr [b] H H' ∧ ∃ (as : List Addr) (rs : List (Nat × Nat)) (v3 v4 : Option V), H' p = some (.lst (as.map V.ref)) ∧ Paired (PairAt H') as rs ∧ (∀ q ∈ rs, q.1 + q.2 ≤ N) ∧ rs.length ≤ 1 + i ∧ σ = [some (.ref b), some (.int (N : Int)), some (.ref p), v3, v4, none]) ⟨B1, X1, [t], [(0, N)], _, _, hp, pr1, (fun q m => by rw [List.mem_singleton.mp m]; show 0 + N ≤ N; omega), Nat.le_refl _, rfl⟩ ?_ ?_
      · rintro i σ H2 hi ⟨B2, X2, as, rs, v3, v4, hp, pr, le, lr, rfl⟩
        have pb : p ≠ b := (B.nw_ne nwp).1
        have pc : p ≠ c := (B.nw_ne nwp).2
        refine ⟨_, rfl, _, rfl, b, c, _, rfl, B2, by omega, Int.lt_of_le_of_lt (show (N : Int) ≤ 1000 by omega) (by decide +kernel), fun d1 H3 a1 a2 B3 X3 => ?_⟩
        obtain ⟨low, rfl⟩ := Int.eq_ofNat_of_zero_le a1
        have hp3 := X3.lst hp (not_one pb)
        have nt3 := B2.nt
        have pr3 : Paired (PairAt H3) as rs := paired_imp0 pr fun a q h => X3.tup h fun m => nt3 a m _ h
        have la := pr.length
        refine ⟨_, rfl, .inl ⟨rfl, _, SqL.of hp3⟩, _, rfl, _, rfl, _, rfl, _, rfl, _, _, rfl, rfl, b, c, _, rfl, B3, by omega, Int.lt_of_le_of_lt (show (N : Int) - (low : Int) ≤ 1000 by omega) (by decide +kernel), fun d2 H4 b1 b2 B4 X4 => ?_⟩
        obtain ⟨wd, rfl⟩ := Int.eq_ofNat_of_zero_le b1
        have hp4 := X4.lst hp3 (not_one pb)
        have nt4 := B3.nt
        have pr4 : Paired (PairAt H4) as rs := paired_imp0 pr3 fun a q h => X4.tup h fun m => nt4 a m _ h
        refine ⟨_, _, rfl, rfl, by show 2 ≤ sizeLine; decide, fun t nt => ?_⟩
        have X5 : Fr [b] H4 (upd H4 t (.tup [.int (low : Int), .int (1 + (wd : Int))])) := Fr.new0 nt _
        have B5 := B4.new nt (.tup [.int (low : Int), .int (1 + (wd : Int))])
        have hp5 := upd_new (o := .tup [.int (low : Int), .int (1 + (wd : Int))]) nt hp4
        have ht5 : upd H4 t (.tup [.int (low : Int), .int (1 + (wd : Int))]) t = some (.tup [.int (low : Int), .int ((1 + wd : Nat) : Int)]) := by rw [upd_same, show (1 : Int) + (wd : Int) = ((1 + wd : Nat) : Int) by omega]
        have pr5 : Paired (PairAt (upd H4 t (.tup [.int (low : Int), .int (1 + (wd : Int))]))) as rs := paired_imp0 pr4 fun a q h => upd_new (o := .tup [.int (low : Int), .int (1 + (wd : Int))]) nt h
        generalize upd H4 t (.tup [.int (low : Int), .int (1 + (wd : Int))]) = H5 at X5 B5 hp5 ht5 pr5
        have ne : ∀ {x : Addr} {vs : List V}, H5 x = some (.tup vs) → x ≠ p := fun h z => by rw [z, hp5] at h; cases h
        refine ⟨p, _, _, rfl, rfl, hp5, by rw [List.length_map, la]; exact small1000' (by omega), ?_⟩
        refine ⟨B5.off pb pc _, (((X2.trans X3).trans X4).trans X5).late nwp (.lst hp5) _, as ++ [t], rs ++ [(low, 1 + wd)], _, _, by rw [upd_same, List.map_append]; rfl, ?_, fun q m => ?_, by rw [List.length_append]; show rs.length + 1 ≤ _; omega, rfl⟩
        · refine paired_snoc (paired_imp0 pr5 fun x q h => ?_) ?_
          · have h : H5 x = some (.tup [.int (q.1 : Int), .int (q.2 : Int)]) := h
            show upd H5 p _ x = _
            rw [upd_ne (ne h)]
            exact h
          · show upd H5 p _ t = _
            rw [upd_ne (ne ht5)]
            exact ht5
        · rcases List.mem_append.mp m with m | m
          · exact le q m
          · rw [List.mem_singleton.mp m]
            show low + (1 + wd) ≤ N
            omega
      · rintro σ H2 ⟨B2, X2, as, rs, v3, v4, hp, pr, le, lr, rfl⟩
        exact ⟨_, rfl, k p as rs H2 nwp B2 X2 hp pr le⟩
end
end K29

set_option Elab.async false
set_option maxRecDepth 100000
set_option maxHeartbeats 8000000
set_option exponentiation.threshold 4096
set_option linter.unusedVariables false
/-! the halving tree by the law -/
namespace K29
open PySem PySem.Spec PyProof.Rows L2 C8 LamX UF
theorem cut_mid {xs : List V} {i j : Nat} (h : i ≤ j) : cutV xs (some (i : Int)) (some (j : Int)) = (xs.drop i).take (j - i) := by
  unfold cutV
  rw [HT.sIx_nat, HT.sIx_nat]
  by_cases q : i ≤ xs.length
  · rw [Nat.min_eq_left q]
    by_cases r : j ≤ xs.length
    · rw [Nat.min_eq_left r]
    · rw [Nat.min_eq_right (by omega), List.take_of_length_le (by rw [List.length_drop]; omega), List.take_of_length_le (by rw [List.length_drop]; omega)]
  · rw [Nat.min_eq_right (by omega), Nat.min_eq_right (by omega), List.drop_of_length_le (Nat.le_refl _), List.drop_of_length_le (by omega)]
    simp
def Sl (ks : List Int) (low w : Nat) : List Int := (ks.drop low).take w
def MeetL (Ap : Nat → Nat → Prop) (k1 k2 : List Int) (low w : Nat) : Prop := Ap low w ∧ momF (gt0 k1 low) w = momF (gt0 k2 low) w
theorem cut_sl {ks : List Int} {low w : Nat} : cutV (ks.map V.int) (some (low : Int)) (some ((low : Int) + (w : Int))) = (Sl ks low w).map V.int := by
  rw [show (low : Int) + (w : Int) = ((low + w : Nat) : Int) by omega, cut_mid (by omega), show low + w - low = w by omega]
  unfold Sl
  rw [List.map_take, List.map_drop]
theorem tree_step {n t p : Nat} (h : n < p + (t + 1)) (hp : p ≤ n) : n < p + t ∨ p = n - t := by omega
theorem half_pow (n t : Nat) : (if ((2 ^ (n - t) : Nat) : Int) / 2 > 1 then ((2 ^ (n - t) : Nat) : Int) / 2 else 1) = ((2 ^ (n - (t + 1)) : Nat) : Int) := by
  cases q : n - t with
  | zero =>
    rw [show n - (t + 1) = 0 by omega]
    decide
  | succ r =>
    rw [show n - (t + 1) = r by omega, Nat.pow_succ]
    have := Nat.two_pow_pos r
    split <;> omega
theorem tree_div {n t : Nat} : ((2 ^ n : Nat) : Int) / ((2 ^ (n - t) : Nat) : Int) = ((2 ^ (n - (n - t)) : Nat) : Int) := by
  rw [← Int.natCast_ediv, Nat.pow_div (by omega) (by decide)]
def spMeets : Sp := fun vs H Q _ => ∃ (p1 p2 : Addr) (k1 k2 : List Int) (n : Nat), vs = [.ref p1, .ref p2] ∧ H p1 = some (.lst (k1.map V.int)) ∧ H p2 = some (.lst (k2.map V.int)) ∧ k1.length = 2 ^ n ∧ k2.length = 2 ^ n ∧ n ≤ 8 ∧
  ∀ (c : Bool) (H' : Hp), (c = true ↔ ∃ low w, TreeR n low w ∧ MeetL (fun low w => Sl k1 low w ≠ Sl k2 low w) k1 k2 low w) → Fr [] H H' → Q (.bl c) H'
def spMeetsB : Sp := fun vs H Q _ => ∃ (p1 p2 : Addr) (k1 k2 : List Int) (n s : Nat), vs = [.ref p1, .ref p2, .int (s : Int)] ∧ H p1 = some (.lst (k1.map V.int)) ∧ H p2 = some (.lst (k2.map V.int)) ∧ k1.length = 2 ^ n ∧ k2.length = 2 ^ n ∧ n ≤ 8 ∧
  ∀ (c : Bool) (H' : Hp), (c = true ↔ ∃ low w, TreeR n low w ∧ MeetL (fun low w => Sl k1 low w ≠ Sl k2 low w ∨ (low ≤ s ∧ s < low + w)) k1 k2 low w) → Fr [] H H' → Q (.bl c) H'
section
variable {P : Program} {w : World} {K : PySem.W.Frag} {mg : Str → Option Value} {base : Heap} {CS CB : Addr}
theorem c_law_meets (T : Bl mg) (c_law_sums : Cal P w K mg base 1 "_law_sums" spSums []) (d : D0 K mg "_law_meets" s_law_meets ["one", "two"]) : Cal P w K mg base 2 "_law_meets" spMeets [] := by
  refine cal d sc_law_meets (fun vs H Q E h => ?_) (fun cdv A outer f0 s0 H vs Q E hr h => ?_)
  · obtain ⟨p1, p2, k1, k2, n, rfl, _⟩ := h
    rfl
  · obtain ⟨p1, p2, k1, k2, n, rfl, h1, h2, l1, l2, n8, k⟩ := h
    refine ⟨_, (pss_cons (ps_set (i := 2) sc_law_meets.nd rfl (Or.inl rfl) (pe_callB call_len_seq (by rfl) T.len (by decide +kernel) (pa_cons (pv 0) pa_nil)))
      (pss_cons (ps_set (i := 3) sc_law_meets.nd rfl (Or.inl rfl) (pv 2))
      (pss_cons (ps_for PassesOwn.never rfl (pi_range1 rfl T.range (pa_cons pe_int pa_nil)) (pg_name (i := 4) sc_law_meets.nd rfl (Or.inl rfl)) (pss_cons (ps_for PassesOwn.never rfl (pi_range1 rfl T.range (pa_cons (pe_op op_fdivW (pv 2) (pv 3)) pa_nil)) (pg_name (i := 5) sc_law_meets.nd rfl (Or.inl rfl)) (pss_cons (ps_set (i := 6) sc_law_meets.nd rfl (Or.inl rfl) (pe_op op_mul (pv 5) (pv 3)))
      (pss_one (ps_if (pt_cmpR (op_neD hr.units) (pe_slice sl_list (pv 0) (po_some (pv 6)) (po_some (pe_op op_add (pv 6) (pv 3)))) (pe_slice sl_list (pv 1) (po_some (pv 6)) (po_some (pe_op op_add (pv 6) (pv 3)))) (nomark _)) (pss_one (ps_if (pt_cmpR (op_eqD hr.units) (pe_c c_law_sums hr (by decide) rfl (pa_cons (pv 0) (pa_cons (pv 6) (pa_cons (pv 3) pa_nil)))) (pe_c c_law_sums hr (by decide) rfl (pa_cons (pv 1) (pa_cons (pv 6) (pa_cons (pv 3) pa_nil)))) (nomark _)) (pss_one (ps_ret pe_bl)) pss_nil)) pss_nil))))
      (pss_one (ps_set (i := 3) sc_law_meets.nd rfl (Or.inl rfl) (pe_callB (call_max2 rfl) (by rfl) T.max (by decide +kernel) (pa_cons pe_int (pa_cons (pe_op op_fdivW (pv 3) pe_int) pa_nil)))))))
      (pss_one (ps_ret pe_bl))))), ?_⟩
    have n256 := pow_le8 (Nat.le_refl n) n8
    obtain ⟨Cl, hCl⟩ : ∃ Cl, Cl = MeetL (fun low w => Sl k1 low w ≠ Sl k2 low w) k1 k2 := ⟨_, rfl⟩
    rw [← hCl] at k
    refine ⟨_, rfl, _, _, rfl, .inl (SqL.of h1), ?_⟩
    rw [List.length_map, l1]
    refine ⟨_, rfl, 9, rfl, by decide, by decide, ?_⟩
    refine for_range (lo := 0) (n := 9) (fun t σ H' => Fr [] H H' ∧ (∀ p, p ≤ n → n < p + t → ∀ j, (j + 1) * 2 ^ p ≤ 2 ^ n → ¬ Cl (j * 2 ^ p) (2 ^ p)) ∧ ∃ v4 v5 v6 : Option V, σ = [some (.ref p1), some (.ref p2), some (.int ((2 ^ n : Nat) : Int)), some (.int ((2 ^ (n - t) : Nat) : Int)), v4, v5, v6]) ⟨.refl _ _, fun p hp h => by omega, _, _, _, rfl⟩ ?_ ?_
    · rintro t σ H1 ht ⟨X1, no, v4, v5, v6, rfl⟩
      have q256 := pow_le8 (show n - t ≤ n by omega) n8
      have q0 := Nat.two_pow_pos (n - t)
      have r256 := pow_le8 (show n - (n - t) ≤ n by omega) n8
      refine ⟨_, rfl, _, rfl, _, _, rfl, rfl, dvw (by omega) (Int.lt_of_le_of_lt (show ((2 ^ (n - t) : Nat) : Int) ≤ 1000 by omega) (by decide +kernel)) _, ?_⟩
      refine ⟨((2 ^ (n - (n - t)) : Nat) : Int), congrArg (fun z => [V.int z]) tree_div, Int.le_trans (by decide) (Int.natCast_nonneg _), Int.lt_of_le_of_lt (Int.ofNat_le.mpr r256) (by decide), ?_⟩
      rw [Int.toNat_natCast]
      refine for_range (lo := 0) (n := 2 ^ (n - (n - t))) (fun i σ H' => Fr [] H H' ∧ (∀ j, j < i → ¬ Cl (j * 2 ^ (n - t)) (2 ^ (n - t))) ∧ ∃ v5 v6 : Option V, σ = [some (.ref p1), some (.ref p2), some (.int ((2 ^ n : Nat) : Int)), some (.int ((2 ^ (n - t) : Nat) : Int)), some (.int (0 + (t : Int))), v5, v6]) ⟨X1, (fun j h => absurd h (Nat.not_lt_zero j)), _, _, rfl⟩ ?_ ?_
      · rintro i σ H2 hi ⟨X2, noI, v5, v6, rfl⟩
        have tk := (tree_k (show n - t ≤ n by omega)).mpr hi
        have e : (0 + (i : Int)) * ((2 ^ (n - t) : Nat) : Int) = ((i * 2 ^ (n - t) : Nat) : Int) := by rw [Int.natCast_mul, Int.zero_add]
        have lw : i * 2 ^ (n - t) + 2 ^ (n - t) ≤ 2 ^ n := by rw [Nat.add_mul, Nat.one_mul] at tk; exact tk
        have next : ¬ Cl (i * 2 ^ (n - t)) (2 ^ (n - t)) → ∀ j, j < i + 1 → ¬ Cl (j * 2 ^ (n - t)) (2 ^ (n - t)) := fun h j hj => by
          rcases Nat.lt_or_ge j i with z | z
          · exact noI j z
          · rw [show j = i by omega]; exact h
        have wit : Cl (i * 2 ^ (n - t)) (2 ^ (n - t)) → ∃ low w, TreeR n low w ∧ Cl low w := fun h => ⟨_, _, ⟨n - t, i, by omega, tk, rfl, rfl⟩, h⟩
        refine ⟨_, rfl, _, rfl, _, _, rfl, rfl, .inr ⟨by omega, by omega⟩, ?_⟩
        show gName 6 (V.int ((0 + (i : Int)) * ((2 ^ (n - t) : Nat) : Int))) _ _ _
        rw [e]
        generalize i * 2 ^ (n - t) = low at next wit lw
        generalize 2 ^ (n - t) = wd at next wit lw q256
        have h12 := X2.lst h1 not_nil
        have h22 := X2.lst h2 not_nil
        refine ⟨_, rfl, _, rfl, _, rfl, _, rfl, _, rfl, _, _, rfl, rfl, _, rfl, p1, _, rfl, SqL.of h12, fun s1 ns1 => ?_⟩
        rw [cut_sl]
        have X3 := X2.new ns1 (.lst ((Sl k1 low wd).map V.int))
        have hs1 : upd H2 s1 (.lst ((Sl k1 low wd).map V.int)) s1 = some (.lst ((Sl k1 low wd).map V.int)) := upd_same
        generalize upd H2 s1 (.lst ((Sl k1 low wd).map V.int)) = H3 at X3 hs1
        refine ⟨_, rfl, _, rfl, _, rfl, _, rfl, _, rfl, _, _, rfl, rfl, _, rfl, p2, _, rfl, SqL.of (X3.lst h2 not_nil), fun s2 ns2 => ?_⟩
        rw [cut_sl]
        have X4 := X3.new ns2 (.lst ((Sl k2 low wd).map V.int))
        have hs14 := upd_new (o := .lst ((Sl k2 low wd).map V.int)) ns2 hs1
        have hs24 : upd H3 s2 (.lst ((Sl k2 low wd).map V.int)) s2 = some (.lst ((Sl k2 low wd).map V.int)) := upd_same
        generalize upd H3 s2 (.lst ((Sl k2 low wd).map V.int)) = H4 at X4 hs14 hs24
        refine ⟨_, _, dpList (SqL.of hs14), dpList (SqL.of hs24), shaped_list _, shaped_list _, _, rfl, ?_⟩
        rw [eqv_ints]
        by_cases ap : Sl k1 low wd = Sl k2 low wd
        · rw [decide_eq_true ap]
          refine iteF ⟨X4, next fun z => ?_, _, _, rfl⟩
          rw [hCl] at z
          exact z.1 ap
        · rw [decide_eq_false ap]
          refine iteT ?_
          refine ⟨_, rfl, _, rfl, _, rfl, p1, k1, low, wd, rfl, X4.lst h1 not_nil, by omega, by omega, fun u1 H5 nu1 X5 hu1 => ?_⟩
          refine ⟨_, rfl, _, rfl, _, rfl, p2, k2, low, wd, rfl, (X4.trans X5).lst h2 not_nil, by omega, by omega, fun u2 H6 nu2 X6 hu2 => ?_⟩
          have X06 := (X4.trans X5).trans X6
          refine ⟨_, _, mom_dp (X6.tup hu1 not_nil), mom_dp hu2, shaped_mom _, shaped_mom _, _, rfl, ?_⟩
          rw [eqv_mom]
          refine ite2 (fun c => ?_) (fun c => ?_)
          · refine k true H6 ⟨fun _ => wit ?_, fun _ => rfl⟩ X06
            rw [hCl]
            exact ⟨ap, of_decide_eq_true c⟩
          · refine ⟨X06, next fun z => ?_, _, _, rfl⟩
            rw [hCl] at z
            exact c (decide_eq_true z.2)
      · rintro σ H2 ⟨X2, noI, v5, v6, rfl⟩
        refine ⟨_, rfl, _, _, rfl, rfl, dvw (by decide) (by decide +kernel) _, _, _, rfl, ?_⟩
        show gName 3 (V.int (if ((2 ^ (n - t) : Nat) : Int) / 2 > 1 then ((2 ^ (n - t) : Nat) : Int) / 2 else 1)) _ _ _
        rw [half_pow]
        refine ⟨X2, fun p hp h j hj => ?_, _, _, _, rfl⟩
        rcases tree_step h hp with z | z
        · exact no p hp z j hj
        · rw [z]
          refine noI j ?_
          rw [z] at hj
          exact (tree_k (by omega)).mp hj
    · rintro σ H1 ⟨X1, no, v4, v5, v6, rfl⟩
      refine k false H1 ⟨(fun z => nomatch z), ?_⟩ X1
      rintro ⟨low, wd, ⟨p, j, hp, hj, rfl, rfl⟩, h⟩
      exact absurd h (no p hp (by omega) j hj)
theorem c_law_meets_bent (T : Bl mg) (c_law_sums : Cal P w K mg base 1 "_law_sums" spSums []) (d : D0 K mg "_law_meets_bent" s_law_meets_bent ["one", "two", "seat"]) : Cal P w K mg base 2 "_law_meets_bent" spMeetsB [] := by
  refine cal d sc_law_meets_bent (fun vs H Q E h => ?_) (fun cdv A outer f0 s0 H vs Q E hr h => ?_)
  · obtain ⟨p1, p2, k1, k2, n, s, rfl, _⟩ := h
    rfl
  · obtain ⟨p1, p2, k1, k2, n, s, rfl, h1, h2, l1, l2, n8, k⟩ := h
    refine ⟨_, (pss_cons (ps_set (i := 3) sc_law_meets_bent.nd rfl (Or.inl rfl) (pe_callB call_len_seq (by rfl) T.len (by decide +kernel) (pa_cons (pv 0) pa_nil)))
      (pss_cons (ps_set (i := 4) sc_law_meets_bent.nd rfl (Or.inl rfl) (pv 3))
      (pss_cons (ps_for PassesOwn.never rfl (pi_range1 rfl T.range (pa_cons pe_int pa_nil)) (pg_name (i := 5) sc_law_meets_bent.nd rfl (Or.inl rfl)) (pss_cons (ps_for PassesOwn.never rfl (pi_range1 rfl T.range (pa_cons (pe_op op_fdivW (pv 3) (pv 4)) pa_nil)) (pg_name (i := 6) sc_law_meets_bent.nd rfl (Or.inl rfl)) (pss_cons (ps_set (i := 7) sc_law_meets_bent.nd rfl (Or.inl rfl) (pe_op op_mul (pv 6) (pv 4)))
      (pss_cut (ps_set (i := 8) sc_law_meets_bent.nd rfl (Or.inl rfl) (pe_or (pe_cmpR (op_neD hr.units) (pe_slice sl_list (pv 0) (po_some (pv 7)) (po_some (pe_op op_add (pv 7) (pv 4)))) (pe_slice sl_list (pv 1) (po_some (pv 7)) (po_some (pe_op op_add (pv 7) (pv 4)))) (nomark _)) (pe_one (pe_chain op_le op_lt (pv 7) (pv 2) (pe_op op_add (pv 7) (pv 4))))))
      (pss_one (ps_if (PW.pt (pw_and (pt_val (pv 8)) (pw_and1 (pt_cmpR (op_eqD hr.units) (pe_c c_law_sums hr (by decide) rfl (pa_cons (pv 0) (pa_cons (pv 7) (pa_cons (pv 4) pa_nil)))) (pe_c c_law_sums hr (by decide) rfl (pa_cons (pv 1) (pa_cons (pv 7) (pa_cons (pv 4) pa_nil)))) (nomark _))))) (pss_one (ps_ret pe_bl)) pss_nil)))))
      (pss_one (ps_set (i := 4) sc_law_meets_bent.nd rfl (Or.inl rfl) (pe_callB (call_max2 rfl) (by rfl) T.max (by decide +kernel) (pa_cons pe_int (pa_cons (pe_op op_fdivW (pv 4) pe_int) pa_nil)))))))
      (pss_one (ps_ret pe_bl))))), ?_⟩
    have n256 := pow_le8 (Nat.le_refl n) n8
    obtain ⟨Cl, hCl⟩ : ∃ Cl, Cl = MeetL (fun low w => Sl k1 low w ≠ Sl k2 low w ∨ (low ≤ s ∧ s < low + w)) k1 k2 := ⟨_, rfl⟩
    rw [← hCl] at k
    refine ⟨_, rfl, _, _, rfl, .inl (SqL.of h1), ?_⟩
    rw [List.length_map, l1]
    refine ⟨_, rfl, 9, rfl, by decide, by decide, ?_⟩
    refine for_range (lo := 0) (n := 9) (fun t σ H' => Fr [] H H' ∧ (∀ p, p ≤ n → n < p + t → ∀ j, (j + 1) * 2 ^ p ≤ 2 ^ n → ¬ Cl (j * 2 ^ p) (2 ^ p)) ∧ ∃ v4 v5 v6 v8 : Option V, σ = [some (.ref p1), some (.ref p2), some (.int (s : Int)), some (.int ((2 ^ n : Nat) : Int)), some (.int ((2 ^ (n - t) : Nat) : Int)), v4, v5, v6, v8]) ⟨.refl _ _, fun p hp h => by omega, _, _, _, _, rfl⟩ ?_ ?_
    · rintro t σ H1 ht ⟨X1, no, v4, v5, v6, v8, rfl⟩
      have q256 := pow_le8 (show n - t ≤ n by omega) n8
      have q0 := Nat.two_pow_pos (n - t)
      have r256 := pow_le8 (show n - (n - t) ≤ n by omega) n8
      refine ⟨_, rfl, _, rfl, _, _, rfl, rfl, dvw (by omega) (Int.lt_of_le_of_lt (show ((2 ^ (n - t) : Nat) : Int) ≤ 1000 by omega) (by decide +kernel)) _, ?_⟩
      refine ⟨((2 ^ (n - (n - t)) : Nat) : Int), congrArg (fun z => [V.int z]) tree_div, Int.le_trans (by decide) (Int.natCast_nonneg _), Int.lt_of_le_of_lt (Int.ofNat_le.mpr r256) (by decide), ?_⟩
      rw [Int.toNat_natCast]
      refine for_range (lo := 0) (n := 2 ^ (n - (n - t))) (fun i σ H' => Fr [] H H' ∧ (∀ j, j < i → ¬ Cl (j * 2 ^ (n - t)) (2 ^ (n - t))) ∧ ∃ v5 v6 v8 : Option V, σ = [some (.ref p1), some (.ref p2), some (.int (s : Int)), some (.int ((2 ^ n : Nat) : Int)), some (.int ((2 ^ (n - t) : Nat) : Int)), some (.int (0 + (t : Int))), v5, v6, v8]) ⟨X1, (fun j h => absurd h (Nat.not_lt_zero j)), _, _, _, rfl⟩ ?_ ?_
      · rintro i σ H2 hi ⟨X2, noI, v5, v6, v8, rfl⟩
        have tk := (tree_k (show n - t ≤ n by omega)).mpr hi
        have e : (0 + (i : Int)) * ((2 ^ (n - t) : Nat) : Int) = ((i * 2 ^ (n - t) : Nat) : Int) := by rw [Int.natCast_mul, Int.zero_add]
        have lw : i * 2 ^ (n - t) + 2 ^ (n - t) ≤ 2 ^ n := by rw [Nat.add_mul, Nat.one_mul] at tk; exact tk
        have next : ¬ Cl (i * 2 ^ (n - t)) (2 ^ (n - t)) → ∀ j, j < i + 1 → ¬ Cl (j * 2 ^ (n - t)) (2 ^ (n - t)) := fun h j hj => by
          rcases Nat.lt_or_ge j i with z | z
          · exact noI j z
          · rw [show j = i by omega]; exact h
        have wit : Cl (i * 2 ^ (n - t)) (2 ^ (n - t)) → ∃ low w, TreeR n low w ∧ Cl low w := fun h => ⟨_, _, ⟨n - t, i, by omega, tk, rfl, rfl⟩, h⟩
        refine ⟨_, rfl, _, rfl, _, _, rfl, rfl, .inr ⟨by omega, by omega⟩, ?_⟩
        show gName 7 (V.int ((0 + (i : Int)) * ((2 ^ (n - t) : Nat) : Int))) _ _ _
        rw [e]
        generalize i * 2 ^ (n - t) = low at next wit lw
        generalize 2 ^ (n - t) = wd at next wit lw q256
        have h12 := X2.lst h1 not_nil
        have h22 := X2.lst h2 not_nil
        obtain ⟨Ap, hAp⟩ : ∃ Ap : Prop, Ap = (Sl k1 low wd ≠ Sl k2 low wd ∨ (low ≤ s ∧ s < low + wd)) := ⟨_, rfl⟩
        refine ⟨fun σ H' => Fr [] H H' ∧ ∃ ap : Bool, (ap = true ↔ Ap) ∧ σ = [some (.ref p1), some (.ref p2), some (.int (s : Int)), some (.int ((2 ^ n : Nat) : Int)), some (.int (wd : Int)), some (.int (0 + (t : Int))), some (.int (0 + (i : Int))), some (.int (low : Int)), some (.bl ap)], ?_, ?_⟩
        · refine ⟨_, rfl, _, rfl, _, rfl, _, rfl, _, rfl, _, _, rfl, rfl, _, rfl, p1, _, rfl, SqL.of h12, fun s1 ns1 => ?_⟩
          rw [cut_sl]
          have X3 := X2.new ns1 (.lst ((Sl k1 low wd).map V.int))
          have hs1 : upd H2 s1 (.lst ((Sl k1 low wd).map V.int)) s1 = some (.lst ((Sl k1 low wd).map V.int)) := upd_same
          generalize upd H2 s1 (.lst ((Sl k1 low wd).map V.int)) = H3 at X3 hs1
          refine ⟨_, rfl, _, rfl, _, rfl, _, rfl, _, rfl, _, _, rfl, rfl, _, rfl, p2, _, rfl, SqL.of (X3.lst h2 not_nil), fun s2 ns2 => ?_⟩
          rw [cut_sl]
          have X4 := X3.new ns2 (.lst ((Sl k2 low wd).map V.int))
          have hs14 := upd_new (o := .lst ((Sl k2 low wd).map V.int)) ns2 hs1
          have hs24 : upd H3 s2 (.lst ((Sl k2 low wd).map V.int)) s2 = some (.lst ((Sl k2 low wd).map V.int)) := upd_same
          generalize upd H3 s2 (.lst ((Sl k2 low wd).map V.int)) = H4 at X4 hs14 hs24
          refine ⟨_, _, dpList (SqL.of hs14), dpList (SqL.of hs24), shaped_list _, shaped_list _, ?_⟩
          rw [eqv_ints]
          by_cases ap : Sl k1 low wd = Sl k2 low wd
          · rw [decide_eq_true ap]
            refine ⟨_, rfl, iteF ?_⟩
            refine ⟨_, rfl, _, rfl, _, _, rfl, rfl, _, rfl, ite2 (fun c1 => ?_) (fun c1 => ?_)⟩
            · have c1 : (low : Int) ≤ s := of_decide_eq_true c1
              refine ⟨_, rfl, _, rfl, _, _, rfl, rfl, _, _, rfl, rfl, X4, decide ((s : Int) < (low : Int) + (wd : Int)), ?_, rfl⟩
              rw [hAp, decide_eq_true_eq]
              constructor
              · intro z
                exact .inr ⟨by omega, by omega⟩
              · rintro (z | z)
                · exact absurd ap z
                · omega
            · refine ⟨X4, false, ⟨(fun z => nomatch z), fun z => ?_⟩, rfl⟩
              rw [hAp] at z
              rcases z with z | z
              · exact absurd ap z
              · exact absurd (decide_eq_true (show (low : Int) ≤ s by omega)) c1
          · rw [decide_eq_false ap]
            refine ⟨_, rfl, iteT ⟨X4, true, ⟨fun _ => ?_, fun _ => rfl⟩, rfl⟩⟩
            rw [hAp]
            exact .inl ap
        rintro σ H4 ⟨X4, ap, hap, rfl⟩
        cases ap with
        | false =>
          refine ⟨_, rfl, _, rfl, iteF (iteF ⟨X4, next fun z => ?_, _, _, _, rfl⟩)⟩
          rw [hCl] at z
          have : Ap := by rw [hAp]; exact z.1
          exact Bool.noConfusion (hap.mpr this)
        | true =>
          have hAp1 : Ap := hap.mp rfl
          rw [hAp] at hAp1
          refine ⟨_, rfl, _, rfl, iteT ?_⟩
          refine ⟨_, rfl, _, rfl, _, rfl, p1, k1, low, wd, rfl, X4.lst h1 not_nil, by omega, by omega, fun u1 H5 nu1 X5 hu1 => ?_⟩
          refine ⟨_, rfl, _, rfl, _, rfl, p2, k2, low, wd, rfl, (X4.trans X5).lst h2 not_nil, by omega, by omega, fun u2 H6 nu2 X6 hu2 => ?_⟩
          have X06 := (X4.trans X5).trans X6
          refine ⟨_, _, mom_dp (X6.tup hu1 not_nil), mom_dp hu2, shaped_mom _, shaped_mom _, _, rfl, ?_⟩
          rw [eqv_mom]
          refine ite2 (fun c => ?_) (fun c => ?_)
          · refine k true H6 ⟨fun _ => wit ?_, fun _ => rfl⟩ X06
            rw [hCl]
            exact ⟨hAp1, of_decide_eq_true c⟩
          · refine ⟨X06, next fun z => ?_, _, _, _, rfl⟩
            rw [hCl] at z
            exact c (decide_eq_true z.2)
      · rintro σ H2 ⟨X2, noI, v5, v6, v8, rfl⟩
        refine ⟨_, rfl, _, _, rfl, rfl, dvw (by decide) (by decide +kernel) _, _, _, rfl, ?_⟩
        show gName 4 (V.int (if ((2 ^ (n - t) : Nat) : Int) / 2 > 1 then ((2 ^ (n - t) : Nat) : Int) / 2 else 1)) _ _ _
        rw [half_pow]
        refine ⟨X2, fun p hp h j hj => ?_, _, _, _, _, rfl⟩
        rcases tree_step h hp with z | z
        · exact no p hp z j hj
        · rw [z]
          refine noI j ?_
          rw [z] at hj
          exact (tree_k (by omega)).mp hj
    · rintro σ H1 ⟨X1, no, v4, v5, v6, v8, rfl⟩
      refine k false H1 ⟨(fun z => nomatch z), ?_⟩ X1
      rintro ⟨low, wd, ⟨p, j, hp, hj, rfl, rfl⟩, h⟩
      exact absurd h (no p hp (by omega) j hj)
end
end K29

set_option Elab.async false
set_option maxRecDepth 100000
set_option maxHeartbeats 8000000
set_option exponentiation.threshold 4096
set_option linter.unusedVariables false
/-! what the law asks of two books -/
namespace K29
open PySem PySem.Spec PyProof.Rows L2 C8 LamX UF
theorem row_eq {k1 k2 : List Int} {salt : Int} {j : Nat} (v1 : LvOk k1) (v2 : LvOk k2) (h1 : j < k1.length) (h2 : j < k2.length) : rowAt k1 salt j = rowAt k2 salt j ↔ k1[j]? = k2[j]? := by
  constructor
  · intro e
    have a := lvl_row (salt := salt) (low := j) (n := 0) v1
    have b := lvl_row (salt := salt) (low := j) (n := 0) v2
    unfold lvl at a b
    rw [Nat.add_zero, e] at a
    rw [Nat.add_zero, a] at b
    unfold gt0 at b
    rw [Nat.add_zero, List.getD_eq_getElem?_getD, List.getD_eq_getElem?_getD, List.getElem?_eq_getElem h1, List.getElem?_eq_getElem h2] at b
    rw [List.getElem?_eq_getElem h1, List.getElem?_eq_getElem h2]
    exact congrArg some b
  · intro e
    unfold rowAt
    rw [e]
theorem sl_at (ks : List Int) (low w i : Nat) : (Sl ks low w)[i]? = if i < w then ks[low + i]? else none := by
  unfold Sl
  rw [List.getElem?_take]
  split
  · rw [List.getElem?_drop]
  · rfl
theorem same_sl {k1 k2 : List Int} {salt : Int} {low w : Nat} (v1 : LvOk k1) (v2 : LvOk k2) (h1 : low + w ≤ k1.length) (h2 : low + w ≤ k2.length) : SameR (rowAt k1 salt) (rowAt k2 salt) low w ↔ Sl k1 low w = Sl k2 low w := by
  constructor
  · intro s
    refine List.ext_getElem? fun i => ?_
    rw [sl_at, sl_at]
    split
    · rename_i h
      exact (row_eq v1 v2 (by omega) (by omega)).mp (s i h)
    · rfl
  · intro e n hn
    refine (row_eq v1 v2 (by omega) (by omega)).mpr ?_
    have := congrArg (fun l : List Int => l[n]?) e
    simp only [sl_at, if_pos hn] at this
    exact this
theorem tree_in {n low w : Nat} (t : TreeR n low w) : low + w ≤ 2 ^ n := by
  obtain ⟨p, k, hp, hk, rfl, rfl⟩ := t
  rw [Nat.add_mul, Nat.one_mul] at hk
  exact hk
theorem clash_meet {k1 k2 : List Int} {salt : Int} {n : Nat} (v1 : LvOk k1) (v2 : LvOk k2) (l1 : k1.length = 2 ^ n) (l2 : k2.length = 2 ^ n) : ClashT (rowAt k1 salt) (rowAt k2 salt) n ↔ ∃ low w, TreeR n low w ∧ MeetL (fun low w => Sl k1 low w ≠ Sl k2 low w) k1 k2 low w := by
  unfold ClashT ClashR MeetL
  constructor
  · rintro ⟨low, w, t, h1, h2⟩
    have := tree_in t
    rw [mom_row v1, mom_row v2] at h2
    exact ⟨low, w, t, fun e => h1 ((same_sl v1 v2 (by omega) (by omega)).mpr e), h2⟩
  · rintro ⟨low, w, t, h1, h2⟩
    have := tree_in t
    refine ⟨low, w, t, fun e => h1 ((same_sl v1 v2 (by omega) (by omega)).mp e), ?_⟩
    rw [mom_row v1, mom_row v2]
    exact h2
theorem clash_symm {f g : Nat → Option Say} {n : Nat} (h : ClashT f g n) : ClashT g f n := by
  obtain ⟨low, w, t, h1, h2⟩ := h
  exact ⟨low, w, t, fun s => h1 fun i hi => (s i hi).symm, h2.symm⟩
theorem clash_self {f : Nat → Option Say} {n : Nat} : ¬ ClashT f f n := fun ⟨low, w, t, h1, h2⟩ => h1 fun i hi => rfl
def spClR (CB CS : Addr) : Sp := fun vs H Q _ => ∃ (bl ll b1 b2 p1 p2 x L1 L2 : Addr) (m1 m2 : List (Int × Say)) (k1 k2 : List Int) (salt : Int) (n : Nat), vs = [.ref bl, .ref ll] ∧ StB CB CS H bl ll b1 b2 p1 p2 x L1 L2 m1 m2 k1 k2 salt n ∧ ∀ H' : Hp, Fr [] H H' → Q (.bl true) H'
def spAsked (CB CS : Addr) : Sp := fun vs H Q _ => ∃ (bl ll b1 b2 p1 p2 x L1 L2 rl : Addr) (m1 m2 : List (Int × Say)) (k1 k2 : List Int) (salt : Int) (n : Nat) (as : List Addr) (rs : List (Nat × Nat)), vs = [.ref bl, .ref ll, .int salt, .ref rl] ∧ StB CB CS H bl ll b1 b2 p1 p2 x L1 L2 m1 m2 k1 k2 salt n ∧ H rl = some (.lst (as.map V.ref)) ∧ Paired (PairAt H) as rs ∧ (∀ q ∈ rs, q.1 + q.2 ≤ 2 ^ n) ∧ ∀ H' : Hp, Fr [] H H' → Q (.bl true) H'
section
variable {P : Program} {w : World} {K : PySem.W.Frag} {mg : Str → Option Value} {base : Heap} {CS CB : Addr}
theorem c_law_clash_right (T : Bl mg) (c_clash : Cal P w K mg base 4 "clash" (spClash CB CS) []) (c_law_meets : Cal P w K mg base 2 "_law_meets" spMeets []) (d : D0 K mg "_law_clash_right" s_law_clash_right ["books", "levels"]) : Cal P w K mg base 5 "_law_clash_right" (spClR CB CS) [] := by
  refine cal d sc_law_clash_right (fun vs H Q E h => ?_) (fun cdv A outer f0 s0 H vs Q E hr h => ?_)
  · obtain ⟨bl, ll, b1, b2, p1, p2, x, L1, L2, m1, m2, k1, k2, salt, n, rfl, _⟩ := h
    rfl
  · obtain ⟨bl, ll, b1, b2, p1, p2, x, L1, L2, m1, m2, k1, k2, salt, n, rfl, S, k⟩ := h
    refine ⟨_, (pss_cons (ps_set (i := 2) sc_law_clash_right.nd rfl (Or.inl rfl) (pe_c c_law_meets hr (by decide) rfl (pa_cons (pe_ix ix_list (pv 1) pe_int (fun _ _ => rfl)) (pa_cons (pe_ix ix_list (pv 1) pe_int (fun _ _ => rfl)) pa_nil))))
      (pss_cons (ps_for PassesOwn.never rfl (pi_list (pe_lst (pa_cons (pe_tup (pa_cons pe_int (pa_cons pe_int (pa_cons (pv 2) pa_nil)))) (pa_cons (pe_tup (pa_cons pe_int (pa_cons pe_int (pa_cons (pv 2) pa_nil)))) (pa_cons (pe_tup (pa_cons pe_int (pa_cons pe_int (pa_cons pe_bl pa_nil)))) pa_nil))))) (pg_tup rfl (pgs_cons (pg_name (i := 3) sc_law_clash_right.nd rfl (Or.inl rfl)) (pgs_cons (pg_name (i := 4) sc_law_clash_right.nd rfl (Or.inl rfl)) (pgs_cons (pg_name (i := 5) sc_law_clash_right.nd rfl (Or.inl rfl)) pgs_nil)))) (pss_cons (ps_set (i := 6) sc_law_clash_right.nd rfl (Or.inl rfl) (pe_c c_clash hr (by decide) rfl (pa_cons (pe_ix ix_list (pv 0) (pv 3) (fun _ _ => rfl)) (pa_cons (pe_ix ix_list (pv 0) (pv 4) (fun _ _ => rfl)) pa_nil))))
      (pss_one (ps_if (PW.pt (pw_or (pt_not (pt_val (pe_callB call_isi (by rfl) T.isinstance (by decide +kernel) (pa_cons (pv 6) (pa_cons (pe_bltn (v := .ty "bool") (by rfl) T.bool (by decide +kernel) rfl) pa_nil))))) (pw_or1 (pt_cmpR op_ne (pv 6) (pv 5) (nomark _))))) (pss_one (ps_ret pe_bl)) pss_nil))))
      (pss_one (ps_ret pe_bl)))), ?_⟩
    refine ⟨_, rfl, _, _, _, _, rfl, rfl, SqL.of S.hll, rfl, _, rfl, _, _, _, _, rfl, rfl, SqL.of S.hll, rfl, p1, p2, k1, k2, n, rfl, S.h1, S.h2, S.l1, S.l2, S.n8, fun due H1 hdue X1 => ?_⟩
    rw [← clash_meet (salt := salt) S.v1 S.v2 S.l1 S.l2] at hdue
    have S1 := S.fr0 X1
    refine ⟨_, rfl, by show 3 ≤ sizeLine; decide, fun t1 nt1 => ?_⟩
    have X2 : Fr [] H1 (upd H1 t1 (.tup [.int 0, .int 1, .bl due])) := Fr.new0 nt1 _
    have h11 : upd H1 t1 (.tup [.int 0, .int 1, .bl due]) t1 = some (.tup [.int 0, .int 1, .bl due]) := upd_same
    generalize upd H1 t1 (.tup [.int 0, .int 1, .bl due]) = H2 at X2 h11
    refine ⟨_, rfl, by show 3 ≤ sizeLine; decide, fun t2 nt2 => ?_⟩
    have X3 := X2.new nt2 (.tup [.int 1, .int 0, .bl due])
    have h12 := upd_new (o := .tup [.int 1, .int 0, .bl due]) nt2 h11
    have h22 : upd H2 t2 (.tup [.int 1, .int 0, .bl due]) t2 = some (.tup [.int 1, .int 0, .bl due]) := upd_same
    generalize upd H2 t2 (.tup [.int 1, .int 0, .bl due]) = H3 at X3 h12 h22
    refine ⟨by show 3 ≤ sizeLine; decide, fun t3 nt3 => ?_⟩
    have X4 := X3.new nt3 (.tup [.int 0, .int 0, .bl false])
    have h13 := upd_new (o := .tup [.int 0, .int 0, .bl false]) nt3 h12
    have h23 := upd_new (o := .tup [.int 0, .int 0, .bl false]) nt3 h22
    have h33 : upd H3 t3 (.tup [.int 0, .int 0, .bl false]) t3 = some (.tup [.int 0, .int 0, .bl false]) := upd_same
    generalize upd H3 t3 (.tup [.int 0, .int 0, .bl false]) = H4 at X4 h13 h23 h33
    refine ⟨by show 3 ≤ sizeLine; decide, fun l nl => ?_⟩
    have X5 := X4.new nl (.lst [.ref t1, .ref t2, .ref t3])
    have h14 := upd_new (o := .lst [.ref t1, .ref t2, .ref t3]) nl h13
    have h24 := upd_new (o := .lst [.ref t1, .ref t2, .ref t3]) nl h23
    have h34 := upd_new (o := .lst [.ref t1, .ref t2, .ref t3]) nl h33
    have hl : upd H4 l (.lst [.ref t1, .ref t2, .ref t3]) l = some (.lst [.ref t1, .ref t2, .ref t3]) := upd_same
    generalize upd H4 l (.lst [.ref t1, .ref t2, .ref t3]) = H5 at X5 h14 h24 h34 hl
    refine ⟨l, rfl, ⟨_, SqL.of hl⟩, ?_⟩
    have X05 := X1.trans X5
    refine for_list (xs := [.ref t1, .ref t2, .ref t3]) (fun j σ H' => Fr [] H5 H' ∧ ∃ v3 v4 v5 v6 : Option V, σ = [some (.ref bl), some (.ref ll), some (.bl due), v3, v4, v5, v6]) ⟨.refl _ _, _, _, _, _, rfl⟩ (fun j σ H' _ pv => SqL.of (pv.1.lst hl not_nil)) (fun j v σ H6 hv pv => ?_) (fun σ H6 pv => ?_)
    · obtain ⟨X6, v3, v4, v5, v6, rfl⟩ := pv
      have S6 := S.fr0 (X05.trans X6)
      obtain ⟨t, i1, i2, wn, ba, bb, La, Lb, ma, mb, f, g, rfl, ht, e1, e2, Ba, Bb, hw⟩ : ∃ (t : Addr) (i1 i2 : Int) (wn : Bool) (ba bb La Lb : Addr) (ma mb : List (Int × Say)) (f g : Nat → Option Say), v = .ref t ∧ H5 t = some (.tup [.int i1, .int i2, .bl wn]) ∧ atI [V.ref b1, V.ref b2] i1 = some (.ref ba) ∧ atI [V.ref b1, V.ref b2] i2 = some (.ref bb) ∧ BkF CB H6 ba x La ma f (2 ^ n) ∧ BkF CB H6 bb x Lb mb g (2 ^ n) ∧ (wn = true ↔ ClashT f g n) := by
        have B1 := S6.B1
        have B2 := S6.B2
        rw [S.l1] at B1
        rw [S.l2] at B2
        match j, hv with
        | 0, hv => exact ⟨t1, 0, 1, due, b1, b2, L1, L2, m1, m2, _, _, by injection hv with e; exact e.symm, h14, rfl, rfl, B1, B2, hdue⟩
        | 1, hv => exact ⟨t2, 1, 0, due, b2, b1, L2, L1, m2, m1, _, _, by injection hv with e; exact e.symm, h24, rfl, rfl, B2, B1, hdue.trans ⟨clash_symm, clash_symm⟩⟩
        | 2, hv => exact ⟨t3, 0, 0, false, b1, b1, L1, L1, m1, m1, _, _, by injection hv with e; exact e.symm, h34, rfl, rfl, B1, B1, (fun z => nomatch z), fun z => absurd z clash_self⟩
        | j + 3, hv => cases hv
      refine ⟨t, _, rfl, SqT.of (X6.tup ht not_nil), rfl, _, _, rfl, _, _, rfl, _, _, rfl, rfl, ?_⟩
      refine ⟨_, rfl, _, rfl, _, _, _, _, rfl, rfl, SqL.of S6.hbl, e1, _, rfl, _, rfl, _, _, _, _, rfl, rfl, SqL.of S6.hbl, e2, ba, x, La, bb, x, Lb, ma, mb, f, g, n, 2 ^ n, rfl, Ba, Bb, S6.hx, S.n8, fun cc H7 hcc X7 => ?_⟩
      have : cc = wn := by
        rw [Bool.eq_iff_iff, hcc, hw]
      subst this
      refine ⟨_, rfl, _, _, _, _, true, rfl, .ty _, .base (.bl _), kit_ty (by decide +kernel), _, rfl, iteF ?_⟩
      refine ⟨_, rfl, _, rfl, rfl, _, rfl, ?_⟩
      show (if (!decide (V.bl cc = V.bl cc)) = true then _ else _)
      rw [decide_eq_true rfl]
      exact iteF ⟨X6.trans X7, _, _, _, _, rfl⟩
    · obtain ⟨X6, v3, v4, v5, v6, rfl⟩ := pv
      exact k H6 (X05.trans X6)
theorem c_law_asked (T : Bl mg) (c_law_range_right : Cal P w K mg base 3 "_law_range_right" (spRange CB CS) []) (c_law_clash_right : Cal P w K mg base 5 "_law_clash_right" (spClR CB CS) []) (c_law_rows : Cal P w K mg base 3 "_law_rows" spRowsF []) (c_law_same : Cal P w K mg base 3 "_law_same" spSameF []) (m_rows : Met P w K mg base 2 CB "rows" (spRowsB CB) []) (d : D0 K mg "_law_asked" s_law_asked ["books", "levels", "salt", "ranges"]) : Cal P w K mg base 6 "_law_asked" (spAsked CB CS) [] := by
  refine cal d sc_law_asked (fun vs H Q E h => ?_) (fun cdv A outer f0 s0 H vs Q E hr h => ?_)
  · obtain ⟨bl, ll, b1, b2, p1, p2, x, L1, L2, rl, m1, m2, k1, k2, salt, n, as, rs, rfl, _⟩ := h
    rfl
  · obtain ⟨bl, ll, b1, b2, p1, p2, x, L1, L2, rl, m1, m2, k1, k2, salt, n, as, rs, rfl, S, hrl, prs, le, k⟩ := h
    refine ⟨_, (pss_cons (ps_for PassesOwn.never rfl (pi_list (pv 3)) (pg_tup rfl (pgs_cons (pg_name (i := 4) sc_law_asked.nd rfl (Or.inl rfl)) (pgs_cons (pg_name (i := 5) sc_law_asked.nd rfl (Or.inl rfl)) pgs_nil))) (pss_one (ps_if (pt_not (pt_val (pe_c c_law_range_right hr (by decide) rfl (pa_cons (pv 0) (pa_cons (pv 1) (pa_cons (pv 4) (pa_cons (pv 5) pa_nil))))))) (pss_one (ps_ret pe_bl)) pss_nil)))
      (pss_cons (ps_if (pt_not (pt_val (pe_c c_law_clash_right hr (by decide) rfl (pa_cons (pv 0) (pa_cons (pv 1) pa_nil))))) (pss_one (ps_ret pe_bl)) pss_nil)
      (pss_cons (ps_for PassesOwn.never rfl (pi_range1 rfl T.range (pa_cons pe_int pa_nil)) (pg_name (i := 6) sc_law_asked.nd rfl (Or.inl rfl)) (pss_one (ps_if (pt_not (pt_val (pe_c c_law_same hr (by decide) rfl (pa_cons (pe_mt0 m_rows hr (by decide) (pe_ix ix_list (pv 0) (pv 6) (fun _ _ => rfl))) (pa_cons (pe_c c_law_rows hr (by decide) rfl (pa_cons (pe_ix ix_list (pv 1) (pv 6) (fun _ _ => rfl)) (pa_cons (pv 2) pa_nil))) pa_nil))))) (pss_one (ps_ret pe_bl)) pss_nil)))
      (pss_one (ps_ret pe_bl))))), ?_⟩
    have n256 := pow_le8 (Nat.le_refl n) S.n8
    refine ⟨_, rfl, rl, rfl, ⟨_, SqL.of hrl⟩, ?_⟩
    refine for_list (xs := as.map V.ref) (fun j σ H' => Fr [] H H' ∧ ∃ v4 v5 : Option V, σ = [some (.ref bl), some (.ref ll), some (.int salt), some (.ref rl), v4, v5, none]) ⟨.refl _ _, _, _, rfl⟩ (fun j σ H' _ pv => SqL.of (pv.1.lst hrl not_nil)) (fun j v σ H1 hv pv => ?_) (fun σ H1 pv => ?_)
    · obtain ⟨X1, v4, v5, rfl⟩ := pv
      obtain ⟨a, ea, rfl⟩ := map_get hv
      obtain ⟨q, eq, ha⟩ := pd_get0 prs ea
      have ha : H a = some (.tup [.int (q.1 : Int), .int (q.2 : Int)]) := ha
      refine ⟨a, _, rfl, SqT.of (X1.tup ha not_nil), rfl, _, _, rfl, _, _, rfl, rfl, ?_⟩
      exact ⟨_, rfl, _, rfl, _, rfl, _, rfl, bl, ll, b1, b2, p1, p2, x, L1, L2, m1, m2, k1, k2, salt, n, q.1, q.2, rfl, S.fr0 X1, le q (List.mem_of_getElem? eq), fun H2 X2 => ⟨_, rfl, iteF ⟨X1.trans X2, _, _, rfl⟩⟩⟩
    obtain ⟨X1, v4, v5, rfl⟩ := pv
    have S1 := S.fr0 X1
    refine ⟨_, rfl, _, rfl, bl, ll, b1, b2, p1, p2, x, L1, L2, m1, m2, k1, k2, salt, n, rfl, S1, fun H2 X2 => ⟨_, rfl, iteF ?_⟩⟩
    have X02 := X1.trans X2
    refine ⟨2, rfl, by decide, by decide, ?_⟩
    refine for_range (lo := 0) (n := 2) (fun i σ H' => Fr [] H H' ∧ ∃ v6 : Option V, σ = [some (.ref bl), some (.ref ll), some (.int salt), some (.ref rl), v4, v5, v6]) ⟨X02, _, rfl⟩ ?_ ?_
    · rintro i σ H3 hi ⟨X3, v6, rfl⟩
      have S3 := S.fr0 X3
      obtain ⟨ba, La, ma, pa, ka, e1, e2, Ba, hpa, va, la⟩ : ∃ (ba La : Addr) (ma : List (Int × Say)) (pa : Addr) (ka : List Int), atI [V.ref b1, V.ref b2] (0 + (i : Int)) = some (.ref ba) ∧ atI [V.ref p1, V.ref p2] (0 + (i : Int)) = some (.ref pa) ∧ BkF CB H3 ba x La ma (rowAt ka salt) ka.length ∧ H3 pa = some (.lst (ka.map V.int)) ∧ LvOk ka ∧ ka.length = 2 ^ n := by
        match i, hi with
        | 0, _ => exact ⟨b1, L1, m1, p1, k1, rfl, rfl, S3.B1, S3.h1, S.v1, S.l1⟩
        | 1, _ => exact ⟨b2, L2, m2, p2, k2, rfl, rfl, S3.B2, S3.h2, S.v2, S.l2⟩
      obtain ⟨dx, eb⟩ := id Ba.hb
      have lma := Ba.len
      refine ⟨_, rfl, _, rfl, _, _, _, _, rfl, rfl, SqL.of S3.hbl, e1, ba, dx, _, rfl, eb, fb_rows, ba, x, La, ma, rfl, Ba.hb, Ba.hL, by omega, fun rq ys as1 H4 perm srt nrq X4 hrq has => ?_⟩
      rw [Ba.rows perm srt] at has
      have S4 := S3.fr0 X4
      refine ⟨_, rfl, _, rfl, _, _, _, _, rfl, rfl, SqL.of S4.hll, e2, _, rfl, pa, ka, salt, rfl, X4.lst hpa not_nil, by omega, fun p as2 H5 np X5 hp has2 => ?_⟩
      have lr : (rowsF ka salt).length ≤ 256 := Nat.le_trans (List.length_filterMap_le _ _) (by rw [List.length_range]; omega)
      refine ⟨rq, p, as1, as2, rowsF ka salt, rfl, X5.lst hrq not_nil, has.fr0 X5, hp, has2, by omega, (fun s m => ?_), _, rfl, iteF ⟨(X3.trans X4).trans X5, _, rfl⟩⟩
      obtain ⟨j, ej⟩ := rowsF_mem.mp m
      exact ok_fine (rowAt_ok va ej).2
    · rintro σ H3 ⟨X3, v6, rfl⟩
      exact k H3 X3
end
end K29

set_option Elab.async false
set_option maxRecDepth 100000
set_option maxHeartbeats 8000000
set_option exponentiation.threshold 4096
set_option linter.unusedVariables false
/-! a bent saying, an empty book -/
namespace K29
open PySem PySem.Spec PyProof.Rows L2 C8 LamX UF
/-- another saying of the same rank -/
structure BentS (s s' : Say) : Prop where
  e1 : s'.seat = s.seat
  e2 : s'.life = s.life
  e3 : s'.mark = s.mark
  l : s'.worth.length ≤ 12
  p : Plain s'.worth
  ne : s'.worth ≠ s.worth
theorem app_ok {wt : Str} (l : wt.length < 12) (p : Plain wt) : (wt ++ ("a" : Str)).length ≤ 12 ∧ Plain (wt ++ ("a" : Str)) ∧ wt ++ ("a" : Str) ≠ wt := by
  have e : (wt ++ ("a" : Str)).cps = wt.cps ++ ("a" : Str).cps := rfl
  have ln : (wt ++ ("a" : Str)).length = wt.length + 1 := by
    show (wt ++ ("a" : Str)).cps.size = wt.cps.size + 1
    rw [e, Array.size_append]
    rfl
  refine ⟨by omega, fun c hc => ?_, fun z => ?_⟩
  · rw [e, Array.toList_append] at hc
    rcases List.mem_append.mp hc with m | m
    · exact p c m
    · have z : ("a" : Str).cps.toList.all (fun c => decide (c ∈ plainS.cps.toList)) = true := by decide +kernel
      exact of_decide_eq_true (List.all_eq_true.mp z c m)
  · rw [z] at ln
    omega
theorem cut_ok {wt : Str} (l : wt.length ≤ 12) (h : ¬ wt.length < 12) (p : Plain wt) : (cutS wt (some 1) none).length ≤ 12 ∧ Plain (cutS wt (some 1) none) ∧ cutS wt (some 1) none ≠ wt := by
  refine ⟨Nat.le_trans (cutS_length wt _ _) l, fun c hc => ?_, fun z => ?_⟩
  · unfold cutS at hc
    have hc : c ∈ (wt.cps.toList.drop (HT.sIx wt.length 0 (some 1))).take (HT.sIx wt.length wt.length none - HT.sIx wt.length 0 (some 1)) := hc
    exact p c (List.mem_of_mem_drop (List.mem_of_mem_take hc))
  · have e : (cutS wt (some 1) none).length = wt.length := by rw [z]
    unfold cutS at e
    have s1 : HT.sIx wt.length 0 (some ((1 : Nat) : Int)) = min 1 wt.length := HT.sIx_nat ..
    have s1 : HT.sIx wt.length 0 (some 1) = min 1 wt.length := s1
    have e : (((wt.cps.toList.drop (HT.sIx wt.length 0 (some 1))).take (HT.sIx wt.length wt.length none - HT.sIx wt.length 0 (some 1))).toArray).size = wt.length := e
    rw [List.size_toArray, List.length_take, List.length_drop, Array.length_toList, s1] at e
    have : wt.cps.size = wt.length := rfl
    omega
def spBent : Sp := fun vs H Q _ => ∃ (a : Addr) (s : Say), vs = [.ref a] ∧ SayAt H a s ∧ s.worth.length ≤ 12 ∧ Plain s.worth ∧ ∀ (t : Addr) (s' : Say) (H' : Hp), Nw H t → Fr [] H H' → SayAt H' t s' → BentS s s' → Q (.ref t) H'
def spLatE (K : PySem.W.Frag) (e : Addr) : Sp := fun vs H Q _ => ∃ x : Addr, vs = [.ref x, .ref e] ∧ ∀ (L : Addr) (H' : Hp), Nw H L → Fr [] H H' → TupD Say.vs H' L [] → Q (.ref L) H'
def spBookE (CB CS : Addr) (e : Addr) : Sp := fun vs H Q _ => ∃ (b dx x : Addr) (n : Nat), vs = [.ref b, .ref x, .ref e] ∧ H b = some (.ins CB dx []) ∧ SetN CS H x n ∧
  ∀ (L : Addr) (H' : Hp), Nw H L → Fr [b] H H' → BkO CB H' b x L → TupD Say.vs H' L [] → Q .non H'
section
variable {P : Program} {w : World} {K : PySem.W.Frag} {mg : Str → Option Value} {base : Heap} {CS CB : Addr}
theorem c_law_bent (T : Bl mg) (d : D0 K mg "_law_bent" s_law_bent ["saying"]) : Cal P w K mg base 1 "_law_bent" spBent [] := by
  refine cal d sc_law_bent (fun vs H Q E h => ?_) (fun cdv A outer f0 s0 H vs Q E hr h => ?_)
  · obtain ⟨a, s, rfl, _⟩ := h
    rfl
  · obtain ⟨a, s, rfl, ha, l12, pl, k⟩ := h
    refine ⟨_, (pss_cons (ps_set (i := 1) sc_law_bent.nd rfl (Or.inl rfl) (pe_ix ix_tup (pv 0) pe_int (fun _ _ => rfl)))
      (pss_cons (ps_if (pt_cmpR op_lt (pe_callB call_len_str (by rfl) T.len (by decide +kernel) (pa_cons (pv 1) pa_nil)) pe_int (nomark _)) (pss_one (ps_ret (pe_tup (pa_cons (pe_ix ix_tup (pv 0) pe_int (fun _ _ => rfl)) (pa_cons (pe_ix ix_tup (pv 0) pe_int (fun _ _ => rfl)) (pa_cons (pe_ix ix_tup (pv 0) pe_int (fun _ _ => rfl)) (pa_cons (pe_op op_add_str (pv 1) pe_str) pa_nil))))))) pss_nil)
      (pss_one (ps_ret (pe_tup (pa_cons (pe_ix ix_tup (pv 0) pe_int (fun _ _ => rfl)) (pa_cons (pe_ix ix_tup (pv 0) pe_int (fun _ _ => rfl)) (pa_cons (pe_ix ix_tup (pv 0) pe_int (fun _ _ => rfl)) (pa_cons (pe_slice sl_str (pv 1) (po_some pe_int) po_none) pa_nil))))))))), ?_⟩
    have q := SqT.of (K := K) ha
    refine ⟨_, rfl, _, _, _, _, rfl, rfl, q, rfl, ?_⟩
    have sz : ∀ {n : Nat}, n ≤ 13 → n ≤ sizeLine := fun h => Nat.le_trans h (by decide)
    refine ⟨_, rfl, _, rfl, sz (by omega), _, _, rfl, rfl, _, rfl, ite2 (fun c => ?_) (fun c => ?_)⟩
    · have c : s.worth.length < 12 := by have : ((s.worth.length : Nat) : Int) < 12 := of_decide_eq_true c; omega
      obtain ⟨w1, w2, w3⟩ := app_ok c pl
      refine ⟨_, rfl, _, _, _, _, rfl, rfl, q, rfl, _, rfl, _, _, _, _, rfl, rfl, q, rfl, _, rfl, _, _, _, _, rfl, rfl, q, rfl, _, rfl, _, _, rfl, rfl, sz (by have : ("a" : Str).length = 1 := rfl; omega), by show 4 ≤ sizeLine; decide, fun t nt => ?_⟩
      exact k t ⟨s.seat, s.life, s.mark, s.worth ++ ("a" : Str)⟩ _ (.of nt) (Fr.new0 nt _) upd_same ⟨rfl, rfl, rfl, w1, w2, w3⟩
    · have c : ¬ s.worth.length < 12 := fun z => c (decide_eq_true (show ((s.worth.length : Nat) : Int) < 12 by omega))
      obtain ⟨w1, w2, w3⟩ := cut_ok l12 c pl
      refine ⟨_, rfl, _, _, _, _, rfl, rfl, q, rfl, _, rfl, _, _, _, _, rfl, rfl, q, rfl, _, rfl, _, _, _, _, rfl, rfl, q, rfl, _, rfl, _, rfl, _, rfl, sz (by omega), by show 4 ≤ sizeLine; decide, fun t nt => ?_⟩
      exact k t ⟨s.seat, s.life, s.mark, cutS s.worth (some 1) none⟩ _ (.of nt) (Fr.new0 nt _) upd_same ⟨rfl, rfl, rfl, w1, w2, w3⟩
theorem c_latest_E (T : Bl mg) {e : Addr} (he : ∀ H, SqT K H e []) (d : D0 K mg "latest_of" s_latest_of ["setting", "sayings"]) (c_check_saying : Cal P w K mg base 4 "check_saying" (spChkSay CS) []) (c_rank : Cal P w K mg base 1 "rank" spRankP []) : Cal P w K mg base 5 "latest_of" (spLatE K e) [] := by
  refine cal d sc_latest_of (fun vs H Q E h => ?_) (fun cdv A outer f s0 H vs Q E hr h => ?_)
  · obtain ⟨x, rfl, _⟩ := h
    rfl
  · obtain ⟨x, rfl, k⟩ := h
    refine ⟨_, (pss_cons (ps_set (i := 2) sc_latest_of.nd rfl (Or.inl rfl) pe_dnewK)
      (pss_cons (ps_for PassesOwn.never rfl (pi_tup (pv 1)) (pg_name (i := 3) sc_latest_of.nd rfl (Or.inl rfl)) (pss_cons (ps_expr (pe_c c_check_saying hr (by decide) rfl (pa_cons (pv 0) (pa_cons (pv 3) pa_nil))))
      (pss_one (ps_if (pt_cmpR op_gt (pe_c c_rank hr (by decide) rfl (pa_cons (pv 3) pa_nil)) (pe_c c_rank hr (by decide) rfl (pa_cons (pe_dget1 (u1 hr) (pv 2) (pe_ix ix_tup (pv 3) pe_int (fun _ _ => rfl)) (M1.mk (by rfl) (by rfl) (by rfl) (by rfl))) pa_nil)) (nomark _)) (pss_one (ps_asg (pv 3) (pg_sub (pv 2) (pe_ix ix_tup (pv 3) pe_int (fun _ _ => rfl)) (set_dict (u1 hr))))) pss_nil))))
      (pss_one (ps_ret (pv 2))))), ?_⟩
    intro L nL
    refine ⟨_, rfl, e, rfl, ⟨_, he _⟩, ?_⟩
    refine for_tup (xs := []) (fun j σ H' => H' = upd H L (.dK []) ∧ σ = [some (.ref x), some (.ref e), some (.ref L), none]) ⟨rfl, rfl⟩ (fun j σ H' _ pv => he _) (fun j v σ H1 hv pv => nomatch hv) (fun σ H1 pv => ?_)
    obtain ⟨rfl, rfl⟩ := pv
    exact ⟨_, rfl, k L _ (.of nL) (Fr.new0 nL _) (TupD.nil upd_same)⟩
theorem f_bookE (TB : T_Book K mg CB) {e : Addr} (c_latest_of : Cal P w K mg base 5 "latest_of" (spLatE K e) []) {f : Addr} {fd : FuncData} (F : FunD K "__init__" "Book.__init__" (C8.fnArgs s_Book__init) (C8.fnBody s_Book__init) (C8.fnScope s_Book__init) [.ref e] [] f fd) : FnOk P w K mg base C8.CX0 6 f fd ["self", "setting", "sayings"] (spBookE CB CS e) := by
  refine F.ok (N := n_Book__init) sc_Book__init (fun vs H Q E h => ?_) (fun cdv A outer s0 H vs Q E hr h => ?_)
  · obtain ⟨b, dx, x, n, rfl, _⟩ := h
    rfl
  · obtain ⟨b, dx, x, n, rfl, hb, hx, k⟩ := h
    refine ⟨_, PSs.nox (pss_cons (ps_fld (pv 0) (pv 1) rfl)
      (pss_one (ps_fld (pv 0) (pe_c c_latest_of hr (by decide) rfl (pa_cons (pv 1) (pa_cons (pv 2) pa_nil))) rfl))), ?_⟩
    refine ⟨_, rfl, _, rfl, b, CB, dx, [], rfl, hb, TB.cl, TB.n_setting, by show 0 < 1000; decide, ?_⟩
    have X1 : Fr [b] H (upd H b (.ins CB dx (putF ("setting" : Str) (V.ref x) []))) := (Fr.refl [b] H).upd (.head _) (.ins hb) _
    have hb1 : upd H b (.ins CB dx (putF ("setting" : Str) (V.ref x) [])) b = some (.ins CB dx (putF ("setting" : Str) (V.ref x) [])) := upd_same
    generalize upd H b (.ins CB dx (putF ("setting" : Str) (V.ref x) [])) = H1 at X1 hb1
    refine ⟨_, rfl, _, rfl, x, rfl, fun L H2 nL X2 hL2 => ?_⟩
    have hb2 := X2.ins hb1 not_nil
    refine ⟨_, rfl, b, CB, dx, _, rfl, hb2, TB.cl, TB.n_latest, by show 1 < 1000; decide, ?_⟩
    have X3 : Fr [b] H2 (upd H2 b (.ins CB dx (putF ("_latest" : Str) (V.ref L) (putF ("setting" : Str) (V.ref x) [])))) := (Fr.refl [b] H2).upd (.head _) (.ins hb2) _
    have Lb : L ≠ b := fun z => by
      obtain ⟨kv, e⟩ := hL2.at_
      rw [z, hb2] at e
      cases e
    refine k L _ (X1.live L nL) (X1.trans ((X2.mono fun a m => nomatch m).trans X3)) ⟨dx, by rw [upd_same, fb_puts]⟩ (hL2.fr X3 (not_one Lb) fun a m vs z => ?_)
    rw [List.mem_singleton.mp m, hb2] at z
    cases z
/-- Book(setting): the default is an empty tuple -/
theorem c_BookE (T : Bl mg) (TB : T_Book K mg CB) (c_check_saying : Cal P w K mg base 4 "check_saying" (spChkSay CS) []) (c_rank : Cal P w K mg base 1 "rank" spRankP []) (d : D0 K mg "latest_of" s_latest_of ["setting", "sayings"]) : ∃ e : Addr, Mak P w K mg base 6 "Book" CB (spBookE CB CS e) [.ref e] := by
  obtain ⟨f, a, fd, M, F, ha⟩ := TB.ini
  refine ⟨a, ?_⟩
  obtain ⟨ds, r, b⟩ := F.binds1 (ps := ["self", "setting", "sayings"]) 2 0 (fun z => nomatch z) rfl (fun T kV doc pm an cdv ct us its hl hi => match us, hl, its, hi with
    | [_, _], _, [_], _ => ⟨_, rfl, rfl⟩)
  exact ⟨f, fd, _, ds, M, f_bookE TB (c_latest_E T ha d c_check_saying c_rank) F, TB.mgC, b, r⟩
end
end K29

set_option Elab.async false
set_option maxRecDepth 100000
set_option maxHeartbeats 8000000
set_option exponentiation.threshold 4096
set_option linter.unusedVariables false
/-! another worth -/
namespace K29
open PySem PySem.Spec PyProof.Rows L2 C8 LamX UF
structure CovB (ms : List (Int × Say)) (f : Nat → Option Say) (N : Nat) : Prop where
  nd : (ms.map Prod.fst).Nodup
  cov : ∀ k : Int, lkA ms k = if 0 ≤ k then f k.toNat else none
  top : ∀ j, N ≤ j → f j = none
  seat : ∀ j s, f j = some s → s.seat = j
  ok : ∀ j s, f j = some s → s.Ok (N : Int)
theorem CovB.bk {CB : Addr} {H : Hp} {bk x L : Addr} {ms : List (Int × Say)} {f : Nat → Option Say} {N : Nat} (C : CovB ms f N) (hb : BkO CB H bk x L) (hL : TupD Say.vs H L ms) : BkF CB H bk x L ms f N := ⟨hb, hL, C.nd, C.cov, C.top, C.seat, C.ok⟩
theorem rows_nd (ls : List Int) (salt : Int) : ((keyed (rowsF ls salt)).map Prod.fst).Nodup := by
  rw [keyed_fst]
  exact (rows_srt ls salt ls.length).1.imp fun h => by omega
theorem cov_of {ls : List Int} {salt : Int} (lv : LvOk ls) : CovB (keyed (rowsF ls salt)) (rowAt ls salt) ls.length := by
  have nd := rows_nd ls salt
  refine ⟨nd, fun k => ?_, fun j h => rowAt_top h, fun j s h => (rowAt_ok lv h).1, fun j s h => (rowAt_ok lv h).2⟩
  cases q : lkA (keyed (rowsF ls salt)) k with
  | some s =>
    obtain ⟨s', ms, e'⟩ := List.mem_map.mp (lkA_pair q)
    injection e' with e1 e2
    subst e2
    obtain ⟨j, ej⟩ := rowsF_mem.mp ms
    have := (rowAt_ok lv ej).1
    rw [if_pos (by omega), show k.toNat = j by omega, ej]
  | none =>
    split
    · rename_i h
      cases z : rowAt ls salt k.toNat with
      | none => rfl
      | some s =>
        have m : s ∈ rowsF ls salt := rowsF_mem.mpr ⟨_, z⟩
        have := (rowAt_ok lv z).1
        have g := lkA_get nd (List.mem_map.mpr ⟨s, m, rfl⟩ : (s.seat, s) ∈ keyed (rowsF ls salt))
        rw [show s.seat = k by omega, q] at g
        cases g
    · rfl
def bentF (f : Nat → Option Say) (j : Nat) (s : Say) : Nat → Option Say := fun i => if i = j then some s else f i
theorem CovB.put {ms : List (Int × Say)} {f : Nat → Option Say} {N j : Nat} {s : Say} (C : CovB ms f N) (jl : j < N) (e : s.seat = j) (o : s.Ok (N : Int)) : CovB (putA ms s.seat s) (bentF f j s) N where
  nd := nd_putA C.nd
  cov := fun k => by
    unfold bentF
    rw [lk_putA, C.cov, e]
    by_cases h : 0 ≤ k
    · obtain ⟨i, rfl⟩ := Int.eq_ofNat_of_zero_le h
      rw [if_pos h, if_pos h, Int.toNat_natCast]
      by_cases z : i = j
      · rw [if_pos z, if_pos (by omega)]
      · rw [if_neg z, if_neg (by omega)]
    · rw [if_neg h, if_neg h, if_neg (by omega)]
  top := fun i h => by
    unfold bentF
    rw [if_neg (by omega)]
    exact C.top i h
  seat := fun i s' h => by
    unfold bentF at h
    split at h
    · cases h
      rename_i z
      rw [e, z]
    · exact C.seat i s' h
  ok := fun i s' h => by
    unfold bentF at h
    split at h
    · cases h
      exact o
    · exact C.ok i s' h
theorem keyed_set : ∀ {l : List Say} {i : Nat} {r s' : Say}, (l.map Say.seat).Nodup → l[i]? = some r → s'.seat = r.seat → keyed (l.set i s') = (keyed l).map fun q => if q.1 = s'.seat then (q.1, s') else q
  | [], i, r, s', _, h, _ => by cases h
  | x :: l, 0, r, s', nd, h, e => by
    cases h
    rw [List.map_cons, List.nodup_cons] at nd
    show (s'.seat, s') :: keyed l = (if x.seat = s'.seat then (x.seat, s') else (x.seat, x)) :: (keyed l).map _
    rw [if_pos e.symm, e]
    congr 1
    unfold keyed
    rw [List.map_map]
    refine List.map_congr_left fun y my => ?_
    show (y.seat, y) = if y.seat = x.seat then (y.seat, s') else (y.seat, y)
    rw [if_neg (fun z => nd.1 (by rw [← z]; exact List.mem_map.mpr ⟨y, my, rfl⟩))]
  | x :: l, i + 1, r, s', nd, h, e => by
    rw [List.map_cons, List.nodup_cons] at nd
    have h : l[i]? = some r := h
    have ih := keyed_set (l := l) (i := i) nd.2 h e
    show (x.seat, x) :: keyed (l.set i s') = (if x.seat = s'.seat then (x.seat, s') else (x.seat, x)) :: (keyed l).map _
    rw [ih, if_neg (fun z => nd.1 (by rw [z, e]; exact List.mem_map.mpr ⟨r, List.mem_of_getElem? h, rfl⟩))]
theorem keyed_put {l : List Say} {i : Nat} {r s' : Say} (nd : (l.map Say.seat).Nodup) (h : l[i]? = some r) (e : s'.seat = r.seat) : keyed (l.set i s') = putA (keyed l) s'.seat s' := by
  rw [keyed_set nd h e]
  unfold putA
  have g : lkA (keyed l) s'.seat = some r := lkA_get (show ((keyed l).map Prod.fst).Nodup by rw [keyed_fst]; exact nd) (List.mem_map.mpr ⟨r, List.mem_of_getElem? h, by rw [e]⟩ : (s'.seat, r) ∈ keyed l)
  rw [g]
  rfl
theorem bent_rank {f : Nat → Option Say} {j : Nat} {r s' : Say} (h : f j = some r) (b : BentS r s') (i : Nat) : rankO (bentF f j s' i) = rankO (f i) := by
  unfold bentF
  split
  · rename_i z
    rw [z, h]
    show 4 * s'.life + (markN s'.mark : Int) + 1 = 4 * r.life + (markN r.mark : Int) + 1
    rw [b.e2, b.e3]
  · rfl
theorem bent_mom {ks : List Int} {salt : Int} {j low w : Nat} {r s' : Say} (lv : LvOk ks) (h : rowAt ks salt j = some r) (b : BentS r s') : momF (lvl (bentF (rowAt ks salt) j s') low) w = momF (gt0 ks low) w := by
  rw [← mom_row (salt := salt) lv]
  exact momF_congr fun n _ => bent_rank h b _
theorem bent_same {k1 k2 : List Int} {salt : Int} {j low w : Nat} {r s' : Say} (v1 : LvOk k1) (v2 : LvOk k2) (h1 : low + w ≤ k1.length) (h2 : low + w ≤ k2.length) (h : rowAt k1 salt j = some r) (b : BentS r s') : SameR (bentF (rowAt k1 salt) j s') (rowAt k2 salt) low w ↔ Sl k1 low w = Sl k2 low w ∧ ¬ (low ≤ j ∧ j < low + w) := by
  constructor
  · intro s
    have out : ¬ (low ≤ j ∧ j < low + w) := fun ⟨a, c⟩ => by
      have := s (j - low) (by omega)
      rw [show low + (j - low) = j by omega] at this
      unfold bentF at this
      rw [if_pos rfl] at this
      obtain ⟨l2, e2, p2, es⟩ := rowAt_some this.symm
      obtain ⟨l1, e1, p1, er⟩ := rowAt_some h
      have rk : rankI s' = rankI r := by
        show 4 * s'.life + (markN s'.mark : Int) + 1 = 4 * r.life + (markN r.mark : Int) + 1
        rw [b.e2, b.e3]
      rw [es, er, sayF_rank, sayF_rank] at rk
      apply b.ne
      rw [es, er, rk]
    refine ⟨(same_sl (salt := salt) v1 v2 h1 h2).mp fun n hn => ?_, out⟩
    have := s n hn
    unfold bentF at this
    rw [if_neg (by omega)] at this
    exact this
  · rintro ⟨e, out⟩ n hn
    unfold bentF
    rw [if_neg (by omega)]
    exact (same_sl v1 v2 h1 h2).mpr e n hn
theorem bent_clash {k1 k2 : List Int} {salt : Int} {n j : Nat} {r s' : Say} (v1 : LvOk k1) (v2 : LvOk k2) (l1 : k1.length = 2 ^ n) (l2 : k2.length = 2 ^ n) (h : rowAt k1 salt j = some r) (b : BentS r s') : ClashT (bentF (rowAt k1 salt) j s') (rowAt k2 salt) n ↔ ∃ low w, TreeR n low w ∧ MeetL (fun low w => Sl k1 low w ≠ Sl k2 low w ∨ (low ≤ j ∧ j < low + w)) k1 k2 low w := by
  unfold ClashT ClashR MeetL
  constructor
  · rintro ⟨low, w, t, g1, g2⟩
    have := tree_in t
    rw [bent_mom v1 h b, mom_row v2] at g2
    refine ⟨low, w, t, ?_, g2⟩
    by_cases e : Sl k1 low w = Sl k2 low w
    · by_cases i : low ≤ j ∧ j < low + w
      · exact .inr i
      · exact absurd ((bent_same v1 v2 (by omega) (by omega) h b).mpr ⟨e, i⟩) g1
    · exact .inl e
  · rintro ⟨low, w, t, g1, g2⟩
    have := tree_in t
    refine ⟨low, w, t, fun s => ?_, ?_⟩
    · obtain ⟨e, i⟩ := (bent_same v1 v2 (by omega) (by omega) h b).mp s
      rcases g1 with g1 | g1
      · exact g1 e
      · exact i g1
    · rw [bent_mom v1 h b, mom_row v2]
      exact g2
theorem bent_own {k1 : List Int} {salt : Int} {n j : Nat} {r s' : Say} (v1 : LvOk k1) (l1 : k1.length = 2 ^ n) (jl : j < k1.length) (h : rowAt k1 salt j = some r) (b : BentS r s') : ClashT (bentF (rowAt k1 salt) j s') (rowAt k1 salt) n := by
  rw [bent_clash v1 v1 l1 l1 h b]
  exact ⟨0, 2 ^ n, ⟨n, 0, Nat.le_refl n, by omega, by omega, rfl⟩, .inr ⟨Nat.zero_le _, by omega⟩, rfl⟩
/-! sayings as data -/
def saysD (ss : List Say) : PyData := .list (ss.map sayD)
theorem can_says : ∀ ss : List Say, (∀ s ∈ ss, SayF s) → PyData.canLayAll0 (ss.map sayD) = true
  | [], _ => by simp [PyData.canLayAll0]
  | s :: ss, h => by rw [List.map_cons, PyData.canLayAll0, can_says ss (fun x m => h x (.tail _ m)), lay_say (h s (.head _))]; rfl
theorem dep_says : ∀ ss : List Say, PyData.depthAll (ss.map sayD) ≤ 1
  | [] => by simp [PyData.depthAll]
  | s :: ss => by
    rw [List.map_cons, PyData.depthAll]
    have := dep_says ss
    have e : (sayD s).depth = 1 := by simp [sayD, PyData.depth, PyData.depthAll]
    omega
theorem lay_says {ss : List Say} (h : ∀ s ∈ ss, SayF s) : PyData.canLay0 (saysD ss) = true := by
  unfold saysD
  rw [PyData.canLay0, can_says ss h]
theorem shaped_says {ss : List Say} (h : ∀ s ∈ ss, SayF s) : SeqAt.shaped (saysD ss) = true := by
  have := dep_says ss
  unfold SeqAt.shaped
  rw [lay_says h]
  unfold saysD
  rw [PyData.depth]
  simp
  omega
theorem says_dps {K : PySem.W.Frag} {H : Hp} {as : List Addr} {ss : List Say} (h : SaysAt H as ss) : DpAll K H (as.map V.ref) (ss.map sayD) := by
  induction h with
  | nil => exact .nil
  | cons a t ih => exact .cons (say_dp a) ih
theorem says_dp {K : PySem.W.Frag} {H : Hp} {l : Addr} {as : List Addr} {ss : List Say} (hl : H l = some (.lst (as.map V.ref))) (h : SaysAt H as ss) : Dp K H (.ref l) (saysD ss) := .lst (SqL.of hl) (says_dps h)
theorem eqv_nil (ss : List Say) : PyData.eqv (saysD ss) (.list []) = decide (ss = []) := by
  cases ss with
  | nil => simp [saysD, PyData.eqv, PyData.eqvAll]
  | cons s ss => simp [saysD, PyData.eqv, PyData.eqvAll]
theorem StB.box {CB CS : Addr} {H H' : Hp} {bl ll b1 b2 p1 p2 x L1 L2 b c : Addr} {m1 m2 : List (Int × Say)} {k1 k2 : List Int} {salt : Int} {n : Nat} (S : StB CB CS H bl ll b1 b2 p1 p2 x L1 L2 m1 m2 k1 k2 salt n) (B : Box H b c) (X : Fr [b] H H') : StB CB CS H' bl ll b1 b2 p1 p2 x L1 L2 m1 m2 k1 k2 salt n := by
  have nt := B.nt
  obtain ⟨cells, u, y, s, z, B⟩ := B
  have hb := B.hb
  have lst : ∀ {a : Addr} {xs : List V}, H a = some (.lst xs) → xs ≠ [.ref c, .int u, .int y, .int s, .int z] → a ∉ [b] := fun h ne => not_one fun e => by
    rw [e, hb] at h
    injection h with h
    injection h with h
    exact ne h.symm
  have ins : ∀ {a C dx : Addr} {fs : List (Str × V)}, H a = some (.ins C dx fs) → a ∉ [b] := fun h => not_one fun e => by rw [e, hb] at h; cases h
  have intz : ∀ {ks : List Int}, ks.map V.int ≠ [.ref c, .int u, .int y, .int s, .int z] := fun {ks} h => by
    cases ks with
    | nil => cases h
    | cons k ks => injection h with h1 h2; cases h1
  have dct : ∀ {f : Say → List V} {L : Addr} {ms : List (Int × Say)}, TupD f H L ms → L ∉ [b] := fun T => not_one fun e => by
    obtain ⟨kv, h⟩ := T.at_
    rw [e, hb] at h
    cases h
  obtain ⟨d1, e1⟩ := S.B1.hb
  obtain ⟨d2, e2⟩ := S.B2.hb
  obtain ⟨pp, rr, gg, hh, dx, ex⟩ := id S.hx
  exact { S with hbl := X.lst S.hbl (lst S.hbl fun h => nomatch h), hll := X.lst S.hll (lst S.hll fun h => nomatch h), B1 := S.B1.fr X (ins e1) (dct S.B1.hL) nt, B2 := S.B2.fr X (ins e2) (dct S.B2.hL) nt, h1 := X.lst S.h1 (lst S.h1 intz), h2 := X.lst S.h2 (lst S.h2 intz), hx := S.hx.fr X (ins ex) }
theorem pd_set {α β : Type} {F : α → β → Prop} {xs : List α} {ys : List β} {x : α} {y : β} (h : Paired F xs ys) (q : F x y) : ∀ {i : Nat}, Paired F (xs.set i x) (ys.set i y) := by
  induction h with
  | nil => intro i; exact .nil
  | cons a t ih =>
    intro i
    cases i with
    | zero => exact .cons q t
    | succ i => exact .cons a ih
def spOther (CB CS : Addr) : Sp := fun vs H Q _ => ∃ (b c bl ll b1 b2 p1 p2 x L1 L2 : Addr) (m1 m2 : List (Int × Say)) (k1 k2 : List Int) (salt : Int) (n : Nat), vs = [.ref b, .ref x, .ref bl, .ref ll, .int salt] ∧ Box H b c ∧ StB CB CS H bl ll b1 b2 p1 p2 x L1 L2 m1 m2 k1 k2 salt n ∧ ∀ H' : Hp, Q (.bl true) H'
section
variable {P : Program} {w : World} {K : PySem.W.Frag} {mg : Str → Option Value} {base : Heap} {CS CB : Addr}
theorem c_law_other_worth (T : Bl mg) {e0 : Addr} (c_law_take : Cal P w K mg base 2 "_law_take" spDraw []) (c_law_rows : Cal P w K mg base 3 "_law_rows" spRowsF []) (c_law_bent : Cal P w K mg base 1 "_law_bent" spBent []) (c_Book : Mak P w K mg base 6 "Book" CB (spBook CB CS) []) (c_BookE : Mak P w K mg base 6 "Book" CB (spBookE CB CS e0) [.ref e0])
    (c_clash : Cal P w K mg base 4 "clash" (spClash CB CS) []) (c_law_meets_bent : Cal P w K mg base 2 "_law_meets_bent" spMeetsB []) (c_law_exact : Cal P w K mg base 2 "_law_exact" spExact []) (c_moments : Cal P w K mg base 2 "moments" (spMom CB) []) (c_law_sums : Cal P w K mg base 1 "_law_sums" spSums []) (d : D0 K mg "_law_other_worth" s_law_other_worth ["box", "setting", "books", "both", "salt"]) : Cal P w K mg base 8 "_law_other_worth" (spOther CB CS) [] := by
  refine cal d sc_law_other_worth (fun vs H Q E h => ?_) (fun cdv A outer f0 s0 H vs Q E hr h => ?_)
  · obtain ⟨b, c, bl, ll, b1, b2, p1, p2, x, L1, L2, m1, m2, k1, k2, salt, n, rfl, _⟩ := h
    rfl
  · obtain ⟨b, c, bl, ll, b1, b2, p1, p2, x, L1, L2, m1, m2, k1, k2, salt, n, rfl, B, S, k⟩ := h
    refine ⟨_, (pss_cons (ps_set (i := 5) sc_law_other_worth.nd rfl (Or.inl rfl) (pe_ix ix_list (pv 2) pe_int (fun _ _ => rfl)))
      (pss_cons (ps_set (i := 6) sc_law_other_worth.nd rfl (Or.inl rfl) (pe_ix ix_list (pv 3) pe_int (fun _ _ => rfl)))
      (pss_cons (ps_set (i := 7) sc_law_other_worth.nd rfl (Or.inl rfl) (pe_c c_law_rows hr (by decide) rfl (pa_cons (pv 6) (pa_cons (pv 4) pa_nil))))
      (pss_cons (ps_if (pt_cmpR (op_eqD hr.units) (pv 7) (pe_lst pa_nil) (nomark _)) (pss_one (ps_ret (pe_cmpR op_isBl (pe_c c_clash hr (by decide) rfl (pa_cons (pv 5) (pa_cons (pe_mk c_BookE hr (by decide) rfl (pa_cons (pv 1) pa_nil)) pa_nil))) pe_bl (nomark _)))) pss_nil)
      (pss_cons (ps_set (i := 8) sc_law_other_worth.nd rfl (Or.inl rfl) (pe_c c_law_take hr (by decide) rfl (pa_cons (pv 0) (pa_cons (pe_callB call_len_seq (by rfl) T.len (by decide +kernel) (pa_cons (pv 7) pa_nil)) pa_nil))))
      (pss_cons (ps_set (i := 9) sc_law_other_worth.nd rfl (Or.inl rfl) (pe_callTy call_list_of (by rfl) T.list (by decide +kernel) (pa_cons (pv 7) pa_nil)))
      (pss_cons (ps_asg (pe_c c_law_bent hr (by decide) rfl (pa_cons (pe_ix ix_list (pv 7) (pv 8) (fun _ _ => rfl)) pa_nil)) (pg_sub (pv 9) (pv 8) set_list))
      (pss_cons (ps_set (i := 10) sc_law_other_worth.nd rfl (Or.inl rfl) (pe_mk c_Book hr (by decide) rfl (pa_cons (pv 1) (pa_cons (pv 9) pa_nil))))
      (pss_cons (ps_if (PW.pt (pw_or (pt_cmpR op_notBl (pe_c c_clash hr (by decide) rfl (pa_cons (pv 5) (pa_cons (pv 10) pa_nil))) pe_bl (nomark _)) (pw_or1 (pt_cmpR op_notBl (pe_c c_clash hr (by decide) rfl (pa_cons (pv 10) (pa_cons (pv 5) pa_nil))) pe_bl (nomark _))))) (pss_one (ps_ret pe_bl)) pss_nil)
      (pss_cons (ps_set (i := 11) sc_law_other_worth.nd rfl (Or.inl rfl) (pe_c c_law_meets_bent hr (by decide) rfl (pa_cons (pv 6) (pa_cons (pe_ix ix_list (pv 3) pe_int (fun _ _ => rfl)) (pa_cons (pe_ix ix_tup (pe_ix ix_list (pv 7) (pv 8) (fun _ _ => rfl)) pe_int (fun _ _ => rfl)) pa_nil)))))
      (pss_cons (ps_for PassesOwn.never rfl (pi_list (pe_lst (pa_cons (pe_c c_clash hr (by decide) rfl (pa_cons (pe_ix ix_list (pv 2) pe_int (fun _ _ => rfl)) (pa_cons (pv 10) pa_nil))) (pa_cons (pe_c c_clash hr (by decide) rfl (pa_cons (pv 10) (pa_cons (pe_ix ix_list (pv 2) pe_int (fun _ _ => rfl)) pa_nil))) pa_nil)))) (pg_name (i := 12) sc_law_other_worth.nd rfl (Or.inl rfl)) (pss_one (ps_if (PW.pt (pw_or (pt_not (pt_val (pe_callB call_isi (by rfl) T.isinstance (by decide +kernel) (pa_cons (pv 12) (pa_cons (pe_bltn (v := .ty "bool") (by rfl) T.bool (by decide +kernel) rfl) pa_nil))))) (pw_or1 (pt_cmpR op_ne (pv 12) (pv 11) (nomark _))))) (pss_one (ps_ret pe_bl)) pss_nil)))
      (pss_one (ps_ret (pe_c c_law_exact hr (by decide) rfl (pa_cons (pe_c c_moments hr (by decide) rfl (pa_cons (pv 10) (pa_cons pe_int (pa_cons (pe_callB call_len_seq (by rfl) T.len (by decide +kernel) (pa_cons (pv 6) pa_nil)) pa_nil)))) (pa_cons (pe_c c_law_sums hr (by decide) rfl (pa_cons (pv 6) (pa_cons pe_int (pa_cons (pe_callB call_len_seq (by rfl) T.len (by decide +kernel) (pa_cons (pv 6) pa_nil)) pa_nil)))) pa_nil)))))))))))))))), ?_⟩
    have n256 := pow_le8 (Nat.le_refl n) S.n8
    have l1 := S.l1
    have l2 := S.l2
    refine ⟨_, rfl, _, _, _, _, rfl, rfl, SqL.of S.hbl, rfl, ?_⟩
    refine ⟨_, rfl, _, _, _, _, rfl, rfl, SqL.of S.hll, rfl, ?_⟩
    refine ⟨_, rfl, _, rfl, p1, k1, salt, rfl, S.h1, by omega, fun rw' as H1 nrw X1 hrw has => ?_⟩
    have la := has.length
    have lr : (rowsF k1 salt).length ≤ 256 := Nat.le_trans (List.length_filterMap_le _ _) (by rw [List.length_range]; omega)
    have okR : ∀ s ∈ rowsF k1 salt, s.Ok (k1.length : Int) := fun s m => by
      obtain ⟨j, ej⟩ := rowsF_mem.mp m
      exact (rowAt_ok S.v1 ej).2
    have S1 := S.fr0 X1
    have B1 := B.fr0 X1
    refine ⟨_, rfl, by show 0 ≤ sizeLine; decide, fun q nq => ?_⟩
    have X2 : Fr [] H1 (upd H1 q (.lst [])) := Fr.new0 nq _
    have hq : upd H1 q (.lst []) q = some (.lst []) := upd_same
    generalize upd H1 q (.lst []) = H2 at X2 hq
    have X02 := X1.trans X2
    have hrw2 := X2.lst hrw not_nil
    have has2 := has.fr0 X2
    have S2 := S1.fr0 X2
    have B2 := B1.fr0 X2
    have fineR : ∀ s ∈ rowsF k1 salt, SayF s := fun s m => ok_fine (okR s m)
    refine ⟨saysD (rowsF k1 salt), .list [], says_dp hrw2 has2, .lst (SqL.of hq) .nil, shaped_says fineR, shaped_says (ss := []) (fun s m => nomatch m), _, rfl, ?_⟩
    rw [eqv_nil]
    by_cases em : rowsF k1 salt = []
    · rw [decide_eq_true em]
      refine iteT ?_
      have non : ∀ i, rowAt k1 salt i = none := fun i => by
        cases q : rowAt k1 salt i with
        | none => rfl
        | some s =>
          have := rowsF_mem.mpr ⟨i, q⟩
          rw [em] at this
          cases this
      refine ⟨_, rfl, _, rfl, fun o dx no ndx ne => ?_⟩
      have no' : upd H2 dx (.own o) o = none := by rw [upd_ne ne.symm]; exact no
      have Xb : Fr [] H2 (upd (upd H2 dx (.own o)) o (.ins CB dx [])) := ((Fr.refl [] H2).new ndx _).new no' _
      refine ⟨o, dx, x, n, rfl, upd_same, S2.hx.fr Xb not_nil, fun L H3 nL X3 hb hL => ⟨rfl, ?_⟩⟩
      have X23 : Fr [] H2 H3 := Xb.tail X3 fun a m => .inr (by rw [List.mem_singleton.mp m]; exact .of no)
      have S3 := S2.fr0 X23
      have Be : BkF CB H3 o x L [] (fun _ => none) k1.length := ⟨hb, hL, List.nodup_nil, (fun k => by show none = _; split <;> rfl), fun _ _ => rfl, (fun _ _ h => nomatch h), fun _ _ h => nomatch h⟩
      refine ⟨b1, x, L1, o, x, L, m1, [], _, _, n, k1.length, rfl, S3.B1, Be, S3.hx, S.n8, fun cc H4 hcc X4 => ?_⟩
      have : cc = false := by
        cases cc with
        | false => rfl
        | true =>
          obtain ⟨low, w, t, h1, h2⟩ := hcc.mp rfl
          exact absurd (fun i hi => non (low + i)) h1
      subst this
      exact ⟨false, false, rfl, rfl, k _⟩
    rw [decide_eq_false em]
    refine iteF ?_
    have lp : 0 < (rowsF k1 salt).length := List.length_pos_iff.mpr em
    refine ⟨_, rfl, _, rfl, _, _, rfl, .inl (SqL.of hrw2), b, c, _, rfl, B2, by rw [List.length_map]; omega, Int.lt_of_le_of_lt (show _ ≤ (1000 : Int) by rw [List.length_map]; omega) (by decide +kernel), fun pl H3 g0 g1 B3 X3 => ?_⟩
    rw [List.length_map, la] at g1
    have S3 := S2.box B2 X3
    have hrw3 := X3.lst hrw2 (not_one (B.nw_ne nrw).1)
    have has3 := has2.fr X3 B2.nt
    obtain ⟨pj, rfl⟩ := Int.eq_ofNat_of_zero_le g0
    have pjl : pj < (rowsF k1 salt).length := by omega
    obtain ⟨a, ea⟩ : ∃ a, as[pj]? = some a := ⟨as[pj]'(by omega), List.getElem?_eq_getElem _⟩
    obtain ⟨r, er, ha⟩ := pd_get0 has3 ea
    have rm := List.mem_of_getElem? er
    obtain ⟨j0, ej0⟩ := rowsF_mem.mp rm
    obtain ⟨rs, rok⟩ := rowAt_ok S.v1 ej0
    have j0l : j0 < k1.length := by have := rok.s1; omega
    have at_ : ∀ {G : Hp}, atI (as.map V.ref) (pj : Int) = some (.ref a) := fun {G} => atI_nat (by rw [List.getElem?_map, ea]; rfl)
    refine ⟨_, rfl, rw', _, rfl, .inl (SqL.of hrw3), fun be nbe => ?_⟩
    have X4 : Fr [] H3 (upd H3 be (.lst (as.map V.ref))) := Fr.new0 nbe _
    have hbe4 : upd H3 be (.lst (as.map V.ref)) be = some (.lst (as.map V.ref)) := upd_same
    generalize upd H3 be (.lst (as.map V.ref)) = H4 at X4 hbe4
    have ha4 : SayAt H4 a r := X4.tup ha not_nil
    refine ⟨_, rfl, _, rfl, _, _, _, _, rfl, rfl, SqL.of (X4.lst hrw3 not_nil), at_ (G := H4), a, r, rfl, ha4, rok.w, rok.p, fun t s' H5 nt X5 ht bs => ?_⟩
    have hbe5 := X5.lst hbe4 not_nil
    have X35 := X4.trans X5
    have has5 := has3.fr0 X35
    refine ⟨_, rfl, _, rfl, be, _, _, pj, rfl, rfl, hbe5, ix_nat (by rw [List.length_map]; omega), ?_⟩
    have X6 : Fr [] H3 (upd H5 be (.lst ((as.map V.ref).set pj (.ref t)))) := X35.late (.of nbe) (.lst hbe5) _
    have hbe6 : upd H5 be (.lst ((as.map V.ref).set pj (.ref t))) be = some (.lst ((as.set pj t).map V.ref)) := by rw [upd_same, List.map_set]
    have tne : ∀ {z : Addr} {vs : List V}, H5 z = some (.tup vs) → upd H5 be (.lst ((as.map V.ref).set pj (.ref t))) z = some (.tup vs) := fun h => by
      rw [upd_ne (fun e => by rw [e, hbe5] at h; cases h)]
      exact h
    have ht6 : SayAt (upd H5 be (.lst ((as.map V.ref).set pj (.ref t)))) t s' := tne ht
    have has6 : SaysAt (upd H5 be (.lst ((as.map V.ref).set pj (.ref t)))) as (rowsF k1 salt) := paired_imp0 has5 fun z s h => tne h
    generalize upd H5 be (.lst ((as.map V.ref).set pj (.ref t))) = H6 at X6 hbe6 ht6 has6
    have hss : SaysAt H6 (as.set pj t) ((rowsF k1 salt).set pj s') := pd_set has6 ht6
    have S6 := S3.fr0 X6
    have sok : s'.Ok (k1.length : Int) := ⟨by rw [bs.e1]; exact rok.s0, by rw [bs.e1]; exact rok.s1, by rw [bs.e2]; exact rok.l0, by rw [bs.e2]; exact rok.l1, by rw [bs.e3]; exact rok.m, bs.l, bs.p⟩
    have okS : ∀ s ∈ (rowsF k1 salt).set pj s', s.Ok (k1.length : Int) := fun s m => by
      rcases List.mem_or_eq_of_mem_set m with z | z
      · exact okR s z
      · rw [z]; exact sok
    have lnR : (k1.length : Int) = ringN n := by rw [l1]; rfl
    have ndS : ((rowsF k1 salt).map Say.seat).Nodup := by have := rows_nd k1 salt; rw [keyed_fst] at this; exact this
    have kp := keyed_put ndS er bs.e1
    have cv : CovB (putA (keyed (rowsF k1 salt)) s'.seat s') (bentF (rowAt k1 salt) j0 s') k1.length := (cov_of S.v1).put j0l (by rw [bs.e1]; exact rs) sok
    refine ⟨_, rfl, _, rfl, fun o dx no ndx ne => ?_⟩
    refine book_made no ndx ne S6.hx S.n8 hbe6 hss (fun s m => by rw [← lnR]; exact okS s m) (by rw [List.length_set]; omega) fun L H7 nL X7 hb hL => ?_
    have eL : latL ((rowsF k1 salt).set pj s') = keyed ((rowsF k1 salt).set pj s') := by
      have := latL_ids (ms := keyed ((rowsF k1 salt).set pj s')) (by rw [kp]; exact cv.nd) fun q m => by
        obtain ⟨s, ms, rfl⟩ := List.mem_map.mp m
        exact ⟨rfl, (okS s ms).l0⟩
      rw [keyed_snd] at this
      exact this
    rw [eL, kp] at hL
    have Bo := cv.bk hb hL
    have S7 := S6.fr0 X7
    have own := bent_own S.v1 l1 j0l ej0 bs
    have mbt := bent_clash S.v1 S.v2 l1 l2 ej0 bs
    generalize putA (keyed (rowsF k1 salt)) s'.seat s' = mo at Bo
    have momB := fun low w => bent_mom (low := low) (w := w) S.v1 ej0 bs
    generalize bentF (rowAt k1 salt) j0 s' = f' at Bo own mbt momB
    have hrw7 : H7 rw' = some (.lst (as.map V.ref)) := (X6.trans X7).lst hrw3 not_nil
    have ha7 : SayAt H7 a r := (X6.trans X7).tup ha not_nil
    refine ⟨_, rfl, _, rfl, b1, x, L1, o, x, L, m1, mo, _, _, n, k1.length, rfl, S7.B1, Bo, S7.hx, S.n8, fun c1 H8 hc1 X8 => ?_⟩
    have : c1 = true := hc1.mpr (clash_symm own)
    subst this
    refine ⟨true, true, rfl, rfl, _, rfl, iteF ?_⟩
    have S8 := S7.fr0 X8
    refine ⟨_, rfl, _, rfl, o, x, L, b1, x, L1, mo, m1, _, _, n, k1.length, rfl, Bo.fr0 X8, S8.B1, S8.hx, S.n8, fun c2 H9 hc2 X9 => ?_⟩
    have : c2 = true := hc2.mpr own
    subst this
    refine ⟨true, true, rfl, rfl, _, rfl, iteF ?_⟩
    have X79 := X8.trans X9
    have S9 := S7.fr0 X79
    refine ⟨_, rfl, _, rfl, _, _, _, _, rfl, rfl, SqL.of S9.hll, rfl, _, rfl, _, rfl, _, _, _, _, rfl, rfl, SqL.of (X79.lst hrw7 not_nil), at_ (G := H9), _, _, _, _, rfl, rfl, SqT.of (X79.tup ha7 not_nil), rfl, p1, p2, k1, k2, n, j0, by show [V.ref p1, V.ref p2, V.int r.seat] = _; rw [rs], S9.h1, S9.h2, l1, l2, S.n8, fun due H10 hdue X10 => ?_⟩
    rw [← mbt] at hdue
    have X710 := X79.trans X10
    have S10 := S7.fr0 X710
    have B210 : BkF CB H10 b2 x L2 m2 (rowAt k2 salt) k1.length := by rw [l1, ← l2]; exact S10.B2
    refine ⟨_, rfl, _, _, _, _, rfl, rfl, SqL.of S10.hbl, rfl, _, rfl, b2, x, L2, o, x, L, m2, mo, _, _, n, k1.length, rfl, B210, Bo.fr0 X710, S10.hx, S.n8, fun c3 H11 hc3 X11 => ?_⟩
    have e3 : c3 = due := by
      rw [Bool.eq_iff_iff, hc3, hdue]
      exact ⟨clash_symm, clash_symm⟩
    subst e3
    have X711 := X710.trans X11
    have S11 := S7.fr0 X711
    refine ⟨_, rfl, _, rfl, _, _, _, _, rfl, rfl, SqL.of S11.hbl, rfl, o, x, L, b2, x, L2, mo, m2, _, _, n, k1.length, rfl, Bo.fr0 X711, B210.fr0 X11, S11.hx, S.n8, fun c4 H12 hc4 X12 => ?_⟩
    have e4 : c4 = c3 := by rw [Bool.eq_iff_iff, hc4, hdue]
    subst e4
    refine ⟨by show 2 ≤ sizeLine; decide, fun l nl => ?_⟩
    have X712 := (X711.trans X12).new nl (.lst [.bl c4, .bl c4])
    have hl : upd H12 l (.lst [.bl c4, .bl c4]) l = some (.lst [.bl c4, .bl c4]) := upd_same
    generalize upd H12 l (.lst [.bl c4, .bl c4]) = H13 at X712 hl
    refine ⟨l, rfl, ⟨_, SqL.of hl⟩, ?_⟩
    refine for_list (xs := [.bl c4, .bl c4]) (fun j σ H' => H' = H13 ∧ ∃ v12 : Option V, σ = [some (.ref b), some (.ref x), some (.ref bl), some (.ref ll), some (.int salt), some (.ref b1), some (.ref p1), some (.ref rw'), some (.int (pj : Int)), some (.ref be), some (.ref o), some (.bl c4), v12]) ⟨rfl, _, rfl⟩ (fun j σ H' _ pv => by rw [pv.1]; exact SqL.of hl) (fun j v σ H14 hv pv => ?_) (fun σ H14 pv => ?_)
    · obtain ⟨rfl, v12, rfl⟩ := pv
      have ev : v = .bl c4 := by
        match j, hv with
        | 0, hv => injection hv with e; exact e.symm
        | 1, hv => injection hv with e; exact e.symm
        | j + 2, hv => cases hv
      subst ev
      refine ⟨_, rfl, _, _, _, _, true, rfl, .ty _, .base (.bl _), kit_ty (by decide +kernel), _, rfl, iteF ?_⟩
      refine ⟨_, rfl, _, rfl, rfl, _, rfl, ?_⟩
      show (if (!decide (V.bl c4 = V.bl c4)) = true then _ else _)
      rw [decide_eq_true rfl]
      exact iteF ⟨rfl, _, rfl⟩
    · obtain ⟨rfl, v12, rfl⟩ := pv
      have S13 := S7.fr0 X712
      refine ⟨_, rfl, _, rfl, _, _, rfl, .inl (SqL.of S13.h1), o, x, L, mo, f', k1.length, 0, k1.length, by rw [List.length_map]; rfl, Bo.fr0 X712, by omega, fun t1 H14 nt1 X14 ht1 => ?_⟩
      rw [momB] at ht1
      have S14 := S13.fr0 X14
      refine ⟨_, rfl, _, rfl, _, _, rfl, .inl (SqL.of S14.h1), p1, k1, 0, k1.length, by rw [List.length_map]; rfl, S14.h1, by omega, by omega, fun t2 H15 nt2 X15 ht2 => ?_⟩
      exact ⟨t1, t2, momF (gt0 k1 0) k1.length, rfl, X15.tup ht1 not_nil, ht2, k _⟩
end
end K29

set_option Elab.async false
set_option maxRecDepth 100000
set_option maxHeartbeats 8000000
set_option exponentiation.threshold 4096
set_option linter.unusedVariables false
/-! the law -/
namespace K29
open PySem PySem.Spec PyProof.Rows L2 C8 LamX UF
def bitsL : List Int := [2, 3, 1, 3, 2, 4, 3, 5, 2, 3, 4, 8]
theorem bits_ok : ∀ n ∈ bitsL, 1 ≤ n ∧ n ≤ 8 := by decide
theorem many_at : ∀ n : Nat, n ≤ 8 → atI [V.int 1, .int 2, .int 4, .int 8, .int 16, .int 32, .int 64, .int 128, .int 256] (n : Int) = some (.int (ringN n))
  | 0, _ => rfl
  | 1, _ => rfl
  | 2, _ => rfl
  | 3, _ => rfl
  | 4, _ => rfl
  | 5, _ => rfl
  | 6, _ => rfl
  | 7, _ => rfl
  | 8, _ => rfl
  | n + 9, h => absurd h (by omega)
theorem row_set {ks : List Int} {salt l : Int} {j : Nat} (jl : j < ks.length) (l0 : 0 < l) : (fun i => if i = j then some (sayF j l salt) else rowAt ks salt i) = rowAt (ks.set j l) salt := by
  funext i
  by_cases e : i = j
  · subst e
    rw [if_pos rfl]
    rw [rowAt_at (l := l) (by rw [List.getElem?_set_self jl]), if_pos l0]
  · rw [if_neg e]
    unfold rowAt
    rw [List.getElem?_set_ne (fun z => e z.symm)]
/-- one side -/
structure Side (CB : Addr) (H : Hp) (bk x L p : Addr) (ms : List (Int × Say)) (ks : List Int) (salt : Int) (n : Nat) : Prop where
  B : BkF CB H bk x L ms (rowAt ks salt) ks.length
  h : H p = some (.lst (ks.map V.int))
  l : ks.length = 2 ^ n
theorem Side.pt {CB : Addr} {H : Hp} {bk x L p : Addr} {ms : List (Int × Say)} {ks : List Int} {salt : Int} {n : Nat} (S : Side CB H bk x L p ms ks salt n) : bk ≠ p ∧ L ≠ p ∧ bk ≠ L := by
  obtain ⟨dx, e⟩ := S.B.hb
  obtain ⟨kv, e2⟩ := S.B.hL.at_
  have h := S.h
  exact ⟨(fun z => by rw [z, h] at e; cases e), (fun z => by rw [z, h] at e2; cases e2), fun z => by rw [z, e2] at e; cases e⟩
theorem Side.fr {CB : Addr} {H H' : Hp} {bk x L p : Addr} {ms : List (Int × Say)} {ks : List Int} {salt : Int} {n : Nat} {ds : List Addr} (S : Side CB H bk x L p ms ks salt n) (X : Fr ds H H') (n1 : bk ∉ ds) (n2 : L ∉ ds) (n3 : p ∉ ds) (nt : ∀ a ∈ ds, ∀ vs, H a ≠ some (.tup vs)) : Side CB H' bk x L p ms ks salt n := ⟨S.B.fr X n1 n2 nt, X.lst S.h n3, S.l⟩
theorem Side.fr0 {CB : Addr} {H H' : Hp} {bk x L p : Addr} {ms : List (Int × Say)} {ks : List Int} {salt : Int} {n : Nat} (S : Side CB H bk x L p ms ks salt n) (X : Fr [] H H') : Side CB H' bk x L p ms ks salt n := S.fr X not_nil not_nil not_nil fun a m => nomatch m
theorem Side.box {CB : Addr} {H H' : Hp} {bk x L p b c : Addr} {ms : List (Int × Say)} {ks : List Int} {salt : Int} {n : Nat} (S : Side CB H bk x L p ms ks salt n) (B : Box H b c) (pb : p ≠ b) (X : Fr [b] H H') : Side CB H' bk x L p ms ks salt n := by
  have nt := B.nt
  obtain ⟨cells, u, y, s, z, B⟩ := B
  have hb := B.hb
  obtain ⟨dx, e⟩ := S.B.hb
  obtain ⟨kv, e2⟩ := S.B.hL.at_
  exact S.fr X (not_one fun z => by rw [z, hb] at e; cases e) (not_one fun z => by rw [z, hb] at e2; cases e2) (not_one pb) nt
section
variable {P : Program} {w : World} {K : PySem.W.Frag} {mg : Str → Option Value} {base : Heap} {CS CB : Addr}
theorem f_law (T : Bl mg) (ST : T_Setting K mg CS) (c_Setting : Mak P w K mg base 3 "Setting" CS (spInit CS) [.int 6, .int 1]) (c_law_box : Cal P w K mg base 1 "_law_box" (spBox K) []) (c_law_take : Cal P w K mg base 2 "_law_take" spDraw []) (c_law_base : Cal P w K mg base 3 "_law_base" spBase []) (c_law_level : Cal P w K mg base 3 "_law_level" spLevel []) (c_law_pair : Cal P w K mg base 5 "_law_pair" spPair []) (c_law_book : Cal P w K mg base 8 "_law_book" (spBookF CB CS) [])
    (c_law_ranges : Cal P w K mg base 3 "_law_ranges" spRanges []) (c_law_asked : Cal P w K mg base 6 "_law_asked" (spAsked CB CS) []) (c_law_saying : Cal P w K mg base 2 "_law_saying" spSF []) (m_take : Met P w K mg base 5 CB "take" (spTake CB CS) []) (c_law_other_worth : Cal P w K mg base 8 "_law_other_worth" (spOther CB CS) []) {fa : Addr} {fd : FuncData} (F : C8.Fun K "law" "law" s_law fa fd) : FnOk P w K mg base C8.CX0 9 fa fd ["script"] (spLaw K) := by
  refine C8.fn0 F sc_law (fun vs H Q E h => ?_) (fun cdv A outer s0 H vs Q E hr h => ?_)
  · obtain ⟨a, ns, rfl, _⟩ := h
    rfl
  · obtain ⟨sc, is, rfl, hS, hl, k⟩ := h
    refine ⟨_, (pss_cons (ps_set (i := 1) sc_law.nd rfl (Or.inr rfl) (pe_c c_law_box hr (by decide) rfl (pa_cons (pv 0) pa_nil)))
      (pss_cons (ps_set (i := 2) sc_law.nd rfl (Or.inl rfl) (pe_ix ix_list (pe_lst (pa_cons pe_int (pa_cons pe_int (pa_cons pe_int (pa_cons pe_int (pa_cons pe_int (pa_cons pe_int (pa_cons pe_int (pa_cons pe_int (pa_cons pe_int (pa_cons pe_int (pa_cons pe_int (pa_cons pe_int pa_nil))))))))))))) (pe_c c_law_take hr (by decide) rfl (pa_cons (pv 1) (pa_cons pe_int pa_nil))) (fun _ _ => rfl)))
      (pss_cons (ps_set (i := 3) sc_law.nd rfl (Or.inl rfl) (pe_ix ix_list (pe_lst (pa_cons pe_int (pa_cons pe_int (pa_cons pe_int (pa_cons pe_int (pa_cons pe_int (pa_cons pe_int (pa_cons pe_int (pa_cons pe_int (pa_cons pe_int pa_nil)))))))))) (pv 2) (fun _ _ => rfl)))
      (pss_cons (ps_set (i := 4) sc_law.nd rfl (Or.inl rfl) (pe_mk c_Setting hr (by decide) rfl (pa_cons (pv 2) (pa_cons (pe_op op_add pe_int (pe_c c_law_take hr (by decide) rfl (pa_cons (pv 1) (pa_cons pe_int pa_nil)))) (pa_cons (pe_op op_add pe_int (pe_c c_law_take hr (by decide) rfl (pa_cons (pv 1) (pa_cons pe_int pa_nil)))) pa_nil)))))
      (pss_cons (ps_set (i := 5) sc_law.nd rfl (Or.inr rfl) (pe_c c_law_base hr (by decide) rfl (pa_cons (pv 1) pa_nil)))
      (pss_cons (ps_set (i := 6) sc_law.nd rfl (Or.inl rfl) (pe_c c_law_take hr (by decide) rfl (pa_cons (pv 1) (pa_cons pe_int pa_nil))))
      (pss_cons (ps_set (i := 8) sc_law.nd rfl (Or.inl rfl) (pe_c c_law_pair hr (by decide) rfl (pa_cons (pv 1) (pa_cons (pe_lc (own := [("turn", 7)]) (g := gName 7) (tt := tYes) (by rfl) sc_law.nd (pi_range1 rfl T.range (pa_cons (pv 3) pa_nil)) (blkOk_by (own := [("turn", 7)]) (N := n_law) (sc := C8.fnScope s_law) (by decide +kernel)) (fun _ _ _ _ _ => pg_name (i := 7) sc_law.nd rfl (Or.inl rfl)) (fun _ _ _ _ _ => pts_nil) (fun _ _ _ _ _ => (pe_c c_law_level hr (by decide) rfl (pa_cons (pv 1) (pa_cons (pv 5) pa_nil))))) (pa_cons (pv 5) pa_nil)))))
      (pss_cons (ps_set (i := 9) sc_law.nd rfl (Or.inl rfl) (pe_lst (pa_cons (pe_c c_law_book hr (by decide) rfl (pa_cons (pv 4) (pa_cons (pe_ix ix_list (pv 8) pe_int (fun _ _ => rfl)) (pa_cons (pv 6) (pa_cons (pv 1) pa_nil))))) (pa_cons (pe_c c_law_book hr (by decide) rfl (pa_cons (pv 4) (pa_cons (pe_ix ix_list (pv 8) pe_int (fun _ _ => rfl)) (pa_cons (pv 6) (pa_cons (pv 1) pa_nil))))) pa_nil))))
      (pss_cons (ps_set (i := 10) sc_law.nd rfl (Or.inl rfl) (pe_c c_law_ranges hr (by decide) rfl (pa_cons (pv 1) (pa_cons (pv 3) pa_nil))))
      (pss_cons (ps_if (pt_not (pt_val (pe_c c_law_asked hr (by decide) rfl (pa_cons (pv 9) (pa_cons (pv 8) (pa_cons (pv 6) (pa_cons (pv 10) pa_nil))))))) (pss_one (ps_ret pe_bl)) pss_nil)
      (pss_cons (ps_set (i := 11) sc_law.nd rfl (Or.inl rfl) pe_int)
      (pss_cut (ps_if (pt_cmpR op_le (pv 3) pe_int (nomark _)) (pss_one (ps_set (i := 11) sc_law.nd rfl (Or.inl rfl) (pe_op op_add pe_int (pe_c c_law_take hr (by decide) rfl (pa_cons (pv 1) (pa_cons pe_int pa_nil)))))) pss_nil)
      (pss_cons (ps_for PassesOwn.never rfl (pi_range1 rfl T.range (pa_cons (pv 11) pa_nil)) (pg_name (i := 7) sc_law.nd rfl (Or.inl rfl)) (pss_cons (ps_set (i := 12) sc_law.nd rfl (Or.inl rfl) (pe_c c_law_take hr (by decide) rfl (pa_cons (pv 1) (pa_cons pe_int pa_nil))))
      (pss_cons (ps_set (i := 13) sc_law.nd rfl (Or.inl rfl) (pe_c c_law_take hr (by decide) rfl (pa_cons (pv 1) (pa_cons (pv 3) pa_nil))))
      (pss_cons (ps_set (i := 14) sc_law.nd rfl (Or.inl rfl) (pe_op op_add (pe_op op_add (pe_ix ix_list (pe_ix ix_list (pv 8) (pv 12) (fun _ _ => rfl)) (pv 13) (fun _ _ => rfl)) pe_int) (pe_c c_law_take hr (by decide) rfl (pa_cons (pv 1) (pa_cons pe_int pa_nil)))))
      (pss_cons (ps_asg (pv 14) (pg_sub (pe_ix ix_list (pv 8) (pv 12) (fun _ _ => rfl)) (pv 13) set_list))
      (pss_one (ps_expr (pe_mt m_take hr (by decide) (pe_ix ix_list (pv 9) (pv 12) (fun _ _ => rfl)) (pa_cons (pe_c c_law_saying hr (by decide) rfl (pa_cons (pv 13) (pa_cons (pv 14) (pa_cons (pv 6) pa_nil)))) pa_nil)))))))))
      (pss_cons (ps_if (pt_not (pt_val (pe_c c_law_asked hr (by decide) rfl (pa_cons (pv 9) (pa_cons (pv 8) (pa_cons (pv 6) (pa_cons (pv 10) pa_nil))))))) (pss_one (ps_ret pe_bl)) pss_nil)
      (pss_one (ps_ret (pe_c c_law_other_worth hr (by decide) rfl (pa_cons (pv 1) (pa_cons (pv 4) (pa_cons (pv 9) (pa_cons (pv 8) (pa_cons (pv 6) pa_nil)))))))))))))))))))))), ?_⟩
    refine ⟨_, rfl, sc, is, rfl, hS, hl, fun b c H1 nb nc B1 X1 => ?_⟩
    -- bits, many
    refine ⟨by show 12 ≤ sizeLine; decide, fun l1 nl1 => ?_⟩
    have hl1 : upd H1 l1 (.lst (bitsL.map V.int)) l1 = some (.lst (bitsL.map V.int)) := upd_same
    have B2 := B1.new nl1 (.lst (bitsL.map V.int))
    have l1b : l1 ≠ b := (B1.nw_ne (.of nl1)).1
    change Box (upd H1 l1 (.lst (bitsL.map V.int))) b c at B2
    generalize hH2 : upd H1 l1 (.lst (bitsL.map V.int)) = H2 at hl1 B2
    have hH2' : upd H1 l1 (.lst [V.int 2, .int 3, .int 1, .int 3, .int 2, .int 4, .int 3, .int 5, .int 2, .int 3, .int 4, .int 8]) = H2 := hH2
    rw [hH2']
    refine ⟨_, rfl, b, c, 12, rfl, B2, by decide, by decide +kernel, fun d1 H3 a1 a2 B3 X3 => ?_⟩
    obtain ⟨bi, ebi, mbi, _⟩ := int_at (xs := bitsL) a1 a2
    obtain ⟨bi1, bi8⟩ := bits_ok bi mbi
    obtain ⟨n, rfl⟩ := Int.eq_ofNat_of_zero_le (show 0 ≤ bi by omega)
    have n8 : n ≤ 8 := by omega
    refine ⟨_, _, _, _, rfl, rfl, SqL.of (X3.lst hl1 (not_one l1b)), ebi, ?_⟩
    refine ⟨by show 9 ≤ sizeLine; decide, fun l2 nl2 => ?_⟩
    have B4 := B3.new nl2 (.lst [V.int 1, .int 2, .int 4, .int 8, .int 16, .int 32, .int 64, .int 128, .int 256])
    have hl2 : upd H3 l2 (.lst [V.int 1, .int 2, .int 4, .int 8, .int 16, .int 32, .int 64, .int 128, .int 256]) l2 = some (.lst [V.int 1, .int 2, .int 4, .int 8, .int 16, .int 32, .int 64, .int 128, .int 256]) := upd_same
    generalize upd H3 l2 (.lst [V.int 1, .int 2, .int 4, .int 8, .int 16, .int 32, .int 64, .int 128, .int 256]) = H4 at B4 hl2
    refine ⟨_, rfl, _, _, _, _, rfl, rfl, SqL.of hl2, many_at n n8, ?_⟩
    have n256 := pow_le8 (Nat.le_refl n) n8
    have n1 : 1 ≤ n := by omega
    have nn : ringN n = ((2 ^ n : Nat) : Int) := rfl
    have np := Nat.two_pow_pos n
    -- setting
    refine ⟨_, rfl, _, rfl, b, c, 6, rfl, B4, by decide, by decide +kernel, fun d2 H5 b1 b2 B5 X5 => ⟨_, _, rfl, rfl, ?_⟩⟩
    refine ⟨_, rfl, b, c, 64, rfl, B5, by decide, by decide +kernel, fun d3 H6 c1 c2 B6 X6 => ⟨_, _, rfl, rfl, fun x dx nx ndx ne => ?_⟩⟩
    refine set_made (n := (n : Int)) (p := 1 + d2) (r := 1 + d3) (g := 6) (h := 1) nx ndx ne (by omega) (by omega) (by omega) (by omega) (by omega) (by omega) (by decide) (by decide) (by decide) (by decide) fun H7 X7 hx7 => ?_
    have B7 := B6.fr0 X7
    have hs7 : SetN CS H7 x n := ⟨_, _, _, _, hx7⟩
    have xb : x ≠ b := (B6.nw_ne (.of nx)).1
    -- base, salt
    refine ⟨_, rfl, b, c, rfl, B7, fun s H8 s3 s57 B8 X8 => ?_⟩
    refine ⟨_, rfl, b, c, 1000, rfl, B8, by decide, by decide +kernel, fun salt H9 sa0 sa1 B9 X9 => ?_⟩
    have X79 := X8.trans X9
    have hs9 := hs7.fr X79 (not_one xb)
    -- levels
    refine ⟨_, rfl, _, rfl, _, rfl, by omega, by omega, fun D nD => ?_⟩
    rw [nn, Int.toNat_natCast]
    have Db : D ≠ b := (B9.nw_ne (.of nD)).1
    have Dc : D ≠ c := (B9.nw_ne (.of nD)).2
    refine lc_range (lo := 0) (n := 2 ^ n) (fun i H' => Box H' b c ∧ Fr [b] H9 H' ∧ ∃ ks : List Int, ks.length = i ∧ LvA H' D ks (4 * s + 4)) ⟨B9.new nD _, Fr.new0 nD _, [], rfl, ⟨upd_same, fun l h => nomatch h⟩⟩ (fun i H10 hi pv => ?_) (fun H10 pv => ?_)
    · obtain ⟨B10, X10, ks, lk, A10⟩ := pv
      refine ⟨rfl, _, rfl, _, rfl, b, c, s, rfl, B10, s3, fun v H11 v0 v1 B11 X11 => ?_⟩
      have hD11 := X11.lst A10.h (not_one Db)
      exact ⟨_, hD11, by rw [List.length_map]; exact small1000' (by omega), B11.off Db Dc _, (X10.trans X11).late (.of nD) (.lst hD11) _, ks ++ [v], by rw [List.length_append, lk]; rfl, ⟨by rw [upd_same, List.map_append]; rfl, A10.b.snoc v0 v1⟩⟩
    obtain ⟨B10, X10, ks, lk, A10⟩ := pv
    refine ⟨_, rfl, b, c, D, ks, 4 * s + 4, s, rfl, B10, Db, A10, by omega, by omega, s3, Int.le_refl _, fun ll p1 p2 k1 k2 H11 nll np1 np2 lp1 lp2 p12 B11 X11 hll A1 A2 lk1 lk2 => ?_⟩
    have hs11 := hs9.fr (X10.trans X11) (not_one xb)
    have llb : ll ≠ b := (B10.nw_ne nll).1
    have p1b : p1 ≠ b := (B10.nw_ne np1).1
    have p1c : p1 ≠ c := (B10.nw_ne np1).2
    have p2b : p2 ≠ b := (B10.nw_ne np2).1
    have p2c : p2 ≠ c := (B10.nw_ne np2).2
    have ok : ∀ {ks : List Int} {M : Int}, LvB M ks → M ≤ 10 ^ 60 → LvOk ks := fun h e l m => ⟨(h l m).1, Int.le_trans (h l m).2 e⟩
    -- books
    have lv1 : LvOk k1 := ok A1.b (by omega)
    have lv2 : LvOk k2 := ok A2.b (by omega)
    refine ⟨_, rfl, _, rfl, _, _, _, _, rfl, rfl, SqL.of hll, rfl, _, rfl, _, rfl, x, p1, b, c, n, k1, salt, rfl, hs11, n8, A1.h, by rw [lk1, lk]; rfl, lv1, B11, xb, fun bk1 L1 ms1 H12 nbk1 nL1 B12 X12 Bk1 => ?_⟩
    have hs12 := hs11.fr X12 (not_one xb)
    have hll12 := X12.lst hll (not_one llb)
    have h1_12 := X12.lst A1.h (not_one p1b)
    have h2_12 := X12.lst A2.h (not_one p2b)
    refine ⟨_, rfl, _, rfl, _, _, _, _, rfl, rfl, SqL.of hll12, rfl, _, rfl, _, rfl, x, p2, b, c, n, k2, salt, rfl, hs12, n8, h2_12, by rw [lk2, lk]; rfl, lv2, B12, xb, fun bk2 L2 ms2 H13 nbk2 nL2 B13 X13 Bk2 => ?_⟩
    have hs13 := hs12.fr X13 (not_one xb)
    have hll13 := X13.lst hll12 (not_one llb)
    have bk1b : bk1 ≠ b := (B11.nw_ne nbk1).1
    have L1b : L1 ≠ b := (B11.nw_ne nL1).1
    have L1c : L1 ≠ c := (B11.nw_ne nL1).2
    have L2b : L2 ≠ b := (B12.nw_ne nL2).1
    have L2c : L2 ≠ c := (B12.nw_ne nL2).2
    have L12 : L1 ≠ L2 := by
      obtain ⟨kv, e⟩ := Bk1.hL.at_
      exact ne_nw e nL2
    refine ⟨by show 2 ≤ sizeLine; decide, fun bl nbl => ?_⟩
    have X14 : Fr [] H13 (upd H13 bl (.lst [.ref bk1, .ref bk2])) := Fr.new0 nbl _
    have hbl14 : upd H13 bl (.lst [.ref bk1, .ref bk2]) bl = some (.lst [.ref bk1, .ref bk2]) := upd_same
    have h1_13 := X13.lst h1_12 (not_one p1b)
    have h2_13 := X13.lst h2_12 (not_one p2b)
    have blp1 : bl ≠ p1 := (ne_of_none h1_13 nbl).symm
    have blp2 : bl ≠ p2 := (ne_of_none h2_13 nbl).symm
    have blb : bl ≠ b := (B13.nw_ne (.of nbl)).1
    have B14 := B13.new nbl (.lst [.ref bk1, .ref bk2])
    generalize upd H13 bl (.lst [.ref bk1, .ref bk2]) = H14 at X14 hbl14 B14
    have S1 : Side CB H14 bk1 x L1 p1 ms1 k1 salt n := ⟨(Bk1.fr X13 (not_one bk1b) (not_one L1b) B12.nt).fr0 X14, X14.lst h1_13 not_nil, by rw [lk1, lk]⟩
    have S2 : Side CB H14 bk2 x L2 p2 ms2 k2 salt n := ⟨Bk2.fr0 X14, X14.lst h2_13 not_nil, by rw [lk2, lk]⟩
    have hs14 := hs13.fr X14 not_nil
    have hll14 := X14.lst hll13 not_nil
    -- ranges
    refine ⟨_, rfl, _, rfl, b, c, 2 ^ n, rfl, B14, np, n256, fun rl as rs H15 nrl B15 X15 hrl prs le => ?_⟩
    have S1_15 := S1.box B14 p1b X15
    have S2_15 := S2.box B14 p2b X15
    have hs15 := hs14.fr X15 (not_one xb)
    have hll15 := X15.lst hll14 (not_one llb)
    have hbl15 := X15.lst hbl14 (not_one blb)
    have rlp1 : rl ≠ p1 := (ne_nw S1.h nrl).symm
    have rlp2 : rl ≠ p2 := (ne_nw S2.h nrl).symm
    have rlb : rl ≠ b := (B14.nw_ne nrl).1
    have mk : ∀ {G : Hp} {m1 m2 : List (Int × Say)} {k1 k2 : List Int}, G bl = some (.lst [.ref bk1, .ref bk2]) → G ll = some (.lst [.ref p1, .ref p2]) → Side CB G bk1 x L1 p1 m1 k1 salt n → Side CB G bk2 x L2 p2 m2 k2 salt n → LvOk k1 → LvOk k2 → SetN CS G x n → StB CB CS G bl ll bk1 bk2 p1 p2 x L1 L2 m1 m2 k1 k2 salt n := fun h1 h2 s1 s2 v1 v2 hx => ⟨h1, h2, s1.B, s2.B, s1.h, s2.h, v1, v2, s1.l, s2.l, hx, n8⟩
    refine ⟨_, rfl, _, rfl, _, rfl, _, rfl, bl, ll, bk1, bk2, p1, p2, x, L1, L2, rl, ms1, ms2, k1, k2, salt, n, as, rs, rfl, mk hbl15 hll15 S1_15 S2_15 lv1 lv2 hs15, hrl, prs, le, fun H16 X16 => ⟨_, rfl, iteF ?_⟩⟩
    have B16 := B15.fr0 X16
    refine ⟨fun σ H' => Box H' b c ∧ Fr [b] H16 H' ∧ ∃ tn : Int, 0 ≤ tn ∧ tn ≤ 3 ∧ σ = [some (.ref sc), some (.ref b), some (.int (n : Int)), some (.int ((2 ^ n : Nat) : Int)), some (.ref x), some (.int s), some (.int salt), none, some (.ref ll), some (.ref bl), some (.ref rl), some (.int tn), none, none, none], ?_, ?_⟩
    · refine ⟨_, rfl, _, _, rfl, rfl, _, rfl, ite2 (fun _ => ?_) (fun _ => ⟨B16, .refl _ _, 1, by decide, by decide, rfl⟩)⟩
      exact ⟨_, rfl, b, c, 3, rfl, B16, by decide, by decide +kernel, fun d4 H17 e1 e2 B17 X17 => ⟨_, _, rfl, rfl, B17, X17, 1 + d4, by omega, by omega, rfl⟩⟩
    rintro σ H17 ⟨B17, X17, tn, tn0, tn3, rfl⟩
    have S1_17 := (S1_15.fr0 X16).box B16 p1b X17
    have S2_17 := (S2_15.fr0 X16).box B16 p2b X17
    have hs17 := (hs15.fr X16 not_nil).fr X17 (not_one xb)
    have hll17 := X17.lst (X16.lst hll15 not_nil) (not_one llb)
    have hbl17 := X17.lst (X16.lst hbl15 not_nil) (not_one blb)
    have hrl17 := X17.lst (X16.lst hrl not_nil) (not_one rlb)
    have prs17 : Paired (PairAt H17) as rs := paired_imp0 prs fun a q h => X17.tup (X16.tup h not_nil) fun m => B16.nt a m _ (X16.tup h not_nil)
    have llp1 : ll ≠ p1 := lp1
    have llp2 : ll ≠ p2 := lp2
    refine ⟨_, rfl, _, rfl, by omega, by omega, ?_⟩
    refine for_range (lo := 0) (n := tn.toNat) (fun i σ H' => Box H' b c ∧ SetN CS H' x n ∧ H' ll = some (.lst [.ref p1, .ref p2]) ∧ H' bl = some (.lst [.ref bk1, .ref bk2]) ∧ H' rl = some (.lst (as.map V.ref)) ∧ Paired (PairAt H') as rs ∧ ∃ (m1 m2 : List (Int × Say)) (k1 k2 : List Int), Side CB H' bk1 x L1 p1 m1 k1 salt n ∧ Side CB H' bk2 x L2 p2 m2 k2 salt n ∧ LvB (20 * s + 45 + 10 * (i : Int)) k1 ∧ LvB (20 * s + 45 + 10 * (i : Int)) k2 ∧ ∃ v7 v12 v13 v14 : Option V, σ = [some (.ref sc), some (.ref b), some (.int (n : Int)), some (.int ((2 ^ n : Nat) : Int)), some (.ref x), some (.int s), some (.int salt), v7, some (.ref ll), some (.ref bl), some (.ref rl), some (.int tn), v12, v13, v14]) ⟨B17, hs17, hll17, hbl17, hrl17, prs17, ms1, ms2, k1, k2, S1_17, S2_17, A1.b.mono (by omega), A2.b.mono (by omega), _, _, _, _, rfl⟩ ?_ ?_
    · rintro i σ H18 hi ⟨B18, hs18, hll18, hbl18, hrl18, prs18, m1, m2, k1, k2, S1, S2, v1, v2, v7, v12, v13, v14, rfl⟩
      refine ⟨_, rfl, b, c, 2, rfl, B18, by decide, by decide +kernel, fun sd H19 e0 e1 B19 X19 => ?_⟩
      refine ⟨_, rfl, _, rfl, b, c, _, rfl, B19, by omega, Int.lt_of_le_of_lt (show ((2 ^ n : Nat) : Int) ≤ 1000 by omega) (by decide +kernel), fun st H20 f0' f1' B20 X20 => ?_⟩
      obtain ⟨j, rfl⟩ := Int.eq_ofNat_of_zero_le f0'
      have jl : j < 2 ^ n := by omega
      have X18 := X19.trans X20
      obtain ⟨M, hM⟩ : ∃ M : Int, M = 20 * s + 45 + 10 * (i : Int) := ⟨_, rfl⟩
      rw [← hM] at v1 v2
      obtain ⟨pa, pb, bka, bkb, La, Lb, ma, mb, ka, kb, ea, eb, Sa, Sb, va, vb, pab, Lab, pab1, pac, Lab1, Lac, llpa, blpa, rlpa, back⟩ : ∃ (pa pb bka bkb La Lb : Addr) (ma mb : List (Int × Say)) (ka kb : List Int), atI [V.ref p1, V.ref p2] sd = some (.ref pa) ∧ atI [V.ref bk1, V.ref bk2] sd = some (.ref bka) ∧ Side CB H20 bka x La pa ma ka salt n ∧ Side CB H20 bkb x Lb pb mb kb salt n ∧ LvB M ka ∧ LvB M kb ∧ pa ≠ pb ∧ La ≠ Lb ∧ pa ≠ b ∧ pa ≠ c ∧ La ≠ b ∧ La ≠ c ∧ ll ≠ pa ∧ bl ≠ pa ∧ rl ≠ pa ∧
          ∀ {G : Hp} {m' n' : List (Int × Say)} {k' l' : List Int} {M' : Int}, Side CB G bka x La pa m' k' salt n → Side CB G bkb x Lb pb n' l' salt n → LvB M' k' → LvB M' l' → ∃ (m1 m2 : List (Int × Say)) (k1 k2 : List Int), Side CB G bk1 x L1 p1 m1 k1 salt n ∧ Side CB G bk2 x L2 p2 m2 k2 salt n ∧ LvB M' k1 ∧ LvB M' k2 := by
        have S1' := S1.box B18 p1b X18
        have S2' := S2.box B18 p2b X18
        rcases Int.lt_or_le sd 1 with z | z
        · have : sd = 0 := by omega
          subst this
          exact ⟨p1, p2, bk1, bk2, L1, L2, m1, m2, k1, k2, rfl, rfl, S1', S2', v1, v2, p12, L12, p1b, p1c, L1b, L1c, llp1, blp1, rlp1, fun a b c d => ⟨_, _, _, _, a, b, c, d⟩⟩
        · have : sd = 1 := by omega
          subst this
          exact ⟨p2, p1, bk2, bk1, L2, L1, m2, m1, k2, k1, rfl, rfl, S2', S1', v2, v1, p12.symm, L12.symm, p2b, p2c, L2b, L2c, llp2, blp2, rlp2, fun a b c d => ⟨_, _, _, _, b, a, d, c⟩⟩
      have hs20 := hs18.fr X18 (not_one xb)
      have hll20 := X18.lst hll18 (not_one llb)
      have hbl20 := X18.lst hbl18 (not_one blb)
      have hrl20 := X18.lst hrl18 (not_one rlb)
      have prs20 : Paired (PairAt H20) as rs := paired_imp0 prs18 fun a q h => X18.tup h fun m => B18.nt a m _ h
      have la := Sa.l
      obtain ⟨z, ez, mz, ez'⟩ := int_at (xs := ka) (z := (j : Int)) (by omega) (by omega)
      obtain ⟨z0, z1⟩ := va z mz
      refine ⟨_, rfl, _, rfl, _, _, _, _, rfl, rfl, SqL.of hll20, ea, _, rfl, _, _, _, _, rfl, rfl, SqL.of Sa.h, ez, _, _, rfl, rfl, _, rfl, b, c, 9, rfl, B20, by decide, by decide +kernel, fun d9 H21 q0 q1 B21 X21 => ⟨_, _, rfl, rfl, ?_⟩⟩
      obtain ⟨lv, hlv⟩ : ∃ lv : Int, lv = z + 1 + d9 := ⟨_, rfl⟩
      show gName 14 (V.int (z + 1 + d9)) _ _ _
      rw [← hlv]
      have Sa21 := Sa.box B20 pab1 X21
      have Sb21 := Sb.fr X21 (not_one fun z => by
        obtain ⟨dx, e⟩ := Sb.B.hb
        obtain ⟨cells, u, y, s, z', B⟩ := B20
        rw [z, B.hb] at e
        cases e) (not_one fun z => by
        obtain ⟨kv, e⟩ := Sb.B.hL.at_
        obtain ⟨cells, u, y, s, z', B⟩ := B20
        rw [z, B.hb] at e
        cases e) (not_one fun z => by
        have h := Sb.h
        obtain ⟨cells, u, y, s, z', B⟩ := B20
        rw [z, B.hb] at h
        injection h with h
        injection h with h
        cases kb with
        | nil => cases h
        | cons k ks => injection h with h1 h2; cases h1) B20.nt
      have hs21 := hs20.fr X21 (not_one xb)
      have hll21 := X21.lst hll20 (not_one llb)
      have hbl21 := X21.lst hbl20 (not_one blb)
      have hrl21 := X21.lst hrl20 (not_one rlb)
      have prs21 : Paired (PairAt H21) as rs := paired_imp0 prs20 fun a q h => X21.tup h fun m => B20.nt a m _ h
      -- the level
      refine ⟨_, rfl, _, rfl, _, rfl, _, _, _, _, rfl, rfl, SqL.of hll21, ea, _, rfl, pa, _, _, j, rfl, rfl, Sa21.h, ix_nat (by rw [List.length_map]; omega), ?_⟩
      have X22 : Fr [pa] H21 (upd H21 pa (.lst ((ka.map V.int).set j (.int lv)))) := (Fr.refl _ _).upd (.head _) (.lst Sa21.h) _
      have hpa22 : upd H21 pa (.lst ((ka.map V.int).set j (.int lv))) pa = some (.lst ((ka.set j lv).map V.int)) := by rw [upd_same, List.map_set]
      have B22 := B21.off pab1 pac (.lst ((ka.map V.int).set j (.int lv)))
      generalize upd H21 pa (.lst ((ka.map V.int).set j (.int lv))) = H22 at X22 hpa22 B22
      obtain ⟨pt1, pt2, pt3⟩ := Sa21.pt
      obtain ⟨pu1, pu2, pu3⟩ := Sb21.pt
      have paH : ∀ {a : Addr} {o : HO}, H21 a = some o → (∀ xs, o ≠ .lst xs) → a ∉ [pa] := fun h no => not_one fun e => by
        rw [e, Sa21.h] at h
        exact no _ (Option.some.inj h).symm
      have nt21 : ∀ a ∈ [pa], ∀ vs, H21 a ≠ some (.tup vs) := fun a m vs h => paH h (fun _ z => nomatch z) m
      have Ba22 := Sa21.B.fr X22 (not_one pt1) (not_one pt2) nt21
      have Sb22 := Sb21.fr X22 (by
        obtain ⟨dx, e⟩ := Sb21.B.hb
        exact paH e fun _ z => nomatch z) (by
        obtain ⟨kv, e⟩ := Sb21.B.hL.at_
        exact paH e fun _ z => nomatch z) (not_one pab.symm) nt21
      have hs22 := hs21.fr X22 (by
        obtain ⟨pp, rr, gg, hh, dx, e⟩ := id hs21
        exact paH e fun _ z => nomatch z)
      have hll22 := X22.lst hll21 (not_one llpa)
      have hbl22 := X22.lst hbl21 (not_one blpa)
      have hrl22 := X22.lst hrl21 (not_one rlpa)
      have prs22 : Paired (PairAt H22) as rs := paired_imp0 prs21 fun a q h => X22.tup h (paH h fun _ z => nomatch z)
      obtain ⟨dx, ebk⟩ := id Ba22.hb
      refine ⟨_, rfl, _, rfl, _, _, _, _, rfl, rfl, SqL.of hbl22, eb, bka, dx, _, rfl, ebk, fb_take, _, rfl, _, rfl, _, rfl, (j : Int), lv, salt, rfl, fun a H23 na X23 ha => ?_⟩
      have Ba23 := Ba22.fr0 X23
      have Sb23 := Sb22.fr0 X23
      have M60 : M + 10 ≤ 10 ^ 60 := by omega
      have va60 : LvOk ka := ok va (by omega)
      have lv1 : 0 < lv := by omega
      have sOk : (sayF (j : Int) lv salt).Ok ((ka.length : Nat) : Int) := sayF_ok (by omega) (by omega) (by omega) (by omega)
      have lnR : ((ka.length : Nat) : Int) = ringN n := by rw [la]; rfl
      have rk : rankO (lkA ma (sayF (j : Int) lv salt).seat) < rankI (sayF (j : Int) lv salt) := by
        rw [show (sayF (j : Int) lv salt).seat = (j : Int) from rfl, Ba23.at_, sayF_rank]
        have := lvl_row (salt := salt) (low := 0) (n := j) va60
        unfold lvl gt0 at this
        rw [Nat.zero_add] at this
        rw [this, List.getD_eq_getElem?_getD]
        rw [Int.toNat_natCast] at ez'
        rw [ez']
        show z < lv
        omega
      refine ⟨bka, x, La, a, n, ma, sayF (j : Int) lv salt, rfl, Ba23.hb, hs22.fr X23 not_nil, n8, Ba23.hL, Nat.le_trans Ba23.len (by omega), Ba23.mo, ha, by rw [← lnR]; exact sOk, (fun z => absurd z (by omega)), fun _ H24 X24 hL24 => ?_⟩
      have LaH : ∀ {a : Addr} {o : HO}, H23 a = some o → (∀ kv, o ≠ .dK kv) → a ∉ [La] := fun h no => not_one fun e => by
        obtain ⟨kv, e2⟩ := Ba23.hL.at_
        rw [e, e2] at h
        exact no _ (Option.some.inj h).symm
      have nt23 : ∀ a ∈ [La], ∀ vs, H23 a ≠ some (.tup vs) := fun a m vs h => LaH h (fun _ z => nomatch z) m
      have lst23 : ∀ {a : Addr} {xs : List V}, H22 a = some (.lst xs) → H24 a = some (.lst xs) := fun h => X24.lst (X23.lst h not_nil) (LaH (X23.lst h not_nil) fun _ z => nomatch z)
      have hb24 := Ba23.hb.fr X24 (by
        obtain ⟨dx, e⟩ := Ba23.hb
        exact LaH e fun _ z => nomatch z)
      have Ba24 := Ba23.put (j := j) (s := sayF (j : Int) lv salt) (by omega) rfl sOk hb24 hL24
      rw [row_set (by omega) lv1] at Ba24
      have Sa24 : Side CB H24 bka x La pa (putA ma (sayF (j : Int) lv salt).seat (sayF (j : Int) lv salt)) (ka.set j lv) salt n := ⟨by rw [List.length_set]; exact Ba24, lst23 hpa22, by rw [List.length_set, la]⟩
      have Sb24 := Sb23.fr X24 (by
        obtain ⟨dx, e⟩ := Sb23.B.hb
        exact LaH e fun _ z => nomatch z) (not_one Lab.symm) (LaH Sb23.h fun _ z => nomatch z) nt23
      have B23 := B22.fr0 X23
      have hs23 := hs22.fr X23 not_nil
      obtain ⟨m1', m2', k1', k2', T1, T2, w1, w2⟩ := back Sa24 Sb24 ((va.mono (show M ≤ M + 10 by omega)).set (j := j) (v := lv) (by omega) (by omega)) (vb.mono (show M ≤ M + 10 by omega))
      rw [show M + 10 = 20 * s + 45 + 10 * ((i + 1 : Nat) : Int) by omega] at w1 w2
      refine ⟨B23.fr X24 (not_one Lab1.symm) (not_one Lac.symm), hs23.fr X24 (by
        obtain ⟨pp, rr, gg, hh, dx, e⟩ := id hs23
        exact LaH e fun _ z => nomatch z), lst23 hll22, lst23 hbl22, lst23 hrl22, paired_imp0 prs22 fun a q h => X24.tup (X23.tup h not_nil) (LaH (X23.tup h not_nil) fun _ z => nomatch z), m1', m2', k1', k2', T1, T2, w1, w2, _, _, _, _, rfl⟩
    · rintro σ H18 ⟨B18, hs18, hll18, hbl18, hrl18, prs18, m1, m2, k1, k2, S1, S2, v1, v2, v7, v12, v13, v14, rfl⟩
      have lv1 : LvOk k1 := ok v1 (by omega)
      have lv2 : LvOk k2 := ok v2 (by omega)
      refine ⟨_, rfl, _, rfl, _, rfl, _, rfl, bl, ll, bk1, bk2, p1, p2, x, L1, L2, rl, m1, m2, k1, k2, salt, n, as, rs, rfl, mk hbl18 hll18 S1 S2 lv1 lv2 hs18, hrl18, prs18, le, fun H19 X19 => ⟨_, rfl, iteF ?_⟩⟩
      exact ⟨_, rfl, _, rfl, _, rfl, _, rfl, _, rfl, b, c, bl, ll, bk1, bk2, p1, p2, x, L1, L2, m1, m2, k1, k2, salt, n, rfl, B18.fr0 X19, mk (X19.lst hbl18 not_nil) (X19.lst hll18 not_nil) (S1.fr0 X19) (S2.fr0 X19) lv1 lv2 (hs18.fr X19 not_nil), fun H' => k H'⟩
end
end K29
namespace K29
open PySem PySem.Spec PyProof.Rows L2 C8 LamX UF
/-- from the names of the text to the law's promise -/
theorem fin {l : PySem.W.OpenLaw} {w : World} {K : PySem.W.Frag} {mg : Str → Option Value} {fa CS CB : Addr} (T : Bl mg) (D : Ds K mg CS CB) (M : RanksP K w mg "MARK_RANKS") (L : LawP K mg s_law fa) :
    ∃ fd : FuncData, (∀ (s : Shared) (u : Value), BindsTo s fd ⟨[u], []⟩ [("script", u)]) ∧ ∀ base : Heap, K.In base → base.Ns mainGlobals mg → FnOk l.prog w K mg base C8.CX0 9 fa fd ["script"] (spLaw K) := by
  obtain ⟨fd, FL, bt⟩ := L
  refine ⟨fd, bt, fun base _ _ => ?_⟩
  have p_take' : Cal l.prog w K mg base 2 "_law_take" spDraw [] := c_law_take T (c_law_mixed T D.d_law_mixed) D.d_law_take
  have p_int : Cal l.prog w K mg base 1 "is_integer" spInt [] := c_is_integer T D.d_is_integer
  have p_check : Cal l.prog w K mg base 2 "check_field" spCheck [] := c_check_field p_int D.d_check_field
  have p_st : Prp l.prog w K mg base 1 CS "seats" (spSeats CS) := p_seats D.t_Setting
  have p_below : Cal l.prog w K mg base 2 "is_below" spBelow [] := c_is_below p_int D.d_is_below
  have p_plain : Cal l.prog w K mg base 1 "is_plain" spPlain [] := c_is_plain T D.g_PLAIN_SIGNS D.d_is_plain
  have p_worthy : Cal l.prog w K mg base 2 "is_worth" spWorthP [] := c_is_worth p_plain D.g_MOST_WORTH D.d_is_worth
  have p_chk : Cal l.prog w K mg base 4 "check_saying" (spChkSay CS) [] := c_check_saying (c_is_saying T p_st p_below p_worthy D.g_MARKS D.d_is_saying) D.d_check_saying
  have p_rank : Cal l.prog w K mg base 1 "rank" spRankP [] := c_rank M D.d_rank
  have p_latest : Cal l.prog w K mg base 5 "latest_of" (spLatest CS) [] := c_latest_of p_chk p_rank D.d_latest_of
  have p_Book : Mak l.prog w K mg base 6 "Book" CB (spBook CB CS) [] := c_Book D.t_Book p_latest
  have p_of : Met l.prog w K mg base 1 CB "of" (spOf CB) [] := m_of D.t_Book
  have p_take : Met l.prog w K mg base 5 CB "take" (spTake CB CS) [] := m_take D.t_Book p_chk p_rank p_of
  have p_rows : Met l.prog w K mg base 2 CB "rows" (spRowsB CB) [] := m_rows T D.t_Book (m_held T D.t_Book)
  obtain ⟨e0, p_BookE⟩ := c_BookE (P := l.prog) (w := w) (base := base) T D.t_Book p_chk p_rank D.d_latest_of
  have p_mom : Cal l.prog w K mg base 2 "moments" (spMom CB) [] := c_moments T p_of p_rank D.d_moments
  have p_clash : Cal l.prog w K mg base 4 "clash" (spClash CB CS) [] := c_clash T D.t_Setting D.t_Book p_st (c_is_clash T p_of p_mom D.d_is_clash) D.d_clash
  have p_whole : Cal l.prog w K mg base 1 "_law_whole" spWhole [] := c_law_whole T D.d_law_whole
  have p_say : Cal l.prog w K mg base 2 "_law_saying" spSF [] := c_law_saying T (c_law_worth T D.d_law_worth) D.d_law_saying
  have p_lrows : Cal l.prog w K mg base 3 "_law_rows" spRowsF [] := c_law_rows T p_say D.d_law_rows
  have p_level : Cal l.prog w K mg base 3 "_law_level" spLevel [] := c_law_level p_take' D.d_law_level
  have p_same : Cal l.prog w K mg base 3 "_law_same" spSameF [] := c_law_same T (c_law_is_saying T p_whole D.d_law_is_saying) D.d_law_same
  have p_sums : Cal l.prog w K mg base 1 "_law_sums" spSums [] := c_law_sums T D.d_law_sums
  have p_exact : Cal l.prog w K mg base 2 "_law_exact" spExact [] := c_law_exact T p_whole D.d_law_exact
  have p_pair : Cal l.prog w K mg base 5 "_law_pair" spPair [] := c_law_pair T p_take' p_level (c_law_few T p_take' p_level D.d_law_few) (c_law_above T p_take' D.d_law_above) (c_law_vector T p_take' D.d_law_vector) D.d_law_pair
  have p_asked : Cal l.prog w K mg base 6 "_law_asked" (spAsked CB CS) [] := c_law_asked T (c_law_range_right T p_mom p_sums p_exact D.d_law_range_right) (c_law_clash_right T p_clash (c_law_meets T p_sums D.d_law_meets) D.d_law_clash_right) p_lrows p_same p_rows D.d_law_asked
  have p_other : Cal l.prog w K mg base 8 "_law_other_worth" (spOther CB CS) [] := c_law_other_worth T p_take' p_lrows (c_law_bent T D.d_law_bent) p_Book p_BookE p_clash (c_law_meets_bent T p_sums D.d_law_meets_bent) p_exact p_mom p_sums D.d_law_other_worth
  exact f_law T D.t_Setting (c_Setting D.t_Setting p_check) (c_law_box T D.d_law_box) p_take' (c_law_base T p_take' D.d_law_base) p_level p_pair (c_law_book T p_take' p_lrows p_Book D.d_law_book) (c_law_ranges T p_take' D.d_law_ranges) p_asked p_say p_take p_other FL
theorem walk {l : PySem.W.OpenLaw} {q : Program} {loose : List Str} {XP : (Str → Option Value) → Heap → Prop} {YP : World → Heap → Prop} {d : DefRec} {K : Params → PySem.W.Frag} (hn : l.most = some 63) (hdf : d.params.defaults = [])
    (hY : ∀ (w : World) (h : Heap), YP w h → (K w.params).In h)
    (F : ∀ (w : World) (mg : Str → Option Value) (fa : Addr) (h : Heap), (K w.params).In h → h.Ns mainGlobals mg → mg d.name = some (.ref fa) →
      ∃ fd : FuncData, (∀ (s : Shared) (u : Value), BindsTo s fd ⟨[u], []⟩ [("script", u)]) ∧ ∀ base : Heap, (K w.params).In base → base.Ns mainGlobals mg → FnOk l.prog w (K w.params) mg base C8.CX0 9 fa fd ["script"] (spLaw (K w.params))) :
    PySem.W.WalkO q loose XP YP l.row.toRowW d [] (fun f vs => PySem.call f vs) := walkN ⟨rfl, by decide, by decide⟩ hn hdf hY F
end K29

set_option Elab.async false
set_option maxRecDepth 100000
open PySem PySem.W PyProof.Rows
set_option maxRecDepth 100000 in
set_option maxHeartbeats 0 in
theorem PySem.Challenge.cw_livingroll_k29_whole_moments_holds : PySem.Challenge.rw_livingroll_k29_whole_moments.Holds := by
  w_on; o_law; k_head; (case hw => w_witness2)
  k_fill
  refine K29.walk (l := PySem.Challenge.rw_livingroll_k29_whole_moments) rfl rfl (fun w h Y => PySem.W.kIn_of Y) ?F
  case F =>
    intro w mg fa h KX G hmg
    refine' K29.fin ?B ?D ?rkM ?L
    (case B =>
      refine' UF.bl_mk KX G ?z0 ?z1 ?z2 ?z3 ?z4 ?z5 ?z6 ?z7 ?z8 ?z9 ?z10 ?z11 ?z12 ?z13 ?z14 ?z15 ?z16 ?z17 ?z18 ?z19 ?z20
      (case z0 => k_is)
      (case z1 => k_is)
      (case z2 => k_is)
      (case z3 => k_is)
      (case z4 => k_is)
      (case z5 => k_is)
      (case z6 => k_is)
      (case z7 => k_is)
      (case z8 => k_is)
      (case z9 => k_is)
      (case z10 => k_is)
      (case z11 => k_is)
      (case z12 => k_is)
      (case z13 => k_is)
      (case z14 => k_is)
      (case z15 => k_is)
      (case z16 => k_is)
      (case z17 => k_is)
      (case z18 => k_is)
      (case z19 => k_is)
      (case z20 => k_is))
    (case D =>
      refine' @K29.Ds.mk _ _ _ _ ?is_integer ?is_below ?is_plain ?check_saying ?is_saying ?is_worth ?rank ?format_saying ?format_worth ?moments ?clash ?is_clash ?check_field ?latest_of ?law_whole ?law_box ?law_mixed ?law_take ?law_base ?law_level ?law_worth ?law_saying ?law_rows ?law_book ?law_is_saying ?law_same ?law_few ?law_above ?law_vector ?law_pair ?law_ranges ?law_sums ?law_exact ?law_range_right ?law_meets ?law_meets_bent ?law_clash_right ?law_asked ?law_bent ?law_other_worth ?t_Setting ?t_Book ?g_PLAIN_SIGNS ?g_MARKS ?g_MOST_WORTH
      (case t_Setting =>
        refine' K29.T_Setting.mk ?cl ?mgC ?n_bits ?n_patience ?n_room ?n_grace ?n_helpers ?k_MOST_BITS ?k_MOST_PATIENCE ?k_MOST_ROOM ?k_MOST_GRACE ?k_MOST_HELPERS ?ini ?p_seats
        (case mgC =>
          refine' PySem.W.mg_of KX G ?a
          (case a => k_is))
        (case cl =>
          refine' UF.cls_mk ?a ?b ?c ?d
          (case a => k_is)
          (case b => k_is)
          (case c => k_is)
          (case d => k_is))
        (case n_bits => (show PySem.W.findIn _ _ _ = some none); k_is)
        (case n_patience => (show PySem.W.findIn _ _ _ = some none); k_is)
        (case n_room => (show PySem.W.findIn _ _ _ = some none); k_is)
        (case n_grace => (show PySem.W.findIn _ _ _ = some none); k_is)
        (case n_helpers => (show PySem.W.findIn _ _ _ = some none); k_is)
        (case k_MOST_BITS =>
          refine' UF.con_mk ?a ?b ?c
          (case a => k_is)
          (case b => k_is)
          (case c => decide +kernel))
        (case k_MOST_PATIENCE =>
          refine' UF.con_mk ?a ?b ?c
          (case a => k_is)
          (case b => k_is)
          (case c => decide +kernel))
        (case k_MOST_ROOM =>
          refine' UF.con_mk ?a ?b ?c
          (case a => k_is)
          (case b => k_is)
          (case c => decide +kernel))
        (case k_MOST_GRACE =>
          refine' UF.con_mk ?a ?b ?c
          (case a => k_is)
          (case b => k_is)
          (case c => decide +kernel))
        (case k_MOST_HELPERS =>
          refine' UF.con_mk ?a ?b ?c
          (case a => k_is)
          (case b => k_is)
          (case c => decide +kernel))
        (case ini =>
          refine' UF.inid2_mk ?m ?a ?i ?kc ?l ?c ?k ?g1 ?g2
          (case m => k_is)
          (case a => k_is)
          (case i => k_is)
          (case kc => k_is)
          (case l => k_is)
          (case c => k_is)
          (case k => k_is)
          (case g1 => k_is)
          (case g2 => k_is))
        (case p_seats =>
          refine' UF.prop_mk ?a ?gt ?tk ?r ?l ?c (fun _ _ _ _ _ _ us hl => match us, hl with | [_], _ => rfl)
          (case a => k_is)
          (case gt => k_is)
          (case tk => k_is)
          (case r => k_is)
          (case l => k_is)
          (case c => k_is)))
      (case t_Book =>
        refine' K29.T_Book.mk ?cl ?mgC ?n_setting ?n_latest ?ini ?m_take ?m_of ?m_rows ?m_held ?m_text ?m_contains ?m_len ?m_or ?m_eq
        (case mgC =>
          refine' PySem.W.mg_of KX G ?a
          (case a => k_is))
        (case cl =>
          refine' UF.cls_mk ?a ?b ?c ?d
          (case a => k_is)
          (case b => k_is)
          (case c => k_is)
          (case d => k_is))
        (case n_setting => (show PySem.W.findIn _ _ _ = some none); k_is)
        (case n_latest => (show PySem.W.findIn _ _ _ = some none); k_is)
        (case ini =>
          refine' UF.iniE_mk ?m ?a ?i ?kc ?l ?c ?k ?qT ?qE
          (case m => k_is)
          (case a => k_is)
          (case i => k_is)
          (case kc => k_is)
          (case l => k_is)
          (case c => k_is)
          (case k => k_is)
          (case qT => k_is)
          (case qE => k_is))
        (case m_take =>
          refine' UF.meth_mk ?a ?i ?l ?c ?k (fun _ _ _ _ _ _ us hl => match us, hl with | [_, _], _ => rfl)
          (case a => k_is)
          (case i => k_is)
          (case l => k_is)
          (case c => k_is)
          (case k => k_is))
        (case m_of =>
          refine' UF.meth_mk ?a ?i ?l ?c ?k (fun _ _ _ _ _ _ us hl => match us, hl with | [_, _], _ => rfl)
          (case a => k_is)
          (case i => k_is)
          (case l => k_is)
          (case c => k_is)
          (case k => k_is))
        (case m_rows =>
          refine' UF.meth_mk ?a ?i ?l ?c ?k (fun _ _ _ _ _ _ us hl => match us, hl with | [_], _ => rfl)
          (case a => k_is)
          (case i => k_is)
          (case l => k_is)
          (case c => k_is)
          (case k => k_is))
        (case m_held =>
          refine' UF.meth_mk ?a ?i ?l ?c ?k (fun _ _ _ _ _ _ us hl => match us, hl with | [_], _ => rfl)
          (case a => k_is)
          (case i => k_is)
          (case l => k_is)
          (case c => k_is)
          (case k => k_is))
        (case m_text =>
          refine' UF.meth_mk ?a ?i ?l ?c ?k (fun _ _ _ _ _ _ us hl => match us, hl with | [_], _ => rfl)
          (case a => k_is)
          (case i => k_is)
          (case l => k_is)
          (case c => k_is)
          (case k => k_is))
        (case m_contains =>
          refine' UF.meth_mk ?a ?i ?l ?c ?k (fun _ _ _ _ _ _ us hl => match us, hl with | [_, _], _ => rfl)
          (case a => k_is)
          (case i => k_is)
          (case l => k_is)
          (case c => k_is)
          (case k => k_is))
        (case m_len =>
          refine' UF.meth_mk ?a ?i ?l ?c ?k (fun _ _ _ _ _ _ us hl => match us, hl with | [_], _ => rfl)
          (case a => k_is)
          (case i => k_is)
          (case l => k_is)
          (case c => k_is)
          (case k => k_is))
        (case m_or =>
          refine' UF.meth_mk ?a ?i ?l ?c ?k (fun _ _ _ _ _ _ us hl => match us, hl with | [_, _], _ => rfl)
          (case a => k_is)
          (case i => k_is)
          (case l => k_is)
          (case c => k_is)
          (case k => k_is))
        (case m_eq =>
          refine' UF.meth_mk ?a ?i ?l ?c ?k (fun _ _ _ _ _ _ us hl => match us, hl with | [_, _], _ => rfl)
          (case a => k_is)
          (case i => k_is)
          (case l => k_is)
          (case c => k_is)
          (case k => k_is)))
      (case is_integer =>
        refine' UF.d0_mk KX G ?a ?l ?c ?k (fun _ _ _ _ _ _ us hl => match us, hl with | [_], _ => rfl)
        (case a => k_is)
        (case l => k_is)
        (case c => k_is)
        (case k => k_is))
      (case is_below =>
        refine' UF.d0_mk KX G ?a ?l ?c ?k (fun _ _ _ _ _ _ us hl => match us, hl with | [_, _], _ => rfl)
        (case a => k_is)
        (case l => k_is)
        (case c => k_is)
        (case k => k_is))
      (case is_plain =>
        refine' UF.d0_mk KX G ?a ?l ?c ?k (fun _ _ _ _ _ _ us hl => match us, hl with | [_, _], _ => rfl)
        (case a => k_is)
        (case l => k_is)
        (case c => k_is)
        (case k => k_is))
      (case check_saying =>
        refine' UF.d0_mk KX G ?a ?l ?c ?k (fun _ _ _ _ _ _ us hl => match us, hl with | [_, _], _ => rfl)
        (case a => k_is)
        (case l => k_is)
        (case c => k_is)
        (case k => k_is))
      (case is_saying =>
        refine' UF.d0_mk KX G ?a ?l ?c ?k (fun _ _ _ _ _ _ us hl => match us, hl with | [_, _], _ => rfl)
        (case a => k_is)
        (case l => k_is)
        (case c => k_is)
        (case k => k_is))
      (case is_worth =>
        refine' UF.d0_mk KX G ?a ?l ?c ?k (fun _ _ _ _ _ _ us hl => match us, hl with | [_], _ => rfl)
        (case a => k_is)
        (case l => k_is)
        (case c => k_is)
        (case k => k_is))
      (case rank =>
        refine' UF.d0_mk KX G ?a ?l ?c ?k (fun _ _ _ _ _ _ us hl => match us, hl with | [_], _ => rfl)
        (case a => k_is)
        (case l => k_is)
        (case c => k_is)
        (case k => k_is))
      (case format_saying =>
        refine' UF.d0_mk KX G ?a ?l ?c ?k (fun _ _ _ _ _ _ us hl => match us, hl with | [_], _ => rfl)
        (case a => k_is)
        (case l => k_is)
        (case c => k_is)
        (case k => k_is))
      (case format_worth =>
        refine' UF.d0_mk KX G ?a ?l ?c ?k (fun _ _ _ _ _ _ us hl => match us, hl with | [_], _ => rfl)
        (case a => k_is)
        (case l => k_is)
        (case c => k_is)
        (case k => k_is))
      (case moments =>
        refine' UF.d0_mk KX G ?a ?l ?c ?k (fun _ _ _ _ _ _ us hl => match us, hl with | [_, _, _], _ => rfl)
        (case a => k_is)
        (case l => k_is)
        (case c => k_is)
        (case k => k_is))
      (case clash =>
        refine' UF.d0_mk KX G ?a ?l ?c ?k (fun _ _ _ _ _ _ us hl => match us, hl with | [_, _], _ => rfl)
        (case a => k_is)
        (case l => k_is)
        (case c => k_is)
        (case k => k_is))
      (case is_clash =>
        refine' UF.d0_mk KX G ?a ?l ?c ?k (fun _ _ _ _ _ _ us hl => match us, hl with | [_, _, _, _], _ => rfl)
        (case a => k_is)
        (case l => k_is)
        (case c => k_is)
        (case k => k_is))
      (case check_field =>
        refine' UF.d0_mk KX G ?a ?l ?c ?k (fun _ _ _ _ _ _ us hl => match us, hl with | [_, _, _, _], _ => rfl)
        (case a => k_is)
        (case l => k_is)
        (case c => k_is)
        (case k => k_is))
      (case latest_of =>
        refine' UF.d0_mk KX G ?a ?l ?c ?k (fun _ _ _ _ _ _ us hl => match us, hl with | [_, _], _ => rfl)
        (case a => k_is)
        (case l => k_is)
        (case c => k_is)
        (case k => k_is))
      (case law_whole =>
        refine' UF.d0_mk KX G ?a ?l ?c ?k (fun _ _ _ _ _ _ us hl => match us, hl with | [_], _ => rfl)
        (case a => k_is)
        (case l => k_is)
        (case c => k_is)
        (case k => k_is))
      (case law_box =>
        refine' UF.d0_mk KX G ?a ?l ?c ?k (fun _ _ _ _ _ _ us hl => match us, hl with | [_], _ => rfl)
        (case a => k_is)
        (case l => k_is)
        (case c => k_is)
        (case k => k_is))
      (case law_mixed =>
        refine' UF.d0_mk KX G ?a ?l ?c ?k (fun _ _ _ _ _ _ us hl => match us, hl with | [_, _], _ => rfl)
        (case a => k_is)
        (case l => k_is)
        (case c => k_is)
        (case k => k_is))
      (case law_take =>
        refine' UF.d0_mk KX G ?a ?l ?c ?k (fun _ _ _ _ _ _ us hl => match us, hl with | [_, _], _ => rfl)
        (case a => k_is)
        (case l => k_is)
        (case c => k_is)
        (case k => k_is))
      (case law_base =>
        refine' UF.d0_mk KX G ?a ?l ?c ?k (fun _ _ _ _ _ _ us hl => match us, hl with | [_], _ => rfl)
        (case a => k_is)
        (case l => k_is)
        (case c => k_is)
        (case k => k_is))
      (case law_level =>
        refine' UF.d0_mk KX G ?a ?l ?c ?k (fun _ _ _ _ _ _ us hl => match us, hl with | [_, _], _ => rfl)
        (case a => k_is)
        (case l => k_is)
        (case c => k_is)
        (case k => k_is))
      (case law_worth =>
        refine' UF.d0_mk KX G ?a ?l ?c ?k (fun _ _ _ _ _ _ us hl => match us, hl with | [_, _, _], _ => rfl)
        (case a => k_is)
        (case l => k_is)
        (case c => k_is)
        (case k => k_is))
      (case law_saying =>
        refine' UF.d0_mk KX G ?a ?l ?c ?k (fun _ _ _ _ _ _ us hl => match us, hl with | [_, _, _], _ => rfl)
        (case a => k_is)
        (case l => k_is)
        (case c => k_is)
        (case k => k_is))
      (case law_rows =>
        refine' UF.d0_mk KX G ?a ?l ?c ?k (fun _ _ _ _ _ _ us hl => match us, hl with | [_, _], _ => rfl)
        (case a => k_is)
        (case l => k_is)
        (case c => k_is)
        (case k => k_is))
      (case law_book =>
        refine' UF.d0_mk KX G ?a ?l ?c ?k (fun _ _ _ _ _ _ us hl => match us, hl with | [_, _, _, _], _ => rfl)
        (case a => k_is)
        (case l => k_is)
        (case c => k_is)
        (case k => k_is))
      (case law_is_saying =>
        refine' UF.d0_mk KX G ?a ?l ?c ?k (fun _ _ _ _ _ _ us hl => match us, hl with | [_], _ => rfl)
        (case a => k_is)
        (case l => k_is)
        (case c => k_is)
        (case k => k_is))
      (case law_same =>
        refine' UF.d0_mk KX G ?a ?l ?c ?k (fun _ _ _ _ _ _ us hl => match us, hl with | [_, _], _ => rfl)
        (case a => k_is)
        (case l => k_is)
        (case c => k_is)
        (case k => k_is))
      (case law_few =>
        refine' UF.d0_mk KX G ?a ?l ?c ?k (fun _ _ _ _ _ _ us hl => match us, hl with | [_, _, _], _ => rfl)
        (case a => k_is)
        (case l => k_is)
        (case c => k_is)
        (case k => k_is))
      (case law_above =>
        refine' UF.d0_mk KX G ?a ?l ?c ?k (fun _ _ _ _ _ _ us hl => match us, hl with | [_, _, _], _ => rfl)
        (case a => k_is)
        (case l => k_is)
        (case c => k_is)
        (case k => k_is))
      (case law_vector =>
        refine' UF.d0_mk KX G ?a ?l ?c ?k (fun _ _ _ _ _ _ us hl => match us, hl with | [_, _, _], _ => rfl)
        (case a => k_is)
        (case l => k_is)
        (case c => k_is)
        (case k => k_is))
      (case law_pair =>
        refine' UF.d0_mk KX G ?a ?l ?c ?k (fun _ _ _ _ _ _ us hl => match us, hl with | [_, _, _], _ => rfl)
        (case a => k_is)
        (case l => k_is)
        (case c => k_is)
        (case k => k_is))
      (case law_ranges =>
        refine' UF.d0_mk KX G ?a ?l ?c ?k (fun _ _ _ _ _ _ us hl => match us, hl with | [_, _], _ => rfl)
        (case a => k_is)
        (case l => k_is)
        (case c => k_is)
        (case k => k_is))
      (case law_sums =>
        refine' UF.d0_mk KX G ?a ?l ?c ?k (fun _ _ _ _ _ _ us hl => match us, hl with | [_, _, _], _ => rfl)
        (case a => k_is)
        (case l => k_is)
        (case c => k_is)
        (case k => k_is))
      (case law_exact =>
        refine' UF.d0_mk KX G ?a ?l ?c ?k (fun _ _ _ _ _ _ us hl => match us, hl with | [_, _], _ => rfl)
        (case a => k_is)
        (case l => k_is)
        (case c => k_is)
        (case k => k_is))
      (case law_range_right =>
        refine' UF.d0_mk KX G ?a ?l ?c ?k (fun _ _ _ _ _ _ us hl => match us, hl with | [_, _, _, _], _ => rfl)
        (case a => k_is)
        (case l => k_is)
        (case c => k_is)
        (case k => k_is))
      (case law_meets =>
        refine' UF.d0_mk KX G ?a ?l ?c ?k (fun _ _ _ _ _ _ us hl => match us, hl with | [_, _], _ => rfl)
        (case a => k_is)
        (case l => k_is)
        (case c => k_is)
        (case k => k_is))
      (case law_meets_bent =>
        refine' UF.d0_mk KX G ?a ?l ?c ?k (fun _ _ _ _ _ _ us hl => match us, hl with | [_, _, _], _ => rfl)
        (case a => k_is)
        (case l => k_is)
        (case c => k_is)
        (case k => k_is))
      (case law_clash_right =>
        refine' UF.d0_mk KX G ?a ?l ?c ?k (fun _ _ _ _ _ _ us hl => match us, hl with | [_, _], _ => rfl)
        (case a => k_is)
        (case l => k_is)
        (case c => k_is)
        (case k => k_is))
      (case law_asked =>
        refine' UF.d0_mk KX G ?a ?l ?c ?k (fun _ _ _ _ _ _ us hl => match us, hl with | [_, _, _, _], _ => rfl)
        (case a => k_is)
        (case l => k_is)
        (case c => k_is)
        (case k => k_is))
      (case law_bent =>
        refine' UF.d0_mk KX G ?a ?l ?c ?k (fun _ _ _ _ _ _ us hl => match us, hl with | [_], _ => rfl)
        (case a => k_is)
        (case l => k_is)
        (case c => k_is)
        (case k => k_is))
      (case law_other_worth =>
        refine' UF.d0_mk KX G ?a ?l ?c ?k (fun _ _ _ _ _ _ us hl => match us, hl with | [_, _, _, _, _], _ => rfl)
        (case a => k_is)
        (case l => k_is)
        (case c => k_is)
        (case k => k_is))
      (case g_PLAIN_SIGNS =>
        refine' UF.gcs_mk KX G ?e
        (case e => k_is))
      (case g_MARKS =>
        refine' UF.tup4s_mk KX G ?e ?l
        (case e => k_is)
        (case l => k_is))
      (case g_MOST_WORTH =>
        refine' UF.gci_mk KX G ?e
        (case e => k_is)))
    (case rkM =>
      refine' UF.ranks_mk KX G ?e ?l ?k ?n1 ?n2 ?n3 ?n4
      (case e => k_is)
      (case l => k_is)
      (case k => exact ⟨⟨_, _, rfl, rfl⟩, ⟨_, _, rfl, rfl⟩, ⟨_, _, rfl, rfl⟩, ⟨_, _, rfl, rfl⟩, trivial⟩)
      (case n1 => k_is)
      (case n2 => k_is)
      (case n3 => k_is)
      (case n4 => k_is))
    (case L =>
      refine' UF.law_mk KX G hmg ?aL ?lL ?cL (fun _ _ _ _ _ _ _ => rfl)
      (case aL => k_is)
      (case lL => k_is)
      (case cL => k_is))
