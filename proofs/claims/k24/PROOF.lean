import PyProof.Rows.All
import Wide.All
import OpenK.AllK
import Wide.FinOn
import HandS.Base
import HandS.Call
import HandS.List
import HandS.Comp
import HandS.Ends
import HandS.Text
import HandS.Words
import HandS.Codes
import HandS.Wide
import HandS.Dict
import HandS.Style
import HandS.Small
import HandS.Lambda
import HandS.IsInst
import HandS.Defaults
import HandS.MakeKwOnly
import HandS.Property
import HandS.CallRecv
import HandS.Conv
import HandS.Flow
import HandS.Strs
import HandS.EndTab
import HandS.SortInts
import KE.KMinKey
import KE.KLam
import PyProof.WalkInts
import HandS.SortKw
import HandS.Nested
import PySem.Challenge.RW_livingroll_k24_tour_aims
set_option Elab.async false
set_option maxRecDepth 100000
set_option maxHeartbeats 4000000
set_option exponentiation.threshold 4096
/-! what stays between two heaps -/
namespace UF
open PySem PySem.Spec PyProof.Rows L2 C8 LamX

/-- none stands there, or a table of code -/
def Nw (H : Hp) (a : Addr) : Prop := ∀ o, H a = some o → ∃ ps, o = .tbl ps
theorem Nw.of {H : Hp} {a : Addr} (h : H a = none) : Nw H a := fun o e => by rw [h] at e; cases e
theorem ne_nw {H : Hp} {a b : Addr} {o : HO} (h : H a = some o) (n : Nw H b) (nt : ∀ ps, o ≠ .tbl ps := by intro ps z; cases z) : a ≠ b := fun e => by
  obtain ⟨ps, z⟩ := n o (by rw [← e]; exact h)
  exact nt ps z
/-- what stands there is no table and no code -/
def Pl (H : Hp) (a : Addr) : Prop := ∃ o, H a = some o ∧ (∀ ps, o ≠ .tbl ps) ∧ ∀ φ, o ≠ .ext φ
section
variable {H : Hp} {a : Addr}
theorem Pl.lst {xs : List V} (h : H a = some (.lst xs)) : Pl H a := ⟨_, h, fun _ z => (nomatch z), fun _ z => nomatch z⟩
theorem Pl.tup {xs : List V} (h : H a = some (.tup xs)) : Pl H a := ⟨_, h, fun _ z => (nomatch z), fun _ z => nomatch z⟩
theorem Pl.dK {xs : List (Key × V)} (h : H a = some (.dK xs)) : Pl H a := ⟨_, h, fun _ z => (nomatch z), fun _ z => nomatch z⟩
theorem Pl.dT {xs : List (List Key × V)} (h : H a = some (.dT xs)) : Pl H a := ⟨_, h, fun _ z => (nomatch z), fun _ z => nomatch z⟩
theorem Pl.ins {C dx : Addr} {fs : List (Str × V)} (h : H a = some (.ins C dx fs)) : Pl H a := ⟨_, h, fun _ z => (nomatch z), fun _ z => nomatch z⟩
end
/-- all that was tracked stays, but what stands at ds and tables; nothing is dropped (weak: tables may grow) -/
structure Fw (ds : List Addr) (H H' : Hp) : Prop where
  keep : ∀ a o, H a = some o → a ∉ ds → (∀ ps, o ≠ .tbl ps) → H' a = some o
  live : ∀ a, Nw H' a → Nw H a
/-- .. and tables stay as they are -/
structure Fr (ds : List Addr) (H H' : Hp) : Prop extends Fw ds H H' where
  tabs : ∀ T, Tabs T H → Tabs T H'
variable {ds es : List Addr} {H H1 H2 : Hp} {a b : Addr}
theorem Fr.w (x : Fr ds H H1) : Fw ds H H1 := x.toFw
theorem Fw.refl (ds : List Addr) (H : Hp) : Fw ds H H := ⟨fun _ _ h _ _ => h, fun _ h => h⟩
theorem Fr.refl (ds : List Addr) (H : Hp) : Fr ds H H := ⟨.refl _ _, fun _ h => h⟩
theorem Fw.trans (x : Fw ds H H1) (y : Fw ds H1 H2) : Fw ds H H2 := ⟨fun a o h n t => y.keep a o (x.keep a o h n t) n t, fun a h => x.live a (y.live a h)⟩
theorem Fr.trans (x : Fr ds H H1) (y : Fr ds H1 H2) : Fr ds H H2 := ⟨x.w.trans y.w, fun T h => y.tabs T (x.tabs T h)⟩
theorem Fw.mono (x : Fw ds H H1) (h : ∀ a, a ∈ ds → a ∈ es) : Fw es H H1 := ⟨fun a o z n t => x.keep a o z (fun m => n (h a m)) t, x.live⟩
theorem Fr.mono (x : Fr ds H H1) (h : ∀ a, a ∈ ds → a ∈ es) : Fr es H H1 := ⟨x.w.mono h, x.tabs⟩
theorem tabs_new {T : List (Addr × Str)} (hT : Tabs T H) (h : H b = none) (o : HO) : Tabs T (L2.upd H b o) := hT.ext fun c u e => by
  rw [upd_ne (ne_of_none e h)]
  exact e
theorem tabs_put {T : List (Addr × Str)} (hT : Tabs T H) (h : Pl H b) (o : HO) : Tabs T (L2.upd H b o) := fun p hp => by
  obtain ⟨ps, h1, h2, h3⟩ := hT p hp
  obtain ⟨u, hu, n1, n2⟩ := h
  refine ⟨ps, ?_, h2, fun pos cv hc => ?_⟩
  · rw [upd_ne (fun e => by rw [e, hu] at h1; exact n1 _ (Option.some.inj h1))]
    exact h1
  · obtain ⟨c, e, hcc⟩ := h3 pos cv hc
    refine ⟨c, e, ?_⟩
    rw [upd_ne (fun z => by rw [z, hu] at hcc; exact n2 _ (Option.some.inj hcc))]
    exact hcc
theorem Fw.upd (x : Fw ds H H1) (m : b ∈ ds) (o : HO) (nt : ∀ ps, o ≠ .tbl ps := by intro ps z; cases z) : Fw ds H (L2.upd H1 b o) := ⟨fun a u h n t => by
  rw [upd_ne (fun e : a = b => n (by rw [e]; exact m))]
  exact x.keep a u h n t, fun a h' => by
  refine x.live a fun u e => ?_
  by_cases q : a = b
  · obtain ⟨ps, z⟩ := h' o (by rw [q, upd_same])
    exact absurd z (nt ps)
  · exact h' u (by rw [upd_ne q]; exact e)⟩
theorem Fr.upd (x : Fr ds H H1) (m : b ∈ ds) (h : Pl H1 b) (o : HO) (nt : ∀ ps, o ≠ .tbl ps := by intro ps z; cases z) : Fr ds H (L2.upd H1 b o) := ⟨x.w.upd m o nt, fun T hT => tabs_put (x.tabs T hT) h o⟩
theorem Fw.new (x : Fw ds H H1) (n : H1 b = none) (o : HO) : Fw ds H (L2.upd H1 b o) := ⟨fun a u h q t => by
  have z := x.keep a u h q t
  rw [upd_ne (ne_of_none z n)]
  exact z, fun a h' => by
  refine x.live a fun u e => ?_
  refine h' u ?_
  rw [upd_ne (ne_of_none e n)]
  exact e⟩
theorem Fr.new (x : Fr ds H H1) (n : H1 b = none) (o : HO) : Fr ds H (L2.upd H1 b o) := ⟨x.w.new n o, fun T hT => tabs_new (x.tabs T hT) n o⟩
/-- a store into what was not there at the start -/
theorem Fw.late (x : Fw ds H H1) (n : Nw H b) (o : HO) (nt : ∀ ps, o ≠ .tbl ps := by intro ps z; cases z) : Fw ds H (L2.upd H1 b o) := ⟨fun a u h q t => by
  rw [upd_ne (ne_nw h n t)]
  exact x.keep a u h q t, fun a h' => by
  refine x.live a fun u e => ?_
  by_cases q : a = b
  · obtain ⟨ps, z⟩ := h' o (by rw [q, upd_same])
    exact absurd z (nt ps)
  · exact h' u (by rw [upd_ne q]; exact e)⟩
theorem Fr.late (x : Fr ds H H1) (n : Nw H b) (h : Pl H1 b) (o : HO) (nt : ∀ ps, o ≠ .tbl ps := by intro ps z; cases z) : Fr ds H (L2.upd H1 b o) := ⟨x.w.late n o nt, fun T hT => tabs_put (x.tabs T hT) h o⟩
theorem Fr.new0 (n : H b = none) (o : HO) : Fr ds H (L2.upd H b o) := (Fr.refl ds H).new n o
/-- then a step that changes what was not there at the start -/
theorem Fw.tail (x : Fw ds H H1) (y : Fw es H1 H2) (h : ∀ a, a ∈ es → a ∈ ds ∨ Nw H a) : Fw ds H H2 := ⟨fun a o z n t => y.keep a o (x.keep a o z n t) (fun m => by
  rcases h a m with q | q
  · exact n q
  · exact ne_nw z q t rfl) t, fun a h => x.live a (y.live a h)⟩
theorem Fr.tail (x : Fr ds H H1) (y : Fr es H1 H2) (h : ∀ a, a ∈ es → a ∈ ds ∨ Nw H a) : Fr ds H H2 := ⟨x.w.tail y.w h, fun T hT => y.tabs T (x.tabs T hT)⟩
theorem Fw.ofN (e : ExtN H H1) (l : ∀ a, Nw H1 a → Nw H a) : Fw ds H H1 := ⟨fun a o h _ t => e a o h t, l⟩
/-- a lambda's step: nothing that is no table goes, so new is new -/
theorem Fw.ext (e : ExtN H H1) : Fw ds H H1 := ⟨fun a o h _ t => e a o h t, fun a n o h => by
  by_cases t : ∃ ps, o = .tbl ps
  · exact t
  · exact n o (e a o h fun ps z => t ⟨ps, z⟩)⟩
section
variable {x : Fw ds H H1}
theorem Fw.lst {xs : List V} (x : Fw ds H H1) (h : H a = some (.lst xs)) (n : a ∉ ds) : H1 a = some (.lst xs) := x.keep a _ h n fun _ z => nomatch z
theorem Fw.tup {xs : List V} (x : Fw ds H H1) (h : H a = some (.tup xs)) (n : a ∉ ds) : H1 a = some (.tup xs) := x.keep a _ h n fun _ z => nomatch z
theorem Fw.dK {xs : List (Key × V)} (x : Fw ds H H1) (h : H a = some (.dK xs)) (n : a ∉ ds) : H1 a = some (.dK xs) := x.keep a _ h n fun _ z => nomatch z
theorem Fw.dT {xs : List (List Key × V)} (x : Fw ds H H1) (h : H a = some (.dT xs)) (n : a ∉ ds) : H1 a = some (.dT xs) := x.keep a _ h n fun _ z => nomatch z
theorem Fw.ins {C dx : Addr} {fs : List (Str × V)} (x : Fw ds H H1) (h : H a = some (.ins C dx fs)) (n : a ∉ ds) : H1 a = some (.ins C dx fs) := x.keep a _ h n fun _ z => nomatch z
theorem Fr.lst {xs : List V} (x : Fr ds H H1) (h : H a = some (.lst xs)) (n : a ∉ ds) : H1 a = some (.lst xs) := x.w.lst h n
theorem Fr.tup {xs : List V} (x : Fr ds H H1) (h : H a = some (.tup xs)) (n : a ∉ ds) : H1 a = some (.tup xs) := x.w.tup h n
theorem Fr.dK {xs : List (Key × V)} (x : Fr ds H H1) (h : H a = some (.dK xs)) (n : a ∉ ds) : H1 a = some (.dK xs) := x.w.dK h n
theorem Fr.dT {xs : List (List Key × V)} (x : Fr ds H H1) (h : H a = some (.dT xs)) (n : a ∉ ds) : H1 a = some (.dT xs) := x.w.dT h n
theorem Fr.ins {C dx : Addr} {fs : List (Str × V)} (x : Fr ds H H1) (h : H a = some (.ins C dx fs)) (n : a ∉ ds) : H1 a = some (.ins C dx fs) := x.w.ins h n
end
theorem not_nil {a : Addr} : a ∉ ([] : List Addr) := fun m => nomatch m
theorem not_one {a b : Addr} (h : a ≠ b) : a ∉ [b] := fun m => h (List.mem_singleton.mp m)
theorem not_two {a b c : Addr} (h : a ≠ b) (g : a ≠ c) : a ∉ [b, c] := fun m => by
  rcases List.mem_cons.mp m with e | m
  · exact h e
  · exact g (List.mem_singleton.mp m)
theorem not_cons {a b : Addr} {ds : List Addr} (h : a ≠ b) (g : a ∉ ds) : a ∉ b :: ds := fun m => by
  rcases List.mem_cons.mp m with e | m
  · exact h e
  · exact g m
/-- the same objects with fewer premises -/
theorem upd_new {o : HO} (h : H1 b = none) {p : HO} (q : H1 a = some p) : L2.upd H1 b o a = some p := by
  rw [upd_ne (ne_of_none q h)]; exact q

/-! ### numbers -/
theorem pm {b : Int} (h : 0 < b) : 0 < b := h
theorem dvw {j : Int} (h : 0 < j) (h2 : j < 2 ^ 2000) (i : Int) : CDivW i j := by
  refine wide_div h (b := 2000) ?_ (by decide) (by decide)
  have e : (2 : Int) ^ 2000 = ((2 ^ 2000 : Nat) : Int) := by simp
  rw [e] at h2
  generalize (2 : Nat) ^ 2000 = z at h2 ⊢
  omega
theorem at_lt {α : Type} {xs : List α} {z : Int} (h0 : 0 ≤ z) (h1 : z < xs.length) : ∃ v, atI xs z = some v := by
  obtain ⟨j, rfl⟩ := Int.eq_ofNat_of_zero_le h0
  have hl : j < xs.length := by omega
  exact ⟨xs[j], atI_nat (List.getElem?_eq_getElem hl)⟩
theorem at_map {xs : List Int} {z : Int} {v : V} (h : atI (xs.map V.int) z = some v) : ∃ n : Int, v = .int n := by
  obtain ⟨j, _, e, _⟩ := atI_get h
  rw [List.getElem?_map] at e
  cases q : xs[j]? with
  | none => rw [q] at e; cases e
  | some n => rw [q] at e; exact ⟨n, (Option.some.inj e).symm⟩
theorem small1000' {n : Nat} (h : n ≤ 1000) : n < sizeLine := Nat.lt_of_le_of_lt h (by decide)
/-- an item of a list of whole numbers -/
theorem int_at {xs : List Int} {z : Int} (h0 : 0 ≤ z) (h1 : z < xs.length) : ∃ n : Int, atI (xs.map V.int) z = some (.int n) ∧ n ∈ xs ∧ xs[z.toNat]? = some n := by
  obtain ⟨j, rfl⟩ := Int.eq_ofNat_of_zero_le h0
  have hl : j < xs.length := by omega
  refine ⟨xs[j], atI_nat ?_, List.getElem_mem hl, ?_⟩
  · rw [List.getElem?_map, List.getElem?_eq_getElem hl]; rfl
  · exact List.getElem?_eq_getElem hl
theorem map_at {α : Type} {f : α → V} {xs : List α} {z : Int} (h0 : 0 ≤ z) (h1 : z < xs.length) : ∃ n, atI (xs.map f) z = some (f n) ∧ n ∈ xs ∧ xs[z.toNat]? = some n := by
  obtain ⟨j, rfl⟩ := Int.eq_ofNat_of_zero_le h0
  have hl : j < xs.length := by omega
  refine ⟨xs[j], atI_nat ?_, List.getElem_mem hl, ?_⟩
  · rw [List.getElem?_map, List.getElem?_eq_getElem hl]; rfl
  · exact List.getElem?_eq_getElem hl
theorem twoP {a b : Int} {P Q : Prop} (h1 : a = b → P) (h2 : ¬ a = b → Q) : (decide (V.int a = V.int b) = true → P) ∧ (¬ decide (V.int a = V.int b) = true → Q) := by
  refine ⟨fun z => h1 ?_, fun z => h2 fun e => z ?_⟩
  · have z := of_decide_eq_true z
    injection z
  · rw [e]
    exact decide_eq_true rfl
theorem eqI {a b : Int} (h : decide (V.int a = V.int b) = true) : a = b := by
  have z := of_decide_eq_true h
  injection z
theorem neI {a b : Int} (h : ¬ decide (V.int a = V.int b) = true) : ¬ a = b := fun e => h (by rw [e]; exact decide_eq_true rfl)
theorem decI {a b : Int} (h : a = b) : decide (V.int a = V.int b) = true := by rw [h]; exact decide_eq_true rfl
theorem decIn {a b : Int} (h : ¬ a = b) : decide (V.int a = V.int b) = false := decide_eq_false fun e => h (by injection e)

/-! ### settings' fields -/
def fs5 (n p r g h : Int) : List (Str × V) := [("bits", .int n), ("patience", .int p), ("room", .int r), ("grace", .int g), ("helpers", .int h)]
section
variable {n p r g h : Int}
theorem fs5_bits : (fs5 n p r g h).lookup ("bits" : Str) = some (.int n) := by kernel_rfl
theorem fs5_patience : (fs5 n p r g h).lookup ("patience" : Str) = some (.int p) := by kernel_rfl
theorem fs5_room : (fs5 n p r g h).lookup ("room" : Str) = some (.int r) := by kernel_rfl
theorem fs5_grace : (fs5 n p r g h).lookup ("grace" : Str) = some (.int g) := by kernel_rfl
theorem fs5_helpers : (fs5 n p r g h).lookup ("helpers" : Str) = some (.int h) := by kernel_rfl
theorem fs5_seats : (fs5 n p r g h).lookup ("seats" : Str) = none := by kernel_rfl
theorem fs5_cycle : (fs5 n p r g h).lookup ("cycle" : Str) = none := by kernel_rfl
theorem fs5_stripes : (fs5 n p r g h).lookup ("stripes" : Str) = none := by kernel_rfl
theorem fs5_puts : putF ("helpers" : Str) (V.int h) (putF ("grace" : Str) (V.int g) (putF ("room" : Str) (V.int r) (putF ("patience" : Str) (V.int p) (putF ("bits" : Str) (V.int n) [])))) = fs5 n p r g h := by kernel_rfl
end
end UF
namespace UF
open PySem PySem.Spec PyProof.Rows L2
theorem putF_len (f : Str) (v : V) : ∀ fs : List (Str × V), (putF f v fs).length ≤ fs.length + 1
  | [] => Nat.le_refl _
  | (g, x) :: r => by
    unfold putF
    split
    · exact Nat.le_succ _
    · exact Nat.succ_le_succ (putF_len f v r)
end UF

set_option Elab.async false
set_option maxRecDepth 100000
set_option maxHeartbeats 4000000
/-! how the defs, classes and built-ins of a text are named, whatever the law -/
namespace UF
open PySem PySem.Spec PyProof.Rows L2 C8 LamX

/-- the built-ins that a text may call -/
structure Bl (mg : Str → Option Value) : Prop where
  int : mg "int" = none
  bool : mg "bool" = none
  list : mg "list" = none
  len : mg "len" = none
  tuple : mg "tuple" = none
  str : mg "str" = none
  sum : mg "sum" = none
  abs : mg "abs" = none
  max : mg "max" = none
  min : mg "min" = none
  range : mg "range" = none
  isinstance : mg "isinstance" = none
  sorted : mg "sorted" = none
  reversed : mg "reversed" = none
  enumerate : mg "enumerate" = none
  zip : mg "zip" = none
  all : mg "all" = none
  any : mg "any" = none
  dict : mg "dict" = none
  set : mg "set" = none
  ord : mg "ord" = none

/-- a def of the text that is called with all its parameters -/
structure D0 (K : PySem.W.Frag) (mg : Str → Option Value) (x : Str) (st : Stmt) (ps : List Str) : Prop where
  ex : ∃ (f : Addr) (fd : FuncData), C8.Def K mg x st f fd ∧ L2.Binds K fd ps []
/-- a method, a property of the class at C -/
def MethP (K : PySem.W.Frag) (C : Addr) (m q : Str) (st : Stmt) (ps : List Str) : Prop := ∃ (f : Addr) (fd : FuncData), Meth K C m f ∧ C8.Fun K m q st f fd ∧ L2.Binds K fd ps []
def PropP (K : PySem.W.Frag) (C : Addr) (m q : Str) (st : Stmt) : Prop := ∃ (p g : Addr) (fd : FuncData), PropOf K C m p g ∧ C8.Fun K m q st g fd ∧ L2.Binds K fd ["self"] []
def IniP (K : PySem.W.Frag) (C : Addr) (q : Str) (st : Stmt) (ps : List Str) : Prop := ∃ (f : Addr) (fd : FuncData), Mk K C f ∧ C8.Fun K "__init__" q st f fd ∧ L2.Binds K fd ps []
/-- an __init__ with keyword-only defaults -/
def IniD (K : PySem.W.Frag) (C : Addr) (q : Str) (st : Stmt) (kws : List (Str × V)) : Prop := ∃ (f : Addr) (fd : FuncData), Mk K C f ∧ FunD K "__init__" q (C8.fnArgs st) (C8.fnBody st) (C8.fnScope st) [] kws f fd
def ConP (K : PySem.W.Frag) (C : Addr) (x : Str) (n : Int) : Prop := ∃ u, Con K C x (.int n) u

section
variable {P : Program} {w : World} {K : PySem.W.Frag} {mg : Str → Option Value} {base : Heap}
theorem cal {x : Str} {st : Stmt} {N ps : List Str} {k : Nat} {sp : Sp} (d : D0 K mg x st ps) (S : FnScope N ps (C8.fnScope st)) (len : ∀ vs H Q E, sp vs H Q E → vs.length = ps.length)
    (hbody : ∀ (cdv : Value) (A : Around) (outer : List Env) (f : Addr) (s : Shared) (H : Hp) (vs : List V) (Q : VK) (E : XK), Room k (A.deeper (envOfC x (C8.fnScope st) s.heap.objs.size f cdv)) → sp vs H Q E →
      ∃ t, PSs (cxOf C8.CX0 P w K mg base N x (C8.fnScope st) f cdv A outer s H E).nox (C8.fnBody st) t ∧ t { nx := fun _ H' => Q .non H', rt := Q } (start N vs) H) : Cal P w K mg base (k + 1) x sp [] := by
  obtain ⟨f, fd, D, b⟩ := d.ex
  exact cal0 D b .nil S len fun cdv A outer s H vs Q E hr h => hbody cdv A outer f s H vs Q E hr h
theorem met {m q : Str} {C : Addr} {st : Stmt} {N ps : List Str} {k : Nat} {sp : Sp} (d : MethP K C m q st ps) (c : Cls K C) (S : FnScope N ps (C8.fnScope st)) (len : ∀ vs H Q E, sp vs H Q E → vs.length = ps.length)
    (hbody : ∀ (cdv : Value) (A : Around) (outer : List Env) (f : Addr) (s : Shared) (H : Hp) (vs : List V) (Q : VK) (E : XK), Room k (A.deeper (envOfC q (C8.fnScope st) s.heap.objs.size f cdv)) → sp vs H Q E →
      ∃ t, PSs (cxOf C8.CX0 P w K mg base N q (C8.fnScope st) f cdv A outer s H E).nox (C8.fnBody st) t ∧ t { nx := fun _ H' => Q .non H', rt := Q } (start N vs) H) : Met P w K mg base (k + 1) C m sp [] := by
  obtain ⟨f, fd, M, F, b⟩ := d
  exact met0 c M F b S len fun cdv A outer s H vs Q E hr h => hbody cdv A outer f s H vs Q E hr h
theorem mak {x q : Str} {C : Addr} {st : Stmt} {N ps : List Str} {k : Nat} {sp : Sp} (d : IniP K C q st ps) (hm : mg x = some (.ref C)) (S : FnScope N ps (C8.fnScope st)) (len : ∀ vs H Q E, sp vs H Q E → vs.length = ps.length)
    (hbody : ∀ (cdv : Value) (A : Around) (outer : List Env) (f : Addr) (s : Shared) (H : Hp) (vs : List V) (Q : VK) (E : XK), Room k (A.deeper (envOfC q (C8.fnScope st) s.heap.objs.size f cdv)) → sp vs H Q E →
      ∃ t, PSs (cxOf C8.CX0 P w K mg base N q (C8.fnScope st) f cdv A outer s H E).nox (C8.fnBody st) t ∧ t { nx := fun _ H' => Q .non H', rt := Q } (start N vs) H) : Mak P w K mg base (k + 1) x C sp [] := by
  obtain ⟨f, fd, M, F, b⟩ := d
  exact mak0 M hm F b .nil S len fun cdv A outer s H vs Q E hr h => hbody cdv A outer f s H vs Q E hr h
/-- the promise of a property's getter -/
def Prp (P : Program) (w : World) (K : PySem.W.Frag) (mg : Str → Option Value) (base : Heap) (k : Nat) (C : Addr) (m : Str) (sp : Sp) : Prop :=
  ∃ (p g : Addr) (fd : FuncData), Cls K C ∧ PropOf K C m p g ∧ FnOk P w K mg base C8.CX0 k g fd ["self"] sp ∧ L2.Binds K fd ["self"] []
theorem prp {m q : Str} {C : Addr} {st : Stmt} {N : List Str} {k : Nat} {sp : Sp} (d : PropP K C m q st) (c : Cls K C) (S : FnScope N ["self"] (C8.fnScope st)) (len : ∀ vs H Q E, sp vs H Q E → vs.length = 1)
    (hbody : ∀ (cdv : Value) (A : Around) (outer : List Env) (f : Addr) (s : Shared) (H : Hp) (vs : List V) (Q : VK) (E : XK), Room k (A.deeper (envOfC q (C8.fnScope st) s.heap.objs.size f cdv)) → sp vs H Q E →
      ∃ t, PSs (cxOf C8.CX0 P w K mg base N q (C8.fnScope st) f cdv A outer s H E).nox (C8.fnBody st) t ∧ t { nx := fun _ H' => Q .non H', rt := Q } (start N vs) H) : Prp P w K mg base (k + 1) C m sp := by
  obtain ⟨p, g, fd, M, F, b⟩ := d
  exact ⟨p, g, fd, c, M, C8.fn0 F S len fun cdv A outer s H vs Q E hr h => hbody cdv A outer g s H vs Q E hr h, b⟩
end
theorem pe_pr {X : Cx} {k j : Nat} {C : Addr} {m : Str} {sp : Sp} {e : Expr} {pos : Pos} {ta : TE} (c : Prp X.prog X.w X.K X.mg X.base k C m sp) (hr : Room j X.A) (hk : k + 1 ≤ j) (he : PE X e ta)
    (hab : attributeBase e m X.env (eval e X.env) = eval e X.env := by rfl) : PE X (.Attribute e m pos) (tProp C sp [] C8.E0 ta) := by
  obtain ⟨p, g, fd, cl, hp, F, b⟩ := c
  exact pe_prop he cl hp F (hr.mono hk) b .nil (C8.pass0 (E := C8.E0)) hab
theorem pe_c0 {X : Cx} {k j : Nat} {x : Str} {sp : Sp} {dvs : List V} {p pos : Pos} (c : Cal X.prog X.w X.K X.mg X.base k x sp dvs) (hr : Room j X.A) (hk : k ≤ j) (hg : Gl X x) (hdb : (x == ("__debug__" : Str)) = false := by decide) :
    PE X (.Call (.Name x p) [] [] pos) (tCall sp dvs C8.E0 tNil) := by
  obtain ⟨f, fd, ps, ds, F, hm, kp, b, d⟩ := c.ex
  exact pe_call0 F (hr.mono hk) hg hm kp b d C8.pass0 hdb
theorem pe_mk0 {X : Cx} {k j : Nat} {C : Addr} {x : Str} {sp : Sp} {dvs : List V} {p pos : Pos} (c : Mak X.prog X.w X.K X.mg X.base k x C sp dvs) (hr : Room j X.A) (hk : k + 1 ≤ j) (hg : Gl X x) (hdb : (x == ("__debug__" : Str)) = false := by decide) :
    PE X (.Call (.Name x p) [] [] pos) (tMake C sp dvs C8.E0 tNil) := by
  obtain ⟨f, fd, ps, ds, M, F, hm, b, d⟩ := c.ex
  exact pe_make0 M F (hr.mono hk) hg hm b d C8.pass0 hdb
theorem u1 {k : Nat} {A : Around} (hr : Room k A) : A.units + 1 < cLine := by
  have := hr.units
  omega

section
variable {K : PySem.W.Frag} {h : Heap} {mg : Str → Option Value}
theorem d0_mk {x : Str} {st : Stmt} {ps : List Str} {f : Addr} {oc : Value} {od an : Option Addr} {osl : Array (Option Value)} {kV doc pm cdv ct : Value} (X : K.In h) (G : h.Ns mainGlobals mg) (a : PySem.W.nsIn K mainGlobals x = some (some (.ref f)))
    (l : K.lookup f = some ⟨oc, od, .func (PySem.W.fnOf x x (C8.fnArgs st) (C8.fnBody st) (C8.fnScope st) .none kV doc pm an cdv ct), osl⟩) (c : PySem.W.codeIn K cdv x = true) (k : PySem.W.keepIn K (.ref f) = true)
    (hb : ∀ (kV doc pm : Value) (an : Option Addr) (cdv ct : Value) (us : List Value), us.length = ps.length → bindArgs (PySem.W.fnOf x x (C8.fnArgs st) (C8.fnBody st) (C8.fnScope st) .none kV doc pm an cdv ct) ⟨us, []⟩ = pure (ps.zip us)) : D0 K mg x st ps :=
  have F : C8.Fun K x x st f _ := ⟨⟨oc, od, _, kV, doc, pm, an, cdv, ct, osl, rfl, l, c⟩⟩
  ⟨f, _, ⟨F, PySem.W.mg_of X G a, k⟩, F.binds rfl hb⟩
theorem meth_mk {C f : Addr} {m q : Str} {st : Stmt} {ps : List Str} {oc : Value} {od an : Option Addr} {osl : Array (Option Value)} {kV doc pm cdv ct : Value} (a : PySem.W.findIn K (.ref C) m = some (some (.ref f))) (i : PySem.W.isFn K (.ref f) = true)
    (l : K.lookup f = some ⟨oc, od, .func (PySem.W.fnOf m q (C8.fnArgs st) (C8.fnBody st) (C8.fnScope st) .none kV doc pm an cdv ct), osl⟩) (c : PySem.W.codeIn K cdv q = true) (k : PySem.W.keepIn K (.ref f) = true)
    (hb : ∀ (kV doc pm : Value) (an : Option Addr) (cdv ct : Value) (us : List Value), us.length = ps.length → bindArgs (PySem.W.fnOf m q (C8.fnArgs st) (C8.fnBody st) (C8.fnScope st) .none kV doc pm an cdv ct) ⟨us, []⟩ = pure (ps.zip us)) : MethP K C m q st ps :=
  have F : C8.Fun K m q st f _ := ⟨⟨oc, od, _, kV, doc, pm, an, cdv, ct, osl, rfl, l, c⟩⟩
  ⟨f, _, ⟨a, i, k⟩, F, F.binds rfl hb⟩
theorem ini_mk {C f : Addr} {q : Str} {st : Stmt} {ps : List Str} {oc : Value} {od an : Option Addr} {osl : Array (Option Value)} {kV doc pm cdv ct : Value} (m : PySem.W.makesIn K C = true) (a : PySem.W.findIn K (.ref C) "__init__" = some (some (.ref f))) (i : PySem.W.isFn K (.ref f) = true) (kc : PySem.W.keepIn K (.ref C) = true)
    (l : K.lookup f = some ⟨oc, od, .func (PySem.W.fnOf "__init__" q (C8.fnArgs st) (C8.fnBody st) (C8.fnScope st) .none kV doc pm an cdv ct), osl⟩) (c : PySem.W.codeIn K cdv q = true)
    (hb : ∀ (kV doc pm : Value) (an : Option Addr) (cdv ct : Value) (us : List Value), us.length = ps.length → bindArgs (PySem.W.fnOf "__init__" q (C8.fnArgs st) (C8.fnBody st) (C8.fnScope st) .none kV doc pm an cdv ct) ⟨us, []⟩ = pure (ps.zip us)) : IniP K C q st ps :=
  have F : C8.Fun K "__init__" q st f _ := ⟨⟨oc, od, _, kV, doc, pm, an, cdv, ct, osl, rfl, l, c⟩⟩
  ⟨f, _, ⟨m, a, i, kc⟩, F, F.binds rfl hb⟩
theorem con_mk {C : Addr} {x : Str} {n : Int} {tk : Tok} (a : PySem.W.findIn K (.ref C) x = some (some (.int n tk))) (g : PySem.W.specialIn K (.int n tk) "__get__" = some none) (cp : PySem.W.copiedNames.contains x = false) : ConP K C x n :=
  ⟨.int n tk, a, ⟨_, rfl⟩, g, cp⟩
theorem inid2_mk {C f D : Addr} {q x1 x2 : Str} {n1 n2 : Int} {st : Stmt} {oc : Value} {od an : Option Addr} {osl : Array (Option Value)} {doc pm cdv ct : Value} {t1 t2 : Tok} (m : PySem.W.makesIn K C = true) (a : PySem.W.findIn K (.ref C) "__init__" = some (some (.ref f))) (i : PySem.W.isFn K (.ref f) = true) (kc : PySem.W.keepIn K (.ref C) = true)
    (l : K.lookup f = some ⟨oc, od, .func (PySem.W.fnOf "__init__" q (C8.fnArgs st) (C8.fnBody st) (C8.fnScope st) .none (.ref D) doc pm an cdv ct), osl⟩) (c : PySem.W.codeIn K cdv q = true) (k : PySem.W.keepIn K (.ref f) = true)
    (g1 : PySem.W.nsIn K D x1 = some (some (.int n1 t1))) (g2 : PySem.W.nsIn K D x2 = some (some (.int n2 t2))) : IniD K C q st [(x1, .int n1), (x2, .int n2)] :=
  ⟨f, _, ⟨m, a, i, kc⟩, ⟨oc, od, _, _, doc, pm, an, cdv, ct, osl, rfl, l, c, .inl ⟨rfl, rfl⟩, .inr ⟨D, rfl, fun q hq => by
    cases hq with
    | head => exact ⟨_, g1, _, rfl⟩
    | tail _ hq => cases hq with
      | head => exact ⟨_, g2, _, rfl⟩
      | tail _ hq => cases hq⟩⟩, k⟩
theorem inidN_mk {C f D : Addr} {q x1 : Str} {st : Stmt} {oc : Value} {od an : Option Addr} {osl : Array (Option Value)} {doc pm cdv ct : Value} (m : PySem.W.makesIn K C = true) (a : PySem.W.findIn K (.ref C) "__init__" = some (some (.ref f))) (i : PySem.W.isFn K (.ref f) = true) (kc : PySem.W.keepIn K (.ref C) = true)
    (l : K.lookup f = some ⟨oc, od, .func (PySem.W.fnOf "__init__" q (C8.fnArgs st) (C8.fnBody st) (C8.fnScope st) .none (.ref D) doc pm an cdv ct), osl⟩) (c : PySem.W.codeIn K cdv q = true) (k : PySem.W.keepIn K (.ref f) = true)
    (g1 : PySem.W.nsIn K D x1 = some (some .none)) : IniD K C q st [(x1, .non)] :=
  ⟨f, _, ⟨m, a, i, kc⟩, ⟨oc, od, _, _, doc, pm, an, cdv, ct, osl, rfl, l, c, .inl ⟨rfl, rfl⟩, .inr ⟨D, rfl, fun q hq => by
    cases hq with
    | head => exact ⟨_, g1, rfl⟩
    | tail _ hq => cases hq⟩⟩, k⟩
theorem prop_mk {C p g : Addr} {m q : Str} {st : Stmt} {rest : List Value} {oc : Value} {od an : Option Addr} {osl : Array (Option Value)} {kV doc pm cdv ct : Value} (a : PySem.W.findIn K (.ref C) m = some (some (.ref p))) (gt : PySem.W.specialIn K (.ref p) "__get__" = some (some (.builtin "property.__get__"))) (tk : PySem.W.takesIn K (.ref p) = some true)
    (r : PySem.W.recIn K p "property" = some (.ref g :: rest))
    (l : K.lookup g = some ⟨oc, od, .func (PySem.W.fnOf m q (C8.fnArgs st) (C8.fnBody st) (C8.fnScope st) .none kV doc pm an cdv ct), osl⟩) (c : PySem.W.codeIn K cdv q = true)
    (hb : ∀ (kV doc pm : Value) (an : Option Addr) (cdv ct : Value) (us : List Value), us.length = ["self"].length → bindArgs (PySem.W.fnOf m q (C8.fnArgs st) (C8.fnBody st) (C8.fnScope st) .none kV doc pm an cdv ct) ⟨us, []⟩ = pure ((["self"] : List Str).zip us)) : PropP K C m q st :=
  have F : C8.Fun K m q st g _ := ⟨⟨oc, od, _, kV, doc, pm, an, cdv, ct, osl, rfl, l, c⟩⟩
  ⟨p, g, _, ⟨a, gt, tk, rest, r⟩, F, F.binds (ps := ["self"]) rfl hb⟩
theorem cls_mk {C : Addr} (pg : PySem.W.plainGet K C Str.empty = true) (hd : PySem.W.hasDictIn K C = true) (po : PySem.W.plainOver K C = true) (sa : PySem.W.findIn K (.ref C) "__setattr__" = some (some (.builtin "object.__setattr__"))) : Cls K C := ⟨pg, hd, po, sa⟩
theorem bl_mk (X : K.In h) (G : h.Ns mainGlobals mg) (z0 : PySem.W.nsIn K mainGlobals "int" = some none) (z1 : PySem.W.nsIn K mainGlobals "bool" = some none) (z2 : PySem.W.nsIn K mainGlobals "list" = some none) (z3 : PySem.W.nsIn K mainGlobals "len" = some none)
    (z4 : PySem.W.nsIn K mainGlobals "tuple" = some none) (z5 : PySem.W.nsIn K mainGlobals "str" = some none) (z6 : PySem.W.nsIn K mainGlobals "sum" = some none) (z7 : PySem.W.nsIn K mainGlobals "abs" = some none) (z8 : PySem.W.nsIn K mainGlobals "max" = some none) (z9 : PySem.W.nsIn K mainGlobals "min" = some none)
    (z10 : PySem.W.nsIn K mainGlobals "range" = some none) (z11 : PySem.W.nsIn K mainGlobals "isinstance" = some none) (z12 : PySem.W.nsIn K mainGlobals "sorted" = some none) (z13 : PySem.W.nsIn K mainGlobals "reversed" = some none) (z14 : PySem.W.nsIn K mainGlobals "enumerate" = some none) (z15 : PySem.W.nsIn K mainGlobals "zip" = some none)
    (z16 : PySem.W.nsIn K mainGlobals "all" = some none) (z17 : PySem.W.nsIn K mainGlobals "any" = some none) (z18 : PySem.W.nsIn K mainGlobals "dict" = some none) (z19 : PySem.W.nsIn K mainGlobals "set" = some none) (z20 : PySem.W.nsIn K mainGlobals "ord" = some none) : Bl mg :=
  ⟨PySem.W.mg_none_of X G z0, PySem.W.mg_none_of X G z1, PySem.W.mg_none_of X G z2, PySem.W.mg_none_of X G z3, PySem.W.mg_none_of X G z4, PySem.W.mg_none_of X G z5, PySem.W.mg_none_of X G z6, PySem.W.mg_none_of X G z7, PySem.W.mg_none_of X G z8, PySem.W.mg_none_of X G z9, PySem.W.mg_none_of X G z10,
    PySem.W.mg_none_of X G z11, PySem.W.mg_none_of X G z12, PySem.W.mg_none_of X G z13, PySem.W.mg_none_of X G z14, PySem.W.mg_none_of X G z15, PySem.W.mg_none_of X G z16, PySem.W.mg_none_of X G z17, PySem.W.mg_none_of X G z18, PySem.W.mg_none_of X G z19, PySem.W.mg_none_of X G z20⟩
/-- a tuple of texts of the module -/
def TupP (K : PySem.W.Frag) (mg : Str → Option Value) (x : Str) (l : List V) : Prop := ∃ a : Addr, mg x = some (.ref a) ∧ ∀ H, SqT K H a l
theorem tup2s_mk {x : Str} {a : Addr} {s1 s2 : Str} {t1 t2 : Tok} {n : Nat} {od : Option Addr} {osl : Array (Option Value)} (X : K.In h) (G : h.Ns mainGlobals mg) (e : PySem.W.nsIn K mainGlobals x = some (some (.ref a))) (l : K.lookup a = some ⟨.type "tuple", od, .seq #[.str s1 t1, .str s2 t2] n, osl⟩) : TupP K mg x [.str s1, .str s2] :=
  ⟨a, PySem.W.mg_of X G e, fun _ => .inr ⟨_, _, _, l, rfl, rfl, by show 2 ≤ sizeLine; decide, .cons ⟨_, rfl⟩ (.cons ⟨_, rfl⟩ .nil)⟩⟩
/-- a def of the text whose code makes a lambda: its code object at c -/
structure D1 (K : PySem.W.Frag) (mg : Str → Option Value) (x : Str) (st : Stmt) (c : Addr) : Prop where
  ex : ∃ (f : Addr) (oc : Value) (od : Option Addr) (kV doc pm : Value) (an : Option Addr) (ct : Value) (osl : Array (Option Value)),
    K.lookup f = some ⟨oc, od, .func (PySem.W.fnOf x x (C8.fnArgs st) (C8.fnBody st) (C8.fnScope st) .none kV doc pm an (.ref c) ct), osl⟩ ∧ PySem.W.codeIn K (.ref c) x = true ∧ mg x = some (.ref f) ∧ PySem.W.keepIn K (.ref f) = true
theorem d1_mk {x : Str} {st : Stmt} {f c : Addr} {oc : Value} {od an : Option Addr} {osl : Array (Option Value)} {kV doc pm ct : Value} (X : K.In h) (G : h.Ns mainGlobals mg) (a : PySem.W.nsIn K mainGlobals x = some (some (.ref f)))
    (l : K.lookup f = some ⟨oc, od, .func (PySem.W.fnOf x x (C8.fnArgs st) (C8.fnBody st) (C8.fnScope st) .none kV doc pm an (.ref c) ct), osl⟩) (cd : PySem.W.codeIn K (.ref c) x = true) (k : PySem.W.keepIn K (.ref f) = true) : D1 K mg x st c :=
  ⟨f, oc, od, kV, doc, pm, an, ct, osl, l, cd, PySem.W.mg_of X G a, k⟩
/-- the law's own def -/
def LawP (K : PySem.W.Frag) (mg : Str → Option Value) (st : Stmt) (fa : Addr) : Prop := ∃ fd, C8.Fun K "law" "law" st fa fd ∧ ∀ (s : Shared) (u : Value), BindsTo s fd ⟨[u], []⟩ [("script", u)]
theorem law_mk {st : Stmt} {fa fL : Addr} {oc : Value} {od an : Option Addr} {osl : Array (Option Value)} {kV doc pm cdv ct : Value} (X : K.In h) (G : h.Ns mainGlobals mg) (hfa : mg "law" = some (.ref fa)) (aL : PySem.W.nsIn K mainGlobals "law" = some (some (.ref fL)))
    (lL : K.lookup fL = some ⟨oc, od, .func (PySem.W.fnOf "law" "law" (C8.fnArgs st) (C8.fnBody st) (C8.fnScope st) .none kV doc pm an cdv ct), osl⟩) (cL : PySem.W.codeIn K cdv "law" = true)
    (hb : ∀ (kV doc pm : Value) (an : Option Addr) (cdv ct u : Value), bindArgs (PySem.W.fnOf "law" "law" (C8.fnArgs st) (C8.fnBody st) (C8.fnScope st) .none kV doc pm an cdv ct) ⟨[u], []⟩ = pure [(("script" : Str), u)]) : LawP K mg st fa := by
  have e := hfa.symm.trans (PySem.W.mg_of X G aL)
  cases e
  exact ⟨_, ⟨⟨oc, od, _, kV, doc, pm, an, cdv, ct, osl, rfl, lL, cL⟩⟩, fun s u => .of_eq (hb _ _ _ _ _ _ u)⟩
/-- the promise of a law: whatever the script, True -/
def spLaw (K : PySem.W.Frag) : Sp := fun vs H Q _ => ∃ (a : Addr) (ns : List Int), vs = [.ref a] ∧ SqL K H a (ns.map V.int) ∧ ns.length ≤ 63 ∧ ∀ H' : Hp, Q (.bl true) H'
/-- .. of a law whose text makes a lambda, its table at t -/
def spLawT (K : PySem.W.Frag) (t : Addr) : Sp := fun vs H Q _ => ∃ (a : Addr) (ns : List Int), vs = [.ref a] ∧ SqL K H a (ns.map V.int) ∧ ns.length ≤ 63 ∧ H t = some (.tbl #[]) ∧ ∀ H' : Hp, Q (.bl true) H'
end
theorem walkN {l : PySem.W.OpenLaw} {k : Nat} {q : Program} {loose : List Str} {XP : (Str → Option Value) → Heap → Prop} {YP : World → Heap → Prop} {d : DefRec} {K : Params → PySem.W.Frag} (hk : Room k callerA) (hn : l.most = some 63) (hdf : d.params.defaults = [])
    (hY : ∀ (w : World) (h : Heap), YP w h → (K w.params).In h)
    (F : ∀ (w : World) (mg : Str → Option Value) (fa : Addr) (h : Heap), (K w.params).In h → h.Ns mainGlobals mg → mg d.name = some (.ref fa) →
      ∃ fd : FuncData, (∀ (s : Shared) (u : Value), BindsTo s fd ⟨[u], []⟩ [("script", u)]) ∧ ∀ base : Heap, (K w.params).In base → base.Ns mainGlobals mg → FnOk l.prog w (K w.params) mg base C8.CX0 k fa fd ["script"] (spLaw (K w.params))) :
    PySem.W.WalkO q loose XP YP l.row.toRowW d [] (fun f vs => PySem.call f vs) :=
  L2.walk_of (n := 63) (k := k) (x := "script") (CX := fun _ => C8.CX0) (sp := fun w => spLaw (K w.params)) hn (by decide) hdf hk hY F (fun _ _ a ns hl _ hS => ⟨a, ns, rfl, hS, hl, fun _ => rfl⟩) fun _ _ _ _ _ z => z
/-- the end of a law with one table -/
theorem lawT {l : PySem.W.OpenLaw} {w : World} {K : PySem.W.Frag} {h : Heap} {mg : Str → Option Value} {fa c t : Addr} {st : Stmt} {k : Nat} (X : K.In h) (hT : h.get? t = some { cls := .none, data := .fields #[] }) (nT : K.lookup t = none) (hC : PySem.W.codeHdIn K c t = true) (L : LawP K mg st fa)
    (F : ∀ fd, C8.Fun K "law" "law" st fa fd → ∀ base : Heap, K.In base → base.Ns mainGlobals mg → TabB base mg c t → FnOk l.prog w K mg base C8.CX0 k fa fd ["script"] (spLawT K t)) : LamX.LawAtS l w K C8.CX0 k 63 "script" mg fa h := by
  obtain ⟨fd, FL, bt⟩ := L
  refine ⟨fd, [(c, t)], spLawT K t, ?_, ?_, ?_, bt, ?_, fun base h1 h2 hTB => F fd FL base h1 h2 (hTB (c, t) (.head _))⟩
  · intro p hp
    cases hp with
    | head => exact hT
    | tail _ hp => cases hp
  · intro p hp
    cases hp with
    | head => exact nT
    | tail _ hp => cases hp
  · intro p hp
    cases hp with
    | head => exact PySem.W.codeHd_of_K X hC
    | tail _ hp => cases hp
  · exact fun H a ns hl _ hH hS => ⟨a, ns, rfl, hS, hl, hH (c, t) (.head _), fun _ => rfl⟩
end UF

set_option Elab.async false
set_option maxRecDepth 100000
set_option maxHeartbeats 4000000
/-! seats of a ring, walks around it: mathematics -/
namespace UF
open PySem PySem.Spec PyProof.Rows L2

/-- the seats met on a walk of n steps that begins at s -/
def walkL (r s : Int) (n : Nat) (ns : List Int) : List Int := ((List.range n).map fun k => (s + ((k : Nat) : Int)) % r).filter fun x => decide (x ∈ ns)
theorem walkL_succ (r s : Int) (n : Nat) (ns : List Int) : walkL r s (n + 1) ns = if (s + (n : Int)) % r ∈ ns then walkL r s n ns ++ [(s + (n : Int)) % r] else walkL r s n ns := by
  unfold walkL
  rw [List.range_succ, List.map_append, List.filter_append]
  by_cases h : (s + (n : Int)) % r ∈ ns
  · rw [if_pos h]
    simp [h]
  · rw [if_neg h]
    simp [h]
/-- two rising lists with the same members are one -/
theorem rising_ext : ∀ {xs ys : List Int}, xs.Pairwise (· < ·) → ys.Pairwise (· < ·) → (∀ z, z ∈ xs ↔ z ∈ ys) → xs = ys
  | [], [], _, _, _ => rfl
  | [], y :: ys, _, _, h => absurd ((h y).mpr (.head _)) (by simp)
  | x :: xs, [], _, _, h => absurd ((h x).mp (.head _)) (by simp)
  | x :: xs, y :: ys, hx, hy, h => by
    have hx' := List.pairwise_cons.mp hx
    have hy' := List.pairwise_cons.mp hy
    have e : x = y := by
      have h1 := (h x).mp (.head _)
      have h2 := (h y).mpr (.head _)
      rcases List.mem_cons.mp h1 with e | m1
      · exact e
      · rcases List.mem_cons.mp h2 with e | m2
        · exact e.symm
        · have := hx'.1 y m2
          have := hy'.1 x m1
          omega
    subst e
    refine congrArg (List.cons x) (rising_ext hx'.2 hy'.2 fun z => ?_)
    constructor
    · intro m
      have l := hx'.1 z m
      rcases List.mem_cons.mp ((h z).mp (.tail _ m)) with e | m2
      · omega
      · exact m2
    · intro m
      have l := hy'.1 z m
      rcases List.mem_cons.mp ((h z).mpr (.tail _ m)) with e | m2
      · omega
      · exact m2
theorem emod_lt' {r : Int} (h : 0 < r) (a : Int) : a % r < r := Int.emod_lt_of_pos _ h
theorem emod_nn {r : Int} (h : 0 < r) (a : Int) : 0 ≤ a % r := Int.emod_nonneg _ (by omega)
/-- a seat is met again at its distance -/
theorem back {r s x : Int} (h0 : 0 ≤ x) (h1 : x < r) : (s + (x - s) % r) % r = x := by
  rw [Int.add_emod, Int.emod_emod, ← Int.add_emod, show s + (x - s) = x by omega]
  exact Int.emod_eq_of_lt h0 h1
theorem forth {r s k : Int} (h0 : 0 ≤ k) (h1 : k < r) : ((s + k) % r - s) % r = k := by
  rw [Int.sub_emod, Int.emod_emod, ← Int.sub_emod, show s + k - s = k by omega]
  exact Int.emod_eq_of_lt h0 h1
/-- the sorted distances up to span, as the walk tells them -/
theorem steps_walk {r s : Int} {ns st : List Int} {n : Nat} (hr : 0 < r) (hn : (n : Int) ≤ r) (h0 : ∀ x ∈ ns, 0 ≤ x) (h1 : ∀ x ∈ ns, x < r) (nd : ns.Nodup) (pm : st.Perm (ns.map fun x => (x - s) % r)) (so : st.Pairwise (· ≤ ·)) :
    (st.filter fun k => decide (k < (n : Int))).map (fun k => (s + k) % r) = walkL r s n ns := by
  have mem : ∀ k, k ∈ st ↔ ∃ x ∈ ns, (x - s) % r = k := fun k => by
    rw [pm.mem_iff, List.mem_map]
  have inj : (ns.map fun x => (x - s) % r).Nodup := by
    unfold List.Nodup
    rw [List.pairwise_map]
    refine List.Pairwise.imp_of_mem (fun {a b} ha hb hab e => hab ?_) nd
    rw [← back (s := s) (h0 a ha) (h1 a ha), ← back (s := s) (h0 b hb) (h1 b hb), e]
  have up : st.Pairwise (· < ·) := by
    have z := so.and (pm.nodup_iff.mpr inj)
    exact z.imp fun {a b} h => by
      have h1 := h.1
      have h2 := h.2
      omega
  have e : (st.filter fun k => decide (k < (n : Int))) = ((List.range n).filter fun k => decide ((s + ((k : Nat) : Int)) % r ∈ ns)).map fun k => ((k : Nat) : Int) := by
    refine rising_ext (up.filter _) (List.Pairwise.map _ (fun a b h => by omega) (List.pairwise_lt_range.filter _)) fun z => ?_
    rw [List.mem_filter, mem, List.mem_map]
    constructor
    · rintro ⟨⟨x, hx, rfl⟩, hz⟩
      have hz := of_decide_eq_true hz
      have p0 := emod_nn hr (x - s)
      refine ⟨((x - s) % r).toNat, List.mem_filter.mpr ⟨List.mem_range.mpr (by omega), decide_eq_true ?_⟩, by omega⟩
      rw [Int.toNat_of_nonneg p0, back (h0 x hx) (h1 x hx)]
      exact hx
    · rintro ⟨k, hk, rfl⟩
      obtain ⟨k1, k2⟩ := List.mem_filter.mp hk
      have k1 := List.mem_range.mp k1
      refine ⟨⟨_, of_decide_eq_true k2, forth (by omega) (by omega)⟩, decide_eq_true (by omega)⟩
  rw [e, List.map_map]
  unfold walkL
  rw [List.filter_map]
  rfl
theorem walkL_nil (r s : Int) (n : Nat) : walkL r s n [] = [] := by
  unfold walkL
  rw [List.filter_eq_nil_iff]
  intro a _
  simp
/-- the first seat of the walk is the one of the least distance -/
theorem walk_first {r s m : Int} {ns : List Int} (hr : 0 < r) (h0 : ∀ x ∈ ns, 0 ≤ x) (h1 : ∀ x ∈ ns, x < r) (hm : m ∈ ns) (best : ∀ x ∈ ns, (m - s) % r ≤ (x - s) % r) : ∃ rest, walkL r s r.toNat ns = m :: rest := by
  have p0 := emod_nn hr (m - s)
  have p1 := emod_lt' hr (m - s)
  obtain ⟨t, ht⟩ : ∃ t, r.toNat = ((m - s) % r).toNat + (t + 1) := ⟨r.toNat - ((m - s) % r).toNat - 1, by omega⟩
  have bk := back (s := s) (h0 m hm) (h1 m hm)
  unfold walkL
  rw [ht, List.range_add, List.map_append, List.filter_append]
  have e1 : ((List.range ((m - s) % r).toNat).map fun k => (s + ((k : Nat) : Int)) % r).filter (fun x => decide (x ∈ ns)) = [] := by
    rw [List.filter_eq_nil_iff]
    intro x hx hd
    obtain ⟨k, hk, rfl⟩ := List.mem_map.mp hx
    have hk := List.mem_range.mp hk
    have b := best _ (of_decide_eq_true hd)
    rw [forth (by omega) (by omega)] at b
    omega
  rw [e1, List.nil_append, List.range_succ_eq_map, List.map_cons, List.map_cons, List.filter_cons]
  have e2 : (s + (((((m - s) % r).toNat + 0 : Nat)) : Int)) % r = m := by
    rw [show ((((m - s) % r).toNat + 0 : Nat) : Int) = (m - s) % r by omega]
    exact bk
  rw [e2, if_pos (decide_eq_true hm)]
  exact ⟨_, rfl⟩
theorem emod_is {a r c q : Int} (e : a = c + r * q) (h0 : 0 ≤ c) (h1 : c < r) : a % r = c := by
  rw [e, Int.add_mul_emod_self_left]
  exact Int.emod_eq_of_lt h0 h1
theorem count_eq {r : Int} (hr : 0 < r) (lo hi : Int) : (if (hi - lo) % r = 0 then r else (hi - lo) % r) = (hi - (lo + 1)) % r + 1 := by
  have e := Int.emod_add_mul_ediv (hi - lo) r
  have p0 := emod_nn hr (hi - lo)
  have p1 := emod_lt' hr (hi - lo)
  generalize (hi - lo) % r = d at e p0 p1
  generalize (hi - lo) / r = q at e
  by_cases h : d = 0
  · rw [if_pos h, emod_is (c := r - 1) (q := q - 1) (r := r) ?_ (by omega) (by omega)]
    · omega
    · rw [Int.mul_sub, Int.mul_one]
      omega
  · rw [if_neg h, emod_is (c := d - 1) (q := q) (r := r) (by omega) (by omega) (by omega)]
    omega
theorem gap_eq {r : Int} (a : Int) : (a - a % r) / r * r = a - a % r := by
  refine Int.ediv_mul_cancel ⟨a / r, ?_⟩
  have e := Int.emod_add_mul_ediv a r
  omega
/-- a list of seats of the ring, each once -/
structure Seats (ns : List Int) (r : Int) : Prop where
  nd : ns.Nodup
  lo : ∀ x ∈ ns, 0 ≤ x
  hi : ∀ x ∈ ns, x < r
theorem seqIx_lt {d : Int} {n : Nat} (h0 : 0 ≤ d) (h1 : d < n) : seqIndex? d n = some d.toNat := by
  refine (ixN_seq (n := n) (i := d) (j := d.toNat) ?_).1
  unfold ixN
  rw [if_pos h0, if_pos h1]
theorem map_erase (f : Int → V) : ∀ (l : List Int) (i : Nat), (l.map f).eraseIdx i = (l.eraseIdx i).map f
  | [], _ => rfl
  | _ :: _, 0 => rfl
  | a :: l, i + 1 => congrArg (List.cons (f a)) (map_erase f l i)
theorem erase_perm : ∀ {l : List Int} {i : Nat} {y : Int}, l[i]? = some y → (y :: l.eraseIdx i).Perm l
  | [], i, y, h => by simp at h
  | a :: l, 0, y, h => by
    cases h
    exact List.Perm.refl _
  | a :: l, i + 1, y, h => by
    have h' : l[i]? = some y := h
    exact (List.Perm.swap a y _).trans ((erase_perm h').cons a)
theorem nodup_move {hs ps : List Int} {i : Nat} {y : Int} (h : (hs ++ ps).Nodup) (e : ps[i]? = some y) : ((hs ++ [y]) ++ ps.eraseIdx i).Nodup := by
  have p1 := erase_perm e
  rw [List.append_assoc]
  exact (List.Perm.append_left hs p1).symm.nodup h
theorem mem_move {hs ps : List Int} {i : Nat} {y x : Int} (e : ps[i]? = some y) (h : x ∈ (hs ++ [y]) ++ ps.eraseIdx i) : x ∈ hs ++ ps := by
  have p1 := erase_perm e
  rw [List.append_assoc] at h
  exact (List.Perm.append_left hs p1).mem_iff.mp h

theorem nodup_len : ∀ (n : Nat) (l : List Nat), l.Nodup → (∀ x ∈ l, x < n) → l.length ≤ n
  | 0, [], _, _ => Nat.le_refl _
  | 0, a :: l, _, h => absurd (h a (.head _)) (Nat.not_lt_zero _)
  | n + 1, l, nd, h => by
    by_cases m : n ∈ l
    · have z := nodup_len n (l.erase n) (nd.erase n) fun x hx => by
        have q := (nd.mem_erase_iff).mp hx
        have := h x q.2
        have := q.1
        omega
      rw [List.length_erase_of_mem m] at z
      omega
    · refine Nat.le_succ_of_le (nodup_len n l nd fun x hx => ?_)
      have := h x hx
      have : x ≠ n := fun e => m (e ▸ hx)
      omega
theorem seats_len {ns : List Int} {r : Int} (h : Seats ns r) (hr : 0 ≤ r) : ns.length ≤ r.toNat := by
  have sub : (ns.map Int.toNat).Nodup := by
    unfold List.Nodup
    rw [List.pairwise_map]
    refine List.Pairwise.imp_of_mem (fun {a b} ha hb hab e => hab ?_) h.nd
    have := h.lo a ha
    have := h.lo b hb
    omega
  have hs : (ns.map Int.toNat).Subset (List.range r.toNat) := by
    intro x hx
    obtain ⟨a, ha, rfl⟩ := List.mem_map.mp hx
    have := h.lo a ha
    have := h.hi a ha
    exact List.mem_range.mpr (by omega)
  have z := nodup_len r.toNat _ sub fun x hx => List.mem_range.mp (hs hx)
  rw [List.length_map] at z
  exact z


def ringN (n : Nat) : Int := ((2 ^ n : Nat) : Int)
theorem ring_pos (n : Nat) : 0 < ringN n := by
  unfold ringN
  have := Nat.two_pow_pos n
  omega
theorem ring_two {n : Nat} (h : 1 ≤ n) : 2 ≤ ringN n := by
  unfold ringN
  have : (2 : Nat) ^ 1 ≤ 2 ^ n := Nat.pow_le_pow_right (by decide) h
  omega
theorem ringN_le {n : Nat} (h : n ≤ 8) : ringN n ≤ 256 := by
  unfold ringN
  have : 2 ^ n ≤ 2 ^ 8 := Nat.pow_le_pow_right (by decide) h
  omega
theorem ringN_succ (i : Nat) : ringN i * 2 = ringN (i + 1) := by
  unfold ringN
  rw [Nat.pow_succ]
  omega
theorem ring_lt {n : Nat} (h : n ≤ 8) : ringN n < 2 ^ 2000 := Int.lt_of_le_of_lt (ringN_le h) (by decide +kernel)
theorem shl_eq (n : Nat) : (1 : Int) * 2 ^ ((n : Int)).toNat = ringN n := by
  unfold ringN
  rw [Int.toNat_natCast, Int.one_mul]
  simp
theorem rg_int (r : Int) : rgV 0 r = ((List.range r.toNat).map fun i => ((i : Nat) : Int)).map V.int := by
  unfold rgV
  rw [List.map_map, show (r - 0).toNat = r.toNat by rw [Int.sub_zero]]
  refine List.map_congr_left fun i _ => ?_
  show V.int (0 + (i : Nat)) = V.int ((i : Nat) : Int)
  rw [Int.zero_add]
end UF

set_option Elab.async false
set_option maxRecDepth 100000
set_option maxHeartbeats 4000000
/-! lists of whole numbers as data; slices; lists by filters -/
namespace UF
open PySem PySem.Spec PyProof.Rows L2
theorem dpList {K : PySem.W.Frag} {H : Hp} {a : Addr} {ns : List Int} (h : SqL K H a (ns.map V.int)) : Dp K H (.ref a) (.list (ns.map PyData.int)) := by
  refine .lst h ?_
  clear h
  induction ns with
  | nil => exact .nil
  | cons n ns ih => exact .cons (.int n) ih
theorem lay_ints : ∀ ns : List Int, PyData.canLayAll0 (ns.map PyData.int) = true
  | [] => by simp [PyData.canLayAll0]
  | n :: ns => by
    rw [List.map_cons, PyData.canLayAll0, lay_ints ns]
    simp [PyData.canLay0]
theorem dep_ints : ∀ ns : List Int, PyData.depthAll (ns.map PyData.int) = 0
  | [] => by simp [PyData.depthAll]
  | n :: ns => by
    rw [List.map_cons, PyData.depthAll, dep_ints ns]
    simp [PyData.depth]
theorem can_list (ns : List Int) : (PyData.list (ns.map PyData.int)).canLay0 = true := by
  rw [PyData.canLay0]
  exact lay_ints ns
theorem shaped_list (ns : List Int) : SeqAt.shaped (.list (ns.map PyData.int)) = true := by
  unfold SeqAt.shaped
  rw [can_list, PyData.depth, dep_ints]
  rfl
theorem eqv_list (ns : List Int) : PyData.eqv (.list (ns.map PyData.int)) (.list (ns.map PyData.int)) = true := SeqAt.eqv_refl _ (can_list ns)
theorem eqvAll_ints : ∀ xs ys : List Int, PyData.eqvAll (xs.map PyData.int) (ys.map PyData.int) = decide (xs = ys)
  | [], [] => by simp [PyData.eqvAll]
  | [], _ :: _ => by simp [PyData.eqvAll]
  | _ :: _, [] => by simp [PyData.eqvAll]
  | x :: xs, y :: ys => by
    rw [List.map_cons, List.map_cons, PyData.eqvAll, eqvAll_ints xs ys, PyData.eqv]
    by_cases h : x = y
    · subst h; simp
    · simp [h]
theorem eqv_ints (xs ys : List Int) : PyData.eqv (.list (xs.map PyData.int)) (.list (ys.map PyData.int)) = decide (xs = ys) := by
  rw [PyData.eqv]
  exact eqvAll_ints xs ys
theorem cut_to {xs : List V} {k : Int} (h : 0 ≤ k) : cutV xs none (some k) = xs.take k.toNat := by
  obtain ⟨j, rfl⟩ := Int.eq_ofNat_of_zero_le h
  unfold cutV
  rw [HT.sIx_nat, HT.sIx_none, List.drop_zero, Int.toNat_natCast, Nat.sub_zero]
  by_cases q : j ≤ xs.length
  · rw [Nat.min_eq_left q]
  · rw [Nat.min_eq_right (by omega), List.take_of_length_le (Nat.le_refl _), List.take_of_length_le (by omega)]
theorem cut_from {xs : List V} {k : Int} (h : 0 ≤ k) : cutV xs (some k) none = xs.drop k.toNat := by
  obtain ⟨j, rfl⟩ := Int.eq_ofNat_of_zero_le h
  unfold cutV
  rw [HT.sIx_nat, HT.sIx_none, Int.toNat_natCast]
  by_cases q : j ≤ xs.length
  · rw [Nat.min_eq_left q]
    exact List.take_of_length_le (by rw [List.length_drop]; exact Nat.le_refl _)
  · rw [Nat.min_eq_right (by omega), List.drop_of_length_le (Nat.le_refl _), List.drop_of_length_le (by omega)]
    exact List.take_nil
theorem take_snoc {α : Type} {xs : List α} {i : Nat} {z : α} (e : xs[i]? = some z) : xs.take (i + 1) = xs.take i ++ [z] := by rw [List.take_add_one, e]; rfl
theorem map_get {α : Type} {f : α → V} {xs : List α} {i : Nat} {v : V} (h : (xs.map f)[i]? = some v) : ∃ z, xs[i]? = some z ∧ v = f z := by
  rw [List.getElem?_map] at h
  cases e : xs[i]? with
  | none => rw [e] at h; cases h
  | some z => rw [e] at h; cases h; exact ⟨z, rfl, rfl⟩
theorem map_getE {xs : List Int} {i : Nat} {v : V} (h : (xs.map V.int)[i]? = some v) : ∃ z, xs[i]? = some z ∧ v = .int z := map_get h
theorem flat_ints : ∀ xs : List Int, (xs.map V.int).all flatV = true
  | [] => rfl
  | _ :: xs => by rw [List.map_cons, List.all_cons, flat_ints xs]; rfl
theorem inV_ints (x : Int) : ∀ xs : List Int, inV (.int x) (xs.map V.int) = decide (x ∈ xs)
  | [] => by simp [inV]
  | y :: xs => by
    have ih := inV_ints x xs
    unfold inV at ih ⊢
    rw [List.map_cons, List.any_cons, ih]
    by_cases h : x = y
    · subst h
      have : eqV (V.int x) (V.int x) = true := by simp [eqV]
      simp [this]
    · have : eqV (V.int y) (V.int x) = false := by simp [eqV]; omega
      simp [this, h]
end UF

set_option Elab.async false
set_option maxRecDepth 100000
set_option maxHeartbeats 4000000
/-! min(held, key=lambda a: .., default=None) over a list of ints, the key an int that changes nothing. -/
namespace MinL
open PySem PySem.Spec PyProof.Rows L2 LamX

section
variable {X : Cx} {pins : List (Addr × Obj)} {σ : L2.St} {H : Hp} {s : Shared}
/-- one more object is pinned -/
theorem pinOne {b : Addr} {o : Obj} (I : Inv X pins σ H s) (F : FpOk X pins H b) (ho : s.heap.get? b = some o) (nc : ∀ v, o.data ≠ .cell v) : Inv X ((b, o) :: pins) σ H s := by
  refine I.pins_of fun p hp => ?_
  cases hp with
  | head => exact ⟨ho, F.1, F.2.1, F.2.2.1, nc⟩
  | tail _ hp => exact I.pin p (List.mem_append_right _ hp)
theorem unpinOne {q : Addr × Obj} (I : Inv X (q :: pins) σ H s) : Inv X pins σ H s := I.pins_of fun p hp => I.pin p (List.mem_append_right _ (.tail _ hp))
theorem pinGet {b : Addr} {o : Obj} (I : Inv X pins σ H s) (h : (b, o) ∈ pins) : s.heap.get? b = some o := (I.pin (b, o) (List.mem_append_right _ h)).1
/-- an object of the rule's own turns -/
theorem turnOne {b : Addr} {h' : Heap} {t' : Nat} (I : Inv X pins σ H s) (F : FpOk X pins H b) (k : ∀ a o, a ≠ b → s.heap.get? a = some o → h'.get? a = some o) : Inv X pins σ H { s with heap := h', toks := t' } :=
  I.turned k F.1 F.2.1 F.2.2.2.1 F.2.2.2.2.1 F.2.2.2.2.2
theorem isl_of {h : Heap} {a : Addr} {its : Array Value} (p : PlainL h a its) : h.IsList a its :=
  let ⟨o, n, e, c, _, d⟩ := p
  ⟨o, e, c, n, d⟩
theorem ints_at {ns : List Int} {its : List Value} {i : Nat} {u : Value} (r : Vals (ns.map V.int) its) (h : its[i]? = some u) : ∃ n t, ns[i]? = some n ∧ u = .int n t := by
  have hl : i < its.length := (List.getElem?_eq_some_iff.mp h).1
  have hn : i < ns.length := by
    have e := r.length
    rw [List.length_map] at e
    omega
  have e1 : (ns.map V.int)[i]? = some (V.int ns[i]) := by
    rw [List.getElem?_map, List.getElem?_eq_getElem hn]
    rfl
  obtain ⟨u', hu, rv⟩ := r.get e1
  rw [h] at hu
  cases hu
  obtain ⟨t, e⟩ := (show ∃ t, u = Value.int ns[i] t from rv)
  exact ⟨_, t, List.getElem?_eq_getElem hn, e⟩

/-- what one call of the key does, whatever else is pinned -/
def KeyTurn (X : Cx) (σ : L2.St) (H : Hp) (q : Addr) (fo : Obj) (ns : List Int) (kf : Int → Int) : Prop :=
  ∀ (n : Int) (t : Tok) (pp : List (Addr × Obj)) (s : Shared), n ∈ ns → (q, fo) ∈ pp → Inv X pp σ H s →
    wpAny (model X.prog X.w) X.A.in1 (call (.ref q) [.int n t]) (fun u s' => (∃ t', u = .int (kf n) t') ∧ Inv X pp σ H s') (fun _ _ => False) s

theorem minLoop {l I S q : Addr} {fo : Obj} {ns : List Int} {kf : Int → Int} {kwd : List (Str × Value)} {R : Result → Shared → Prop} {pp : List (Addr × Obj)} (hh : X.A.handled = none) (hl : H l = some (.lst (ns.map V.int))) (turn : KeyTurn X σ H q fo ns kf)
    (hq : (q, fo) ∈ pp) (FI : FpOk X pp H I) (FS : FpOk X pp H S) (hSI : S ≠ I)
    (done : ∀ (m : Int) (t : Tok) (s' : Shared), m ∈ ns → (∀ n ∈ ns, kf m ≤ kf n) → Inv X pp σ H s' → R (.ok (.ret (.int m t))) s') :
    ∀ (r j : Nat) (m : Int) (s : Shared) (tv tb : Tok) (c : Nat), ns.length - (j + 1) = r → j + 1 ≤ ns.length → m ∈ ns → (∀ (i : Nat) (n : Int), i ≤ j → ns[i]? = some n → kf m ≤ kf n) → Inv X pp σ H s →
      s.heap.get? S = some (seqObj "list" #[.int m tv, .int (kf m) tb] c) → s.heap.IsListIter I l (j + 1) → codeAny (model X.prog X.w) X.A (.builtin "min.loop" ⟨[.ref I, .ref q, .ref S], kwd⟩) R s := by
  have nm : (toString "min" ++ toString ".loop" : String) = "min.loop" := by decide
  have lI : l ≠ I := ne_of_none hl FI.1
  have lS : l ≠ S := ne_of_none hl FS.1
  intro r
  induction r with
  | zero =>
    intro j m s tv tb c hr hj hm best IV hS hit
    obtain ⟨its, rv, pl, hz⟩ := IV.list (SqL.of hl)
    have len : its.length = ns.length := by rw [← rv.length, List.length_map]
    have W := Walks.list (prog := X.prog) (w := X.w) (A := X.A.in1) hh I l lI its.toArray
    refine codeAny_builtin PySem.F.entry_min_loop ?_
    rw [Around.under_plainId PySem.F.plain_min_loop _]
    show wpAny _ X.A.in1 (seqItems? (.ref S) >>= _) _ _ _
    refine wpAny_bind (wpAny_seqItems hS rfl ?_)
    show wpAny _ X.A.in1 (tryCatch (pyNext (.ref I)) _ >>= _) _ _ _
    refine wpAny_bind (wpAny_tryCatch (W.done _ _ _ ⟨by rw [List.size_toArray, len, show ns.length = j + 1 by omega]; exact hit, isl_of pl⟩ fun h1 t1 k1 => ?_))
    have I1 : Inv X pp σ H { s with heap := h1, toks := t1 } := turnOne IV FI fun a o na e => k1 a o (by simpa using na) e
    have hS1 : h1.get? S = some (seqObj "list" #[.int m tv, .int (kf m) tb] c) := k1 S _ (by simpa using hSI) hS
    show wpAny _ X.A.in1 (updateSeq S (fun _ => #[]) >>= _) _ _ _
    refine wpAny_bind (wpAny_updateSeq hS1 rfl (wpAny_bind (wpAny_letGo (wpAny_pure ?_))))
    refine done m tv _ hm (fun n hn => ?_) (turnOne I1 FS fun a o na e => ?_)
    · obtain ⟨i, hi⟩ := List.mem_iff_getElem?.mp hn
      have := (List.getElem?_eq_some_iff.mp hi).1
      exact best i n (by omega) hi
    · exact (Heap.get?_update_ne _ _ _ _ na).trans e
  | succ r ih =>
    intro j m s tv tb c hr hj hm best IV hS hit
    obtain ⟨its, rv, pl, hz⟩ := IV.list (SqL.of hl)
    have len : its.length = ns.length := by rw [← rv.length, List.length_map]
    have W := Walks.list (prog := X.prog) (w := X.w) (A := X.A.in1) hh I l lI its.toArray
    refine codeAny_builtin PySem.F.entry_min_loop ?_
    rw [Around.under_plainId PySem.F.plain_min_loop _]
    show wpAny _ X.A.in1 (seqItems? (.ref S) >>= _) _ _ _
    refine wpAny_bind (wpAny_seqItems hS rfl ?_)
    show wpAny _ X.A.in1 (tryCatch (pyNext (.ref I)) _ >>= _) _ _ _
    refine wpAny_bind (wpAny_tryCatch (W.item (j + 1) _ _ _ (by rw [List.size_toArray, len]; omega) ⟨hit, isl_of pl⟩ fun v h1 t1 hv st1 k1 => ?_))
    obtain ⟨n, tn, hn, rfl⟩ := ints_at rv (by simpa using hv)
    have I1 : Inv X pp σ H { s with heap := h1, toks := t1 } := turnOne IV FI fun a o na e => k1 a o (by simpa using na) e
    have hS1 : h1.get? S = some (seqObj "list" #[.int m tv, .int (kf m) tb] c) := k1 S _ (by simpa using hSI) hS
    obtain ⟨oI, hoI, c1, d1⟩ := id st1.1
    have I2 := pinOne I1 FS hS1 (fun v z => nomatch z)
    have FI2 : FpOk X ((S, seqObj "list" #[.int m tv, .int (kf m) tb] c) :: pp) H I := by
      obtain ⟨f1, f2, f3, f4, f5, f6⟩ := FI
      refine ⟨f1, f2, f3, f4, f5, fun p hp => ?_⟩
      rcases List.mem_append.mp hp with hp | hp
      · exact f6 p (List.mem_append_left _ hp)
      · cases hp with
        | head => exact hSI
        | tail _ hp => exact f6 p (List.mem_append_right _ hp)
    have I3 := pinOne I2 FI2 hoI (fun v z => by rw [d1] at z; cases z)
    show wpAny _ X.A.in1 (tryCatch (holding [.int n tn] (call (.ref q) [.int n tn])) _ >>= _) _ _ _
    refine wpAny_bind (wpAny_tryCatch (wpAny_holding (wpAny_mono (turn n tn _ _ (List.mem_of_getElem? hn) (.tail _ (.tail _ hq)) I3) (fun u s2 he => ?_) fun _ _ hF => hF.elim)))
    obtain ⟨⟨t2, rfl⟩, I4⟩ := he
    have gI := pinGet I4 (.head _)
    have gS := pinGet I4 (.tail _ (.head _))
    have I5 := unpinOne (unpinOne I4)
    have hit2 : s2.heap.IsListIter I l (j + 1 + 1) := ⟨oI, gI, c1, d1⟩
    show wpAny _ X.A.in1 (tryCatch (holding [.int n tn, .int (kf n) t2] (richCompare .Lt (.int (kf n) t2) (.int (kf m) tb) >>= _)) _ >>= _) _ _ _
    refine wpAny_bind (wpAny_tryCatch (wpAny_holding (wpAny_bind (CmpOf.ints_lt (prog := X.prog) (w := X.w) (A := X.A.in1) (P := fun i v => ∃ t, v = .int (if i = 0 then kf n else kf m) t) (fun i => if i = 0 then kf n else kf m) (fun i v h => h) 0 1 _ _ _ _ _ ⟨t2, rfl⟩ ⟨tb, rfl⟩ ?_))))
    refine wpAny_bind (wpAny_holding (wpAny_truthy_bool ?_))
    refine wpAny_bind (wpAny_letGo (wpAny_pure ?_))
    show wpAny _ X.A.in1 (if decide (kf n < kf m) = true then _ else _) _ _ _
    by_cases hb : kf n < kf m
    · rw [if_pos (decide_eq_true hb)]
      have k3 : ∀ a o, a ≠ S → s2.heap.get? a = some o → (s2.heap.update S (Obj.mapSeq fun _ => #[.int n tn, .int (kf n) t2])).get? a = some o := fun a o na e => (Heap.get?_update_ne _ _ _ _ na).trans e
      refine wpAny_bind (wpAny_updateSeq gS rfl (wpAny_bind (wpAny_letGo ?_)))
      rw [nm]
      refine wpAny_pure ⟨plainId_quiet PySem.F.plain_min_loop _, ih (j + 1) n _ tn t2 _ (by omega) (by omega) (List.mem_of_getElem? hn) (fun i n' hi' e => ?_) (turnOne I5 FS k3) (get?_update_seq gS _) ⟨oI, k3 I oI hSI.symm gI, c1, d1⟩⟩
      by_cases q : i = j + 1
      · subst q
        rw [hn] at e
        cases e
        exact Int.le_refl _
      · exact Int.le_of_lt (Int.lt_of_lt_of_le hb (best i n' (by omega) e))
    · rw [if_neg (by simpa using hb)]
      refine wpAny_bind (wpAny_letGo ?_)
      rw [nm]
      refine wpAny_pure ⟨plainId_quiet PySem.F.plain_min_loop _, ih (j + 1) m _ tv tb c (by omega) (by omega) hm (fun i n' hi' e => ?_) I5 gS hit2⟩
      by_cases q : i = j + 1
      · subst q
        rw [hn] at e
        cases e
        omega
      · exact best i n' (by omega) e
end
end MinL

set_option Elab.async false
set_option maxRecDepth 100000
set_option maxHeartbeats 4000000
namespace MinL
open PySem PySem.Spec PyProof.Rows L2 LamX
theorem minArgs (a v : Value) : argsOk "min" ⟨[a], [(Str.ofString "key", v), (Str.ofString "default", .none)]⟩ := by unfold argsOk; kernel_rfl
section
variable {X : Cx} {pins : List (Addr × Obj)} {σ : L2.St} {H : Hp} {s : Shared}
/-- what min hands back -/
def MinOut (X : Cx) (pins : List (Addr × Obj)) (σ : L2.St) (H : Hp) (ns : List Int) (kf : Int → Int) (u : Value) (s' : Shared) : Prop :=
  Inv X pins σ H s' ∧ ((ns = [] ∧ u = .none) ∨ ∃ (m : Int) (t : Tok), u = .int m t ∧ m ∈ ns ∧ ∀ n ∈ ns, kf m ≤ kf n)
theorem minRun {l q : Addr} {fo : Obj} {ns : List Int} {kf : Int → Int} (hh : X.A.handled = none) (I : Inv X pins σ H s) (hl : H l = some (.lst (ns.map V.int))) (turn : KeyTurn X σ H q fo ns kf) (hq : (q, fo) ∈ pins) :
    wpAny (model X.prog X.w) X.A (call (.builtin "min") [.ref l] [(Str.ofString "key", .ref q), (Str.ofString "default", .none)]) (MinOut X pins σ H ns kf) X.xe s := by
  have nm : (toString "min" ++ toString ".loop" : String) = "min.loop" := by decide
  obtain ⟨its, rv, pl, hz⟩ := I.list (SqL.of hl)
  refine kmk_tree PySem.F.kind_min PySem.F.plain_min PySem.F.entry_min (minArgs _ _) ?_
  show wpAny _ X.A.in1 (Builtin.Builtins.bindParams "min" ["key", "default"] 0 ⟨[], [(Str.ofString "key", .ref q), (Str.ofString "default", .none)]⟩ >>= _) _ _ s
  refine wpAny_bind (wpAny_of_eq (show Builtin.Builtins.bindParams "min" ["key", "default"] 0 ⟨[], [(Str.ofString "key", .ref q), (Str.ofString "default", .none)]⟩ = pure [some (.ref q), some .none] from rfl) ?_)
  refine wpAny_bind (wpAny_pure ?_)
  refine wpAny_bind (wpAny_pyIter_list (isl_of pl) ?_)
  refine wpAny_bind (wpAny_newList ?_ (Nat.zero_le _))
  rw [nm]
  refine wpAny_pure ⟨plainId_quiet PySem.F.plain_min_loop _, ?_⟩
  have up : ∀ {b : Addr} {u : Obj}, s.heap.get? b = some u → ((s.heap.push { cls := .type "list_iterator", data := .fields #[.ref l, .int 0 0] }).push (seqObj "list" #[] 0)).get? b = some u := fun e => Heap.get?_push_of_some _ (Heap.get?_push_of_some _ e)
  generalize hS0 : (s.heap.push { cls := .type "list_iterator", data := .fields #[.ref l, .int 0 0] }).objs.size = S
  have zS : S = s.heap.objs.size + 1 := by rw [← hS0]; exact size_push' ..
  have I1 : Inv X pins σ H { s with heap := (s.heap.push { cls := .type "list_iterator", data := .fields #[.ref l, .int 0 0] }).push (seqObj "list" #[] 0) } := by
    have z := I.kept (t' := s.toks) fun b u e => up e
    exact z
  have gI : ((s.heap.push { cls := .type "list_iterator", data := .fields #[.ref l, .int 0 0] }).push (seqObj "list" #[] 0)).get? s.heap.objs.size = some { cls := .type "list_iterator", data := .fields #[.ref l, .int 0 0] } :=
    Heap.get?_push_of_some _ (Heap.get?_push_size _ rfl)
  have gS : ((s.heap.push { cls := .type "list_iterator", data := .fields #[.ref l, .int 0 0] }).push (seqObj "list" #[] 0)).get? S = some (seqObj "list" #[] 0) := by
    rw [← hS0]
    exact Heap.get?_push_size _ rfl
  have FI : FpOk X pins H s.heap.objs.size := I.fpOk (Nat.le_refl _) (I.hok.fresh (Nat.le_refl _))
  have FS : FpOk X pins H S := I.fpOk (by omega) (I.hok.fresh (by omega))
  have hSI : S ≠ s.heap.objs.size := by omega
  generalize s.heap.objs.size = It at gI FI hSI
  generalize (s.heap.push { cls := .type "list_iterator", data := .fields #[.ref l, .int 0 0] }).push (seqObj "list" #[] 0) = h0 at I1 gI gS
  have lI : l ≠ It := ne_of_none hl FI.1
  obtain ⟨its', rv', pl', _⟩ := I1.list (SqL.of hl)
  have len : its'.length = ns.length := by rw [← rv'.length, List.length_map]
  have W := Walks.list (prog := X.prog) (w := X.w) (A := X.A.in1) hh It l lI its'.toArray
  refine codeAny_builtin PySem.F.entry_min_loop ?_
  rw [Around.under_plainId PySem.F.plain_min_loop _]
  show wpAny _ X.A.in1 (seqItems? (.ref S) >>= _) _ _ _
  refine wpAny_bind (wpAny_seqItems gS rfl ?_)
  show wpAny _ X.A.in1 (tryCatch (pyNext (.ref It)) _ >>= _) _ _ _
  cases ns with
  | nil =>
    refine wpAny_bind (wpAny_tryCatch (W.done _ _ _ ⟨by rw [List.size_toArray, len]; exact ⟨_, gI, rfl, rfl⟩, isl_of pl'⟩ fun h1 t1 k1 => ?_))
    have I2 : Inv X pins σ H { s with heap := h1, toks := t1 } := turnOne (s := { s with heap := h0 }) I1 FI fun a o na e => k1 a o (by simpa using na) e
    refine wpAny_bind (wpAny_rule ?_)
    exact wpAny_pure ⟨I2, .inl ⟨rfl, rfl⟩⟩
  | cons n0 ns0 =>
    refine wpAny_bind (wpAny_tryCatch (W.item 0 _ _ _ (by rw [List.size_toArray, len]; exact Nat.succ_pos _) ⟨⟨_, gI, rfl, rfl⟩, isl_of pl'⟩ fun v h1 t1 hv st1 k1 => ?_))
    obtain ⟨n, tn, hn, rfl⟩ := ints_at rv' (by simpa using hv)
    have I2 : Inv X pins σ H { s with heap := h1, toks := t1 } := turnOne (s := { s with heap := h0 }) I1 FI fun a o na e => k1 a o (by simpa using na) e
    have hS1 : h1.get? S = some (seqObj "list" #[] 0) := k1 S _ (by simpa using hSI) gS
    obtain ⟨oI, hoI, c1, d1⟩ := id st1.1
    have I3 := pinOne I2 FS hS1 (fun v z => nomatch z)
    have FI2 : FpOk X ((S, seqObj "list" #[] 0) :: pins) H It := by
      obtain ⟨f1, f2, f3, f4, f5, f6⟩ := FI
      refine ⟨f1, f2, f3, f4, f5, fun p hp => ?_⟩
      rcases List.mem_append.mp hp with hp | hp
      · exact f6 p (List.mem_append_left _ hp)
      · cases hp with
        | head => exact hSI
        | tail _ hp => exact f6 p (List.mem_append_right _ hp)
    have I4 := pinOne I3 FI2 hoI (fun v z => by rw [d1] at z; cases z)
    show wpAny _ X.A.in1 (tryCatch (holding [.int n tn] (call (.ref q) [.int n tn])) _ >>= _) _ _ _
    refine wpAny_bind (wpAny_tryCatch (wpAny_holding (wpAny_mono (turn n tn _ _ (List.mem_of_getElem? hn) (.tail _ (.tail _ hq)) I4) (fun u s2 he => ?_) fun _ _ hF => hF.elim)))
    obtain ⟨⟨t2, rfl⟩, I5⟩ := he
    have gI2 := pinGet I5 (.head _)
    have gS2 := pinGet I5 (.tail _ (.head _))
    have I6 := unpinOne (unpinOne I5)
    have k3 : ∀ a o, a ≠ S → s2.heap.get? a = some o → (s2.heap.update S (Obj.mapSeq fun _ => #[.int n tn, .int (kf n) t2])).get? a = some o := fun a o na e => (Heap.get?_update_ne _ _ _ _ na).trans e
    show wpAny _ X.A.in1 (updateSeq S (fun _ => #[.int n tn, .int (kf n) t2]) >>= _) _ _ _
    refine wpAny_bind (wpAny_updateSeq gS2 rfl ?_)
    rw [nm]
    refine wpAny_pure ⟨plainId_quiet PySem.F.plain_min_loop _, ?_⟩
    refine minLoop hh hl turn hq FI FS hSI (fun m t s' hm hb I' => ⟨I', .inr ⟨m, t, rfl, hm, hb⟩⟩) _ 0 n _ tn t2 _ rfl (Nat.succ_le_succ (Nat.zero_le _)) (List.mem_of_getElem? hn) (fun i n' hi e => ?_) (turnOne I6 FS k3) (get?_update_seq gS2 _) ⟨oI, k3 It oI hSI.symm gI2, c1, d1⟩
    have q : i = 0 := by omega
    subst q
    rw [hn] at e
    cases e
    exact Int.le_refl _
end
end MinL

set_option Elab.async false
set_option maxRecDepth 100000
set_option maxHeartbeats 4000000
namespace MinL
open PySem PySem.Spec PyProof.Rows L2 LamX NdefX
/-- what is wanted of the list that is handed in -/
def MinW (T : List (Addr × Str)) (N : List Str) (js : List Nat) (tb : TE) (σ : L2.St) (Q : VK) : VK := fun x H1 => Tabs T H1 ∧ ∃ (l : Addr) (ns : List Int) (kf : Int → Int), x = .ref l ∧ H1 l = some (.lst (ns.map V.int)) ∧
  ∀ H2, ExtN H1 H2 → Tabs T H2 → (∀ n ∈ ns, tb (startF N [.int n] (js.map (slotAt σ))) H2 (fun v H' => v = .int (kf n) ∧ H' = H2)) ∧ (ns = [] → Q .non H2) ∧ (∀ m, m ∈ ns → (∀ n ∈ ns, kf m ≤ kf n) → Q (.int m) H2)
/-- the reading of min(held, key=lambda a: body, default=None) -/
def tMinLam (T : List (Addr × Str)) (N : List Str) (js : List Nat) (te tb : TE) : TE := fun σ H Q => te σ H (MinW T N js tb σ Q)
/-- the lambda as a function of the layer; its body is an expression -/
abbrev lamF (X : Cx) (params : Arguments) (scope : Scope) (c' : Addr) : NF := ⟨"<lambda>", X.env.qual ++ "<lambda>", params, [], scope, cloFrom X.env.cells scope.names [], c'⟩
section
variable {X : Cx} {pins : List (Addr × Obj)} {σ : L2.St} {H : Hp} {s : Shared}
theorem lamTurn {a : Str} {params : Arguments} {body : Expr} {scope : Scope} {pm : Value} {c' q : Addr} {ctv : Value} {N fr : List Str} {js : List Nat} {k : Nat} {tb : TE} {ns : List Int} {kf : Int → Int} (hr : Room (k + 1) X.A.in1) (S : NScope N [a] fr scope) (cp : Caps X (cloFrom X.env.cells scope.names []) fr js)
    (hbind : ∀ (u : Value), bindArgs (PySem.W.kla_fn "<lambda>" (X.env.qual ++ "<lambda>") params body scope (cloFrom X.env.cells scope.names []) pm (.ref c') ctv) ⟨[u], []⟩ = pure [(a, u)])
    (hc : H c' = some (CodeO c' (X.env.qual ++ "<lambda>")))
    (hbody : ∀ (A : Around) (outer : List Env) (s : Shared) (H : Hp) (f : Addr), Room k (A.deeper (envF (lamF X params scope c') f s.heap.objs.size)) → PE (ncx C8.CX0 X.prog X.w X.K X.mg X.base N (lamF X params scope c') f A outer s H C8.E0) body tb)
    (ht : ∀ n ∈ ns, tb (startF N [.int n] (js.map (slotAt σ))) H (fun v H' => v = .int (kf n) ∧ H' = H)) :
    KeyTurn X σ H q (PySem.W.kla_obj "<lambda>" (X.env.qual ++ "<lambda>") params body scope (cloFrom X.env.cells scope.names []) pm c' ctv) ns kf := by
  intro n t pp s hn hq I
  have ho := pinGet I hq
  obtain ⟨⟨oc, vs, tk, hoc, hdc, hvc⟩, _, _⟩ := I.hok c' _ hc
  have rc : codeAny (model X.prog X.w) X.A.in1 (.call (.ref q) ⟨[.int n t], []⟩) (CR C8.CX0 X.stack X.prog X.w H s (fun v H' => v = .int (kf n) ∧ H' = H) C8.E0) s := by
    refine PySem.W.kla_callFunE hr.depth ho rfl S.co S.gen rfl ⟨c', oc, vs, tk, rfl, hoc, hdc, hvc⟩ ?_
    rw [hbind]
    refine wpAny_pure (wpAny_newFunctionEnv S.nocell (fun y hy => ?_) (fun h1 hns hsb => ⟨I.nolimit.fresh _ hsb, ?_⟩) S.kind)
    · rw [List.mem_singleton.mp hy]
      exact S.par a (List.mem_singleton.mpr rfl)
    · show codeAny _ _ (.expr body (envF (lamF X params scope c') q s.heap.objs.size)) _ _
      have kp : ∀ b o, s.heap.get? b = some o → h1.get? b = some o := fun b o e => hsb.extBut b o (Nat.ne_of_lt (Heap.lt_size e)) (Heap.get?_push_of_some _ e)
      have J : Inv (ncx C8.CX0 X.prog X.w X.K X.mg X.base N (lamF X params scope c') q X.A.in1 X.stack s H C8.E0) [] (startF N [V.int n] (js.map (slotAt σ))) H { s with heap := h1, toks := s.toks + ([(a, Value.int n t)] : List (Str × Value)).length } :=
        inv_startN (ps := [a]) (us := [.int n t]) S hr.hd I.env0.in1 rfl (.cons ⟨t, rfl⟩ .nil) (cells_of I cp) hns kp
      refine PySem.W.kla_codeExpr (wpAny_mono ((hbody _ _ s H q (hr.deeper _)).run [] _ _ H _ J (ht n hn)) (fun v s' hv => ?_) fun e s' hv => hv)
      obtain ⟨u, H', J', rv, z⟩ := hv
      exact ⟨u, H', J'.os, J'.bare, J'.base, J'.hok, rv, z⟩
  refine wpAny_call (codeAny_mono rc fun r s' hv => ?_)
  cases r with
  | error e => exact (show False from hv).elim
  | ok fl =>
    cases fl with
    | ret u =>
      obtain ⟨v, H', I', rv, e1, e2⟩ := I.after hv
      subst e1
      subst e2
      exact ⟨rv, I'⟩
    | next => exact False.elim hv
    | brk => exact False.elim hv
    | cont => exact False.elim hv

theorem pe_minLam {T : List (Addr × Str)} {c P : Addr} {a : Str} {params : Arguments} {body e : Expr} {scope : Scope} {lpos p pos p2 kp1 kp2 : Pos} {j k : Nat} {N fr : List Str} {js : List Nat} {te tb : TE} (hg : Gl X "min") (hm : X.mg "min" = none) (he : PE X e te)
    (TB : TabB X.base X.mg c P) (hcode : X.env.code = .ref c) (hmT : (P, X.env.qual ++ "<lambda>") ∈ T) (hu : ∀ p ∈ T, p.1 = P → p.2 = X.env.qual ++ "<lambda>") (hst : X.stack = X.env :: X.outer) (hr : Room (k + 2) X.A) (S : NScope N [a] fr scope)
    (hfree : ∀ y ∈ scope.names, y.2 = .free → X.env.scope.names.lookup y.1 = some .cell ∨ X.env.scope.names.lookup y.1 = some .free) (hfr : ∀ y ∈ fr, (y, NameKind.free) ∈ scope.names) (hjs : js.map (fun j => X.N[j]?) = fr.map some) (hdef : defaultsOf params X.env = ([], []))
    (hbind : ∀ (q : Str) (cl : List (Str × Addr)) (pm cv ctv u : Value), bindArgs (PySem.W.kla_fn "<lambda>" q params body scope cl pm cv ctv) ⟨[u], []⟩ = pure [(a, u)])
    (hbody : ∀ (c' : Addr) (A : Around) (outer : List Env) (s : Shared) (H : Hp) (f : Addr), Room k (A.deeper (envF (lamF X params scope c') f s.heap.objs.size)) → PE (ncx C8.CX0 X.prog X.w X.K X.mg X.base N (lamF X params scope c') f A outer s H C8.E0) body tb)
    (hp0 : starEach [e] X.env = (false, eval e X.env) :: starEach [] X.env := by rfl) (hp1 : backTo pos (starEach [e] X.env) = (false, eval e X.env) :: backTo pos (starEach [] X.env) := by rfl) (hp2 : (backTo pos (starEach [e] X.env)).any (·.1) = false := by rfl) :
    PE X (.Call (.Name "min" p) [e] [⟨some "key", .Lambda params body scope lpos, kp1⟩, ⟨some "default", .Constant .none j p2, kp2⟩] pos) (tMinLam T N js te tb) := by
  refine ⟨fun pins s σ H Q I h => ?_⟩
  refine wpAny_Call_Name_kw (ld_blt I hg hm (by decide +kernel : bootBuiltins "min" = some (.builtin "min")) ?_)
  let W : List V → Hp → Prop := fun vs H1 => match vs with
    | [x] => MinW T N js tb σ Q x H1
    | _ => False
  have h' : tCons te tNil σ H W := h
  refine PyProof.Rows.callWith_kw (thn ((pa_cons he pa_nil hp0).run pos pins s σ H W I h') fun us s1 ⟨vs, H1, I1, r1, q1⟩ => ?_) hp1 hp2 rfl rfl
  obtain ⟨x, rfl⟩ : ∃ x, vs = [x] := by
    cases vs with
    | nil => exact (show False from q1).elim
    | cons x r => cases r with
      | nil => exact ⟨x, rfl⟩
      | cons y z => exact (show False from q1).elim
  obtain ⟨hT, l, ns, kf, rfl, hl, q2⟩ := (show MinW T N js tb σ Q x H1 from q1)
  cases r1 with
  | cons ru rn =>
    cases rn
    cases ru
    show wpAny _ _ (evalAll ((do let v ← eval (.Lambda params body scope lpos) X.env; standAt pos; pure v) :: (do let v ← eval (.Constant .none j p2) X.env; standAt pos; pure v) :: [])) _ _ s1
    have fr0 : ∀ y ∈ scope.names, y.2 = .free → ∃ c, X.env.cells.lookup y.1 = some c := fun y hy e => (hfree y hy e).elim (fun z => I1.ok.has _ (.inl z)) fun z => I1.ok.has _ (.inr z)
    refine wpAny_evalAll_cons (wpAny_bind (lam_make2 I1 TB hcode hmT hu hT hdef fr0 fun f c' pm ctv H2 s2 I2 eN T2 hf hfn hfs hc => ?_))
    refine wpAny_bind (wpAny_standAt (wpAny_pure ?_))
    refine wpAny_evalAll_cons (wpAny_bind (Constant_none (wpAny_bind (wpAny_standAt (wpAny_pure (wpAny_evalAll_nil ?_))))))
    obtain ⟨q3, q4, q5⟩ := q2 H2 eN T2
    have nL : f ≠ X.env.locals := fun z => by
      obtain ⟨m, ⟨o, es, ep, ho, hd, _⟩, _⟩ := I2.loc
      rw [← z, hf] at ho
      cases ho
      cases hd
    have nF : f ∉ X.fs := fun z => hfs (by
      rw [hst]
      show f ∈ (X.env :: X.outer).filterMap (·.frame)
      rw [List.filterMap_cons]
      split
      · exact z
      · exact .tail _ z)
    have I3 : Inv X ((f, PySem.W.kla_obj "<lambda>" (X.env.qual ++ "<lambda>") params body scope (cloFrom X.env.cells scope.names []) pm c' ctv) :: pins) σ H2 s2 := by
      refine I2.pins_of fun p hp => ?_
      cases hp with
      | head => exact ⟨hf, hfn, nL, nF, fun v z => nomatch z⟩
      | tail _ hp => exact I2.pin p (List.mem_append_right _ hp)
    have cp : Caps X (cloFrom X.env.cells scope.names []) fr js := Caps.made I2.ok hfree hfr hjs
    have turn := lamTurn (q := f) (kf := kf) (pm := pm) (ctv := ctv) (hr.in1) S cp (fun u => hbind _ _ _ _ _ u) hc (hbody c') q3
    have hl2 : H2 l = some (.lst (ns.map V.int)) := eN l _ hl fun ps z => nomatch z
    refine thn (minRun hr.hd I3 hl2 turn (.head _)) fun u s3 ⟨I4, hu⟩ => ?_
    have I5 := unpinOne I4
    rcases hu with ⟨e1, e2⟩ | ⟨m, t, e2, e3, e4⟩
    · subst e2
      exact ⟨.non, H2, I5, rfl, q4 e1⟩
    · subst e2
      exact ⟨.int m, H2, I5, ⟨t, rfl⟩, q5 m e3 e4⟩
end
end MinL

set_option Elab.async false
set_option maxRecDepth 100000
set_option maxHeartbeats 4000000
namespace K24
open PySem PySem.Spec PyProof.Rows L2 C8 LamX UF

def top (i : Nat) : Stmt := PySem.Challenge.pw_livingroll_k24_tour_aims.main.body.getD i (.Pass ⟨0, 0, 0, 0⟩)

abbrev s_is_integer : Stmt := top 5
abbrev n_is_integer : List Str := ["value"]
theorem sc_is_integer : FnScope n_is_integer ["value"] (C8.fnScope s_is_integer) := ⟨rfl, rfl, rfl, by decide +kernel, rfl, by decide +kernel, by decide +kernel⟩

abbrev s_check_field : Stmt := top 8
abbrev n_check_field : List Str := ["field", "value", "least", "most"]
theorem sc_check_field : FnScope n_check_field ["field", "value", "least", "most"] (C8.fnScope s_check_field) := ⟨rfl, rfl, rfl, by decide +kernel, rfl, by decide +kernel, by decide +kernel⟩

abbrev s_distance : Stmt := top 9
abbrev n_distance : List Str := ["setting", "seat", "other"]
theorem sc_distance : FnScope n_distance ["setting", "seat", "other"] (C8.fnScope s_distance) := ⟨rfl, rfl, rfl, by decide +kernel, rfl, by decide +kernel, by decide +kernel⟩

-- lambda in first_from
abbrev s_first_from : Stmt := top 10
abbrev n_first_from : List Str := ["setting", "place", "held"]
theorem sc_first_from : FnScope n_first_from ["setting", "place", "held"] (C8.fnScope s_first_from) := ⟨rfl, rfl, rfl, by decide +kernel, rfl, by decide +kernel, by decide +kernel⟩

abbrev s_law_box : Stmt := top 14
abbrev n_law_box : List Str := ["script", "cells", "cell"]
theorem sc_law_box : FnScope n_law_box ["script"] (C8.fnScope s_law_box) := ⟨rfl, rfl, rfl, by decide +kernel, rfl, by decide +kernel, by decide +kernel⟩

abbrev s_law_draw : Stmt := top 15
abbrev n_law_draw : List Str := ["box", "top", "digit", "cells", "place", "cell", "mixed"]
theorem sc_law_draw : FnScope n_law_draw ["box", "top"] (C8.fnScope s_law_draw) := ⟨rfl, rfl, rfl, by decide +kernel, rfl, by decide +kernel, by decide +kernel⟩

abbrev s_law_bits : Stmt := top 16
abbrev n_law_bits : List Str := ["box", "way"]
theorem sc_law_bits : FnScope n_law_bits ["box"] (C8.fnScope s_law_bits) := ⟨rfl, rfl, rfl, by decide +kernel, rfl, by decide +kernel, by decide +kernel⟩

abbrev s_law_patience : Stmt := top 17
abbrev n_law_patience : List Str := ["box", "way"]
theorem sc_law_patience : FnScope n_law_patience ["box"] (C8.fnScope s_law_patience) := ⟨rfl, rfl, rfl, by decide +kernel, rfl, by decide +kernel, by decide +kernel⟩

abbrev s_law_flags : Stmt := top 18
abbrev n_law_flags : List Str := ["box", "ring", "own", "way", "chunk", "flags", "spot"]
theorem sc_law_flags : FnScope n_law_flags ["box", "ring", "own"] (C8.fnScope s_law_flags) := ⟨rfl, rfl, rfl, by decide +kernel, rfl, by decide +kernel, by decide +kernel⟩

abbrev s_law_first : Stmt := top 19
abbrev n_law_first : List Str := ["ring", "place", "names", "ahead", "spot"]
theorem sc_law_first : FnScope n_law_first ["ring", "place", "names"] (C8.fnScope s_law_first) := ⟨rfl, rfl, rfl, by decide +kernel, rfl, by decide +kernel, by decide +kernel⟩

abbrev s_law_same : Stmt := top 20
abbrev n_law_same : List Str := ["answer", "want"]
theorem sc_law_same : FnScope n_law_same ["answer", "want"] (C8.fnScope s_law_same) := ⟨rfl, rfl, rfl, by decide +kernel, rfl, by decide +kernel, by decide +kernel⟩

abbrev s_law_made : Stmt := top 21
abbrev n_law_made : List Str := ["box", "bits", "ring", "patience", "setting", "own", "way", "last", "tour", "state"]
theorem sc_law_made : FnScope n_law_made ["box"] (C8.fnScope s_law_made) := ⟨rfl, rfl, rfl, by decide +kernel, rfl, by decide +kernel, by decide +kernel⟩

abbrev s_law_turn_seat : Stmt := top 22
abbrev n_law_turn_seat : List Str := ["box", "state", "flags", "spot"]
theorem sc_law_turn_seat : FnScope n_law_turn_seat ["box", "state"] (C8.fnScope s_law_turn_seat) := ⟨rfl, rfl, rfl, by decide +kernel, rfl, by decide +kernel, by decide +kernel⟩

abbrev s_law_names : Stmt := top 23
abbrev n_law_names : List Str := ["box", "state", "way", "flags", "kept", "spot"]
theorem sc_law_names : FnScope n_law_names ["box", "state"] (C8.fnScope s_law_names) := ⟨rfl, rfl, rfl, by decide +kernel, rfl, by decide +kernel, by decide +kernel⟩

abbrev s_law_follow_aim : Stmt := top 24
abbrev n_law_follow_aim : List Str := ["state", "names"]
theorem sc_law_follow_aim : FnScope n_law_follow_aim ["state", "names"] (C8.fnScope s_law_follow_aim) := ⟨rfl, rfl, rfl, by decide +kernel, rfl, by decide +kernel, by decide +kernel⟩

abbrev s_law_follow_report : Stmt := top 25
abbrev n_law_follow_report : List Str := ["state", "passed"]
theorem sc_law_follow_report : FnScope n_law_follow_report ["state", "passed"] (C8.fnScope s_law_follow_report) := ⟨rfl, rfl, rfl, by decide +kernel, rfl, by decide +kernel, by decide +kernel⟩

abbrev s_law_shown : Stmt := top 26
abbrev n_law_shown : List Str := ["tours", "states", "k"]
theorem sc_law_shown : FnScope n_law_shown ["tours", "states"] (C8.fnScope s_law_shown) := ⟨rfl, rfl, rfl, by decide +kernel, rfl, by decide +kernel, by decide +kernel⟩

abbrev s_law : Stmt := top 27
abbrev n_law : List Str := ["script", "box", "rows", "one", "two", "tours", "states", "row", "which", "tour", "state", "names", "handed", "answer", "looked", "way"]
theorem sc_law : FnScope n_law ["script"] (C8.fnScope s_law) := ⟨rfl, rfl, rfl, by decide +kernel, rfl, by decide +kernel, by decide +kernel⟩

abbrev s_Setting__init : Stmt := inClass (top 7) 5
abbrev n_Setting__init : List Str := ["self", "bits", "patience", "room", "grace", "helpers"]
theorem sc_Setting__init : FnScope n_Setting__init ["self", "bits", "patience", "room", "grace", "helpers"] (C8.fnScope s_Setting__init) := ⟨rfl, rfl, rfl, by decide +kernel, rfl, by decide +kernel, by decide +kernel⟩

abbrev s_Setting_seats : Stmt := inClass (top 7) 6
abbrev n_Setting_seats : List Str := ["self"]
theorem sc_Setting_seats : FnScope n_Setting_seats ["self"] (C8.fnScope s_Setting_seats) := ⟨rfl, rfl, rfl, by decide +kernel, rfl, by decide +kernel, by decide +kernel⟩

structure T_Setting (K : PySem.W.Frag) (mg : Str → Option Value) (C : Addr) : Prop where
  cl : Cls K C
  mgC : mg "Setting" = some (.ref C)
  n_bits : NoAttr K C "bits"
  n_patience : NoAttr K C "patience"
  n_room : NoAttr K C "room"
  n_grace : NoAttr K C "grace"
  n_helpers : NoAttr K C "helpers"
  k_MOST_BITS : ConP K C "MOST_BITS" 8
  k_MOST_PATIENCE : ConP K C "MOST_PATIENCE" 6
  k_MOST_ROOM : ConP K C "MOST_ROOM" 64
  k_MOST_GRACE : ConP K C "MOST_GRACE" 200
  k_MOST_HELPERS : ConP K C "MOST_HELPERS" 3
  ini : IniD K C "Setting.__init__" s_Setting__init [("grace", .int 6), ("helpers", .int 1)]
  p_seats : PropP K C "seats" "Setting.seats" s_Setting_seats

abbrev s_Tour__init : Stmt := inClass (top 12) 0
abbrev n_Tour__init : List Str := ["self", "setting", "seat", "behind"]
theorem sc_Tour__init : FnScope n_Tour__init ["self", "setting", "seat", "behind"] (C8.fnScope s_Tour__init) := ⟨rfl, rfl, rfl, by decide +kernel, rfl, by decide +kernel, by decide +kernel⟩

abbrev s_Tour_aim : Stmt := inClass (top 12) 1
abbrev n_Tour_aim : List Str := ["self", "names"]
theorem sc_Tour_aim : FnScope n_Tour_aim ["self", "names"] (C8.fnScope s_Tour_aim) := ⟨rfl, rfl, rfl, by decide +kernel, rfl, by decide +kernel, by decide +kernel⟩

abbrev s_Tour_begin : Stmt := inClass (top 12) 2
abbrev n_Tour_begin : List Str := ["self", "seat"]
theorem sc_Tour_begin : FnScope n_Tour_begin ["self", "seat"] (C8.fnScope s_Tour_begin) := ⟨rfl, rfl, rfl, by decide +kernel, rfl, by decide +kernel, by decide +kernel⟩

abbrev s_Tour_report : Stmt := inClass (top 12) 3
abbrev n_Tour_report : List Str := ["self", "passed"]
theorem sc_Tour_report : FnScope n_Tour_report ["self", "passed"] (C8.fnScope s_Tour_report) := ⟨rfl, rfl, rfl, by decide +kernel, rfl, by decide +kernel, by decide +kernel⟩

abbrev s_Tour_passes : Stmt := inClass (top 12) 4
abbrev n_Tour_passes : List Str := ["self", "seat"]
theorem sc_Tour_passes : FnScope n_Tour_passes ["self", "seat"] (C8.fnScope s_Tour_passes) := ⟨rfl, rfl, rfl, by decide +kernel, rfl, by decide +kernel, by decide +kernel⟩

structure T_Tour (K : PySem.W.Frag) (mg : Str → Option Value) (C : Addr) : Prop where
  cl : Cls K C
  mgC : mg "Tour" = some (.ref C)
  n_setting : NoAttr K C "setting"
  n_current : NoAttr K C "current"
  n_failed : NoAttr K C "failed"
  n_last : NoAttr K C "_last"
  n_goes_on : NoAttr K C "_goes_on"
  n_passes : NoAttr K C "_passes"
  ini : IniD K C "Tour.__init__" s_Tour__init [("behind", .non)]
  m_aim : MethP K C "aim" "Tour.aim" s_Tour_aim ["self", "names"]
  m_begin : MethP K C "_begin" "Tour._begin" s_Tour_begin ["self", "seat"]
  m_report : MethP K C "report" "Tour.report" s_Tour_report ["self", "passed"]
  m_passes : MethP K C "passes" "Tour.passes" s_Tour_passes ["self", "seat"]

structure Ds (K : PySem.W.Frag) (mg : Str → Option Value) (C_Setting C_Tour c_first_from : Addr) : Prop where
  d1_first_from : D1 K mg "first_from" s_first_from c_first_from
  d_is_integer : D0 K mg "is_integer" s_is_integer ["value"]
  d_check_field : D0 K mg "check_field" s_check_field ["field", "value", "least", "most"]
  d_distance : D0 K mg "distance" s_distance ["setting", "seat", "other"]
  d_law_box : D0 K mg "_law_box" s_law_box ["script"]
  d_law_draw : D0 K mg "_law_draw" s_law_draw ["box", "top"]
  d_law_bits : D0 K mg "_law_bits" s_law_bits ["box"]
  d_law_patience : D0 K mg "_law_patience" s_law_patience ["box"]
  d_law_flags : D0 K mg "_law_flags" s_law_flags ["box", "ring", "own"]
  d_law_first : D0 K mg "_law_first" s_law_first ["ring", "place", "names"]
  d_law_same : D0 K mg "_law_same" s_law_same ["answer", "want"]
  d_law_made : D0 K mg "_law_made" s_law_made ["box"]
  d_law_turn_seat : D0 K mg "_law_turn_seat" s_law_turn_seat ["box", "state"]
  d_law_names : D0 K mg "_law_names" s_law_names ["box", "state"]
  d_law_follow_aim : D0 K mg "_law_follow_aim" s_law_follow_aim ["state", "names"]
  d_law_follow_report : D0 K mg "_law_follow_report" s_law_follow_report ["state", "passed"]
  d_law_shown : D0 K mg "_law_shown" s_law_shown ["tours", "states"]
  t_Setting : T_Setting K mg C_Setting
  t_Tour : T_Tour K mg C_Tour
end K24

set_option Elab.async false
set_option maxRecDepth 100000
set_option maxHeartbeats 4000000
/-! settings -/
namespace K24
open PySem PySem.Spec PyProof.Rows L2 C8 LamX UF

def spInt : Sp := fun vs H Q _ => ∃ n : Int, vs = [.int n] ∧ Q (.bl true) H
def spCheck : Sp := fun vs H Q _ => ∃ (x : Str) (v l m : Int), vs = [.str x, .int v, .int l, .int m] ∧ l ≤ v ∧ v ≤ m ∧ Q .non H
/-- a setting stands at q -/
def SetO (C : Addr) (H : Hp) (q : Addr) (n p r g h : Int) : Prop := ∃ dx : Addr, H q = some (.ins C dx (fs5 n p r g h))
theorem SetO.fr {C : Addr} {H H' : Hp} {q : Addr} {n p r g h : Int} {ds : List Addr} (s : SetO C H q n p r g h) (x : Fr ds H H') (m : q ∉ ds) : SetO C H' q n p r g h := s.imp fun _ e => x.ins e m
theorem SetO.fw {C : Addr} {H H' : Hp} {q : Addr} {n p r g h : Int} {ds : List Addr} (s : SetO C H q n p r g h) (x : Fw ds H H') (m : q ∉ ds) : SetO C H' q n p r g h := s.imp fun _ e => x.ins e m
theorem SetO.at_ {C : Addr} {H : Hp} {q : Addr} {n p r g h : Int} (s : SetO C H q n p r g h) : ∃ o, H q = some o := s.elim fun _ e => ⟨_, e⟩
def spInit (C : Addr) : Sp := fun vs H Q _ => ∃ (q dx : Addr) (n p r g h : Int), vs = [.ref q, .int n, .int p, .int r, .int g, .int h] ∧ H q = some (.ins C dx []) ∧ 1 ≤ n ∧ n ≤ 8 ∧ 1 ≤ p ∧ p ≤ 6 ∧ 1 ≤ r ∧ r ≤ 64 ∧ 1 ≤ g ∧ g ≤ 200 ∧ 0 ≤ h ∧ h ≤ 3 ∧
  ∀ H' : Hp, SetO C H' q n p r g h → Fr [q] H H' → Q .non H'
section
variable {P : Program} {w : World} {K : PySem.W.Frag} {mg : Str → Option Value} {base : Heap} {C : Addr}
theorem c_is_integer (T : Bl mg) (d : D0 K mg "is_integer" s_is_integer ["value"]) : Cal P w K mg base 1 "is_integer" spInt [] := by
  refine cal d sc_is_integer (fun vs H Q E h => ?_) (fun cdv A outer f s H vs Q E hr h => ?_)
  · obtain ⟨n, rfl, _⟩ := h
    rfl
  · obtain ⟨n, rfl, k⟩ := h
    refine ⟨_, (pss_one (ps_ret (pe_and (pe_callB call_isi (by rfl) T.isinstance (by decide +kernel) (pa_cons (pv 0) (pa_cons (pe_bltn (v := .ty "int") (by rfl) T.int (by decide +kernel) rfl) pa_nil))) (pe_one (pe_not (pe_callB call_isi (by rfl) T.isinstance (by decide +kernel) (pa_cons (pv 0) (pa_cons (pe_bltn (v := .ty "bool") (by rfl) T.bool (by decide +kernel) rfl) pa_nil)))))))), ?_⟩
    refine ⟨_, rfl, _, _, _, _, true, rfl, .ty _, .base (.int _), kit_ty (by decide +kernel), _, rfl, iteT ?_⟩
    exact ⟨_, rfl, _, _, _, _, false, rfl, .ty _, .base (.int _), kit_ty (by decide +kernel), _, rfl, k⟩
theorem c_check_field (c_is_integer : Cal P w K mg base 1 "is_integer" spInt []) (d : D0 K mg "check_field" s_check_field ["field", "value", "least", "most"]) : Cal P w K mg base 2 "check_field" spCheck [] := by
  refine cal d sc_check_field (fun vs H Q E h => ?_) (fun cdv A outer f s H vs Q E hr h => ?_)
  · obtain ⟨x, v, l, m, rfl, _⟩ := h
    rfl
  · obtain ⟨x, v, l, m, rfl, h1, h2, k⟩ := h
    refine ⟨_, (pss_one (ps_if (pt_not (PW.pt (pw_and (pt_val (pe_c c_is_integer hr (by decide) rfl (pa_cons (pv 1) pa_nil))) (pw_and1 (pt_chain op_le op_le (pv 2) (pv 1) (pv 3)))))) (pss_one (ps_never)) pss_nil)), ?_⟩
    refine ⟨_, rfl, _, rfl, _, rfl, iteT ?_⟩
    refine ⟨_, rfl, _, rfl, _, _, rfl, rfl, _, rfl, ?_⟩
    rw [if_pos (decide_eq_true h1)]
    refine ⟨_, rfl, _, _, rfl, rfl, _, rfl, ?_⟩
    rw [decide_eq_true h2]
    exact k
theorem f_init (ST : T_Setting K mg C) {f : Addr} {fd : FuncData} (F : FunD K "__init__" "Setting.__init__" (C8.fnArgs s_Setting__init) (C8.fnBody s_Setting__init) (C8.fnScope s_Setting__init) [] [("grace", .int 6), ("helpers", .int 1)] f fd) (c_check_field : Cal P w K mg base 2 "check_field" spCheck []) : FnOk P w K mg base C8.CX0 3 f fd ["self", "bits", "patience", "room", "grace", "helpers"] (spInit C) := by
  refine F.ok (N := n_Setting__init) sc_Setting__init (fun vs H Q E h => ?_) (fun cdv A outer s H vs Q E hr h => ?_)
  · obtain ⟨q, dx, n, p, r, g, h, rfl, _⟩ := h
    rfl
  · obtain ⟨q, dx, n, p, r, g, h, rfl, hq, a1, a2, a3, a4, a5, a6, a7, a8, a9, a10, k⟩ := h
    obtain ⟨u1, k1⟩ := ST.k_MOST_BITS
    obtain ⟨u2, k2⟩ := ST.k_MOST_PATIENCE
    obtain ⟨u3, k3⟩ := ST.k_MOST_ROOM
    obtain ⟨u4, k4⟩ := ST.k_MOST_GRACE
    obtain ⟨u5, k5⟩ := ST.k_MOST_HELPERS
    refine ⟨_, PSs.nox (pss_cons (ps_expr (pe_c c_check_field hr (by decide) rfl (pa_cons pe_str (pa_cons (pv 1) (pa_cons pe_int (pa_cons (pe_con (pv 0) rfl) pa_nil))))))
      (pss_cons (ps_expr (pe_c c_check_field hr (by decide) rfl (pa_cons pe_str (pa_cons (pv 2) (pa_cons pe_int (pa_cons (pe_con (pv 0) rfl) pa_nil))))))
      (pss_cons (ps_expr (pe_c c_check_field hr (by decide) rfl (pa_cons pe_str (pa_cons (pv 3) (pa_cons pe_int (pa_cons (pe_con (pv 0) rfl) pa_nil))))))
      (pss_cons (ps_expr (pe_c c_check_field hr (by decide) rfl (pa_cons pe_str (pa_cons (pv 4) (pa_cons pe_int (pa_cons (pe_con (pv 0) rfl) pa_nil))))))
      (pss_cons (ps_expr (pe_c c_check_field hr (by decide) rfl (pa_cons pe_str (pa_cons (pv 5) (pa_cons pe_int (pa_cons (pe_con (pv 0) rfl) pa_nil))))))
      (pss_cons (ps_fld (pv 0) (pv 1) rfl)
      (pss_cons (ps_fld (pv 0) (pv 2) rfl)
      (pss_cons (ps_fld (pv 0) (pv 3) rfl)
      (pss_cons (ps_fld (pv 0) (pv 4) rfl)
      (pss_one (ps_fld (pv 0) (pv 5) rfl))))))))))), ?_⟩
    refine ⟨_, rfl, _, rfl, q, C, dx, [], _, u1, rfl, hq, ST.cl, k1, rfl, _, _, _, _, rfl, a1, a2, ?_⟩
    refine ⟨_, rfl, _, rfl, q, C, dx, [], _, u2, rfl, hq, ST.cl, k2, rfl, _, _, _, _, rfl, a3, a4, ?_⟩
    refine ⟨_, rfl, _, rfl, q, C, dx, [], _, u3, rfl, hq, ST.cl, k3, rfl, _, _, _, _, rfl, a5, a6, ?_⟩
    refine ⟨_, rfl, _, rfl, q, C, dx, [], _, u4, rfl, hq, ST.cl, k4, rfl, _, _, _, _, rfl, a7, a8, ?_⟩
    refine ⟨_, rfl, _, rfl, q, C, dx, [], _, u5, rfl, hq, ST.cl, k5, rfl, _, _, _, _, rfl, a9, a10, ?_⟩
    have e5 := fs5_puts (n := n) (p := p) (r := r) (g := g) (h := h)
    refine ⟨_, rfl, _, rfl, q, C, dx, [], rfl, hq, ST.cl, ST.n_bits, by show 0 < 1000; decide, ?_⟩
    generalize e1 : putF ("bits" : Str) (V.int n) [] = f1
    refine ⟨_, rfl, _, rfl, q, C, dx, f1, rfl, upd_same, ST.cl, ST.n_patience, by subst e1; show 1 < 1000; decide, ?_⟩
    generalize e2 : putF ("patience" : Str) (V.int p) f1 = f2
    have l1 : f1.length ≤ 1 := by subst e1; exact putF_len _ _ _
    have l2 : f2.length ≤ 2 := by subst e2; exact Nat.le_trans (putF_len _ _ _) (by omega)
    refine ⟨_, rfl, _, rfl, q, C, dx, f2, rfl, upd_same, ST.cl, ST.n_room, by omega, ?_⟩
    generalize e3 : putF ("room" : Str) (V.int r) f2 = f3
    have l3 : f3.length ≤ 3 := by subst e3; exact Nat.le_trans (putF_len _ _ _) (by omega)
    refine ⟨_, rfl, _, rfl, q, C, dx, f3, rfl, upd_same, ST.cl, ST.n_grace, by omega, ?_⟩
    generalize e4 : putF ("grace" : Str) (V.int g) f3 = f4
    have l4 : f4.length ≤ 4 := by subst e4; exact Nat.le_trans (putF_len _ _ _) (by omega)
    refine ⟨_, rfl, _, rfl, q, C, dx, f4, rfl, upd_same, ST.cl, ST.n_helpers, by omega, ?_⟩
    rw [e1, e2, e3, e4] at e5
    rw [e5]
    exact k _ ⟨dx, upd_same⟩ ((((((Fr.refl [q] H).upd (.head _) (.ins hq) _).upd (.head _) (.ins upd_same) _).upd (.head _) (.ins upd_same) _).upd (.head _) (.ins upd_same) _).upd (.head _) (.ins upd_same) _)
/-- Setting(bits, patience, room) -/
theorem c_Setting (ST : T_Setting K mg C) (c_check_field : Cal P w K mg base 2 "check_field" spCheck []) : Mak P w K mg base 3 "Setting" C (spInit C) [.int 6, .int 1] := by
  obtain ⟨f, fd, M, F⟩ := ST.ini
  obtain ⟨ds, r, b⟩ := F.binds0 (ps := ["self", "bits", "patience", "room", "grace", "helpers"]) 4 (by decide) rfl (fun D doc pm an cdv ct us ks hl hk => match us, hl, ks, hk with
      | [_, _, _, _], _, [_, _], _ => ⟨_, _, _, _, _, _, rfl, rfl, ⟨_, _, _, _, _, _, rfl, rfl, rfl⟩⟩)
  exact ⟨f, fd, _, ds, M, f_init ST F c_check_field, ST.mgC, b, r⟩
/-- what the making of a setting promises, between two heaps -/
theorem set_made {H : Hp} {x dx : Addr} {n p r g h : Int} {R : Hp → Prop} {E : XK} (nx : H x = none) (ndx : H dx = none) (ne : dx ≠ x) (a1 : 1 ≤ n) (a2 : n ≤ 8) (a3 : 1 ≤ p) (a4 : p ≤ 6) (a5 : 1 ≤ r) (a6 : r ≤ 64) (a7 : 1 ≤ g) (a8 : g ≤ 200) (a9 : 0 ≤ h) (a10 : h ≤ 3)
    (k : ∀ H' : Hp, Fr [] H H' → SetO C H' x n p r g h → R H') :
    spInit C [.ref x, .int n, .int p, .int r, .int g, .int h] (upd (upd H dx (.own x)) x (.ins C dx [])) (fun v H3 => v = .non ∧ R H3) E := by
  have nx' : upd H dx (.own x) x = none := by rw [upd_ne ne.symm]; exact nx
  refine ⟨x, dx, n, p, r, g, h, rfl, upd_same, a1, a2, a3, a4, a5, a6, a7, a8, a9, a10, fun H3 hs hk => ⟨rfl, k H3 ?_ hs⟩⟩
  exact (((Fr.refl [] H).new ndx _).new nx' _).tail hk fun a m => by rw [List.mem_singleton.mp m]; exact .inr (.of nx)
end
end K24

set_option Elab.async false
set_option maxRecDepth 100000
set_option maxHeartbeats 4000000
set_option exponentiation.threshold 4096
/-! the box of draws -/
namespace K24
open PySem PySem.Spec PyProof.Rows L2 C8 LamX UF

structure BxV (H : Hp) (b c : Addr) (cells : List Int) (x y z : Int) : Prop where
  hb : H b = some (.lst [.ref c, .int x, .int y, .int z])
  hc : H c = some (.lst (cells.map V.int))
  ln : 0 < cells.length
  x0 : 0 ≤ x
def Box (H : Hp) (b c : Addr) : Prop := ∃ (cells : List Int) (x y z : Int), BxV H b c cells x y z
theorem BxV.ne {H : Hp} {b c : Addr} {cells : List Int} {x y z : Int} (B : BxV H b c cells x y z) : c ≠ b := by
  intro e
  have h := B.hc
  rw [e, B.hb] at h
  injection h with h
  injection h with h
  cases cells with
  | nil => cases h
  | cons a l => injection h with h1 h2; cases h1
theorem BxV.set {H : Hp} {b c : Addr} {cells : List Int} {x y z : Int} (B : BxV H b c cells x y z) (x' y' z' : Int) (h : 0 ≤ x') : BxV (upd H b (.lst [.ref c, .int x', .int y', .int z'])) b c cells x' y' z' :=
  ⟨upd_same, by rw [upd_ne B.ne]; exact B.hc, B.ln, h⟩
theorem Box.fw {H H' : Hp} {b c : Addr} {ds : List Addr} (B : Box H b c) (x : Fw ds H H') (m : b ∉ ds) (n : c ∉ ds) : Box H' b c := by
  obtain ⟨cells, u, y, z, B⟩ := B
  exact ⟨cells, u, y, z, x.lst B.hb m, x.lst B.hc n, B.ln, B.x0⟩
theorem Box.fr {H H' : Hp} {b c : Addr} {ds : List Addr} (B : Box H b c) (x : Fr ds H H') (m : b ∉ ds) (n : c ∉ ds) : Box H' b c := B.fw x.w m n
theorem Box.pl {H : Hp} {b c : Addr} (B : Box H b c) : Pl H b := by
  obtain ⟨cells, u, y, z, B⟩ := B
  exact .lst B.hb
theorem Box.new {H : Hp} {b c : Addr} (B : Box H b c) {q : Addr} (n : H q = none) (o : HO) : Box (upd H q o) b c := B.fr (Fr.new0 (ds := []) n o) not_nil not_nil
theorem Box.off {H : Hp} {b c : Addr} (B : Box H b c) {q : Addr} (n1 : q ≠ b) (n2 : q ≠ c) (o : HO) : Box (upd H q o) b c := by
  obtain ⟨cells, u, y, z, B⟩ := B
  exact ⟨cells, u, y, z, by rw [upd_ne n1.symm]; exact B.hb, by rw [upd_ne n2.symm]; exact B.hc, B.ln, B.x0⟩
theorem Box.at_ {H : Hp} {b c : Addr} (B : Box H b c) : ∃ o, H b = some o := by
  obtain ⟨cells, u, y, z, B⟩ := B
  exact ⟨_, B.hb⟩
theorem Box.in_ {H : Hp} {b c : Addr} (B : Box H b c) : ∃ o, H c = some o := by
  obtain ⟨cells, u, y, z, B⟩ := B
  exact ⟨_, B.hc⟩
theorem Box.ne {H : Hp} {b c : Addr} (B : Box H b c) : c ≠ b := by
  obtain ⟨cells, u, y, z, B⟩ := B
  exact B.ne
theorem Box.nw_ne {H : Hp} {b c : Addr} (B : Box H b c) {q : Addr} (n : Nw H q) : q ≠ b ∧ q ≠ c := by
  obtain ⟨cells, u, y, z, B⟩ := B
  exact ⟨(ne_nw B.hb n).symm, (ne_nw B.hc n).symm⟩
theorem Box.new_ne {H : Hp} {b c : Addr} (B : Box H b c) {q : Addr} (n : H q = none) : q ≠ b ∧ q ≠ c := B.nw_ne (.of n)
def spBox (K : PySem.W.Frag) : Sp := fun vs H Q _ => ∃ (a : Addr) (ns : List Int), vs = [.ref a] ∧ SqL K H a (ns.map V.int) ∧ ns.length ≤ 63 ∧ ∀ (b c : Addr) (H' : Hp), Nw H b → Nw H c → Box H' b c → Fr [] H H' → Q (.ref b) H'
def spDraw : Sp := fun vs H Q _ => ∃ (b c : Addr) (m : Int), vs = [.ref b, .int m] ∧ Box H b c ∧ 0 < m ∧ m < 2 ^ 2000 ∧ ∀ (d : Int) (H' : Hp), 0 ≤ d → d < m → Box H' b c → Fr [b] H H' → Q (.int d) H'
section
variable {P : Program} {w : World} {K : PySem.W.Frag} {mg : Str → Option Value} {base : Heap}
theorem c_law_box (T : Bl mg) (d : D0 K mg "_law_box" s_law_box ["script"]) : Cal P w K mg base 1 "_law_box" (spBox K) [] := by
  refine cal d sc_law_box (fun vs H Q E h => ?_) (fun cdv A outer f s H vs Q E hr h => ?_)
  · obtain ⟨a, ns, rfl, _⟩ := h
    rfl
  · obtain ⟨a, ns, rfl, hs, hl, k⟩ := h
    refine ⟨_, (pss_cons (ps_setLc (i := 1) (own := [("cell", 2)]) (g := gName 2) (tt := tYes) (by rfl) sc_law_box.nd rfl rfl (sw_true rfl rfl rfl (by decide +kernel)) (pi_list (pv 0)) (blkOk_by (own := [("cell", 2)]) (N := n_law_box) (sc := C8.fnScope s_law_box) (by decide +kernel)) (fun _ _ _ _ _ => pg_name (i := 2) sc_law_box.nd rfl (Or.inl rfl)) (fun _ _ _ _ _ => pts_nil) (fun _ _ _ _ _ => (pe_callTy call_int1 (by rfl) T.int (by decide +kernel) (pa_cons (pv 2) pa_nil))))
      (pss_cut (ps_if (pt_cmpR op_eq (pe_callB call_len_seq (by rfl) T.len (by decide +kernel) (pa_cons (pv 1) pa_nil)) pe_int (nomark _)) (pss_one (ps_set (i := 1) sc_law_box.nd rfl (Or.inl rfl) (pe_lst (pa_cons pe_int pa_nil)))) pss_nil)
      (pss_one (ps_ret (pe_lst (pa_cons (pv 1) (pa_cons pe_int (pa_cons pe_int (pa_cons pe_int pa_nil))))))))), ?_⟩
    refine ⟨_, rfl, a, rfl, ⟨_, hs⟩, fun D nD => ?_⟩
    refine lc_list (K := K) (a := a) (xs := ns.map V.int) (fun i H' => H' = upd H D (.lst ((ns.take i).map V.int))) ?_ ?_ ?_ ?_
    · rw [List.take_zero]; rfl
    · rintro i H2 _ rfl
      exact hs.imp (fun h => h.imp (fun h => upd_new nD h) fun ⟨o, h⟩ => ⟨o, upd_new nD h⟩) id
    · rintro i v H2 hi rfl
      rw [List.getElem?_map] at hi
      cases e : ns[i]? with
      | none => rw [e] at hi; cases hi
      | some z =>
        rw [e] at hi
        cases hi
        refine ⟨rfl, _, rfl, .inl ⟨_, rfl, _, upd_same, ?_, ?_⟩⟩
        · rw [List.length_map, List.length_take]
          exact small1000' (by omega)
        · rw [upd_upd]
          have : ns.take (i + 1) = ns.take i ++ [z] := by rw [List.take_add_one, e]; rfl
          rw [this, List.map_append]
          rfl
    · rintro H2 rfl
      rw [List.length_map, List.take_length]
      refine ⟨fun σ H' => ∃ (c : Addr) (ms : List Int), σ = [some (.ref a), some (.ref c), none] ∧ Nw H c ∧ H' c = some (.lst (ms.map V.int)) ∧ 0 < ms.length ∧ Fr [] H H', ?_, ?_⟩
      · refine ⟨_, rfl, _, _, rfl, .inl (SqL.of upd_same), rfl, _, rfl, ite2 (fun h0 => ?_) (fun h0 => ?_)⟩
        · refine ⟨by show 1 ≤ sizeLine; decide, fun c nc => ?_⟩
          exact ⟨c, [0], rfl, (Fr.new0 (ds := []) nD _).live c (.of nc), upd_same, by decide, (Fr.new0 nD _).new nc _⟩
        · refine ⟨D, ns, rfl, .of nD, upd_same, ?_, Fr.new0 nD _⟩
          have := neI h0
          rw [List.length_map] at this
          omega
      · rintro σ H2 ⟨c, ms, rfl, nc, hc, lm, X⟩
        refine ⟨_, rfl, by show 4 ≤ sizeLine; decide, fun b nb => ?_⟩
        refine k b c _ (X.live b (.of nb)) nc ⟨ms, 0, 0, 0, upd_same, upd_new nb hc, lm, by decide⟩ (X.new nb _)
theorem c_law_draw (T : Bl mg) (d : D0 K mg "_law_draw" s_law_draw ["box", "top"]) : Cal P w K mg base 1 "_law_draw" spDraw [] := by
  refine cal d sc_law_draw (fun vs H Q E h => ?_) (fun cdv A outer f s H vs Q E hr h => ?_)
  · obtain ⟨b, c, m, rfl, _⟩ := h
    rfl
  · obtain ⟨b, c, m, rfl, ⟨cells, x, y, z, B⟩, m0, m1, k⟩ := h
    refine ⟨_, (pss_cons (ps_asg (pe_op op_add (pe_callTy call_int1 (by rfl) T.int (by decide +kernel) (pa_cons (pe_ix ix_list (pv 0) pe_int (fun _ _ => rfl)) pa_nil)) pe_int) (pg_sub (pv 0) pe_int set_list))
      (pss_cons (ps_if (pt_cmpR op_gt (pe_ix ix_list (pv 0) pe_int (fun _ _ => rfl)) pe_int (nomark _)) (pss_cons (ps_set (i := 2) sc_law_draw.nd rfl (Or.inl rfl) (pe_op op_mod (pe_callTy call_int1 (by rfl) T.int (by decide +kernel) (pa_cons (pe_ix ix_list (pv 0) pe_int (fun _ _ => rfl)) pa_nil)) (pv 1)))
      (pss_cons (ps_asg (pe_op op_fdivW (pe_callTy call_int1 (by rfl) T.int (by decide +kernel) (pa_cons (pe_ix ix_list (pv 0) pe_int (fun _ _ => rfl)) pa_nil)) (pv 1)) (pg_sub (pv 0) pe_int set_list))
      (pss_one (ps_ret (pv 2))))) pss_nil)
      (pss_cons (ps_set (i := 3) sc_law_draw.nd rfl (Or.inl rfl) (pe_ix ix_list (pv 0) pe_int (fun _ _ => rfl)))
      (pss_cons (ps_set (i := 4) sc_law_draw.nd rfl (Or.inl rfl) (pe_callTy call_int1 (by rfl) T.int (by decide +kernel) (pa_cons (pe_ix ix_list (pv 0) pe_int (fun _ _ => rfl)) pa_nil)))
      (pss_cons (ps_asg (pe_op op_add (pv 4) pe_int) (pg_sub (pv 0) pe_int set_list))
      (pss_cons (ps_set (i := 5) sc_law_draw.nd rfl (Or.inl rfl) (pe_callTy call_int1 (by rfl) T.int (by decide +kernel) (pa_cons (pe_ix ix_list (pv 3) (pe_op op_mod (pv 4) (pe_callB call_len_seq (by rfl) T.len (by decide +kernel) (pa_cons (pv 3) pa_nil))) (fun _ _ => rfl)) pa_nil)))
      (pss_cut (ps_if (PW.pt (pw_and (pt_cmpR op_lt (pv 4) (pe_callB call_len_seq (by rfl) T.len (by decide +kernel) (pa_cons (pv 3) pa_nil)) (nomark _)) (pw_and1 (pt_cmpR op_ge (pe_callB call_abs (by rfl) T.abs (by decide +kernel) (pa_cons (pv 5) pa_nil)) (pe_op op_pow pe_int pe_int) (nomark _))))) (pss_cons (ps_asg (pe_op op_fdivW (pe_callB call_abs (by rfl) T.abs (by decide +kernel) (pa_cons (pv 5) pa_nil)) (pv 1)) (pg_sub (pv 0) pe_int set_list))
      (pss_one (ps_ret (pe_op op_mod (pe_callTy call_int1 (by rfl) T.int (by decide +kernel) (pa_cons (pe_callB call_abs (by rfl) T.abs (by decide +kernel) (pa_cons (pv 5) pa_nil)) pa_nil)) (pv 1))))) pss_nil)
      (pss_cons (ps_set (i := 6) sc_law_draw.nd rfl (Or.inl rfl) (pe_op op_mod (pe_callTy call_int1 (by rfl) T.int (by decide +kernel) (pa_cons (pe_op op_add (pe_op op_add (pe_op op_mul (pv 5) pe_int) (pe_op op_mul (pe_ix ix_list (pv 0) pe_int (fun _ _ => rfl)) pe_int)) pe_int) pa_nil)) pe_int))
      (pss_cons (ps_set (i := 6) sc_law_draw.nd rfl (Or.inl rfl) (pe_op op_mod (pe_callTy call_int1 (by rfl) T.int (by decide +kernel) (pa_cons (pe_op op_add (pe_op op_mul (pv 6) (pv 6)) (pe_op op_mul (pe_ix ix_list (pv 0) pe_int (fun _ _ => rfl)) pe_int)) pa_nil)) pe_int))
      (pss_cons (ps_set (i := 6) sc_law_draw.nd rfl (Or.inl rfl) (pe_op op_mod (pe_callTy call_int1 (by rfl) T.int (by decide +kernel) (pa_cons (pe_op op_add (pe_op op_mul (pv 6) (pv 6)) (pe_op op_fdivW (pv 6) pe_int)) pa_nil)) pe_int))
      (pss_one (ps_ret (pe_op op_mod (pe_callTy call_int1 (by rfl) T.int (by decide +kernel) (pa_cons (pe_op op_fdivW (pv 6) pe_int) pa_nil)) (pv 1)))))))))))))), ?_⟩
    have X0 := Fr.refl [b] H
    refine ⟨_, rfl, _, _, _, _, rfl, rfl, SqL.of B.hb, rfl, .inl ⟨_, rfl, _, _, rfl, rfl, _, rfl, _, _, _, 3, rfl, rfl, B.hb, rfl, ?_⟩⟩
    have B1 := B.set x y (z + 1) B.x0
    have X1 := X0.upd (.head _) (.lst B.hb) (.lst [.ref c, .int x, .int y, .int (z + 1)])
    change Fr [b] H (upd H b (.lst [.ref c, .int x, .int y, .int (z + 1)])) at X1
    refine ⟨_, rfl, _, _, _, _, rfl, rfl, SqL.of B1.hb, rfl, _, _, rfl, rfl, _, rfl, ite2 (fun hgt => ?_) (fun hle => ?_)⟩
    · refine ⟨_, rfl, _, _, _, _, rfl, rfl, SqL.of B1.hb, rfl, .inl ⟨_, rfl, _, rfl, _, _, rfl, rfl, pm m0, ?_⟩⟩
      refine ⟨_, rfl, _, _, _, _, rfl, rfl, SqL.of B1.hb, rfl, .inl ⟨_, rfl, _, rfl, _, _, rfl, rfl, dvw m0 m1 _, _, rfl, _, _, _, 2, rfl, rfl, B1.hb, rfl, _, rfl, ?_⟩⟩
      exact k _ _ (Int.emod_nonneg _ (by omega)) (Int.emod_lt_of_pos _ m0) ⟨_, _, _, _, B1.set x (y / m) (z + 1) B.x0⟩ (X1.upd (.head _) (.lst B1.hb) _)
    · refine ⟨_, rfl, _, _, _, _, rfl, rfl, SqL.of B1.hb, rfl, ?_⟩
      refine ⟨_, rfl, _, _, _, _, rfl, rfl, SqL.of B1.hb, rfl, .inl ⟨_, rfl, ?_⟩⟩
      refine ⟨_, rfl, _, _, rfl, rfl, _, rfl, _, _, _, 1, rfl, rfl, B1.hb, rfl, ?_⟩
      have B2 := B1.set (x + 1) y (z + 1) (by have := B.x0; omega)
      have X2 := X1.upd (.head _) (.lst B1.hb) (.lst [.ref c, .int (x + 1), .int y, .int (z + 1)])
      have ln := B.ln
      have q0 : 0 ≤ x % (cells.length : Int) := Int.emod_nonneg _ (by omega)
      have q1 : x % (cells.length : Int) < cells.length := Int.emod_lt_of_pos _ (by omega)
      obtain ⟨cell, hcell, _⟩ := int_at q0 q1
      refine ⟨_, rfl, _, rfl, _, rfl, _, _, rfl, .inl (SqL.of B2.hc), _, _, rfl, rfl, pm (by rw [List.length_map]; omega), _, _, _, _, rfl, rfl, SqL.of B2.hc, (by rw [List.length_map]; exact hcell), .inl ⟨_, rfl, ?_⟩⟩
      refine ⟨fun σ H' => H' = upd (upd H b (.lst [.ref c, .int x, .int y, .int (z + 1)])) b (.lst [.ref c, .int (x + 1), .int y, .int (z + 1)]) ∧ σ = [some (.ref b), some (.int m), none, some (.ref c), some (.int x), some (.int cell), none], ?_, ?_⟩
      · refine ⟨_, rfl, _, rfl, _, _, rfl, .inl (SqL.of B2.hc), _, _, rfl, rfl, _, rfl, ite2 (fun hin => ?_) (fun hout => iteF ⟨rfl, rfl⟩)⟩
        refine ⟨_, rfl, _, rfl, _, _, rfl, rfl, ⟨by decide, by decide, by decide⟩, _, _, rfl, rfl, _, rfl, ite2 (fun hbig => ?_) (fun hsm => ⟨rfl, rfl⟩)⟩
        refine ⟨_, rfl, _, rfl, _, rfl, _, _, rfl, rfl, dvw m0 m1 _, _, rfl, _, _, _, 2, rfl, rfl, B2.hb, rfl, ?_⟩
        refine ⟨_, rfl, _, rfl, .inl ⟨_, rfl, _, rfl, _, _, rfl, rfl, pm m0, ?_⟩⟩
        exact k _ _ (Int.emod_nonneg _ (by omega)) (Int.emod_lt_of_pos _ m0) ⟨_, _, _, _, B2.set (x + 1) _ (z + 1) B2.x0⟩ (X2.upd (.head _) (.lst B2.hb) _)
      · rintro σ H2 ⟨rfl, rfl⟩
        refine ⟨_, rfl, _, _, rfl, rfl, .inr ⟨by decide, by decide⟩, _, rfl, _, _, _, _, rfl, rfl, SqL.of B2.hb, rfl, _, _, rfl, rfl, .inr ⟨by decide, by decide⟩, _, _, rfl, rfl, _, _, rfl, rfl, .inl ⟨_, rfl, _, _, rfl, rfl, pm (by decide), ?_⟩⟩
        refine ⟨_, rfl, _, rfl, _, _, rfl, rfl, .inl ⟨by omega, by omega⟩, _, rfl, _, _, _, _, rfl, rfl, SqL.of B2.hb, rfl, _, _, rfl, rfl, .inr ⟨by decide, by decide⟩, _, _, rfl, rfl, .inl ⟨_, rfl, _, _, rfl, rfl, pm (by decide), ?_⟩⟩
        refine ⟨_, rfl, _, rfl, _, _, rfl, rfl, .inl ⟨by omega, by omega⟩, _, rfl, _, _, rfl, rfl, dvw (by decide) (by decide +kernel) _, _, _, rfl, rfl, .inl ⟨_, rfl, _, _, rfl, rfl, pm (by decide), ?_⟩⟩
        refine ⟨_, rfl, _, _, rfl, rfl, dvw (by decide) (by decide +kernel) _, .inl ⟨_, rfl, _, rfl, _, _, rfl, rfl, pm m0, ?_⟩⟩
        exact k _ _ (Int.emod_nonneg _ (by omega)) (Int.emod_lt_of_pos _ m0) ⟨_, _, _, _, B2⟩ X2
end
end K24

set_option Elab.async false
set_option maxRecDepth 100000
set_option maxHeartbeats 4000000
set_option exponentiation.threshold 4096
/-! bits and patience as they are drawn -/
namespace K24
open PySem PySem.Spec PyProof.Rows L2 C8 LamX UF
def spBits : Sp := fun vs H Q _ => ∃ (b c : Addr), vs = [.ref b] ∧ Box H b c ∧ ∀ (n : Nat) (H' : Hp), 1 ≤ n → n ≤ 8 → Box H' b c → Fr [b] H H' → Q (.int (n : Int)) H'
section
variable {P : Program} {w : World} {K : PySem.W.Frag} {mg : Str → Option Value} {base : Heap}
theorem c_law_bits (c_law_draw : Cal P w K mg base 1 "_law_draw" spDraw []) (d : D0 K mg "_law_bits" s_law_bits ["box"]) : Cal P w K mg base 2 "_law_bits" spBits [] := by
  refine cal d sc_law_bits (fun vs H Q E h => ?_) (fun cdv A outer f s H vs Q E hr h => ?_)
  · obtain ⟨b, c, rfl, _⟩ := h
    rfl
  · obtain ⟨b, c, rfl, B, k⟩ := h
    refine ⟨_, (pss_cons (ps_set (i := 1) sc_law_bits.nd rfl (Or.inl rfl) (pe_c c_law_draw hr (by decide) rfl (pa_cons (pv 0) (pa_cons pe_int pa_nil))))
      (pss_cons (ps_if (pt_cmpR op_lt (pv 1) pe_int (nomark _)) (pss_one (ps_ret pe_int)) pss_nil)
      (pss_cons (ps_if (pt_cmpR op_lt (pv 1) pe_int (nomark _)) (pss_one (ps_ret pe_int)) pss_nil)
      (pss_one (ps_ret (pe_op op_add pe_int (pe_c c_law_draw hr (by decide) rfl (pa_cons (pv 0) (pa_cons pe_int pa_nil))))))))), ?_⟩
    refine ⟨_, rfl, b, c, 8, rfl, B, by decide, by decide +kernel, fun d1 H1 a1 a2 B1 X1 => ?_⟩
    refine ⟨_, rfl, _, _, rfl, rfl, _, rfl, ite2 (fun _ => k 2 H1 (by decide) (by decide) B1 X1) (fun _ => ?_)⟩
    refine ⟨_, rfl, _, _, rfl, rfl, _, rfl, ite2 (fun _ => k 3 H1 (by decide) (by decide) B1 X1) (fun _ => ?_)⟩
    refine ⟨_, rfl, b, c, 8, rfl, B1, by decide, by decide +kernel, fun d2 H2 b1 b2 B2 X2 => ?_⟩
    obtain ⟨j, rfl⟩ := Int.eq_ofNat_of_zero_le b1
    refine ⟨_, _, rfl, rfl, ?_⟩
    have z := k (1 + j) H2 (by omega) (by omega) B2 (X1.trans X2)
    rw [show ((1 + j : Nat) : Int) = 1 + (j : Int) by omega] at z
    exact z
end
def spPat : Sp := fun vs H Q _ => ∃ (b c : Addr), vs = [.ref b] ∧ Box H b c ∧ ∀ (n : Nat) (H' : Hp), 1 ≤ n → n ≤ 6 → Box H' b c → Fr [b] H H' → Q (.int (n : Int)) H'
section
variable {P : Program} {w : World} {K : PySem.W.Frag} {mg : Str → Option Value} {base : Heap}
theorem c_law_patience (c_law_draw : Cal P w K mg base 1 "_law_draw" spDraw []) (d : D0 K mg "_law_patience" s_law_patience ["box"]) : Cal P w K mg base 2 "_law_patience" spPat [] := by
  refine cal d sc_law_patience (fun vs H Q E h => ?_) (fun cdv A outer f s H vs Q E hr h => ?_)
  · obtain ⟨b, c, rfl, _⟩ := h
    rfl
  · obtain ⟨b, c, rfl, B, k⟩ := h
    refine ⟨_, (pss_cons (ps_set (i := 1) sc_law_patience.nd rfl (Or.inl rfl) (pe_c c_law_draw hr (by decide) rfl (pa_cons (pv 0) (pa_cons pe_int pa_nil))))
      (pss_cons (ps_if (pt_cmpR op_lt (pv 1) pe_int (nomark _)) (pss_one (ps_ret pe_int)) pss_nil)
      (pss_cons (ps_if (pt_cmpR op_lt (pv 1) pe_int (nomark _)) (pss_one (ps_ret pe_int)) pss_nil)
      (pss_one (ps_ret (pe_op op_add pe_int (pe_c c_law_draw hr (by decide) rfl (pa_cons (pv 0) (pa_cons pe_int pa_nil))))))))), ?_⟩
    refine ⟨_, rfl, b, c, 6, rfl, B, by decide, by decide +kernel, fun d1 H1 a1 a2 B1 X1 => ?_⟩
    refine ⟨_, rfl, _, _, rfl, rfl, _, rfl, ite2 (fun _ => k 1 H1 (by decide) (by decide) B1 X1) (fun _ => ?_)⟩
    refine ⟨_, rfl, _, _, rfl, rfl, _, rfl, ite2 (fun _ => k 2 H1 (by decide) (by decide) B1 X1) (fun _ => ?_)⟩
    refine ⟨_, rfl, b, c, 6, rfl, B1, by decide, by decide +kernel, fun d2 H2 b1 b2 B2 X2 => ?_⟩
    obtain ⟨j, rfl⟩ := Int.eq_ofNat_of_zero_le b1
    refine ⟨_, _, rfl, rfl, ?_⟩
    have z := k (1 + j) H2 (by omega) (by omega) B2 (X1.trans X2)
    rw [show ((1 + j : Nat) : Int) = 1 + (j : Int) by omega] at z
    exact z
end
end K24

set_option Elab.async false
set_option maxRecDepth 100000
set_option maxHeartbeats 4000000
set_option exponentiation.threshold 4096
/-! the ring: seats, distance -/
namespace K24
open PySem PySem.Spec PyProof.Rows L2 C8 LamX UF
/-- a setting of n bits at q -/
def SetN (C : Addr) (H : Hp) (q : Addr) (n : Nat) : Prop := ∃ p r g h : Int, SetO C H q (n : Int) p r g h
theorem SetN.fr {C : Addr} {H H' : Hp} {q : Addr} {n : Nat} {ds : List Addr} (s : SetN C H q n) (x : Fr ds H H') (m : q ∉ ds) : SetN C H' q n := by
  obtain ⟨p, r, g, h, z⟩ := s
  exact ⟨p, r, g, h, z.fr x m⟩
theorem SetN.fw {C : Addr} {H H' : Hp} {q : Addr} {n : Nat} {ds : List Addr} (s : SetN C H q n) (x : Fw ds H H') (m : q ∉ ds) : SetN C H' q n := by
  obtain ⟨p, r, g, h, z⟩ := s
  exact ⟨p, r, g, h, z.fw x m⟩
def spSeats (C : Addr) : Sp := fun vs H Q _ => ∃ (q : Addr) (n : Nat), vs = [.ref q] ∧ SetN C H q n ∧ n ≤ 8 ∧ Q (.int (ringN n)) H
def spDist (C : Addr) : Sp := fun vs H Q _ => ∃ (q : Addr) (a b : Int) (n : Nat), vs = [.ref q, .int a, .int b] ∧ SetN C H q n ∧ n ≤ 8 ∧ Q (.int ((b - a) % ringN n)) H
section
variable {P : Program} {w : World} {K : PySem.W.Frag} {mg : Str → Option Value} {base : Heap} {C : Addr}
theorem p_seats (ST : T_Setting K mg C) : Prp P w K mg base 1 C "seats" (spSeats C) := by
  refine prp ST.p_seats ST.cl sc_Setting_seats (fun vs H Q E h => ?_) (fun cdv A outer f s H vs Q E hr h => ?_)
  · obtain ⟨q, n, rfl, _⟩ := h
    rfl
  · obtain ⟨q, n, rfl, ⟨p, r, g, h, dx, e⟩, hn, k⟩ := h
    refine ⟨_, (pss_one (ps_ret (pe_op op_shl pe_int (pe_fld (pv 0) rfl)))), ?_⟩
    refine ⟨_, rfl, q, C, dx, _, _, rfl, e, ST.cl, ST.n_bits, fs5_bits, _, _, rfl, rfl, ⟨by omega, by omega, by decide⟩, ?_⟩
    show Q (.int (1 * 2 ^ ((n : Int)).toNat)) H
    rw [shl_eq]
    exact k
theorem c_distance (p_seats : Prp P w K mg base 1 C "seats" (spSeats C)) (d : D0 K mg "distance" s_distance ["setting", "seat", "other"]) : Cal P w K mg base 3 "distance" (spDist C) [] := by
  refine cal d sc_distance (fun vs H Q E h => ?_) (fun cdv A outer f s H vs Q E hr h => ?_)
  · obtain ⟨q, a, b, n, rfl, _⟩ := h
    rfl
  · obtain ⟨q, a, b, n, rfl, hs, hn, k⟩ := h
    refine ⟨_, (pss_one (ps_ret (pe_op op_mod (pe_op op_sub (pv 2) (pv 1)) (pe_pr p_seats hr (by decide) (pv 0))))), ?_⟩
    obtain ⟨p, r, g, h, dx, e⟩ := id hs
    refine ⟨_, rfl, _, rfl, _, _, rfl, rfl, _, rfl, q, dx, _, rfl, e, q, n, rfl, hs, hn, _, _, rfl, rfl, pm (ring_pos n), k⟩
end
end K24

set_option Elab.async false
set_option maxRecDepth 100000
set_option maxHeartbeats 4000000
set_option exponentiation.threshold 4096
/-! the first seat met -/
namespace K24
open PySem PySem.Spec PyProof.Rows L2 C8 LamX NdefX MinL UF
def lamQ : Str := (envOfC ("first_from" : Str) (C8.fnScope s_first_from) 0 0 .none).qual ++ "<lambda>"
theorem lam_free : ∀ y ∈ ([("seat", .local), ("place", .free), ("setting", .free), ("distance", .globalImplicit)] : List (Str × NameKind)), y.2 = .free → (C8.fnScope s_first_from).names.lookup y.1 = some .cell ∨ (C8.fnScope s_first_from).names.lookup y.1 = some .free := by decide +kernel
/-- the table of first_from's code -/
abbrev TT (t : Addr) : List (Addr × Str) := [(t, lamQ)]
/-- a first seat of ns on a walk from place -/
def IsFirst (r place : Int) (ns : List Int) (o : Option Int) : Prop := (ns = [] ∧ o = none) ∨ ∃ m, o = some m ∧ m ∈ ns ∧ ∀ k ∈ ns, (m - place) % r ≤ (k - place) % r
def optV : Option Int → V
  | none => .non
  | some m => .int m
def spFirst (C t : Addr) : Sp := fun vs H Q _ => ∃ (q : Addr) (place : Int) (l : Addr) (n : Nat) (ns : List Int), vs = [.ref q, .int place, .ref l] ∧ SetN C H q n ∧ n ≤ 8 ∧ H l = some (.lst (ns.map V.int)) ∧ Tabs (TT t) H ∧
  ∀ (o : Option Int) (H' : Hp), Fw [] H H' → Tabs (TT t) H' → IsFirst (ringN n) place ns o → Q (optV o) H'
theorem first_uniq {r place : Int} {ns : List Int} {o o' : Option Int} (h0 : ∀ x ∈ ns, 0 ≤ x) (h1 : ∀ x ∈ ns, x < r) (h : IsFirst r place ns o) (h' : IsFirst r place ns o') : o = o' := by
  rcases h with ⟨e, rfl⟩ | ⟨m, rfl, hm, bm⟩
  · rcases h' with ⟨_, rfl⟩ | ⟨m, _, hm, _⟩
    · rfl
    · rw [e] at hm
      cases hm
  · rcases h' with ⟨e, _⟩ | ⟨m', rfl, hm', bm'⟩
    · rw [e] at hm
      cases hm
    · have e := Int.le_antisymm (bm m' hm') (bm' m hm)
      rw [← back (s := place) (h0 m hm) (h1 m hm), ← back (s := place) (h0 m' hm') (h1 m' hm'), e]
section
variable {P : Program} {w : World} {K : PySem.W.Frag} {mg : Str → Option Value} {base : Heap} {C : Addr}
theorem c_first_from {c t : Addr} (T : Bl mg) (c_distance : Cal P w K mg base 3 "distance" (spDist C) []) (d : D1 K mg "first_from" s_first_from c) (TB : TabB base mg c t) : Cal P w K mg base 7 "first_from" (spFirst C t) [] := by
  obtain ⟨f, oc, od, kV, doc, pm, an, ct, osl, lk, hcd, hm, kp⟩ := d.ex
  refine ⟨f, PySem.W.fnOf "first_from" "first_from" (C8.fnArgs s_first_from) (C8.fnBody s_first_from) (C8.fnScope s_first_from) .none kV doc pm an (.ref c) ct, n_first_from, [], ?_, hm, kp, .all fun us hl => match us, hl with | [_, _, _], _ => rfl, .nil⟩
  refine fn_of lk hcd sc_first_from (fun vs H Q E h => ?_) (fun A outer s H vs Q E hr h => ?_)
  · obtain ⟨q, place, l, n, ns, rfl, _⟩ := h
    rfl
  · obtain ⟨q, place, l, n, ns, rfl, hs, hn, hl, hT, k⟩ := h
    refine ⟨_, PSs.nox (pss_one (ps_ret (pe_minLam (T := TT t) (a := "seat") (fr := ["setting", "place"]) (js := [0, 1]) (N := ["seat", "setting", "place"]) (k := 4) (by rfl) T.min (pv 2) TB rfl (.head _) (fun p hp _ => by cases hp with
      | head => rfl
      | tail _ hp => cases hp) rfl hr (nscope_by (by decide +kernel)) lam_free (by decide +kernel) (by rfl) rfl (fun _ _ _ _ _ _ => rfl)
      (fun c' A outer s H f hr => pe_c c_distance hr (by decide) rfl (pa_cons (pv 1) (pa_cons (pv 2) (pa_cons (pv 0) pa_nil))))))), ?_⟩
    refine ⟨_, rfl, hT, l, ns, fun x => (x - place) % ringN n, rfl, hl, fun H2 eN T2 => ?_⟩
    refine ⟨fun x hx => ?_, fun hz => k none H2 (Fw.ext eN) T2 (.inl ⟨hz, rfl⟩), fun m hm best => k (some m) H2 (Fw.ext eN) T2 (.inr ⟨m, rfl, hm, best⟩)⟩
    refine ⟨_, rfl, _, rfl, _, rfl, q, place, x, n, rfl, hs.fw (Fw.ext (ds := []) eN) not_nil, hn, rfl, rfl⟩
end
end K24

set_option Elab.async false
set_option maxRecDepth 100000
set_option maxHeartbeats 4000000
set_option exponentiation.threshold 4096
/-! the class Tour -/
namespace K24
open PySem PySem.Spec PyProof.Rows L2 C8 LamX UF
structure TS where
  cur : Option Int
  bad : Int
  last : Int
  op : Bool
def ft6 (a b c d e f : V) : List (Str × V) := [("setting", a), ("current", b), ("failed", c), ("_last", d), ("_goes_on", e), ("_passes", f)]
section
variable {a b c d e f v : V}
theorem ft_set : (ft6 a b c d e f).lookup ("setting" : Str) = some a := by kernel_rfl
theorem ft_cur : (ft6 a b c d e f).lookup ("current" : Str) = some b := by kernel_rfl
theorem ft_bad : (ft6 a b c d e f).lookup ("failed" : Str) = some c := by kernel_rfl
theorem ft_last : (ft6 a b c d e f).lookup ("_last" : Str) = some d := by kernel_rfl
theorem ft_op : (ft6 a b c d e f).lookup ("_goes_on" : Str) = some e := by kernel_rfl
theorem ft_ps : (ft6 a b c d e f).lookup ("_passes" : Str) = some f := by kernel_rfl
theorem ft_begin : (ft6 a b c d e f).lookup ("_begin" : Str) = none := by kernel_rfl
theorem ft_passes : (ft6 a b c d e f).lookup ("passes" : Str) = none := by kernel_rfl
theorem ft_aim : (ft6 a b c d e f).lookup ("aim" : Str) = none := by kernel_rfl
theorem ft_report : (ft6 a b c d e f).lookup ("report" : Str) = none := by kernel_rfl
theorem fp_cur : putF ("current" : Str) v (ft6 a b c d e f) = ft6 a v c d e f := by kernel_rfl
theorem fp_bad : putF ("failed" : Str) v (ft6 a b c d e f) = ft6 a b v d e f := by kernel_rfl
theorem fp_last : putF ("_last" : Str) v (ft6 a b c d e f) = ft6 a b c v e f := by kernel_rfl
theorem fp_op : putF ("_goes_on" : Str) v (ft6 a b c d e f) = ft6 a b c d v f := by kernel_rfl
theorem ft_len : (ft6 a b c d e f).length < 1000 := by show 6 < 1000; decide
theorem fi_all : putF ("_passes" : Str) f (putF ("_goes_on" : Str) e (putF ("_last" : Str) d (putF ("failed" : Str) c (putF ("current" : Str) b (putF ("setting" : Str) a []))))) = ft6 a b c d e f := by kernel_rfl
end
def TourAt (C : Addr) (H : Hp) (a x D : Addr) (s : TS) : Prop := ∃ dx, H a = some (.ins C dx (ft6 (.ref x) (optV s.cur) (.int s.bad) (.int s.last) (.bl s.op) (.ref D)))
theorem TourAt.fw {C : Addr} {H H' : Hp} {a x D : Addr} {s : TS} {ds : List Addr} (h : TourAt C H a x D s) (f : Fw ds H H') (n : a ∉ ds) : TourAt C H' a x D s := h.imp fun _ e => f.ins e n
theorem TourAt.fr {C : Addr} {H H' : Hp} {a x D : Addr} {s : TS} {ds : List Addr} (h : TourAt C H a x D s) (f : Fr ds H H') (n : a ∉ ds) : TourAt C H' a x D s := h.fw f.w n
/-- the dict at D holds whole numbers, at most n -/
def PsAt (H : Hp) (D : Addr) (n : Nat) : Prop := ∃ kvs : List (Key × V), H D = some (.dK kvs) ∧ kvs.length ≤ n ∧ ∀ k v, valV kvs k = some v → ∃ i : Int, v = .int i
theorem PsAt.fw {H H' : Hp} {D : Addr} {n : Nat} {ds : List Addr} (h : PsAt H D n) (f : Fw ds H H') (m : D ∉ ds) : PsAt H' D n := h.imp fun _ e => ⟨f.dK e.1 m, e.2⟩
theorem PsAt.le {H : Hp} {D : Addr} {n m : Nat} (h : PsAt H D n) (l : n ≤ m) : PsAt H D m := h.imp fun _ e => ⟨e.1, Nat.le_trans e.2.1 l, e.2.2⟩
def TS.ok (s : TS) : Prop := s.op = true → ∃ m, s.cur = some m
def stays (s : TS) (ns : List Int) : Bool := s.op && (match s.cur with
  | some m => decide (m ∈ ns)
  | none => false)
def begS (s : TS) (o : Option Int) : TS := ⟨o, 0, o.getD s.last, o.isSome⟩
def AimR (r : Int) (s : TS) (ns : List Int) (s' : TS) : Prop := (stays s ns = true ∧ s' = s) ∨ (stays s ns = false ∧ ∃ o, IsFirst r (s.last + 1) ns o ∧ s' = begS s o)
def repS (p : Int) (s : TS) (b : Bool) : TS := if s.op = true then (if b = true then { s with op := false } else { s with bad := s.bad + 1, op := decide (s.bad + 1 < p) }) else s
def spTinit (C : Addr) : Sp := fun vs H Q _ => ∃ (a dx x : Addr) (seat : Int) (o : Option Int), vs = [.ref a, .ref x, .int seat, optV o] ∧ H a = some (.ins C dx []) ∧ ∀ (D : Addr) (H' : Hp), Nw H D → TourAt C H' a x D ⟨none, 0, o.getD seat, false⟩ → H' D = some (.dK []) → Fr [a] H H' → Q .non H'
def spPasses (C : Addr) : Sp := fun vs H Q _ => ∃ (a x D : Addr) (s : TS) (n : Nat) (m : Int), vs = [.ref a, .int m] ∧ TourAt C H a x D s ∧ PsAt H D n ∧ ∀ i : Int, Q (.int i) H
def spBegin (C : Addr) : Sp := fun vs H Q _ => ∃ (a x D : Addr) (s : TS) (o : Option Int), vs = [.ref a, optV o] ∧ TourAt C H a x D s ∧ ∀ H' : Hp, Fr [a] H H' → TourAt C H' a x D (begS s o) → Q .non H'
def spAim (C S t : Addr) : Sp := fun vs H Q _ => ∃ (a x D l : Addr) (s : TS) (n : Nat) (ns : List Int), vs = [.ref a, .ref l] ∧ TourAt C H a x D s ∧ s.ok ∧ SetN S H x n ∧ n ≤ 8 ∧ H l = some (.lst (ns.map V.int)) ∧ Tabs (TT t) H ∧
  ∀ (s' : TS) (H' : Hp), Fw [a] H H' → Tabs (TT t) H' → TourAt C H' a x D s' → AimR (ringN n) s ns s' → Q (optV s'.cur) H'
def spReport (C S : Addr) : Sp := fun vs H Q _ => ∃ (a x D : Addr) (s : TS) (b : Bool) (k : Nat) (n p r g h : Int), vs = [.ref a, .bl b] ∧ TourAt C H a x D s ∧ s.ok ∧ PsAt H D k ∧ k ≤ 1000 ∧ SetO S H x n p r g h ∧
  ∀ H' : Hp, Fr [a, D] H H' → TourAt C H' a x D (repS p s b) → PsAt H' D (k + 1) → Q .non H'
section
variable {P : Program} {w : World} {K : PySem.W.Frag} {mg : Str → Option Value} {base : Heap} {C S : Addr}
theorem f_tinit (M : T_Tour K mg C) {f : Addr} {fd : FuncData} (F : FunD K "__init__" "Tour.__init__" (C8.fnArgs s_Tour__init) (C8.fnBody s_Tour__init) (C8.fnScope s_Tour__init) [] [("behind", .non)] f fd) : FnOk P w K mg base C8.CX0 1 f fd ["self", "setting", "seat", "behind"] (spTinit C) := by
  refine F.ok (N := n_Tour__init) sc_Tour__init (fun vs H Q E h => ?_) (fun cdv A outer s H vs Q E hr h => ?_)
  · obtain ⟨a, dx, x, seat, o, rfl, _⟩ := h
    rfl
  · obtain ⟨a, dx, x, seat, o, rfl, ha, k⟩ := h
    refine ⟨_, PSs.nox (pss_cons (ps_fld (pv 0) (pv 1) rfl)
      (pss_cons (ps_fld (pv 0) pe_non rfl)
      (pss_cons (ps_fld (pv 0) pe_int rfl)
      (pss_cons (ps_fld (pv 0) (pe_ifExp (pt_cmp (pc_isN (pv 3))) (pv 2) (pv 3)) rfl)
      (pss_cons (ps_fld (pv 0) pe_bl rfl)
      (pss_one (ps_fld (pv 0) pe_dnewK rfl))))))), ?_⟩
    cases o with
    | none =>
      have e6 := fun D : Addr => fi_all (a := V.ref x) (b := V.non) (c := V.int 0) (d := V.int (seat)) (e := V.bl false) (f := V.ref D)
      refine ⟨_, rfl, _, rfl, a, C, dx, _, rfl, ha, M.cl, M.n_setting, by show 0 < 1000; decide, ?_⟩
      generalize e1 : putF ("setting" : Str) (V.ref x) [] = f1 at e6
      refine ⟨_, rfl, a, C, dx, _, rfl, upd_same, M.cl, M.n_current, by subst e1; show 1 < 1000; decide, ?_⟩
      generalize e2 : putF ("current" : Str) V.non f1 = f2 at e6
      have l1 : f1.length ≤ 1 := by subst e1; exact putF_len _ _ _
      have l2 : f2.length ≤ 2 := by subst e2; exact Nat.le_trans (putF_len _ _ _) (by omega)
      refine ⟨_, rfl, a, C, dx, _, rfl, upd_same, M.cl, M.n_failed, by omega, ?_⟩
      generalize e3 : putF ("failed" : Str) (V.int 0) f2 = f3 at e6
      have l3 : f3.length ≤ 3 := by subst e3; exact Nat.le_trans (putF_len _ _ _) (by omega)
      refine ⟨_, rfl, _, rfl, iteT ⟨_, rfl, _, rfl, a, C, dx, _, rfl, upd_same, M.cl, M.n_last, by omega, ?_⟩⟩
      generalize e4 : putF ("_last" : Str) (V.int (seat)) f3 = f4 at e6
      have l4 : f4.length ≤ 4 := by subst e4; exact Nat.le_trans (putF_len _ _ _) (by omega)
      refine ⟨_, rfl, a, C, dx, _, rfl, upd_same, M.cl, M.n_goes_on, by omega, ?_⟩
      generalize e5 : putF ("_goes_on" : Str) (V.bl false) f4 = f5 at e6
      have l5 : f5.length ≤ 5 := by subst e5; exact Nat.le_trans (putF_len _ _ _) (by omega)
      intro D nD
      have X5 := (((((Fr.refl [a] H).upd (.head _) (.ins ha) (.ins C dx f1)).upd (.head _) (.ins upd_same) (.ins C dx f2)).upd (.head _) (.ins upd_same) (.ins C dx f3)).upd (.head _) (.ins upd_same) (.ins C dx f4)).upd (.head _) (.ins upd_same) (.ins C dx f5)
      have aD : a ≠ D := ne_of_none upd_same nD
      refine ⟨_, rfl, a, C, dx, _, rfl, (by rw [upd_ne aD, upd_same]), M.cl, M.n_passes, by omega, ?_⟩
      rw [e6 D]
      exact k D _ (X5.live D (.of nD)) ⟨dx, upd_same⟩ (by rw [upd_ne aD.symm, upd_same]) ((X5.new nD (.dK [])).upd (.head _) (.ins (by rw [upd_ne aD, upd_same])) _)
    | some m =>
      have e6 := fun D : Addr => fi_all (a := V.ref x) (b := V.non) (c := V.int 0) (d := optV (some m)) (e := V.bl false) (f := V.ref D)
      refine ⟨_, rfl, _, rfl, a, C, dx, _, rfl, ha, M.cl, M.n_setting, by show 0 < 1000; decide, ?_⟩
      generalize e1 : putF ("setting" : Str) (V.ref x) [] = f1 at e6
      refine ⟨_, rfl, a, C, dx, _, rfl, upd_same, M.cl, M.n_current, by subst e1; show 1 < 1000; decide, ?_⟩
      generalize e2 : putF ("current" : Str) V.non f1 = f2 at e6
      have l1 : f1.length ≤ 1 := by subst e1; exact putF_len _ _ _
      have l2 : f2.length ≤ 2 := by subst e2; exact Nat.le_trans (putF_len _ _ _) (by omega)
      refine ⟨_, rfl, a, C, dx, _, rfl, upd_same, M.cl, M.n_failed, by omega, ?_⟩
      generalize e3 : putF ("failed" : Str) (V.int 0) f2 = f3 at e6
      have l3 : f3.length ≤ 3 := by subst e3; exact Nat.le_trans (putF_len _ _ _) (by omega)
      refine ⟨_, rfl, _, rfl, iteF ⟨_, rfl, _, rfl, a, C, dx, _, rfl, upd_same, M.cl, M.n_last, by omega, ?_⟩⟩
      generalize e4 : putF ("_last" : Str) (optV (some m)) f3 = f4 at e6
      have l4 : f4.length ≤ 4 := by subst e4; exact Nat.le_trans (putF_len _ _ _) (by omega)
      refine ⟨_, rfl, a, C, dx, _, rfl, upd_same, M.cl, M.n_goes_on, by omega, ?_⟩
      generalize e5 : putF ("_goes_on" : Str) (V.bl false) f4 = f5 at e6
      have l5 : f5.length ≤ 5 := by subst e5; exact Nat.le_trans (putF_len _ _ _) (by omega)
      intro D nD
      have X5 := (((((Fr.refl [a] H).upd (.head _) (.ins ha) (.ins C dx f1)).upd (.head _) (.ins upd_same) (.ins C dx f2)).upd (.head _) (.ins upd_same) (.ins C dx f3)).upd (.head _) (.ins upd_same) (.ins C dx f4)).upd (.head _) (.ins upd_same) (.ins C dx f5)
      have aD : a ≠ D := ne_of_none upd_same nD
      refine ⟨_, rfl, a, C, dx, _, rfl, (by rw [upd_ne aD, upd_same]), M.cl, M.n_passes, by omega, ?_⟩
      rw [e6 D]
      exact k D _ (X5.live D (.of nD)) ⟨dx, upd_same⟩ (by rw [upd_ne aD.symm, upd_same]) ((X5.new nD (.dK [])).upd (.head _) (.ins (by rw [upd_ne aD, upd_same])) _)
/-- Tour(setting, seat) -/
theorem c_Tour (M : T_Tour K mg C) : Mak P w K mg base 1 "Tour" C (spTinit C) [.non] := by
  obtain ⟨f, fd, Mk, F⟩ := M.ini
  obtain ⟨ds, r, b⟩ := F.binds0 (ps := ["self", "setting", "seat", "behind"]) 3 (by decide) rfl (fun D doc pm an cdv ct us ks hl hk => match us, hl, ks, hk with
      | [_, _, _], _, [_], _ => ⟨_, _, _, _, _, _, rfl, rfl, rfl⟩)
  exact ⟨f, fd, _, ds, Mk, f_tinit M F, M.mgC, b, r⟩
theorem m_passes (M : T_Tour K mg C) : Met P w K mg base 1 C "passes" (spPasses C) [] := by
  refine met M.m_passes M.cl sc_Tour_passes (fun vs H Q E h => ?_) (fun cdv A outer f s0 H vs Q E hr h => ?_)
  · obtain ⟨a, x, D, s, n, m, rfl, _⟩ := h
    rfl
  · obtain ⟨a, x, D, s, n, m, rfl, ⟨dx, ha⟩, ⟨kvs, e, _, hv⟩, k⟩ := h
    refine ⟨_, (pss_one (ps_ret (pe_dget2 (u1 hr) (pe_fld (pv 0) rfl) (pv 1) pe_int (M2.mk (by rfl) (by rfl) (by rfl) (by rfl))))), ?_⟩
    refine ⟨_, rfl, a, C, dx, _, _, rfl, ha, M.cl, M.n_passes, ft_ps, D, rfl, .inl ⟨_, .inl e⟩, _, rfl, _, DGet.k (k := .inl m) e, ?_⟩
    cases q : valV kvs (.inl m) with
    | none => exact k 0
    | some v =>
      obtain ⟨i, rfl⟩ := hv _ _ q
      exact k i
theorem m_begin (M : T_Tour K mg C) : Met P w K mg base 1 C "_begin" (spBegin C) [] := by
  refine met M.m_begin M.cl sc_Tour_begin (fun vs H Q E h => ?_) (fun cdv A outer f s0 H vs Q E hr h => ?_)
  · obtain ⟨a, x, D, s, o, rfl, _⟩ := h
    rfl
  · obtain ⟨a, x, D, s, o, rfl, ⟨dx, ha⟩, k⟩ := h
    refine ⟨_, (pss_cons (ps_fld (pv 0) (pv 1) rfl)
      (pss_cons (ps_fld (pv 0) pe_int rfl)
      (pss_cons (ps_fld (pv 0) (pe_cmp (pc_notN (pv 1))) rfl)
      (pss_one (ps_if (pt_cmp (pc_notN (pv 1))) (pss_one (ps_fld (pv 0) (pv 1) rfl)) pss_nil))))), ?_⟩
    refine ⟨_, rfl, _, rfl, a, C, dx, _, rfl, ha, M.cl, M.n_current, ft_len, ?_⟩
    rw [fp_cur]
    have X1 := (Fr.refl [a] H).upd (.head _) (.ins ha) (.ins C dx (ft6 (.ref x) (optV o) (.int s.bad) (.int s.last) (.bl s.op) (.ref D)))
    refine ⟨_, rfl, a, C, dx, _, rfl, upd_same, M.cl, M.n_failed, ft_len, ?_⟩
    rw [fp_bad]
    have X2 := X1.upd (.head _) (.ins upd_same) (.ins C dx (ft6 (.ref x) (optV o) (.int 0) (.int s.last) (.bl s.op) (.ref D)))
    cases o with
    | none =>
      refine ⟨_, rfl, _, rfl, a, C, dx, _, rfl, upd_same, M.cl, M.n_goes_on, ft_len, ?_⟩
      rw [fp_op]
      refine ⟨_, rfl, _, rfl, iteF ?_⟩
      exact k _ (X2.upd (.head _) (.ins upd_same) _) ⟨dx, upd_same⟩
    | some m =>
      refine ⟨_, rfl, _, rfl, a, C, dx, _, rfl, upd_same, M.cl, M.n_goes_on, ft_len, ?_⟩
      rw [fp_op]
      refine ⟨_, rfl, _, rfl, iteT ?_⟩
      refine ⟨_, rfl, _, rfl, a, C, dx, _, rfl, upd_same, M.cl, M.n_last, ft_len, ?_⟩
      rw [fp_last]
      exact k _ ((X2.upd (.head _) (.ins upd_same) (.ins C dx (ft6 (.ref x) (.int m) (.int 0) (.int s.last) (.bl true) (.ref D)))).upd (.head _) (.ins upd_same) _) ⟨dx, upd_same⟩
theorem m_aim {t : Addr} (M : T_Tour K mg C) (m_begin : Met P w K mg base 1 C "_begin" (spBegin C) []) (c_first_from : Cal P w K mg base 7 "first_from" (spFirst S t) []) : Met P w K mg base 8 C "aim" (spAim C S t) [] := by
  refine met M.m_aim M.cl sc_Tour_aim (fun vs H Q E h => ?_) (fun cdv A outer f s0 H vs Q E hr h => ?_)
  · obtain ⟨a, x, D, l, s, n, ns, rfl, _⟩ := h
    rfl
  · obtain ⟨a, x, D, l, s, n, ns, rfl, ta, ok, hx, hn, hl, hT, k⟩ := h
    obtain ⟨dx, ha⟩ := id ta
    refine ⟨_, (pss_cons (ps_if (pt_not (PW.pt (pw_and (pt_val (pe_fld (pv 0) rfl)) (pw_and1 (pt_cmpR (show OpR _ (compareOp .In) (rIn K false) from op_in_seq) (pe_fld (pv 0) rfl) (pv 1) (by with_unfolding_all rfl)))))) (pss_one (ps_expr (pe_mt m_begin hr (by decide) (pv 0) (pa_cons (pe_c c_first_from hr (by decide) rfl (pa_cons (pe_fld (pv 0) rfl) (pa_cons (pe_op op_add (pe_fld (pv 0) rfl) pe_int) (pa_cons (pv 1) pa_nil)))) pa_nil)))) pss_nil)
      (pss_one (ps_ret (pe_fld (pv 0) rfl)))), ?_⟩
    refine ⟨_, rfl, a, C, dx, _, _, rfl, ha, M.cl, M.n_goes_on, ft_op, _, rfl, ?_⟩
    cases hop : s.op with
    | false =>
      have hst : stays s ns = false := by unfold stays; rw [hop]; rfl
      refine iteF (iteT ?_)
      refine ⟨_, rfl, a, dx, _, rfl, ha, ft_begin, _, rfl, a, C, dx, _, _, rfl, ha, M.cl, M.n_setting, ft_set, _, rfl, a, C, dx, _, _, rfl, ha, M.cl, M.n_last, ft_last, _, _, rfl, rfl, _, rfl, x, s.last + 1, l, n, ns, rfl, hx, hn, hl, hT, fun o H1 X1 T1 ho => ?_⟩
      refine ⟨a, x, D, s, o, rfl, ta.fw X1 not_nil, fun H2 X2 t2 => ?_⟩
      obtain ⟨dx2, ha2⟩ := id t2
      exact ⟨_, rfl, a, C, dx2, _, _, rfl, ha2, M.cl, M.n_current, ft_cur, k (begS s o) H2 ((X1.mono fun a q => nomatch q).trans X2.w) (X2.tabs _ T1) t2 (.inr ⟨hst, o, ho, rfl⟩)⟩
    | true =>
      obtain ⟨m, hm⟩ := ok hop
      have hcur : H a = some (.ins C dx (ft6 (.ref x) (.int m) (.int s.bad) (.int s.last) (.bl s.op) (.ref D))) := by rw [ha, hm]; rfl
      refine iteT ?_
      refine ⟨_, rfl, a, C, dx, _, _, rfl, hcur, M.cl, M.n_current, ft_cur, _, rfl, l, _, rfl, .inl (SqL.of hl), rfl, flat_ints ns, _, rfl, ?_⟩
      have hin : stays s ns = decide (m ∈ ns) := by unfold stays; rw [hop, hm]; rfl
      show (if (!inV (V.int m) (ns.map V.int)) = true then _ else _)
      rw [inV_ints]
      by_cases hmem : m ∈ ns
      · rw [decide_eq_true hmem]
        rw [decide_eq_true hmem] at hin
        exact iteF ⟨_, rfl, a, C, dx, _, _, rfl, ha, M.cl, M.n_current, ft_cur, k s H (Fw.refl _ _) hT ta (.inl ⟨hin, rfl⟩)⟩
      · rw [decide_eq_false hmem]
        rw [decide_eq_false hmem] at hin
        have hst := hin
        refine iteT ?_
        refine ⟨_, rfl, a, dx, _, rfl, ha, ft_begin, _, rfl, a, C, dx, _, _, rfl, ha, M.cl, M.n_setting, ft_set, _, rfl, a, C, dx, _, _, rfl, ha, M.cl, M.n_last, ft_last, _, _, rfl, rfl, _, rfl, x, s.last + 1, l, n, ns, rfl, hx, hn, hl, hT, fun o H1 X1 T1 ho => ?_⟩
        refine ⟨a, x, D, s, o, rfl, ta.fw X1 not_nil, fun H2 X2 t2 => ?_⟩
        obtain ⟨dx2, ha2⟩ := id t2
        exact ⟨_, rfl, a, C, dx2, _, _, rfl, ha2, M.cl, M.n_current, ft_cur, k (begS s o) H2 ((X1.mono fun a q => nomatch q).trans X2.w) (X2.tabs _ T1) t2 (.inr ⟨hst, o, ho, rfl⟩)⟩
theorem m_report (M : T_Tour K mg C) (ST : T_Setting K mg S) (m_passes : Met P w K mg base 1 C "passes" (spPasses C) []) : Met P w K mg base 2 C "report" (spReport C S) [] := by
  refine met M.m_report M.cl sc_Tour_report (fun vs H Q E h => ?_) (fun cdv A outer f s0 H vs Q E hr h => ?_)
  · obtain ⟨a, x, D, s, b, k, n, p, r, g, h, rfl, _⟩ := h
    rfl
  · obtain ⟨a, x, D, s, b, kk, n, p, r, g, h, rfl, ta, ok, ps, hk, hx, k⟩ := h
    obtain ⟨dx, ha⟩ := id ta
    obtain ⟨dy, hy⟩ := id hx
    refine ⟨_, (pss_cons (ps_if (pt_not (pt_val (pe_fld (pv 0) rfl))) (pss_one (ps_retN)) pss_nil)
      (pss_cons (ps_if (pt_val (pv 1)) (pss_one (ps_asg (pe_op op_add (pe_mt m_passes hr (by decide) (pv 0) (pa_cons (pe_fld (pv 0) rfl) pa_nil)) pe_int) (pg_sub (pe_fld (pv 0) rfl) (pe_fld (pv 0) rfl) (set_dict (u1 hr))))) (pss_one (ps_fldaug (pv 0) pe_int in_add)))
      (pss_one (ps_fld (pv 0) (pe_and (pe_not (pv 1)) (pe_one (pe_cmpR op_lt (pe_fld (pv 0) rfl) (pe_fld (pe_fld (pv 0) rfl) rfl) (nomark _)))) rfl)))), ?_⟩
    refine ⟨_, rfl, a, C, dx, _, _, rfl, ha, M.cl, M.n_goes_on, ft_op, _, rfl, ?_⟩
    cases hop : s.op with
    | false =>
      have e : repS p s b = s := by unfold repS; rw [hop]; rfl
      rw [e] at k
      exact iteT (k H (Fr.refl _ _) ta (ps.le (Nat.le_succ _)))
    | true =>
      obtain ⟨m, hm⟩ := ok hop
      have hcur : H a = some (.ins C dx (ft6 (.ref x) (.int m) (.int s.bad) (.int s.last) (.bl s.op) (.ref D))) := by rw [ha, hm]; rfl
      obtain ⟨kvs, hD, hl, hv⟩ := id ps
      have aD : a ≠ D := fun z => by rw [z, hD] at ha; cases ha
      have xa : x ≠ a := fun z => by
        rw [z, ha] at hy
        injection hy with hy
        injection hy with _ _ hy
        have := congrArg List.length hy
        exact absurd this (by show ¬ (6 = 5); decide)
      have xD : x ≠ D := fun z => by rw [z, hD] at hy; cases hy
      refine iteF ?_
      cases b with
      | true =>
        have e : repS p s true = { s with op := false } := by unfold repS; rw [hop]; rfl
        rw [e] at k
        refine ⟨_, rfl, _, rfl, iteT ?_⟩
        refine ⟨_, rfl, a, dx, _, rfl, ha, ft_passes, _, rfl, a, C, dx, _, _, rfl, hcur, M.cl, M.n_current, ft_cur, a, x, D, s, kk, m, rfl, ta, ps, fun i => ?_⟩
        refine ⟨_, _, rfl, rfl, ?_⟩
        refine ⟨_, rfl, a, C, dx, _, _, rfl, ha, M.cl, M.n_passes, ft_ps, _, rfl, a, C, dx, _, _, rfl, hcur, M.cl, M.n_current, ft_cur, D, _, rfl, DPut.k (k := .inl m) hD (Nat.lt_of_le_of_lt (Nat.le_trans hl hk) (by decide)), ?_⟩
        have X1 := (Fr.refl [a, D] H).upd (.tail _ (.head _)) (.dK hD) (.dK (putK kvs (.inl m) (.int (i + 1))))
        have ha1 : (upd H D (.dK (putK kvs (.inl m) (.int (i + 1))))) a = some (.ins C dx (ft6 (.ref x) (optV s.cur) (.int s.bad) (.int s.last) (.bl s.op) (.ref D))) := by rw [upd_ne aD]; exact ha
        refine ⟨_, rfl, _, rfl, _, rfl, iteF ⟨_, rfl, a, C, dx, _, rfl, ha1, M.cl, M.n_goes_on, ft_len, ?_⟩⟩
        rw [fp_op]
        refine k _ (X1.upd (.head _) (.ins ha1) _) ⟨dx, upd_same⟩ ⟨_, by rw [upd_ne aD.symm, upd_same], Nat.le_trans (length_putK _ _ _) (Nat.succ_le_succ hl), fun q v hq => ?_⟩
        rw [valV_put] at hq
        split at hq
        · cases hq
          exact ⟨_, rfl⟩
        · exact hv q v hq
      | false =>
        have e : repS p s false = { s with bad := s.bad + 1, op := decide (s.bad + 1 < p) } := by unfold repS; rw [hop]; rfl
        rw [e] at k
        refine ⟨_, rfl, _, rfl, iteF ?_⟩
        refine ⟨_, rfl, a, C, dx, _, _, rfl, ha, M.cl, M.n_failed, ft_bad, _, _, rfl, rfl, _, _, ha, ft_len, ?_⟩
        rw [fp_bad]
        have X1 := (Fr.refl [a, D] H).upd (.head _) (.ins ha) (.ins C dx (ft6 (.ref x) (optV s.cur) (.int (s.bad + 1)) (.int s.last) (.bl s.op) (.ref D)))
        refine ⟨_, rfl, _, rfl, _, rfl, iteT ⟨_, rfl, a, C, dx, _, _, rfl, upd_same, M.cl, M.n_failed, ft_bad, _, rfl, a, C, dx, _, _, rfl, upd_same, M.cl, M.n_setting, ft_set, x, S, dy, _, _, rfl, (by rw [upd_ne xa]; exact hy), ST.cl, ST.n_patience, fs5_patience, _, _, rfl, rfl, ?_⟩⟩
        refine ⟨_, rfl, a, C, dx, _, rfl, upd_same, M.cl, M.n_goes_on, ft_len, ?_⟩
        rw [fp_op]
        exact k _ (X1.upd (.head _) (.ins upd_same) _) ⟨dx, upd_same⟩ ⟨kvs, by rw [upd_ne aD.symm, upd_ne aD.symm]; exact hD, Nat.le_succ_of_le hl, hv⟩
end
end K24

set_option Elab.async false
set_option maxRecDepth 100000
set_option maxHeartbeats 4000000
set_option exponentiation.threshold 4096
/-! the law's own state -/
namespace K24
open PySem PySem.Spec PyProof.Rows L2 C8 LamX UF
def st8 (r p own last cur op bad fl : V) : List (Key × V) := [(.inr "ring", r), (.inr "patience", p), (.inr "own", own), (.inr "last", last), (.inr "now", cur), (.inr "open", op), (.inr "bad", bad), (.inr "flags", fl)]
section
variable {r p own last cur op bad fl v : V}
theorem sg_ring : valV (st8 r p own last cur op bad fl) (.inr "ring") = some r := by kernel_rfl
theorem sg_pat : valV (st8 r p own last cur op bad fl) (.inr "patience") = some p := by kernel_rfl
theorem sg_own : valV (st8 r p own last cur op bad fl) (.inr "own") = some own := by kernel_rfl
theorem sg_last : valV (st8 r p own last cur op bad fl) (.inr "last") = some last := by kernel_rfl
theorem sg_now : valV (st8 r p own last cur op bad fl) (.inr "now") = some cur := by kernel_rfl
theorem sg_open : valV (st8 r p own last cur op bad fl) (.inr "open") = some op := by kernel_rfl
theorem sg_bad : valV (st8 r p own last cur op bad fl) (.inr "bad") = some bad := by kernel_rfl
theorem sg_flags : valV (st8 r p own last cur op bad fl) (.inr "flags") = some fl := by kernel_rfl
theorem su_last : putK (st8 r p own last cur op bad fl) (.inr "last") v = st8 r p own v cur op bad fl := by kernel_rfl
theorem su_now : putK (st8 r p own last cur op bad fl) (.inr "now") v = st8 r p own last v op bad fl := by kernel_rfl
theorem su_open : putK (st8 r p own last cur op bad fl) (.inr "open") v = st8 r p own last cur v bad fl := by kernel_rfl
theorem su_bad : putK (st8 r p own last cur op bad fl) (.inr "bad") v = st8 r p own last cur op v fl := by kernel_rfl
theorem su_flags : putK (st8 r p own last cur op bad fl) (.inr "flags") v = st8 r p own last cur op bad v := by kernel_rfl
variable {H : Hp} {e : Addr}
theorem sG {kvs : List (Key × V)} {k : Str} {x : V} (h : H e = some (.dK kvs)) (q : valV kvs (.inr k) = some x) : DGet H e (.str k) (some x) := by
  have z := DGet.k (k := .inr k) h
  rw [q] at z
  exact z
theorem sP {kvs kws : List (Key × V)} {k : Str} {x : V} (h : H e = some (.dK kvs)) (l : kvs.length ≤ 100) (q : putK kvs (.inr k) x = kws) : DPut H e (.str k) x (upd H e (.dK kws)) := by
  rw [← q]
  exact DPut.k (k := .inr k) h (Nat.lt_of_le_of_lt l (by decide))
theorem s8 : (st8 r p own last cur op bad fl).length ≤ 100 := by show 8 ≤ 100; decide
end
def stS (r p own : Int) (s : TS) (f : Addr) : List (Key × V) := st8 (.int r) (.int p) (.int own) (.int s.last) (optV s.cur) (.bl s.op) (.int s.bad) (.ref f)
structure LawSt (H : Hp) (e f : Addr) (r p own : Int) (s : TS) (fl : List Bool) : Prop where
  he : H e = some (.dK (stS r p own s f))
  hf : H f = some (.lst (fl.map V.bl))
  ln : fl.length = r.toNat
theorem LawSt.fw {H H' : Hp} {e f : Addr} {r p own : Int} {s : TS} {fl : List Bool} {ds : List Addr} (L : LawSt H e f r p own s fl) (x : Fw ds H H') (h1 : e ∉ ds) (h2 : f ∉ ds) : LawSt H' e f r p own s fl := ⟨x.dK L.he h1, x.lst L.hf h2, L.ln⟩
theorem LawSt.ne {H : Hp} {e f : Addr} {r p own : Int} {s : TS} {fl : List Bool} (L : LawSt H e f r p own s fl) : e ≠ f := fun z => by
  have h := L.he
  rw [z, L.hf] at h
  cases h
def flag (fl : List Bool) (x : Int) : Bool := fl.getD x.toNat false
theorem bl_at {fl : List Bool} {x : Int} (h0 : 0 ≤ x) (h1 : x < fl.length) : atI (fl.map V.bl) x = some (.bl (flag fl x)) := by
  obtain ⟨j, rfl⟩ := Int.eq_ofNat_of_zero_le h0
  have hl : j < fl.length := by omega
  refine atI_nat ?_
  rw [List.getElem?_map, List.getElem?_eq_getElem hl]
  unfold flag
  rw [List.getD_eq_getElem?_getD, Int.toNat_natCast, List.getElem?_eq_getElem hl]
  rfl
theorem ix_lt {n : Nat} {i : Int} (h0 : 0 ≤ i) (h1 : i < n) : ixN n i = some i.toNat := by
  unfold ixN
  rw [if_pos h0, if_pos h1]
theorem map_set {fl : List Bool} {i : Nat} {b : Bool} : (fl.map V.bl).set i (.bl b) = (fl.set i b).map V.bl := by rw [List.map_set]
def spFlags : Sp := fun vs H Q _ => ∃ (b c : Addr) (r own : Int), vs = [.ref b, .int r, .int own] ∧ Box H b c ∧ 2 ≤ r ∧ r ≤ 256 ∧
  ∀ (y : Addr) (fl : List Bool) (H' : Hp), Nw H y → Fr [b] H H' → Box H' b c → H' y = some (.lst (fl.map V.bl)) → fl.length = r.toNat → Q (.ref y) H'
def spLFirst : Sp := fun vs H Q _ => ∃ (r place : Int) (l : Addr) (ns : List Int), vs = [.int r, .int place, .ref l] ∧ 0 < r ∧ H l = some (.lst (ns.map V.int)) ∧ 0 < ns.length ∧ ns.length ≤ 1000 ∧ (∀ x ∈ ns, 0 ≤ x) ∧ (∀ x ∈ ns, x < r) ∧ ∀ (m : Int) (H' : Hp), Fr [] H H' → IsFirst r place ns (some m) → Q (.int m) H'
def spSame : Sp := fun vs H Q _ => ∃ o : Option Int, vs = [optV o, optV o] ∧ Q (.bl true) H
/-- what two heaps of one state share -/
def CurIn (s : TS) (r : Int) : Prop := ∀ m, s.cur = some m → 0 ≤ m ∧ m < r
def spTurn : Sp := fun vs H Q _ => ∃ (b c e f : Addr) (r p own : Int) (s : TS) (fl : List Bool), vs = [.ref b, .ref e] ∧ Box H b c ∧ LawSt H e f r p own s fl ∧ 2 ≤ r ∧ r ≤ 256 ∧ e ≠ b ∧ f ≠ b ∧ f ≠ c ∧
  ∀ (fl' : List Bool) (H' : Hp), Fr [b, f] H H' → Box H' b c → LawSt H' e f r p own s fl' → Q .non H'
def spNames : Sp := fun vs H Q _ => ∃ (b c e f : Addr) (r p own : Int) (s : TS) (fl : List Bool), vs = [.ref b, .ref e] ∧ Box H b c ∧ LawSt H e f r p own s fl ∧ 2 ≤ r ∧ r ≤ 256 ∧ e ≠ b ∧ e ≠ c ∧ f ≠ b ∧ f ≠ c ∧ CurIn s r ∧
  ∀ (y f' : Addr) (ns : List Int) (fl' : List Bool) (H' : Hp), Nw H y → (f' = f ∨ Nw H f') → y ≠ f' → Fr [b, e, f] H H' → Box H' b c → LawSt H' e f' r p own s fl' → H' y = some (.lst (ns.map V.int)) → Seats ns r → Q (.ref y) H'
def spFAim : Sp := fun vs H Q _ => ∃ (e f l : Addr) (r p own : Int) (s : TS) (fl : List Bool) (ns : List Int), vs = [.ref e, .ref l] ∧ LawSt H e f r p own s fl ∧ s.ok ∧ 2 ≤ r ∧ r ≤ 256 ∧ H l = some (.lst (ns.map V.int)) ∧ Seats ns r ∧ l ≠ e ∧
  ∀ (s' : TS) (H' : Hp), Fr [e] H H' → AimR r s ns s' → LawSt H' e f r p own s' fl → Q .non H'
def spFRep : Sp := fun vs H Q _ => ∃ (e f : Addr) (r p own : Int) (s : TS) (fl : List Bool) (b : Bool), vs = [.ref e, .bl b] ∧ LawSt H e f r p own s fl ∧ s.op = true ∧ ∀ H' : Hp, Fr [e] H H' → LawSt H' e f r p own (repS p s b) fl → Q .non H'
section
variable {P : Program} {w : World} {K : PySem.W.Frag} {mg : Str → Option Value} {base : Heap} {C S : Addr}
theorem c_law_flags (T : Bl mg) (c_law_draw : Cal P w K mg base 1 "_law_draw" spDraw []) (d : D0 K mg "_law_flags" s_law_flags ["box", "ring", "own"]) : Cal P w K mg base 2 "_law_flags" spFlags [] := by
  refine cal d sc_law_flags (fun vs H Q E h => ?_) (fun cdv A outer f s H vs Q E hr h => ?_)
  · obtain ⟨b, c, r, own, rfl, _⟩ := h
    rfl
  · obtain ⟨b, c, r, own, rfl, B, r2, r256, k⟩ := h
    refine ⟨_, (pss_cons (ps_set (i := 3) sc_law_flags.nd rfl (Or.inl rfl) (pe_c c_law_draw hr (by decide) rfl (pa_cons (pv 0) (pa_cons pe_int pa_nil))))
      (pss_cons (ps_set (i := 4) sc_law_flags.nd rfl (Or.inl rfl) pe_int)
      (pss_cons (ps_set (i := 5) sc_law_flags.nd rfl (Or.inl rfl) (pe_lst pa_nil))
      (pss_cons (ps_for PassesOwn.never rfl (pi_range1 rfl T.range (pa_cons (pv 1) pa_nil)) (pg_name (i := 6) sc_law_flags.nd rfl (Or.inl rfl)) (pss_cut (ps_if (pt_cmpR op_eq (pe_op op_mod (pv 6) pe_int) pe_int (nomark _)) (pss_cons (ps_set (i := 4) sc_law_flags.nd rfl (Or.inl rfl) (pe_c c_law_draw hr (by decide) rfl (pa_cons (pv 0) (pa_cons pe_int pa_nil))))
      (pss_cut (ps_if (pt_cmpR op_eq (pv 3) pe_int (nomark _)) (pss_one (ps_set (i := 4) sc_law_flags.nd rfl (Or.inl rfl) (pe_op op_and (pv 4) (pe_c c_law_draw hr (by decide) rfl (pa_cons (pv 0) (pa_cons pe_int pa_nil)))))) pss_nil)
      (pss_one (ps_if (pt_cmpR op_eq (pv 3) pe_int (nomark _)) (pss_one (ps_set (i := 4) sc_law_flags.nd rfl (Or.inl rfl) pe_int)) pss_nil)))) pss_nil)
      (pss_one (ps_expr (pe_bm PySem.F.plainAttrs_list PySem.F.slot_list_append PySem.F.type_list_append mt_append (pv 5) (pa_cons (pe_and (pe_cmpR op_eq (pe_op op_mod (pe_callTy call_int1 (by rfl) T.int (by decide +kernel) (pa_cons (pe_op op_shr (pv 4) (pe_op op_mod (pv 6) pe_int)) pa_nil)) pe_int) pe_int (nomark _)) (pe_one (pe_cmpR op_ne (pv 6) (pv 2) (nomark _)))) pa_nil))))))
      (pss_one (ps_ret (pv 5))))))), ?_⟩
    refine ⟨_, rfl, b, c, 3, rfl, B, by decide, by decide +kernel, fun d1 H1 a1 a2 B1 X1 => ?_⟩
    refine ⟨by show 0 ≤ sizeLine; decide, fun D nD => ?_⟩
    obtain ⟨Db, Dc⟩ := B1.new_ne nD
    refine ⟨_, rfl, _, rfl, by omega, by omega, ?_⟩
    refine for_range (lo := 0) (n := r.toNat) (fun i σ H' => Box H' b c ∧ Fr [b] H H' ∧ ∃ (ch : Int) (fl : List Bool) (v5 : Option V), fl.length = i ∧ H' D = some (.lst (fl.map V.bl)) ∧ σ = [some (.ref b), some (.int r), some (.int own), some (.int d1), some (.int ch), some (.ref D), v5]) ?_ ?_ ?_
    · exact ⟨B1.new nD _, X1.new nD _, 0, [], none, rfl, upd_same, rfl⟩
    · rintro i σ H2 hi ⟨B2, X2, ch, fl, v5, ln, hD, rfl⟩
      have St : ∀ H' : Hp, Fr [b] H2 H' → Box H' b c → Box H' b c ∧ Fr [b] H H' ∧ H' D = some (.lst (fl.map V.bl)) := fun H' X B => ⟨B, X2.trans X, X.lst hD (not_one Db)⟩
      refine ⟨fun σ H' => (Box H' b c ∧ Fr [b] H H' ∧ H' D = some (.lst (fl.map V.bl))) ∧ ∃ ch : Int, σ = [some (.ref b), some (.int r), some (.int own), some (.int d1), some (.int ch), some (.ref D), some (.int (0 + (i : Int)))], ?_, ?_⟩
      · refine ⟨_, rfl, _, _, rfl, rfl, pm (by decide), rfl, _, rfl, ite2 (fun _ => ?_) (fun _ => ⟨St H2 (Fr.refl _ _) B2, ch, rfl⟩)⟩
        refine ⟨_, rfl, b, c, _, rfl, B2, by decide, by decide +kernel, fun d3 H3 a3 a4 B3 X3 => ?_⟩
        refine ⟨fun σ H' => (Fr [b] H2 H' ∧ Box H' b c) ∧ ∃ ch : Int, σ = [some (.ref b), some (.int r), some (.int own), some (.int d1), some (.int ch), some (.ref D), some (.int (0 + (i : Int)))], ?_, ?_⟩
        · refine ⟨_, rfl, rfl, _, rfl, ite2 (fun _ => ?_) (fun _ => ⟨⟨X3, B3⟩, _, rfl⟩)⟩
          refine ⟨_, rfl, _, rfl, b, c, _, rfl, B3, by decide, by decide +kernel, fun d5 H5 _ _ B5 X5 => ?_⟩
          exact ⟨_, _, rfl, rfl, ⟨X3.trans X5, B5⟩, _, rfl⟩
        · rintro σ H5 ⟨⟨X5, B5⟩, ch5, rfl⟩
          exact ⟨_, rfl, rfl, _, rfl, ite2 (fun _ => ⟨St H5 X5 B5, _, rfl⟩) (fun _ => ⟨St H5 X5 B5, _, rfl⟩)⟩
      · rintro σ H3 ⟨⟨B3, X3, hD3⟩, ch3, rfl⟩
        have q0 : 0 ≤ (0 + (i : Int)) % 16 := Int.emod_nonneg _ (by decide)
        have fin : ∀ bb : Bool, ∃ (l : Addr) (xs : List V) (v : V), V.ref D = .ref l ∧ [V.bl bb] = [v] ∧ H3 l = some (.lst xs) ∧ xs.length < sizeLine ∧ Box (upd H3 l (.lst (xs ++ [v]))) b c ∧ Fr [b] H (upd H3 l (.lst (xs ++ [v]))) ∧ ∃ (ch : Int) (fl : List Bool) (v5 : Option V), fl.length = i + 1 ∧ (upd H3 l (.lst (xs ++ [v]))) D = some (.lst (fl.map V.bl)) ∧
            [some (V.ref b), some (.int r), some (.int own), some (.int d1), some (.int ch3), some (.ref D), some (.int (0 + (i : Int)))] = [some (.ref b), some (.int r), some (.int own), some (.int d1), some (.int ch), some (.ref D), v5] := fun bb =>
          ⟨D, _, _, rfl, rfl, hD3, by rw [List.length_map]; exact small1000' (by omega), B3.off Db Dc _, X3.late (X1.live D (.of nD)) (.lst hD3) _, _, fl ++ [bb], _, by rw [List.length_append, ln]; rfl, by rw [upd_same, List.map_append]; rfl, rfl⟩
        refine ⟨_, rfl, .inl ⟨rfl, _, SqL.of hD3⟩, _, rfl, _, rfl, _, _, rfl, rfl, pm (by decide), _, _, rfl, rfl, q0, .inl ⟨_, rfl, _, _, rfl, rfl, pm (by decide), rfl, _, rfl, ite2 (fun _ => ?_) (fun _ => fin _)⟩⟩
        exact ⟨_, rfl, _, rfl, rfl, fin _⟩
    · rintro σ H2 ⟨B2, X2, ch, fl, v5, ln, hD, rfl⟩
      exact ⟨_, rfl, k D fl H2 (X1.live D (.of nD)) X2 B2 hD ln⟩
theorem c_law_first (T : Bl mg) (d : D0 K mg "_law_first" s_law_first ["ring", "place", "names"]) : Cal P w K mg base 1 "_law_first" spLFirst [] := by
  refine cal d sc_law_first (fun vs H Q E h => ?_) (fun cdv A outer f s H vs Q E hr h => ?_)
  · obtain ⟨r, place, l, ns, rfl, _⟩ := h
    rfl
  · obtain ⟨r, place, l, ns, rfl, r0, hl, l0, l1, h0, h1, k⟩ := h
    refine ⟨_, (pss_cons (ps_set (i := 3) sc_law_first.nd rfl (Or.inl rfl) (pe_callB (cr_min rfl) (by rfl) T.min (by decide +kernel) (pa_cons (pe_lc (own := [("spot", 4)]) (g := gName 4) (tt := tYes) (by rfl) sc_law_first.nd (pi_list (pv 2)) (blkOk_by (own := [("spot", 4)]) (N := n_law_first) (sc := C8.fnScope s_law_first) (by decide +kernel)) (fun _ _ _ _ _ => pg_name (i := 4) sc_law_first.nd rfl (Or.inl rfl)) (fun _ _ _ _ _ => pts_nil) (fun _ _ _ _ _ => (pe_op op_mod (pe_callTy call_int1 (by rfl) T.int (by decide +kernel) (pa_cons (pe_op op_sub (pv 4) (pv 1)) pa_nil)) (pv 0)))) pa_nil)))
      (pss_one (ps_ret (pe_op op_mod (pe_callTy call_int1 (by rfl) T.int (by decide +kernel) (pa_cons (pe_op op_add (pv 1) (pv 3)) pa_nil)) (pv 0))))), ?_⟩
    refine ⟨_, rfl, l, rfl, ⟨_, SqL.of hl⟩, fun D nD => ?_⟩
    refine lc_list (xs := ns.map V.int) (fun i H' => Fr [] H H' ∧ H' D = some (.lst (((ns.take i).map fun x => (x - place) % r).map V.int))) ⟨Fr.new0 nD _, upd_same⟩ (fun i H' _ ⟨s1, _⟩ => SqL.of (s1.lst hl not_nil)) (fun i x H' hx ⟨s1, g1⟩ => ?_) (fun H' ⟨s1, g1⟩ => ?_)
    · obtain ⟨z, e, rfl⟩ := map_getE hx
      refine ⟨rfl, _, rfl, _, rfl, _, _, rfl, rfl, .inl ⟨_, rfl, _, rfl, _, _, rfl, rfl, pm r0, _, g1, ?_, s1.late (.of nD) (.lst g1) _, ?_⟩⟩
      · rw [List.length_map, List.length_map, List.length_take]
        exact small1000' (by omega)
      · rw [upd_same, take_snoc e, List.map_append, List.map_append]
        rfl
    · rw [List.length_map, List.take_length] at g1
      refine ⟨D, _, rfl, SqL.of g1, by rw [List.length_map]; exact l0, fun m hm best => ?_⟩
      obtain ⟨x, hx, rfl⟩ := List.mem_map.mp hm
      refine ⟨_, rfl, _, rfl, _, _, rfl, rfl, .inl ⟨_, rfl, _, rfl, _, _, rfl, rfl, pm r0, ?_⟩⟩
      show Q (.int ((place + (x - place) % r) % r)) H'
      rw [back (h0 x hx) (h1 x hx)]
      exact k x H' s1 (.inr ⟨x, rfl, hx, fun y hy => best _ (List.mem_map.mpr ⟨y, hy, rfl⟩)⟩)
theorem c_law_same (T : Bl mg) (d : D0 K mg "_law_same" s_law_same ["answer", "want"]) : Cal P w K mg base 1 "_law_same" spSame [] := by
  refine cal d sc_law_same (fun vs H Q E h => ?_) (fun cdv A outer f s H vs Q E hr h => ?_)
  · obtain ⟨o, rfl, _⟩ := h
    rfl
  · obtain ⟨o, rfl, k⟩ := h
    refine ⟨_, (pss_cons (ps_if (pt_cmp (pc_isN (pv 1))) (pss_one (ps_ret (pe_cmp (pc_isN (pv 0))))) pss_nil)
      (pss_one (ps_ret (pe_and (pe_callB call_isi (by rfl) T.isinstance (by decide +kernel) (pa_cons (pv 0) (pa_cons (pe_bltn (v := .ty "int") (by rfl) T.int (by decide +kernel) rfl) pa_nil))) (pe_and (pe_not (pe_callB call_isi (by rfl) T.isinstance (by decide +kernel) (pa_cons (pv 0) (pa_cons (pe_bltn (v := .ty "bool") (by rfl) T.bool (by decide +kernel) rfl) pa_nil)))) (pe_one (pe_cmpR op_eq (pv 0) (pv 1) (nomark _)))))))), ?_⟩
    cases o with
    | none => exact ⟨_, rfl, _, rfl, iteT ⟨_, rfl, k⟩⟩
    | some m =>
      refine ⟨_, rfl, _, rfl, iteF ?_⟩
      refine ⟨_, rfl, _, _, _, _, true, rfl, .ty _, .base (.int _), kit_ty (by decide +kernel), _, rfl, iteT ?_⟩
      refine ⟨_, rfl, _, _, _, _, false, rfl, .ty _, .base (.int _), kit_ty (by decide +kernel), _, rfl, true, rfl, iteT ?_⟩
      refine ⟨_, rfl, _, rfl, rfl, ?_⟩
      rw [show decide (optV (some m) = optV (some m)) = true from decide_eq_true rfl]
      exact k
theorem c_law_turn_seat (T : Bl mg) (c_law_draw : Cal P w K mg base 1 "_law_draw" spDraw []) (d : D0 K mg "_law_turn_seat" s_law_turn_seat ["box", "state"]) : Cal P w K mg base 2 "_law_turn_seat" spTurn [] := by
  refine cal d sc_law_turn_seat (fun vs H Q E h => ?_) (fun cdv A outer f0 s0 H vs Q E hr h => ?_)
  · obtain ⟨b, c, e, f, r, p, own, s, fl, rfl, _⟩ := h
    rfl
  · obtain ⟨b, c, e, f, r, p, own, s, fl, rfl, B, L, r2, r256, eb, fb, fc, k⟩ := h
    refine ⟨_, (pss_cons (ps_set (i := 2) sc_law_turn_seat.nd rfl (Or.inl rfl) (pe_dget (u1 hr) (pv 1) pe_str (fun _ _ => rfl)))
      (pss_cons (ps_set (i := 3) sc_law_turn_seat.nd rfl (Or.inl rfl) (pe_c c_law_draw hr (by decide) rfl (pa_cons (pv 0) (pa_cons (pe_dget (u1 hr) (pv 1) pe_str (fun _ _ => rfl)) pa_nil))))
      (pss_one (ps_asg (pe_and (pe_not (pe_ix ix_list (pv 2) (pv 3) (fun _ _ => rfl))) (pe_one (pe_cmpR op_ne (pv 3) (pe_dget (u1 hr) (pv 1) pe_str (fun _ _ => rfl)) (nomark _)))) (pg_sub (pv 2) (pv 3) set_list))))), ?_⟩
    refine ⟨_, rfl, e, _, rfl, sG L.he sg_flags, ?_⟩
    refine ⟨_, rfl, _, rfl, e, _, rfl, sG L.he sg_ring, b, c, r, rfl, B, by omega, Int.lt_of_le_of_lt r256 (by decide +kernel), fun d1 H1 a1 a2 B1 X1 => ?_⟩
    have L1 := L.fw X1.w (not_one eb) (not_one fb)
    have ln := L.ln
    have fin : ∀ bb : Bool, ∃ (y : Addr) (xs : List V) (i : Int) (j : Nat), V.ref f = .ref y ∧ V.int d1 = .int i ∧ H1 y = some (.lst xs) ∧ ixN xs.length i = some j ∧ Q .non (upd H1 y (.lst (xs.set j (.bl bb)))) := fun bb => by
      refine ⟨f, _, d1, d1.toNat, rfl, rfl, L1.hf, ix_lt a1 (by rw [List.length_map]; omega), ?_⟩
      rw [map_set]
      refine k (fl.set d1.toNat bb) _ ((X1.mono fun a q => by rw [List.mem_singleton.mp q]; exact .head _).upd (.tail _ (.head _)) (.lst L1.hf) _) (B1.off fb fc _) ⟨by rw [upd_ne L1.ne]; exact L1.he, upd_same, by rw [List.length_set]; exact ln⟩
    refine ⟨_, rfl, _, rfl, _, _, _, _, rfl, rfl, SqL.of L1.hf, bl_at a1 (by omega), _, rfl, _, rfl, ite2 (fun _ => ?_) (fun _ => ⟨_, rfl, _, rfl, fin _⟩)⟩
    exact ⟨_, rfl, _, rfl, e, _, rfl, sG L1.he sg_own, rfl, _, rfl, _, rfl, fin _⟩
end
end K24

set_option Elab.async false
set_option maxRecDepth 100000
set_option maxHeartbeats 4000000
set_option exponentiation.threshold 4096
/-! names, and what the law follows -/
namespace K24
open PySem PySem.Spec PyProof.Rows L2 C8 LamX UF
def aliveL (fl : List Bool) (k : Nat) : List Int := ((List.range k).map fun i => ((i : Nat) : Int)).filter fun x => flag fl x
theorem alive_succ {fl : List Bool} {k : Nat} : aliveL fl (k + 1) = if flag fl ((k : Nat) : Int) = true then aliveL fl k ++ [(k : Int)] else aliveL fl k := by
  unfold aliveL
  rw [List.range_succ, List.map_append, List.filter_append, List.map_cons, List.map_nil, List.filter_cons]
  split
  · rfl
  · rw [List.filter_nil, List.append_nil]
theorem alive_len {fl : List Bool} {k : Nat} : (aliveL fl k).length ≤ k := by
  refine Nat.le_trans (List.length_filter_le _ _) ?_
  rw [List.length_map, List.length_range]
  exact Nat.le_refl _
theorem alive_seats {fl : List Bool} {r : Int} : Seats (aliveL fl r.toNat) r := by
  refine ⟨List.Pairwise.filter _ (List.Pairwise.map _ (fun a b hab => ?_) List.nodup_range), fun x h => ?_, fun x h => ?_⟩
  · omega
  · obtain ⟨i, hi, rfl⟩ := List.mem_map.mp (List.mem_filter.mp h).1
    omega
  · obtain ⟨i, hi, rfl⟩ := List.mem_map.mp (List.mem_filter.mp h).1
    have := List.mem_range.mp hi
    omega
section
variable {P : Program} {w : World} {K : PySem.W.Frag} {mg : Str → Option Value} {base : Heap} {C S : Addr}
theorem c_law_names (T : Bl mg) (c_law_draw : Cal P w K mg base 1 "_law_draw" spDraw []) (c_law_flags : Cal P w K mg base 2 "_law_flags" spFlags []) (c_law_turn_seat : Cal P w K mg base 2 "_law_turn_seat" spTurn []) (d : D0 K mg "_law_names" s_law_names ["box", "state"]) : Cal P w K mg base 3 "_law_names" spNames [] := by
  refine cal d sc_law_names (fun vs H Q E h => ?_) (fun cdv A outer f0 s0 H vs Q E hr h => ?_)
  · obtain ⟨b, c, e, f, r, p, own, s, fl, rfl, _⟩ := h
    rfl
  · obtain ⟨b, c, e, f, r, p, own, s, fl, rfl, B, L, r2, r256, eb, ec, fb, fc, ci, k⟩ := h
    refine ⟨_, (pss_cons (ps_set (i := 2) sc_law_names.nd rfl (Or.inl rfl) (pe_c c_law_draw hr (by decide) rfl (pa_cons (pv 0) (pa_cons pe_int pa_nil))))
      (pss_cut (ps_if (pt_cmpR op_eq (pv 2) pe_int (nomark _)) (pss_one (ps_ret (pe_lst pa_nil))) pss_nil)
      (pss_cut (ps_if (PW.pt (pw_and (pt_cmpR op_eq (pv 2) pe_int (nomark _)) (pw_and1 (pt_cmp (pc_notN (pe_dget (u1 hr) (pv 1) pe_str (fun _ _ => rfl))))))) (pss_one (ps_ret (pe_lst (pa_cons (pe_dget (u1 hr) (pv 1) pe_str (fun _ _ => rfl)) pa_nil)))) pss_nil)
      (pss_cut (ps_if (PW.pt (pw_and (pt_cmpR op_eq (pv 2) pe_int (nomark _)) (pw_and1 (pt_cmp (pc_notN (pe_dget (u1 hr) (pv 1) pe_str (fun _ _ => rfl))))))) (pss_cons (ps_set (i := 3) sc_law_names.nd rfl (Or.inl rfl) (pe_dget (u1 hr) (pv 1) pe_str (fun _ _ => rfl)))
      (pss_one (ps_asg pe_bl (pg_sub (pv 3) (pe_dget (u1 hr) (pv 1) pe_str (fun _ _ => rfl)) set_list)))) pss_nil)
      (pss_cut (ps_if (PW.pt (pw_or (pt_cmpR op_eq (pv 2) pe_int (nomark _)) (pw_or (pt_cmpR op_eq (pv 2) pe_int (nomark _)) (pw_or1 (pt_cmpR op_eq (pv 2) pe_int (nomark _)))))) (pss_one (ps_expr (pe_c c_law_turn_seat hr (by decide) rfl (pa_cons (pv 0) (pa_cons (pv 1) pa_nil))))) pss_nil)
      (pss_cut (ps_if (pt_cmpR op_eq (pv 2) pe_int (nomark _)) (pss_one (ps_expr (pe_c c_law_turn_seat hr (by decide) rfl (pa_cons (pv 0) (pa_cons (pv 1) pa_nil))))) pss_nil)
      (pss_cut (ps_if (pt_cmpR op_eq (pv 2) pe_int (nomark _)) (pss_one (ps_asg (pe_c c_law_flags hr (by decide) rfl (pa_cons (pv 0) (pa_cons (pe_dget (u1 hr) (pv 1) pe_str (fun _ _ => rfl)) (pa_cons (pe_dget (u1 hr) (pv 1) pe_str (fun _ _ => rfl)) pa_nil)))) (pg_sub (pv 1) pe_str (set_dict (u1 hr))))) pss_nil)
      (pss_cons (ps_set (i := 4) sc_law_names.nd rfl (Or.inr rfl) (pe_dget (u1 hr) (pv 1) pe_str (fun _ _ => rfl)))
      (pss_one (ps_ret (pe_lc (own := [("spot", 5)]) (g := gName 5) (by rfl) sc_law_names.nd (pi_range1 rfl T.range (pa_cons (pe_dget (u1 hr) (pv 1) pe_str (fun _ _ => rfl)) pa_nil)) (blkOk_by (own := [("spot", 5)]) (N := n_law_names) (sc := C8.fnScope s_law_names) (by decide +kernel)) (fun _ _ _ _ _ => pg_name (i := 5) sc_law_names.nd rfl (Or.inl rfl)) (fun _ _ _ _ _ => (pts_one (pt_val (pe_ix (show IxR _ (rIxL K) from ix_list) (pv 4) (pv 5) (fun _ _ => rfl))))) (fun _ _ _ _ _ => (pv 5))))))))))))), ?_⟩
    refine ⟨_, rfl, b, c, 12, rfl, B, by decide, by decide +kernel, fun way H1 a1 a2 B1 X1 => ?_⟩
    have X1' : Fr [b, e, f] H H1 := X1.mono fun a q => by rw [List.mem_singleton.mp q]; exact .head _
    have L1 := L.fw X1.w (not_one eb) (not_one fb)
    -- no name at all
    refine ⟨fun σ H' => H' = H1 ∧ σ = [some (.ref b), some (.ref e), some (.int way), none, none, none], ?_, ?_⟩
    · refine ⟨_, rfl, rfl, _, rfl, ite2 (fun _ => ?_) (fun _ => ⟨rfl, rfl⟩)⟩
      refine ⟨by show 0 ≤ sizeLine; decide, fun y ny => ?_⟩
      have Xy := X1'.new ny (.lst [])
      exact k y f [] fl _ (X1'.live y (.of ny)) (.inl rfl) (ne_of_none L1.hf ny).symm Xy (B1.new ny _) (L1.fw (Fr.new0 (ds := []) ny _).w not_nil not_nil) upd_same ⟨List.nodup_nil, fun x h => (nomatch h), fun x h => nomatch h⟩
    rintro σ H' ⟨rfl, rfl⟩
    -- the seat of the visit alone
    refine ⟨fun σ H2 => H2 = H' ∧ σ = [some (.ref b), some (.ref e), some (.int way), none, none, none], ?_, ?_⟩
    · refine ⟨_, rfl, rfl, _, rfl, ite2 (fun _ => ?_) (fun _ => iteF ⟨rfl, rfl⟩)⟩
      refine ⟨_, rfl, e, _, rfl, sG L1.he sg_now, _, rfl, ?_⟩
      cases hc : s.cur with
      | none => exact iteF ⟨rfl, rfl⟩
      | some m =>
        have hnow : H' e = some (.dK (st8 (.int r) (.int p) (.int own) (.int s.last) (.int m) (.bl s.op) (.int s.bad) (.ref f))) := by
          have z := L1.he
          unfold stS at z
          rw [hc] at z
          exact z
        obtain ⟨m0, m1⟩ := ci m hc
        refine iteT ⟨_, rfl, e, _, rfl, sG hnow sg_now, by show 1 ≤ sizeLine; decide, fun y ny => ?_⟩
        exact k y f [m] fl _ (X1'.live y (.of ny)) (.inl rfl) (ne_of_none L1.hf ny).symm (X1'.new ny _) (B1.new ny _) (L1.fw (Fr.new0 (ds := []) ny _).w not_nil not_nil) upd_same ⟨by simp, fun x h => by rw [List.mem_singleton.mp h]; exact m0, fun x h => by rw [List.mem_singleton.mp h]; exact m1⟩
    rintro σ H2 ⟨rfl, rfl⟩
    -- flags changed in place
    refine ⟨fun σ H' => (∃ fl', Fr [b, e, f] H H' ∧ Box H' b c ∧ LawSt H' e f r p own s fl') ∧ ∃ v3, σ = [some (.ref b), some (.ref e), some (.int way), v3, none, none], ?_, ?_⟩
    · refine ⟨_, rfl, rfl, _, rfl, ite2 (fun _ => ?_) (fun _ => iteF ⟨⟨fl, X1', B1, L1⟩, _, rfl⟩)⟩
      refine ⟨_, rfl, e, _, rfl, sG L1.he sg_now, _, rfl, ?_⟩
      cases hc : s.cur with
      | none => exact iteF ⟨⟨fl, X1', B1, L1⟩, _, rfl⟩
      | some m =>
        have hnow : H2 e = some (.dK (st8 (.int r) (.int p) (.int own) (.int s.last) (.int m) (.bl s.op) (.int s.bad) (.ref f))) := by
          have z := L1.he
          unfold stS at z
          rw [hc] at z
          exact z
        obtain ⟨m0, m1⟩ := ci m hc
        have ln := L1.ln
        refine iteT ⟨_, rfl, e, _, rfl, sG L1.he sg_flags, ?_⟩
        refine ⟨_, rfl, _, rfl, e, _, rfl, sG hnow sg_now, f, _, m, m.toNat, rfl, rfl, L1.hf, ix_lt m0 (by rw [List.length_map]; omega), ?_⟩
        rw [map_set]
        exact ⟨⟨_, X1'.upd (.tail _ (.tail _ (.head _))) (.lst L1.hf) _, B1.off fb fc _, ⟨by rw [upd_ne L1.ne]; exact L1.he, upd_same, by rw [List.length_set]; exact ln⟩⟩, _, rfl⟩
    rintro σ H3 ⟨⟨fl3, X3, B3, L3⟩, v3, rfl⟩
    have turn : ∀ (H4 : Hp) (fl4 : List Bool) (Q' : Hp → Prop), Fr [b, e, f] H H4 → Box H4 b c → LawSt H4 e f r p own s fl4 → (∀ (fl' : List Bool) (H' : Hp), Fr [b, e, f] H H' → Box H' b c → LawSt H' e f r p own s fl' → Q' H') → spTurn [.ref b, .ref e] H4 (fun _ => Q') C8.E0 := fun H4 fl4 Q' X4 B4 L4 kk =>
      ⟨b, c, e, f, r, p, own, s, fl4, rfl, B4, L4, r2, r256, eb, fb, fc, fun fl' H' X' B' L' => kk fl' H' (X4.trans (X'.mono fun a q => by
        rcases List.mem_cons.mp q with z | q
        · rw [z]; exact .head _
        · rw [List.mem_singleton.mp q]; exact .tail _ (.tail _ (.head _)))) B' L'⟩
    refine ⟨fun σ H' => (∃ fl', Fr [b, e, f] H H' ∧ Box H' b c ∧ LawSt H' e f r p own s fl') ∧ ∃ v3, σ = [some (.ref b), some (.ref e), some (.int way), v3, none, none], ?_, ?_⟩
    · have go := turn H3 fl3 _ X3 B3 L3 (fun fl' H' X' B' L' => (⟨⟨fl', X', B', L'⟩, v3, rfl⟩ : (∃ fl', Fr [b, e, f] H H' ∧ Box H' b c ∧ LawSt H' e f r p own s fl') ∧ ∃ v3', [some (V.ref b), some (.ref e), some (.int way), v3, none, none] = [some (.ref b), some (.ref e), some (.int way), v3', none, none]))
      have no : (∃ fl', Fr [b, e, f] H H3 ∧ Box H3 b c ∧ LawSt H3 e f r p own s fl') ∧ ∃ v3', [some (V.ref b), some (.ref e), some (.int way), v3, none, none] = [some (.ref b), some (.ref e), some (.int way), v3', none, none] := ⟨⟨fl3, X3, B3, L3⟩, _, rfl⟩
      refine ⟨_, rfl, rfl, _, rfl, ite2 (fun _ => iteT ⟨_, rfl, _, rfl, go⟩) (fun _ => ?_)⟩
      refine ⟨_, rfl, rfl, _, rfl, ite2 (fun _ => iteT ⟨_, rfl, _, rfl, go⟩) (fun _ => ?_)⟩
      exact ⟨_, rfl, rfl, _, rfl, ite2 (fun _ => ⟨_, rfl, _, rfl, go⟩) (fun _ => no)⟩
    rintro σ H4 ⟨⟨fl4, X4, B4, L4⟩, v4, rfl⟩
    refine ⟨fun σ H' => (∃ fl', Fr [b, e, f] H H' ∧ Box H' b c ∧ LawSt H' e f r p own s fl') ∧ ∃ v3, σ = [some (.ref b), some (.ref e), some (.int way), v3, none, none], ?_, ?_⟩
    · have go := turn H4 fl4 _ X4 B4 L4 (fun fl' H' X' B' L' => (⟨⟨fl', X', B', L'⟩, v4, rfl⟩ : (∃ fl', Fr [b, e, f] H H' ∧ Box H' b c ∧ LawSt H' e f r p own s fl') ∧ ∃ v3', [some (V.ref b), some (.ref e), some (.int way), v4, none, none] = [some (.ref b), some (.ref e), some (.int way), v3', none, none]))
      exact ⟨_, rfl, rfl, _, rfl, ite2 (fun _ => ⟨_, rfl, _, rfl, go⟩) (fun _ => ⟨⟨fl4, X4, B4, L4⟩, _, rfl⟩)⟩
    rintro σ H5 ⟨⟨fl5, X5, B5, L5⟩, v5, rfl⟩
    -- flags drawn anew
    refine ⟨fun σ H' => (∃ f' fl', (f' = f ∨ Nw H f') ∧ Fr [b, e, f] H H' ∧ Box H' b c ∧ LawSt H' e f' r p own s fl') ∧ ∃ v3, σ = [some (.ref b), some (.ref e), some (.int way), v3, none, none], ?_, ?_⟩
    · refine ⟨_, rfl, rfl, _, rfl, ite2 (fun _ => ?_) (fun _ => ⟨⟨f, fl5, .inl rfl, X5, B5, L5⟩, _, rfl⟩)⟩
      refine ⟨_, rfl, _, rfl, e, _, rfl, sG L5.he sg_ring, _, rfl, e, _, rfl, sG L5.he sg_own, b, c, r, own, rfl, B5, r2, r256, fun y fl' H6 ny X6 B6 hy ly => ?_⟩
      have he6 := X6.dK L5.he (not_one eb)
      refine ⟨_, rfl, e, _, rfl, sP he6 s8 su_flags, ⟨y, fl', .inr (X5.live y ny), (X5.trans (X6.mono fun a q => by rw [List.mem_singleton.mp q]; exact .head _)).upd (.tail _ (.head _)) (.dK he6) _, B6.off eb ec _, ⟨upd_same, ?_, ly⟩⟩, _, rfl⟩
      rw [upd_ne (fun z => by rw [z, he6] at hy; cases hy)]
      exact hy
    rintro σ H6 ⟨⟨f6, fl6, o6, X6, B6, L6⟩, v6, rfl⟩
    refine ⟨_, rfl, e, _, rfl, sG L6.he sg_flags, ?_⟩
    refine ⟨_, rfl, e, _, rfl, sG L6.he sg_ring, _, rfl, by omega, by omega, fun D nD => ?_⟩
    have ln := L6.ln
    refine lc_range (lo := 0) (n := r.toNat) (fun j H' => Fr [] H6 H' ∧ H' D = some (.lst ((aliveL fl6 j).map V.int))) ⟨Fr.new0 nD _, upd_same⟩ (fun j H' hj pv => ?_) (fun H7 pv => ?_)
    · obtain ⟨X7, hD⟩ := pv
      have es := alive_succ (fl := fl6) (k := j)
      refine ⟨rfl, _, rfl, _, rfl, _, _, _, _, rfl, rfl, SqL.of (X7.lst L6.hf not_nil), bl_at (by omega) (by omega), _, rfl, ite2 (fun hfl => ?_) (fun hfl => ?_)⟩
      · rw [Int.zero_add] at hfl
        refine ⟨_, rfl, _, hD, ?_, X7.late (.of nD) (.lst hD) _, ?_⟩
        · rw [List.length_map]
          have := alive_len (fl := fl6) (k := j)
          exact small1000' (by omega)
        · rw [upd_same, es, if_pos hfl, List.map_append, Int.zero_add]
          rfl
      · rw [Int.zero_add] at hfl
        refine ⟨X7, ?_⟩
        rw [hD, es, if_neg hfl]
    · obtain ⟨X7, hD⟩ := pv
      exact k D f6 _ fl6 H7 (X6.live D (.of nD)) o6 (ne_of_none L6.hf nD).symm (X6.trans (X7.mono fun a q => nomatch q)) (B6.fr X7 not_nil not_nil) (L6.fw X7.w not_nil not_nil) hD alive_seats
theorem c_law_follow_aim (T : Bl mg) (c_law_first : Cal P w K mg base 1 "_law_first" spLFirst []) (d : D0 K mg "_law_follow_aim" s_law_follow_aim ["state", "names"]) : Cal P w K mg base 2 "_law_follow_aim" spFAim [] := by
  refine cal d sc_law_follow_aim (fun vs H Q E h => ?_) (fun cdv A outer f0 s0 H vs Q E hr h => ?_)
  · obtain ⟨e, f, l, r, p, own, s, fl, ns, rfl, _⟩ := h
    rfl
  · obtain ⟨e, f, l, r, p, own, s, fl, ns, rfl, L, ok, r2, r256, hl, st, le, k⟩ := h
    have sl := seats_len st (by omega : 0 ≤ r)
    refine ⟨_, (pss_cut (ps_if (PW.pt (pw_and (pt_val (pe_dget (u1 hr) (pv 0) pe_str (fun _ _ => rfl))) (pw_and1 (pt_cmpR (show OpR _ (compareOp .In) (rIn K false) from op_in_seq) (pe_dget (u1 hr) (pv 0) pe_str (fun _ _ => rfl)) (pv 1) (by with_unfolding_all rfl))))) (pss_one (ps_retN)) pss_nil)
      (pss_cons (ps_asg pe_int (pg_sub (pv 0) pe_str (set_dict (u1 hr))))
      (pss_cons (ps_asg (pe_cmpR op_gt (pe_callB call_len_seq (by rfl) T.len (by decide +kernel) (pa_cons (pv 1) pa_nil)) pe_int (nomark _)) (pg_sub (pv 0) pe_str (set_dict (u1 hr))))
      (pss_cons (ps_asg pe_non (pg_sub (pv 0) pe_str (set_dict (u1 hr))))
      (pss_one (ps_if (pt_cmpR op_gt (pe_callB call_len_seq (by rfl) T.len (by decide +kernel) (pa_cons (pv 1) pa_nil)) pe_int (nomark _)) (pss_cons (ps_asg (pe_c c_law_first hr (by decide) rfl (pa_cons (pe_dget (u1 hr) (pv 0) pe_str (fun _ _ => rfl)) (pa_cons (pe_op op_add (pe_dget (u1 hr) (pv 0) pe_str (fun _ _ => rfl)) pe_int) (pa_cons (pv 1) pa_nil)))) (pg_sub (pv 0) pe_str (set_dict (u1 hr))))
      (pss_one (ps_asg (pe_dget (u1 hr) (pv 0) pe_str (fun _ _ => rfl)) (pg_sub (pv 0) pe_str (set_dict (u1 hr)))))) pss_nil)))))), ?_⟩
    refine ⟨fun σ H' => stays s ns = false ∧ H' = H ∧ σ = [some (.ref e), some (.ref l)], ?_, ?_⟩
    · refine ⟨_, rfl, e, _, rfl, sG L.he sg_open, _, rfl, ?_⟩
      cases hop : s.op with
      | false => exact iteF (iteF ⟨by unfold stays; rw [hop]; rfl, rfl, rfl⟩)
      | true =>
        obtain ⟨m, hm⟩ := ok hop
        have hin : stays s ns = decide (m ∈ ns) := by unfold stays; rw [hop, hm]; rfl
        have hnow : H e = some (.dK (st8 (.int r) (.int p) (.int own) (.int s.last) (.int m) (.bl s.op) (.int s.bad) (.ref f))) := by
          have z := L.he
          unfold stS at z
          rw [hm] at z
          exact z
        refine iteT ⟨_, rfl, e, _, rfl, sG hnow sg_now, _, rfl, l, _, rfl, .inl (SqL.of hl), rfl, flat_ints ns, _, rfl, ?_⟩
        show (if inV (V.int m) (ns.map V.int) = true then _ else _)
        rw [inV_ints]
        by_cases hmem : m ∈ ns
        · rw [decide_eq_true hmem] at hin ⊢
          exact iteT (k s H (Fr.refl _ _) (.inl ⟨hin, rfl⟩) L)
        · rw [decide_eq_false hmem] at hin ⊢
          exact iteF ⟨hin, rfl, rfl⟩
    rintro σ H' ⟨hst, rfl, rfl⟩
    have he0 : H' e = some (.dK (st8 (.int r) (.int p) (.int own) (.int s.last) (optV s.cur) (.bl s.op) (.int s.bad) (.ref f))) := L.he
    refine ⟨_, rfl, e, _, rfl, sP he0 s8 su_bad, ?_⟩
    have X1 := (Fr.refl [e] H').upd (.head _) (.dK he0) (.dK (st8 (.int r) (.int p) (.int own) (.int s.last) (optV s.cur) (.bl s.op) (.int 0) (.ref f)))
    have hl1 := X1.lst hl (not_one le)
    have h1 : (upd H' e (.dK (st8 (.int r) (.int p) (.int own) (.int s.last) (optV s.cur) (.bl s.op) (.int 0) (.ref f)))) e = some (.dK (st8 (.int r) (.int p) (.int own) (.int s.last) (optV s.cur) (.bl s.op) (.int 0) (.ref f))) := upd_same
    generalize (upd H' e (.dK (st8 (.int r) (.int p) (.int own) (.int s.last) (optV s.cur) (.bl s.op) (.int 0) (.ref f)))) = H1 at *
    refine ⟨_, rfl, _, _, rfl, .inl (SqL.of hl1), _, _, rfl, rfl, ?_⟩
    rw [List.length_map]
    refine ⟨_, rfl, e, _, rfl, sP h1 s8 su_open, ?_⟩
    have X2 := X1.upd (.head _) (.dK h1) (.dK (st8 (.int r) (.int p) (.int own) (.int s.last) (optV s.cur) (.bl (decide (0 < (ns.length : Int)))) (.int 0) (.ref f)))
    have h2 : (upd H1 e (.dK (st8 (.int r) (.int p) (.int own) (.int s.last) (optV s.cur) (.bl (decide (0 < (ns.length : Int)))) (.int 0) (.ref f)))) e = some (.dK (st8 (.int r) (.int p) (.int own) (.int s.last) (optV s.cur) (.bl (decide (0 < (ns.length : Int)))) (.int 0) (.ref f))) := upd_same
    generalize (upd H1 e (.dK (st8 (.int r) (.int p) (.int own) (.int s.last) (optV s.cur) (.bl (decide (0 < (ns.length : Int)))) (.int 0) (.ref f)))) = H2 at *
    refine ⟨_, rfl, e, _, rfl, sP h2 s8 su_now, ?_⟩
    have X3 := X2.upd (.head _) (.dK h2) (.dK (st8 (.int r) (.int p) (.int own) (.int s.last) .non (.bl (decide (0 < (ns.length : Int)))) (.int 0) (.ref f)))
    have h3 : (upd H2 e (.dK (st8 (.int r) (.int p) (.int own) (.int s.last) .non (.bl (decide (0 < (ns.length : Int)))) (.int 0) (.ref f)))) e = some (.dK (st8 (.int r) (.int p) (.int own) (.int s.last) .non (.bl (decide (0 < (ns.length : Int)))) (.int 0) (.ref f))) := upd_same
    have hl3 := X3.lst hl (not_one le)
    have hf3 := X3.lst L.hf (not_one L.ne.symm)
    generalize (upd H2 e (.dK (st8 (.int r) (.int p) (.int own) (.int s.last) .non (.bl (decide (0 < (ns.length : Int)))) (.int 0) (.ref f)))) = H3 at *
    refine ⟨_, rfl, _, _, rfl, .inl (SqL.of hl3), _, _, rfl, rfl, _, rfl, ?_⟩
    rw [List.length_map]
    refine ite2 (fun hpos => ?_) (fun hneg => ?_)
    · rw [hpos] at h3
      have hpos := of_decide_eq_true hpos
      refine ⟨_, rfl, e, _, rfl, sG h3 sg_ring, _, rfl, e, _, rfl, sG h3 sg_last, _, _, rfl, rfl, _, rfl, r, s.last + 1, l, ns, rfl, by omega, hl3, by omega, by omega, st.lo, st.hi, fun m H4 X4 hm => ?_⟩
      have h4 := X4.dK h3 not_nil
      have hf4 := X4.lst hf3 not_nil
      have X04 := X3.trans (X4.mono fun a q => nomatch q)
      refine ⟨_, rfl, e, _, rfl, sP h4 s8 su_last, ?_⟩
      have X5 := X04.upd (.head _) (.dK h4) (.dK (st8 (.int r) (.int p) (.int own) (.int m) .non (.bl true) (.int 0) (.ref f)))
      refine ⟨_, rfl, e, _, rfl, sG upd_same sg_last, _, rfl, e, _, rfl, sP upd_same s8 su_now, ?_⟩
      refine k (begS s (some m)) _ (X5.upd (.head _) (.dK upd_same) _) (.inr ⟨hst, some m, hm, rfl⟩) ⟨upd_same, ?_, L.ln⟩
      rw [upd_ne L.ne.symm, upd_ne L.ne.symm]
      exact hf4
    · have hz : ns = [] := by
        cases ns with
        | nil => rfl
        | cons _ _ => exact absurd (decide_eq_true (by simp)) hneg
      have hneg := Bool.eq_false_iff.mpr hneg
      rw [hneg] at h3
      exact k (begS s none) H3 X3 (.inr ⟨hst, none, .inl ⟨hz, rfl⟩, rfl⟩) ⟨h3, hf3, L.ln⟩
theorem c_law_follow_report (d : D0 K mg "_law_follow_report" s_law_follow_report ["state", "passed"]) : Cal P w K mg base 1 "_law_follow_report" spFRep [] := by
  refine cal d sc_law_follow_report (fun vs H Q E h => ?_) (fun cdv A outer f0 s0 H vs Q E hr h => ?_)
  · obtain ⟨e, f, r, p, own, s, fl, b, rfl, _⟩ := h
    rfl
  · obtain ⟨e, f, r, p, own, s, fl, b, rfl, L, hop, k⟩ := h
    refine ⟨_, (pss_cons (ps_if (pt_not (pt_val (pv 1))) (pss_one (ps_asg (pe_op op_add (pe_dget (u1 hr) (pv 0) pe_str (fun _ _ => rfl)) pe_int) (pg_sub (pv 0) pe_str (set_dict (u1 hr))))) pss_nil)
      (pss_one (ps_if (PW.pt (pw_or (pt_val (pv 1)) (pw_or1 (pt_cmpR op_ge (pe_dget (u1 hr) (pv 0) pe_str (fun _ _ => rfl)) (pe_dget (u1 hr) (pv 0) pe_str (fun _ _ => rfl)) (nomark _))))) (pss_one (ps_asg pe_bl (pg_sub (pv 0) pe_str (set_dict (u1 hr))))) pss_nil))), ?_⟩
    have he0 : H e = some (.dK (st8 (.int r) (.int p) (.int own) (.int s.last) (optV s.cur) (.bl s.op) (.int s.bad) (.ref f))) := L.he
    have fin : ∀ H1 : Hp, Fr [e] H H1 → ∀ bad : Int, H1 e = some (.dK (st8 (.int r) (.int p) (.int own) (.int s.last) (optV s.cur) (.bl s.op) (.int bad) (.ref f))) → ∀ op : Bool, (s.op = true → repS p s b = { s with bad := bad, op := op }) → Fr [e] H H1 ∧ LawSt (upd H1 e (.dK (st8 (.int r) (.int p) (.int own) (.int s.last) (optV s.cur) (.bl op) (.int bad) (.ref f)))) e f r p own (repS p s b) fl ∧ Fr [e] H (upd H1 e (.dK (st8 (.int r) (.int p) (.int own) (.int s.last) (optV s.cur) (.bl op) (.int bad) (.ref f)))) := by
      intro H1 X1 bad h1 op hrep
      refine ⟨X1, ⟨?_, ?_, L.ln⟩, X1.upd (.head _) (.dK h1) _⟩
      · rw [upd_same, hrep hop]
        rfl
      · rw [upd_ne L.ne.symm]
        exact X1.lst L.hf (not_one L.ne.symm)
    cases b with
    | true =>
      refine ⟨_, rfl, _, rfl, iteF ⟨_, rfl, _, rfl, iteT ⟨_, rfl, e, _, rfl, sP he0 s8 su_open, ?_⟩⟩⟩
      obtain ⟨_, g2, g3⟩ := fin H (Fr.refl _ _) s.bad he0 false (fun h => by unfold repS; rw [h]; rfl)
      exact k _ g3 g2
    | false =>
      refine ⟨_, rfl, _, rfl, iteT ⟨_, rfl, e, _, rfl, sG he0 sg_bad, _, _, rfl, rfl, _, rfl, e, _, rfl, sP he0 s8 su_bad, ?_⟩⟩
      have X1 := (Fr.refl [e] H).upd (.head _) (.dK he0) (.dK (st8 (.int r) (.int p) (.int own) (.int s.last) (optV s.cur) (.bl s.op) (.int (s.bad + 1)) (.ref f)))
      have h1 : (upd H e (.dK (st8 (.int r) (.int p) (.int own) (.int s.last) (optV s.cur) (.bl s.op) (.int (s.bad + 1)) (.ref f)))) e = some (.dK (st8 (.int r) (.int p) (.int own) (.int s.last) (optV s.cur) (.bl s.op) (.int (s.bad + 1)) (.ref f))) := upd_same
      refine ⟨_, rfl, _, rfl, iteF ⟨_, rfl, e, _, rfl, sG h1 sg_bad, _, rfl, e, _, rfl, sG h1 sg_pat, _, _, rfl, rfl, _, rfl, ite2 (fun hge => ?_) (fun hlt => ?_)⟩⟩
      · have hge := of_decide_eq_true hge
        refine ⟨_, rfl, e, _, rfl, sP h1 s8 su_open, ?_⟩
        obtain ⟨_, g2, g3⟩ := fin _ X1 (s.bad + 1) h1 false (fun h => by unfold repS; rw [if_pos h, if_neg Bool.false_ne_true, decide_eq_false (by omega)])
        exact k _ g3 g2
      · have hlt := mt decide_eq_true hlt
        have e1 : repS p s false = { s with bad := s.bad + 1, op := true } := by unfold repS; rw [if_pos hop, if_neg Bool.false_ne_true, decide_eq_true (by omega)]
        refine k _ X1 ⟨?_, by rw [upd_ne L.ne.symm]; exact L.hf, L.ln⟩
        rw [e1, h1, hop]
        rfl
end
end K24

set_option Elab.async false
set_option maxRecDepth 100000
set_option maxHeartbeats 4000000
set_option exponentiation.threshold 4096
/-! tours made and shown; two tours side by side -/
namespace K24
open PySem PySem.Spec PyProof.Rows L2 C8 LamX UF
structure MadeT (C S : Addr) (H : Hp) (a x D e f : Addr) (n : Nat) (p own : Int) (s : TS) (fl : List Bool) : Prop where
  ta : TourAt C H a x D s
  ps : PsAt H D 0
  sx : ∃ rr g h, SetO S H x (n : Int) p rr g h
  ls : LawSt H e f (ringN n) p own s fl
  n1 : 1 ≤ n
  n8 : n ≤ 8
  ok : s.ok
  ci : CurIn s (ringN n)
def spMade (C S : Addr) : Sp := fun vs H Q _ => ∃ (b c : Addr), vs = [.ref b] ∧ Box H b c ∧
  ∀ (t a x D e f : Addr) (n : Nat) (p own : Int) (s : TS) (fl : List Bool) (H' : Hp), Nw H a → Nw H x → Nw H D → Nw H e → Nw H f → Nw H t → H' t = some (.tup [.ref a, .ref e]) → MadeT C S H' a x D e f n p own s fl → Fr [b] H H' → Box H' b c → Q (.ref t) H'
theorem hne {H : Hp} {p q : Addr} {o1 o2 : HO} (h1 : H p = some o1) (h2 : H q = some o2) (n : o1 ≠ o2) : p ≠ q := fun z => n (Option.some.inj (by rw [← h1, ← h2, z]))
structure FamT where
  a : Nat → Addr
  x : Nat → Addr
  D : Nat → Addr
  e : Nat → Addr
  n : Nat → Nat
  p : Nat → Int
  own : Nat → Int
structure WS (C S : Addr) (F : FamT) (b c A B : Addr) (k : Nat) (f : Nat → Addr) (s : Nat → TS) (fl : Nat → List Bool) (H : Hp) : Prop where
  bx : Box H b c
  hA : H A = some (.lst [.ref (F.a 0), .ref (F.a 1)])
  hB : H B = some (.lst [.ref (F.e 0), .ref (F.e 1)])
  ta : ∀ i, i < 2 → TourAt C H (F.a i) (F.x i) (F.D i) (s i)
  ps : ∀ i, i < 2 → PsAt H (F.D i) k
  sx : ∀ i, i < 2 → ∃ rr g h, SetO S H (F.x i) (F.n i : Int) (F.p i) rr g h
  ls : ∀ i, i < 2 → LawSt H (F.e i) (f i) (ringN (F.n i)) (F.p i) (F.own i) (s i) (fl i)
  n1 : ∀ i, i < 2 → 1 ≤ F.n i
  n8 : ∀ i, i < 2 → F.n i ≤ 8
  ok : ∀ i, i < 2 → (s i).ok
  ci : ∀ i, i < 2 → CurIn (s i) (ringN (F.n i))
  aa : F.a 0 ≠ F.a 1
  DD : F.D 0 ≠ F.D 1
  ee : F.e 0 ≠ F.e 1
  ff : f 0 ≠ f 1
theorem two_ne {α : Type} {g : Nat → α} (h : g 0 ≠ g 1) {i j : Nat} (hi : i < 2) (hj : j < 2) (n : i ≠ j) : g i ≠ g j := by
  match i, j, hi, hj with
  | 0, 0, _, _ => exact absurd rfl n
  | 0, 1, _, _ => exact h
  | 1, 0, _, _ => exact h.symm
  | 1, 1, _, _ => exact absurd rfl n
theorem two_at {f : Nat → Addr} {j : Nat} (h : j < 2) : atI [V.ref (f 0), V.ref (f 1)] (j : Int) = some (.ref (f j)) := by
  match j, h with
  | 0, _ => rfl
  | 1, _ => rfl
theorem two_at0 {f : Nat → Addr} {j : Nat} (h : j < 2) : atI [V.ref (f 0), V.ref (f 1)] (0 + (j : Int)) = some (.ref (f j)) := by
  match j, h with
  | 0, _ => rfl
  | 1, _ => rfl
theorem two_all {q : Nat → Prop} (h0 : q 0) (h1 : q 1) : ∀ i, i < 2 → q i := fun i h => match i, h with
  | 0, _ => h0
  | 1, _ => h1
def sel {α : Type} (a b : α) : Nat → α
  | 0 => a
  | _ + 1 => b
def put {α : Type} (g : Nat → α) (j : Nat) (v : α) : Nat → α := fun i => if i = j then v else g i
theorem put_eq {α : Type} {g : Nat → α} {j : Nat} {v : α} : put g j v j = v := if_pos rfl
theorem put_ne {α : Type} {g : Nat → α} {i j : Nat} {v : α} (h : i ≠ j) : put g j v i = g i := if_neg h
theorem put_self {α : Type} {g : Nat → α} {j : Nat} : put g j (g j) = g := funext fun i => by
  unfold put
  split
  · rename_i h; rw [h]
  · rfl
section
variable {C S : Addr} {F : FamT} {b c A B : Addr} {k : Nat} {f : Nat → Addr} {s : Nat → TS} {fl : Nat → List Bool} {H H' : Hp}
def Sj (F : FamT) (b : Addr) (f : Nat → Addr) (j : Nat) : List Addr := [b, F.a j, F.D j, F.e j, f j]
/-- the flags begin with a truth value -/
theorem WS.fl0 (W : WS C S F b c A B k f s fl H) {i : Nat} (hi : i < 2) : ∃ z zs, H (f i) = some (.lst (.bl z :: zs)) := by
  have h := (W.ls i hi).hf
  have l := (W.ls i hi).ln
  have r := ring_two (W.n1 i hi)
  cases e : fl i with
  | nil => rw [e] at l; simp at l; omega
  | cons z zs => rw [e] at h; exact ⟨z, _, h⟩
theorem WS.De (W : WS C S F b c A B k f s fl H) {i j : Nat} (hi : i < 2) (hj : j < 2) : F.D i ≠ F.e j := fun z => by
  obtain ⟨kvs, h, _, hv⟩ := W.ps i hi
  have h2 := (W.ls j hj).he
  rw [← z, h] at h2
  injection h2 with h2
  injection h2 with h2
  rw [h2] at hv
  obtain ⟨q, e⟩ := hv _ _ (sg_open (r := .int (ringN (F.n j))) (p := .int (F.p j)) (own := .int (F.own j)) (last := .int (s j).last) (cur := optV (s j).cur) (op := .bl (s j).op) (bad := .int (s j).bad) (fl := .ref (f j)))
  cases e
theorem WS.off (W : WS C S F b c A B k f s fl H) {j : Nat} (hj : j < 2) : A ∉ Sj F b f j ∧ B ∉ Sj F b f j ∧ c ∉ Sj F b f j ∧ (∀ i, i < 2 → F.x i ∉ Sj F b f j) ∧ ∀ i, i < 2 → i ≠ j → F.a i ∉ Sj F b f j ∧ F.D i ∉ Sj F b f j ∧ F.e i ∉ Sj F b f j ∧ f i ∉ Sj F b f j := by
  obtain ⟨cells, y1, y2, y3, Bx⟩ := id W.bx
  obtain ⟨z, zs, hf⟩ := W.fl0 hj
  obtain ⟨dx, ha⟩ := W.ta j hj
  obtain ⟨kvs, hD, _⟩ := W.ps j hj
  have he := (W.ls j hj).he
  have cl : ∀ o : HO, H c = some o → o = .lst (cells.map V.int) := fun o h => by rw [Bx.hc] at h; exact (Option.some.inj h).symm
  refine ⟨?_, ?_, ?_, fun i hi => ?_, fun i hi ne => ⟨?_, ?_, ?_, ?_⟩⟩
  · exact not_cons (hne W.hA Bx.hb (by intro z; injection z with z; injection z with _ z; injection z with z _; cases z)) (not_cons (hne W.hA ha (by intro z; cases z)) (not_cons (hne W.hA hD (by intro z; cases z)) (not_cons (hne W.hA he (by intro z; cases z)) (not_one (hne W.hA hf (by intro z; injection z with z; injection z with z _; cases z))))))
  · exact not_cons (hne W.hB Bx.hb (by intro z; injection z with z; injection z with _ z; injection z with z _; cases z)) (not_cons (hne W.hB ha (by intro z; cases z)) (not_cons (hne W.hB hD (by intro z; cases z)) (not_cons (hne W.hB he (by intro z; cases z)) (not_one (hne W.hB hf (by intro z; injection z with z; injection z with z _; cases z))))))
  · refine not_cons W.bx.ne (not_cons (hne Bx.hc ha (by intro z; cases z)) (not_cons (hne Bx.hc hD (by intro z; cases z)) (not_cons (hne Bx.hc he (by intro z; cases z)) (not_one (hne Bx.hc hf ?_)))))
    intro z
    injection z with z
    cases cells with
    | nil => cases z
    | cons _ _ => injection z with z _; cases z
  · obtain ⟨_, _, _, dy, hx⟩ := W.sx i hi
    refine not_cons (hne hx Bx.hb (by intro z; cases z)) (not_cons (hne hx ha ?_) (not_cons (hne hx hD (by intro z; cases z)) (not_cons (hne hx he (by intro z; cases z)) (not_one (hne hx hf (by intro z; cases z))))))
    intro z
    injection z with _ _ z
    have := congrArg List.length z
    exact absurd this (by show ¬ (5 = 6); decide)
  · obtain ⟨dy, hy⟩ := W.ta i hi
    exact not_cons (hne hy Bx.hb (by intro z; cases z)) (not_cons (two_ne W.aa hi hj ne) (not_cons (hne hy hD (by intro z; cases z)) (not_cons (hne hy he (by intro z; cases z)) (not_one (hne hy hf (by intro z; cases z))))))
  · obtain ⟨kws, hy, _⟩ := W.ps i hi
    exact not_cons (hne hy Bx.hb (by intro z; cases z)) (not_cons (hne hy ha (by intro z; cases z)) (not_cons (two_ne W.DD hi hj ne) (not_cons (W.De hi hj) (not_one (hne hy hf (by intro z; cases z))))))
  · have hy := (W.ls i hi).he
    exact not_cons (hne hy Bx.hb (by intro z; cases z)) (not_cons (hne hy ha (by intro z; cases z)) (not_cons (W.De hj hi).symm (not_cons (two_ne W.ee hi hj ne) (not_one (hne hy hf (by intro z; cases z))))))
  · obtain ⟨u, us, hy⟩ := W.fl0 hi
    exact not_cons (hne hy Bx.hb (by intro z; injection z with z; injection z with z _; cases z)) (not_cons (hne hy ha (by intro z; cases z)) (not_cons (hne hy hD (by intro z; cases z)) (not_cons (hne hy he (by intro z; cases z)) (not_one (two_ne W.ff hi hj ne)))))
/-- one side has changed -/
theorem WS.step (W : WS C S F b c A B k f s fl H) {j : Nat} (hj : j < 2) (X : Fw (Sj F b f j) H H') (bx : Box H' b c) {k' : Nat} (hk : k ≤ k') {s' : TS} {f' : Addr} {fl' : List Bool} (ta : TourAt C H' (F.a j) (F.x j) (F.D j) s') (ps : PsAt H' (F.D j) k')
    (ls : LawSt H' (F.e j) f' (ringN (F.n j)) (F.p j) (F.own j) s' fl') (hf : f' = f j ∨ Nw H f') (ok : s'.ok) (ci : CurIn s' (ringN (F.n j))) : WS C S F b c A B k' (put f j f') (put s j s') (put fl j fl') H' := by
  obtain ⟨oA, oB, oc, ox, oi⟩ := W.off hj
  have hfi : ∀ i, i < 2 → i ≠ j → f i ≠ f' := fun i hi ne => by
    rcases hf with e | e
    · rw [e]; exact two_ne W.ff hi hj ne
    · exact ne_nw (W.ls i hi).hf e
  refine ⟨bx, X.lst W.hA oA, X.lst W.hB oB, fun i hi => ?_, fun i hi => ?_, fun i hi => ?_, fun i hi => ?_, W.n1, W.n8, fun i hi => ?_, fun i hi => ?_, W.aa, W.DD, W.ee, ?_⟩
  · by_cases e : i = j
    · subst e; rw [put_eq]; exact ta
    · rw [put_ne e]; exact (W.ta i hi).fw X (oi i hi e).1
  · by_cases e : i = j
    · subst e; exact ps
    · exact ((W.ps i hi).fw X (oi i hi e).2.1).le hk
  · obtain ⟨rr, g, h, z⟩ := W.sx i hi
    exact ⟨rr, g, h, z.fw X (ox i hi)⟩
  · by_cases e : i = j
    · subst e; rw [put_eq, put_eq, put_eq]; exact ls
    · rw [put_ne e, put_ne e, put_ne e]; exact (W.ls i hi).fw X (oi i hi e).2.2.1 (oi i hi e).2.2.2
  · by_cases e : i = j
    · subst e; rw [put_eq]; exact ok
    · rw [put_ne e]; exact W.ok i hi
  · by_cases e : i = j
    · subst e; rw [put_eq]; exact ci
    · rw [put_ne e]; exact W.ci i hi
  · match j, hj with
    | 0, _ => rw [put_eq, put_ne (by decide)]; exact (hfi 1 (by decide) (by decide)).symm
    | 1, _ => rw [put_eq, put_ne (by decide)]; exact hfi 0 (by decide) (by decide)
/-- nothing of it has changed -/
theorem WS.nil (W : WS C S F b c A B k f s fl H) (X : Fw [] H H') : WS C S F b c A B k f s fl H' := by
  refine ⟨W.bx.fw X not_nil not_nil, X.lst W.hA not_nil, X.lst W.hB not_nil, fun i hi => (W.ta i hi).fw X not_nil, fun i hi => (W.ps i hi).fw X not_nil, fun i hi => ?_, fun i hi => (W.ls i hi).fw X not_nil not_nil, W.n1, W.n8, W.ok, W.ci, W.aa, W.DD, W.ee, W.ff⟩
  obtain ⟨rr, g, h, z⟩ := W.sx i hi
  exact ⟨rr, g, h, z.fw X not_nil⟩
theorem WS.box (W : WS C S F b c A B k f s fl H) (X : Fw [b] H H') (bx : Box H' b c) : WS C S F b c A B k f s fl H' := by
  have o := W.off (j := 0) (by decide)
  have z := W.step (j := 0) (H' := H') (k' := k) (f' := f 0) (s' := s 0) (fl' := fl 0) (by decide) (X.mono fun a q => by rw [List.mem_singleton.mp q]; exact .head _) bx (Nat.le_refl _) ?_ ?_ ?_ (.inl rfl) (W.ok 0 (by decide)) (W.ci 0 (by decide))
  · rw [put_self, put_self, put_self] at z
    exact z
  all_goals
    obtain ⟨cells, y1, y2, y3, Bx⟩ := id W.bx
  · obtain ⟨dx, ha⟩ := id (W.ta 0 (by decide))
    exact (W.ta 0 (by decide)).fw X (not_one (hne ha Bx.hb (by intro z; cases z)))
  · obtain ⟨kvs, hD, _⟩ := id (W.ps 0 (by decide))
    exact (W.ps 0 (by decide)).fw X (not_one (hne hD Bx.hb (by intro z; cases z)))
  · obtain ⟨z, zs, hf⟩ := W.fl0 (i := 0) (by decide)
    exact (W.ls 0 (by decide)).fw X (not_one (hne (W.ls 0 (by decide)).he Bx.hb (by intro z; cases z))) (not_one (hne hf Bx.hb (by intro z; injection z with z; injection z with z _; cases z)))
end
def spShown (C S : Addr) : Sp := fun vs H Q _ => ∃ (F : FamT) (b c A B : Addr) (k : Nat) (f : Nat → Addr) (s : Nat → TS) (fl : Nat → List Bool), vs = [.ref A, .ref B] ∧ WS C S F b c A B k f s fl H ∧ Q (.bl true) H
section
variable {P : Program} {w : World} {K : PySem.W.Frag} {mg : Str → Option Value} {base : Heap} {C S : Addr}
theorem c_law_shown (T : Bl mg) (M : T_Tour K mg C) (c_law_same : Cal P w K mg base 1 "_law_same" spSame []) (d : D0 K mg "_law_shown" s_law_shown ["tours", "states"]) : Cal P w K mg base 2 "_law_shown" (spShown C S) [] := by
  refine cal d sc_law_shown (fun vs H Q E h => ?_) (fun cdv A0 outer f0 s0 H vs Q E hr h => ?_)
  · obtain ⟨F, b, c, A, B, k, f, s, fl, rfl, _⟩ := h
    rfl
  · obtain ⟨F, b, c, A, B, kk, f, s, fl, rfl, W, k⟩ := h
    refine ⟨_, (pss_cons (ps_for PassesOwn.never rfl (pi_range1 rfl T.range (pa_cons pe_int pa_nil)) (pg_name (i := 2) sc_law_shown.nd rfl (Or.inl rfl)) (pss_cons (ps_if (pt_not (pt_val (pe_c c_law_same hr (by decide) rfl (pa_cons (pe_fld (pe_ix ix_list (pv 0) (pv 2) (fun _ _ => rfl)) rfl) (pa_cons (pe_dget (u1 hr) (pe_ix ix_list (pv 1) (pv 2) (fun _ _ => rfl)) pe_str (fun _ _ => rfl)) pa_nil))))) (pss_one (ps_ret pe_bl)) pss_nil)
      (pss_one (ps_if (pt_not (pt_val (pe_c c_law_same hr (by decide) rfl (pa_cons (pe_fld (pe_ix ix_list (pv 0) (pv 2) (fun _ _ => rfl)) rfl) (pa_cons (pe_dget (u1 hr) (pe_ix ix_list (pv 1) (pv 2) (fun _ _ => rfl)) pe_str (fun _ _ => rfl)) pa_nil))))) (pss_one (ps_ret pe_bl)) pss_nil))))
      (pss_one (ps_ret pe_bl))), ?_⟩
    refine ⟨2, rfl, by decide, by decide, ?_⟩
    refine for_range (lo := 0) (n := 2) (fun i σ H' => H' = H ∧ ∃ v, σ = [some (.ref A), some (.ref B), v]) ⟨rfl, _, rfl⟩ (fun i σ H' hi pv => ?_) (fun σ H' pv => ?_)
    · obtain ⟨rfl, v, rfl⟩ := pv
      obtain ⟨dx, ha⟩ := W.ta i hi
      have L := W.ls i hi
      refine ⟨_, rfl, _, rfl, _, _, _, _, rfl, rfl, SqL.of W.hA, two_at0 hi, F.a i, C, dx, _, _, rfl, ha, M.cl, M.n_current, ft_cur, _, rfl, _, rfl, _, _, _, _, rfl, rfl, SqL.of W.hB, two_at0 hi, F.e i, _, rfl, sG L.he sg_now, (s i).cur, rfl, _, rfl, iteF ?_⟩
      refine ⟨_, rfl, _, rfl, _, _, _, _, rfl, rfl, SqL.of W.hA, two_at0 hi, F.a i, C, dx, _, _, rfl, ha, M.cl, M.n_failed, ft_bad, _, rfl, _, rfl, _, _, _, _, rfl, rfl, SqL.of W.hB, two_at0 hi, F.e i, _, rfl, sG L.he sg_bad, some (s i).bad, rfl, _, rfl, iteF ?_⟩
      exact ⟨rfl, _, rfl⟩
    · obtain ⟨rfl, v, rfl⟩ := pv
      exact k
end
end K24

set_option Elab.async false
set_option maxRecDepth 100000
set_option maxHeartbeats 8000000
set_option exponentiation.threshold 4096
/-! the law -/
namespace K24
open PySem PySem.Spec PyProof.Rows L2 C8 LamX UF
theorem tour_made {C : Addr} {H : Hp} {a dx x : Addr} {seat : Int} {o : Option Int} {R : Hp → Prop} {E : XK} (na : H a = none) (ndx : H dx = none) (ne : dx ≠ a)
    (k : ∀ (D : Addr) (H' : Hp), Nw H D → Fr [] H H' → TourAt C H' a x D ⟨none, 0, o.getD seat, false⟩ → H' D = some (.dK []) → R H') :
    spTinit C [.ref a, .ref x, .int seat, optV o] (upd (upd H dx (.own a)) a (.ins C dx [])) (fun v H3 => v = .non ∧ R H3) E := by
  have na' : upd H dx (.own a) a = none := by rw [upd_ne ne.symm]; exact na
  have X := ((Fr.refl [] H).new ndx (.own a)).new na' (.ins C dx [])
  refine ⟨a, dx, x, seat, o, rfl, upd_same, fun D H3 nD ta hD hk => ⟨rfl, k D H3 (X.live D nD) ?_ ta hD⟩⟩
  exact X.tail hk fun y m => by rw [List.mem_singleton.mp m]; exact .inr (.of na)
section
variable {r p own last v1 v2 v3 v4 : V}
theorem sd_4 : mergeK [] [((.inr "ring" : Key), r), (.inr "patience", p), (.inr "own", own), (.inr "last", last)] = [(.inr "ring", r), (.inr "patience", p), (.inr "own", own), (.inr "last", last)] := by kernel_rfl
theorem sd_5 : putK [((.inr "ring" : Key), r), (.inr "patience", p), (.inr "own", own), (.inr "last", last)] (.inr "now") v1 = [(.inr "ring", r), (.inr "patience", p), (.inr "own", own), (.inr "last", last), (.inr "now", v1)] := by kernel_rfl
theorem sd_6 : putK [((.inr "ring" : Key), r), (.inr "patience", p), (.inr "own", own), (.inr "last", last), (.inr "now", v1)] (.inr "open") v2 = [(.inr "ring", r), (.inr "patience", p), (.inr "own", own), (.inr "last", last), (.inr "now", v1), (.inr "open", v2)] := by kernel_rfl
theorem sd_7 : putK [((.inr "ring" : Key), r), (.inr "patience", p), (.inr "own", own), (.inr "last", last), (.inr "now", v1), (.inr "open", v2)] (.inr "bad") v3 = [(.inr "ring", r), (.inr "patience", p), (.inr "own", own), (.inr "last", last), (.inr "now", v1), (.inr "open", v2), (.inr "bad", v3)] := by kernel_rfl
theorem sd_8 : putK [((.inr "ring" : Key), r), (.inr "patience", p), (.inr "own", own), (.inr "last", last), (.inr "now", v1), (.inr "open", v2), (.inr "bad", v3)] (.inr "flags") v4 = st8 r p own last v1 v2 v3 v4 := by kernel_rfl
end
theorem aim_uniq {r : Int} {s s' s'' : TS} {ns : List Int} (st : Seats ns r) (h : AimR r s ns s') (h' : AimR r s ns s'') : s' = s'' := by
  rcases h with ⟨e, rfl⟩ | ⟨e, o, ho, rfl⟩
  · rcases h' with ⟨_, rfl⟩ | ⟨e', _⟩
    · rfl
    · rw [e] at e'; cases e'
  · rcases h' with ⟨e', _⟩ | ⟨_, o', ho', rfl⟩
    · rw [e] at e'; cases e'
    · rw [first_uniq st.lo st.hi ho ho']
theorem aim_ok {r : Int} {s s' : TS} {ns : List Int} (st : Seats ns r) (ok : s.ok) (ci : CurIn s r) (h : AimR r s ns s') : s'.ok ∧ CurIn s' r ∧ ∀ m, s'.cur = some m → s'.op = true := by
  rcases h with ⟨e, rfl⟩ | ⟨e, o, ho, rfl⟩
  · refine ⟨ok, ci, fun m _ => ?_⟩
    unfold stays at e
    cases h : s'.op with
    | true => rfl
    | false => rw [h] at e; cases e
  · rcases ho with ⟨_, rfl⟩ | ⟨m, rfl, hm, _⟩
    · exact ⟨fun h => (nomatch h), fun m h => (nomatch h), fun m h => nomatch h⟩
    · exact ⟨fun _ => ⟨m, rfl⟩, fun q h => by cases h; exact ⟨st.lo m hm, st.hi m hm⟩, fun _ _ => rfl⟩
theorem rep_ok {p r : Int} {s : TS} {b : Bool} (ok : s.ok) (ci : CurIn s r) : (repS p s b).ok ∧ CurIn (repS p s b) r := by
  unfold repS
  split
  · rename_i h
    split
    · exact ⟨fun z => (nomatch z), ci⟩
    · exact ⟨fun _ => ok h, ci⟩
  · exact ⟨ok, ci⟩
section
variable {P : Program} {w : World} {K : PySem.W.Frag} {mg : Str → Option Value} {base : Heap} {C S : Addr}
theorem c_law_made (T : Bl mg) (M : T_Tour K mg C) (c_Setting : Mak P w K mg base 3 "Setting" S (spInit S) [.int 6, .int 1]) (c_law_draw : Cal P w K mg base 1 "_law_draw" spDraw []) (c_law_bits : Cal P w K mg base 2 "_law_bits" spBits []) (c_law_patience : Cal P w K mg base 2 "_law_patience" spPat [])
    (c_law_flags : Cal P w K mg base 2 "_law_flags" spFlags []) (d : D0 K mg "_law_made" s_law_made ["box"]) : Cal P w K mg base 5 "_law_made" (spMade C S) [] := by
  have c_Tour : Mak P w K mg base 1 "Tour" C (spTinit C) [.non] := c_Tour M
  obtain ⟨f0, fd0, M0, F0⟩ := M.ini
  have FO : FnOk P w K mg base C8.CX0 1 f0 fd0 ["self", "setting", "seat", "behind"] (spTinit C) := f_tinit M F0
  obtain ⟨mv, KB⟩ := F0.kbinds0 (ps := ["self", "setting", "seat", "behind"]) 3 ["behind"] [] (fun us _ ws => us ++ ws) (by decide) (fun q hq => nomatch hq) (fun r1 _ r3 => r1.append r3) (fun D doc pm an cdv ct us mv ws l1 l2 l3 => match us, l1, mv, l2, ws, l3 with
    | [_, _, _], _, [], _, [_], _ => rfl)
  refine cal d sc_law_made (fun vs H Q E h => ?_) (fun cdv A outer f s H vs Q E hr h => ?_)
  · obtain ⟨b, c, rfl, _⟩ := h
    rfl
  · obtain ⟨b, c, rfl, B, k⟩ := h
    refine ⟨_, (pss_cons (ps_set (i := 1) sc_law_made.nd rfl (Or.inl rfl) (pe_c c_law_bits hr (by decide) rfl (pa_cons (pv 0) pa_nil)))
      (pss_cons (ps_set (i := 2) sc_law_made.nd rfl (Or.inl rfl) (pe_op op_shl pe_int (pv 1)))
      (pss_cons (ps_set (i := 3) sc_law_made.nd rfl (Or.inl rfl) (pe_c c_law_patience hr (by decide) rfl (pa_cons (pv 0) pa_nil)))
      (pss_cons (ps_set (i := 4) sc_law_made.nd rfl (Or.inl rfl) (pe_mk c_Setting hr (by decide) rfl (pa_cons (pv 1) (pa_cons (pv 3) (pa_cons (pe_op op_add pe_int (pe_c c_law_draw hr (by decide) rfl (pa_cons (pv 0) (pa_cons pe_int pa_nil)))) pa_nil)))))
      (pss_cons (ps_set (i := 5) sc_law_made.nd rfl (Or.inl rfl) (pe_c c_law_draw hr (by decide) rfl (pa_cons (pv 0) (pa_cons (pv 2) pa_nil))))
      (pss_cons (ps_set (i := 6) sc_law_made.nd rfl (Or.inl rfl) (pe_c c_law_draw hr (by decide) rfl (pa_cons (pv 0) (pa_cons pe_int pa_nil))))
      (pss_cons (ps_set (i := 7) sc_law_made.nd rfl (Or.inl rfl) (pv 5))
      (pss_cut (ps_if (pt_cmpR op_eq (pv 6) pe_int (nomark _)) (pss_one (ps_set (i := 8) sc_law_made.nd rfl (Or.inl rfl) (pe_mk c_Tour hr (by decide) rfl (pa_cons (pv 4) (pa_cons (pv 5) pa_nil))))) (pss_one (ps_if (pt_cmpR op_eq (pv 6) pe_int (nomark _)) (pss_one (ps_set (i := 8) sc_law_made.nd rfl (Or.inl rfl) (pe_makeK M0 FO (hr.mono (by decide)) rfl M.mgC KB (C8.pass0 (E := C8.E0)) (pa_cons (pv 4) (pa_cons (pv 5) pa_nil)) (pk_cons pe_non pk_nil)))) (pss_cons (ps_set (i := 7) sc_law_made.nd rfl (Or.inl rfl) (pe_c c_law_draw hr (by decide) rfl (pa_cons (pv 0) (pa_cons (pv 2) pa_nil))))
      (pss_cut (ps_if (pt_cmpR op_eq (pv 6) pe_int (nomark _)) (pss_one (ps_set (i := 7) sc_law_made.nd rfl (Or.inl rfl) (pe_op op_mul (pv 7) (pe_c c_law_draw hr (by decide) rfl (pa_cons (pv 0) (pa_cons pe_int pa_nil)))))) pss_nil)
      (pss_cut (ps_if (pt_cmpR op_eq (pv 6) pe_int (nomark _)) (pss_one (ps_set (i := 7) sc_law_made.nd rfl (Or.inl rfl) (pe_op op_sub (pv 7) (pv 2)))) pss_nil)
      (pss_cut (ps_if (pt_cmpR op_eq (pv 6) pe_int (nomark _)) (pss_one (ps_set (i := 7) sc_law_made.nd rfl (Or.inl rfl) (pe_op op_mul (pe_op op_add (pv 7) (pe_op op_mul (pv 2) (pe_c c_law_draw hr (by decide) rfl (pa_cons (pv 0) (pa_cons (pe_op op_pow pe_int pe_int) pa_nil))))) (pe_op op_sub pe_int (pe_op op_mul pe_int (pe_c c_law_draw hr (by decide) rfl (pa_cons (pv 0) (pa_cons pe_int pa_nil)))))))) pss_nil)
      (pss_one (ps_set (i := 8) sc_law_made.nd rfl (Or.inl rfl) (pe_makeK M0 FO (hr.mono (by decide)) rfl M.mgC KB (C8.pass0 (E := C8.E0)) (pa_cons (pv 4) (pa_cons (pv 5) pa_nil)) (pk_cons (pv 7) pk_nil)))))))))))
      (pss_cons (ps_set (i := 9) sc_law_made.nd rfl (Or.inl rfl) (pe_disp (pps_cons pe_str (pv 2) (pps_cons pe_str (pv 3) (pps_cons pe_str (pv 5) (pps_cons pe_str (pv 7) pps_nil)))) rfl rfl (fun z => nomatch z) (by decide)))
      (pss_cons (ps_asg pe_non (pg_sub (pv 9) pe_str (set_dict (u1 hr))))
      (pss_cons (ps_asg pe_bl (pg_sub (pv 9) pe_str (set_dict (u1 hr))))
      (pss_cons (ps_asg pe_int (pg_sub (pv 9) pe_str (set_dict (u1 hr))))
      (pss_cons (ps_asg (pe_c c_law_flags hr (by decide) rfl (pa_cons (pv 0) (pa_cons (pv 2) (pa_cons (pv 5) pa_nil)))) (pg_sub (pv 9) pe_str (set_dict (u1 hr))))
      (pss_one (ps_ret (pe_tup (pa_cons (pv 8) (pa_cons (pv 9) pa_nil)))))))))))))))))), ?_⟩
    refine ⟨_, rfl, b, c, rfl, B, fun n H1 n1 n8 B1 X1 => ?_⟩
    refine ⟨_, rfl, _, _, rfl, rfl, ⟨by omega, by omega, by decide⟩, ?_⟩
    show gName 2 (V.int (1 * 2 ^ ((n : Int)).toNat)) _ H1 _
    rw [shl_eq]
    have r2 := ring_two n1
    have r256 := ringN_le n8
    refine ⟨_, rfl, b, c, rfl, B1, fun p H2 p1 p6 B2 X2 => ?_⟩
    refine ⟨_, rfl, _, rfl, _, rfl, b, c, 64, rfl, B2, by decide, by decide +kernel, fun d3 H3 a1 a2 B3 X3 => ?_⟩
    refine ⟨_, _, rfl, rfl, ?_⟩
    intro x dx nx ndx ne
    refine set_made (n := (n : Int)) (p := (p : Int)) (r := 1 + d3) (g := 6) (h := 1) nx ndx ne (by omega) (by omega) (by omega) (by omega) (by omega) (by omega) (by decide) (by decide) (by decide) (by decide) fun H4 X4 hx4 => ?_
    have X04 : Fr [b] H H4 := ((X1.trans X2).trans X3).trans (X4.mono fun a q => nomatch q)
    have nx0 : Nw H x := ((X1.trans X2).trans X3).live x (.of nx)
    obtain ⟨xb, xc⟩ := B3.new_ne nx
    have B4 := B3.fr X4 not_nil not_nil
    refine ⟨_, rfl, _, rfl, b, c, _, rfl, B4, by omega, ring_lt n8, fun own H5 o0 o1 B5 X5 => ?_⟩
    refine ⟨_, rfl, b, c, 5, rfl, B5, by decide, by decide +kernel, fun way H6 w0 w1 B6 X6 => ?_⟩
    have X06 := (X04.trans X5).trans X6
    have hx6 := (hx4.fr X5 (not_one xb)).fr X6 (not_one xb)
    refine ⟨_, rfl, ?_⟩
    refine ⟨fun σ H' => Fr [b] H H' ∧ Box H' b c ∧ SetO S H' x (n : Int) p (1 + d3) 6 1 ∧ ∃ (a D : Addr) (last : Int), Nw H a ∧ Nw H D ∧ TourAt C H' a x D ⟨none, 0, last, false⟩ ∧ H' D = some (.dK []) ∧ σ = [some (.ref b), some (.int (n : Int)), some (.int (ringN n)), some (.int (p : Int)), some (.ref x), some (.int own), some (.int way), some (.int last), some (.ref a), none], ?_, ?_⟩
    · refine ⟨_, rfl, rfl, _, rfl, ite2 (fun _ => ?_) (fun _ => ?_)⟩
      · refine ⟨_, rfl, _, rfl, fun a da na nda nea => ?_⟩
        refine tour_made (o := none) na nda nea fun D H7 nD X7 ta hD => ?_
        exact ⟨X06.trans (X7.mono fun a q => nomatch q), B6.fr X7 not_nil not_nil, hx6.fr X7 not_nil, a, D, own, X06.live a (.of na), X06.live D nD, ta, hD, rfl⟩
      refine ⟨_, rfl, rfl, _, rfl, ite2 (fun _ => ?_) (fun _ => ?_)⟩
      · refine ⟨_, rfl, _, rfl, rfl, rfl, fun a da na nda nea => ?_⟩
        refine tour_made (o := none) na nda nea fun D H7 nD X7 ta hD => ?_
        exact ⟨X06.trans (X7.mono fun a q => nomatch q), B6.fr X7 not_nil not_nil, hx6.fr X7 not_nil, a, D, own, X06.live a (.of na), X06.live D nD, ta, hD, rfl⟩
      refine ⟨_, rfl, _, rfl, b, c, _, rfl, B6, by omega, ring_lt n8, fun l1 H7 _ _ B7 X7 => ?_⟩
      have Mid : ∀ (H' : Hp) (l : Int), Fr [b] H6 H' → Box H' b c → (Fr [b] H H' ∧ Box H' b c ∧ SetO S H' x (n : Int) p (1 + d3) 6 1) ∧ ∃ l' : Int, [some (V.ref b), some (.int (n : Int)), some (.int (ringN n)), some (.int (p : Int)), some (.ref x), some (.int own), some (.int way), some (.int l), none, none] = [some (.ref b), some (.int (n : Int)), some (.int (ringN n)), some (.int (p : Int)), some (.ref x), some (.int own), some (.int way), some (.int l'), none, none] :=
        fun H' l X' B' => ⟨⟨X06.trans X', B', hx6.fr X' (not_one xb)⟩, l, rfl⟩
      refine ⟨fun σ H' => (Fr [b] H6 H' ∧ Box H' b c) ∧ ∃ l' : Int, σ = [some (.ref b), some (.int (n : Int)), some (.int (ringN n)), some (.int (p : Int)), some (.ref x), some (.int own), some (.int way), some (.int l'), none, none], ?_, ?_⟩
      · refine ⟨_, rfl, rfl, _, rfl, ite2 (fun _ => ?_) (fun _ => ⟨⟨X7, B7⟩, _, rfl⟩)⟩
        refine ⟨_, rfl, _, rfl, b, c, 2, rfl, B7, by decide, by decide +kernel, fun d8 H8 g0 g1 B8 X8 => ?_⟩
        exact ⟨_, _, rfl, rfl, .inr ⟨by omega, by omega⟩, ⟨X7.trans X8, B8⟩, _, rfl⟩
      rintro σ H8 ⟨⟨X8, B8⟩, l8, rfl⟩
      refine ⟨fun σ H' => (Fr [b] H6 H' ∧ Box H' b c) ∧ ∃ l' : Int, σ = [some (.ref b), some (.int (n : Int)), some (.int (ringN n)), some (.int (p : Int)), some (.ref x), some (.int own), some (.int way), some (.int l'), none, none], ?_, ?_⟩
      · refine ⟨_, rfl, rfl, _, rfl, ite2 (fun _ => ?_) (fun _ => ⟨⟨X8, B8⟩, _, rfl⟩)⟩
        exact ⟨_, rfl, _, rfl, _, _, rfl, rfl, ⟨X8, B8⟩, _, rfl⟩
      rintro σ H9 ⟨⟨X9, B9⟩, l9, rfl⟩
      refine ⟨fun σ H' => (Fr [b] H6 H' ∧ Box H' b c) ∧ ∃ l' : Int, σ = [some (.ref b), some (.int (n : Int)), some (.int (ringN n)), some (.int (p : Int)), some (.ref x), some (.int own), some (.int way), some (.int l'), none, none], ?_, ?_⟩
      · refine ⟨_, rfl, rfl, _, rfl, ite2 (fun _ => ?_) (fun _ => ⟨⟨X9, B9⟩, _, rfl⟩)⟩
        refine ⟨_, rfl, _, rfl, _, rfl, _, _, rfl, rfl, ⟨by decide, by decide, by decide⟩, b, c, _, rfl, B9, by decide +kernel, by decide +kernel, fun d10 H10 g0 g1 B10 X10 => ?_⟩
        refine ⟨_, _, rfl, rfl, .inl ⟨by omega, by omega⟩, _, _, rfl, rfl, _, rfl, b, c, 2, rfl, B10, by decide, by decide +kernel, fun d11 H11 h0 h1 B11 X11 => ?_⟩
        exact ⟨_, _, rfl, rfl, .inl ⟨by decide, by decide⟩, _, _, rfl, rfl, _, _, rfl, rfl, .inr ⟨by omega, by omega⟩, ⟨(X9.trans X10).trans X11, B11⟩, _, rfl⟩
      rintro σ H10 ⟨⟨X10, B10⟩, l10, rfl⟩
      refine ⟨_, rfl, _, rfl, _, rfl, rfl, rfl, fun a da na nda nea => ?_⟩
      refine tour_made (o := some l10) na nda nea fun D H11 nD X11 ta hD => ?_
      have Z := X06.trans X10
      exact ⟨Z.trans (X11.mono fun a q => nomatch q), B10.fr X11 not_nil not_nil, (hx6.fr X10 (not_one xb)).fr X11 not_nil, a, D, l10, Z.live a (.of na), Z.live D nD, ta, hD, rfl⟩
    rintro σ H7 ⟨X7, B7, hx7, a, D, last, na, nD, ta, hD, rfl⟩
    intro e nee
    have he0 : (upd H7 e (.dK [])) e = some (.dK []) := upd_same
    refine ⟨_, rfl, _, rfl, _, rfl, _, rfl, he0, [(.inr "ring", .int (ringN n)), (.inr "patience", .int (p : Int)), (.inr "own", .int own), (.inr "last", .int last)], rfl, by show 4 ≤ 15; decide, ?_⟩
    rw [sd_4]
    have Y1 := (X7.new nee (.dK [])).late (X7.live e (.of nee)) (.dK he0) (.dK [((.inr "ring" : Key), .int (ringN n)), (.inr "patience", .int (p : Int)), (.inr "own", .int own), (.inr "last", .int last)])
    have Z1 := ((Fr.refl [] H7).new nee (.dK [])).late (.of nee) (.dK he0) (.dK [((.inr "ring" : Key), .int (ringN n)), (.inr "patience", .int (p : Int)), (.inr "own", .int own), (.inr "last", .int last)])
    have h1 : (upd (upd H7 e (.dK [])) e (.dK [((.inr "ring" : Key), .int (ringN n)), (.inr "patience", .int (p : Int)), (.inr "own", .int own), (.inr "last", .int last)])) e = some (.dK [((.inr "ring" : Key), .int (ringN n)), (.inr "patience", .int (p : Int)), (.inr "own", .int own), (.inr "last", .int last)]) := upd_same
    generalize (upd (upd H7 e (.dK [])) e (.dK [((.inr "ring" : Key), .int (ringN n)), (.inr "patience", .int (p : Int)), (.inr "own", .int own), (.inr "last", .int last)])) = G1 at *
    refine ⟨_, rfl, e, _, rfl, sP h1 (by show 4 ≤ 100; decide) sd_5, ?_⟩
    have Z2 := Z1.late (.of nee) (.dK h1) (.dK [((.inr "ring" : Key), .int (ringN n)), (.inr "patience", .int (p : Int)), (.inr "own", .int own), (.inr "last", .int last), (.inr "now", .non)])
    refine ⟨_, rfl, e, _, rfl, sP upd_same (by show 5 ≤ 100; decide) sd_6, ?_⟩
    have Z3 := Z2.late (.of nee) (.dK upd_same) (.dK [((.inr "ring" : Key), .int (ringN n)), (.inr "patience", .int (p : Int)), (.inr "own", .int own), (.inr "last", .int last), (.inr "now", .non), (.inr "open", .bl false)])
    refine ⟨_, rfl, e, _, rfl, sP upd_same (by show 6 ≤ 100; decide) sd_7, ?_⟩
    have Z4 := Z3.late (.of nee) (.dK upd_same) (.dK [((.inr "ring" : Key), .int (ringN n)), (.inr "patience", .int (p : Int)), (.inr "own", .int own), (.inr "last", .int last), (.inr "now", .non), (.inr "open", .bl false), (.inr "bad", .int 0)])
    have h4 : (upd (upd (upd G1 e (.dK [((.inr "ring" : Key), .int (ringN n)), (.inr "patience", .int (p : Int)), (.inr "own", .int own), (.inr "last", .int last), (.inr "now", .non)])) e (.dK [((.inr "ring" : Key), .int (ringN n)), (.inr "patience", .int (p : Int)), (.inr "own", .int own), (.inr "last", .int last), (.inr "now", .non), (.inr "open", .bl false)])) e (.dK [((.inr "ring" : Key), .int (ringN n)), (.inr "patience", .int (p : Int)), (.inr "own", .int own), (.inr "last", .int last), (.inr "now", .non), (.inr "open", .bl false), (.inr "bad", .int 0)])) e = some (.dK [((.inr "ring" : Key), .int (ringN n)), (.inr "patience", .int (p : Int)), (.inr "own", .int own), (.inr "last", .int last), (.inr "now", .non), (.inr "open", .bl false), (.inr "bad", .int 0)]) := upd_same
    generalize (upd (upd (upd G1 e (.dK [((.inr "ring" : Key), .int (ringN n)), (.inr "patience", .int (p : Int)), (.inr "own", .int own), (.inr "last", .int last), (.inr "now", .non)])) e (.dK [((.inr "ring" : Key), .int (ringN n)), (.inr "patience", .int (p : Int)), (.inr "own", .int own), (.inr "last", .int last), (.inr "now", .non), (.inr "open", .bl false)])) e (.dK [((.inr "ring" : Key), .int (ringN n)), (.inr "patience", .int (p : Int)), (.inr "own", .int own), (.inr "last", .int last), (.inr "now", .non), (.inr "open", .bl false), (.inr "bad", .int 0)])) = G4 at *
    have B8 := B7.fr Z4 not_nil not_nil
    obtain ⟨eb, ec⟩ := B7.new_ne nee
    refine ⟨_, rfl, _, rfl, _, rfl, b, c, ringN n, own, rfl, B8, r2, r256, fun y fl H8 ny X8 B9 hy ly => ?_⟩
    have h8 := X8.dK h4 (not_one eb)
    have ey : e ≠ y := fun z => by rw [z, hy] at h8; cases h8
    refine ⟨_, rfl, e, _, rfl, sP h8 (by show 7 ≤ 100; decide) sd_8, ?_⟩
    have Z8 : Fr [b] H7 H8 := (Z4.mono fun a q => nomatch q).trans X8
    have Z9 := Z8.late (.of nee) (.dK h8) (.dK (st8 (.int (ringN n)) (.int (p : Int)) (.int own) (.int last) .non (.bl false) (.int 0) (.ref y)))
    have X9 := X7.trans Z9
    obtain ⟨_, hta⟩ := id ta
    obtain ⟨_, hhx⟩ := id hx7
    obtain ⟨_, _, _, _, Bx⟩ := id B7
    have ab : a ≠ b := hne hta Bx.hb (by intro z; cases z)
    have Db : D ≠ b := hne hD Bx.hb (by intro z; cases z)
    have xb7 : x ≠ b := hne hhx Bx.hb (by intro z; cases z)
    refine ⟨_, rfl, _, rfl, by show 2 ≤ sizeLine; decide, fun t nt => ?_⟩
    have Zt := Z9.new nt (.tup [.ref a, .ref e])
    refine k t a x D e y n p own ⟨none, 0, last, false⟩ fl _ na nx0 nD (X7.live e (.of nee)) (X7.live y (Z4.live y ny)) (X9.live t (.of nt)) upd_same ?_ (X9.new nt _) ((B9.off eb ec _).new nt _)
    refine ⟨ta.fr Zt (not_one ab), ⟨[], Zt.dK hD (not_one Db), Nat.zero_le _, fun k v h => by rw [valV_nil] at h; cases h⟩, ⟨_, _, _, hx7.fr Zt (not_one xb7)⟩, ⟨?_, ?_, ly⟩, n1, n8, fun h => (nomatch h), fun m h => nomatch h⟩
    · exact upd_new nt upd_same
    · refine upd_new nt ?_
      rw [upd_ne ey.symm]
      exact hy
end
end K24

set_option Elab.async false
set_option maxRecDepth 100000
set_option maxHeartbeats 8000000
set_option exponentiation.threshold 4096
/-! the law *-/
namespace K24
open PySem PySem.Spec PyProof.Rows L2 C8 LamX UF
section
variable {C S : Addr} {F : FamT} {b c A B : Addr} {k : Nat} {f : Nat → Addr} {s : Nat → TS} {fl : Nat → List Bool} {H H' : Hp}
/-- a list of whole numbers beside it may change -/
theorem WS.beside (W : WS C S F b c A B k f s fl H) {y : Addr} {ns : List Int} (hy : H y = some (.lst (ns.map V.int))) (yc : y ≠ c) (o : HO) (nt : ∀ ps, o ≠ .tbl ps := by intro ps z; cases z) : WS C S F b c A B k f s fl (upd H y o) := by
  have X : Fw [y] H (upd H y o) := (Fw.refl [y] H).upd (.head _) o nt
  obtain ⟨cells, y1, y2, y3, Bx⟩ := id W.bx
  have nA : A ≠ y := hne W.hA hy (by
    intro z
    injection z with z
    cases ns with
    | nil => cases z
    | cons _ _ => injection z with z _; cases z)
  have nB : B ≠ y := hne W.hB hy (by
    intro z
    injection z with z
    cases ns with
    | nil => cases z
    | cons _ _ => injection z with z _; cases z)
  have nb : b ≠ y := hne Bx.hb hy (by
    intro z
    injection z with z
    cases ns with
    | nil => cases z
    | cons _ _ => injection z with z _; cases z)
  refine ⟨W.bx.fw X (not_one nb) (not_one yc.symm), X.lst W.hA (not_one nA), X.lst W.hB (not_one nB), fun i hi => ?_, fun i hi => ?_, fun i hi => ?_, fun i hi => ?_, W.n1, W.n8, W.ok, W.ci, W.aa, W.DD, W.ee, W.ff⟩
  · obtain ⟨dx, ha⟩ := id (W.ta i hi)
    exact (W.ta i hi).fw X (not_one (hne ha hy (by intro z; cases z)))
  · obtain ⟨kvs, hD, _⟩ := id (W.ps i hi)
    exact (W.ps i hi).fw X (not_one (hne hD hy (by intro z; cases z)))
  · obtain ⟨rr, g, h, z⟩ := W.sx i hi
    obtain ⟨dy, hx⟩ := id z
    exact ⟨rr, g, h, z.fw X (not_one (hne hx hy (by intro z; cases z)))⟩
  · obtain ⟨z, zs, hf⟩ := W.fl0 hi
    exact (W.ls i hi).fw X (not_one (hne (W.ls i hi).he hy (by intro z; cases z))) (not_one (hne hf hy (by
      intro z
      injection z with z
      cases ns with
      | nil => cases z
      | cons _ _ => injection z with z _; cases z)))
end
section
variable {P : Program} {w : World} {K : PySem.W.Frag} {mg : Str → Option Value} {base : Heap} {C S t : Addr}
theorem f_law (T : Bl mg) (c_law_box : Cal P w K mg base 1 "_law_box" (spBox K) []) (c_law_draw : Cal P w K mg base 1 "_law_draw" spDraw []) (c_law_made : Cal P w K mg base 5 "_law_made" (spMade C S) []) (c_law_shown : Cal P w K mg base 2 "_law_shown" (spShown C S) [])
    (c_law_names : Cal P w K mg base 3 "_law_names" spNames []) (m_aim : Met P w K mg base 8 C "aim" (spAim C S t) []) (c_law_follow_aim : Cal P w K mg base 2 "_law_follow_aim" spFAim []) (c_law_same : Cal P w K mg base 1 "_law_same" spSame []) (m_report : Met P w K mg base 2 C "report" (spReport C S) [])
    (c_law_follow_report : Cal P w K mg base 1 "_law_follow_report" spFRep [])
    {fa : Addr} {fd : FuncData} (FF : C8.Fun K "law" "law" s_law fa fd) : FnOk P w K mg base C8.CX0 10 fa fd ["script"] (spLawT K t) := by
  refine C8.fn0 FF sc_law (fun vs H Q E h => ?_) (fun cdv A0 outer s0 H vs Q E hr h => ?_)
  · obtain ⟨a, ns, rfl, _⟩ := h
    rfl
  · obtain ⟨a, ns, rfl, hs, hl, hT0, k⟩ := h
    have TB0 : Tabs (TT t) H := fun p hp => by
      cases hp with
      | head => exact TabS.nil hT0
      | tail _ hp => cases hp
    refine ⟨_, (pss_cons (ps_set (i := 1) sc_law.nd rfl (Or.inl rfl) (pe_c c_law_box hr (by decide) rfl (pa_cons (pv 0) pa_nil)))
      (pss_cons (ps_set (i := 2) sc_law.nd rfl (Or.inl rfl) (pe_op op_add pe_int (pe_c c_law_draw hr (by decide) rfl (pa_cons (pv 1) (pa_cons pe_int pa_nil)))))
      (pss_cons (ps_set (i := 3) sc_law.nd rfl (Or.inl rfl) (pe_c c_law_made hr (by decide) rfl (pa_cons (pv 1) pa_nil)))
      (pss_cons (ps_set (i := 4) sc_law.nd rfl (Or.inl rfl) (pe_c c_law_made hr (by decide) rfl (pa_cons (pv 1) pa_nil)))
      (pss_cons (ps_set (i := 5) sc_law.nd rfl (Or.inl rfl) (pe_lst (pa_cons (pe_ix ix_tup (pv 3) pe_int (fun _ _ => rfl)) (pa_cons (pe_ix ix_tup (pv 4) pe_int (fun _ _ => rfl)) pa_nil))))
      (pss_cons (ps_set (i := 6) sc_law.nd rfl (Or.inl rfl) (pe_lst (pa_cons (pe_ix ix_tup (pv 3) pe_int (fun _ _ => rfl)) (pa_cons (pe_ix ix_tup (pv 4) pe_int (fun _ _ => rfl)) pa_nil))))
      (pss_cons (ps_if (pt_not (pt_val (pe_c c_law_shown hr (by decide) rfl (pa_cons (pv 5) (pa_cons (pv 6) pa_nil))))) (pss_one (ps_ret pe_bl)) pss_nil)
      (pss_cons (ps_for PassesOwn.never rfl (pi_range1 rfl T.range (pa_cons (pv 2) pa_nil)) (pg_name (i := 7) sc_law.nd rfl (Or.inl rfl)) (pss_cons (ps_set (i := 8) sc_law.nd rfl (Or.inl rfl) (pe_c c_law_draw hr (by decide) rfl (pa_cons (pv 1) (pa_cons pe_int pa_nil))))
      (pss_cons (ps_set (i := 9) sc_law.nd rfl (Or.inl rfl) (pe_ix ix_list (pv 5) (pv 8) (fun _ _ => rfl)))
      (pss_cons (ps_set (i := 10) sc_law.nd rfl (Or.inl rfl) (pe_ix ix_list (pv 6) (pv 8) (fun _ _ => rfl)))
      (pss_cons (ps_set (i := 11) sc_law.nd rfl (Or.inl rfl) (pe_c c_law_names hr (by decide) rfl (pa_cons (pv 1) (pa_cons (pv 10) pa_nil))))
      (pss_cons (ps_set (i := 12) sc_law.nd rfl (Or.inl rfl) (pe_callTy call_list_of (by rfl) T.list (by decide +kernel) (pa_cons (pv 11) pa_nil)))
      (pss_cons (ps_set (i := 13) sc_law.nd rfl (Or.inl rfl) (pe_mt m_aim hr (by decide) (pv 9) (pa_cons (pv 12) pa_nil)))
      (pss_cons (ps_expr (pe_c c_law_follow_aim hr (by decide) rfl (pa_cons (pv 10) (pa_cons (pv 11) pa_nil))))
      (pss_cons (ps_if (PW.pt (pw_or (pt_cmpR (op_neD hr.units) (pv 12) (pv 11) (nomark _)) (pw_or1 (pt_not (pt_val (pe_c c_law_same hr (by decide) rfl (pa_cons (pv 13) (pa_cons (pe_dget (u1 hr) (pv 10) pe_str (fun _ _ => rfl)) pa_nil)))))))) (pss_one (ps_ret pe_bl)) pss_nil)
      (pss_cons (ps_expr (pe_bm PySem.F.plainAttrs_list PySem.F.slot_list_append PySem.F.type_list_append mt_append (pv 12) (pa_cons (pe_dget (u1 hr) (pv 10) pe_str (fun _ _ => rfl)) pa_nil)))
      (pss_cons (ps_set (i := 14) sc_law.nd rfl (Or.inl rfl) (pe_cmpR op_gt (pe_c c_law_draw hr (by decide) rfl (pa_cons (pv 1) (pa_cons pe_int pa_nil))) pe_int (nomark _)))
      (pss_cut (ps_if (PW.pt (pw_and (pt_val (pv 14)) (pw_and1 (pt_not (pt_val (pe_c c_law_shown hr (by decide) rfl (pa_cons (pv 5) (pa_cons (pv 6) pa_nil)))))))) (pss_one (ps_ret pe_bl)) pss_nil)
      (pss_cons (ps_set (i := 15) sc_law.nd rfl (Or.inl rfl) (pe_c c_law_draw hr (by decide) rfl (pa_cons (pv 1) (pa_cons pe_int pa_nil))))
      (pss_cut (ps_if (PW.pt (pw_and (pt_cmpR op_gt (pv 15) pe_int (nomark _)) (pw_and1 (pt_cmp (pc_notN (pe_dget (u1 hr) (pv 10) pe_str (fun _ _ => rfl))))))) (pss_cons (ps_if (pt_cmp (pc_notN (pe_mt m_report hr (by decide) (pv 9) (pa_cons (pe_cmpR op_lt (pv 15) pe_int (nomark _)) pa_nil)))) (pss_one (ps_ret pe_bl)) pss_nil)
      (pss_cons (ps_expr (pe_c c_law_follow_report hr (by decide) rfl (pa_cons (pv 10) (pa_cons (pe_cmpR op_lt (pv 15) pe_int (nomark _)) pa_nil))))
      (pss_one (ps_if (PW.pt (pw_and (pt_val (pv 14)) (pw_and1 (pt_not (pt_val (pe_c c_law_shown hr (by decide) rfl (pa_cons (pv 5) (pa_cons (pv 6) pa_nil)))))))) (pss_one (ps_ret pe_bl)) pss_nil)))) pss_nil)
      (pss_one (ps_if (PW.pt (pw_and (pt_not (pt_val (pe_dget (u1 hr) (pv 10) pe_str (fun _ _ => rfl)))) (pw_and1 (pt_cmpR op_eq (pe_c c_law_draw hr (by decide) rfl (pa_cons (pv 1) (pa_cons pe_int pa_nil))) pe_int (nomark _))))) (pss_one (ps_if (PW.pt (pw_or (pt_cmp (pc_notN (pe_mt m_report hr (by decide) (pv 9) (pa_cons (pe_cmpR op_eq (pe_c c_law_draw hr (by decide) rfl (pa_cons (pv 1) (pa_cons pe_int pa_nil))) pe_int (nomark _)) pa_nil)))) (pw_or1 (pt_not (pt_val (pe_c c_law_shown hr (by decide) rfl (pa_cons (pv 5) (pa_cons (pv 6) pa_nil)))))))) (pss_one (ps_ret pe_bl)) pss_nil)) pss_nil))))))))))))))))
      (pss_one (ps_ret (pe_c c_law_shown hr (by decide) rfl (pa_cons (pv 5) (pa_cons (pv 6) pa_nil))))))))))))), ?_⟩
    refine ⟨_, rfl, a, ns, rfl, hs, hl, fun b c H1 nb nc B1 X1 => ?_⟩
    refine ⟨_, rfl, b, c, 55, rfl, B1, by decide, by decide +kernel, fun d1 H2 r0 r1 B2 X2 => ?_⟩
    refine ⟨_, _, rfl, rfl, ?_⟩
    refine ⟨_, rfl, b, c, rfl, B2, fun t0 a0 x0 D0 e0 f0 n0 p0 o0 s00 fl0 H3 na0 nx0 nD0 ne0 nf0 nt0 ht0 M0 X3 B3 => ?_⟩
    refine ⟨_, rfl, b, c, rfl, B3, fun t1 a1 x1 D1 e1 f1 n1 p1 o1 s01 fl1 H4 na1 nx1 nD1 ne1 nf1 nt1 ht1 M1 X4 B4 => ?_⟩
    have TB4 : Tabs (TT t) H4 := X4.tabs _ (X3.tabs _ (X2.tabs _ (X1.tabs _ TB0)))
    have ht04 := X4.tup ht0 (not_one (B2.nw_ne nt0).1)
    refine ⟨_, rfl, _, _, _, _, rfl, rfl, SqT.of ht04, rfl, _, rfl, _, _, _, _, rfl, rfl, SqT.of ht1, rfl, by show 2 ≤ sizeLine; decide, fun A nA => ?_⟩
    have Y1 : Fr [] H4 (upd H4 A (.lst [.ref a0, .ref a1])) := Fr.new0 nA _
    refine ⟨_, rfl, _, _, _, _, rfl, rfl, SqT.of (Y1.tup ht04 not_nil), rfl, _, rfl, _, _, _, _, rfl, rfl, SqT.of (Y1.tup ht1 not_nil), rfl, by show 2 ≤ sizeLine; decide, fun B nB => ?_⟩
    have Y2 := Y1.new nB (.lst [.ref e0, .ref e1])
    have hA5 := upd_new nB (o := .lst [.ref e0, .ref e1]) (show upd H4 A (.lst [.ref a0, .ref a1]) A = _ from upd_same)
    have hB5 : (upd (upd H4 A (.lst [.ref a0, .ref a1])) B (.lst [.ref e0, .ref e1])) B = some (.lst [.ref e0, .ref e1]) := upd_same
    have TB5 := Y2.tabs _ TB4
    have B5 := B4.fr Y2 not_nil not_nil
    generalize (upd (upd H4 A (.lst [.ref a0, .ref a1])) B (.lst [.ref e0, .ref e1])) = H5 at *
    obtain ⟨F, eF⟩ : ∃ F : FamT, F = ⟨sel a0 a1, sel x0 x1, sel D0 D1, sel e0 e1, sel n0 n1, sel p0 p1, sel o0 o1⟩ := ⟨_, rfl⟩
    have W5 : WS C S F b c A B 0 (sel f0 f1) (sel s00 s01) (sel fl0 fl1) H5 := by
      subst eF
      obtain ⟨dx0, ha0⟩ := id M0.ta
      obtain ⟨kv0, hD0, _⟩ := id M0.ps
      have ab0 := (B2.nw_ne na0).1
      have xb0 := (B2.nw_ne nx0).1
      have Db0 := (B2.nw_ne nD0).1
      have eb0 := (B2.nw_ne ne0).1
      have fb0 := (B2.nw_ne nf0).1
      refine ⟨B5, hA5, hB5, two_all ((M0.ta.fr X4 (not_one ab0)).fr Y2 not_nil) (M1.ta.fr Y2 not_nil), two_all ((M0.ps.fw X4.w (not_one Db0)).fw Y2.w not_nil) (M1.ps.fw Y2.w not_nil), two_all ?_ ?_, two_all ((M0.ls.fw X4.w (not_one eb0) (not_one fb0)).fw Y2.w not_nil not_nil) (M1.ls.fw Y2.w not_nil not_nil),
        two_all M0.n1 M1.n1, two_all M0.n8 M1.n8, two_all M0.ok M1.ok, two_all M0.ci M1.ci, ne_nw ha0 na1, ne_nw hD0 nD1, ne_nw M0.ls.he ne1, ne_nw M0.ls.hf nf1⟩
      · obtain ⟨rr, g, h, z⟩ := M0.sx
        exact ⟨rr, g, h, (z.fr X4 (not_one xb0)).fr Y2 not_nil⟩
      · obtain ⟨rr, g, h, z⟩ := M1.sx
        exact ⟨rr, g, h, z.fr Y2 not_nil⟩
    refine ⟨_, rfl, _, rfl, F, b, c, A, B, 0, _, _, _, rfl, W5, _, rfl, iteF ?_⟩
    refine ⟨_, rfl, _, rfl, by omega, by omega, ?_⟩
    refine for_range (lo := 0) (n := (1 * 6 + d1).toNat) (fun i σ H' => Tabs (TT t) H' ∧ (∃ f s fl, WS C S F b c A B (2 * i) f s fl H') ∧ ∃ v3 v4 v7 v8 v9 v10 v11 v12 v13 v14 v15, σ = [some (.ref a), some (.ref b), some (.int (6 + d1)), v3, v4, some (.ref A), some (.ref B), v7, v8, v9, v10, v11, v12, v13, v14, v15]) ?_ ?_ ?_
    · exact ⟨TB5, ⟨_, _, _, W5⟩, _, _, _, _, _, _, _, _, _, _, _, rfl⟩
    · rintro i σ H6 hi ⟨T6, ⟨f, s, fl, W6⟩, v3, v4, v7, v8, v9, v10, v11, v12, v13, v14, v15, rfl⟩
      refine ⟨_, rfl, b, c, 2, rfl, W6.bx, by decide, by decide +kernel, fun wh H7 w0 w1 B7 X7 => ?_⟩
      have W7 := W6.box X7.w B7
      obtain ⟨j, rfl⟩ := Int.eq_ofNat_of_zero_le w0
      have hj : j < 2 := by omega
      refine ⟨_, rfl, _, rfl, _, _, _, _, rfl, rfl, SqL.of W7.hA, two_at hj, ?_⟩
      refine ⟨_, rfl, _, rfl, _, _, _, _, rfl, rfl, SqL.of W7.hB, two_at hj, ?_⟩
      have n1 := W7.n1 j hj
      have n8 := W7.n8 j hj
      have r2 := ring_two n1
      have r256 := ringN_le n8
      obtain ⟨cells, y1, y2, y3, Bx⟩ := id W7.bx
      obtain ⟨oA, oB, oc, ox, oi⟩ := W7.off hj
      have L7 := W7.ls j hj
      obtain ⟨z0, zs0, hf0⟩ := W7.fl0 hj
      have eb : F.e j ≠ b := hne L7.he Bx.hb (by intro z; cases z)
      have ec : F.e j ≠ c := hne L7.he Bx.hc (by intro z; cases z)
      have fb : f j ≠ b := hne hf0 Bx.hb (by intro z; injection z with z; injection z with z _; cases z)
      have fc : f j ≠ c := fun z => oc (by rw [← z]; exact .tail _ (.tail _ (.tail _ (.tail _ (.head _)))))
      refine ⟨_, rfl, _, rfl, b, c, F.e j, f j, ringN (F.n j), F.p j, F.own j, s j, fl j, rfl, W7.bx, L7, r2, r256, eb, ec, fb, fc, W7.ci j hj, fun y f' nms fl' H8 ny of' yf X8 B8 L8 hy st => ?_⟩
      have X8w : Fw (Sj F b f j) H7 H8 := X8.w.mono fun q m => by
        rcases List.mem_cons.mp m with e | m
        · rw [e]; exact .head _
        · rcases List.mem_cons.mp m with e | m
          · rw [e]; exact .tail _ (.tail _ (.tail _ (.head _)))
          · rw [List.mem_singleton.mp m]; exact .tail _ (.tail _ (.tail _ (.tail _ (.head _))))
      have W8 : WS C S F b c A B (2 * i) (put f j f') s (put fl j fl') H8 := by
        obtain ⟨dx, ha⟩ := id (W7.ta j hj)
        obtain ⟨kvs, hD, _⟩ := id (W7.ps j hj)
        have z := W7.step hj X8w B8 (Nat.le_refl _) (s' := s j) ((W7.ta j hj).fr X8 (not_cons (hne ha Bx.hb (by intro z; cases z)) (not_two (hne ha L7.he (by intro z; cases z)) (hne ha hf0 (by intro z; cases z)))))
          ((W7.ps j hj).fw X8.w (not_cons (hne hD Bx.hb (by intro z; cases z)) (not_two (W7.De hj hj) (hne hD hf0 (by intro z; cases z))))) L8 of' (W7.ok j hj) (W7.ci j hj)
        rw [put_self] at z
        exact z
      have T8 := X8.tabs _ (X7.tabs _ T6)
      -- the list that is handed in
      refine ⟨_, rfl, y, _, rfl, .inl (SqL.of hy), fun hd nhd => ?_⟩
      have Xh : Fr [] H8 (upd H8 hd (.lst (nms.map V.int))) := Fr.new0 nhd _
      have W9 := W8.nil Xh.w
      have hh9 : (upd H8 hd (.lst (nms.map V.int))) hd = some (.lst (nms.map V.int)) := upd_same
      have hy9 := Xh.lst hy not_nil
      have T9 := Xh.tabs _ T8
      have hyc : hd ≠ c := (B8.new_ne nhd).2
      have yhd : y ≠ hd := ne_of_none hy nhd
      generalize (upd H8 hd (.lst (nms.map V.int))) = H9 at *
      obtain ⟨dx9, ha9⟩ := id (W9.ta j hj)
      obtain ⟨rr, g, h, hx9⟩ := W9.sx j hj
      refine ⟨_, rfl, F.a j, dx9, _, rfl, ha9, ft_aim, _, rfl, F.a j, F.x j, F.D j, hd, s j, F.n j, nms, rfl, W9.ta j hj, W9.ok j hj, ⟨_, _, _, _, hx9⟩, n8, hh9, T9, fun s' H10 X10 T10 ta10 r10 => ?_⟩
      have L9 := W9.ls j hj
      rw [put_eq, put_eq] at L9
      obtain ⟨z9, zs9, hf9⟩ := W9.fl0 hj
      rw [put_eq] at hf9
      have ea : F.e j ≠ F.a j := hne L9.he ha9 (by intro z; cases z)
      have fa' : f' ≠ F.a j := hne hf9 ha9 (by intro z; cases z)
      have L10 := L9.fw X10 (not_one ea) (not_one fa')
      have ya : y ≠ F.a j := hne hy9 ha9 (by intro z; cases z)
      have hda : hd ≠ F.a j := hne hh9 ha9 (by intro z; cases z)
      have hy10 := X10.lst hy9 (not_one ya)
      have hh10 := X10.lst hh9 (not_one hda)
      have ye : y ≠ F.e j := hne hy10 L10.he (by intro z; cases z)
      have hde : hd ≠ F.e j := hne hh10 L10.he (by intro z; cases z)
      refine ⟨_, rfl, _, rfl, F.e j, f', y, ringN (F.n j), F.p j, F.own j, s j, fl', nms, rfl, L10, W9.ok j hj, r2, r256, hy10, st, ye, fun s'' H11 X11 r11 L11 => ?_⟩
      obtain rfl := aim_uniq st r10 r11
      obtain ⟨ok', ci', op'⟩ := aim_ok st (W9.ok j hj) (W9.ci j hj) r10
      have X911 : Fw (Sj F b (put f j f') j) H9 H11 := (X10.mono fun q m => by rw [List.mem_singleton.mp m]; exact .tail _ (.head _)).trans (X11.w.mono fun q m => by rw [List.mem_singleton.mp m]; exact .tail _ (.tail _ (.tail _ (.head _))))
      obtain ⟨kvs9, hD9, _⟩ := id (W9.ps j hj)
      obtain ⟨c9, u1, u2, u3, Bx9⟩ := id W9.bx
      have B11 : Box H11 b c := by
        have o9 := W9.off hj
        exact (W9.bx.fw X10 (not_one (hne Bx9.hb ha9 (by intro z; cases z))) (not_one (hne Bx9.hc ha9 (by intro z; cases z)))).fw X11.w (not_one (hne Bx9.hb L9.he (by intro z; cases z))) (not_one (hne Bx9.hc L9.he (by intro z; cases z)))
      have W11 : WS C S F b c A B (2 * i) (put f j f') (put s j s') (put fl j fl') H11 := by
        have z := W9.step hj X911 B11 (Nat.le_refl _) (s' := s') (f' := f') (fl' := fl') (ta10.fr X11 (not_one ea.symm)) (((W9.ps j hj).fw X10 (not_one (hne hD9 ha9 (by intro z; cases z)))).fw X11.w (not_one (W9.De hj hj))) L11 (.inl put_eq.symm) ok' ci'
        have e1 : put (put f j f') j f' = put f j f' := funext fun i => by unfold put; split <;> rfl
        have e2 : put (put fl j fl') j fl' = put fl j fl' := funext fun i => by unfold put; split <;> rfl
        rw [e1, e2] at z
        exact z
      have hy11 := X11.lst hy10 (not_one ye)
      have hh11 := X11.lst hh10 (not_one hde)
      have T11 := X11.tabs _ T10
      refine ⟨_, rfl, _, rfl, _, _, dpList (SqL.of hh11), dpList (SqL.of hy11), shaped_list nms, shaped_list nms, _, rfl, ?_⟩
      rw [eqv_list]
      refine iteF ?_
      refine ⟨_, rfl, _, rfl, F.e j, _, rfl, sG L11.he sg_now, s'.cur, rfl, _, rfl, iteF ?_⟩
      have sl := seats_len st (by omega : 0 ≤ ringN (F.n j))
      refine ⟨_, rfl, .inl ⟨rfl, _, SqL.of hh11⟩, _, rfl, F.e j, _, rfl, sG L11.he sg_own, hd, _, _, rfl, rfl, hh11, by rw [List.length_map]; exact small1000' (by omega), ?_⟩
      have W12 := W11.beside hh11 hyc (.lst (nms.map V.int ++ [.int (F.own j)]))
      have T12 := tabs_put T11 (.lst hh11) (.lst (nms.map V.int ++ [.int (F.own j)]))
      generalize (upd H11 hd (.lst (nms.map V.int ++ [.int (F.own j)]))) = H12 at *
      refine ⟨_, rfl, b, c, 3, rfl, W12.bx, by decide, by decide +kernel, fun lk H13 k0 k1 B13 X13 => ?_⟩
      have W13 := W12.box X13.w B13
      have T13 := X13.tabs _ T12
      refine ⟨_, _, rfl, rfl, ?_⟩
      have es : put s j s' j = s' := put_eq
      refine ⟨fun σ H' => H' = H13 ∧ σ = [some (.ref a), some (.ref b), some (.int (6 + d1)), v3, v4, some (.ref A), some (.ref B), some (.int (0 + (i : Int))), some (.int (j : Int)), some (.ref (F.a j)), some (.ref (F.e j)), some (.ref y), some (.ref hd), some (optV s'.cur), some (.bl (decide (0 < lk))), v15], ?_, ?_⟩
      · refine ⟨_, rfl, _, rfl, ite2 (fun _ => ?_) (fun _ => iteF ⟨rfl, rfl⟩)⟩
        exact ⟨_, rfl, _, rfl, F, b, c, A, B, _, _, _, _, rfl, W13, _, rfl, iteF ⟨rfl, rfl⟩⟩
      rintro σ H' ⟨rfl, rfl⟩
      refine ⟨_, rfl, b, c, 8, rfl, W13.bx, by decide, by decide +kernel, fun wy H14 k2 k3 B14 X14 => ?_⟩
      have W14 := W13.box X14.w B14
      have T14 := X14.tabs _ T13
      have aD_sub : ∀ (f : Nat → Addr) (q : Addr), q ∈ [F.a j, F.D j] → q ∈ Sj F b f j := fun f q m => by
        rcases List.mem_cons.mp m with e | m
        · rw [e]; exact .tail _ (.head _)
        · rw [List.mem_singleton.mp m]; exact .tail _ (.tail _ (.head _))
      refine ⟨fun σ H' => Tabs (TT t) H' ∧ (∃ f s fl, WS C S F b c A B (2 * i + 1) f s fl H') ∧ σ = [some (.ref a), some (.ref b), some (.int (6 + d1)), v3, v4, some (.ref A), some (.ref B), some (.int (0 + (i : Int))), some (.int (j : Int)), some (.ref (F.a j)), some (.ref (F.e j)), some (.ref y), some (.ref hd), some (optV s'.cur), some (.bl (decide (0 < lk))), some (.int wy)], ?_, ?_⟩
      · have W14' : WS C S F b c A B (2 * i + 1) (put f j f') (put s j s') (put fl j fl') H14 := by
          have z := W14.step hj (Fw.refl _ _) W14.bx (Nat.le_succ _) (W14.ta j hj) ((W14.ps j hj).le (Nat.le_succ _)) (W14.ls j hj) (.inl rfl) (W14.ok j hj) (W14.ci j hj)
          rw [put_self, put_self, put_self] at z
          exact z
        have L14 := W14.ls j hj
        rw [put_eq, put_eq, put_eq] at L14
        refine ⟨_, rfl, _, _, rfl, rfl, _, rfl, ite2 (fun _ => ?_) (fun _ => iteF ⟨T14, ⟨_, _, _, W14'⟩, rfl⟩)⟩
        refine ⟨_, rfl, F.e j, _, rfl, sG L14.he sg_now, _, rfl, ?_⟩
        cases hc : s'.cur with
        | none => exact iteF ⟨T14, ⟨_, _, _, W14'⟩, rfl⟩
        | some m =>
          refine iteT ?_
          obtain ⟨dx, ha⟩ := id (W14.ta j hj)
          obtain ⟨rr', g', h', hx⟩ := W14.sx j hj
          obtain ⟨kvs', hD', _⟩ := id (W14.ps j hj)
          obtain ⟨z4, zs4, hf4⟩ := W14.fl0 hj
          rw [put_eq] at hf4
          obtain ⟨c4, q1, q2, q3, Bx4⟩ := id W14.bx
          refine ⟨_, rfl, F.a j, dx, _, rfl, ha, ft_report, _, rfl, _, _, rfl, rfl, F.a j, F.x j, F.D j, put s j s' j, decide (wy < 3), 2 * i, _, F.p j, rr', g', h', rfl, W14.ta j hj, W14.ok j hj, W14.ps j hj, by omega, hx, fun G1 XG tG pG => ?_⟩
          rw [put_eq] at tG
          refine ⟨_, rfl, iteF ?_⟩
          have LG := L14.fw XG.w (not_two (hne L14.he ha (by intro z; cases z)) (W14.De hj hj).symm) (not_two (hne hf4 ha (by intro z; cases z)) (hne hf4 hD' (by intro z; cases z)))
          refine ⟨_, rfl, _, rfl, _, _, rfl, rfl, F.e j, f', ringN (F.n j), F.p j, F.own j, s', fl', decide (wy < 3), rfl, LG, op' m hc, fun G2 X2 L2 => ?_⟩
          have XX : Fw (Sj F b (put f j f') j) H14 G2 := (XG.w.mono (aD_sub _)).trans (X2.w.mono fun q m => by rw [List.mem_singleton.mp m]; exact .tail _ (.tail _ (.tail _ (.head _))))
          have BG : Box G2 b c := (W14.bx.fr XG (not_two (hne Bx4.hb ha (by intro z; cases z)) (hne Bx4.hb hD' (by intro z; cases z))) (not_two (hne Bx4.hc ha (by intro z; cases z)) (hne Bx4.hc hD' (by intro z; cases z)))).fr X2 (not_one (hne Bx4.hb L14.he (by intro z; cases z))) (not_one (hne Bx4.hc L14.he (by intro z; cases z)))
          obtain ⟨okr, cir⟩ := rep_ok (p := F.p j) (r := ringN (F.n j)) (b := decide (wy < 3)) ok' ci'
          have WG := W14.step hj XX BG (Nat.le_succ _) (s' := repS (F.p j) s' (decide (wy < 3))) (f' := f') (fl' := fl') (tG.fr X2 (not_one (hne ha L14.he (by intro z; cases z)))) (pG.fw X2.w (not_one (W14.De hj hj))) L2 (.inl put_eq.symm) okr cir
          have TG := X2.tabs _ (XG.tabs _ T14)
          refine ⟨_, rfl, _, rfl, ite2 (fun _ => ?_) (fun _ => iteF ⟨TG, ⟨_, _, _, WG⟩, rfl⟩)⟩
          exact ⟨_, rfl, _, rfl, F, b, c, A, B, _, _, _, _, rfl, WG, _, rfl, iteF ⟨TG, ⟨_, _, _, WG⟩, rfl⟩⟩
      · rintro σ H15 ⟨T15, ⟨f5, s5, fl5, W15⟩, rfl⟩
        have L15 := W15.ls j hj
        have up : ∀ (G : Hp) (f : Nat → Addr) (s : Nat → TS) (fl : Nat → List Bool), WS C S F b c A B (2 * i + 1) f s fl G → WS C S F b c A B (2 * (i + 1)) f s fl G := fun G f s fl WG => by
          have z := WG.step hj (Fw.refl _ _) WG.bx (k' := 2 * (i + 1)) (by omega) (WG.ta j hj) ((WG.ps j hj).le (by omega)) (WG.ls j hj) (.inl rfl) (WG.ok j hj) (WG.ci j hj)
          rw [put_self, put_self, put_self] at z
          exact z
        refine ⟨_, rfl, F.e j, _, rfl, sG L15.he sg_open, _, rfl, ?_⟩
        cases hop : (s5 j).op with
        | true => exact iteF ⟨T15, ⟨_, _, _, up _ _ _ _ W15⟩, _, _, _, _, _, _, _, _, _, _, _, rfl⟩
        | false =>
          refine iteT ⟨_, rfl, b, c, 4, rfl, W15.bx, by decide, by decide +kernel, fun d6 H16 _ _ B16 X16 => ⟨rfl, _, rfl, ite2 (fun _ => ?_) (fun _ => ⟨X16.tabs _ T15, ⟨_, _, _, up _ _ _ _ (W15.box X16.w B16)⟩, _, _, _, _, _, _, _, _, _, _, _, rfl⟩)⟩⟩
          have W16 := W15.box X16.w B16
          obtain ⟨dx, ha⟩ := id (W16.ta j hj)
          refine ⟨_, rfl, F.a j, dx, _, rfl, ha, ft_report, _, rfl, b, c, 2, rfl, W16.bx, by decide, by decide +kernel, fun d7 H17 _ _ B17 X17 => ⟨rfl, ?_⟩⟩
          have W17 := W16.box X17.w B17
          obtain ⟨rr', g', h', hx⟩ := W17.sx j hj
          obtain ⟨dx17, ha17⟩ := id (W17.ta j hj)
          obtain ⟨kvs', hD', _⟩ := id (W17.ps j hj)
          obtain ⟨z4, zs4, hf4⟩ := W17.fl0 hj
          obtain ⟨c4, q1, q2, q3, Bx4⟩ := id W17.bx
          have L17 := W17.ls j hj
          refine ⟨F.a j, F.x j, F.D j, s5 j, _, 2 * i + 1, _, F.p j, rr', g', h', rfl, W17.ta j hj, W17.ok j hj, W17.ps j hj, by omega, hx, fun G1 XG tG pG => ?_⟩
          have er : ∀ bb, repS (F.p j) (s5 j) bb = s5 j := fun bb => by unfold repS; rw [hop]; rfl
          rw [er] at tG
          have BG : Box G1 b c := W17.bx.fr XG (not_two (hne Bx4.hb ha17 (by intro z; cases z)) (hne Bx4.hb hD' (by intro z; cases z))) (not_two (hne Bx4.hc ha17 (by intro z; cases z)) (hne Bx4.hc hD' (by intro z; cases z)))
          have WG := W17.step hj (XG.w.mono (aD_sub _)) BG (k' := 2 * (i + 1)) (by omega) tG (pG.le (by omega)) (L17.fw XG.w (not_two (hne L17.he ha17 (by intro z; cases z)) (W17.De hj hj).symm) (not_two (hne hf4 ha17 (by intro z; cases z)) (hne hf4 hD' (by intro z; cases z)))) (.inl rfl) (W17.ok j hj) (W17.ci j hj)
          refine ⟨_, rfl, iteF ⟨_, rfl, _, rfl, F, b, c, A, B, _, _, _, _, rfl, WG, _, rfl, iteF ?_⟩⟩
          exact ⟨XG.tabs _ (X17.tabs _ (X16.tabs _ T15)), ⟨_, _, _, WG⟩, _, _, _, _, _, _, _, _, _, _, _, rfl⟩
    · rintro σ H6 ⟨T6, ⟨f, s, fl, W6⟩, v3, v4, v7, v8, v9, v10, v11, v12, v13, v14, v15, rfl⟩
      exact ⟨_, rfl, _, rfl, F, b, c, A, B, _, _, _, _, rfl, W6, k H6⟩
end
/-- from the names of the text to the law's promise -/
theorem fin {l : PySem.W.OpenLaw} {w : World} {K : PySem.W.Frag} {h : Heap} {mg : Str → Option Value} {fa CS CT c t : Addr} (X : K.In h) (hT : h.get? t = some { cls := .none, data := .fields #[] }) (nT : K.lookup t = none) (hC : PySem.W.codeHdIn K c t = true) (T : Bl mg) (D : Ds K mg CS CT c) (L : LawP K mg s_law fa) : LamX.LawAtS l w K C8.CX0 10 63 "script" mg fa h := by
  refine UF.lawT X hT nT hC L fun fd FL base _ _ TB => ?_
  have p_draw : Cal l.prog w K mg base 1 "_law_draw" spDraw [] := c_law_draw T D.d_law_draw
  have pS : Prp l.prog w K mg base 1 CS "seats" (spSeats CS) := p_seats D.t_Setting
  have p_fl : Cal l.prog w K mg base 2 "_law_flags" spFlags [] := c_law_flags T p_draw D.d_law_flags
  have p_same : Cal l.prog w K mg base 1 "_law_same" spSame [] := c_law_same T D.d_law_same
  exact f_law (C := CT) (S := CS) (t := t) T (c_law_box T D.d_law_box) p_draw
    (c_law_made T D.t_Tour (c_Setting D.t_Setting (c_check_field (c_is_integer T D.d_is_integer) D.d_check_field)) p_draw (c_law_bits p_draw D.d_law_bits) (c_law_patience p_draw D.d_law_patience) p_fl D.d_law_made)
    (c_law_shown T D.t_Tour p_same D.d_law_shown) (c_law_names T p_draw p_fl (c_law_turn_seat T p_draw D.d_law_turn_seat) D.d_law_names)
    (m_aim D.t_Tour (m_begin D.t_Tour) (c_first_from T (c_distance pS D.d_distance) D.d1_first_from TB)) (c_law_follow_aim T (c_law_first T D.d_law_first) D.d_law_follow_aim) p_same (m_report D.t_Tour D.t_Setting (m_passes D.t_Tour)) (c_law_follow_report D.d_law_follow_report) FL
end K24

set_option Elab.async false
set_option maxRecDepth 100000
open PySem PySem.W PyProof.Rows
set_option maxRecDepth 100000 in
set_option maxHeartbeats 0 in
theorem PySem.Challenge.cw_livingroll_k24_tour_aims_holds : PySem.Challenge.rw_livingroll_k24_tour_aims.Holds := by
  w_on; o_law; k_head; (case hw => w_witness2)
  k_fill
  refine LamX.walk_ofTs (l := PySem.Challenge.rw_livingroll_k24_tour_aims) (n := 63) (k := 10) (x := "script") (CX := fun _ => C8.CX0) rfl (by decide) rfl ⟨rfl, by decide, by decide⟩ (fun w h Y => PySem.W.km_in_of Y) ?F (fun _ _ _ _ _ z => z)
  case F =>
    intro w mg fa h Y KX G hmg
    have hT8 := PySem.W.km_tabs_of Y
    refine' K24.fin KX (hT8 _ (List.mem_singleton.mpr rfl)) ?nT ?hC ?B ?D ?L
    (case nT => kernel_rfl)
    (case hC => kernel_rfl)
    (case B =>
      refine' UF.bl_mk KX G ?z0 ?z1 ?z2 ?z3 ?z4 ?z5 ?z6 ?z7 ?z8 ?z9 ?z10 ?z11 ?z12 ?z13 ?z14 ?z15 ?z16 ?z17 ?z18 ?z19 ?z20
      (case z0 => k_is)
      (case z1 => k_is)
      (case z2 => k_is)
      (case z3 => k_is)
      (case z4 => k_is)
      (case z5 => k_is)
      (case z6 => k_is)
      (case z7 => k_is)
      (case z8 => k_is)
      (case z9 => k_is)
      (case z10 => k_is)
      (case z11 => k_is)
      (case z12 => k_is)
      (case z13 => k_is)
      (case z14 => k_is)
      (case z15 => k_is)
      (case z16 => k_is)
      (case z17 => k_is)
      (case z18 => k_is)
      (case z19 => k_is)
      (case z20 => k_is))
    (case D =>
      refine' @K24.Ds.mk _ _ _ _ _ ?d1_first_from ?is_integer ?check_field ?distance ?law_box ?law_draw ?law_bits ?law_patience ?law_flags ?law_first ?law_same ?law_made ?law_turn_seat ?law_names ?law_follow_aim ?law_follow_report ?law_shown ?t_Setting ?t_Tour
      (case t_Setting =>
        refine' K24.T_Setting.mk ?cl ?mgC ?n_bits ?n_patience ?n_room ?n_grace ?n_helpers ?k_MOST_BITS ?k_MOST_PATIENCE ?k_MOST_ROOM ?k_MOST_GRACE ?k_MOST_HELPERS ?ini ?p_seats
        (case mgC =>
          refine' PySem.W.mg_of KX G ?a
          (case a => k_is))
        (case cl =>
          refine' UF.cls_mk ?a ?b ?c ?d
          (case a => k_is)
          (case b => k_is)
          (case c => k_is)
          (case d => k_is))
        (case n_bits => (show PySem.W.findIn _ _ _ = some none); k_is)
        (case n_patience => (show PySem.W.findIn _ _ _ = some none); k_is)
        (case n_room => (show PySem.W.findIn _ _ _ = some none); k_is)
        (case n_grace => (show PySem.W.findIn _ _ _ = some none); k_is)
        (case n_helpers => (show PySem.W.findIn _ _ _ = some none); k_is)
        (case k_MOST_BITS =>
          refine' UF.con_mk ?a ?b ?c
          (case a => k_is)
          (case b => k_is)
          (case c => decide +kernel))
        (case k_MOST_PATIENCE =>
          refine' UF.con_mk ?a ?b ?c
          (case a => k_is)
          (case b => k_is)
          (case c => decide +kernel))
        (case k_MOST_ROOM =>
          refine' UF.con_mk ?a ?b ?c
          (case a => k_is)
          (case b => k_is)
          (case c => decide +kernel))
        (case k_MOST_GRACE =>
          refine' UF.con_mk ?a ?b ?c
          (case a => k_is)
          (case b => k_is)
          (case c => decide +kernel))
        (case k_MOST_HELPERS =>
          refine' UF.con_mk ?a ?b ?c
          (case a => k_is)
          (case b => k_is)
          (case c => decide +kernel))
        (case ini =>
          refine' UF.inid2_mk ?m ?a ?i ?kc ?l ?c ?k ?g1 ?g2
          (case m => k_is)
          (case a => k_is)
          (case i => k_is)
          (case kc => k_is)
          (case l => k_is)
          (case c => k_is)
          (case k => k_is)
          (case g1 => k_is)
          (case g2 => k_is))
        (case p_seats =>
          refine' UF.prop_mk ?a ?gt ?tk ?r ?l ?c (fun _ _ _ _ _ _ us hl => match us, hl with | [_], _ => rfl)
          (case a => k_is)
          (case gt => k_is)
          (case tk => k_is)
          (case r => k_is)
          (case l => k_is)
          (case c => k_is)))
      (case t_Tour =>
        refine' K24.T_Tour.mk ?cl ?mgC ?n_setting ?n_current ?n_failed ?n_last ?n_goes_on ?n_passes ?ini ?m_aim ?m_begin ?m_report ?m_passes
        (case mgC =>
          refine' PySem.W.mg_of KX G ?a
          (case a => k_is))
        (case cl =>
          refine' UF.cls_mk ?a ?b ?c ?d
          (case a => k_is)
          (case b => k_is)
          (case c => k_is)
          (case d => k_is))
        (case n_setting => (show PySem.W.findIn _ _ _ = some none); k_is)
        (case n_current => (show PySem.W.findIn _ _ _ = some none); k_is)
        (case n_failed => (show PySem.W.findIn _ _ _ = some none); k_is)
        (case n_last => (show PySem.W.findIn _ _ _ = some none); k_is)
        (case n_goes_on => (show PySem.W.findIn _ _ _ = some none); k_is)
        (case n_passes => (show PySem.W.findIn _ _ _ = some none); k_is)
        (case ini =>
          refine' UF.inidN_mk ?m ?a ?i ?kc ?l ?c ?k ?g1
          (case m => k_is)
          (case a => k_is)
          (case i => k_is)
          (case kc => k_is)
          (case l => k_is)
          (case c => k_is)
          (case k => k_is)
          (case g1 => k_is))
        (case m_aim =>
          refine' UF.meth_mk ?a ?i ?l ?c ?k (fun _ _ _ _ _ _ us hl => match us, hl with | [_, _], _ => rfl)
          (case a => k_is)
          (case i => k_is)
          (case l => k_is)
          (case c => k_is)
          (case k => k_is))
        (case m_begin =>
          refine' UF.meth_mk ?a ?i ?l ?c ?k (fun _ _ _ _ _ _ us hl => match us, hl with | [_, _], _ => rfl)
          (case a => k_is)
          (case i => k_is)
          (case l => k_is)
          (case c => k_is)
          (case k => k_is))
        (case m_report =>
          refine' UF.meth_mk ?a ?i ?l ?c ?k (fun _ _ _ _ _ _ us hl => match us, hl with | [_, _], _ => rfl)
          (case a => k_is)
          (case i => k_is)
          (case l => k_is)
          (case c => k_is)
          (case k => k_is))
        (case m_passes =>
          refine' UF.meth_mk ?a ?i ?l ?c ?k (fun _ _ _ _ _ _ us hl => match us, hl with | [_, _], _ => rfl)
          (case a => k_is)
          (case i => k_is)
          (case l => k_is)
          (case c => k_is)
          (case k => k_is)))
      (case d1_first_from =>
        refine' UF.d1_mk KX G ?a ?l ?c ?k
        (case a => k_is)
        (case l => k_is)
        (case c => k_is)
        (case k => k_is))
      (case is_integer =>
        refine' UF.d0_mk KX G ?a ?l ?c ?k (fun _ _ _ _ _ _ us hl => match us, hl with | [_], _ => rfl)
        (case a => k_is)
        (case l => k_is)
        (case c => k_is)
        (case k => k_is))
      (case check_field =>
        refine' UF.d0_mk KX G ?a ?l ?c ?k (fun _ _ _ _ _ _ us hl => match us, hl with | [_, _, _, _], _ => rfl)
        (case a => k_is)
        (case l => k_is)
        (case c => k_is)
        (case k => k_is))
      (case distance =>
        refine' UF.d0_mk KX G ?a ?l ?c ?k (fun _ _ _ _ _ _ us hl => match us, hl with | [_, _, _], _ => rfl)
        (case a => k_is)
        (case l => k_is)
        (case c => k_is)
        (case k => k_is))
      (case law_box =>
        refine' UF.d0_mk KX G ?a ?l ?c ?k (fun _ _ _ _ _ _ us hl => match us, hl with | [_], _ => rfl)
        (case a => k_is)
        (case l => k_is)
        (case c => k_is)
        (case k => k_is))
      (case law_draw =>
        refine' UF.d0_mk KX G ?a ?l ?c ?k (fun _ _ _ _ _ _ us hl => match us, hl with | [_, _], _ => rfl)
        (case a => k_is)
        (case l => k_is)
        (case c => k_is)
        (case k => k_is))
      (case law_bits =>
        refine' UF.d0_mk KX G ?a ?l ?c ?k (fun _ _ _ _ _ _ us hl => match us, hl with | [_], _ => rfl)
        (case a => k_is)
        (case l => k_is)
        (case c => k_is)
        (case k => k_is))
      (case law_patience =>
        refine' UF.d0_mk KX G ?a ?l ?c ?k (fun _ _ _ _ _ _ us hl => match us, hl with | [_], _ => rfl)
        (case a => k_is)
        (case l => k_is)
        (case c => k_is)
        (case k => k_is))
      (case law_flags =>
        refine' UF.d0_mk KX G ?a ?l ?c ?k (fun _ _ _ _ _ _ us hl => match us, hl with | [_, _, _], _ => rfl)
        (case a => k_is)
        (case l => k_is)
        (case c => k_is)
        (case k => k_is))
      (case law_first =>
        refine' UF.d0_mk KX G ?a ?l ?c ?k (fun _ _ _ _ _ _ us hl => match us, hl with | [_, _, _], _ => rfl)
        (case a => k_is)
        (case l => k_is)
        (case c => k_is)
        (case k => k_is))
      (case law_same =>
        refine' UF.d0_mk KX G ?a ?l ?c ?k (fun _ _ _ _ _ _ us hl => match us, hl with | [_, _], _ => rfl)
        (case a => k_is)
        (case l => k_is)
        (case c => k_is)
        (case k => k_is))
      (case law_made =>
        refine' UF.d0_mk KX G ?a ?l ?c ?k (fun _ _ _ _ _ _ us hl => match us, hl with | [_], _ => rfl)
        (case a => k_is)
        (case l => k_is)
        (case c => k_is)
        (case k => k_is))
      (case law_turn_seat =>
        refine' UF.d0_mk KX G ?a ?l ?c ?k (fun _ _ _ _ _ _ us hl => match us, hl with | [_, _], _ => rfl)
        (case a => k_is)
        (case l => k_is)
        (case c => k_is)
        (case k => k_is))
      (case law_names =>
        refine' UF.d0_mk KX G ?a ?l ?c ?k (fun _ _ _ _ _ _ us hl => match us, hl with | [_, _], _ => rfl)
        (case a => k_is)
        (case l => k_is)
        (case c => k_is)
        (case k => k_is))
      (case law_follow_aim =>
        refine' UF.d0_mk KX G ?a ?l ?c ?k (fun _ _ _ _ _ _ us hl => match us, hl with | [_, _], _ => rfl)
        (case a => k_is)
        (case l => k_is)
        (case c => k_is)
        (case k => k_is))
      (case law_follow_report =>
        refine' UF.d0_mk KX G ?a ?l ?c ?k (fun _ _ _ _ _ _ us hl => match us, hl with | [_, _], _ => rfl)
        (case a => k_is)
        (case l => k_is)
        (case c => k_is)
        (case k => k_is))
      (case law_shown =>
        refine' UF.d0_mk KX G ?a ?l ?c ?k (fun _ _ _ _ _ _ us hl => match us, hl with | [_, _], _ => rfl)
        (case a => k_is)
        (case l => k_is)
        (case c => k_is)
        (case k => k_is)))
    (case L =>
      refine' UF.law_mk KX G hmg ?aL ?lL ?cL (fun _ _ _ _ _ _ _ => rfl)
      (case aL => k_is)
      (case lL => k_is)
      (case cL => k_is))
