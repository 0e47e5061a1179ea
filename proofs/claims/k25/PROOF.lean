import PyProof.Rows.All
import Wide.All
import OpenK.AllK
import Wide.FinOn
import HandS.Base
import HandS.Call
import HandS.List
import HandS.Comp
import HandS.Ends
import HandS.Text
import HandS.Words
import HandS.Codes
import HandS.Wide
import HandS.Dict
import HandS.Style
import HandS.Small
import HandS.Lambda
import HandS.IsInst
import HandS.Defaults
import HandS.MakeKwOnly
import HandS.Property
import HandS.CallRecv
import HandS.Conv
import HandS.Flow
import HandS.Strs
import HandS.EndTab
import HandS.SortInts
import KE.KMinKey
import KE.KLam
import PyProof.WalkInts
import HandS.SortKw
import HandS.Nested
import PySem.Challenge.RW_livingroll_k25_whole_tour_windows
set_option Elab.async false
set_option maxRecDepth 100000
set_option maxHeartbeats 4000000
set_option exponentiation.threshold 4096
/-! what stays between two heaps -/
namespace UF
open PySem PySem.Spec PyProof.Rows L2 C8 LamX

/-- none stands there, or a table of code -/
def Nw (H : Hp) (a : Addr) : Prop := ∀ o, H a = some o → ∃ ps, o = .tbl ps
theorem Nw.of {H : Hp} {a : Addr} (h : H a = none) : Nw H a := fun o e => by rw [h] at e; cases e
theorem ne_nw {H : Hp} {a b : Addr} {o : HO} (h : H a = some o) (n : Nw H b) (nt : ∀ ps, o ≠ .tbl ps := by intro ps z; cases z) : a ≠ b := fun e => by
  obtain ⟨ps, z⟩ := n o (by rw [← e]; exact h)
  exact nt ps z
/-- what stands there is no table and no code -/
def Pl (H : Hp) (a : Addr) : Prop := ∃ o, H a = some o ∧ (∀ ps, o ≠ .tbl ps) ∧ ∀ φ, o ≠ .ext φ
section
variable {H : Hp} {a : Addr}
theorem Pl.lst {xs : List V} (h : H a = some (.lst xs)) : Pl H a := ⟨_, h, fun _ z => (nomatch z), fun _ z => nomatch z⟩
theorem Pl.tup {xs : List V} (h : H a = some (.tup xs)) : Pl H a := ⟨_, h, fun _ z => (nomatch z), fun _ z => nomatch z⟩
theorem Pl.dK {xs : List (Key × V)} (h : H a = some (.dK xs)) : Pl H a := ⟨_, h, fun _ z => (nomatch z), fun _ z => nomatch z⟩
theorem Pl.dT {xs : List (List Key × V)} (h : H a = some (.dT xs)) : Pl H a := ⟨_, h, fun _ z => (nomatch z), fun _ z => nomatch z⟩
theorem Pl.ins {C dx : Addr} {fs : List (Str × V)} (h : H a = some (.ins C dx fs)) : Pl H a := ⟨_, h, fun _ z => (nomatch z), fun _ z => nomatch z⟩
end
/-- all that was tracked stays, but what stands at ds and tables; nothing is dropped (weak: tables may grow) -/
structure Fw (ds : List Addr) (H H' : Hp) : Prop where
  keep : ∀ a o, H a = some o → a ∉ ds → (∀ ps, o ≠ .tbl ps) → H' a = some o
  live : ∀ a, Nw H' a → Nw H a
/-- .. and tables stay as they are -/
structure Fr (ds : List Addr) (H H' : Hp) : Prop extends Fw ds H H' where
  tabs : ∀ T, Tabs T H → Tabs T H'
variable {ds es : List Addr} {H H1 H2 : Hp} {a b : Addr}
theorem Fr.w (x : Fr ds H H1) : Fw ds H H1 := x.toFw
theorem Fw.refl (ds : List Addr) (H : Hp) : Fw ds H H := ⟨fun _ _ h _ _ => h, fun _ h => h⟩
theorem Fr.refl (ds : List Addr) (H : Hp) : Fr ds H H := ⟨.refl _ _, fun _ h => h⟩
theorem Fw.trans (x : Fw ds H H1) (y : Fw ds H1 H2) : Fw ds H H2 := ⟨fun a o h n t => y.keep a o (x.keep a o h n t) n t, fun a h => x.live a (y.live a h)⟩
theorem Fr.trans (x : Fr ds H H1) (y : Fr ds H1 H2) : Fr ds H H2 := ⟨x.w.trans y.w, fun T h => y.tabs T (x.tabs T h)⟩
theorem Fw.mono (x : Fw ds H H1) (h : ∀ a, a ∈ ds → a ∈ es) : Fw es H H1 := ⟨fun a o z n t => x.keep a o z (fun m => n (h a m)) t, x.live⟩
theorem Fr.mono (x : Fr ds H H1) (h : ∀ a, a ∈ ds → a ∈ es) : Fr es H H1 := ⟨x.w.mono h, x.tabs⟩
theorem tabs_new {T : List (Addr × Str)} (hT : Tabs T H) (h : H b = none) (o : HO) : Tabs T (L2.upd H b o) := hT.ext fun c u e => by
  rw [upd_ne (ne_of_none e h)]
  exact e
theorem tabs_put {T : List (Addr × Str)} (hT : Tabs T H) (h : Pl H b) (o : HO) : Tabs T (L2.upd H b o) := fun p hp => by
  obtain ⟨ps, h1, h2, h3⟩ := hT p hp
  obtain ⟨u, hu, n1, n2⟩ := h
  refine ⟨ps, ?_, h2, fun pos cv hc => ?_⟩
  · rw [upd_ne (fun e => by rw [e, hu] at h1; exact n1 _ (Option.some.inj h1))]
    exact h1
  · obtain ⟨c, e, hcc⟩ := h3 pos cv hc
    refine ⟨c, e, ?_⟩
    rw [upd_ne (fun z => by rw [z, hu] at hcc; exact n2 _ (Option.some.inj hcc))]
    exact hcc
theorem Fw.upd (x : Fw ds H H1) (m : b ∈ ds) (o : HO) (nt : ∀ ps, o ≠ .tbl ps := by intro ps z; cases z) : Fw ds H (L2.upd H1 b o) := ⟨fun a u h n t => by
  rw [upd_ne (fun e : a = b => n (by rw [e]; exact m))]
  exact x.keep a u h n t, fun a h' => by
  refine x.live a fun u e => ?_
  by_cases q : a = b
  · obtain ⟨ps, z⟩ := h' o (by rw [q, upd_same])
    exact absurd z (nt ps)
  · exact h' u (by rw [upd_ne q]; exact e)⟩
theorem Fr.upd (x : Fr ds H H1) (m : b ∈ ds) (h : Pl H1 b) (o : HO) (nt : ∀ ps, o ≠ .tbl ps := by intro ps z; cases z) : Fr ds H (L2.upd H1 b o) := ⟨x.w.upd m o nt, fun T hT => tabs_put (x.tabs T hT) h o⟩
theorem Fw.new (x : Fw ds H H1) (n : H1 b = none) (o : HO) : Fw ds H (L2.upd H1 b o) := ⟨fun a u h q t => by
  have z := x.keep a u h q t
  rw [upd_ne (ne_of_none z n)]
  exact z, fun a h' => by
  refine x.live a fun u e => ?_
  refine h' u ?_
  rw [upd_ne (ne_of_none e n)]
  exact e⟩
theorem Fr.new (x : Fr ds H H1) (n : H1 b = none) (o : HO) : Fr ds H (L2.upd H1 b o) := ⟨x.w.new n o, fun T hT => tabs_new (x.tabs T hT) n o⟩
/-- a store into what was not there at the start -/
theorem Fw.late (x : Fw ds H H1) (n : Nw H b) (o : HO) (nt : ∀ ps, o ≠ .tbl ps := by intro ps z; cases z) : Fw ds H (L2.upd H1 b o) := ⟨fun a u h q t => by
  rw [upd_ne (ne_nw h n t)]
  exact x.keep a u h q t, fun a h' => by
  refine x.live a fun u e => ?_
  by_cases q : a = b
  · obtain ⟨ps, z⟩ := h' o (by rw [q, upd_same])
    exact absurd z (nt ps)
  · exact h' u (by rw [upd_ne q]; exact e)⟩
theorem Fr.late (x : Fr ds H H1) (n : Nw H b) (h : Pl H1 b) (o : HO) (nt : ∀ ps, o ≠ .tbl ps := by intro ps z; cases z) : Fr ds H (L2.upd H1 b o) := ⟨x.w.late n o nt, fun T hT => tabs_put (x.tabs T hT) h o⟩
theorem Fr.new0 (n : H b = none) (o : HO) : Fr ds H (L2.upd H b o) := (Fr.refl ds H).new n o
/-- then a step that changes what was not there at the start -/
theorem Fw.tail (x : Fw ds H H1) (y : Fw es H1 H2) (h : ∀ a, a ∈ es → a ∈ ds ∨ Nw H a) : Fw ds H H2 := ⟨fun a o z n t => y.keep a o (x.keep a o z n t) (fun m => by
  rcases h a m with q | q
  · exact n q
  · exact ne_nw z q t rfl) t, fun a h => x.live a (y.live a h)⟩
theorem Fr.tail (x : Fr ds H H1) (y : Fr es H1 H2) (h : ∀ a, a ∈ es → a ∈ ds ∨ Nw H a) : Fr ds H H2 := ⟨x.w.tail y.w h, fun T hT => y.tabs T (x.tabs T hT)⟩
theorem Fw.ofN (e : ExtN H H1) (l : ∀ a, Nw H1 a → Nw H a) : Fw ds H H1 := ⟨fun a o h _ t => e a o h t, l⟩
/-- a lambda's step: nothing that is no table goes, so new is new -/
theorem Fw.ext (e : ExtN H H1) : Fw ds H H1 := ⟨fun a o h _ t => e a o h t, fun a n o h => by
  by_cases t : ∃ ps, o = .tbl ps
  · exact t
  · exact n o (e a o h fun ps z => t ⟨ps, z⟩)⟩
section
variable {x : Fw ds H H1}
theorem Fw.lst {xs : List V} (x : Fw ds H H1) (h : H a = some (.lst xs)) (n : a ∉ ds) : H1 a = some (.lst xs) := x.keep a _ h n fun _ z => nomatch z
theorem Fw.tup {xs : List V} (x : Fw ds H H1) (h : H a = some (.tup xs)) (n : a ∉ ds) : H1 a = some (.tup xs) := x.keep a _ h n fun _ z => nomatch z
theorem Fw.dK {xs : List (Key × V)} (x : Fw ds H H1) (h : H a = some (.dK xs)) (n : a ∉ ds) : H1 a = some (.dK xs) := x.keep a _ h n fun _ z => nomatch z
theorem Fw.dT {xs : List (List Key × V)} (x : Fw ds H H1) (h : H a = some (.dT xs)) (n : a ∉ ds) : H1 a = some (.dT xs) := x.keep a _ h n fun _ z => nomatch z
theorem Fw.ins {C dx : Addr} {fs : List (Str × V)} (x : Fw ds H H1) (h : H a = some (.ins C dx fs)) (n : a ∉ ds) : H1 a = some (.ins C dx fs) := x.keep a _ h n fun _ z => nomatch z
theorem Fr.lst {xs : List V} (x : Fr ds H H1) (h : H a = some (.lst xs)) (n : a ∉ ds) : H1 a = some (.lst xs) := x.w.lst h n
theorem Fr.tup {xs : List V} (x : Fr ds H H1) (h : H a = some (.tup xs)) (n : a ∉ ds) : H1 a = some (.tup xs) := x.w.tup h n
theorem Fr.dK {xs : List (Key × V)} (x : Fr ds H H1) (h : H a = some (.dK xs)) (n : a ∉ ds) : H1 a = some (.dK xs) := x.w.dK h n
theorem Fr.dT {xs : List (List Key × V)} (x : Fr ds H H1) (h : H a = some (.dT xs)) (n : a ∉ ds) : H1 a = some (.dT xs) := x.w.dT h n
theorem Fr.ins {C dx : Addr} {fs : List (Str × V)} (x : Fr ds H H1) (h : H a = some (.ins C dx fs)) (n : a ∉ ds) : H1 a = some (.ins C dx fs) := x.w.ins h n
end
theorem not_nil {a : Addr} : a ∉ ([] : List Addr) := fun m => nomatch m
theorem not_one {a b : Addr} (h : a ≠ b) : a ∉ [b] := fun m => h (List.mem_singleton.mp m)
theorem not_two {a b c : Addr} (h : a ≠ b) (g : a ≠ c) : a ∉ [b, c] := fun m => by
  rcases List.mem_cons.mp m with e | m
  · exact h e
  · exact g (List.mem_singleton.mp m)
theorem not_cons {a b : Addr} {ds : List Addr} (h : a ≠ b) (g : a ∉ ds) : a ∉ b :: ds := fun m => by
  rcases List.mem_cons.mp m with e | m
  · exact h e
  · exact g m
/-- the same objects with fewer premises -/
theorem upd_new {o : HO} (h : H1 b = none) {p : HO} (q : H1 a = some p) : L2.upd H1 b o a = some p := by
  rw [upd_ne (ne_of_none q h)]; exact q

/-! ### numbers -/
theorem pm {b : Int} (h : 0 < b) : 0 < b := h
theorem dvw {j : Int} (h : 0 < j) (h2 : j < 2 ^ 2000) (i : Int) : CDivW i j := by
  refine wide_div h (b := 2000) ?_ (by decide) (by decide)
  have e : (2 : Int) ^ 2000 = ((2 ^ 2000 : Nat) : Int) := by simp
  rw [e] at h2
  generalize (2 : Nat) ^ 2000 = z at h2 ⊢
  omega
theorem at_lt {α : Type} {xs : List α} {z : Int} (h0 : 0 ≤ z) (h1 : z < xs.length) : ∃ v, atI xs z = some v := by
  obtain ⟨j, rfl⟩ := Int.eq_ofNat_of_zero_le h0
  have hl : j < xs.length := by omega
  exact ⟨xs[j], atI_nat (List.getElem?_eq_getElem hl)⟩
theorem at_map {xs : List Int} {z : Int} {v : V} (h : atI (xs.map V.int) z = some v) : ∃ n : Int, v = .int n := by
  obtain ⟨j, _, e, _⟩ := atI_get h
  rw [List.getElem?_map] at e
  cases q : xs[j]? with
  | none => rw [q] at e; cases e
  | some n => rw [q] at e; exact ⟨n, (Option.some.inj e).symm⟩
theorem small1000' {n : Nat} (h : n ≤ 1000) : n < sizeLine := Nat.lt_of_le_of_lt h (by decide)
/-- an item of a list of whole numbers -/
theorem int_at {xs : List Int} {z : Int} (h0 : 0 ≤ z) (h1 : z < xs.length) : ∃ n : Int, atI (xs.map V.int) z = some (.int n) ∧ n ∈ xs ∧ xs[z.toNat]? = some n := by
  obtain ⟨j, rfl⟩ := Int.eq_ofNat_of_zero_le h0
  have hl : j < xs.length := by omega
  refine ⟨xs[j], atI_nat ?_, List.getElem_mem hl, ?_⟩
  · rw [List.getElem?_map, List.getElem?_eq_getElem hl]; rfl
  · exact List.getElem?_eq_getElem hl
theorem map_at {α : Type} {f : α → V} {xs : List α} {z : Int} (h0 : 0 ≤ z) (h1 : z < xs.length) : ∃ n, atI (xs.map f) z = some (f n) ∧ n ∈ xs ∧ xs[z.toNat]? = some n := by
  obtain ⟨j, rfl⟩ := Int.eq_ofNat_of_zero_le h0
  have hl : j < xs.length := by omega
  refine ⟨xs[j], atI_nat ?_, List.getElem_mem hl, ?_⟩
  · rw [List.getElem?_map, List.getElem?_eq_getElem hl]; rfl
  · exact List.getElem?_eq_getElem hl
theorem twoP {a b : Int} {P Q : Prop} (h1 : a = b → P) (h2 : ¬ a = b → Q) : (decide (V.int a = V.int b) = true → P) ∧ (¬ decide (V.int a = V.int b) = true → Q) := by
  refine ⟨fun z => h1 ?_, fun z => h2 fun e => z ?_⟩
  · have z := of_decide_eq_true z
    injection z
  · rw [e]
    exact decide_eq_true rfl
theorem eqI {a b : Int} (h : decide (V.int a = V.int b) = true) : a = b := by
  have z := of_decide_eq_true h
  injection z
theorem neI {a b : Int} (h : ¬ decide (V.int a = V.int b) = true) : ¬ a = b := fun e => h (by rw [e]; exact decide_eq_true rfl)
theorem decI {a b : Int} (h : a = b) : decide (V.int a = V.int b) = true := by rw [h]; exact decide_eq_true rfl
theorem decIn {a b : Int} (h : ¬ a = b) : decide (V.int a = V.int b) = false := decide_eq_false fun e => h (by injection e)

/-! ### settings' fields -/
def fs5 (n p r g h : Int) : List (Str × V) := [("bits", .int n), ("patience", .int p), ("room", .int r), ("grace", .int g), ("helpers", .int h)]
section
variable {n p r g h : Int}
theorem fs5_bits : (fs5 n p r g h).lookup ("bits" : Str) = some (.int n) := by kernel_rfl
theorem fs5_patience : (fs5 n p r g h).lookup ("patience" : Str) = some (.int p) := by kernel_rfl
theorem fs5_room : (fs5 n p r g h).lookup ("room" : Str) = some (.int r) := by kernel_rfl
theorem fs5_grace : (fs5 n p r g h).lookup ("grace" : Str) = some (.int g) := by kernel_rfl
theorem fs5_helpers : (fs5 n p r g h).lookup ("helpers" : Str) = some (.int h) := by kernel_rfl
theorem fs5_seats : (fs5 n p r g h).lookup ("seats" : Str) = none := by kernel_rfl
theorem fs5_cycle : (fs5 n p r g h).lookup ("cycle" : Str) = none := by kernel_rfl
theorem fs5_stripes : (fs5 n p r g h).lookup ("stripes" : Str) = none := by kernel_rfl
theorem fs5_puts : putF ("helpers" : Str) (V.int h) (putF ("grace" : Str) (V.int g) (putF ("room" : Str) (V.int r) (putF ("patience" : Str) (V.int p) (putF ("bits" : Str) (V.int n) [])))) = fs5 n p r g h := by kernel_rfl
end
end UF
namespace UF
open PySem PySem.Spec PyProof.Rows L2
theorem putF_len (f : Str) (v : V) : ∀ fs : List (Str × V), (putF f v fs).length ≤ fs.length + 1
  | [] => Nat.le_refl _
  | (g, x) :: r => by
    unfold putF
    split
    · exact Nat.le_succ _
    · exact Nat.succ_le_succ (putF_len f v r)
end UF

set_option Elab.async false
set_option maxRecDepth 100000
set_option maxHeartbeats 4000000
/-! how the defs, classes and built-ins of a text are named, whatever the law -/
namespace UF
open PySem PySem.Spec PyProof.Rows L2 C8 LamX

/-- the built-ins that a text may call -/
structure Bl (mg : Str → Option Value) : Prop where
  int : mg "int" = none
  bool : mg "bool" = none
  list : mg "list" = none
  len : mg "len" = none
  tuple : mg "tuple" = none
  str : mg "str" = none
  sum : mg "sum" = none
  abs : mg "abs" = none
  max : mg "max" = none
  min : mg "min" = none
  range : mg "range" = none
  isinstance : mg "isinstance" = none
  sorted : mg "sorted" = none
  reversed : mg "reversed" = none
  enumerate : mg "enumerate" = none
  zip : mg "zip" = none
  all : mg "all" = none
  any : mg "any" = none
  dict : mg "dict" = none
  set : mg "set" = none
  ord : mg "ord" = none

/-- a def of the text that is called with all its parameters -/
structure D0 (K : PySem.W.Frag) (mg : Str → Option Value) (x : Str) (st : Stmt) (ps : List Str) : Prop where
  ex : ∃ (f : Addr) (fd : FuncData), C8.Def K mg x st f fd ∧ L2.Binds K fd ps []
/-- a method, a property of the class at C -/
def MethP (K : PySem.W.Frag) (C : Addr) (m q : Str) (st : Stmt) (ps : List Str) : Prop := ∃ (f : Addr) (fd : FuncData), Meth K C m f ∧ C8.Fun K m q st f fd ∧ L2.Binds K fd ps []
def PropP (K : PySem.W.Frag) (C : Addr) (m q : Str) (st : Stmt) : Prop := ∃ (p g : Addr) (fd : FuncData), PropOf K C m p g ∧ C8.Fun K m q st g fd ∧ L2.Binds K fd ["self"] []
def IniP (K : PySem.W.Frag) (C : Addr) (q : Str) (st : Stmt) (ps : List Str) : Prop := ∃ (f : Addr) (fd : FuncData), Mk K C f ∧ C8.Fun K "__init__" q st f fd ∧ L2.Binds K fd ps []
/-- an __init__ with keyword-only defaults -/
def IniD (K : PySem.W.Frag) (C : Addr) (q : Str) (st : Stmt) (kws : List (Str × V)) : Prop := ∃ (f : Addr) (fd : FuncData), Mk K C f ∧ FunD K "__init__" q (C8.fnArgs st) (C8.fnBody st) (C8.fnScope st) [] kws f fd
def ConP (K : PySem.W.Frag) (C : Addr) (x : Str) (n : Int) : Prop := ∃ u, Con K C x (.int n) u

section
variable {P : Program} {w : World} {K : PySem.W.Frag} {mg : Str → Option Value} {base : Heap}
theorem cal {x : Str} {st : Stmt} {N ps : List Str} {k : Nat} {sp : Sp} (d : D0 K mg x st ps) (S : FnScope N ps (C8.fnScope st)) (len : ∀ vs H Q E, sp vs H Q E → vs.length = ps.length)
    (hbody : ∀ (cdv : Value) (A : Around) (outer : List Env) (f : Addr) (s : Shared) (H : Hp) (vs : List V) (Q : VK) (E : XK), Room k (A.deeper (envOfC x (C8.fnScope st) s.heap.objs.size f cdv)) → sp vs H Q E →
      ∃ t, PSs (cxOf C8.CX0 P w K mg base N x (C8.fnScope st) f cdv A outer s H E).nox (C8.fnBody st) t ∧ t { nx := fun _ H' => Q .non H', rt := Q } (start N vs) H) : Cal P w K mg base (k + 1) x sp [] := by
  obtain ⟨f, fd, D, b⟩ := d.ex
  exact cal0 D b .nil S len fun cdv A outer s H vs Q E hr h => hbody cdv A outer f s H vs Q E hr h
theorem met {m q : Str} {C : Addr} {st : Stmt} {N ps : List Str} {k : Nat} {sp : Sp} (d : MethP K C m q st ps) (c : Cls K C) (S : FnScope N ps (C8.fnScope st)) (len : ∀ vs H Q E, sp vs H Q E → vs.length = ps.length)
    (hbody : ∀ (cdv : Value) (A : Around) (outer : List Env) (f : Addr) (s : Shared) (H : Hp) (vs : List V) (Q : VK) (E : XK), Room k (A.deeper (envOfC q (C8.fnScope st) s.heap.objs.size f cdv)) → sp vs H Q E →
      ∃ t, PSs (cxOf C8.CX0 P w K mg base N q (C8.fnScope st) f cdv A outer s H E).nox (C8.fnBody st) t ∧ t { nx := fun _ H' => Q .non H', rt := Q } (start N vs) H) : Met P w K mg base (k + 1) C m sp [] := by
  obtain ⟨f, fd, M, F, b⟩ := d
  exact met0 c M F b S len fun cdv A outer s H vs Q E hr h => hbody cdv A outer f s H vs Q E hr h
theorem mak {x q : Str} {C : Addr} {st : Stmt} {N ps : List Str} {k : Nat} {sp : Sp} (d : IniP K C q st ps) (hm : mg x = some (.ref C)) (S : FnScope N ps (C8.fnScope st)) (len : ∀ vs H Q E, sp vs H Q E → vs.length = ps.length)
    (hbody : ∀ (cdv : Value) (A : Around) (outer : List Env) (f : Addr) (s : Shared) (H : Hp) (vs : List V) (Q : VK) (E : XK), Room k (A.deeper (envOfC q (C8.fnScope st) s.heap.objs.size f cdv)) → sp vs H Q E →
      ∃ t, PSs (cxOf C8.CX0 P w K mg base N q (C8.fnScope st) f cdv A outer s H E).nox (C8.fnBody st) t ∧ t { nx := fun _ H' => Q .non H', rt := Q } (start N vs) H) : Mak P w K mg base (k + 1) x C sp [] := by
  obtain ⟨f, fd, M, F, b⟩ := d
  exact mak0 M hm F b .nil S len fun cdv A outer s H vs Q E hr h => hbody cdv A outer f s H vs Q E hr h
/-- the promise of a property's getter -/
def Prp (P : Program) (w : World) (K : PySem.W.Frag) (mg : Str → Option Value) (base : Heap) (k : Nat) (C : Addr) (m : Str) (sp : Sp) : Prop :=
  ∃ (p g : Addr) (fd : FuncData), Cls K C ∧ PropOf K C m p g ∧ FnOk P w K mg base C8.CX0 k g fd ["self"] sp ∧ L2.Binds K fd ["self"] []
theorem prp {m q : Str} {C : Addr} {st : Stmt} {N : List Str} {k : Nat} {sp : Sp} (d : PropP K C m q st) (c : Cls K C) (S : FnScope N ["self"] (C8.fnScope st)) (len : ∀ vs H Q E, sp vs H Q E → vs.length = 1)
    (hbody : ∀ (cdv : Value) (A : Around) (outer : List Env) (f : Addr) (s : Shared) (H : Hp) (vs : List V) (Q : VK) (E : XK), Room k (A.deeper (envOfC q (C8.fnScope st) s.heap.objs.size f cdv)) → sp vs H Q E →
      ∃ t, PSs (cxOf C8.CX0 P w K mg base N q (C8.fnScope st) f cdv A outer s H E).nox (C8.fnBody st) t ∧ t { nx := fun _ H' => Q .non H', rt := Q } (start N vs) H) : Prp P w K mg base (k + 1) C m sp := by
  obtain ⟨p, g, fd, M, F, b⟩ := d
  exact ⟨p, g, fd, c, M, C8.fn0 F S len fun cdv A outer s H vs Q E hr h => hbody cdv A outer g s H vs Q E hr h, b⟩
end
theorem pe_pr {X : Cx} {k j : Nat} {C : Addr} {m : Str} {sp : Sp} {e : Expr} {pos : Pos} {ta : TE} (c : Prp X.prog X.w X.K X.mg X.base k C m sp) (hr : Room j X.A) (hk : k + 1 ≤ j) (he : PE X e ta)
    (hab : attributeBase e m X.env (eval e X.env) = eval e X.env := by rfl) : PE X (.Attribute e m pos) (tProp C sp [] C8.E0 ta) := by
  obtain ⟨p, g, fd, cl, hp, F, b⟩ := c
  exact pe_prop he cl hp F (hr.mono hk) b .nil (C8.pass0 (E := C8.E0)) hab
theorem pe_c0 {X : Cx} {k j : Nat} {x : Str} {sp : Sp} {dvs : List V} {p pos : Pos} (c : Cal X.prog X.w X.K X.mg X.base k x sp dvs) (hr : Room j X.A) (hk : k ≤ j) (hg : Gl X x) (hdb : (x == ("__debug__" : Str)) = false := by decide) :
    PE X (.Call (.Name x p) [] [] pos) (tCall sp dvs C8.E0 tNil) := by
  obtain ⟨f, fd, ps, ds, F, hm, kp, b, d⟩ := c.ex
  exact pe_call0 F (hr.mono hk) hg hm kp b d C8.pass0 hdb
theorem pe_mk0 {X : Cx} {k j : Nat} {C : Addr} {x : Str} {sp : Sp} {dvs : List V} {p pos : Pos} (c : Mak X.prog X.w X.K X.mg X.base k x C sp dvs) (hr : Room j X.A) (hk : k + 1 ≤ j) (hg : Gl X x) (hdb : (x == ("__debug__" : Str)) = false := by decide) :
    PE X (.Call (.Name x p) [] [] pos) (tMake C sp dvs C8.E0 tNil) := by
  obtain ⟨f, fd, ps, ds, M, F, hm, b, d⟩ := c.ex
  exact pe_make0 M F (hr.mono hk) hg hm b d C8.pass0 hdb
theorem u1 {k : Nat} {A : Around} (hr : Room k A) : A.units + 1 < cLine := by
  have := hr.units
  omega

section
variable {K : PySem.W.Frag} {h : Heap} {mg : Str → Option Value}
theorem d0_mk {x : Str} {st : Stmt} {ps : List Str} {f : Addr} {oc : Value} {od an : Option Addr} {osl : Array (Option Value)} {kV doc pm cdv ct : Value} (X : K.In h) (G : h.Ns mainGlobals mg) (a : PySem.W.nsIn K mainGlobals x = some (some (.ref f)))
    (l : K.lookup f = some ⟨oc, od, .func (PySem.W.fnOf x x (C8.fnArgs st) (C8.fnBody st) (C8.fnScope st) .none kV doc pm an cdv ct), osl⟩) (c : PySem.W.codeIn K cdv x = true) (k : PySem.W.keepIn K (.ref f) = true)
    (hb : ∀ (kV doc pm : Value) (an : Option Addr) (cdv ct : Value) (us : List Value), us.length = ps.length → bindArgs (PySem.W.fnOf x x (C8.fnArgs st) (C8.fnBody st) (C8.fnScope st) .none kV doc pm an cdv ct) ⟨us, []⟩ = pure (ps.zip us)) : D0 K mg x st ps :=
  have F : C8.Fun K x x st f _ := ⟨⟨oc, od, _, kV, doc, pm, an, cdv, ct, osl, rfl, l, c⟩⟩
  ⟨f, _, ⟨F, PySem.W.mg_of X G a, k⟩, F.binds rfl hb⟩
theorem meth_mk {C f : Addr} {m q : Str} {st : Stmt} {ps : List Str} {oc : Value} {od an : Option Addr} {osl : Array (Option Value)} {kV doc pm cdv ct : Value} (a : PySem.W.findIn K (.ref C) m = some (some (.ref f))) (i : PySem.W.isFn K (.ref f) = true)
    (l : K.lookup f = some ⟨oc, od, .func (PySem.W.fnOf m q (C8.fnArgs st) (C8.fnBody st) (C8.fnScope st) .none kV doc pm an cdv ct), osl⟩) (c : PySem.W.codeIn K cdv q = true) (k : PySem.W.keepIn K (.ref f) = true)
    (hb : ∀ (kV doc pm : Value) (an : Option Addr) (cdv ct : Value) (us : List Value), us.length = ps.length → bindArgs (PySem.W.fnOf m q (C8.fnArgs st) (C8.fnBody st) (C8.fnScope st) .none kV doc pm an cdv ct) ⟨us, []⟩ = pure (ps.zip us)) : MethP K C m q st ps :=
  have F : C8.Fun K m q st f _ := ⟨⟨oc, od, _, kV, doc, pm, an, cdv, ct, osl, rfl, l, c⟩⟩
  ⟨f, _, ⟨a, i, k⟩, F, F.binds rfl hb⟩
theorem ini_mk {C f : Addr} {q : Str} {st : Stmt} {ps : List Str} {oc : Value} {od an : Option Addr} {osl : Array (Option Value)} {kV doc pm cdv ct : Value} (m : PySem.W.makesIn K C = true) (a : PySem.W.findIn K (.ref C) "__init__" = some (some (.ref f))) (i : PySem.W.isFn K (.ref f) = true) (kc : PySem.W.keepIn K (.ref C) = true)
    (l : K.lookup f = some ⟨oc, od, .func (PySem.W.fnOf "__init__" q (C8.fnArgs st) (C8.fnBody st) (C8.fnScope st) .none kV doc pm an cdv ct), osl⟩) (c : PySem.W.codeIn K cdv q = true)
    (hb : ∀ (kV doc pm : Value) (an : Option Addr) (cdv ct : Value) (us : List Value), us.length = ps.length → bindArgs (PySem.W.fnOf "__init__" q (C8.fnArgs st) (C8.fnBody st) (C8.fnScope st) .none kV doc pm an cdv ct) ⟨us, []⟩ = pure (ps.zip us)) : IniP K C q st ps :=
  have F : C8.Fun K "__init__" q st f _ := ⟨⟨oc, od, _, kV, doc, pm, an, cdv, ct, osl, rfl, l, c⟩⟩
  ⟨f, _, ⟨m, a, i, kc⟩, F, F.binds rfl hb⟩
theorem con_mk {C : Addr} {x : Str} {n : Int} {tk : Tok} (a : PySem.W.findIn K (.ref C) x = some (some (.int n tk))) (g : PySem.W.specialIn K (.int n tk) "__get__" = some none) (cp : PySem.W.copiedNames.contains x = false) : ConP K C x n :=
  ⟨.int n tk, a, ⟨_, rfl⟩, g, cp⟩
theorem inid2_mk {C f D : Addr} {q x1 x2 : Str} {n1 n2 : Int} {st : Stmt} {oc : Value} {od an : Option Addr} {osl : Array (Option Value)} {doc pm cdv ct : Value} {t1 t2 : Tok} (m : PySem.W.makesIn K C = true) (a : PySem.W.findIn K (.ref C) "__init__" = some (some (.ref f))) (i : PySem.W.isFn K (.ref f) = true) (kc : PySem.W.keepIn K (.ref C) = true)
    (l : K.lookup f = some ⟨oc, od, .func (PySem.W.fnOf "__init__" q (C8.fnArgs st) (C8.fnBody st) (C8.fnScope st) .none (.ref D) doc pm an cdv ct), osl⟩) (c : PySem.W.codeIn K cdv q = true) (k : PySem.W.keepIn K (.ref f) = true)
    (g1 : PySem.W.nsIn K D x1 = some (some (.int n1 t1))) (g2 : PySem.W.nsIn K D x2 = some (some (.int n2 t2))) : IniD K C q st [(x1, .int n1), (x2, .int n2)] :=
  ⟨f, _, ⟨m, a, i, kc⟩, ⟨oc, od, _, _, doc, pm, an, cdv, ct, osl, rfl, l, c, .inl ⟨rfl, rfl⟩, .inr ⟨D, rfl, fun q hq => by
    cases hq with
    | head => exact ⟨_, g1, _, rfl⟩
    | tail _ hq => cases hq with
      | head => exact ⟨_, g2, _, rfl⟩
      | tail _ hq => cases hq⟩⟩, k⟩
theorem inidN_mk {C f D : Addr} {q x1 : Str} {st : Stmt} {oc : Value} {od an : Option Addr} {osl : Array (Option Value)} {doc pm cdv ct : Value} (m : PySem.W.makesIn K C = true) (a : PySem.W.findIn K (.ref C) "__init__" = some (some (.ref f))) (i : PySem.W.isFn K (.ref f) = true) (kc : PySem.W.keepIn K (.ref C) = true)
    (l : K.lookup f = some ⟨oc, od, .func (PySem.W.fnOf "__init__" q (C8.fnArgs st) (C8.fnBody st) (C8.fnScope st) .none (.ref D) doc pm an cdv ct), osl⟩) (c : PySem.W.codeIn K cdv q = true) (k : PySem.W.keepIn K (.ref f) = true)
    (g1 : PySem.W.nsIn K D x1 = some (some .none)) : IniD K C q st [(x1, .non)] :=
  ⟨f, _, ⟨m, a, i, kc⟩, ⟨oc, od, _, _, doc, pm, an, cdv, ct, osl, rfl, l, c, .inl ⟨rfl, rfl⟩, .inr ⟨D, rfl, fun q hq => by
    cases hq with
    | head => exact ⟨_, g1, rfl⟩
    | tail _ hq => cases hq⟩⟩, k⟩
theorem prop_mk {C p g : Addr} {m q : Str} {st : Stmt} {rest : List Value} {oc : Value} {od an : Option Addr} {osl : Array (Option Value)} {kV doc pm cdv ct : Value} (a : PySem.W.findIn K (.ref C) m = some (some (.ref p))) (gt : PySem.W.specialIn K (.ref p) "__get__" = some (some (.builtin "property.__get__"))) (tk : PySem.W.takesIn K (.ref p) = some true)
    (r : PySem.W.recIn K p "property" = some (.ref g :: rest))
    (l : K.lookup g = some ⟨oc, od, .func (PySem.W.fnOf m q (C8.fnArgs st) (C8.fnBody st) (C8.fnScope st) .none kV doc pm an cdv ct), osl⟩) (c : PySem.W.codeIn K cdv q = true)
    (hb : ∀ (kV doc pm : Value) (an : Option Addr) (cdv ct : Value) (us : List Value), us.length = ["self"].length → bindArgs (PySem.W.fnOf m q (C8.fnArgs st) (C8.fnBody st) (C8.fnScope st) .none kV doc pm an cdv ct) ⟨us, []⟩ = pure ((["self"] : List Str).zip us)) : PropP K C m q st :=
  have F : C8.Fun K m q st g _ := ⟨⟨oc, od, _, kV, doc, pm, an, cdv, ct, osl, rfl, l, c⟩⟩
  ⟨p, g, _, ⟨a, gt, tk, rest, r⟩, F, F.binds (ps := ["self"]) rfl hb⟩
theorem cls_mk {C : Addr} (pg : PySem.W.plainGet K C Str.empty = true) (hd : PySem.W.hasDictIn K C = true) (po : PySem.W.plainOver K C = true) (sa : PySem.W.findIn K (.ref C) "__setattr__" = some (some (.builtin "object.__setattr__"))) : Cls K C := ⟨pg, hd, po, sa⟩
theorem bl_mk (X : K.In h) (G : h.Ns mainGlobals mg) (z0 : PySem.W.nsIn K mainGlobals "int" = some none) (z1 : PySem.W.nsIn K mainGlobals "bool" = some none) (z2 : PySem.W.nsIn K mainGlobals "list" = some none) (z3 : PySem.W.nsIn K mainGlobals "len" = some none)
    (z4 : PySem.W.nsIn K mainGlobals "tuple" = some none) (z5 : PySem.W.nsIn K mainGlobals "str" = some none) (z6 : PySem.W.nsIn K mainGlobals "sum" = some none) (z7 : PySem.W.nsIn K mainGlobals "abs" = some none) (z8 : PySem.W.nsIn K mainGlobals "max" = some none) (z9 : PySem.W.nsIn K mainGlobals "min" = some none)
    (z10 : PySem.W.nsIn K mainGlobals "range" = some none) (z11 : PySem.W.nsIn K mainGlobals "isinstance" = some none) (z12 : PySem.W.nsIn K mainGlobals "sorted" = some none) (z13 : PySem.W.nsIn K mainGlobals "reversed" = some none) (z14 : PySem.W.nsIn K mainGlobals "enumerate" = some none) (z15 : PySem.W.nsIn K mainGlobals "zip" = some none)
    (z16 : PySem.W.nsIn K mainGlobals "all" = some none) (z17 : PySem.W.nsIn K mainGlobals "any" = some none) (z18 : PySem.W.nsIn K mainGlobals "dict" = some none) (z19 : PySem.W.nsIn K mainGlobals "set" = some none) (z20 : PySem.W.nsIn K mainGlobals "ord" = some none) : Bl mg :=
  ⟨PySem.W.mg_none_of X G z0, PySem.W.mg_none_of X G z1, PySem.W.mg_none_of X G z2, PySem.W.mg_none_of X G z3, PySem.W.mg_none_of X G z4, PySem.W.mg_none_of X G z5, PySem.W.mg_none_of X G z6, PySem.W.mg_none_of X G z7, PySem.W.mg_none_of X G z8, PySem.W.mg_none_of X G z9, PySem.W.mg_none_of X G z10,
    PySem.W.mg_none_of X G z11, PySem.W.mg_none_of X G z12, PySem.W.mg_none_of X G z13, PySem.W.mg_none_of X G z14, PySem.W.mg_none_of X G z15, PySem.W.mg_none_of X G z16, PySem.W.mg_none_of X G z17, PySem.W.mg_none_of X G z18, PySem.W.mg_none_of X G z19, PySem.W.mg_none_of X G z20⟩
/-- a tuple of texts of the module -/
def TupP (K : PySem.W.Frag) (mg : Str → Option Value) (x : Str) (l : List V) : Prop := ∃ a : Addr, mg x = some (.ref a) ∧ ∀ H, SqT K H a l
theorem tup2s_mk {x : Str} {a : Addr} {s1 s2 : Str} {t1 t2 : Tok} {n : Nat} {od : Option Addr} {osl : Array (Option Value)} (X : K.In h) (G : h.Ns mainGlobals mg) (e : PySem.W.nsIn K mainGlobals x = some (some (.ref a))) (l : K.lookup a = some ⟨.type "tuple", od, .seq #[.str s1 t1, .str s2 t2] n, osl⟩) : TupP K mg x [.str s1, .str s2] :=
  ⟨a, PySem.W.mg_of X G e, fun _ => .inr ⟨_, _, _, l, rfl, rfl, by show 2 ≤ sizeLine; decide, .cons ⟨_, rfl⟩ (.cons ⟨_, rfl⟩ .nil)⟩⟩
/-- a def of the text whose code makes a lambda: its code object at c -/
structure D1 (K : PySem.W.Frag) (mg : Str → Option Value) (x : Str) (st : Stmt) (c : Addr) : Prop where
  ex : ∃ (f : Addr) (oc : Value) (od : Option Addr) (kV doc pm : Value) (an : Option Addr) (ct : Value) (osl : Array (Option Value)),
    K.lookup f = some ⟨oc, od, .func (PySem.W.fnOf x x (C8.fnArgs st) (C8.fnBody st) (C8.fnScope st) .none kV doc pm an (.ref c) ct), osl⟩ ∧ PySem.W.codeIn K (.ref c) x = true ∧ mg x = some (.ref f) ∧ PySem.W.keepIn K (.ref f) = true
theorem d1_mk {x : Str} {st : Stmt} {f c : Addr} {oc : Value} {od an : Option Addr} {osl : Array (Option Value)} {kV doc pm ct : Value} (X : K.In h) (G : h.Ns mainGlobals mg) (a : PySem.W.nsIn K mainGlobals x = some (some (.ref f)))
    (l : K.lookup f = some ⟨oc, od, .func (PySem.W.fnOf x x (C8.fnArgs st) (C8.fnBody st) (C8.fnScope st) .none kV doc pm an (.ref c) ct), osl⟩) (cd : PySem.W.codeIn K (.ref c) x = true) (k : PySem.W.keepIn K (.ref f) = true) : D1 K mg x st c :=
  ⟨f, oc, od, kV, doc, pm, an, ct, osl, l, cd, PySem.W.mg_of X G a, k⟩
/-- the law's own def -/
def LawP (K : PySem.W.Frag) (mg : Str → Option Value) (st : Stmt) (fa : Addr) : Prop := ∃ fd, C8.Fun K "law" "law" st fa fd ∧ ∀ (s : Shared) (u : Value), BindsTo s fd ⟨[u], []⟩ [("script", u)]
theorem law_mk {st : Stmt} {fa fL : Addr} {oc : Value} {od an : Option Addr} {osl : Array (Option Value)} {kV doc pm cdv ct : Value} (X : K.In h) (G : h.Ns mainGlobals mg) (hfa : mg "law" = some (.ref fa)) (aL : PySem.W.nsIn K mainGlobals "law" = some (some (.ref fL)))
    (lL : K.lookup fL = some ⟨oc, od, .func (PySem.W.fnOf "law" "law" (C8.fnArgs st) (C8.fnBody st) (C8.fnScope st) .none kV doc pm an cdv ct), osl⟩) (cL : PySem.W.codeIn K cdv "law" = true)
    (hb : ∀ (kV doc pm : Value) (an : Option Addr) (cdv ct u : Value), bindArgs (PySem.W.fnOf "law" "law" (C8.fnArgs st) (C8.fnBody st) (C8.fnScope st) .none kV doc pm an cdv ct) ⟨[u], []⟩ = pure [(("script" : Str), u)]) : LawP K mg st fa := by
  have e := hfa.symm.trans (PySem.W.mg_of X G aL)
  cases e
  exact ⟨_, ⟨⟨oc, od, _, kV, doc, pm, an, cdv, ct, osl, rfl, lL, cL⟩⟩, fun s u => .of_eq (hb _ _ _ _ _ _ u)⟩
/-- the promise of a law: whatever the script, True -/
def spLaw (K : PySem.W.Frag) : Sp := fun vs H Q _ => ∃ (a : Addr) (ns : List Int), vs = [.ref a] ∧ SqL K H a (ns.map V.int) ∧ ns.length ≤ 63 ∧ ∀ H' : Hp, Q (.bl true) H'
/-- .. of a law whose text makes a lambda, its table at t -/
def spLawT (K : PySem.W.Frag) (t : Addr) : Sp := fun vs H Q _ => ∃ (a : Addr) (ns : List Int), vs = [.ref a] ∧ SqL K H a (ns.map V.int) ∧ ns.length ≤ 63 ∧ H t = some (.tbl #[]) ∧ ∀ H' : Hp, Q (.bl true) H'
end
theorem walkN {l : PySem.W.OpenLaw} {k : Nat} {q : Program} {loose : List Str} {XP : (Str → Option Value) → Heap → Prop} {YP : World → Heap → Prop} {d : DefRec} {K : Params → PySem.W.Frag} (hk : Room k callerA) (hn : l.most = some 63) (hdf : d.params.defaults = [])
    (hY : ∀ (w : World) (h : Heap), YP w h → (K w.params).In h)
    (F : ∀ (w : World) (mg : Str → Option Value) (fa : Addr) (h : Heap), (K w.params).In h → h.Ns mainGlobals mg → mg d.name = some (.ref fa) →
      ∃ fd : FuncData, (∀ (s : Shared) (u : Value), BindsTo s fd ⟨[u], []⟩ [("script", u)]) ∧ ∀ base : Heap, (K w.params).In base → base.Ns mainGlobals mg → FnOk l.prog w (K w.params) mg base C8.CX0 k fa fd ["script"] (spLaw (K w.params))) :
    PySem.W.WalkO q loose XP YP l.row.toRowW d [] (fun f vs => PySem.call f vs) :=
  L2.walk_of (n := 63) (k := k) (x := "script") (CX := fun _ => C8.CX0) (sp := fun w => spLaw (K w.params)) hn (by decide) hdf hk hY F (fun _ _ a ns hl _ hS => ⟨a, ns, rfl, hS, hl, fun _ => rfl⟩) fun _ _ _ _ _ z => z
/-- the end of a law with one table -/
theorem lawT {l : PySem.W.OpenLaw} {w : World} {K : PySem.W.Frag} {h : Heap} {mg : Str → Option Value} {fa c t : Addr} {st : Stmt} {k : Nat} (X : K.In h) (hT : h.get? t = some { cls := .none, data := .fields #[] }) (nT : K.lookup t = none) (hC : PySem.W.codeHdIn K c t = true) (L : LawP K mg st fa)
    (F : ∀ fd, C8.Fun K "law" "law" st fa fd → ∀ base : Heap, K.In base → base.Ns mainGlobals mg → TabB base mg c t → FnOk l.prog w K mg base C8.CX0 k fa fd ["script"] (spLawT K t)) : LamX.LawAtS l w K C8.CX0 k 63 "script" mg fa h := by
  obtain ⟨fd, FL, bt⟩ := L
  refine ⟨fd, [(c, t)], spLawT K t, ?_, ?_, ?_, bt, ?_, fun base h1 h2 hTB => F fd FL base h1 h2 (hTB (c, t) (.head _))⟩
  · intro p hp
    cases hp with
    | head => exact hT
    | tail _ hp => cases hp
  · intro p hp
    cases hp with
    | head => exact nT
    | tail _ hp => cases hp
  · intro p hp
    cases hp with
    | head => exact PySem.W.codeHd_of_K X hC
    | tail _ hp => cases hp
  · exact fun H a ns hl _ hH hS => ⟨a, ns, rfl, hS, hl, hH (c, t) (.head _), fun _ => rfl⟩
end UF

set_option Elab.async false
set_option maxRecDepth 100000
set_option maxHeartbeats 4000000
/-! defs with a keyword-only default None; rows of whole numbers as data -/
namespace UF
open PySem PySem.Spec PyProof.Rows L2 C8 LamX
/-- a def of the text with keyword-only defaults -/
def DkD (K : PySem.W.Frag) (mg : Str → Option Value) (x : Str) (st : Stmt) (kws : List (Str × V)) : Prop := ∃ (f : Addr) (fd : FuncData), FunD K x x (C8.fnArgs st) (C8.fnBody st) (C8.fnScope st) [] kws f fd ∧ mg x = some (.ref f)
section
variable {K : PySem.W.Frag} {h : Heap} {mg : Str → Option Value}
theorem dkN_mk {x x1 : Str} {st : Stmt} {f D : Addr} {oc : Value} {od an : Option Addr} {osl : Array (Option Value)} {doc pm cdv ct : Value} (X : K.In h) (G : h.Ns mainGlobals mg) (a : PySem.W.nsIn K mainGlobals x = some (some (.ref f)))
    (l : K.lookup f = some ⟨oc, od, .func (PySem.W.fnOf x x (C8.fnArgs st) (C8.fnBody st) (C8.fnScope st) .none (.ref D) doc pm an cdv ct), osl⟩) (c : PySem.W.codeIn K cdv x = true) (k : PySem.W.keepIn K (.ref f) = true)
    (g1 : PySem.W.nsIn K D x1 = some (some .none)) : DkD K mg x st [(x1, .non)] :=
  ⟨f, _, ⟨⟨oc, od, _, _, doc, pm, an, cdv, ct, osl, rfl, l, c, .inl ⟨rfl, rfl⟩, .inr ⟨D, rfl, fun q hq => by
    cases hq with
    | head => exact ⟨_, g1, rfl⟩
    | tail _ hq => cases hq⟩⟩, k⟩, PySem.W.mg_of X G a⟩
theorem dk2N_mk {x x1 x2 : Str} {st : Stmt} {f D : Addr} {oc : Value} {od an : Option Addr} {osl : Array (Option Value)} {doc pm cdv ct : Value} (X : K.In h) (G : h.Ns mainGlobals mg) (a : PySem.W.nsIn K mainGlobals x = some (some (.ref f)))
    (l : K.lookup f = some ⟨oc, od, .func (PySem.W.fnOf x x (C8.fnArgs st) (C8.fnBody st) (C8.fnScope st) .none (.ref D) doc pm an cdv ct), osl⟩) (c : PySem.W.codeIn K cdv x = true) (k : PySem.W.keepIn K (.ref f) = true)
    (g1 : PySem.W.nsIn K D x1 = some (some .none)) (g2 : PySem.W.nsIn K D x2 = some (some .none)) : DkD K mg x st [(x1, .non), (x2, .non)] :=
  ⟨f, _, ⟨⟨oc, od, _, _, doc, pm, an, cdv, ct, osl, rfl, l, c, .inl ⟨rfl, rfl⟩, .inr ⟨D, rfl, fun q hq => by
    cases hq with
    | head => exact ⟨_, g1, rfl⟩
    | tail _ hq => cases hq with
      | head => exact ⟨_, g2, rfl⟩
      | tail _ hq => cases hq⟩⟩, k⟩, PySem.W.mg_of X G a⟩
theorem inid2N_mk {C f D : Addr} {q x1 x2 : Str} {st : Stmt} {oc : Value} {od an : Option Addr} {osl : Array (Option Value)} {doc pm cdv ct : Value} (m : PySem.W.makesIn K C = true) (a : PySem.W.findIn K (.ref C) "__init__" = some (some (.ref f))) (i : PySem.W.isFn K (.ref f) = true) (kc : PySem.W.keepIn K (.ref C) = true)
    (l : K.lookup f = some ⟨oc, od, .func (PySem.W.fnOf "__init__" q (C8.fnArgs st) (C8.fnBody st) (C8.fnScope st) .none (.ref D) doc pm an cdv ct), osl⟩) (c : PySem.W.codeIn K cdv q = true) (k : PySem.W.keepIn K (.ref f) = true)
    (g1 : PySem.W.nsIn K D x1 = some (some .none)) (g2 : PySem.W.nsIn K D x2 = some (some .none)) : IniD K C q st [(x1, .non), (x2, .non)] :=
  ⟨f, _, ⟨m, a, i, kc⟩, ⟨oc, od, _, _, doc, pm, an, cdv, ct, osl, rfl, l, c, .inl ⟨rfl, rfl⟩, .inr ⟨D, rfl, fun q hq => by
    cases hq with
    | head => exact ⟨_, g1, rfl⟩
    | tail _ hq => cases hq with
      | head => exact ⟨_, g2, rfl⟩
      | tail _ hq => cases hq⟩⟩, k⟩
end
/-- a method with one default, an empty tuple -/
def MethE (K : PySem.W.Frag) (C : Addr) (m q : Str) (st : Stmt) : Prop := ∃ (f a : Addr) (fd : FuncData), Meth K C m f ∧ FunD K m q (C8.fnArgs st) (C8.fnBody st) (C8.fnScope st) [.ref a] [] f fd ∧ ∀ H, SqT K H a []
theorem methE_mk {K : PySem.W.Frag} {C f TT e : Addr} {m q : Str} {st : Stmt} {oc : Value} {od an : Option Addr} {osl : Array (Option Value)} {kV doc pm cdv ct : Value} {o1 : Value} {o2 : Option Addr} {o3 : Array (Option Value)} {n1 n2 : Nat} {p2 : Option Addr} {p3 : Array (Option Value)} (a : PySem.W.findIn K (.ref C) m = some (some (.ref f))) (i : PySem.W.isFn K (.ref f) = true)
    (l : K.lookup f = some ⟨oc, od, .func (PySem.W.fnOf m q (C8.fnArgs st) (C8.fnBody st) (C8.fnScope st) (.ref TT) kV doc pm an cdv ct), osl⟩) (c : PySem.W.codeIn K cdv q = true) (k : PySem.W.keepIn K (.ref f) = true)
    (lT : K.lookup TT = some ⟨o1, o2, .seq #[.ref e] n1, o3⟩) (le : K.lookup e = some ⟨.type "tuple", p2, .seq #[] n2, p3⟩) : MethE K C m q st :=
  ⟨f, e, _, ⟨a, i, k⟩, ⟨⟨oc, od, _, kV, doc, pm, an, cdv, ct, osl, rfl, l, c, .inr ⟨fun z => (nomatch z), TT, _, [.ref e], n1, rfl, lT, rfl, .cons rfl .nil⟩, .inl rfl⟩, k⟩, fun H => .inr ⟨_, #[], n2, le, rfl, rfl, Nat.zero_le _, .nil⟩⟩
end UF

set_option Elab.async false
set_option maxRecDepth 100000
set_option maxHeartbeats 4000000
namespace K25
open PySem PySem.Spec PyProof.Rows L2 C8 LamX UF

def top (i : Nat) : Stmt := PySem.Challenge.pw_livingroll_k25_whole_tour_windows.main.body.getD i (.Pass ⟨0, 0, 0, 0⟩)

abbrev s_is_integer : Stmt := top 5
abbrev n_is_integer : List Str := ["value"]
theorem sc_is_integer : FnScope n_is_integer ["value"] (C8.fnScope s_is_integer) := ⟨rfl, rfl, rfl, by decide +kernel, rfl, by decide +kernel, by decide +kernel⟩

abbrev s_check_field : Stmt := top 8
abbrev n_check_field : List Str := ["field", "value", "least", "most"]
theorem sc_check_field : FnScope n_check_field ["field", "value", "least", "most"] (C8.fnScope s_check_field) := ⟨rfl, rfl, rfl, by decide +kernel, rfl, by decide +kernel, by decide +kernel⟩

abbrev s_distance : Stmt := top 9
abbrev n_distance : List Str := ["setting", "seat", "other"]
theorem sc_distance : FnScope n_distance ["setting", "seat", "other"] (C8.fnScope s_distance) := ⟨rfl, rfl, rfl, by decide +kernel, rfl, by decide +kernel, by decide +kernel⟩

-- lambda in first_from
abbrev s_first_from : Stmt := top 10
abbrev n_first_from : List Str := ["setting", "place", "held"]
theorem sc_first_from : FnScope n_first_from ["setting", "place", "held"] (C8.fnScope s_first_from) := ⟨rfl, rfl, rfl, by decide +kernel, rfl, by decide +kernel, by decide +kernel⟩

abbrev s_law_box : Stmt := top 14
abbrev n_law_box : List Str := ["script", "cells", "cell"]
theorem sc_law_box : FnScope n_law_box ["script"] (C8.fnScope s_law_box) := ⟨rfl, rfl, rfl, by decide +kernel, rfl, by decide +kernel, by decide +kernel⟩

abbrev s_law_draw : Stmt := top 15
abbrev n_law_draw : List Str := ["box", "top", "digit", "cells", "place", "cell", "mixed"]
theorem sc_law_draw : FnScope n_law_draw ["box", "top"] (C8.fnScope s_law_draw) := ⟨rfl, rfl, rfl, by decide +kernel, rfl, by decide +kernel, by decide +kernel⟩

abbrev s_law_bits : Stmt := top 16
abbrev n_law_bits : List Str := ["box", "way"]
theorem sc_law_bits : FnScope n_law_bits ["box"] (C8.fnScope s_law_bits) := ⟨rfl, rfl, rfl, by decide +kernel, rfl, by decide +kernel, by decide +kernel⟩

abbrev s_law_patience : Stmt := top 17
abbrev n_law_patience : List Str := ["box", "way"]
theorem sc_law_patience : FnScope n_law_patience ["box"] (C8.fnScope s_law_patience) := ⟨rfl, rfl, rfl, by decide +kernel, rfl, by decide +kernel, by decide +kernel⟩

abbrev s_law_flags : Stmt := top 18
abbrev n_law_flags : List Str := ["box", "ring", "own", "way", "chunk", "flags", "spot"]
theorem sc_law_flags : FnScope n_law_flags ["box", "ring", "own"] (C8.fnScope s_law_flags) := ⟨rfl, rfl, rfl, by decide +kernel, rfl, by decide +kernel, by decide +kernel⟩

abbrev s_law_first : Stmt := top 19
abbrev n_law_first : List Str := ["ring", "place", "names", "ahead", "spot"]
theorem sc_law_first : FnScope n_law_first ["ring", "place", "names"] (C8.fnScope s_law_first) := ⟨rfl, rfl, rfl, by decide +kernel, rfl, by decide +kernel, by decide +kernel⟩

abbrev s_law_pool : Stmt := top 20
abbrev n_law_pool : List Str := ["box", "ring", "own", "large", "flags", "place", "cap", "met", "pool", "k", "spot"]
theorem sc_law_pool : FnScope n_law_pool ["box", "ring", "own", "large"] (C8.fnScope s_law_pool) := ⟨rfl, rfl, rfl, by decide +kernel, rfl, by decide +kernel, by decide +kernel⟩

abbrev s_law_tour : Stmt := top 21
abbrev n_law_tour : List Str := ["box", "setting", "ring", "own", "way", "last"]
theorem sc_law_tour : FnScope n_law_tour ["box", "setting", "ring", "own"] (C8.fnScope s_law_tour) := ⟨rfl, rfl, rfl, by decide +kernel, rfl, by decide +kernel, by decide +kernel⟩

abbrev s_law_names : Stmt := top 22
abbrev n_law_names : List Str := ["box", "style", "pool", "loose", "here", "now", "way", "k", "place", "j"]
theorem sc_law_names : FnScope n_law_names ["box", "style", "pool", "loose", "here", "now"] (C8.fnScope s_law_names) := ⟨rfl, rfl, rfl, by decide +kernel, rfl, by decide +kernel, by decide +kernel⟩

abbrev s_law_played : Stmt := top 23
abbrev n_law_played : List Str := ["box", "tour", "pool", "patience", "style", "result", "loose", "marks", "hard", "many", "here", "now", "rows", "k", "names", "passed", "spot", "j"]
theorem sc_law_played : FnScope n_law_played ["box", "tour", "pool", "patience"] (C8.fnScope s_law_played) := ⟨rfl, rfl, rfl, by decide +kernel, rfl, by decide +kernel, by decide +kernel⟩

abbrev s_law_visits : Stmt := top 24
abbrev n_law_visits : List Str := ["rows", "patience", "found", "begun", "spot", "bad", "k", "row"]
theorem sc_law_visits : FnScope n_law_visits ["rows", "patience"] (C8.fnScope s_law_visits) := ⟨rfl, rfl, rfl, by decide +kernel, rfl, by decide +kernel, by decide +kernel⟩

abbrev s_law_tried : Stmt := top 25
abbrev n_law_tried : List Str := ["rows", "spot", "patience", "bad", "row"]
theorem sc_law_tried : FnScope n_law_tried ["rows", "spot", "patience"] (C8.fnScope s_law_tried) := ⟨rfl, rfl, rfl, by decide +kernel, rfl, by decide +kernel, by decide +kernel⟩

abbrev s_law_window : Stmt := top 26
abbrev n_law_window : List Str := ["rows", "visits", "start", "patience", "seen", "stay", "checked", "k", "names", "spot", "length", "visited", "visit"]
theorem sc_law_window : FnScope n_law_window ["rows", "visits", "start", "patience"] (C8.fnScope s_law_window) := ⟨rfl, rfl, rfl, by decide +kernel, rfl, by decide +kernel, by decide +kernel⟩

abbrev s_law : Stmt := top 27
abbrev n_law : List Str := ["script", "box", "large", "bits", "ring", "own", "pool", "patience", "setting", "made", "rows", "tries", "visits", "start", "row"]
theorem sc_law : FnScope n_law ["script"] (C8.fnScope s_law) := ⟨rfl, rfl, rfl, by decide +kernel, rfl, by decide +kernel, by decide +kernel⟩

abbrev s_Setting__init : Stmt := inClass (top 7) 5
abbrev n_Setting__init : List Str := ["self", "bits", "patience", "room", "grace", "helpers"]
theorem sc_Setting__init : FnScope n_Setting__init ["self", "bits", "patience", "room", "grace", "helpers"] (C8.fnScope s_Setting__init) := ⟨rfl, rfl, rfl, by decide +kernel, rfl, by decide +kernel, by decide +kernel⟩

abbrev s_Setting_seats : Stmt := inClass (top 7) 6
abbrev n_Setting_seats : List Str := ["self"]
theorem sc_Setting_seats : FnScope n_Setting_seats ["self"] (C8.fnScope s_Setting_seats) := ⟨rfl, rfl, rfl, by decide +kernel, rfl, by decide +kernel, by decide +kernel⟩

structure T_Setting (K : PySem.W.Frag) (mg : Str → Option Value) (C : Addr) : Prop where
  cl : Cls K C
  mgC : mg "Setting" = some (.ref C)
  n_bits : NoAttr K C "bits"
  n_patience : NoAttr K C "patience"
  n_room : NoAttr K C "room"
  n_grace : NoAttr K C "grace"
  n_helpers : NoAttr K C "helpers"
  k_MOST_BITS : ConP K C "MOST_BITS" 8
  k_MOST_PATIENCE : ConP K C "MOST_PATIENCE" 6
  k_MOST_ROOM : ConP K C "MOST_ROOM" 64
  k_MOST_GRACE : ConP K C "MOST_GRACE" 200
  k_MOST_HELPERS : ConP K C "MOST_HELPERS" 3
  ini : IniD K C "Setting.__init__" s_Setting__init [("grace", .int 6), ("helpers", .int 1)]
  p_seats : PropP K C "seats" "Setting.seats" s_Setting_seats

abbrev s_Tour__init : Stmt := inClass (top 12) 0
abbrev n_Tour__init : List Str := ["self", "setting", "seat", "behind"]
theorem sc_Tour__init : FnScope n_Tour__init ["self", "setting", "seat", "behind"] (C8.fnScope s_Tour__init) := ⟨rfl, rfl, rfl, by decide +kernel, rfl, by decide +kernel, by decide +kernel⟩

abbrev s_Tour_aim : Stmt := inClass (top 12) 1
abbrev n_Tour_aim : List Str := ["self", "names"]
theorem sc_Tour_aim : FnScope n_Tour_aim ["self", "names"] (C8.fnScope s_Tour_aim) := ⟨rfl, rfl, rfl, by decide +kernel, rfl, by decide +kernel, by decide +kernel⟩

abbrev s_Tour_begin : Stmt := inClass (top 12) 2
abbrev n_Tour_begin : List Str := ["self", "seat"]
theorem sc_Tour_begin : FnScope n_Tour_begin ["self", "seat"] (C8.fnScope s_Tour_begin) := ⟨rfl, rfl, rfl, by decide +kernel, rfl, by decide +kernel, by decide +kernel⟩

abbrev s_Tour_report : Stmt := inClass (top 12) 3
abbrev n_Tour_report : List Str := ["self", "passed"]
theorem sc_Tour_report : FnScope n_Tour_report ["self", "passed"] (C8.fnScope s_Tour_report) := ⟨rfl, rfl, rfl, by decide +kernel, rfl, by decide +kernel, by decide +kernel⟩

abbrev s_Tour_passes : Stmt := inClass (top 12) 4
abbrev n_Tour_passes : List Str := ["self", "seat"]
theorem sc_Tour_passes : FnScope n_Tour_passes ["self", "seat"] (C8.fnScope s_Tour_passes) := ⟨rfl, rfl, rfl, by decide +kernel, rfl, by decide +kernel, by decide +kernel⟩

structure T_Tour (K : PySem.W.Frag) (mg : Str → Option Value) (C : Addr) : Prop where
  cl : Cls K C
  mgC : mg "Tour" = some (.ref C)
  n_setting : NoAttr K C "setting"
  n_current : NoAttr K C "current"
  n_failed : NoAttr K C "failed"
  n_last : NoAttr K C "_last"
  n_goes_on : NoAttr K C "_goes_on"
  n_passes : NoAttr K C "_passes"
  ini : IniD K C "Tour.__init__" s_Tour__init [("behind", .non)]
  m_aim : MethP K C "aim" "Tour.aim" s_Tour_aim ["self", "names"]
  m_begin : MethP K C "_begin" "Tour._begin" s_Tour_begin ["self", "seat"]
  m_report : MethP K C "report" "Tour.report" s_Tour_report ["self", "passed"]
  m_passes : MethP K C "passes" "Tour.passes" s_Tour_passes ["self", "seat"]

structure Ds (K : PySem.W.Frag) (mg : Str → Option Value) (C_Setting C_Tour c_first_from : Addr) : Prop where
  d1_first_from : D1 K mg "first_from" s_first_from c_first_from
  d_is_integer : D0 K mg "is_integer" s_is_integer ["value"]
  d_check_field : D0 K mg "check_field" s_check_field ["field", "value", "least", "most"]
  d_distance : D0 K mg "distance" s_distance ["setting", "seat", "other"]
  d_law_box : D0 K mg "_law_box" s_law_box ["script"]
  d_law_draw : D0 K mg "_law_draw" s_law_draw ["box", "top"]
  d_law_bits : D0 K mg "_law_bits" s_law_bits ["box"]
  d_law_patience : D0 K mg "_law_patience" s_law_patience ["box"]
  d_law_flags : D0 K mg "_law_flags" s_law_flags ["box", "ring", "own"]
  d_law_first : D0 K mg "_law_first" s_law_first ["ring", "place", "names"]
  d_law_pool : D0 K mg "_law_pool" s_law_pool ["box", "ring", "own", "large"]
  d_law_tour : D0 K mg "_law_tour" s_law_tour ["box", "setting", "ring", "own"]
  d_law_names : D0 K mg "_law_names" s_law_names ["box", "style", "pool", "loose", "here", "now"]
  d_law_played : D0 K mg "_law_played" s_law_played ["box", "tour", "pool", "patience"]
  d_law_visits : D0 K mg "_law_visits" s_law_visits ["rows", "patience"]
  d_law_tried : D0 K mg "_law_tried" s_law_tried ["rows", "spot", "patience"]
  d_law_window : D0 K mg "_law_window" s_law_window ["rows", "visits", "start", "patience"]
  t_Setting : T_Setting K mg C_Setting
  t_Tour : T_Tour K mg C_Tour
end K25

set_option Elab.async false
set_option maxRecDepth 100000
set_option maxHeartbeats 4000000
/-! settings -/
namespace K25
open PySem PySem.Spec PyProof.Rows L2 C8 LamX UF

def spInt : Sp := fun vs H Q _ => ∃ n : Int, vs = [.int n] ∧ Q (.bl true) H
def spCheck : Sp := fun vs H Q _ => ∃ (x : Str) (v l m : Int), vs = [.str x, .int v, .int l, .int m] ∧ l ≤ v ∧ v ≤ m ∧ Q .non H
/-- a setting stands at q -/
def SetO (C : Addr) (H : Hp) (q : Addr) (n p r g h : Int) : Prop := ∃ dx : Addr, H q = some (.ins C dx (fs5 n p r g h))
theorem SetO.fr {C : Addr} {H H' : Hp} {q : Addr} {n p r g h : Int} {ds : List Addr} (s : SetO C H q n p r g h) (x : Fr ds H H') (m : q ∉ ds) : SetO C H' q n p r g h := s.imp fun _ e => x.ins e m
theorem SetO.fw {C : Addr} {H H' : Hp} {q : Addr} {n p r g h : Int} {ds : List Addr} (s : SetO C H q n p r g h) (x : Fw ds H H') (m : q ∉ ds) : SetO C H' q n p r g h := s.imp fun _ e => x.ins e m
theorem SetO.at_ {C : Addr} {H : Hp} {q : Addr} {n p r g h : Int} (s : SetO C H q n p r g h) : ∃ o, H q = some o := s.elim fun _ e => ⟨_, e⟩
def spInit (C : Addr) : Sp := fun vs H Q _ => ∃ (q dx : Addr) (n p r g h : Int), vs = [.ref q, .int n, .int p, .int r, .int g, .int h] ∧ H q = some (.ins C dx []) ∧ 1 ≤ n ∧ n ≤ 8 ∧ 1 ≤ p ∧ p ≤ 6 ∧ 1 ≤ r ∧ r ≤ 64 ∧ 1 ≤ g ∧ g ≤ 200 ∧ 0 ≤ h ∧ h ≤ 3 ∧
  ∀ H' : Hp, SetO C H' q n p r g h → Fr [q] H H' → Q .non H'
section
variable {P : Program} {w : World} {K : PySem.W.Frag} {mg : Str → Option Value} {base : Heap} {C : Addr}
theorem c_is_integer (T : Bl mg) (d : D0 K mg "is_integer" s_is_integer ["value"]) : Cal P w K mg base 1 "is_integer" spInt [] := by
  refine cal d sc_is_integer (fun vs H Q E h => ?_) (fun cdv A outer f s H vs Q E hr h => ?_)
  · obtain ⟨n, rfl, _⟩ := h
    rfl
  · obtain ⟨n, rfl, k⟩ := h
    refine ⟨_, (pss_one (ps_ret (pe_and (pe_callB call_isi (by rfl) T.isinstance (by decide +kernel) (pa_cons (pv 0) (pa_cons (pe_bltn (v := .ty "int") (by rfl) T.int (by decide +kernel) rfl) pa_nil))) (pe_one (pe_not (pe_callB call_isi (by rfl) T.isinstance (by decide +kernel) (pa_cons (pv 0) (pa_cons (pe_bltn (v := .ty "bool") (by rfl) T.bool (by decide +kernel) rfl) pa_nil)))))))), ?_⟩
    refine ⟨_, rfl, _, _, _, _, true, rfl, .ty _, .base (.int _), kit_ty (by decide +kernel), _, rfl, iteT ?_⟩
    exact ⟨_, rfl, _, _, _, _, false, rfl, .ty _, .base (.int _), kit_ty (by decide +kernel), _, rfl, k⟩
theorem c_check_field (c_is_integer : Cal P w K mg base 1 "is_integer" spInt []) (d : D0 K mg "check_field" s_check_field ["field", "value", "least", "most"]) : Cal P w K mg base 2 "check_field" spCheck [] := by
  refine cal d sc_check_field (fun vs H Q E h => ?_) (fun cdv A outer f s H vs Q E hr h => ?_)
  · obtain ⟨x, v, l, m, rfl, _⟩ := h
    rfl
  · obtain ⟨x, v, l, m, rfl, h1, h2, k⟩ := h
    refine ⟨_, (pss_one (ps_if (pt_not (PW.pt (pw_and (pt_val (pe_c c_is_integer hr (by decide) rfl (pa_cons (pv 1) pa_nil))) (pw_and1 (pt_chain op_le op_le (pv 2) (pv 1) (pv 3)))))) (pss_one (ps_never)) pss_nil)), ?_⟩
    refine ⟨_, rfl, _, rfl, _, rfl, iteT ?_⟩
    refine ⟨_, rfl, _, rfl, _, _, rfl, rfl, _, rfl, ?_⟩
    rw [if_pos (decide_eq_true h1)]
    refine ⟨_, rfl, _, _, rfl, rfl, _, rfl, ?_⟩
    rw [decide_eq_true h2]
    exact k
theorem f_init (ST : T_Setting K mg C) {f : Addr} {fd : FuncData} (F : FunD K "__init__" "Setting.__init__" (C8.fnArgs s_Setting__init) (C8.fnBody s_Setting__init) (C8.fnScope s_Setting__init) [] [("grace", .int 6), ("helpers", .int 1)] f fd) (c_check_field : Cal P w K mg base 2 "check_field" spCheck []) : FnOk P w K mg base C8.CX0 3 f fd ["self", "bits", "patience", "room", "grace", "helpers"] (spInit C) := by
  refine F.ok (N := n_Setting__init) sc_Setting__init (fun vs H Q E h => ?_) (fun cdv A outer s H vs Q E hr h => ?_)
  · obtain ⟨q, dx, n, p, r, g, h, rfl, _⟩ := h
    rfl
  · obtain ⟨q, dx, n, p, r, g, h, rfl, hq, a1, a2, a3, a4, a5, a6, a7, a8, a9, a10, k⟩ := h
    obtain ⟨u1, k1⟩ := ST.k_MOST_BITS
    obtain ⟨u2, k2⟩ := ST.k_MOST_PATIENCE
    obtain ⟨u3, k3⟩ := ST.k_MOST_ROOM
    obtain ⟨u4, k4⟩ := ST.k_MOST_GRACE
    obtain ⟨u5, k5⟩ := ST.k_MOST_HELPERS
    refine ⟨_, PSs.nox (pss_cons (ps_expr (pe_c c_check_field hr (by decide) rfl (pa_cons pe_str (pa_cons (pv 1) (pa_cons pe_int (pa_cons (pe_con (pv 0) rfl) pa_nil))))))
      (pss_cons (ps_expr (pe_c c_check_field hr (by decide) rfl (pa_cons pe_str (pa_cons (pv 2) (pa_cons pe_int (pa_cons (pe_con (pv 0) rfl) pa_nil))))))
      (pss_cons (ps_expr (pe_c c_check_field hr (by decide) rfl (pa_cons pe_str (pa_cons (pv 3) (pa_cons pe_int (pa_cons (pe_con (pv 0) rfl) pa_nil))))))
      (pss_cons (ps_expr (pe_c c_check_field hr (by decide) rfl (pa_cons pe_str (pa_cons (pv 4) (pa_cons pe_int (pa_cons (pe_con (pv 0) rfl) pa_nil))))))
      (pss_cons (ps_expr (pe_c c_check_field hr (by decide) rfl (pa_cons pe_str (pa_cons (pv 5) (pa_cons pe_int (pa_cons (pe_con (pv 0) rfl) pa_nil))))))
      (pss_cons (ps_fld (pv 0) (pv 1) rfl)
      (pss_cons (ps_fld (pv 0) (pv 2) rfl)
      (pss_cons (ps_fld (pv 0) (pv 3) rfl)
      (pss_cons (ps_fld (pv 0) (pv 4) rfl)
      (pss_one (ps_fld (pv 0) (pv 5) rfl))))))))))), ?_⟩
    refine ⟨_, rfl, _, rfl, q, C, dx, [], _, u1, rfl, hq, ST.cl, k1, rfl, _, _, _, _, rfl, a1, a2, ?_⟩
    refine ⟨_, rfl, _, rfl, q, C, dx, [], _, u2, rfl, hq, ST.cl, k2, rfl, _, _, _, _, rfl, a3, a4, ?_⟩
    refine ⟨_, rfl, _, rfl, q, C, dx, [], _, u3, rfl, hq, ST.cl, k3, rfl, _, _, _, _, rfl, a5, a6, ?_⟩
    refine ⟨_, rfl, _, rfl, q, C, dx, [], _, u4, rfl, hq, ST.cl, k4, rfl, _, _, _, _, rfl, a7, a8, ?_⟩
    refine ⟨_, rfl, _, rfl, q, C, dx, [], _, u5, rfl, hq, ST.cl, k5, rfl, _, _, _, _, rfl, a9, a10, ?_⟩
    have e5 := fs5_puts (n := n) (p := p) (r := r) (g := g) (h := h)
    refine ⟨_, rfl, _, rfl, q, C, dx, [], rfl, hq, ST.cl, ST.n_bits, by show 0 < 1000; decide, ?_⟩
    generalize e1 : putF ("bits" : Str) (V.int n) [] = f1
    refine ⟨_, rfl, _, rfl, q, C, dx, f1, rfl, upd_same, ST.cl, ST.n_patience, by subst e1; show 1 < 1000; decide, ?_⟩
    generalize e2 : putF ("patience" : Str) (V.int p) f1 = f2
    have l1 : f1.length ≤ 1 := by subst e1; exact putF_len _ _ _
    have l2 : f2.length ≤ 2 := by subst e2; exact Nat.le_trans (putF_len _ _ _) (by omega)
    refine ⟨_, rfl, _, rfl, q, C, dx, f2, rfl, upd_same, ST.cl, ST.n_room, by omega, ?_⟩
    generalize e3 : putF ("room" : Str) (V.int r) f2 = f3
    have l3 : f3.length ≤ 3 := by subst e3; exact Nat.le_trans (putF_len _ _ _) (by omega)
    refine ⟨_, rfl, _, rfl, q, C, dx, f3, rfl, upd_same, ST.cl, ST.n_grace, by omega, ?_⟩
    generalize e4 : putF ("grace" : Str) (V.int g) f3 = f4
    have l4 : f4.length ≤ 4 := by subst e4; exact Nat.le_trans (putF_len _ _ _) (by omega)
    refine ⟨_, rfl, _, rfl, q, C, dx, f4, rfl, upd_same, ST.cl, ST.n_helpers, by omega, ?_⟩
    rw [e1, e2, e3, e4] at e5
    rw [e5]
    exact k _ ⟨dx, upd_same⟩ ((((((Fr.refl [q] H).upd (.head _) (.ins hq) _).upd (.head _) (.ins upd_same) _).upd (.head _) (.ins upd_same) _).upd (.head _) (.ins upd_same) _).upd (.head _) (.ins upd_same) _)
/-- Setting(bits, patience, room) -/
theorem c_Setting (ST : T_Setting K mg C) (c_check_field : Cal P w K mg base 2 "check_field" spCheck []) : Mak P w K mg base 3 "Setting" C (spInit C) [.int 6, .int 1] := by
  obtain ⟨f, fd, M, F⟩ := ST.ini
  obtain ⟨ds, r, b⟩ := F.binds0 (ps := ["self", "bits", "patience", "room", "grace", "helpers"]) 4 (by decide) rfl (fun D doc pm an cdv ct us ks hl hk => match us, hl, ks, hk with
      | [_, _, _, _], _, [_, _], _ => ⟨_, _, _, _, _, _, rfl, rfl, ⟨_, _, _, _, _, _, rfl, rfl, rfl⟩⟩)
  exact ⟨f, fd, _, ds, M, f_init ST F c_check_field, ST.mgC, b, r⟩
/-- what the making of a setting promises, between two heaps -/
theorem set_made {H : Hp} {x dx : Addr} {n p r g h : Int} {R : Hp → Prop} {E : XK} (nx : H x = none) (ndx : H dx = none) (ne : dx ≠ x) (a1 : 1 ≤ n) (a2 : n ≤ 8) (a3 : 1 ≤ p) (a4 : p ≤ 6) (a5 : 1 ≤ r) (a6 : r ≤ 64) (a7 : 1 ≤ g) (a8 : g ≤ 200) (a9 : 0 ≤ h) (a10 : h ≤ 3)
    (k : ∀ H' : Hp, Fr [] H H' → SetO C H' x n p r g h → R H') :
    spInit C [.ref x, .int n, .int p, .int r, .int g, .int h] (upd (upd H dx (.own x)) x (.ins C dx [])) (fun v H3 => v = .non ∧ R H3) E := by
  have nx' : upd H dx (.own x) x = none := by rw [upd_ne ne.symm]; exact nx
  refine ⟨x, dx, n, p, r, g, h, rfl, upd_same, a1, a2, a3, a4, a5, a6, a7, a8, a9, a10, fun H3 hs hk => ⟨rfl, k H3 ?_ hs⟩⟩
  exact (((Fr.refl [] H).new ndx _).new nx' _).tail hk fun a m => by rw [List.mem_singleton.mp m]; exact .inr (.of nx)
end
end K25

set_option Elab.async false
set_option maxRecDepth 100000
set_option maxHeartbeats 4000000
/-! seats of a ring, walks around it: mathematics -/
namespace UF
open PySem PySem.Spec PyProof.Rows L2

/-- the seats met on a walk of n steps that begins at s -/
def walkL (r s : Int) (n : Nat) (ns : List Int) : List Int := ((List.range n).map fun k => (s + ((k : Nat) : Int)) % r).filter fun x => decide (x ∈ ns)
theorem walkL_succ (r s : Int) (n : Nat) (ns : List Int) : walkL r s (n + 1) ns = if (s + (n : Int)) % r ∈ ns then walkL r s n ns ++ [(s + (n : Int)) % r] else walkL r s n ns := by
  unfold walkL
  rw [List.range_succ, List.map_append, List.filter_append]
  by_cases h : (s + (n : Int)) % r ∈ ns
  · rw [if_pos h]
    simp [h]
  · rw [if_neg h]
    simp [h]
/-- two rising lists with the same members are one -/
theorem rising_ext : ∀ {xs ys : List Int}, xs.Pairwise (· < ·) → ys.Pairwise (· < ·) → (∀ z, z ∈ xs ↔ z ∈ ys) → xs = ys
  | [], [], _, _, _ => rfl
  | [], y :: ys, _, _, h => absurd ((h y).mpr (.head _)) (by simp)
  | x :: xs, [], _, _, h => absurd ((h x).mp (.head _)) (by simp)
  | x :: xs, y :: ys, hx, hy, h => by
    have hx' := List.pairwise_cons.mp hx
    have hy' := List.pairwise_cons.mp hy
    have e : x = y := by
      have h1 := (h x).mp (.head _)
      have h2 := (h y).mpr (.head _)
      rcases List.mem_cons.mp h1 with e | m1
      · exact e
      · rcases List.mem_cons.mp h2 with e | m2
        · exact e.symm
        · have := hx'.1 y m2
          have := hy'.1 x m1
          omega
    subst e
    refine congrArg (List.cons x) (rising_ext hx'.2 hy'.2 fun z => ?_)
    constructor
    · intro m
      have l := hx'.1 z m
      rcases List.mem_cons.mp ((h z).mp (.tail _ m)) with e | m2
      · omega
      · exact m2
    · intro m
      have l := hy'.1 z m
      rcases List.mem_cons.mp ((h z).mpr (.tail _ m)) with e | m2
      · omega
      · exact m2
theorem emod_lt' {r : Int} (h : 0 < r) (a : Int) : a % r < r := Int.emod_lt_of_pos _ h
theorem emod_nn {r : Int} (h : 0 < r) (a : Int) : 0 ≤ a % r := Int.emod_nonneg _ (by omega)
/-- a seat is met again at its distance -/
theorem back {r s x : Int} (h0 : 0 ≤ x) (h1 : x < r) : (s + (x - s) % r) % r = x := by
  rw [Int.add_emod, Int.emod_emod, ← Int.add_emod, show s + (x - s) = x by omega]
  exact Int.emod_eq_of_lt h0 h1
theorem forth {r s k : Int} (h0 : 0 ≤ k) (h1 : k < r) : ((s + k) % r - s) % r = k := by
  rw [Int.sub_emod, Int.emod_emod, ← Int.sub_emod, show s + k - s = k by omega]
  exact Int.emod_eq_of_lt h0 h1
/-- the sorted distances up to span, as the walk tells them -/
theorem steps_walk {r s : Int} {ns st : List Int} {n : Nat} (hr : 0 < r) (hn : (n : Int) ≤ r) (h0 : ∀ x ∈ ns, 0 ≤ x) (h1 : ∀ x ∈ ns, x < r) (nd : ns.Nodup) (pm : st.Perm (ns.map fun x => (x - s) % r)) (so : st.Pairwise (· ≤ ·)) :
    (st.filter fun k => decide (k < (n : Int))).map (fun k => (s + k) % r) = walkL r s n ns := by
  have mem : ∀ k, k ∈ st ↔ ∃ x ∈ ns, (x - s) % r = k := fun k => by
    rw [pm.mem_iff, List.mem_map]
  have inj : (ns.map fun x => (x - s) % r).Nodup := by
    unfold List.Nodup
    rw [List.pairwise_map]
    refine List.Pairwise.imp_of_mem (fun {a b} ha hb hab e => hab ?_) nd
    rw [← back (s := s) (h0 a ha) (h1 a ha), ← back (s := s) (h0 b hb) (h1 b hb), e]
  have up : st.Pairwise (· < ·) := by
    have z := so.and (pm.nodup_iff.mpr inj)
    exact z.imp fun {a b} h => by
      have h1 := h.1
      have h2 := h.2
      omega
  have e : (st.filter fun k => decide (k < (n : Int))) = ((List.range n).filter fun k => decide ((s + ((k : Nat) : Int)) % r ∈ ns)).map fun k => ((k : Nat) : Int) := by
    refine rising_ext (up.filter _) (List.Pairwise.map _ (fun a b h => by omega) (List.pairwise_lt_range.filter _)) fun z => ?_
    rw [List.mem_filter, mem, List.mem_map]
    constructor
    · rintro ⟨⟨x, hx, rfl⟩, hz⟩
      have hz := of_decide_eq_true hz
      have p0 := emod_nn hr (x - s)
      refine ⟨((x - s) % r).toNat, List.mem_filter.mpr ⟨List.mem_range.mpr (by omega), decide_eq_true ?_⟩, by omega⟩
      rw [Int.toNat_of_nonneg p0, back (h0 x hx) (h1 x hx)]
      exact hx
    · rintro ⟨k, hk, rfl⟩
      obtain ⟨k1, k2⟩ := List.mem_filter.mp hk
      have k1 := List.mem_range.mp k1
      refine ⟨⟨_, of_decide_eq_true k2, forth (by omega) (by omega)⟩, decide_eq_true (by omega)⟩
  rw [e, List.map_map]
  unfold walkL
  rw [List.filter_map]
  rfl
theorem walkL_nil (r s : Int) (n : Nat) : walkL r s n [] = [] := by
  unfold walkL
  rw [List.filter_eq_nil_iff]
  intro a _
  simp
/-- the first seat of the walk is the one of the least distance -/
theorem walk_first {r s m : Int} {ns : List Int} (hr : 0 < r) (h0 : ∀ x ∈ ns, 0 ≤ x) (h1 : ∀ x ∈ ns, x < r) (hm : m ∈ ns) (best : ∀ x ∈ ns, (m - s) % r ≤ (x - s) % r) : ∃ rest, walkL r s r.toNat ns = m :: rest := by
  have p0 := emod_nn hr (m - s)
  have p1 := emod_lt' hr (m - s)
  obtain ⟨t, ht⟩ : ∃ t, r.toNat = ((m - s) % r).toNat + (t + 1) := ⟨r.toNat - ((m - s) % r).toNat - 1, by omega⟩
  have bk := back (s := s) (h0 m hm) (h1 m hm)
  unfold walkL
  rw [ht, List.range_add, List.map_append, List.filter_append]
  have e1 : ((List.range ((m - s) % r).toNat).map fun k => (s + ((k : Nat) : Int)) % r).filter (fun x => decide (x ∈ ns)) = [] := by
    rw [List.filter_eq_nil_iff]
    intro x hx hd
    obtain ⟨k, hk, rfl⟩ := List.mem_map.mp hx
    have hk := List.mem_range.mp hk
    have b := best _ (of_decide_eq_true hd)
    rw [forth (by omega) (by omega)] at b
    omega
  rw [e1, List.nil_append, List.range_succ_eq_map, List.map_cons, List.map_cons, List.filter_cons]
  have e2 : (s + (((((m - s) % r).toNat + 0 : Nat)) : Int)) % r = m := by
    rw [show ((((m - s) % r).toNat + 0 : Nat) : Int) = (m - s) % r by omega]
    exact bk
  rw [e2, if_pos (decide_eq_true hm)]
  exact ⟨_, rfl⟩
theorem emod_is {a r c q : Int} (e : a = c + r * q) (h0 : 0 ≤ c) (h1 : c < r) : a % r = c := by
  rw [e, Int.add_mul_emod_self_left]
  exact Int.emod_eq_of_lt h0 h1
theorem count_eq {r : Int} (hr : 0 < r) (lo hi : Int) : (if (hi - lo) % r = 0 then r else (hi - lo) % r) = (hi - (lo + 1)) % r + 1 := by
  have e := Int.emod_add_mul_ediv (hi - lo) r
  have p0 := emod_nn hr (hi - lo)
  have p1 := emod_lt' hr (hi - lo)
  generalize (hi - lo) % r = d at e p0 p1
  generalize (hi - lo) / r = q at e
  by_cases h : d = 0
  · rw [if_pos h, emod_is (c := r - 1) (q := q - 1) (r := r) ?_ (by omega) (by omega)]
    · omega
    · rw [Int.mul_sub, Int.mul_one]
      omega
  · rw [if_neg h, emod_is (c := d - 1) (q := q) (r := r) (by omega) (by omega) (by omega)]
    omega
theorem gap_eq {r : Int} (a : Int) : (a - a % r) / r * r = a - a % r := by
  refine Int.ediv_mul_cancel ⟨a / r, ?_⟩
  have e := Int.emod_add_mul_ediv a r
  omega
/-- a list of seats of the ring, each once -/
structure Seats (ns : List Int) (r : Int) : Prop where
  nd : ns.Nodup
  lo : ∀ x ∈ ns, 0 ≤ x
  hi : ∀ x ∈ ns, x < r
theorem seqIx_lt {d : Int} {n : Nat} (h0 : 0 ≤ d) (h1 : d < n) : seqIndex? d n = some d.toNat := by
  refine (ixN_seq (n := n) (i := d) (j := d.toNat) ?_).1
  unfold ixN
  rw [if_pos h0, if_pos h1]
theorem map_erase (f : Int → V) : ∀ (l : List Int) (i : Nat), (l.map f).eraseIdx i = (l.eraseIdx i).map f
  | [], _ => rfl
  | _ :: _, 0 => rfl
  | a :: l, i + 1 => congrArg (List.cons (f a)) (map_erase f l i)
theorem erase_perm : ∀ {l : List Int} {i : Nat} {y : Int}, l[i]? = some y → (y :: l.eraseIdx i).Perm l
  | [], i, y, h => by simp at h
  | a :: l, 0, y, h => by
    cases h
    exact List.Perm.refl _
  | a :: l, i + 1, y, h => by
    have h' : l[i]? = some y := h
    exact (List.Perm.swap a y _).trans ((erase_perm h').cons a)
theorem nodup_move {hs ps : List Int} {i : Nat} {y : Int} (h : (hs ++ ps).Nodup) (e : ps[i]? = some y) : ((hs ++ [y]) ++ ps.eraseIdx i).Nodup := by
  have p1 := erase_perm e
  rw [List.append_assoc]
  exact (List.Perm.append_left hs p1).symm.nodup h
theorem mem_move {hs ps : List Int} {i : Nat} {y x : Int} (e : ps[i]? = some y) (h : x ∈ (hs ++ [y]) ++ ps.eraseIdx i) : x ∈ hs ++ ps := by
  have p1 := erase_perm e
  rw [List.append_assoc] at h
  exact (List.Perm.append_left hs p1).mem_iff.mp h

theorem nodup_len : ∀ (n : Nat) (l : List Nat), l.Nodup → (∀ x ∈ l, x < n) → l.length ≤ n
  | 0, [], _, _ => Nat.le_refl _
  | 0, a :: l, _, h => absurd (h a (.head _)) (Nat.not_lt_zero _)
  | n + 1, l, nd, h => by
    by_cases m : n ∈ l
    · have z := nodup_len n (l.erase n) (nd.erase n) fun x hx => by
        have q := (nd.mem_erase_iff).mp hx
        have := h x q.2
        have := q.1
        omega
      rw [List.length_erase_of_mem m] at z
      omega
    · refine Nat.le_succ_of_le (nodup_len n l nd fun x hx => ?_)
      have := h x hx
      have : x ≠ n := fun e => m (e ▸ hx)
      omega
theorem seats_len {ns : List Int} {r : Int} (h : Seats ns r) (hr : 0 ≤ r) : ns.length ≤ r.toNat := by
  have sub : (ns.map Int.toNat).Nodup := by
    unfold List.Nodup
    rw [List.pairwise_map]
    refine List.Pairwise.imp_of_mem (fun {a b} ha hb hab e => hab ?_) h.nd
    have := h.lo a ha
    have := h.lo b hb
    omega
  have hs : (ns.map Int.toNat).Subset (List.range r.toNat) := by
    intro x hx
    obtain ⟨a, ha, rfl⟩ := List.mem_map.mp hx
    have := h.lo a ha
    have := h.hi a ha
    exact List.mem_range.mpr (by omega)
  have z := nodup_len r.toNat _ sub fun x hx => List.mem_range.mp (hs hx)
  rw [List.length_map] at z
  exact z


def ringN (n : Nat) : Int := ((2 ^ n : Nat) : Int)
theorem ring_pos (n : Nat) : 0 < ringN n := by
  unfold ringN
  have := Nat.two_pow_pos n
  omega
theorem ring_two {n : Nat} (h : 1 ≤ n) : 2 ≤ ringN n := by
  unfold ringN
  have : (2 : Nat) ^ 1 ≤ 2 ^ n := Nat.pow_le_pow_right (by decide) h
  omega
theorem ringN_le {n : Nat} (h : n ≤ 8) : ringN n ≤ 256 := by
  unfold ringN
  have : 2 ^ n ≤ 2 ^ 8 := Nat.pow_le_pow_right (by decide) h
  omega
theorem ringN_succ (i : Nat) : ringN i * 2 = ringN (i + 1) := by
  unfold ringN
  rw [Nat.pow_succ]
  omega
theorem ring_lt {n : Nat} (h : n ≤ 8) : ringN n < 2 ^ 2000 := Int.lt_of_le_of_lt (ringN_le h) (by decide +kernel)
theorem shl_eq (n : Nat) : (1 : Int) * 2 ^ ((n : Int)).toNat = ringN n := by
  unfold ringN
  rw [Int.toNat_natCast, Int.one_mul]
  simp
theorem rg_int (r : Int) : rgV 0 r = ((List.range r.toNat).map fun i => ((i : Nat) : Int)).map V.int := by
  unfold rgV
  rw [List.map_map, show (r - 0).toNat = r.toNat by rw [Int.sub_zero]]
  refine List.map_congr_left fun i _ => ?_
  show V.int (0 + (i : Nat)) = V.int ((i : Nat) : Int)
  rw [Int.zero_add]
end UF

set_option Elab.async false
set_option maxRecDepth 100000
set_option maxHeartbeats 4000000
set_option exponentiation.threshold 4096
/-! the ring: seats, distance -/
namespace K25
open PySem PySem.Spec PyProof.Rows L2 C8 LamX UF
/-- a setting of n bits at q -/
def SetN (C : Addr) (H : Hp) (q : Addr) (n : Nat) : Prop := ∃ p r g h : Int, SetO C H q (n : Int) p r g h
theorem SetN.fr {C : Addr} {H H' : Hp} {q : Addr} {n : Nat} {ds : List Addr} (s : SetN C H q n) (x : Fr ds H H') (m : q ∉ ds) : SetN C H' q n := by
  obtain ⟨p, r, g, h, z⟩ := s
  exact ⟨p, r, g, h, z.fr x m⟩
theorem SetN.fw {C : Addr} {H H' : Hp} {q : Addr} {n : Nat} {ds : List Addr} (s : SetN C H q n) (x : Fw ds H H') (m : q ∉ ds) : SetN C H' q n := by
  obtain ⟨p, r, g, h, z⟩ := s
  exact ⟨p, r, g, h, z.fw x m⟩
def spSeats (C : Addr) : Sp := fun vs H Q _ => ∃ (q : Addr) (n : Nat), vs = [.ref q] ∧ SetN C H q n ∧ n ≤ 8 ∧ Q (.int (ringN n)) H
def spDist (C : Addr) : Sp := fun vs H Q _ => ∃ (q : Addr) (a b : Int) (n : Nat), vs = [.ref q, .int a, .int b] ∧ SetN C H q n ∧ n ≤ 8 ∧ Q (.int ((b - a) % ringN n)) H
section
variable {P : Program} {w : World} {K : PySem.W.Frag} {mg : Str → Option Value} {base : Heap} {C : Addr}
theorem p_seats (ST : T_Setting K mg C) : Prp P w K mg base 1 C "seats" (spSeats C) := by
  refine prp ST.p_seats ST.cl sc_Setting_seats (fun vs H Q E h => ?_) (fun cdv A outer f s H vs Q E hr h => ?_)
  · obtain ⟨q, n, rfl, _⟩ := h
    rfl
  · obtain ⟨q, n, rfl, ⟨p, r, g, h, dx, e⟩, hn, k⟩ := h
    refine ⟨_, (pss_one (ps_ret (pe_op op_shl pe_int (pe_fld (pv 0) rfl)))), ?_⟩
    refine ⟨_, rfl, q, C, dx, _, _, rfl, e, ST.cl, ST.n_bits, fs5_bits, _, _, rfl, rfl, ⟨by omega, by omega, by decide⟩, ?_⟩
    show Q (.int (1 * 2 ^ ((n : Int)).toNat)) H
    rw [shl_eq]
    exact k
theorem c_distance (p_seats : Prp P w K mg base 1 C "seats" (spSeats C)) (d : D0 K mg "distance" s_distance ["setting", "seat", "other"]) : Cal P w K mg base 3 "distance" (spDist C) [] := by
  refine cal d sc_distance (fun vs H Q E h => ?_) (fun cdv A outer f s H vs Q E hr h => ?_)
  · obtain ⟨q, a, b, n, rfl, _⟩ := h
    rfl
  · obtain ⟨q, a, b, n, rfl, hs, hn, k⟩ := h
    refine ⟨_, (pss_one (ps_ret (pe_op op_mod (pe_op op_sub (pv 2) (pv 1)) (pe_pr p_seats hr (by decide) (pv 0))))), ?_⟩
    obtain ⟨p, r, g, h, dx, e⟩ := id hs
    refine ⟨_, rfl, _, rfl, _, _, rfl, rfl, _, rfl, q, dx, _, rfl, e, q, n, rfl, hs, hn, _, _, rfl, rfl, pm (ring_pos n), k⟩
end
end K25

set_option Elab.async false
set_option maxRecDepth 100000
set_option maxHeartbeats 4000000
/-! min(held, key=lambda a: .., default=None) over a list of ints, the key an int that changes nothing. -/
namespace MinL
open PySem PySem.Spec PyProof.Rows L2 LamX

section
variable {X : Cx} {pins : List (Addr × Obj)} {σ : L2.St} {H : Hp} {s : Shared}
/-- one more object is pinned -/
theorem pinOne {b : Addr} {o : Obj} (I : Inv X pins σ H s) (F : FpOk X pins H b) (ho : s.heap.get? b = some o) (nc : ∀ v, o.data ≠ .cell v) : Inv X ((b, o) :: pins) σ H s := by
  refine I.pins_of fun p hp => ?_
  cases hp with
  | head => exact ⟨ho, F.1, F.2.1, F.2.2.1, nc⟩
  | tail _ hp => exact I.pin p (List.mem_append_right _ hp)
theorem unpinOne {q : Addr × Obj} (I : Inv X (q :: pins) σ H s) : Inv X pins σ H s := I.pins_of fun p hp => I.pin p (List.mem_append_right _ (.tail _ hp))
theorem pinGet {b : Addr} {o : Obj} (I : Inv X pins σ H s) (h : (b, o) ∈ pins) : s.heap.get? b = some o := (I.pin (b, o) (List.mem_append_right _ h)).1
/-- an object of the rule's own turns -/
theorem turnOne {b : Addr} {h' : Heap} {t' : Nat} (I : Inv X pins σ H s) (F : FpOk X pins H b) (k : ∀ a o, a ≠ b → s.heap.get? a = some o → h'.get? a = some o) : Inv X pins σ H { s with heap := h', toks := t' } :=
  I.turned k F.1 F.2.1 F.2.2.2.1 F.2.2.2.2.1 F.2.2.2.2.2
theorem isl_of {h : Heap} {a : Addr} {its : Array Value} (p : PlainL h a its) : h.IsList a its :=
  let ⟨o, n, e, c, _, d⟩ := p
  ⟨o, e, c, n, d⟩
theorem ints_at {ns : List Int} {its : List Value} {i : Nat} {u : Value} (r : Vals (ns.map V.int) its) (h : its[i]? = some u) : ∃ n t, ns[i]? = some n ∧ u = .int n t := by
  have hl : i < its.length := (List.getElem?_eq_some_iff.mp h).1
  have hn : i < ns.length := by
    have e := r.length
    rw [List.length_map] at e
    omega
  have e1 : (ns.map V.int)[i]? = some (V.int ns[i]) := by
    rw [List.getElem?_map, List.getElem?_eq_getElem hn]
    rfl
  obtain ⟨u', hu, rv⟩ := r.get e1
  rw [h] at hu
  cases hu
  obtain ⟨t, e⟩ := (show ∃ t, u = Value.int ns[i] t from rv)
  exact ⟨_, t, List.getElem?_eq_getElem hn, e⟩

/-- what one call of the key does, whatever else is pinned -/
def KeyTurn (X : Cx) (σ : L2.St) (H : Hp) (q : Addr) (fo : Obj) (ns : List Int) (kf : Int → Int) : Prop :=
  ∀ (n : Int) (t : Tok) (pp : List (Addr × Obj)) (s : Shared), n ∈ ns → (q, fo) ∈ pp → Inv X pp σ H s →
    wpAny (model X.prog X.w) X.A.in1 (call (.ref q) [.int n t]) (fun u s' => (∃ t', u = .int (kf n) t') ∧ Inv X pp σ H s') (fun _ _ => False) s

theorem minLoop {l I S q : Addr} {fo : Obj} {ns : List Int} {kf : Int → Int} {kwd : List (Str × Value)} {R : Result → Shared → Prop} {pp : List (Addr × Obj)} (hh : X.A.handled = none) (hl : H l = some (.lst (ns.map V.int))) (turn : KeyTurn X σ H q fo ns kf)
    (hq : (q, fo) ∈ pp) (FI : FpOk X pp H I) (FS : FpOk X pp H S) (hSI : S ≠ I)
    (done : ∀ (m : Int) (t : Tok) (s' : Shared), m ∈ ns → (∀ n ∈ ns, kf m ≤ kf n) → Inv X pp σ H s' → R (.ok (.ret (.int m t))) s') :
    ∀ (r j : Nat) (m : Int) (s : Shared) (tv tb : Tok) (c : Nat), ns.length - (j + 1) = r → j + 1 ≤ ns.length → m ∈ ns → (∀ (i : Nat) (n : Int), i ≤ j → ns[i]? = some n → kf m ≤ kf n) → Inv X pp σ H s →
      s.heap.get? S = some (seqObj "list" #[.int m tv, .int (kf m) tb] c) → s.heap.IsListIter I l (j + 1) → codeAny (model X.prog X.w) X.A (.builtin "min.loop" ⟨[.ref I, .ref q, .ref S], kwd⟩) R s := by
  have nm : (toString "min" ++ toString ".loop" : String) = "min.loop" := by decide
  have lI : l ≠ I := ne_of_none hl FI.1
  have lS : l ≠ S := ne_of_none hl FS.1
  intro r
  induction r with
  | zero =>
    intro j m s tv tb c hr hj hm best IV hS hit
    obtain ⟨its, rv, pl, hz⟩ := IV.list (SqL.of hl)
    have len : its.length = ns.length := by rw [← rv.length, List.length_map]
    have W := Walks.list (prog := X.prog) (w := X.w) (A := X.A.in1) hh I l lI its.toArray
    refine codeAny_builtin PySem.F.entry_min_loop ?_
    rw [Around.under_plainId PySem.F.plain_min_loop _]
    show wpAny _ X.A.in1 (seqItems? (.ref S) >>= _) _ _ _
    refine wpAny_bind (wpAny_seqItems hS rfl ?_)
    show wpAny _ X.A.in1 (tryCatch (pyNext (.ref I)) _ >>= _) _ _ _
    refine wpAny_bind (wpAny_tryCatch (W.done _ _ _ ⟨by rw [List.size_toArray, len, show ns.length = j + 1 by omega]; exact hit, isl_of pl⟩ fun h1 t1 k1 => ?_))
    have I1 : Inv X pp σ H { s with heap := h1, toks := t1 } := turnOne IV FI fun a o na e => k1 a o (by simpa using na) e
    have hS1 : h1.get? S = some (seqObj "list" #[.int m tv, .int (kf m) tb] c) := k1 S _ (by simpa using hSI) hS
    show wpAny _ X.A.in1 (updateSeq S (fun _ => #[]) >>= _) _ _ _
    refine wpAny_bind (wpAny_updateSeq hS1 rfl (wpAny_bind (wpAny_letGo (wpAny_pure ?_))))
    refine done m tv _ hm (fun n hn => ?_) (turnOne I1 FS fun a o na e => ?_)
    · obtain ⟨i, hi⟩ := List.mem_iff_getElem?.mp hn
      have := (List.getElem?_eq_some_iff.mp hi).1
      exact best i n (by omega) hi
    · exact (Heap.get?_update_ne _ _ _ _ na).trans e
  | succ r ih =>
    intro j m s tv tb c hr hj hm best IV hS hit
    obtain ⟨its, rv, pl, hz⟩ := IV.list (SqL.of hl)
    have len : its.length = ns.length := by rw [← rv.length, List.length_map]
    have W := Walks.list (prog := X.prog) (w := X.w) (A := X.A.in1) hh I l lI its.toArray
    refine codeAny_builtin PySem.F.entry_min_loop ?_
    rw [Around.under_plainId PySem.F.plain_min_loop _]
    show wpAny _ X.A.in1 (seqItems? (.ref S) >>= _) _ _ _
    refine wpAny_bind (wpAny_seqItems hS rfl ?_)
    show wpAny _ X.A.in1 (tryCatch (pyNext (.ref I)) _ >>= _) _ _ _
    refine wpAny_bind (wpAny_tryCatch (W.item (j + 1) _ _ _ (by rw [List.size_toArray, len]; omega) ⟨hit, isl_of pl⟩ fun v h1 t1 hv st1 k1 => ?_))
    obtain ⟨n, tn, hn, rfl⟩ := ints_at rv (by simpa using hv)
    have I1 : Inv X pp σ H { s with heap := h1, toks := t1 } := turnOne IV FI fun a o na e => k1 a o (by simpa using na) e
    have hS1 : h1.get? S = some (seqObj "list" #[.int m tv, .int (kf m) tb] c) := k1 S _ (by simpa using hSI) hS
    obtain ⟨oI, hoI, c1, d1⟩ := id st1.1
    have I2 := pinOne I1 FS hS1 (fun v z => nomatch z)
    have FI2 : FpOk X ((S, seqObj "list" #[.int m tv, .int (kf m) tb] c) :: pp) H I := by
      obtain ⟨f1, f2, f3, f4, f5, f6⟩ := FI
      refine ⟨f1, f2, f3, f4, f5, fun p hp => ?_⟩
      rcases List.mem_append.mp hp with hp | hp
      · exact f6 p (List.mem_append_left _ hp)
      · cases hp with
        | head => exact hSI
        | tail _ hp => exact f6 p (List.mem_append_right _ hp)
    have I3 := pinOne I2 FI2 hoI (fun v z => by rw [d1] at z; cases z)
    show wpAny _ X.A.in1 (tryCatch (holding [.int n tn] (call (.ref q) [.int n tn])) _ >>= _) _ _ _
    refine wpAny_bind (wpAny_tryCatch (wpAny_holding (wpAny_mono (turn n tn _ _ (List.mem_of_getElem? hn) (.tail _ (.tail _ hq)) I3) (fun u s2 he => ?_) fun _ _ hF => hF.elim)))
    obtain ⟨⟨t2, rfl⟩, I4⟩ := he
    have gI := pinGet I4 (.head _)
    have gS := pinGet I4 (.tail _ (.head _))
    have I5 := unpinOne (unpinOne I4)
    have hit2 : s2.heap.IsListIter I l (j + 1 + 1) := ⟨oI, gI, c1, d1⟩
    show wpAny _ X.A.in1 (tryCatch (holding [.int n tn, .int (kf n) t2] (richCompare .Lt (.int (kf n) t2) (.int (kf m) tb) >>= _)) _ >>= _) _ _ _
    refine wpAny_bind (wpAny_tryCatch (wpAny_holding (wpAny_bind (CmpOf.ints_lt (prog := X.prog) (w := X.w) (A := X.A.in1) (P := fun i v => ∃ t, v = .int (if i = 0 then kf n else kf m) t) (fun i => if i = 0 then kf n else kf m) (fun i v h => h) 0 1 _ _ _ _ _ ⟨t2, rfl⟩ ⟨tb, rfl⟩ ?_))))
    refine wpAny_bind (wpAny_holding (wpAny_truthy_bool ?_))
    refine wpAny_bind (wpAny_letGo (wpAny_pure ?_))
    show wpAny _ X.A.in1 (if decide (kf n < kf m) = true then _ else _) _ _ _
    by_cases hb : kf n < kf m
    · rw [if_pos (decide_eq_true hb)]
      have k3 : ∀ a o, a ≠ S → s2.heap.get? a = some o → (s2.heap.update S (Obj.mapSeq fun _ => #[.int n tn, .int (kf n) t2])).get? a = some o := fun a o na e => (Heap.get?_update_ne _ _ _ _ na).trans e
      refine wpAny_bind (wpAny_updateSeq gS rfl (wpAny_bind (wpAny_letGo ?_)))
      rw [nm]
      refine wpAny_pure ⟨plainId_quiet PySem.F.plain_min_loop _, ih (j + 1) n _ tn t2 _ (by omega) (by omega) (List.mem_of_getElem? hn) (fun i n' hi' e => ?_) (turnOne I5 FS k3) (get?_update_seq gS _) ⟨oI, k3 I oI hSI.symm gI, c1, d1⟩⟩
      by_cases q : i = j + 1
      · subst q
        rw [hn] at e
        cases e
        exact Int.le_refl _
      · exact Int.le_of_lt (Int.lt_of_lt_of_le hb (best i n' (by omega) e))
    · rw [if_neg (by simpa using hb)]
      refine wpAny_bind (wpAny_letGo ?_)
      rw [nm]
      refine wpAny_pure ⟨plainId_quiet PySem.F.plain_min_loop _, ih (j + 1) m _ tv tb c (by omega) (by omega) hm (fun i n' hi' e => ?_) I5 gS hit2⟩
      by_cases q : i = j + 1
      · subst q
        rw [hn] at e
        cases e
        omega
      · exact best i n' (by omega) e
end
end MinL

set_option Elab.async false
set_option maxRecDepth 100000
set_option maxHeartbeats 4000000
namespace MinL
open PySem PySem.Spec PyProof.Rows L2 LamX
theorem minArgs (a v : Value) : argsOk "min" ⟨[a], [(Str.ofString "key", v), (Str.ofString "default", .none)]⟩ := by unfold argsOk; kernel_rfl
section
variable {X : Cx} {pins : List (Addr × Obj)} {σ : L2.St} {H : Hp} {s : Shared}
/-- what min hands back -/
def MinOut (X : Cx) (pins : List (Addr × Obj)) (σ : L2.St) (H : Hp) (ns : List Int) (kf : Int → Int) (u : Value) (s' : Shared) : Prop :=
  Inv X pins σ H s' ∧ ((ns = [] ∧ u = .none) ∨ ∃ (m : Int) (t : Tok), u = .int m t ∧ m ∈ ns ∧ ∀ n ∈ ns, kf m ≤ kf n)
theorem minRun {l q : Addr} {fo : Obj} {ns : List Int} {kf : Int → Int} (hh : X.A.handled = none) (I : Inv X pins σ H s) (hl : H l = some (.lst (ns.map V.int))) (turn : KeyTurn X σ H q fo ns kf) (hq : (q, fo) ∈ pins) :
    wpAny (model X.prog X.w) X.A (call (.builtin "min") [.ref l] [(Str.ofString "key", .ref q), (Str.ofString "default", .none)]) (MinOut X pins σ H ns kf) X.xe s := by
  have nm : (toString "min" ++ toString ".loop" : String) = "min.loop" := by decide
  obtain ⟨its, rv, pl, hz⟩ := I.list (SqL.of hl)
  refine kmk_tree PySem.F.kind_min PySem.F.plain_min PySem.F.entry_min (minArgs _ _) ?_
  show wpAny _ X.A.in1 (Builtin.Builtins.bindParams "min" ["key", "default"] 0 ⟨[], [(Str.ofString "key", .ref q), (Str.ofString "default", .none)]⟩ >>= _) _ _ s
  refine wpAny_bind (wpAny_of_eq (show Builtin.Builtins.bindParams "min" ["key", "default"] 0 ⟨[], [(Str.ofString "key", .ref q), (Str.ofString "default", .none)]⟩ = pure [some (.ref q), some .none] from rfl) ?_)
  refine wpAny_bind (wpAny_pure ?_)
  refine wpAny_bind (wpAny_pyIter_list (isl_of pl) ?_)
  refine wpAny_bind (wpAny_newList ?_ (Nat.zero_le _))
  rw [nm]
  refine wpAny_pure ⟨plainId_quiet PySem.F.plain_min_loop _, ?_⟩
  have up : ∀ {b : Addr} {u : Obj}, s.heap.get? b = some u → ((s.heap.push { cls := .type "list_iterator", data := .fields #[.ref l, .int 0 0] }).push (seqObj "list" #[] 0)).get? b = some u := fun e => Heap.get?_push_of_some _ (Heap.get?_push_of_some _ e)
  generalize hS0 : (s.heap.push { cls := .type "list_iterator", data := .fields #[.ref l, .int 0 0] }).objs.size = S
  have zS : S = s.heap.objs.size + 1 := by rw [← hS0]; exact size_push' ..
  have I1 : Inv X pins σ H { s with heap := (s.heap.push { cls := .type "list_iterator", data := .fields #[.ref l, .int 0 0] }).push (seqObj "list" #[] 0) } := by
    have z := I.kept (t' := s.toks) fun b u e => up e
    exact z
  have gI : ((s.heap.push { cls := .type "list_iterator", data := .fields #[.ref l, .int 0 0] }).push (seqObj "list" #[] 0)).get? s.heap.objs.size = some { cls := .type "list_iterator", data := .fields #[.ref l, .int 0 0] } :=
    Heap.get?_push_of_some _ (Heap.get?_push_size _ rfl)
  have gS : ((s.heap.push { cls := .type "list_iterator", data := .fields #[.ref l, .int 0 0] }).push (seqObj "list" #[] 0)).get? S = some (seqObj "list" #[] 0) := by
    rw [← hS0]
    exact Heap.get?_push_size _ rfl
  have FI : FpOk X pins H s.heap.objs.size := I.fpOk (Nat.le_refl _) (I.hok.fresh (Nat.le_refl _))
  have FS : FpOk X pins H S := I.fpOk (by omega) (I.hok.fresh (by omega))
  have hSI : S ≠ s.heap.objs.size := by omega
  generalize s.heap.objs.size = It at gI FI hSI
  generalize (s.heap.push { cls := .type "list_iterator", data := .fields #[.ref l, .int 0 0] }).push (seqObj "list" #[] 0) = h0 at I1 gI gS
  have lI : l ≠ It := ne_of_none hl FI.1
  obtain ⟨its', rv', pl', _⟩ := I1.list (SqL.of hl)
  have len : its'.length = ns.length := by rw [← rv'.length, List.length_map]
  have W := Walks.list (prog := X.prog) (w := X.w) (A := X.A.in1) hh It l lI its'.toArray
  refine codeAny_builtin PySem.F.entry_min_loop ?_
  rw [Around.under_plainId PySem.F.plain_min_loop _]
  show wpAny _ X.A.in1 (seqItems? (.ref S) >>= _) _ _ _
  refine wpAny_bind (wpAny_seqItems gS rfl ?_)
  show wpAny _ X.A.in1 (tryCatch (pyNext (.ref It)) _ >>= _) _ _ _
  cases ns with
  | nil =>
    refine wpAny_bind (wpAny_tryCatch (W.done _ _ _ ⟨by rw [List.size_toArray, len]; exact ⟨_, gI, rfl, rfl⟩, isl_of pl'⟩ fun h1 t1 k1 => ?_))
    have I2 : Inv X pins σ H { s with heap := h1, toks := t1 } := turnOne (s := { s with heap := h0 }) I1 FI fun a o na e => k1 a o (by simpa using na) e
    refine wpAny_bind (wpAny_rule ?_)
    exact wpAny_pure ⟨I2, .inl ⟨rfl, rfl⟩⟩
  | cons n0 ns0 =>
    refine wpAny_bind (wpAny_tryCatch (W.item 0 _ _ _ (by rw [List.size_toArray, len]; exact Nat.succ_pos _) ⟨⟨_, gI, rfl, rfl⟩, isl_of pl'⟩ fun v h1 t1 hv st1 k1 => ?_))
    obtain ⟨n, tn, hn, rfl⟩ := ints_at rv' (by simpa using hv)
    have I2 : Inv X pins σ H { s with heap := h1, toks := t1 } := turnOne (s := { s with heap := h0 }) I1 FI fun a o na e => k1 a o (by simpa using na) e
    have hS1 : h1.get? S = some (seqObj "list" #[] 0) := k1 S _ (by simpa using hSI) gS
    obtain ⟨oI, hoI, c1, d1⟩ := id st1.1
    have I3 := pinOne I2 FS hS1 (fun v z => nomatch z)
    have FI2 : FpOk X ((S, seqObj "list" #[] 0) :: pins) H It := by
      obtain ⟨f1, f2, f3, f4, f5, f6⟩ := FI
      refine ⟨f1, f2, f3, f4, f5, fun p hp => ?_⟩
      rcases List.mem_append.mp hp with hp | hp
      · exact f6 p (List.mem_append_left _ hp)
      · cases hp with
        | head => exact hSI
        | tail _ hp => exact f6 p (List.mem_append_right _ hp)
    have I4 := pinOne I3 FI2 hoI (fun v z => by rw [d1] at z; cases z)
    show wpAny _ X.A.in1 (tryCatch (holding [.int n tn] (call (.ref q) [.int n tn])) _ >>= _) _ _ _
    refine wpAny_bind (wpAny_tryCatch (wpAny_holding (wpAny_mono (turn n tn _ _ (List.mem_of_getElem? hn) (.tail _ (.tail _ hq)) I4) (fun u s2 he => ?_) fun _ _ hF => hF.elim)))
    obtain ⟨⟨t2, rfl⟩, I5⟩ := he
    have gI2 := pinGet I5 (.head _)
    have gS2 := pinGet I5 (.tail _ (.head _))
    have I6 := unpinOne (unpinOne I5)
    have k3 : ∀ a o, a ≠ S → s2.heap.get? a = some o → (s2.heap.update S (Obj.mapSeq fun _ => #[.int n tn, .int (kf n) t2])).get? a = some o := fun a o na e => (Heap.get?_update_ne _ _ _ _ na).trans e
    show wpAny _ X.A.in1 (updateSeq S (fun _ => #[.int n tn, .int (kf n) t2]) >>= _) _ _ _
    refine wpAny_bind (wpAny_updateSeq gS2 rfl ?_)
    rw [nm]
    refine wpAny_pure ⟨plainId_quiet PySem.F.plain_min_loop _, ?_⟩
    refine minLoop hh hl turn hq FI FS hSI (fun m t s' hm hb I' => ⟨I', .inr ⟨m, t, rfl, hm, hb⟩⟩) _ 0 n _ tn t2 _ rfl (Nat.succ_le_succ (Nat.zero_le _)) (List.mem_of_getElem? hn) (fun i n' hi e => ?_) (turnOne I6 FS k3) (get?_update_seq gS2 _) ⟨oI, k3 It oI hSI.symm gI2, c1, d1⟩
    have q : i = 0 := by omega
    subst q
    rw [hn] at e
    cases e
    exact Int.le_refl _
end
end MinL

set_option Elab.async false
set_option maxRecDepth 100000
set_option maxHeartbeats 4000000
namespace MinL
open PySem PySem.Spec PyProof.Rows L2 LamX NdefX
/-- what is wanted of the list that is handed in -/
def MinW (T : List (Addr × Str)) (N : List Str) (js : List Nat) (tb : TE) (σ : L2.St) (Q : VK) : VK := fun x H1 => Tabs T H1 ∧ ∃ (l : Addr) (ns : List Int) (kf : Int → Int), x = .ref l ∧ H1 l = some (.lst (ns.map V.int)) ∧
  ∀ H2, ExtN H1 H2 → Tabs T H2 → (∀ n ∈ ns, tb (startF N [.int n] (js.map (slotAt σ))) H2 (fun v H' => v = .int (kf n) ∧ H' = H2)) ∧ (ns = [] → Q .non H2) ∧ (∀ m, m ∈ ns → (∀ n ∈ ns, kf m ≤ kf n) → Q (.int m) H2)
/-- the reading of min(held, key=lambda a: body, default=None) -/
def tMinLam (T : List (Addr × Str)) (N : List Str) (js : List Nat) (te tb : TE) : TE := fun σ H Q => te σ H (MinW T N js tb σ Q)
/-- the lambda as a function of the layer; its body is an expression -/
abbrev lamF (X : Cx) (params : Arguments) (scope : Scope) (c' : Addr) : NF := ⟨"<lambda>", X.env.qual ++ "<lambda>", params, [], scope, cloFrom X.env.cells scope.names [], c'⟩
section
variable {X : Cx} {pins : List (Addr × Obj)} {σ : L2.St} {H : Hp} {s : Shared}
theorem lamTurn {a : Str} {params : Arguments} {body : Expr} {scope : Scope} {pm : Value} {c' q : Addr} {ctv : Value} {N fr : List Str} {js : List Nat} {k : Nat} {tb : TE} {ns : List Int} {kf : Int → Int} (hr : Room (k + 1) X.A.in1) (S : NScope N [a] fr scope) (cp : Caps X (cloFrom X.env.cells scope.names []) fr js)
    (hbind : ∀ (u : Value), bindArgs (PySem.W.kla_fn "<lambda>" (X.env.qual ++ "<lambda>") params body scope (cloFrom X.env.cells scope.names []) pm (.ref c') ctv) ⟨[u], []⟩ = pure [(a, u)])
    (hc : H c' = some (CodeO c' (X.env.qual ++ "<lambda>")))
    (hbody : ∀ (A : Around) (outer : List Env) (s : Shared) (H : Hp) (f : Addr), Room k (A.deeper (envF (lamF X params scope c') f s.heap.objs.size)) → PE (ncx C8.CX0 X.prog X.w X.K X.mg X.base N (lamF X params scope c') f A outer s H C8.E0) body tb)
    (ht : ∀ n ∈ ns, tb (startF N [.int n] (js.map (slotAt σ))) H (fun v H' => v = .int (kf n) ∧ H' = H)) :
    KeyTurn X σ H q (PySem.W.kla_obj "<lambda>" (X.env.qual ++ "<lambda>") params body scope (cloFrom X.env.cells scope.names []) pm c' ctv) ns kf := by
  intro n t pp s hn hq I
  have ho := pinGet I hq
  obtain ⟨⟨oc, vs, tk, hoc, hdc, hvc⟩, _, _⟩ := I.hok c' _ hc
  have rc : codeAny (model X.prog X.w) X.A.in1 (.call (.ref q) ⟨[.int n t], []⟩) (CR C8.CX0 X.stack X.prog X.w H s (fun v H' => v = .int (kf n) ∧ H' = H) C8.E0) s := by
    refine PySem.W.kla_callFunE hr.depth ho rfl S.co S.gen rfl ⟨c', oc, vs, tk, rfl, hoc, hdc, hvc⟩ ?_
    rw [hbind]
    refine wpAny_pure (wpAny_newFunctionEnv S.nocell (fun y hy => ?_) (fun h1 hns hsb => ⟨I.nolimit.fresh _ hsb, ?_⟩) S.kind)
    · rw [List.mem_singleton.mp hy]
      exact S.par a (List.mem_singleton.mpr rfl)
    · show codeAny _ _ (.expr body (envF (lamF X params scope c') q s.heap.objs.size)) _ _
      have kp : ∀ b o, s.heap.get? b = some o → h1.get? b = some o := fun b o e => hsb.extBut b o (Nat.ne_of_lt (Heap.lt_size e)) (Heap.get?_push_of_some _ e)
      have J : Inv (ncx C8.CX0 X.prog X.w X.K X.mg X.base N (lamF X params scope c') q X.A.in1 X.stack s H C8.E0) [] (startF N [V.int n] (js.map (slotAt σ))) H { s with heap := h1, toks := s.toks + ([(a, Value.int n t)] : List (Str × Value)).length } :=
        inv_startN (ps := [a]) (us := [.int n t]) S hr.hd I.env0.in1 rfl (.cons ⟨t, rfl⟩ .nil) (cells_of I cp) hns kp
      refine PySem.W.kla_codeExpr (wpAny_mono ((hbody _ _ s H q (hr.deeper _)).run [] _ _ H _ J (ht n hn)) (fun v s' hv => ?_) fun e s' hv => hv)
      obtain ⟨u, H', J', rv, z⟩ := hv
      exact ⟨u, H', J'.os, J'.bare, J'.base, J'.hok, rv, z⟩
  refine wpAny_call (codeAny_mono rc fun r s' hv => ?_)
  cases r with
  | error e => exact (show False from hv).elim
  | ok fl =>
    cases fl with
    | ret u =>
      obtain ⟨v, H', I', rv, e1, e2⟩ := I.after hv
      subst e1
      subst e2
      exact ⟨rv, I'⟩
    | next => exact False.elim hv
    | brk => exact False.elim hv
    | cont => exact False.elim hv

theorem pe_minLam {T : List (Addr × Str)} {c P : Addr} {a : Str} {params : Arguments} {body e : Expr} {scope : Scope} {lpos p pos p2 kp1 kp2 : Pos} {j k : Nat} {N fr : List Str} {js : List Nat} {te tb : TE} (hg : Gl X "min") (hm : X.mg "min" = none) (he : PE X e te)
    (TB : TabB X.base X.mg c P) (hcode : X.env.code = .ref c) (hmT : (P, X.env.qual ++ "<lambda>") ∈ T) (hu : ∀ p ∈ T, p.1 = P → p.2 = X.env.qual ++ "<lambda>") (hst : X.stack = X.env :: X.outer) (hr : Room (k + 2) X.A) (S : NScope N [a] fr scope)
    (hfree : ∀ y ∈ scope.names, y.2 = .free → X.env.scope.names.lookup y.1 = some .cell ∨ X.env.scope.names.lookup y.1 = some .free) (hfr : ∀ y ∈ fr, (y, NameKind.free) ∈ scope.names) (hjs : js.map (fun j => X.N[j]?) = fr.map some) (hdef : defaultsOf params X.env = ([], []))
    (hbind : ∀ (q : Str) (cl : List (Str × Addr)) (pm cv ctv u : Value), bindArgs (PySem.W.kla_fn "<lambda>" q params body scope cl pm cv ctv) ⟨[u], []⟩ = pure [(a, u)])
    (hbody : ∀ (c' : Addr) (A : Around) (outer : List Env) (s : Shared) (H : Hp) (f : Addr), Room k (A.deeper (envF (lamF X params scope c') f s.heap.objs.size)) → PE (ncx C8.CX0 X.prog X.w X.K X.mg X.base N (lamF X params scope c') f A outer s H C8.E0) body tb)
    (hp0 : starEach [e] X.env = (false, eval e X.env) :: starEach [] X.env := by rfl) (hp1 : backTo pos (starEach [e] X.env) = (false, eval e X.env) :: backTo pos (starEach [] X.env) := by rfl) (hp2 : (backTo pos (starEach [e] X.env)).any (·.1) = false := by rfl) :
    PE X (.Call (.Name "min" p) [e] [⟨some "key", .Lambda params body scope lpos, kp1⟩, ⟨some "default", .Constant .none j p2, kp2⟩] pos) (tMinLam T N js te tb) := by
  refine ⟨fun pins s σ H Q I h => ?_⟩
  refine wpAny_Call_Name_kw (ld_blt I hg hm (by decide +kernel : bootBuiltins "min" = some (.builtin "min")) ?_)
  let W : List V → Hp → Prop := fun vs H1 => match vs with
    | [x] => MinW T N js tb σ Q x H1
    | _ => False
  have h' : tCons te tNil σ H W := h
  refine PyProof.Rows.callWith_kw (thn ((pa_cons he pa_nil hp0).run pos pins s σ H W I h') fun us s1 ⟨vs, H1, I1, r1, q1⟩ => ?_) hp1 hp2 rfl rfl
  obtain ⟨x, rfl⟩ : ∃ x, vs = [x] := by
    cases vs with
    | nil => exact (show False from q1).elim
    | cons x r => cases r with
      | nil => exact ⟨x, rfl⟩
      | cons y z => exact (show False from q1).elim
  obtain ⟨hT, l, ns, kf, rfl, hl, q2⟩ := (show MinW T N js tb σ Q x H1 from q1)
  cases r1 with
  | cons ru rn =>
    cases rn
    cases ru
    show wpAny _ _ (evalAll ((do let v ← eval (.Lambda params body scope lpos) X.env; standAt pos; pure v) :: (do let v ← eval (.Constant .none j p2) X.env; standAt pos; pure v) :: [])) _ _ s1
    have fr0 : ∀ y ∈ scope.names, y.2 = .free → ∃ c, X.env.cells.lookup y.1 = some c := fun y hy e => (hfree y hy e).elim (fun z => I1.ok.has _ (.inl z)) fun z => I1.ok.has _ (.inr z)
    refine wpAny_evalAll_cons (wpAny_bind (lam_make2 I1 TB hcode hmT hu hT hdef fr0 fun f c' pm ctv H2 s2 I2 eN T2 hf hfn hfs hc => ?_))
    refine wpAny_bind (wpAny_standAt (wpAny_pure ?_))
    refine wpAny_evalAll_cons (wpAny_bind (Constant_none (wpAny_bind (wpAny_standAt (wpAny_pure (wpAny_evalAll_nil ?_))))))
    obtain ⟨q3, q4, q5⟩ := q2 H2 eN T2
    have nL : f ≠ X.env.locals := fun z => by
      obtain ⟨m, ⟨o, es, ep, ho, hd, _⟩, _⟩ := I2.loc
      rw [← z, hf] at ho
      cases ho
      cases hd
    have nF : f ∉ X.fs := fun z => hfs (by
      rw [hst]
      show f ∈ (X.env :: X.outer).filterMap (·.frame)
      rw [List.filterMap_cons]
      split
      · exact z
      · exact .tail _ z)
    have I3 : Inv X ((f, PySem.W.kla_obj "<lambda>" (X.env.qual ++ "<lambda>") params body scope (cloFrom X.env.cells scope.names []) pm c' ctv) :: pins) σ H2 s2 := by
      refine I2.pins_of fun p hp => ?_
      cases hp with
      | head => exact ⟨hf, hfn, nL, nF, fun v z => nomatch z⟩
      | tail _ hp => exact I2.pin p (List.mem_append_right _ hp)
    have cp : Caps X (cloFrom X.env.cells scope.names []) fr js := Caps.made I2.ok hfree hfr hjs
    have turn := lamTurn (q := f) (kf := kf) (pm := pm) (ctv := ctv) (hr.in1) S cp (fun u => hbind _ _ _ _ _ u) hc (hbody c') q3
    have hl2 : H2 l = some (.lst (ns.map V.int)) := eN l _ hl fun ps z => nomatch z
    refine thn (minRun hr.hd I3 hl2 turn (.head _)) fun u s3 ⟨I4, hu⟩ => ?_
    have I5 := unpinOne I4
    rcases hu with ⟨e1, e2⟩ | ⟨m, t, e2, e3, e4⟩
    · subst e2
      exact ⟨.non, H2, I5, rfl, q4 e1⟩
    · subst e2
      exact ⟨.int m, H2, I5, ⟨t, rfl⟩, q5 m e3 e4⟩
end
end MinL

set_option Elab.async false
set_option maxRecDepth 100000
set_option maxHeartbeats 4000000
set_option exponentiation.threshold 4096
/-! the first seat met -/
namespace K25
open PySem PySem.Spec PyProof.Rows L2 C8 LamX NdefX MinL UF
def lamQ : Str := (envOfC ("first_from" : Str) (C8.fnScope s_first_from) 0 0 .none).qual ++ "<lambda>"
theorem lam_free : ∀ y ∈ ([("seat", .local), ("place", .free), ("setting", .free), ("distance", .globalImplicit)] : List (Str × NameKind)), y.2 = .free → (C8.fnScope s_first_from).names.lookup y.1 = some .cell ∨ (C8.fnScope s_first_from).names.lookup y.1 = some .free := by decide +kernel
/-- the table of first_from's code -/
abbrev TT (t : Addr) : List (Addr × Str) := [(t, lamQ)]
/-- a first seat of ns on a walk from place -/
def IsFirst (r place : Int) (ns : List Int) (o : Option Int) : Prop := (ns = [] ∧ o = none) ∨ ∃ m, o = some m ∧ m ∈ ns ∧ ∀ k ∈ ns, (m - place) % r ≤ (k - place) % r
def optV : Option Int → V
  | none => .non
  | some m => .int m
def spFirst (C t : Addr) : Sp := fun vs H Q _ => ∃ (q : Addr) (place : Int) (l : Addr) (n : Nat) (ns : List Int), vs = [.ref q, .int place, .ref l] ∧ SetN C H q n ∧ n ≤ 8 ∧ H l = some (.lst (ns.map V.int)) ∧ Tabs (TT t) H ∧
  ∀ (o : Option Int) (H' : Hp), Fw [] H H' → Tabs (TT t) H' → IsFirst (ringN n) place ns o → Q (optV o) H'
theorem first_uniq {r place : Int} {ns : List Int} {o o' : Option Int} (h0 : ∀ x ∈ ns, 0 ≤ x) (h1 : ∀ x ∈ ns, x < r) (h : IsFirst r place ns o) (h' : IsFirst r place ns o') : o = o' := by
  rcases h with ⟨e, rfl⟩ | ⟨m, rfl, hm, bm⟩
  · rcases h' with ⟨_, rfl⟩ | ⟨m, _, hm, _⟩
    · rfl
    · rw [e] at hm
      cases hm
  · rcases h' with ⟨e, _⟩ | ⟨m', rfl, hm', bm'⟩
    · rw [e] at hm
      cases hm
    · have e := Int.le_antisymm (bm m' hm') (bm' m hm)
      rw [← back (s := place) (h0 m hm) (h1 m hm), ← back (s := place) (h0 m' hm') (h1 m' hm'), e]
section
variable {P : Program} {w : World} {K : PySem.W.Frag} {mg : Str → Option Value} {base : Heap} {C : Addr}
theorem c_first_from {c t : Addr} (T : Bl mg) (c_distance : Cal P w K mg base 3 "distance" (spDist C) []) (d : D1 K mg "first_from" s_first_from c) (TB : TabB base mg c t) : Cal P w K mg base 7 "first_from" (spFirst C t) [] := by
  obtain ⟨f, oc, od, kV, doc, pm, an, ct, osl, lk, hcd, hm, kp⟩ := d.ex
  refine ⟨f, PySem.W.fnOf "first_from" "first_from" (C8.fnArgs s_first_from) (C8.fnBody s_first_from) (C8.fnScope s_first_from) .none kV doc pm an (.ref c) ct, n_first_from, [], ?_, hm, kp, .all fun us hl => match us, hl with | [_, _, _], _ => rfl, .nil⟩
  refine fn_of lk hcd sc_first_from (fun vs H Q E h => ?_) (fun A outer s H vs Q E hr h => ?_)
  · obtain ⟨q, place, l, n, ns, rfl, _⟩ := h
    rfl
  · obtain ⟨q, place, l, n, ns, rfl, hs, hn, hl, hT, k⟩ := h
    refine ⟨_, PSs.nox (pss_one (ps_ret (pe_minLam (T := TT t) (a := "seat") (fr := ["setting", "place"]) (js := [0, 1]) (N := ["seat", "setting", "place"]) (k := 4) (by rfl) T.min (pv 2) TB rfl (.head _) (fun p hp _ => by cases hp with
      | head => rfl
      | tail _ hp => cases hp) rfl hr (nscope_by (by decide +kernel)) lam_free (by decide +kernel) (by rfl) rfl (fun _ _ _ _ _ _ => rfl)
      (fun c' A outer s H f hr => pe_c c_distance hr (by decide) rfl (pa_cons (pv 1) (pa_cons (pv 2) (pa_cons (pv 0) pa_nil))))))), ?_⟩
    refine ⟨_, rfl, hT, l, ns, fun x => (x - place) % ringN n, rfl, hl, fun H2 eN T2 => ?_⟩
    refine ⟨fun x hx => ?_, fun hz => k none H2 (Fw.ext eN) T2 (.inl ⟨hz, rfl⟩), fun m hm best => k (some m) H2 (Fw.ext eN) T2 (.inr ⟨m, rfl, hm, best⟩)⟩
    refine ⟨_, rfl, _, rfl, _, rfl, q, place, x, n, rfl, hs.fw (Fw.ext (ds := []) eN) not_nil, hn, rfl, rfl⟩
end
end K25

set_option Elab.async false
set_option maxRecDepth 100000
set_option maxHeartbeats 4000000
set_option exponentiation.threshold 4096
/-! the box of draws -/
namespace K25
open PySem PySem.Spec PyProof.Rows L2 C8 LamX UF

structure BxV (H : Hp) (b c : Addr) (cells : List Int) (x y z : Int) : Prop where
  hb : H b = some (.lst [.ref c, .int x, .int y, .int z])
  hc : H c = some (.lst (cells.map V.int))
  ln : 0 < cells.length
  x0 : 0 ≤ x
def Box (H : Hp) (b c : Addr) : Prop := ∃ (cells : List Int) (x y z : Int), BxV H b c cells x y z
theorem BxV.ne {H : Hp} {b c : Addr} {cells : List Int} {x y z : Int} (B : BxV H b c cells x y z) : c ≠ b := by
  intro e
  have h := B.hc
  rw [e, B.hb] at h
  injection h with h
  injection h with h
  cases cells with
  | nil => cases h
  | cons a l => injection h with h1 h2; cases h1
theorem BxV.set {H : Hp} {b c : Addr} {cells : List Int} {x y z : Int} (B : BxV H b c cells x y z) (x' y' z' : Int) (h : 0 ≤ x') : BxV (upd H b (.lst [.ref c, .int x', .int y', .int z'])) b c cells x' y' z' :=
  ⟨upd_same, by rw [upd_ne B.ne]; exact B.hc, B.ln, h⟩
theorem Box.fw {H H' : Hp} {b c : Addr} {ds : List Addr} (B : Box H b c) (x : Fw ds H H') (m : b ∉ ds) (n : c ∉ ds) : Box H' b c := by
  obtain ⟨cells, u, y, z, B⟩ := B
  exact ⟨cells, u, y, z, x.lst B.hb m, x.lst B.hc n, B.ln, B.x0⟩
theorem Box.fr {H H' : Hp} {b c : Addr} {ds : List Addr} (B : Box H b c) (x : Fr ds H H') (m : b ∉ ds) (n : c ∉ ds) : Box H' b c := B.fw x.w m n
theorem Box.pl {H : Hp} {b c : Addr} (B : Box H b c) : Pl H b := by
  obtain ⟨cells, u, y, z, B⟩ := B
  exact .lst B.hb
theorem Box.new {H : Hp} {b c : Addr} (B : Box H b c) {q : Addr} (n : H q = none) (o : HO) : Box (upd H q o) b c := B.fr (Fr.new0 (ds := []) n o) not_nil not_nil
theorem Box.off {H : Hp} {b c : Addr} (B : Box H b c) {q : Addr} (n1 : q ≠ b) (n2 : q ≠ c) (o : HO) : Box (upd H q o) b c := by
  obtain ⟨cells, u, y, z, B⟩ := B
  exact ⟨cells, u, y, z, by rw [upd_ne n1.symm]; exact B.hb, by rw [upd_ne n2.symm]; exact B.hc, B.ln, B.x0⟩
theorem Box.at_ {H : Hp} {b c : Addr} (B : Box H b c) : ∃ o, H b = some o := by
  obtain ⟨cells, u, y, z, B⟩ := B
  exact ⟨_, B.hb⟩
theorem Box.in_ {H : Hp} {b c : Addr} (B : Box H b c) : ∃ o, H c = some o := by
  obtain ⟨cells, u, y, z, B⟩ := B
  exact ⟨_, B.hc⟩
theorem Box.ne {H : Hp} {b c : Addr} (B : Box H b c) : c ≠ b := by
  obtain ⟨cells, u, y, z, B⟩ := B
  exact B.ne
theorem Box.nw_ne {H : Hp} {b c : Addr} (B : Box H b c) {q : Addr} (n : Nw H q) : q ≠ b ∧ q ≠ c := by
  obtain ⟨cells, u, y, z, B⟩ := B
  exact ⟨(ne_nw B.hb n).symm, (ne_nw B.hc n).symm⟩
theorem Box.new_ne {H : Hp} {b c : Addr} (B : Box H b c) {q : Addr} (n : H q = none) : q ≠ b ∧ q ≠ c := B.nw_ne (.of n)
def spBox (K : PySem.W.Frag) : Sp := fun vs H Q _ => ∃ (a : Addr) (ns : List Int), vs = [.ref a] ∧ SqL K H a (ns.map V.int) ∧ ns.length ≤ 63 ∧ ∀ (b c : Addr) (H' : Hp), Nw H b → Nw H c → Box H' b c → Fr [] H H' → Q (.ref b) H'
def spDraw : Sp := fun vs H Q _ => ∃ (b c : Addr) (m : Int), vs = [.ref b, .int m] ∧ Box H b c ∧ 0 < m ∧ m < 2 ^ 2000 ∧ ∀ (d : Int) (H' : Hp), 0 ≤ d → d < m → Box H' b c → Fr [b] H H' → Q (.int d) H'
section
variable {P : Program} {w : World} {K : PySem.W.Frag} {mg : Str → Option Value} {base : Heap}
theorem c_law_box (T : Bl mg) (d : D0 K mg "_law_box" s_law_box ["script"]) : Cal P w K mg base 1 "_law_box" (spBox K) [] := by
  refine cal d sc_law_box (fun vs H Q E h => ?_) (fun cdv A outer f s H vs Q E hr h => ?_)
  · obtain ⟨a, ns, rfl, _⟩ := h
    rfl
  · obtain ⟨a, ns, rfl, hs, hl, k⟩ := h
    refine ⟨_, (pss_cons (ps_setLc (i := 1) (own := [("cell", 2)]) (g := gName 2) (tt := tYes) (by rfl) sc_law_box.nd rfl rfl (sw_true rfl rfl rfl (by decide +kernel)) (pi_list (pv 0)) (blkOk_by (own := [("cell", 2)]) (N := n_law_box) (sc := C8.fnScope s_law_box) (by decide +kernel)) (fun _ _ _ _ _ => pg_name (i := 2) sc_law_box.nd rfl (Or.inl rfl)) (fun _ _ _ _ _ => pts_nil) (fun _ _ _ _ _ => (pe_callTy call_int1 (by rfl) T.int (by decide +kernel) (pa_cons (pv 2) pa_nil))))
      (pss_cut (ps_if (pt_cmpR op_eq (pe_callB call_len_seq (by rfl) T.len (by decide +kernel) (pa_cons (pv 1) pa_nil)) pe_int (nomark _)) (pss_one (ps_set (i := 1) sc_law_box.nd rfl (Or.inl rfl) (pe_lst (pa_cons pe_int pa_nil)))) pss_nil)
      (pss_one (ps_ret (pe_lst (pa_cons (pv 1) (pa_cons pe_int (pa_cons pe_int (pa_cons pe_int pa_nil))))))))), ?_⟩
    refine ⟨_, rfl, a, rfl, ⟨_, hs⟩, fun D nD => ?_⟩
    refine lc_list (K := K) (a := a) (xs := ns.map V.int) (fun i H' => H' = upd H D (.lst ((ns.take i).map V.int))) ?_ ?_ ?_ ?_
    · rw [List.take_zero]; rfl
    · rintro i H2 _ rfl
      exact hs.imp (fun h => h.imp (fun h => upd_new nD h) fun ⟨o, h⟩ => ⟨o, upd_new nD h⟩) id
    · rintro i v H2 hi rfl
      rw [List.getElem?_map] at hi
      cases e : ns[i]? with
      | none => rw [e] at hi; cases hi
      | some z =>
        rw [e] at hi
        cases hi
        refine ⟨rfl, _, rfl, .inl ⟨_, rfl, _, upd_same, ?_, ?_⟩⟩
        · rw [List.length_map, List.length_take]
          exact small1000' (by omega)
        · rw [upd_upd]
          have : ns.take (i + 1) = ns.take i ++ [z] := by rw [List.take_add_one, e]; rfl
          rw [this, List.map_append]
          rfl
    · rintro H2 rfl
      rw [List.length_map, List.take_length]
      refine ⟨fun σ H' => ∃ (c : Addr) (ms : List Int), σ = [some (.ref a), some (.ref c), none] ∧ Nw H c ∧ H' c = some (.lst (ms.map V.int)) ∧ 0 < ms.length ∧ Fr [] H H', ?_, ?_⟩
      · refine ⟨_, rfl, _, _, rfl, .inl (SqL.of upd_same), rfl, _, rfl, ite2 (fun h0 => ?_) (fun h0 => ?_)⟩
        · refine ⟨by show 1 ≤ sizeLine; decide, fun c nc => ?_⟩
          exact ⟨c, [0], rfl, (Fr.new0 (ds := []) nD _).live c (.of nc), upd_same, by decide, (Fr.new0 nD _).new nc _⟩
        · refine ⟨D, ns, rfl, .of nD, upd_same, ?_, Fr.new0 nD _⟩
          have := neI h0
          rw [List.length_map] at this
          omega
      · rintro σ H2 ⟨c, ms, rfl, nc, hc, lm, X⟩
        refine ⟨_, rfl, by show 4 ≤ sizeLine; decide, fun b nb => ?_⟩
        refine k b c _ (X.live b (.of nb)) nc ⟨ms, 0, 0, 0, upd_same, upd_new nb hc, lm, by decide⟩ (X.new nb _)
theorem c_law_draw (T : Bl mg) (d : D0 K mg "_law_draw" s_law_draw ["box", "top"]) : Cal P w K mg base 1 "_law_draw" spDraw [] := by
  refine cal d sc_law_draw (fun vs H Q E h => ?_) (fun cdv A outer f s H vs Q E hr h => ?_)
  · obtain ⟨b, c, m, rfl, _⟩ := h
    rfl
  · obtain ⟨b, c, m, rfl, ⟨cells, x, y, z, B⟩, m0, m1, k⟩ := h
    refine ⟨_, (pss_cons (ps_asg (pe_op op_add (pe_callTy call_int1 (by rfl) T.int (by decide +kernel) (pa_cons (pe_ix ix_list (pv 0) pe_int (fun _ _ => rfl)) pa_nil)) pe_int) (pg_sub (pv 0) pe_int set_list))
      (pss_cons (ps_if (pt_cmpR op_gt (pe_ix ix_list (pv 0) pe_int (fun _ _ => rfl)) pe_int (nomark _)) (pss_cons (ps_set (i := 2) sc_law_draw.nd rfl (Or.inl rfl) (pe_op op_mod (pe_callTy call_int1 (by rfl) T.int (by decide +kernel) (pa_cons (pe_ix ix_list (pv 0) pe_int (fun _ _ => rfl)) pa_nil)) (pv 1)))
      (pss_cons (ps_asg (pe_op op_fdivW (pe_callTy call_int1 (by rfl) T.int (by decide +kernel) (pa_cons (pe_ix ix_list (pv 0) pe_int (fun _ _ => rfl)) pa_nil)) (pv 1)) (pg_sub (pv 0) pe_int set_list))
      (pss_one (ps_ret (pv 2))))) pss_nil)
      (pss_cons (ps_set (i := 3) sc_law_draw.nd rfl (Or.inl rfl) (pe_ix ix_list (pv 0) pe_int (fun _ _ => rfl)))
      (pss_cons (ps_set (i := 4) sc_law_draw.nd rfl (Or.inl rfl) (pe_callTy call_int1 (by rfl) T.int (by decide +kernel) (pa_cons (pe_ix ix_list (pv 0) pe_int (fun _ _ => rfl)) pa_nil)))
      (pss_cons (ps_asg (pe_op op_add (pv 4) pe_int) (pg_sub (pv 0) pe_int set_list))
      (pss_cons (ps_set (i := 5) sc_law_draw.nd rfl (Or.inl rfl) (pe_callTy call_int1 (by rfl) T.int (by decide +kernel) (pa_cons (pe_ix ix_list (pv 3) (pe_op op_mod (pv 4) (pe_callB call_len_seq (by rfl) T.len (by decide +kernel) (pa_cons (pv 3) pa_nil))) (fun _ _ => rfl)) pa_nil)))
      (pss_cut (ps_if (PW.pt (pw_and (pt_cmpR op_lt (pv 4) (pe_callB call_len_seq (by rfl) T.len (by decide +kernel) (pa_cons (pv 3) pa_nil)) (nomark _)) (pw_and1 (pt_cmpR op_ge (pe_callB call_abs (by rfl) T.abs (by decide +kernel) (pa_cons (pv 5) pa_nil)) (pe_op op_pow pe_int pe_int) (nomark _))))) (pss_cons (ps_asg (pe_op op_fdivW (pe_callB call_abs (by rfl) T.abs (by decide +kernel) (pa_cons (pv 5) pa_nil)) (pv 1)) (pg_sub (pv 0) pe_int set_list))
      (pss_one (ps_ret (pe_op op_mod (pe_callTy call_int1 (by rfl) T.int (by decide +kernel) (pa_cons (pe_callB call_abs (by rfl) T.abs (by decide +kernel) (pa_cons (pv 5) pa_nil)) pa_nil)) (pv 1))))) pss_nil)
      (pss_cons (ps_set (i := 6) sc_law_draw.nd rfl (Or.inl rfl) (pe_op op_mod (pe_callTy call_int1 (by rfl) T.int (by decide +kernel) (pa_cons (pe_op op_add (pe_op op_add (pe_op op_mul (pv 5) pe_int) (pe_op op_mul (pe_ix ix_list (pv 0) pe_int (fun _ _ => rfl)) pe_int)) pe_int) pa_nil)) pe_int))
      (pss_cons (ps_set (i := 6) sc_law_draw.nd rfl (Or.inl rfl) (pe_op op_mod (pe_callTy call_int1 (by rfl) T.int (by decide +kernel) (pa_cons (pe_op op_add (pe_op op_mul (pv 6) (pv 6)) (pe_op op_mul (pe_ix ix_list (pv 0) pe_int (fun _ _ => rfl)) pe_int)) pa_nil)) pe_int))
      (pss_cons (ps_set (i := 6) sc_law_draw.nd rfl (Or.inl rfl) (pe_op op_mod (pe_callTy call_int1 (by rfl) T.int (by decide +kernel) (pa_cons (pe_op op_add (pe_op op_mul (pv 6) (pv 6)) (pe_op op_fdivW (pv 6) pe_int)) pa_nil)) pe_int))
      (pss_one (ps_ret (pe_op op_mod (pe_callTy call_int1 (by rfl) T.int (by decide +kernel) (pa_cons (pe_op op_fdivW (pv 6) pe_int) pa_nil)) (pv 1)))))))))))))), ?_⟩
    have X0 := Fr.refl [b] H
    refine ⟨_, rfl, _, _, _, _, rfl, rfl, SqL.of B.hb, rfl, .inl ⟨_, rfl, _, _, rfl, rfl, _, rfl, _, _, _, 3, rfl, rfl, B.hb, rfl, ?_⟩⟩
    have B1 := B.set x y (z + 1) B.x0
    have X1 := X0.upd (.head _) (.lst B.hb) (.lst [.ref c, .int x, .int y, .int (z + 1)])
    change Fr [b] H (upd H b (.lst [.ref c, .int x, .int y, .int (z + 1)])) at X1
    refine ⟨_, rfl, _, _, _, _, rfl, rfl, SqL.of B1.hb, rfl, _, _, rfl, rfl, _, rfl, ite2 (fun hgt => ?_) (fun hle => ?_)⟩
    · refine ⟨_, rfl, _, _, _, _, rfl, rfl, SqL.of B1.hb, rfl, .inl ⟨_, rfl, _, rfl, _, _, rfl, rfl, pm m0, ?_⟩⟩
      refine ⟨_, rfl, _, _, _, _, rfl, rfl, SqL.of B1.hb, rfl, .inl ⟨_, rfl, _, rfl, _, _, rfl, rfl, dvw m0 m1 _, _, rfl, _, _, _, 2, rfl, rfl, B1.hb, rfl, _, rfl, ?_⟩⟩
      exact k _ _ (Int.emod_nonneg _ (by omega)) (Int.emod_lt_of_pos _ m0) ⟨_, _, _, _, B1.set x (y / m) (z + 1) B.x0⟩ (X1.upd (.head _) (.lst B1.hb) _)
    · refine ⟨_, rfl, _, _, _, _, rfl, rfl, SqL.of B1.hb, rfl, ?_⟩
      refine ⟨_, rfl, _, _, _, _, rfl, rfl, SqL.of B1.hb, rfl, .inl ⟨_, rfl, ?_⟩⟩
      refine ⟨_, rfl, _, _, rfl, rfl, _, rfl, _, _, _, 1, rfl, rfl, B1.hb, rfl, ?_⟩
      have B2 := B1.set (x + 1) y (z + 1) (by have := B.x0; omega)
      have X2 := X1.upd (.head _) (.lst B1.hb) (.lst [.ref c, .int (x + 1), .int y, .int (z + 1)])
      have ln := B.ln
      have q0 : 0 ≤ x % (cells.length : Int) := Int.emod_nonneg _ (by omega)
      have q1 : x % (cells.length : Int) < cells.length := Int.emod_lt_of_pos _ (by omega)
      obtain ⟨cell, hcell, _⟩ := int_at q0 q1
      refine ⟨_, rfl, _, rfl, _, rfl, _, _, rfl, .inl (SqL.of B2.hc), _, _, rfl, rfl, pm (by rw [List.length_map]; omega), _, _, _, _, rfl, rfl, SqL.of B2.hc, (by rw [List.length_map]; exact hcell), .inl ⟨_, rfl, ?_⟩⟩
      refine ⟨fun σ H' => H' = upd (upd H b (.lst [.ref c, .int x, .int y, .int (z + 1)])) b (.lst [.ref c, .int (x + 1), .int y, .int (z + 1)]) ∧ σ = [some (.ref b), some (.int m), none, some (.ref c), some (.int x), some (.int cell), none], ?_, ?_⟩
      · refine ⟨_, rfl, _, rfl, _, _, rfl, .inl (SqL.of B2.hc), _, _, rfl, rfl, _, rfl, ite2 (fun hin => ?_) (fun hout => iteF ⟨rfl, rfl⟩)⟩
        refine ⟨_, rfl, _, rfl, _, _, rfl, rfl, ⟨by decide, by decide, by decide⟩, _, _, rfl, rfl, _, rfl, ite2 (fun hbig => ?_) (fun hsm => ⟨rfl, rfl⟩)⟩
        refine ⟨_, rfl, _, rfl, _, rfl, _, _, rfl, rfl, dvw m0 m1 _, _, rfl, _, _, _, 2, rfl, rfl, B2.hb, rfl, ?_⟩
        refine ⟨_, rfl, _, rfl, .inl ⟨_, rfl, _, rfl, _, _, rfl, rfl, pm m0, ?_⟩⟩
        exact k _ _ (Int.emod_nonneg _ (by omega)) (Int.emod_lt_of_pos _ m0) ⟨_, _, _, _, B2.set (x + 1) _ (z + 1) B2.x0⟩ (X2.upd (.head _) (.lst B2.hb) _)
      · rintro σ H2 ⟨rfl, rfl⟩
        refine ⟨_, rfl, _, _, rfl, rfl, .inr ⟨by decide, by decide⟩, _, rfl, _, _, _, _, rfl, rfl, SqL.of B2.hb, rfl, _, _, rfl, rfl, .inr ⟨by decide, by decide⟩, _, _, rfl, rfl, _, _, rfl, rfl, .inl ⟨_, rfl, _, _, rfl, rfl, pm (by decide), ?_⟩⟩
        refine ⟨_, rfl, _, rfl, _, _, rfl, rfl, .inl ⟨by omega, by omega⟩, _, rfl, _, _, _, _, rfl, rfl, SqL.of B2.hb, rfl, _, _, rfl, rfl, .inr ⟨by decide, by decide⟩, _, _, rfl, rfl, .inl ⟨_, rfl, _, _, rfl, rfl, pm (by decide), ?_⟩⟩
        refine ⟨_, rfl, _, rfl, _, _, rfl, rfl, .inl ⟨by omega, by omega⟩, _, rfl, _, _, rfl, rfl, dvw (by decide) (by decide +kernel) _, _, _, rfl, rfl, .inl ⟨_, rfl, _, _, rfl, rfl, pm (by decide), ?_⟩⟩
        refine ⟨_, rfl, _, _, rfl, rfl, dvw (by decide) (by decide +kernel) _, .inl ⟨_, rfl, _, rfl, _, _, rfl, rfl, pm m0, ?_⟩⟩
        exact k _ _ (Int.emod_nonneg _ (by omega)) (Int.emod_lt_of_pos _ m0) ⟨_, _, _, _, B2⟩ X2
end
end K25

set_option Elab.async false
set_option maxRecDepth 100000
set_option maxHeartbeats 4000000
set_option exponentiation.threshold 4096
/-! bits and patience as they are drawn -/
namespace K25
open PySem PySem.Spec PyProof.Rows L2 C8 LamX UF
def spBits : Sp := fun vs H Q _ => ∃ (b c : Addr), vs = [.ref b] ∧ Box H b c ∧ ∀ (n : Nat) (H' : Hp), 1 ≤ n → n ≤ 8 → Box H' b c → Fr [b] H H' → Q (.int (n : Int)) H'
section
variable {P : Program} {w : World} {K : PySem.W.Frag} {mg : Str → Option Value} {base : Heap}
theorem c_law_bits (c_law_draw : Cal P w K mg base 1 "_law_draw" spDraw []) (d : D0 K mg "_law_bits" s_law_bits ["box"]) : Cal P w K mg base 2 "_law_bits" spBits [] := by
  refine cal d sc_law_bits (fun vs H Q E h => ?_) (fun cdv A outer f s H vs Q E hr h => ?_)
  · obtain ⟨b, c, rfl, _⟩ := h
    rfl
  · obtain ⟨b, c, rfl, B, k⟩ := h
    refine ⟨_, (pss_cons (ps_set (i := 1) sc_law_bits.nd rfl (Or.inl rfl) (pe_c c_law_draw hr (by decide) rfl (pa_cons (pv 0) (pa_cons pe_int pa_nil))))
      (pss_cons (ps_if (pt_cmpR op_lt (pv 1) pe_int (nomark _)) (pss_one (ps_ret pe_int)) pss_nil)
      (pss_cons (ps_if (pt_cmpR op_lt (pv 1) pe_int (nomark _)) (pss_one (ps_ret pe_int)) pss_nil)
      (pss_one (ps_ret (pe_op op_add pe_int (pe_c c_law_draw hr (by decide) rfl (pa_cons (pv 0) (pa_cons pe_int pa_nil))))))))), ?_⟩
    refine ⟨_, rfl, b, c, 8, rfl, B, by decide, by decide +kernel, fun d1 H1 a1 a2 B1 X1 => ?_⟩
    refine ⟨_, rfl, _, _, rfl, rfl, _, rfl, ite2 (fun _ => k 2 H1 (by decide) (by decide) B1 X1) (fun _ => ?_)⟩
    refine ⟨_, rfl, _, _, rfl, rfl, _, rfl, ite2 (fun _ => k 3 H1 (by decide) (by decide) B1 X1) (fun _ => ?_)⟩
    refine ⟨_, rfl, b, c, 8, rfl, B1, by decide, by decide +kernel, fun d2 H2 b1 b2 B2 X2 => ?_⟩
    obtain ⟨j, rfl⟩ := Int.eq_ofNat_of_zero_le b1
    refine ⟨_, _, rfl, rfl, ?_⟩
    have z := k (1 + j) H2 (by omega) (by omega) B2 (X1.trans X2)
    rw [show ((1 + j : Nat) : Int) = 1 + (j : Int) by omega] at z
    exact z
end
def spPat : Sp := fun vs H Q _ => ∃ (b c : Addr), vs = [.ref b] ∧ Box H b c ∧ ∀ (n : Nat) (H' : Hp), 1 ≤ n → n ≤ 6 → Box H' b c → Fr [b] H H' → Q (.int (n : Int)) H'
section
variable {P : Program} {w : World} {K : PySem.W.Frag} {mg : Str → Option Value} {base : Heap}
theorem c_law_patience (c_law_draw : Cal P w K mg base 1 "_law_draw" spDraw []) (d : D0 K mg "_law_patience" s_law_patience ["box"]) : Cal P w K mg base 2 "_law_patience" spPat [] := by
  refine cal d sc_law_patience (fun vs H Q E h => ?_) (fun cdv A outer f s H vs Q E hr h => ?_)
  · obtain ⟨b, c, rfl, _⟩ := h
    rfl
  · obtain ⟨b, c, rfl, B, k⟩ := h
    refine ⟨_, (pss_cons (ps_set (i := 1) sc_law_patience.nd rfl (Or.inl rfl) (pe_c c_law_draw hr (by decide) rfl (pa_cons (pv 0) (pa_cons pe_int pa_nil))))
      (pss_cons (ps_if (pt_cmpR op_lt (pv 1) pe_int (nomark _)) (pss_one (ps_ret pe_int)) pss_nil)
      (pss_cons (ps_if (pt_cmpR op_lt (pv 1) pe_int (nomark _)) (pss_one (ps_ret pe_int)) pss_nil)
      (pss_one (ps_ret (pe_op op_add pe_int (pe_c c_law_draw hr (by decide) rfl (pa_cons (pv 0) (pa_cons pe_int pa_nil))))))))), ?_⟩
    refine ⟨_, rfl, b, c, 6, rfl, B, by decide, by decide +kernel, fun d1 H1 a1 a2 B1 X1 => ?_⟩
    refine ⟨_, rfl, _, _, rfl, rfl, _, rfl, ite2 (fun _ => k 1 H1 (by decide) (by decide) B1 X1) (fun _ => ?_)⟩
    refine ⟨_, rfl, _, _, rfl, rfl, _, rfl, ite2 (fun _ => k 2 H1 (by decide) (by decide) B1 X1) (fun _ => ?_)⟩
    refine ⟨_, rfl, b, c, 6, rfl, B1, by decide, by decide +kernel, fun d2 H2 b1 b2 B2 X2 => ?_⟩
    obtain ⟨j, rfl⟩ := Int.eq_ofNat_of_zero_le b1
    refine ⟨_, _, rfl, rfl, ?_⟩
    have z := k (1 + j) H2 (by omega) (by omega) B2 (X1.trans X2)
    rw [show ((1 + j : Nat) : Int) = 1 + (j : Int) by omega] at z
    exact z
end
end K25

set_option Elab.async false
set_option maxRecDepth 100000
set_option maxHeartbeats 4000000
/-! lists of whole numbers as data; slices; lists by filters -/
namespace UF
open PySem PySem.Spec PyProof.Rows L2
theorem dpList {K : PySem.W.Frag} {H : Hp} {a : Addr} {ns : List Int} (h : SqL K H a (ns.map V.int)) : Dp K H (.ref a) (.list (ns.map PyData.int)) := by
  refine .lst h ?_
  clear h
  induction ns with
  | nil => exact .nil
  | cons n ns ih => exact .cons (.int n) ih
theorem lay_ints : ∀ ns : List Int, PyData.canLayAll0 (ns.map PyData.int) = true
  | [] => by simp [PyData.canLayAll0]
  | n :: ns => by
    rw [List.map_cons, PyData.canLayAll0, lay_ints ns]
    simp [PyData.canLay0]
theorem dep_ints : ∀ ns : List Int, PyData.depthAll (ns.map PyData.int) = 0
  | [] => by simp [PyData.depthAll]
  | n :: ns => by
    rw [List.map_cons, PyData.depthAll, dep_ints ns]
    simp [PyData.depth]
theorem can_list (ns : List Int) : (PyData.list (ns.map PyData.int)).canLay0 = true := by
  rw [PyData.canLay0]
  exact lay_ints ns
theorem shaped_list (ns : List Int) : SeqAt.shaped (.list (ns.map PyData.int)) = true := by
  unfold SeqAt.shaped
  rw [can_list, PyData.depth, dep_ints]
  rfl
theorem eqv_list (ns : List Int) : PyData.eqv (.list (ns.map PyData.int)) (.list (ns.map PyData.int)) = true := SeqAt.eqv_refl _ (can_list ns)
theorem eqvAll_ints : ∀ xs ys : List Int, PyData.eqvAll (xs.map PyData.int) (ys.map PyData.int) = decide (xs = ys)
  | [], [] => by simp [PyData.eqvAll]
  | [], _ :: _ => by simp [PyData.eqvAll]
  | _ :: _, [] => by simp [PyData.eqvAll]
  | x :: xs, y :: ys => by
    rw [List.map_cons, List.map_cons, PyData.eqvAll, eqvAll_ints xs ys, PyData.eqv]
    by_cases h : x = y
    · subst h; simp
    · simp [h]
theorem eqv_ints (xs ys : List Int) : PyData.eqv (.list (xs.map PyData.int)) (.list (ys.map PyData.int)) = decide (xs = ys) := by
  rw [PyData.eqv]
  exact eqvAll_ints xs ys
theorem cut_to {xs : List V} {k : Int} (h : 0 ≤ k) : cutV xs none (some k) = xs.take k.toNat := by
  obtain ⟨j, rfl⟩ := Int.eq_ofNat_of_zero_le h
  unfold cutV
  rw [HT.sIx_nat, HT.sIx_none, List.drop_zero, Int.toNat_natCast, Nat.sub_zero]
  by_cases q : j ≤ xs.length
  · rw [Nat.min_eq_left q]
  · rw [Nat.min_eq_right (by omega), List.take_of_length_le (Nat.le_refl _), List.take_of_length_le (by omega)]
theorem cut_from {xs : List V} {k : Int} (h : 0 ≤ k) : cutV xs (some k) none = xs.drop k.toNat := by
  obtain ⟨j, rfl⟩ := Int.eq_ofNat_of_zero_le h
  unfold cutV
  rw [HT.sIx_nat, HT.sIx_none, Int.toNat_natCast]
  by_cases q : j ≤ xs.length
  · rw [Nat.min_eq_left q]
    exact List.take_of_length_le (by rw [List.length_drop]; exact Nat.le_refl _)
  · rw [Nat.min_eq_right (by omega), List.drop_of_length_le (Nat.le_refl _), List.drop_of_length_le (by omega)]
    exact List.take_nil
theorem take_snoc {α : Type} {xs : List α} {i : Nat} {z : α} (e : xs[i]? = some z) : xs.take (i + 1) = xs.take i ++ [z] := by rw [List.take_add_one, e]; rfl
theorem map_get {α : Type} {f : α → V} {xs : List α} {i : Nat} {v : V} (h : (xs.map f)[i]? = some v) : ∃ z, xs[i]? = some z ∧ v = f z := by
  rw [List.getElem?_map] at h
  cases e : xs[i]? with
  | none => rw [e] at h; cases h
  | some z => rw [e] at h; cases h; exact ⟨z, rfl, rfl⟩
theorem map_getE {xs : List Int} {i : Nat} {v : V} (h : (xs.map V.int)[i]? = some v) : ∃ z, xs[i]? = some z ∧ v = .int z := map_get h
theorem flat_ints : ∀ xs : List Int, (xs.map V.int).all flatV = true
  | [] => rfl
  | _ :: xs => by rw [List.map_cons, List.all_cons, flat_ints xs]; rfl
theorem inV_ints (x : Int) : ∀ xs : List Int, inV (.int x) (xs.map V.int) = decide (x ∈ xs)
  | [] => by simp [inV]
  | y :: xs => by
    have ih := inV_ints x xs
    unfold inV at ih ⊢
    rw [List.map_cons, List.any_cons, ih]
    by_cases h : x = y
    · subst h
      have : eqV (V.int x) (V.int x) = true := by simp [eqV]
      simp [this]
    · have : eqV (V.int y) (V.int x) = false := by simp [eqV]; omega
      simp [this, h]
end UF

set_option Elab.async false
set_option maxRecDepth 100000
set_option maxHeartbeats 4000000
set_option exponentiation.threshold 4096
/-! the class Tour -/
namespace K25
open PySem PySem.Spec PyProof.Rows L2 C8 LamX UF
structure TS where
  cur : Option Int
  bad : Int
  last : Int
  op : Bool
def ft6 (a b c d e f : V) : List (Str × V) := [("setting", a), ("current", b), ("failed", c), ("_last", d), ("_goes_on", e), ("_passes", f)]
section
variable {a b c d e f v : V}
theorem ft_set : (ft6 a b c d e f).lookup ("setting" : Str) = some a := by kernel_rfl
theorem ft_cur : (ft6 a b c d e f).lookup ("current" : Str) = some b := by kernel_rfl
theorem ft_bad : (ft6 a b c d e f).lookup ("failed" : Str) = some c := by kernel_rfl
theorem ft_last : (ft6 a b c d e f).lookup ("_last" : Str) = some d := by kernel_rfl
theorem ft_op : (ft6 a b c d e f).lookup ("_goes_on" : Str) = some e := by kernel_rfl
theorem ft_ps : (ft6 a b c d e f).lookup ("_passes" : Str) = some f := by kernel_rfl
theorem ft_begin : (ft6 a b c d e f).lookup ("_begin" : Str) = none := by kernel_rfl
theorem ft_passes : (ft6 a b c d e f).lookup ("passes" : Str) = none := by kernel_rfl
theorem ft_aim : (ft6 a b c d e f).lookup ("aim" : Str) = none := by kernel_rfl
theorem ft_report : (ft6 a b c d e f).lookup ("report" : Str) = none := by kernel_rfl
theorem fp_cur : putF ("current" : Str) v (ft6 a b c d e f) = ft6 a v c d e f := by kernel_rfl
theorem fp_bad : putF ("failed" : Str) v (ft6 a b c d e f) = ft6 a b v d e f := by kernel_rfl
theorem fp_last : putF ("_last" : Str) v (ft6 a b c d e f) = ft6 a b c v e f := by kernel_rfl
theorem fp_op : putF ("_goes_on" : Str) v (ft6 a b c d e f) = ft6 a b c d v f := by kernel_rfl
theorem ft_len : (ft6 a b c d e f).length < 1000 := by show 6 < 1000; decide
theorem fi_all : putF ("_passes" : Str) f (putF ("_goes_on" : Str) e (putF ("_last" : Str) d (putF ("failed" : Str) c (putF ("current" : Str) b (putF ("setting" : Str) a []))))) = ft6 a b c d e f := by kernel_rfl
end
def TourAt (C : Addr) (H : Hp) (a x D : Addr) (s : TS) : Prop := ∃ dx, H a = some (.ins C dx (ft6 (.ref x) (optV s.cur) (.int s.bad) (.int s.last) (.bl s.op) (.ref D)))
theorem TourAt.fw {C : Addr} {H H' : Hp} {a x D : Addr} {s : TS} {ds : List Addr} (h : TourAt C H a x D s) (f : Fw ds H H') (n : a ∉ ds) : TourAt C H' a x D s := h.imp fun _ e => f.ins e n
theorem TourAt.fr {C : Addr} {H H' : Hp} {a x D : Addr} {s : TS} {ds : List Addr} (h : TourAt C H a x D s) (f : Fr ds H H') (n : a ∉ ds) : TourAt C H' a x D s := h.fw f.w n
/-- the dict at D holds whole numbers, at most n -/
def PsAt (H : Hp) (D : Addr) (n : Nat) : Prop := ∃ kvs : List (Key × V), H D = some (.dK kvs) ∧ kvs.length ≤ n ∧ ∀ k v, valV kvs k = some v → ∃ i : Int, v = .int i
theorem PsAt.fw {H H' : Hp} {D : Addr} {n : Nat} {ds : List Addr} (h : PsAt H D n) (f : Fw ds H H') (m : D ∉ ds) : PsAt H' D n := h.imp fun _ e => ⟨f.dK e.1 m, e.2⟩
theorem PsAt.le {H : Hp} {D : Addr} {n m : Nat} (h : PsAt H D n) (l : n ≤ m) : PsAt H D m := h.imp fun _ e => ⟨e.1, Nat.le_trans e.2.1 l, e.2.2⟩
def TS.ok (s : TS) : Prop := s.op = true → ∃ m, s.cur = some m
def stays (s : TS) (ns : List Int) : Bool := s.op && (match s.cur with
  | some m => decide (m ∈ ns)
  | none => false)
def begS (s : TS) (o : Option Int) : TS := ⟨o, 0, o.getD s.last, o.isSome⟩
def AimR (r : Int) (s : TS) (ns : List Int) (s' : TS) : Prop := (stays s ns = true ∧ s' = s) ∨ (stays s ns = false ∧ ∃ o, IsFirst r (s.last + 1) ns o ∧ s' = begS s o)
def repS (p : Int) (s : TS) (b : Bool) : TS := if s.op = true then (if b = true then { s with op := false } else { s with bad := s.bad + 1, op := decide (s.bad + 1 < p) }) else s
def spTinit (C : Addr) : Sp := fun vs H Q _ => ∃ (a dx x : Addr) (seat : Int) (o : Option Int), vs = [.ref a, .ref x, .int seat, optV o] ∧ H a = some (.ins C dx []) ∧ ∀ (D : Addr) (H' : Hp), Nw H D → TourAt C H' a x D ⟨none, 0, o.getD seat, false⟩ → H' D = some (.dK []) → Fr [a] H H' → Q .non H'
def spPasses (C : Addr) : Sp := fun vs H Q _ => ∃ (a x D : Addr) (s : TS) (n : Nat) (m : Int), vs = [.ref a, .int m] ∧ TourAt C H a x D s ∧ PsAt H D n ∧ ∀ i : Int, Q (.int i) H
def spBegin (C : Addr) : Sp := fun vs H Q _ => ∃ (a x D : Addr) (s : TS) (o : Option Int), vs = [.ref a, optV o] ∧ TourAt C H a x D s ∧ ∀ H' : Hp, Fr [a] H H' → TourAt C H' a x D (begS s o) → Q .non H'
def spAim (C S t : Addr) : Sp := fun vs H Q _ => ∃ (a x D l : Addr) (s : TS) (n : Nat) (ns : List Int), vs = [.ref a, .ref l] ∧ TourAt C H a x D s ∧ s.ok ∧ SetN S H x n ∧ n ≤ 8 ∧ H l = some (.lst (ns.map V.int)) ∧ Tabs (TT t) H ∧
  ∀ (s' : TS) (H' : Hp), Fw [a] H H' → Tabs (TT t) H' → TourAt C H' a x D s' → AimR (ringN n) s ns s' → Q (optV s'.cur) H'
def spReport (C S : Addr) : Sp := fun vs H Q _ => ∃ (a x D : Addr) (s : TS) (b : Bool) (k : Nat) (n p r g h : Int), vs = [.ref a, .bl b] ∧ TourAt C H a x D s ∧ s.ok ∧ PsAt H D k ∧ k ≤ 1000 ∧ SetO S H x n p r g h ∧
  ∀ H' : Hp, Fr [a, D] H H' → TourAt C H' a x D (repS p s b) → PsAt H' D (k + 1) → Q .non H'
section
variable {P : Program} {w : World} {K : PySem.W.Frag} {mg : Str → Option Value} {base : Heap} {C S : Addr}
theorem f_tinit (M : T_Tour K mg C) {f : Addr} {fd : FuncData} (F : FunD K "__init__" "Tour.__init__" (C8.fnArgs s_Tour__init) (C8.fnBody s_Tour__init) (C8.fnScope s_Tour__init) [] [("behind", .non)] f fd) : FnOk P w K mg base C8.CX0 1 f fd ["self", "setting", "seat", "behind"] (spTinit C) := by
  refine F.ok (N := n_Tour__init) sc_Tour__init (fun vs H Q E h => ?_) (fun cdv A outer s H vs Q E hr h => ?_)
  · obtain ⟨a, dx, x, seat, o, rfl, _⟩ := h
    rfl
  · obtain ⟨a, dx, x, seat, o, rfl, ha, k⟩ := h
    refine ⟨_, PSs.nox (pss_cons (ps_fld (pv 0) (pv 1) rfl)
      (pss_cons (ps_fld (pv 0) pe_non rfl)
      (pss_cons (ps_fld (pv 0) pe_int rfl)
      (pss_cons (ps_fld (pv 0) (pe_ifExp (pt_cmp (pc_isN (pv 3))) (pv 2) (pv 3)) rfl)
      (pss_cons (ps_fld (pv 0) pe_bl rfl)
      (pss_one (ps_fld (pv 0) pe_dnewK rfl))))))), ?_⟩
    cases o with
    | none =>
      have e6 := fun D : Addr => fi_all (a := V.ref x) (b := V.non) (c := V.int 0) (d := V.int (seat)) (e := V.bl false) (f := V.ref D)
      refine ⟨_, rfl, _, rfl, a, C, dx, _, rfl, ha, M.cl, M.n_setting, by show 0 < 1000; decide, ?_⟩
      generalize e1 : putF ("setting" : Str) (V.ref x) [] = f1 at e6
      refine ⟨_, rfl, a, C, dx, _, rfl, upd_same, M.cl, M.n_current, by subst e1; show 1 < 1000; decide, ?_⟩
      generalize e2 : putF ("current" : Str) V.non f1 = f2 at e6
      have l1 : f1.length ≤ 1 := by subst e1; exact putF_len _ _ _
      have l2 : f2.length ≤ 2 := by subst e2; exact Nat.le_trans (putF_len _ _ _) (by omega)
      refine ⟨_, rfl, a, C, dx, _, rfl, upd_same, M.cl, M.n_failed, by omega, ?_⟩
      generalize e3 : putF ("failed" : Str) (V.int 0) f2 = f3 at e6
      have l3 : f3.length ≤ 3 := by subst e3; exact Nat.le_trans (putF_len _ _ _) (by omega)
      refine ⟨_, rfl, _, rfl, iteT ⟨_, rfl, _, rfl, a, C, dx, _, rfl, upd_same, M.cl, M.n_last, by omega, ?_⟩⟩
      generalize e4 : putF ("_last" : Str) (V.int (seat)) f3 = f4 at e6
      have l4 : f4.length ≤ 4 := by subst e4; exact Nat.le_trans (putF_len _ _ _) (by omega)
      refine ⟨_, rfl, a, C, dx, _, rfl, upd_same, M.cl, M.n_goes_on, by omega, ?_⟩
      generalize e5 : putF ("_goes_on" : Str) (V.bl false) f4 = f5 at e6
      have l5 : f5.length ≤ 5 := by subst e5; exact Nat.le_trans (putF_len _ _ _) (by omega)
      intro D nD
      have X5 := (((((Fr.refl [a] H).upd (.head _) (.ins ha) (.ins C dx f1)).upd (.head _) (.ins upd_same) (.ins C dx f2)).upd (.head _) (.ins upd_same) (.ins C dx f3)).upd (.head _) (.ins upd_same) (.ins C dx f4)).upd (.head _) (.ins upd_same) (.ins C dx f5)
      have aD : a ≠ D := ne_of_none upd_same nD
      refine ⟨_, rfl, a, C, dx, _, rfl, (by rw [upd_ne aD, upd_same]), M.cl, M.n_passes, by omega, ?_⟩
      rw [e6 D]
      exact k D _ (X5.live D (.of nD)) ⟨dx, upd_same⟩ (by rw [upd_ne aD.symm, upd_same]) ((X5.new nD (.dK [])).upd (.head _) (.ins (by rw [upd_ne aD, upd_same])) _)
    | some m =>
      have e6 := fun D : Addr => fi_all (a := V.ref x) (b := V.non) (c := V.int 0) (d := optV (some m)) (e := V.bl false) (f := V.ref D)
      refine ⟨_, rfl, _, rfl, a, C, dx, _, rfl, ha, M.cl, M.n_setting, by show 0 < 1000; decide, ?_⟩
      generalize e1 : putF ("setting" : Str) (V.ref x) [] = f1 at e6
      refine ⟨_, rfl, a, C, dx, _, rfl, upd_same, M.cl, M.n_current, by subst e1; show 1 < 1000; decide, ?_⟩
      generalize e2 : putF ("current" : Str) V.non f1 = f2 at e6
      have l1 : f1.length ≤ 1 := by subst e1; exact putF_len _ _ _
      have l2 : f2.length ≤ 2 := by subst e2; exact Nat.le_trans (putF_len _ _ _) (by omega)
      refine ⟨_, rfl, a, C, dx, _, rfl, upd_same, M.cl, M.n_failed, by omega, ?_⟩
      generalize e3 : putF ("failed" : Str) (V.int 0) f2 = f3 at e6
      have l3 : f3.length ≤ 3 := by subst e3; exact Nat.le_trans (putF_len _ _ _) (by omega)
      refine ⟨_, rfl, _, rfl, iteF ⟨_, rfl, _, rfl, a, C, dx, _, rfl, upd_same, M.cl, M.n_last, by omega, ?_⟩⟩
      generalize e4 : putF ("_last" : Str) (optV (some m)) f3 = f4 at e6
      have l4 : f4.length ≤ 4 := by subst e4; exact Nat.le_trans (putF_len _ _ _) (by omega)
      refine ⟨_, rfl, a, C, dx, _, rfl, upd_same, M.cl, M.n_goes_on, by omega, ?_⟩
      generalize e5 : putF ("_goes_on" : Str) (V.bl false) f4 = f5 at e6
      have l5 : f5.length ≤ 5 := by subst e5; exact Nat.le_trans (putF_len _ _ _) (by omega)
      intro D nD
      have X5 := (((((Fr.refl [a] H).upd (.head _) (.ins ha) (.ins C dx f1)).upd (.head _) (.ins upd_same) (.ins C dx f2)).upd (.head _) (.ins upd_same) (.ins C dx f3)).upd (.head _) (.ins upd_same) (.ins C dx f4)).upd (.head _) (.ins upd_same) (.ins C dx f5)
      have aD : a ≠ D := ne_of_none upd_same nD
      refine ⟨_, rfl, a, C, dx, _, rfl, (by rw [upd_ne aD, upd_same]), M.cl, M.n_passes, by omega, ?_⟩
      rw [e6 D]
      exact k D _ (X5.live D (.of nD)) ⟨dx, upd_same⟩ (by rw [upd_ne aD.symm, upd_same]) ((X5.new nD (.dK [])).upd (.head _) (.ins (by rw [upd_ne aD, upd_same])) _)
/-- Tour(setting, seat) -/
theorem c_Tour (M : T_Tour K mg C) : Mak P w K mg base 1 "Tour" C (spTinit C) [.non] := by
  obtain ⟨f, fd, Mk, F⟩ := M.ini
  obtain ⟨ds, r, b⟩ := F.binds0 (ps := ["self", "setting", "seat", "behind"]) 3 (by decide) rfl (fun D doc pm an cdv ct us ks hl hk => match us, hl, ks, hk with
      | [_, _, _], _, [_], _ => ⟨_, _, _, _, _, _, rfl, rfl, rfl⟩)
  exact ⟨f, fd, _, ds, Mk, f_tinit M F, M.mgC, b, r⟩
theorem m_passes (M : T_Tour K mg C) : Met P w K mg base 1 C "passes" (spPasses C) [] := by
  refine met M.m_passes M.cl sc_Tour_passes (fun vs H Q E h => ?_) (fun cdv A outer f s0 H vs Q E hr h => ?_)
  · obtain ⟨a, x, D, s, n, m, rfl, _⟩ := h
    rfl
  · obtain ⟨a, x, D, s, n, m, rfl, ⟨dx, ha⟩, ⟨kvs, e, _, hv⟩, k⟩ := h
    refine ⟨_, (pss_one (ps_ret (pe_dget2 (u1 hr) (pe_fld (pv 0) rfl) (pv 1) pe_int (M2.mk (by rfl) (by rfl) (by rfl) (by rfl))))), ?_⟩
    refine ⟨_, rfl, a, C, dx, _, _, rfl, ha, M.cl, M.n_passes, ft_ps, D, rfl, .inl ⟨_, .inl e⟩, _, rfl, _, DGet.k (k := .inl m) e, ?_⟩
    cases q : valV kvs (.inl m) with
    | none => exact k 0
    | some v =>
      obtain ⟨i, rfl⟩ := hv _ _ q
      exact k i
theorem m_begin (M : T_Tour K mg C) : Met P w K mg base 1 C "_begin" (spBegin C) [] := by
  refine met M.m_begin M.cl sc_Tour_begin (fun vs H Q E h => ?_) (fun cdv A outer f s0 H vs Q E hr h => ?_)
  · obtain ⟨a, x, D, s, o, rfl, _⟩ := h
    rfl
  · obtain ⟨a, x, D, s, o, rfl, ⟨dx, ha⟩, k⟩ := h
    refine ⟨_, (pss_cons (ps_fld (pv 0) (pv 1) rfl)
      (pss_cons (ps_fld (pv 0) pe_int rfl)
      (pss_cons (ps_fld (pv 0) (pe_cmp (pc_notN (pv 1))) rfl)
      (pss_one (ps_if (pt_cmp (pc_notN (pv 1))) (pss_one (ps_fld (pv 0) (pv 1) rfl)) pss_nil))))), ?_⟩
    refine ⟨_, rfl, _, rfl, a, C, dx, _, rfl, ha, M.cl, M.n_current, ft_len, ?_⟩
    rw [fp_cur]
    have X1 := (Fr.refl [a] H).upd (.head _) (.ins ha) (.ins C dx (ft6 (.ref x) (optV o) (.int s.bad) (.int s.last) (.bl s.op) (.ref D)))
    refine ⟨_, rfl, a, C, dx, _, rfl, upd_same, M.cl, M.n_failed, ft_len, ?_⟩
    rw [fp_bad]
    have X2 := X1.upd (.head _) (.ins upd_same) (.ins C dx (ft6 (.ref x) (optV o) (.int 0) (.int s.last) (.bl s.op) (.ref D)))
    cases o with
    | none =>
      refine ⟨_, rfl, _, rfl, a, C, dx, _, rfl, upd_same, M.cl, M.n_goes_on, ft_len, ?_⟩
      rw [fp_op]
      refine ⟨_, rfl, _, rfl, iteF ?_⟩
      exact k _ (X2.upd (.head _) (.ins upd_same) _) ⟨dx, upd_same⟩
    | some m =>
      refine ⟨_, rfl, _, rfl, a, C, dx, _, rfl, upd_same, M.cl, M.n_goes_on, ft_len, ?_⟩
      rw [fp_op]
      refine ⟨_, rfl, _, rfl, iteT ?_⟩
      refine ⟨_, rfl, _, rfl, a, C, dx, _, rfl, upd_same, M.cl, M.n_last, ft_len, ?_⟩
      rw [fp_last]
      exact k _ ((X2.upd (.head _) (.ins upd_same) (.ins C dx (ft6 (.ref x) (.int m) (.int 0) (.int s.last) (.bl true) (.ref D)))).upd (.head _) (.ins upd_same) _) ⟨dx, upd_same⟩
theorem m_aim {t : Addr} (M : T_Tour K mg C) (m_begin : Met P w K mg base 1 C "_begin" (spBegin C) []) (c_first_from : Cal P w K mg base 7 "first_from" (spFirst S t) []) : Met P w K mg base 8 C "aim" (spAim C S t) [] := by
  refine met M.m_aim M.cl sc_Tour_aim (fun vs H Q E h => ?_) (fun cdv A outer f s0 H vs Q E hr h => ?_)
  · obtain ⟨a, x, D, l, s, n, ns, rfl, _⟩ := h
    rfl
  · obtain ⟨a, x, D, l, s, n, ns, rfl, ta, ok, hx, hn, hl, hT, k⟩ := h
    obtain ⟨dx, ha⟩ := id ta
    refine ⟨_, (pss_cons (ps_if (pt_not (PW.pt (pw_and (pt_val (pe_fld (pv 0) rfl)) (pw_and1 (pt_cmpR (show OpR _ (compareOp .In) (rIn K false) from op_in_seq) (pe_fld (pv 0) rfl) (pv 1) (by with_unfolding_all rfl)))))) (pss_one (ps_expr (pe_mt m_begin hr (by decide) (pv 0) (pa_cons (pe_c c_first_from hr (by decide) rfl (pa_cons (pe_fld (pv 0) rfl) (pa_cons (pe_op op_add (pe_fld (pv 0) rfl) pe_int) (pa_cons (pv 1) pa_nil)))) pa_nil)))) pss_nil)
      (pss_one (ps_ret (pe_fld (pv 0) rfl)))), ?_⟩
    refine ⟨_, rfl, a, C, dx, _, _, rfl, ha, M.cl, M.n_goes_on, ft_op, _, rfl, ?_⟩
    cases hop : s.op with
    | false =>
      have hst : stays s ns = false := by unfold stays; rw [hop]; rfl
      refine iteF (iteT ?_)
      refine ⟨_, rfl, a, dx, _, rfl, ha, ft_begin, _, rfl, a, C, dx, _, _, rfl, ha, M.cl, M.n_setting, ft_set, _, rfl, a, C, dx, _, _, rfl, ha, M.cl, M.n_last, ft_last, _, _, rfl, rfl, _, rfl, x, s.last + 1, l, n, ns, rfl, hx, hn, hl, hT, fun o H1 X1 T1 ho => ?_⟩
      refine ⟨a, x, D, s, o, rfl, ta.fw X1 not_nil, fun H2 X2 t2 => ?_⟩
      obtain ⟨dx2, ha2⟩ := id t2
      exact ⟨_, rfl, a, C, dx2, _, _, rfl, ha2, M.cl, M.n_current, ft_cur, k (begS s o) H2 ((X1.mono fun a q => nomatch q).trans X2.w) (X2.tabs _ T1) t2 (.inr ⟨hst, o, ho, rfl⟩)⟩
    | true =>
      obtain ⟨m, hm⟩ := ok hop
      have hcur : H a = some (.ins C dx (ft6 (.ref x) (.int m) (.int s.bad) (.int s.last) (.bl s.op) (.ref D))) := by rw [ha, hm]; rfl
      refine iteT ?_
      refine ⟨_, rfl, a, C, dx, _, _, rfl, hcur, M.cl, M.n_current, ft_cur, _, rfl, l, _, rfl, .inl (SqL.of hl), rfl, flat_ints ns, _, rfl, ?_⟩
      have hin : stays s ns = decide (m ∈ ns) := by unfold stays; rw [hop, hm]; rfl
      show (if (!inV (V.int m) (ns.map V.int)) = true then _ else _)
      rw [inV_ints]
      by_cases hmem : m ∈ ns
      · rw [decide_eq_true hmem]
        rw [decide_eq_true hmem] at hin
        exact iteF ⟨_, rfl, a, C, dx, _, _, rfl, ha, M.cl, M.n_current, ft_cur, k s H (Fw.refl _ _) hT ta (.inl ⟨hin, rfl⟩)⟩
      · rw [decide_eq_false hmem]
        rw [decide_eq_false hmem] at hin
        have hst := hin
        refine iteT ?_
        refine ⟨_, rfl, a, dx, _, rfl, ha, ft_begin, _, rfl, a, C, dx, _, _, rfl, ha, M.cl, M.n_setting, ft_set, _, rfl, a, C, dx, _, _, rfl, ha, M.cl, M.n_last, ft_last, _, _, rfl, rfl, _, rfl, x, s.last + 1, l, n, ns, rfl, hx, hn, hl, hT, fun o H1 X1 T1 ho => ?_⟩
        refine ⟨a, x, D, s, o, rfl, ta.fw X1 not_nil, fun H2 X2 t2 => ?_⟩
        obtain ⟨dx2, ha2⟩ := id t2
        exact ⟨_, rfl, a, C, dx2, _, _, rfl, ha2, M.cl, M.n_current, ft_cur, k (begS s o) H2 ((X1.mono fun a q => nomatch q).trans X2.w) (X2.tabs _ T1) t2 (.inr ⟨hst, o, ho, rfl⟩)⟩
theorem m_report (M : T_Tour K mg C) (ST : T_Setting K mg S) (m_passes : Met P w K mg base 1 C "passes" (spPasses C) []) : Met P w K mg base 2 C "report" (spReport C S) [] := by
  refine met M.m_report M.cl sc_Tour_report (fun vs H Q E h => ?_) (fun cdv A outer f s0 H vs Q E hr h => ?_)
  · obtain ⟨a, x, D, s, b, k, n, p, r, g, h, rfl, _⟩ := h
    rfl
  · obtain ⟨a, x, D, s, b, kk, n, p, r, g, h, rfl, ta, ok, ps, hk, hx, k⟩ := h
    obtain ⟨dx, ha⟩ := id ta
    obtain ⟨dy, hy⟩ := id hx
    refine ⟨_, (pss_cons (ps_if (pt_not (pt_val (pe_fld (pv 0) rfl))) (pss_one (ps_retN)) pss_nil)
      (pss_cons (ps_if (pt_val (pv 1)) (pss_one (ps_asg (pe_op op_add (pe_mt m_passes hr (by decide) (pv 0) (pa_cons (pe_fld (pv 0) rfl) pa_nil)) pe_int) (pg_sub (pe_fld (pv 0) rfl) (pe_fld (pv 0) rfl) (set_dict (u1 hr))))) (pss_one (ps_fldaug (pv 0) pe_int in_add)))
      (pss_one (ps_fld (pv 0) (pe_and (pe_not (pv 1)) (pe_one (pe_cmpR op_lt (pe_fld (pv 0) rfl) (pe_fld (pe_fld (pv 0) rfl) rfl) (nomark _)))) rfl)))), ?_⟩
    refine ⟨_, rfl, a, C, dx, _, _, rfl, ha, M.cl, M.n_goes_on, ft_op, _, rfl, ?_⟩
    cases hop : s.op with
    | false =>
      have e : repS p s b = s := by unfold repS; rw [hop]; rfl
      rw [e] at k
      exact iteT (k H (Fr.refl _ _) ta (ps.le (Nat.le_succ _)))
    | true =>
      obtain ⟨m, hm⟩ := ok hop
      have hcur : H a = some (.ins C dx (ft6 (.ref x) (.int m) (.int s.bad) (.int s.last) (.bl s.op) (.ref D))) := by rw [ha, hm]; rfl
      obtain ⟨kvs, hD, hl, hv⟩ := id ps
      have aD : a ≠ D := fun z => by rw [z, hD] at ha; cases ha
      have xa : x ≠ a := fun z => by
        rw [z, ha] at hy
        injection hy with hy
        injection hy with _ _ hy
        have := congrArg List.length hy
        exact absurd this (by show ¬ (6 = 5); decide)
      have xD : x ≠ D := fun z => by rw [z, hD] at hy; cases hy
      refine iteF ?_
      cases b with
      | true =>
        have e : repS p s true = { s with op := false } := by unfold repS; rw [hop]; rfl
        rw [e] at k
        refine ⟨_, rfl, _, rfl, iteT ?_⟩
        refine ⟨_, rfl, a, dx, _, rfl, ha, ft_passes, _, rfl, a, C, dx, _, _, rfl, hcur, M.cl, M.n_current, ft_cur, a, x, D, s, kk, m, rfl, ta, ps, fun i => ?_⟩
        refine ⟨_, _, rfl, rfl, ?_⟩
        refine ⟨_, rfl, a, C, dx, _, _, rfl, ha, M.cl, M.n_passes, ft_ps, _, rfl, a, C, dx, _, _, rfl, hcur, M.cl, M.n_current, ft_cur, D, _, rfl, DPut.k (k := .inl m) hD (Nat.lt_of_le_of_lt (Nat.le_trans hl hk) (by decide)), ?_⟩
        have X1 := (Fr.refl [a, D] H).upd (.tail _ (.head _)) (.dK hD) (.dK (putK kvs (.inl m) (.int (i + 1))))
        have ha1 : (upd H D (.dK (putK kvs (.inl m) (.int (i + 1))))) a = some (.ins C dx (ft6 (.ref x) (optV s.cur) (.int s.bad) (.int s.last) (.bl s.op) (.ref D))) := by rw [upd_ne aD]; exact ha
        refine ⟨_, rfl, _, rfl, _, rfl, iteF ⟨_, rfl, a, C, dx, _, rfl, ha1, M.cl, M.n_goes_on, ft_len, ?_⟩⟩
        rw [fp_op]
        refine k _ (X1.upd (.head _) (.ins ha1) _) ⟨dx, upd_same⟩ ⟨_, by rw [upd_ne aD.symm, upd_same], Nat.le_trans (length_putK _ _ _) (Nat.succ_le_succ hl), fun q v hq => ?_⟩
        rw [valV_put] at hq
        split at hq
        · cases hq
          exact ⟨_, rfl⟩
        · exact hv q v hq
      | false =>
        have e : repS p s false = { s with bad := s.bad + 1, op := decide (s.bad + 1 < p) } := by unfold repS; rw [hop]; rfl
        rw [e] at k
        refine ⟨_, rfl, _, rfl, iteF ?_⟩
        refine ⟨_, rfl, a, C, dx, _, _, rfl, ha, M.cl, M.n_failed, ft_bad, _, _, rfl, rfl, _, _, ha, ft_len, ?_⟩
        rw [fp_bad]
        have X1 := (Fr.refl [a, D] H).upd (.head _) (.ins ha) (.ins C dx (ft6 (.ref x) (optV s.cur) (.int (s.bad + 1)) (.int s.last) (.bl s.op) (.ref D)))
        refine ⟨_, rfl, _, rfl, _, rfl, iteT ⟨_, rfl, a, C, dx, _, _, rfl, upd_same, M.cl, M.n_failed, ft_bad, _, rfl, a, C, dx, _, _, rfl, upd_same, M.cl, M.n_setting, ft_set, x, S, dy, _, _, rfl, (by rw [upd_ne xa]; exact hy), ST.cl, ST.n_patience, fs5_patience, _, _, rfl, rfl, ?_⟩⟩
        refine ⟨_, rfl, a, C, dx, _, rfl, upd_same, M.cl, M.n_goes_on, ft_len, ?_⟩
        rw [fp_op]
        exact k _ (X1.upd (.head _) (.ins upd_same) _) ⟨dx, upd_same⟩ ⟨kvs, by rw [upd_ne aD.symm, upd_ne aD.symm]; exact hD, Nat.le_succ_of_le hl, hv⟩
end
end K25

set_option Elab.async false
set_option maxRecDepth 100000
set_option maxHeartbeats 4000000
/-! windows of a tour: mathematics -/
namespace K25
open PySem PySem.Spec PyProof.Rows L2 C8 LamX UF
/-- a row of the law's: the names, the aim, whether it passed -/
structure Rw where
  ns : List Int
  now : Option Int
  ok : Bool
/-- rows that a tour made: st i, how the tour stands behind the aim of row i -/
structure Made (r : Int) (P : Nat) (s0 : TS) (rows : List Rw) (st : Nat → TS) : Prop where
  first : ∀ R : Rw, rows[0]? = some R → AimR r s0 R.ns (st 0)
  next : ∀ (i : Nat) (R R' : Rw), rows[i]? = some R → rows[i + 1]? = some R' → AimR r (repS P (st i) R.ok) R'.ns (st (i + 1))
  now : ∀ (i : Nat) (R : Rw), rows[i]? = some R → R.now = (st i).cur
  seats : ∀ (i : Nat) (R : Rw), rows[i]? = some R → Seats R.ns r
/-- what always holds of a tour -/
structure TOk (P : Nat) (s : TS) : Prop where
  b0 : 0 ≤ s.bad
  op : s.op = true → ∃ c, s.cur = some c ∧ s.last = c ∧ s.bad < P
theorem TOk.beg {P : Nat} (hP : 1 ≤ P) (s : TS) (o : Option Int) : TOk P (begS s o) := by
  refine ⟨Int.le_refl _, fun h => ?_⟩
  cases o with
  | none => cases h
  | some c => exact ⟨c, rfl, rfl, by show (0 : Int) < P; omega⟩
theorem TOk.rep {P : Nat} {s : TS} (h : TOk P s) (b : Bool) : TOk P (repS P s b) := by
  unfold repS
  split
  · rename_i op
    obtain ⟨c, e1, e2, e3⟩ := h.op op
    have := h.b0
    cases b with
    | true => exact ⟨h.b0, fun z => by cases z⟩
    | false =>
      refine ⟨by show 0 ≤ s.bad + 1; omega, fun z => ⟨c, e1, e2, ?_⟩⟩
      have z : decide (s.bad + 1 < (P : Int)) = true := z
      exact of_decide_eq_true z
  · exact h
theorem TOk.aim {P : Nat} (hP : 1 ≤ P) {r : Int} {s s' : TS} {ns : List Int} (h : TOk P s) (a : AimR r s ns s') : TOk P s' := by
  rcases a with ⟨_, rfl⟩ | ⟨_, o, _, rfl⟩
  · exact h
  · exact .beg hP s o
section
variable {r : Int} {P : Nat} {s0 : TS} {rows : List Rw} {st : Nat → TS}
theorem Made.tok (M : Made r P s0 rows st) (hP : 1 ≤ P) (h0 : TOk P s0) : ∀ i, i < rows.length → TOk P (st i)
  | 0, h => h0.aim hP (M.first _ (List.getElem?_eq_getElem h))
  | i + 1, h => ((Made.tok M hP h0 i (by omega)).rep _).aim hP (M.next i _ _ (List.getElem?_eq_getElem (by omega)) (List.getElem?_eq_getElem h))
theorem AimR.some_ {s s' : TS} {ns : List Int} (a : AimR r s ns s') (hs : TOk P s) (ne : ns ≠ []) : ∃ c, s'.cur = some c ∧ c ∈ ns ∧ s'.last = c ∧ s'.op = true := by
  rcases a with ⟨z, rfl⟩ | ⟨_, o, f, rfl⟩
  · unfold stays at z
    obtain ⟨op, z⟩ := Bool.and_eq_true_iff.mp z
    obtain ⟨c, e1, e2, _⟩ := hs.op op
    rw [e1] at z
    exact ⟨c, e1, of_decide_eq_true z, e2, op⟩
  · rcases f with ⟨e, _⟩ | ⟨m, rfl, mm, _⟩
    · exact absurd e ne
    · exact ⟨m, rfl, mm, rfl, rfl⟩
end
/-- how a row follows another: it stays, or a visit begins -/
def Stay (P : Nat) (c f : Int) (ok : Bool) (ns : List Int) : Prop := ok = false ∧ f + 1 < P ∧ c ∈ ns
structure Tr (r : Int) (P : Nat) (c f : Int) (ok : Bool) (ns : List Int) (c' f' : Int) : Prop where
  tr : (Stay P c f ok ns ∧ c' = c ∧ f' = f + 1) ∨ (¬ Stay P c f ok ns ∧ f' = 0 ∧ c' ∈ ns ∧ ∀ x ∈ ns, (c' - (c + 1)) % r ≤ (x - (c + 1)) % r)
/-- rows a to k of a window, all of whose names hold s: c, f, ok, ns of each -/
structure Win (r : Int) (P : Nat) (a k : Nat) (c f : Nat → Int) (ok : Nat → Bool) (ns : Nat → List Int) : Prop where
  cin : ∀ i, a ≤ i → i ≤ k → c i ∈ ns i
  f0 : ∀ i, a ≤ i → i ≤ k → 0 ≤ f i ∧ f i < P
  tr : ∀ i, a ≤ i → i + 1 ≤ k → Tr r P (c i) (f i) (ok i) (ns (i + 1)) (c (i + 1)) (f (i + 1))
def eD (r s x : Int) : Int := (s - x) % r
def aheadL (r s : Int) (seen : List Int) (E : Int) : List Int := seen.filter fun x => decide (0 < eD r s x ∧ eD r s x < E)
theorem filter_lt {α : Type} {p q : α → Bool} : ∀ {l : List α} {x : α}, x ∈ l → q x = true → p x = false → (∀ y ∈ l, p y = true → q y = true) → (l.filter p).length + 1 ≤ (l.filter q).length
  | y :: l, x, m, hq, hp, im => by
    have le : (l.filter p).length ≤ (l.filter q).length := by
      rw [← List.countP_eq_length_filter, ← List.countP_eq_length_filter]
      exact List.countP_mono_left fun z mz hz => im z (.tail _ mz) hz
    rcases List.mem_cons.mp m with e | m
    · rw [← e, List.filter_cons_of_pos hq, List.filter_cons_of_neg (by rw [hp]; decide), List.length_cons]
      omega
    · have ih := filter_lt m hq hp fun z mz hz => im z (.tail _ mz) hz
      by_cases hy : p y = true
      · rw [List.filter_cons_of_pos hy, List.filter_cons_of_pos (im y (.head _) hy), List.length_cons, List.length_cons]
        omega
      · rw [List.filter_cons_of_neg hy]
        by_cases hz : q y = true
        · rw [List.filter_cons_of_pos hz, List.length_cons]
          omega
        · rw [List.filter_cons_of_neg hz]
          exact ih
section
variable {r : Int} {P a k : Nat} {c f : Nat → Int} {ok : Nat → Bool} {ns : Nat → List Int} {s : Int} {seen : List Int}
/-- how far ahead s is -/
def eE (r s x : Int) : Int := if x = s then r else eD r s x
theorem step_dist (hr : 0 < r) (hs : 0 ≤ s ∧ s < r) {x y : Int} (hx : 0 ≤ x ∧ x < r) (hy : 0 ≤ y ∧ y < r) (ne : y ≠ s) (le : (y - (x + 1)) % r ≤ (s - (x + 1)) % r) : 0 < eD r s y ∧ eD r s y < eE r s x := by
  have u0 := emod_nn hr (s - (x + 1))
  have u1 := emod_lt' hr (s - (x + 1))
  have v0 := emod_nn hr (y - (x + 1))
  have e1 : eD r s y = (s - (x + 1)) % r - (y - (x + 1)) % r := by
    unfold eD
    rw [show s - y = (s - (x + 1)) - (y - (x + 1)) by omega, Int.sub_emod]
    exact Int.emod_eq_of_lt (by omega) (by omega)
  have e2 : eE r s x = (s - (x + 1)) % r + 1 := by
    unfold eE
    by_cases q : x = s
    · rw [if_pos q, q, show s - (s + 1) = -1 by omega]
      have : (-1 : Int) % r = r - 1 := emod_is (q := -1) (by omega) (by omega) (by omega)
      omega
    · rw [if_neg q]
      unfold eD
      have h0 := emod_nn hr (s - x)
      have h1 := emod_lt' hr (s - x)
      have hne : (s - x) % r ≠ 0 := fun z => by
        have := back (s := x) hs.1 hs.2
        rw [z, Int.add_zero, Int.emod_eq_of_lt hx.1 hx.2] at this
        exact q this
      have e := Int.emod_add_mul_ediv (s - x) r
      have e3 : (s - (x + 1)) % r = (s - x) % r - 1 := by
        refine emod_is (q := (s - x) / r) ?_ (by omega) (by omega)
        generalize r * ((s - x) / r) = w at e ⊢
        omega
      omega
  have nz : eD r s y ≠ 0 := fun z => by
    unfold eD at z
    have := back (s := y) hs.1 hs.2
    rw [z, Int.add_zero, Int.emod_eq_of_lt hy.1 hy.2] at this
    exact ne this
  omega
/-- a visit of s begins soon -/
theorem comes (W : Win r P a k c f ok ns) (hr : 0 < r) (hs : ∀ i, a ≤ i → i ≤ k → s ∈ ns i) (sub : ∀ i, a ≤ i → i ≤ k → ∀ x ∈ ns i, x ∈ seen) (hb : ∀ x ∈ seen, 0 ≤ x ∧ x < r) :
    ∀ (t i : Nat), a ≤ i → i + t ≤ k → ((aheadL r s seen (eE r s (c i))).length : Int) * P + (P - f i) ≤ t → ∃ j, i < j ∧ j ≤ i + t ∧ c j = s ∧ f j = 0 := by
  intro t
  induction t with
  | zero =>
    intro i hi ht h
    have := (W.f0 i hi (by omega)).2
    have h0 : 0 ≤ ((aheadL r s seen (eE r s (c i))).length : Int) * P := Int.mul_nonneg (by omega) (by omega)
    omega
  | succ t ih =>
    intro i hi ht h
    have fi := W.f0 i hi (by omega)
    have inS : ∀ j, a ≤ j → j ≤ k → 0 ≤ c j ∧ c j < r := fun j h1 h2 => hb _ (sub j h1 h2 _ (W.cin j h1 h2))
    have hs' : 0 ≤ s ∧ s < r := hb s (sub i hi (by omega) s (hs i hi (by omega)))
    rcases (W.tr i hi (by omega)).tr with ⟨st, e1, e2⟩ | ⟨_, e2, cm, best⟩
    · obtain ⟨j, h1, h2, h3⟩ := ih (i + 1) (by omega) (by omega) (by rw [e1, e2]; omega)
      exact ⟨j, by omega, by omega, h3⟩
    · by_cases q : c (i + 1) = s
      · exact ⟨i + 1, by omega, by omega, q, e2⟩
      · have d := step_dist hr hs' (inS i hi (by omega)) (inS (i + 1) (by omega) (by omega)) q (best s (hs (i + 1) (by omega) (by omega)))
        have e : eE r s (c (i + 1)) = eD r s (c (i + 1)) := if_neg q
        have lt : (aheadL r s seen (eE r s (c (i + 1)))).length + 1 ≤ (aheadL r s seen (eE r s (c i))).length := by
          refine filter_lt (x := c (i + 1)) (sub (i + 1) (by omega) (by omega) _ (W.cin (i + 1) (by omega) (by omega))) (decide_eq_true d) (decide_eq_false fun z => ?_) fun y my z => ?_
          · rw [e] at z
            exact Int.lt_irrefl _ z.2
          · have z := of_decide_eq_true z
            rw [e] at z
            exact decide_eq_true ⟨z.1, Int.lt_trans z.2 d.2⟩
        have mul : (((aheadL r s seen (eE r s (c (i + 1)))).length : Int) + 1) * P ≤ ((aheadL r s seen (eE r s (c i))).length : Int) * P := Int.mul_le_mul_of_nonneg_right (by omega) (by omega)
        rw [Int.add_mul, Int.one_mul] at mul
        obtain ⟨j, h1, h2, h3⟩ := ih (i + 1) (by omega) (by omega) (by rw [e2]; omega)
        exact ⟨j, by omega, by omega, h3⟩
/-- a visit of s that has begun goes on to its end -/
theorem goes (W : Win r P a k c f ok ns) (hs : ∀ i, a ≤ i → i ≤ k → s ∈ ns i) {j : Nat} (ja : a ≤ j) (cj : c j = s) {q : Nat} (jq : j + q ≤ k) (hq : f j + q < P) (no : ∀ i, j ≤ i → i < j + q → ok i = false) : ∀ i, i ≤ q → c (j + i) = s ∧ f (j + i) = f j + i
  | 0, _ => ⟨cj, by show f j = f j + ((0 : Nat) : Int); omega⟩
  | i + 1, h => by
    obtain ⟨h1, h2⟩ := goes W hs ja cj jq hq no i (by omega)
    rcases (W.tr (j + i) (by omega) (by omega)).tr with ⟨st, e1, e2⟩ | ⟨nst, _⟩
    · exact ⟨by rw [show j + (i + 1) = j + i + 1 by omega, e1]; exact h1, by rw [show j + (i + 1) = j + i + 1 by omega, e2, h2]; omega⟩
    · refine absurd ⟨no (j + i) (by omega) (by omega), by rw [h2]; omega, ?_⟩ nst
      rw [h1]
      exact hs _ (by omega) (by omega)
/-- how far ahead all may stand -/
theorem ahead_le (nd : seen.Nodup) (sm : s ∈ seen) (hr : 0 < r) : ∀ E, (aheadL r s seen E).length + 1 ≤ seen.length := by
  intro E
  have h := filter_lt (p := fun x => decide (0 < eD r s x ∧ eD r s x < E)) (q := fun _ => true) sm rfl (decide_eq_false fun z => by
    have e : eD r s s = 0 := by
      unfold eD
      rw [Int.sub_self, Int.zero_emod]
    have z1 := z.1
    rw [e] at z1
    exact Int.lt_irrefl _ z1) fun _ _ _ => rfl
  rw [List.filter_eq_self.mpr (fun _ _ => rfl)] at h
  exact h
theorem ahead_le2 (nd : seen.Nodup) (sm : s ∈ seen) {x : Int} (xm : x ∈ seen) (ne : x ≠ s) : (aheadL r s seen (eD r s x)).length + 2 ≤ seen.length := by
  have p1 : (seen.erase s).length + 1 = seen.length := by
    have := List.length_erase_of_mem sm
    have := List.length_pos_of_mem sm
    omega
  have e : aheadL r s seen (eD r s x) = aheadL r s (seen.erase s) (eD r s x) := by
    unfold aheadL
    rw [nd.erase_eq_filter, List.filter_filter]
    refine List.filter_congr fun y my => ?_
    by_cases q : y = s
    · subst q
      have e : eD r y y = 0 := by
        unfold eD
        rw [Int.sub_self, Int.zero_emod]
      rw [decide_eq_false (fun z => by
        have z1 := z.1
        rw [e] at z1
        exact Int.lt_irrefl _ z1), Bool.false_and]
    · rw [show (y != s) = true by simpa using q, Bool.and_true]
  rw [e]
  have h := filter_lt (p := fun y => decide (0 < eD r s y ∧ eD r s y < eD r s x)) (q := fun _ => true) (l := seen.erase s) ((List.mem_erase_of_ne ne).mpr xm) rfl (decide_eq_false fun z => Int.lt_irrefl _ z.2) fun _ _ _ => rfl
  rw [List.filter_eq_self.mpr (fun _ _ => rfl)] at h
  unfold aheadL
  omega
/-- a visit that has begun ends, or passes, within what is left of it -/
theorem ends_ (W : Win r P a k c f ok ns) (hs : ∀ i, a ≤ i → i ≤ k → s ∈ ns i) {j u : Nat} (ja : a ≤ j) (cj : c j = s) (u1 : 1 ≤ u) (hu : f j + u ≤ P) (ju : j + u ≤ k + 1) :
    (∃ e, j ≤ e ∧ e < j + u ∧ ok e = true ∧ (∀ i, j ≤ i → i ≤ e → c i = s ∧ f i = f j + (i - j : Nat)) ∧ ∀ i, j ≤ i → i < e → ok i = false) ∨
    ((∀ i, j ≤ i → i < j + u → c i = s ∧ f i = f j + (i - j : Nat)) ∧ ∀ i, j ≤ i → i < j + u → ok i = false) := by
  by_cases q : ∃ e, j ≤ e ∧ e < j + u ∧ ok e = true
  · -- the least
    have : ∃ e, (j ≤ e ∧ e < j + u ∧ ok e = true) ∧ ∀ i, i < e → ¬ (j ≤ i ∧ i < j + u ∧ ok i = true) := by
      obtain ⟨e, he⟩ := q
      induction e using Nat.strongRecOn with
      | _ e ih =>
        by_cases z : ∃ i, i < e ∧ (j ≤ i ∧ i < j + u ∧ ok i = true)
        · obtain ⟨i, lt, hi⟩ := z
          exact ih i lt hi
        · exact ⟨e, he, fun i lt hi => z ⟨i, lt, hi⟩⟩
    obtain ⟨e, ⟨e1, e2, e3⟩, least⟩ := this
    have no : ∀ i, j ≤ i → i < e → ok i = false := fun i h1 h2 => by
      cases z : ok i with
      | false => rfl
      | true => exact absurd ⟨h1, by omega, z⟩ (least i h2)
    refine .inl ⟨e, e1, e2, e3, fun i h1 h2 => ?_, no⟩
    have := goes W hs ja cj (q := e - j) (by omega) (by omega) (fun i h1 h2 => no i h1 (by omega)) (i - j) (by omega)
    rw [show j + (i - j) = i by omega] at this
    exact this
  · have no : ∀ i, j ≤ i → i < j + u → ok i = false := fun i h1 h2 => by
      cases z : ok i with
      | false => rfl
      | true => exact absurd ⟨i, h1, h2, z⟩ q
    refine .inr ⟨fun i h1 h2 => ?_, no⟩
    have := goes W hs ja cj (q := u - 1) (by omega) (by omega) (fun i h1 h2 => no i h1 (by omega)) (i - j) (by omega)
    rw [show j + (i - j) = i by omega] at this
    exact this
theorem mulS (n P : Nat) : ((n : Int) * P) = ((n * P : Nat) : Int) := (Int.natCast_mul n P).symm
/-- tried: it passed, or P rows are of it -/
theorem tried_ (W : Win r P a k c f ok ns) (hr : 0 < r) (hP : 1 ≤ P) (hs : ∀ i, a ≤ i → i ≤ k → s ∈ ns i) (sub : ∀ i, a ≤ i → i ≤ k → ∀ x ∈ ns i, x ∈ seen) (hb : ∀ x ∈ seen, 0 ≤ x ∧ x < r) (nd : seen.Nodup) (ak : a ≤ k) (L : seen.length * P ≤ k + 1 - a) :
    (∃ i, a ≤ i ∧ i ≤ k ∧ c i = s ∧ ok i = true) ∨ ∃ u j v, u + v = P ∧ a + u ≤ j ∧ j + v ≤ k + 1 ∧ (∀ i, a ≤ i → i < a + u → c i = s) ∧ ∀ i, j ≤ i → i < j + v → c i = s := by
  have sm : s ∈ seen := sub a (Nat.le_refl _) ak s (hs a (Nat.le_refl _) ak)
  have fa := W.f0 a (Nat.le_refl _) ak
  obtain ⟨n, hn⟩ : ∃ n, seen.length = n + 1 := ⟨seen.length - 1, by have := List.length_pos_of_mem sm; omega⟩
  rw [hn, Nat.succ_mul] at L
  by_cases q : c a = s
  · obtain ⟨u, hu⟩ : ∃ u : Nat, f a + u = P := ⟨(P - f a).toNat, by omega⟩
    have u1 : 1 ≤ u := by omega
    rcases ends_ W hs (Nat.le_refl a) q u1 (by omega) (by omega) with ⟨e, e1, e2, e3, e4, _⟩ | ⟨e4, _⟩
    · exact .inl ⟨e, e1, by omega, (e4 e e1 (Nat.le_refl _)).1, e3⟩
    · by_cases z : u = P
      · exact .inr ⟨u, a + u, 0, by omega, Nat.le_refl _, by omega, fun i h1 h2 => (e4 i h1 h2).1, fun i h1 h2 => by omega⟩
      · have al := ahead_le (E := eE r s (c a)) nd sm hr
        have ml : (aheadL r s seen (eE r s (c a))).length * P ≤ n * P := Nat.mul_le_mul_right P (by omega)
        obtain ⟨j, j1, j2, j3, j4⟩ := comes W hr hs sub hb (n * P + u) a (Nat.le_refl _) (by omega) (by rw [mulS]; omega)
        have ju : a + u ≤ j := by
          refine Nat.le_of_not_lt fun lt => ?_
          have := (e4 j (by omega) lt).2
          omega
        rcases ends_ W hs (show a ≤ j by omega) j3 (u := P - u) (by omega) (by omega) (by omega) with ⟨e, e1, e2, e3, e5, _⟩ | ⟨e5, _⟩
        · exact .inl ⟨e, by omega, by omega, (e5 e e1 (Nat.le_refl _)).1, e3⟩
        · exact .inr ⟨u, j, P - u, by omega, ju, by omega, fun i h1 h2 => (e4 i h1 h2).1, fun i h1 h2 => (e5 i h1 h2).1⟩
  · have al := ahead_le2 (r := r) nd sm (sub a (Nat.le_refl _) ak _ (W.cin a (Nat.le_refl _) ak)) q
    rw [show eD r s (c a) = eE r s (c a) from (if_neg q).symm] at al
    have ml : ((aheadL r s seen (eE r s (c a))).length + 1) * P ≤ n * P := Nat.mul_le_mul_right P (by omega)
    rw [Nat.succ_mul] at ml
    obtain ⟨j, j1, j2, j3, j4⟩ := comes W hr hs sub hb (n * P) a (Nat.le_refl _) (by omega) (by rw [mulS]; omega)
    rcases ends_ W hs (show a ≤ j by omega) j3 (u := P) hP (by omega) (by omega) with ⟨e, e1, e2, e3, e5, _⟩ | ⟨e5, _⟩
    · exact .inl ⟨e, by omega, by omega, (e5 e e1 (Nat.le_refl _)).1, e3⟩
    · exact .inr ⟨0, j, P, by omega, by omega, by omega, fun i h1 h2 => by omega, fun i h1 h2 => (e5 i h1 h2).1⟩
/-- a whole visit of s, from its begin -/
structure Vis (P : Nat) (c f : Nat → Int) (ok : Nat → Bool) (s : Int) (j e : Nat) : Prop where
  le : j ≤ e
  f0 : f j = 0
  at_ : ∀ i, j ≤ i → i ≤ e → c i = s ∧ f i = (i - j : Nat)
  no : ∀ i, j ≤ i → i < e → ok i = false
  end_ : ok e = true ∨ f e + 1 = P
theorem vis_ (W : Win r P a k c f ok ns) (hP : 1 ≤ P) (hs : ∀ i, a ≤ i → i ≤ k → s ∈ ns i) {j : Nat} (ja : a ≤ j) (cj : c j = s) (fj : f j = 0) (ju : j + P ≤ k + 1) : ∃ e, e ≤ k ∧ Vis P c f ok s j e := by
  rcases ends_ W hs ja cj (u := P) hP (by omega) ju with ⟨e, e1, e2, e3, e4, e5⟩ | ⟨e4, e5⟩
  · exact ⟨e, by omega, e1, fj, fun i h1 h2 => ⟨(e4 i h1 h2).1, by rw [(e4 i h1 h2).2]; omega⟩, e5, .inl e3⟩
  · refine ⟨j + P - 1, by omega, by omega, fj, fun i h1 h2 => ⟨(e4 i h1 (by omega)).1, by rw [(e4 i h1 (by omega)).2]; omega⟩, fun i h1 h2 => e5 i h1 (by omega), .inr ?_⟩
    rw [(e4 (j + P - 1) (by omega) (by omega)).2]
    omega
theorem visited_ (W : Win r P a k c f ok ns) (hr : 0 < r) (hP : 1 ≤ P) (hs : ∀ i, a ≤ i → i ≤ k → s ∈ ns i) (sub : ∀ i, a ≤ i → i ≤ k → ∀ x ∈ ns i, x ∈ seen) (hb : ∀ x ∈ seen, 0 ≤ x ∧ x < r) (nd : seen.Nodup) (ak : a ≤ k) (L : (seen.length + 1) * P ≤ k + 1 - a + 1) :
    ∃ j e, a ≤ j ∧ e ≤ k ∧ Vis P c f ok s j e := by
  have sm : s ∈ seen := sub a (Nat.le_refl _) ak s (hs a (Nat.le_refl _) ak)
  have fa := W.f0 a (Nat.le_refl _) ak
  obtain ⟨n, hn⟩ : ∃ n, seen.length = n + 1 := ⟨seen.length - 1, by have := List.length_pos_of_mem sm; omega⟩
  rw [hn, Nat.succ_mul, Nat.succ_mul] at L
  by_cases q : c a = s
  · by_cases z : f a = 0
    · obtain ⟨e, h1, h2⟩ := vis_ W hP hs (Nat.le_refl a) q z (by omega)
      exact ⟨a, e, Nat.le_refl _, h1, h2⟩
    · obtain ⟨u, hu⟩ : ∃ u : Nat, f a + u = P := ⟨(P - f a).toNat, by omega⟩
      have al := ahead_le (E := eE r s (c a)) nd sm hr
      have ml : (aheadL r s seen (eE r s (c a))).length * P ≤ n * P := Nat.mul_le_mul_right P (by omega)
      obtain ⟨j, j1, j2, j3, j4⟩ := comes W hr hs sub hb (n * P + u) a (Nat.le_refl _) (by omega) (by rw [mulS]; omega)
      obtain ⟨e, h1, h2⟩ := vis_ W hP hs (show a ≤ j by omega) j3 j4 (by omega)
      exact ⟨j, e, by omega, h1, h2⟩
  · have al := ahead_le2 (r := r) nd sm (sub a (Nat.le_refl _) ak _ (W.cin a (Nat.le_refl _) ak)) q
    rw [show eD r s (c a) = eE r s (c a) from (if_neg q).symm] at al
    have ml : ((aheadL r s seen (eE r s (c a))).length + 1) * P ≤ n * P := Nat.mul_le_mul_right P (by omega)
    rw [Nat.succ_mul] at ml
    obtain ⟨j, j1, j2, j3, j4⟩ := comes W hr hs sub hb (n * P) a (Nat.le_refl _) (by omega) (by rw [mulS]; omega)
    obtain ⟨e, h1, h2⟩ := vis_ W hP hs (show a ≤ j by omega) j3 j4 (by omega)
    exact ⟨j, e, by omega, h1, h2⟩
end
end K25

set_option Elab.async false
set_option maxRecDepth 100000
set_option maxHeartbeats 4000000
/-! windows of a tour: the rows -/
namespace K25
open PySem PySem.Spec PyProof.Rows L2 C8 LamX UF
def rwOk (rows : List Rw) (i : Nat) : Bool := ((rows[i]?).map (·.ok)).getD false
def rwNs (rows : List Rw) (i : Nat) : List Int := ((rows[i]?).map (·.ns)).getD []
section
variable {r : Int} {P : Nat} {s0 : TS} {rows : List Rw} {st : Nat → TS} {a k : Nat} {s : Int} {seen : List Int}
theorem stays_cur {s : TS} {ns : List Int} {c : Int} (hc : s.cur = some c) : stays s ns = (s.op && decide (c ∈ ns)) := by
  unfold stays
  rw [hc]
theorem Made.win (M : Made r P s0 rows st) (hP : 1 ≤ P) (h0 : TOk P s0) (kl : k < rows.length) (hs : ∀ i, a ≤ i → i ≤ k → s ∈ rwNs rows i) : Win r P a k (fun i => (st i).cur.getD 0) (fun i => (st i).bad) (rwOk rows) (rwNs rows) := by
  have row : ∀ i, i ≤ k → ∃ R, rows[i]? = some R ∧ rwOk rows i = R.ok ∧ rwNs rows i = R.ns := fun i h => by
    obtain ⟨R, e⟩ : ∃ R, rows[i]? = some R := ⟨rows[i], List.getElem?_eq_getElem (by omega)⟩
    exact ⟨R, e, by unfold rwOk; rw [e]; rfl, by unfold rwNs; rw [e]; rfl⟩
  have at_ : ∀ i, a ≤ i → i ≤ k → ∃ c, (st i).cur = some c ∧ c ∈ rwNs rows i ∧ (st i).last = c ∧ (st i).op = true := fun i h1 h2 => by
    obtain ⟨R, e, _, e2⟩ := row i h2
    have ne : R.ns ≠ [] := fun z => by
      have := hs i h1 h2
      rw [e2, z] at this
      cases this
    rw [e2]
    cases i with
    | zero => exact (M.first R e).some_ h0 ne
    | succ i =>
      obtain ⟨R0, e0, _⟩ := row i (by omega)
      exact (M.next i R0 R e0 e).some_ ((M.tok hP h0 i (by omega)).rep _) ne
  refine ⟨fun i h1 h2 => ?_, fun i h1 h2 => ?_, fun i h1 h2 => ⟨?_⟩⟩
  · obtain ⟨c, e, m, _⟩ := at_ i h1 h2
    show (st i).cur.getD 0 ∈ _
    rw [e]
    exact m
  · obtain ⟨c, e, m, _, op⟩ := at_ i h1 h2
    have t := M.tok hP h0 i (by omega)
    obtain ⟨_, _, _, z⟩ := t.op op
    exact ⟨t.b0, z⟩
  · obtain ⟨c, e, m, la, op⟩ := at_ i h1 (by omega)
    obtain ⟨c', e', m', la', op'⟩ := at_ (i + 1) (by omega) h2
    obtain ⟨R, er, ok_, _⟩ := row i (by omega)
    obtain ⟨R', er', _, ns'⟩ := row (i + 1) h2
    have A := M.next i R R' er er'
    rw [← ok_, ← ns'] at A
    show (Stay P ((st i).cur.getD 0) (st i).bad (rwOk rows i) (rwNs rows (i + 1)) ∧ (st (i + 1)).cur.getD 0 = (st i).cur.getD 0 ∧ (st (i + 1)).bad = (st i).bad + 1) ∨ (¬ Stay P ((st i).cur.getD 0) (st i).bad (rwOk rows i) (rwNs rows (i + 1)) ∧ (st (i + 1)).bad = 0 ∧ (st (i + 1)).cur.getD 0 ∈ rwNs rows (i + 1) ∧ ∀ x ∈ rwNs rows (i + 1), ((st (i + 1)).cur.getD 0 - ((st i).cur.getD 0 + 1)) % r ≤ (x - ((st i).cur.getD 0 + 1)) % r)
    have cr : (repS P (st i) (rwOk rows i)).cur = some c := by
      unfold repS
      rw [if_pos op]
      cases rwOk rows i <;> exact e
    have lr : (repS P (st i) (rwOk rows i)).last = c := by
      unfold repS
      rw [if_pos op]
      cases rwOk rows i <;> exact la
    have or_ : (repS P (st i) (rwOk rows i)).op = true ↔ rwOk rows i = false ∧ (st i).bad + 1 < P := by
      unfold repS
      rw [if_pos op]
      cases rwOk rows i with
      | true => exact ⟨fun z => (nomatch z), fun z => (nomatch z.1)⟩
      | false => exact ⟨fun z => ⟨rfl, of_decide_eq_true z⟩, fun z => decide_eq_true z.2⟩
    rcases A with ⟨z, e2⟩ | ⟨z, o, fi, e2⟩
    · rw [stays_cur cr, Bool.and_eq_true, decide_eq_true_iff] at z
      obtain ⟨z1, z2⟩ := z
      have zz := or_.mp z1
      refine .inl ⟨⟨zz.1, zz.2, by rw [e]; exact z2⟩, by rw [e2, cr, e], ?_⟩
      rw [e2]
      unfold repS
      rw [if_pos op, zz.1]
      rfl
    · rw [stays_cur cr] at z
      rw [e2] at e'
      have eo : o = some c' := e'
      subst eo
      rcases fi with ⟨ez, _⟩ | ⟨m0, eq, mm, best⟩
      · rw [ez] at m'; cases m'
      · cases eq
        refine .inr ⟨fun zz => ?_, by rw [e2]; rfl, by rw [e2]; exact mm, ?_⟩
        · rw [or_.mpr ⟨zz.1, zz.2.1⟩, Bool.true_and, decide_eq_false_iff_not] at z
          have := zz.2.2
          rw [e] at this
          exact z this
        · rw [e2, e]
          rw [lr] at best
          exact best
/-- what the law tells of a slice: it passed, or P rows are of it -/
def triedB (P : Nat) (s : Int) (W : List Rw) : Bool := W.any (fun R => decide (R.now = some s) && R.ok) || decide (P ≤ W.countP fun R => decide (R.now = some s))
theorem count_run {α : Type} {p : α → Bool} : ∀ {l : List α} {x u : Nat}, x + u ≤ l.length → (∀ i R, x ≤ i → i < x + u → l[i]? = some R → p R = true) → u ≤ l.countP p := by
  intro l x u hl h
  have s : (((l.drop x).take u)).Sublist l := (List.take_sublist _ _).trans (List.drop_sublist _ _)
  have := s.countP_le (p := p)
  have all : ((l.drop x).take u).countP p = ((l.drop x).take u).length := by
    rw [List.countP_eq_length]
    intro R m
    obtain ⟨i, hi⟩ := List.mem_iff_getElem?.mp m
    have il := (List.getElem?_eq_some_iff.mp hi).1
    rw [List.length_take, List.length_drop] at il
    rw [List.getElem?_take_of_lt (by omega), List.getElem?_drop] at hi
    exact h (x + i) R (by omega) (by omega) hi
  rw [List.length_take, List.length_drop] at all
  omega
theorem count_two {α : Type} {p : α → Bool} {l : List α} {x u y v : Nat} (xy : x + u ≤ y) (yl : y + v ≤ l.length) (h1 : ∀ i R, x ≤ i → i < x + u → l[i]? = some R → p R = true) (h2 : ∀ i R, y ≤ i → i < y + v → l[i]? = some R → p R = true) : u + v ≤ l.countP p := by
  have e : l.countP p = (l.take y).countP p + (l.drop y).countP p := by rw [← List.countP_append, List.take_append_drop]
  have a1 : u ≤ (l.take y).countP p := count_run (x := x) (by rw [List.length_take]; omega) fun i R i1 i2 z => h1 i R i1 i2 (by rw [List.getElem?_take_of_lt (by omega)] at z; exact z)
  have a2 : v ≤ (l.drop y).countP p := count_run (x := 0) (by rw [List.length_drop]; omega) fun i R i1 i2 z => h2 (y + i) R (by omega) (by omega) (by rw [List.getElem?_drop] at z; exact z)
  omega
/-- all of a window is tried -/
theorem Made.tried (M : Made r P s0 rows st) (hr : 0 < r) (hP : 1 ≤ P) (h0 : TOk P s0) (kl : k < rows.length) (ak : a ≤ k) (hs : ∀ i, a ≤ i → i ≤ k → s ∈ rwNs rows i) (sub : ∀ i, a ≤ i → i ≤ k → ∀ x ∈ rwNs rows i, x ∈ seen) (hb : ∀ x ∈ seen, 0 ≤ x ∧ x < r) (nd : seen.Nodup) (L : seen.length * P ≤ k + 1 - a) : triedB P s ((rows.drop a).take (k + 1 - a)) = true := by
  have W := M.win hP h0 kl hs
  have cur : ∀ i, a ≤ i → i ≤ k → (st i).cur.getD 0 = s → ∀ R, rows[i]? = some R → decide (R.now = some s) = true := fun i h1 h2 e R er => by
    have m := W.cin i h1 h2
    rw [M.now i R er]
    cases q : (st i).cur with
    | some c => rw [q] at e; exact decide_eq_true (congrArg some e)
    | none =>
      obtain ⟨R, er', e2⟩ : ∃ R, rows[i]? = some R ∧ rwNs rows i = R.ns := ⟨R, er, by unfold rwNs; rw [er]; rfl⟩
      have ne : R.ns ≠ [] := fun z => by
        have := hs i h1 h2
        rw [e2, z] at this
        cases this
      have : ∃ c, (st i).cur = some c := by
        cases i with
        | zero => obtain ⟨c, e, _⟩ := (M.first R er').some_ h0 ne; exact ⟨c, e⟩
        | succ i =>
          obtain ⟨R0, e0⟩ : ∃ R0, rows[i]? = some R0 := ⟨rows[i], List.getElem?_eq_getElem (by omega)⟩
          obtain ⟨c, e, _⟩ := (M.next i R0 R e0 er').some_ ((M.tok hP h0 i (by omega)).rep _) ne
          exact ⟨c, e⟩
      obtain ⟨c, e⟩ := this
      rw [q] at e
      cases e
  have lenW : ((rows.drop a).take (k + 1 - a)).length = k + 1 - a := by
    rw [List.length_take, List.length_drop]
    omega
  have get : ∀ i, i < k + 1 - a → ((rows.drop a).take (k + 1 - a))[i]? = rows[a + i]? := fun i h => by rw [List.getElem?_take_of_lt h, List.getElem?_drop]
  unfold triedB
  rcases tried_ W hr hP hs sub hb nd ak L with ⟨i, i1, i2, i3, i4⟩ | ⟨u, j, v, uv, uj, jv, h1, h2⟩
  · obtain ⟨R, er⟩ : ∃ R, rows[i]? = some R := ⟨rows[i], List.getElem?_eq_getElem (by omega)⟩
    have ok : R.ok = true := by
      unfold rwOk at i4
      rw [er] at i4
      exact i4
    rw [show (((rows.drop a).take (k + 1 - a)).any fun R => decide (R.now = some s) && R.ok) = true by
      refine List.any_eq_true.mpr ⟨R, List.mem_iff_getElem?.mpr ⟨i - a, ?_⟩, by rw [cur i i1 i2 i3 R er, ok]; rfl⟩
      rw [get (i - a) (by omega), show a + (i - a) = i by omega]
      exact er]
    rfl
  · rw [decide_eq_true (p := P ≤ _), Bool.or_true]
    rw [← uv]
    refine count_two (x := 0) (y := j - a) (by omega) (by rw [lenW]; omega) (fun i R i1 i2 z => ?_) (fun i R i1 i2 z => ?_)
    · rw [get i (by omega)] at z
      exact cur (a + i) (by omega) (by omega) (h1 _ (by omega) (by omega)) R z
    · rw [get i (by omega)] at z
      exact cur (a + i) (by omega) (by omega) (h2 _ (by omega) (by omega)) R z
end
/-- the law's own look at the visits -/
structure Sc where
  found : List (Nat × Nat × Int)
  beg : Nat
  spot : Option Int
  bad : Int
def scR (P : Nat) (k : Nat) (R : Rw) (S : Sc) : Sc := match R.now with
  | none => { S with spot := none }
  | some c =>
    let beg := if S.spot = some c then S.beg else k
    let bad := (if S.spot = some c then S.bad else 0) + (if R.ok = true then 0 else 1)
    if R.ok = true ∨ bad = P then ⟨S.found ++ [(beg, k, c)], beg, none, bad⟩ else ⟨S.found, beg, some c, bad⟩
def scan (P : Nat) (rows : List Rw) : Nat → Sc
  | 0 => ⟨[], 0, none, 0⟩
  | k + 1 => match rows[k]? with
    | some R => scR P k R (scan P rows k)
    | none => scan P rows k
section
variable {r : Int} {P : Nat} {s0 : TS} {rows : List Rw} {st : Nat → TS} {a k : Nat} {s : Int} {seen : List Int}
/-- the tour ahead of row k -/
def stB (P : Nat) (s0 : TS) (rows : List Rw) (st : Nat → TS) : Nat → TS
  | 0 => s0
  | k + 1 => repS P (st k) (rwOk rows k)
structure ScOk (S : Sc) (t : TS) : Prop where
  spot : S.spot = if t.op = true then t.cur else none
  bad : t.op = true → S.bad = t.bad ∧ 1 ≤ t.bad
theorem scR_stay {S : Sc} {R : Rw} {c : Int} (hn : R.now = some c) (sp : S.spot = some c) : scR P k R S = if R.ok = true ∨ S.bad + (if R.ok = true then 0 else 1) = P then ⟨S.found ++ [(S.beg, k, c)], S.beg, none, S.bad + (if R.ok = true then 0 else 1)⟩ else ⟨S.found, S.beg, some c, S.bad + (if R.ok = true then 0 else 1)⟩ := by
  unfold scR
  rw [hn]
  simp only [sp, if_true]
theorem scR_new {S : Sc} {R : Rw} {c : Int} (hn : R.now = some c) (sp : ¬ S.spot = some c) : scR P k R S = if R.ok = true ∨ (0 : Int) + (if R.ok = true then 0 else 1) = P then ⟨S.found ++ [(k, k, c)], k, none, (0 : Int) + (if R.ok = true then 0 else 1)⟩ else ⟨S.found, k, some c, (0 : Int) + (if R.ok = true then 0 else 1)⟩ := by
  unfold scR
  rw [hn]
  simp only [sp, if_false]
theorem scR_ok (hP : 1 ≤ P) {S : Sc} {t t' : TS} {R : Rw} (h : ScOk S t) (tk : TOk P t) (A : AimR r t R.ns t') (hn : R.now = t'.cur) : ScOk (scR P k R S) (repS P t' R.ok) ∧
    (∀ c, t'.cur = some c → (S.spot = some c ↔ t' = t ∧ t.op = true) ∧ (scR P k R S).beg = (if t'.bad = 0 then k else S.beg) ∧ ((R.ok = true ∨ t'.bad + 1 = P) → ((if t'.bad = 0 then k else S.beg), k, c) ∈ (scR P k R S).found)) ∧ ∀ x ∈ S.found, x ∈ (scR P k R S).found := by
  rcases A with ⟨z, rfl⟩ | ⟨z, o, fi, rfl⟩
  · -- it stays
    unfold stays at z
    obtain ⟨op, z⟩ := Bool.and_eq_true_iff.mp z
    obtain ⟨c, e1, e2, e3⟩ := tk.op op
    have sp : S.spot = some c := by rw [h.spot, if_pos op, e1]
    have hb := h.bad op
    rw [scR_stay (P := P) (k := k) (hn.trans e1) sp]
    have b0 : ¬ t'.bad = 0 := by omega
    refine ⟨?_, fun c' ec => ?_, fun x m => ?_⟩
    · unfold repS
      rw [if_pos op]
      by_cases q : R.ok = true ∨ S.bad + (if R.ok = true then 0 else 1) = P
      · rw [if_pos q]
        cases ok : R.ok with
        | true => exact ⟨rfl, fun z => by cases z⟩
        | false =>
          rw [ok] at q
          have q : S.bad + 1 = P := q.resolve_left (by decide)
          have lt : decide (t'.bad + 1 < (P : Int)) = false := decide_eq_false (by omega)
          refine ⟨?_, fun z => ?_⟩
          · show none = if decide (t'.bad + 1 < (P : Int)) = true then _ else none
            rw [lt]
            rfl
          · have z : decide (t'.bad + 1 < (P : Int)) = true := z
            rw [lt] at z
            cases z
      · rw [if_neg q]
        have nok : R.ok = false := by
          cases ok : R.ok with
          | true => exact absurd (.inl ok) q
          | false => rfl
        rw [nok] at q ⊢
        have q : ¬ S.bad + 1 = P := fun z => q (.inr z)
        have lt : decide (t'.bad + 1 < (P : Int)) = true := decide_eq_true (by omega)
        refine ⟨?_, fun _ => ⟨?_, ?_⟩⟩
        · show some c = if decide (t'.bad + 1 < (P : Int)) = true then t'.cur else none
          rw [lt, e1]
          rfl
        · show S.bad + 1 = t'.bad + 1
          omega
        · show 1 ≤ t'.bad + 1
          omega
    · rw [e1] at ec
      cases ec
      rw [if_neg b0]
      refine ⟨⟨fun _ => ⟨rfl, op⟩, fun _ => sp⟩, ?_, fun z => ?_⟩
      · by_cases q : R.ok = true ∨ S.bad + (if R.ok = true then 0 else 1) = P
        · rw [if_pos q]
        · rw [if_neg q]
      · have q : R.ok = true ∨ S.bad + (if R.ok = true then 0 else 1) = P := by
          cases ok : R.ok with
          | true => exact .inl rfl
          | false =>
            rw [ok] at z
            refine .inr ?_
            have := z.resolve_left (by decide)
            show S.bad + 1 = P
            omega
        rw [if_pos q]
        exact List.mem_append_right _ (.head _)
    · by_cases q : R.ok = true ∨ S.bad + (if R.ok = true then 0 else 1) = P
      · rw [if_pos q]
        exact List.mem_append_left _ m
      · rw [if_neg q]
        exact m
  · cases o with
    | none =>
      have E : scR P k R S = { S with spot := none } := by
        unfold scR
        rw [hn]
        rfl
      rw [E]
      exact ⟨⟨rfl, fun z => (nomatch z)⟩, fun c ec => (nomatch ec), fun x m => m⟩
    | some c =>
      have ns : ¬ S.spot = some c := fun sp => by
        rw [h.spot] at sp
        by_cases op : t.op = true
        · rw [if_pos op] at sp
          rcases fi with ⟨_, e⟩ | ⟨m, e, mm, _⟩
          · cases e
          · cases e
            unfold stays at z
            rw [op, sp, Bool.true_and, decide_eq_false_iff_not] at z
            exact z mm
        · rw [if_neg op] at sp
          cases sp
      rw [scR_new (P := P) (k := k) (hn : R.now = some c) ns]
      refine ⟨?_, fun c' ec => ?_, fun x m => ?_⟩
      · unfold repS
        rw [if_pos (show (begS t (some c)).op = true from rfl)]
        by_cases q : R.ok = true ∨ (0 : Int) + (if R.ok = true then 0 else 1) = P
        · rw [if_pos q]
          cases ok : R.ok with
          | true => exact ⟨rfl, fun z => by cases z⟩
          | false =>
            rw [ok] at q
            have q : (0 : Int) + 1 = P := q.resolve_left (by decide)
            have lt : decide ((0 : Int) + 1 < (P : Int)) = false := decide_eq_false (by omega)
            refine ⟨?_, fun z => ?_⟩
            · show none = if decide ((0 : Int) + 1 < (P : Int)) = true then _ else none
              rw [lt]
              rfl
            · have z : decide ((0 : Int) + 1 < (P : Int)) = true := z
              rw [lt] at z
              cases z
        · rw [if_neg q]
          have nok : R.ok = false := by
            cases ok : R.ok with
            | true => exact absurd (.inl ok) q
            | false => rfl
          rw [nok] at q ⊢
          have q : ¬ (0 : Int) + 1 = P := fun z => q (.inr z)
          have lt : decide ((0 : Int) + 1 < (P : Int)) = true := decide_eq_true (by omega)
          refine ⟨?_, fun _ => ⟨rfl, ?_⟩⟩
          · show some c = if decide ((0 : Int) + 1 < (P : Int)) = true then some c else none
            rw [lt]
            rfl
          · show 1 ≤ (0 : Int) + 1
            omega
      · have ec : some c = some c' := ec
        cases ec
        have e0 : (begS t (some c)).bad = 0 := rfl
        rw [if_pos e0]
        refine ⟨⟨fun z => absurd z ns, fun ⟨e, op⟩ => ?_⟩, ?_, fun z => ?_⟩
        · rw [h.spot, if_pos op, ← e]
          rfl
        · by_cases q : R.ok = true ∨ (0 : Int) + (if R.ok = true then 0 else 1) = P
          · rw [if_pos q]
          · rw [if_neg q]
        · have q : R.ok = true ∨ (0 : Int) + (if R.ok = true then 0 else 1) = P := by
            cases ok : R.ok with
            | true => exact .inl rfl
            | false =>
              rw [ok] at z
              exact .inr (z.resolve_left (by decide))
          rw [if_pos q]
          exact List.mem_append_right _ (.head _)
      · by_cases q : R.ok = true ∨ (0 : Int) + (if R.ok = true then 0 else 1) = P
        · rw [if_pos q]
          exact List.mem_append_left _ m
        · rw [if_neg q]
          exact m
end
section
variable {r : Int} {P : Nat} {s0 : TS} {rows : List Rw} {st : Nat → TS} {a k : Nat} {s : Int} {seen : List Int}
theorem Made.aim (M : Made r P s0 rows st) {k : Nat} {R : Rw} (e : rows[k]? = some R) : AimR r (stB P s0 rows st k) R.ns (st k) := by
  cases k with
  | zero => exact M.first R e
  | succ k =>
    have kl := (List.getElem?_eq_some_iff.mp e).1
    obtain ⟨R0, e0⟩ : ∃ R0, rows[k]? = some R0 := ⟨rows[k], List.getElem?_eq_getElem (by omega)⟩
    have := M.next k R0 R e0 e
    show AimR r (repS P (st k) (rwOk rows k)) _ _
    unfold rwOk
    rw [e0]
    exact this
theorem Made.tokB (M : Made r P s0 rows st) (hP : 1 ≤ P) (h0 : TOk P s0) {k : Nat} (h : k ≤ rows.length) : TOk P (stB P s0 rows st k) := by
  cases k with
  | zero => exact h0
  | succ k => exact (M.tok hP h0 k h).rep _
theorem Made.scan_ok (M : Made r P s0 rows st) (hP : 1 ≤ P) (h0 : TOk P s0) (op0 : s0.op = false) : ∀ k, k ≤ rows.length → ScOk (scan P rows k) (stB P s0 rows st k)
  | 0, _ => ⟨by rw [show (stB P s0 rows st 0).op = false from op0]; rfl, fun z => by rw [show (stB P s0 rows st 0).op = false from op0] at z; cases z⟩
  | k + 1, h => by
    obtain ⟨R, e⟩ : ∃ R, rows[k]? = some R := ⟨rows[k], List.getElem?_eq_getElem (by omega)⟩
    have ok : rwOk rows k = R.ok := by unfold rwOk; rw [e]; rfl
    have es : scan P rows (k + 1) = scR P k R (scan P rows k) := by
      show (match rows[k]? with | some R => scR P k R (scan P rows k) | none => scan P rows k) = _
      rw [e]
    have eb : stB P s0 rows st (k + 1) = repS P (st k) R.ok := by
      show repS P (st k) (rwOk rows k) = _
      rw [ok]
    rw [es, eb]
    exact (scR_ok hP (Made.scan_ok M hP h0 op0 k (by omega)) (M.tokB hP h0 (by omega)) (M.aim e) (M.now k R e)).1
theorem scan_mono {k j : Nat} (h : k ≤ j) : ∀ x ∈ (scan P rows k).found, x ∈ (scan P rows j).found := by
  induction j with
  | zero => intro x m; have : k = 0 := by omega
            rw [← this]; exact m
  | succ j ih =>
    intro x m
    rcases Nat.lt_or_ge j k with q | q
    · have : k = j + 1 := by omega
      rw [← this]; exact m
    · have := ih q x m
      unfold scan
      cases rows[j]? with
      | none => exact this
      | some R =>
        show x ∈ (scR P j R (scan P rows j)).found
        unfold scR
        cases R.now with
        | none => exact this
        | some c =>
          by_cases q : R.ok = true ∨ (if (scan P rows j).spot = some c then (scan P rows j).bad else 0) + (if R.ok = true then 0 else 1) = P
          · simp only [if_pos q]
            exact List.mem_append_left _ this
          · simp only [if_neg q]
            exact this
/-- a whole visit is found -/
theorem Made.found (M : Made r P s0 rows st) (hP : 1 ≤ P) (h0 : TOk P s0) (op0 : s0.op = false) {j e : Nat} (el : e < rows.length) (cur : ∀ i, j ≤ i → i ≤ e → (st i).cur = some s) (V : Vis P (fun i => (st i).cur.getD 0) (fun i => (st i).bad) (rwOk rows) s j e) : (j, e, s) ∈ (scan P rows rows.length).found := by
  have row : ∀ i, i ≤ e → ∃ R, rows[i]? = some R ∧ rwOk rows i = R.ok := fun i h => by
    obtain ⟨R, e⟩ : ∃ R, rows[i]? = some R := ⟨rows[i], List.getElem?_eq_getElem (by omega)⟩
    exact ⟨R, e, by unfold rwOk; rw [e]; rfl⟩
  have beg : ∀ d, j + d ≤ e → (scan P rows (j + d + 1)).beg = j := by
    intro d
    induction d with
    | zero =>
      intro h
      obtain ⟨R, er, ok⟩ := row j (by omega)
      have z := (scR_ok (k := j) hP (M.scan_ok hP h0 op0 j (by omega)) (M.tokB hP h0 (by omega)) (M.aim er) (M.now j R er)).2.1 s (cur j (Nat.le_refl _) (by omega))
      have es : scan P rows (j + 1) = scR P j R (scan P rows j) := by
        show (match rows[j]? with | some R => scR P j R (scan P rows j) | none => scan P rows j) = _
        rw [er]
      show (scan P rows (j + 1)).beg = j
      rw [es]
      show (scR P j R (scan P rows j)).beg = j
      rw [z.2.1, if_pos (show (st j).bad = 0 from V.f0)]
    | succ d ih =>
      intro h
      obtain ⟨R, er, ok⟩ := row (j + (d + 1)) h
      have z := (scR_ok (k := j + (d + 1)) hP (M.scan_ok hP h0 op0 _ (by omega)) (M.tokB hP h0 (by omega)) (M.aim er) (M.now _ R er)).2.1 s (cur _ (by omega) h)
      have f := (V.at_ (j + (d + 1)) (by omega) h).2
      have f : (st (j + (d + 1))).bad = ((j + (d + 1) - j : Nat) : Int) := f
      have es : scan P rows (j + (d + 1) + 1) = scR P (j + (d + 1)) R (scan P rows (j + (d + 1))) := by
        show (match rows[j + (d + 1)]? with | some R => scR P (j + (d + 1)) R (scan P rows (j + (d + 1))) | none => scan P rows (j + (d + 1))) = _
        rw [er]
      rw [es]
      rw [z.2.1, if_neg (by omega)]
      exact ih (by omega)
  obtain ⟨R, er, ok⟩ := row e (Nat.le_refl _)
  have z := (scR_ok (k := e) hP (M.scan_ok hP h0 op0 e (by omega)) (M.tokB hP h0 (by omega)) (M.aim er) (M.now e R er)).2.1 s (cur e V.le (Nat.le_refl _))
  have hit := z.2.2 (by rw [← ok]; exact V.end_)
  have eb : (if (st e).bad = 0 then e else (scan P rows e).beg) = j := by
    have f : (st e).bad = ((e - j : Nat) : Int) := (V.at_ e V.le (Nat.le_refl _)).2
    by_cases q : e = j
    · rw [if_pos (by omega), q]
    · have := V.le
      rw [if_neg (by omega)]
      have b := beg (e - j - 1) (by omega)
      rw [show j + (e - j - 1) + 1 = e by omega] at b
      exact b
  rw [eb] at hit
  refine scan_mono (k := e + 1) (by omega) _ ?_
  have es : scan P rows (e + 1) = scR P e R (scan P rows e) := by
    show (match rows[e]? with | some R => scR P e R (scan P rows e) | none => scan P rows e) = _
    rw [er]
  rw [es]
  exact hit
/-- all that stay are visited -/
theorem Made.visited (M : Made r P s0 rows st) (hr : 0 < r) (hP : 1 ≤ P) (h0 : TOk P s0) (op0 : s0.op = false) (kl : k < rows.length) (ak : a ≤ k) (hs : ∀ i, a ≤ i → i ≤ k → s ∈ rwNs rows i) (sub : ∀ i, a ≤ i → i ≤ k → ∀ x ∈ rwNs rows i, x ∈ seen) (hb : ∀ x ∈ seen, 0 ≤ x ∧ x < r) (nd : seen.Nodup) (L : (seen.length + 1) * P ≤ k + 1 - a + 1) :
    ∃ j e, (j, e, s) ∈ (scan P rows rows.length).found ∧ a ≤ j ∧ e ≤ k := by
  have W := M.win hP h0 kl hs
  obtain ⟨j, e, aj, ek, V⟩ := visited_ W hr hP hs sub hb nd ak L
  refine ⟨j, e, M.found hP h0 op0 (by omega) (fun i h1 h2 => ?_) V, aj, ek⟩
  have ia : a ≤ i := by omega
  have ik : i ≤ k := by omega
  have e1 : (st i).cur.getD 0 = s := (V.at_ i h1 h2).1
  obtain ⟨R, er⟩ : ∃ R, rows[i]? = some R := ⟨rows[i], List.getElem?_eq_getElem (by omega)⟩
  have ne : R.ns ≠ [] := fun z => by
    have := hs i ia ik
    unfold rwNs at this
    rw [er] at this
    have : s ∈ R.ns := this
    rw [z] at this
    cases this
  obtain ⟨c, ec, _⟩ := (M.aim er).some_ (M.tokB hP h0 (by omega)) ne
  rw [ec] at e1 ⊢
  exact congrArg some e1
end
end K25

set_option Elab.async false
set_option maxRecDepth 100000
set_option maxHeartbeats 8000000
set_option exponentiation.threshold 4096
set_option linter.unusedVariables false
/-! the draws of a tour -/
namespace K25
open PySem PySem.Spec PyProof.Rows L2 C8 LamX UF
def flag (fl : List Bool) (x : Int) : Bool := fl.getD x.toNat false
theorem bl_at {fl : List Bool} {x : Int} (h0 : 0 ≤ x) (h1 : x < fl.length) : atI (fl.map V.bl) x = some (.bl (flag fl x)) := by
  obtain ⟨j, rfl⟩ := Int.eq_ofNat_of_zero_le h0
  have hl : j < fl.length := by omega
  refine atI_nat ?_
  rw [List.getElem?_map, List.getElem?_eq_getElem hl]
  unfold flag
  rw [List.getD_eq_getElem?_getD, Int.toNat_natCast, List.getElem?_eq_getElem hl]
  rfl
theorem ix_lt {n : Nat} {i : Int} (h0 : 0 ≤ i) (h1 : i < n) : ixN n i = some i.toNat := by
  unfold ixN
  rw [if_pos h0, if_pos h1]
theorem map_set {fl : List Bool} {i : Nat} {b : Bool} : (fl.map V.bl).set i (.bl b) = (fl.set i b).map V.bl := by rw [List.map_set]
def spFlags : Sp := fun vs H Q _ => ∃ (b c : Addr) (r own : Int), vs = [.ref b, .int r, .int own] ∧ Box H b c ∧ 2 ≤ r ∧ r ≤ 256 ∧
  ∀ (y : Addr) (fl : List Bool) (H' : Hp), Nw H y → Fr [b] H H' → Box H' b c → H' y = some (.lst (fl.map V.bl)) → fl.length = r.toNat → Q (.ref y) H'
def spLFirst : Sp := fun vs H Q _ => ∃ (r place : Int) (l : Addr) (ns : List Int), vs = [.int r, .int place, .ref l] ∧ 0 < r ∧ H l = some (.lst (ns.map V.int)) ∧ 0 < ns.length ∧ ns.length ≤ 1000 ∧ (∀ x ∈ ns, 0 ≤ x) ∧ (∀ x ∈ ns, x < r) ∧ ∀ (m : Int) (H' : Hp), Fr [] H H' → IsFirst r place ns (some m) → Q (.int m) H'
def spPool : Sp := fun vs H Q _ => ∃ (b c : Addr) (r own : Int) (lg : Bool), vs = [.ref b, .int r, .int own, .bl lg] ∧ Box H b c ∧ 2 ≤ r ∧ r ≤ 256 ∧ 0 ≤ own ∧ own < r ∧
  ∀ (y : Addr) (pool : List Int) (H' : Hp), Nw H y → Fr [b] H H' → Box H' b c → H' y = some (.lst (pool.map V.int)) → Seats pool r → 1 ≤ pool.length → pool.length ≤ 20 → Q (.ref y) H'
def metL (r place : Int) (i : Nat) : List Int := (List.range i).map fun k => (place + ((k : Nat) : Int)) % r
theorem met_seats {r place : Int} {i : Nat} (hr : 0 < r) (hi : (i : Int) ≤ r) : Seats (metL r place i) r := by
  refine ⟨?_, fun x m => ?_, fun x m => ?_⟩
  · unfold metL List.Nodup
    rw [List.pairwise_map]
    refine List.Pairwise.imp_of_mem (fun {a b} ha hb hab e => hab ?_) (List.nodup_range (n := i))
    have ha := List.mem_range.mp ha
    have hb := List.mem_range.mp hb
    have h1 := forth (r := r) (s := place) (k := (a : Int)) (by omega) (by omega)
    have h2 := forth (r := r) (s := place) (k := (b : Int)) (by omega) (by omega)
    rw [e, h2] at h1
    omega
  · obtain ⟨k, _, rfl⟩ := List.mem_map.mp m
    exact emod_nn hr _
  · obtain ⟨k, _, rfl⟩ := List.mem_map.mp m
    exact emod_lt' hr _
theorem seats_sub {xs ys : List Int} {r : Int} (h : Seats ys r) (s : xs.Sublist ys) : Seats xs r := ⟨h.nd.sublist s, fun x m => h.lo x (s.subset m), fun x m => h.hi x (s.subset m)⟩
theorem seats_perm {xs ys : List Int} {r : Int} (h : Seats ys r) (p : xs.Perm ys) : Seats xs r := ⟨p.nodup_iff.mpr h.nd, fun x m => h.lo x (p.mem_iff.mp m), fun x m => h.hi x (p.mem_iff.mp m)⟩
theorem cut_take (ns : List Int) {c : Int} (h : 0 ≤ c) : cutV (ns.map V.int) none (some c) = (ns.take c.toNat).map V.int := by
  obtain ⟨j, rfl⟩ := Int.eq_ofNat_of_zero_le h
  unfold cutV
  rw [HT.sIx_nat, List.length_map, show HT.sIx ns.length 0 none = 0 from rfl, List.drop_zero, Nat.sub_zero, Int.toNat_natCast, List.map_take]
  rcases Nat.le_total j ns.length with q | q
  · rw [Nat.min_eq_left q]
  · rw [Nat.min_eq_right q, List.take_of_length_le (by rw [List.length_map]; omega), List.take_of_length_le (by rw [List.length_map]; omega)]
section
variable {P : Program} {w : World} {K : PySem.W.Frag} {mg : Str → Option Value} {base : Heap} {C S : Addr}
theorem c_law_flags (T : Bl mg) (c_law_draw : Cal P w K mg base 1 "_law_draw" spDraw []) (d : D0 K mg "_law_flags" s_law_flags ["box", "ring", "own"]) : Cal P w K mg base 2 "_law_flags" spFlags [] := by
  refine cal d sc_law_flags (fun vs H Q E h => ?_) (fun cdv A outer f s H vs Q E hr h => ?_)
  · obtain ⟨b, c, r, own, rfl, _⟩ := h
    rfl
  · obtain ⟨b, c, r, own, rfl, B, r2, r256, k⟩ := h
    refine ⟨_, (pss_cons (ps_set (i := 3) sc_law_flags.nd rfl (Or.inl rfl) (pe_c c_law_draw hr (by decide) rfl (pa_cons (pv 0) (pa_cons pe_int pa_nil))))
      (pss_cons (ps_set (i := 4) sc_law_flags.nd rfl (Or.inl rfl) pe_int)
      (pss_cons (ps_set (i := 5) sc_law_flags.nd rfl (Or.inl rfl) (pe_lst pa_nil))
      (pss_cons (ps_for PassesOwn.never rfl (pi_range1 rfl T.range (pa_cons (pv 1) pa_nil)) (pg_name (i := 6) sc_law_flags.nd rfl (Or.inl rfl)) (pss_cut (ps_if (pt_cmpR op_eq (pe_op op_mod (pv 6) pe_int) pe_int (nomark _)) (pss_cons (ps_set (i := 4) sc_law_flags.nd rfl (Or.inl rfl) (pe_c c_law_draw hr (by decide) rfl (pa_cons (pv 0) (pa_cons pe_int pa_nil))))
      (pss_cut (ps_if (pt_cmpR op_eq (pv 3) pe_int (nomark _)) (pss_one (ps_set (i := 4) sc_law_flags.nd rfl (Or.inl rfl) (pe_op op_and (pv 4) (pe_c c_law_draw hr (by decide) rfl (pa_cons (pv 0) (pa_cons pe_int pa_nil)))))) pss_nil)
      (pss_one (ps_if (pt_cmpR op_eq (pv 3) pe_int (nomark _)) (pss_one (ps_set (i := 4) sc_law_flags.nd rfl (Or.inl rfl) pe_int)) pss_nil)))) pss_nil)
      (pss_one (ps_expr (pe_bm PySem.F.plainAttrs_list PySem.F.slot_list_append PySem.F.type_list_append mt_append (pv 5) (pa_cons (pe_and (pe_cmpR op_eq (pe_op op_mod (pe_callTy call_int1 (by rfl) T.int (by decide +kernel) (pa_cons (pe_op op_shr (pv 4) (pe_op op_mod (pv 6) pe_int)) pa_nil)) pe_int) pe_int (nomark _)) (pe_one (pe_cmpR op_ne (pv 6) (pv 2) (nomark _)))) pa_nil))))))
      (pss_one (ps_ret (pv 5))))))), ?_⟩
    refine ⟨_, rfl, b, c, 3, rfl, B, by decide, by decide +kernel, fun d1 H1 a1 a2 B1 X1 => ?_⟩
    refine ⟨by show 0 ≤ sizeLine; decide, fun D nD => ?_⟩
    obtain ⟨Db, Dc⟩ := B1.new_ne nD
    refine ⟨_, rfl, _, rfl, by omega, by omega, ?_⟩
    refine for_range (lo := 0) (n := r.toNat) (fun i σ H' => Box H' b c ∧ Fr [b] H H' ∧ ∃ (ch : Int) (fl : List Bool) (v5 : Option V), fl.length = i ∧ H' D = some (.lst (fl.map V.bl)) ∧ σ = [some (.ref b), some (.int r), some (.int own), some (.int d1), some (.int ch), some (.ref D), v5]) ?_ ?_ ?_
    · exact ⟨B1.new nD _, X1.new nD _, 0, [], none, rfl, upd_same, rfl⟩
    · rintro i σ H2 hi ⟨B2, X2, ch, fl, v5, ln, hD, rfl⟩
      have St : ∀ H' : Hp, Fr [b] H2 H' → Box H' b c → Box H' b c ∧ Fr [b] H H' ∧ H' D = some (.lst (fl.map V.bl)) := fun H' X B => ⟨B, X2.trans X, X.lst hD (not_one Db)⟩
      refine ⟨fun σ H' => (Box H' b c ∧ Fr [b] H H' ∧ H' D = some (.lst (fl.map V.bl))) ∧ ∃ ch : Int, σ = [some (.ref b), some (.int r), some (.int own), some (.int d1), some (.int ch), some (.ref D), some (.int (0 + (i : Int)))], ?_, ?_⟩
      · refine ⟨_, rfl, _, _, rfl, rfl, pm (by decide), rfl, _, rfl, ite2 (fun _ => ?_) (fun _ => ⟨St H2 (Fr.refl _ _) B2, ch, rfl⟩)⟩
        refine ⟨_, rfl, b, c, _, rfl, B2, by decide, by decide +kernel, fun d3 H3 a3 a4 B3 X3 => ?_⟩
        refine ⟨fun σ H' => (Fr [b] H2 H' ∧ Box H' b c) ∧ ∃ ch : Int, σ = [some (.ref b), some (.int r), some (.int own), some (.int d1), some (.int ch), some (.ref D), some (.int (0 + (i : Int)))], ?_, ?_⟩
        · refine ⟨_, rfl, rfl, _, rfl, ite2 (fun _ => ?_) (fun _ => ⟨⟨X3, B3⟩, _, rfl⟩)⟩
          refine ⟨_, rfl, _, rfl, b, c, _, rfl, B3, by decide, by decide +kernel, fun d5 H5 _ _ B5 X5 => ?_⟩
          exact ⟨_, _, rfl, rfl, ⟨X3.trans X5, B5⟩, _, rfl⟩
        · rintro σ H5 ⟨⟨X5, B5⟩, ch5, rfl⟩
          exact ⟨_, rfl, rfl, _, rfl, ite2 (fun _ => ⟨St H5 X5 B5, _, rfl⟩) (fun _ => ⟨St H5 X5 B5, _, rfl⟩)⟩
      · rintro σ H3 ⟨⟨B3, X3, hD3⟩, ch3, rfl⟩
        have q0 : 0 ≤ (0 + (i : Int)) % 16 := Int.emod_nonneg _ (by decide)
        have fin : ∀ bb : Bool, ∃ (l : Addr) (xs : List V) (v : V), V.ref D = .ref l ∧ [V.bl bb] = [v] ∧ H3 l = some (.lst xs) ∧ xs.length < sizeLine ∧ Box (upd H3 l (.lst (xs ++ [v]))) b c ∧ Fr [b] H (upd H3 l (.lst (xs ++ [v]))) ∧ ∃ (ch : Int) (fl : List Bool) (v5 : Option V), fl.length = i + 1 ∧ (upd H3 l (.lst (xs ++ [v]))) D = some (.lst (fl.map V.bl)) ∧
            [some (V.ref b), some (.int r), some (.int own), some (.int d1), some (.int ch3), some (.ref D), some (.int (0 + (i : Int)))] = [some (.ref b), some (.int r), some (.int own), some (.int d1), some (.int ch), some (.ref D), v5] := fun bb =>
          ⟨D, _, _, rfl, rfl, hD3, by rw [List.length_map]; exact small1000' (by omega), B3.off Db Dc _, X3.late (X1.live D (.of nD)) (.lst hD3) _, _, fl ++ [bb], _, by rw [List.length_append, ln]; rfl, by rw [upd_same, List.map_append]; rfl, rfl⟩
        refine ⟨_, rfl, .inl ⟨rfl, _, SqL.of hD3⟩, _, rfl, _, rfl, _, _, rfl, rfl, pm (by decide), _, _, rfl, rfl, q0, .inl ⟨_, rfl, _, _, rfl, rfl, pm (by decide), rfl, _, rfl, ite2 (fun _ => ?_) (fun _ => fin _)⟩⟩
        exact ⟨_, rfl, _, rfl, rfl, fin _⟩
    · rintro σ H2 ⟨B2, X2, ch, fl, v5, ln, hD, rfl⟩
      exact ⟨_, rfl, k D fl H2 (X1.live D (.of nD)) X2 B2 hD ln⟩
theorem c_law_first (T : Bl mg) (d : D0 K mg "_law_first" s_law_first ["ring", "place", "names"]) : Cal P w K mg base 1 "_law_first" spLFirst [] := by
  refine cal d sc_law_first (fun vs H Q E h => ?_) (fun cdv A outer f s H vs Q E hr h => ?_)
  · obtain ⟨r, place, l, ns, rfl, _⟩ := h
    rfl
  · obtain ⟨r, place, l, ns, rfl, r0, hl, l0, l1, h0, h1, k⟩ := h
    refine ⟨_, (pss_cons (ps_set (i := 3) sc_law_first.nd rfl (Or.inl rfl) (pe_callB (cr_min rfl) (by rfl) T.min (by decide +kernel) (pa_cons (pe_lc (own := [("spot", 4)]) (g := gName 4) (tt := tYes) (by rfl) sc_law_first.nd (pi_list (pv 2)) (blkOk_by (own := [("spot", 4)]) (N := n_law_first) (sc := C8.fnScope s_law_first) (by decide +kernel)) (fun _ _ _ _ _ => pg_name (i := 4) sc_law_first.nd rfl (Or.inl rfl)) (fun _ _ _ _ _ => pts_nil) (fun _ _ _ _ _ => (pe_op op_mod (pe_callTy call_int1 (by rfl) T.int (by decide +kernel) (pa_cons (pe_op op_sub (pv 4) (pv 1)) pa_nil)) (pv 0)))) pa_nil)))
      (pss_one (ps_ret (pe_op op_mod (pe_callTy call_int1 (by rfl) T.int (by decide +kernel) (pa_cons (pe_op op_add (pv 1) (pv 3)) pa_nil)) (pv 0))))), ?_⟩
    refine ⟨_, rfl, l, rfl, ⟨_, SqL.of hl⟩, fun D nD => ?_⟩
    refine lc_list (xs := ns.map V.int) (fun i H' => Fr [] H H' ∧ H' D = some (.lst (((ns.take i).map fun x => (x - place) % r).map V.int))) ⟨Fr.new0 nD _, upd_same⟩ (fun i H' _ ⟨s1, _⟩ => SqL.of (s1.lst hl not_nil)) (fun i x H' hx ⟨s1, g1⟩ => ?_) (fun H' ⟨s1, g1⟩ => ?_)
    · obtain ⟨z, e, rfl⟩ := map_getE hx
      refine ⟨rfl, _, rfl, _, rfl, _, _, rfl, rfl, .inl ⟨_, rfl, _, rfl, _, _, rfl, rfl, pm r0, _, g1, ?_, s1.late (.of nD) (.lst g1) _, ?_⟩⟩
      · rw [List.length_map, List.length_map, List.length_take]
        exact small1000' (by omega)
      · rw [upd_same, take_snoc e, List.map_append, List.map_append]
        rfl
    · rw [List.length_map, List.take_length] at g1
      refine ⟨D, _, rfl, SqL.of g1, by rw [List.length_map]; exact l0, fun m hm best => ?_⟩
      obtain ⟨x, hx, rfl⟩ := List.mem_map.mp hm
      refine ⟨_, rfl, _, rfl, _, _, rfl, rfl, .inl ⟨_, rfl, _, rfl, _, _, rfl, rfl, pm r0, ?_⟩⟩
      show Q (.int ((place + (x - place) % r) % r)) H'
      rw [back (h0 x hx) (h1 x hx)]
      exact k x H' s1 (.inr ⟨x, rfl, hx, fun y hy => best _ (List.mem_map.mpr ⟨y, hy, rfl⟩)⟩)
theorem c_law_pool (T : Bl mg) (c_law_draw : Cal P w K mg base 1 "_law_draw" spDraw []) (c_law_flags : Cal P w K mg base 2 "_law_flags" spFlags []) (d : D0 K mg "_law_pool" s_law_pool ["box", "ring", "own", "large"]) : Cal P w K mg base 3 "_law_pool" spPool [] := by
  refine cal d sc_law_pool (fun vs H Q E h => ?_) (fun cdv A outer f s0 H vs Q E hr h => ?_)
  · obtain ⟨b, c, r, own, lg, rfl, _⟩ := h
    rfl
  · obtain ⟨b, c, r, own, lg, rfl, B, r2, r256, o0, o1, k⟩ := h
    refine ⟨_, (pss_cons (ps_set (i := 4) sc_law_pool.nd rfl (Or.inr rfl) (pe_c c_law_flags hr (by decide) rfl (pa_cons (pv 0) (pa_cons (pv 1) (pa_cons (pv 2) pa_nil)))))
      (pss_cons (ps_set (i := 5) sc_law_pool.nd rfl (Or.inr rfl) (pe_c c_law_draw hr (by decide) rfl (pa_cons (pv 0) (pa_cons (pv 1) pa_nil))))
      (pss_cons (ps_set (i := 6) sc_law_pool.nd rfl (Or.inl rfl) (pe_op op_add pe_int (pe_c c_law_draw hr (by decide) rfl (pa_cons (pv 0) (pa_cons pe_int pa_nil)))))
      (pss_cut (ps_if (pt_val (pv 3)) (pss_one (ps_set (i := 6) sc_law_pool.nd rfl (Or.inl rfl) (pe_op op_add pe_int (pe_c c_law_draw hr (by decide) rfl (pa_cons (pv 0) (pa_cons pe_int pa_nil)))))) pss_nil)
      (pss_cons (ps_setLc (i := 7) (own := [("k", 9)]) (g := gName 9) (tt := tYes) (by rfl) sc_law_pool.nd rfl rfl (sw_true rfl rfl rfl (by decide +kernel)) (pi_range1 rfl T.range (pa_cons (pv 1) pa_nil)) (blkOk_by (own := [("k", 9)]) (N := n_law_pool) (sc := C8.fnScope s_law_pool) (by decide +kernel)) (fun _ _ _ _ _ => pg_name (i := 9) sc_law_pool.nd rfl (Or.inl rfl)) (fun _ _ _ _ _ => pts_nil) (fun _ _ _ _ _ => (pe_op op_mod (pe_callTy call_int1 (by rfl) T.int (by decide +kernel) (pa_cons (pe_op op_add (pv 5) (pv 9)) pa_nil)) (pv 1))))
      (pss_cons (ps_set (i := 8) sc_law_pool.nd rfl (Or.inl rfl) (pe_slice sl_list (pe_lc (own := [("spot", 10)]) (g := gName 10) (by rfl) sc_law_pool.nd (pi_list (pv 7)) (blkOk_by (own := [("spot", 10)]) (N := n_law_pool) (sc := C8.fnScope s_law_pool) (by decide +kernel)) (fun _ _ _ _ _ => pg_name (i := 10) sc_law_pool.nd rfl (Or.inl rfl)) (fun _ _ _ _ _ => (pts_one (pt_val (pe_ix (show IxR _ (rIxL K) from ix_list) (pv 4) (pv 10) (fun _ _ => rfl))))) (fun _ _ _ _ _ => (pv 10))) po_none (po_some (pv 6))))
      (pss_cut (ps_if (pt_cmpR op_lt (pe_callB call_len_seq (by rfl) T.len (by decide +kernel) (pa_cons (pv 8) pa_nil)) pe_int (nomark _)) (pss_one (ps_set (i := 8) sc_law_pool.nd rfl (Or.inl rfl) (pe_slice sl_list (pe_lc (own := [("spot", 10)]) (g := gName 10) (by rfl) sc_law_pool.nd (pi_list (pv 7)) (blkOk_by (own := [("spot", 10)]) (N := n_law_pool) (sc := C8.fnScope s_law_pool) (by decide +kernel)) (fun _ _ _ _ _ => pg_name (i := 10) sc_law_pool.nd rfl (Or.inl rfl)) (fun _ _ _ _ _ => (pts_one (pt_cmpR op_ne (pv 10) (pv 2) (nomark _)))) (fun _ _ _ _ _ => (pv 10))) po_none (po_some (pv 6))))) pss_nil)
      (pss_one (ps_ret (pe_callB cr_sortedI (by rfl) T.sorted (by decide +kernel) (pa_cons (pv 8) pa_nil))))))))))), ?_⟩
    refine ⟨_, rfl, _, rfl, _, rfl, b, c, r, own, rfl, B, r2, r256, fun fy fl H1 nfy X1 B1 hfy lfl => ?_⟩
    have fb := (B.nw_ne nfy)
    refine ⟨_, rfl, _, rfl, b, c, r, rfl, B1, by omega, Int.lt_of_le_of_lt r256 (by decide +kernel), fun place H2 _ _ B2 X2 => ?_⟩
    have hfy2 := X2.lst hfy (not_one fb.1)
    refine ⟨_, rfl, b, c, 7, rfl, B2, by decide, by decide +kernel, fun cp H3 p0 p1 B3 X3 => ?_⟩
    have hfy3 := X3.lst hfy2 (not_one fb.1)
    refine ⟨_, _, rfl, rfl, ?_⟩
    refine ⟨fun σ H' => Fr [b] H3 H' ∧ Box H' b c ∧ ∃ cap : Int, 1 ≤ cap ∧ cap ≤ 20 ∧ σ = [some (.ref b), some (.int r), some (.int own), some (.bl lg), some (.ref fy), some (.int place), some (.int cap), none, none, none, none], ?_, ?_⟩
    · refine ⟨_, rfl, _, rfl, ?_⟩
      cases lg with
      | false => exact iteF ⟨.refl _ _, B3, 1 + cp, by omega, by omega, rfl⟩
      | true => exact iteT ⟨_, rfl, b, c, 13, rfl, B3, by decide, by decide +kernel, fun cq H4 q0 q1 B4 X4 => ⟨_, _, rfl, rfl, X4, B4, 8 + cq, by omega, by omega, rfl⟩⟩
    · rintro σ H4 ⟨X4, B4, cap, c1, c20, rfl⟩
      have hfy4 := X4.lst hfy3 (not_one fb.1)
      refine ⟨_, rfl, _, rfl, by omega, by omega, fun D nD => ?_⟩
      refine lc_range (lo := 0) (n := r.toNat) (fun j H' => Fr [] H4 H' ∧ H' D = some (.lst ((metL r place j).map V.int))) ⟨Fr.new0 nD _, upd_same⟩ (fun j H' hj pv => ?_) (fun H5 pv => ?_)
      · obtain ⟨X5, hD⟩ := pv
        refine ⟨rfl, _, rfl, _, rfl, _, _, rfl, rfl, .inl ⟨_, rfl, _, rfl, _, _, rfl, rfl, pm (by omega), _, hD, ?_, X5.late (.of nD) (.lst hD) _, ?_⟩⟩
        · unfold metL
          rw [List.length_map, List.length_map, List.length_range]
          exact small1000' (by omega)
        · rw [upd_same]
          unfold metL
          rw [List.range_succ, List.map_append, List.map_append, Int.zero_add]
          rfl
      · obtain ⟨X5, hD⟩ := pv
        have B5 := B4.fr X5 not_nil not_nil
        have hfy5 := X5.lst hfy4 not_nil
        have lmet : (metL r place r.toNat).length = r.toNat := by unfold metL; rw [List.length_map, List.length_range]
        have ms := met_seats (place := place) (i := r.toNat) (show 0 < r by omega) (by omega)
        have fD : fy ≠ D := ne_of_none hfy4 nD
        refine ⟨_, rfl, D, rfl, ⟨_, SqL.of hD⟩, fun D2 nD2 => ?_⟩
        refine lc_list (xs := (metL r place r.toNat).map V.int) (fun j H' => Fr [] H5 H' ∧ H' D2 = some (.lst ((((metL r place r.toNat).take j).filter fun x => flag fl x).map V.int))) ⟨Fr.new0 nD2 _, upd_same⟩ (fun j H' _ pv => SqL.of (pv.1.lst hD not_nil)) (fun j v H6 hv pv => ?_) (fun H6 pv => ?_)
        · obtain ⟨X6, hD2⟩ := pv
          obtain ⟨z, ez, rfl⟩ := map_getE hv
          have zm := List.mem_of_getElem? ez
          have jl := (List.getElem?_eq_some_iff.mp ez).1
          have ll : (((metL r place r.toNat).take j).filter fun x => flag fl x).length ≤ j := Nat.le_trans (List.length_filter_le _ _) (by rw [List.length_take]; omega)
          refine ⟨rfl, _, rfl, _, rfl, _, _, _, _, rfl, rfl, SqL.of (X6.lst hfy5 not_nil), bl_at (ms.lo z zm) (by have := ms.hi z zm; omega), _, rfl, ite2 (fun hf => ?_) (fun hf => ⟨X6, ?_⟩)⟩
          · refine ⟨_, rfl, _, hD2, by rw [List.length_map]; exact small1000' (by omega), X6.late (.of nD2) (.lst hD2) _, ?_⟩
            rw [upd_same, take_snoc ez, List.filter_append, List.filter_cons_of_pos hf, List.map_append]
            rfl
          · rw [hD2, take_snoc ez, List.filter_append, List.filter_cons_of_neg hf, List.filter_nil, List.append_nil]
        · obtain ⟨X6, hD2⟩ := pv
          rw [List.length_map, List.take_length] at hD2
          refine ⟨_, rfl, _, rfl, D2, _, rfl, SqL.of hD2, fun D3 nD3 => ?_⟩
          rw [cut_take _ (by omega)]
          have X7 := X6.new nD3 (.lst ((((metL r place r.toNat).filter fun x => flag fl x).take cap.toNat).map V.int))
          have hD7 : upd H6 D3 (.lst ((((metL r place r.toNat).filter fun x => flag fl x).take cap.toNat).map V.int)) D3 = some (.lst ((((metL r place r.toNat).filter fun x => flag fl x).take cap.toNat).map V.int)) := upd_same
          generalize upd H6 D3 (.lst ((((metL r place r.toNat).filter fun x => flag fl x).take cap.toNat).map V.int)) = H7 at X7 hD7
          have hD57 := X7.lst hD not_nil
          refine ⟨fun σ H' => Fr [] H5 H' ∧ ∃ (y : Addr) (pool : List Int), Nw H5 y ∧ H' y = some (.lst (pool.map V.int)) ∧ Seats pool r ∧ 1 ≤ pool.length ∧ pool.length ≤ 20 ∧ ∃ v9 v10 : Option V, σ = [some (.ref b), some (.int r), some (.int own), some (.bl lg), some (.ref fy), some (.int place), some (.int cap), some (.ref D), some (.ref y), v9, v10], ?_, ?_⟩
          · refine ⟨_, rfl, _, _, rfl, .inl (SqL.of hD7), _, _, rfl, rfl, _, rfl, ite2 (fun hc => ?_) (fun hc => ?_)⟩
            · refine ⟨_, rfl, D, rfl, ⟨_, SqL.of hD57⟩, fun D4 nD4 => ?_⟩
              refine lc_list (xs := (metL r place r.toNat).map V.int) (fun j H' => Fr [] H7 H' ∧ H' D4 = some (.lst ((((metL r place r.toNat).take j).filter fun x => decide (x ≠ own)).map V.int))) ⟨Fr.new0 nD4 _, upd_same⟩ (fun j H' _ pv => SqL.of (pv.1.lst hD57 not_nil)) (fun j v H8 hv pv => ?_) (fun H8 pv => ?_)
              · obtain ⟨X8, hD4⟩ := pv
                obtain ⟨z, ez, rfl⟩ := map_getE hv
                have jl := (List.getElem?_eq_some_iff.mp ez).1
                have ll : (((metL r place r.toNat).take j).filter fun x => decide (x ≠ own)).length ≤ j := Nat.le_trans (List.length_filter_le _ _) (by rw [List.length_take]; omega)
                refine ⟨rfl, _, rfl, _, rfl, rfl, _, rfl, ?_⟩
                by_cases q : z = own
                · rw [q, decide_eq_true (rfl : V.int own = V.int own)]
                  refine iteF ⟨X8, ?_⟩
                  rw [hD4, take_snoc ez, List.filter_append, List.filter_cons_of_neg (by simpa using q), List.filter_nil, List.append_nil]
                · rw [decIn q]
                  refine iteT ⟨_, rfl, _, hD4, by rw [List.length_map]; exact small1000' (by omega), X8.late (.of nD4) (.lst hD4) _, ?_⟩
                  rw [upd_same, take_snoc ez, List.filter_append, List.filter_cons_of_pos (by simpa using q), List.map_append]
                  rfl
              · obtain ⟨X8, hD4⟩ := pv
                rw [List.length_map, List.take_length] at hD4
                refine ⟨_, rfl, _, rfl, D4, _, rfl, SqL.of hD4, fun D5 nD5 => ?_⟩
                rw [cut_take _ (by omega)]
                have X9 := X8.new nD5 (.lst ((((metL r place r.toNat).filter fun x => decide (x ≠ own)).take cap.toNat).map V.int))
                refine ⟨X7.trans X9, D5, _, X7.live D5 (X8.live D5 (.of nD5)), upd_same, seats_sub ms ((List.take_sublist _ _).trans List.filter_sublist), ?_, ?_, _, _, rfl⟩
                · rw [List.length_take]
                  have : 0 < ((metL r place r.toNat).filter fun x => decide (x ≠ own)).length := by
                    refine List.length_pos_of_mem (a := (place + (if place % r = own then 1 else 0)) % r) (List.mem_filter.mpr ⟨?_, decide_eq_true ?_⟩)
                    · unfold metL
                      refine List.mem_map.mpr ⟨if place % r = own then 1 else 0, List.mem_range.mpr (by split <;> omega), ?_⟩
                      split <;> rfl
                    · intro z
                      have e0 : (place + 0) % r = place % r := by rw [Int.add_zero]
                      by_cases q : place % r = own
                      · rw [if_pos q] at z
                        have h0 := forth (r := r) (s := place) (k := 0) (by omega) (by omega)
                        have h1 := forth (r := r) (s := place) (k := 1) (by omega) (by omega)
                        rw [z, ← q, ← e0, h0] at h1
                        omega
                      · rw [if_neg q, e0] at z
                        exact q z
                  omega
                · rw [List.length_take]
                  omega
            · have hc : ¬ _ := fun z => hc (decide_eq_true z)
              rw [List.length_map] at hc
              refine ⟨X7, D3, _, X6.live D3 (.of nD3), hD7, seats_sub ms ((List.take_sublist _ _).trans List.filter_sublist), by omega, ?_, _, _, rfl⟩
              rw [List.length_take]
              omega
          · rintro σ H8 ⟨X8, y, pool, ny, hy, sp, l1, l20, v9, v10, rfl⟩
            refine ⟨_, rfl, y, pool, rfl, SqL.of hy, fun ns' z pmz _ nz => ?_⟩
            have X58 : Fr [b] H H5 := (((X1.trans X2).trans X3).trans X4).trans (X5.mono fun _ m => nomatch m)
            have X59 : Fr [b] H H8 := X58.trans (X8.mono fun _ m => nomatch m)
            refine k z ns' _ (X59.live z (.of nz)) (X59.new nz _) ((B5.fr X8 not_nil not_nil).new nz _) upd_same (seats_perm sp pmz) (by rw [pmz.length_eq]; exact l1) (by rw [pmz.length_eq]; exact l20)
end
end K25

set_option Elab.async false
set_option maxRecDepth 100000
set_option maxHeartbeats 8000000
set_option exponentiation.threshold 4096
set_option linter.unusedVariables false
/-! a tour made; names drawn -/
namespace K25
open PySem PySem.Spec PyProof.Rows L2 C8 LamX UF
def spTour (C : Addr) : Sp := fun vs H Q _ => ∃ (b c x : Addr) (r own : Int), vs = [.ref b, .ref x, .int r, .int own] ∧ Box H b c ∧ 2 ≤ r ∧ r ≤ 256 ∧ 0 ≤ own ∧ own < r ∧
  ∀ (t a D : Addr) (last : Int) (H' : Hp), Nw H t → Nw H a → Nw H D → Fr [b] H H' → Box H' b c → H' t = some (.tup [.ref a, .int last]) → TourAt C H' a x D ⟨none, 0, last, false⟩ → H' D = some (.dK []) → Q (.ref t) H'
def spNamesW : Sp := fun vs H Q _ => ∃ (b c y lo he : Addr) (style : Int) (r : Int) (pool : List Int) (ls hs : List Bool) (cur : Option Int), vs = [.ref b, .int style, .ref y, .ref lo, .ref he, optV cur] ∧ Box H b c ∧ H y = some (.lst (pool.map V.int)) ∧ H lo = some (.lst (ls.map V.bl)) ∧ H he = some (.lst (hs.map V.bl)) ∧ ls.length = pool.length ∧ hs.length = pool.length ∧ Seats pool r ∧ 1 ≤ pool.length ∧ pool.length ≤ 20 ∧ he ≠ y ∧ he ≠ lo ∧ he ≠ b ∧ he ≠ c ∧
  ∀ (z : Addr) (ns : List Int) (hs' : List Bool) (H' : Hp), Nw H z → Fr [b, he] H H' → Box H' b c → H' he = some (.lst (hs'.map V.bl)) → hs'.length = pool.length → H' z = some (.lst (ns.map V.int)) → ns.Sublist pool → Q (.ref z) H'
section
variable {P : Program} {w : World} {K : PySem.W.Frag} {mg : Str → Option Value} {base : Heap} {C S : Addr}
theorem c_law_tour (M : T_Tour K mg C) (c_law_draw : Cal P w K mg base 1 "_law_draw" spDraw []) (d : D0 K mg "_law_tour" s_law_tour ["box", "setting", "ring", "own"]) : Cal P w K mg base 3 "_law_tour" (spTour C) [] := by
  have c_Tour : Mak P w K mg base 1 "Tour" C (spTinit C) [.non] := c_Tour M
  obtain ⟨f0, fd0, M0, F0⟩ := M.ini
  have FO : FnOk P w K mg base C8.CX0 1 f0 fd0 ["self", "setting", "seat", "behind"] (spTinit C) := f_tinit M F0
  obtain ⟨mv, KB⟩ := F0.kbinds0 (ps := ["self", "setting", "seat", "behind"]) 3 ["behind"] [] (fun us _ ws => us ++ ws) (by decide) (fun q hq => nomatch hq) (fun r1 _ r3 => r1.append r3) (fun D doc pm an cdv ct us mv ws l1 l2 l3 => match us, l1, mv, l2, ws, l3 with
    | [_, _, _], _, [], _, [_], _ => rfl)
  refine cal d sc_law_tour (fun vs H Q E h => ?_) (fun cdv A outer f s0 H vs Q E hr h => ?_)
  · obtain ⟨b, c, x, r, own, rfl, _⟩ := h
    rfl
  · obtain ⟨b, c, x, r, own, rfl, B, r2, r256, o0, o1, k⟩ := h
    refine ⟨_, (pss_cons (ps_set (i := 4) sc_law_tour.nd rfl (Or.inl rfl) (pe_c c_law_draw hr (by decide) rfl (pa_cons (pv 0) (pa_cons pe_int pa_nil))))
      (pss_cons (ps_if (pt_cmpR op_eq (pv 4) pe_int (nomark _)) (pss_one (ps_ret (pe_tup (pa_cons (pe_mk c_Tour hr (by decide) rfl (pa_cons (pv 1) (pa_cons (pv 3) pa_nil))) (pa_cons (pv 3) pa_nil))))) pss_nil)
      (pss_cons (ps_if (pt_cmpR op_eq (pv 4) pe_int (nomark _)) (pss_one (ps_ret (pe_tup (pa_cons (pe_makeK M0 FO hr rfl M.mgC KB (C8.pass0 (E := C8.E0)) (pa_cons (pv 1) (pa_cons (pv 3) pa_nil)) (pk_cons pe_non pk_nil)) (pa_cons (pv 3) pa_nil))))) pss_nil)
      (pss_cons (ps_set (i := 5) sc_law_tour.nd rfl (Or.inl rfl) (pe_c c_law_draw hr (by decide) rfl (pa_cons (pv 0) (pa_cons (pv 2) pa_nil))))
      (pss_cut (ps_if (pt_cmpR op_eq (pv 4) pe_int (nomark _)) (pss_one (ps_set (i := 5) sc_law_tour.nd rfl (Or.inl rfl) (pe_op op_mul (pv 5) (pe_c c_law_draw hr (by decide) rfl (pa_cons (pv 0) (pa_cons pe_int pa_nil)))))) pss_nil)
      (pss_cut (ps_if (pt_cmpR op_eq (pv 4) pe_int (nomark _)) (pss_one (ps_set (i := 5) sc_law_tour.nd rfl (Or.inl rfl) (pe_op op_sub (pv 5) (pv 2)))) pss_nil)
      (pss_cut (ps_if (pt_cmpR op_eq (pv 4) pe_int (nomark _)) (pss_one (ps_set (i := 5) sc_law_tour.nd rfl (Or.inl rfl) (pe_op op_mul (pe_op op_add (pv 5) (pe_op op_mul (pv 2) (pe_c c_law_draw hr (by decide) rfl (pa_cons (pv 0) (pa_cons (pe_op op_pow pe_int pe_int) pa_nil))))) (pe_op op_sub pe_int (pe_op op_mul pe_int (pe_c c_law_draw hr (by decide) rfl (pa_cons (pv 0) (pa_cons pe_int pa_nil)))))))) pss_nil)
      (pss_one (ps_ret (pe_tup (pa_cons (pe_makeK M0 FO hr rfl M.mgC KB (C8.pass0 (E := C8.E0)) (pa_cons (pv 1) (pa_cons (pv 3) pa_nil)) (pk_cons (pv 5) pk_nil)) (pa_cons (pv 5) pa_nil)))))))))))), ?_⟩
    refine ⟨_, rfl, b, c, 5, rfl, B, by decide, by decide +kernel, fun way H1 w0 w5 B1 X1 => ?_⟩
    -- how it ends
    have fin : ∀ (H2 : Hp) (last : Int) (o : Option Int), Fr [b] H H2 → Box H2 b c → o.getD own = last → ∀ (a dx : Addr), H2 a = none → H2 dx = none → dx ≠ a → ∀ W : VK, (∀ H3 : Hp, (∀ t, H3 t = none → Q (.ref t) (upd H3 t (.tup [.ref a, .int last]))) → W .non H3) → spTinit C [.ref a, .ref x, .int own, optV o] (upd (upd H2 dx (.own a)) a (.ins C dx [])) W C8.E0 := by
      intro H2 last o X2 B2 ho a dx na ndx dxa W hW
      have na' : upd H2 dx (.own a) a = none := by rw [upd_ne dxa.symm]; exact na
      have X0 : Fr [] H2 (upd (upd H2 dx (.own a)) a (.ins C dx [])) := ((Fr.refl [] H2).new ndx _).new na' _
      refine ⟨a, dx, x, own, o, rfl, upd_same, fun D H3 nD ta hD X3 => hW H3 fun t nt => ?_⟩
      rw [ho] at ta
      have X23 : Fr [] H2 H3 := X0.tail X3 fun z m => .inr (by rw [List.mem_singleton.mp m]; exact .of na)
      have X24 := X23.new nt (.tup [.ref a, .int last])
      have X4 : Fr [] H3 (upd H3 t (.tup [.ref a, .int last])) := Fr.new0 nt _
      refine k t a D last _ (X2.live t (X23.live t (.of nt))) (X2.live a (.of na)) (X2.live D (X0.live D nD)) (X2.trans (X24.mono fun _ m => nomatch m)) (B2.fr X24 not_nil not_nil) upd_same (ta.fr X4 not_nil) (X4.dK hD not_nil)
    refine ⟨_, rfl, rfl, _, rfl, ite2 (fun hc => ?_) (fun hc => ?_)⟩
    · refine ⟨_, rfl, _, rfl, fun a dx na ndx dxa => ?_⟩
      exact fin H1 own none X1 B1 rfl a dx na ndx dxa _ fun H3 g => ⟨rfl, _, rfl, by show 2 ≤ sizeLine; decide, g⟩
    refine ⟨_, rfl, rfl, _, rfl, ite2 (fun hc => ?_) (fun hc => ?_)⟩
    · refine ⟨_, rfl, _, rfl, rfl, rfl, fun a dx na ndx dxa => ?_⟩
      exact fin H1 own none X1 B1 rfl a dx na ndx dxa _ fun H3 g => ⟨rfl, _, rfl, by show 2 ≤ sizeLine; decide, g⟩
    refine ⟨_, rfl, _, rfl, b, c, r, rfl, B1, by omega, Int.lt_of_le_of_lt r256 (by decide +kernel), fun l0 H2 l1 l2 B2 X2 => ?_⟩
    refine ⟨fun σ H' => Fr [b] H H' ∧ Box H' b c ∧ ∃ l : Int, 0 ≤ l ∧ l ≤ 256 ∧ σ = [some (.ref b), some (.ref x), some (.int r), some (.int own), some (.int way), some (.int l)], ?_, ?_⟩
    · refine ⟨_, rfl, rfl, _, rfl, ite2 (fun hc => ?_) (fun hc => ⟨X1.trans X2, B2, l0, l1, by omega, rfl⟩)⟩
      refine ⟨_, rfl, _, rfl, b, c, 2, rfl, B2, by decide, by decide +kernel, fun d H3 d0 d1 B3 X3 => ⟨_, _, rfl, rfl, .inl ⟨by omega, by omega⟩, (X1.trans X2).trans X3, B3, l0 * d, Int.mul_nonneg l1 d0, ?_, rfl⟩⟩
      have : l0 * d ≤ l0 * 1 := Int.mul_le_mul_of_nonneg_left (by omega) l1
      omega
    rintro σ H3 ⟨X3, B3, la, la0, la1, rfl⟩
    refine ⟨fun σ H' => Fr [b] H H' ∧ Box H' b c ∧ ∃ l : Int, -256 ≤ l ∧ l ≤ 256 ∧ σ = [some (.ref b), some (.ref x), some (.int r), some (.int own), some (.int way), some (.int l)], ?_, ?_⟩
    · refine ⟨_, rfl, rfl, _, rfl, ite2 (fun hc => ?_) (fun hc => ⟨X3, B3, la, by omega, by omega, rfl⟩)⟩
      exact ⟨_, rfl, _, rfl, _, _, rfl, rfl, X3, B3, la - r, by omega, by omega, rfl⟩
    rintro σ H4 ⟨X4, B4, lb, lb0, lb1, rfl⟩
    refine ⟨fun σ H' => Fr [b] H H' ∧ Box H' b c ∧ ∃ l : Int, σ = [some (.ref b), some (.ref x), some (.int r), some (.int own), some (.int way), some (.int l)], ?_, ?_⟩
    · refine ⟨_, rfl, rfl, _, rfl, ite2 (fun hc => ?_) (fun hc => ⟨X4, B4, lb, rfl⟩)⟩
      refine ⟨_, rfl, _, rfl, _, rfl, _, _, rfl, rfl, ⟨by decide, by decide, by decide⟩, b, c, (10 : Int) ^ (12 : Int).toNat, rfl, B4, by decide +kernel, by decide +kernel, fun d H5 d0 d1 B5 X5 => ⟨_, _, rfl, rfl, .inl ⟨by omega, by omega⟩, _, _, rfl, rfl, _, rfl, b, c, 2, rfl, B5, by decide, by decide +kernel, fun d2 H6 e0 e1 B6 X6 => ⟨_, _, rfl, rfl, .inl ⟨by decide, by decide⟩, _, _, rfl, rfl, _, _, rfl, rfl, .inr ⟨by omega, by omega⟩, ?_⟩⟩⟩
      exact ⟨(X4.trans X5).trans X6, B6, _, rfl⟩
    rintro σ H5 ⟨X5, B5, lc, rfl⟩
    refine ⟨_, rfl, _, rfl, _, rfl, rfl, rfl, fun a dx na ndx dxa => ?_⟩
    exact fin H5 lc (some lc) X5 B5 rfl a dx na ndx dxa _ fun H3 g => ⟨rfl, _, rfl, by show 2 ≤ sizeLine; decide, g⟩
theorem inV_non : ∀ xs : List Int, inV .non (xs.map V.int) = false
  | [] => rfl
  | y :: xs => by
    have ih := inV_non xs
    unfold inV at ih ⊢
    rw [List.map_cons, List.any_cons, ih]
    rfl
theorem c_law_names (T : Bl mg) (c_law_draw : Cal P w K mg base 1 "_law_draw" spDraw []) (d : D0 K mg "_law_names" s_law_names ["box", "style", "pool", "loose", "here", "now"]) : Cal P w K mg base 3 "_law_names" spNamesW [] := by
  refine cal d sc_law_names (fun vs H Q E h => ?_) (fun cdv A outer f s0 H vs Q E hr h => ?_)
  · obtain ⟨b, c, y, lo, he, style, r, pool, ls, hs, cur, rfl, _⟩ := h
    rfl
  · obtain ⟨b, c, y, lo, he, style, r, pool, ls, hs, cur, rfl, B, hy, hlo, hhe, lls, lhs, sp, l1, l20, hey, helo, heb, hec, k⟩ := h
    refine ⟨_, (pss_cut (ps_if (pt_cmpR op_gt (pv 1) pe_int (nomark _)) (pss_cons (ps_set (i := 6) sc_law_names.nd rfl (Or.inl rfl) (pe_c c_law_draw hr (by decide) rfl (pa_cons (pv 0) (pa_cons pe_int pa_nil))))
      (pss_cut (ps_if (pt_cmpR op_lt (pv 6) pe_int (nomark _)) (pss_cons (ps_set (i := 7) sc_law_names.nd rfl (Or.inl rfl) (pe_c c_law_draw hr (by decide) rfl (pa_cons (pv 0) (pa_cons (pe_callB call_len_seq (by rfl) T.len (by decide +kernel) (pa_cons (pv 2) pa_nil)) pa_nil))))
      (pss_one (ps_asg (pe_or (pe_not (pe_ix ix_list (pv 4) (pv 7) (fun _ _ => rfl))) (pe_one (pe_not (pe_ix ix_list (pv 3) (pv 7) (fun _ _ => rfl))))) (pg_sub (pv 4) (pv 7) set_list)))) pss_nil)
      (pss_cut (ps_if (PW.pt (pw_and (PW.pt (pw_or (pt_cmpR op_eq (pv 6) pe_int (nomark _)) (pw_or1 (pt_cmpR op_eq (pv 6) pe_int (nomark _))))) (pw_and1 (pt_cmpR (show OpR _ (compareOp .In) (rIn K false) from op_in_seq) (pv 5) (pv 2) (by with_unfolding_all rfl))))) (pss_cons (ps_set (i := 8) sc_law_names.nd rfl (Or.inl rfl) (pe_bm PySem.F.plainAttrs_list PySem.F.slot_list_index PySem.F.type_list_index mt_index (pv 2) (pa_cons (pv 5) pa_nil)))
      (pss_one (ps_asg (pe_not (pe_ix ix_list (pv 3) (pv 8) (fun _ _ => rfl))) (pg_sub (pv 4) (pv 8) set_list)))) pss_nil)
      (pss_one (ps_if (PW.pt (pw_and (pt_cmpR op_eq (pv 6) pe_int (nomark _)) (pw_and1 (pt_cmpR op_eq (pv 1) pe_int (nomark _))))) (pss_one (ps_ret (pe_lst pa_nil))) pss_nil))))) pss_nil)
      (pss_one (ps_ret (pe_lc (own := [("j", 9)]) (g := gName 9) (by rfl) sc_law_names.nd (pi_range1 rfl T.range (pa_cons (pe_callB call_len_seq (by rfl) T.len (by decide +kernel) (pa_cons (pv 2) pa_nil)) pa_nil)) (blkOk_by (own := [("j", 9)]) (N := n_law_names) (sc := C8.fnScope s_law_names) (by decide +kernel)) (fun _ _ _ _ _ => pg_name (i := 9) sc_law_names.nd rfl (Or.inl rfl)) (fun _ _ _ _ _ => (pts_one (pt_val (pe_ix (show IxR _ (rIxL K) from ix_list) (pv 4) (pv 9) (fun _ _ => rfl))))) (fun _ _ _ _ _ => (pe_ix (show IxR _ (rIxL K) from ix_list) (pv 2) (pv 9) (fun _ _ => rfl))))))), ?_⟩
    have kq : ∀ a xs, H a = some (.lst (List.map V.int xs)) → a ≠ b := fun a xs e z => by
      obtain ⟨_, _, _, _, bx⟩ := B
      rw [z, bx.hb] at e
      have e := Option.some.inj e
      injection e with e
      cases xs <;> cases e
    have yb : y ≠ b := kq y _ hy
    have lob : lo ≠ b := fun z => by
      obtain ⟨_, _, _, _, bx⟩ := B
      rw [z, bx.hb] at hlo
      have e := Option.some.inj hlo
      injection e with e
      cases ls <;> cases e
    have off : ∀ H', Fr [b, he] H H' → H' y = some (.lst (pool.map V.int)) ∧ H' lo = some (.lst (ls.map V.bl)) := fun H' X => ⟨X.lst hy (not_two yb hey.symm), X.lst hlo (not_two lob helo.symm)⟩
    refine ⟨fun σ H' => Fr [b, he] H H' ∧ Box H' b c ∧ ∃ (hs' : List Bool) (v6 v7 v8 : Option V), H' he = some (.lst (hs'.map V.bl)) ∧ hs'.length = pool.length ∧ σ = [some (.ref b), some (.int style), some (.ref y), some (.ref lo), some (.ref he), some (optV cur), v6, v7, v8, none], ?_, ?_⟩
    · refine ⟨_, rfl, _, _, rfl, rfl, _, rfl, ite2 (fun hc => ?_) (fun hc => ⟨.refl _ _, B, hs, none, none, none, hhe, lhs, rfl⟩)⟩
      refine ⟨_, rfl, b, c, 16, rfl, B, by decide, by decide +kernel, fun way H1 w0 w1 B1 X1 => ?_⟩
      have X1' : Fr [b, he] H H1 := X1.mono fun a m => by rw [List.mem_singleton.mp m]; exact .head _
      have hhe1 := X1.lst hhe (not_one heb)
      refine ⟨fun σ H' => Fr [b, he] H H' ∧ Box H' b c ∧ ∃ (hs' : List Bool) (v7 : Option V), H' he = some (.lst (hs'.map V.bl)) ∧ hs'.length = pool.length ∧ σ = [some (.ref b), some (.int style), some (.ref y), some (.ref lo), some (.ref he), some (optV cur), some (.int way), v7, none, none], ?_, ?_⟩
      · refine ⟨_, rfl, _, _, rfl, rfl, _, rfl, ite2 (fun hc => ?_) (fun hc => ⟨X1', B1, hs, none, hhe1, lhs, rfl⟩)⟩
        obtain ⟨hy1, hlo1⟩ := off H1 X1'
        refine ⟨_, rfl, _, rfl, _, _, rfl, .inl (SqL.of hy1), b, c, _, rfl, B1, by rw [List.length_map]; omega, ?_, fun kk H2 k0 k1 B2 X2 => ?_⟩
        · rw [List.length_map]
          exact Int.lt_of_lt_of_le (show ((pool.length : Nat) : Int) < 21 by omega) (by decide +kernel)
        rw [List.length_map] at k1
        have X2' : Fr [b, he] H H2 := X1'.trans (X2.mono fun a m => by rw [List.mem_singleton.mp m]; exact .head _)
        have hhe2 := X2.lst hhe1 (not_one heb)
        obtain ⟨hy2, hlo2⟩ := off H2 X2'
        have fin : ∀ bb : Bool, ∃ (y' : Addr) (xs : List V) (i : Int) (j : Nat), V.ref he = .ref y' ∧ V.int kk = .int i ∧ H2 y' = some (.lst xs) ∧ ixN xs.length i = some j ∧ (Fr [b, he] H (upd H2 y' (.lst (xs.set j (.bl bb)))) ∧ Box (upd H2 y' (.lst (xs.set j (.bl bb)))) b c ∧ ∃ (hs' : List Bool) (v7 : Option V), (upd H2 y' (.lst (xs.set j (.bl bb)))) he = some (.lst (hs'.map V.bl)) ∧ hs'.length = pool.length ∧ [some (V.ref b), some (.int style), some (.ref y), some (.ref lo), some (.ref he), some (optV cur), some (.int way), some (.int kk), none, none] = [some (.ref b), some (.int style), some (.ref y), some (.ref lo), some (.ref he), some (optV cur), some (.int way), v7, none, none]) := fun bb => by
          refine ⟨he, _, kk, kk.toNat, rfl, rfl, hhe2, ix_lt k0 (by rw [List.length_map]; omega), ?_⟩
          rw [map_set]
          exact ⟨X2'.upd (.tail _ (.head _)) (.lst hhe2) _, B2.off heb hec _, hs.set kk.toNat bb, _, upd_same, by rw [List.length_set]; exact lhs, rfl⟩
        refine ⟨_, rfl, _, rfl, _, _, _, _, rfl, rfl, SqL.of hhe2, bl_at k0 (by omega), _, rfl, ?_⟩
        cases flag hs kk with
        | false => exact ⟨_, rfl, iteT ⟨_, rfl, _, rfl, fin _⟩⟩
        | true => exact ⟨_, rfl, iteF ⟨_, rfl, _, rfl, _, _, _, _, rfl, rfl, SqL.of hlo2, bl_at k0 (by omega), _, rfl, _, rfl, _, rfl, fin _⟩⟩
      rintro σ H2 ⟨X2, B2, hs2, v7, hhe2, lhs2, rfl⟩
      obtain ⟨hy2, hlo2⟩ := off H2 X2
      refine ⟨fun σ H' => Fr [b, he] H H' ∧ Box H' b c ∧ ∃ (hs' : List Bool) (v7 v8 : Option V), H' he = some (.lst (hs'.map V.bl)) ∧ hs'.length = pool.length ∧ σ = [some (.ref b), some (.int style), some (.ref y), some (.ref lo), some (.ref he), some (optV cur), some (.int way), v7, v8, none], ?_, ?_⟩
      · refine ⟨_, rfl, rfl, _, rfl, ite2 (fun hc => ?_) (fun hc => ⟨_, rfl, rfl, _, rfl, ite2 (fun hc2 => ?_) (fun hc2 => ⟨X2, B2, hs2, _, _, hhe2, lhs2, rfl⟩)⟩)⟩
        all_goals
          cases cur with
          | none =>
            refine ⟨_, rfl, _, rfl, y, _, rfl, .inl (SqL.of hy2), rfl, flat_ints pool, _, rfl, ?_⟩
            show (if inV V.non (pool.map V.int) = true then _ else _)
            rw [inV_non]
            exact iteF ⟨X2, B2, hs2, _, _, hhe2, lhs2, rfl⟩
          | some m =>
            refine ⟨_, rfl, _, rfl, y, _, rfl, .inl (SqL.of hy2), rfl, flat_ints pool, _, rfl, ?_⟩
            show (if inV (V.int m) (pool.map V.int) = true then _ else _)
            rw [inV_ints]
            by_cases hm : m ∈ pool
            · rw [decide_eq_true hm]
              have il : pool.idxOf m < pool.length := List.idxOf_lt_length_iff.mpr hm
              have eqI' : ∀ z : Int, eqV (V.int z) (V.int m) = decide (m = z) := fun z => by
                have := inV_ints m [z]
                unfold inV at this
                rw [List.map_cons, List.map_nil, List.any_cons, List.any_nil, Bool.or_false] at this
                rw [this]
                simp
              refine iteT ⟨_, rfl, .inl ⟨rfl, _, SqL.of hy2⟩, _, rfl, y, _, .int m, pool.idxOf m, .int m, rfl, rfl, SqL.of hy2, rfl, flat_ints pool, ?_, ?_, fun m' z' lt e => ?_, ?_⟩
              · rw [List.getElem?_map, List.getElem?_eq_getElem il, List.getElem_idxOf]
                rfl
              · rw [eqI']
                exact decide_eq_true rfl
              · rw [List.getElem?_map] at e
                cases q : pool[m']? with
                | none => rw [q] at e; cases e
                | some z =>
                  rw [q] at e
                  cases e
                  rw [eqI']
                  refine decide_eq_false fun h => ?_
                  subst h
                  obtain ⟨ml, em⟩ := List.getElem?_eq_some_iff.mp q
                  have := List.not_of_lt_findIdx (p := (· == m)) (xs := pool) (i := m') lt
                  simp [em] at this
              · have fin : ∀ bb : Bool, ∃ (y' : Addr) (xs : List V) (i : Int) (j : Nat), V.ref he = .ref y' ∧ V.int ((pool.idxOf m : Nat) : Int) = .int i ∧ H2 y' = some (.lst xs) ∧ ixN xs.length i = some j ∧ (Fr [b, he] H (upd H2 y' (.lst (xs.set j (.bl bb)))) ∧ Box (upd H2 y' (.lst (xs.set j (.bl bb)))) b c ∧ ∃ (hs' : List Bool) (w7 w8 : Option V), (upd H2 y' (.lst (xs.set j (.bl bb)))) he = some (.lst (hs'.map V.bl)) ∧ hs'.length = pool.length ∧ [some (V.ref b), some (.int style), some (.ref y), some (.ref lo), some (.ref he), some (optV (some m)), some (.int way), v7, some (.int ((pool.idxOf m : Nat) : Int)), none] = [some (.ref b), some (.int style), some (.ref y), some (.ref lo), some (.ref he), some (optV (some m)), some (.int way), w7, w8, none]) := fun bb => by
                  refine ⟨he, _, ((pool.idxOf m : Nat) : Int), (((pool.idxOf m : Nat) : Int)).toNat, rfl, rfl, hhe2, ix_lt (by omega) (by rw [List.length_map]; omega), ?_⟩
                  rw [map_set]
                  exact ⟨X2.upd (.tail _ (.head _)) (.lst hhe2) _, B2.off heb hec _, hs2.set _ bb, _, _, upd_same, by rw [List.length_set]; exact lhs2, rfl⟩
                exact ⟨_, rfl, _, rfl, _, _, _, _, rfl, rfl, SqL.of hlo2, bl_at (by omega) (by omega), _, rfl, _, rfl, _, rfl, fin _⟩
            · rw [decide_eq_false hm]
              exact iteF ⟨X2, B2, hs2, _, _, hhe2, lhs2, rfl⟩
      rintro σ H3 ⟨X3, B3, hs3, v7', v8, hhe3, lhs3, rfl⟩
      refine ⟨_, rfl, rfl, _, rfl, ite2 (fun hc => ?_) (fun hc => ⟨X3, B3, hs3, _, _, _, hhe3, lhs3, rfl⟩)⟩
      refine ⟨_, rfl, rfl, _, rfl, ite2 (fun hc => ?_) (fun hc => ⟨X3, B3, hs3, _, _, _, hhe3, lhs3, rfl⟩)⟩
      refine ⟨by show 0 ≤ sizeLine; decide, fun z nz => k z [] hs3 _ (X3.live z (.of nz)) (X3.new nz _) (B3.new nz _) (upd_new nz hhe3) lhs3 upd_same (List.nil_sublist _)⟩
    rintro σ H4 ⟨X4, B4, hs4, v6, v7, v8, hhe4, lhs4, rfl⟩
    obtain ⟨hy4, _⟩ := off H4 X4
    refine ⟨_, rfl, _, _, rfl, .inl (SqL.of hy4), _, rfl, by rw [List.length_map]; omega, by rw [List.length_map]; omega, fun D nD => ?_⟩
    rw [List.length_map]
    have hDh := ne_of_none hhe4 nD
    refine lc_range (lo := 0) (n := (pool.length : Int).toNat) (fun j H' => Fr [] H4 H' ∧ ∃ ns : List Int, H' D = some (.lst (ns.map V.int)) ∧ ns.Sublist (pool.take j)) ⟨Fr.new0 nD _, [], upd_same, List.nil_sublist _⟩ (fun j H5 hj pv => ?_) (fun H5 pv => ?_)
    · obtain ⟨X5, ns, hD, sb⟩ := pv
      rw [Int.toNat_natCast] at hj
      obtain ⟨z, ez⟩ : ∃ z, pool[j]? = some z := ⟨pool[j], List.getElem?_eq_getElem hj⟩
      have lns := sb.length_le
      rw [List.length_take] at lns
      refine ⟨rfl, _, rfl, _, rfl, _, _, _, _, rfl, rfl, SqL.of (X5.lst hhe4 not_nil), bl_at (by omega) (by omega), _, rfl, ite2 (fun hf => ?_) (fun hf => ⟨X5, ns, hD, by rw [take_snoc ez]; exact sb.trans (List.sublist_append_left _ _)⟩)⟩
      have at_ : atI (pool.map V.int) (0 + (j : Int)) = some (.int z) := by
        rw [Int.zero_add]
        exact atI_nat (by rw [List.getElem?_map, ez]; rfl)
      refine ⟨_, rfl, _, rfl, _, _, _, _, rfl, rfl, SqL.of (X5.lst hy4 not_nil), at_, _, hD, by rw [List.length_map]; exact small1000' (by omega), X5.late (.of nD) (.lst hD) _, ns ++ [z], by rw [upd_same, List.map_append]; rfl, ?_⟩
      rw [take_snoc ez]
      exact sb.append (List.Sublist.refl _)
    · obtain ⟨X5, ns, hD, sb⟩ := pv
      rw [Int.toNat_natCast, List.take_length] at sb
      exact k D ns hs4 H5 (X4.live D (.of nD)) (X4.trans (X5.mono fun _ m => nomatch m)) (B4.fr X5 not_nil not_nil) (X5.lst hhe4 not_nil) lhs4 hD sb
end
end K25

set_option Elab.async false
set_option maxRecDepth 100000
set_option maxHeartbeats 8000000
set_option exponentiation.threshold 4096
set_option linter.unusedVariables false
/-! a tour played -/
namespace K25
open PySem PySem.Spec PyProof.Rows L2 C8 LamX UF
section
variable {r : Int} {P : Nat} {s0 : TS} {rows : List Rw} {st : Nat → TS}
theorem Made.nil : Made r P s0 [] st := ⟨fun R e => (nomatch e), fun i R R' e => (nomatch e), fun i R e => (nomatch e), fun i R e => (nomatch e)⟩
theorem stB_snoc {s' : TS} {R : Rw} : stB P s0 (rows ++ [R]) (fun i => if i < rows.length then st i else s') (rows.length + 1) = repS P s' R.ok := by
  show repS P (if rows.length < rows.length then st rows.length else s') (rwOk (rows ++ [R]) rows.length) = _
  rw [if_neg (Nat.lt_irrefl _)]
  unfold rwOk
  rw [List.getElem?_append_right (Nat.le_refl _), Nat.sub_self]
  rfl
theorem Made.snoc (M : Made r P s0 rows st) {s' : TS} {R : Rw} (A : AimR r (stB P s0 rows st rows.length) R.ns s') (hn : R.now = s'.cur) (sR : Seats R.ns r) : Made r P s0 (rows ++ [R]) fun i => if i < rows.length then st i else s' := by
  have old : ∀ {i : Nat} {R' : Rw}, (rows ++ [R])[i]? = some R' → (i < rows.length ∧ rows[i]? = some R') ∨ (i = rows.length ∧ R' = R) := fun {i R'} e => by
    rcases Nat.lt_or_ge i rows.length with q | q
    · rw [List.getElem?_append_left q] at e
      exact .inl ⟨q, e⟩
    · have il := (List.getElem?_eq_some_iff.mp e).1
      rw [List.length_append] at il
      have il : i < rows.length + 1 := il
      have e0 : i = rows.length := by omega
      subst e0
      rw [List.getElem?_append_right (Nat.le_refl _), Nat.sub_self] at e
      exact .inr ⟨rfl, (Option.some.inj e).symm⟩
  refine ⟨fun R' e => ?_, fun i R1 R2 e1 e2 => ?_, fun i R' e => ?_, fun i R' e => ?_⟩
  · rcases old e with ⟨q, e⟩ | ⟨q, rfl⟩
    · rw [if_pos q]
      exact M.first R' e
    · rw [if_neg (by omega)]
      rw [← q] at A
      exact A
  · rcases old e2 with ⟨q, e2⟩ | ⟨q, rfl⟩
    · rcases old e1 with ⟨q1, e1⟩ | ⟨q1, _⟩
      · rw [if_pos q, if_pos q1]
        exact M.next i R1 R2 e1 e2
      · omega
    · rcases old e1 with ⟨q1, e1⟩ | ⟨q1, _⟩
      · rw [if_pos q1, if_neg (by omega)]
        rw [← q] at A
        have A : AimR r (repS P (st i) (rwOk rows i)) R2.ns s' := A
        unfold rwOk at A
        rw [e1] at A
        exact A
      · omega
  · rcases old e with ⟨q, e⟩ | ⟨q, rfl⟩
    · rw [if_pos q]
      exact M.now i R' e
    · rw [if_neg (by omega)]
      exact hn
  · rcases old e with ⟨q, e⟩ | ⟨q, rfl⟩
    · exact M.seats i R' e
    · exact sR
end
/-- rows stand at a list of tuples -/
def RowAt (av : List Addr) (H : Hp) (t : Addr) (R : Rw) : Prop := ∃ z : Addr, t ∉ av ∧ z ∉ av ∧ H t = some (.tup [.ref z, optV R.now, .bl R.ok]) ∧ H z = some (.lst (R.ns.map V.int))
theorem RowAt.fw {av ds : List Addr} {H H' : Hp} {t : Addr} {R : Rw} (h : RowAt av H t R) (X : Fw ds H H') (s : ∀ a ∈ ds, a ∈ av) : RowAt av H' t R := by
  obtain ⟨z, n1, n2, e1, e2⟩ := h
  exact ⟨z, n1, n2, X.tup e1 fun m => n1 (s _ m), X.lst e2 fun m => n2 (s _ m)⟩
def RowsAt (av : List Addr) (H : Hp) (l : Addr) (ts : List Addr) (rows : List Rw) : Prop := H l = some (.lst (ts.map V.ref)) ∧ Paired (RowAt av H) ts rows
theorem paired_imp {α β : Type} {F G : α → β → Prop} {xs : List α} {ys : List β} (h : Paired F xs ys) (im : ∀ a b, F a b → G a b) : Paired G xs ys := by
  induction h with
  | nil => exact .nil
  | cons q t ih => exact .cons (im _ _ q) ih
theorem paired_snoc {α β : Type} {F : α → β → Prop} {xs : List α} {ys : List β} {x : α} {y : β} (h : Paired F xs ys) (q : F x y) : Paired F (xs ++ [x]) (ys ++ [y]) := by
  induction h with
  | nil => exact .cons q .nil
  | cons a t ih => exact .cons a ih
def spPlayed (C S t : Addr) : Sp := fun vs H Q _ => ∃ (b c a x D y : Addr) (n P : Nat) (rr g h : Int) (s0 : TS) (pool : List Int), vs = [.ref b, .ref a, .ref y, .int (P : Int)] ∧ Box H b c ∧ TourAt C H a x D s0 ∧ s0.op = false ∧ 0 ≤ s0.bad ∧ SetO S H x n P rr g h ∧ n ≤ 8 ∧ 1 ≤ P ∧ P ≤ 6 ∧ H D = some (.dK []) ∧ H y = some (.lst (pool.map V.int)) ∧ Seats pool (ringN n) ∧ 1 ≤ pool.length ∧ pool.length ≤ 20 ∧ Tabs (TT t) H ∧
  a ≠ b ∧ a ≠ c ∧ D ≠ b ∧ D ≠ c ∧ x ≠ b ∧ a ≠ x ∧
  ∀ (l : Addr) (ts : List Addr) (rows : List Rw) (st : Nat → TS) (H' : Hp), RowsAt [] H' l ts rows → rows.length ≤ 90 → Made (ringN n) P s0 rows st → (∀ R ∈ rows, R.ns.Sublist pool) → Box H' b c → Tabs (TT t) H' → Fw [b, a, D] H H' → Q (.ref l) H'
section
variable {P : Program} {w : World} {K : PySem.W.Frag} {mg : Str → Option Value} {base : Heap} {C S t : Addr}
theorem c_law_played (T : Bl mg) (c_law_draw : Cal P w K mg base 1 "_law_draw" spDraw []) (c_law_names : Cal P w K mg base 3 "_law_names" spNamesW []) (m_aim : Met P w K mg base 8 C "aim" (spAim C S t) []) (m_report : Met P w K mg base 2 C "report" (spReport C S) [])
    (d : D0 K mg "_law_played" s_law_played ["box", "tour", "pool", "patience"]) : Cal P w K mg base 9 "_law_played" (spPlayed C S t) [] := by
  refine cal d sc_law_played (fun vs H Q E h => ?_) (fun cdv A outer f s0 H vs Q E hr h => ?_)
  · obtain ⟨b, c, a, x, D, y, n, p, rr, g, h, s0, pool, rfl, _⟩ := h
    rfl
  · obtain ⟨b, c, a, x, D, y, n, p, rr, g, h, s0, pool, rfl, B, ta, op0, bad0, hx, n8, p1, p6, hD, hy, sp, l1, l20, hT, ab, ac, Db, Dc, xb, ax, k⟩ := h
    refine ⟨_, (pss_cons (ps_set (i := 4) sc_law_played.nd rfl (Or.inr rfl) (pe_c c_law_draw hr (by decide) rfl (pa_cons (pv 0) (pa_cons pe_int pa_nil))))
      (pss_cons (ps_set (i := 5) sc_law_played.nd rfl (Or.inl rfl) (pe_c c_law_draw hr (by decide) rfl (pa_cons (pv 0) (pa_cons pe_int pa_nil))))
      (pss_cons (ps_setLc (i := 6) (own := [("spot", 16)]) (g := gName 16) (tt := tYes) (by rfl) sc_law_played.nd rfl rfl (sw_true rfl rfl rfl (by decide +kernel)) (pi_list (pv 2)) (blkOk_by (own := [("spot", 16)]) (N := n_law_played) (sc := C8.fnScope s_law_played) (by decide +kernel)) (fun _ _ _ _ _ => pg_name (i := 16) sc_law_played.nd rfl (Or.inl rfl)) (fun _ _ _ _ _ => pts_nil) (fun _ _ _ _ _ => (pe_or (pe_cmpR op_eq (pv 4) pe_int (nomark _)) (pe_one (pe_cmpR op_eq (pe_c c_law_draw hr (by decide) rfl (pa_cons (pv 0) (pa_cons pe_int pa_nil))) pe_int (nomark _))))))
      (pss_cons (ps_set (i := 7) sc_law_played.nd rfl (Or.inr rfl) (pe_lc (own := [("spot", 16)]) (g := gName 16) (tt := tYes) (by rfl) sc_law_played.nd (pi_list (pv 2)) (blkOk_by (own := [("spot", 16)]) (N := n_law_played) (sc := C8.fnScope s_law_played) (by decide +kernel)) (fun _ _ _ _ _ => pg_name (i := 16) sc_law_played.nd rfl (Or.inl rfl)) (fun _ _ _ _ _ => pts_nil) (fun _ _ _ _ _ => (pe_c c_law_draw hr (by decide) rfl (pa_cons (pv 0) (pa_cons pe_int pa_nil))))))
      (pss_cons (ps_setLc (i := 8) (own := [("j", 17)]) (g := gName 17) (by rfl) sc_law_played.nd rfl rfl (sw_true rfl rfl rfl (by decide +kernel)) (pi_range1 rfl T.range (pa_cons (pe_callB call_len_seq (by rfl) T.len (by decide +kernel) (pa_cons (pv 2) pa_nil)) pa_nil)) (blkOk_by (own := [("j", 17)]) (N := n_law_played) (sc := C8.fnScope s_law_played) (by decide +kernel)) (fun _ _ _ _ _ => pg_name (i := 17) sc_law_played.nd rfl (Or.inl rfl)) (fun _ _ _ _ _ => (pts_one (pt_cmpR op_eq (pe_ix (show IxR _ (rIxL K) from ix_list) (pv 7) (pv 17) (fun _ _ => rfl)) pe_int (nomark _)))) (fun _ _ _ _ _ => (pe_ix (show IxR _ (rIxL K) from ix_list) (pv 2) (pv 17) (fun _ _ => rfl))))
      (pss_cons (ps_set (i := 9) sc_law_played.nd rfl (Or.inl rfl) (pe_callB (call_min2 rfl) (by rfl) T.min (by decide +kernel) (pa_cons pe_int (pa_cons (pe_op op_add (pe_op op_mul (pe_op op_mul pe_int (pe_op op_add (pe_callB call_len_seq (by rfl) T.len (by decide +kernel) (pa_cons (pv 2) pa_nil)) pe_int)) (pv 3)) (pe_c c_law_draw hr (by decide) rfl (pa_cons (pv 0) (pa_cons pe_int pa_nil)))) pa_nil))))
      (pss_cons (ps_setLc (i := 10) (own := [("spot", 16)]) (g := gName 16) (tt := tYes) (by rfl) sc_law_played.nd rfl rfl (sw_true rfl rfl rfl (by decide +kernel)) (pi_list (pv 2)) (blkOk_by (own := [("spot", 16)]) (N := n_law_played) (sc := C8.fnScope s_law_played) (by decide +kernel)) (fun _ _ _ _ _ => pg_name (i := 16) sc_law_played.nd rfl (Or.inl rfl)) (fun _ _ _ _ _ => pts_nil) (fun _ _ _ _ _ => pe_bl))
      (pss_cons (ps_set (i := 11) sc_law_played.nd rfl (Or.inl rfl) pe_non)
      (pss_cons (ps_set (i := 12) sc_law_played.nd rfl (Or.inl rfl) (pe_lst pa_nil))
      (pss_cons (ps_for PassesOwn.never rfl (pi_range1 rfl T.range (pa_cons (pv 9) pa_nil)) (pg_name (i := 13) sc_law_played.nd rfl (Or.inl rfl)) (pss_cons (ps_set (i := 14) sc_law_played.nd rfl (Or.inl rfl) (pe_c c_law_names hr (by decide) rfl (pa_cons (pv 0) (pa_cons (pv 4) (pa_cons (pv 2) (pa_cons (pv 6) (pa_cons (pv 10) (pa_cons (pv 11) pa_nil))))))))
      (pss_cons (ps_set (i := 11) sc_law_played.nd rfl (Or.inl rfl) (pe_mt m_aim hr (by decide) (pv 1) (pa_cons (pe_callTy call_list_of (by rfl) T.list (by decide +kernel) (pa_cons (pv 14) pa_nil)) pa_nil)))
      (pss_cons (ps_set (i := 15) sc_law_played.nd rfl (Or.inl rfl) pe_bl)
      (pss_cut (ps_if (pt_cmpR op_eq (pe_callB call_len_seq (by rfl) T.len (by decide +kernel) (pa_cons (pv 14) pa_nil)) pe_int (nomark _)) (pss_one (ps_if (pt_cmp (pc_notN (pv 11))) (pss_one (ps_ret pe_non)) pss_nil)) (pss_cons (ps_if (PW.pt (pw_or (pt_not (pt_val (pe_callB call_isi (by rfl) T.isinstance (by decide +kernel) (pa_cons (pv 11) (pa_cons (pe_bltn (v := .ty "int") (by rfl) T.int (by decide +kernel) rfl) pa_nil))))) (pw_or (pt_val (pe_callB call_isi (by rfl) T.isinstance (by decide +kernel) (pa_cons (pv 11) (pa_cons (pe_bltn (v := .ty "bool") (by rfl) T.bool (by decide +kernel) rfl) pa_nil)))) (pw_or1 (pt_cmpR (show OpR _ (compareOp .NotIn) (rIn K true) from op_notIn_seq) (pv 11) (pv 14) (by with_unfolding_all rfl)))))) (pss_one (ps_ret pe_non)) pss_nil)
      (pss_cut (ps_set (i := 15) sc_law_played.nd rfl (Or.inl rfl) (pe_or (pe_cmpR op_eq (pv 5) pe_int (nomark _)) (pe_one (pe_and (pe_cmpR op_eq (pv 5) pe_int (nomark _)) (pe_one (pe_cmpR (show OpR _ (compareOp .NotIn) (rIn K true) from op_notIn_seq) (pv 11) (pv 8) (by with_unfolding_all rfl)))))))
      (pss_cut (ps_if (pt_cmpR op_eq (pv 5) pe_int (nomark _)) (pss_one (ps_set (i := 15) sc_law_played.nd rfl (Or.inl rfl) (pe_cmpR op_eq (pe_c c_law_draw hr (by decide) rfl (pa_cons (pv 0) (pa_cons pe_int pa_nil))) pe_int (nomark _)))) pss_nil)
      (pss_one (ps_expr (pe_mt m_report hr (by decide) (pv 1) (pa_cons (pv 15) pa_nil))))))))
      (pss_one (ps_expr (pe_bm PySem.F.plainAttrs_list PySem.F.slot_list_append PySem.F.type_list_append mt_append (pv 12) (pa_cons (pe_tup (pa_cons (pv 14) (pa_cons (pv 11) (pa_cons (pv 15) pa_nil)))) pa_nil)))))))))
      (pss_one (ps_ret (pv 12))))))))))))), ?_⟩
    have yb : y ≠ b := fun z => by
      obtain ⟨_, _, _, _, bx⟩ := B
      rw [z, bx.hb] at hy
      have e := Option.some.inj hy
      injection e with e
      cases pool <;> cases e
    refine ⟨_, rfl, b, c, 3, rfl, B, by decide, by decide +kernel, fun style H1 _ _ B1 X1 => ?_⟩
    refine ⟨_, rfl, b, c, 4, rfl, B1, by decide, by decide +kernel, fun result H2 _ _ B2 X2 => ?_⟩
    have X02 := X1.trans X2
    have hy2 := X02.lst hy (not_one yb)
    -- loose
    refine ⟨_, rfl, y, rfl, ⟨_, SqL.of hy2⟩, fun lo nlo => ?_⟩
    have lo2 := B2.new_ne nlo
    refine lc_list (xs := pool.map V.int) (fun j H' => Fr [b] H2 H' ∧ Box H' b c ∧ ∃ ls : List Bool, H' lo = some (.lst (ls.map V.bl)) ∧ ls.length = j) ⟨Fr.new0 nlo _, B2.new nlo _, [], upd_same, rfl⟩ (fun j H' _ pv => SqL.of (pv.1.lst hy2 (not_one yb))) (fun j v H3 hv pv => ?_) (fun H3 pv => ?_)
    · obtain ⟨X3, B3, ls, hlo, lls⟩ := pv
      have jl := (List.getElem?_eq_some_iff.mp hv).1
      rw [List.length_map] at jl
      have fin : ∀ (bb : Bool) (H4 : Hp), Fr [b] H3 H4 → Box H4 b c → ∃ acc, H4 lo = some (.lst acc) ∧ acc.length < sizeLine ∧ (Fr [b] H2 (upd H4 lo (.lst (acc ++ [.bl bb]))) ∧ Box (upd H4 lo (.lst (acc ++ [.bl bb]))) b c ∧ ∃ ls' : List Bool, (upd H4 lo (.lst (acc ++ [.bl bb]))) lo = some (.lst (ls'.map V.bl)) ∧ ls'.length = j + 1) := fun bb H4 X4 B4 => by
        have e := X4.lst hlo (not_one lo2.1)
        exact ⟨_, e, by rw [List.length_map]; exact small1000' (by omega), (X3.trans X4).late (.of nlo) (.lst e) _, B4.off lo2.1 lo2.2 _, ls ++ [bb], by rw [upd_same, List.map_append]; rfl, by rw [List.length_append, lls]; rfl⟩
      refine ⟨rfl, _, rfl, rfl, _, rfl, ite2 (fun hc => fin _ H3 (.refl _ _) B3) (fun hc => ?_)⟩
      exact ⟨_, rfl, b, c, 2, rfl, B3, by decide, by decide +kernel, fun dd H4 _ _ B4 X4 => ⟨rfl, fin _ H4 X4 B4⟩⟩
    obtain ⟨X3, B3, ls, hlo3, lls⟩ := pv
    rw [List.length_map] at lls
    have X03 := X02.trans X3
    have hy3 := X03.lst hy (not_one yb)
    -- marks
    refine ⟨_, rfl, y, rfl, ⟨_, SqL.of hy3⟩, fun mk nmk => ?_⟩
    have mk2 := B3.new_ne nmk
    refine lc_list (xs := pool.map V.int) (fun j H' => Fr [b] H3 H' ∧ Box H' b c ∧ ∃ ms : List Int, H' mk = some (.lst (ms.map V.int)) ∧ ms.length = j) ⟨Fr.new0 nmk _, B3.new nmk _, [], upd_same, rfl⟩ (fun j H' _ pv => SqL.of (pv.1.lst hy3 (not_one yb))) (fun j v H4 hv pv => ?_) (fun H4 pv => ?_)
    · obtain ⟨X4, B4, ms, hmk, lms⟩ := pv
      have jl := (List.getElem?_eq_some_iff.mp hv).1
      rw [List.length_map] at jl
      refine ⟨rfl, _, rfl, b, c, 2, rfl, B4, by decide, by decide +kernel, fun dd H5 _ _ B5 X5 => ?_⟩
      have e := X5.lst hmk (not_one mk2.1)
      exact ⟨_, e, by rw [List.length_map]; exact small1000' (by omega), (X4.trans X5).late (.of nmk) (.lst e) _, B5.off mk2.1 mk2.2 _, ms ++ [dd], by rw [upd_same, List.map_append]; rfl, by rw [List.length_append, lms]; rfl⟩
    obtain ⟨X4, B4, ms, hmk4, lms⟩ := pv
    rw [List.length_map] at lms
    have X04 := X03.trans X4
    have hy4 := X04.lst hy (not_one yb)
    have hlo4 := X4.lst hlo3 (not_one lo2.1)
    -- hard
    refine ⟨_, rfl, _, _, rfl, .inl (SqL.of hy4), _, rfl, by rw [List.length_map]; omega, by rw [List.length_map]; omega, fun hd nhd => ?_⟩
    rw [List.length_map]
    refine lc_range (lo := 0) (n := (pool.length : Int).toNat) (fun j H' => Fr [] H4 H' ∧ ∃ ns : List Int, H' hd = some (.lst (ns.map V.int)) ∧ ns.length ≤ j) ⟨Fr.new0 nhd _, [], upd_same, Nat.le_refl _⟩ (fun j H5 hj pv => ?_) (fun H5 pv => ?_)
    · obtain ⟨X5, ns, hh, lns⟩ := pv
      rw [Int.toNat_natCast] at hj
      obtain ⟨z, hz, _, _⟩ := int_at (xs := ms) (z := 0 + (j : Int)) (by omega) (by omega)
      refine ⟨rfl, _, rfl, _, rfl, _, _, _, _, rfl, rfl, SqL.of (X5.lst hmk4 not_nil), hz, rfl, _, rfl, ite2 (fun hc => ?_) (fun hc => ⟨X5, ns, hh, by omega⟩)⟩
      obtain ⟨z2, hz2, _, _⟩ := int_at (xs := pool) (z := 0 + (j : Int)) (by omega) (by omega)
      exact ⟨_, rfl, _, rfl, _, _, _, _, rfl, rfl, SqL.of (X5.lst hy4 not_nil), hz2, _, hh, by rw [List.length_map]; exact small1000' (by omega), X5.late (.of nhd) (.lst hh) _, ns ++ [z2], by rw [upd_same, List.map_append]; rfl, by rw [List.length_append]; show ns.length + 1 ≤ _; omega⟩
    obtain ⟨X5, hds, hhd5, lhd⟩ := pv
    rw [Int.toNat_natCast] at lhd
    have B5 := B4.fr X5 not_nil not_nil
    have X05 : Fr [b] H H5 := X04.trans (X5.mono fun _ m => nomatch m)
    have hy5 := X05.lst hy (not_one yb)
    have hlo5 := X5.lst hlo4 not_nil
    have hd2 := B4.new_ne nhd
    -- many
    refine ⟨_, rfl, _, _, rfl, .inl (SqL.of hy5), _, _, rfl, rfl, _, _, rfl, rfl, .inl ⟨by decide, by decide⟩, _, rfl, _, _, rfl, rfl, .inr ⟨by omega, by omega⟩, _, rfl, b, c, 20, rfl, B5, by decide, by decide +kernel, fun dm H6 dm0 _ B6 X6 => ⟨_, _, rfl, rfl, ?_⟩⟩
    refine ⟨_, _, rfl, ?_⟩
    obtain ⟨many, hmany⟩ : ∃ many : Int, many = (if 2 * (((pool.map V.int).length : Nat) + 1) * (p : Int) + dm < 90 then 2 * (((pool.map V.int).length : Nat) + 1) * (p : Int) + dm else 90) := ⟨_, rfl⟩
    rw [← hmany]
    have many90 : 0 ≤ many ∧ many ≤ 90 := by
      have h1 : 0 ≤ 2 * (((pool.map V.int).length : Nat) + 1) * (p : Int) := Int.mul_nonneg (by omega) (by omega)
      rw [hmany]
      split <;> omega
    have X06 := X05.trans X6
    have hy6 := X06.lst hy (not_one yb)
    have hlo6 := X6.lst hlo5 (not_one lo2.1)
    have hhd6 := X6.lst hhd5 (not_one hd2.1)
    clear X1 X2 X02 X3 X03 X4 X04 X5 X05 hlo3 hlo4 hlo5 hmk4 hhd5 hy2 hy3 hy4 hy5 B1 B2 B3 B4 B5
    -- here
    refine ⟨_, rfl, y, rfl, ⟨_, SqL.of hy6⟩, fun he nhe => ?_⟩
    refine lc_list (xs := pool.map V.int) (fun j H' => Fr [] H6 H' ∧ ∃ hs : List Bool, H' he = some (.lst (hs.map V.bl)) ∧ hs.length = j) ⟨Fr.new0 nhe _, [], upd_same, rfl⟩ (fun j H' _ pv => SqL.of (pv.1.lst hy6 not_nil)) (fun j v H7 hv pv => ?_) (fun H7 pv => ?_)
    · obtain ⟨X7, hs, hhe, lhs⟩ := pv
      have jl := (List.getElem?_eq_some_iff.mp hv).1
      rw [List.length_map] at jl
      exact ⟨rfl, _, hhe, by rw [List.length_map]; exact small1000' (by omega), X7.late (.of nhe) (.lst hhe) _, hs ++ [true], by rw [upd_same, List.map_append]; rfl, by rw [List.length_append, lhs]; rfl⟩
    obtain ⟨X7, hs0, hhe7, lhs0⟩ := pv
    rw [List.length_map] at lhs0
    have B7 := B6.fr X7 not_nil not_nil
    have hy7 := X7.lst hy6 not_nil
    have hlo7 := X7.lst hlo6 not_nil
    have hhd7 := X7.lst hhd6 not_nil
    have heb := (B6.new_ne nhe).1
    have hec := (B6.new_ne nhe).2
    have hey : he ≠ y := (ne_of_none hy6 nhe).symm
    have helo : he ≠ lo := (ne_of_none hlo6 nhe).symm
    have hehd : he ≠ hd := (ne_of_none hhd6 nhe).symm
    refine ⟨by show 0 ≤ sizeLine; decide, fun rl nrl => ?_⟩
    have X8 := X7.new nrl (.lst [])
    have hrl8 : upd H7 rl (.lst []) rl = some (.lst []) := upd_same
    have hhe8 := upd_new (o := .lst []) nrl hhe7
    have hy8 := upd_new (o := .lst []) nrl hy7
    have hlo8 := upd_new (o := .lst []) nrl hlo7
    have hhd8 := upd_new (o := .lst []) nrl hhd7
    have B8 := B7.new nrl (.lst [])
    have rlb := (B7.new_ne nrl).1
    have rlc := (B7.new_ne nrl).2
    have rly : rl ≠ y := (ne_of_none hy7 nrl).symm
    have rllo : rl ≠ lo := (ne_of_none hlo7 nrl).symm
    have rlhd : rl ≠ hd := (ne_of_none hhd7 nrl).symm
    have herl : he ≠ rl := ne_of_none hhe7 nrl
    generalize upd H7 rl (.lst []) = H8 at X8 hrl8 hhe8 hy8 hlo8 hhd8 B8
    have X08 : Fr [b] H H8 := X06.trans (X8.mono fun _ m => nomatch m)
    have ta8 := ta.fr X08 (not_one ab)
    have hD8 := X08.dK hD (not_one Db)
    have hx8 := hx.fr X08 (not_one xb)
    have T8 := X08.tabs _ hT
    obtain ⟨dxa, hta⟩ := id ta8
    obtain ⟨dxx, htx⟩ := id hx8
    have Dx : D ≠ x := fun e => by rw [e, htx] at hD8; cases hD8
    have aD : a ≠ D := fun e => by rw [e, hD8] at hta; cases hta
    obtain ⟨av, hav⟩ : ∃ av, av = [b, a, D, he, rl] := ⟨_, rfl⟩
    have avN : ∀ H' z, Fw av H8 H' → Nw H' z → z ∉ av := fun H' z X nz m => by
      have n8 := X.live z nz
      obtain ⟨_, _, _, _, bx⟩ := B8
      rw [hav] at m
      simp only [List.mem_cons, List.not_mem_nil, or_false] at m
      rcases m with e | e | e | e | e
      · exact ne_nw bx.hb n8 (by intro ps z; cases z) e.symm
      · exact ne_nw hta n8 (by intro ps z; cases z) e.symm
      · exact ne_nw hD8 n8 (by intro ps z; cases z) e.symm
      · exact ne_nw hhe8 n8 (by intro ps z; cases z) e.symm
      · exact ne_nw hrl8 n8 (by intro ps z; cases z) e.symm
    have lstOff : ∀ z xs, H8 z = some (.lst xs) → z ≠ b → z ≠ he → z ≠ rl → z ∉ av := fun z xs e n1 n2 n3 m => by
      rw [hav] at m
      simp only [List.mem_cons, List.not_mem_nil, or_false] at m
      rcases m with h | h | h | h | h
      · exact n1 h
      · rw [h, hta] at e; cases e
      · rw [h, hD8] at e; cases e
      · exact n2 h
      · exact n3 h
    have yav := lstOff y _ hy8 yb hey.symm rly.symm
    have loav := lstOff lo _ hlo8 lo2.1 helo.symm rllo.symm
    have hdav := lstOff hd _ hhd8 hd2.1 hehd.symm rlhd.symm
    have xav : x ∉ av := fun m => by
      rw [hav] at m
      simp only [List.mem_cons, List.not_mem_nil, or_false] at m
      rcases m with h | h | h | h | h
      · exact xb h
      · exact ax h.symm
      · exact Dx h.symm
      · rw [h, hhe8] at htx; cases htx
      · rw [h, hrl8] at htx; cases htx
    have tok0 : TOk p s0 := ⟨bad0, fun z => by rw [op0] at z; cases z⟩
    have mb : b ∈ av := by rw [hav]; simp
    have ma : a ∈ av := by rw [hav]; simp
    have mD : D ∈ av := by rw [hav]; simp
    have mhe : he ∈ av := by rw [hav]; simp
    have mrl : rl ∈ av := by rw [hav]; simp
    refine ⟨_, rfl, many, rfl, by omega, by omega, ?_⟩
    refine for_range (lo := 0) (n := many.toNat) (fun k σ H' => Fw av H8 H' ∧ Tabs (TT t) H' ∧ Box H' b c ∧ PsAt H' D k ∧ (∃ hs : List Bool, H' he = some (.lst (hs.map V.bl)) ∧ hs.length = pool.length) ∧ ∃ (ts : List Addr) (rows : List Rw) (st : Nat → TS) (cur : Option Int) (v13 v14 v15 : Option V), rows.length = k ∧ TourAt C H' a x D (stB p s0 rows st k) ∧ RowsAt av H' rl ts rows ∧ Made (ringN n) p s0 rows st ∧ (∀ R ∈ rows, R.ns.Sublist pool) ∧
      σ = [some (.ref b), some (.ref a), some (.ref y), some (.int (p : Int)), some (.int style), some (.int result), some (.ref lo), some (.ref mk), some (.ref hd), some (.int many), some (.ref he), some (optV cur), some (.ref rl), v13, v14, v15, none, none]) ?_ ?_ ?_
    · exact ⟨.refl _ _, T8, B8, ⟨[], hD8, Nat.zero_le _, fun k v z => by cases z⟩, ⟨hs0, hhe8, lhs0⟩, [], [], fun _ => s0, none, _, _, _, rfl, ta8, ⟨hrl8, .nil⟩, .nil, (fun R m => nomatch m), rfl⟩
    · rintro i σ H9 hi ⟨X9, T9, B9, ps9, ⟨hs, hhe9, lhs⟩, ts, rows, st, cur, v13, v14, v15, lrows, ta9, ⟨hrl9, pr9⟩, M9, sub9, rfl⟩
      have hy9 := X9.lst hy8 yav
      have hlo9 := X9.lst hlo8 loav
      refine ⟨_, rfl, _, rfl, _, rfl, _, rfl, _, rfl, _, rfl, b, c, y, lo, he, style, ringN n, pool, ls, hs, cur, rfl, B9, hy9, hlo9, hhe9, lls, lhs, sp, l1, l20, hey, helo, heb, hec, fun z ns hs' H10 nz X10 B10 hhe10 lhs' hz10 sb => ?_⟩
      have inAv : ∀ {ds : List Addr}, (∀ q ∈ ds, q = b ∨ q = a ∨ q = D ∨ q = he ∨ q = rl) → ∀ q ∈ ds, q ∈ av := fun h q m => by
        rw [hav]
        rcases h q m with e | e | e | e | e <;> simp [e]
      have s1 : ∀ q ∈ [b, he], q ∈ av := inAv fun q m => by
        simp only [List.mem_cons, List.not_mem_nil, or_false] at m
        rcases m with h | h <;> simp [h]
      have X910 : Fw av H8 H10 := X9.trans (X10.w.mono s1)
      have ahe : a ≠ he := fun e => by
        obtain ⟨dx9, h9⟩ := ta9
        rw [e, hhe9] at h9
        cases h9
      have Dhe : D ≠ he := fun e => by rw [e, hhe8] at hD8; cases hD8
      have ta10 := ta9.fr X10 (not_two ab ahe)
      have ps10 := ps9.fw X10.w (not_two Db Dhe)
      have T10 := X10.tabs _ T9
      have zav := avN H9 z X9 nz
      have hx10 := hx8.fw X910 xav
      have hrl10 := X10.lst hrl9 (not_two rlb herl.symm)
      have pr10 := paired_imp pr9 fun t R q => q.fw X10.w s1
      obtain ⟨dx10, ha10⟩ := id ta10
      have tokS := M9.tokB p1 tok0 (k := i) (by omega)
      have sS : Seats ns (ringN n) := seats_sub sp sb
      refine ⟨_, rfl, a, dx10, _, rfl, ha10, ft_aim, _, rfl, z, _, rfl, .inl (SqL.of hz10), fun l2 nl2 => ?_⟩
      have X11 : Fr [] H10 (upd H10 l2 (.lst (ns.map V.int))) := Fr.new0 nl2 _
      have hl2 : upd H10 l2 (.lst (ns.map V.int)) l2 = some (.lst (ns.map V.int)) := upd_same
      generalize upd H10 l2 (.lst (ns.map V.int)) = H11 at X11 hl2
      refine ⟨a, x, D, l2, stB p s0 rows st i, n, ns, rfl, ta10.fr X11 not_nil, (fun op => (tokS.op op).imp fun c h => h.1), ⟨p, rr, g, h, hx10.fr X11 not_nil⟩, n8, hl2, X11.tabs _ T10, fun s' H12 X12 T12 ta12 A => ?_⟩
      have X1012 : Fw [a] H10 H12 := (X11.w.mono fun _ m => nomatch m).trans X12
      have s2 : ∀ q ∈ [a], q ∈ av := inAv fun q m => by rw [List.mem_singleton.mp m]; simp
      have X812 : Fw av H8 H12 := X910.trans (X1012.mono s2)
      have hz12 := X1012.lst hz10 (not_one fun e => zav (e ▸ ma))
      have B12 := B10.fw X1012 (not_one ab.symm) (not_one ac.symm)
      have hhe12 := X1012.lst hhe10 (not_one ahe.symm)
      have ps12 := ps10.fw X1012 (not_one aD.symm)
      have hx12 := hx8.fw X812 xav
      have hhd12 := X812.lst hhd8 hdav
      have hrl12 := X1012.lst hrl10 (not_one fun e => by rw [e, ha10] at hrl10; cases hrl10)
      have pr12 := paired_imp pr10 fun t R q => q.fw X1012 s2
      have tok' := tokS.aim p1 A
      refine ⟨fun σ H' => Fw av H12 H' ∧ Tabs (TT t) H' ∧ Box H' b c ∧ PsAt H' D (i + 1) ∧ H' he = some (.lst (hs'.map V.bl)) ∧ ∃ bb : Bool, TourAt C H' a x D (repS p s' bb) ∧ H' rl = some (.lst (ts.map V.ref)) ∧
        σ = [some (.ref b), some (.ref a), some (.ref y), some (.int (p : Int)), some (.int style), some (.int result), some (.ref lo), some (.ref mk), some (.ref hd), some (.int many), some (.ref he), some (optV s'.cur), some (.ref rl), some (.int (0 + (i : Int))), some (.ref z), some (.bl bb), none, none], ?_, ?_⟩
      · refine ⟨_, rfl, _, _, rfl, .inl (SqL.of hz12), rfl, _, rfl, ite2 (fun hc => ?_) (fun hc => ?_)⟩
        · have e0 : ns = [] := by
            have := eqI hc
            rw [List.length_map] at this
            exact List.eq_nil_of_length_eq_zero (by omega)
          have es : s' = begS (stB p s0 rows st i) none := by
            rcases A with ⟨z, _⟩ | ⟨_, o, f, e⟩
            · unfold stays at z
              obtain ⟨_, z⟩ := Bool.and_eq_true_iff.mp z
              split at z
              · rw [e0] at z
                simp at z
              · cases z
            · rcases f with ⟨_, e2⟩ | ⟨m, _, mm, _⟩
              · rw [e, e2]
              · rw [e0] at mm
                cases mm
          have ec : s'.cur = none := by rw [es]; rfl
          refine ⟨_, rfl, ?_⟩
          rw [ec]
          refine ⟨_, rfl, iteF ⟨.refl _ _, T12, B12, ps12.le (Nat.le_succ _), hhe12, false, ?_, hrl12, ?_⟩⟩
          · rw [show repS (p : Int) s' false = s' by rw [es]; rfl]
            exact ta12
          · rfl
        · have ne : ns ≠ [] := fun e => hc (by rw [e]; exact decide_eq_true rfl)
          obtain ⟨m, em, mm, lm, opm⟩ := A.some_ tokS ne
          rw [em]
          refine ⟨_, rfl, _, _, _, _, true, rfl, .ty _, .base (.int _), kit_ty (by decide +kernel), _, rfl, iteF ?_⟩
          refine ⟨_, rfl, _, _, _, _, false, rfl, .ty _, .base (.int _), kit_ty (by decide +kernel), _, rfl, iteF ?_⟩
          refine ⟨_, rfl, _, rfl, z, _, rfl, .inl (SqL.of hz12), rfl, flat_ints ns, _, rfl, ?_⟩
          show (if (!inV (V.int m) (ns.map V.int)) = true then _ else _)
          rw [inV_ints, decide_eq_true mm]
          refine iteF ?_
          refine ⟨fun σ H' => H' = H12 ∧ ∃ bb : Bool, σ = [some (.ref b), some (.ref a), some (.ref y), some (.int (p : Int)), some (.int style), some (.int result), some (.ref lo), some (.ref mk), some (.ref hd), some (.int many), some (.ref he), some (.int m), some (.ref rl), some (.int (0 + (i : Int))), some (.ref z), some (.bl bb), none, none], ?_, ?_⟩
          · refine ⟨_, rfl, rfl, _, rfl, ite2 (fun hc => ⟨rfl, _, rfl⟩) (fun hc => ⟨_, rfl, rfl, _, rfl, ite2 (fun hc2 => ?_) (fun hc2 => ⟨rfl, _, rfl⟩)⟩)⟩
            exact ⟨_, rfl, _, rfl, hd, _, rfl, .inl (SqL.of hhd12), rfl, flat_ints _, rfl, _, rfl⟩
          rintro σ H13 ⟨rfl, b1, rfl⟩
          refine ⟨fun σ H' => Fr [b] H13 H' ∧ Box H' b c ∧ ∃ bb : Bool, σ = [some (.ref b), some (.ref a), some (.ref y), some (.int (p : Int)), some (.int style), some (.int result), some (.ref lo), some (.ref mk), some (.ref hd), some (.int many), some (.ref he), some (.int m), some (.ref rl), some (.int (0 + (i : Int))), some (.ref z), some (.bl bb), none, none], ?_, ?_⟩
          · refine ⟨_, rfl, rfl, _, rfl, ite2 (fun hc => ?_) (fun hc => ⟨.refl _ _, B12, _, rfl⟩)⟩
            exact ⟨_, rfl, b, c, 3, rfl, B12, by decide, by decide +kernel, fun dd H14 _ _ B14 X14 => ⟨rfl, X14, B14, _, rfl⟩⟩
          rintro σ H14 ⟨X14, B14, bb, rfl⟩
          have ta14 := ta12.fr X14 (not_one ab)
          obtain ⟨dx14, ha14⟩ := id ta14
          have hx14 := hx12.fr X14 (not_one xb)
          refine ⟨_, rfl, a, dx14, _, rfl, ha14, ft_report, _, rfl, a, x, D, s', bb, i, n, p, rr, g, h, rfl, ta14, (fun op => (tok'.op op).imp fun c h => h.1), ps12.fw X14.w (not_one Db), by omega, hx14, fun H15 X15 ta15 ps15 => ?_⟩
          have bD : b ∉ [a, D] := not_two ab.symm Db.symm
          refine ⟨(X14.w.mono (inAv fun q m => by rw [List.mem_singleton.mp m]; simp)).trans (X15.w.mono (inAv fun q m => ?_)), X15.tabs _ (X14.tabs _ T12), B14.fr X15 bD (not_two ac.symm Dc.symm), ps15, ?_, bb, ta15, ?_, ?_⟩
          · simp only [List.mem_cons, List.not_mem_nil, or_false] at m
            rcases m with h | h <;> simp [h]
          · exact X15.lst (X14.lst hhe12 (not_one heb)) (not_two ahe.symm Dhe.symm)
          · refine X15.lst (X14.lst hrl12 (not_one rlb)) (not_two (fun e => ?_) fun e => ?_)
            · rw [e, ha10] at hrl10; cases hrl10
            · rw [← e, hrl8] at hD8; cases hD8
          · rfl
      rintro σ H13 ⟨X13, T13, B13, ps13, hhe13, bb, ta13, hrl13, rfl⟩
      refine ⟨_, rfl, .inl ⟨rfl, _, SqL.of hrl13⟩, _, rfl, _, rfl, _, rfl, by show 3 ≤ sizeLine; decide, fun tp ntp => ?_⟩
      have X14 := X13.new ntp (.tup [.ref z, optV s'.cur, .bl bb])
      have htp : upd H13 tp (.tup [.ref z, optV s'.cur, .bl bb]) tp = some (.tup [.ref z, optV s'.cur, .bl bb]) := upd_same
      have Y14 : Fr [] H13 (upd H13 tp (.tup [.ref z, optV s'.cur, .bl bb])) := Fr.new0 ntp _
      have hrl14 := upd_new (o := .tup [.ref z, optV s'.cur, .bl bb]) ntp hrl13
      have B14 := B13.new ntp (.tup [.ref z, optV s'.cur, .bl bb])
      have X813 : Fw av H8 H13 := X812.trans X13
      have tpav := avN H13 tp X813 (.of ntp)
      have tprl : tp ≠ rl := (ne_of_none hrl13 ntp).symm
      generalize upd H13 tp (.tup [.ref z, optV s'.cur, .bl bb]) = H14 at X14 htp Y14 hrl14 B14
      refine ⟨rl, _, _, rfl, rfl, hrl14, by rw [List.length_map, pr9.length]; exact small1000' (by omega), ?_⟩
      have Y15 : Fr [rl] H14 (upd H14 rl (.lst ((ts.map V.ref) ++ [.ref tp]))) := (Fr.refl [rl] H14).upd (.head _) (.lst hrl14) _
      have s3 : ∀ q ∈ [rl], q ∈ av := inAv fun q m => by rw [List.mem_singleton.mp m]; simp
      have X1215 : Fw av H12 (upd H14 rl (.lst ((ts.map V.ref) ++ [.ref tp]))) := X14.trans (Y15.w.mono s3)
      have arl : a ≠ rl := fun e => by rw [← e, ha10] at hrl10; cases hrl10
      have Drl : D ≠ rl := fun e => by rw [e, hrl8] at hD8; cases hD8
      refine ⟨X812.trans X1215, Y15.tabs _ (Y14.tabs _ T13), B14.fr Y15 (not_one rlb.symm) (not_one rlc.symm), (ps13.fw Y14.w not_nil).fw Y15.w (not_one Drl), ⟨hs', Y15.lst (Y14.lst hhe13 not_nil) (not_one herl), lhs'⟩, ts ++ [tp], rows ++ [⟨ns, s'.cur, bb⟩], (fun j => if j < rows.length then st j else s'), s'.cur, _, _, _, by rw [List.length_append, lrows]; rfl, ?_, ⟨by rw [upd_same, List.map_append]; rfl, ?_⟩, ?_, ?_, rfl⟩
      · have e := stB_snoc (P := p) (s0 := s0) (rows := rows) (st := st) (s' := s') (R := ⟨ns, s'.cur, bb⟩)
        rw [lrows] at e ⊢
        rw [e]
        exact (ta13.fr Y14 not_nil).fr Y15 (not_one arl)
      · refine paired_snoc (paired_imp pr12 fun t R q => q.fw X1215 fun _ m => m) ⟨z, tpav, zav, ?_, ?_⟩
        · rw [upd_ne tprl]
          exact htp
        · exact X1215.lst hz12 zav
      · refine M9.snoc ?_ rfl sS
        rw [lrows]
        exact A
      · intro R m
        rcases List.mem_append.mp m with m | m
        · exact sub9 R m
        · rw [List.mem_singleton.mp m]
          exact sb
    · rintro σ H9 ⟨X9, T9, B9, ps9, ⟨hs, hhe9, lhs⟩, ts, rows, st, cur, v13, v14, v15, lrows, ta9, ⟨hrl9, pr9⟩, M9, sub9, rfl⟩
      refine ⟨_, rfl, k rl ts rows st H9 ⟨hrl9, paired_imp pr9 fun t R ⟨z, _, _, e1, e2⟩ => ⟨z, not_nil, not_nil, e1, e2⟩⟩ (by omega) M9 sub9 B9 T9 ((X08.w.mono fun q m => by rw [List.mem_singleton.mp m]; exact .head _).tail X9 fun q m => ?_)⟩
      rw [hav] at m
      simp only [List.mem_cons, List.not_mem_nil, or_false] at m
      rcases m with e | e | e | e | e
      · exact .inl (by simp [e])
      · exact .inl (by simp [e])
      · exact .inl (by simp [e])
      · exact .inr (by rw [e]; exact X06.live he (.of nhe))
      · exact .inr (by rw [e]; exact X06.live rl (X7.live rl (.of nrl)))
end
end K25

set_option Elab.async false
set_option maxRecDepth 100000
set_option maxHeartbeats 8000000
set_option exponentiation.threshold 4096
set_option linter.unusedVariables false
/-! visits, windows -/
namespace K25
open PySem PySem.Spec PyProof.Rows L2 C8 LamX UF
def VisAt (H : Hp) (v : Addr) (vts : List Addr) (fs : List (Nat × Nat × Int)) : Prop := H v = some (.lst (vts.map V.ref)) ∧ Paired (fun t q => H t = some (.tup [.int (q.1 : Int), .int (q.2.1 : Int), .int q.2.2])) vts fs
def spVisits : Sp := fun vs H Q _ => ∃ (l : Addr) (ts : List Addr) (rows : List Rw) (P : Nat), vs = [.ref l, .int (P : Int)] ∧ RowsAt [] H l ts rows ∧ rows.length ≤ 90 ∧ ∀ (v : Addr) (vts : List Addr) (H' : Hp), Fr [] H H' → VisAt H' v vts (scan P rows rows.length).found → (scan P rows rows.length).found.length ≤ 90 → Q (.ref v) H'
def spTried : Sp := fun vs H Q _ => ∃ (l : Addr) (ts : List Addr) (W : List Rw) (s : Int) (P : Nat), vs = [.ref l, .int s, .int (P : Int)] ∧ RowsAt [] H l ts W ∧ W.length ≤ 90 ∧ triedB P s W = true ∧ Q (.bl true) H
theorem paired_at {α β : Type} {F : α → β → Prop} : ∀ {xs : List α} {ys : List β} {i : Nat} {y : β}, Paired F xs ys → ys[i]? = some y → ∃ x, xs[i]? = some x ∧ F x y
  | _, _, i, _, .nil, e => by simp at e
  | _, _, 0, _, .cons q _, e => by
    cases e
    exact ⟨_, rfl, q⟩
  | _, _, i + 1, _, .cons _ t, e => paired_at (i := i) t e
theorem RowsAt.at_ {av : List Addr} {H : Hp} {l : Addr} {ts : List Addr} {rows : List Rw} (h : RowsAt av H l ts rows) {i : Nat} {R : Rw} (e : rows[i]? = some R) : ∃ t z : Addr, atI (ts.map V.ref) ((i : Nat) : Int) = some (.ref t) ∧ H t = some (.tup [.ref z, optV R.now, .bl R.ok]) ∧ H z = some (.lst (R.ns.map V.int)) := by
  obtain ⟨t, et, z, _, _, h1, h2⟩ := paired_at h.2 e
  exact ⟨t, z, atI_nat (by rw [List.getElem?_map, et]; rfl), h1, h2⟩
theorem RowsAt.fr {H H' : Hp} {l : Addr} {ts : List Addr} {rows : List Rw} (h : RowsAt [] H l ts rows) (X : Fr [] H H') : RowsAt [] H' l ts rows := ⟨X.lst h.1 not_nil, paired_imp h.2 fun t R q => q.fw X.w fun _ m => m⟩
section
variable {P : Program} {w : World} {K : PySem.W.Frag} {mg : Str → Option Value} {base : Heap} {C S t : Addr}
theorem c_law_visits (T : Bl mg) (d : D0 K mg "_law_visits" s_law_visits ["rows", "patience"]) : Cal P w K mg base 1 "_law_visits" spVisits [] := by
  refine cal d sc_law_visits (fun vs H Q E h => ?_) (fun cdv A outer f s0 H vs Q E hr h => ?_)
  · obtain ⟨l, ts, rows, p, rfl, _⟩ := h
    rfl
  · obtain ⟨l, ts, rows, p, rfl, hl, l90, k⟩ := h
    refine ⟨_, (pss_cons (ps_set (i := 2) sc_law_visits.nd rfl (Or.inl rfl) (pe_lst pa_nil))
      (pss_cons (ps_set (i := 3) sc_law_visits.nd rfl (Or.inl rfl) pe_int)
      (pss_cons (ps_set (i := 4) sc_law_visits.nd rfl (Or.inl rfl) pe_non)
      (pss_cons (ps_set (i := 5) sc_law_visits.nd rfl (Or.inl rfl) pe_int)
      (pss_cons (ps_for PassesOwn.never rfl (pi_range1 rfl T.range (pa_cons (pe_callB call_len_seq (by rfl) T.len (by decide +kernel) (pa_cons (pv 0) pa_nil)) pa_nil)) (pg_name (i := 6) sc_law_visits.nd rfl (Or.inl rfl)) (pss_cons (ps_set (i := 7) sc_law_visits.nd rfl (Or.inl rfl) (pe_ix ix_list (pv 0) (pv 6) (fun _ _ => rfl)))
      (pss_one (ps_if (pt_cmp (pc_isN (pe_ix ix_tup (pv 7) pe_int (fun _ _ => rfl)))) (pss_one (ps_set (i := 4) sc_law_visits.nd rfl (Or.inl rfl) pe_non)) (pss_cut (ps_if (PW.pt (pw_or (pt_cmp (pc_isN (pv 4))) (pw_or1 (pt_cmpR op_ne (pe_ix ix_tup (pv 7) pe_int (fun _ _ => rfl)) (pv 4) (nomark _))))) (pss_cons (ps_set (i := 3) sc_law_visits.nd rfl (Or.inl rfl) (pv 6))
      (pss_cons (ps_set (i := 4) sc_law_visits.nd rfl (Or.inl rfl) (pe_ix ix_tup (pv 7) pe_int (fun _ _ => rfl)))
      (pss_one (ps_set (i := 5) sc_law_visits.nd rfl (Or.inl rfl) pe_int)))) pss_nil)
      (pss_cons (ps_set (i := 5) sc_law_visits.nd rfl (Or.inl rfl) (pe_op op_add (pv 5) (pe_callTy call_int1 (by rfl) T.int (by decide +kernel) (pa_cons (pe_not (pe_ix ix_tup (pv 7) pe_int (fun _ _ => rfl))) pa_nil))))
      (pss_one (ps_if (PW.pt (pw_or (pt_val (pe_ix ix_tup (pv 7) pe_int (fun _ _ => rfl))) (pw_or1 (pt_cmpR op_eq (pv 5) (pv 1) (nomark _))))) (pss_cons (ps_expr (pe_bm PySem.F.plainAttrs_list PySem.F.slot_list_append PySem.F.type_list_append mt_append (pv 2) (pa_cons (pe_tup (pa_cons (pv 3) (pa_cons (pv 6) (pa_cons (pv 4) pa_nil)))) pa_nil)))
      (pss_one (ps_set (i := 4) sc_law_visits.nd rfl (Or.inl rfl) pe_non))) pss_nil))))))))
      (pss_one (ps_ret (pv 2)))))))), ?_⟩
    refine ⟨by show 0 ≤ sizeLine; decide, fun v nv => ?_⟩
    have X1 : Fr [] H (upd H v (.lst [])) := Fr.new0 nv _
    have hv1 : upd H v (.lst []) v = some (.lst []) := upd_same
    have nwv : Nw H v := .of nv
    generalize upd H v (.lst []) = H1 at X1 hv1
    have lts := hl.2.length
    refine ⟨_, rfl, _, _, rfl, .inl (SqL.of (X1.lst hl.1 not_nil)), _, rfl, by rw [List.length_map]; omega, by rw [List.length_map]; omega, ?_⟩
    rw [List.length_map, lts]
    refine for_range (lo := 0) (n := (rows.length : Int).toNat) (fun i σ H' => Fr [] H H' ∧ ∃ (vts : List Addr) (v6 v7 : Option V), VisAt H' v vts (scan p rows i).found ∧ (scan p rows i).found.length ≤ i ∧
      σ = [some (.ref l), some (.int (p : Int)), some (.ref v), some (.int ((scan p rows i).beg : Int)), some (optV (scan p rows i).spot), some (.int (scan p rows i).bad), v6, v7]) ⟨X1, [], _, _, ⟨hv1, .nil⟩, Nat.le_refl _, rfl⟩ ?_ ?_
    · rintro i σ H2 hi ⟨X2, vts, v6, v7, V2, lf, rfl⟩
      rw [Int.toNat_natCast] at hi
      obtain ⟨R, eR⟩ : ∃ R, rows[i]? = some R := ⟨rows[i], List.getElem?_eq_getElem hi⟩
      have es : scan p rows (i + 1) = scR p i R (scan p rows i) := by
        show (match rows[i]? with | some R => scR p i R (scan p rows i) | none => scan p rows i) = _
        rw [eR]
      rw [es]
      generalize scan p rows i = S at V2 lf
      obtain ⟨tt, z, hat, ht, hz⟩ := hl.at_ eR
      have ht2 := X2.tup ht not_nil
      rw [show (i : Int) = 0 + (i : Int) by omega] at hat
      refine ⟨_, rfl, _, rfl, _, _, _, _, rfl, rfl, SqL.of (X2.lst hl.1 not_nil), hat, ?_⟩
      cases en : R.now with
      | none =>
        have E : scR p i R S = { S with spot := none } := by
          unfold scR
          rw [en]
        rw [en] at ht2
        rw [E]
        exact ⟨_, rfl, _, _, _, _, rfl, rfl, SqT.of ht2, rfl, _, rfl, iteT ⟨X2, vts, _, _, V2, by show S.found.length ≤ i + 1; omega, rfl⟩⟩
      | some c =>
        rw [en] at ht2
        have ht2 : H2 tt = some (.tup [.ref z, .int c, .bl R.ok]) := ht2
        refine ⟨_, rfl, _, _, _, _, rfl, rfl, SqT.of ht2, rfl, _, rfl, iteF ?_⟩
        refine ⟨fun σ H' => H' = H2 ∧ σ = [some (.ref l), some (.int (p : Int)), some (.ref v), some (.int (((if S.spot = some c then S.beg else i) : Nat) : Int)), some (.int c), some (.int (if S.spot = some c then S.bad else 0)), some (.int (0 + (i : Int))), some (.ref tt)], ?_, ?_⟩
        · cases sp : S.spot with
          | none =>
            refine ⟨_, rfl, _, rfl, iteT ⟨_, rfl, _, rfl, _, _, _, _, rfl, rfl, SqT.of ht2, rfl, rfl, ?_⟩⟩
            rw [if_neg (fun z => nomatch z), if_neg (fun z => nomatch z), Int.zero_add]
            rfl
          | some m =>
            refine ⟨_, rfl, _, rfl, iteF ⟨_, rfl, _, _, _, _, rfl, rfl, SqT.of ht2, rfl, _, rfl, rfl, _, rfl, ?_⟩⟩
            by_cases q : c = m
            · subst q
              show (if (!decide (V.int c = V.int c)) = true then _ else _)
              rw [show (!decide (V.int c = V.int c)) = false by rw [decide_eq_true rfl]; rfl]
              refine iteF ⟨rfl, ?_⟩
              rw [if_pos rfl, if_pos rfl]
              rfl
            · show (if (!decide (V.int c = V.int m)) = true then _ else _)
              rw [show (!decide (V.int c = V.int m)) = true by rw [decIn q]; rfl]
              refine iteT ⟨_, rfl, _, rfl, _, _, _, _, rfl, rfl, SqT.of ht2, rfl, rfl, ?_⟩
              have ne : ¬ some m = some c := fun z => q (Option.some.inj z).symm
              rw [if_neg ne, if_neg ne, Int.zero_add]
              rfl
        · rintro σ H3 ⟨rfl, rfl⟩
          obtain ⟨beg, hbeg⟩ : ∃ beg : Nat, beg = (if S.spot = some c then S.beg else i) := ⟨_, rfl⟩
          obtain ⟨bad, hbad⟩ : ∃ bad : Int, bad = (if S.spot = some c then S.bad else 0) := ⟨_, rfl⟩
          have E : scR p i R S = if R.ok = true ∨ bad + (if R.ok = true then 0 else 1) = p then ⟨S.found ++ [(beg, i, c)], beg, none, bad + (if R.ok = true then 0 else 1)⟩ else ⟨S.found, beg, some c, bad + (if R.ok = true then 0 else 1)⟩ := by
            by_cases q : S.spot = some c
            · rw [scR_stay en q, hbeg, hbad, if_pos q, if_pos q]
            · rw [scR_new en q, hbeg, hbad, if_neg q, if_neg q]
          rw [E]
          rw [← hbeg, ← hbad]
          have add : ∃ acc, H3 v = some (.lst acc) ∧ acc = vts.map V.ref := ⟨_, V2.1, rfl⟩
          have put : ∀ (e1 : Int), e1 = bad + (if R.ok = true then 0 else 1) → ∀ tv, H3 tv = none → ∃ (l' : Addr) (xs : List V) (y : V), V.ref v = .ref l' ∧ [V.ref tv] = [y] ∧ (upd H3 tv (.tup [.int (beg : Int), .int (0 + (i : Int)), .int c])) l' = some (.lst xs) ∧ xs.length < sizeLine ∧ (Fr [] H (upd (upd H3 tv (.tup [.int (beg : Int), .int (0 + (i : Int)), .int c])) l' (.lst (xs ++ [y]))) ∧ ∃ (vts' : List Addr) (w6 w7 : Option V), VisAt (upd (upd H3 tv (.tup [.int (beg : Int), .int (0 + (i : Int)), .int c])) l' (.lst (xs ++ [y]))) v vts' (S.found ++ [(beg, i, c)]) ∧ (S.found ++ [(beg, i, c)]).length ≤ i + 1 ∧
              [some (V.ref l), some (.int (p : Int)), some (.ref v), some (.int (beg : Int)), some .non, some (.int e1), some (.int (0 + (i : Int))), some (.ref tt)] = [some (.ref l), some (.int (p : Int)), some (.ref v), some (.int (beg : Int)), some (optV none), some (.int (bad + (if R.ok = true then 0 else 1))), w6, w7]) := by
            intro e1 he tv ntv
            have X3 := X2.new ntv (.tup [.int (beg : Int), .int (0 + (i : Int)), .int c])
            have hv3 := upd_new (o := .tup [.int (beg : Int), .int (0 + (i : Int)), .int c]) ntv V2.1
            have tvv : tv ≠ v := (ne_of_none V2.1 ntv).symm
            refine ⟨v, _, .ref tv, rfl, rfl, hv3, by rw [List.length_map, V2.2.length]; exact small1000' (by omega), X3.late nwv (.lst hv3) _, vts ++ [tv], _, _, ⟨by rw [upd_same, List.map_append]; rfl, paired_snoc (paired_imp V2.2 fun t q e => ?_) ?_⟩, by rw [List.length_append]; show S.found.length + 1 ≤ _; omega, by rw [he]; rfl⟩
            · rw [upd_ne (fun z => by rw [z, V2.1] at e; cases e)]
              exact upd_new ntv e
            · rw [upd_ne tvv, upd_same, Int.zero_add]
          refine ⟨_, rfl, _, rfl, _, _, _, _, rfl, rfl, SqT.of ht2, rfl, _, rfl, .inr ⟨_, rfl, _, _, rfl, rfl, ?_⟩⟩
          cases ok : R.ok with
          | true =>
            rw [ok] at ht2 put
            refine ⟨_, rfl, _, _, _, _, rfl, rfl, SqT.of ht2, rfl, _, rfl, iteT ?_⟩
            rw [if_pos (.inl rfl)]
            refine ⟨_, rfl, .inl ⟨rfl, _, SqL.of V2.1⟩, _, rfl, _, rfl, _, rfl, by show 3 ≤ sizeLine; decide, fun tv ntv => ?_⟩
            exact put _ rfl tv ntv
          | false =>
            rw [ok] at ht2 put
            refine ⟨_, rfl, _, _, _, _, rfl, rfl, SqT.of ht2, rfl, _, rfl, iteF ⟨_, rfl, _, rfl, rfl, _, rfl, ite2 (fun hc => ?_) (fun hc => ?_)⟩⟩
            · have hc := eqI hc
              rw [if_pos (.inr hc)]
              refine ⟨_, rfl, .inl ⟨rfl, _, SqL.of V2.1⟩, _, rfl, _, rfl, _, rfl, by show 3 ≤ sizeLine; decide, fun tv ntv => ?_⟩
              exact put _ rfl tv ntv
            · have hc := neI hc
              rw [if_neg (fun z => z.elim (fun y => nomatch y) hc)]
              exact ⟨X2, vts, _, _, V2, by show S.found.length ≤ i + 1; omega, rfl⟩
    · rintro σ H2 ⟨X2, vts, v6, v7, V2, lf, rfl⟩
      rw [Int.toNat_natCast] at V2 lf
      exact ⟨_, rfl, k v vts H2 X2 V2 (by omega)⟩
theorem c_law_tried (d : D0 K mg "_law_tried" s_law_tried ["rows", "spot", "patience"]) : Cal P w K mg base 1 "_law_tried" spTried [] := by
  refine cal d sc_law_tried (fun vs H Q E h => ?_) (fun cdv A outer f s0 H vs Q E hr h => ?_)
  · obtain ⟨l, ts, W, s, p, rfl, _⟩ := h
    rfl
  · obtain ⟨l, ts, W, s, p, rfl, hl, l90, ht, k⟩ := h
    refine ⟨_, (pss_cons (ps_set (i := 3) sc_law_tried.nd rfl (Or.inl rfl) pe_int)
      (pss_cons (ps_for PassesOwn.never rfl (pi_list (pv 0)) (pg_name (i := 4) sc_law_tried.nd rfl (Or.inl rfl)) (pss_one (ps_if (pt_cmpR op_eq (pe_ix ix_tup (pv 4) pe_int (fun _ _ => rfl)) (pv 1) (nomark _)) (pss_cons (ps_if (pt_val (pe_ix ix_tup (pv 4) pe_int (fun _ _ => rfl))) (pss_one (ps_ret pe_bl)) pss_nil)
      (pss_one (ps_set (i := 3) sc_law_tried.nd rfl (Or.inl rfl) (pe_op op_add (pv 3) pe_int)))) pss_nil)))
      (pss_one (ps_ret (pe_cmpR op_ge (pv 3) (pv 2) (nomark _)))))), ?_⟩
    have lts := hl.2.length
    refine ⟨_, rfl, l, rfl, ⟨_, SqL.of hl.1⟩, ?_⟩
    refine for_list (xs := ts.map V.ref) (fun i σ H' => H' = H ∧ ((W.take i).any fun R => decide (R.now = some s) && R.ok) = false ∧ ∃ v4 : Option V, σ = [some (.ref l), some (.int s), some (.int (p : Int)), some (.int (((W.take i).countP fun R => decide (R.now = some s) : Nat) : Int)), v4]) ⟨rfl, rfl, none, rfl⟩ (fun i σ H' _ pv => by obtain ⟨rfl, _⟩ := pv; exact SqL.of hl.1) (fun i v σ H2 hv pv => ?_) (fun σ H2 pv => ?_)
    · obtain ⟨rfl, an, v4, rfl⟩ := pv
      have il := (List.getElem?_eq_some_iff.mp hv).1
      rw [List.length_map, lts] at il
      obtain ⟨R, eR⟩ : ∃ R, W[i]? = some R := ⟨W[i], List.getElem?_eq_getElem il⟩
      obtain ⟨t, z, hat, h1, h2⟩ := hl.at_ eR
      have ev : v = .ref t := by
        obtain ⟨j, hj, e, _⟩ := atI_get hat
        obtain ⟨t', et, _⟩ := paired_at hl.2 eR
        have e1 : (ts.map V.ref)[i]? = some (.ref t') := by rw [List.getElem?_map, et]; rfl
        rw [hv] at e1
        have e2 := atI_nat hv
        rw [hat] at e2
        exact (Option.some.inj e2).symm
      subst ev
      have tk := take_snoc eR
      cases en : R.now with
      | none =>
        rw [en] at h1
        refine ⟨_, rfl, _, _, _, _, rfl, rfl, SqT.of h1, rfl, _, rfl, rfl, _, rfl, ?_⟩
        show (if (decide (V.non = V.int s)) = true then _ else _)
        rw [show decide (V.non = V.int s) = false from decide_eq_false (fun z => nomatch z)]
        refine iteF ⟨rfl, ?_, some (.ref t), ?_⟩
        · rw [tk, List.any_append, an, List.any_cons, List.any_nil, en]
          rfl
        · rw [tk, List.countP_append, List.countP_cons_of_neg (by rw [en]; simp), List.countP_nil, Nat.add_zero]
          rfl
      | some c =>
        rw [en] at h1
        have h1 : H2 t = some (.tup [.ref z, .int c, .bl R.ok]) := h1
        refine ⟨_, rfl, _, _, _, _, rfl, rfl, SqT.of h1, rfl, _, rfl, rfl, _, rfl, ?_⟩
        by_cases q : c = s
        · subst q
          rw [decide_eq_true (rfl : V.int c = V.int c)]
          refine iteT ⟨_, rfl, _, _, _, _, rfl, rfl, SqT.of h1, rfl, _, rfl, ?_⟩
          cases ok : R.ok with
          | true => exact iteT k
          | false =>
            refine iteF ⟨_, rfl, _, _, rfl, rfl, rfl, ?_, some (.ref t), ?_⟩
            · rw [tk, List.any_append, an, List.any_cons, List.any_nil, ok, Bool.and_false]
              rfl
            · rw [tk, List.countP_append, List.countP_cons_of_pos (by rw [en]; exact decide_eq_true rfl), List.countP_nil]
              rfl
        · rw [decIn q]
          refine iteF ⟨rfl, ?_, some (.ref t), ?_⟩
          · rw [tk, List.any_append, an, List.any_cons, List.any_nil, en, decide_eq_false (fun z => q (Option.some.inj z))]
            rfl
          · rw [tk, List.countP_append, List.countP_cons_of_neg (by rw [en, decide_eq_false (fun z => q (Option.some.inj z))]; decide), List.countP_nil, Nat.add_zero]
            rfl
    · obtain ⟨rfl, an, v4, rfl⟩ := pv
      rw [List.length_map, lts, List.take_length] at an
      rw [List.length_map, lts, List.take_length]
      have ht' := ht
      unfold triedB at ht'
      rw [an, Bool.false_or, decide_eq_true_iff] at ht'
      refine ⟨_, rfl, _, rfl, _, _, rfl, rfl, ?_⟩
      show Q (.bl (decide ((p : Int) ≤ ((W.countP fun R => decide (R.now = some s) : Nat) : Int)))) H2
      rw [show decide ((p : Int) ≤ ((W.countP fun R => decide (R.now = some s) : Nat) : Int)) = true from decide_eq_true (by omega)]
      exact k
end
end K25

set_option Elab.async false
set_option maxRecDepth 100000
set_option maxHeartbeats 8000000
set_option exponentiation.threshold 4096
set_option linter.unusedVariables false
/-! windows -/
namespace K25
open PySem PySem.Spec PyProof.Rows L2 C8 LamX UF
def spWindow : Sp := fun vs H Q _ => ∃ (l v : Addr) (ts vts : List Addr) (rows : List Rw) (a P : Nat) (r : Int) (s0 : TS) (st : Nat → TS), vs = [.ref l, .ref v, .int (a : Int), .int (P : Int)] ∧ RowsAt [] H l ts rows ∧ VisAt H v vts (scan P rows rows.length).found ∧ (scan P rows rows.length).found.length ≤ 90 ∧ rows.length ≤ 90 ∧ a < rows.length ∧ 1 ≤ P ∧ P ≤ 6 ∧ 0 < r ∧ r ≤ 256 ∧ Made r P s0 rows st ∧ TOk P s0 ∧ s0.op = false ∧
  ∀ H' : Hp, Fr [] H H' → Q (.bl true) H'
/-- what is known of the names seen, and of those that stay, behind the rows a to a + i -/
structure WinK (r : Int) (rows : List Rw) (a i : Nat) (seen stay : List Int) : Prop where
  ss : Seats seen r
  sl : stay.length ≤ 256
  cov : ∀ j, a ≤ j → j ≤ a + i → ∀ x ∈ rwNs rows j, x ∈ seen
  st : ∀ j, a ≤ j → j ≤ a + i → ∀ x ∈ stay, x ∈ rwNs rows j
theorem VisAt.fr {H H' : Hp} {v : Addr} {vts : List Addr} {fs : List (Nat × Nat × Int)} (h : VisAt H v vts fs) (X : Fr [] H H') : VisAt H' v vts fs := ⟨X.lst h.1 not_nil, paired_imp h.2 fun t q e => X.tup e not_nil⟩
theorem paired_slice {α β : Type} {F : α → β → Prop} : ∀ {xs : List α} {ys : List β} (m n : Nat), Paired F xs ys → Paired F ((xs.drop m).take n) ((ys.drop m).take n)
  | _, _, _, 0, _ => .nil
  | _, _, 0, n + 1, .nil => .nil
  | _, _, 0, n + 1, .cons q t => .cons q (paired_slice 0 n t)
  | _, _, m + 1, n + 1, .nil => .nil
  | _, _, m + 1, n + 1, .cons _ t => paired_slice m (n + 1) t
theorem cut_refs (ts : List Addr) {m n : Nat} (h : n ≤ ts.length) : cutV (ts.map V.ref) (some (m : Int)) (some (n : Int)) = ((ts.drop m).take (n - m)).map V.ref := by
  unfold cutV
  rw [HT.sIx_nat, HT.sIx_nat, List.length_map, Nat.min_eq_left h, List.map_take, List.map_drop]
  rcases Nat.le_total m ts.length with q | q
  · rw [Nat.min_eq_left q]
  · rw [Nat.min_eq_right q, List.drop_of_length_le (l := ts.map V.ref) (by rw [List.length_map]; omega), List.drop_of_length_le (l := ts.map V.ref) (by rw [List.length_map]; omega), List.take_nil, List.take_nil]
section
variable {P : Program} {w : World} {K : PySem.W.Frag} {mg : Str → Option Value} {base : Heap} {C S t : Addr}
theorem c_law_window (T : Bl mg) (c_law_tried : Cal P w K mg base 1 "_law_tried" spTried []) (d : D0 K mg "_law_window" s_law_window ["rows", "visits", "start", "patience"]) : Cal P w K mg base 2 "_law_window" spWindow [] := by
  refine cal d sc_law_window (fun vs H Q E h => ?_) (fun cdv A outer f s0 H vs Q E hr h => ?_)
  · obtain ⟨l, v, ts, vts, rows, a, p, r, s0, st, rfl, _⟩ := h
    rfl
  · obtain ⟨l, v, ts, vts, rows, a, p, r, s1, st, rfl, hl, hv, f90, l90, al, p1, p6, r0, r256, M, tok, op0, k⟩ := h
    refine ⟨_, (pss_cons (ps_set (i := 4) sc_law_window.nd rfl (Or.inr rfl) (pe_callTy call_list_of (by rfl) T.list (by decide +kernel) (pa_cons (pe_ix ix_tup (pe_ix ix_list (pv 0) (pv 2) (fun _ _ => rfl)) pe_int (fun _ _ => rfl)) pa_nil)))
      (pss_cons (ps_set (i := 5) sc_law_window.nd rfl (Or.inl rfl) (pe_callTy call_list_of (by rfl) T.list (by decide +kernel) (pa_cons (pv 4) pa_nil)))
      (pss_cons (ps_set (i := 6) sc_law_window.nd rfl (Or.inl rfl) pe_bl)
      (pss_cons (ps_for PassesOwn.never rfl (pi_range2 rfl T.range (pa_cons (pv 2) (pa_cons (pe_callB call_len_seq (by rfl) T.len (by decide +kernel) (pa_cons (pv 0) pa_nil)) pa_nil))) (pg_name (i := 7) sc_law_window.nd rfl (Or.inr rfl)) (pss_cons (ps_set (i := 8) sc_law_window.nd rfl (Or.inr rfl) (pe_ix ix_tup (pe_ix ix_list (pv 0) (pv 7) (fun _ _ => rfl)) pe_int (fun _ _ => rfl)))
      (pss_cut (ps_if (PW.pt (pw_and (pt_cmpR op_gt (pv 7) (pv 2) (nomark _)) (pw_and1 (pt_cmpR (op_neD hr.units) (pv 8) (pe_ix ix_tup (pe_ix ix_list (pv 0) (pe_op op_sub (pv 7) pe_int) (fun _ _ => rfl)) pe_int (fun _ _ => rfl)) (nomark _))))) (pss_cons (ps_set (i := 4) sc_law_window.nd rfl (Or.inr rfl) (pe_op op_cat (pv 4) (pe_lc (own := [("spot", 9)]) (g := gName 9) (by rfl) sc_law_window.nd (pi_list (pv 8)) (blkOk_by (own := [("spot", 9)]) (N := n_law_window) (sc := C8.fnScope s_law_window) (by decide +kernel)) (fun _ _ _ _ _ => pg_name (i := 9) sc_law_window.nd rfl (Or.inl rfl)) (fun _ _ _ _ _ => (pts_one (pt_cmpR (show OpR _ (compareOp .NotIn) (rIn K true) from op_notIn_seq) (pv 9) (pv 4) (by with_unfolding_all rfl)))) (fun _ _ _ _ _ => (pv 9)))))
      (pss_one (ps_setLc (i := 5) (own := [("spot", 9)]) (g := gName 9) (by rfl) sc_law_window.nd rfl rfl (sw_true rfl rfl rfl (by decide +kernel)) (pi_list (pv 5)) (blkOk_by (own := [("spot", 9)]) (N := n_law_window) (sc := C8.fnScope s_law_window) (by decide +kernel)) (fun _ _ _ _ _ => pg_name (i := 9) sc_law_window.nd rfl (Or.inl rfl)) (fun _ _ _ _ _ => (pts_one (pt_cmpR (show OpR _ (compareOp .In) (rIn K false) from op_in_seq) (pv 9) (pv 8) (by with_unfolding_all rfl)))) (fun _ _ _ _ _ => (pv 9))))) pss_nil)
      (pss_cons (ps_if (pt_cmpR op_eq (pe_callB call_len_seq (by rfl) T.len (by decide +kernel) (pa_cons (pv 5) pa_nil)) pe_int (nomark _)) (pss_one (ps_ret pe_bl)) pss_nil)
      (pss_cons (ps_set (i := 10) sc_law_window.nd rfl (Or.inl rfl) (pe_op op_add (pe_op op_sub (pv 7) (pv 2)) pe_int))
      (pss_cut (ps_if (PW.pt (pw_and (pt_not (pt_val (pv 6))) (pw_and1 (pt_cmpR op_ge (pv 10) (pe_op op_mul (pe_callB call_len_seq (by rfl) T.len (by decide +kernel) (pa_cons (pv 4) pa_nil)) (pv 3)) (nomark _))))) (pss_cons (ps_set (i := 6) sc_law_window.nd rfl (Or.inl rfl) pe_bl)
      (pss_one (ps_for PassesOwn.never rfl (pi_list (pv 5)) (pg_name (i := 9) sc_law_window.nd rfl (Or.inl rfl)) (pss_one (ps_if (pt_not (pt_val (pe_c c_law_tried hr (by decide) rfl (pa_cons (pe_slice sl_list (pv 0) (po_some (pv 2)) (po_some (pe_op op_add (pv 7) pe_int))) (pa_cons (pv 9) (pa_cons (pv 3) pa_nil)))))) (pss_one (ps_ret pe_bl)) pss_nil))))) pss_nil)
      (pss_one (ps_if (pt_cmpR op_ge (pv 10) (pe_op op_sub (pe_op op_mul (pe_op op_add (pe_callB call_len_seq (by rfl) T.len (by decide +kernel) (pa_cons (pv 4) pa_nil)) pe_int) (pv 3)) pe_int) (nomark _)) (pss_cons (ps_set (i := 11) sc_law_window.nd rfl (Or.inr rfl) (pe_lc (own := [("visit", 12)]) (g := gName 12) (by rfl) sc_law_window.nd (pi_list (pv 1)) (blkOk_by (own := [("visit", 12)]) (N := n_law_window) (sc := C8.fnScope s_law_window) (by decide +kernel)) (fun _ _ _ _ _ => pg_name (i := 12) sc_law_window.nd rfl (Or.inl rfl)) (fun _ _ _ _ _ => (pts_one (PW.pt (pw_and (pt_cmpR op_ge (pe_ix (show IxR _ (rIxT K) from ix_tup) (pv 12) pe_int (fun _ _ => rfl)) (pv 2) (nomark _)) (pw_and1 (pt_cmpR op_le (pe_ix (show IxR _ (rIxT K) from ix_tup) (pv 12) pe_int (fun _ _ => rfl)) (pv 7) (nomark _))))))) (fun _ _ _ _ _ => (pe_ix (show IxR _ (rIxT K) from ix_tup) (pv 12) pe_int (fun _ _ => rfl)))))
      (pss_one (ps_ret (pe_cmpR op_eq (pe_callB call_len_seq (by rfl) T.len (by decide +kernel) (pa_cons (pe_lc (own := [("spot", 9)]) (g := gName 9) (by rfl) sc_law_window.nd (pi_list (pv 5)) (blkOk_by (own := [("spot", 9)]) (N := n_law_window) (sc := C8.fnScope s_law_window) (by decide +kernel)) (fun _ _ _ _ _ => pg_name (i := 9) sc_law_window.nd rfl (Or.inl rfl)) (fun _ _ _ _ _ => (pts_one (pt_cmpR (show OpR _ (compareOp .NotIn) (rIn K true) from op_notIn_seq) (pv 9) (pv 11) (by with_unfolding_all rfl)))) (fun _ _ _ _ _ => (pv 9))) pa_nil)) pe_int (nomark _))))) pss_nil))))))))
      (pss_one (ps_ret pe_bl)))))), ?_⟩
    have lts := hl.2.length
    have rowOf : ∀ i, i < rows.length → ∃ R, rows[i]? = some R ∧ rwNs rows i = R.ns := fun i h => by
      refine ⟨rows[i], List.getElem?_eq_getElem h, ?_⟩
      unfold rwNs
      rw [List.getElem?_eq_getElem h]
      rfl
    obtain ⟨Ra, eRa, nRa⟩ := rowOf a al
    obtain ⟨ta, za, hata, hta, hza⟩ := hl.at_ eRa
    have sa : Seats Ra.ns r := M.seats a Ra eRa
    have sal : ∀ {xs : List Int}, Seats xs r → xs.length ≤ 256 := fun h => Nat.le_trans (seats_len h (by omega)) (by omega)
    refine ⟨_, rfl, _, rfl, _, _, _, _, rfl, rfl, SqL.of hl.1, hata, _, _, _, _, rfl, rfl, SqT.of hta, rfl, za, _, rfl, .inl (SqL.of hza), fun se nse => ?_⟩
    have X1 : Fr [] H (upd H se (.lst (Ra.ns.map V.int))) := Fr.new0 nse _
    have hse1 : upd H se (.lst (Ra.ns.map V.int)) se = some (.lst (Ra.ns.map V.int)) := upd_same
    generalize upd H se (.lst (Ra.ns.map V.int)) = H1 at X1 hse1
    refine ⟨_, rfl, se, _, rfl, .inl (SqL.of hse1), fun sy nsy => ?_⟩
    have X2 := X1.new nsy (.lst (Ra.ns.map V.int))
    have hsy2 : upd H1 sy (.lst (Ra.ns.map V.int)) sy = some (.lst (Ra.ns.map V.int)) := upd_same
    have hse2 := upd_new (o := .lst (Ra.ns.map V.int)) nsy hse1
    generalize upd H1 sy (.lst (Ra.ns.map V.int)) = H2 at X2 hsy2 hse2
    refine ⟨_, rfl, _, rfl, _, _, rfl, .inl (SqL.of (X2.lst hl.1 not_nil)), _, _, rfl, ⟨by omega, by omega, by rw [List.length_map]; omega, by rw [List.length_map]; omega⟩, ?_⟩
    rw [List.length_map, lts]
    refine for_range (lo := (a : Int)) (n := ((rows.length : Int) - a).toNat) (fun i σ H' => Fr [] H H' ∧ ∃ (se sy : Addr) (seen stay : List Int) (ck : Bool) (v7 v8 v9 v10 : Option V), H' se = some (.lst (seen.map V.int)) ∧ H' sy = some (.lst (stay.map V.int)) ∧ WinK r rows a (i - 1) seen stay ∧
      σ = [some (.ref l), some (.ref v), some (.int (a : Int)), some (.int (p : Int)), some (.ref se), some (.ref sy), some (.bl ck), v7, v8, v9, v10, none, none]) ?_ ?_ ?_
    · refine ⟨X2, se, sy, Ra.ns, Ra.ns, false, _, _, _, _, hse2, hsy2, ⟨sa, sal sa, fun j h1 h2 x m => ?_, fun j h1 h2 x m => ?_⟩, rfl⟩
      · have : j = a := by omega
        rw [this, nRa] at m
        exact m
      · have : j = a := by omega
        rw [this, nRa]
        exact m
    · rintro i σ H3 hi ⟨X3, se, sy, seen, stay, ck, v7, v8, v9, v10, hse, hsy, WK, rfl⟩
      have ki : a + i < rows.length := by omega
      obtain ⟨R, eR, nR⟩ := rowOf (a + i) ki
      obtain ⟨tk, zk, hatk, htk, hzk⟩ := hl.at_ eR
      rw [show ((a + i : Nat) : Int) = (a : Int) + (i : Int) by omega] at hatk
      have hzk3 := X3.lst hzk not_nil
      have sk : Seats R.ns r := M.seats _ R eR
      refine ⟨_, rfl, _, rfl, _, _, _, _, rfl, rfl, SqL.of (X3.lst hl.1 not_nil), hatk, _, _, _, _, rfl, rfl, SqT.of (X3.tup htk not_nil), rfl, ?_⟩
      have l1 := sal WK.ss
      have l2 := sal sk
      refine ⟨fun σ H' => Fr [] H H' ∧ ∃ (se sy : Addr) (seen stay : List Int) (v9 : Option V), H' se = some (.lst (seen.map V.int)) ∧ H' sy = some (.lst (stay.map V.int)) ∧ WinK r rows a i seen stay ∧
        σ = [some (.ref l), some (.ref v), some (.int (a : Int)), some (.int (p : Int)), some (.ref se), some (.ref sy), some (.bl ck), some (.int ((a : Int) + (i : Int))), some (.ref zk), v9, v10, none, none], ?_, ?_⟩
      · have skip : i = 0 ∨ (1 ≤ i ∧ ∃ R', rows[a + i - 1]? = some R' ∧ R'.ns = R.ns) → WinK r rows a i seen stay := fun h => by
          rcases h with h | ⟨i1, R', e', en⟩
          · subst h
            exact WK
          · have n' : rwNs rows (a + i - 1) = R.ns := by
              unfold rwNs
              rw [e']
              exact en
            refine ⟨WK.ss, WK.sl, fun j h1 h2 x m => ?_, fun j h1 h2 x m => ?_⟩
            · by_cases q : j = a + i
              · rw [q, nR, ← n'] at m
                exact WK.cov (a + i - 1) (by omega) (by omega) x m
              · exact WK.cov j h1 (by omega) x m
            · by_cases q : j = a + i
              · rw [q, nR, ← n']
                exact WK.st (a + i - 1) (by omega) (by omega) x m
              · exact WK.st j h1 (by omega) x m
        refine ⟨_, rfl, _, rfl, _, _, rfl, rfl, _, rfl, ite2 (fun hc => ?_) (fun hc => ?_)⟩
        · have hc := of_decide_eq_true hc
          obtain ⟨R', eR', nR'⟩ := rowOf (a + i - 1) (by omega)
          obtain ⟨tk', zk', hatk', htk', hzk'⟩ := hl.at_ eR'
          rw [show ((a + i - 1 : Nat) : Int) = (a : Int) + (i : Int) - 1 by omega] at hatk'
          have s' : Seats R'.ns r := M.seats _ R' eR'
          refine ⟨_, rfl, _, rfl, _, rfl, _, _, rfl, rfl, _, _, _, _, rfl, rfl, SqL.of (X3.lst hl.1 not_nil), hatk', _, _, _, _, rfl, rfl, SqT.of (X3.tup htk' not_nil), rfl, _, _, dpList (SqL.of hzk3), dpList (SqL.of (X3.lst hzk' not_nil)), shaped_list _, shaped_list _, _, rfl, ?_⟩
          rw [eqv_ints]
          by_cases q : R.ns = R'.ns
          · rw [decide_eq_true q]
            exact iteF ⟨X3, se, sy, seen, stay, _, hse, hsy, skip (.inr ⟨by omega, R', eR', q.symm⟩), rfl⟩
          · rw [decide_eq_false q]
            refine iteT ?_
            -- more seen
            refine ⟨_, rfl, _, rfl, zk, rfl, ⟨_, SqL.of hzk3⟩, fun D nD => ?_⟩
            refine lc_list (xs := R.ns.map V.int) (fun j H' => Fr [] H3 H' ∧ H' D = some (.lst (((R.ns.take j).filter fun x => decide (x ∉ seen)).map V.int))) ⟨Fr.new0 nD _, upd_same⟩ (fun j H' _ pv => SqL.of (pv.1.lst hzk3 not_nil)) (fun j v' H4 hv' pv => ?_) (fun H4 pv => ?_)
            · obtain ⟨X4, hD⟩ := pv
              obtain ⟨x, ex, rfl⟩ := map_getE hv'
              have jl := (List.getElem?_eq_some_iff.mp ex).1
              have ll : ((R.ns.take j).filter fun x => decide (x ∉ seen)).length ≤ j := Nat.le_trans (List.length_filter_le _ _) (by rw [List.length_take]; omega)
              refine ⟨rfl, _, rfl, _, rfl, se, _, rfl, .inl (SqL.of (X4.lst hse not_nil)), rfl, flat_ints seen, _, rfl, ?_⟩
              show (if (!inV (V.int x) (seen.map V.int)) = true then _ else _)
              rw [inV_ints]
              by_cases z : x ∈ seen
              · rw [decide_eq_true z]
                refine iteF ⟨X4, ?_⟩
                rw [hD, take_snoc ex, List.filter_append, List.filter_cons_of_neg (by simpa using z), List.filter_nil, List.append_nil]
              · rw [decide_eq_false z]
                refine iteT ⟨_, rfl, _, hD, by rw [List.length_map]; exact small1000' (by omega), X4.late (.of nD) (.lst hD) _, ?_⟩
                rw [upd_same, take_snoc ex, List.filter_append, List.filter_cons_of_pos (by simpa using z), List.map_append]
                rfl
            · obtain ⟨X4, hD⟩ := pv
              rw [List.length_map, List.take_length] at hD
              have hse4 := X4.lst hse not_nil
              have l3 : (R.ns.filter fun x => decide (x ∉ seen)).length ≤ 256 := Nat.le_trans (List.length_filter_le _ _) l2
              have l4 := WK.sl
              refine ⟨se, D, _, _, rfl, rfl, hse4, hD, by rw [List.length_map, List.length_map]; exact Nat.le_of_lt (small1000' (by omega)), fun D2 nD2 => ?_⟩
              rw [← List.map_append]
              have X5 := X4.new nD2 (.lst ((seen ++ R.ns.filter fun x => decide (x ∉ seen)).map V.int))
              have hD5 : upd H4 D2 (.lst ((seen ++ R.ns.filter fun x => decide (x ∉ seen)).map V.int)) D2 = some (.lst ((seen ++ R.ns.filter fun x => decide (x ∉ seen)).map V.int)) := upd_same
              generalize upd H4 D2 (.lst ((seen ++ R.ns.filter fun x => decide (x ∉ seen)).map V.int)) = H5 at X5 hD5
              have hsy5 := X5.lst hsy not_nil
              have hzk5 := X5.lst hzk3 not_nil
              -- fewer stay
              refine ⟨_, rfl, sy, rfl, ⟨_, SqL.of hsy5⟩, fun D3 nD3 => ?_⟩
              refine lc_list (xs := stay.map V.int) (fun j H' => Fr [] H5 H' ∧ H' D3 = some (.lst (((stay.take j).filter fun x => decide (x ∈ R.ns)).map V.int))) ⟨Fr.new0 nD3 _, upd_same⟩ (fun j H' _ pv => SqL.of (pv.1.lst hsy5 not_nil)) (fun j v' H6 hv' pv => ?_) (fun H6 pv => ?_)
              · obtain ⟨X6, hD3⟩ := pv
                obtain ⟨x, ex, rfl⟩ := map_getE hv'
                have jl := (List.getElem?_eq_some_iff.mp ex).1
                have ll : ((stay.take j).filter fun x => decide (x ∈ R.ns)).length ≤ j := Nat.le_trans (List.length_filter_le _ _) (by rw [List.length_take]; omega)
                refine ⟨rfl, _, rfl, _, rfl, zk, _, rfl, .inl (SqL.of (X6.lst hzk5 not_nil)), rfl, flat_ints R.ns, _, rfl, ?_⟩
                show (if inV (V.int x) (R.ns.map V.int) = true then _ else _)
                rw [inV_ints]
                by_cases z : x ∈ R.ns
                · rw [decide_eq_true z]
                  refine iteT ⟨_, rfl, _, hD3, by rw [List.length_map]; exact small1000' (by omega), X6.late (.of nD3) (.lst hD3) _, ?_⟩
                  rw [upd_same, take_snoc ex, List.filter_append, List.filter_cons_of_pos (by simpa using z), List.map_append]
                  rfl
                · rw [decide_eq_false z]
                  refine iteF ⟨X6, ?_⟩
                  rw [hD3, take_snoc ex, List.filter_append, List.filter_cons_of_neg (by simpa using z), List.filter_nil, List.append_nil]
              · obtain ⟨X6, hD3⟩ := pv
                rw [List.length_map, List.take_length] at hD3
                refine ⟨(X3.trans X5).trans X6, D2, D3, _, _, _, X6.lst hD5 not_nil, hD3, ⟨⟨?_, fun x m => ?_, fun x m => ?_⟩, Nat.le_trans (List.length_filter_le _ _) l4, fun j h1 h2 x m => ?_, fun j h1 h2 x m => ?_⟩, rfl⟩
                · refine List.nodup_append.mpr ⟨WK.ss.nd, sk.nd.filter _, fun x m y m' e => ?_⟩
                  subst e
                  exact of_decide_eq_true (List.mem_filter.mp m').2 m
                · rcases List.mem_append.mp m with m | m
                  · exact WK.ss.lo x m
                  · exact sk.lo x (List.mem_filter.mp m).1
                · rcases List.mem_append.mp m with m | m
                  · exact WK.ss.hi x m
                  · exact sk.hi x (List.mem_filter.mp m).1
                · by_cases q : j = a + i
                  · rw [q, nR] at m
                    by_cases z : x ∈ seen
                    · exact List.mem_append_left _ z
                    · exact List.mem_append_right _ (List.mem_filter.mpr ⟨m, decide_eq_true z⟩)
                  · exact List.mem_append_left _ (WK.cov j h1 (by omega) x m)
                · have mm := List.mem_filter.mp m
                  by_cases q : j = a + i
                  · rw [q, nR]
                    exact of_decide_eq_true mm.2
                  · exact WK.st j h1 (by omega) x mm.1
        · have hc : ¬ _ := fun z => hc (decide_eq_true z)
          exact ⟨X3, se, sy, seen, stay, _, hse, hsy, skip (.inl (by omega)), rfl⟩
      clear WK hse hsy hzk3 l1 X3
      rintro σ H4 ⟨X4, se, sy, seen, stay, v9, hse, hsy, WK, rfl⟩
      have l1 := sal WK.ss
      have lst := WK.sl
      refine ⟨_, rfl, _, _, rfl, .inl (SqL.of hsy), rfl, _, rfl, ite2 (fun hc => k H4 X4) (fun hc => ?_)⟩
      have ne : stay ≠ [] := fun e => hc (by rw [e]; exact decide_eq_true rfl)
      refine ⟨_, rfl, _, rfl, _, _, rfl, rfl, _, _, rfl, rfl, ?_⟩
      show gName 10 (V.int ((a : Int) + (i : Int) - (a : Int) + 1)) _ H4 _
      rw [show (a : Int) + (i : Int) - (a : Int) + 1 = (i : Int) + 1 by omega]
      refine ⟨fun σ H' => Fr [] H4 H' ∧ ∃ (ck' : Bool) (v9' : Option V), σ = [some (.ref l), some (.ref v), some (.int (a : Int)), some (.int (p : Int)), some (.ref se), some (.ref sy), some (.bl ck'), some (.int ((a : Int) + (i : Int))), some (.ref zk), v9', some (.int ((i : Int) + 1)), none, none], ?_, ?_⟩
      · cases ck with
        | true => exact ⟨_, rfl, _, rfl, iteF ⟨.refl _ _, _, _, rfl⟩⟩
        | false =>
          refine ⟨_, rfl, _, rfl, iteT ⟨_, rfl, _, rfl, _, _, rfl, .inl (SqL.of hse), _, rfl, _, _, rfl, rfl, .inr ⟨by omega, by omega⟩, _, _, rfl, rfl, _, rfl, ite2 (fun hc => ?_) (fun hc => ⟨.refl _ _, _, _, rfl⟩)⟩⟩
          have hc := of_decide_eq_true hc
          rw [List.length_map] at hc
          have L : seen.length * p ≤ a + i + 1 - a := by
            have : ((seen.length * p : Nat) : Int) = (seen.length : Int) * (p : Int) := Int.natCast_mul _ _
            omega
          refine ⟨_, rfl, sy, rfl, ⟨_, SqL.of hsy⟩, ?_⟩
          refine for_list (xs := stay.map V.int) (fun j σ H' => Fr [] H4 H' ∧ ∃ v9' : Option V, σ = [some (.ref l), some (.ref v), some (.int (a : Int)), some (.int (p : Int)), some (.ref se), some (.ref sy), some (.bl true), some (.int ((a : Int) + (i : Int))), some (.ref zk), v9', some (.int ((i : Int) + 1)), none, none]) ⟨.refl _ _, _, rfl⟩ (fun j σ H' _ pv => SqL.of (pv.1.lst hsy not_nil)) (fun j v' σ H5 hv' pv => ?_) (fun σ H5 pv => ⟨pv.1, true, pv.2⟩)
          obtain ⟨X5, v9', rfl⟩ := pv
          obtain ⟨x, ex, rfl⟩ := map_getE hv'
          have xm := List.mem_of_getElem? ex
          refine ⟨_, rfl, _, rfl, _, rfl, _, rfl, _, _, rfl, rfl, _, rfl, l, _, rfl, SqL.of ((X4.trans X5).lst hl.1 not_nil), fun D nD => ?_⟩
          rw [show (a : Int) + (i : Int) + 1 = ((a + i + 1 : Nat) : Int) by omega, cut_refs ts (by omega)]
          have X6 : Fr [] H5 (upd H5 D (.lst (((ts.drop a).take (a + i + 1 - a)).map V.ref))) := Fr.new0 nD _
          refine ⟨_, rfl, _, rfl, D, (ts.drop a).take (a + i + 1 - a), (rows.drop a).take (a + i + 1 - a), x, p, rfl, ⟨upd_same, paired_imp (paired_slice a (a + i + 1 - a) hl.2) fun t R q => q.fw ((X4.trans X5).trans X6).w fun _ m => m⟩, ?_, ?_, _, rfl, iteF ⟨X5.trans X6, _, rfl⟩⟩
          · rw [List.length_take, List.length_drop]
            omega
          · refine M.tried r0 p1 tok ki (Nat.le_add_right a i) (fun j h1 h2 => WK.st j h1 h2 x xm) (fun j h1 h2 => WK.cov j h1 h2) (fun y m => ⟨WK.ss.lo y m, WK.ss.hi y m⟩) WK.ss.nd L
      rintro σ H5 ⟨X5, ck', v9', rfl⟩
      have hse5 := X5.lst hse not_nil
      have hsy5 := X5.lst hsy not_nil
      refine ⟨_, rfl, _, rfl, _, _, rfl, .inl (SqL.of hse5), _, _, rfl, rfl, _, rfl, _, _, rfl, rfl, .inr ⟨by omega, by omega⟩, _, _, rfl, rfl, _, _, rfl, rfl, _, rfl, ite2 (fun hc => ?_) (fun hc => ⟨X4.trans X5, se, sy, seen, stay, ck', _, _, _, _, hse5, hsy5, WK, rfl⟩)⟩
      have hc := of_decide_eq_true hc
      rw [List.length_map] at hc
      have L : (seen.length + 1) * p ≤ a + i + 1 - a + 1 := by
        have : (((seen.length + 1) * p : Nat) : Int) = ((seen.length : Int) + 1) * (p : Int) := by rw [Int.natCast_mul]; rfl
        omega
      have hv5 := hv.fr (X4.trans X5)
      obtain ⟨fs, hfs⟩ : ∃ fs, fs = (scan p rows rows.length).found := ⟨_, rfl⟩
      rw [← hfs] at hv5 f90
      have lv := hv5.2.length
      refine ⟨_, rfl, v, rfl, ⟨_, SqL.of hv5.1⟩, fun D nD => ?_⟩
      refine lc_list (xs := vts.map V.ref) (fun j H' => Fr [] H5 H' ∧ ∃ ns : List Int, H' D = some (.lst (ns.map V.int)) ∧ ns.length ≤ j ∧ ∀ q ∈ fs.take j, a ≤ q.1 → q.2.1 ≤ a + i → q.2.2 ∈ ns) ⟨Fr.new0 nD _, [], upd_same, Nat.le_refl _, fun q m => by rw [List.take_zero] at m; cases m⟩ (fun j H' _ pv => SqL.of (pv.1.lst hv5.1 not_nil)) (fun j v' H6 hv' pv => ?_) (fun H6 pv => ?_)
      · obtain ⟨X6, ns, hD, lns, cov⟩ := pv
        have jl := (List.getElem?_eq_some_iff.mp hv').1
        rw [List.length_map, lv] at jl
        obtain ⟨q, eq⟩ : ∃ q, fs[j]? = some q := ⟨fs[j], List.getElem?_eq_getElem jl⟩
        obtain ⟨tq, etq, htq⟩ := paired_at hv5.2 eq
        have ev : v' = .ref tq := by
          rw [List.getElem?_map, etq] at hv'
          exact (Option.some.inj hv').symm
        subst ev
        have htq6 := X6.tup htq not_nil
        have tk := take_snoc eq
        have skip : ¬ (a ≤ q.1 ∧ q.2.1 ≤ a + i) → (Fr [] H5 H6 ∧ ∃ ns : List Int, H6 D = some (.lst (ns.map V.int)) ∧ ns.length ≤ j + 1 ∧ ∀ q ∈ fs.take (j + 1), a ≤ q.1 → q.2.1 ≤ a + i → q.2.2 ∈ ns) := fun no => by
          refine ⟨X6, ns, hD, by omega, fun q' m h1 h2 => ?_⟩
          rw [tk] at m
          rcases List.mem_append.mp m with m | m
          · exact cov q' m h1 h2
          · rw [List.mem_singleton.mp m] at h1 h2
            exact absurd ⟨h1, h2⟩ no
        refine ⟨rfl, _, rfl, _, _, _, _, rfl, rfl, SqT.of htq6, rfl, _, rfl, _, _, rfl, rfl, _, rfl, ite2 (fun hc1 => ?_) (fun hc1 => ?_)⟩
        · have hc1 := of_decide_eq_true hc1
          refine ⟨_, rfl, _, _, _, _, rfl, rfl, SqT.of htq6, rfl, _, rfl, _, _, rfl, rfl, _, rfl, ite2 (fun hc2 => ?_) (fun hc2 => ?_)⟩
          · refine ⟨_, rfl, _, _, _, _, rfl, rfl, SqT.of htq6, rfl, _, hD, by rw [List.length_map]; exact small1000' (by omega), X6.late (.of nD) (.lst hD) _, ns ++ [q.2.2], by rw [upd_same, List.map_append]; rfl, by rw [List.length_append]; show ns.length + 1 ≤ _; omega, fun q' m h1 h2 => ?_⟩
            rw [tk] at m
            rcases List.mem_append.mp m with m | m
            · exact List.mem_append_left _ (cov q' m h1 h2)
            · rw [List.mem_singleton.mp m]
              exact List.mem_append_right _ (.head _)
          · have hc2 : ¬ _ := fun z => hc2 (decide_eq_true z)
            exact skip fun z => by omega
        · have hc1 : ¬ _ := fun z => hc1 (decide_eq_true z)
          exact skip fun z => by omega
      · obtain ⟨X6, ns, hD, lns, cov⟩ := pv
        rw [List.length_map, lv, List.take_length] at cov
        rw [List.length_map, lv] at lns
        have hsy6 := X6.lst hsy5 not_nil
        have all : ∀ x ∈ stay, x ∈ ns := fun x xm => by
          obtain ⟨j, e, m, ja, ek⟩ := M.visited r0 p1 tok op0 ki (Nat.le_add_right a i) (fun j h1 h2 => WK.st j h1 h2 x xm) (fun j h1 h2 => WK.cov j h1 h2) (fun y m => ⟨WK.ss.lo y m, WK.ss.hi y m⟩) WK.ss.nd L
          rw [← hfs] at m
          exact cov _ m ja ek
        refine ⟨_, rfl, sy, rfl, ⟨_, SqL.of hsy6⟩, fun D2 nD2 => ?_⟩
        refine lc_list (xs := stay.map V.int) (fun j H' => Fr [] H6 H' ∧ H' D2 = some (.lst [])) ⟨Fr.new0 nD2 _, upd_same⟩ (fun j H' _ pv => SqL.of (pv.1.lst hsy6 not_nil)) (fun j v' H7 hv' pv => ?_) (fun H7 pv => ?_)
        · obtain ⟨X7, hD2⟩ := pv
          obtain ⟨x, ex, rfl⟩ := map_getE hv'
          refine ⟨rfl, _, rfl, _, rfl, D, _, rfl, .inl (SqL.of (X7.lst hD not_nil)), rfl, flat_ints ns, _, rfl, ?_⟩
          show (if (!inV (V.int x) (ns.map V.int)) = true then _ else _)
          rw [inV_ints, decide_eq_true (all x (List.mem_of_getElem? ex))]
          exact iteF ⟨X7, hD2⟩
        · obtain ⟨X7, hD2⟩ := pv
          refine ⟨_, _, rfl, .inl (SqL.of hD2), rfl, ?_⟩
          exact k H7 (((X4.trans X5).trans X6).trans X7)
    · rintro σ H3 ⟨X3, se, sy, seen, stay, ck, v7, v8, v9, v10, hse, hsy, WK, rfl⟩
      exact k H3 X3
end
end K25

set_option Elab.async false
set_option maxRecDepth 100000
set_option maxHeartbeats 8000000
set_option exponentiation.threshold 4096
set_option linter.unusedVariables false
/-! the law -/
namespace K25
open PySem PySem.Spec PyProof.Rows L2 C8 LamX UF
theorem filter_first {α : Type} {p : α → Bool} : ∀ {l rest : List α} {x : α}, l.filter p = x :: rest → ∃ i : Nat, l[i]? = some x ∧ p x = true ∧ ∀ (j : Nat) (y : α), j < i → l[j]? = some y → p y = false
  | [], _, _, h => by cases h
  | a :: l, rest, x, h => by
    by_cases q : p a = true
    · rw [List.filter_cons_of_pos q] at h
      cases h
      exact ⟨0, rfl, q, fun j y hj => absurd hj (Nat.not_lt_zero _)⟩
    · rw [List.filter_cons_of_neg q] at h
      obtain ⟨i, e, px, no⟩ := filter_first h
      refine ⟨i + 1, e, px, fun j y hj ey => ?_⟩
      cases j with
      | zero =>
        cases ey
        exact Bool.eq_false_iff.mpr q
      | succ j => exact no j y (by omega) ey
section
variable {r : Int} {P : Nat} {s0 : TS} {rows : List Rw} {st : Nat → TS}
/-- up to the first aim the tour stands as it was made -/
theorem Made.calm (M : Made r P s0 rows st) (op0 : s0.op = false) : ∀ i, i ≤ rows.length → (∀ j R, j < i → rows[j]? = some R → R.now = none) → (stB P s0 rows st i).op = false ∧ (stB P s0 rows st i).last = s0.last
  | 0, _, _ => ⟨op0, rfl⟩
  | i + 1, h, no => by
    obtain ⟨o1, o2⟩ := Made.calm M op0 i (by omega) fun j R hj e => no j R (by omega) e
    obtain ⟨R, e⟩ : ∃ R, rows[i]? = some R := ⟨rows[i], List.getElem?_eq_getElem (by omega)⟩
    have nn := no i R (Nat.lt_succ_self i) e
    rw [M.now i R e] at nn
    show (repS P (st i) (rwOk rows i)).op = false ∧ (repS P (st i) (rwOk rows i)).last = s0.last
    rcases M.aim e with ⟨z, _⟩ | ⟨_, o, _, es⟩
    · unfold stays at z
      rw [o1] at z
      cases z
    · rw [es] at nn ⊢
      have eo : o = none := nn
      subst eo
      exact ⟨rfl, o2⟩
theorem Made.first_aim (M : Made r P s0 rows st) (op0 : s0.op = false) {i : Nat} {R : Rw} (e : rows[i]? = some R) (no : ∀ j R, j < i → rows[j]? = some R → R.now = none) : IsFirst r (s0.last + 1) R.ns R.now := by
  have il := (List.getElem?_eq_some_iff.mp e).1
  obtain ⟨o1, o2⟩ := M.calm op0 i (by omega) no
  rw [M.now i R e]
  rcases M.aim e with ⟨z, _⟩ | ⟨_, o, f, es⟩
  · unfold stays at z
    rw [o1] at z
    cases z
  · rw [es]
    rw [o2] at f
    exact f
end
section
variable {P : Program} {w : World} {K : PySem.W.Frag} {mg : Str → Option Value} {base : Heap} {C S t : Addr}
theorem f_law (T : Bl mg) (c_law_box : Cal P w K mg base 1 "_law_box" (spBox K) []) (c_law_draw : Cal P w K mg base 1 "_law_draw" spDraw []) (c_law_bits : Cal P w K mg base 2 "_law_bits" spBits []) (c_law_pool : Cal P w K mg base 3 "_law_pool" spPool []) (c_law_patience : Cal P w K mg base 2 "_law_patience" spPat [])
    (c_Setting : Mak P w K mg base 3 "Setting" S (spInit S) [.int 6, .int 1]) (c_law_tour : Cal P w K mg base 3 "_law_tour" (spTour C) []) (c_law_played : Cal P w K mg base 9 "_law_played" (spPlayed C S t) []) (c_law_first : Cal P w K mg base 1 "_law_first" spLFirst []) (c_law_visits : Cal P w K mg base 1 "_law_visits" spVisits []) (c_law_window : Cal P w K mg base 2 "_law_window" spWindow [])
    {fa : Addr} {fd : FuncData} (FF : C8.Fun K "law" "law" s_law fa fd) : FnOk P w K mg base C8.CX0 10 fa fd ["script"] (spLawT K t) := by
  refine C8.fn0 FF sc_law (fun vs H Q E h => ?_) (fun cdv A0 outer s0 H vs Q E hr h => ?_)
  · obtain ⟨a, ns, rfl, _⟩ := h
    rfl
  · obtain ⟨a, ns, rfl, hs, hl, hT0, k⟩ := h
    have TB0 : Tabs (TT t) H := fun p hp => by
      cases hp with
      | head => exact TabS.nil hT0
      | tail _ hp => cases hp
    refine ⟨_, (pss_cons (ps_set (i := 1) sc_law.nd rfl (Or.inl rfl) (pe_c c_law_box hr (by decide) rfl (pa_cons (pv 0) pa_nil)))
      (pss_cons (ps_set (i := 2) sc_law.nd rfl (Or.inl rfl) (pe_cmpR op_eq (pe_c c_law_draw hr (by decide) rfl (pa_cons (pv 1) (pa_cons pe_int pa_nil))) pe_int (nomark _)))
      (pss_cons (ps_set (i := 3) sc_law.nd rfl (Or.inl rfl) (pe_c c_law_bits hr (by decide) rfl (pa_cons (pv 1) pa_nil)))
      (pss_cut (ps_if (pt_val (pv 2)) (pss_one (ps_set (i := 3) sc_law.nd rfl (Or.inl rfl) (pe_op op_add pe_int (pe_c c_law_draw hr (by decide) rfl (pa_cons (pv 1) (pa_cons pe_int pa_nil)))))) pss_nil)
      (pss_cons (ps_set (i := 4) sc_law.nd rfl (Or.inl rfl) (pe_op op_shl pe_int (pv 3)))
      (pss_cons (ps_set (i := 5) sc_law.nd rfl (Or.inl rfl) (pe_c c_law_draw hr (by decide) rfl (pa_cons (pv 1) (pa_cons (pv 4) pa_nil))))
      (pss_cons (ps_set (i := 6) sc_law.nd rfl (Or.inl rfl) (pe_c c_law_pool hr (by decide) rfl (pa_cons (pv 1) (pa_cons (pv 4) (pa_cons (pv 5) (pa_cons (pv 2) pa_nil))))))
      (pss_cons (ps_set (i := 7) sc_law.nd rfl (Or.inl rfl) (pe_c c_law_patience hr (by decide) rfl (pa_cons (pv 1) pa_nil)))
      (pss_cut (ps_if (pt_cmpR op_gt (pe_callB call_len_seq (by rfl) T.len (by decide +kernel) (pa_cons (pv 6) pa_nil)) pe_int (nomark _)) (pss_one (ps_set (i := 7) sc_law.nd rfl (Or.inl rfl) (pe_op op_add pe_int (pe_op op_mod (pe_callTy call_int1 (by rfl) T.int (by decide +kernel) (pa_cons (pv 7) pa_nil)) pe_int)))) pss_nil)
      (pss_cons (ps_set (i := 8) sc_law.nd rfl (Or.inl rfl) (pe_mk c_Setting hr (by decide) rfl (pa_cons (pv 3) (pa_cons (pv 7) (pa_cons (pe_op op_add pe_int (pe_c c_law_draw hr (by decide) rfl (pa_cons (pv 1) (pa_cons pe_int pa_nil)))) pa_nil)))))
      (pss_cons (ps_set (i := 9) sc_law.nd rfl (Or.inl rfl) (pe_c c_law_tour hr (by decide) rfl (pa_cons (pv 1) (pa_cons (pv 8) (pa_cons (pv 4) (pa_cons (pv 5) pa_nil))))))
      (pss_cons (ps_set (i := 10) sc_law.nd rfl (Or.inl rfl) (pe_c c_law_played hr (by decide) rfl (pa_cons (pv 1) (pa_cons (pe_ix ix_tup (pv 9) pe_int (fun _ _ => rfl)) (pa_cons (pv 6) (pa_cons (pv 7) pa_nil))))))
      (pss_cons (ps_if (pt_cmp (pc_isN (pv 10))) (pss_one (ps_ret pe_bl)) pss_nil)
      (pss_cons (ps_setLc (i := 11) (own := [("row", 14)]) (g := gName 14) (by rfl) sc_law.nd rfl rfl (sw_true rfl rfl rfl (by decide +kernel)) (pi_list (pv 10)) (blkOk_by (own := [("row", 14)]) (N := n_law) (sc := C8.fnScope s_law) (by decide +kernel)) (fun _ _ _ _ _ => pg_name (i := 14) sc_law.nd rfl (Or.inl rfl)) (fun _ _ _ _ _ => (pts_one (pt_cmp (pc_notN (pe_ix (show IxR _ (rIxT K) from ix_tup) (pv 14) pe_int (fun _ _ => rfl)))))) (fun _ _ _ _ _ => (pv 14)))
      (pss_cut (ps_if (PW.pt (pw_and (pt_cmpR op_gt (pe_callB call_len_seq (by rfl) T.len (by decide +kernel) (pa_cons (pv 11) pa_nil)) pe_int (nomark _)) (pw_and1 (pt_cmpR op_ne (pe_ix ix_tup (pe_ix ix_list (pv 11) pe_int (fun _ _ => rfl)) pe_int (fun _ _ => rfl)) (pe_c c_law_first hr (by decide) rfl (pa_cons (pv 4) (pa_cons (pe_op op_add (pe_ix ix_tup (pv 9) pe_int (fun _ _ => rfl)) pe_int) (pa_cons (pe_ix ix_tup (pe_ix ix_list (pv 11) pe_int (fun _ _ => rfl)) pe_int (fun _ _ => rfl)) pa_nil)))) (nomark _))))) (pss_one (ps_ret pe_bl)) pss_nil)
      (pss_cons (ps_set (i := 12) sc_law.nd rfl (Or.inl rfl) (pe_c c_law_visits hr (by decide) rfl (pa_cons (pv 10) (pa_cons (pv 7) pa_nil))))
      (pss_cons (ps_for PassesOwn.never rfl (pi_range1 rfl T.range (pa_cons (pe_callB call_len_seq (by rfl) T.len (by decide +kernel) (pa_cons (pv 10) pa_nil)) pa_nil)) (pg_name (i := 13) sc_law.nd rfl (Or.inl rfl)) (pss_one (ps_if (pt_not (pt_val (pe_c c_law_window hr (by decide) rfl (pa_cons (pv 10) (pa_cons (pv 12) (pa_cons (pv 13) (pa_cons (pv 7) pa_nil))))))) (pss_one (ps_ret pe_bl)) pss_nil)))
      (pss_one (ps_ret pe_bl))))))))))))))))))), ?_⟩
    refine ⟨_, rfl, a, ns, rfl, hs, hl, fun b c H1 nb nc B1 X1 => ?_⟩
    refine ⟨_, rfl, b, c, 10, rfl, B1, by decide, by decide +kernel, fun d1 H2 _ _ B2 X2 => ⟨rfl, ?_⟩⟩
    refine ⟨_, rfl, b, c, rfl, B2, fun n0 H3 n01 n08 B3 X3 => ?_⟩
    have T3 := X3.tabs _ (X2.tabs _ (X1.tabs _ TB0))
    refine ⟨fun σ H' => Tabs (TT t) H' ∧ Box H' b c ∧ ∃ (n : Nat) (lg : Bool), 1 ≤ n ∧ n ≤ 8 ∧ σ = [some (.ref a), some (.ref b), some (.bl lg), some (.int (n : Int)), none, none, none, none, none, none, none, none, none, none, none], ?_, ?_⟩
    · refine ⟨_, rfl, _, rfl, ite2 (fun hc => ?_) (fun hc => ⟨T3, B3, n0, _, n01, n08, rfl⟩)⟩
      refine ⟨_, rfl, b, c, 4, rfl, B3, by decide, by decide +kernel, fun d2 H4 e0 e1 B4 X4 => ⟨_, _, rfl, rfl, X4.tabs _ T3, B4, (5 + d2).toNat, decide (V.int d1 = V.int 0), by omega, by omega, ?_⟩⟩
      rw [Int.toNat_of_nonneg (by omega)]
      rfl
    rintro σ H4 ⟨T4, B4, n, lg, n1, n8, rfl⟩
    have r2 := ring_two n1
    have r256 := ringN_le n8
    refine ⟨_, rfl, _, _, rfl, rfl, ⟨by omega, by omega, by decide⟩, ?_⟩
    show gName 4 (V.int (1 * 2 ^ ((n : Int)).toNat)) _ H4 _
    rw [shl_eq]
    refine ⟨_, rfl, _, rfl, b, c, ringN n, rfl, B4, by omega, ring_lt n8, fun own H5 o0 o1 B5 X5 => ?_⟩
    refine ⟨_, rfl, _, rfl, _, rfl, _, rfl, b, c, ringN n, own, lg, rfl, B5, r2, r256, o0, o1, fun y pool H6 ny X6 B6 hy sp l1 l20 => ?_⟩
    have T6 := X6.tabs _ (X5.tabs _ T4)
    have yb := (B5.nw_ne ny).1
    refine ⟨_, rfl, b, c, rfl, B6, fun p0 H7 p01 p06 B7 X7 => ?_⟩
    have hy7 := X7.lst hy (not_one yb)
    refine ⟨fun σ H' => H' = H7 ∧ ∃ p : Nat, 1 ≤ p ∧ p ≤ 6 ∧ σ = [some (.ref a), some (.ref b), some (.bl lg), some (.int (n : Int)), some (.int (ringN n)), some (.int own), some (.ref y), some (.int (p : Int)), none, none, none, none, none, none, none], ?_, ?_⟩
    · refine ⟨_, rfl, _, _, rfl, .inl (SqL.of hy7), _, _, rfl, rfl, _, rfl, ite2 (fun hc => ?_) (fun hc => ⟨rfl, p0, p01, p06, rfl⟩)⟩
      have m0 := Int.emod_nonneg (p0 : Int) (show (2 : Int) ≠ 0 by decide)
      have m1 := Int.emod_lt_of_pos (p0 : Int) (show (0 : Int) < 2 by decide)
      refine ⟨_, rfl, .inl ⟨_, rfl, _, _, rfl, rfl, pm (by decide), _, _, rfl, rfl, rfl, (1 + (p0 : Int) % 2).toNat, by omega, by omega, ?_⟩⟩
      rw [Int.toNat_of_nonneg (by omega)]
      rfl
    rintro σ H' ⟨rfl, p, p1, p6, rfl⟩
    have T7 := X7.tabs _ T6
    -- setting
    refine ⟨_, rfl, _, rfl, _, rfl, b, c, 64, rfl, B7, by decide, by decide +kernel, fun d3 H8 e0 e1 B8 X8 => ⟨_, _, rfl, rfl, fun x dx nx ndx dxx => ?_⟩⟩
    have nx' : upd H8 dx (.own x) x = none := by rw [upd_ne dxx.symm]; exact nx
    have X0 : Fr [] H8 (upd (upd H8 dx (.own x)) x (.ins S dx [])) := ((Fr.refl [] H8).new ndx _).new nx' _
    refine ⟨x, dx, (n : Int), (p : Int), 1 + d3, 6, 1, rfl, upd_same, by omega, by omega, by omega, by omega, by omega, by omega, by decide, by decide, by decide, by decide, fun H9 hx9 X9 => ⟨rfl, ?_⟩⟩
    have Y9 : Fr [] H8 H9 := X0.tail X9 fun z m => .inr (by rw [List.mem_singleton.mp m]; exact .of nx)
    have hy9 := Y9.lst (X8.lst hy7 (not_one yb)) not_nil
    have B9 := B8.fr Y9 not_nil not_nil
    have T9 := Y9.tabs _ (X8.tabs _ T7)
    have xb := (B8.new_ne nx).1
    have xc := (B8.new_ne nx).2
    -- tour
    refine ⟨_, rfl, _, rfl, _, rfl, _, rfl, b, c, x, ringN n, own, rfl, B9, r2, r256, o0, o1, fun tt ta D last H10 ntt nta nD X10 B10 htt tour hD => ?_⟩
    have hy10 := X10.lst hy9 (not_one yb)
    have hx10 := hx9.fr X10 (not_one xb)
    have T10 := X10.tabs _ T9
    obtain ⟨dxa, hta⟩ := id tour
    obtain ⟨dxx', htx⟩ := id hx9
    have ax : ta ≠ x := (ne_nw htx nta).symm
    refine ⟨_, rfl, _, rfl, _, _, _, _, rfl, rfl, SqT.of htt, rfl, _, rfl, _, rfl, b, c, ta, x, D, y, n, p, 1 + d3, 6, 1, ⟨none, 0, last, false⟩, pool, rfl, B10, tour, rfl, Int.le_refl _, hx10, n8, p1, p6, hD, hy10, sp, l1, l20, T10, (B9.nw_ne nta).1, (B9.nw_ne nta).2, (B9.nw_ne nD).1, (B9.nw_ne nD).2, xb, ax, fun l ts rows st H11 hl l90 M sub B11 T11 X11 => ?_⟩
    have tok0 : TOk p ⟨none, 0, last, false⟩ := ⟨Int.le_refl _, fun z => by cases z⟩
    have htt11 : H11 tt = some (.tup [.ref ta, .int last]) := X11.tup htt (not_cons (B9.nw_ne ntt).1 (not_two (fun e => by rw [e, hta] at htt; cases htt) fun e => by rw [e, hD] at htt; cases htt))
    have lts := hl.2.length
    refine ⟨_, rfl, _, rfl, iteF ?_⟩
    -- tries
    refine ⟨_, rfl, l, rfl, ⟨_, SqL.of hl.1⟩, fun D2 nD2 => ?_⟩
    refine lc_list (xs := ts.map V.ref) (fun j H' => Fr [] H11 H' ∧ ∃ trs : List Addr, H' D2 = some (.lst (trs.map V.ref)) ∧ trs.length ≤ j ∧ Paired (RowAt [] H11) trs ((rows.take j).filter fun R => R.now.isSome)) ⟨Fr.new0 nD2 _, [], upd_same, Nat.le_refl _, .nil⟩ (fun j H' _ pv => SqL.of (pv.1.lst hl.1 not_nil)) (fun j v' H12 hv' pv => ?_) (fun H12 pv => ?_)
    · obtain ⟨X12, trs, hD2, ltr, pr⟩ := pv
      have jl := (List.getElem?_eq_some_iff.mp hv').1
      rw [List.length_map, lts] at jl
      obtain ⟨R, eR⟩ : ∃ R, rows[j]? = some R := ⟨rows[j], List.getElem?_eq_getElem jl⟩
      obtain ⟨t1, et1, ra⟩ := paired_at hl.2 eR
      have ev : v' = .ref t1 := by
        rw [List.getElem?_map, et1] at hv'
        exact (Option.some.inj hv').symm
      subst ev
      obtain ⟨z, _, _, h1, h2⟩ := id ra
      have h1' := X12.tup h1 not_nil
      have tk := take_snoc eR
      cases en : R.now with
      | none =>
        rw [en] at h1'
        refine ⟨rfl, _, rfl, _, _, _, _, rfl, rfl, SqT.of h1', rfl, _, rfl, iteF ⟨X12, trs, hD2, by omega, ?_⟩⟩
        rw [tk, List.filter_append, List.filter_cons_of_neg (by rw [en]; decide), List.filter_nil, List.append_nil]
        exact pr
      | some m =>
        rw [en] at h1'
        refine ⟨rfl, _, rfl, _, _, _, _, rfl, rfl, SqT.of h1', rfl, _, rfl, iteT ⟨_, rfl, _, hD2, by rw [List.length_map]; exact small1000' (by omega), X12.late (.of nD2) (.lst hD2) _, trs ++ [t1], by rw [upd_same, List.map_append]; rfl, by rw [List.length_append]; show trs.length + 1 ≤ _; omega, ?_⟩⟩
        rw [tk, List.filter_append, List.filter_cons_of_pos (by rw [en]; rfl)]
        exact paired_snoc pr ra
    obtain ⟨X12, trs, hD2, ltr, pr⟩ := pv
    rw [List.length_map, lts, List.take_length] at pr
    rw [List.length_map, lts] at ltr
    have hl12 := hl.fr X12
    -- the rest
    obtain ⟨fr, hfr⟩ : ∃ fr, fr = (rows.filter fun R => R.now.isSome) := ⟨_, rfl⟩
    rw [← hfr] at pr
    refine ⟨fun σ H' => Fr [] H11 H' ∧ σ = [some (.ref a), some (.ref b), some (.bl lg), some (.int (n : Int)), some (.int (ringN n)), some (.int own), some (.ref y), some (.int (p : Int)), some (.ref x), some (.ref tt), some (.ref l), some (.ref D2), none, none, none], ?_, ?_⟩
    · refine ⟨_, rfl, _, _, rfl, .inl (SqL.of hD2), _, _, rfl, rfl, _, rfl, ite2 (fun hc => ?_) (fun hc => ⟨X12, rfl⟩)⟩
      have hc := of_decide_eq_true hc
      rw [List.length_map] at hc
      have lp := pr.length
      obtain ⟨R, rest, eR⟩ : ∃ R rest, fr = R :: rest := by
        cases fr with
        | nil => rw [List.length_nil] at lp; omega
        | cons R rest => exact ⟨R, rest, rfl⟩
      obtain ⟨t1, et1, z1, _, _, ht1, hz1⟩ := paired_at (i := 0) (y := R) pr (by rw [eR]; rfl)
      obtain ⟨i, ei, pi, no⟩ := filter_first (hfr.symm.trans eR)
      obtain ⟨m, em⟩ : ∃ m, R.now = some m := by
        cases en : R.now with
        | none => rw [en] at pi; cases pi
        | some m => exact ⟨m, rfl⟩
      rw [em] at ht1
      have fm := M.first_aim rfl ei fun j R' hj e' => by
        have z := no j R' hj e'
        cases en : R'.now with
        | none => rfl
        | some m' => rw [en] at z; cases z
      rw [em] at fm
      have sR := M.seats _ R ei
      have at0 : atI (trs.map V.ref) 0 = some (.ref t1) := atI_nat (j := 0) (by rw [List.getElem?_map, et1]; rfl)
      have ht12 := X12.tup ht1 not_nil
      have hz12 := X12.lst hz1 not_nil
      have htt12 := X12.tup htt11 not_nil
      refine ⟨_, rfl, _, _, _, _, rfl, rfl, SqL.of hD2, at0, _, _, _, _, rfl, rfl, SqT.of ht12, rfl, _, rfl, _, rfl, _, _, _, _, rfl, rfl, SqT.of htt12, rfl, _, _, rfl, rfl, _, rfl, _, _, _, _, rfl, rfl, SqL.of hD2, at0, _, _, _, _, rfl, rfl, SqT.of ht12, rfl, ringN n, last + 1, z1, R.ns, rfl, by omega, hz12, ?_, ?_, sR.lo, sR.hi, fun m' H13 X13 f13 => ⟨?_, ?_⟩⟩
      · rcases fm with ⟨_, z⟩ | ⟨m2, _, mm, _⟩
        · cases z
        · exact List.length_pos_of_mem mm
      · exact Nat.le_trans (seats_len sR (by omega)) (by omega)
      · rfl
      · have e := first_uniq sR.lo sR.hi fm f13
        cases e
        refine ⟨_, rfl, ?_⟩
        rw [show (!decide (optV (some m) = V.int m)) = false by rw [decide_eq_true (show optV (some m) = V.int m from rfl)]; rfl]
        exact iteF ⟨X12.trans X13, rfl⟩
    rintro σ H13 ⟨X13, rfl⟩
    have hl13 := hl.fr X13
    refine ⟨_, rfl, _, rfl, l, ts, rows, p, rfl, hl13, l90, fun v vts H14 X14 hv f90 => ?_⟩
    have hl14 := hl13.fr X14
    refine ⟨_, rfl, _, _, rfl, .inl (SqL.of hl14.1), ?_⟩
    refine ⟨_, rfl, by rw [List.length_map]; omega, by rw [List.length_map]; omega, ?_⟩
    rw [List.length_map, lts]
    refine for_range (lo := 0) (n := ((rows.length : Int)).toNat) (fun k σ H' => Fr [] H14 H' ∧ ∃ v13 : Option V, σ = [some (.ref a), some (.ref b), some (.bl lg), some (.int (n : Int)), some (.int (ringN n)), some (.int own), some (.ref y), some (.int (p : Int)), some (.ref x), some (.ref tt), some (.ref l), some (.ref D2), some (.ref v), v13, none]) ⟨.refl _ _, _, rfl⟩ ?_ ?_
    · rintro i σ H15 hi ⟨X15, v13, rfl⟩
      have il : i < rows.length := by omega
      rw [show (0 : Int) + (i : Int) = (i : Int) by omega]
      refine ⟨_, rfl, _, rfl, _, rfl, _, rfl, l, v, ts, vts, rows, i, p, ringN n, ⟨none, 0, last, false⟩, st, rfl, hl14.fr X15, hv.fr X15, f90, l90, il, p1, p6, by omega, r256, M, tok0, rfl, fun H16 X16 => ⟨_, rfl, iteF ⟨X15.trans X16, _, rfl⟩⟩⟩
    · rintro σ H15 ⟨X15, v13, rfl⟩
      exact k H15
end
/-- from the names of the text to the law's promise -/
theorem fin {l : PySem.W.OpenLaw} {w : World} {K : PySem.W.Frag} {h : Heap} {mg : Str → Option Value} {fa CS CT c t : Addr} (X : K.In h) (hT : h.get? t = some { cls := .none, data := .fields #[] }) (nT : K.lookup t = none) (hC : PySem.W.codeHdIn K c t = true) (T : Bl mg) (D : Ds K mg CS CT c) (L : LawP K mg s_law fa) : LamX.LawAtS l w K C8.CX0 10 63 "script" mg fa h := by
  refine UF.lawT X hT nT hC L fun fd FL base _ _ TB => ?_
  have p_draw : Cal l.prog w K mg base 1 "_law_draw" spDraw [] := c_law_draw T D.d_law_draw
  have pS : Prp l.prog w K mg base 1 CS "seats" (spSeats CS) := p_seats D.t_Setting
  exact f_law (C := CT) (S := CS) (t := t) T (c_law_box T D.d_law_box) p_draw (c_law_bits p_draw D.d_law_bits)
    (c_law_pool T p_draw (c_law_flags T p_draw D.d_law_flags) D.d_law_pool) (c_law_patience p_draw D.d_law_patience)
    (c_Setting D.t_Setting (c_check_field (c_is_integer T D.d_is_integer) D.d_check_field)) (c_law_tour D.t_Tour p_draw D.d_law_tour)
    (c_law_played T p_draw (c_law_names T p_draw D.d_law_names) (m_aim D.t_Tour (m_begin D.t_Tour) (c_first_from T (c_distance pS D.d_distance) D.d1_first_from TB)) (m_report D.t_Tour D.t_Setting (m_passes D.t_Tour)) D.d_law_played)
    (c_law_first T D.d_law_first) (c_law_visits T D.d_law_visits) (c_law_window T (c_law_tried D.d_law_tried) D.d_law_window) FL
end K25

set_option Elab.async false
set_option maxRecDepth 100000
open PySem PySem.W PyProof.Rows
set_option maxRecDepth 100000 in
set_option maxHeartbeats 0 in
theorem PySem.Challenge.cw_livingroll_k25_whole_tour_windows_holds : PySem.Challenge.rw_livingroll_k25_whole_tour_windows.Holds := by
  w_on; o_law; k_head; (case hw => w_witness2)
  k_fill
  refine LamX.walk_ofTs (l := PySem.Challenge.rw_livingroll_k25_whole_tour_windows) (n := 63) (k := 10) (x := "script") (CX := fun _ => C8.CX0) rfl (by decide) rfl ⟨rfl, by decide, by decide⟩ (fun w h Y => PySem.W.km_in_of Y) ?F (fun _ _ _ _ _ z => z)
  case F =>
    intro w mg fa h Y KX G hmg
    have hT8 := PySem.W.km_tabs_of Y
    refine' K25.fin KX (hT8 _ (List.mem_singleton.mpr rfl)) ?nT ?hC ?B ?D ?L
    (case nT => kernel_rfl)
    (case hC => kernel_rfl)
    (case B =>
      refine' UF.bl_mk KX G ?z0 ?z1 ?z2 ?z3 ?z4 ?z5 ?z6 ?z7 ?z8 ?z9 ?z10 ?z11 ?z12 ?z13 ?z14 ?z15 ?z16 ?z17 ?z18 ?z19 ?z20
      (case z0 => k_is)
      (case z1 => k_is)
      (case z2 => k_is)
      (case z3 => k_is)
      (case z4 => k_is)
      (case z5 => k_is)
      (case z6 => k_is)
      (case z7 => k_is)
      (case z8 => k_is)
      (case z9 => k_is)
      (case z10 => k_is)
      (case z11 => k_is)
      (case z12 => k_is)
      (case z13 => k_is)
      (case z14 => k_is)
      (case z15 => k_is)
      (case z16 => k_is)
      (case z17 => k_is)
      (case z18 => k_is)
      (case z19 => k_is)
      (case z20 => k_is))
    (case D =>
      refine' @K25.Ds.mk _ _ _ _ _ ?d1_first_from ?is_integer ?check_field ?distance ?law_box ?law_draw ?law_bits ?law_patience ?law_flags ?law_first ?law_pool ?law_tour ?law_names ?law_played ?law_visits ?law_tried ?law_window ?t_Setting ?t_Tour
      (case t_Setting =>
        refine' K25.T_Setting.mk ?cl ?mgC ?n_bits ?n_patience ?n_room ?n_grace ?n_helpers ?k_MOST_BITS ?k_MOST_PATIENCE ?k_MOST_ROOM ?k_MOST_GRACE ?k_MOST_HELPERS ?ini ?p_seats
        (case mgC =>
          refine' PySem.W.mg_of KX G ?a
          (case a => k_is))
        (case cl =>
          refine' UF.cls_mk ?a ?b ?c ?d
          (case a => k_is)
          (case b => k_is)
          (case c => k_is)
          (case d => k_is))
        (case n_bits => (show PySem.W.findIn _ _ _ = some none); k_is)
        (case n_patience => (show PySem.W.findIn _ _ _ = some none); k_is)
        (case n_room => (show PySem.W.findIn _ _ _ = some none); k_is)
        (case n_grace => (show PySem.W.findIn _ _ _ = some none); k_is)
        (case n_helpers => (show PySem.W.findIn _ _ _ = some none); k_is)
        (case k_MOST_BITS =>
          refine' UF.con_mk ?a ?b ?c
          (case a => k_is)
          (case b => k_is)
          (case c => decide +kernel))
        (case k_MOST_PATIENCE =>
          refine' UF.con_mk ?a ?b ?c
          (case a => k_is)
          (case b => k_is)
          (case c => decide +kernel))
        (case k_MOST_ROOM =>
          refine' UF.con_mk ?a ?b ?c
          (case a => k_is)
          (case b => k_is)
          (case c => decide +kernel))
        (case k_MOST_GRACE =>
          refine' UF.con_mk ?a ?b ?c
          (case a => k_is)
          (case b => k_is)
          (case c => decide +kernel))
        (case k_MOST_HELPERS =>
          refine' UF.con_mk ?a ?b ?c
          (case a => k_is)
          (case b => k_is)
          (case c => decide +kernel))
        (case ini =>
          refine' UF.inid2_mk ?m ?a ?i ?kc ?l ?c ?k ?g1 ?g2
          (case m => k_is)
          (case a => k_is)
          (case i => k_is)
          (case kc => k_is)
          (case l => k_is)
          (case c => k_is)
          (case k => k_is)
          (case g1 => k_is)
          (case g2 => k_is))
        (case p_seats =>
          refine' UF.prop_mk ?a ?gt ?tk ?r ?l ?c (fun _ _ _ _ _ _ us hl => match us, hl with | [_], _ => rfl)
          (case a => k_is)
          (case gt => k_is)
          (case tk => k_is)
          (case r => k_is)
          (case l => k_is)
          (case c => k_is)))
      (case t_Tour =>
        refine' K25.T_Tour.mk ?cl ?mgC ?n_setting ?n_current ?n_failed ?n_last ?n_goes_on ?n_passes ?ini ?m_aim ?m_begin ?m_report ?m_passes
        (case mgC =>
          refine' PySem.W.mg_of KX G ?a
          (case a => k_is))
        (case cl =>
          refine' UF.cls_mk ?a ?b ?c ?d
          (case a => k_is)
          (case b => k_is)
          (case c => k_is)
          (case d => k_is))
        (case n_setting => (show PySem.W.findIn _ _ _ = some none); k_is)
        (case n_current => (show PySem.W.findIn _ _ _ = some none); k_is)
        (case n_failed => (show PySem.W.findIn _ _ _ = some none); k_is)
        (case n_last => (show PySem.W.findIn _ _ _ = some none); k_is)
        (case n_goes_on => (show PySem.W.findIn _ _ _ = some none); k_is)
        (case n_passes => (show PySem.W.findIn _ _ _ = some none); k_is)
        (case ini =>
          refine' UF.inidN_mk ?m ?a ?i ?kc ?l ?c ?k ?g1
          (case m => k_is)
          (case a => k_is)
          (case i => k_is)
          (case kc => k_is)
          (case l => k_is)
          (case c => k_is)
          (case k => k_is)
          (case g1 => k_is))
        (case m_aim =>
          refine' UF.meth_mk ?a ?i ?l ?c ?k (fun _ _ _ _ _ _ us hl => match us, hl with | [_, _], _ => rfl)
          (case a => k_is)
          (case i => k_is)
          (case l => k_is)
          (case c => k_is)
          (case k => k_is))
        (case m_begin =>
          refine' UF.meth_mk ?a ?i ?l ?c ?k (fun _ _ _ _ _ _ us hl => match us, hl with | [_, _], _ => rfl)
          (case a => k_is)
          (case i => k_is)
          (case l => k_is)
          (case c => k_is)
          (case k => k_is))
        (case m_report =>
          refine' UF.meth_mk ?a ?i ?l ?c ?k (fun _ _ _ _ _ _ us hl => match us, hl with | [_, _], _ => rfl)
          (case a => k_is)
          (case i => k_is)
          (case l => k_is)
          (case c => k_is)
          (case k => k_is))
        (case m_passes =>
          refine' UF.meth_mk ?a ?i ?l ?c ?k (fun _ _ _ _ _ _ us hl => match us, hl with | [_, _], _ => rfl)
          (case a => k_is)
          (case i => k_is)
          (case l => k_is)
          (case c => k_is)
          (case k => k_is)))
      (case d1_first_from =>
        refine' UF.d1_mk KX G ?a ?l ?c ?k
        (case a => k_is)
        (case l => k_is)
        (case c => k_is)
        (case k => k_is))
      (case is_integer =>
        refine' UF.d0_mk KX G ?a ?l ?c ?k (fun _ _ _ _ _ _ us hl => match us, hl with | [_], _ => rfl)
        (case a => k_is)
        (case l => k_is)
        (case c => k_is)
        (case k => k_is))
      (case check_field =>
        refine' UF.d0_mk KX G ?a ?l ?c ?k (fun _ _ _ _ _ _ us hl => match us, hl with | [_, _, _, _], _ => rfl)
        (case a => k_is)
        (case l => k_is)
        (case c => k_is)
        (case k => k_is))
      (case distance =>
        refine' UF.d0_mk KX G ?a ?l ?c ?k (fun _ _ _ _ _ _ us hl => match us, hl with | [_, _, _], _ => rfl)
        (case a => k_is)
        (case l => k_is)
        (case c => k_is)
        (case k => k_is))
      (case law_box =>
        refine' UF.d0_mk KX G ?a ?l ?c ?k (fun _ _ _ _ _ _ us hl => match us, hl with | [_], _ => rfl)
        (case a => k_is)
        (case l => k_is)
        (case c => k_is)
        (case k => k_is))
      (case law_draw =>
        refine' UF.d0_mk KX G ?a ?l ?c ?k (fun _ _ _ _ _ _ us hl => match us, hl with | [_, _], _ => rfl)
        (case a => k_is)
        (case l => k_is)
        (case c => k_is)
        (case k => k_is))
      (case law_bits =>
        refine' UF.d0_mk KX G ?a ?l ?c ?k (fun _ _ _ _ _ _ us hl => match us, hl with | [_], _ => rfl)
        (case a => k_is)
        (case l => k_is)
        (case c => k_is)
        (case k => k_is))
      (case law_patience =>
        refine' UF.d0_mk KX G ?a ?l ?c ?k (fun _ _ _ _ _ _ us hl => match us, hl with | [_], _ => rfl)
        (case a => k_is)
        (case l => k_is)
        (case c => k_is)
        (case k => k_is))
      (case law_flags =>
        refine' UF.d0_mk KX G ?a ?l ?c ?k (fun _ _ _ _ _ _ us hl => match us, hl with | [_, _, _], _ => rfl)
        (case a => k_is)
        (case l => k_is)
        (case c => k_is)
        (case k => k_is))
      (case law_first =>
        refine' UF.d0_mk KX G ?a ?l ?c ?k (fun _ _ _ _ _ _ us hl => match us, hl with | [_, _, _], _ => rfl)
        (case a => k_is)
        (case l => k_is)
        (case c => k_is)
        (case k => k_is))
      (case law_pool =>
        refine' UF.d0_mk KX G ?a ?l ?c ?k (fun _ _ _ _ _ _ us hl => match us, hl with | [_, _, _, _], _ => rfl)
        (case a => k_is)
        (case l => k_is)
        (case c => k_is)
        (case k => k_is))
      (case law_tour =>
        refine' UF.d0_mk KX G ?a ?l ?c ?k (fun _ _ _ _ _ _ us hl => match us, hl with | [_, _, _, _], _ => rfl)
        (case a => k_is)
        (case l => k_is)
        (case c => k_is)
        (case k => k_is))
      (case law_names =>
        refine' UF.d0_mk KX G ?a ?l ?c ?k (fun _ _ _ _ _ _ us hl => match us, hl with | [_, _, _, _, _, _], _ => rfl)
        (case a => k_is)
        (case l => k_is)
        (case c => k_is)
        (case k => k_is))
      (case law_played =>
        refine' UF.d0_mk KX G ?a ?l ?c ?k (fun _ _ _ _ _ _ us hl => match us, hl with | [_, _, _, _], _ => rfl)
        (case a => k_is)
        (case l => k_is)
        (case c => k_is)
        (case k => k_is))
      (case law_visits =>
        refine' UF.d0_mk KX G ?a ?l ?c ?k (fun _ _ _ _ _ _ us hl => match us, hl with | [_, _], _ => rfl)
        (case a => k_is)
        (case l => k_is)
        (case c => k_is)
        (case k => k_is))
      (case law_tried =>
        refine' UF.d0_mk KX G ?a ?l ?c ?k (fun _ _ _ _ _ _ us hl => match us, hl with | [_, _, _], _ => rfl)
        (case a => k_is)
        (case l => k_is)
        (case c => k_is)
        (case k => k_is))
      (case law_window =>
        refine' UF.d0_mk KX G ?a ?l ?c ?k (fun _ _ _ _ _ _ us hl => match us, hl with | [_, _, _, _], _ => rfl)
        (case a => k_is)
        (case l => k_is)
        (case c => k_is)
        (case k => k_is)))
    (case L =>
      refine' UF.law_mk KX G hmg ?aL ?lL ?cL (fun _ _ _ _ _ _ _ => rfl)
      (case aL => k_is)
      (case lL => k_is)
      (case cL => k_is))
