import PyProof.Rows.All
import Wide.All
import OpenK.AllK
import Wide.FinOn
import HandS.Base
import HandS.Call
import HandS.List
import HandS.Comp
import HandS.Ends
import HandS.Text
import HandS.Words
import HandS.Codes
import HandS.Wide
import HandS.Dict
import HandS.Style
import HandS.Small
import HandS.Lambda
import HandS.IsInst
import HandS.Defaults
import HandS.MakeKwOnly
import HandS.Property
import HandS.CallRecv
import HandS.Conv
import HandS.Flow
import HandS.Strs
import HandS.EndTab
import KE.KExcIs
import HandS.ExcInit
import HandS.ExcField
import HandS.ExcOwn
import HandS.ExcIs
import KE.KDictZip
import KE.KItemsList
import HandS.Iter
import HandS.SortInts
import HandS.Walk
import HandS.DictComp
import HandS.WideBits
import HandS.More
import HandS.OwnEq
import HandS.Nested
import HandS.ClsMeth
import HandS.Star
import KE.KSuper
import HandS.SetKeys
import PyProof.DictMoreH
import KE.RegKSuper
import KE.RegKIsAll
import PySem.Challenge.RW_livingroll_k04_letters_tell_their_parts
set_option Elab.async false
set_option maxRecDepth 100000
set_option maxHeartbeats 4000000
set_option exponentiation.threshold 4096
/-! what stays between two heaps -/
namespace UF
open PySem PySem.Spec PyProof.Rows L2 C8 LamX

/-- none stands there, or a table of code -/
def Nw (H : Hp) (a : Addr) : Prop := ∀ o, H a = some o → ∃ ps, o = .tbl ps
theorem Nw.of {H : Hp} {a : Addr} (h : H a = none) : Nw H a := fun o e => by rw [h] at e; cases e
theorem ne_nw {H : Hp} {a b : Addr} {o : HO} (h : H a = some o) (n : Nw H b) (nt : ∀ ps, o ≠ .tbl ps := by intro ps z; cases z) : a ≠ b := fun e => by
  obtain ⟨ps, z⟩ := n o (by rw [← e]; exact h)
  exact nt ps z
/-- what stands there is no table and no code -/
def Pl (H : Hp) (a : Addr) : Prop := ∃ o, H a = some o ∧ (∀ ps, o ≠ .tbl ps) ∧ ∀ φ, o ≠ .ext φ
section
variable {H : Hp} {a : Addr}
theorem Pl.lst {xs : List V} (h : H a = some (.lst xs)) : Pl H a := ⟨_, h, fun _ z => (nomatch z), fun _ z => nomatch z⟩
theorem Pl.tup {xs : List V} (h : H a = some (.tup xs)) : Pl H a := ⟨_, h, fun _ z => (nomatch z), fun _ z => nomatch z⟩
theorem Pl.dK {xs : List (Key × V)} (h : H a = some (.dK xs)) : Pl H a := ⟨_, h, fun _ z => (nomatch z), fun _ z => nomatch z⟩
theorem Pl.dT {xs : List (List Key × V)} (h : H a = some (.dT xs)) : Pl H a := ⟨_, h, fun _ z => (nomatch z), fun _ z => nomatch z⟩
theorem Pl.ins {C dx : Addr} {fs : List (Str × V)} (h : H a = some (.ins C dx fs)) : Pl H a := ⟨_, h, fun _ z => (nomatch z), fun _ z => nomatch z⟩
end
/-- all that was tracked stays, but what stands at ds and tables; nothing is dropped (weak: tables may grow) -/
structure Fw (ds : List Addr) (H H' : Hp) : Prop where
  keep : ∀ a o, H a = some o → a ∉ ds → (∀ ps, o ≠ .tbl ps) → H' a = some o
  live : ∀ a, Nw H' a → Nw H a
/-- .. and tables stay as they are -/
structure Fr (ds : List Addr) (H H' : Hp) : Prop extends Fw ds H H' where
  tabs : ∀ T, Tabs T H → Tabs T H'
variable {ds es : List Addr} {H H1 H2 : Hp} {a b : Addr}
theorem Fr.w (x : Fr ds H H1) : Fw ds H H1 := x.toFw
theorem Fw.refl (ds : List Addr) (H : Hp) : Fw ds H H := ⟨fun _ _ h _ _ => h, fun _ h => h⟩
theorem Fr.refl (ds : List Addr) (H : Hp) : Fr ds H H := ⟨.refl _ _, fun _ h => h⟩
theorem Fw.trans (x : Fw ds H H1) (y : Fw ds H1 H2) : Fw ds H H2 := ⟨fun a o h n t => y.keep a o (x.keep a o h n t) n t, fun a h => x.live a (y.live a h)⟩
theorem Fr.trans (x : Fr ds H H1) (y : Fr ds H1 H2) : Fr ds H H2 := ⟨x.w.trans y.w, fun T h => y.tabs T (x.tabs T h)⟩
theorem Fw.mono (x : Fw ds H H1) (h : ∀ a, a ∈ ds → a ∈ es) : Fw es H H1 := ⟨fun a o z n t => x.keep a o z (fun m => n (h a m)) t, x.live⟩
theorem Fr.mono (x : Fr ds H H1) (h : ∀ a, a ∈ ds → a ∈ es) : Fr es H H1 := ⟨x.w.mono h, x.tabs⟩
theorem tabs_new {T : List (Addr × Str)} (hT : Tabs T H) (h : H b = none) (o : HO) : Tabs T (L2.upd H b o) := hT.ext fun c u e => by
  rw [upd_ne (ne_of_none e h)]
  exact e
theorem tabs_put {T : List (Addr × Str)} (hT : Tabs T H) (h : Pl H b) (o : HO) : Tabs T (L2.upd H b o) := fun p hp => by
  obtain ⟨ps, h1, h2, h3⟩ := hT p hp
  obtain ⟨u, hu, n1, n2⟩ := h
  refine ⟨ps, ?_, h2, fun pos cv hc => ?_⟩
  · rw [upd_ne (fun e => by rw [e, hu] at h1; exact n1 _ (Option.some.inj h1))]
    exact h1
  · obtain ⟨c, e, hcc⟩ := h3 pos cv hc
    refine ⟨c, e, ?_⟩
    rw [upd_ne (fun z => by rw [z, hu] at hcc; exact n2 _ (Option.some.inj hcc))]
    exact hcc
theorem Fw.upd (x : Fw ds H H1) (m : b ∈ ds) (o : HO) (nt : ∀ ps, o ≠ .tbl ps := by intro ps z; cases z) : Fw ds H (L2.upd H1 b o) := ⟨fun a u h n t => by
  rw [upd_ne (fun e : a = b => n (by rw [e]; exact m))]
  exact x.keep a u h n t, fun a h' => by
  refine x.live a fun u e => ?_
  by_cases q : a = b
  · obtain ⟨ps, z⟩ := h' o (by rw [q, upd_same])
    exact absurd z (nt ps)
  · exact h' u (by rw [upd_ne q]; exact e)⟩
theorem Fr.upd (x : Fr ds H H1) (m : b ∈ ds) (h : Pl H1 b) (o : HO) (nt : ∀ ps, o ≠ .tbl ps := by intro ps z; cases z) : Fr ds H (L2.upd H1 b o) := ⟨x.w.upd m o nt, fun T hT => tabs_put (x.tabs T hT) h o⟩
theorem Fw.new (x : Fw ds H H1) (n : H1 b = none) (o : HO) : Fw ds H (L2.upd H1 b o) := ⟨fun a u h q t => by
  have z := x.keep a u h q t
  rw [upd_ne (ne_of_none z n)]
  exact z, fun a h' => by
  refine x.live a fun u e => ?_
  refine h' u ?_
  rw [upd_ne (ne_of_none e n)]
  exact e⟩
theorem Fr.new (x : Fr ds H H1) (n : H1 b = none) (o : HO) : Fr ds H (L2.upd H1 b o) := ⟨x.w.new n o, fun T hT => tabs_new (x.tabs T hT) n o⟩
/-- a store into what was not there at the start -/
theorem Fw.late (x : Fw ds H H1) (n : Nw H b) (o : HO) (nt : ∀ ps, o ≠ .tbl ps := by intro ps z; cases z) : Fw ds H (L2.upd H1 b o) := ⟨fun a u h q t => by
  rw [upd_ne (ne_nw h n t)]
  exact x.keep a u h q t, fun a h' => by
  refine x.live a fun u e => ?_
  by_cases q : a = b
  · obtain ⟨ps, z⟩ := h' o (by rw [q, upd_same])
    exact absurd z (nt ps)
  · exact h' u (by rw [upd_ne q]; exact e)⟩
theorem Fr.late (x : Fr ds H H1) (n : Nw H b) (h : Pl H1 b) (o : HO) (nt : ∀ ps, o ≠ .tbl ps := by intro ps z; cases z) : Fr ds H (L2.upd H1 b o) := ⟨x.w.late n o nt, fun T hT => tabs_put (x.tabs T hT) h o⟩
theorem Fr.new0 (n : H b = none) (o : HO) : Fr ds H (L2.upd H b o) := (Fr.refl ds H).new n o
/-- then a step that changes what was not there at the start -/
theorem Fw.tail (x : Fw ds H H1) (y : Fw es H1 H2) (h : ∀ a, a ∈ es → a ∈ ds ∨ Nw H a) : Fw ds H H2 := ⟨fun a o z n t => y.keep a o (x.keep a o z n t) (fun m => by
  rcases h a m with q | q
  · exact n q
  · exact ne_nw z q t rfl) t, fun a h => x.live a (y.live a h)⟩
theorem Fr.tail (x : Fr ds H H1) (y : Fr es H1 H2) (h : ∀ a, a ∈ es → a ∈ ds ∨ Nw H a) : Fr ds H H2 := ⟨x.w.tail y.w h, fun T hT => y.tabs T (x.tabs T hT)⟩
theorem Fw.ofN (e : ExtN H H1) (l : ∀ a, Nw H1 a → Nw H a) : Fw ds H H1 := ⟨fun a o h _ t => e a o h t, l⟩
/-- a lambda's step: nothing that is no table goes, so new is new -/
theorem Fw.ext (e : ExtN H H1) : Fw ds H H1 := ⟨fun a o h _ t => e a o h t, fun a n o h => by
  by_cases t : ∃ ps, o = .tbl ps
  · exact t
  · exact n o (e a o h fun ps z => t ⟨ps, z⟩)⟩
section
variable {x : Fw ds H H1}
theorem Fw.lst {xs : List V} (x : Fw ds H H1) (h : H a = some (.lst xs)) (n : a ∉ ds) : H1 a = some (.lst xs) := x.keep a _ h n fun _ z => nomatch z
theorem Fw.tup {xs : List V} (x : Fw ds H H1) (h : H a = some (.tup xs)) (n : a ∉ ds) : H1 a = some (.tup xs) := x.keep a _ h n fun _ z => nomatch z
theorem Fw.dK {xs : List (Key × V)} (x : Fw ds H H1) (h : H a = some (.dK xs)) (n : a ∉ ds) : H1 a = some (.dK xs) := x.keep a _ h n fun _ z => nomatch z
theorem Fw.dT {xs : List (List Key × V)} (x : Fw ds H H1) (h : H a = some (.dT xs)) (n : a ∉ ds) : H1 a = some (.dT xs) := x.keep a _ h n fun _ z => nomatch z
theorem Fw.ins {C dx : Addr} {fs : List (Str × V)} (x : Fw ds H H1) (h : H a = some (.ins C dx fs)) (n : a ∉ ds) : H1 a = some (.ins C dx fs) := x.keep a _ h n fun _ z => nomatch z
theorem Fr.lst {xs : List V} (x : Fr ds H H1) (h : H a = some (.lst xs)) (n : a ∉ ds) : H1 a = some (.lst xs) := x.w.lst h n
theorem Fr.tup {xs : List V} (x : Fr ds H H1) (h : H a = some (.tup xs)) (n : a ∉ ds) : H1 a = some (.tup xs) := x.w.tup h n
theorem Fr.dK {xs : List (Key × V)} (x : Fr ds H H1) (h : H a = some (.dK xs)) (n : a ∉ ds) : H1 a = some (.dK xs) := x.w.dK h n
theorem Fr.dT {xs : List (List Key × V)} (x : Fr ds H H1) (h : H a = some (.dT xs)) (n : a ∉ ds) : H1 a = some (.dT xs) := x.w.dT h n
theorem Fr.ins {C dx : Addr} {fs : List (Str × V)} (x : Fr ds H H1) (h : H a = some (.ins C dx fs)) (n : a ∉ ds) : H1 a = some (.ins C dx fs) := x.w.ins h n
end
theorem not_nil {a : Addr} : a ∉ ([] : List Addr) := fun m => nomatch m
theorem not_one {a b : Addr} (h : a ≠ b) : a ∉ [b] := fun m => h (List.mem_singleton.mp m)
theorem not_two {a b c : Addr} (h : a ≠ b) (g : a ≠ c) : a ∉ [b, c] := fun m => by
  rcases List.mem_cons.mp m with e | m
  · exact h e
  · exact g (List.mem_singleton.mp m)
theorem not_cons {a b : Addr} {ds : List Addr} (h : a ≠ b) (g : a ∉ ds) : a ∉ b :: ds := fun m => by
  rcases List.mem_cons.mp m with e | m
  · exact h e
  · exact g m
/-- the same objects with fewer premises -/
theorem upd_new {o : HO} (h : H1 b = none) {p : HO} (q : H1 a = some p) : L2.upd H1 b o a = some p := by
  rw [upd_ne (ne_of_none q h)]; exact q

/-! ### numbers -/
theorem pm {b : Int} (h : 0 < b) : 0 < b := h
theorem dvw {j : Int} (h : 0 < j) (h2 : j < 2 ^ 2000) (i : Int) : CDivW i j := by
  refine wide_div h (b := 2000) ?_ (by decide) (by decide)
  have e : (2 : Int) ^ 2000 = ((2 ^ 2000 : Nat) : Int) := by simp
  rw [e] at h2
  generalize (2 : Nat) ^ 2000 = z at h2 ⊢
  omega
theorem at_lt {α : Type} {xs : List α} {z : Int} (h0 : 0 ≤ z) (h1 : z < xs.length) : ∃ v, atI xs z = some v := by
  obtain ⟨j, rfl⟩ := Int.eq_ofNat_of_zero_le h0
  have hl : j < xs.length := by omega
  exact ⟨xs[j], atI_nat (List.getElem?_eq_getElem hl)⟩
theorem at_map {xs : List Int} {z : Int} {v : V} (h : atI (xs.map V.int) z = some v) : ∃ n : Int, v = .int n := by
  obtain ⟨j, _, e, _⟩ := atI_get h
  rw [List.getElem?_map] at e
  cases q : xs[j]? with
  | none => rw [q] at e; cases e
  | some n => rw [q] at e; exact ⟨n, (Option.some.inj e).symm⟩
theorem small1000' {n : Nat} (h : n ≤ 1000) : n < sizeLine := Nat.lt_of_le_of_lt h (by decide)
/-- an item of a list of whole numbers -/
theorem int_at {xs : List Int} {z : Int} (h0 : 0 ≤ z) (h1 : z < xs.length) : ∃ n : Int, atI (xs.map V.int) z = some (.int n) ∧ n ∈ xs ∧ xs[z.toNat]? = some n := by
  obtain ⟨j, rfl⟩ := Int.eq_ofNat_of_zero_le h0
  have hl : j < xs.length := by omega
  refine ⟨xs[j], atI_nat ?_, List.getElem_mem hl, ?_⟩
  · rw [List.getElem?_map, List.getElem?_eq_getElem hl]; rfl
  · exact List.getElem?_eq_getElem hl
theorem map_at {α : Type} {f : α → V} {xs : List α} {z : Int} (h0 : 0 ≤ z) (h1 : z < xs.length) : ∃ n, atI (xs.map f) z = some (f n) ∧ n ∈ xs ∧ xs[z.toNat]? = some n := by
  obtain ⟨j, rfl⟩ := Int.eq_ofNat_of_zero_le h0
  have hl : j < xs.length := by omega
  refine ⟨xs[j], atI_nat ?_, List.getElem_mem hl, ?_⟩
  · rw [List.getElem?_map, List.getElem?_eq_getElem hl]; rfl
  · exact List.getElem?_eq_getElem hl
theorem twoP {a b : Int} {P Q : Prop} (h1 : a = b → P) (h2 : ¬ a = b → Q) : (decide (V.int a = V.int b) = true → P) ∧ (¬ decide (V.int a = V.int b) = true → Q) := by
  refine ⟨fun z => h1 ?_, fun z => h2 fun e => z ?_⟩
  · have z := of_decide_eq_true z
    injection z
  · rw [e]
    exact decide_eq_true rfl
theorem eqI {a b : Int} (h : decide (V.int a = V.int b) = true) : a = b := by
  have z := of_decide_eq_true h
  injection z
theorem neI {a b : Int} (h : ¬ decide (V.int a = V.int b) = true) : ¬ a = b := fun e => h (by rw [e]; exact decide_eq_true rfl)
theorem decI {a b : Int} (h : a = b) : decide (V.int a = V.int b) = true := by rw [h]; exact decide_eq_true rfl
theorem decIn {a b : Int} (h : ¬ a = b) : decide (V.int a = V.int b) = false := decide_eq_false fun e => h (by injection e)

/-! ### settings' fields -/
def fs5 (n p r g h : Int) : List (Str × V) := [("bits", .int n), ("patience", .int p), ("room", .int r), ("grace", .int g), ("helpers", .int h)]
section
variable {n p r g h : Int}
theorem fs5_bits : (fs5 n p r g h).lookup ("bits" : Str) = some (.int n) := by kernel_rfl
theorem fs5_patience : (fs5 n p r g h).lookup ("patience" : Str) = some (.int p) := by kernel_rfl
theorem fs5_room : (fs5 n p r g h).lookup ("room" : Str) = some (.int r) := by kernel_rfl
theorem fs5_grace : (fs5 n p r g h).lookup ("grace" : Str) = some (.int g) := by kernel_rfl
theorem fs5_helpers : (fs5 n p r g h).lookup ("helpers" : Str) = some (.int h) := by kernel_rfl
theorem fs5_seats : (fs5 n p r g h).lookup ("seats" : Str) = none := by kernel_rfl
theorem fs5_cycle : (fs5 n p r g h).lookup ("cycle" : Str) = none := by kernel_rfl
theorem fs5_stripes : (fs5 n p r g h).lookup ("stripes" : Str) = none := by kernel_rfl
theorem fs5_puts : putF ("helpers" : Str) (V.int h) (putF ("grace" : Str) (V.int g) (putF ("room" : Str) (V.int r) (putF ("patience" : Str) (V.int p) (putF ("bits" : Str) (V.int n) [])))) = fs5 n p r g h := by kernel_rfl
end
end UF
namespace UF
open PySem PySem.Spec PyProof.Rows L2
theorem putF_len (f : Str) (v : V) : ∀ fs : List (Str × V), (putF f v fs).length ≤ fs.length + 1
  | [] => Nat.le_refl _
  | (g, x) :: r => by
    unfold putF
    split
    · exact Nat.le_succ _
    · exact Nat.succ_le_succ (putF_len f v r)
end UF

set_option Elab.async false
set_option maxRecDepth 100000
set_option maxHeartbeats 4000000
/-! how the defs, classes and built-ins of a text are named, whatever the law -/
namespace UF
open PySem PySem.Spec PyProof.Rows L2 C8 LamX

/-- the built-ins that a text may call -/
structure Bl (mg : Str → Option Value) : Prop where
  int : mg "int" = none
  bool : mg "bool" = none
  list : mg "list" = none
  len : mg "len" = none
  tuple : mg "tuple" = none
  str : mg "str" = none
  sum : mg "sum" = none
  abs : mg "abs" = none
  max : mg "max" = none
  min : mg "min" = none
  range : mg "range" = none
  isinstance : mg "isinstance" = none
  sorted : mg "sorted" = none
  reversed : mg "reversed" = none
  enumerate : mg "enumerate" = none
  zip : mg "zip" = none
  all : mg "all" = none
  any : mg "any" = none
  dict : mg "dict" = none
  set : mg "set" = none
  ord : mg "ord" = none

/-- a def of the text that is called with all its parameters -/
structure D0 (K : PySem.W.Frag) (mg : Str → Option Value) (x : Str) (st : Stmt) (ps : List Str) : Prop where
  ex : ∃ (f : Addr) (fd : FuncData), C8.Def K mg x st f fd ∧ L2.Binds K fd ps []
/-- a method, a property of the class at C -/
def MethP (K : PySem.W.Frag) (C : Addr) (m q : Str) (st : Stmt) (ps : List Str) : Prop := ∃ (f : Addr) (fd : FuncData), Meth K C m f ∧ C8.Fun K m q st f fd ∧ L2.Binds K fd ps []
def PropP (K : PySem.W.Frag) (C : Addr) (m q : Str) (st : Stmt) : Prop := ∃ (p g : Addr) (fd : FuncData), PropOf K C m p g ∧ C8.Fun K m q st g fd ∧ L2.Binds K fd ["self"] []
def IniP (K : PySem.W.Frag) (C : Addr) (q : Str) (st : Stmt) (ps : List Str) : Prop := ∃ (f : Addr) (fd : FuncData), Mk K C f ∧ C8.Fun K "__init__" q st f fd ∧ L2.Binds K fd ps []
/-- an __init__ with keyword-only defaults -/
def IniD (K : PySem.W.Frag) (C : Addr) (q : Str) (st : Stmt) (kws : List (Str × V)) : Prop := ∃ (f : Addr) (fd : FuncData), Mk K C f ∧ FunD K "__init__" q (C8.fnArgs st) (C8.fnBody st) (C8.fnScope st) [] kws f fd
def ConP (K : PySem.W.Frag) (C : Addr) (x : Str) (n : Int) : Prop := ∃ u, Con K C x (.int n) u

section
variable {P : Program} {w : World} {K : PySem.W.Frag} {mg : Str → Option Value} {base : Heap}
theorem cal {x : Str} {st : Stmt} {N ps : List Str} {k : Nat} {sp : Sp} (d : D0 K mg x st ps) (S : FnScope N ps (C8.fnScope st)) (len : ∀ vs H Q E, sp vs H Q E → vs.length = ps.length)
    (hbody : ∀ (cdv : Value) (A : Around) (outer : List Env) (f : Addr) (s : Shared) (H : Hp) (vs : List V) (Q : VK) (E : XK), Room k (A.deeper (envOfC x (C8.fnScope st) s.heap.objs.size f cdv)) → sp vs H Q E →
      ∃ t, PSs (cxOf C8.CX0 P w K mg base N x (C8.fnScope st) f cdv A outer s H E).nox (C8.fnBody st) t ∧ t { nx := fun _ H' => Q .non H', rt := Q } (start N vs) H) : Cal P w K mg base (k + 1) x sp [] := by
  obtain ⟨f, fd, D, b⟩ := d.ex
  exact cal0 D b .nil S len fun cdv A outer s H vs Q E hr h => hbody cdv A outer f s H vs Q E hr h
theorem met {m q : Str} {C : Addr} {st : Stmt} {N ps : List Str} {k : Nat} {sp : Sp} (d : MethP K C m q st ps) (c : Cls K C) (S : FnScope N ps (C8.fnScope st)) (len : ∀ vs H Q E, sp vs H Q E → vs.length = ps.length)
    (hbody : ∀ (cdv : Value) (A : Around) (outer : List Env) (f : Addr) (s : Shared) (H : Hp) (vs : List V) (Q : VK) (E : XK), Room k (A.deeper (envOfC q (C8.fnScope st) s.heap.objs.size f cdv)) → sp vs H Q E →
      ∃ t, PSs (cxOf C8.CX0 P w K mg base N q (C8.fnScope st) f cdv A outer s H E).nox (C8.fnBody st) t ∧ t { nx := fun _ H' => Q .non H', rt := Q } (start N vs) H) : Met P w K mg base (k + 1) C m sp [] := by
  obtain ⟨f, fd, M, F, b⟩ := d
  exact met0 c M F b S len fun cdv A outer s H vs Q E hr h => hbody cdv A outer f s H vs Q E hr h
theorem mak {x q : Str} {C : Addr} {st : Stmt} {N ps : List Str} {k : Nat} {sp : Sp} (d : IniP K C q st ps) (hm : mg x = some (.ref C)) (S : FnScope N ps (C8.fnScope st)) (len : ∀ vs H Q E, sp vs H Q E → vs.length = ps.length)
    (hbody : ∀ (cdv : Value) (A : Around) (outer : List Env) (f : Addr) (s : Shared) (H : Hp) (vs : List V) (Q : VK) (E : XK), Room k (A.deeper (envOfC q (C8.fnScope st) s.heap.objs.size f cdv)) → sp vs H Q E →
      ∃ t, PSs (cxOf C8.CX0 P w K mg base N q (C8.fnScope st) f cdv A outer s H E).nox (C8.fnBody st) t ∧ t { nx := fun _ H' => Q .non H', rt := Q } (start N vs) H) : Mak P w K mg base (k + 1) x C sp [] := by
  obtain ⟨f, fd, M, F, b⟩ := d
  exact mak0 M hm F b .nil S len fun cdv A outer s H vs Q E hr h => hbody cdv A outer f s H vs Q E hr h
/-- the promise of a property's getter -/
def Prp (P : Program) (w : World) (K : PySem.W.Frag) (mg : Str → Option Value) (base : Heap) (k : Nat) (C : Addr) (m : Str) (sp : Sp) : Prop :=
  ∃ (p g : Addr) (fd : FuncData), Cls K C ∧ PropOf K C m p g ∧ FnOk P w K mg base C8.CX0 k g fd ["self"] sp ∧ L2.Binds K fd ["self"] []
theorem prp {m q : Str} {C : Addr} {st : Stmt} {N : List Str} {k : Nat} {sp : Sp} (d : PropP K C m q st) (c : Cls K C) (S : FnScope N ["self"] (C8.fnScope st)) (len : ∀ vs H Q E, sp vs H Q E → vs.length = 1)
    (hbody : ∀ (cdv : Value) (A : Around) (outer : List Env) (f : Addr) (s : Shared) (H : Hp) (vs : List V) (Q : VK) (E : XK), Room k (A.deeper (envOfC q (C8.fnScope st) s.heap.objs.size f cdv)) → sp vs H Q E →
      ∃ t, PSs (cxOf C8.CX0 P w K mg base N q (C8.fnScope st) f cdv A outer s H E).nox (C8.fnBody st) t ∧ t { nx := fun _ H' => Q .non H', rt := Q } (start N vs) H) : Prp P w K mg base (k + 1) C m sp := by
  obtain ⟨p, g, fd, M, F, b⟩ := d
  exact ⟨p, g, fd, c, M, C8.fn0 F S len fun cdv A outer s H vs Q E hr h => hbody cdv A outer g s H vs Q E hr h, b⟩
end
theorem pe_pr {X : Cx} {k j : Nat} {C : Addr} {m : Str} {sp : Sp} {e : Expr} {pos : Pos} {ta : TE} (c : Prp X.prog X.w X.K X.mg X.base k C m sp) (hr : Room j X.A) (hk : k + 1 ≤ j) (he : PE X e ta)
    (hab : attributeBase e m X.env (eval e X.env) = eval e X.env := by rfl) : PE X (.Attribute e m pos) (tProp C sp [] C8.E0 ta) := by
  obtain ⟨p, g, fd, cl, hp, F, b⟩ := c
  exact pe_prop he cl hp F (hr.mono hk) b .nil (C8.pass0 (E := C8.E0)) hab
theorem pe_c0 {X : Cx} {k j : Nat} {x : Str} {sp : Sp} {dvs : List V} {p pos : Pos} (c : Cal X.prog X.w X.K X.mg X.base k x sp dvs) (hr : Room j X.A) (hk : k ≤ j) (hg : Gl X x) (hdb : (x == ("__debug__" : Str)) = false := by decide) :
    PE X (.Call (.Name x p) [] [] pos) (tCall sp dvs C8.E0 tNil) := by
  obtain ⟨f, fd, ps, ds, F, hm, kp, b, d⟩ := c.ex
  exact pe_call0 F (hr.mono hk) hg hm kp b d C8.pass0 hdb
theorem pe_mk0 {X : Cx} {k j : Nat} {C : Addr} {x : Str} {sp : Sp} {dvs : List V} {p pos : Pos} (c : Mak X.prog X.w X.K X.mg X.base k x C sp dvs) (hr : Room j X.A) (hk : k + 1 ≤ j) (hg : Gl X x) (hdb : (x == ("__debug__" : Str)) = false := by decide) :
    PE X (.Call (.Name x p) [] [] pos) (tMake C sp dvs C8.E0 tNil) := by
  obtain ⟨f, fd, ps, ds, M, F, hm, b, d⟩ := c.ex
  exact pe_make0 M F (hr.mono hk) hg hm b d C8.pass0 hdb
theorem u1 {k : Nat} {A : Around} (hr : Room k A) : A.units + 1 < cLine := by
  have := hr.units
  omega

section
variable {K : PySem.W.Frag} {h : Heap} {mg : Str → Option Value}
theorem d0_mk {x : Str} {st : Stmt} {ps : List Str} {f : Addr} {oc : Value} {od an : Option Addr} {osl : Array (Option Value)} {kV doc pm cdv ct : Value} (X : K.In h) (G : h.Ns mainGlobals mg) (a : PySem.W.nsIn K mainGlobals x = some (some (.ref f)))
    (l : K.lookup f = some ⟨oc, od, .func (PySem.W.fnOf x x (C8.fnArgs st) (C8.fnBody st) (C8.fnScope st) .none kV doc pm an cdv ct), osl⟩) (c : PySem.W.codeIn K cdv x = true) (k : PySem.W.keepIn K (.ref f) = true)
    (hb : ∀ (kV doc pm : Value) (an : Option Addr) (cdv ct : Value) (us : List Value), us.length = ps.length → bindArgs (PySem.W.fnOf x x (C8.fnArgs st) (C8.fnBody st) (C8.fnScope st) .none kV doc pm an cdv ct) ⟨us, []⟩ = pure (ps.zip us)) : D0 K mg x st ps :=
  have F : C8.Fun K x x st f _ := ⟨⟨oc, od, _, kV, doc, pm, an, cdv, ct, osl, rfl, l, c⟩⟩
  ⟨f, _, ⟨F, PySem.W.mg_of X G a, k⟩, F.binds rfl hb⟩
theorem meth_mk {C f : Addr} {m q : Str} {st : Stmt} {ps : List Str} {oc : Value} {od an : Option Addr} {osl : Array (Option Value)} {kV doc pm cdv ct : Value} (a : PySem.W.findIn K (.ref C) m = some (some (.ref f))) (i : PySem.W.isFn K (.ref f) = true)
    (l : K.lookup f = some ⟨oc, od, .func (PySem.W.fnOf m q (C8.fnArgs st) (C8.fnBody st) (C8.fnScope st) .none kV doc pm an cdv ct), osl⟩) (c : PySem.W.codeIn K cdv q = true) (k : PySem.W.keepIn K (.ref f) = true)
    (hb : ∀ (kV doc pm : Value) (an : Option Addr) (cdv ct : Value) (us : List Value), us.length = ps.length → bindArgs (PySem.W.fnOf m q (C8.fnArgs st) (C8.fnBody st) (C8.fnScope st) .none kV doc pm an cdv ct) ⟨us, []⟩ = pure (ps.zip us)) : MethP K C m q st ps :=
  have F : C8.Fun K m q st f _ := ⟨⟨oc, od, _, kV, doc, pm, an, cdv, ct, osl, rfl, l, c⟩⟩
  ⟨f, _, ⟨a, i, k⟩, F, F.binds rfl hb⟩
theorem ini_mk {C f : Addr} {q : Str} {st : Stmt} {ps : List Str} {oc : Value} {od an : Option Addr} {osl : Array (Option Value)} {kV doc pm cdv ct : Value} (m : PySem.W.makesIn K C = true) (a : PySem.W.findIn K (.ref C) "__init__" = some (some (.ref f))) (i : PySem.W.isFn K (.ref f) = true) (kc : PySem.W.keepIn K (.ref C) = true)
    (l : K.lookup f = some ⟨oc, od, .func (PySem.W.fnOf "__init__" q (C8.fnArgs st) (C8.fnBody st) (C8.fnScope st) .none kV doc pm an cdv ct), osl⟩) (c : PySem.W.codeIn K cdv q = true)
    (hb : ∀ (kV doc pm : Value) (an : Option Addr) (cdv ct : Value) (us : List Value), us.length = ps.length → bindArgs (PySem.W.fnOf "__init__" q (C8.fnArgs st) (C8.fnBody st) (C8.fnScope st) .none kV doc pm an cdv ct) ⟨us, []⟩ = pure (ps.zip us)) : IniP K C q st ps :=
  have F : C8.Fun K "__init__" q st f _ := ⟨⟨oc, od, _, kV, doc, pm, an, cdv, ct, osl, rfl, l, c⟩⟩
  ⟨f, _, ⟨m, a, i, kc⟩, F, F.binds rfl hb⟩
theorem con_mk {C : Addr} {x : Str} {n : Int} {tk : Tok} (a : PySem.W.findIn K (.ref C) x = some (some (.int n tk))) (g : PySem.W.specialIn K (.int n tk) "__get__" = some none) (cp : PySem.W.copiedNames.contains x = false) : ConP K C x n :=
  ⟨.int n tk, a, ⟨_, rfl⟩, g, cp⟩
theorem inid2_mk {C f D : Addr} {q x1 x2 : Str} {n1 n2 : Int} {st : Stmt} {oc : Value} {od an : Option Addr} {osl : Array (Option Value)} {doc pm cdv ct : Value} {t1 t2 : Tok} (m : PySem.W.makesIn K C = true) (a : PySem.W.findIn K (.ref C) "__init__" = some (some (.ref f))) (i : PySem.W.isFn K (.ref f) = true) (kc : PySem.W.keepIn K (.ref C) = true)
    (l : K.lookup f = some ⟨oc, od, .func (PySem.W.fnOf "__init__" q (C8.fnArgs st) (C8.fnBody st) (C8.fnScope st) .none (.ref D) doc pm an cdv ct), osl⟩) (c : PySem.W.codeIn K cdv q = true) (k : PySem.W.keepIn K (.ref f) = true)
    (g1 : PySem.W.nsIn K D x1 = some (some (.int n1 t1))) (g2 : PySem.W.nsIn K D x2 = some (some (.int n2 t2))) : IniD K C q st [(x1, .int n1), (x2, .int n2)] :=
  ⟨f, _, ⟨m, a, i, kc⟩, ⟨oc, od, _, _, doc, pm, an, cdv, ct, osl, rfl, l, c, .inl ⟨rfl, rfl⟩, .inr ⟨D, rfl, fun q hq => by
    cases hq with
    | head => exact ⟨_, g1, _, rfl⟩
    | tail _ hq => cases hq with
      | head => exact ⟨_, g2, _, rfl⟩
      | tail _ hq => cases hq⟩⟩, k⟩
theorem inidN_mk {C f D : Addr} {q x1 : Str} {st : Stmt} {oc : Value} {od an : Option Addr} {osl : Array (Option Value)} {doc pm cdv ct : Value} (m : PySem.W.makesIn K C = true) (a : PySem.W.findIn K (.ref C) "__init__" = some (some (.ref f))) (i : PySem.W.isFn K (.ref f) = true) (kc : PySem.W.keepIn K (.ref C) = true)
    (l : K.lookup f = some ⟨oc, od, .func (PySem.W.fnOf "__init__" q (C8.fnArgs st) (C8.fnBody st) (C8.fnScope st) .none (.ref D) doc pm an cdv ct), osl⟩) (c : PySem.W.codeIn K cdv q = true) (k : PySem.W.keepIn K (.ref f) = true)
    (g1 : PySem.W.nsIn K D x1 = some (some .none)) : IniD K C q st [(x1, .non)] :=
  ⟨f, _, ⟨m, a, i, kc⟩, ⟨oc, od, _, _, doc, pm, an, cdv, ct, osl, rfl, l, c, .inl ⟨rfl, rfl⟩, .inr ⟨D, rfl, fun q hq => by
    cases hq with
    | head => exact ⟨_, g1, rfl⟩
    | tail _ hq => cases hq⟩⟩, k⟩
theorem prop_mk {C p g : Addr} {m q : Str} {st : Stmt} {rest : List Value} {oc : Value} {od an : Option Addr} {osl : Array (Option Value)} {kV doc pm cdv ct : Value} (a : PySem.W.findIn K (.ref C) m = some (some (.ref p))) (gt : PySem.W.specialIn K (.ref p) "__get__" = some (some (.builtin "property.__get__"))) (tk : PySem.W.takesIn K (.ref p) = some true)
    (r : PySem.W.recIn K p "property" = some (.ref g :: rest))
    (l : K.lookup g = some ⟨oc, od, .func (PySem.W.fnOf m q (C8.fnArgs st) (C8.fnBody st) (C8.fnScope st) .none kV doc pm an cdv ct), osl⟩) (c : PySem.W.codeIn K cdv q = true)
    (hb : ∀ (kV doc pm : Value) (an : Option Addr) (cdv ct : Value) (us : List Value), us.length = ["self"].length → bindArgs (PySem.W.fnOf m q (C8.fnArgs st) (C8.fnBody st) (C8.fnScope st) .none kV doc pm an cdv ct) ⟨us, []⟩ = pure ((["self"] : List Str).zip us)) : PropP K C m q st :=
  have F : C8.Fun K m q st g _ := ⟨⟨oc, od, _, kV, doc, pm, an, cdv, ct, osl, rfl, l, c⟩⟩
  ⟨p, g, _, ⟨a, gt, tk, rest, r⟩, F, F.binds (ps := ["self"]) rfl hb⟩
theorem cls_mk {C : Addr} (pg : PySem.W.plainGet K C Str.empty = true) (hd : PySem.W.hasDictIn K C = true) (po : PySem.W.plainOver K C = true) (sa : PySem.W.findIn K (.ref C) "__setattr__" = some (some (.builtin "object.__setattr__"))) : Cls K C := ⟨pg, hd, po, sa⟩
theorem bl_mk (X : K.In h) (G : h.Ns mainGlobals mg) (z0 : PySem.W.nsIn K mainGlobals "int" = some none) (z1 : PySem.W.nsIn K mainGlobals "bool" = some none) (z2 : PySem.W.nsIn K mainGlobals "list" = some none) (z3 : PySem.W.nsIn K mainGlobals "len" = some none)
    (z4 : PySem.W.nsIn K mainGlobals "tuple" = some none) (z5 : PySem.W.nsIn K mainGlobals "str" = some none) (z6 : PySem.W.nsIn K mainGlobals "sum" = some none) (z7 : PySem.W.nsIn K mainGlobals "abs" = some none) (z8 : PySem.W.nsIn K mainGlobals "max" = some none) (z9 : PySem.W.nsIn K mainGlobals "min" = some none)
    (z10 : PySem.W.nsIn K mainGlobals "range" = some none) (z11 : PySem.W.nsIn K mainGlobals "isinstance" = some none) (z12 : PySem.W.nsIn K mainGlobals "sorted" = some none) (z13 : PySem.W.nsIn K mainGlobals "reversed" = some none) (z14 : PySem.W.nsIn K mainGlobals "enumerate" = some none) (z15 : PySem.W.nsIn K mainGlobals "zip" = some none)
    (z16 : PySem.W.nsIn K mainGlobals "all" = some none) (z17 : PySem.W.nsIn K mainGlobals "any" = some none) (z18 : PySem.W.nsIn K mainGlobals "dict" = some none) (z19 : PySem.W.nsIn K mainGlobals "set" = some none) (z20 : PySem.W.nsIn K mainGlobals "ord" = some none) : Bl mg :=
  ⟨PySem.W.mg_none_of X G z0, PySem.W.mg_none_of X G z1, PySem.W.mg_none_of X G z2, PySem.W.mg_none_of X G z3, PySem.W.mg_none_of X G z4, PySem.W.mg_none_of X G z5, PySem.W.mg_none_of X G z6, PySem.W.mg_none_of X G z7, PySem.W.mg_none_of X G z8, PySem.W.mg_none_of X G z9, PySem.W.mg_none_of X G z10,
    PySem.W.mg_none_of X G z11, PySem.W.mg_none_of X G z12, PySem.W.mg_none_of X G z13, PySem.W.mg_none_of X G z14, PySem.W.mg_none_of X G z15, PySem.W.mg_none_of X G z16, PySem.W.mg_none_of X G z17, PySem.W.mg_none_of X G z18, PySem.W.mg_none_of X G z19, PySem.W.mg_none_of X G z20⟩
/-- a tuple of texts of the module -/
def TupP (K : PySem.W.Frag) (mg : Str → Option Value) (x : Str) (l : List V) : Prop := ∃ a : Addr, mg x = some (.ref a) ∧ ∀ H, SqT K H a l
theorem tup2s_mk {x : Str} {a : Addr} {s1 s2 : Str} {t1 t2 : Tok} {n : Nat} {od : Option Addr} {osl : Array (Option Value)} (X : K.In h) (G : h.Ns mainGlobals mg) (e : PySem.W.nsIn K mainGlobals x = some (some (.ref a))) (l : K.lookup a = some ⟨.type "tuple", od, .seq #[.str s1 t1, .str s2 t2] n, osl⟩) : TupP K mg x [.str s1, .str s2] :=
  ⟨a, PySem.W.mg_of X G e, fun _ => .inr ⟨_, _, _, l, rfl, rfl, by show 2 ≤ sizeLine; decide, .cons ⟨_, rfl⟩ (.cons ⟨_, rfl⟩ .nil)⟩⟩
/-- a def of the text whose code makes a lambda: its code object at c -/
structure D1 (K : PySem.W.Frag) (mg : Str → Option Value) (x : Str) (st : Stmt) (c : Addr) : Prop where
  ex : ∃ (f : Addr) (oc : Value) (od : Option Addr) (kV doc pm : Value) (an : Option Addr) (ct : Value) (osl : Array (Option Value)),
    K.lookup f = some ⟨oc, od, .func (PySem.W.fnOf x x (C8.fnArgs st) (C8.fnBody st) (C8.fnScope st) .none kV doc pm an (.ref c) ct), osl⟩ ∧ PySem.W.codeIn K (.ref c) x = true ∧ mg x = some (.ref f) ∧ PySem.W.keepIn K (.ref f) = true
theorem d1_mk {x : Str} {st : Stmt} {f c : Addr} {oc : Value} {od an : Option Addr} {osl : Array (Option Value)} {kV doc pm ct : Value} (X : K.In h) (G : h.Ns mainGlobals mg) (a : PySem.W.nsIn K mainGlobals x = some (some (.ref f)))
    (l : K.lookup f = some ⟨oc, od, .func (PySem.W.fnOf x x (C8.fnArgs st) (C8.fnBody st) (C8.fnScope st) .none kV doc pm an (.ref c) ct), osl⟩) (cd : PySem.W.codeIn K (.ref c) x = true) (k : PySem.W.keepIn K (.ref f) = true) : D1 K mg x st c :=
  ⟨f, oc, od, kV, doc, pm, an, ct, osl, l, cd, PySem.W.mg_of X G a, k⟩
/-- the law's own def -/
def LawP (K : PySem.W.Frag) (mg : Str → Option Value) (st : Stmt) (fa : Addr) : Prop := ∃ fd, C8.Fun K "law" "law" st fa fd ∧ ∀ (s : Shared) (u : Value), BindsTo s fd ⟨[u], []⟩ [("script", u)]
theorem law_mk {st : Stmt} {fa fL : Addr} {oc : Value} {od an : Option Addr} {osl : Array (Option Value)} {kV doc pm cdv ct : Value} (X : K.In h) (G : h.Ns mainGlobals mg) (hfa : mg "law" = some (.ref fa)) (aL : PySem.W.nsIn K mainGlobals "law" = some (some (.ref fL)))
    (lL : K.lookup fL = some ⟨oc, od, .func (PySem.W.fnOf "law" "law" (C8.fnArgs st) (C8.fnBody st) (C8.fnScope st) .none kV doc pm an cdv ct), osl⟩) (cL : PySem.W.codeIn K cdv "law" = true)
    (hb : ∀ (kV doc pm : Value) (an : Option Addr) (cdv ct u : Value), bindArgs (PySem.W.fnOf "law" "law" (C8.fnArgs st) (C8.fnBody st) (C8.fnScope st) .none kV doc pm an cdv ct) ⟨[u], []⟩ = pure [(("script" : Str), u)]) : LawP K mg st fa := by
  have e := hfa.symm.trans (PySem.W.mg_of X G aL)
  cases e
  exact ⟨_, ⟨⟨oc, od, _, kV, doc, pm, an, cdv, ct, osl, rfl, lL, cL⟩⟩, fun s u => .of_eq (hb _ _ _ _ _ _ u)⟩
/-- the promise of a law: whatever the script, True -/
def spLaw (K : PySem.W.Frag) : Sp := fun vs H Q _ => ∃ (a : Addr) (ns : List Int), vs = [.ref a] ∧ SqL K H a (ns.map V.int) ∧ ns.length ≤ 63 ∧ ∀ H' : Hp, Q (.bl true) H'
/-- .. of a law whose text makes a lambda, its table at t -/
def spLawT (K : PySem.W.Frag) (t : Addr) : Sp := fun vs H Q _ => ∃ (a : Addr) (ns : List Int), vs = [.ref a] ∧ SqL K H a (ns.map V.int) ∧ ns.length ≤ 63 ∧ H t = some (.tbl #[]) ∧ ∀ H' : Hp, Q (.bl true) H'
end
theorem walkN {l : PySem.W.OpenLaw} {k : Nat} {q : Program} {loose : List Str} {XP : (Str → Option Value) → Heap → Prop} {YP : World → Heap → Prop} {d : DefRec} {K : Params → PySem.W.Frag} (hk : Room k callerA) (hn : l.most = some 63) (hdf : d.params.defaults = [])
    (hY : ∀ (w : World) (h : Heap), YP w h → (K w.params).In h)
    (F : ∀ (w : World) (mg : Str → Option Value) (fa : Addr) (h : Heap), (K w.params).In h → h.Ns mainGlobals mg → mg d.name = some (.ref fa) →
      ∃ fd : FuncData, (∀ (s : Shared) (u : Value), BindsTo s fd ⟨[u], []⟩ [("script", u)]) ∧ ∀ base : Heap, (K w.params).In base → base.Ns mainGlobals mg → FnOk l.prog w (K w.params) mg base C8.CX0 k fa fd ["script"] (spLaw (K w.params))) :
    PySem.W.WalkO q loose XP YP l.row.toRowW d [] (fun f vs => PySem.call f vs) :=
  L2.walk_of (n := 63) (k := k) (x := "script") (CX := fun _ => C8.CX0) (sp := fun w => spLaw (K w.params)) hn (by decide) hdf hk hY F (fun _ _ a ns hl _ hS => ⟨a, ns, rfl, hS, hl, fun _ => rfl⟩) fun _ _ _ _ _ z => z
/-- the end of a law with one table -/
theorem lawT {l : PySem.W.OpenLaw} {w : World} {K : PySem.W.Frag} {h : Heap} {mg : Str → Option Value} {fa c t : Addr} {st : Stmt} {k : Nat} (X : K.In h) (hT : h.get? t = some { cls := .none, data := .fields #[] }) (nT : K.lookup t = none) (hC : PySem.W.codeHdIn K c t = true) (L : LawP K mg st fa)
    (F : ∀ fd, C8.Fun K "law" "law" st fa fd → ∀ base : Heap, K.In base → base.Ns mainGlobals mg → TabB base mg c t → FnOk l.prog w K mg base C8.CX0 k fa fd ["script"] (spLawT K t)) : LamX.LawAtS l w K C8.CX0 k 63 "script" mg fa h := by
  obtain ⟨fd, FL, bt⟩ := L
  refine ⟨fd, [(c, t)], spLawT K t, ?_, ?_, ?_, bt, ?_, fun base h1 h2 hTB => F fd FL base h1 h2 (hTB (c, t) (.head _))⟩
  · intro p hp
    cases hp with
    | head => exact hT
    | tail _ hp => cases hp
  · intro p hp
    cases hp with
    | head => exact nT
    | tail _ hp => cases hp
  · intro p hp
    cases hp with
    | head => exact PySem.W.codeHd_of_K X hC
    | tail _ hp => cases hp
  · exact fun H a ns hl _ hH hS => ⟨a, ns, rfl, hS, hl, hH (c, t) (.head _), fun _ => rfl⟩
end UF

set_option Elab.async false
set_option maxRecDepth 100000
set_option maxHeartbeats 4000000
/-! own errors with one field: raised, caught, asked -/
namespace UF
open PySem PySem.Spec PyProof.Rows L2 C8 LamX
/-- isinstance(e, c), e the caught error (its class cls, its dict d) -/
def rIsX (K : PySem.W.Frag) (a : Addr) (cls : Value) (d : Option Addr) (D : Addr) : List V → Hp → VK → Prop := fun xs H Q => ∃ (c : V) (cv : Value) (b : Bool), xs = [.ref a, c] ∧ cls = .ref D ∧ (∃ dd fs, d = some dd ∧ H dd = some (.xd fs)) ∧ (∀ u, RelV c u → u = cv) ∧ PySem.W.kitOne K (.ref D) cv = some b ∧ Q (.bl b) H
theorem call_isX {X : Cx} {a D : Addr} {oe : Obj} {cls : Value} {d : Option Addr} {pn : List (Addr × Obj)} (C : ExcC X.K D) (hz : Zc cls d oe) (hf : ∃ vs, oe.data = .fields vs) : CallR (X.suite a ((a, oe) :: pn)) (.builtin "isinstance") (rIsX X.K a cls d D) := by
  intro pins s σ H xs us Q I r h
  obtain ⟨c, cv, b, rfl, rfl, ⟨dd, fs, rfl, hd⟩, hcv, e, q⟩ := h
  cases r with
  | cons rx rr => cases rr with
    | cons rt rr =>
      cases rr; cases rx
      have ec := hcv _ rt
      subst ec
      have hp := I.pin (a, oe) (List.mem_append.mpr (.inl List.mem_cons_self))
      have hx : ObjOk X.prog X.w H s.heap dd (.xd fs) := I.hok dd _ hd
      obtain ⟨mA, hns, _⟩ := hx
      obtain ⟨od, ho, _⟩ := lookIn_ns hns
      have J : PySem.W.InstAt s.heap a oe D (some od) := ⟨hp.1, hz.1, by obtain ⟨vs, hv⟩ := hf; unfold PySem.W.notCls; rw [hv] <;> rfl, by rw [hz.2]; exact ho⟩
      have hcl : (PySem.W.clsIn X.K D).isSome = true := by
        have z := C.hd
        unfold PySem.W.hasDictIn at z
        cases q : PySem.W.clsIn X.K D with
        | none => rw [q] at z; cases z
        | some _ => rfl
      exact PySem.W.kia_one (PySem.W.kitx_exc hcl C.hg C.hk C.hs C.ha C.hn C.ht C.hm) I.kIn J e (fun z => nomatch z) fun tk => ⟨.bl b, H, I.kept (t' := tk) fun _ _ z => z, rfl, q⟩
/-- the __init__ of an error with one field f -/
def spIniX (C : Addr) (f : Str) : Sp := fun vs H Q _ => ∃ (a : Addr) (v : V), vs = [.ref a, v] ∧ H a = some (exo a C none) ∧ ∀ dx : Addr, H dx = none → dx ≠ a → Q .non (upd (upd H dx (exd dx [(f, v)])) a (exo a C (some dx)))
def IniX (K : PySem.W.Frag) (C : Addr) (q : Str) (st : Stmt) (ps : List Str) : Prop := ∃ (f : Addr) (fd : FuncData), PySem.W.findIn K (.ref C) "__init__" = some (some (.ref f)) ∧ PySem.W.typeIn K (.ref f) = some (.type "function") ∧ C8.Fun K "__init__" q st f fd ∧ L2.Binds K fd ps []
theorem inix_mk {K : PySem.W.Frag} {C f : Addr} {q : Str} {st : Stmt} {ps : List Str} {oc : Value} {od an : Option Addr} {osl : Array (Option Value)} {kV doc pm cdv ct : Value} (a : PySem.W.findIn K (.ref C) "__init__" = some (some (.ref f))) (i : PySem.W.typeIn K (.ref f) = some (.type "function"))
    (l : K.lookup f = some ⟨oc, od, .func (PySem.W.fnOf "__init__" q (C8.fnArgs st) (C8.fnBody st) (C8.fnScope st) .none kV doc pm an cdv ct), osl⟩) (c : PySem.W.codeIn K cdv q = true)
    (hb : ∀ (kV doc pm : Value) (an : Option Addr) (cdv ct : Value) (us : List Value), us.length = ps.length → bindArgs (PySem.W.fnOf "__init__" q (C8.fnArgs st) (C8.fnBody st) (C8.fnScope st) .none kV doc pm an cdv ct) ⟨us, []⟩ = pure (ps.zip us)) : IniX K C q st ps :=
  have F : C8.Fun K "__init__" q st f _ := ⟨⟨oc, od, _, kV, doc, pm, an, cdv, ct, osl, rfl, l, c⟩⟩
  ⟨f, _, a, i, F, F.binds rfl hb⟩
/-- an error's class that may be raised by its name -/
structure MkX (P : Program) (w : World) (K : PySem.W.Frag) (mg : Str → Option Value) (base : Heap) (k : Nat) (x f : Str) (C : Addr) : Prop where
  oex : OexC K C
  g : mg x = some (.ref C)
  ex : ∃ (fI : Addr) (fd : FuncData) (ps : List Str), PySem.W.findIn K (.ref C) "__init__" = some (some (.ref fI)) ∧ PySem.W.typeIn K (.ref fI) = some (.type "function") ∧ FnOk P w K mg base C8.CX0 k fI fd ps (spIniX C f) ∧ L2.Binds K fd ps []
/-- C(e): its class, its dict, new -/
def tMkX (C : Addr) (f : Str) (ta : TA) : L2.St → Hp → XK → Prop := fun σ H Q => ta σ H fun vs H1 => ∃ v, vs = [v] ∧ ∀ d, H1 d = none → Q (.ref C) (some d) (upd H1 d (.xd [(f, v)]))
theorem pe_mx {X : Cx} {k j : Nat} {x f : Str} {C : Addr} {e : Expr} {ta : TA} {p pos : Pos} (c : MkX X.prog X.w X.K X.mg X.base k x f C) (hr : Room j X.A) (hk : k + 1 ≤ j) (hg : Gl X x) (ha : PA X [e] ta) (hdb : (x == ("__debug__" : Str)) = false := by decide)
    (he : starEach [e] X.env = (false, eval e X.env) :: starEach [] X.env := by rfl) (hpl : (backTo pos (starEach [] X.env)).any (·.1) = false := by rfl) : PMk X (.Call (.Name x p) [e] [] pos) (tMkX C f ta) := by
  obtain ⟨fI, fd, ps, iC, tI, F, b⟩ := c.ex
  intro pins s σ H Q I h
  have ha' : PA X [e] (fun σ H Q => ∃ Q0 : List V → Hp → Prop, ta σ H Q0 ∧ ∀ vs H1, Q0 vs H1 → Q vs H1) := ⟨fun pos pins s σ H Q I h => by
    obtain ⟨Q0, h0, im⟩ := h
    exact thn (ha.run pos pins s σ H _ I h0) fun us s1 ⟨vs, H1, I1, r1, q1⟩ => ⟨vs, H1, I1, r1, im _ _ q1⟩⟩
  refine pmk_oex (sp := spIniX C f) (dvs := []) c.oex iC tI F (hr.mono hk) b .nil C8.pass0 hg c.g ha' hdb he hpl pins s σ H Q I ?_
  refine ⟨_, h, fun vs H1 q => ?_⟩
  obtain ⟨v, rfl, q⟩ := q
  refine ⟨by show 1 ≤ 1000; decide, fun a na => ⟨a, v, rfl, upd_same, fun dx nd ne => ⟨rfl, dx, [(f, v)], upd_same, ?_, ?_, ?_⟩⟩⟩
  · rw [upd_ne ne, upd_same]
  · rw [upd_ne ne] at nd
    exact nd
  · have nd' : H1 dx = none := by
      rw [upd_ne ne] at nd
      exact nd
    have e : upd (del (upd (upd (upd H1 a (exo a C none)) dx (exd dx [(f, v)])) a (exo a C (some dx))) a) dx (.xd [(f, v)]) = upd H1 dx (.xd [(f, v)]) := by
      funext c
      by_cases e1 : c = dx
      · rw [e1, upd_same, upd_same]
      · rw [upd_ne e1, upd_ne e1]
        by_cases e2 : c = a
        · rw [e2, del_same, na]
        · rw [del_ne e2, upd_ne e2, upd_ne e1, upd_ne e2]
    rw [e]
    exact q dx nd'
/-- a def of the text that may raise -/
structure CalX (P : Program) (w : World) (K : PySem.W.Frag) (mg : Str → Option Value) (base : Heap) (k : Nat) (x : Str) (sp : Sp) : Prop where
  ex : ∃ (f : Addr) (fd : FuncData) (ps : List Str), FnOk P w K mg base (L2.CX P w) k f fd ps sp ∧ mg x = some (.ref f) ∧ PySem.W.keepIn K (.ref f) = true ∧ L2.Binds K fd ps []
theorem calX {P : Program} {w : World} {K : PySem.W.Frag} {mg : Str → Option Value} {base : Heap} {x : Str} {st : Stmt} {N ps : List Str} {k : Nat} {sp : Sp} (d : D0 K mg x st ps) (S : FnScope N ps (C8.fnScope st)) (len : ∀ vs H Q E, sp vs H Q E → vs.length = ps.length)
    (hbody : ∀ (cdv : Value) (A : Around) (outer : List Env) (f : Addr) (s : Shared) (H : Hp) (vs : List V) (Q : VK) (E : XK), Room k (A.deeper (envOfC x (C8.fnScope st) s.heap.objs.size f cdv)) → sp vs H Q E →
      ∃ t, PSs (cxOf (L2.CX P w) P w K mg base N x (C8.fnScope st) f cdv A outer s H E) (C8.fnBody st) t ∧ t { nx := fun _ H' => Q .non H', rt := Q } (start N vs) H) : CalX P w K mg base (k + 1) x sp := by
  obtain ⟨f, fd, D, b⟩ := d.ex
  obtain ⟨oc, od, dV, kV, doc, pm, an, cdv, ct, osl, rfl, lk, hcd⟩ := D.fn.ex
  exact ⟨f, _, ps, fn_of lk hcd S len fun A outer s H vs Q E hr hsp => hbody cdv A outer f s H vs Q E hr hsp, D.mgf, D.kp, b⟩
/-- a call of it within a try's body (what it lets out is taken: tk) -/
theorem pe_cx {X : Cx} {k j : Nat} {x : Str} {sp : Sp} {W : WX} {e : Expr} {es : List Expr} {t : TA} {p pos : Pos} (c : CalX X.prog X.w X.K X.mg X.base k x sp) (hr : Room j X.A) (hk : k ≤ j) (hg : Gl X x) (tk : Takes X W) (ha : PA X (e :: es) t) (hdb : (x == ("__debug__" : Str)) = false := by decide)
    (he : starEach (e :: es) X.env = (false, eval e X.env) :: starEach es X.env := by rfl) (hpl : (backTo pos (starEach es X.env)).any (·.1) = false := by rfl) : PE X (.Call (.Name x p) (e :: es) [] pos) (tCallS sp (WE W) t) := by
  obtain ⟨f, fd, ps, F, hm, kp, b⟩ := c.ex
  exact pe_callS F (hr.mono hk) hg hm kp b (fun σ => passAt tk σ) ha hdb he hpl
theorem oex_mk {K : PySem.W.Frag} {C : Addr} {nm q : Str} {N : Addr} {bs bm : List Value} {sn : List Str} {sub : List Value} {ab : Bool} {col : Option Bool} {dd : Option Addr} {m0 m1 m2 m3 m5 : Option Value}
    (xL : K.lookup C = some (excClassObj nm q C N bs bm true sn sub ab col dd m0 m1 m2 m3 m5 "ValueError.__new__")) (r : PySem.HandSPX.refsVE bm = true)
    (sa : PySem.W.findIn K (.ref C) "__setattr__" = some (some (.builtin "object.__setattr__"))) (ex : PySem.W.subIn K (.ref C) (.type "BaseException") = some true) (ty : PySem.W.typeIn K (.ref C) = some (.type "type")) (kc : PySem.W.keepIn K (.ref C) = true) : OexC K C :=
  ⟨⟨nm, q, N, bs, bm, sn, sub, ab, col, dd, m0, m1, m2, m3, m5, xL, r⟩, sa, ex, ty, kc⟩
end UF

set_option Elab.async false
set_option maxRecDepth 100000
set_option maxHeartbeats 4000000
/-! defs with a keyword-only default None; rows of whole numbers as data -/
namespace UF
open PySem PySem.Spec PyProof.Rows L2 C8 LamX
/-- a def of the text with keyword-only defaults -/
def DkD (K : PySem.W.Frag) (mg : Str → Option Value) (x : Str) (st : Stmt) (kws : List (Str × V)) : Prop := ∃ (f : Addr) (fd : FuncData), FunD K x x (C8.fnArgs st) (C8.fnBody st) (C8.fnScope st) [] kws f fd ∧ mg x = some (.ref f)
section
variable {K : PySem.W.Frag} {h : Heap} {mg : Str → Option Value}
theorem dkN_mk {x x1 : Str} {st : Stmt} {f D : Addr} {oc : Value} {od an : Option Addr} {osl : Array (Option Value)} {doc pm cdv ct : Value} (X : K.In h) (G : h.Ns mainGlobals mg) (a : PySem.W.nsIn K mainGlobals x = some (some (.ref f)))
    (l : K.lookup f = some ⟨oc, od, .func (PySem.W.fnOf x x (C8.fnArgs st) (C8.fnBody st) (C8.fnScope st) .none (.ref D) doc pm an cdv ct), osl⟩) (c : PySem.W.codeIn K cdv x = true) (k : PySem.W.keepIn K (.ref f) = true)
    (g1 : PySem.W.nsIn K D x1 = some (some .none)) : DkD K mg x st [(x1, .non)] :=
  ⟨f, _, ⟨⟨oc, od, _, _, doc, pm, an, cdv, ct, osl, rfl, l, c, .inl ⟨rfl, rfl⟩, .inr ⟨D, rfl, fun q hq => by
    cases hq with
    | head => exact ⟨_, g1, rfl⟩
    | tail _ hq => cases hq⟩⟩, k⟩, PySem.W.mg_of X G a⟩
theorem dk2N_mk {x x1 x2 : Str} {st : Stmt} {f D : Addr} {oc : Value} {od an : Option Addr} {osl : Array (Option Value)} {doc pm cdv ct : Value} (X : K.In h) (G : h.Ns mainGlobals mg) (a : PySem.W.nsIn K mainGlobals x = some (some (.ref f)))
    (l : K.lookup f = some ⟨oc, od, .func (PySem.W.fnOf x x (C8.fnArgs st) (C8.fnBody st) (C8.fnScope st) .none (.ref D) doc pm an cdv ct), osl⟩) (c : PySem.W.codeIn K cdv x = true) (k : PySem.W.keepIn K (.ref f) = true)
    (g1 : PySem.W.nsIn K D x1 = some (some .none)) (g2 : PySem.W.nsIn K D x2 = some (some .none)) : DkD K mg x st [(x1, .non), (x2, .non)] :=
  ⟨f, _, ⟨⟨oc, od, _, _, doc, pm, an, cdv, ct, osl, rfl, l, c, .inl ⟨rfl, rfl⟩, .inr ⟨D, rfl, fun q hq => by
    cases hq with
    | head => exact ⟨_, g1, rfl⟩
    | tail _ hq => cases hq with
      | head => exact ⟨_, g2, rfl⟩
      | tail _ hq => cases hq⟩⟩, k⟩, PySem.W.mg_of X G a⟩
theorem inid2N_mk {C f D : Addr} {q x1 x2 : Str} {st : Stmt} {oc : Value} {od an : Option Addr} {osl : Array (Option Value)} {doc pm cdv ct : Value} (m : PySem.W.makesIn K C = true) (a : PySem.W.findIn K (.ref C) "__init__" = some (some (.ref f))) (i : PySem.W.isFn K (.ref f) = true) (kc : PySem.W.keepIn K (.ref C) = true)
    (l : K.lookup f = some ⟨oc, od, .func (PySem.W.fnOf "__init__" q (C8.fnArgs st) (C8.fnBody st) (C8.fnScope st) .none (.ref D) doc pm an cdv ct), osl⟩) (c : PySem.W.codeIn K cdv q = true) (k : PySem.W.keepIn K (.ref f) = true)
    (g1 : PySem.W.nsIn K D x1 = some (some .none)) (g2 : PySem.W.nsIn K D x2 = some (some .none)) : IniD K C q st [(x1, .non), (x2, .non)] :=
  ⟨f, _, ⟨m, a, i, kc⟩, ⟨oc, od, _, _, doc, pm, an, cdv, ct, osl, rfl, l, c, .inl ⟨rfl, rfl⟩, .inr ⟨D, rfl, fun q hq => by
    cases hq with
    | head => exact ⟨_, g1, rfl⟩
    | tail _ hq => cases hq with
      | head => exact ⟨_, g2, rfl⟩
      | tail _ hq => cases hq⟩⟩, k⟩
end
/-- a method with one default, an empty tuple -/
def MethE (K : PySem.W.Frag) (C : Addr) (m q : Str) (st : Stmt) : Prop := ∃ (f a : Addr) (fd : FuncData), Meth K C m f ∧ FunD K m q (C8.fnArgs st) (C8.fnBody st) (C8.fnScope st) [.ref a] [] f fd ∧ ∀ H, SqT K H a []
theorem methE_mk {K : PySem.W.Frag} {C f TT e : Addr} {m q : Str} {st : Stmt} {oc : Value} {od an : Option Addr} {osl : Array (Option Value)} {kV doc pm cdv ct : Value} {o1 : Value} {o2 : Option Addr} {o3 : Array (Option Value)} {n1 n2 : Nat} {p2 : Option Addr} {p3 : Array (Option Value)} (a : PySem.W.findIn K (.ref C) m = some (some (.ref f))) (i : PySem.W.isFn K (.ref f) = true)
    (l : K.lookup f = some ⟨oc, od, .func (PySem.W.fnOf m q (C8.fnArgs st) (C8.fnBody st) (C8.fnScope st) (.ref TT) kV doc pm an cdv ct), osl⟩) (c : PySem.W.codeIn K cdv q = true) (k : PySem.W.keepIn K (.ref f) = true)
    (lT : K.lookup TT = some ⟨o1, o2, .seq #[.ref e] n1, o3⟩) (le : K.lookup e = some ⟨.type "tuple", p2, .seq #[] n2, p3⟩) : MethE K C m q st :=
  ⟨f, e, _, ⟨a, i, k⟩, ⟨⟨oc, od, _, kV, doc, pm, an, cdv, ct, osl, rfl, l, c, .inr ⟨fun z => (nomatch z), TT, _, [.ref e], n1, rfl, lT, rfl, .cons rfl .nil⟩, .inl rfl⟩, k⟩, fun H => .inr ⟨_, #[], n2, le, rfl, rfl, Nat.zero_le _, .nil⟩⟩
end UF

set_option Elab.async false
set_option maxRecDepth 100000
set_option maxHeartbeats 4000000
/-! list(zip(xs, ys)): a new list of new pairs -/
namespace UF
open PySem PySem.Spec PyProof.Rows PyProof.V L2 PySem.Calls
/-- a zip between two turns -/
structure ZSt (z TI TO i1 i2 l1 l2 S : Addr) (xs ys : Array Value) (i : Nat) (h : Heap) : Prop where
  hTI : IsPair h TI (.ref i1) (.ref i2)
  h1 : h.IsListIter i1 l1 i
  h2 : h.IsListIter i2 l2 i
  hl1 : h.IsList l1 xs
  hl2 : h.IsList l2 ys
  hz : (IsZip h z TI TO .none ∧ ∃ a b, IsPair h TO a b) ∨ ∃ T f oT, IsZipHeld h z TI TO T f ∧ h.get? T = some oT ∧ T ≠ z ∧ T ≠ i1 ∧ T ≠ i2 ∧ T ≠ S
/-- where the list's address lies -/
structure ZOff (z TI TO i1 i2 l1 l2 S : Addr) : Prop where
  z : z < S
  TI : TI < S
  TO : TO < S
  i1 : i1 < S
  i2 : i2 < S
  l1 : l1 < S
  l2 : l2 < S
section
variable {z TI TO i1 i2 l1 l2 S : Addr} {xs ys : Array Value} {i : Nat} {h h' : Heap}
theorem ZSt.fr (s : ZSt z TI TO i1 i2 l1 l2 S xs ys i h) (o : ZOff z TI TO i1 i2 l1 l2 S) (k : ∀ b u, b ≠ S → h.get? b = some u → h'.get? b = some u) : ZSt z TI TO i1 i2 l1 l2 S xs ys i h' := by
  refine ⟨k _ _ (Nat.ne_of_lt o.TI) s.hTI, s.h1.at fun u e => k _ u (Nat.ne_of_lt o.i1) e, s.h2.at fun u e => k _ u (Nat.ne_of_lt o.i2) e, s.hl1.at fun u e => k _ u (Nat.ne_of_lt o.l1) e, s.hl2.at fun u e => k _ u (Nat.ne_of_lt o.l2) e, ?_⟩
  rcases s.hz with ⟨a, b, c, d⟩ | ⟨T, f, oT, a, b, r⟩
  · exact .inl ⟨k _ _ (Nat.ne_of_lt o.z) a, b, c, k _ _ (Nat.ne_of_lt o.TO) d⟩
  · exact .inr ⟨T, f, oT, k _ _ (Nat.ne_of_lt o.z) a, k _ _ r.2.2.2 b, r⟩
end
/-- all but the iterators' cells and the list stays -/
def ZKp (z TO i1 i2 S : Addr) (h h' : Heap) : Prop := ∀ b o, b ≠ S → b ≠ z → b ≠ TO → b ≠ i1 → b ≠ i2 → h.get? b = some o → h'.get? b = some o
/-- the pairs so far -/
structure ZPr (xs ys : Array Value) (S : Addr) (h : Heap) (as : List Addr) : Prop where
  up : as.Pairwise (· < ·)
  over : ∀ a ∈ as, S < a
  is : ∀ (j : Nat) (a : Addr), as[j]? = some a → ∃ x y, xs[j]? = some x ∧ ys[j]? = some y ∧ IsPair h a x y
abbrev LstO (acc : Array Value) (c : Nat) : Obj := { cls := .type "list", dict := none, data := .seq acc c, slots := #[] }
section
variable {prog : Program} {w : World} {A : Around} {s : Shared} {z TI TO i1 i2 l1 l2 S : Addr} {xs ys : Array Value}
theorem zl_item {i : Nat} {E : Value → Shared → Prop} {Q : Option Value → Shared → Prop} (D : ZipApart z TI TO i1 i2 l1 l2) (t : ZSt z TI TO i1 i2 l1 l2 S xs ys i s.heap) (hS : S < s.heap.objs.size) (hx : i < xs.size) (hy : i < ys.size)
    (q : ∀ h', ZSt z TI TO i1 i2 l1 l2 S xs ys (i + 1) h' → IsPair h' s.heap.objs.size xs[i] ys[i] → (∀ b o, b ≠ z → b ≠ TO → b ≠ i1 → b ≠ i2 → s.heap.get? b = some o → h'.get? b = some o) → Q (some (.ref s.heap.objs.size)) { s with heap := h' }) :
    wpAny (model prog w) A (pyNext (.ref z)) Q E s := by
  obtain ⟨hTI, h1, h2, hl1, hl2, hz⟩ := t
  have ex := Array.getElem?_eq_getElem hx
  have ey := Array.getElem?_eq_getElem hy
  have lt : ∀ {c : Addr} {o : Obj}, s.heap.get? c = some o → s.heap.objs.size ≠ c := fun e => Nat.ne_of_gt (Heap.lt_size e)
  have n1 : s.heap.objs.size ≠ i1 := by obtain ⟨_, e, _⟩ := h1; exact lt e
  have n2 : s.heap.objs.size ≠ i2 := by obtain ⟨_, e, _⟩ := h2; exact lt e
  rcases hz with ⟨hz, a, b, hTO⟩ | ⟨T, f, oT, hz, hT, r1, r2, r3, r4⟩
  · exact wpAny_pyNext_zip_item D hz hTI hTO h1 h2 hl1 hl2 ex ey fun h' a1 a2 a3 a4 a5 a6 hk => q h'
      ⟨hk _ _ D.TIz D.TITO D.TIi1 D.TIi2 hTI, a3, a4, hl1.at fun o e => hk _ o D.l1z D.l1TO D.l1i1 D.l1i2 e, hl2.at fun o e => hk _ o D.l2z D.l2TO D.l2i1 D.l2i2 e, .inr ⟨s.heap.objs.size, false, _, a1, a5, lt hz, n1, n2, Nat.ne_of_gt hS⟩⟩
      a5 fun b o b1 b2 b3 b4 e => hk b o b1 b2 b3 b4 e
  · exact wpAny_pyNext_zip_item_held D hz hT hTI h1 h2 hl1 hl2 ex ey fun h' a1 a3 a4 a5 a6 hk => q h'
      ⟨hk _ _ D.TIz D.TIi1 D.TIi2 hTI, a3, a4, hl1.at fun o e => hk _ o D.l1z D.l1i1 D.l1i2 e, hl2.at fun o e => hk _ o D.l2z D.l2i1 D.l2i2 e, .inr ⟨T, true, oT, a1, hk _ _ r1 r2 r3 hT, r1, r2, r3, r4⟩⟩
      a5 fun b o b1 _ b3 b4 e => hk b o b1 b3 b4 e
theorem zl_done {E : Value → Shared → Prop} {Q : Option Value → Shared → Prop} {i : Nat} (hh : A.handled = none) (D : ZipApart z TI TO i1 i2 l1 l2) (t : ZSt z TI TO i1 i2 l1 l2 S xs ys i s.heap) (hend : xs[i]? = none ∨ ys[i]? = none)
    (q : ∀ h', (∀ b o, b ≠ z → b ≠ TO → b ≠ i1 → b ≠ i2 → s.heap.get? b = some o → h'.get? b = some o) → Q none { s with heap := h' }) : wpAny (model prog w) A (pyNext (.ref z)) Q E s := by
  obtain ⟨hTI, h1, h2, hl1, hl2, hz⟩ := t
  rcases hz with ⟨hz, a, b, hTO⟩ | ⟨T, f, oT, hz, hT, r1, r2, r3, r4⟩
  · exact wpAny_pyNext_zip_end hh D hz hTI hTO h1 h2 hl1 hl2 hend fun h' hk => q h' fun b o b1 b2 b3 b4 e => hk b o b1 b2 b3 b4 e
  · exact wpAny_pyNext_zip_end_held hh D hz hT hTI h1 h2 hl1 hl2 hend fun h' hk => q h' fun b o b1 _ b3 b4 e => hk b o b1 b3 b4 e
theorem zl_loop {R : Result → Shared → Prop} {h₁ : Heap} (hh : A.handled = none) (D : ZipApart z TI TO i1 i2 l1 l2) (O : ZOff z TI TO i1 i2 l1 l2 S) (n : Nat) (en : n = min xs.size ys.size) (hn : n ≤ sizeLine) (res : Value)
    (hR : ∀ h' tk acc c as, ZKp z TO i1 i2 S h₁ h' → h'.get? S = some (LstO acc c) → as.length = n → ZPr xs ys S h' as → acc.toList = as.map Value.ref → R (.ok (.ret res)) { s with heap := h', toks := tk }) :
    ∀ (k i : Nat) (h : Heap) (tk c : Nat) (acc : Array Value) (as : List Addr), n - i = k → i ≤ n → ZSt z TI TO i1 i2 l1 l2 S xs ys i h → ZKp z TO i1 i2 S h₁ h → h.get? S = some (LstO acc c) → acc.toList = as.map Value.ref → as.length = i → ZPr xs ys S h as →
      codeAny (model prog w) A (.builtin "list.extend.loop" ⟨[.ref S, .ref z, res], []⟩) R { s with heap := h, toks := tk } := by
  have ab : ∀ {a : Addr}, S < a → a ≠ S ∧ a ≠ z ∧ a ≠ TO ∧ a ≠ i1 ∧ a ≠ i2 := fun {a} g =>
    ⟨Nat.ne_of_gt g, Nat.ne_of_gt (Nat.lt_trans O.z g), Nat.ne_of_gt (Nat.lt_trans O.TO g), Nat.ne_of_gt (Nat.lt_trans O.i1 g), Nat.ne_of_gt (Nat.lt_trans O.i2 g)⟩
  intro k
  induction k with
  | zero =>
    intro i h tk c acc as hk hi st kp hS ha hl hp
    have ei : i = n := by omega
    refine codeAny_builtin PySem.F.entry_extend_loop ?_; rw [Around.under_plainId PySem.F.plain_extend_loop _]
    show wpAny _ A.in1 (pyNext (.ref z) >>= _) _ _ _
    have he : xs[i]? = none ∨ ys[i]? = none := by
      rcases Nat.le_total xs.size ys.size with q | q
      · exact .inl (Array.getElem?_eq_none (by omega))
      · exact .inr (Array.getElem?_eq_none (by omega))
    refine wpAny_bind (zl_done (s := { s with heap := h, toks := tk }) (A := A.in1) hh D st he fun h' hk' => ?_)
    have nS : S ≠ z ∧ S ≠ TO ∧ S ≠ i1 ∧ S ≠ i2 := ⟨Nat.ne_of_gt O.z, Nat.ne_of_gt O.TO, Nat.ne_of_gt O.i1, Nat.ne_of_gt O.i2⟩
    refine wpAny_pure (hR h' tk acc c as (fun b o b0 b1 b2 b3 b4 e => hk' b o b1 b2 b3 b4 (kp b o b0 b1 b2 b3 b4 e)) (hk' S _ nS.1 nS.2.1 nS.2.2.1 nS.2.2.2 hS) (by omega) ⟨hp.up, hp.over, fun j a hj => ?_⟩ ha)
    obtain ⟨x, y, ex, ey, p⟩ := hp.is j a hj
    obtain ⟨m0, m1, m2, m3, m4⟩ := ab (hp.over a (List.mem_of_getElem? hj))
    exact ⟨x, y, ex, ey, hk' a _ m1 m2 m3 m4 p⟩
  | succ k ih =>
    intro i h tk c acc as hk hi st kp hS ha hl hp
    have hx : i < xs.size := by omega
    have hy : i < ys.size := by omega
    have hsz : acc.size = i := by rw [← Array.length_toList, ha, List.length_map, hl]
    have hSl : S < h.objs.size := Heap.lt_size hS
    refine codeAny_builtin PySem.F.entry_extend_loop ?_; rw [Around.under_plainId PySem.F.plain_extend_loop _]
    show wpAny _ A.in1 (pyNext (.ref z) >>= _) _ _ _
    refine wpAny_bind (zl_item (s := { s with heap := h, toks := tk }) D st hSl hx hy fun h' st' hp' hk' => ?_)
    dsimp only at hp' hk' ⊢
    have hS' := hk' S _ (Nat.ne_of_gt O.z) (Nat.ne_of_gt O.TO) (Nat.ne_of_gt O.i1) (Nat.ne_of_gt O.i2) hS
    have up : ∀ b o, b ≠ S → h'.get? b = some o → (h'.update S (Obj.mapSeq (·.push (Value.ref h.objs.size)))).get? b = some o := fun b o nb e => (Heap.get?_update_other _ _ (Ne.symm nb)).trans e
    show wpAny _ A.in1 (updateSeq S (·.push (Value.ref h.objs.size)) >>= _) _ _ _
    refine wpAny_bind ?_
    refine wpAny_updateSeq hS' rfl (wpAny_pure ⟨plainId_quiet PySem.F.plain_extend_loop _, ih (i + 1) _ tk _ (acc.push (Value.ref h.objs.size)) (as ++ [h.objs.size]) (by omega) (by omega) (st'.fr O up)
      (fun b o b0 b1 b2 b3 b4 e => up b o b0 (hk' b o b1 b2 b3 b4 (kp b o b0 b1 b2 b3 b4 e))) (Heap.get?_update_self _ hS' rfl) (by rw [Array.toList_push, ha, List.map_append]; rfl) (by rw [List.length_append, hl]; rfl) ⟨?_, ?_, ?_⟩⟩) (by rw [hsz]; omega) (by show (acc.push (Value.ref h.objs.size)).size ≤ sizeLine + 1; rw [Array.size_push, hsz]; omega)
    · refine List.pairwise_append.mpr ⟨hp.up, List.pairwise_singleton _ _, fun a ma b mb => ?_⟩
      rw [List.mem_singleton.mp mb]
      obtain ⟨j, hj⟩ := List.mem_iff_getElem?.mp ma
      obtain ⟨_, _, _, _, p⟩ := hp.is j a hj
      exact Heap.lt_size p
    · intro a ma
      rcases List.mem_append.mp ma with ma | ma
      · exact hp.over a ma
      · rw [List.mem_singleton.mp ma]; exact hSl
    · intro j b hj
      rcases Nat.lt_trichotomy j as.length with q | q | q
      · rw [List.getElem?_append_left q] at hj
        obtain ⟨x, y, ex, ey, p⟩ := hp.is j b hj
        obtain ⟨m0, m1, m2, m3, m4⟩ := ab (hp.over b (List.mem_of_getElem? hj))
        exact ⟨x, y, ex, ey, up b _ m0 (hk' b _ m1 m2 m3 m4 p)⟩
      · have hb : h.objs.size = b := by subst q; simpa using hj
        have ej : j = i := by omega
        subst ej
        subst hb
        exact ⟨_, _, Array.getElem?_eq_getElem hx, Array.getElem?_eq_getElem hy, up _ _ (Nat.ne_of_gt hSl) hp'⟩
      · have e0 : (as ++ [h.objs.size])[j]? = none := List.getElem?_eq_none (by rw [List.length_append, List.length_singleton]; omega)
        rw [e0] at hj; cases hj
end
section
variable {prog : Program} {w : World} {A : Around} {s : Shared} {z TI TO i1 i2 l1 l2 S : Addr} {xs ys : Array Value}
theorem z_len : typeLookup (.type "zip") "__len__" = pure none := am_miss_of_fast (by decide +kernel)
theorem z_lh : typeLookup (.type "zip") "__length_hint__" = pure none := am_miss_of_fast (by decide +kernel)
theorem zip_room {E : Value → Shared → Prop} {Q : Bool → Shared → Prop} (hT : s.TypeIs (.ref z) "zip") (h : Q true s) : wpAny (model prog w) A (Builtin.List.listLengthHint (.ref z)) Q E s := by
  unfold Builtin.List.listLengthHint
  refine wpAny_bind (wpAny_specialOf hT z_len ?_)
  refine wpAny_ite_split (fun hab => absurd hab (by decide)) (fun _ => ?_)
  refine wpAny_ite_split (fun hab => absurd hab (by decide)) (fun _ => ?_)
  exact wpAny_bind (wpAny_specialOf hT z_lh (wpAny_pure h))
theorem zl_extend {R : Result → Shared → Prop} (hh : A.handled = none) (D : ZipApart z TI TO i1 i2 l1 l2) (O : ZOff z TI TO i1 i2 l1 l2 S) (st : ZSt z TI TO i1 i2 l1 l2 S xs ys 0 s.heap) (hz : IsZip s.heap z TI TO .none) (n : Nat) (en : n = min xs.size ys.size) (hn : n ≤ sizeLine) (res : Value) (c₀ : Nat)
    (hS : s.heap.get? S = some (LstO #[] c₀)) (hR : ∀ h' tk acc c as, ZKp z TO i1 i2 S s.heap h' → h'.get? S = some (LstO acc c) → as.length = n → ZPr xs ys S h' as → acc.toList = as.map Value.ref → R (.ok (.ret res)) { s with heap := h', toks := tk }) :
    wpAny (model prog w) A.in1 (Builtin.List.listExtendWith (.ref S) (.ref z) res) (fun fin s' => match fin with | .done f => R (.ok f) s' | .again c' => c'.quiet = true ∧ codeAny (model prog w) A c' R s') (fun e s' => R (.error e) s') s := by
  have nSz : S ≠ z := Nat.ne_of_gt O.z
  have hT : s.TypeIs (.ref z) "zip" := ⟨_, hz, rfl⟩
  have t1 : Builtin.List.listSameRef (.ref S) (.ref z) = false := by simp [Builtin.List.listSameRef, nSz]
  have t2 : (Value.type "zip" == Value.type "list") = false := by decide
  have t3 : (Value.type "zip" == Value.type "tuple") = false := by decide
  have key : ∀ (h : Heap) (c₁ tk : Nat), (∀ b o, b ≠ S → s.heap.get? b = some o → h.get? b = some o) → h.get? S = some (LstO #[] c₁) → codeAny (model prog w) A (.builtin "list.extend.loop" ⟨[.ref S, .ref z, res], []⟩) R { s with heap := h, toks := tk } := fun h c₁ tk hk hS₁ =>
    zl_loop (h₁ := s.heap) hh D O n en hn res (fun h' tk acc c as a1 a2 a3 a4 a5 => hR h' tk acc c as a1 a2 a3 a4 a5) n 0 h tk c₁ #[] [] rfl (Nat.zero_le _) (st.fr O hk) (fun b o b0 _ _ _ _ e => hk b o b0 e) hS₁ rfl rfl ⟨.nil, (fun _ m => nomatch m), fun j a e => by simp at e⟩
  unfold Builtin.List.listExtendWith
  refine wpAny_bind (wpAny_typeOf (T := "zip") hT ?_)
  simp only [t1, t2, t3, Bool.or_false, Bool.false_eq_true, if_false]
  refine wpAny_bind (wpAny_pyIter_zip hz (wpAny_bind (wpAny_holding (zip_room hT ?_))))
  refine wpAny_ite_split (fun _ => ?_) (fun hab => (hab (by simp)).elim)
  refine wpAny_bind (wpAny_rule (wpAny_bind ?_))
  show wpAny _ _ (updateSeq S (·.push .none) >>= fun _ => updateSeq S (·.pop)) _ _ _
  refine wpAny_bind (wpAny_updateSeq hS rfl ?_); have hS₂ := Heap.get?_update_self (Obj.mapSeq (·.push Value.none)) hS rfl
  refine wpAny_updateSeq (hz := by seq_fits) hS₂ rfl ?_; have hS₃ := Heap.get?_update_self (Obj.mapSeq (·.pop)) hS₂ rfl
  refine wpAny_pure ⟨plainId_quiet PySem.F.plain_extend_loop _, key _ _ _ (fun b o hb e => (Heap.get?_update_other _ _ (Ne.symm hb)).trans ((Heap.get?_update_other _ _ (Ne.symm hb)).trans e)) hS₃⟩
theorem zl_call {Q : Value → Shared → Prop} {E : Value → Shared → Prop} (hh : A.handled = none) (D : ZipApart z TI TO i1 i2 l1 l2) (O : ZOff z TI TO i1 i2 l1 l2 s.heap.objs.size) (st : ZSt z TI TO i1 i2 l1 l2 s.heap.objs.size xs ys 0 s.heap) (hz : IsZip s.heap z TI TO .none) (n : Nat) (en : n = min xs.size ys.size) (hn : n ≤ sizeLine)
    (hQ : ∀ h' tk acc c as, ZKp z TO i1 i2 s.heap.objs.size s.heap h' → h'.get? s.heap.objs.size = some (LstO acc c) → as.length = n → ZPr xs ys s.heap.objs.size h' as → acc.toList = as.map Value.ref → Q (.ref s.heap.objs.size) { s with heap := h', toks := tk }) :
    wpAny (model prog w) A (call (.type "list") [.ref z]) Q E s := by
  have psh : ∀ (o : Obj) b u, s.heap.get? b = some u → (s.heap.push o).get? b = some u := fun o b u e => Heap.get?_push_of_some _ e
  refine callType_codes PySem.F.called_list (PySem.F.typeCall_list_1 _) PySem.F.entry_list_init (Q₁ := fun obj s₁ => obj = .ref s.heap.objs.size ∧ s₁ = { s with heap := s.heap.push { cls := .type "list", data := .seq #[] } })
    (code_list_new _ ⟨rfl, rfl⟩) fun obj s₁ h₁ => ?_
  obtain ⟨e1, e2⟩ := h₁; subst e1; subst e2
  have hS : (s.heap.push { cls := .type "list", data := .seq #[] }).get? s.heap.objs.size = some (LstO #[] 0) := Heap.get?_push_size _ rfl
  refine ⟨⟨_, hS, rfl⟩, PySem.F.args_list_init_2 _ _, ?_⟩
  show wpAny _ _ (do let old ← Builtin.List.listItems (.ref s.heap.objs.size); Builtin.List.listUpdate (.ref s.heap.objs.size) (fun _ => #[]); letGo old.toList.reverse; Builtin.List.listExtendWith (.ref s.heap.objs.size) (.ref z) .none) _ _ _
  refine wpAny_bind ?_
  unfold Builtin.List.listItems
  refine wpAny_bind (wpAny_seqItems hS rfl (wpAny_pure ?_))
  show wpAny _ _ (updateSeq s.heap.objs.size (fun _ => #[]) >>= fun _ => letGo (#[] : Array Value).toList.reverse >>= fun _ => Builtin.List.listExtendWith (.ref s.heap.objs.size) (.ref z) .none) _ _ _
  refine wpAny_bind (wpAny_updateSeq hS rfl ?_)
  have hS₂ := Heap.get?_update_self (Obj.mapSeq (fun _ => (#[] : Array Value))) hS rfl
  have oth : ∀ b o, b ≠ s.heap.objs.size → s.heap.get? b = some o → ((s.heap.push { cls := .type "list", data := .seq #[] }).update s.heap.objs.size (Obj.mapSeq (fun _ => (#[] : Array Value)))).get? b = some o := fun b o hb e => (Heap.get?_update_other _ _ (Ne.symm hb)).trans (psh _ b o e)
  refine wpAny_bind (wpAny_letGo ?_)
  refine zl_extend (A := A.in1) hh D O (st.fr O oth) (oth z _ (Nat.ne_of_lt O.z) hz) n en hn .none _ hS₂ fun h' tk acc c as hk hS' hl hG ha => ⟨rfl, hQ h' tk acc c as (fun b o b0 b1 b2 b3 b4 e => hk b o b0 b1 b2 b3 b4 (oth b o b0 e)) hS' hl hG ha⟩
end
/-- the new pairs laid into the tracked heap -/
def layT : List (Addr × V × V) → Hp → Hp
  | [], H => H
  | p :: r, H => L2.upd (layT r H) p.1 (.tup [p.2.1, p.2.2])
theorem layT_old {H : Hp} {c : Addr} : ∀ {l : List (Addr × V × V)}, (∀ p ∈ l, p.1 ≠ c) → layT l H c = H c
  | [], _ => rfl
  | p :: r, h => by
    show L2.upd (layT r H) p.1 _ c = _
    rw [upd_ne (Ne.symm (h p (.head _)))]
    exact layT_old fun q m => h q (.tail _ m)
theorem layT_new {H : Hp} {t : Addr} {x y : V} : ∀ {l : List (Addr × V × V)}, (l.map (·.1)).Nodup → (t, x, y) ∈ l → layT l H t = some (.tup [x, y])
  | p :: r, nd, m => by
    have nd' := List.nodup_cons.mp nd
    show L2.upd (layT r H) p.1 _ t = _
    rcases List.mem_cons.mp m with e | m
    · subst e
      exact upd_same
    · have ne : t ≠ p.1 := fun e => nd'.1 (List.mem_map.mpr ⟨_, m, e⟩)
      rw [upd_ne ne]
      exact layT_new nd'.2 m
theorem layT_inv {H : Hp} {c : Addr} {o : HO} : ∀ {l : List (Addr × V × V)}, layT l H c = some o → (∃ x y, (c, x, y) ∈ l ∧ o = .tup [x, y]) ∨ H c = some o
  | [], h => .inr h
  | p :: r, h => by
    by_cases e : c = p.1
    · have h' : L2.upd (layT r H) p.1 (.tup [p.2.1, p.2.2]) c = some o := h
      rw [e, upd_same] at h'
      exact .inl ⟨p.2.1, p.2.2, by rw [e]; exact .head _, (Option.some.inj h').symm⟩
    · have h' : L2.upd (layT r H) p.1 (.tup [p.2.1, p.2.2]) c = some o := h
      rw [upd_ne e] at h'
      rcases layT_inv h' with ⟨x, y, m, z⟩ | z
      · exact .inl ⟨x, y, .tail _ m, z⟩
      · exact .inr z
theorem Fr.exts {ds : List Addr} {H H' : Hp} (e : ∀ c o, H c = some o → H' c = some o) : Fr ds H H' := ⟨⟨fun a o h _ _ => e a o h, fun a n o h => n o (e a o h)⟩, fun T hT => hT.ext fun c u h => e c u h⟩
/-- list(zip(e, e2)) -/
def tLZ (K : PySem.W.Frag) (ta : TA) : TE := fun σ H Q => ta σ H fun vs H1 => ∃ a b xs ys, vs = [.ref a, .ref b] ∧ SqL K H1 a xs ∧ SqL K H1 b ys ∧ ∀ (l : Addr) (ts : List Addr) (H2 : Hp), Fr [] H1 H2 → H1 l = none → H2 l = some (.lst (ts.map V.ref)) → ts.length = min xs.length ys.length →
  (∀ (j : Nat) (t : Addr), ts[j]? = some t → ∃ x y, xs[j]? = some x ∧ ys[j]? = some y ∧ H1 t = none ∧ H2 t = some (.tup [x, y])) → Q (.ref l) H2
theorem ne_plus {c n : Nat} (h : c < n) (k : Nat) : c ≠ n + k := by omega
theorem le_of5 {c n m : Nat} (h : m ≤ c) (e : m = n + 5) : n ≤ c := by omega
theorem vals_ref : ∀ as : List Addr, Vals (as.map V.ref) (as.map Value.ref)
  | [] => .nil
  | _ :: as => .cons rfl (vals_ref as)
theorem vals_at {xs : List V} {us : List Value} (r : Vals xs us) : ∀ {j : Nat} {u : Value}, us[j]? = some u → ∃ x, xs[j]? = some x ∧ RelV x u := by
  induction r with
  | nil => intro j u h; simp at h
  | cons h t ih =>
    intro j u e
    cases j with
    | zero => cases e; exact ⟨_, rfl, h⟩
    | succ j => exact ih e
theorem pe_listZip {X : Cx} {e e2 : Expr} {ta : TA} {p p2 pos pos2 : Pos} (hc : X.calm = true) (gl : Gl X "list") (ml : X.mg "list" = none) (gz : Gl X "zip") (mz : X.mg "zip" = none) (ha : PA X [e, e2] ta)
    (hs : starEach [e, e2] X.env = (false, eval e X.env) :: starEach [e2] X.env := by rfl) (hpl : (backTo pos2 (starEach [e2] X.env)).any (·.1) = false := by rfl)
    (na : starEach [.Call (.Name "zip" p2) [e, e2] [] pos2] X.env = (false, eval (.Call (.Name "zip" p2) [e, e2] [] pos2) X.env) :: starEach [] X.env := by rfl) :
    PE X (.Call (.Name "list" p) [.Call (.Name "zip" p2) [e, e2] [] pos2] [] pos) (tLZ X.K ta) := by
  refine ⟨fun pins s σ H Q I h => ?_⟩
  refine Call_ (ld_blt I gl ml boot_list (PyProof.Rows.callWith_type1 (args_cons (Call_ (ld_blt I gz mz PyProof.Rows.boot_zip (PyProof.Rows.callWith_type1 (thn (ha.run pos2 pins s σ H _ I h) fun us s1 ⟨vs, H1, I1, r1, q1⟩ => ?_) hs hpl))) na) na))
  obtain ⟨a, b, xs, ys, ex, hqx, hqy, q⟩ := q1; subst ex
  cases r1 with
  | cons r rr => cases rr with
    | cons r' rr =>
      cases rr; cases r; cases r'
      obtain ⟨its, rv, p1, z1⟩ := I1.list hqx
      obtain ⟨its2, rv2, pp2, z2⟩ := I1.list hqy
      have la : a < s1.heap.objs.size := p1.lt
      have lb : b < s1.heap.objs.size := pp2.lt
      refine call_zip_2 p1.isList pp2.isList fun h' hz hTI hTO h1 h2 hsz hk => args_nil ?_
      have hl1 := p1.isList.at fun o e => hk _ o e
      have hl2 := pp2.isList.at fun o e => hk _ o e
      have ll := rv.length
      have ll2 := rv2.length
      have D := PySem.W.ktu_apart s1.heap.objs.size a b la lb
      have O : ZOff (s1.heap.objs.size + 4) (s1.heap.objs.size + 2) (s1.heap.objs.size + 3) s1.heap.objs.size (s1.heap.objs.size + 1) a b h'.objs.size := by
        rw [hsz]
        have f : ∀ n a : Nat, a < n → a < n + 5 := fun n a h => by omega
        have g : ∀ n i : Nat, i < 5 → n + i < n + 5 := fun n i h => by omega
        exact ⟨g _ 4 (by decide), g _ 2 (by decide), g _ 3 (by decide), g _ 0 (by decide), g _ 1 (by decide), f _ _ la, f _ _ lb⟩
      refine zl_call (s := { s1 with heap := h' }) (I1.ok.hd hc) D O ⟨hTI, h1, h2, hl1, hl2, .inl ⟨hz, _, _, hTO⟩⟩ hz (min xs.length ys.length) (by simp only [List.size_toArray]; omega) (by omega) fun h2' tk acc c as kp hS hl hG hacc => ?_
      have old : ∀ c o, s1.heap.get? c = some o → h2'.get? c = some o := fun c o e => by
        have lc : c < s1.heap.objs.size := Heap.lt_size e
        have f : ∀ k : Nat, c ≠ s1.heap.objs.size + k := ne_plus lc
        exact kp c o (by rw [hsz]; exact f 5) (f 4) (f 3) (f 0) (f 1) (hk c o e)
      have new : ∀ c : Addr, h'.objs.size ≤ c → s1.heap.objs.size ≤ c := fun c g => by
        exact le_of5 g hsz
      have nH : ∀ c : Addr, h'.objs.size ≤ c → H1 c = none := fun c g => I1.hok.fresh (new c g)
      have nas : ∀ c ∈ as, H1 c = none := fun c m => nH c (Nat.le_of_lt (hG.over c m))
      have lz : (xs.zip ys).length = as.length := by rw [List.length_zip, hl]
      have e1 : (as.zip (xs.zip ys)).map (·.1) = as := List.map_fst_zip (by omega)
      have nd : ((as.zip (xs.zip ys)).map (·.1)).Nodup := by
        rw [e1]
        exact hG.up.imp fun {a b} g => Nat.ne_of_lt g
      have memA : ∀ t x y, (t, x, y) ∈ as.zip (xs.zip ys) → t ∈ as ∧ ∃ j : Nat, as[j]? = some t ∧ xs[j]? = some x ∧ ys[j]? = some y := fun t x y m => by
        obtain ⟨j, hj⟩ := List.mem_iff_getElem?.mp m
        obtain ⟨q1, q2⟩ := List.getElem?_zip_eq_some.mp hj
        obtain ⟨q2, q3⟩ := List.getElem?_zip_eq_some.mp q2
        exact ⟨List.mem_of_getElem? q1, j, q1, q2, q3⟩
      have oldH : ∀ c o, H1 c = some o → L2.upd (layT (as.zip (xs.zip ys)) H1) h'.objs.size (.lst (as.map V.ref)) c = some o := fun c o e => by
        rw [upd_ne (ne_of_none e (nH _ (Nat.le_refl _))), layT_old fun p m z => ?_]
        · exact e
        · obtain ⟨t, x, y⟩ := p
          have := nas t (memA t x y m).1
          rw [show t = c from z, e] at this
          cases this
      have freeH : ∀ c o, s1.heap.get? c = some o → H1 c = none → L2.upd (layT (as.zip (xs.zip ys)) H1) h'.objs.size (.lst (as.map V.ref)) c = none := fun c o e n => by
        have lc : c < s1.heap.objs.size := Heap.lt_size e
        rw [upd_ne (fun z => Nat.lt_irrefl _ (Nat.lt_of_lt_of_le lc (new c (by rw [z]; exact Nat.le_refl _)))), layT_old fun p m z => ?_]
        · exact n
        · obtain ⟨t, x, y⟩ := p
          have g := hG.over t (memA t x y m).1
          rw [show t = c from z] at g
          exact Nat.lt_irrefl _ (Nat.lt_of_lt_of_le lc (new c (Nat.le_of_lt g)))
      have tupV : ∀ (j : Nat) (t : Addr), as[j]? = some t → ∃ x y, xs[j]? = some x ∧ ys[j]? = some y ∧ (t, x, y) ∈ as.zip (xs.zip ys) ∧ ∃ u v, RelV x u ∧ RelV y v ∧ IsPair h2' t u v := fun j t ej => by
        obtain ⟨u, v, eu, ev, pr⟩ := hG.is j t ej
        rw [List.getElem?_toArray] at eu ev
        obtain ⟨x, ex, rx⟩ := vals_at rv eu
        obtain ⟨y, ey, ry⟩ := vals_at rv2 ev
        exact ⟨x, y, ex, ey, List.mem_of_getElem? (i := j) (List.getElem?_zip_eq_some.mpr ⟨ej, List.getElem?_zip_eq_some.mpr ⟨ex, ey⟩⟩), u, v, rx, ry, pr⟩
      have u : Un X.fs [] H1 (L2.upd (layT (as.zip (xs.zip ys)) H1) h'.objs.size (.lst (as.map V.ref))) s1.heap h2' :=
        { keep := fun b o e _ _ _ => old b o e
          slot := fun b o e _ _ _ => ⟨o.slots, old b o e⟩
          free := fun b o e n _ => freeH b o e n
          there := fun b o e _ => ⟨o, old b o e⟩
          tups := fun b xs e => oldH b _ e
          frzs := fun b o u e => oldH b _ e
          tbls := fun b ps e => ⟨#[], by rw [oldH b _ e]; simp⟩ }
      have ok : HOk X.prog X.w (L2.upd (layT (as.zip (xs.zip ys)) H1) h'.objs.size (.lst (as.map V.ref))) h2' := fun c o e => by
        by_cases ec : c = h'.objs.size
        · subst ec
          rw [upd_same] at e
          cases e
          exact ⟨by rw [List.length_map]; omega, as.map Value.ref, _, vals_ref as, by rw [← hacc, Array.toArray_toList]; exact hS⟩
        · rw [upd_ne ec] at e
          rcases layT_inv e with ⟨x, y, m, rfl⟩ | e0
          · obtain ⟨_, j, ej, _, _⟩ := memA c x y m
            obtain ⟨x', y', _, _, m', u, v, ru, rw', pr⟩ := tupV j c ej
            have e' := layT_new (H := H1) nd m'
            rw [layT_new (H := H1) nd m] at e'
            cases e'
            exact ⟨by show 2 ≤ sizeLine; decide, [u, v], .cons ru (.cons rw' .nil), _, pr, rfl, _, rfl⟩
          · exact (I1.hok c o e0).stay (fun b u _ e => old b u e) (fun b e => oldH b _ e) fun b xs e => oldH b _ e
      have J := I1.un (t' := tk) u ok
      refine ⟨.ref h'.objs.size, _, J, rfl, q _ as _ (Fr.exts oldH) (nH _ (Nat.le_refl _)) upd_same hl fun j t ej => ?_⟩
      obtain ⟨x, y, ex, ey, m, _⟩ := tupV j t ej
      have mt := List.mem_of_getElem? ej
      exact ⟨x, y, ex, ey, nas t mt, by rw [upd_ne (Nat.ne_of_gt (hG.over t mt))]; exact layT_new nd m⟩
end UF

set_option Elab.async false
set_option maxRecDepth 100000
set_option maxHeartbeats 4000000
/-! seats of a ring, walks around it: mathematics -/
namespace UF
open PySem PySem.Spec PyProof.Rows L2

/-- the seats met on a walk of n steps that begins at s -/
def walkL (r s : Int) (n : Nat) (ns : List Int) : List Int := ((List.range n).map fun k => (s + ((k : Nat) : Int)) % r).filter fun x => decide (x ∈ ns)
theorem walkL_succ (r s : Int) (n : Nat) (ns : List Int) : walkL r s (n + 1) ns = if (s + (n : Int)) % r ∈ ns then walkL r s n ns ++ [(s + (n : Int)) % r] else walkL r s n ns := by
  unfold walkL
  rw [List.range_succ, List.map_append, List.filter_append]
  by_cases h : (s + (n : Int)) % r ∈ ns
  · rw [if_pos h]
    simp [h]
  · rw [if_neg h]
    simp [h]
/-- two rising lists with the same members are one -/
theorem rising_ext : ∀ {xs ys : List Int}, xs.Pairwise (· < ·) → ys.Pairwise (· < ·) → (∀ z, z ∈ xs ↔ z ∈ ys) → xs = ys
  | [], [], _, _, _ => rfl
  | [], y :: ys, _, _, h => absurd ((h y).mpr (.head _)) (by simp)
  | x :: xs, [], _, _, h => absurd ((h x).mp (.head _)) (by simp)
  | x :: xs, y :: ys, hx, hy, h => by
    have hx' := List.pairwise_cons.mp hx
    have hy' := List.pairwise_cons.mp hy
    have e : x = y := by
      have h1 := (h x).mp (.head _)
      have h2 := (h y).mpr (.head _)
      rcases List.mem_cons.mp h1 with e | m1
      · exact e
      · rcases List.mem_cons.mp h2 with e | m2
        · exact e.symm
        · have := hx'.1 y m2
          have := hy'.1 x m1
          omega
    subst e
    refine congrArg (List.cons x) (rising_ext hx'.2 hy'.2 fun z => ?_)
    constructor
    · intro m
      have l := hx'.1 z m
      rcases List.mem_cons.mp ((h z).mp (.tail _ m)) with e | m2
      · omega
      · exact m2
    · intro m
      have l := hy'.1 z m
      rcases List.mem_cons.mp ((h z).mpr (.tail _ m)) with e | m2
      · omega
      · exact m2
theorem emod_lt' {r : Int} (h : 0 < r) (a : Int) : a % r < r := Int.emod_lt_of_pos _ h
theorem emod_nn {r : Int} (h : 0 < r) (a : Int) : 0 ≤ a % r := Int.emod_nonneg _ (by omega)
/-- a seat is met again at its distance -/
theorem back {r s x : Int} (h0 : 0 ≤ x) (h1 : x < r) : (s + (x - s) % r) % r = x := by
  rw [Int.add_emod, Int.emod_emod, ← Int.add_emod, show s + (x - s) = x by omega]
  exact Int.emod_eq_of_lt h0 h1
theorem forth {r s k : Int} (h0 : 0 ≤ k) (h1 : k < r) : ((s + k) % r - s) % r = k := by
  rw [Int.sub_emod, Int.emod_emod, ← Int.sub_emod, show s + k - s = k by omega]
  exact Int.emod_eq_of_lt h0 h1
/-- the sorted distances up to span, as the walk tells them -/
theorem steps_walk {r s : Int} {ns st : List Int} {n : Nat} (hr : 0 < r) (hn : (n : Int) ≤ r) (h0 : ∀ x ∈ ns, 0 ≤ x) (h1 : ∀ x ∈ ns, x < r) (nd : ns.Nodup) (pm : st.Perm (ns.map fun x => (x - s) % r)) (so : st.Pairwise (· ≤ ·)) :
    (st.filter fun k => decide (k < (n : Int))).map (fun k => (s + k) % r) = walkL r s n ns := by
  have mem : ∀ k, k ∈ st ↔ ∃ x ∈ ns, (x - s) % r = k := fun k => by
    rw [pm.mem_iff, List.mem_map]
  have inj : (ns.map fun x => (x - s) % r).Nodup := by
    unfold List.Nodup
    rw [List.pairwise_map]
    refine List.Pairwise.imp_of_mem (fun {a b} ha hb hab e => hab ?_) nd
    rw [← back (s := s) (h0 a ha) (h1 a ha), ← back (s := s) (h0 b hb) (h1 b hb), e]
  have up : st.Pairwise (· < ·) := by
    have z := so.and (pm.nodup_iff.mpr inj)
    exact z.imp fun {a b} h => by
      have h1 := h.1
      have h2 := h.2
      omega
  have e : (st.filter fun k => decide (k < (n : Int))) = ((List.range n).filter fun k => decide ((s + ((k : Nat) : Int)) % r ∈ ns)).map fun k => ((k : Nat) : Int) := by
    refine rising_ext (up.filter _) (List.Pairwise.map _ (fun a b h => by omega) (List.pairwise_lt_range.filter _)) fun z => ?_
    rw [List.mem_filter, mem, List.mem_map]
    constructor
    · rintro ⟨⟨x, hx, rfl⟩, hz⟩
      have hz := of_decide_eq_true hz
      have p0 := emod_nn hr (x - s)
      refine ⟨((x - s) % r).toNat, List.mem_filter.mpr ⟨List.mem_range.mpr (by omega), decide_eq_true ?_⟩, by omega⟩
      rw [Int.toNat_of_nonneg p0, back (h0 x hx) (h1 x hx)]
      exact hx
    · rintro ⟨k, hk, rfl⟩
      obtain ⟨k1, k2⟩ := List.mem_filter.mp hk
      have k1 := List.mem_range.mp k1
      refine ⟨⟨_, of_decide_eq_true k2, forth (by omega) (by omega)⟩, decide_eq_true (by omega)⟩
  rw [e, List.map_map]
  unfold walkL
  rw [List.filter_map]
  rfl
theorem walkL_nil (r s : Int) (n : Nat) : walkL r s n [] = [] := by
  unfold walkL
  rw [List.filter_eq_nil_iff]
  intro a _
  simp
/-- the first seat of the walk is the one of the least distance -/
theorem walk_first {r s m : Int} {ns : List Int} (hr : 0 < r) (h0 : ∀ x ∈ ns, 0 ≤ x) (h1 : ∀ x ∈ ns, x < r) (hm : m ∈ ns) (best : ∀ x ∈ ns, (m - s) % r ≤ (x - s) % r) : ∃ rest, walkL r s r.toNat ns = m :: rest := by
  have p0 := emod_nn hr (m - s)
  have p1 := emod_lt' hr (m - s)
  obtain ⟨t, ht⟩ : ∃ t, r.toNat = ((m - s) % r).toNat + (t + 1) := ⟨r.toNat - ((m - s) % r).toNat - 1, by omega⟩
  have bk := back (s := s) (h0 m hm) (h1 m hm)
  unfold walkL
  rw [ht, List.range_add, List.map_append, List.filter_append]
  have e1 : ((List.range ((m - s) % r).toNat).map fun k => (s + ((k : Nat) : Int)) % r).filter (fun x => decide (x ∈ ns)) = [] := by
    rw [List.filter_eq_nil_iff]
    intro x hx hd
    obtain ⟨k, hk, rfl⟩ := List.mem_map.mp hx
    have hk := List.mem_range.mp hk
    have b := best _ (of_decide_eq_true hd)
    rw [forth (by omega) (by omega)] at b
    omega
  rw [e1, List.nil_append, List.range_succ_eq_map, List.map_cons, List.map_cons, List.filter_cons]
  have e2 : (s + (((((m - s) % r).toNat + 0 : Nat)) : Int)) % r = m := by
    rw [show ((((m - s) % r).toNat + 0 : Nat) : Int) = (m - s) % r by omega]
    exact bk
  rw [e2, if_pos (decide_eq_true hm)]
  exact ⟨_, rfl⟩
theorem emod_is {a r c q : Int} (e : a = c + r * q) (h0 : 0 ≤ c) (h1 : c < r) : a % r = c := by
  rw [e, Int.add_mul_emod_self_left]
  exact Int.emod_eq_of_lt h0 h1
theorem count_eq {r : Int} (hr : 0 < r) (lo hi : Int) : (if (hi - lo) % r = 0 then r else (hi - lo) % r) = (hi - (lo + 1)) % r + 1 := by
  have e := Int.emod_add_mul_ediv (hi - lo) r
  have p0 := emod_nn hr (hi - lo)
  have p1 := emod_lt' hr (hi - lo)
  generalize (hi - lo) % r = d at e p0 p1
  generalize (hi - lo) / r = q at e
  by_cases h : d = 0
  · rw [if_pos h, emod_is (c := r - 1) (q := q - 1) (r := r) ?_ (by omega) (by omega)]
    · omega
    · rw [Int.mul_sub, Int.mul_one]
      omega
  · rw [if_neg h, emod_is (c := d - 1) (q := q) (r := r) (by omega) (by omega) (by omega)]
    omega
theorem gap_eq {r : Int} (a : Int) : (a - a % r) / r * r = a - a % r := by
  refine Int.ediv_mul_cancel ⟨a / r, ?_⟩
  have e := Int.emod_add_mul_ediv a r
  omega
/-- a list of seats of the ring, each once -/
structure Seats (ns : List Int) (r : Int) : Prop where
  nd : ns.Nodup
  lo : ∀ x ∈ ns, 0 ≤ x
  hi : ∀ x ∈ ns, x < r
theorem seqIx_lt {d : Int} {n : Nat} (h0 : 0 ≤ d) (h1 : d < n) : seqIndex? d n = some d.toNat := by
  refine (ixN_seq (n := n) (i := d) (j := d.toNat) ?_).1
  unfold ixN
  rw [if_pos h0, if_pos h1]
theorem map_erase (f : Int → V) : ∀ (l : List Int) (i : Nat), (l.map f).eraseIdx i = (l.eraseIdx i).map f
  | [], _ => rfl
  | _ :: _, 0 => rfl
  | a :: l, i + 1 => congrArg (List.cons (f a)) (map_erase f l i)
theorem erase_perm : ∀ {l : List Int} {i : Nat} {y : Int}, l[i]? = some y → (y :: l.eraseIdx i).Perm l
  | [], i, y, h => by simp at h
  | a :: l, 0, y, h => by
    cases h
    exact List.Perm.refl _
  | a :: l, i + 1, y, h => by
    have h' : l[i]? = some y := h
    exact (List.Perm.swap a y _).trans ((erase_perm h').cons a)
theorem nodup_move {hs ps : List Int} {i : Nat} {y : Int} (h : (hs ++ ps).Nodup) (e : ps[i]? = some y) : ((hs ++ [y]) ++ ps.eraseIdx i).Nodup := by
  have p1 := erase_perm e
  rw [List.append_assoc]
  exact (List.Perm.append_left hs p1).symm.nodup h
theorem mem_move {hs ps : List Int} {i : Nat} {y x : Int} (e : ps[i]? = some y) (h : x ∈ (hs ++ [y]) ++ ps.eraseIdx i) : x ∈ hs ++ ps := by
  have p1 := erase_perm e
  rw [List.append_assoc] at h
  exact (List.Perm.append_left hs p1).mem_iff.mp h

theorem nodup_len : ∀ (n : Nat) (l : List Nat), l.Nodup → (∀ x ∈ l, x < n) → l.length ≤ n
  | 0, [], _, _ => Nat.le_refl _
  | 0, a :: l, _, h => absurd (h a (.head _)) (Nat.not_lt_zero _)
  | n + 1, l, nd, h => by
    by_cases m : n ∈ l
    · have z := nodup_len n (l.erase n) (nd.erase n) fun x hx => by
        have q := (nd.mem_erase_iff).mp hx
        have := h x q.2
        have := q.1
        omega
      rw [List.length_erase_of_mem m] at z
      omega
    · refine Nat.le_succ_of_le (nodup_len n l nd fun x hx => ?_)
      have := h x hx
      have : x ≠ n := fun e => m (e ▸ hx)
      omega
theorem seats_len {ns : List Int} {r : Int} (h : Seats ns r) (hr : 0 ≤ r) : ns.length ≤ r.toNat := by
  have sub : (ns.map Int.toNat).Nodup := by
    unfold List.Nodup
    rw [List.pairwise_map]
    refine List.Pairwise.imp_of_mem (fun {a b} ha hb hab e => hab ?_) h.nd
    have := h.lo a ha
    have := h.lo b hb
    omega
  have hs : (ns.map Int.toNat).Subset (List.range r.toNat) := by
    intro x hx
    obtain ⟨a, ha, rfl⟩ := List.mem_map.mp hx
    have := h.lo a ha
    have := h.hi a ha
    exact List.mem_range.mpr (by omega)
  have z := nodup_len r.toNat _ sub fun x hx => List.mem_range.mp (hs hx)
  rw [List.length_map] at z
  exact z


def ringN (n : Nat) : Int := ((2 ^ n : Nat) : Int)
theorem ring_pos (n : Nat) : 0 < ringN n := by
  unfold ringN
  have := Nat.two_pow_pos n
  omega
theorem ring_two {n : Nat} (h : 1 ≤ n) : 2 ≤ ringN n := by
  unfold ringN
  have : (2 : Nat) ^ 1 ≤ 2 ^ n := Nat.pow_le_pow_right (by decide) h
  omega
theorem ringN_le {n : Nat} (h : n ≤ 8) : ringN n ≤ 256 := by
  unfold ringN
  have : 2 ^ n ≤ 2 ^ 8 := Nat.pow_le_pow_right (by decide) h
  omega
theorem ringN_succ (i : Nat) : ringN i * 2 = ringN (i + 1) := by
  unfold ringN
  rw [Nat.pow_succ]
  omega
theorem ring_lt {n : Nat} (h : n ≤ 8) : ringN n < 2 ^ 2000 := Int.lt_of_le_of_lt (ringN_le h) (by decide +kernel)
theorem shl_eq (n : Nat) : (1 : Int) * 2 ^ ((n : Int)).toNat = ringN n := by
  unfold ringN
  rw [Int.toNat_natCast, Int.one_mul]
  simp
theorem rg_int (r : Int) : rgV 0 r = ((List.range r.toNat).map fun i => ((i : Nat) : Int)).map V.int := by
  unfold rgV
  rw [List.map_map, show (r - 0).toNat = r.toNat by rw [Int.sub_zero]]
  refine List.map_congr_left fun i _ => ?_
  show V.int (0 + (i : Nat)) = V.int ((i : Nat) : Int)
  rw [Int.zero_add]
end UF

set_option Elab.async false
set_option maxRecDepth 100000
set_option maxHeartbeats 4000000
/-! lists of whole numbers as data; slices; lists by filters -/
namespace UF
open PySem PySem.Spec PyProof.Rows L2
theorem dpList {K : PySem.W.Frag} {H : Hp} {a : Addr} {ns : List Int} (h : SqL K H a (ns.map V.int)) : Dp K H (.ref a) (.list (ns.map PyData.int)) := by
  refine .lst h ?_
  clear h
  induction ns with
  | nil => exact .nil
  | cons n ns ih => exact .cons (.int n) ih
theorem lay_ints : ∀ ns : List Int, PyData.canLayAll0 (ns.map PyData.int) = true
  | [] => by simp [PyData.canLayAll0]
  | n :: ns => by
    rw [List.map_cons, PyData.canLayAll0, lay_ints ns]
    simp [PyData.canLay0]
theorem dep_ints : ∀ ns : List Int, PyData.depthAll (ns.map PyData.int) = 0
  | [] => by simp [PyData.depthAll]
  | n :: ns => by
    rw [List.map_cons, PyData.depthAll, dep_ints ns]
    simp [PyData.depth]
theorem can_list (ns : List Int) : (PyData.list (ns.map PyData.int)).canLay0 = true := by
  rw [PyData.canLay0]
  exact lay_ints ns
theorem shaped_list (ns : List Int) : SeqAt.shaped (.list (ns.map PyData.int)) = true := by
  unfold SeqAt.shaped
  rw [can_list, PyData.depth, dep_ints]
  rfl
theorem eqv_list (ns : List Int) : PyData.eqv (.list (ns.map PyData.int)) (.list (ns.map PyData.int)) = true := SeqAt.eqv_refl _ (can_list ns)
theorem eqvAll_ints : ∀ xs ys : List Int, PyData.eqvAll (xs.map PyData.int) (ys.map PyData.int) = decide (xs = ys)
  | [], [] => by simp [PyData.eqvAll]
  | [], _ :: _ => by simp [PyData.eqvAll]
  | _ :: _, [] => by simp [PyData.eqvAll]
  | x :: xs, y :: ys => by
    rw [List.map_cons, List.map_cons, PyData.eqvAll, eqvAll_ints xs ys, PyData.eqv]
    by_cases h : x = y
    · subst h; simp
    · simp [h]
theorem eqv_ints (xs ys : List Int) : PyData.eqv (.list (xs.map PyData.int)) (.list (ys.map PyData.int)) = decide (xs = ys) := by
  rw [PyData.eqv]
  exact eqvAll_ints xs ys
theorem cut_to {xs : List V} {k : Int} (h : 0 ≤ k) : cutV xs none (some k) = xs.take k.toNat := by
  obtain ⟨j, rfl⟩ := Int.eq_ofNat_of_zero_le h
  unfold cutV
  rw [HT.sIx_nat, HT.sIx_none, List.drop_zero, Int.toNat_natCast, Nat.sub_zero]
  by_cases q : j ≤ xs.length
  · rw [Nat.min_eq_left q]
  · rw [Nat.min_eq_right (by omega), List.take_of_length_le (Nat.le_refl _), List.take_of_length_le (by omega)]
theorem cut_from {xs : List V} {k : Int} (h : 0 ≤ k) : cutV xs (some k) none = xs.drop k.toNat := by
  obtain ⟨j, rfl⟩ := Int.eq_ofNat_of_zero_le h
  unfold cutV
  rw [HT.sIx_nat, HT.sIx_none, Int.toNat_natCast]
  by_cases q : j ≤ xs.length
  · rw [Nat.min_eq_left q]
    exact List.take_of_length_le (by rw [List.length_drop]; exact Nat.le_refl _)
  · rw [Nat.min_eq_right (by omega), List.drop_of_length_le (Nat.le_refl _), List.drop_of_length_le (by omega)]
    exact List.take_nil
theorem take_snoc {α : Type} {xs : List α} {i : Nat} {z : α} (e : xs[i]? = some z) : xs.take (i + 1) = xs.take i ++ [z] := by rw [List.take_add_one, e]; rfl
theorem map_get {α : Type} {f : α → V} {xs : List α} {i : Nat} {v : V} (h : (xs.map f)[i]? = some v) : ∃ z, xs[i]? = some z ∧ v = f z := by
  rw [List.getElem?_map] at h
  cases e : xs[i]? with
  | none => rw [e] at h; cases h
  | some z => rw [e] at h; cases h; exact ⟨z, rfl, rfl⟩
theorem map_getE {xs : List Int} {i : Nat} {v : V} (h : (xs.map V.int)[i]? = some v) : ∃ z, xs[i]? = some z ∧ v = .int z := map_get h
theorem flat_ints : ∀ xs : List Int, (xs.map V.int).all flatV = true
  | [] => rfl
  | _ :: xs => by rw [List.map_cons, List.all_cons, flat_ints xs]; rfl
theorem inV_ints (x : Int) : ∀ xs : List Int, inV (.int x) (xs.map V.int) = decide (x ∈ xs)
  | [] => by simp [inV]
  | y :: xs => by
    have ih := inV_ints x xs
    unfold inV at ih ⊢
    rw [List.map_cons, List.any_cons, ih]
    by_cases h : x = y
    · subst h
      have : eqV (V.int x) (V.int x) = true := by simp [eqV]
      simp [this]
    · have : eqV (V.int y) (V.int x) = false := by simp [eqV]; omega
      simp [this, h]
end UF

set_option Elab.async false
set_option maxRecDepth 100000
set_option maxHeartbeats 4000000
set_option exponentiation.threshold 4096
/-! the purse of draws (a dict of seven) -/
namespace UF
open PySem PySem.Spec PyProof.Rows L2 C8
/-! ### the purse -/
def pv7 (c : Addr) (a r l m s n : Int) : List (Key × V) := [(.inr "cells", .ref c), (.inr "at", .int a), (.inr "rest", .int r), (.inr "left", .int l), (.inr "mixed", .int m), (.inr "seed", .int s), (.inr "count", .int n)]
structure PuV (H : Hp) (p c : Addr) (cells : List Int) (a r l m s n : Int) : Prop where
  hp : H p = some (.dK (pv7 c a r l m s n))
  hc : H c = some (.lst (cells.map V.int))
theorem PuV.ne {H : Hp} {p c : Addr} {cells : List Int} {a r l m s n : Int} (B : PuV H p c cells a r l m s n) : c ≠ p := by
  intro e
  have h := B.hc
  rw [e, B.hp] at h
  cases h
theorem PuV.set {H : Hp} {p c : Addr} {cells : List Int} {a r l m s n : Int} (B : PuV H p c cells a r l m s n) (a' r' l' m' s' n' : Int) : PuV (upd H p (.dK (pv7 c a' r' l' m' s' n'))) p c cells a' r' l' m' s' n' :=
  ⟨upd_same, by rw [upd_ne B.ne]; exact B.hc⟩
/-- the purse, between two draws -/
def Purse (H : Hp) (p c : Addr) : Prop := ∃ (cells : List Int) (a r l m s n : Int), PuV H p c cells a r l m s n ∧ 0 ≤ a
section
variable {H : Hp} {p c : Addr} {cells : List Int} {a r l m s n : Int}
theorem PuV.g_cells (B : PuV H p c cells a r l m s n) : DGet H p (.str "cells") (some (.ref c)) := by
  have h := DGet.k (k := Sum.inr "cells") B.hp
  rw [show valV (pv7 c a r l m s n) (Sum.inr "cells") = some (.ref c) by kernel_rfl] at h
  exact h
theorem PuV.g_at (B : PuV H p c cells a r l m s n) : DGet H p (.str "at") (some (.int a)) := by
  have h := DGet.k (k := Sum.inr "at") B.hp
  rw [show valV (pv7 c a r l m s n) (Sum.inr "at") = some (.int a) by kernel_rfl] at h
  exact h
theorem PuV.p_at (B : PuV H p c cells a r l m s n) (z : Int) : DPut H p (.str "at") (.int z) (upd H p (.dK (pv7 c z r l m s n))) := by
  have h := DPut.k (k := Sum.inr "at") (v := .int z) B.hp (by show 7 < sizeLine; decide)
  rw [show putK (pv7 c a r l m s n) (Sum.inr "at") (.int z) = pv7 c z r l m s n by kernel_rfl] at h
  exact h
theorem PuV.g_rest (B : PuV H p c cells a r l m s n) : DGet H p (.str "rest") (some (.int r)) := by
  have h := DGet.k (k := Sum.inr "rest") B.hp
  rw [show valV (pv7 c a r l m s n) (Sum.inr "rest") = some (.int r) by kernel_rfl] at h
  exact h
theorem PuV.p_rest (B : PuV H p c cells a r l m s n) (z : Int) : DPut H p (.str "rest") (.int z) (upd H p (.dK (pv7 c a z l m s n))) := by
  have h := DPut.k (k := Sum.inr "rest") (v := .int z) B.hp (by show 7 < sizeLine; decide)
  rw [show putK (pv7 c a r l m s n) (Sum.inr "rest") (.int z) = pv7 c a z l m s n by kernel_rfl] at h
  exact h
theorem PuV.g_left (B : PuV H p c cells a r l m s n) : DGet H p (.str "left") (some (.int l)) := by
  have h := DGet.k (k := Sum.inr "left") B.hp
  rw [show valV (pv7 c a r l m s n) (Sum.inr "left") = some (.int l) by kernel_rfl] at h
  exact h
theorem PuV.p_left (B : PuV H p c cells a r l m s n) (z : Int) : DPut H p (.str "left") (.int z) (upd H p (.dK (pv7 c a r z m s n))) := by
  have h := DPut.k (k := Sum.inr "left") (v := .int z) B.hp (by show 7 < sizeLine; decide)
  rw [show putK (pv7 c a r l m s n) (Sum.inr "left") (.int z) = pv7 c a r z m s n by kernel_rfl] at h
  exact h
theorem PuV.g_mixed (B : PuV H p c cells a r l m s n) : DGet H p (.str "mixed") (some (.int m)) := by
  have h := DGet.k (k := Sum.inr "mixed") B.hp
  rw [show valV (pv7 c a r l m s n) (Sum.inr "mixed") = some (.int m) by kernel_rfl] at h
  exact h
theorem PuV.p_mixed (B : PuV H p c cells a r l m s n) (z : Int) : DPut H p (.str "mixed") (.int z) (upd H p (.dK (pv7 c a r l z s n))) := by
  have h := DPut.k (k := Sum.inr "mixed") (v := .int z) B.hp (by show 7 < sizeLine; decide)
  rw [show putK (pv7 c a r l m s n) (Sum.inr "mixed") (.int z) = pv7 c a r l z s n by kernel_rfl] at h
  exact h
theorem PuV.g_seed (B : PuV H p c cells a r l m s n) : DGet H p (.str "seed") (some (.int s)) := by
  have h := DGet.k (k := Sum.inr "seed") B.hp
  rw [show valV (pv7 c a r l m s n) (Sum.inr "seed") = some (.int s) by kernel_rfl] at h
  exact h
theorem PuV.p_seed (B : PuV H p c cells a r l m s n) (z : Int) : DPut H p (.str "seed") (.int z) (upd H p (.dK (pv7 c a r l m z n))) := by
  have h := DPut.k (k := Sum.inr "seed") (v := .int z) B.hp (by show 7 < sizeLine; decide)
  rw [show putK (pv7 c a r l m s n) (Sum.inr "seed") (.int z) = pv7 c a r l m z n by kernel_rfl] at h
  exact h
theorem PuV.g_count (B : PuV H p c cells a r l m s n) : DGet H p (.str "count") (some (.int n)) := by
  have h := DGet.k (k := Sum.inr "count") B.hp
  rw [show valV (pv7 c a r l m s n) (Sum.inr "count") = some (.int n) by kernel_rfl] at h
  exact h
theorem PuV.p_count (B : PuV H p c cells a r l m s n) (z : Int) : DPut H p (.str "count") (.int z) (upd H p (.dK (pv7 c a r l m s z))) := by
  have h := DPut.k (k := Sum.inr "count") (v := .int z) B.hp (by show 7 < sizeLine; decide)
  rw [show putK (pv7 c a r l m s n) (Sum.inr "count") (.int z) = pv7 c a r l m s z by kernel_rfl] at h
  exact h
end


section
variable {H H' : Hp} {p c : Addr} {cells : List Int} {a r l m s n : Int} {ds : List Addr}
theorem PuV.pl (B : PuV H p c cells a r l m s n) : Pl H p := .dK B.hp
theorem PuV.fr (B : PuV H p c cells a r l m s n) (x : Fr ds H H') (n1 : p ∉ ds) (n2 : c ∉ ds) : PuV H' p c cells a r l m s n := ⟨x.dK B.hp n1, x.lst B.hc n2⟩
theorem Purse.fr (B : Purse H p c) (x : Fr ds H H') (n1 : p ∉ ds) (n2 : c ∉ ds) : Purse H' p c := by
  obtain ⟨cells, a, r, l, m, s, n, B, h⟩ := B
  exact ⟨cells, a, r, l, m, s, n, B.fr x n1 n2, h⟩
theorem Purse.new (B : Purse H p c) {q : Addr} (z : H q = none) (o : HO) : Purse (upd H q o) p c := B.fr (Fr.new0 (ds := []) z o) not_nil not_nil
theorem Purse.at_ (B : Purse H p c) : ∃ o, H p = some o := by
  obtain ⟨cells, a, r, l, m, s, n, B, h⟩ := B
  exact ⟨_, B.hp⟩
theorem Purse.in_ (B : Purse H p c) : ∃ o, H c = some o := by
  obtain ⟨cells, a, r, l, m, s, n, B, h⟩ := B
  exact ⟨_, B.hc⟩
theorem Purse.nw_ne (B : Purse H p c) {q : Addr} (n : Nw H q) : q ≠ p ∧ q ≠ c := by
  obtain ⟨cells, a, r, l, m, s, k, B, h⟩ := B
  exact ⟨(ne_nw B.hp n).symm, (ne_nw B.hc n).symm⟩
theorem Purse.off (B : Purse H p c) {q : Addr} (n1 : q ≠ p) (n2 : q ≠ c) (o : HO) : Purse (upd H q o) p c := by
  obtain ⟨cells, a, r, l, m, s, n, B, h⟩ := B
  exact ⟨cells, a, r, l, m, s, n, ⟨by rw [upd_ne n1.symm]; exact B.hp, by rw [upd_ne n2.symm]; exact B.hc⟩, h⟩
end
def spMixed : Sp := fun vs H Q _ => ∃ a t : Int, vs = [.int a, .int t] ∧ ∀ m : Int, Q (.int m) H
def spDrawP : Sp := fun vs H Q _ => ∃ (p c : Addr) (m : Int), vs = [.ref p, .int m] ∧ Purse H p c ∧ 0 < m ∧ m < 2 ^ 2000 ∧ ∀ (d : Int) (H' : Hp), 0 ≤ d → d < m → Purse H' p c → Fr [p] H H' → Q (.int d) H'
def spPurse (K : PySem.W.Frag) : Sp := fun vs H Q _ => ∃ (a : Addr) (ns : List Int), vs = [.ref a] ∧ SqL K H a (ns.map V.int) ∧ ∀ (p c : Addr) (H' : Hp), Nw H p → Nw H c → Purse H' p c → Fr [] H H' → Q (.ref p) H'
theorem cut_map (ns : List Int) (lo hi : Option Int) : ∃ ms : List Int, cutV (ns.map V.int) lo hi = ms.map V.int ∧ ms.length ≤ ns.length := by
  refine ⟨((ns.drop (HT.sIx ns.length 0 lo)).take (HT.sIx ns.length ns.length hi - HT.sIx ns.length 0 lo)), ?_, ?_⟩
  · unfold cutV
    rw [List.length_map, List.map_take, List.map_drop]
  · rw [List.length_take, List.length_drop]
    omega
end UF

set_option Elab.async false
set_option maxRecDepth 100000
set_option maxHeartbeats 4000000
/-! papers: lists of lines of pairs; who knows behind them -/
namespace UF
open PySem PySem.Spec PyProof.Rows L2 C8
/-- a dict comprehension over a walk -/
theorem dc_it {J : It} {n : Nat} {G : Hp → Prop} {Y : Nat → Hp → V → Hp → Prop} (w : Walk J n G Y) {g : TG} {tt : TT} {tk tv : TE} {vs : List Nat} {σ : L2.St} {H1 : Hp} {D : Addr} {Qd : Hp → Prop} (Pv : Nat → Hp → Prop) (h0 : Pv 0 (upd H1 D (.dK []))) (hG : ∀ i H, i ≤ n → Pv i H → G H)
    (hs : ∀ i x H H', i < n → Pv i H → Y i H x H' → g x (wipe σ vs) H' fun σ2 H2 => wipe σ2 vs = wipe σ vs ∧ tt σ2 H2 fun b H3 =>
      if b = true then tk σ2 H3 fun y H4 => tv σ2 H4 fun z H5 => ∃ kvs k, y = kV k ∧ H5 D = some (.dK kvs) ∧ kvs.length < sizeLine ∧ Pv (i + 1) (upd H5 D (.dK (putK kvs k z))) else Pv (i + 1) H3) (hd : ∀ H, Pv n H → Qd H) :
    ∃ W : Nat → Nat → Hp → Prop, (∃ m, W 0 m (upd H1 D (.dK []))) ∧ ∀ i m H, W i m H →
      (J.stop i H ∧ Qd H) ∨ (J.go i H ∧ ∃ Nx : Hp → Prop, (∀ H', Nx H' → ∃ m', m' < m ∧ W (i + 1) m' H') ∧ ∀ x H', J.yld i H x H' → g x (wipe σ vs) H' fun σ2 H2 => wipe σ2 vs = wipe σ vs ∧ tt σ2 H2 fun b H3 =>
        if b = true then tk σ2 H3 fun y H4 => tv σ2 H4 fun z H5 => ∃ kvs k, y = kV k ∧ H5 D = some (.dK kvs) ∧ kvs.length < sizeLine ∧ Nx (upd H5 D (.dK (putK kvs k z))) else Nx H3) := by
  refine ⟨fun i m H => m = n - i ∧ i ≤ n ∧ Pv i H, ⟨n, by simp, Nat.zero_le _, h0⟩, fun i m H q => ?_⟩
  obtain ⟨rfl, hi, p⟩ := q
  by_cases hlt : i < n
  · exact .inr ⟨w.goes i H hlt (hG i H hi p), Pv (i + 1), fun H' p' => ⟨n - (i + 1), by omega, rfl, hlt, p'⟩, fun x H' y => hs i x H H' hlt p (w.yields i H x H' hlt (hG i H hi p) y)⟩
  · have e : i = n := by omega
    subst e
    exact .inl ⟨w.stops H (hG _ H hi p), hd H p⟩
section
variable {α β : Type} {F G : α → β → Prop}
theorem pd_get {xs : List α} {ys : List β} (p : Paired F xs ys) : ∀ {j : Nat} {x : α}, xs[j]? = some x → ∃ y, ys[j]? = some y ∧ F x y := by
  induction p with
  | nil => intro j x h; simp at h
  | cons h t ih =>
    intro j x e
    cases j with
    | zero => cases e; exact ⟨_, rfl, h⟩
    | succ j => exact ih e
theorem pd_of {xs : List α} {ys : List β} : xs.length = ys.length → (∀ (j : Nat) (x : α) (y : β), xs[j]? = some x → ys[j]? = some y → F x y) → Paired F xs ys := by
  induction xs generalizing ys with
  | nil => intro h _; cases ys with
    | nil => exact .nil
    | cons _ _ => simp at h
  | cons x xs ih => intro h k; cases ys with
    | nil => simp at h
    | cons y ys => exact .cons (k 0 x y rfl rfl) (ih (by simpa using h) fun j a b e1 e2 => k (j + 1) a b e1 e2)
theorem pd_mem {xs : List α} {ys : List β} (p : Paired F xs ys) (h : ∀ x y, x ∈ xs → F x y → G x y) : Paired G xs ys := by
  induction p with
  | nil => exact .nil
  | cons q t ih => exact .cons (h _ _ (.head _) q) (ih fun x y m => h x y (.tail _ m))
end
/-! ### on the heap -/
def PairO (H : Hp) (t : Addr) (p : Int × Int) : Prop := H t = some (.tup [.int p.1, .int p.2])
def LineO (H : Hp) (l : Addr) (ps : List (Int × Int)) : Prop := ∃ ts : List Addr, H l = some (.lst (ts.map V.ref)) ∧ Paired (PairO H) ts ps
def PapO (H : Hp) (q : Addr) (pp : List (List (Int × Int))) : Prop := ∃ ls : List Addr, H q = some (.lst (ls.map V.ref)) ∧ Paired (LineO H) ls pp
/-- neither lists nor tuples stand at ds -/
def Nlt (H : Hp) (ds : List Addr) : Prop := ∀ a ∈ ds, (∀ xs, H a ≠ some (.lst xs)) ∧ ∀ xs, H a ≠ some (.tup xs)
theorem Nlt.nil {H : Hp} : Nlt H [] := fun _ m => nomatch m
theorem Purse.nlt {H : Hp} {p c : Addr} (B : Purse H p c) : Nlt H [p] := fun a m => by
  obtain ⟨cells, x, r, l, mx, s, n, B, _⟩ := B
  rw [List.mem_singleton.mp m, B.hp]
  exact ⟨(fun xs e => nomatch e), (fun xs e => nomatch e)⟩
section
variable {H H' : Hp} {ds : List Addr} {l q t : Addr} {ps : List (Int × Int)} {pp : List (List (Int × Int))} {p : Int × Int}
theorem PairO.fr (h : PairO H t p) (x : Fr ds H H') (n : Nlt H ds) : PairO H' t p := x.tup h fun m => (n t m).2 _ h
theorem LineO.fr (h : LineO H l ps) (x : Fr ds H H') (n : Nlt H ds) : LineO H' l ps := by
  obtain ⟨ts, e, p⟩ := h
  exact ⟨ts, x.lst e fun m => (n l m).1 _ e, Paired.mono (fun _ _ z => PairO.fr z x n) p⟩
theorem PapO.fr (h : PapO H q pp) (x : Fr ds H H') (n : Nlt H ds) : PapO H' q pp := by
  obtain ⟨ls, e, p⟩ := h
  exact ⟨ls, x.lst e fun m => (n q m).1 _ e, Paired.mono (fun _ _ z => LineO.fr z x n) p⟩
end
/-! ### who knows -/
def dkv (ks : List Int) : List (Key × V) := ks.map fun x => (.inl x, .bl true)
def addK (ks : List Int) (x : Int) : List Int := if x ∈ ks then ks else ks ++ [x]
theorem dk_val (x : Int) : ∀ ks : List Int, valV (dkv ks) (.inl x) = if x ∈ ks then some (.bl true) else none
  | [] => rfl
  | k :: ks => by
    have ih := dk_val x ks
    by_cases e : k = x
    · subst e
      rw [if_pos (.head _)]
      exact valV_pos rfl
    · have e' : ¬ (Sum.inl k : Key) = .inl x := fun z => e (Sum.inl.inj z)
      show valV ((.inl k, .bl true) :: dkv ks) (.inl x) = _
      rw [valV_neg (p := (Sum.inl k, V.bl true)) e', ih]
      by_cases m : x ∈ ks
      · rw [if_pos m, if_pos (.tail _ m)]
      · rw [if_neg m, if_neg fun z => (List.mem_cons.mp z).elim (fun y => e y.symm) m]
theorem dk_put (x : Int) (ks : List Int) : putK (dkv ks) (.inl x) (.bl true) = dkv (addK ks x) := by
  unfold putK addK
  rw [valV_any, dk_val]
  by_cases m : x ∈ ks
  · rw [if_pos m, if_pos m]
    simp only [Option.isSome_some, if_true]
    unfold dkv
    rw [List.map_map]
    refine List.map_congr_left fun k _ => ?_
    show (if (Sum.inl k : Key) = .inl x then ((Sum.inl k : Key), V.bl true) else (.inl k, .bl true)) = (.inl k, .bl true)
    split <;> rfl
  · rw [if_neg m, if_neg m]
    unfold dkv
    rw [List.map_append]
    rfl
theorem dk_len (ks : List Int) : (dkv ks).length = ks.length := List.length_map ..
def DkO (H : Hp) (D : Addr) (ks : List Int) : Prop := H D = some (.dK (dkv ks))
theorem DkO.get {H : Hp} {D : Addr} {ks : List Int} (h : DkO H D ks) (x : Int) : DGet H D (.int x) (if x ∈ ks then some (.bl true) else none) := by
  have g := DGet.k (k := Sum.inl x) h
  rw [dk_val] at g
  exact g
theorem isS {b : Prop} [Decidable b] {v : V} : (if b then some v else none).isSome = decide b := by
  by_cases h : b <;> simp [h]
theorem DkO.put {H : Hp} {D : Addr} {ks : List Int} (h : DkO H D ks) (x : Int) (l : ks.length ≤ 10000000) : DPut H D (.int x) (.bl true) (upd H D (.dK (dkv (addK ks x)))) := by
  have g := DPut.k (k := Sum.inl x) (v := .bl true) h (by rw [dk_len]; exact Nat.lt_of_le_of_lt l (by decide))
  rw [dk_put] at g
  exact g
theorem addK_len (ks : List Int) (x : Int) : (addK ks x).length ≤ ks.length + 1 := by
  unfold addK
  split
  · omega
  · rw [List.length_append]; exact Nat.le_refl _
theorem mem_addK {ks : List Int} {x y : Int} : y ∈ addK ks x ↔ y ∈ ks ∨ y = x := by
  unfold addK
  by_cases m : x ∈ ks
  · rw [if_pos m]
    exact ⟨.inl, fun h => h.elim id fun e => e ▸ m⟩
  · rw [if_neg m, List.mem_append, List.mem_singleton]
/-- is a line a round -/
def roundF (kn mem : List Int) : List (Int × Int) → List Int → Bool
  | [], _ => true
  | p :: r, cs => if p.1 ∈ kn ∧ p.1 ∉ cs ∧ p.2 ∈ mem ∧ p.2 ≠ p.1 then roundF kn mem r (addK cs p.1) else false
/-- those who know behind a line -/
def learnF (kn : List Int) (l : List (Int × Int)) : List Int := l.foldl (fun k p => addK k p.2) kn
/-- the first line that is no round, or those who know at the end -/
def walkF (mem : List Int) : List (List (Int × Int)) → List Int → Nat → Nat ⊕ List Int
  | [], kn, _ => .inr kn
  | l :: r, kn, i => if roundF kn mem l [] = true then walkF mem r (learnF kn l) (i + 1) else .inl i
def totalF (pp : List (List (Int × Int))) : Int := (pp.map fun l => (l.length : Int)).sum
theorem learn_snoc {kn : List Int} {l : List (Int × Int)} {p : Int × Int} : learnF kn (l ++ [p]) = addK (learnF kn l) p.2 := by
  unfold learnF
  rw [List.foldl_append]
  rfl
theorem learn_len : ∀ (l : List (Int × Int)) (kn : List Int), (learnF kn l).length ≤ kn.length + l.length
  | [], kn => Nat.le_refl _
  | p :: l, kn => by
    have := learn_len l (addK kn p.2)
    have := addK_len kn p.2
    show (learnF (addK kn p.2) l).length ≤ _
    rw [List.length_cons]
    omega
theorem learn_mem {y : Int} : ∀ (l : List (Int × Int)) (kn : List Int), y ∈ learnF kn l → y ∈ kn ∨ ∃ p ∈ l, y = p.2
  | [], kn, h => .inl h
  | p :: l, kn, h => by
    rcases learn_mem l (addK kn p.2) h with h | ⟨r, m, e⟩
    · rcases mem_addK.mp h with h | h
      · exact .inl h
      · exact .inr ⟨p, .head _, h⟩
    · exact .inr ⟨r, .tail _ m, e⟩
theorem round_mem {kn mem : List Int} : ∀ {l : List (Int × Int)} {cs : List Int}, roundF kn mem l cs = true → ∀ p ∈ l, p.2 ∈ mem
  | [], _, _, p, m => nomatch m
  | q :: l, cs, h, p, m => by
    unfold roundF at h
    split at h
    · rename_i c
      rcases List.mem_cons.mp m with e | m
      · rw [e]; exact c.2.2.1
      · exact round_mem h p m
    · cases h
theorem total_snoc {pp : List (List (Int × Int))} {l : List (Int × Int)} : totalF (pp ++ [l]) = totalF pp + (l.length : Int) := by
  unfold totalF
  rw [List.map_append, List.sum_append]
  simp
theorem take_at {α : Type} {xs : List α} {i : Nat} {z : α} (e : xs[i]? = some z) : xs.drop i = z :: xs.drop (i + 1) := by
  obtain ⟨h, rfl⟩ := List.getElem?_eq_some_iff.mp e
  exact List.drop_eq_getElem_cons h
end UF

set_option Elab.async false
set_option maxRecDepth 100000
set_option maxHeartbeats 4000000
/-! y = {k: v for ..} on one line, y a local -/
namespace UF
open PySem PySem.Spec PyProof.Rows L2
/-- len of a list or tuple, K written out -/
abbrev rLn (K : PySem.W.Frag) : List V → Hp → VK → Prop := fun xs H Q => ∃ p ys, xs = [V.ref p] ∧ (SqL K H p ys ∨ SqT K H p ys) ∧ Q (.int ys.length) H
variable {X : Cx}
theorem ps_setDc {i : Nat} {y : Str} {py : Pos} {kx vx tg iter : Expr} {ifs : List Expr} {scope : Scope} {own : List (Str × Nat)} {pos spos : Pos} {wi : TI} {g : TG} {tt : TT} {tk tv : TE} (hc : X.calm = true) (hN : X.N.Nodup) (hy : X.N[i]? = some y) (hyl : X.env.scope.names.lookup y = some .local)
    (hsw : swapsWith (.DictComp kx vx [⟨tg, iter, ifs, 0⟩] scope pos) (some (.Name y py)) spos.line X.env = pure true) (hi : PI X tg iter wi) (ok : BlkOk X.N X.env.scope scope own)
    (hg : ∀ s H C cl fp, PG (X.blk s H scope (compEnvC scope cl C X.env) fp) tg g) (ht : ∀ s H C cl fp, PTs (X.blk s H scope (compEnvC scope cl C X.env) fp) ifs tt)
    (hk : ∀ s H C cl fp, PE (X.blk s H scope (compEnvC scope cl C X.env) fp) kx tk) (he : ∀ s H C cl fp, PE (X.blk s H scope (compEnvC scope cl C X.env) fp) vx tv) (hs : ∀ x, foldedSetIterable iter X.env x = pure x := by intro _; rfl) :
    PS X (.Assign [.Name y py] (.DictComp kx vx [⟨tg, iter, ifs, 0⟩] scope pos) spos) (tAsg (tDc wi g tt tk tv (own.map (·.2))) (gName i)) := by
  refine ⟨fun pins s σ H D I h => ?_⟩; rw [exec_Assign_Name_used _ _ _ _ hsw]
  refine wpAny_bind (wpAny_standAt (wpAny_bind ?_))
  show wpAny _ X.A (do let _ ← comprehension (.DictComp kx vx [⟨tg, iter, ifs, 0⟩] scope pos) scope X.env (firstIterPos [⟨tg, iter, ifs, 0⟩] pos) newDict false (eval iter X.env) (some (assign (.Name y py) X.env))) _ _ s
  have h : tDc wi g tt tk tv (own.map (·.2)) σ H (fun x H1 => gName i x σ H1 D.nx) := h
  refine wpAny_bind (thn (dc_core (Qf := fun _ s' => SP X pins D .next s') hc hN I hi ok hg ht hk he hs h fun L C s' m H' I' q hn f => ?_) fun _ s' hq => wpAny_pure (wpAny_pure hq))
  show wpAny _ _ (assign (.Name y py) X.env (.ref L)) _ _ _
  refine wpAny_assign_Name (store_ok2 (v := V.ref L) I' hN hy (.inl hyl) rfl (fun s2 I2 ha => ?_) (.inr hyl))
  have haC : C ≠ ha.choose := ha.choose_spec.2.elim (fun z => by rw [z]; exact f.2.1) fun z e => f.2.2.2.2.1 y _ z e.symm
  exact ⟨m, hn.sameBut ha.choose_spec.1 haC, fun h3 sb3 => ⟨_, H', I2.turned (t' := s2.toks) (fun b o hb e => (sb3.2 b hb).trans e) f.1 f.2.1 f.2.2.2.1 f.2.2.2.2.1 f.2.2.2.2.2, q⟩⟩
theorem sw_dc {kx vx : Expr} {gs : List Comprehension} {scope : Scope} {pos py : Pos} {y : Str} {l : Nat} {env : Env} (hk : env.scope.kind = .function) (hy : env.scope.names.lookup y = some .local) (hl : (py.line == pos.line) = true)
    (ha : (scope.names.any fun (n, k) => n == y && (k == .local || k == .cell)) = false) : swapsWith (.DictComp kx vx gs scope pos) (some (.Name y py)) l env = pure true := by
  have z1 : env.kindOf y = some .local := hy
  have z2 : env.blockKind = .function := (by unfold Env.blockKind; rw [hk]; rfl)
  unfold swapsWith; simp only [z2, z1, ha, Expr.pos, hl]; rfl
end UF

set_option Elab.async false
set_option maxRecDepth 100000
set_option maxHeartbeats 4000000
/-! papers that are being written -/
namespace UF
open PySem PySem.Spec PyProof.Rows L2 C8
structure Lw (H : Hp) (l : Addr) (ts : List Addr) (ps : List (Int × Int)) : Prop where
  hl : H l = some (.lst (ts.map V.ref))
  pl : Paired (PairO H) ts ps
structure Pw (H : Hp) (q : Addr) (ls : List Addr) (pp : List (List (Int × Int))) : Prop where
  hq : H q = some (.lst (ls.map V.ref))
  pl : Paired (LineO H) ls pp
  off : ∀ l ∈ ls, l ≠ q
section
variable {H H' : Hp} {ds : List Addr} {l q a t : Addr} {ts ls : List Addr} {ps : List (Int × Int)} {pp : List (List (Int × Int))} {p : Int × Int} {xs ys : List V}
theorem Lw.line (h : Lw H l ts ps) : LineO H l ps := ⟨ts, h.hl, h.pl⟩
theorem Pw.pap (h : Pw H q ls pp) : PapO H q pp := ⟨ls, h.hq, h.pl⟩
theorem Lw.fr (h : Lw H l ts ps) (x : Fr ds H H') (n : Nlt H ds) : Lw H' l ts ps := ⟨x.lst h.hl fun m => (n l m).1 _ h.hl, Paired.mono (fun _ _ z => PairO.fr z x n) h.pl⟩
theorem Pw.fr (h : Pw H q ls pp) (x : Fr ds H H') (n : Nlt H ds) : Pw H' q ls pp := ⟨x.lst h.hq fun m => (n q m).1 _ h.hq, Paired.mono (fun _ _ z => LineO.fr z x n) h.pl, h.off⟩
theorem Lw.new (h : Lw H l ts ps) (n : H a = none) (o : HO) : Lw (upd H a o) l ts ps := h.fr (Fr.new0 (ds := []) n o) .nil
theorem Pw.new (h : Pw H q ls pp) (n : H a = none) (o : HO) : Pw (upd H a o) q ls pp := h.fr (Fr.new0 (ds := []) n o) .nil
theorem pair_upd (h : PairO H t p) (ha : H a = some (.lst xs)) (o : HO) : PairO (upd H a o) t p := by
  have h : H t = some (.tup [.int p.1, .int p.2]) := h
  show upd H a o t = _
  rw [upd_ne fun e => by rw [e, ha] at h; cases h]
  exact h
theorem line_upd (h : LineO H l ps) (ha : H a = some (.lst xs)) (ne : l ≠ a) (o : HO) : LineO (upd H a o) l ps := by
  obtain ⟨ts, e, p⟩ := h
  exact ⟨ts, by rw [upd_ne ne]; exact e, Paired.mono (fun _ _ z => pair_upd z ha o) p⟩
theorem Lw.upd (h : Lw H l ts ps) (ha : H a = some (.lst xs)) (ne : l ≠ a) (o : HO) : Lw (upd H a o) l ts ps := ⟨by rw [upd_ne ne]; exact h.hl, Paired.mono (fun _ _ z => pair_upd z ha o) h.pl⟩
theorem Pw.upd (h : Pw H q ls pp) (ha : H a = some (.lst xs)) (ne : q ≠ a) (nl : ∀ l ∈ ls, l ≠ a) (o : HO) : Pw (upd H a o) q ls pp := ⟨by rw [upd_ne ne]; exact h.hq, pd_mem h.pl fun l _ m z => line_upd z ha (nl l m) o, h.off⟩
theorem Lw.push (h : Lw H l ts ps) (z : PairO H t p) : Lw (L2.upd H l (.lst (ts.map V.ref ++ [.ref t]))) l (ts ++ [t]) (ps ++ [p]) := ⟨by rw [upd_same, List.map_append]; rfl, Paired.snoc (Paired.mono (fun _ _ z => pair_upd z h.hl _) h.pl) (pair_upd z h.hl _)⟩
theorem Pw.push (h : Pw H q ls pp) (z : LineO H l ps) (ne : l ≠ q) : Pw (L2.upd H q (.lst (ls.map V.ref ++ [.ref l]))) q (ls ++ [l]) (pp ++ [ps]) := by
  refine ⟨by rw [upd_same, List.map_append]; rfl, Paired.snoc (pd_mem h.pl fun l _ m z => line_upd z h.hq (h.off l m) _) (line_upd z h.hq ne _), fun l' m => ?_⟩
  rcases List.mem_append.mp m with m | m
  · exact h.off l' m
  · rw [List.mem_singleton.mp m]; exact ne
theorem Lw.nil (h : H l = some (.lst [])) : Lw H l [] [] := ⟨h, .nil⟩
theorem Pw.nil (h : H q = some (.lst [])) : Pw H q [] [] := ⟨h, .nil, fun _ m => nomatch m⟩
theorem Lw.len (h : Lw H l ts ps) : ts.length = ps.length := h.pl.length
theorem Pw.len (h : Pw H q ls pp) : ls.length = pp.length := h.pl.length
/-- what is new is none of the lines -/
theorem Pw.ne (h : Pw H q ls pp) (n : H a = none) : q ≠ a ∧ ∀ l ∈ ls, l ≠ a := ⟨ne_of_none h.hq n, fun l m => by
  obtain ⟨j, hj⟩ := List.mem_iff_getElem?.mp m
  obtain ⟨ps, _, ts, hts, _⟩ := pd_get h.pl hj
  exact ne_of_none hts n⟩
theorem Purse.lst_ne {p c : Addr} (B : Purse H p c) (h : H a = some (.lst xs)) : a ≠ p := fun e => by
  obtain ⟨cells, x, r, l, m, s, n, B, _⟩ := B
  rw [e, B.hp] at h
  cases h
end
/-- at most k lines of at most k pairs -/
structure PSz (k : Nat) (pp : List (List (Int × Int))) : Prop where
  n : pp.length ≤ k
  w : ∀ l ∈ pp, l.length ≤ k
theorem PSz.le {k m : Nat} {pp : List (List (Int × Int))} (h : PSz k pp) (g : k ≤ m) : PSz m pp := ⟨Nat.le_trans h.n g, fun l z => Nat.le_trans (h.w l z) g⟩
theorem rest_snoc {ns : List Int} {i : Nat} {z : Int} (e : ns[i]? = some z) (f : Int → Bool) : (ns.take (i + 1)).filter f = if f z = true then (ns.take i).filter f ++ [z] else (ns.take i).filter f := by
  rw [take_snoc e, List.filter_append]
  by_cases h : f z = true
  · rw [if_pos h]; simp [h]
  · rw [if_neg h]; simp [h]
/-! ### papers as data -/
def pairD (p : Int × Int) : PyData := .tuple [.int p.1, .int p.2]
def lineD (ps : List (Int × Int)) : PyData := .list (ps.map pairD)
def papD (pp : List (List (Int × Int))) : PyData := .list (pp.map lineD)
theorem can_pairs : ∀ ps : List (Int × Int), PyData.canLayAll0 (ps.map pairD) = true
  | [] => by simp [PyData.canLayAll0]
  | p :: ps => by rw [List.map_cons, PyData.canLayAll0, can_pairs ps]; simp [pairD, PyData.canLay0, PyData.canLayAll0]
theorem dep_pairs : ∀ ps : List (Int × Int), PyData.depthAll (ps.map pairD) ≤ 1
  | [] => by simp [PyData.depthAll]
  | p :: ps => by
    rw [List.map_cons, PyData.depthAll]
    have := dep_pairs ps
    have : (pairD p).depth = 1 := by simp [pairD, PyData.depth, PyData.depthAll]
    omega
theorem can_lines : ∀ pp : List (List (Int × Int)), PyData.canLayAll0 (pp.map lineD) = true
  | [] => by simp [PyData.canLayAll0]
  | ps :: pp => by rw [List.map_cons, PyData.canLayAll0, can_lines pp]; simp [lineD, PyData.canLay0, can_pairs]
theorem dep_lines : ∀ pp : List (List (Int × Int)), PyData.depthAll (pp.map lineD) ≤ 2
  | [] => by simp [PyData.depthAll]
  | ps :: pp => by
    rw [List.map_cons, PyData.depthAll]
    have := dep_lines pp
    have e : (lineD ps).depth = PyData.depthAll (ps.map pairD) + 1 := by simp [lineD, PyData.depth]
    have := dep_pairs ps
    omega
theorem shaped_pair (p : Int × Int) : SeqAt.shaped (pairD p) = true := by unfold SeqAt.shaped pairD; simp [PyData.canLay0, PyData.canLayAll0, PyData.depth, PyData.depthAll]
theorem shaped_line (ps : List (Int × Int)) : SeqAt.shaped (lineD ps) = true := by
  have h := dep_pairs ps
  unfold SeqAt.shaped lineD
  rw [PyData.canLay0, can_pairs, PyData.depth, decide_eq_true (by omega)]
  rfl
theorem shaped_pap (pp : List (List (Int × Int))) : SeqAt.shaped (papD pp) = true := by
  have h := dep_lines pp
  unfold SeqAt.shaped papD
  rw [PyData.canLay0, can_lines, PyData.depth, decide_eq_true (by omega)]
  rfl
theorem eqv_pap (pp : List (List (Int × Int))) : PyData.eqv (papD pp) (papD pp) = true := SeqAt.eqv_refl _ (SeqAt.canLay_of_shaped (shaped_pap pp))
theorem eqv_pair (p : Int × Int) : PyData.eqv (pairD p) (pairD p) = true := SeqAt.eqv_refl _ (SeqAt.canLay_of_shaped (shaped_pair p))
theorem pap_nil (pp : List (List (Int × Int))) : PyData.eqv (papD pp) (.list []) = decide (pp = []) := by
  cases pp <;> simp [papD, PyData.eqv, PyData.eqvAll]
theorem line_nil (ps : List (Int × Int)) : PyData.eqv (lineD ps) (.list []) = decide (ps = []) := by
  cases ps <;> simp [lineD, PyData.eqv, PyData.eqvAll]
theorem nil_dp {K : PySem.W.Frag} {H : Hp} {a : Addr} (h : H a = some (.lst [])) : Dp K H (.ref a) (.list []) := .lst (SqL.of h) .nil
theorem nil_shaped : SeqAt.shaped (.list []) = true := shaped_list []
theorem pair_dp {K : PySem.W.Frag} {H : Hp} {t : Addr} {p : Int × Int} (h : PairO H t p) : Dp K H (.ref t) (pairD p) := .tup (SqT.of h) (.cons (.int _) (.cons (.int _) .nil))
theorem pairs_dp {K : PySem.W.Frag} {H : Hp} {ts : List Addr} {ps : List (Int × Int)} (h : Paired (PairO H) ts ps) : DpAll K H (ts.map V.ref) (ps.map pairD) := by
  induction h with
  | nil => exact .nil
  | cons a t ih => exact .cons (pair_dp a) ih
theorem line_dp {K : PySem.W.Frag} {H : Hp} {l : Addr} {ps : List (Int × Int)} (h : LineO H l ps) : Dp K H (.ref l) (lineD ps) := by
  obtain ⟨ts, e, p⟩ := h
  exact .lst (SqL.of e) (pairs_dp p)
theorem pap_dp {K : PySem.W.Frag} {H : Hp} {q : Addr} {pp : List (List (Int × Int))} (h : PapO H q pp) : Dp K H (.ref q) (papD pp) := by
  obtain ⟨ls, e, p⟩ := h
  refine .lst (SqL.of e) ?_
  clear e
  induction p with
  | nil => exact .nil
  | cons a t ih => exact .cons (line_dp a) ih
/-! ### lists changed in the middle -/
section
variable {α β : Type} {F : α → β → Prop}
theorem pd_take {xs : List α} {ys : List β} (h : Paired F xs ys) : ∀ n : Nat, Paired F (xs.take n) (ys.take n) := by
  induction h with
  | nil => intro n; rw [List.take_nil, List.take_nil]; exact .nil
  | cons a t ih => intro n; cases n with
    | zero => exact .nil
    | succ n => exact .cons a (ih n)
theorem pd_drop {xs : List α} {ys : List β} (h : Paired F xs ys) : ∀ n : Nat, Paired F (xs.drop n) (ys.drop n) := by
  induction h with
  | nil => intro n; rw [List.drop_nil, List.drop_nil]; exact .nil
  | cons a t ih => intro n; cases n with
    | zero => exact .cons a t
    | succ n => exact ih n
theorem pd_app {xs xs' : List α} {ys ys' : List β} (h : Paired F xs ys) (g : Paired F xs' ys') : Paired F (xs ++ xs') (ys ++ ys') := by
  induction h with
  | nil => exact g
  | cons a t ih => exact .cons a ih
theorem pd_ins {xs : List α} {ys : List β} (h : Paired F xs ys) (n : Nat) {x : α} {y : β} (z : F x y) : Paired F (xs.take n ++ [x] ++ xs.drop n) (ys.take n ++ [y] ++ ys.drop n) := pd_app (pd_app (pd_take h n) (.cons z .nil)) (pd_drop h n)
theorem pd_erase {xs : List α} {ys : List β} (h : Paired F xs ys) : ∀ n : Nat, Paired F (xs.eraseIdx n) (ys.eraseIdx n) := by
  induction h with
  | nil => intro n; exact .nil
  | cons a t ih => intro n; cases n with
    | zero => exact t
    | succ n => exact .cons a (ih n)
theorem map_eraseG {γ : Type} (f : α → γ) : ∀ (l : List α) (i : Nat), (l.map f).eraseIdx i = (l.eraseIdx i).map f
  | [], _ => rfl
  | _ :: _, 0 => rfl
  | a :: l, i + 1 => congrArg (List.cons (f a)) (map_eraseG f l i)
theorem first_of {δ : Type} {P : δ → Bool} : ∀ (ds : List δ) (j : Nat) (z : δ), ds[j]? = some z → P z = true → ∃ (i : Nat) (y : δ), ds[i]? = some y ∧ P y = true ∧ ∀ (m : Nat) (x : δ), m < i → ds[m]? = some x → P x = false
  | [], j, z, h, _ => by simp at h
  | d :: ds, j, z, h, hz => by
    by_cases e : P d = true
    · exact ⟨0, d, rfl, e, fun m x hm => absurd hm (Nat.not_lt_zero _)⟩
    · cases j with
      | zero => cases h; exact absurd hz e
      | succ j =>
        obtain ⟨i, y, h1, h2, h3⟩ := first_of ds j z h hz
        refine ⟨i + 1, y, h1, h2, fun m x hm hx => ?_⟩
        cases m with
        | zero => cases hx; simpa using e
        | succ m => exact h3 m x (by omega) hx
theorem len_ins {xs : List α} {n : Nat} {x : α} : (xs.take n ++ [x] ++ xs.drop n).length = xs.length + 1 := by
  rw [List.length_append, List.length_append, List.length_take, List.length_drop]
  show min n xs.length + 1 + _ = _
  omega
theorem map_ins {γ : Type} (f : α → γ) {xs : List α} {n : Nat} {x : α} : (xs.take n ++ [x] ++ xs.drop n).map f = (xs.map f).take n ++ [f x] ++ (xs.map f).drop n := by
  rw [List.map_append, List.map_append, List.map_take, List.map_drop]
  rfl
end
section
variable {H : Hp} {q l : Addr} {ls ts : List Addr} {ps : List (Int × Int)} {pp : List (List (Int × Int))} {xs : List V}
/-- a line of the paper gets another list of pairs -/
theorem Pw.change (h : Pw H q ls pp) (hl : H l = some (.lst xs)) (lq : l ≠ q) (pl : Paired (PairO H) ts ps) : ∃ pp', Pw (L2.upd H l (.lst (ts.map V.ref))) q ls pp' ∧ pp'.length = pp.length ∧ ∀ x ∈ pp', x ∈ pp ∨ x = ps := by
  have line : LineO (L2.upd H l (.lst (ts.map V.ref))) l ps := ⟨ts, upd_same, Paired.mono (fun _ _ z => pair_upd z hl _) pl⟩
  have key : ∀ {ls : List Addr} {pp : List (List (Int × Int))}, Paired (LineO H) ls pp → ∃ pp', Paired (LineO (L2.upd H l (.lst (ts.map V.ref)))) ls pp' ∧ pp'.length = pp.length ∧ ∀ x ∈ pp', x ∈ pp ∨ x = ps := by
    intro ls pp p
    induction p with
    | nil => exact ⟨[], .nil, rfl, fun x m => nomatch m⟩
    | @cons a b l1 l2 z t ih =>
      obtain ⟨pp', i1, i2, i3⟩ := ih
      by_cases e : a = l
      · subst e
        refine ⟨ps :: pp', .cons line i1, by rw [List.length_cons, List.length_cons, i2], fun x m => ?_⟩
        rcases List.mem_cons.mp m with m | m
        · exact .inr m
        · exact (i3 x m).elim (fun g => .inl (.tail _ g)) .inr
      · refine ⟨b :: pp', .cons (line_upd z hl e _) i1, by rw [List.length_cons, List.length_cons, i2], fun x m => ?_⟩
        rcases List.mem_cons.mp m with m | m
        · exact .inl (by rw [m]; exact .head _)
        · exact (i3 x m).elim (fun g => .inl (.tail _ g)) .inr
  obtain ⟨pp', p, e1, e2⟩ := key h.pl
  exact ⟨pp', ⟨by rw [upd_ne lq.symm]; exact h.hq, p, h.off⟩, e1, e2⟩
/-- other lines in the paper -/
theorem Pw.put (h : Pw H q ls pp) {ls' : List Addr} {pp' : List (List (Int × Int))} (p : Paired (LineO H) ls' pp') (off : ∀ l ∈ ls', l ≠ q) : Pw (L2.upd H q (.lst (ls'.map V.ref))) q ls' pp' := ⟨upd_same, pd_mem p fun l _ m z => line_upd z h.hq (off l m) _, off⟩
end
/-- list(xs), K written out -/
abbrev rLc (K : PySem.W.Frag) : List V → Hp → VK → Prop := fun xs H Q => ∃ p ys, xs = [V.ref p] ∧ (SqL K H p ys ∨ SqT K H p ys) ∧ ∀ l, H l = none → Q (.ref l) (upd H l (.lst ys))
/-- a list without doubles among others is no longer than they -/
theorem nd_le : ∀ (l kn : List Int), l.Nodup → (∀ x ∈ l, x ∈ kn) → l.length ≤ kn.length
  | [], _, _, _ => Nat.zero_le _
  | a :: l, kn, nd, h => by
    have nd' := List.nodup_cons.mp nd
    have ma := h a (.head _)
    have z := nd_le l (kn.erase a) nd'.2 fun x m => (List.mem_erase_of_ne fun (e : x = a) => nd'.1 (by rw [← e]; exact m)).mpr (h x (.tail _ m))
    rw [List.length_erase_of_mem ma] at z
    have : 0 < kn.length := List.length_pos_of_mem ma
    rw [List.length_cons]
    omega
end UF

set_option Elab.async false
set_option maxRecDepth 100000
set_option maxHeartbeats 4000000
/-! d == {}: is the dict empty -/
namespace UF
open PySem PySem.Spec PyProof.Rows L2 C8 LamX
theorem u0 {k : Nat} {A : Around} (hr : Room k A) : A.units < cLine := Nat.lt_of_succ_lt (u1 hr)
def rEqE : R2 := fun x y H Q => ∃ a b ks, x = .ref a ∧ y = .ref b ∧ H a = some (.dK ks) ∧ H b = some (.dK []) ∧ Q (.bl ks.isEmpty) H
theorem op_eqE {X : Cx} (hu : X.A.units < cLine) : OpR X (compareOp .Eq) rEqE := by
  rintro pins s σ H _ _ v u Q I rx ry ⟨a, b, ks, rfl, rfl, ea, eb, q⟩
  obtain rfl : v = Value.ref a := rx
  obtain rfl : u = Value.ref b := ry
  obtain ⟨_, ya, va, ra, da⟩ := (show ObjOk X.prog X.w H s.heap a (.dK ks) from I.hok a _ ea)
  obtain ⟨_, yb, vb, rb, db⟩ := (show ObjOk X.prog X.w H s.heap b (.dK []) from I.hok b _ eb)
  have lb : vb.length = 0 := rb.length.symm
  refine PySem.W.keq_eq (knd := mixKind X.prog X.w) (r := true) ya yb da db hu (fun e => ?_) (fin_bl I q ?_)
  · have e0 : ks = [] := List.eq_nil_of_length_eq_zero (by
      rw [ra.length, e]
      exact lb)
    subst e0
    exact hits_all rb ra fun p hp => nomatch hp
  · rw [lb, ← ra.length, Bool.and_true]
    cases ks <;> rfl
end UF

set_option Elab.async false
set_option maxRecDepth 100000
set_option maxHeartbeats 4000000
namespace SortD
open PySem PySem.Spec PyProof.Rows L2
/-- sorted(d), d a dict whose keys are whole numbers, any number of them -/
def rSortD : List V → Hp → VK → Prop := fun zs G W => ∃ (D : Addr) (kv : List (Key × V)) (ns : List Int), zs = [.ref D] ∧ Rd G D (.dK kv) ∧ kv.map (·.1) = ns.map Sum.inl ∧
  ∀ (ms : List Int) (L : Addr), ms.Perm ns → ms.Pairwise (· ≤ ·) → G L = none → W (.ref L) (upd G L (.lst (ms.map V.int)))
theorem cr_sortD {X : Cx} (calm : X.calm = true) : CallR X (.builtin "sorted") rSortD := by
  intro pins s τ G zs ws W I r h
  obtain ⟨D, kv, ns, ez, hd, hkeys, q⟩ := h
  subst ez
  obtain ⟨w1, ew, rx⟩ := vals1 r
  subst ew
  cases rx
  obtain ⟨small, notMods, vs, rel, dd⟩ := dk_rd I.hok hd
  obtain ⟨ep, hat⟩ := dd.dictAt
  have kk : vs.map (·.1) = ns.map Sum.inl := rel.keys.symm.trans hkeys
  have lvs : vs.length = ns.length := by simpa using congrArg List.length kk
  have lkv : kv.length = ns.length := by simpa using congrArg List.length hkeys
  have fits : ns.length ≤ sizeLine := by rw [← lkv]; exact small
  refine Calls.call_function_entry kind_sorted plain_sorted entry_sorted (args_sorted1 _) ?_
  unfold Builtin.«sorted»
  refine wpAny_bind (m := checkCount "sorted" 1 1 _) (wpAny_pure ?_)
  refine wpAny_bind (PySem.W.kdu_collect (A := X.A.in1) (PySem.W.kdl_dict (knd := mixKind X.prog X.w) (kvs := vs) (ep := ep) notMods) (I.ok.hd calm) hat (by rw [lvs]; exact fits) fun g tk got keep hgot => ?_)
  have lgot : got.toList.length = ns.length := by rw [Array.length_toList, hgot.1, lvs]
  have allInt : IntsAre got.toList ns := by
    refine ints_each lgot fun j v ej => ?_
    obtain ⟨k, x, e1, e2⟩ := hgot.2 j v (by rw [← Array.getElem?_toList]; exact ej)
    have e3 : (vs.map (·.1))[j]? = some k := by rw [List.getElem?_map, e1]; rfl
    rw [kk, List.getElem?_map] at e3
    cases e4 : ns[j]? with
    | none => rw [e4] at e3; cases e3
    | some y =>
      rw [e4] at e3
      have e5 : Sum.inl y = k := Option.some.inj e3
      subst e5
      rcases keyIs_shape (show keyIs (Sum.inl y) v = true from e2) with ⟨i, t, ek, ev⟩ | ⟨z, t, ek, _⟩
      · injection ek with ek
        subst ek
        exact ⟨y, t, rfl, ev⟩
      · cases ek
  have I1 : Inv X pins τ G { s with heap := g, toks := tk } := I.kept keep
  have fits2 : got.toList.length ≤ sizeLine := by rw [lgot]; exact fits
  refine wpAny_bind (wpAny_newList ?_ fits2)
  have at0 : (g.push (seqObj "list" got.toList.toArray 0)).get? g.objs.size = some (seqObj "list" got.toList.toArray 0) := Heap.get?_push_size _ rfl
  show wpAny _ _ _ _ _ { s with heap := g.push (seqObj "list" got.toList.toArray 0), toks := tk }
  refine wpAny_bind (wpAny_holding (wpAny_call_entry slot_list_sort ⟨_, at0, rfl⟩ entry_list_sort ?_ (args_list_sort _)))
  refine SrtO.list_sort_ord SrtO.swo_int at0 fits2 (fun two => SrtO.ints_sortable allInt two) fun out h1 h2 => ⟨_, rfl, ?_⟩
  obtain ⟨k1, k2, k3⟩ := SrtO.ints_out allInt h1 h2
  obtain ⟨ep2, he2⟩ := sortedHeap_at (vs := got.toList) (out := out.toArray) at0
  have fits3 : ((out.map SrtO.iv).map V.int).length ≤ sizeLine := by rw [List.length_map, k2.length_eq]; exact fits
  refine wpAny_pure ⟨_, rfl, .ref g.objs.size, upd G g.objs.size (.lst ((out.map SrtO.iv).map V.int)), ?_, rfl, q _ _ k2 k3 (I1.hok.fresh (Nat.le_refl _))⟩
  refine I1.laid (t' := tk) (fun b u e => ?_) (Nat.le_refl _) ⟨fits3, out, ep2, vals_of_ints k1, he2⟩
  have lb : b < g.objs.size := Heap.lt_size e
  rw [sortedHeap_old (Nat.ne_of_lt lb) (by rw [size_push']; exact Nat.lt_succ_of_lt lb)]
  exact Heap.get?_push_of_some _ e
end SortD

set_option Elab.async false
set_option maxRecDepth 100000
set_option maxHeartbeats 4000000
set_option exponentiation.threshold 4096
set_option linter.unusedVariables false
/-! dicts of whole numbers as lists of pairs, whatever the values; dicts of tuples; constants of the module -/
namespace UF
open PySem PySem.Spec PyProof.Rows L2 C8 LamX
section
variable {β γ : Type}
def lkA : List (Int × β) → Int → Option β
  | [], _ => none
  | q :: ks, s => if q.1 = s then some q.2 else lkA ks s
def putA (ts : List (Int × β)) (s : Int) (t : β) : List (Int × β) := if (lkA ts s).isSome = true then ts.map (fun q => if q.1 = s then (q.1, t) else q) else ts ++ [(s, t)]
def dropA (ts : List (Int × β)) (s : Int) : List (Int × β) := ts.filter fun q => decide (q.1 ≠ s)
def dA (f : β → V) (ks : List (Int × β)) : List (Key × V) := ks.map fun q => (.inl q.1, f q.2)
theorem valV_dA (f : β → V) : ∀ (ks : List (Int × β)) (s : Int), valV (dA f ks) (.inl s) = (lkA ks s).map f
  | [], _ => rfl
  | q :: ks, s => by
    have ih := valV_dA f ks s
    show valV ((Sum.inl q.1, f q.2) :: dA f ks) (Sum.inl s) = Option.map f (if q.1 = s then some q.2 else lkA ks s)
    by_cases e : q.1 = s
    · rw [valV_pos (by rw [e]), if_pos e]
      rfl
    · rw [valV_neg (fun z => e (Sum.inl.inj z)), if_neg e]
      exact ih
theorem put_dA (f : β → V) (ts : List (Int × β)) (s : Int) (t : β) : putK (dA f ts) (.inl s) (f t) = dA f (putA ts s t) := by
  unfold putK putA
  rw [valV_any, valV_dA, Option.isSome_map]
  cases (lkA ts s).isSome with
  | false =>
    rw [if_neg Bool.false_ne_true, if_neg Bool.false_ne_true]
    unfold dA
    rw [List.map_append]
    rfl
  | true =>
    rw [if_pos rfl, if_pos rfl]
    unfold dA
    rw [List.map_map, List.map_map]
    refine List.map_congr_left fun p _ => ?_
    show (if (Sum.inl p.1 : Key) = Sum.inl s then ((Sum.inl p.1 : Key), f t) else (Sum.inl p.1, f p.2)) = (Sum.inl (if p.1 = s then (p.1, t) else p).1, f (if p.1 = s then (p.1, t) else p).2)
    by_cases e : p.1 = s
    · rw [if_pos (by rw [e]), if_pos e]
    · rw [if_neg (fun z => e (Sum.inl.inj z)), if_neg e]
theorem drop_dA (f : β → V) (ts : List (Int × β)) (s : Int) : dropK (dA f ts) (.inl s) = dA f (dropA ts s) := by
  unfold dropK dropA dA
  rw [List.filter_map]
  congr 1
  refine List.filter_congr fun q _ => ?_
  show decide ((Sum.inl q.1 : Key) ≠ Sum.inl s) = decide (q.1 ≠ s)
  by_cases e : q.1 = s
  · simp [e]
  · have : (Sum.inl q.1 : Key) ≠ Sum.inl s := fun z => e (Sum.inl.inj z)
    simp [e]
theorem lkA_map (g : β → γ) : ∀ (ts : List (Int × β)) (s : Int), lkA (ts.map fun q => (q.1, g q.2)) s = (lkA ts s).map g
  | [], _ => rfl
  | q :: ts, s => by
    show (if q.1 = s then some (g q.2) else lkA (ts.map fun q => (q.1, g q.2)) s) = Option.map g (if q.1 = s then some q.2 else lkA ts s)
    by_cases e : q.1 = s
    · rw [if_pos e, if_pos e]; rfl
    · rw [if_neg e, if_neg e]; exact lkA_map g ts s
theorem putA_map (g : β → γ) (ts : List (Int × β)) (s : Int) (t : β) : (putA ts s t).map (fun q => (q.1, g q.2)) = putA (ts.map fun q => (q.1, g q.2)) s (g t) := by
  unfold putA
  rw [lkA_map, Option.isSome_map]
  cases (lkA ts s).isSome with
  | false => rw [if_neg Bool.false_ne_true, if_neg Bool.false_ne_true, List.map_append]; rfl
  | true =>
    rw [if_pos rfl, if_pos rfl, List.map_map, List.map_map]
    refine List.map_congr_left fun p _ => ?_
    show ((if p.1 = s then (p.1, t) else p).1, g (if p.1 = s then (p.1, t) else p).2) = if p.1 = s then (p.1, g t) else (p.1, g p.2)
    split <;> rfl
theorem dropA_map (g : β → γ) (ts : List (Int × β)) (s : Int) : (dropA ts s).map (fun q => (q.1, g q.2)) = dropA (ts.map fun q => (q.1, g q.2)) s := by
  unfold dropA
  rw [List.filter_map]
  rfl
theorem lkA_app : ∀ (ts : List (Int × β)) (s s1 : Int) (t1 : β), lkA (ts ++ [(s1, t1)]) s = match lkA ts s with
    | some t => some t
    | none => if s1 = s then some t1 else none
  | [], s, s1, t1 => rfl
  | q :: ts, s, s1, t1 => by
    have ih := lkA_app ts s s1 t1
    show (if q.1 = s then some q.2 else lkA (ts ++ [(s1, t1)]) s) = match (if q.1 = s then some q.2 else lkA ts s) with
      | some t => some t
      | none => if s1 = s then some t1 else none
    by_cases e : q.1 = s
    · rw [if_pos e, if_pos e]
    · rw [if_neg e, if_neg e]
      exact ih
theorem lkA_upd (s x : Int) (t : β) : ∀ ts : List (Int × β), lkA (ts.map (fun q => if q.1 = s then (q.1, t) else q)) x = if x = s then (lkA ts s).map (fun _ => t) else lkA ts x
  | [] => by split <;> rfl
  | q :: ts => by
    have ih := lkA_upd s x t ts
    show (if (if q.1 = s then (q.1, t) else q).1 = x then some (if q.1 = s then (q.1, t) else q).2 else lkA (ts.map (fun q => if q.1 = s then (q.1, t) else q)) x) = if x = s then Option.map (fun _ => t) (if q.1 = s then some q.2 else lkA ts s) else (if q.1 = x then some q.2 else lkA ts x)
    rw [ih]
    by_cases e : q.1 = s
    · rw [if_pos e, if_pos e]
      show (if q.1 = x then some t else (if x = s then Option.map (fun _ => t) (lkA ts s) else lkA ts x)) = if x = s then some t else (if q.1 = x then some q.2 else lkA ts x)
      by_cases z : x = s
      · rw [if_pos (show q.1 = x by rw [e, z]), if_pos z]
      · rw [if_neg (show ¬ q.1 = x from fun y => z (by rw [← y, e])), if_neg z, if_neg z, if_neg (show ¬ q.1 = x from fun y => z (by rw [← y, e]))]
    · rw [if_neg e, if_neg e]
      show (if q.1 = x then some q.2 else (if x = s then Option.map (fun _ => t) (lkA ts s) else lkA ts x)) = if x = s then Option.map (fun _ => t) (lkA ts s) else (if q.1 = x then some q.2 else lkA ts x)
      by_cases z : x = s
      · rw [if_pos z, if_pos z, if_neg (show ¬ q.1 = x from fun y => e (by rw [y, z]))]
      · rw [if_neg z, if_neg z]
theorem lk_putA (ts : List (Int × β)) (s : Int) (t : β) (x : Int) : lkA (putA ts s t) x = if x = s then some t else lkA ts x := by
  unfold putA
  by_cases q : (lkA ts s).isSome = true
  · rw [if_pos q, lkA_upd]
    obtain ⟨u, e⟩ := Option.isSome_iff_exists.mp q
    rw [e]
    rfl
  · rw [if_neg q, lkA_app]
    have q : lkA ts s = none := by
      cases z : lkA ts s with
      | none => rfl
      | some u => rw [z] at q; exact absurd rfl q
    by_cases e : x = s
    · rw [if_pos e, e, q]
      show (if s = s then some t else none) = some t
      rw [if_pos rfl]
    · rw [if_neg e]
      cases lkA ts x with
      | some u => rfl
      | none =>
        show (if s = x then some t else none) = none
        rw [if_neg (fun z => e z.symm)]
theorem lk_dropA : ∀ (ts : List (Int × β)) (s x : Int), lkA (dropA ts s) x = if x = s then none else lkA ts x
  | [], s, x => by
    show none = if x = s then none else none
    split <;> rfl
  | q :: ts, s, x => by
    have ih := lk_dropA ts s x
    unfold dropA at ih ⊢
    by_cases e : q.1 = s
    · rw [List.filter_cons_of_neg (by simp [e]), ih]
      by_cases z : x = s
      · rw [if_pos z, if_pos z]
      · rw [if_neg z, if_neg z]
        show lkA ts x = if q.1 = x then some q.2 else lkA ts x
        rw [if_neg (fun y => z (by rw [← y, e]))]
    · rw [List.filter_cons_of_pos (by simp [e])]
      show (if q.1 = x then some q.2 else lkA _ x) = if x = s then none else (if q.1 = x then some q.2 else lkA ts x)
      by_cases z : q.1 = x
      · rw [if_pos z, if_pos z, if_neg (fun y => e (by rw [z, y]))]
      · rw [if_neg z, if_neg z]
        exact ih
theorem lkA_in : ∀ {ks : List (Int × β)} {s : Int}, s ∈ ks.map Prod.fst → ∃ t, lkA ks s = some t
  | [], _, m => nomatch m
  | q :: ks, s, m => by
    unfold lkA
    by_cases e : q.1 = s
    · exact ⟨_, if_pos e⟩
    · rw [if_neg e]
      exact lkA_in ((List.mem_cons.mp m).resolve_left fun z => e z.symm)
theorem lkA_pair {ks : List (Int × β)} {s : Int} {t : β} (h : lkA ks s = some t) : (s, t) ∈ ks := by
  induction ks with
  | nil => cases h
  | cons r ks ih =>
    have h : (if r.1 = s then some r.2 else lkA ks s) = some t := h
    by_cases e : r.1 = s
    · rw [if_pos e] at h
      have h := Option.some.inj h
      rw [← e, ← h]
      exact .head _
    · rw [if_neg e] at h
      exact .tail _ (ih h)
theorem lkA_mem {ks : List (Int × β)} {s : Int} {t : β} (h : lkA ks s = some t) : s ∈ ks.map Prod.fst := List.mem_map.mpr ⟨_, lkA_pair h, rfl⟩
theorem keyA {ks : List (Int × β)} {s : Int} : s ∈ ks.map Prod.fst ↔ (lkA ks s).isSome = true := by
  constructor
  · intro m
    obtain ⟨t, e⟩ := lkA_in m
    rw [e]
    rfl
  · intro h
    cases q : lkA ks s with
    | none => rw [q] at h; cases h
    | some t => exact lkA_mem q
theorem lkA_get {ks : List (Int × β)} (nd : (ks.map Prod.fst).Nodup) {q : Int × β} (m : q ∈ ks) : lkA ks q.1 = some q.2 := by
  induction ks with
  | nil => nomatch m
  | cons r ks ih =>
    rw [List.map_cons, List.nodup_cons] at nd
    show (if r.1 = q.1 then some r.2 else lkA ks q.1) = some q.2
    rcases List.mem_cons.mp m with e | m
    · rw [e, if_pos rfl]
    · rw [if_neg (fun z => nd.1 (by rw [z]; exact List.mem_map.mpr ⟨q, m, rfl⟩))]
      exact ih nd.2 m
theorem nd_putA {ts : List (Int × β)} {s : Int} {t : β} (nd : (ts.map Prod.fst).Nodup) : ((putA ts s t).map Prod.fst).Nodup := by
  unfold putA
  cases q : (lkA ts s).isSome with
  | true =>
    rw [if_pos rfl, List.map_map]
    rw [show ts.map (Prod.fst ∘ fun q => if q.1 = s then (q.1, t) else q) = ts.map Prod.fst from List.map_congr_left fun p _ => by show (if p.1 = s then (p.1, t) else p).1 = p.1; split <;> rfl]
    exact nd
  | false =>
    rw [if_neg Bool.false_ne_true, List.map_append]
    refine List.nodup_append.mpr ⟨nd, List.nodup_cons.mpr ⟨(fun m => nomatch m), List.nodup_nil⟩, fun a am b bm e => ?_⟩
    have bm : b ∈ [s] := bm
    rw [List.mem_singleton.mp bm] at e
    subst e
    rw [keyA.mp am] at q
    cases q
theorem nd_dropA {ts : List (Int × β)} {s : Int} (nd : (ts.map Prod.fst).Nodup) : ((dropA ts s).map Prod.fst).Nodup :=
  nd.sublist (List.Sublist.map _ (List.filter_sublist ..))
theorem len_putA (ts : List (Int × β)) (s : Int) (t : β) : (putA ts s t).length ≤ ts.length + 1 := by
  unfold putA
  split
  · rw [List.length_map]; omega
  · rw [List.length_append]; exact Nat.le_refl _
theorem putA_new {ts : List (Int × β)} {s : Int} {t : β} (h : lkA ts s = none) : putA ts s t = ts ++ [(s, t)] := by
  unfold putA
  rw [h]
  rfl
theorem putA_in {ts : List (Int × β)} {s : Int} {t : β} {q : Int × β} (m : q ∈ putA ts s t) : q = (s, t) ∨ q ∈ ts := by
  unfold putA at m
  split at m
  · obtain ⟨p, hp, e⟩ := List.mem_map.mp m
    by_cases z : p.1 = s
    · rw [if_pos z] at e
      left
      rw [← e, z]
    · rw [if_neg z] at e
      right
      rw [← e]
      exact hp
  · rcases List.mem_append.mp m with m | m
    · exact .inr m
    · exact .inl (List.mem_singleton.mp m)
theorem dropA_in {ts : List (Int × β)} {s : Int} {q : Int × β} (m : q ∈ dropA ts s) : q ∈ ts ∧ q.1 ≠ s := by
  obtain ⟨a, b⟩ := List.mem_filter.mp m
  exact ⟨a, by simpa using b⟩
end
/-- a dict of tuples at d: what its tuples hold is told by f -/
def TupD {β : Type} (f : β → List V) (H : Hp) (d : Addr) (ms : List (Int × β)) : Prop := ∃ es : List (Int × (Addr × β)), H d = some (.dK (dA (fun p : Addr × β => V.ref p.1) es)) ∧ (∀ e ∈ es, H e.2.1 = some (.tup (f e.2.2))) ∧ es.map (fun e => (e.1, e.2.2)) = ms
section
variable {β : Type} {f : β → List V} {H H' : Hp} {d : Addr} {ms : List (Int × β)} {ds : List Addr}
theorem TupD.nil (h : H d = some (.dK [])) : TupD f H d [] := ⟨[], h, (fun e m => nomatch m), rfl⟩
theorem TupD.at_ (T : TupD f H d ms) : ∃ kv, H d = some (.dK kv) := by
  obtain ⟨es, h, _⟩ := T
  exact ⟨_, h⟩
theorem TupD.fr (T : TupD f H d ms) (X : Fr ds H H') (n : d ∉ ds) (nt : ∀ a ∈ ds, ∀ vs, H a ≠ some (.tup vs)) : TupD f H' d ms := by
  obtain ⟨es, h, h2, h3⟩ := T
  exact ⟨es, X.dK h n, fun e m => X.tup (h2 e m) fun z => nt _ z _ (h2 e m), h3⟩
theorem TupD.fr0 (T : TupD f H d ms) (X : Fr [] H H') : TupD f H' d ms := T.fr X not_nil fun a m => nomatch m
theorem lk_es {es : List (Int × (Addr × β))} (h3 : es.map (fun e => (e.1, e.2.2)) = ms) (k : Int) : lkA ms k = (lkA es k).map Prod.snd := by
  rw [← h3]
  exact lkA_map Prod.snd es k
theorem TupD.none_ (T : TupD f H d ms) {k : Int} (e : lkA ms k = none) : DGet H d (.int k) none := by
  obtain ⟨es, h, h2, h3⟩ := T
  have g := DGet.k (k := Sum.inl k) h
  rw [valV_dA] at g
  rw [lk_es h3] at e
  cases q : lkA es k with
  | none => rw [q] at g; exact g
  | some p => rw [q] at e; cases e
theorem TupD.some_ (T : TupD f H d ms) {k : Int} {v : β} (e : lkA ms k = some v) : ∃ a, DGet H d (.int k) (some (.ref a)) ∧ H a = some (.tup (f v)) := by
  obtain ⟨es, h, h2, h3⟩ := T
  have g := DGet.k (k := Sum.inl k) h
  rw [valV_dA] at g
  rw [lk_es h3] at e
  cases q : lkA es k with
  | none => rw [q] at e; cases e
  | some p =>
    rw [q] at g e
    injection e with e
    have e : p.2 = v := e
    refine ⟨p.1, g, ?_⟩
    rw [← e]
    exact h2 _ (lkA_pair q)
theorem TupD.has (T : TupD f H d ms) (k : Int) : ∃ o, DGet H d (.int k) o ∧ o.isSome = (lkA ms k).isSome := by
  cases q : lkA ms k with
  | none => exact ⟨_, T.none_ q, rfl⟩
  | some v =>
    obtain ⟨a, g, _⟩ := T.some_ q
    exact ⟨_, g, rfl⟩
theorem TupD.len (T : TupD f H d ms) : ∃ kv, H d = some (.dK kv) ∧ kv.length = ms.length ∧ kv.map (·.1) = (ms.map Prod.fst).map Sum.inl := by
  obtain ⟨es, h, h2, h3⟩ := T
  refine ⟨_, h, by rw [← h3]; unfold dA; rw [List.length_map, List.length_map], ?_⟩
  rw [← h3]
  unfold dA
  rw [List.map_map, List.map_map, List.map_map]
  rfl
theorem TupD.put (T : TupD f H d ms) {a : Addr} {v : β} (k : Int) (ha : H a = some (.tup (f v))) (l : ms.length ≤ 100000) : ∃ kv, DPut H d (.int k) (.ref a) (upd H d (.dK kv)) ∧ TupD f (upd H d (.dK kv)) d (putA ms k v) := by
  obtain ⟨es, h, h2, h3⟩ := T
  have hl : es.length = ms.length := by rw [← h3, List.length_map]
  have g := DPut.k (k := Sum.inl k) (v := V.ref a) h (by unfold dA; rw [List.length_map, hl]; exact Nat.lt_of_le_of_lt l (by decide))
  have e := put_dA (fun p : Addr × β => V.ref p.1) es k (a, v)
  have e : putK (dA (fun p : Addr × β => V.ref p.1) es) (.inl k) (.ref a) = _ := e
  rw [e] at g
  refine ⟨_, g, putA es k (a, v), upd_same, fun x m => ?_, ?_⟩
  · have hx : H x.2.1 = some (.tup (f x.2.2)) := by
      rcases putA_in m with z | z
      · rw [z]; exact ha
      · exact h2 x z
    rw [upd_ne (fun z => by rw [z, h] at hx; cases hx)]
    exact hx
  · rw [← h3]
    exact putA_map Prod.snd es k (a, v)
theorem TupD.drop (T : TupD f H d ms) (k : Int) : ∃ kv, H d = some (.dK kv) ∧ (valV kv (.inl k)).isSome = (lkA ms k).isSome ∧ TupD f (upd H d (.dK (dropK kv (.inl k)))) d (dropA ms k) := by
  obtain ⟨es, h, h2, h3⟩ := T
  refine ⟨_, h, by rw [valV_dA, lk_es h3, Option.isSome_map, Option.isSome_map], dropA es k, ?_, fun x m => ?_, ?_⟩
  · rw [upd_same, drop_dA]
  · have hx := h2 x (dropA_in m).1
    rw [upd_ne (fun z => by rw [z, h] at hx; cases hx)]
    exact hx
  · rw [← h3]
    exact dropA_map Prod.snd es k
end
/-- a constant of the module -/
def GcP (mg : Str → Option Value) (x : Str) (v : V) : Prop := ∃ u, mg x = some u ∧ RelV v u
/-- an __init__ with one default, an empty tuple -/
def IniE (K : PySem.W.Frag) (C : Addr) (q : Str) (st : Stmt) : Prop := ∃ (f a : Addr) (fd : FuncData), Mk K C f ∧ FunD K "__init__" q (C8.fnArgs st) (C8.fnBody st) (C8.fnScope st) [.ref a] [] f fd ∧ ∀ H, SqT K H a []
section
variable {K : PySem.W.Frag} {h : Heap} {mg : Str → Option Value}
theorem gcs_mk {x s : Str} {t : Tok} (X : K.In h) (G : h.Ns mainGlobals mg) (e : PySem.W.nsIn K mainGlobals x = some (some (.str s t))) : GcP mg x (.str s) := ⟨_, PySem.W.mg_of X G e, _, rfl⟩
theorem gci_mk {x : Str} {i : Int} {t : Tok} (X : K.In h) (G : h.Ns mainGlobals mg) (e : PySem.W.nsIn K mainGlobals x = some (some (.int i t))) : GcP mg x (.int i) := ⟨_, PySem.W.mg_of X G e, _, rfl⟩
theorem tup4s_mk {x : Str} {a : Addr} {s1 s2 s3 s4 : Str} {t1 t2 t3 t4 : Tok} {n : Nat} {od : Option Addr} {osl : Array (Option Value)} (X : K.In h) (G : h.Ns mainGlobals mg) (e : PySem.W.nsIn K mainGlobals x = some (some (.ref a))) (l : K.lookup a = some ⟨.type "tuple", od, .seq #[.str s1 t1, .str s2 t2, .str s3 t3, .str s4 t4] n, osl⟩) : TupP K mg x [.str s1, .str s2, .str s3, .str s4] :=
  ⟨a, PySem.W.mg_of X G e, fun _ => .inr ⟨_, _, _, l, rfl, rfl, by show 4 ≤ sizeLine; decide, .cons ⟨_, rfl⟩ (.cons ⟨_, rfl⟩ (.cons ⟨_, rfl⟩ (.cons ⟨_, rfl⟩ .nil)))⟩⟩
theorem iniE_mk {C f TT e : Addr} {q : Str} {st : Stmt} {oc : Value} {od an : Option Addr} {osl : Array (Option Value)} {kV doc pm cdv ct : Value} {o1 : Value} {o2 : Option Addr} {o3 : Array (Option Value)} {n1 n2 : Nat} {p2 : Option Addr} {p3 : Array (Option Value)} (m : PySem.W.makesIn K C = true) (a : PySem.W.findIn K (.ref C) "__init__" = some (some (.ref f))) (i : PySem.W.isFn K (.ref f) = true) (kc : PySem.W.keepIn K (.ref C) = true)
    (l : K.lookup f = some ⟨oc, od, .func (PySem.W.fnOf "__init__" q (C8.fnArgs st) (C8.fnBody st) (C8.fnScope st) (.ref TT) kV doc pm an cdv ct), osl⟩) (c : PySem.W.codeIn K cdv q = true) (k : PySem.W.keepIn K (.ref f) = true)
    (lT : K.lookup TT = some ⟨o1, o2, .seq #[.ref e] n1, o3⟩) (le : K.lookup e = some ⟨.type "tuple", p2, .seq #[] n2, p3⟩) : IniE K C q st :=
  ⟨f, e, _, ⟨m, a, i, kc⟩, ⟨⟨oc, od, _, kV, doc, pm, an, cdv, ct, osl, rfl, l, c, .inr ⟨fun z => (nomatch z), TT, _, [.ref e], n1, rfl, lT, rfl, .cons rfl .nil⟩, .inl rfl⟩, k⟩, fun H => .inr ⟨_, #[], n2, le, rfl, rfl, Nat.zero_le _, .nil⟩⟩
/-- the ranks of marks, a written dict -/
def RanksP (K : PySem.W.Frag) (w : World) (mg : Str → Option Value) (x : Str) : Prop := ∃ p : Addr, mg x = some (.ref p) ∧ KDct K w p "alive" (.int 1) ∧ KDct K w p "suspect" (.int 2) ∧ KDct K w p "dead" (.int 3) ∧ KDct K w p "left" (.int 4)
theorem ranks_mk {w : World} {x : Str} {p : Addr} {es : Array DictEntry} {n : Nat} {t1 t2 t3 t4 : Tok} (X : K.In h) (G : h.Ns mainGlobals mg) (e : PySem.W.nsIn K mainGlobals x = some (some (.ref p))) (l : K.lookup p = some ⟨.type "dict", none, .dict es n, #[]⟩) (hk : PySem.W.KeysLit w.params es.toList)
    (n1 : PySem.W.nsIn K p "alive" = some (some (.int 1 t1))) (n2 : PySem.W.nsIn K p "suspect" = some (some (.int 2 t2))) (n3 : PySem.W.nsIn K p "dead" = some (some (.int 3 t3))) (n4 : PySem.W.nsIn K p "left" = some (some (.int 4 t4))) : RanksP K w mg x :=
  ⟨p, PySem.W.mg_of X G e, ⟨es, n, _, l, hk, n1, _, rfl⟩, ⟨es, n, _, l, hk, n2, _, rfl⟩, ⟨es, n, _, l, hk, n3, _, rfl⟩, ⟨es, n, _, l, hk, n4, _, rfl⟩⟩
end
/-! ### sayings -/
structure Say where
  seat : Int
  life : Int
  mark : Str
  worth : Str
def Say.vs (s : Say) : List V := [.int s.seat, .int s.life, .str s.mark, .str s.worth]
def marksL : List Str := ["alive", "suspect", "dead", "left"]
def markN (m : Str) : Nat := marksL.idxOf m
def rankI (s : Say) : Int := 4 * s.life + (markN s.mark : Int) + 1
def rankO : Option Say → Int
  | none => 0
  | some s => rankI s
def plainS : Str := "abcdefghijklmnopqrstuvwxyz0123456789"
def Plain (w : Str) : Prop := ∀ c ∈ w.cps.toList, c ∈ plainS.cps.toList
structure Say.Ok (r : Int) (s : Say) : Prop where
  s0 : 0 ≤ s.seat
  s1 : s.seat < r
  l0 : 0 ≤ s.life
  l1 : s.life < 10 ^ 60
  m : s.mark ∈ marksL
  w : s.worth.length ≤ 12
  p : Plain s.worth
theorem mark_lt {m : Str} (h : m ∈ marksL) : markN m < 4 := List.idxOf_lt_length_of_mem h
theorem mark_at {m : Str} (h : m ∈ marksL) : marksL[markN m]? = some m ∧ ∀ j, j < markN m → marksL[j]? ≠ some m := by
  have e := List.idxOf_lt_length_of_mem h
  refine ⟨?_, fun j hj => ?_⟩
  · unfold markN
    rw [List.getElem?_eq_getElem e, List.getElem_idxOf]
  · intro z
    obtain ⟨h1, h2⟩ := List.getElem?_eq_some_iff.mp z
    have := List.not_of_lt_findIdx (p := (· == m)) (xs := marksL) (i := j) hj
    rw [h2] at this
    simp at this
theorem rank_pos {s : Say} {r : Int} (o : s.Ok r) : 0 < rankI s := by
  unfold rankI
  have := o.l0
  omega
theorem foldl_ones : ∀ (cs : List Nat) (acc : Array Nat), ((cs.map fun c => (⟨#[c]⟩ : Str)).foldl (fun acc p => acc ++ ("" : Str).cps ++ p.cps) acc).toList = acc.toList ++ cs
  | [], acc => by simp
  | c :: cs, acc => by
    rw [List.map_cons, List.foldl_cons, foldl_ones cs]
    have e : ("" : Str).cps = #[] := by decide +kernel
    rw [e]
    simp
theorem join_ones (cs : List Nat) : (Txt.join ("" : Str) (cs.map fun c => (⟨#[c]⟩ : Str))).cps.toList = cs := by
  cases cs with
  | nil => rfl
  | cons c cs =>
    have h := foldl_ones cs #[c]
    exact h
theorem ones_len : ∀ cs : List Nat, (((cs.map fun c => (⟨#[c]⟩ : Str)).map fun x : Str => x.length).sum) = cs.length
  | [] => rfl
  | c :: cs => by
    rw [List.map_cons, List.map_cons, List.sum_cons, ones_len cs, List.length_cons]
    show 1 + cs.length = _
    omega
theorem join_worth {cs : List Nat} {m : Nat} (l : cs.length ≤ m) (h : ∀ c ∈ cs, c ∈ plainS.cps.toList) : (Txt.join ("" : Str) (cs.map fun c => (⟨#[c]⟩ : Str))).length ≤ m ∧ Plain (Txt.join ("" : Str) (cs.map fun c => (⟨#[c]⟩ : Str))) := by
  refine ⟨?_, fun c hc => ?_⟩
  · show (Txt.join ("" : Str) (cs.map fun c => (⟨#[c]⟩ : Str))).cps.size ≤ m
    rw [← Array.length_toList, join_ones]
    exact l
  · rw [join_ones] at hc
    exact h c hc
def latS (ms : List (Int × Say)) (s : Say) : List (Int × Say) := if rankO (lkA ms s.seat) < rankI s then putA ms s.seat s else ms
def latL (ss : List Say) : List (Int × Say) := ss.foldl latS []
theorem latL_snoc (ss : List Say) (s : Say) : latL (ss ++ [s]) = latS (latL ss) s := by
  unfold latL
  rw [List.foldl_append]
  rfl
end UF

set_option Elab.async false
set_option maxRecDepth 100000
set_option maxHeartbeats 4000000
/-! super().m(..) in a def of a class of the text -/
namespace SupO
open PySem PySem.Spec PyProof.Rows L2 NdefX ClX
def nfS (nm q : Str) (st : Stmt) (c cc : Addr) : NF := ⟨nm, q, C8.fnArgs st, C8.fnBody st, C8.fnScope st, [("__class__", cc)], c⟩
/-- the def at f closes over the class at D -/
structure SupD (P : Program) (K : PySem.W.Frag) (D : Addr) (nm q : Str) (st : Stmt) (f c cc : Addr) (fd : FuncData) : Prop where
  fn : ∃ (oc : Value) (od an : Option Addr) (kV doc pm ct : Value) (osl : Array (Option Value)), fd = PySem.W.fnX nm q (C8.fnArgs st) (C8.fnBody st) (C8.fnScope st) [("__class__", cc)] .none kV doc pm an (.ref c) ct ∧ K.lookup f = some ⟨oc, od, .func fd, osl⟩
  cd : PySem.W.codeIn K (.ref c) q = true
  file : ∃ (ccl : Value) (cdd : Option Addr) (vs : Array Value) (ccs : Array (Option Value)) (fl : Str) (tf : Tok), K.lookup c = some ⟨ccl, cdd, .fields vs, ccs⟩ ∧ vs[2]? = some (.str fl tf) ∧ ((P.main.file : Str) == fl) = true
  cell : ∃ (cl : Value) (cld : Option Addr) (csl : Array (Option Value)), K.lookup cc = some ⟨cl, cld, .cell (some (.ref D)), csl⟩
  cls : (PySem.W.clsIn K D).isSome = true
  glo : PySem.W.nsIn K mainGlobals "super" = some none
  top : (P.main.scope.names.lookup ("super" : Str)).isSome = false
  self : (((C8.fnArgs st).posonlyargs ++ (C8.fnArgs st).args).head?.map (·.arg)) = some ("self" : Str)
  opq : PySem.W.nsIn K cStatics "thirdparty.any" = some none
  ks : (C8.fnScope st).names.lookup ("super" : Str) = some .globalImplicit
  kc : (C8.fnScope st).names.lookup ("__class__" : Str) = some .free
  ka : (C8.fnScope st).names.lookup ("self" : Str) = some .local
/-- what super() of an instance of C in D's def gives for m -/
structure SupT (K : PySem.W.Frag) (C D : Addr) (m : Str) (g : Addr) : Prop where
  sub : PySem.W.mroIn K C (.ref D) = some true
  at_ : PySem.W.ks_superIn K C D m = some (some (.ref g))
  ty : PySem.W.typeIn K (.ref g) = some (.type "function")
  fi : PySem.W.fnIn K g = true
section
variable {X : Cx} {pins : List (Addr × Obj)} {σ : L2.St} {H : Hp} {s : Shared} {nm q : Str} {st : Stmt} {f c cc C D o dx g : Addr} {fd : FuncData} {m : Str} {fs : List (Str × V)}
theorem sup_base {body : List Stmt} {p0 p1 pos apos : Pos} {args : List Expr} {pl : Sem Bool} {Q : Value → Shared → Prop} {E : Value → Shared → Prop} (I : Inv X pins σ H s) (d : SupD X.prog X.K D nm q st f c cc fd) (hsc : X.env.scope = C8.fnScope st) (hfu : X.env.func = some f) (hco : X.env.code = .ref c) (hcl : X.env.cells = [(("__class__" : Str), cc)])
    (e : H o = some (.ins C dx fs)) (t : SupT X.K C D m g) (hself : σ[0]? = some (some (.ref o))) (hN : X.N[0]? = some ("self" : Str)) (hat : (m == ("__class__" : Str)) = false)
    (ht : eval (.Call (.Attribute (.Call (.Name "super" p0) [] [] p1) m apos) args [] pos) X.env = (do
      let ov ← attributeBase (.Call (.Name "super" p0) [] [] p1) m X.env (eval (.Call (.Name "super" p0) [] [] p1) X.env)
      standAt apos.atName
      let (f, first) ← holding [ov] (getMethod ov m pl)
      callWith pos f first (backTo pos (starEach args X.env)) []))
    (h : ∀ b s', Inv X ((b, PySem.W.methodObj (.ref g) (.ref o)) :: pins) σ H s' → X.base.get? b = none → wpAny (model X.prog X.w) X.A (callWith pos (.ref b) [] (backTo pos (starEach args X.env)) []) Q E s') :
    _root_.PySem.wpAt (model X.prog X.w) X.A (.func body X.env) (eval (.Call (.Attribute (.Call (.Name "super" p0) [] [] p1) m apos) args [] pos) X.env) Q E s := by
  obtain ⟨mA, O, _⟩ := ins_get I.hok e
  obtain ⟨od, J, _⟩ := O.look
  have X0 : X.K.In s.heap := I.kIn
  obtain ⟨oc, od', an, kV, doc, pm, ct, osl, rfl, lk⟩ := d.fn
  obtain ⟨ccl, cdd, vs, ccs, fl, tf, lkc, hvs, hfile⟩ := d.file
  obtain ⟨cl, cld, csl, lkcc⟩ := d.cell
  obtain ⟨cdD, hcD⟩ := Option.isSome_iff_exists.mp d.cls
  obtain ⟨ar, har, hse⟩ := Option.map_eq_some_iff.mp d.self
  obtain ⟨mb, hb1, hb2⟩ := I.mod.blt
  have hks : X.env.kindOf "super" = some .globalImplicit := by show X.env.scope.names.lookup _ = _; rw [hsc]; exact d.ks
  have hkc : X.env.kindOf "__class__" = some .free := by show X.env.scope.names.lookup _ = _; rw [hsc]; exact d.kc
  have hka : X.env.scope.names.lookup ("self" : Str) = some .local := by rw [hsc]; exact d.ka
  have hm : X.mg "super" = none := PySem.W.mg_none_of I.mod.kin I.mod.glob d.glo
  have hself' : wpAny (model X.prog X.w) X.A (loadName X.env ar.arg) (fun u s' => u = .ref o ∧ s' = s) (fun _ _ => False) s := by
    obtain ⟨m0, hn0, hl0⟩ := I.loc
    obtain ⟨u, ru, l⟩ := hl0 0 _ _ hN hself (.inl hka)
    cases (show u = Value.ref o from ru)
    rw [hse]
    rcases l with ⟨hk, hv⟩ | ⟨hk, _⟩
    · exact wpAny_loadName_local I.ok.kind hk hn0 hv ⟨rfl, rfl⟩
    · have hk : X.env.scope.names.lookup ("self" : Str) = some .cell ∨ X.env.scope.names.lookup ("self" : Str) = some .free := hk
      rw [hka] at hk
      rcases hk with z | z <;> cases z
  obtain ⟨oD, hD1, hD2⟩ : ∃ oD, s.heap.get? D = some oD ∧ oD.data = .cls cdD := by
    unfold PySem.W.clsIn at hcD
    split at hcD
    · rename_i a b cd' sl ho
      cases hcD
      exact ⟨_, X0 _ _ ho, rfl⟩
    · cases hcD
  refine ks_wpAt_MethodCall (pl := pl) ?_ ht
  refine ks_wpAt_super_base hks hkc hat hfu (X0 _ _ lk) rfl har hco (X0 _ _ lkc) rfl hvs hfile d.top ?_
  refine PySem.W.ks_loadName_global I.ok.kind hks (Calls.loadGlobal_builtin (by rw [I.ok.glob]; exact I.mod.glob.keeps I.bk) hm (by rw [I.ok.blt]; exact hb1.keeps I.bk) ((hb2 "super" (by decide)).trans (show bootBuiltins "super" = some (.type "super") from by first | rfl | kernel_rfl | decide +kernel)) ⟨rfl, ?_⟩)
  refine wpAny_loadName_free I.ok.kind hkc (by rw [hcl]; rfl) ⟨_, X0 _ _ lkcc, rfl⟩ ?_
  refine wpAny_mono hself' (fun u s1 hu => ?_) fun _ _ z => z.elim
  obtain ⟨rfl, rfl⟩ := hu
  refine ks_wpAny_isType_cls hD1 hD2 ⟨rfl, ?_⟩
  obtain ⟨hh, g', d', t', os⟩ := s1
  refine ks_wpAny_call_super hD1 hD2 J.at_ J.cls (fun c e => ?_) (PySem.W.looks_mroIn X0 t.sub) (fun h' e1 k => ?_)
  · have := J.no
    unfold PySem.W.notCls at this
    rw [e] at this
    exact Bool.noConfusion this
  have I1 : Inv X pins σ H ⟨h', g', d', t', os⟩ := I.kept (t' := t') k
  have X1 : X.K.In h' := I1.kIn
  obtain ⟨mA1, O1, _⟩ := ins_get I1.hok e
  obtain ⟨od1, J1, _⟩ := O1.look
  cases hcC : PySem.W.clsIn X.K C with
  | none =>
    have := t.at_
    unfold PySem.W.ks_superIn at this
    rw [hcC] at this
    cases this
  | some cd =>
    have hsu := t.at_
    unfold PySem.W.ks_superIn at hsu
    rw [hcC] at hsu
    obtain ⟨og, hog, hogc⟩ : ∃ of, h'.get? g = some of ∧ of.cls = .type "function" := by
      have ht' : (X.K.lookup g).map (·.cls) = some (.type "function") := t.ty
      cases z : X.K.lookup g with
      | none => rw [z] at ht'; cases ht'
      | some of => rw [z] at ht'; exact ⟨of, X1 _ _ z, Option.some.inj ht'⟩
    refine ks_wpAny_getMethod_super e1 (PySem.W.looks_opaque X1 d.opq) (l₀ := cd.mro) ?_ rfl X1 hsu hog hogc (PySem.W.ks_ne X1 J1 hcC) hat ?_
    · exact fun A Q E s k q => wpAny_bind ((PySem.W.looks_clsIn X1 hcC) A _ E s k (wpAny_pure q))
    · have I2 := pin_new (o := PySem.W.methodObj (.ref g) (.ref o)) (h' := h'.push (PySem.W.methodObj (.ref g) (.ref o))) (a := h'.objs.size) (t' := t' + 1) I1 (fun _ _ z => Heap.get?_push_of_some _ z) (Nat.le_refl _) (Heap.get?_push_size h' rfl) (fun v z => nomatch z)
      exact h _ _ I2 (base_none I1 (Nat.le_refl _))
/-- the call: with arguments, without -/
theorem sup_call {CX : CXT} {k : Nat} {body : List Stmt} {p0 p1 pos apos : Pos} {e1 : Expr} {es : List Expr} {pl : Sem Bool} {sp : Sp} {E : XK} {ta : TA} {Q : VK} (I : Inv X pins σ H s) (d : SupD X.prog X.K D nm q st f c cc fd) (hsc : X.env.scope = C8.fnScope st) (hfu : X.env.func = some f) (hco : X.env.code = .ref c) (hcl : X.env.cells = [(("__class__" : Str), cc)])
    (e : H o = some (.ins C dx fs)) (t : SupT X.K C D m g) (hself : σ[0]? = some (some (.ref o))) (hN : X.N[0]? = some ("self" : Str)) (F : FnR X.prog X.w X.K X.mg X.base CX k g sp) (hr : Room k X.A) (hx : Passes CX X E) (ha : PA X (e1 :: es) ta) (h : ta σ H fun vs H1 => sp (.ref o :: vs) H1 Q E)
    (ht : eval (.Call (.Attribute (.Call (.Name "super" p0) [] [] p1) m apos) (e1 :: es) [] pos) X.env = (do
      let ov ← attributeBase (.Call (.Name "super" p0) [] [] p1) m X.env (eval (.Call (.Name "super" p0) [] [] p1) X.env)
      standAt apos.atName
      let (f, first) ← holding [ov] (getMethod ov m pl)
      callWith pos f first (backTo pos (starEach (e1 :: es) X.env)) []) := by rfl)
    (hat : (m == ("__class__" : Str)) = false := by decide) (hst : starEach (e1 :: es) X.env = (false, eval e1 X.env) :: starEach es X.env := by rfl) (hpl : (backTo pos (starEach es X.env)).any (·.1) = false := by rfl) :
    _root_.PySem.wpAt (model X.prog X.w) X.A (.func body X.env) (eval (.Call (.Attribute (.Call (.Name "super" p0) [] [] p1) m apos) (e1 :: es) [] pos) X.env) (EP X pins σ Q) X.xe s := by
  refine sup_base I d hsc hfu hco hcl e t hself hN hat ht fun b s' I2 hb => ?_
  refine callwith_cm I2 hb t.fi (thn (ha.run pos _ s' σ H _ I2 h) fun us s2 ⟨vs, H2, I3, r, q2⟩ => ⟨⟨pin_at I3, I3.kIn⟩, ?_⟩) hst hpl
  exact run_cm F hr hx I3 r q2
theorem sup_call0 {CX : CXT} {k : Nat} {body : List Stmt} {p0 p1 pos apos : Pos} {pl : Sem Bool} {sp : Sp} {E : XK} {Q : VK} (I : Inv X pins σ H s) (d : SupD X.prog X.K D nm q st f c cc fd) (hsc : X.env.scope = C8.fnScope st) (hfu : X.env.func = some f) (hco : X.env.code = .ref c) (hcl : X.env.cells = [(("__class__" : Str), cc)])
    (e : H o = some (.ins C dx fs)) (t : SupT X.K C D m g) (hself : σ[0]? = some (some (.ref o))) (hN : X.N[0]? = some ("self" : Str)) (F : FnR X.prog X.w X.K X.mg X.base CX k g sp) (hr : Room k X.A) (hx : Passes CX X E) (h : sp [.ref o] H Q E)
    (ht : eval (.Call (.Attribute (.Call (.Name "super" p0) [] [] p1) m apos) [] [] pos) X.env = (do
      let ov ← attributeBase (.Call (.Name "super" p0) [] [] p1) m X.env (eval (.Call (.Name "super" p0) [] [] p1) X.env)
      standAt apos.atName
      let (f, first) ← holding [ov] (getMethod ov m pl)
      callWith pos f first (backTo pos (starEach [] X.env)) []) := by rfl)
    (hat : (m == ("__class__" : Str)) = false := by decide) :
    _root_.PySem.wpAt (model X.prog X.w) X.A (.func body X.env) (eval (.Call (.Attribute (.Call (.Name "super" p0) [] [] p1) m apos) [] [] pos) X.env) (EP X pins σ Q) X.xe s := by
  refine sup_base I d hsc hfu hco hcl e t hself hN hat ht fun b s' I2 hb => ?_
  exact PySem.W.callWith_M0 (K := X.K) ⟨pin_at I2, I2.kIn⟩ t.fi (run_cm F hr hx I2 (us := []) (vs := []) .nil h)
end
/-- what is asked of a statement's run where the code that runs is known -/
structure PSAt (X : Cx) (body : List Stmt) (sts : List Stmt) (t : TS) : Prop where
  run : ∀ (pins : List (Addr × Obj)) (s : Shared) (σ : L2.St) (H : Hp) (D : Ends), Inv X pins σ H s → t D σ H → _root_.PySem.wpAt (model X.prog X.w) X.A (.func body X.env) (execs sts X.env) (SP X pins D) X.xe s
/-- an expression -/
structure PEAt (X : Cx) (body : List Stmt) (e : Expr) (t : TE) : Prop where
  run : ∀ (pins : List (Addr × Obj)) (s : Shared) (σ : L2.St) (H : Hp) (Q : VK), Inv X pins σ H s → t σ H Q → _root_.PySem.wpAt (model X.prog X.w) X.A (.func body X.env) (eval e X.env) (EP X pins σ Q) X.xe s
section
variable {X : Cx} {body rest : List Stmt} {e e2 : Expr} {te tf : TE} {t : TS} {pos : Pos}
theorem PSs.at_ (h : PSs X rest t) : PSAt X body rest t := ⟨fun pins s σ H D I q => _root_.PySem.wpAt_of_wpAny (h.run pins s σ H D I q)⟩
theorem PE.at_ (h : PE X e te) : PEAt X body e te := ⟨fun pins s σ H Q I q => _root_.PySem.wpAt_of_wpAny (h.run pins s σ H Q I q)⟩
theorem psa_expr (he : PEAt X body e te) (hr : PSs X rest t) (hs : swapsWith e none pos.line X.env = pure false := by rfl) : PSAt X body (.Expr e pos :: rest) (fun D σ H => te σ H fun _ H1 => t D σ H1) := by
  refine ⟨fun pins s σ H D I h => ?_⟩
  refine ks_wpAt_execs_cons (ks_wpAt_Expr_any (ks_wpAt_mono (he.run pins s σ H _ I h) (fun v s1 q => ?_) fun _ _ z => z) I.quiet hs)
  obtain ⟨x, H1, I1, r1, q1⟩ := q
  exact _root_.PySem.wpAt_of_wpAny (hr.run pins s1 σ H1 D I1 q1)
theorem psa_ret (he : PEAt X body e te) : PSAt X body [.Return (some e) pos] (tRet te) := by
  refine ⟨fun pins s σ H D I h => ?_⟩
  refine ks_wpAt_execs_cons (ks_wpAt_Return_some (ks_wpAt_mono (he.run pins s σ H _ I h) (fun v s1 q => ?_) fun _ _ z => z))
  obtain ⟨x, H1, I1, r1, q1⟩ := q
  exact ⟨x, σ, H1, I1, r1, q1⟩
end
theorem PSAt.unwish {X : Cx} {body sts : List Stmt} {t : TS} (h : PSAt X.nox body sts t) : PSAt X body sts t := ⟨fun pins s σ H D I hw =>
  ks_wpAt_mono (h.run pins s σ H D (I.wish _) hw) (fun _ _ q => q.unwish) fun _ _ z => False.elim z⟩
/-- super().m(..), in a def of the class at D -/
def tSup (K : PySem.W.Frag) (D : Addr) (m : Str) (g : Addr) (sp : Sp) (ta : TA) : TE := fun σ H Q => ∃ (o C dx : Addr) (fs : List (Str × V)), σ[0]? = some (some (.ref o)) ∧ H o = some (.ins C dx fs) ∧ SupT K C D m g ∧ ta σ H fun vs H1 => sp (.ref o :: vs) H1 Q C8.E0
section
variable {X : Cx} {k j : Nat} {body : List Stmt} {nm q m : Str} {st : Stmt} {f c cc D g : Addr} {fd : FuncData} {p0 p1 pos apos : Pos} {e1 e2 : Expr} {es : List Expr} {pl : Sem Bool} {sp : Sp} {ta : TA} {te tf : TE}
theorem pea_sup (d : SupD X.prog X.K D nm q st f c cc fd) (hsc : X.env.scope = C8.fnScope st) (hfu : X.env.func = some f) (hco : X.env.code = .ref c) (hcl : X.env.cells = [(("__class__" : Str), cc)]) (hN : X.N[0]? = some ("self" : Str)) (F : FnR X.prog X.w X.K X.mg X.base C8.CX0 k g sp) (hr : Room j X.A) (hk : k ≤ j) (ha : PA X (e1 :: es) ta)
    (ht : eval (.Call (.Attribute (.Call (.Name "super" p0) [] [] p1) m apos) (e1 :: es) [] pos) X.env = (do
      let ov ← attributeBase (.Call (.Name "super" p0) [] [] p1) m X.env (eval (.Call (.Name "super" p0) [] [] p1) X.env)
      standAt apos.atName
      let (f, first) ← holding [ov] (getMethod ov m pl)
      callWith pos f first (backTo pos (starEach (e1 :: es) X.env)) []) := by rfl)
    (hat : (m == ("__class__" : Str)) = false := by decide) (hst : starEach (e1 :: es) X.env = (false, eval e1 X.env) :: starEach es X.env := by rfl) (hpl : (backTo pos (starEach es X.env)).any (·.1) = false := by rfl) :
    PEAt X body (.Call (.Attribute (.Call (.Name "super" p0) [] [] p1) m apos) (e1 :: es) [] pos) (tSup X.K D m g sp ta) := by
  refine ⟨fun pins s σ H Q I h => ?_⟩
  obtain ⟨o, C, dx, fs, h0, ho, t, h⟩ := h
  exact sup_call I d hsc hfu hco hcl ho t h0 hN F (hr.mono hk) (C8.pass0 (E := C8.E0)) ha h ht hat hst hpl
theorem pea_sup0 (d : SupD X.prog X.K D nm q st f c cc fd) (hsc : X.env.scope = C8.fnScope st) (hfu : X.env.func = some f) (hco : X.env.code = .ref c) (hcl : X.env.cells = [(("__class__" : Str), cc)]) (hN : X.N[0]? = some ("self" : Str)) (F : FnR X.prog X.w X.K X.mg X.base C8.CX0 k g sp) (hr : Room j X.A) (hk : k ≤ j)
    (ht : eval (.Call (.Attribute (.Call (.Name "super" p0) [] [] p1) m apos) [] [] pos) X.env = (do
      let ov ← attributeBase (.Call (.Name "super" p0) [] [] p1) m X.env (eval (.Call (.Name "super" p0) [] [] p1) X.env)
      standAt apos.atName
      let (f, first) ← holding [ov] (getMethod ov m pl)
      callWith pos f first (backTo pos (starEach [] X.env)) []) := by rfl)
    (hat : (m == ("__class__" : Str)) = false := by decide) :
    PEAt X body (.Call (.Attribute (.Call (.Name "super" p0) [] [] p1) m apos) [] [] pos) (tSup X.K D m g sp tNil) := by
  refine ⟨fun pins s σ H Q I h => ?_⟩
  obtain ⟨o, C, dx, fs, h0, ho, t, h⟩ := h
  exact sup_call0 I d hsc hfu hco hcl ho t h0 hN F (hr.mono hk) (C8.pass0 (E := C8.E0)) h ht hat
/-- super().m(..) op e -/
theorem pea_op {op : Operator} {rd : R2} (he : PEAt X body e1 te) (hf : PE X e2 tf) (hop : OpR X (binaryOp op) rd) : PEAt X body (.BinOp e1 op e2 pos) (fun σ H Q => te σ H fun x H1 => tf σ H1 fun y H2 => rd x y H2 Q) := by
  refine ⟨fun pins s σ H Q I h => ?_⟩
  refine ks_wpAt_BinOp (ks_wpAt_mono (he.run pins s σ H _ I h) (fun u s1 q => ?_) fun _ _ z => z)
  obtain ⟨x, H1, I1, r1, q1⟩ := q
  exact thn (hf.run pins s1 σ H1 _ I1 q1) fun v s2 ⟨y, H2, I2, r2, q2⟩ => hop pins s2 σ H2 x y u v Q I2 r1 r2 q2
end
/-- THE RULE: a def that says super(), by its body -/
theorem SupD.ok {P : Program} {w : World} {K : PySem.W.Frag} {mg : Str → Option Value} {base : Heap} {D : Addr} {nm q : Str} {st : Stmt} {f c cc : Addr} {fd : FuncData} {N ps : List Str} {k : Nat} {sp : Sp} (d : SupD P K D nm q st f c cc fd) (S : NScope N ps ["__class__"] (C8.fnScope st))
    (len : ∀ vs H Q E, sp vs H Q E → vs.length = ps.length)
    (hbody : ∀ (A : Around) (outer : List Env) (s : Shared) (H : Hp) (vs : List V) (Q : VK) (E : XK), Room k (A.deeper (envF (nfS nm q st c cc) f s.heap.objs.size)) → sp vs H Q E →
      ∃ t, PSAt (ncx C8.CX0 P w K mg base N (nfS nm q st c cc) f A outer s H E).nox (C8.fnBody st) (C8.fnBody st) t ∧ t { nx := fun _ H' => Q .non H', rt := Q } (startF N vs [some (.ref D)]) H) : FnOk P w K mg base C8.CX0 (k + 1) f fd ps sp := by
  refine ⟨len, fun A outer s H args us vs Q E hr e0 hb r hsp => ?_⟩
  have hl := len _ _ _ _ hsp
  have lim : s.heap.NoLimit := e0.mod.nolimit.keeps fun b o e => (e0.bs b o e).1
  have KX : K.In s.heap := e0.mod.kin.keeps fun b o e => (e0.bs b o e).1
  obtain ⟨oc, od', an, kV, doc, pm, ct, osl, rfl, lk⟩ := d.fn
  obtain ⟨cl, cld, csl, lkcc⟩ := d.cell
  refine codeAny_call_function hr.depth (KX _ _ lk) rfl S.co S.gen rfl (PySem.W.codeRec_of KX d.cd) (hb _ _ _ _ ?_)
  refine wpAny_newFunctionEnv S.nocell (fun ⟨n, _⟩ hy => S.par n (List.of_mem_zip hy).1) (fun h₁ hns hsb => ⟨lim.fresh _ hsb, ?_⟩) S.kind
  show codeAny _ _ (.func (C8.fnBody st) (envF (nfS nm q st c cc) f s.heap.objs.size)) _ _
  refine ks_codeAny_funcAt ?_
  have kp : ∀ b o, s.heap.get? b = some o → h₁.get? b = some o := fun b o e => hsb.extBut b o (Nat.ne_of_lt (Heap.lt_size e)) (Heap.get?_push_of_some _ e)
  obtain ⟨t, ht, hq⟩ := hbody A outer s H vs Q E (hr.deeper _) hsp
  have look : ∀ (y : Str) (c' : Addr), (nfS nm q st c cc).cl.lookup y = some c' → y = "__class__" ∧ c' = cc := fun y c' e => by
    have e : [((("__class__" : Str), cc) : Str × Addr)].lookup y = some c' := e
    unfold List.lookup at e
    split at e
    · rename_i z
      exact ⟨eq_of_beq z, (Option.some.inj e).symm⟩
    · cases e
  have C : CellsAt (nfS nm q st c cc).cl ["__class__"] [some (.ref D)] s.heap H := by
    refine ⟨rfl, fun y c' e => ?_, fun x y c' e1 e2 => ?_, fun i y hi => ?_⟩
    · obtain ⟨rfl, rfl⟩ := look y c' e
      exact ⟨(e0.bs _ _ (e0.mod.kin _ _ lkcc)).2, some (.ref D), ⟨_, KX _ _ lkcc, rfl⟩⟩
    · rw [(look x c' e1).1, (look y c' e2).1]
    · cases i with
      | succ i => cases hi
      | zero =>
        cases hi
        refine ⟨cc, by rfl, fun v hv => ?_⟩
        cases hv
        exact ⟨.ref D, rfl, ⟨_, KX _ _ lkcc, rfl⟩⟩
  have I : Inv (ncx C8.CX0 P w K mg base N (nfS nm q st c cc) f A outer s H E) [] (startF N vs [some (.ref D)]) H { s with heap := h₁, toks := s.toks + (ps.zip us).length } := inv_startN S hr.hd e0 hl r C hns kp
  refine ks_wpAt_mono (ht.unwish.run [] _ (startF N vs [some (.ref D)]) H _ I hq) (fun fl s' hs => ?_) fun e s' hs => hs
  have fin : ∀ {σ' : L2.St} {H' : Hp} {v : V} {u : Value}, Inv (ncx C8.CX0 P w K mg base N (nfS nm q st c cc) f A outer s H E) [] σ' H' s' → L2.RelV v u → Q v H' → CE outer P w H s Q u s' :=
    fun {σ' H' v u} J rv q => ⟨v, H', J.os, J.bare, J.base, J.hok, rv, q⟩
  cases fl with
  | ret u =>
    obtain ⟨v, σ', H', J, rv, q⟩ := hs
    exact fin J rv q
  | next =>
    obtain ⟨σ', H', J, q⟩ := hs
    exact fin (v := V.non) (u := Value.none) J rfl q
  | brk =>
    obtain ⟨_, _, _, q⟩ := hs
    exact False.elim q
  | cont =>
    obtain ⟨_, _, _, q⟩ := hs
    exact False.elim q
/-! ### the names of a text's classes that stand above one another -/
def IniS (P : Program) (K : PySem.W.Frag) (C D : Addr) (q : Str) (st : Stmt) (ps : List Str) (f : Addr) : Prop := ∃ (fd : FuncData) (c cc : Addr), Mk K C f ∧ SupD P K D "__init__" q st f c cc fd ∧ L2.Binds K fd ps []
def MethS (P : Program) (K : PySem.W.Frag) (C D : Addr) (m q : Str) (st : Stmt) (ps : List Str) (f : Addr) : Prop := ∃ (fd : FuncData) (c cc : Addr), Meth K C m f ∧ SupD P K D m q st f c cc fd ∧ L2.Binds K fd ps []
def IniA (K : PySem.W.Frag) (C : Addr) (q : Str) (st : Stmt) (ps : List Str) (f : Addr) : Prop := ∃ (fd : FuncData), Mk K C f ∧ C8.Fun K "__init__" q st f fd ∧ L2.Binds K fd ps []
def MethA (K : PySem.W.Frag) (C : Addr) (m q : Str) (st : Stmt) (ps : List Str) (f : Addr) : Prop := ∃ (fd : FuncData), Meth K C m f ∧ C8.Fun K m q st f fd ∧ L2.Binds K fd ps []
section
variable {P : Program} {K : PySem.W.Frag} {C D f c cc : Addr} {m q : Str} {st : Stmt} {ps : List Str} {oc : Value} {od an : Option Addr} {osl : Array (Option Value)} {kV doc pm cdv ct : Value}
theorem iniA_mk (mm : PySem.W.makesIn K C = true) (a : PySem.W.findIn K (.ref C) "__init__" = some (some (.ref f))) (i : PySem.W.isFn K (.ref f) = true) (kc : PySem.W.keepIn K (.ref C) = true)
    (l : K.lookup f = some ⟨oc, od, .func (PySem.W.fnOf "__init__" q (C8.fnArgs st) (C8.fnBody st) (C8.fnScope st) .none kV doc pm an cdv ct), osl⟩) (c : PySem.W.codeIn K cdv q = true)
    (hb : ∀ (kV doc pm : Value) (an : Option Addr) (cdv ct : Value) (us : List Value), us.length = ps.length → bindArgs (PySem.W.fnOf "__init__" q (C8.fnArgs st) (C8.fnBody st) (C8.fnScope st) .none kV doc pm an cdv ct) ⟨us, []⟩ = pure (ps.zip us)) : IniA K C q st ps f :=
  have F : C8.Fun K "__init__" q st f _ := ⟨⟨oc, od, _, kV, doc, pm, an, cdv, ct, osl, rfl, l, c⟩⟩
  ⟨_, ⟨mm, a, i, kc⟩, F, F.binds rfl hb⟩
theorem methA_mk (a : PySem.W.findIn K (.ref C) m = some (some (.ref f))) (i : PySem.W.isFn K (.ref f) = true)
    (l : K.lookup f = some ⟨oc, od, .func (PySem.W.fnOf m q (C8.fnArgs st) (C8.fnBody st) (C8.fnScope st) .none kV doc pm an cdv ct), osl⟩) (c : PySem.W.codeIn K cdv q = true) (k : PySem.W.keepIn K (.ref f) = true)
    (hb : ∀ (kV doc pm : Value) (an : Option Addr) (cdv ct : Value) (us : List Value), us.length = ps.length → bindArgs (PySem.W.fnOf m q (C8.fnArgs st) (C8.fnBody st) (C8.fnScope st) .none kV doc pm an cdv ct) ⟨us, []⟩ = pure (ps.zip us)) : MethA K C m q st ps f :=
  have F : C8.Fun K m q st f _ := ⟨⟨oc, od, _, kV, doc, pm, an, cdv, ct, osl, rfl, l, c⟩⟩
  ⟨_, ⟨a, i, k⟩, F, F.binds rfl hb⟩
variable {ccl cl : Value} {cdd cld : Option Addr} {vs : Array Value} {ccs csl : Array (Option Value)} {fl : Str} {tk : Tok}
theorem supD_mk (l : K.lookup f = some ⟨oc, od, .func (PySem.W.fnX m q (C8.fnArgs st) (C8.fnBody st) (C8.fnScope st) [(("__class__" : Str), cc)] .none kV doc pm an (.ref c) ct), osl⟩) (cd : PySem.W.codeIn K (.ref c) q = true)
    (lc : K.lookup c = some ⟨ccl, cdd, .fields vs, ccs⟩) (hv : vs[2]? = some (.str fl tk)) (hf : ((P.main.file : Str) == fl) = true) (lcc : K.lookup cc = some ⟨cl, cld, .cell (some (.ref D)), csl⟩) (cls : PySem.W.isClsIn K D = true)
    (glo : PySem.W.nsIn K mainGlobals "super" = some none) (top : (P.main.scope.names.lookup ("super" : Str)).isSome = false) (self : (((C8.fnArgs st).posonlyargs ++ (C8.fnArgs st).args).head?.map (·.arg)) = some ("self" : Str)) (opq : PySem.W.nsIn K cStatics "thirdparty.any" = some none)
    (ks : (C8.fnScope st).names.lookup ("super" : Str) = some .globalImplicit) (kc : (C8.fnScope st).names.lookup ("__class__" : Str) = some .free) (ka : (C8.fnScope st).names.lookup ("self" : Str) = some .local) : SupD P K D m q st f c cc (PySem.W.fnX m q (C8.fnArgs st) (C8.fnBody st) (C8.fnScope st) [(("__class__" : Str), cc)] .none kV doc pm an (.ref c) ct) :=
  ⟨⟨oc, od, an, kV, doc, pm, ct, osl, rfl, l⟩, cd, ⟨ccl, cdd, vs, ccs, fl, tk, lc, hv, hf⟩, ⟨cl, cld, csl, lcc⟩, cls, glo, top, self, opq, ks, kc, ka⟩
def CallP (K : PySem.W.Frag) (C : Addr) (q : Str) (st : Stmt) (ps : List Str) : Prop := ∃ (g : Addr) (fd : FuncData), StX.CallO K C g ∧ C8.Fun K "__call__" q st g fd ∧ L2.Binds K fd ps []
theorem callP_mk (a : PySem.W.findIn K (.ref C) "__call__" = some (some (.ref f))) (i : PySem.W.isFn K (.ref f) = true) (fi : PySem.W.fnIn K f = true)
    (l : K.lookup f = some ⟨oc, od, .func (PySem.W.fnOf "__call__" q (C8.fnArgs st) (C8.fnBody st) (C8.fnScope st) .none kV doc pm an cdv ct), osl⟩) (c : PySem.W.codeIn K cdv q = true)
    (hb : ∀ (kV doc pm : Value) (an : Option Addr) (cdv ct : Value) (us : List Value), us.length = ps.length → bindArgs (PySem.W.fnOf "__call__" q (C8.fnArgs st) (C8.fnBody st) (C8.fnScope st) .none kV doc pm an cdv ct) ⟨us, []⟩ = pure (ps.zip us)) : CallP K C q st ps :=
  have F : C8.Fun K "__call__" q st f _ := ⟨⟨oc, od, _, kV, doc, pm, an, cdv, ct, osl, rfl, l, c⟩⟩
  ⟨_, _, ⟨a, i, fi⟩, F, F.binds rfl hb⟩
theorem sup_binds (hb : ∀ (kV doc pm : Value) (an : Option Addr) (ct : Value) (us : List Value), us.length = ps.length → bindArgs (PySem.W.fnX m q (C8.fnArgs st) (C8.fnBody st) (C8.fnScope st) [(("__class__" : Str), cc)] .none kV doc pm an (.ref c) ct) ⟨us, []⟩ = pure (ps.zip us)) :
    L2.Binds K (PySem.W.fnX m q (C8.fnArgs st) (C8.fnBody st) (C8.fnScope st) [(("__class__" : Str), cc)] .none kV doc pm an (.ref c) ct) ps [] := .all fun us h => hb _ _ _ _ _ us h
end
section
variable {X : Cx} {k j : Nat} {fe e : Expr} {es : List Expr} {pos : Pos} {tf : TE} {t : TA}
/-- f(e, ..), f an expression that gives an instance of one of several classes -/
def tCallOs (X : Cx) (S : Addr → Sp → Prop) (tf : TE) (t : TA) : TE := fun σ H Q => tf σ H fun y H1 => ∃ a, y = V.ref a ∧ t σ H1 fun vs H2 => ∃ C sp, S C sp ∧ StX.InsC X H2 a C ∧ sp (V.ref a :: vs) H2 Q C8.E0
theorem pe_callOs {S : Addr → Sp → Prop} (hf : PE X fe tf) (A : ∀ C sp, S C sp → ∃ g, StX.CallO X.K C g ∧ FnR X.prog X.w X.K X.mg X.base C8.CX0 k g sp) (hr : Room j X.A) (hk : k ≤ j) (ha : PA X (e :: es) t)
    (ht : eval (.Call fe (e :: es) [] pos) X.env = (do callWith pos (← eval fe X.env) [] (backTo pos (starEach (e :: es) X.env)) (backToKw pos (keywordEach [] X.env))) := by rfl)
    (he : starEach (e :: es) X.env = (false, eval e X.env) :: starEach es X.env := by rfl) (hpl : (backTo pos (starEach es X.env)).any (·.1) = false := by rfl) : PE X (.Call fe (e :: es) [] pos) (tCallOs X S tf t) := by
  refine ⟨fun pins s σ H Q I h => ?_⟩
  refine Call_ (thn (hf.run pins s σ H _ I h) fun u s1 ⟨y, H1, I1, ry, a, ey, q⟩ => ?_) ht
  subst ey
  obtain rfl : u = Value.ref a := ry
  refine StX.callO_with (thn (ha.run pos pins s1 σ H1 _ I1 q) fun us s2 ⟨vs, H2, I2, r, C, sp, hS, hi, q2⟩ => ?_) he hpl
  obtain ⟨g, c, F⟩ := A C sp hS
  obtain ⟨ox, od, J, hd⟩ := StX.insC_at I2 hi
  exact ⟨⟨C, ox, od, J, hd⟩, StX.run_callO c F (hr.mono hk) (C8.pass0 (E := C8.E0)) I2 hi r q2⟩
end
/-- a text of a class, read through an instance; read off the class -/
def ConS (K : PySem.W.Frag) (C : Addr) (x s : Str) : Prop := ∃ u, Con K C x (.str s) u
def CVaS (K : PySem.W.Frag) (C : Addr) (x s : Str) : Prop := ∃ mc u, CRead K C mc ∧ CVal K C mc x (.str s) u
theorem conS_mk {K : PySem.W.Frag} {C : Addr} {x s : Str} {tk : Tok} (a : PySem.W.findIn K (.ref C) x = some (some (.str s tk))) (g : PySem.W.specialIn K (.str s tk) "__get__" = some none) (cp : PySem.W.copiedNames.contains x = false) : ConS K C x s := ⟨.str s tk, a, ⟨_, rfl⟩, g, cp⟩
theorem cvaS_mk {K : PySem.W.Frag} {C : Addr} {x s : Str} {mc : Value} {tk : Tok} (rd : PySem.W.readsIn K C mc = true) (ga : PySem.W.specialIn K (.ref C) "__getattribute__" = some (some (.builtin "type.__getattribute__"))) (a : PySem.W.findCls K (.ref C) mc x = some (.val (.str s tk))) : CVaS K C x s := ⟨mc, .str s tk, ⟨rd, ga⟩, ⟨a, ⟨_, rfl⟩⟩⟩
/-- one of several readings -/
theorem pe_ex {X : Cx} {e : Expr} {ι : Type} {R : ι → Prop} {t : ι → TE} (h : ∀ i, R i → PE X e (t i)) : PE X e (fun σ H Q => ∃ i, R i ∧ t i σ H Q) := ⟨fun pins s σ H Q I ⟨i, r, q⟩ => (h i r).run pins s σ H Q I q⟩
end SupO

set_option Elab.async false
set_option maxRecDepth 100000
set_option maxHeartbeats 4000000
/-! d.setdefault(k, x), k a tuple of whole numbers and texts -/
namespace SetD
open PySem PySem.Spec PyProof.Rows L2
section
variable {X : Cx} {pins : List (Addr × Obj)} {σ : L2.St} {H : Hp} {s : Shared} {a b : Addr} {r : Value} {d : V} {k : List Key} {A : Around} {E : Value → Shared → Prop}
theorem d_setdT {kvs : List (List Key × V)} {Q : Value → Shared → Prop} (hu : A.units + 1 < cLine) (I : Inv X pins σ H s) (e : H a = some (.dT kvs)) (eb : H b = some (.tup (k.map kV))) (rd : RelV d r) (hl : kvs.length < sizeLine)
    (h1 : ∀ v, valV kvs k = some v → ∀ (w' : Value) (s' : Shared), Inv X pins σ H s' → RelV v w' → Q w' s') (h2 : valV kvs k = none → ∀ (w' : Value) (s' : Shared), Inv X pins σ (upd H a (.dT (putK kvs k d))) s' → RelV d w' → Q w' s') :
    wpAny (model X.prog X.w) A (call (.builtin "dict.setdefault") [.ref a, .ref b, r]) Q E s := by
  obtain ⟨z, hd, xs, rel, dd⟩ := dt_of I.hok e
  have hz : xs.length ≤ sizeLine := by rw [← Paired.length rel]; exact z
  refine call_setdefault_heap (knd := tupleKind (mixKind X.prog X.w)) (k := k) (tupleKind_room_in1 hu) (key_of I.hok eb) hd dd (fun p hp => ?_) (fun hn h' dd' hs => ?_) (hsz := hz)
  · have q := rel.val k
    rw [hp] at q
    cases q0 : valV kvs k with
    | none => rw [q0] at q; exact (show False from q).elim
    | some v0 => rw [q0] at q; exact h1 v0 q0 _ _ (I.tok _) q
  · have q := rel.val k
    rw [hn] at q
    cases q0 : valV kvs k with
    | some v0 => rw [q0] at q; exact (show False from q).elim
    | none =>
      have hl2 : (putK kvs k d).length ≤ sizeLine := by have := length_putK kvs k d; omega
      obtain ⟨o, es, ep, hq, g2, g3, g4, _, g5⟩ := dd'
      refine h2 q0 _ _ (d_write I (by rw [e]; exact True.intro) hs ⟨o, hq⟩ ⟨hl2, hd, _, (rel.put k eb rd).keeps fun c ys ec => ?_, o, es, ep, hq, g2, g3, g4, g5⟩) rd
      rw [upd_ne (ne_of ec e (fun z => nomatch z))]
      exact ec
end
/-- d.setdefault(y, z) -/
def tDSetdT (td ty tx : TE) : TE := fun σ H Q => td σ H fun x H1 => ∃ a, x = .ref a ∧ IsD H1 a ∧ ty σ H1 fun y H2 => tx σ H2 fun z H3 => ∃ (kvs : List (List Key × V)) (k : List Key) (b : Addr), H3 a = some (.dT kvs) ∧ y = .ref b ∧ H3 b = some (.tup (k.map kV)) ∧ kvs.length < sizeLine ∧
  (∀ v, valV kvs k = some v → Q v H3) ∧ (valV kvs k = none → Q z (upd H3 a (.dT (putK kvs k z))))
section
variable {X : Cx} {o e f : Expr} {td ty tx : TE} {apos cpos : Pos}
theorem pe_dsetdT (hu : X.A.units + 1 < cLine) (ho : PE X o td) (he : PE X e ty) (hf : PE X f tx) (m : M2 X o "setdefault" apos e f cpos) : PE X (.Call (.Attribute o "setdefault" apos) [e, f] [] cpos) (tDSetdT td ty tx) := by
  refine ⟨fun pins s σ H Q I h => ?_⟩
  refine wpAny_Call_method m.base m.few m.line PySem.F.plainAttrs_dict PySem.F.slot_dict_setdefault PySem.F.type_dict_setdefault (thn (ho.run pins s σ H _ I h) fun u s1 ⟨x, H1, I1, rx, a, ex, d, q1⟩ => ?_)
  subst ex
  obtain rfl : u = Value.ref a := rx
  obtain ⟨t1, t2, _⟩ := isD_at I1 d
  refine ⟨t1, t2, ?_⟩
  rw [m.trees]
  refine Calls.callWith_builtin rfl (Calls.evalArgs_plain (Calls.spliced_cons (thn (he.run pins s1 σ H1 _ I1 q1) fun iv s2 ⟨y, H2, I2, ry, q2⟩ =>
    Calls.spliced_cons (thn (hf.run pins s2 σ H2 _ I2 q2) fun fv s3 ⟨z, H3, I3, rz, kvs, k, b, ea, ey, eb, hl, q3, q4⟩ => Calls.spliced_nil ?_))))
  subst ey
  obtain rfl : iv = Value.ref b := ry
  exact d_setdT hu I3 ea eb rz hl (fun v hv w' s4 I4 rw' => ⟨v, _, I4, rw', q3 v hv⟩) fun hn w' s4 I4 rw' => ⟨z, _, I4, rw', q4 hn⟩
end
end SetD



set_option Elab.async false
set_option maxRecDepth 100000
set_option maxHeartbeats 4000000
namespace K04
open PySem PySem.Spec PyProof.Rows L2 C8 LamX UF

def top (i : Nat) : Stmt := PySem.Challenge.pw_livingroll_k04_letters_tell_their_parts.main.body.getD i (.Pass ⟨0, 0, 0, 0⟩)

abbrev s_law_bag : Stmt := top 8
abbrev n_law_bag : List Str := ["script", "cells", "cell"]
theorem sc_law_bag : FnScope n_law_bag ["script"] (C8.fnScope s_law_bag) := ⟨rfl, rfl, rfl, by decide +kernel, rfl, by decide +kernel, by decide +kernel⟩

abbrev s_law_draw : Stmt := top 9
abbrev n_law_draw : List Str := ["bag", "many", "cells", "cell", "digit", "one", "two", "three"]
theorem sc_law_draw : FnScope n_law_draw ["bag", "many"] (C8.fnScope s_law_draw) := ⟨rfl, rfl, rfl, by decide +kernel, rfl, by decide +kernel, by decide +kernel⟩

abbrev s_law_number : Stmt := top 10
abbrev n_law_number : List Str := ["bag", "most", "way", "wide"]
theorem sc_law_number : FnScope n_law_number ["bag", "most"] (C8.fnScope s_law_number) := ⟨rfl, rfl, rfl, by decide +kernel, rfl, by decide +kernel, by decide +kernel⟩

abbrev s_law_count : Stmt := top 11
abbrev n_law_count : List Str := ["bag", "most", "way"]
theorem sc_law_count : FnScope n_law_count ["bag", "most"] (C8.fnScope s_law_count) := ⟨rfl, rfl, rfl, by decide +kernel, rfl, by decide +kernel, by decide +kernel⟩

abbrev s_law_worth : Stmt := top 12
abbrev n_law_worth : List Str := ["bag", "way", "signs", "k"]
theorem sc_law_worth : FnScope n_law_worth ["bag"] (C8.fnScope s_law_worth) := ⟨rfl, rfl, rfl, by decide +kernel, rfl, by decide +kernel, by decide +kernel⟩

abbrev s_law_saying : Stmt := top 13
abbrev n_law_saying : List Str := ["bag", "bits", "seat", "life", "mark"]
theorem sc_law_saying : FnScope n_law_saying ["bag", "bits"] (C8.fnScope s_law_saying) := ⟨rfl, rfl, rfl, by decide +kernel, rfl, by decide +kernel, by decide +kernel⟩

abbrev s_law_range_sum : Stmt := top 14
abbrev n_law_range_sum : List Str := ["bag", "bits", "width", "low", "most"]
theorem sc_law_range_sum : FnScope n_law_range_sum ["bag", "bits"] (C8.fnScope s_law_range_sum) := ⟨rfl, rfl, rfl, by decide +kernel, rfl, by decide +kernel, by decide +kernel⟩

abbrev s_law_sayings : Stmt := top 15
abbrev n_law_sayings : List Str := ["bag", "bits", "count", "sayings", "place", "k"]
theorem sc_law_sayings : FnScope n_law_sayings ["bag", "bits", "count"] (C8.fnScope s_law_sayings) := ⟨rfl, rfl, rfl, by decide +kernel, rfl, by decide +kernel, by decide +kernel⟩

abbrev s_law_same : Stmt := top 16
abbrev n_law_same : List Str := ["found", "wanted", "k"]
theorem sc_law_same : FnScope n_law_same ["found", "wanted"] (C8.fnScope s_law_same) := ⟨rfl, rfl, rfl, by decide +kernel, rfl, by decide +kernel, by decide +kernel⟩

abbrev s_law_words : Stmt := top 17
abbrev n_law_words : List Str := ["row", "words"]
theorem sc_law_words : FnScope n_law_words ["row"] (C8.fnScope s_law_words) := ⟨rfl, rfl, rfl, by decide +kernel, rfl, by decide +kernel, by decide +kernel⟩

abbrev s_law_fields : Stmt := top 18
abbrev n_law_fields : List Str := ["message", "row", "values"]
theorem sc_law_fields : FnScope n_law_fields ["message", "row"] (C8.fnScope s_law_fields) := ⟨rfl, rfl, rfl, by decide +kernel, rfl, by decide +kernel, by decide +kernel⟩

abbrev s_law_made : Stmt := top 19
abbrev n_law_made : List Str := ["row", "sayings", "sums"]
theorem sc_law_made : FnScope n_law_made ["row", "sayings", "sums"] (C8.fnScope s_law_made) := ⟨rfl, rfl, rfl, by decide +kernel, rfl, by decide +kernel, by decide +kernel⟩

abbrev s_law_rows : Stmt := top 20
abbrev n_law_rows : List Str := ["bag", "bits", "caller", "called", "beat", "number", "sayings", "sums", "about", "reached", "position", "more", "base", "k"]
theorem sc_law_rows : FnScope n_law_rows ["bag", "bits"] (C8.fnScope s_law_rows) := ⟨rfl, rfl, rfl, by decide +kernel, rfl, by decide +kernel, by decide +kernel⟩

abbrev s_law_fits : Stmt := top 21
abbrev n_law_fits : List Str := ["message", "row", "count", "words"]
theorem sc_law_fits : FnScope n_law_fits ["message", "row"] (C8.fnScope s_law_fits) := ⟨rfl, rfl, rfl, by decide +kernel, rfl, by decide +kernel, by decide +kernel⟩

abbrev s_law : Stmt := top 22
abbrev n_law : List Str := ["script", "bag", "kinds", "class_values", "messages", "wanted", "k", "drawn", "sayings", "sums", "row"]
theorem sc_law : FnScope n_law ["script"] (C8.fnScope s_law) := ⟨rfl, rfl, rfl, by decide +kernel, rfl, by decide +kernel, by decide +kernel⟩

abbrev s_Letter__init : Stmt := inClass (top 1) 1
abbrev n_Letter__init : List Str := ["self", "sender", "receiver", "beat", "number", "sayings"]
theorem sc_Letter__init : FnScope n_Letter__init ["self", "sender", "receiver", "beat", "number", "sayings"] (C8.fnScope s_Letter__init) := ⟨rfl, rfl, rfl, by decide +kernel, rfl, by decide +kernel, by decide +kernel⟩

abbrev s_Letter_size : Stmt := inClass (top 1) 2
abbrev n_Letter_size : List Str := ["self"]
theorem sc_Letter_size : FnScope n_Letter_size ["self"] (C8.fnScope s_Letter_size) := ⟨rfl, rfl, rfl, by decide +kernel, rfl, by decide +kernel, by decide +kernel⟩

abbrev s_Letter_head : Stmt := inClass (top 1) 3
abbrev n_Letter_head : List Str := ["self", "numbers", "number"]
theorem sc_Letter_head : FnScope n_Letter_head ["self"] (C8.fnScope s_Letter_head) := ⟨rfl, rfl, rfl, by decide +kernel, rfl, by decide +kernel, by decide +kernel⟩

abbrev s_Letter_parts : Stmt := inClass (top 1) 4
abbrev n_Letter_parts : List Str := ["self"]
theorem sc_Letter_parts : FnScope n_Letter_parts ["self"] (C8.fnScope s_Letter_parts) := ⟨rfl, rfl, rfl, by decide +kernel, rfl, by decide +kernel, by decide +kernel⟩

abbrev s_Ask_size : Stmt := inClass (top 2) 1
abbrev n_Ask_size : List Str := ["self"]
theorem sc_Ask_size : FnScope n_Ask_size ["self"] (C8.fnScope s_Ask_size) := ⟨rfl, rfl, rfl, by decide +kernel, rfl, by decide +kernel, by decide +kernel⟩

abbrev s_Ask_head : Stmt := inClass (top 2) 2
abbrev n_Ask_head : List Str := ["self", "__class__"]
theorem sc_Ask_head : NdefX.NScope n_Ask_head ["self"] ["__class__"] (C8.fnScope s_Ask_head) := NdefX.nscope_by (by decide +kernel)

abbrev s_Ask_parts : Stmt := inClass (top 2) 3
abbrev n_Ask_parts : List Str := ["self", "__class__"]
theorem sc_Ask_parts : NdefX.NScope n_Ask_parts ["self"] ["__class__"] (C8.fnScope s_Ask_parts) := NdefX.nscope_by (by decide +kernel)

abbrev s_Answer_size : Stmt := inClass (top 3) 1
abbrev n_Answer_size : List Str := ["self"]
theorem sc_Answer_size : FnScope n_Answer_size ["self"] (C8.fnScope s_Answer_size) := ⟨rfl, rfl, rfl, by decide +kernel, rfl, by decide +kernel, by decide +kernel⟩

abbrev s_Answer_head : Stmt := inClass (top 3) 2
abbrev n_Answer_head : List Str := ["self", "__class__"]
theorem sc_Answer_head : NdefX.NScope n_Answer_head ["self"] ["__class__"] (C8.fnScope s_Answer_head) := NdefX.nscope_by (by decide +kernel)

abbrev s_Answer_parts : Stmt := inClass (top 3) 3
abbrev n_Answer_parts : List Str := ["self", "__class__"]
theorem sc_Answer_parts : NdefX.NScope n_Answer_parts ["self"] ["__class__"] (C8.fnScope s_Answer_parts) := NdefX.nscope_by (by decide +kernel)

abbrev s_Probe__init : Stmt := inClass (top 4) 1
abbrev n_Probe__init : List Str := ["self", "sender", "receiver", "beat", "number", "sayings", "about", "__class__"]
theorem sc_Probe__init : NdefX.NScope n_Probe__init ["self", "sender", "receiver", "beat", "number", "sayings", "about"] ["__class__"] (C8.fnScope s_Probe__init) := NdefX.nscope_by (by decide +kernel)

abbrev s_Probe_size : Stmt := inClass (top 4) 2
abbrev n_Probe_size : List Str := ["self"]
theorem sc_Probe_size : FnScope n_Probe_size ["self"] (C8.fnScope s_Probe_size) := ⟨rfl, rfl, rfl, by decide +kernel, rfl, by decide +kernel, by decide +kernel⟩

abbrev s_Probe_head : Stmt := inClass (top 4) 3
abbrev n_Probe_head : List Str := ["self", "__class__"]
theorem sc_Probe_head : NdefX.NScope n_Probe_head ["self"] ["__class__"] (C8.fnScope s_Probe_head) := NdefX.nscope_by (by decide +kernel)

abbrev s_Probe_parts : Stmt := inClass (top 4) 4
abbrev n_Probe_parts : List Str := ["self", "__class__"]
theorem sc_Probe_parts : NdefX.NScope n_Probe_parts ["self"] ["__class__"] (C8.fnScope s_Probe_parts) := NdefX.nscope_by (by decide +kernel)

abbrev s_Probed__init : Stmt := inClass (top 5) 1
abbrev n_Probed__init : List Str := ["self", "sender", "receiver", "beat", "number", "sayings", "about", "reached", "__class__"]
theorem sc_Probed__init : NdefX.NScope n_Probed__init ["self", "sender", "receiver", "beat", "number", "sayings", "about", "reached"] ["__class__"] (C8.fnScope s_Probed__init) := NdefX.nscope_by (by decide +kernel)

abbrev s_Probed_size : Stmt := inClass (top 5) 2
abbrev n_Probed_size : List Str := ["self"]
theorem sc_Probed_size : FnScope n_Probed_size ["self"] (C8.fnScope s_Probed_size) := ⟨rfl, rfl, rfl, by decide +kernel, rfl, by decide +kernel, by decide +kernel⟩

abbrev s_Probed_head : Stmt := inClass (top 5) 3
abbrev n_Probed_head : List Str := ["self", "__class__"]
theorem sc_Probed_head : NdefX.NScope n_Probed_head ["self"] ["__class__"] (C8.fnScope s_Probed_head) := NdefX.nscope_by (by decide +kernel)

abbrev s_Probed_parts : Stmt := inClass (top 5) 4
abbrev n_Probed_parts : List Str := ["self", "__class__"]
theorem sc_Probed_parts : NdefX.NScope n_Probed_parts ["self"] ["__class__"] (C8.fnScope s_Probed_parts) := NdefX.nscope_by (by decide +kernel)

abbrev s_Sums__init : Stmt := inClass (top 6) 1
abbrev n_Sums__init : List Str := ["self", "sender", "receiver", "beat", "number", "sayings", "sums", "position", "more", "__class__"]
theorem sc_Sums__init : NdefX.NScope n_Sums__init ["self", "sender", "receiver", "beat", "number", "sayings", "sums", "position", "more"] ["__class__"] (C8.fnScope s_Sums__init) := NdefX.nscope_by (by decide +kernel)

abbrev s_Sums_size : Stmt := inClass (top 6) 2
abbrev n_Sums_size : List Str := ["self"]
theorem sc_Sums_size : FnScope n_Sums_size ["self"] (C8.fnScope s_Sums_size) := ⟨rfl, rfl, rfl, by decide +kernel, rfl, by decide +kernel, by decide +kernel⟩

abbrev s_Sums_head : Stmt := inClass (top 6) 3
abbrev n_Sums_head : List Str := ["self", "__class__"]
theorem sc_Sums_head : NdefX.NScope n_Sums_head ["self"] ["__class__"] (C8.fnScope s_Sums_head) := NdefX.nscope_by (by decide +kernel)

abbrev s_Sums_parts : Stmt := inClass (top 6) 4
abbrev n_Sums_parts : List Str := ["self", "__class__"]
theorem sc_Sums_parts : NdefX.NScope n_Sums_parts ["self"] ["__class__"] (C8.fnScope s_Sums_parts) := NdefX.nscope_by (by decide +kernel)

structure T_Letter (P : Program) (K : PySem.W.Frag) (mg : Str → Option Value) (C_Letter f_Letter_init f_Letter_head f_Letter_parts : Addr) : Prop where
  cl : Cls K C_Letter
  mgC : mg "Letter" = some (.ref C_Letter)
  n_sender : NoAttr K C_Letter "sender"
  n_receiver : NoAttr K C_Letter "receiver"
  n_beat : NoAttr K C_Letter "beat"
  n_number : NoAttr K C_Letter "number"
  n_sayings : NoAttr K C_Letter "sayings"
  k_KIND : SupO.ConS K C_Letter "KIND" ""
  v_KIND : SupO.CVaS K C_Letter "KIND" ""
  ini : SupO.IniA K C_Letter "Letter.__init__" s_Letter__init ["self", "sender", "receiver", "beat", "number", "sayings"] f_Letter_init
  p_size : PropP K C_Letter "size" "Letter.size" s_Letter_size
  m_head : SupO.MethA K C_Letter "head" "Letter.head" s_Letter_head ["self"] f_Letter_head
  m_parts : SupO.MethA K C_Letter "parts" "Letter.parts" s_Letter_parts ["self"] f_Letter_parts
  oc : PySem.W.findIn K (.ref C_Letter) "__class__" = some (some (.builtin "object.__class__"))
  mo : PySem.W.mroIn K C_Letter (.type "object") = some true

structure T_Ask (P : Program) (K : PySem.W.Frag) (mg : Str → Option Value) (C_Ask f_Letter_init f_Letter_head f_Letter_parts f_Ask_head f_Ask_parts : Addr) : Prop where
  cl : Cls K C_Ask
  mgC : mg "Ask" = some (.ref C_Ask)
  n_sender : NoAttr K C_Ask "sender"
  n_receiver : NoAttr K C_Ask "receiver"
  n_beat : NoAttr K C_Ask "beat"
  n_number : NoAttr K C_Ask "number"
  n_sayings : NoAttr K C_Ask "sayings"
  k_KIND : SupO.ConS K C_Ask "KIND" "ask"
  v_KIND : SupO.CVaS K C_Ask "KIND" "ask"
  p_size : PropP K C_Ask "size" "Ask.size" s_Ask_size
  m_head : SupO.MethS P K C_Ask C_Ask "head" "Ask.head" s_Ask_head ["self"] f_Ask_head
  m_parts : SupO.MethS P K C_Ask C_Ask "parts" "Ask.parts" s_Ask_parts ["self"] f_Ask_parts
  ini : SupO.IniA K C_Ask "Letter.__init__" s_Letter__init ["self", "sender", "receiver", "beat", "number", "sayings"] f_Letter_init
  u_Ask_head : SupO.SupT K C_Ask C_Ask "head" f_Letter_head
  u_Ask_parts : SupO.SupT K C_Ask C_Ask "parts" f_Letter_parts
  oc : PySem.W.findIn K (.ref C_Ask) "__class__" = some (some (.builtin "object.__class__"))
  mo : PySem.W.mroIn K C_Ask (.type "object") = some true

structure T_Answer (P : Program) (K : PySem.W.Frag) (mg : Str → Option Value) (C_Answer f_Letter_init f_Letter_head f_Letter_parts f_Answer_head f_Answer_parts : Addr) : Prop where
  cl : Cls K C_Answer
  mgC : mg "Answer" = some (.ref C_Answer)
  n_sender : NoAttr K C_Answer "sender"
  n_receiver : NoAttr K C_Answer "receiver"
  n_beat : NoAttr K C_Answer "beat"
  n_number : NoAttr K C_Answer "number"
  n_sayings : NoAttr K C_Answer "sayings"
  k_KIND : SupO.ConS K C_Answer "KIND" "answer"
  v_KIND : SupO.CVaS K C_Answer "KIND" "answer"
  p_size : PropP K C_Answer "size" "Answer.size" s_Answer_size
  m_head : SupO.MethS P K C_Answer C_Answer "head" "Answer.head" s_Answer_head ["self"] f_Answer_head
  m_parts : SupO.MethS P K C_Answer C_Answer "parts" "Answer.parts" s_Answer_parts ["self"] f_Answer_parts
  ini : SupO.IniA K C_Answer "Letter.__init__" s_Letter__init ["self", "sender", "receiver", "beat", "number", "sayings"] f_Letter_init
  u_Answer_head : SupO.SupT K C_Answer C_Answer "head" f_Letter_head
  u_Answer_parts : SupO.SupT K C_Answer C_Answer "parts" f_Letter_parts
  oc : PySem.W.findIn K (.ref C_Answer) "__class__" = some (some (.builtin "object.__class__"))
  mo : PySem.W.mroIn K C_Answer (.type "object") = some true

structure T_Probe (P : Program) (K : PySem.W.Frag) (mg : Str → Option Value) (C_Probe f_Letter_init f_Letter_head f_Letter_parts f_Probe_init f_Probe_head f_Probe_parts : Addr) : Prop where
  cl : Cls K C_Probe
  mgC : mg "Probe" = some (.ref C_Probe)
  n_about : NoAttr K C_Probe "about"
  n_sender : NoAttr K C_Probe "sender"
  n_receiver : NoAttr K C_Probe "receiver"
  n_beat : NoAttr K C_Probe "beat"
  n_number : NoAttr K C_Probe "number"
  n_sayings : NoAttr K C_Probe "sayings"
  k_KIND : SupO.ConS K C_Probe "KIND" "probe"
  v_KIND : SupO.CVaS K C_Probe "KIND" "probe"
  ini : SupO.IniS P K C_Probe C_Probe "Probe.__init__" s_Probe__init ["self", "sender", "receiver", "beat", "number", "sayings", "about"] f_Probe_init
  p_size : PropP K C_Probe "size" "Probe.size" s_Probe_size
  m_head : SupO.MethS P K C_Probe C_Probe "head" "Probe.head" s_Probe_head ["self"] f_Probe_head
  m_parts : SupO.MethS P K C_Probe C_Probe "parts" "Probe.parts" s_Probe_parts ["self"] f_Probe_parts
  u_Probe_init : SupO.SupT K C_Probe C_Probe "__init__" f_Letter_init
  u_Probe_head : SupO.SupT K C_Probe C_Probe "head" f_Letter_head
  u_Probe_parts : SupO.SupT K C_Probe C_Probe "parts" f_Letter_parts
  oc : PySem.W.findIn K (.ref C_Probe) "__class__" = some (some (.builtin "object.__class__"))
  mo : PySem.W.mroIn K C_Probe (.type "object") = some true

structure T_Probed (P : Program) (K : PySem.W.Frag) (mg : Str → Option Value) (C_Probed f_Letter_init f_Letter_head f_Letter_parts f_Probed_init f_Probed_head f_Probed_parts : Addr) : Prop where
  cl : Cls K C_Probed
  mgC : mg "Probed" = some (.ref C_Probed)
  n_about : NoAttr K C_Probed "about"
  n_reached : NoAttr K C_Probed "reached"
  n_sender : NoAttr K C_Probed "sender"
  n_receiver : NoAttr K C_Probed "receiver"
  n_beat : NoAttr K C_Probed "beat"
  n_number : NoAttr K C_Probed "number"
  n_sayings : NoAttr K C_Probed "sayings"
  k_KIND : SupO.ConS K C_Probed "KIND" "probed"
  v_KIND : SupO.CVaS K C_Probed "KIND" "probed"
  ini : SupO.IniS P K C_Probed C_Probed "Probed.__init__" s_Probed__init ["self", "sender", "receiver", "beat", "number", "sayings", "about", "reached"] f_Probed_init
  p_size : PropP K C_Probed "size" "Probed.size" s_Probed_size
  m_head : SupO.MethS P K C_Probed C_Probed "head" "Probed.head" s_Probed_head ["self"] f_Probed_head
  m_parts : SupO.MethS P K C_Probed C_Probed "parts" "Probed.parts" s_Probed_parts ["self"] f_Probed_parts
  u_Probed_init : SupO.SupT K C_Probed C_Probed "__init__" f_Letter_init
  u_Probed_head : SupO.SupT K C_Probed C_Probed "head" f_Letter_head
  u_Probed_parts : SupO.SupT K C_Probed C_Probed "parts" f_Letter_parts
  oc : PySem.W.findIn K (.ref C_Probed) "__class__" = some (some (.builtin "object.__class__"))
  mo : PySem.W.mroIn K C_Probed (.type "object") = some true

structure T_Sums (P : Program) (K : PySem.W.Frag) (mg : Str → Option Value) (C_Sums f_Letter_init f_Letter_head f_Letter_parts f_Sums_init f_Sums_head f_Sums_parts : Addr) : Prop where
  cl : Cls K C_Sums
  mgC : mg "Sums" = some (.ref C_Sums)
  n_sums : NoAttr K C_Sums "sums"
  n_position : NoAttr K C_Sums "position"
  n_more : NoAttr K C_Sums "more"
  n_sender : NoAttr K C_Sums "sender"
  n_receiver : NoAttr K C_Sums "receiver"
  n_beat : NoAttr K C_Sums "beat"
  n_number : NoAttr K C_Sums "number"
  n_sayings : NoAttr K C_Sums "sayings"
  k_KIND : SupO.ConS K C_Sums "KIND" "sums"
  v_KIND : SupO.CVaS K C_Sums "KIND" "sums"
  ini : SupO.IniS P K C_Sums C_Sums "Sums.__init__" s_Sums__init ["self", "sender", "receiver", "beat", "number", "sayings", "sums", "position", "more"] f_Sums_init
  p_size : PropP K C_Sums "size" "Sums.size" s_Sums_size
  m_head : SupO.MethS P K C_Sums C_Sums "head" "Sums.head" s_Sums_head ["self"] f_Sums_head
  m_parts : SupO.MethS P K C_Sums C_Sums "parts" "Sums.parts" s_Sums_parts ["self"] f_Sums_parts
  u_Sums_init : SupO.SupT K C_Sums C_Sums "__init__" f_Letter_init
  u_Sums_head : SupO.SupT K C_Sums C_Sums "head" f_Letter_head
  u_Sums_parts : SupO.SupT K C_Sums C_Sums "parts" f_Letter_parts
  oc : PySem.W.findIn K (.ref C_Sums) "__class__" = some (some (.builtin "object.__class__"))
  mo : PySem.W.mroIn K C_Sums (.type "object") = some true

structure Ds (P : Program) (K : PySem.W.Frag) (mg : Str → Option Value) (C_Letter C_Ask C_Answer C_Probe C_Probed C_Sums f_Letter_init f_Letter_head f_Letter_parts f_Ask_head f_Ask_parts f_Answer_head f_Answer_parts f_Probe_init f_Probe_head f_Probe_parts f_Probed_init f_Probed_head f_Probed_parts f_Sums_init f_Sums_head f_Sums_parts : Addr) : Prop where
  d_law_bag : D0 K mg "_law_bag" s_law_bag ["script"]
  d_law_draw : D0 K mg "_law_draw" s_law_draw ["bag", "many"]
  d_law_number : D0 K mg "_law_number" s_law_number ["bag", "most"]
  d_law_count : D0 K mg "_law_count" s_law_count ["bag", "most"]
  d_law_worth : D0 K mg "_law_worth" s_law_worth ["bag"]
  d_law_saying : D0 K mg "_law_saying" s_law_saying ["bag", "bits"]
  d_law_range_sum : D0 K mg "_law_range_sum" s_law_range_sum ["bag", "bits"]
  d_law_sayings : D0 K mg "_law_sayings" s_law_sayings ["bag", "bits", "count"]
  d_law_same : D0 K mg "_law_same" s_law_same ["found", "wanted"]
  d_law_words : D0 K mg "_law_words" s_law_words ["row"]
  d_law_fields : D0 K mg "_law_fields" s_law_fields ["message", "row"]
  d_law_made : D0 K mg "_law_made" s_law_made ["row", "sayings", "sums"]
  d_law_rows : D0 K mg "_law_rows" s_law_rows ["bag", "bits"]
  d_law_fits : D0 K mg "_law_fits" s_law_fits ["message", "row"]
  ocg : PySem.W.specialIn K (.builtin "object.__class__") "__get__" = some (some (.builtin "getset_descriptor.__get__"))
  oct : PySem.W.takesIn K (.builtin "object.__class__") = some true
  is_Letter_Letter : PySem.W.kitOne K (.ref C_Letter) (.ref C_Letter) = some true
  is_Letter_Ask : PySem.W.kitOne K (.ref C_Letter) (.ref C_Ask) = some false
  is_Letter_Answer : PySem.W.kitOne K (.ref C_Letter) (.ref C_Answer) = some false
  is_Letter_Probe : PySem.W.kitOne K (.ref C_Letter) (.ref C_Probe) = some false
  is_Letter_Probed : PySem.W.kitOne K (.ref C_Letter) (.ref C_Probed) = some false
  is_Letter_Sums : PySem.W.kitOne K (.ref C_Letter) (.ref C_Sums) = some false
  t_Letter : T_Letter P K mg C_Letter f_Letter_init f_Letter_head f_Letter_parts
  is_Ask_Letter : PySem.W.kitOne K (.ref C_Ask) (.ref C_Letter) = some true
  is_Ask_Ask : PySem.W.kitOne K (.ref C_Ask) (.ref C_Ask) = some true
  is_Ask_Answer : PySem.W.kitOne K (.ref C_Ask) (.ref C_Answer) = some false
  is_Ask_Probe : PySem.W.kitOne K (.ref C_Ask) (.ref C_Probe) = some false
  is_Ask_Probed : PySem.W.kitOne K (.ref C_Ask) (.ref C_Probed) = some false
  is_Ask_Sums : PySem.W.kitOne K (.ref C_Ask) (.ref C_Sums) = some false
  t_Ask : T_Ask P K mg C_Ask f_Letter_init f_Letter_head f_Letter_parts f_Ask_head f_Ask_parts
  is_Answer_Letter : PySem.W.kitOne K (.ref C_Answer) (.ref C_Letter) = some true
  is_Answer_Ask : PySem.W.kitOne K (.ref C_Answer) (.ref C_Ask) = some false
  is_Answer_Answer : PySem.W.kitOne K (.ref C_Answer) (.ref C_Answer) = some true
  is_Answer_Probe : PySem.W.kitOne K (.ref C_Answer) (.ref C_Probe) = some false
  is_Answer_Probed : PySem.W.kitOne K (.ref C_Answer) (.ref C_Probed) = some false
  is_Answer_Sums : PySem.W.kitOne K (.ref C_Answer) (.ref C_Sums) = some false
  t_Answer : T_Answer P K mg C_Answer f_Letter_init f_Letter_head f_Letter_parts f_Answer_head f_Answer_parts
  is_Probe_Letter : PySem.W.kitOne K (.ref C_Probe) (.ref C_Letter) = some true
  is_Probe_Ask : PySem.W.kitOne K (.ref C_Probe) (.ref C_Ask) = some false
  is_Probe_Answer : PySem.W.kitOne K (.ref C_Probe) (.ref C_Answer) = some false
  is_Probe_Probe : PySem.W.kitOne K (.ref C_Probe) (.ref C_Probe) = some true
  is_Probe_Probed : PySem.W.kitOne K (.ref C_Probe) (.ref C_Probed) = some false
  is_Probe_Sums : PySem.W.kitOne K (.ref C_Probe) (.ref C_Sums) = some false
  t_Probe : T_Probe P K mg C_Probe f_Letter_init f_Letter_head f_Letter_parts f_Probe_init f_Probe_head f_Probe_parts
  is_Probed_Letter : PySem.W.kitOne K (.ref C_Probed) (.ref C_Letter) = some true
  is_Probed_Ask : PySem.W.kitOne K (.ref C_Probed) (.ref C_Ask) = some false
  is_Probed_Answer : PySem.W.kitOne K (.ref C_Probed) (.ref C_Answer) = some false
  is_Probed_Probe : PySem.W.kitOne K (.ref C_Probed) (.ref C_Probe) = some false
  is_Probed_Probed : PySem.W.kitOne K (.ref C_Probed) (.ref C_Probed) = some true
  is_Probed_Sums : PySem.W.kitOne K (.ref C_Probed) (.ref C_Sums) = some false
  t_Probed : T_Probed P K mg C_Probed f_Letter_init f_Letter_head f_Letter_parts f_Probed_init f_Probed_head f_Probed_parts
  is_Sums_Letter : PySem.W.kitOne K (.ref C_Sums) (.ref C_Letter) = some true
  is_Sums_Ask : PySem.W.kitOne K (.ref C_Sums) (.ref C_Ask) = some false
  is_Sums_Answer : PySem.W.kitOne K (.ref C_Sums) (.ref C_Answer) = some false
  is_Sums_Probe : PySem.W.kitOne K (.ref C_Sums) (.ref C_Probe) = some false
  is_Sums_Probed : PySem.W.kitOne K (.ref C_Sums) (.ref C_Probed) = some false
  is_Sums_Sums : PySem.W.kitOne K (.ref C_Sums) (.ref C_Sums) = some true
  t_Sums : T_Sums P K mg C_Sums f_Letter_init f_Letter_head f_Letter_parts f_Sums_init f_Sums_head f_Sums_parts
end K04

set_option Elab.async false
set_option maxRecDepth 100000
set_option maxHeartbeats 4000000
set_option exponentiation.threshold 4096
set_option linter.unusedVariables false
/-! trees of values; a bag of draws -/
namespace K04
open PySem PySem.Spec PyProof.Rows L2 C8 LamX UF
inductive Tr where
  | int (i : Int)
  | str (s : Str)
  | bl (b : Bool)
  | tup (l : List Tr)
/-- the value v at H is the tree t, at most n high -/
def TrAt (H : Hp) : Nat → V → Tr → Prop
  | 0, _, _ => False
  | n + 1, v, t => match t with
    | .int i => v = .int i
    | .str s => v = .str s
    | .bl b => v = .bl b
    | .tup ts => ∃ (a : Addr) (vs : List V), v = .ref a ∧ H a = some (.tup vs) ∧ ts.length ≤ 1000 ∧ Paired (TrAt H n) vs ts
theorem pimp {α β : Type} {F G : α → β → Prop} {xs : List α} {ys : List β} (h : Paired F xs ys) (im : ∀ a b, F a b → G a b) : Paired G xs ys := by
  induction h with
  | nil => exact .nil
  | cons q t ih => exact .cons (im _ _ q) ih
theorem psnoc {α β : Type} {F : α → β → Prop} {xs : List α} {ys : List β} {x : α} {y : β} (h : Paired F xs ys) (q : F x y) : Paired F (xs ++ [x]) (ys ++ [y]) := by
  induction h with
  | nil => exact .cons q .nil
  | cons a t ih => exact .cons a ih
theorem papp {α β : Type} {F : α → β → Prop} {xs us : List α} {ys vs : List β} (h : Paired F xs ys) (q : Paired F us vs) : Paired F (xs ++ us) (ys ++ vs) := by
  induction h with
  | nil => exact q
  | cons a t ih => exact .cons a ih
theorem pget {α β : Type} {F : α → β → Prop} {xs : List α} {ys : List β} (h : Paired F xs ys) {i : Nat} {a : α} (e : xs[i]? = some a) : ∃ b, ys[i]? = some b ∧ F a b := by
  induction h generalizing i with
  | nil => cases e
  | cons q t ih =>
    cases i with
    | zero => cases e; exact ⟨_, rfl, q⟩
    | succ i => exact ih e
theorem pset {α β : Type} {F : α → β → Prop} {xs : List α} {ys : List β} {x : α} {y : β} (h : Paired F xs ys) (q : F x y) : ∀ i : Nat, Paired F (xs.set i x) (ys.set i y) := by
  induction h with
  | nil => exact fun i => .nil
  | cons a t ih =>
    intro i
    cases i with
    | zero => exact .cons q t
    | succ i => exact .cons a (ih i)
theorem TrAt.up {H : Hp} : ∀ {n : Nat} {v : V} {t : Tr}, TrAt H n v t → TrAt H (n + 1) v t
  | 0, _, _, h => h.elim
  | n + 1, v, .int i, h => h
  | n + 1, v, .str s, h => h
  | n + 1, v, .bl b, h => h
  | n + 1, v, .tup ts, h => by
    obtain ⟨a, vs, e, ha, l, p⟩ := h
    exact ⟨a, vs, e, ha, l, pimp p fun _ _ q => TrAt.up q⟩
theorem TrAt.le {H : Hp} {n m : Nat} {v : V} {t : Tr} (h : TrAt H n v t) (l : n ≤ m) : TrAt H m v t := by
  induction l with
  | refl => exact h
  | step _ ih => exact ih.up
theorem TrAt.fr {H H' : Hp} {ds : List Addr} (X : Fr ds H H') (nt : ∀ a ∈ ds, ∀ vs, H a ≠ some (.tup vs)) : ∀ {n : Nat} {v : V} {t : Tr}, TrAt H n v t → TrAt H' n v t
  | 0, _, _, h => h.elim
  | n + 1, v, .int i, h => h
  | n + 1, v, .str s, h => h
  | n + 1, v, .bl b, h => h
  | n + 1, v, .tup ts, h => by
    obtain ⟨a, vs, e, ha, l, p⟩ := h
    exact ⟨a, vs, e, X.tup ha (fun m => nt a m _ ha), l, pimp p fun _ _ q => TrAt.fr X nt q⟩
theorem TrAt.fr0 {H H' : Hp} (X : Fr [] H H') {n : Nat} {v : V} {t : Tr} (h : TrAt H n v t) : TrAt H' n v t := h.fr X fun a m => nomatch m
/-! the bag -/
structure BgV (H : Hp) (b c : Addr) (cells : List Int) (x u y z : Int) : Prop where
  hb : H b = some (.lst [.int x, .int u, .int y, .int z, .ref c])
  hc : H c = some (.lst (cells.map V.int))
  u0 : 0 ≤ u
def Bag (H : Hp) (b c : Addr) : Prop := ∃ (cells : List Int) (x u y z : Int), BgV H b c cells x u y z
theorem BgV.ne {H : Hp} {b c : Addr} {cells : List Int} {x u y z : Int} (B : BgV H b c cells x u y z) : c ≠ b := by
  intro e
  have h := B.hc
  rw [e, B.hb] at h
  injection h with h
  injection h with h
  have : [V.int x, .int u, .int y, .int z, .ref c].getLast? = (cells.map V.int).getLast? := by rw [h]
  rw [List.getLast?_map] at this
  cases e : cells.getLast? with
  | none => rw [e] at this; cases this
  | some i => rw [e] at this; cases this
theorem BgV.set {H : Hp} {b c : Addr} {cells : List Int} {x u y z : Int} (B : BgV H b c cells x u y z) (x' u' y' z' : Int) (h : 0 ≤ u') : BgV (upd H b (.lst [.int x', .int u', .int y', .int z', .ref c])) b c cells x' u' y' z' :=
  ⟨upd_same, by rw [upd_ne B.ne]; exact B.hc, h⟩
theorem Bag.fr {H H' : Hp} {b c : Addr} {ds : List Addr} (B : Bag H b c) (X : Fr ds H H') (m : b ∉ ds) (n : c ∉ ds) : Bag H' b c := by
  obtain ⟨cells, x, u, y, z, B⟩ := B
  exact ⟨cells, x, u, y, z, X.lst B.hb m, X.lst B.hc n, B.u0⟩
theorem Bag.fr0 {H H' : Hp} {b c : Addr} (B : Bag H b c) (X : Fr [] H H') : Bag H' b c := B.fr X not_nil not_nil
theorem Bag.nt {H : Hp} {b c : Addr} (B : Bag H b c) : ∀ a ∈ [b], ∀ vs, H a ≠ some (.tup vs) := fun a m vs e => by
  obtain ⟨cells, x, u, y, z, B⟩ := B
  rw [List.mem_singleton.mp m, B.hb] at e
  cases e
theorem Bag.ne {H : Hp} {b c a : Addr} (B : Bag H b c) (n : Nw H a) : a ≠ b ∧ a ≠ c := by
  obtain ⟨cells, x, u, y, z, B⟩ := B
  exact ⟨(ne_nw B.hb n).symm, (ne_nw B.hc n).symm⟩
def spBag (K : PySem.W.Frag) : Sp := fun vs H Q _ => ∃ (a : Addr) (ns : List Int), vs = [.ref a] ∧ SqL K H a (ns.map V.int) ∧ ns.length ≤ 63 ∧ ∀ (b c : Addr) (H' : Hp), Nw H b → Nw H c → Bag H' b c → Fr [] H H' → Q (.ref b) H'
def spDraw : Sp := fun vs H Q _ => ∃ (b c : Addr) (m : Int), vs = [.ref b, .int m] ∧ Bag H b c ∧ 0 < m ∧ m < 2 ^ 2000 ∧ ∀ (d : Int) (H' : Hp), 0 ≤ d → d < m → Bag H' b c → Fr [b] H H' → Q (.int d) H'
def spNumber : Sp := fun vs H Q _ => ∃ (b c : Addr) (m : Int), vs = [.ref b, .int m] ∧ Bag H b c ∧ 11 ≤ m ∧ m < 10 ^ 81 ∧ ∀ (d : Int) (H' : Hp), 0 ≤ d → d ≤ m → Bag H' b c → Fr [b] H H' → Q (.int d) H'
def spCount : Sp := fun vs H Q _ => ∃ (b c : Addr) (m : Int), vs = [.ref b, .int m] ∧ Bag H b c ∧ 0 ≤ m ∧ m ≤ 100 ∧ ∀ (d : Int) (H' : Hp), 0 ≤ d → d ≤ m → Bag H' b c → Fr [b] H H' → Q (.int d) H'
def spWorth : Sp := fun vs H Q _ => ∃ (b c : Addr), vs = [.ref b] ∧ Bag H b c ∧ ∀ (s : Str) (H' : Hp), Bag H' b c → Fr [b] H H' → Q (.str s) H'
def spSaying : Sp := fun vs H Q _ => ∃ (b c : Addr) (bits : Int), vs = [.ref b, .int bits] ∧ Bag H b c ∧ 1 ≤ bits ∧ bits ≤ 8 ∧ ∀ (v : V) (t : Tr) (H' : Hp), TrAt H' 2 v t → Bag H' b c → Fr [b] H H' → Q v H'
section
variable {P : Program} {w : World} {K : PySem.W.Frag} {mg : Str → Option Value} {base : Heap}
theorem c_law_bag (T : Bl mg) (d : D0 K mg "_law_bag" s_law_bag ["script"]) : Cal P w K mg base 1 "_law_bag" (spBag K) [] := by
  refine cal d sc_law_bag (fun vs H Q E h => ?_) (fun cdv A outer f s0 H vs Q E hr h => ?_)
  · obtain ⟨a, ns, rfl, _⟩ := h
    rfl
  · obtain ⟨a, ns, rfl, hs, hl, k⟩ := h
    refine ⟨_, (pss_cons (ps_setLc (i := 1) (own := [("cell", 2)]) (g := gName 2) (tt := tYes) (by rfl) sc_law_bag.nd rfl rfl (sw_true rfl rfl rfl (by decide +kernel)) (pi_list (pe_slice sl_list (pv 0) po_none (po_some pe_int))) (blkOk_by (own := [("cell", 2)]) (N := n_law_bag) (sc := C8.fnScope s_law_bag) (by decide +kernel)) (fun _ _ _ _ _ => pg_name (i := 2) sc_law_bag.nd rfl (Or.inl rfl)) (fun _ _ _ _ _ => pts_nil) (fun _ _ _ _ _ => (pe_callTy call_int1 (by rfl) T.int (by decide +kernel) (pa_cons (pv 2) pa_nil))))
      (pss_one (ps_ret (pe_lst (pa_cons pe_int (pa_cons pe_int (pa_cons pe_int (pa_cons pe_int (pa_cons (pv 1) pa_nil))))))))), ?_⟩
    obtain ⟨ms, em, lm⟩ := cut_map ns none (some 63)
    refine ⟨_, rfl, _, rfl, _, _, rfl, hs, fun p np => ?_⟩
    rw [em]
    have X1 : Fr [] H (upd H p (.lst (ms.map V.int))) := Fr.new0 np _
    have hp1 : upd H p (.lst (ms.map V.int)) p = some (.lst (ms.map V.int)) := upd_same
    generalize upd H p (.lst (ms.map V.int)) = H1 at X1 hp1
    refine ⟨p, rfl, ⟨_, SqL.of hp1⟩, fun D nD => ?_⟩
    refine lc_list (xs := ms.map V.int) (fun j H' => Fr [] H1 H' ∧ ∃ xs : List Int, xs.length = j ∧ H' D = some (.lst (xs.map V.int))) ⟨Fr.new0 nD _, [], rfl, upd_same⟩ (fun j H' _ pv => SqL.of (pv.1.lst hp1 not_nil)) (fun j v H2 hv pv => ?_) (fun H2 pv => ?_)
    · obtain ⟨X2, xs, lx, hD⟩ := pv
      obtain ⟨n, en, rfl⟩ := map_getE hv
      have jl := (List.getElem?_eq_some_iff.mp en).1
      refine ⟨rfl, _, rfl, .inl ⟨_, rfl, ?_⟩⟩
      exact ⟨_, hD, by rw [List.length_map]; exact small1000' (by omega), X2.late (.of nD) (.lst hD) _, xs ++ [n], by rw [List.length_append, lx]; rfl, by rw [upd_same, List.map_append]; rfl⟩
    · obtain ⟨X2, xs, lx, hD⟩ := pv
      have X02 := X1.trans X2
      refine ⟨_, rfl, by show 5 ≤ sizeLine; decide, fun b nb => ?_⟩
      exact k b D _ (X02.live b (.of nb)) (X1.live D (.of nD)) ⟨xs, 0, 0, 1, 0, upd_same, upd_new nb hD, Int.le_refl _⟩ (X02.new nb _)
theorem c_law_draw (T : Bl mg) (d : D0 K mg "_law_draw" s_law_draw ["bag", "many"]) : Cal P w K mg base 1 "_law_draw" spDraw [] := by
  refine cal d sc_law_draw (fun vs H Q E h => ?_) (fun cdv A outer f s0 H vs Q E hr h => ?_)
  · obtain ⟨b, c, m, rfl, _⟩ := h
    rfl
  · obtain ⟨b, c, m, rfl, ⟨cells, x, u, y, z, B⟩, m0, m1, k⟩ := h
    refine ⟨_, (pss_cons (ps_set (i := 2) sc_law_draw.nd rfl (Or.inl rfl) (pe_ix ix_list (pv 0) pe_int (fun _ _ => rfl)))
      (pss_cut (ps_if (PW.pt (pw_and (pt_cmpR op_eq (pe_ix ix_list (pv 0) pe_int (fun _ _ => rfl)) pe_int (nomark _)) (pw_and1 (pt_cmpR op_lt (pe_ix ix_list (pv 0) pe_int (fun _ _ => rfl)) (pe_callB call_len_seq (by rfl) T.len (by decide +kernel) (pa_cons (pv 2) pa_nil)) (nomark _))))) (pss_cons (ps_set (i := 3) sc_law_draw.nd rfl (Or.inl rfl) (pe_ix ix_list (pv 2) (pe_ix ix_list (pv 0) pe_int (fun _ _ => rfl)) (fun _ _ => rfl)))
      (pss_cons (ps_asg (pe_op op_add (pe_ix ix_list (pv 0) pe_int (fun _ _ => rfl)) pe_int) (pg_sub (pv 0) pe_int set_list))
      (pss_one (ps_if (pt_cmpR op_ge (pv 3) (pe_op op_pow pe_int pe_int) (nomark _)) (pss_one (ps_asg (pv 3) (pg_sub (pv 0) pe_int set_list))) (pss_one (ps_asg (pe_op op_mod (pe_callTy call_int1 (by rfl) T.int (by decide +kernel) (pa_cons (pe_op op_add (pe_op op_add (pe_op op_mul (pe_ix ix_list (pv 0) pe_int (fun _ _ => rfl)) pe_int) (pe_op op_mul (pv 3) pe_int)) pe_int) pa_nil)) pe_int) (pg_sub (pv 0) pe_int set_list))))))) pss_nil)
      (pss_cons (ps_if (pt_cmpR op_gt (pe_ix ix_list (pv 0) pe_int (fun _ _ => rfl)) pe_int (nomark _)) (pss_cons (ps_set (i := 4) sc_law_draw.nd rfl (Or.inl rfl) (pe_op op_mod (pe_callTy call_int1 (by rfl) T.int (by decide +kernel) (pa_cons (pe_ix ix_list (pv 0) pe_int (fun _ _ => rfl)) pa_nil)) (pv 1)))
      (pss_cons (ps_asg (pe_op op_fdivW (pe_callTy call_int1 (by rfl) T.int (by decide +kernel) (pa_cons (pe_ix ix_list (pv 0) pe_int (fun _ _ => rfl)) pa_nil)) (pv 1)) (pg_sub (pv 0) pe_int set_list))
      (pss_one (ps_ret (pv 4))))) pss_nil)
      (pss_cons (ps_asg (pe_op op_add (pe_ix ix_list (pv 0) pe_int (fun _ _ => rfl)) pe_int) (pg_sub (pv 0) pe_int set_list))
      (pss_cons (ps_set (i := 5) sc_law_draw.nd rfl (Or.inl rfl) (pe_op op_mod (pe_callTy call_int1 (by rfl) T.int (by decide +kernel) (pa_cons (pe_op op_add (pe_ix ix_list (pv 0) pe_int (fun _ _ => rfl)) (pe_op op_mul (pe_ix ix_list (pv 0) pe_int (fun _ _ => rfl)) pe_int)) pa_nil)) pe_int))
      (pss_cons (ps_set (i := 6) sc_law_draw.nd rfl (Or.inl rfl) (pe_op op_mod (pe_callTy call_int1 (by rfl) T.int (by decide +kernel) (pa_cons (pe_op op_add (pe_op op_add (pe_op op_mul (pv 5) (pv 5)) (pe_op op_mul (pv 5) pe_int)) pe_int) pa_nil)) pe_int))
      (pss_cons (ps_set (i := 7) sc_law_draw.nd rfl (Or.inl rfl) (pe_op op_mod (pe_callTy call_int1 (by rfl) T.int (by decide +kernel) (pa_cons (pe_op op_add (pe_op op_mul (pv 6) pe_int) (pv 5)) pa_nil)) pe_int))
      (pss_one (ps_ret (pe_op op_mod (pe_callTy call_int1 (by rfl) T.int (by decide +kernel) (pa_cons (pe_op op_fdivW (pv 7) pe_int) pa_nil)) (pv 1))))))))))), ?_⟩
    refine ⟨_, rfl, _, _, _, _, rfl, rfl, SqL.of B.hb, rfl, ?_⟩
    refine ⟨fun σ H' => Fr [b] H H' ∧ ∃ (x u y z : Int) (v3 : Option V), BgV H' b c cells x u y z ∧ σ = [some (.ref b), some (.int m), some (.ref c), v3, none, none, none, none], ?_, ?_⟩
    · refine ⟨_, rfl, _, _, _, _, rfl, rfl, SqL.of B.hb, rfl, rfl, _, rfl, ite2 (fun _ => ?_) (fun _ => iteF ⟨Fr.refl _ _, _, _, _, _, _, B, rfl⟩)⟩
      refine ⟨_, rfl, _, _, _, _, rfl, rfl, SqL.of B.hb, rfl, _, rfl, _, _, rfl, .inl (SqL.of B.hc), _, _, rfl, rfl, _, rfl, ite2 (fun lt => ?_) (fun _ => ⟨Fr.refl _ _, _, _, _, _, _, B, rfl⟩)⟩
      have lt : u < ((cells.map V.int).length : Int) := of_decide_eq_true lt
      rw [List.length_map] at lt
      obtain ⟨cell, hcell, _⟩ := int_at B.u0 lt
      refine ⟨_, rfl, _, rfl, _, _, _, _, rfl, rfl, SqL.of B.hb, rfl, _, _, _, _, rfl, rfl, SqL.of B.hc, hcell, ?_⟩
      refine ⟨_, rfl, _, _, _, _, rfl, rfl, SqL.of B.hb, rfl, _, _, rfl, rfl, _, rfl, _, _, _, 1, rfl, rfl, B.hb, rfl, ?_⟩
      have B1 := B.set x (u + 1) y z (by have := B.u0; omega)
      have X1 := (Fr.refl [b] H).upd (.head _) (.lst B.hb) (.lst [.int x, .int (u + 1), .int y, .int z, .ref c])
      refine ⟨_, rfl, _, _, rfl, rfl, ⟨by decide, by decide, by decide⟩, _, _, rfl, rfl, _, rfl, ite2 (fun _ => ?_) (fun _ => ?_)⟩
      · refine ⟨_, rfl, _, rfl, _, _, _, 0, rfl, rfl, B1.hb, rfl, ?_⟩
        exact ⟨X1.upd (.head _) (.lst B1.hb) _, _, _, _, _, _, B1.set cell (u + 1) y z B1.u0, rfl⟩
      · refine ⟨_, rfl, _, _, _, _, rfl, rfl, SqL.of B1.hb, rfl, _, _, rfl, rfl, .inr ⟨by decide, by decide⟩, _, rfl, _, _, rfl, rfl, .inr ⟨by decide, by decide⟩, _, _, rfl, rfl, _, _, rfl, rfl, .inl ⟨_, rfl, _, _, rfl, rfl, pm (by decide), _, rfl, _, _, _, 2, rfl, rfl, B1.hb, rfl, ?_⟩⟩
        exact ⟨X1.upd (.head _) (.lst B1.hb) _, _, _, _, _, _, B1.set x (u + 1) _ z B1.u0, rfl⟩
    · rintro σ H2 ⟨X2, x, u, y, z, v3, B2, rfl⟩
      refine ⟨_, rfl, _, _, _, _, rfl, rfl, SqL.of B2.hb, rfl, _, _, rfl, rfl, _, rfl, ite2 (fun _ => ?_) (fun _ => ?_)⟩
      · refine ⟨_, rfl, _, _, _, _, rfl, rfl, SqL.of B2.hb, rfl, .inl ⟨_, rfl, _, rfl, _, _, rfl, rfl, pm m0, ?_⟩⟩
        refine ⟨_, rfl, _, _, _, _, rfl, rfl, SqL.of B2.hb, rfl, .inl ⟨_, rfl, _, rfl, _, _, rfl, rfl, dvw m0 m1 _, _, rfl, _, _, _, 0, rfl, rfl, B2.hb, rfl, _, rfl, ?_⟩⟩
        exact k _ _ (Int.emod_nonneg _ (by omega)) (Int.emod_lt_of_pos _ m0) ⟨_, _, _, _, _, B2.set _ u y z B2.u0⟩ (X2.upd (.head _) (.lst B2.hb) _)
      · refine ⟨_, rfl, _, _, _, _, rfl, rfl, SqL.of B2.hb, rfl, _, _, rfl, rfl, _, rfl, _, _, _, 3, rfl, rfl, B2.hb, rfl, ?_⟩
        have B3 := B2.set x u y (z + 1) B2.u0
        have X3 := X2.upd (.head _) (.lst B2.hb) (.lst [.int x, .int u, .int y, .int (z + 1), .ref c])
        refine ⟨_, rfl, _, _, _, _, rfl, rfl, SqL.of B3.hb, rfl, _, rfl, _, _, _, _, rfl, rfl, SqL.of B3.hb, rfl, _, _, rfl, rfl, .inr ⟨by decide, by decide⟩, _, _, rfl, rfl, .inl ⟨_, rfl, _, _, rfl, rfl, pm (by decide), ?_⟩⟩
        have o0 := Int.emod_nonneg (y + (z + 1) * 40692) (show (2147483647 : Int) ≠ 0 by decide)
        have o1 := Int.emod_lt_of_pos (y + (z + 1) * 40692) (show (0 : Int) < 2147483647 by decide)
        refine ⟨_, rfl, _, rfl, _, _, rfl, rfl, .inl ⟨by omega, by omega⟩, _, rfl, _, _, rfl, rfl, .inr ⟨by decide, by decide⟩, _, _, rfl, rfl, _, _, rfl, rfl, .inl ⟨_, rfl, _, _, rfl, rfl, pm (by decide), ?_⟩⟩
        refine ⟨_, rfl, _, _, rfl, rfl, .inr ⟨by decide, by decide⟩, _, rfl, _, _, rfl, rfl, .inl ⟨_, rfl, _, _, rfl, rfl, pm (by decide), ?_⟩⟩
        refine ⟨_, rfl, _, _, rfl, rfl, dvw (by decide) (by decide +kernel) _, .inl ⟨_, rfl, _, rfl, _, _, rfl, rfl, pm m0, ?_⟩⟩
        exact k _ _ (Int.emod_nonneg _ (by omega)) (Int.emod_lt_of_pos _ m0) ⟨_, _, _, _, _, B3⟩ X3
end
end K04

set_option Elab.async false
set_option maxRecDepth 100000
set_option maxHeartbeats 4000000
set_option exponentiation.threshold 4096
set_option linter.unusedVariables false
/-! numbers, counts, worths, sayings, range sums -/
namespace K04
open PySem PySem.Spec PyProof.Rows L2 C8 LamX UF
def spSayings : Sp := fun vs H Q _ => ∃ (b c : Addr) (bits : Int) (n : Nat), vs = [.ref b, .int bits, .int (n : Int)] ∧ Bag H b c ∧ 1 ≤ bits ∧ bits ≤ 8 ∧ n ≤ 100 ∧ ∀ (t : Addr) (vs : List V) (ts : List Tr) (H' : Hp), H' t = some (.tup vs) → Paired (TrAt H' 2) vs ts → ts.length = n → Bag H' b c → Fr [b] H H' → Q (.ref t) H'
section
variable {P : Program} {w : World} {K : PySem.W.Frag} {mg : Str → Option Value} {base : Heap}
theorem c_law_number (T : Bl mg) (c_law_draw : Cal P w K mg base 1 "_law_draw" spDraw []) (d : D0 K mg "_law_number" s_law_number ["bag", "most"]) : Cal P w K mg base 2 "_law_number" spNumber [] := by
  refine cal d sc_law_number (fun vs H Q E h => ?_) (fun cdv A outer f s0 H vs Q E hr h => ?_)
  · obtain ⟨b, c, m, rfl, _⟩ := h
    rfl
  · obtain ⟨b, c, m, rfl, B, m0, m1, k⟩ := h
    refine ⟨_, (pss_cons (ps_set (i := 2) sc_law_number.nd rfl (Or.inl rfl) (pe_c c_law_draw hr (by decide) rfl (pa_cons (pv 0) (pa_cons pe_int pa_nil))))
      (pss_cons (ps_if (pt_cmpR op_eq (pv 2) pe_int (nomark _)) (pss_one (ps_ret pe_int)) pss_nil)
      (pss_cons (ps_if (pt_cmpR op_lt (pv 2) pe_int (nomark _)) (pss_one (ps_ret (pe_c c_law_draw hr (by decide) rfl (pa_cons (pv 0) (pa_cons pe_int pa_nil))))) pss_nil)
      (pss_cons (ps_if (pt_cmpR op_eq (pv 2) pe_int (nomark _)) (pss_one (ps_ret (pv 1))) pss_nil)
      (pss_cons (ps_if (pt_cmpR op_eq (pv 2) pe_int (nomark _)) (pss_one (ps_ret (pe_op op_fdivW (pe_op op_add (pv 1) pe_int) pe_int))) pss_nil)
      (pss_cons (ps_if (pt_cmpR op_eq (pv 2) pe_int (nomark _)) (pss_cons (ps_set (i := 3) sc_law_number.nd rfl (Or.inl rfl) (pe_op op_mul (pe_op op_add pe_int (pe_c c_law_draw hr (by decide) rfl (pa_cons (pv 0) (pa_cons (pe_op op_pow pe_int pe_int) pa_nil)))) (pe_op op_pow pe_int pe_int)))
      (pss_one (ps_ret (pe_op op_mod (pe_callTy call_int1 (by rfl) T.int (by decide +kernel) (pa_cons (pe_op op_add (pv 3) (pe_c c_law_draw hr (by decide) rfl (pa_cons (pv 0) (pa_cons (pe_op op_pow pe_int pe_int) pa_nil)))) pa_nil)) (pe_op op_add (pv 1) pe_int))))) pss_nil)
      (pss_one (ps_ret (pe_c c_law_draw hr (by decide) rfl (pa_cons (pv 0) (pa_cons (pe_op op_add (pv 1) pe_int) pa_nil))))))))))), ?_⟩
    have hb : m + 1 < 2 ^ 2000 := Int.lt_of_le_of_lt (Int.add_one_le_of_lt m1) (by decide +kernel)
    refine ⟨_, rfl, b, c, 7, rfl, B, by decide, by decide +kernel, fun d1 H1 a1 a2 B1 X1 => ⟨_, rfl, rfl, _, rfl, ite2 (fun _ => k 0 H1 (by decide) (by omega) B1 X1) (fun _ => ?_)⟩⟩
    refine ⟨_, rfl, _, _, rfl, rfl, _, rfl, ite2 (fun _ => ?_) (fun _ => ?_)⟩
    · exact ⟨_, rfl, b, c, 12, rfl, B1, by decide, by decide +kernel, fun d2 H2 b1 b2 B2 X2 => k d2 H2 b1 (by omega) B2 (X1.trans X2)⟩
    refine ⟨_, rfl, rfl, _, rfl, ite2 (fun _ => ⟨_, rfl, k m H1 (by omega) (Int.le_refl _) B1 X1⟩) (fun _ => ?_)⟩
    refine ⟨_, rfl, rfl, _, rfl, ite2 (fun _ => ?_) (fun _ => ?_)⟩
    · exact ⟨_, rfl, _, _, rfl, rfl, _, _, rfl, rfl, dvw (by decide) (by decide +kernel) _, k _ H1 (by omega) (by omega) B1 X1⟩
    refine ⟨_, rfl, rfl, _, rfl, ite2 (fun _ => ?_) (fun _ => ?_)⟩
    · refine ⟨_, rfl, _, _, rfl, rfl, ⟨by decide, by decide, by decide⟩, b, c, 10 ^ 7, rfl, B1, by decide, by decide +kernel, fun d2 H2 b1 b2 B2 X2 => ⟨_, _, rfl, rfl, _, _, rfl, rfl, ⟨by decide, by decide, by decide⟩, _, _, rfl, rfl, .inl ⟨by omega, by omega⟩, ?_⟩⟩
      refine ⟨_, rfl, _, rfl, _, _, rfl, rfl, ⟨by decide, by decide, by decide⟩, b, c, 10 ^ 7, rfl, B2, by decide, by decide +kernel, fun d3 H3 c1 c2 B3 X3 => ⟨_, _, rfl, rfl, .inl ⟨_, rfl, _, rfl, _, _, rfl, rfl, _, _, rfl, rfl, pm (by omega), ?_⟩⟩⟩
      have mp : 0 < m + 1 := by omega
      refine k _ H3 (Int.emod_nonneg _ (by omega)) (Int.le_of_lt_add_one (Int.emod_lt_of_pos _ mp)) B3 ((X1.trans X2).trans X3)
    · exact ⟨_, rfl, _, rfl, _, _, rfl, rfl, b, c, m + 1, rfl, B1, by omega, hb, fun d2 H2 b1 b2 B2 X2 => k d2 H2 b1 (Int.le_of_lt_add_one b2) B2 (X1.trans X2)⟩
theorem c_law_count (T : Bl mg) (c_law_draw : Cal P w K mg base 1 "_law_draw" spDraw []) (d : D0 K mg "_law_count" s_law_count ["bag", "most"]) : Cal P w K mg base 2 "_law_count" spCount [] := by
  refine cal d sc_law_count (fun vs H Q E h => ?_) (fun cdv A outer f s0 H vs Q E hr h => ?_)
  · obtain ⟨b, c, m, rfl, _⟩ := h
    rfl
  · obtain ⟨b, c, m, rfl, B, m0, m1, k⟩ := h
    refine ⟨_, (pss_cons (ps_set (i := 2) sc_law_count.nd rfl (Or.inl rfl) (pe_c c_law_draw hr (by decide) rfl (pa_cons (pv 0) (pa_cons pe_int pa_nil))))
      (pss_cons (ps_if (pt_cmpR op_eq (pv 2) pe_int (nomark _)) (pss_one (ps_ret (pv 1))) pss_nil)
      (pss_cons (ps_if (pt_cmpR op_eq (pv 2) pe_int (nomark _)) (pss_one (ps_ret (pe_c c_law_draw hr (by decide) rfl (pa_cons (pv 0) (pa_cons (pe_op op_add (pv 1) pe_int) pa_nil))))) pss_nil)
      (pss_one (ps_ret (pe_c c_law_draw hr (by decide) rfl (pa_cons (pv 0) (pa_cons (pe_op op_add (pe_callB (call_min2 rfl) (by rfl) T.min (by decide +kernel) (pa_cons (pv 1) (pa_cons pe_int pa_nil))) pe_int) pa_nil)))))))), ?_⟩
    have hb : ∀ z : Int, z ≤ 1000 → z < 2 ^ 2000 := fun z h => Int.lt_of_le_of_lt h (by decide +kernel)
    refine ⟨_, rfl, b, c, 8, rfl, B, by decide, by decide +kernel, fun d1 H1 a1 a2 B1 X1 => ⟨_, rfl, rfl, _, rfl, ite2 (fun _ => ⟨_, rfl, k m H1 m0 (Int.le_refl _) B1 X1⟩) (fun _ => ?_)⟩⟩
    refine ⟨_, rfl, rfl, _, rfl, ite2 (fun _ => ?_) (fun _ => ?_)⟩
    · exact ⟨_, rfl, _, rfl, _, _, rfl, rfl, b, c, m + 1, rfl, B1, by omega, hb _ (by omega), fun d2 H2 b1 b2 B2 X2 => k d2 H2 b1 (by omega) B2 (X1.trans X2)⟩
    · have hm : ∀ z : Int, z = (if (4 : Int) < m then 4 else m) → 0 ≤ z ∧ z ≤ m ∧ z ≤ 4 := fun z e => by split at e <;> omega
      obtain ⟨e1, e2, e3⟩ := hm _ rfl
      refine ⟨_, rfl, _, rfl, _, _, rfl, _, _, rfl, rfl, b, c, _, rfl, B1, by omega, hb _ (by omega), fun d2 H2 b1 b2 B2 X2 => k d2 H2 b1 (by omega) B2 (X1.trans X2)⟩
theorem c_law_worth (T : Bl mg) (c_law_draw : Cal P w K mg base 1 "_law_draw" spDraw []) (d : D0 K mg "_law_worth" s_law_worth ["bag"]) : Cal P w K mg base 2 "_law_worth" spWorth [] := by
  refine cal d sc_law_worth (fun vs H Q E h => ?_) (fun cdv A outer f s0 H vs Q E hr h => ?_)
  · obtain ⟨b, c, rfl, _⟩ := h
    rfl
  · obtain ⟨b, c, rfl, B, k⟩ := h
    refine ⟨_, (pss_cons (ps_set (i := 1) sc_law_worth.nd rfl (Or.inl rfl) (pe_c c_law_draw hr (by decide) rfl (pa_cons (pv 0) (pa_cons pe_int pa_nil))))
      (pss_cons (ps_if (pt_cmpR op_eq (pv 1) pe_int (nomark _)) (pss_one (ps_ret pe_str)) pss_nil)
      (pss_cons (ps_if (pt_cmpR op_eq (pv 1) pe_int (nomark _)) (pss_one (ps_ret (pe_ix ix_list (pe_lst (pa_cons pe_str (pa_cons pe_str (pa_cons pe_str (pa_cons pe_str (pa_cons pe_str (pa_cons pe_str (pa_cons pe_str (pa_cons pe_str pa_nil))))))))) (pe_c c_law_draw hr (by decide) rfl (pa_cons (pv 0) (pa_cons pe_int pa_nil))) (fun _ _ => rfl)))) pss_nil)
      (pss_cons (ps_set (i := 2) sc_law_worth.nd rfl (Or.inr rfl) pe_str)
      (pss_one (ps_ret (pe_join pe_str (pe_lc (own := [("k", 3)]) (g := gName 3) (tt := tYes) (by rfl) sc_law_worth.nd (pi_range1 rfl T.range (pa_cons (pe_op op_add pe_int (pe_c c_law_draw hr (by decide) rfl (pa_cons (pv 0) (pa_cons pe_int pa_nil)))) pa_nil)) (blkOk_by (own := [("k", 3)]) (N := n_law_worth) (sc := C8.fnScope s_law_worth) (by decide +kernel)) (fun _ _ _ _ _ => pg_name (i := 3) sc_law_worth.nd rfl (Or.inl rfl)) (fun _ _ _ _ _ => pts_nil) (fun _ _ _ _ _ => (pe_ix ix_str (pv 2) (pe_c c_law_draw hr (by decide) rfl (pa_cons (pv 0) (pa_cons pe_int pa_nil))) (fun _ _ => rfl))))))))))), ?_⟩
    refine ⟨_, rfl, b, c, 6, rfl, B, by decide, by decide +kernel, fun d1 H1 a1 a2 B1 X1 => ⟨_, rfl, rfl, _, rfl, ite2 (fun _ => k _ H1 B1 X1) (fun _ => ?_)⟩⟩
    refine ⟨_, rfl, rfl, _, rfl, ite2 (fun _ => ?_) (fun _ => ?_)⟩
    · refine ⟨by show 8 ≤ sizeLine; decide, fun q nq => ?_⟩
      have hq : upd H1 q (.lst [.str "alive", .str "0", .str "007", .str "last", .str "yes", .str "abcdefghijkl", .str "x", .str "9"]) q = some (.lst [.str "alive", .str "0", .str "007", .str "last", .str "yes", .str "abcdefghijkl", .str "x", .str "9"]) := upd_same
      have X2 : Fr [] H1 (upd H1 q (.lst [.str "alive", .str "0", .str "007", .str "last", .str "yes", .str "abcdefghijkl", .str "x", .str "9"])) := Fr.new0 nq _
      generalize upd H1 q (.lst [.str "alive", .str "0", .str "007", .str "last", .str "yes", .str "abcdefghijkl", .str "x", .str "9"]) = H2 at hq X2
      refine ⟨_, rfl, b, c, 8, rfl, B1.fr0 X2, by decide, by decide +kernel, fun d2 H3 b1 b2 B3 X3 => ?_⟩
      have hs : ∃ s : Str, atI [V.str "alive", .str "0", .str "007", .str "last", .str "yes", .str "abcdefghijkl", .str "x", .str "9"] d2 = some (.str s) := by
        obtain ⟨j, rfl⟩ := Int.eq_ofNat_of_zero_le b1
        have : j = 0 ∨ j = 1 ∨ j = 2 ∨ j = 3 ∨ j = 4 ∨ j = 5 ∨ j = 6 ∨ j = 7 := by omega
        rcases this with rfl | rfl | rfl | rfl | rfl | rfl | rfl | rfl <;> exact ⟨_, rfl⟩
      obtain ⟨s, hs⟩ := hs
      exact ⟨_, _, _, _, rfl, rfl, SqL.of (X3.lst hq (not_one (B1.ne (.of nq)).1)), hs, k s H3 B3 ((X1.trans (X2.mono fun a m => nomatch m)).trans X3)⟩
    · refine ⟨⟨_, rfl⟩, _, rfl, b, c, 12, rfl, B1, by decide, by decide +kernel, fun d2 H2 b1 b2 B2 X2 => ⟨_, _, rfl, rfl, 1 + d2, rfl, by omega, by omega, fun D nD => ?_⟩⟩
      have X02 := X1.trans X2
      have Db := (B2.ne (.of nD)).1
      refine lc_range (lo := 0) (n := (1 + d2).toNat) (fun i H' => Bag H' b c ∧ Fr [b] H2 H' ∧ ∃ cs : List Nat, cs.length = i ∧ H' D = some (.lst ((cs.map fun c => (⟨#[c]⟩ : Str)).map V.str))) ⟨B2.fr0 (Fr.new0 nD _), Fr.new0 nD _, [], rfl, upd_same⟩ (fun i H3 hi pv => ?_) (fun H3 pv => ?_)
      · obtain ⟨B3, X3, cs, lc, hD⟩ := pv
        refine ⟨rfl, _, rfl, _, rfl, b, c, 36, rfl, B3, by decide, by decide +kernel, fun d3 H4 c1 c2 B4 X4 => ?_⟩
        have hD4 := X4.lst hD (not_one Db)
        obtain ⟨z, hz⟩ := at_lt (xs := plainS.cps.toList) c1 (by rw [show plainS.cps.toList.length = 36 by decide +kernel]; exact c2)
        refine ⟨_, _, _, rfl, rfl, by decide +kernel, hz, _, hD4, by rw [List.length_map, List.length_map]; exact small1000' (by omega), ?_, (X3.trans X4).late (.of nD) (.lst hD4) _, cs ++ [z], by rw [List.length_append, lc]; rfl, ?_⟩
        · exact B4.fr ((Fr.refl [D] H4).upd (.head _) (.lst hD4) _) (not_one Db.symm) (not_one (B2.ne (.of nD)).2.symm)
        · rw [upd_same, List.map_append, List.map_append]
          rfl
      · obtain ⟨B3, X3, cs, lc, hD⟩ := pv
        refine ⟨_, D, cs.map fun c => (⟨#[c]⟩ : Str), rfl, rfl, .inl (SqL.of hD), ?_, k _ H3 B3 (X02.trans X3)⟩
        rw [List.map_map, List.length_map]
        have e : ∀ cs : List Nat, ((cs.map ((fun x : Str => x.length) ∘ fun c => (⟨#[c]⟩ : Str))).sum) = cs.length := fun cs => by
          induction cs with
          | nil => rfl
          | cons c cs ih =>
            rw [List.map_cons, List.sum_cons, ih, List.length_cons]
            show 1 + cs.length = _
            omega
        rw [e]
        show _ + _ * (("" : Str).length) ≤ _
        rw [show ("" : Str).length = 0 by decide +kernel]
        exact Nat.le_of_lt (Nat.lt_of_le_of_lt (show _ ≤ 1000 by omega) (by decide))
theorem c_law_saying (T : Bl mg) (c_law_draw : Cal P w K mg base 1 "_law_draw" spDraw []) (c_law_number : Cal P w K mg base 2 "_law_number" spNumber []) (c_law_worth : Cal P w K mg base 2 "_law_worth" spWorth []) (d : D0 K mg "_law_saying" s_law_saying ["bag", "bits"]) : Cal P w K mg base 3 "_law_saying" spSaying [] := by
  refine cal d sc_law_saying (fun vs H Q E h => ?_) (fun cdv A outer f s0 H vs Q E hr h => ?_)
  · obtain ⟨b, c, bits, rfl, _⟩ := h
    rfl
  · obtain ⟨b, c, bits, rfl, B, b1, b8, k⟩ := h
    refine ⟨_, (pss_cons (ps_set (i := 2) sc_law_saying.nd rfl (Or.inl rfl) (pe_c c_law_draw hr (by decide) rfl (pa_cons (pv 0) (pa_cons (pe_op op_shl pe_int (pv 1)) pa_nil))))
      (pss_cons (ps_set (i := 3) sc_law_saying.nd rfl (Or.inl rfl) (pe_c c_law_number hr (by decide) rfl (pa_cons (pv 0) (pa_cons (pe_op op_sub (pe_op op_pow pe_int pe_int) pe_int) pa_nil))))
      (pss_cons (ps_set (i := 4) sc_law_saying.nd rfl (Or.inl rfl) (pe_ix ix_list (pe_lst (pa_cons pe_str (pa_cons pe_str (pa_cons pe_str (pa_cons pe_str pa_nil))))) (pe_c c_law_draw hr (by decide) rfl (pa_cons (pv 0) (pa_cons pe_int pa_nil))) (fun _ _ => rfl)))
      (pss_one (ps_ret (pe_tup (pa_cons (pv 2) (pa_cons (pv 3) (pa_cons (pv 4) (pa_cons (pe_c c_law_worth hr (by decide) rfl (pa_cons (pv 0) pa_nil)) pa_nil)))))))))), ?_⟩
    obtain ⟨nb, rfl⟩ := Int.eq_ofNat_of_zero_le (show 0 ≤ bits by omega)
    have hn : nb = 1 ∨ nb = 2 ∨ nb = 3 ∨ nb = 4 ∨ nb = 5 ∨ nb = 6 ∨ nb = 7 ∨ nb = 8 := by omega
    have hs : 0 < (1 : Int) * 2 ^ (nb : Int).toNat ∧ (1 : Int) * 2 ^ (nb : Int).toNat < 2 ^ 2000 := by
      rcases hn with rfl | rfl | rfl | rfl | rfl | rfl | rfl | rfl <;> exact ⟨by decide, by decide +kernel⟩
    refine ⟨_, rfl, _, rfl, _, _, rfl, rfl, ⟨by omega, by omega, by decide⟩, b, c, _, rfl, B, hs.1, hs.2, fun d1 H1 a1 a2 B1 X1 => ?_⟩
    refine ⟨_, rfl, _, _, rfl, rfl, ⟨by decide, by decide, by decide⟩, _, _, rfl, rfl, b, c, 10 ^ 60 - 1, rfl, B1, by decide, by decide +kernel, fun d2 H2 e1 e2 B2 X2 => ?_⟩
    refine ⟨by show 4 ≤ sizeLine; decide, fun q nq => ?_⟩
    have hq : upd H2 q (.lst [.str "alive", .str "suspect", .str "dead", .str "left"]) q = some (.lst [.str "alive", .str "suspect", .str "dead", .str "left"]) := upd_same
    have X3 : Fr [] H2 (upd H2 q (.lst [.str "alive", .str "suspect", .str "dead", .str "left"])) := Fr.new0 nq _
    have qb := (B2.ne (.of nq)).1
    generalize upd H2 q (.lst [.str "alive", .str "suspect", .str "dead", .str "left"]) = H3 at hq X3
    refine ⟨_, rfl, b, c, 4, rfl, B2.fr0 X3, by decide, by decide +kernel, fun d3 H4 f1 f2 B4 X4 => ?_⟩
    have hm : ∃ s : Str, atI [V.str "alive", .str "suspect", .str "dead", .str "left"] d3 = some (.str s) := by
      obtain ⟨j, rfl⟩ := Int.eq_ofNat_of_zero_le f1
      have : j = 0 ∨ j = 1 ∨ j = 2 ∨ j = 3 := by omega
      rcases this with rfl | rfl | rfl | rfl <;> exact ⟨_, rfl⟩
    obtain ⟨mk, hm⟩ := hm
    have X04 := ((X1.trans X2).trans (X3.mono fun a m => nomatch m)).trans X4
    refine ⟨_, _, _, _, rfl, rfl, SqL.of (X4.lst hq (not_one qb)), hm, ?_⟩
    refine ⟨_, rfl, _, rfl, _, rfl, _, rfl, b, c, rfl, B4, fun wo H5 B5 X5 => ⟨by show 4 ≤ sizeLine; decide, fun t nt => ?_⟩⟩
    exact k (.ref t) (.tup [.int d1, .int d2, .str mk, .str wo]) _ ⟨t, _, rfl, upd_same, (show 4 ≤ 1000 by decide), .cons rfl (.cons rfl (.cons rfl (.cons rfl .nil)))⟩ (B5.fr0 (Fr.new0 nt _)) ((X04.trans X5).new nt _)
theorem c_law_range_sum (T : Bl mg) (c_law_draw : Cal P w K mg base 1 "_law_draw" spDraw []) (c_law_number : Cal P w K mg base 2 "_law_number" spNumber []) (d : D0 K mg "_law_range_sum" s_law_range_sum ["bag", "bits"]) : Cal P w K mg base 3 "_law_range_sum" spSaying [] := by
  refine cal d sc_law_range_sum (fun vs H Q E h => ?_) (fun cdv A outer f s0 H vs Q E hr h => ?_)
  · obtain ⟨b, c, bits, rfl, _⟩ := h
    rfl
  · obtain ⟨b, c, bits, rfl, B, b1, b8, k⟩ := h
    refine ⟨_, (pss_cons (ps_set (i := 2) sc_law_range_sum.nd rfl (Or.inl rfl) (pe_op op_shl pe_int (pe_c c_law_draw hr (by decide) rfl (pa_cons (pv 0) (pa_cons (pe_op op_add (pv 1) pe_int) pa_nil)))))
      (pss_cons (ps_set (i := 3) sc_law_range_sum.nd rfl (Or.inl rfl) (pe_op op_mul (pv 2) (pe_c c_law_draw hr (by decide) rfl (pa_cons (pv 0) (pa_cons (pe_op op_fdivW (pe_op op_shl pe_int (pv 1)) (pv 2)) pa_nil)))))
      (pss_cons (ps_set (i := 4) sc_law_range_sum.nd rfl (Or.inl rfl) (pe_op op_sub (pe_op op_mulW (pe_op op_pow pe_int pe_int) (pe_op op_pow pe_int pe_int)) pe_int))
      (pss_one (ps_ret (pe_tup (pa_cons (pv 3) (pa_cons (pv 2) (pa_cons (pe_c c_law_number hr (by decide) rfl (pa_cons (pv 0) (pa_cons (pv 4) pa_nil))) (pa_cons (pe_c c_law_number hr (by decide) rfl (pa_cons (pv 0) (pa_cons (pv 4) pa_nil))) (pa_cons (pe_c c_law_number hr (by decide) rfl (pa_cons (pv 0) (pa_cons (pv 4) pa_nil))) pa_nil))))))))))), ?_⟩
    obtain ⟨nb, rfl⟩ := Int.eq_ofNat_of_zero_le (show 0 ≤ bits by omega)
    have hb : ∀ z : Int, z ≤ 1000 → z < 2 ^ 2000 := fun z h => Int.lt_of_le_of_lt h (by decide +kernel)
    refine ⟨_, rfl, _, rfl, _, _, rfl, rfl, b, c, (nb : Int) + 1, rfl, B, by omega, hb _ (by omega), fun d1 H1 a1 a2 B1 X1 => ⟨_, _, rfl, rfl, ⟨by omega, by omega, by decide⟩, ?_⟩⟩
    obtain ⟨j, rfl⟩ := Int.eq_ofNat_of_zero_le a1
    have tab : ∀ n j : Fin 9, j.val ≤ n.val → (0 : Int) < 1 * 2 ^ j.val ∧ (1 : Int) * 2 ^ j.val ≤ 256 ∧ 0 < (1 : Int) * 2 ^ n.val / (1 * 2 ^ j.val) ∧ (1 : Int) * 2 ^ n.val / (1 * 2 ^ j.val) ≤ 256 := by decide +kernel
    obtain ⟨w0, w1, q0, q1⟩ := tab ⟨nb, by omega⟩ ⟨j, by omega⟩ (by show j ≤ nb; omega)
    have w0 : 0 < (1 : Int) * 2 ^ ((j : Nat) : Int).toNat := w0
    have w1 : (1 : Int) * 2 ^ ((j : Nat) : Int).toNat ≤ 256 := w1
    have q0 : 0 < (1 : Int) * 2 ^ ((nb : Nat) : Int).toNat / (1 * 2 ^ ((j : Nat) : Int).toNat) := q0
    have q1 : (1 : Int) * 2 ^ ((nb : Nat) : Int).toNat / (1 * 2 ^ ((j : Nat) : Int).toNat) ≤ 256 := q1
    refine ⟨_, rfl, _, rfl, _, rfl, _, _, rfl, rfl, ⟨by omega, by omega, by decide⟩, _, rfl, _, _, rfl, rfl, dvw w0 (hb _ (Int.le_trans w1 (by decide))) _, b, c, _, rfl, B1, q0, hb _ (Int.le_trans q1 (by decide)), fun d2 H2 e1 e2 B2 X2 => ⟨_, _, rfl, rfl, .inl ⟨Int.lt_trans (by decide) w0, Int.lt_of_le_of_lt w1 (by decide)⟩, ?_⟩⟩
    refine ⟨_, _, rfl, rfl, ⟨by decide, by decide, by decide⟩, _, _, rfl, rfl, ⟨by decide, by decide, by decide⟩, _, _, rfl, rfl, (show CMulW _ _ by unfold CMulW; decide +kernel), _, _, rfl, rfl, ?_⟩
    have n0 : (11 : Int) ≤ 10 ^ (40 : Int).toNat * 10 ^ (40 : Int).toNat - 1 := by decide +kernel
    have n1 : (10 : Int) ^ (40 : Int).toNat * 10 ^ (40 : Int).toNat - 1 < 10 ^ 81 := by decide +kernel
    refine ⟨_, rfl, _, rfl, _, rfl, _, rfl, b, c, _, rfl, B2, n0, n1, fun v1 H3 f1 f2 B3 X3 => ⟨_, rfl, _, rfl, b, c, _, rfl, B3, n0, n1, fun v2 H4 g1 g2 B4 X4 => ⟨_, rfl, _, rfl, b, c, _, rfl, B4, n0, n1, fun v3 H5 h1 h2 B5 X5 => ⟨by show 5 ≤ sizeLine; decide, fun t nt => ?_⟩⟩⟩⟩
    exact k (.ref t) (.tup [.int _, .int _, .int v1, .int v2, .int v3]) _ ⟨t, _, rfl, upd_same, (show 5 ≤ 1000 by decide), .cons rfl (.cons rfl (.cons rfl (.cons rfl (.cons rfl .nil))))⟩ (B5.fr0 (Fr.new0 nt _)) (((((X1.trans X2).trans X3).trans X4).trans X5).new nt _)
theorem c_law_sayings (T : Bl mg) (c_law_draw : Cal P w K mg base 1 "_law_draw" spDraw []) (c_law_saying : Cal P w K mg base 3 "_law_saying" spSaying []) (d : D0 K mg "_law_sayings" s_law_sayings ["bag", "bits", "count"]) : Cal P w K mg base 4 "_law_sayings" spSayings [] := by
  refine cal d sc_law_sayings (fun vs H Q E h => ?_) (fun cdv A outer f s0 H vs Q E hr h => ?_)
  · obtain ⟨b, c, bits, n, rfl, _⟩ := h
    rfl
  · obtain ⟨b, c, bits, n, rfl, B, b1, b8, n1, k⟩ := h
    refine ⟨_, (pss_cons (ps_setLc (i := 3) (own := [("k", 5)]) (g := gName 5) (tt := tYes) (by rfl) sc_law_sayings.nd rfl rfl (sw_true rfl rfl rfl (by decide +kernel)) (pi_range1 rfl T.range (pa_cons (pv 2) pa_nil)) (blkOk_by (own := [("k", 5)]) (N := n_law_sayings) (sc := C8.fnScope s_law_sayings) (by decide +kernel)) (fun _ _ _ _ _ => pg_name (i := 5) sc_law_sayings.nd rfl (Or.inl rfl)) (fun _ _ _ _ _ => pts_nil) (fun _ _ _ _ _ => (pe_c c_law_saying hr (by decide) rfl (pa_cons (pv 0) (pa_cons (pv 1) pa_nil)))))
      (pss_cut (ps_if (PW.pt (pw_and (pt_cmpR op_gt (pv 2) pe_int (nomark _)) (pw_and1 (pt_cmpR op_eq (pe_c c_law_draw hr (by decide) rfl (pa_cons (pv 0) (pa_cons pe_int pa_nil))) pe_int (nomark _))))) (pss_cons (ps_set (i := 4) sc_law_sayings.nd rfl (Or.inl rfl) (pe_c c_law_draw hr (by decide) rfl (pa_cons (pv 0) (pa_cons (pv 2) pa_nil))))
      (pss_one (ps_asg (pe_ix ix_list (pv 3) (pe_c c_law_draw hr (by decide) rfl (pa_cons (pv 0) (pa_cons (pv 2) pa_nil))) (fun _ _ => rfl)) (pg_sub (pv 3) (pv 4) set_list)))) pss_nil)
      (pss_one (ps_ret (pe_callTy call_tuple_of (by rfl) T.tuple (by decide +kernel) (pa_cons (pv 3) pa_nil)))))), ?_⟩
    refine ⟨_, rfl, (n : Int), rfl, by omega, by omega, fun D nD => ?_⟩
    have nwD : Nw H D := .of nD
    have Db := (B.ne nwD).1
    refine lc_range (lo := 0) (n := n) (fun i H' => Bag H' b c ∧ Fr [b] H H' ∧ ∃ (vs : List V) (ts : List Tr), H' D = some (.lst vs) ∧ Paired (TrAt H' 2) vs ts ∧ ts.length = i) ⟨B.fr0 (Fr.new0 nD _), Fr.new0 nD _, [], [], upd_same, .nil, rfl⟩ (fun i H1 hi pv => ?_) (fun H1 pv => ?_)
    · obtain ⟨B1, X1, vs, ts, hD, pr, lt⟩ := pv
      have lv := pr.length
      refine ⟨rfl, _, rfl, _, rfl, b, c, bits, rfl, B1, b1, b8, fun v t H2 tv B2 X2 => ?_⟩
      have hD2 := X2.lst hD (not_one Db)
      have X3 : Fr [D] H2 (upd H2 D (.lst (vs ++ [v]))) := (Fr.refl [D] H2).upd (.head _) (.lst hD2) _
      have nt3 : ∀ a ∈ [D], ∀ us, H2 a ≠ some (.tup us) := fun a m us e => by rw [List.mem_singleton.mp m, hD2] at e; cases e
      refine ⟨vs, hD2, small1000' (by omega), B2.fr X3 (not_one Db.symm) (not_one (B.ne nwD).2.symm), (X1.trans X2).late nwD (.lst hD2) _, vs ++ [v], ts ++ [t], upd_same, psnoc (pimp pr fun a s h => (h.fr X2 B1.nt).fr X3 nt3) (tv.fr X3 nt3), by rw [List.length_append, lt]; rfl⟩
    · obtain ⟨B1, X1, vs, ts, hD, pr, lt⟩ := pv
      have lv := pr.length
      refine ⟨fun σ H' => Bag H' b c ∧ Fr [b] H H' ∧ ∃ (vs : List V) (ts : List Tr) (v4 : Option V), H' D = some (.lst vs) ∧ Paired (TrAt H' 2) vs ts ∧ ts.length = n ∧ σ = [some (.ref b), some (.int bits), some (.int (n : Int)), some (.ref D), v4, none], ?_, ?_⟩
      · refine ⟨_, rfl, _, _, rfl, rfl, _, rfl, ite2 (fun c1 => ?_) (fun _ => iteF ⟨B1, X1, vs, ts, _, hD, pr, lt, rfl⟩)⟩
        have c1 : (n : Int) > 1 := of_decide_eq_true c1
        have hb : (n : Int) < 2 ^ 2000 := Int.lt_of_le_of_lt (show (n : Int) ≤ 1000 by omega) (by decide +kernel)
        refine ⟨_, rfl, b, c, 3, rfl, B1, by decide, by decide +kernel, fun d1 H2 a1 a2 B2 X2 => ⟨rfl, _, rfl, ite2 (fun _ => ?_) (fun _ => ?_)⟩⟩
        · refine ⟨_, rfl, _, rfl, b, c, n, rfl, B2, by omega, hb, fun d2 H3 e1 e2 B3 X3 => ?_⟩
          refine ⟨_, rfl, _, rfl, _, rfl, b, c, n, rfl, B3, by omega, hb, fun d3 H4 f1 f2 B4 X4 => ?_⟩
          have hD4 := X4.lst (X3.lst (X2.lst hD (not_one Db)) (not_one Db)) (not_one Db)
          have pr4 : Paired (TrAt H4 2) vs ts := pimp pr fun a s h => ((h.fr X2 B1.nt).fr X3 B2.nt).fr X4 B3.nt
          obtain ⟨v, hv⟩ := at_lt (xs := vs) f1 (by omega)
          obtain ⟨j3, e3, g3, _⟩ := atI_get hv
          obtain ⟨t, et, ht⟩ := pget pr4 g3
          obtain ⟨j2, rfl⟩ := Int.eq_ofNat_of_zero_le e1
          have X5 : Fr [D] H4 (upd H4 D (.lst (vs.set j2 v))) := (Fr.refl [D] H4).upd (.head _) (.lst hD4) _
          have nt5 : ∀ a ∈ [D], ∀ us, H4 a ≠ some (.tup us) := fun a m us e => by rw [List.mem_singleton.mp m, hD4] at e; cases e
          refine ⟨_, _, _, _, rfl, rfl, SqL.of hD4, hv, _, rfl, _, rfl, D, vs, _, j2, rfl, rfl, hD4, ?_, ?_⟩
          · unfold ixN
            rw [if_pos (by omega), if_pos (by omega)]
            rfl
          · exact ⟨B4.fr X5 (not_one Db.symm) (not_one (B.ne nwD).2.symm), (((X1.trans X2).trans X3).trans X4).late nwD (.lst hD4) _, vs.set j2 v, ts.set j2 t, _, upd_same, pset (pimp pr4 fun a s h => h.fr X5 nt5) (ht.fr X5 nt5) j2, by rw [List.length_set]; exact lt, rfl⟩
        · exact ⟨B2, X1.trans X2, vs, ts, _, X2.lst hD (not_one Db), pimp pr fun a s h => h.fr X2 B1.nt, lt, rfl⟩
      · rintro σ H2 ⟨B2, X2, vs, ts, v4, hD, pr, lt, rfl⟩
        refine ⟨_, rfl, D, vs, rfl, .inl ⟨SqL.of hD, fun t nt => ?_⟩⟩
        exact k t vs ts _ upd_same (pimp pr fun a s h => h.fr0 (Fr.new0 nt _)) lt (B2.fr0 (Fr.new0 nt _)) (X2.new nt _)
end
end K04

set_option Elab.async false
set_option maxRecDepth 100000
set_option maxHeartbeats 4000000
set_option exponentiation.threshold 4096
set_option linter.unusedVariables false
/-! the same: a def that calls itself; rows, words -/
namespace K04
open PySem PySem.Spec PyProof.Rows L2 C8 LamX UF
def spSame (n : Nat) : Sp := fun vs H Q _ => (∃ (v u : V) (t : Tr), vs = [v, u] ∧ TrAt H n v t ∧ TrAt H n u t ∧ Q (.bl true) H) ∨
  ∃ (a b : Addr) (xs ys : List V) (ts : List Tr) (m : Nat), vs = [.ref a, .ref b] ∧ H a = some (.lst xs) ∧ H b = some (.lst ys) ∧ ts.length ≤ 1000 ∧ Paired (TrAt H m) xs ts ∧ Paired (TrAt H m) ys ts ∧ n = m + 1 ∧ Q (.bl true) H
section
variable {P : Program} {w : World} {K : PySem.W.Frag} {mg : Str → Option Value} {base : Heap}
theorem same_zero (d : D0 K mg "_law_same" s_law_same ["found", "wanted"]) : Cal P w K mg base 0 "_law_same" (spSame 0) [] := by
  obtain ⟨f, fd, D, b⟩ := d.ex
  refine ⟨f, fd, _, [], ⟨fun vs H Q E h => ?_, fun A outer s H args us vs Q E hr e0 hb r h => ?_⟩, D.mgf, D.kp, b, .nil⟩
  · rcases h with ⟨v, u, t, rfl, _⟩ | ⟨a, b, xs, ys, ts, m, rfl, _⟩ <;> rfl
  · rcases h with ⟨v, u, t, _, h, _⟩ | ⟨a, b, xs, ys, ts, m, _, _, _, _, _, _, z, _⟩
    · exact h.elim
    · cases z
theorem same_step (T : Bl mg) (n : Nat) (c_law_same : Cal P w K mg base n "_law_same" (spSame n) []) (d : D0 K mg "_law_same" s_law_same ["found", "wanted"]) : Cal P w K mg base (n + 1) "_law_same" (spSame (n + 1)) [] := by
  refine cal d sc_law_same (fun vs H Q E h => ?_) (fun cdv A outer f s0 H vs Q E hr h => ?_)
  · rcases h with ⟨v, u, t, rfl, _⟩ | ⟨a, b, xs, ys, ts, m, rfl, _⟩ <;> rfl
  · refine ⟨_, (pss_cons (ps_if (pt_val (pe_callB call_isi (by rfl) T.isinstance (by decide +kernel) (pa_cons (pv 1) (pa_cons (pe_bltn (v := .ty "bool") (by rfl) T.bool (by decide +kernel) rfl) pa_nil)))) (pss_one (ps_ret (pe_and (pe_callB call_isi (by rfl) T.isinstance (by decide +kernel) (pa_cons (pv 0) (pa_cons (pe_bltn (v := .ty "bool") (by rfl) T.bool (by decide +kernel) rfl) pa_nil))) (pe_one (pe_cmpR op_eq (pv 0) (pv 1) (nomark _)))))) pss_nil)
      (pss_cons (ps_if (pt_val (pe_callB call_isi (by rfl) T.isinstance (by decide +kernel) (pa_cons (pv 1) (pa_cons (pe_bltn (v := .ty "int") (by rfl) T.int (by decide +kernel) rfl) pa_nil)))) (pss_one (ps_ret (pe_and (pe_callB call_isi (by rfl) T.isinstance (by decide +kernel) (pa_cons (pv 0) (pa_cons (pe_bltn (v := .ty "int") (by rfl) T.int (by decide +kernel) rfl) pa_nil))) (pe_and (pe_not (pe_callB call_isi (by rfl) T.isinstance (by decide +kernel) (pa_cons (pv 0) (pa_cons (pe_bltn (v := .ty "bool") (by rfl) T.bool (by decide +kernel) rfl) pa_nil)))) (pe_one (pe_cmpR op_eq (pv 0) (pv 1) (nomark _))))))) pss_nil)
      (pss_cons (ps_if (pt_val (pe_callB call_isi (by rfl) T.isinstance (by decide +kernel) (pa_cons (pv 1) (pa_cons (pe_bltn (v := .ty "str") (by rfl) T.str (by decide +kernel) rfl) pa_nil)))) (pss_one (ps_ret (pe_and (pe_callB call_isi (by rfl) T.isinstance (by decide +kernel) (pa_cons (pv 0) (pa_cons (pe_bltn (v := .ty "str") (by rfl) T.str (by decide +kernel) rfl) pa_nil))) (pe_one (pe_cmpR op_eq (pv 0) (pv 1) (nomark _)))))) pss_nil)
      (pss_cons (ps_if (PW.pt (pw_and (pt_val (pe_callB call_isi (by rfl) T.isinstance (by decide +kernel) (pa_cons (pv 1) (pa_cons (pe_bltn (v := .ty "tuple") (by rfl) T.tuple (by decide +kernel) rfl) pa_nil)))) (pw_and1 (pt_not (pt_val (pe_callB call_isi (by rfl) T.isinstance (by decide +kernel) (pa_cons (pv 0) (pa_cons (pe_bltn (v := .ty "tuple") (by rfl) T.tuple (by decide +kernel) rfl) pa_nil)))))))) (pss_one (ps_ret pe_bl)) pss_nil)
      (pss_cons (ps_if (PW.pt (pw_and (pt_val (pe_callB call_isi (by rfl) T.isinstance (by decide +kernel) (pa_cons (pv 1) (pa_cons (pe_bltn (v := .ty "list") (by rfl) T.list (by decide +kernel) rfl) pa_nil)))) (pw_and1 (pt_not (pt_val (pe_callB call_isi (by rfl) T.isinstance (by decide +kernel) (pa_cons (pv 0) (pa_cons (pe_bltn (v := .ty "list") (by rfl) T.list (by decide +kernel) rfl) pa_nil)))))))) (pss_one (ps_ret pe_bl)) pss_nil)
      (pss_cons (ps_if (pt_cmpR op_ne (pe_callB call_len_seq (by rfl) T.len (by decide +kernel) (pa_cons (pv 0) pa_nil)) (pe_callB call_len_seq (by rfl) T.len (by decide +kernel) (pa_cons (pv 1) pa_nil)) (nomark _)) (pss_one (ps_ret pe_bl)) pss_nil)
      (pss_cons (ps_for PassesOwn.never rfl (pi_range1 rfl T.range (pa_cons (pe_callB call_len_seq (by rfl) T.len (by decide +kernel) (pa_cons (pv 1) pa_nil)) pa_nil)) (pg_name (i := 2) sc_law_same.nd rfl (Or.inl rfl)) (pss_one (ps_if (pt_not (pt_val (pe_c c_law_same hr (Nat.le_refl _) rfl (pa_cons (pe_ix (show IxR _ (rIx K) from ix_seq) (pv 0) (pv 2) (fun _ _ => rfl)) (pa_cons (pe_ix (show IxR _ (rIx K) from ix_seq) (pv 1) (pv 2) (fun _ _ => rfl)) pa_nil))))) (pss_one (ps_ret pe_bl)) pss_nil)))
      (pss_one (ps_ret pe_bl))))))))), ?_⟩
    rcases h with ⟨v, u, t, rfl, hv, hu, k⟩ | ⟨a, b, xs, ys, ts, m, rfl, ha, hb, lt, px, py, e, k⟩
    · cases t with
      | int i =>
        cases (show v = .int i from hv)
        cases (show u = .int i from hu)
        refine ⟨_, rfl, _, _, _, _, false, rfl, .ty _, .base (.int _), kit_ty (by decide +kernel), _, rfl, iteF ?_⟩
        refine ⟨_, rfl, _, _, _, _, true, rfl, .ty _, .base (.int _), kit_ty (by decide +kernel), _, rfl, iteT ?_⟩
        refine ⟨_, rfl, _, _, _, _, true, rfl, .ty _, .base (.int _), kit_ty (by decide +kernel), _, rfl, iteT ?_⟩
        refine ⟨_, rfl, _, _, _, _, false, rfl, .ty _, .base (.int _), kit_ty (by decide +kernel), _, rfl, true, rfl, iteT ?_⟩
        refine ⟨_, rfl, _, rfl, rfl, ?_⟩
        show Q (.bl (decide (V.int i = V.int i))) H
        rw [decide_eq_true rfl]
        exact k
      | str s =>
        cases (show v = .str s from hv)
        cases (show u = .str s from hu)
        refine ⟨_, rfl, _, _, _, _, false, rfl, .ty _, .base (.str _), kit_ty (by decide +kernel), _, rfl, iteF ?_⟩
        refine ⟨_, rfl, _, _, _, _, false, rfl, .ty _, .base (.str _), kit_ty (by decide +kernel), _, rfl, iteF ?_⟩
        refine ⟨_, rfl, _, _, _, _, true, rfl, .ty _, .base (.str _), kit_ty (by decide +kernel), _, rfl, iteT ?_⟩
        refine ⟨_, rfl, _, _, _, _, true, rfl, .ty _, .base (.str _), kit_ty (by decide +kernel), _, rfl, iteT ?_⟩
        refine ⟨_, rfl, _, rfl, rfl, ?_⟩
        show Q (.bl (decide (V.str s = V.str s))) H
        rw [decide_eq_true rfl]
        exact k
      | bl x =>
        cases (show v = .bl x from hv)
        cases (show u = .bl x from hu)
        refine ⟨_, rfl, _, _, _, _, true, rfl, .ty _, .base (.bl _), kit_ty (by decide +kernel), _, rfl, iteT ?_⟩
        refine ⟨_, rfl, _, _, _, _, true, rfl, .ty _, .base (.bl _), kit_ty (by decide +kernel), _, rfl, iteT ?_⟩
        refine ⟨_, rfl, _, rfl, rfl, ?_⟩
        show Q (.bl (decide (V.bl x = V.bl x))) H
        rw [decide_eq_true rfl]
        exact k
      | tup ts =>
        obtain ⟨a, xs, rfl, ha, lt, px⟩ := hv
        obtain ⟨b, ys, rfl, hb, _, py⟩ := hu
        have lx := px.length
        have ly := py.length
        refine ⟨_, rfl, _, _, _, _, false, rfl, .ty _, .base (.tup hb), kit_ty (by decide +kernel), _, rfl, iteF ?_⟩
        refine ⟨_, rfl, _, _, _, _, false, rfl, .ty _, .base (.tup hb), kit_ty (by decide +kernel), _, rfl, iteF ?_⟩
        refine ⟨_, rfl, _, _, _, _, false, rfl, .ty _, .base (.tup hb), kit_ty (by decide +kernel), _, rfl, iteF ?_⟩
        refine ⟨_, rfl, _, _, _, _, true, rfl, .ty _, .base (.tup hb), kit_ty (by decide +kernel), _, rfl, iteT ⟨_, rfl, _, _, _, _, true, rfl, .ty _, .base (.tup ha), kit_ty (by decide +kernel), _, rfl, iteF ?_⟩⟩
        refine ⟨_, rfl, _, _, _, _, false, rfl, .ty _, .base (.tup hb), kit_ty (by decide +kernel), _, rfl, iteF (iteF ?_)⟩
        have qa := SqT.of (K := K) ha
        have qb := SqT.of (K := K) hb
        refine ⟨_, rfl, _, _, rfl, .inr qa, _, rfl, _, _, rfl, .inr qb, rfl, _, rfl, ?_⟩
        rw [lx, ly, show decide (V.int (ts.length : Int) = V.int (ts.length : Int)) = true from decide_eq_true rfl]
        refine iteF ⟨_, rfl, _, _, rfl, .inr qb, _, rfl, by omega, by omega, ?_⟩
        rw [ly, Int.toNat_natCast]
        refine for_range (lo := 0) (n := ts.length) (fun i σ H' => H' = H ∧ ∃ v2 : Option V, σ = [some (.ref a), some (.ref b), v2]) ⟨rfl, _, rfl⟩ ?_ ?_
        · rintro i σ H' hi ⟨rfl, v2, rfl⟩
          rw [show (0 : Int) + (i : Int) = (i : Int) by omega]
          obtain ⟨x, ex⟩ : ∃ x, xs[i]? = some x := ⟨_, List.getElem?_eq_getElem (by omega)⟩
          obtain ⟨y, ey⟩ : ∃ y, ys[i]? = some y := ⟨_, List.getElem?_eq_getElem (by omega)⟩
          obtain ⟨t1, e1, h1⟩ := pget px ex
          obtain ⟨t2, e2, h2⟩ := pget py ey
          rw [e1] at e2
          cases e2
          refine ⟨_, rfl, _, rfl, .inr (.inl ⟨_, _, _, _, rfl, rfl, qa, atI_nat ex, ?_⟩)⟩
          refine ⟨_, rfl, _, rfl, .inr (.inl ⟨_, _, _, _, rfl, rfl, qb, atI_nat ey, ?_⟩)⟩
          exact .inl ⟨x, y, t1, rfl, h1, h2, _, rfl, iteF ⟨rfl, _, rfl⟩⟩
        · rintro σ H' ⟨rfl, v2, rfl⟩
          exact k
    · cases e
      have lx := px.length
      have ly := py.length
      refine ⟨_, rfl, _, _, _, _, false, rfl, .ty _, .base (.lst hb), kit_ty (by decide +kernel), _, rfl, iteF ?_⟩
      refine ⟨_, rfl, _, _, _, _, false, rfl, .ty _, .base (.lst hb), kit_ty (by decide +kernel), _, rfl, iteF ?_⟩
      refine ⟨_, rfl, _, _, _, _, false, rfl, .ty _, .base (.lst hb), kit_ty (by decide +kernel), _, rfl, iteF ?_⟩
      refine ⟨_, rfl, _, _, _, _, false, rfl, .ty _, .base (.lst hb), kit_ty (by decide +kernel), _, rfl, iteF (iteF ?_)⟩
      refine ⟨_, rfl, _, _, _, _, true, rfl, .ty _, .base (.lst hb), kit_ty (by decide +kernel), _, rfl, iteT ⟨_, rfl, _, _, _, _, true, rfl, .ty _, .base (.lst ha), kit_ty (by decide +kernel), _, rfl, iteF ?_⟩⟩
      have qa := SqL.of (K := K) ha
      have qb := SqL.of (K := K) hb
      refine ⟨_, rfl, _, _, rfl, .inl qa, _, rfl, _, _, rfl, .inl qb, rfl, _, rfl, ?_⟩
      rw [lx, ly, show decide (V.int (ts.length : Int) = V.int (ts.length : Int)) = true from decide_eq_true rfl]
      refine iteF ⟨_, rfl, _, _, rfl, .inl qb, _, rfl, by omega, by omega, ?_⟩
      rw [ly, Int.toNat_natCast]
      refine for_range (lo := 0) (n := ts.length) (fun i σ H' => H' = H ∧ ∃ v2 : Option V, σ = [some (.ref a), some (.ref b), v2]) ⟨rfl, _, rfl⟩ ?_ ?_
      · rintro i σ H' hi ⟨rfl, v2, rfl⟩
        rw [show (0 : Int) + (i : Int) = (i : Int) by omega]
        obtain ⟨x, ex⟩ : ∃ x, xs[i]? = some x := ⟨_, List.getElem?_eq_getElem (by omega)⟩
        obtain ⟨y, ey⟩ : ∃ y, ys[i]? = some y := ⟨_, List.getElem?_eq_getElem (by omega)⟩
        obtain ⟨t1, e1, h1⟩ := pget px ex
        obtain ⟨t2, e2, h2⟩ := pget py ey
        rw [e1] at e2
        cases e2
        refine ⟨_, rfl, _, rfl, .inl ⟨_, _, _, _, rfl, rfl, qa, atI_nat ex, ?_⟩⟩
        refine ⟨_, rfl, _, rfl, .inl ⟨_, _, _, _, rfl, rfl, qb, atI_nat ey, ?_⟩⟩
        exact .inl ⟨x, y, t1, rfl, h1, h2, _, rfl, iteF ⟨rfl, _, rfl⟩⟩
      · rintro σ H' ⟨rfl, v2, rfl⟩
        exact k
theorem c_law_same (T : Bl mg) (d : D0 K mg "_law_same" s_law_same ["found", "wanted"]) : ∀ n, Cal P w K mg base n "_law_same" (spSame n) []
  | 0 => same_zero d
  | n + 1 => same_step T n (c_law_same T d n) d
end
end K04

set_option Elab.async false
set_option maxRecDepth 100000
set_option maxHeartbeats 4000000
set_option exponentiation.threshold 4096
set_option linter.unusedVariables false
/-! letters -/
namespace K04
open PySem PySem.Spec PyProof.Rows L2 C8 LamX UF
structure Row where
  i : Nat
  s : Int
  r : Int
  b : Int
  n : Int
  say : List Tr
  ab : Int
  re : Bool
  sums : List Tr
  po : Int
  mo : Bool
def kN : Nat → Str
  | 0 => ""
  | 1 => "ask"
  | 2 => "answer"
  | 3 => "probe"
  | 4 => "probed"
  | _ => "sums"
def tos (i : Int) : Str := (toString i : String)
def fsB (R : Row) (q : Addr) : List (Str × V) := [("sender", .int R.s), ("receiver", .int R.r), ("beat", .int R.b), ("number", .int R.n), ("sayings", .ref q)]
def fs3 (R : Row) (q : Addr) : List (Str × V) := [("sender", .int R.s), ("receiver", .int R.r), ("beat", .int R.b), ("number", .int R.n), ("sayings", .ref q), ("about", .int R.ab)]
def fs4 (R : Row) (q : Addr) : List (Str × V) := [("sender", .int R.s), ("receiver", .int R.r), ("beat", .int R.b), ("number", .int R.n), ("sayings", .ref q), ("about", .int R.ab), ("reached", .bl R.re)]
def fs5 (R : Row) (q q2 : Addr) : List (Str × V) := [("sender", .int R.s), ("receiver", .int R.r), ("beat", .int R.b), ("number", .int R.n), ("sayings", .ref q), ("sums", .ref q2), ("position", .int R.po), ("more", .bl R.mo)]
def fsN : Nat → Row → Addr → Addr → List (Str × V)
  | 3, R, q, _ => fs3 R q
  | 4, R, q, _ => fs4 R q
  | 5, R, q, q2 => fs5 R q q2
  | _, R, q, _ => fsB R q
theorem six {p : Nat → Prop} (h0 : p 0) (h1 : p 1) (h2 : p 2) (h3 : p 3) (h4 : p 4) (h5 : p 5) : ∀ i, i < 6 → p i := fun i hi => by
  have : i = 0 ∨ i = 1 ∨ i = 2 ∨ i = 3 ∨ i = 4 ∨ i = 5 := by omega
  rcases this with rfl | rfl | rfl | rfl | rfl | rfl
  · exact h0
  · exact h1
  · exact h2
  · exact h3
  · exact h4
  · exact h5
theorem fx_sender {R : Row} {q q2 : Addr} : ∀ i, i < 6 → (fsN i R q q2).lookup ("sender" : Str) = some (.int R.s) := six (by kernel_rfl) (by kernel_rfl) (by kernel_rfl) (by kernel_rfl) (by kernel_rfl) (by kernel_rfl)
theorem fx_receiver {R : Row} {q q2 : Addr} : ∀ i, i < 6 → (fsN i R q q2).lookup ("receiver" : Str) = some (.int R.r) := six (by kernel_rfl) (by kernel_rfl) (by kernel_rfl) (by kernel_rfl) (by kernel_rfl) (by kernel_rfl)
theorem fx_beat {R : Row} {q q2 : Addr} : ∀ i, i < 6 → (fsN i R q q2).lookup ("beat" : Str) = some (.int R.b) := six (by kernel_rfl) (by kernel_rfl) (by kernel_rfl) (by kernel_rfl) (by kernel_rfl) (by kernel_rfl)
theorem fx_number {R : Row} {q q2 : Addr} : ∀ i, i < 6 → (fsN i R q q2).lookup ("number" : Str) = some (.int R.n) := six (by kernel_rfl) (by kernel_rfl) (by kernel_rfl) (by kernel_rfl) (by kernel_rfl) (by kernel_rfl)
theorem fx_sayings {R : Row} {q q2 : Addr} : ∀ i, i < 6 → (fsN i R q q2).lookup ("sayings" : Str) = some (.ref q) := six (by kernel_rfl) (by kernel_rfl) (by kernel_rfl) (by kernel_rfl) (by kernel_rfl) (by kernel_rfl)
theorem fx_kind {R : Row} {q q2 : Addr} : ∀ i, i < 6 → (fsN i R q q2).lookup ("KIND" : Str) = none := six (by kernel_rfl) (by kernel_rfl) (by kernel_rfl) (by kernel_rfl) (by kernel_rfl) (by kernel_rfl)
theorem fx_head {R : Row} {q q2 : Addr} : ∀ i, i < 6 → (fsN i R q q2).lookup ("head" : Str) = none := six (by kernel_rfl) (by kernel_rfl) (by kernel_rfl) (by kernel_rfl) (by kernel_rfl) (by kernel_rfl)
theorem fx_parts {R : Row} {q q2 : Addr} : ∀ i, i < 6 → (fsN i R q q2).lookup ("parts" : Str) = none := six (by kernel_rfl) (by kernel_rfl) (by kernel_rfl) (by kernel_rfl) (by kernel_rfl) (by kernel_rfl)
theorem f3_about {R : Row} {q : Addr} : (fs3 R q).lookup ("about" : Str) = some (.int R.ab) := by kernel_rfl
theorem f4_about {R : Row} {q : Addr} : (fs4 R q).lookup ("about" : Str) = some (.int R.ab) := by kernel_rfl
theorem f4_reached {R : Row} {q : Addr} : (fs4 R q).lookup ("reached" : Str) = some (.bl R.re) := by kernel_rfl
theorem f5_sums {R : Row} {q q2 : Addr} : (fs5 R q q2).lookup ("sums" : Str) = some (.ref q2) := by kernel_rfl
theorem f5_position {R : Row} {q q2 : Addr} : (fs5 R q q2).lookup ("position" : Str) = some (.int R.po) := by kernel_rfl
theorem f5_more {R : Row} {q q2 : Addr} : (fs5 R q q2).lookup ("more" : Str) = some (.bl R.mo) := by kernel_rfl
/-- a letter of the kind i, of the class at C, at o -/
structure LtA (i : Nat) (C : Addr) (H : Hp) (o q q2 : Addr) (vs us : List V) (R : Row) : Prop where
  ho : ∃ dx, H o = some (.ins C dx (fsN i R q q2))
  hq : H q = some (.lst vs)
  ps : Paired (TrAt H 2) vs R.say
  hu : i = 5 → H q2 = some (.lst us) ∧ Paired (TrAt H 2) us R.sums
theorem LtA.fr {i : Nat} {C : Addr} {H H' : Hp} {o q q2 : Addr} {vs us : List V} {R : Row} {ds : List Addr} (L : LtA i C H o q q2 vs us R) (X : Fr ds H H') (n1 : o ∉ ds) (n2 : q ∉ ds) (n3 : i = 5 → q2 ∉ ds) (nt : ∀ a ∈ ds, ∀ vs, H a ≠ some (.tup vs)) : LtA i C H' o q q2 vs us R := by
  obtain ⟨⟨dx, e⟩, hq, ps, hu⟩ := L
  exact ⟨⟨dx, X.ins e n1⟩, X.lst hq n2, pimp ps fun a s h => h.fr X nt, fun e => ⟨X.lst (hu e).1 (n3 e), pimp (hu e).2 fun a s h => h.fr X nt⟩⟩
theorem LtA.fr0 {i : Nat} {C : Addr} {H H' : Hp} {o q q2 : Addr} {vs us : List V} {R : Row} (L : LtA i C H o q q2 vs us R) (X : Fr [] H H') : LtA i C H' o q q2 vs us R := L.fr X not_nil not_nil (fun _ => not_nil) fun a m => nomatch m
structure RowOk (R : Row) : Prop where
  s : R.s.natAbs.log2 < 1920
  r : R.r.natAbs.log2 < 1920
  b : R.b.natAbs.log2 < 1920
  n : R.n.natAbs.log2 < 1920
  ab : R.ab.natAbs.log2 < 1920
  po : R.po.natAbs.log2 < 1920
  ls : R.say.length ≤ 100
  lu : R.sums.length ≤ 100
def yn (b : Bool) : Str := if b then "yes" else "no"
def lm (b : Bool) : Str := if b then "more" else "last"
def exW : Nat → Row → List Str
  | 3, R => [tos R.ab]
  | 4, R => [tos R.ab, yn R.re]
  | 5, R => [tos R.po, lm R.mo]
  | _, _ => []
def wordsF (i : Nat) (R : Row) : List Str := [kN i, tos R.s, tos R.r, tos R.b, tos R.n] ++ exW i R
def exT : Nat → Row → List Tr
  | 3, R => [.int R.ab]
  | 4, R => [.int R.ab, .bl R.re]
  | 5, R => [.tup R.sums, .int R.po, .bl R.mo]
  | _, _ => []
def partsT (i : Nat) (R : Row) : Tr := .tup ([.str (kN i), .int R.s, .int R.r, .int R.b, .int R.n, .tup R.say] ++ exT i R)
def sizeR (i : Nat) (R : Row) : Nat := R.say.length + if i = 5 then R.sums.length else 0
/-! what is promised -/
def spIni0 (K : PySem.W.Frag) : Sp := fun vs H Q _ => ∃ (o C dx l : Addr) (R : Row) (ws : List V), vs = [.ref o, .int R.s, .int R.r, .int R.b, .int R.n, .ref l] ∧ H o = some (.ins C dx []) ∧ H l = some (.lst ws) ∧ Cls K C ∧ NoAttr K C "sender" ∧ NoAttr K C "receiver" ∧ NoAttr K C "beat" ∧ NoAttr K C "number" ∧ NoAttr K C "sayings" ∧
  ∀ (q : Addr) (H' : Hp), Nw H q → Fr [o] H H' → H' o = some (.ins C dx (fsB R q)) → H' q = some (.lst ws) → Q .non H'
def argX : Nat → Row → Addr → List V
  | 3, R, _ => [.int R.ab]
  | 4, R, _ => [.int R.ab, .bl R.re]
  | 5, R, l => [.ref l, .int R.po, .bl R.mo]
  | _, _, _ => []
def spIni (i : Nat) (C : Addr) : Sp := fun vs H Q _ => ∃ (o dx l l2 : Addr) (R : Row) (ws us : List V), vs = [.ref o, .int R.s, .int R.r, .int R.b, .int R.n, .ref l] ++ argX i R l2 ∧ H o = some (.ins C dx []) ∧ H l = some (.lst ws) ∧ (i = 5 → H l2 = some (.lst us)) ∧
  ∀ (q q2 : Addr) (H' : Hp), Nw H q → (i = 5 → Nw H q2) → Fr [o] H H' → H' o = some (.ins C dx (fsN i R q q2)) → H' q = some (.lst ws) → (i = 5 → H' q2 = some (.lst us)) → Q .non H'
def spSize (i : Nat) (C : Addr) : Sp := fun vs H Q _ => ∃ (o q q2 : Addr) (ws us : List V) (R : Row), vs = [.ref o] ∧ LtA i C H o q q2 ws us R ∧ Q (.int (sizeR i R : Int)) H
def spHead (i : Nat) (C : Addr) : Sp := fun vs H Q _ => ∃ (o q q2 : Addr) (ws us : List V) (R : Row), vs = [.ref o] ∧ LtA i C H o q q2 ws us R ∧ RowOk R ∧ ∀ (a : Addr) (H' : Hp), Nw H a → Fr [] H H' → H' a = some (.lst ((wordsF i R).map V.str)) → Q (.ref a) H'
def spParts (i : Nat) (C : Addr) : Sp := fun vs H Q _ => ∃ (o q q2 : Addr) (ws us : List V) (R : Row), vs = [.ref o] ∧ LtA i C H o q q2 ws us R ∧ RowOk R ∧ ∀ (v : V) (H' : Hp), Fr [] H H' → TrAt H' 4 v (partsT i R) → Q v H'
structure At4 (K : PySem.W.Frag) (C : Addr) : Prop where
  cl : Cls K C
  s : NoAttr K C "sender"
  r : NoAttr K C "receiver"
  b : NoAttr K C "beat"
  n : NoAttr K C "number"
  y : NoAttr K C "sayings"
def spHead0 (K : PySem.W.Frag) : Sp := fun vs H Q _ => ∃ (i : Nat) (C o q q2 : Addr) (ws us : List V) (R : Row), i < 6 ∧ vs = [.ref o] ∧ LtA i C H o q q2 ws us R ∧ RowOk R ∧ At4 K C ∧ SupO.ConS K C "KIND" (kN i) ∧ ∀ (a : Addr) (H' : Hp), Nw H a → Fr [] H H' → H' a = some (.lst ([kN i, tos R.s, tos R.r, tos R.b, tos R.n].map V.str)) → Q (.ref a) H'
def spParts0 (K : PySem.W.Frag) : Sp := fun vs H Q _ => ∃ (i : Nat) (C o q q2 : Addr) (ws us : List V) (R : Row), i < 6 ∧ vs = [.ref o] ∧ LtA i C H o q q2 ws us R ∧ RowOk R ∧ At4 K C ∧ SupO.ConS K C "KIND" (kN i) ∧ ∀ (a ta : Addr) (H' : Hp), Fr [] H H' → H' a = some (.tup [.str (kN i), .int R.s, .int R.r, .int R.b, .int R.n, .ref ta]) → H' ta = some (.tup ws) → Q (.ref a) H'
section
variable {P : Program} {w : World} {K : PySem.W.Frag} {mg : Str → Option Value} {base : Heap} {C D f c cc fI fH fP : Addr} {fd : FuncData}
theorem k_ini0 (T : Bl mg) (F : C8.Fun K "__init__" "Letter.__init__" s_Letter__init f fd) : FnOk P w K mg base C8.CX0 1 f fd ["self", "sender", "receiver", "beat", "number", "sayings"] (spIni0 K) := by
  refine C8.fn0 F sc_Letter__init (fun vs H Q E h => ?_) (fun cdv A outer s0 H vs Q E hr h => ?_)
  · obtain ⟨o, C, dx, l, R, ws, rfl, _⟩ := h
    rfl
  · obtain ⟨o, C, dx, l, R, ws, rfl, ho, hl, cl, n1, n2, n3, n4, n5, k⟩ := h
    refine ⟨_, (pss_cons (ps_fld (pv 0) (pv 1) rfl)
      (pss_cons (ps_fld (pv 0) (pv 2) rfl)
      (pss_cons (ps_fld (pv 0) (pv 3) rfl)
      (pss_cons (ps_fld (pv 0) (pv 4) rfl)
      (pss_one (ps_fld (pv 0) (pe_callTy call_list_of (by rfl) T.list (by decide +kernel) (pa_cons (pv 5) pa_nil)) rfl)))))), ?_⟩
    have lo : l ≠ o := fun z => by rw [z, ho] at hl; cases hl
    have put : ∀ {G : Hp} {fs : List (Str × V)} (fs' : List (Str × V)), Fr [o] H G ∧ G o = some (.ins C dx fs) ∧ G l = some (.lst ws) → Fr [o] H (upd G o (.ins C dx fs')) ∧ upd G o (.ins C dx fs') o = some (.ins C dx fs') ∧ upd G o (.ins C dx fs') l = some (.lst ws) := fun fs' h => ⟨h.1.upd (.head _) (.ins h.2.1) _, upd_same, by rw [upd_ne lo]; exact h.2.2⟩
    have g0 : Fr [o] H H ∧ H o = some (.ins C dx []) ∧ H l = some (.lst ws) := ⟨Fr.refl _ _, ho, hl⟩
    refine ⟨_, rfl, _, rfl, o, C, dx, _, rfl, g0.2.1, cl, n1, by show 0 < 1000; decide, ?_⟩
    have g1 := put (putF ("sender" : Str) (V.int R.s) []) g0
    generalize upd H o (.ins C dx (putF ("sender" : Str) (V.int R.s) [])) = H1 at g1
    refine ⟨_, rfl, _, rfl, o, C, dx, _, rfl, g1.2.1, cl, n2, by show 1 < 1000; decide, ?_⟩
    have g2 := put (putF ("receiver" : Str) (V.int R.r) (putF ("sender" : Str) (V.int R.s) [])) g1
    generalize upd H1 o (.ins C dx (putF ("receiver" : Str) (V.int R.r) (putF ("sender" : Str) (V.int R.s) []))) = H2 at g2
    refine ⟨_, rfl, _, rfl, o, C, dx, _, rfl, g2.2.1, cl, n3, by show 2 < 1000; decide, ?_⟩
    have g3 := put (putF ("beat" : Str) (V.int R.b) (putF ("receiver" : Str) (V.int R.r) (putF ("sender" : Str) (V.int R.s) []))) g2
    generalize upd H2 o (.ins C dx (putF ("beat" : Str) (V.int R.b) (putF ("receiver" : Str) (V.int R.r) (putF ("sender" : Str) (V.int R.s) [])))) = H3 at g3
    refine ⟨_, rfl, _, rfl, o, C, dx, _, rfl, g3.2.1, cl, n4, by show 3 < 1000; decide, ?_⟩
    have g4 := put (putF ("number" : Str) (V.int R.n) (putF ("beat" : Str) (V.int R.b) (putF ("receiver" : Str) (V.int R.r) (putF ("sender" : Str) (V.int R.s) [])))) g3
    generalize upd H3 o (.ins C dx (putF ("number" : Str) (V.int R.n) (putF ("beat" : Str) (V.int R.b) (putF ("receiver" : Str) (V.int R.r) (putF ("sender" : Str) (V.int R.s) []))))) = H4 at g4
    refine ⟨_, rfl, l, _, rfl, .inl (SqL.of g4.2.2), fun q nq => ?_⟩
    have X5 := g4.1.new nq (.lst ws)
    have hq : upd H4 q (.lst ws) q = some (.lst ws) := upd_same
    have ho5 := upd_new (o := .lst ws) nq g4.2.1
    have nwq : Nw H q := g4.1.live q (.of nq)
    have qo : q ≠ o := (ne_of_none g4.2.1 nq).symm
    generalize upd H4 q (.lst ws) = H5 at X5 hq ho5
    refine ⟨_, rfl, o, C, dx, _, rfl, ho5, cl, n5, by show 4 < 1000; decide, ?_⟩
    exact k q _ nwq (X5.upd (.head _) (.ins ho5) _) (by rw [upd_same]; kernel_rfl) (by rw [upd_ne qo]; exact hq)
theorem k_head0 (T : Bl mg) (F : C8.Fun K "head" "Letter.head" s_Letter_head f fd) : FnOk P w K mg base C8.CX0 1 f fd ["self"] (spHead0 K) := by
  refine C8.fn0 F sc_Letter_head (fun vs H Q E h => ?_) (fun cdv A outer s0 H vs Q E hr h => ?_)
  · obtain ⟨i, C, o, q, q2, ws, us, R, _, rfl, _⟩ := h
    rfl
  · obtain ⟨i, C, o, q, q2, ws, us, R, i6, rfl, L, ok, A4, ⟨u, ku⟩, k⟩ := h
    refine ⟨_, (pss_cons (ps_set (i := 1) sc_Letter_head.nd rfl (Or.inl rfl) (pe_lst (pa_cons (pe_fld (pv 0) rfl) (pa_cons (pe_fld (pv 0) rfl) (pa_cons (pe_fld (pv 0) rfl) (pa_cons (pe_fld (pv 0) rfl) pa_nil))))))
      (pss_one (ps_ret (pe_op op_cat (pe_lst (pa_cons (pe_con (pv 0) rfl) pa_nil)) (pe_lc (own := [("number", 2)]) (g := gName 2) (tt := tYes) (by rfl) sc_Letter_head.nd (pi_list (pv 1)) (blkOk_by (own := [("number", 2)]) (N := n_Letter_head) (sc := C8.fnScope s_Letter_head) (by decide +kernel)) (fun _ _ _ _ _ => pg_name (i := 2) sc_Letter_head.nd rfl (Or.inl rfl)) (fun _ _ _ _ _ => pts_nil) (fun _ _ _ _ _ => (pe_callTy call_str_int (by rfl) T.str (by decide +kernel) (pa_cons (pv 2) pa_nil)))))))), ?_⟩
    obtain ⟨dx, ho⟩ := L.ho
    refine ⟨_, rfl, o, C, dx, _, _, rfl, ho, A4.cl, A4.s, fx_sender i i6, _, rfl, o, C, dx, _, _, rfl, ho, A4.cl, A4.r, fx_receiver i i6, _, rfl, o, C, dx, _, _, rfl, ho, A4.cl, A4.b, fx_beat i i6, _, rfl, o, C, dx, _, _, rfl, ho, A4.cl, A4.n, fx_number i i6, by show 4 ≤ sizeLine; decide, fun nm nnm => ?_⟩
    have X1 : Fr [] H (upd H nm (.lst [.int R.s, .int R.r, .int R.b, .int R.n])) := Fr.new0 nnm _
    have hn : upd H nm (.lst [.int R.s, .int R.r, .int R.b, .int R.n]) nm = some (.lst ([R.s, R.r, R.b, R.n].map V.int)) := upd_same
    generalize upd H nm (.lst [.int R.s, .int R.r, .int R.b, .int R.n]) = H1 at X1 hn
    have ho1 := X1.ins ho not_nil
    refine ⟨_, rfl, o, C, dx, _, _, _, rfl, ho1, A4.cl, ku, fx_kind i i6, by show 1 ≤ sizeLine; decide, fun kl nkl => ?_⟩
    have X2 := X1.new nkl (.lst [.str (kN i)])
    have hkl : upd H1 kl (.lst [.str (kN i)]) kl = some (.lst [.str (kN i)]) := upd_same
    have hn2 := upd_new (o := .lst [.str (kN i)]) nkl hn
    generalize upd H1 kl (.lst [.str (kN i)]) = H2 at X2 hkl hn2
    refine ⟨_, rfl, nm, rfl, ⟨_, SqL.of hn2⟩, fun D nD => ?_⟩
    refine lc_list (xs := [R.s, R.r, R.b, R.n].map V.int) (fun j H' => Fr [] H2 H' ∧ H' D = some (.lst ((([R.s, R.r, R.b, R.n].take j).map tos).map V.str))) ⟨Fr.new0 nD _, upd_same⟩ (fun j H' _ pv => SqL.of (pv.1.lst hn2 not_nil)) (fun j v H3 hv pv => ?_) (fun H3 pv => ?_)
    · obtain ⟨X3, hD⟩ := pv
      obtain ⟨z, ez, rfl⟩ := map_getE hv
      have bz : z.natAbs.log2 < 1920 := by
        have m := List.mem_of_getElem? ez
        simp only [List.mem_cons, List.not_mem_nil, or_false] at m
        rcases m with rfl | rfl | rfl | rfl
        · exact ok.s
        · exact ok.r
        · exact ok.b
        · exact ok.n
      refine ⟨rfl, _, rfl, _, rfl, bz, _, hD, by rw [List.length_map, List.length_map, List.length_take]; exact small1000' (Nat.le_trans (Nat.min_le_right _ _) (by show 4 ≤ 1000; decide)), X3.late (.of nD) (.lst hD) _, ?_⟩
      rw [upd_same, take_snoc ez, List.map_append, List.map_append]
      rfl
    · obtain ⟨X3, hD⟩ := pv
      have hkl3 := X3.lst hkl not_nil
      refine ⟨kl, D, _, _, rfl, rfl, hkl3, hD, by show 1 + 4 ≤ sizeLine; decide, fun a na => ?_⟩
      exact k a _ ((X2.trans X3).live a (.of na)) ((X2.trans X3).new na _) upd_same
theorem k_parts0 (T : Bl mg) (F : C8.Fun K "parts" "Letter.parts" s_Letter_parts f fd) : FnOk P w K mg base C8.CX0 1 f fd ["self"] (spParts0 K) := by
  refine C8.fn0 F sc_Letter_parts (fun vs H Q E h => ?_) (fun cdv A outer s0 H vs Q E hr h => ?_)
  · obtain ⟨i, C, o, q, q2, ws, us, R, _, rfl, _⟩ := h
    rfl
  · obtain ⟨i, C, o, q, q2, ws, us, R, i6, rfl, L, ok, A4, ⟨u, ku⟩, k⟩ := h
    refine ⟨_, (pss_one (ps_ret (pe_tup (pa_cons (pe_con (pv 0) rfl) (pa_cons (pe_fld (pv 0) rfl) (pa_cons (pe_fld (pv 0) rfl) (pa_cons (pe_fld (pv 0) rfl) (pa_cons (pe_fld (pv 0) rfl) (pa_cons (pe_callTy call_tuple_of (by rfl) T.tuple (by decide +kernel) (pa_cons (pe_fld (pv 0) rfl) pa_nil)) pa_nil))))))))), ?_⟩
    obtain ⟨dx, ho⟩ := L.ho
    refine ⟨_, rfl, o, C, dx, _, _, _, rfl, ho, A4.cl, ku, fx_kind i i6, _, rfl, o, C, dx, _, _, rfl, ho, A4.cl, A4.s, fx_sender i i6, _, rfl, o, C, dx, _, _, rfl, ho, A4.cl, A4.r, fx_receiver i i6, _, rfl, o, C, dx, _, _, rfl, ho, A4.cl, A4.b, fx_beat i i6, _, rfl, o, C, dx, _, _, rfl, ho, A4.cl, A4.n, fx_number i i6, ?_⟩
    refine ⟨_, rfl, o, C, dx, _, _, rfl, ho, A4.cl, A4.y, fx_sayings i i6, q, ws, rfl, .inl ⟨SqL.of L.hq, fun ta nta => ⟨by show 6 ≤ sizeLine; decide, fun a na => ?_⟩⟩⟩
    exact k a ta _ ((Fr.new0 nta _).new na _) upd_same (upd_new na upd_same)
end
end K04

set_option Elab.async false
set_option maxRecDepth 100000
set_option maxHeartbeats 4000000
set_option exponentiation.threshold 4096
set_option linter.unusedVariables false
/-! the classes of letters below Letter -/
namespace K04
open PySem PySem.Spec PyProof.Rows L2 C8 LamX UF
section
variable {P : Program} {w : World} {K : PySem.W.Frag} {mg : Str → Option Value} {base : Heap} {C D f c cc fI fH fP : Addr} {fd : FuncData}
theorem ini_of {i : Nat} (h : i < 3) (A4 : At4 K C) (F : FnOk P w K mg base C8.CX0 1 f fd ["self", "sender", "receiver", "beat", "number", "sayings"] (spIni0 K)) : FnOk P w K mg base C8.CX0 1 f fd ["self", "sender", "receiver", "beat", "number", "sayings"] (spIni i C) := by
  refine F.imp fun vs H Q E h' => ?_
  obtain ⟨o, dx, l, l2, R, ws, us, e, ho, hl, _, k⟩ := h'
  have : i = 0 ∨ i = 1 ∨ i = 2 := by omega
  rcases this with rfl | rfl | rfl <;> exact ⟨o, C, dx, l, R, ws, e, ho, hl, A4.cl, A4.s, A4.r, A4.b, A4.n, A4.y, fun q H' n X a b => k q q H' n (fun z => nomatch z) X a b fun z => nomatch z⟩
theorem k_ini3 (T : Bl mg) (d : SupO.SupD P K C "__init__" "Probe.__init__" s_Probe__init f c cc fd) (A4 : At4 K C) (n1 : NoAttr K C "about") (t : SupO.SupT K C C "__init__" fI) (F : FnR P w K mg base C8.CX0 1 fI (spIni0 K)) : FnOk P w K mg base C8.CX0 2 f fd ["self", "sender", "receiver", "beat", "number", "sayings", "about"] (spIni 3 C) := by
  refine d.ok sc_Probe__init (fun vs H Q E h => ?_) (fun A outer s0 H vs Q E hr h => ?_)
  · obtain ⟨o, dx, l, l2, R, ws, us, rfl, _⟩ := h
    rfl
  · obtain ⟨o, dx, l, l2, R, ws, us, rfl, ho, hl, hl2, k⟩ := h
    refine ⟨_, (SupO.psa_expr (SupO.pea_sup d rfl rfl rfl rfl rfl F hr (by decide) (pa_cons (pv 1) (pa_cons (pv 2) (pa_cons (pv 3) (pa_cons (pv 4) (pa_cons (pv 5) pa_nil)))))) (pss_one (ps_fld (pv 0) (pv 6) rfl))), ?_⟩
    refine ⟨o, C, dx, [], rfl, ho, t, _, rfl, _, rfl, _, rfl, _, rfl, _, rfl, o, C, dx, l, R, ws, rfl, ho, hl, A4.cl, A4.s, A4.r, A4.b, A4.n, A4.y, fun q H1 nwq X1 ho1 hq1 => ?_⟩
    have qo : q ≠ o := (ne_nw ho nwq).symm
    refine ⟨_, rfl, _, rfl, o, C, dx, _, rfl, ho1, A4.cl, n1, by show 5 < 1000; decide, ?_⟩
    exact k q q _ nwq (fun z => nomatch z) (X1.upd (.head _) (.ins ho1) _) (by rw [upd_same]; kernel_rfl) (by rw [upd_ne qo]; exact hq1) fun z => nomatch z
theorem k_ini4 (T : Bl mg) (d : SupO.SupD P K C "__init__" "Probed.__init__" s_Probed__init f c cc fd) (A4 : At4 K C) (n1 : NoAttr K C "about") (n2 : NoAttr K C "reached") (t : SupO.SupT K C C "__init__" fI) (F : FnR P w K mg base C8.CX0 1 fI (spIni0 K)) : FnOk P w K mg base C8.CX0 2 f fd ["self", "sender", "receiver", "beat", "number", "sayings", "about", "reached"] (spIni 4 C) := by
  refine d.ok sc_Probed__init (fun vs H Q E h => ?_) (fun A outer s0 H vs Q E hr h => ?_)
  · obtain ⟨o, dx, l, l2, R, ws, us, rfl, _⟩ := h
    rfl
  · obtain ⟨o, dx, l, l2, R, ws, us, rfl, ho, hl, hl2, k⟩ := h
    refine ⟨_, (SupO.psa_expr (SupO.pea_sup d rfl rfl rfl rfl rfl F hr (by decide) (pa_cons (pv 1) (pa_cons (pv 2) (pa_cons (pv 3) (pa_cons (pv 4) (pa_cons (pv 5) pa_nil)))))) (pss_cons (ps_fld (pv 0) (pv 6) rfl)
      (pss_one (ps_fld (pv 0) (pv 7) rfl)))), ?_⟩
    refine ⟨o, C, dx, [], rfl, ho, t, _, rfl, _, rfl, _, rfl, _, rfl, _, rfl, o, C, dx, l, R, ws, rfl, ho, hl, A4.cl, A4.s, A4.r, A4.b, A4.n, A4.y, fun q H1 nwq X1 ho1 hq1 => ?_⟩
    have qo : q ≠ o := (ne_nw ho nwq).symm
    refine ⟨_, rfl, _, rfl, o, C, dx, _, rfl, ho1, A4.cl, n1, by show 5 < 1000; decide, ?_⟩
    have X2 := X1.upd (.head _) (.ins ho1) (.ins C dx (putF ("about" : Str) (V.int R.ab) (fsB R q)))
    have ho2 : upd H1 o (.ins C dx (putF ("about" : Str) (V.int R.ab) (fsB R q))) o = some (.ins C dx (putF ("about" : Str) (V.int R.ab) (fsB R q))) := upd_same
    have hq2 : upd H1 o (.ins C dx (putF ("about" : Str) (V.int R.ab) (fsB R q))) q = some (.lst ws) := by rw [upd_ne qo]; exact hq1
    generalize upd H1 o (.ins C dx (putF ("about" : Str) (V.int R.ab) (fsB R q))) = H2 at X2 ho2 hq2
    refine ⟨_, rfl, _, rfl, o, C, dx, _, rfl, ho2, A4.cl, n2, by show 6 < 1000; decide, ?_⟩
    exact k q q _ nwq (fun z => nomatch z) (X2.upd (.head _) (.ins ho2) _) (by rw [upd_same]; kernel_rfl) (by rw [upd_ne qo]; exact hq2) fun z => nomatch z
theorem k_ini5 (T : Bl mg) (d : SupO.SupD P K C "__init__" "Sums.__init__" s_Sums__init f c cc fd) (A4 : At4 K C) (n1 : NoAttr K C "sums") (n2 : NoAttr K C "position") (n3 : NoAttr K C "more") (t : SupO.SupT K C C "__init__" fI) (F : FnR P w K mg base C8.CX0 1 fI (spIni0 K)) : FnOk P w K mg base C8.CX0 2 f fd ["self", "sender", "receiver", "beat", "number", "sayings", "sums", "position", "more"] (spIni 5 C) := by
  refine d.ok sc_Sums__init (fun vs H Q E h => ?_) (fun A outer s0 H vs Q E hr h => ?_)
  · obtain ⟨o, dx, l, l2, R, ws, us, rfl, _⟩ := h
    rfl
  · obtain ⟨o, dx, l, l2, R, ws, us, rfl, ho, hl, hl2, k⟩ := h
    refine ⟨_, (SupO.psa_expr (SupO.pea_sup d rfl rfl rfl rfl rfl F hr (by decide) (pa_cons (pv 1) (pa_cons (pv 2) (pa_cons (pv 3) (pa_cons (pv 4) (pa_cons (pv 5) pa_nil)))))) (pss_cons (ps_fld (pv 0) (pe_callTy call_list_of (by rfl) T.list (by decide +kernel) (pa_cons (pv 6) pa_nil)) rfl)
      (pss_cons (ps_fld (pv 0) (pv 7) rfl)
      (pss_one (ps_fld (pv 0) (pv 8) rfl))))), ?_⟩
    refine ⟨o, C, dx, [], rfl, ho, t, _, rfl, _, rfl, _, rfl, _, rfl, _, rfl, o, C, dx, l, R, ws, rfl, ho, hl, A4.cl, A4.s, A4.r, A4.b, A4.n, A4.y, fun q H1 nwq X1 ho1 hq1 => ?_⟩
    have qo : q ≠ o := (ne_nw ho nwq).symm
    have hl2' := hl2 rfl
    have l2o : l2 ≠ o := fun z => by rw [z, ho] at hl2'; cases hl2'
    refine ⟨_, rfl, l2, _, rfl, .inl (SqL.of (X1.lst hl2' (not_one l2o))), fun q2 nq2 => ?_⟩
    have X2 := X1.new nq2 (.lst us)
    have hq22 : upd H1 q2 (.lst us) q2 = some (.lst us) := upd_same
    have ho2 := upd_new (o := .lst us) nq2 ho1
    have hq2 := upd_new (o := .lst us) nq2 hq1
    have nwq2 : Nw H q2 := X1.live q2 (.of nq2)
    have q2o : q2 ≠ o := (ne_of_none ho1 nq2).symm
    generalize upd H1 q2 (.lst us) = H2 at X2 hq22 ho2 hq2
    refine ⟨_, rfl, o, C, dx, _, rfl, ho2, A4.cl, n1, by show 5 < 1000; decide, ?_⟩
    have X3 := X2.upd (.head _) (.ins ho2) (.ins C dx (putF ("sums" : Str) (V.ref q2) (fsB R q)))
    have ho3 : upd H2 o (.ins C dx (putF ("sums" : Str) (V.ref q2) (fsB R q))) o = some (.ins C dx (putF ("sums" : Str) (V.ref q2) (fsB R q))) := upd_same
    have hq3 : upd H2 o (.ins C dx (putF ("sums" : Str) (V.ref q2) (fsB R q))) q = some (.lst ws) := by rw [upd_ne qo]; exact hq2
    have hq23 : upd H2 o (.ins C dx (putF ("sums" : Str) (V.ref q2) (fsB R q))) q2 = some (.lst us) := by rw [upd_ne q2o]; exact hq22
    generalize upd H2 o (.ins C dx (putF ("sums" : Str) (V.ref q2) (fsB R q))) = H3 at X3 ho3 hq3 hq23
    refine ⟨_, rfl, _, rfl, o, C, dx, _, rfl, ho3, A4.cl, n2, by show 6 < 1000; decide, ?_⟩
    have X4 := X3.upd (.head _) (.ins ho3) (.ins C dx (putF ("position" : Str) (V.int R.po) (putF ("sums" : Str) (V.ref q2) (fsB R q))))
    have ho4 : upd H3 o (.ins C dx (putF ("position" : Str) (V.int R.po) (putF ("sums" : Str) (V.ref q2) (fsB R q)))) o = some (.ins C dx (putF ("position" : Str) (V.int R.po) (putF ("sums" : Str) (V.ref q2) (fsB R q)))) := upd_same
    have hq4 : upd H3 o (.ins C dx (putF ("position" : Str) (V.int R.po) (putF ("sums" : Str) (V.ref q2) (fsB R q)))) q = some (.lst ws) := by rw [upd_ne qo]; exact hq3
    have hq24 : upd H3 o (.ins C dx (putF ("position" : Str) (V.int R.po) (putF ("sums" : Str) (V.ref q2) (fsB R q)))) q2 = some (.lst us) := by rw [upd_ne q2o]; exact hq23
    generalize upd H3 o (.ins C dx (putF ("position" : Str) (V.int R.po) (putF ("sums" : Str) (V.ref q2) (fsB R q)))) = H4 at X4 ho4 hq4 hq24
    refine ⟨_, rfl, _, rfl, o, C, dx, _, rfl, ho4, A4.cl, n3, by show 7 < 1000; decide, ?_⟩
    exact k q q2 _ nwq (fun _ => nwq2) (X4.upd (.head _) (.ins ho4) _) (by rw [upd_same]; kernel_rfl) (by rw [upd_ne qo]; exact hq4) fun _ => by rw [upd_ne q2o]; exact hq24
theorem p_size0 (T : Bl mg) (d : PropP K C "size" "Letter.size" s_Letter_size) (A4 : At4 K C) : Prp P w K mg base 1 C "size" (spSize 0 C) := by
  refine prp d A4.cl sc_Letter_size (fun vs H Q E h => ?_) (fun cdv A outer f s0 H vs Q E hr h => ?_)
  · obtain ⟨o, q, q2, ws, us, R, rfl, _⟩ := h
    rfl
  · obtain ⟨o, q, q2, ws, us, R, rfl, L, k⟩ := h
    refine ⟨_, (pss_one (ps_ret (pe_callB call_len_seq (by rfl) T.len (by decide +kernel) (pa_cons (pe_fld (pv 0) rfl) pa_nil)))), ?_⟩
    obtain ⟨dx, ho⟩ := L.ho
    have l1 := L.ps.length
    refine ⟨_, rfl, o, C, dx, _, _, rfl, ho, A4.cl, A4.y, fx_sayings 0 (by decide), q, ws, rfl, .inl (SqL.of L.hq), ?_⟩
    rw [l1]
    exact k
theorem p_size1 (T : Bl mg) (d : PropP K C "size" "Ask.size" s_Ask_size) (A4 : At4 K C) : Prp P w K mg base 1 C "size" (spSize 1 C) := by
  refine prp d A4.cl sc_Ask_size (fun vs H Q E h => ?_) (fun cdv A outer f s0 H vs Q E hr h => ?_)
  · obtain ⟨o, q, q2, ws, us, R, rfl, _⟩ := h
    rfl
  · obtain ⟨o, q, q2, ws, us, R, rfl, L, k⟩ := h
    refine ⟨_, (pss_one (ps_ret (pe_callB call_len_seq (by rfl) T.len (by decide +kernel) (pa_cons (pe_fld (pv 0) rfl) pa_nil)))), ?_⟩
    obtain ⟨dx, ho⟩ := L.ho
    have l1 := L.ps.length
    refine ⟨_, rfl, o, C, dx, _, _, rfl, ho, A4.cl, A4.y, fx_sayings 1 (by decide), q, ws, rfl, .inl (SqL.of L.hq), ?_⟩
    rw [l1]
    exact k
theorem p_size2 (T : Bl mg) (d : PropP K C "size" "Answer.size" s_Answer_size) (A4 : At4 K C) : Prp P w K mg base 1 C "size" (spSize 2 C) := by
  refine prp d A4.cl sc_Answer_size (fun vs H Q E h => ?_) (fun cdv A outer f s0 H vs Q E hr h => ?_)
  · obtain ⟨o, q, q2, ws, us, R, rfl, _⟩ := h
    rfl
  · obtain ⟨o, q, q2, ws, us, R, rfl, L, k⟩ := h
    refine ⟨_, (pss_one (ps_ret (pe_callB call_len_seq (by rfl) T.len (by decide +kernel) (pa_cons (pe_fld (pv 0) rfl) pa_nil)))), ?_⟩
    obtain ⟨dx, ho⟩ := L.ho
    have l1 := L.ps.length
    refine ⟨_, rfl, o, C, dx, _, _, rfl, ho, A4.cl, A4.y, fx_sayings 2 (by decide), q, ws, rfl, .inl (SqL.of L.hq), ?_⟩
    rw [l1]
    exact k
theorem p_size3 (T : Bl mg) (d : PropP K C "size" "Probe.size" s_Probe_size) (A4 : At4 K C) : Prp P w K mg base 1 C "size" (spSize 3 C) := by
  refine prp d A4.cl sc_Probe_size (fun vs H Q E h => ?_) (fun cdv A outer f s0 H vs Q E hr h => ?_)
  · obtain ⟨o, q, q2, ws, us, R, rfl, _⟩ := h
    rfl
  · obtain ⟨o, q, q2, ws, us, R, rfl, L, k⟩ := h
    refine ⟨_, (pss_one (ps_ret (pe_callB call_len_seq (by rfl) T.len (by decide +kernel) (pa_cons (pe_fld (pv 0) rfl) pa_nil)))), ?_⟩
    obtain ⟨dx, ho⟩ := L.ho
    have l1 := L.ps.length
    refine ⟨_, rfl, o, C, dx, _, _, rfl, ho, A4.cl, A4.y, fx_sayings 3 (by decide), q, ws, rfl, .inl (SqL.of L.hq), ?_⟩
    rw [l1]
    exact k
theorem p_size4 (T : Bl mg) (d : PropP K C "size" "Probed.size" s_Probed_size) (A4 : At4 K C) : Prp P w K mg base 1 C "size" (spSize 4 C) := by
  refine prp d A4.cl sc_Probed_size (fun vs H Q E h => ?_) (fun cdv A outer f s0 H vs Q E hr h => ?_)
  · obtain ⟨o, q, q2, ws, us, R, rfl, _⟩ := h
    rfl
  · obtain ⟨o, q, q2, ws, us, R, rfl, L, k⟩ := h
    refine ⟨_, (pss_one (ps_ret (pe_callB call_len_seq (by rfl) T.len (by decide +kernel) (pa_cons (pe_fld (pv 0) rfl) pa_nil)))), ?_⟩
    obtain ⟨dx, ho⟩ := L.ho
    have l1 := L.ps.length
    refine ⟨_, rfl, o, C, dx, _, _, rfl, ho, A4.cl, A4.y, fx_sayings 4 (by decide), q, ws, rfl, .inl (SqL.of L.hq), ?_⟩
    rw [l1]
    exact k
theorem p_size5 (T : Bl mg) (d : PropP K C "size" "Sums.size" s_Sums_size) (A4 : At4 K C) (n1 : NoAttr K C "sums") : Prp P w K mg base 1 C "size" (spSize 5 C) := by
  refine prp d A4.cl sc_Sums_size (fun vs H Q E h => ?_) (fun cdv A outer f s0 H vs Q E hr h => ?_)
  · obtain ⟨o, q, q2, ws, us, R, rfl, _⟩ := h
    rfl
  · obtain ⟨o, q, q2, ws, us, R, rfl, L, k⟩ := h
    refine ⟨_, (pss_one (ps_ret (pe_op op_add (pe_callB call_len_seq (by rfl) T.len (by decide +kernel) (pa_cons (pe_fld (pv 0) rfl) pa_nil)) (pe_callB call_len_seq (by rfl) T.len (by decide +kernel) (pa_cons (pe_fld (pv 0) rfl) pa_nil))))), ?_⟩
    obtain ⟨dx, ho⟩ := L.ho
    have l1 := L.ps.length
    have l2 := (L.hu rfl).2.length
    refine ⟨_, rfl, o, C, dx, _, _, rfl, ho, A4.cl, A4.y, fx_sayings 5 (by decide), q, ws, rfl, .inl (SqL.of L.hq), _, rfl, o, C, dx, _, _, rfl, ho, A4.cl, n1, f5_sums, q2, us, rfl, .inl (SqL.of (L.hu rfl).1), _, _, rfl, rfl, ?_⟩
    rw [l1, l2]
    exact k
theorem k_head1 (T : Bl mg) (d : SupO.SupD P K C "head" "Ask.head" s_Ask_head f c cc fd) (A4 : At4 K C) (kd : SupO.ConS K C "KIND" (kN 1)) (t : SupO.SupT K C C "head" fH) (F : FnR P w K mg base C8.CX0 1 fH (spHead0 K)) : FnOk P w K mg base C8.CX0 2 f fd ["self"] (spHead 1 C) := by
  refine d.ok sc_Ask_head (fun vs H Q E h => ?_) (fun A outer s0 H vs Q E hr h => ?_)
  · obtain ⟨o, q, q2, ws, us, R, rfl, _⟩ := h
    rfl
  · obtain ⟨o, q, q2, ws, us, R, rfl, L, ok, k⟩ := h
    refine ⟨_, (SupO.psa_ret (SupO.pea_sup0 d rfl rfl rfl rfl rfl F hr (by decide))), ?_⟩
    obtain ⟨dx, ho⟩ := L.ho
    exact ⟨o, C, dx, _, rfl, ho, t, 1, C, o, q, q2, ws, us, R, by decide, rfl, L, ok, A4, kd, fun a H1 na X1 ha => k a H1 na X1 ha⟩
theorem k_parts1 (T : Bl mg) (d : SupO.SupD P K C "parts" "Ask.parts" s_Ask_parts f c cc fd) (A4 : At4 K C) (kd : SupO.ConS K C "KIND" (kN 1)) (t : SupO.SupT K C C "parts" fH) (F : FnR P w K mg base C8.CX0 1 fH (spParts0 K)) : FnOk P w K mg base C8.CX0 2 f fd ["self"] (spParts 1 C) := by
  refine d.ok sc_Ask_parts (fun vs H Q E h => ?_) (fun A outer s0 H vs Q E hr h => ?_)
  · obtain ⟨o, q, q2, ws, us, R, rfl, _⟩ := h
    rfl
  · obtain ⟨o, q, q2, ws, us, R, rfl, L, ok, k⟩ := h
    refine ⟨_, (SupO.psa_ret (SupO.pea_sup0 d rfl rfl rfl rfl rfl F hr (by decide))), ?_⟩
    obtain ⟨dx, ho⟩ := L.ho
    exact ⟨o, C, dx, _, rfl, ho, t, 1, C, o, q, q2, ws, us, R, by decide, rfl, L, ok, A4, kd, fun a ta H1 X1 ha hta => k (.ref a) H1 X1 ⟨a, _, rfl, ha, (show 6 ≤ 1000 by decide), .cons rfl (.cons rfl (.cons rfl (.cons rfl (.cons rfl (.cons ⟨ta, ws, rfl, hta, Nat.le_trans ok.ls (by decide), pimp L.ps fun a s h => h.fr0 X1⟩ .nil)))))⟩⟩
theorem k_head2 (T : Bl mg) (d : SupO.SupD P K C "head" "Answer.head" s_Answer_head f c cc fd) (A4 : At4 K C) (kd : SupO.ConS K C "KIND" (kN 2)) (t : SupO.SupT K C C "head" fH) (F : FnR P w K mg base C8.CX0 1 fH (spHead0 K)) : FnOk P w K mg base C8.CX0 2 f fd ["self"] (spHead 2 C) := by
  refine d.ok sc_Answer_head (fun vs H Q E h => ?_) (fun A outer s0 H vs Q E hr h => ?_)
  · obtain ⟨o, q, q2, ws, us, R, rfl, _⟩ := h
    rfl
  · obtain ⟨o, q, q2, ws, us, R, rfl, L, ok, k⟩ := h
    refine ⟨_, (SupO.psa_ret (SupO.pea_sup0 d rfl rfl rfl rfl rfl F hr (by decide))), ?_⟩
    obtain ⟨dx, ho⟩ := L.ho
    exact ⟨o, C, dx, _, rfl, ho, t, 2, C, o, q, q2, ws, us, R, by decide, rfl, L, ok, A4, kd, fun a H1 na X1 ha => k a H1 na X1 ha⟩
theorem k_parts2 (T : Bl mg) (d : SupO.SupD P K C "parts" "Answer.parts" s_Answer_parts f c cc fd) (A4 : At4 K C) (kd : SupO.ConS K C "KIND" (kN 2)) (t : SupO.SupT K C C "parts" fH) (F : FnR P w K mg base C8.CX0 1 fH (spParts0 K)) : FnOk P w K mg base C8.CX0 2 f fd ["self"] (spParts 2 C) := by
  refine d.ok sc_Answer_parts (fun vs H Q E h => ?_) (fun A outer s0 H vs Q E hr h => ?_)
  · obtain ⟨o, q, q2, ws, us, R, rfl, _⟩ := h
    rfl
  · obtain ⟨o, q, q2, ws, us, R, rfl, L, ok, k⟩ := h
    refine ⟨_, (SupO.psa_ret (SupO.pea_sup0 d rfl rfl rfl rfl rfl F hr (by decide))), ?_⟩
    obtain ⟨dx, ho⟩ := L.ho
    exact ⟨o, C, dx, _, rfl, ho, t, 2, C, o, q, q2, ws, us, R, by decide, rfl, L, ok, A4, kd, fun a ta H1 X1 ha hta => k (.ref a) H1 X1 ⟨a, _, rfl, ha, (show 6 ≤ 1000 by decide), .cons rfl (.cons rfl (.cons rfl (.cons rfl (.cons rfl (.cons ⟨ta, ws, rfl, hta, Nat.le_trans ok.ls (by decide), pimp L.ps fun a s h => h.fr0 X1⟩ .nil)))))⟩⟩
theorem k_head3 (T : Bl mg) (d : SupO.SupD P K C "head" "Probe.head" s_Probe_head f c cc fd) (A4 : At4 K C) (n1 : NoAttr K C "about") (kd : SupO.ConS K C "KIND" (kN 3)) (t : SupO.SupT K C C "head" fH) (F : FnR P w K mg base C8.CX0 1 fH (spHead0 K)) : FnOk P w K mg base C8.CX0 2 f fd ["self"] (spHead 3 C) := by
  refine d.ok sc_Probe_head (fun vs H Q E h => ?_) (fun A outer s0 H vs Q E hr h => ?_)
  · obtain ⟨o, q, q2, ws, us, R, rfl, _⟩ := h
    rfl
  · obtain ⟨o, q, q2, ws, us, R, rfl, L, ok, k⟩ := h
    refine ⟨_, (SupO.psa_ret (SupO.pea_op (SupO.pea_sup0 d rfl rfl rfl rfl rfl F hr (by decide)) (pe_lst (pa_cons (pe_callTy call_str_int (by rfl) T.str (by decide +kernel) (pa_cons (pe_fld (pv 0) rfl) pa_nil)) pa_nil)) op_cat)), ?_⟩
    obtain ⟨dx, ho⟩ := L.ho
    refine ⟨o, C, dx, _, rfl, ho, t, 3, C, o, q, q2, ws, us, R, by decide, rfl, L, ok, A4, kd, fun a H1 na X1 ha => ?_⟩
    have ho1 := X1.ins ho not_nil
    refine ⟨_, rfl, o, C, dx, _, _, rfl, ho1, A4.cl, n1, f3_about, _, rfl, ok.ab, by show 1 ≤ sizeLine; decide, fun p np => ?_⟩
    have X2 := X1.new np (.lst [.str (tos R.ab)])
    refine ⟨a, p, _, _, rfl, rfl, upd_new np ha, upd_same, by show 5 + 1 ≤ sizeLine; decide, fun r nr => ?_⟩
    exact k r _ (X2.live r (.of nr)) (X2.new nr _) upd_same
theorem k_parts3 (T : Bl mg) (d : SupO.SupD P K C "parts" "Probe.parts" s_Probe_parts f c cc fd) (A4 : At4 K C) (n1 : NoAttr K C "about") (kd : SupO.ConS K C "KIND" (kN 3)) (t : SupO.SupT K C C "parts" fH) (F : FnR P w K mg base C8.CX0 1 fH (spParts0 K)) : FnOk P w K mg base C8.CX0 2 f fd ["self"] (spParts 3 C) := by
  refine d.ok sc_Probe_parts (fun vs H Q E h => ?_) (fun A outer s0 H vs Q E hr h => ?_)
  · obtain ⟨o, q, q2, ws, us, R, rfl, _⟩ := h
    rfl
  · obtain ⟨o, q, q2, ws, us, R, rfl, L, ok, k⟩ := h
    refine ⟨_, (SupO.psa_ret (SupO.pea_op (SupO.pea_sup0 d rfl rfl rfl rfl rfl F hr (by decide)) (pe_tup (pa_cons (pe_fld (pv 0) rfl) pa_nil)) op_catT)), ?_⟩
    obtain ⟨dx, ho⟩ := L.ho
    refine ⟨o, C, dx, _, rfl, ho, t, 3, C, o, q, q2, ws, us, R, by decide, rfl, L, ok, A4, kd, fun a ta H1 X1 ha hta => ?_⟩
    have ho1 := X1.ins ho not_nil
    refine ⟨_, rfl, o, C, dx, _, _, rfl, ho1, A4.cl, n1, f3_about, by show 1 ≤ sizeLine; decide, fun p np => ?_⟩
    have X2 := X1.new np (.tup [.int R.ab])
    refine ⟨a, p, _, _, rfl, rfl, SqT.of (upd_new np ha), SqT.of upd_same, (fun z => nomatch z), by show 6 + 1 ≤ sizeLine; decide, (fun z => nomatch z), fun _ r nr => ?_⟩
    exact k (.ref r) _ (X2.new nr _) ⟨r, _, rfl, upd_same, (show 7 ≤ 1000 by decide), .cons rfl (.cons rfl (.cons rfl (.cons rfl (.cons rfl (.cons ⟨ta, ws, rfl, upd_new nr (upd_new np hta), Nat.le_trans ok.ls (by decide), pimp L.ps fun a s h => h.fr0 (X2.new nr _)⟩ (.cons rfl .nil))))))⟩
theorem k_head4 (T : Bl mg) (d : SupO.SupD P K C "head" "Probed.head" s_Probed_head f c cc fd) (A4 : At4 K C) (n1 : NoAttr K C "about") (n2 : NoAttr K C "reached") (kd : SupO.ConS K C "KIND" (kN 4)) (t : SupO.SupT K C C "head" fH) (F : FnR P w K mg base C8.CX0 1 fH (spHead0 K)) : FnOk P w K mg base C8.CX0 2 f fd ["self"] (spHead 4 C) := by
  refine d.ok sc_Probed_head (fun vs H Q E h => ?_) (fun A outer s0 H vs Q E hr h => ?_)
  · obtain ⟨o, q, q2, ws, us, R, rfl, _⟩ := h
    rfl
  · obtain ⟨o, q, q2, ws, us, R, rfl, L, ok, k⟩ := h
    refine ⟨_, (SupO.psa_ret (SupO.pea_op (SupO.pea_sup0 d rfl rfl rfl rfl rfl F hr (by decide)) (pe_lst (pa_cons (pe_callTy call_str_int (by rfl) T.str (by decide +kernel) (pa_cons (pe_fld (pv 0) rfl) pa_nil)) (pa_cons (pe_ifExp (pt_val (pe_fld (pv 0) rfl)) pe_str pe_str) pa_nil))) op_cat)), ?_⟩
    obtain ⟨dx, ho⟩ := L.ho
    refine ⟨o, C, dx, _, rfl, ho, t, 4, C, o, q, q2, ws, us, R, by decide, rfl, L, ok, A4, kd, fun a H1 na X1 ha => ?_⟩
    have ho1 := X1.ins ho not_nil
    refine ⟨_, rfl, o, C, dx, _, _, rfl, ho1, A4.cl, n1, f4_about, _, rfl, ok.ab, _, rfl, o, C, dx, _, _, rfl, ho1, A4.cl, n2, f4_reached, _, rfl, ?_⟩
    have fin : ∀ s : Str, s = yn R.re → ∀ p, H1 p = none → ∃ l b xs zs, V.ref a = .ref l ∧ V.ref p = .ref b ∧ upd H1 p (.lst [.str (tos R.ab), .str s]) l = some (.lst xs) ∧ upd H1 p (.lst [.str (tos R.ab), .str s]) b = some (.lst zs) ∧ xs.length + zs.length ≤ sizeLine ∧ ∀ r, upd H1 p (.lst [.str (tos R.ab), .str s]) r = none → Q (.ref r) (upd (upd H1 p (.lst [.str (tos R.ab), .str s])) r (.lst (xs ++ zs))) := fun s es p np => by
      subst es
      refine ⟨a, p, _, _, rfl, rfl, upd_new np ha, upd_same, by show 5 + 2 ≤ sizeLine; decide, fun r nr => ?_⟩
      have X2 := X1.new np (.lst [.str (tos R.ab), .str (yn R.re)])
      exact k r _ (X2.live r (.of nr)) (X2.new nr _) upd_same
    unfold yn at fin
    cases e : R.re with
    | true =>
      refine iteT ⟨by show 2 ≤ sizeLine; decide, fun p np => ?_⟩
      exact fin "yes" (by rw [e]; rfl) p np
    | false =>
      refine iteF ⟨by show 2 ≤ sizeLine; decide, fun p np => ?_⟩
      exact fin "no" (by rw [e]; rfl) p np
theorem k_parts4 (T : Bl mg) (d : SupO.SupD P K C "parts" "Probed.parts" s_Probed_parts f c cc fd) (A4 : At4 K C) (n1 : NoAttr K C "about") (n2 : NoAttr K C "reached") (kd : SupO.ConS K C "KIND" (kN 4)) (t : SupO.SupT K C C "parts" fH) (F : FnR P w K mg base C8.CX0 1 fH (spParts0 K)) : FnOk P w K mg base C8.CX0 2 f fd ["self"] (spParts 4 C) := by
  refine d.ok sc_Probed_parts (fun vs H Q E h => ?_) (fun A outer s0 H vs Q E hr h => ?_)
  · obtain ⟨o, q, q2, ws, us, R, rfl, _⟩ := h
    rfl
  · obtain ⟨o, q, q2, ws, us, R, rfl, L, ok, k⟩ := h
    refine ⟨_, (SupO.psa_ret (SupO.pea_op (SupO.pea_sup0 d rfl rfl rfl rfl rfl F hr (by decide)) (pe_tup (pa_cons (pe_fld (pv 0) rfl) (pa_cons (pe_fld (pv 0) rfl) pa_nil))) op_catT)), ?_⟩
    obtain ⟨dx, ho⟩ := L.ho
    refine ⟨o, C, dx, _, rfl, ho, t, 4, C, o, q, q2, ws, us, R, by decide, rfl, L, ok, A4, kd, fun a ta H1 X1 ha hta => ?_⟩
    have ho1 := X1.ins ho not_nil
    refine ⟨_, rfl, o, C, dx, _, _, rfl, ho1, A4.cl, n1, f4_about, _, rfl, o, C, dx, _, _, rfl, ho1, A4.cl, n2, f4_reached, by show 2 ≤ sizeLine; decide, fun p np => ?_⟩
    have X2 := X1.new np (.tup [.int R.ab, .bl R.re])
    refine ⟨a, p, _, _, rfl, rfl, SqT.of (upd_new np ha), SqT.of upd_same, (fun z => nomatch z), by show 6 + 2 ≤ sizeLine; decide, (fun z => nomatch z), fun _ r nr => ?_⟩
    exact k (.ref r) _ (X2.new nr _) ⟨r, _, rfl, upd_same, (show 8 ≤ 1000 by decide), .cons rfl (.cons rfl (.cons rfl (.cons rfl (.cons rfl (.cons ⟨ta, ws, rfl, upd_new nr (upd_new np hta), Nat.le_trans ok.ls (by decide), pimp L.ps fun a s h => h.fr0 (X2.new nr _)⟩ (.cons rfl (.cons rfl .nil)))))))⟩
theorem k_head5 (T : Bl mg) (d : SupO.SupD P K C "head" "Sums.head" s_Sums_head f c cc fd) (A4 : At4 K C) (n1 : NoAttr K C "sums") (n2 : NoAttr K C "position") (n3 : NoAttr K C "more") (kd : SupO.ConS K C "KIND" (kN 5)) (t : SupO.SupT K C C "head" fH) (F : FnR P w K mg base C8.CX0 1 fH (spHead0 K)) : FnOk P w K mg base C8.CX0 2 f fd ["self"] (spHead 5 C) := by
  refine d.ok sc_Sums_head (fun vs H Q E h => ?_) (fun A outer s0 H vs Q E hr h => ?_)
  · obtain ⟨o, q, q2, ws, us, R, rfl, _⟩ := h
    rfl
  · obtain ⟨o, q, q2, ws, us, R, rfl, L, ok, k⟩ := h
    refine ⟨_, (SupO.psa_ret (SupO.pea_op (SupO.pea_sup0 d rfl rfl rfl rfl rfl F hr (by decide)) (pe_lst (pa_cons (pe_callTy call_str_int (by rfl) T.str (by decide +kernel) (pa_cons (pe_fld (pv 0) rfl) pa_nil)) (pa_cons (pe_ifExp (pt_val (pe_fld (pv 0) rfl)) pe_str pe_str) pa_nil))) op_cat)), ?_⟩
    obtain ⟨dx, ho⟩ := L.ho
    refine ⟨o, C, dx, _, rfl, ho, t, 5, C, o, q, q2, ws, us, R, by decide, rfl, L, ok, A4, kd, fun a H1 na X1 ha => ?_⟩
    have ho1 := X1.ins ho not_nil
    refine ⟨_, rfl, o, C, dx, _, _, rfl, ho1, A4.cl, n2, f5_position, _, rfl, ok.po, _, rfl, o, C, dx, _, _, rfl, ho1, A4.cl, n3, f5_more, _, rfl, ?_⟩
    have fin : ∀ s : Str, s = lm R.mo → ∀ p, H1 p = none → ∃ l b xs zs, V.ref a = .ref l ∧ V.ref p = .ref b ∧ upd H1 p (.lst [.str (tos R.po), .str s]) l = some (.lst xs) ∧ upd H1 p (.lst [.str (tos R.po), .str s]) b = some (.lst zs) ∧ xs.length + zs.length ≤ sizeLine ∧ ∀ r, upd H1 p (.lst [.str (tos R.po), .str s]) r = none → Q (.ref r) (upd (upd H1 p (.lst [.str (tos R.po), .str s])) r (.lst (xs ++ zs))) := fun s es p np => by
      subst es
      refine ⟨a, p, _, _, rfl, rfl, upd_new np ha, upd_same, by show 5 + 2 ≤ sizeLine; decide, fun r nr => ?_⟩
      have X2 := X1.new np (.lst [.str (tos R.po), .str (lm R.mo)])
      exact k r _ (X2.live r (.of nr)) (X2.new nr _) upd_same
    unfold lm at fin
    cases e : R.mo with
    | true =>
      refine iteT ⟨by show 2 ≤ sizeLine; decide, fun p np => ?_⟩
      exact fin "more" (by rw [e]; rfl) p np
    | false =>
      refine iteF ⟨by show 2 ≤ sizeLine; decide, fun p np => ?_⟩
      exact fin "last" (by rw [e]; rfl) p np
theorem k_parts5 (T : Bl mg) (d : SupO.SupD P K C "parts" "Sums.parts" s_Sums_parts f c cc fd) (A4 : At4 K C) (n1 : NoAttr K C "sums") (n2 : NoAttr K C "position") (n3 : NoAttr K C "more") (kd : SupO.ConS K C "KIND" (kN 5)) (t : SupO.SupT K C C "parts" fH) (F : FnR P w K mg base C8.CX0 1 fH (spParts0 K)) : FnOk P w K mg base C8.CX0 2 f fd ["self"] (spParts 5 C) := by
  refine d.ok sc_Sums_parts (fun vs H Q E h => ?_) (fun A outer s0 H vs Q E hr h => ?_)
  · obtain ⟨o, q, q2, ws, us, R, rfl, _⟩ := h
    rfl
  · obtain ⟨o, q, q2, ws, us, R, rfl, L, ok, k⟩ := h
    refine ⟨_, (SupO.psa_ret (SupO.pea_op (SupO.pea_sup0 d rfl rfl rfl rfl rfl F hr (by decide)) (pe_tup (pa_cons (pe_callTy call_tuple_of (by rfl) T.tuple (by decide +kernel) (pa_cons (pe_fld (pv 0) rfl) pa_nil)) (pa_cons (pe_fld (pv 0) rfl) (pa_cons (pe_fld (pv 0) rfl) pa_nil)))) op_catT)), ?_⟩
    obtain ⟨dx, ho⟩ := L.ho
    refine ⟨o, C, dx, _, rfl, ho, t, 5, C, o, q, q2, ws, us, R, by decide, rfl, L, ok, A4, kd, fun a ta H1 X1 ha hta => ?_⟩
    have ho1 := X1.ins ho not_nil
    have hq21 := X1.lst (L.hu rfl).1 not_nil
    refine ⟨_, rfl, o, C, dx, _, _, rfl, ho1, A4.cl, n1, f5_sums, q2, us, rfl, .inl ⟨SqL.of hq21, fun tu ntu => ?_⟩⟩
    have X12 := X1.new ntu (.tup us)
    have htu : upd H1 tu (.tup us) tu = some (.tup us) := upd_same
    have ho2 := upd_new (o := .tup us) ntu ho1
    have ha := upd_new (o := .tup us) ntu ha
    have hta := upd_new (o := .tup us) ntu hta
    generalize upd H1 tu (.tup us) = H1' at X12 htu ho2 ha hta
    have X1 := X12
    refine ⟨_, rfl, o, C, dx, _, _, rfl, ho2, A4.cl, n2, f5_position, _, rfl, o, C, dx, _, _, rfl, ho2, A4.cl, n3, f5_more, by show 3 ≤ sizeLine; decide, fun p np => ?_⟩
    have X2 := X1.new np (.tup [.ref tu, .int R.po, .bl R.mo])
    refine ⟨a, p, _, _, rfl, rfl, SqT.of (upd_new np ha), SqT.of upd_same, (fun z => nomatch z), by show 6 + 3 ≤ sizeLine; decide, (fun z => nomatch z), fun _ r nr => ?_⟩
    exact k (.ref r) _ (X2.new nr _) ⟨r, _, rfl, upd_same, (show 9 ≤ 1000 by decide), .cons rfl (.cons rfl (.cons rfl (.cons rfl (.cons rfl (.cons ⟨ta, ws, rfl, upd_new nr (upd_new np hta), Nat.le_trans ok.ls (by decide), pimp L.ps fun a s h => h.fr0 (X2.new nr _)⟩ (.cons ⟨tu, us, rfl, upd_new nr (upd_new np htu), Nat.le_trans ok.lu (by decide), pimp (L.hu rfl).2 fun a s h => h.fr0 (X2.new nr _)⟩ (.cons rfl (.cons rfl .nil))))))))⟩
end
end K04

set_option Elab.async false
set_option maxRecDepth 100000
set_option maxHeartbeats 4000000
set_option exponentiation.threshold 4096
set_option linter.unusedVariables false
/-! rows; words of a row; letters made of a row -/
namespace K04
open PySem PySem.Spec PyProof.Rows L2 C8 LamX UF
def exV : Nat → Row → Addr → List V
  | 3, R, _ => [.int R.ab]
  | 4, R, _ => [.int R.ab, .bl R.re]
  | 5, R, su => [.ref su, .int R.po, .bl R.mo]
  | _, _, _ => []
/-- a row of the kind i at a -/
structure RowAt (i : Nat) (H : Hp) (a sa su : Addr) (ws us : List V) (R : Row) : Prop where
  ha : H a = some (.tup ([.str (kN i), .int R.s, .int R.r, .int R.b, .int R.n, .ref sa] ++ exV i R su))
  hs : H sa = some (.tup ws)
  ps : Paired (TrAt H 2) ws R.say
  hu : H su = some (.tup us)
  pu : Paired (TrAt H 2) us R.sums
theorem RowAt.fr {i : Nat} {H H' : Hp} {a sa su : Addr} {ws us : List V} {R : Row} {ds : List Addr} (r : RowAt i H a sa su ws us R) (X : Fr ds H H') (nt : ∀ a ∈ ds, ∀ vs, H a ≠ some (.tup vs)) : RowAt i H' a sa su ws us R :=
  ⟨X.tup r.ha fun m => nt a m _ r.ha, X.tup r.hs fun m => nt sa m _ r.hs, pimp r.ps fun a s h => h.fr X nt, X.tup r.hu fun m => nt su m _ r.hu, pimp r.pu fun a s h => h.fr X nt⟩
theorem RowAt.fr0 {i : Nat} {H H' : Hp} {a sa su : Addr} {ws us : List V} {R : Row} (r : RowAt i H a sa su ws us R) (X : Fr [] H H') : RowAt i H' a sa su ws us R := r.fr X fun a m => nomatch m
theorem RowAt.tree {H : Hp} {a sa su : Addr} {ws us : List V} {R : Row} (ok : RowOk R) : ∀ i, i < 6 → RowAt i H a sa su ws us R → TrAt H 4 (.ref a) (partsT i R) := by
  have tl : ∀ {b : Addr} {vs : List V} {ts : List Tr}, H b = some (.tup vs) → Paired (TrAt H 2) vs ts → ts.length ≤ 100 → TrAt H 3 (.ref b) (.tup ts) := fun {b vs ts} h p l => ⟨b, vs, rfl, h, Nat.le_trans l (by decide), p⟩
  refine six ?_ ?_ ?_ ?_ ?_ ?_
  all_goals intro r
  all_goals refine ⟨a, _, rfl, r.ha, ?_, ?_⟩
  · exact (show 6 ≤ 1000 by decide)
  · exact .cons rfl (.cons rfl (.cons rfl (.cons rfl (.cons rfl (.cons (tl r.hs r.ps ok.ls) .nil)))))
  · exact (show 6 ≤ 1000 by decide)
  · exact .cons rfl (.cons rfl (.cons rfl (.cons rfl (.cons rfl (.cons (tl r.hs r.ps ok.ls) .nil)))))
  · exact (show 6 ≤ 1000 by decide)
  · exact .cons rfl (.cons rfl (.cons rfl (.cons rfl (.cons rfl (.cons (tl r.hs r.ps ok.ls) .nil)))))
  · exact (show 7 ≤ 1000 by decide)
  · exact .cons rfl (.cons rfl (.cons rfl (.cons rfl (.cons rfl (.cons (tl r.hs r.ps ok.ls) (.cons rfl .nil))))))
  · exact (show 8 ≤ 1000 by decide)
  · exact .cons rfl (.cons rfl (.cons rfl (.cons rfl (.cons rfl (.cons (tl r.hs r.ps ok.ls) (.cons rfl (.cons rfl .nil)))))))
  · exact (show 9 ≤ 1000 by decide)
  · exact .cons rfl (.cons rfl (.cons rfl (.cons rfl (.cons rfl (.cons (tl r.hs r.ps ok.ls) (.cons (tl r.hu r.pu ok.lu) (.cons rfl (.cons rfl .nil))))))))
theorem strF {s t : Str} (h : s ≠ t) {A B : Prop} (b : B) : if decide (V.str s = V.str t) = true then A else B := by
  rw [if_neg (fun c => by have c := of_decide_eq_true c; injection c with c; exact h c)]
  exact b
theorem strT {s : Str} {A B : Prop} (a : A) : if decide (V.str s = V.str s) = true then A else B := by
  rw [if_pos (decide_eq_true rfl)]
  exact a
def spWords (i : Nat) : Sp := fun vs H Q _ => ∃ (a sa su : Addr) (ws us : List V) (R : Row), vs = [.ref a] ∧ RowAt i H a sa su ws us R ∧ RowOk R ∧ ∀ (l : Addr) (H' : Hp), Nw H l → Fr [] H H' → H' l = some (.lst ((wordsF i R).map V.str)) → Q (.ref l) H'
def csF (a b c d e f : Addr) : Nat → Addr
  | 0 => a
  | 1 => b
  | 2 => c
  | 3 => d
  | 4 => e
  | _ => f
def spMade (Cs : Nat → Addr) : Sp := fun vs H Q _ => ∃ (i : Nat) (a sa su l l2 : Addr) (ws us xs ys : List V) (R : Row), i < 6 ∧ vs = [.ref a, .ref l, .ref l2] ∧ RowAt i H a sa su ws us R ∧ H l = some (.lst xs) ∧ H l2 = some (.lst ys) ∧ Paired (TrAt H 2) xs R.say ∧ Paired (TrAt H 2) ys R.sums ∧
  ∀ (o q q2 : Addr) (H' : Hp), Nw H o → Nw H q → (i = 5 → Nw H q2) → Fr [] H H' → LtA i (Cs i) H' o q q2 xs ys R → Q (.ref o) H'
theorem made {H : Hp} {x dx C : Addr} (nx : H x = none) (nd : H dx = none) (ne : dx ≠ x) : Fr [] H (upd (upd H dx (.own x)) x (.ins C dx [])) := (Fr.new0 nd _).new (by rw [upd_ne ne.symm]; exact nx) _
section
variable {P : Program} {w : World} {K : PySem.W.Frag} {mg : Str → Option Value} {base : Heap} {C0 C1 C2 C3 C4 C5 : Addr}
theorem c_law_words (T : Bl mg) (d : D0 K mg "_law_words" s_law_words ["row"]) (i : Nat) (i6 : i < 6) : Cal P w K mg base 1 "_law_words" (spWords i) [] := by
  refine cal d sc_law_words (fun vs H Q E h => ?_) (fun cdv A outer f s0 H vs Q E hr h => ?_)
  · obtain ⟨a, sa, su, ws, us, R, rfl, _⟩ := h
    rfl
  · obtain ⟨a, sa, su, ws, us, R, rfl, r, ok, k⟩ := h
    refine ⟨_, (pss_cons (ps_set (i := 1) sc_law_words.nd rfl (Or.inl rfl) (pe_lst (pa_cons (pe_ix ix_tup (pv 0) pe_int (fun _ _ => rfl)) (pa_cons (pe_callTy call_str_int (by rfl) T.str (by decide +kernel) (pa_cons (pe_ix ix_tup (pv 0) pe_int (fun _ _ => rfl)) pa_nil)) (pa_cons (pe_callTy call_str_int (by rfl) T.str (by decide +kernel) (pa_cons (pe_ix ix_tup (pv 0) pe_int (fun _ _ => rfl)) pa_nil)) (pa_cons (pe_callTy call_str_int (by rfl) T.str (by decide +kernel) (pa_cons (pe_ix ix_tup (pv 0) pe_int (fun _ _ => rfl)) pa_nil)) (pa_cons (pe_callTy call_str_int (by rfl) T.str (by decide +kernel) (pa_cons (pe_ix ix_tup (pv 0) pe_int (fun _ _ => rfl)) pa_nil)) pa_nil)))))))
      (pss_cons (ps_if (pt_cmpR op_eq (pe_ix ix_tup (pv 0) pe_int (fun _ _ => rfl)) pe_str (nomark _)) (pss_one (ps_expr (pe_bm PySem.F.plainAttrs_list PySem.F.slot_list_append PySem.F.type_list_append mt_append (pv 1) (pa_cons (pe_callTy call_str_int (by rfl) T.str (by decide +kernel) (pa_cons (pe_ix ix_tup (pv 0) pe_int (fun _ _ => rfl)) pa_nil)) pa_nil)))) pss_nil)
      (pss_cons (ps_if (pt_cmpR op_eq (pe_ix ix_tup (pv 0) pe_int (fun _ _ => rfl)) pe_str (nomark _)) (pss_one (ps_set (i := 1) sc_law_words.nd rfl (Or.inl rfl) (pe_op op_cat (pv 1) (pe_lst (pa_cons (pe_callTy call_str_int (by rfl) T.str (by decide +kernel) (pa_cons (pe_ix ix_tup (pv 0) pe_int (fun _ _ => rfl)) pa_nil)) (pa_cons (pe_ix ix_list (pe_lst (pa_cons pe_str (pa_cons pe_str pa_nil))) (pe_callTy call_int1 (by rfl) T.int (by decide +kernel) (pa_cons (pe_ix ix_tup (pv 0) pe_int (fun _ _ => rfl)) pa_nil)) (fun _ _ => rfl)) pa_nil)))))) pss_nil)
      (pss_cons (ps_if (pt_cmpR op_eq (pe_ix ix_tup (pv 0) pe_int (fun _ _ => rfl)) pe_str (nomark _)) (pss_one (ps_set (i := 1) sc_law_words.nd rfl (Or.inl rfl) (pe_op op_cat (pv 1) (pe_lst (pa_cons (pe_callTy call_str_int (by rfl) T.str (by decide +kernel) (pa_cons (pe_ix ix_tup (pv 0) pe_int (fun _ _ => rfl)) pa_nil)) (pa_cons (pe_ix ix_list (pe_lst (pa_cons pe_str (pa_cons pe_str pa_nil))) (pe_callTy call_int1 (by rfl) T.int (by decide +kernel) (pa_cons (pe_ix ix_tup (pv 0) pe_int (fun _ _ => rfl)) pa_nil)) (fun _ _ => rfl)) pa_nil)))))) pss_nil)
      (pss_one (ps_ret (pv 1))))))), ?_⟩
    have : i = 0 ∨ i = 1 ∨ i = 2 ∨ i = 3 ∨ i = 4 ∨ i = 5 := by omega
    clear i6
    rcases this with rfl | rfl | rfl | rfl | rfl | rfl
    · have q := SqT.of (K := K) r.ha
      refine ⟨_, rfl, _, _, _, _, rfl, rfl, q, rfl, _, rfl, _, _, _, _, rfl, rfl, q, rfl, _, rfl, ok.s, _, rfl, _, _, _, _, rfl, rfl, q, rfl, _, rfl, ok.r, _, rfl, _, _, _, _, rfl, rfl, q, rfl, _, rfl, ok.b, _, rfl, _, _, _, _, rfl, rfl, q, rfl, _, rfl, ok.n, by show 5 ≤ sizeLine; decide, fun l nl => ?_⟩
      have X1 : Fr [] H (upd H l (.lst [V.str (kN 0), .str (tos R.s), .str (tos R.r), .str (tos R.b), .str (tos R.n)])) := Fr.new0 nl _
      have hl : upd H l (.lst [V.str (kN 0), .str (tos R.s), .str (tos R.r), .str (tos R.b), .str (tos R.n)]) l = some (.lst [V.str (kN 0), .str (tos R.s), .str (tos R.r), .str (tos R.b), .str (tos R.n)]) := upd_same
      have nwl : Nw H l := .of nl
      have q1 := SqT.of (K := K) (X1.tup r.ha not_nil)
      refine ⟨_, rfl, _, _, _, _, rfl, rfl, q1, rfl, rfl, _, rfl, strF (by decide +kernel) ?_⟩
      refine ⟨_, rfl, _, _, _, _, rfl, rfl, q1, rfl, rfl, _, rfl, strF (by decide +kernel) ?_⟩
      refine ⟨_, rfl, _, _, _, _, rfl, rfl, q1, rfl, rfl, _, rfl, strF (by decide +kernel) ?_⟩
      exact ⟨_, rfl, k l _ nwl X1 hl⟩
    · have q := SqT.of (K := K) r.ha
      refine ⟨_, rfl, _, _, _, _, rfl, rfl, q, rfl, _, rfl, _, _, _, _, rfl, rfl, q, rfl, _, rfl, ok.s, _, rfl, _, _, _, _, rfl, rfl, q, rfl, _, rfl, ok.r, _, rfl, _, _, _, _, rfl, rfl, q, rfl, _, rfl, ok.b, _, rfl, _, _, _, _, rfl, rfl, q, rfl, _, rfl, ok.n, by show 5 ≤ sizeLine; decide, fun l nl => ?_⟩
      have X1 : Fr [] H (upd H l (.lst [V.str (kN 1), .str (tos R.s), .str (tos R.r), .str (tos R.b), .str (tos R.n)])) := Fr.new0 nl _
      have hl : upd H l (.lst [V.str (kN 1), .str (tos R.s), .str (tos R.r), .str (tos R.b), .str (tos R.n)]) l = some (.lst [V.str (kN 1), .str (tos R.s), .str (tos R.r), .str (tos R.b), .str (tos R.n)]) := upd_same
      have nwl : Nw H l := .of nl
      have q1 := SqT.of (K := K) (X1.tup r.ha not_nil)
      refine ⟨_, rfl, _, _, _, _, rfl, rfl, q1, rfl, rfl, _, rfl, strF (by decide +kernel) ?_⟩
      refine ⟨_, rfl, _, _, _, _, rfl, rfl, q1, rfl, rfl, _, rfl, strF (by decide +kernel) ?_⟩
      refine ⟨_, rfl, _, _, _, _, rfl, rfl, q1, rfl, rfl, _, rfl, strF (by decide +kernel) ?_⟩
      exact ⟨_, rfl, k l _ nwl X1 hl⟩
    · have q := SqT.of (K := K) r.ha
      refine ⟨_, rfl, _, _, _, _, rfl, rfl, q, rfl, _, rfl, _, _, _, _, rfl, rfl, q, rfl, _, rfl, ok.s, _, rfl, _, _, _, _, rfl, rfl, q, rfl, _, rfl, ok.r, _, rfl, _, _, _, _, rfl, rfl, q, rfl, _, rfl, ok.b, _, rfl, _, _, _, _, rfl, rfl, q, rfl, _, rfl, ok.n, by show 5 ≤ sizeLine; decide, fun l nl => ?_⟩
      have X1 : Fr [] H (upd H l (.lst [V.str (kN 2), .str (tos R.s), .str (tos R.r), .str (tos R.b), .str (tos R.n)])) := Fr.new0 nl _
      have hl : upd H l (.lst [V.str (kN 2), .str (tos R.s), .str (tos R.r), .str (tos R.b), .str (tos R.n)]) l = some (.lst [V.str (kN 2), .str (tos R.s), .str (tos R.r), .str (tos R.b), .str (tos R.n)]) := upd_same
      have nwl : Nw H l := .of nl
      have q1 := SqT.of (K := K) (X1.tup r.ha not_nil)
      refine ⟨_, rfl, _, _, _, _, rfl, rfl, q1, rfl, rfl, _, rfl, strF (by decide +kernel) ?_⟩
      refine ⟨_, rfl, _, _, _, _, rfl, rfl, q1, rfl, rfl, _, rfl, strF (by decide +kernel) ?_⟩
      refine ⟨_, rfl, _, _, _, _, rfl, rfl, q1, rfl, rfl, _, rfl, strF (by decide +kernel) ?_⟩
      exact ⟨_, rfl, k l _ nwl X1 hl⟩
    · have q := SqT.of (K := K) r.ha
      refine ⟨_, rfl, _, _, _, _, rfl, rfl, q, rfl, _, rfl, _, _, _, _, rfl, rfl, q, rfl, _, rfl, ok.s, _, rfl, _, _, _, _, rfl, rfl, q, rfl, _, rfl, ok.r, _, rfl, _, _, _, _, rfl, rfl, q, rfl, _, rfl, ok.b, _, rfl, _, _, _, _, rfl, rfl, q, rfl, _, rfl, ok.n, by show 5 ≤ sizeLine; decide, fun l nl => ?_⟩
      have X1 : Fr [] H (upd H l (.lst [V.str (kN 3), .str (tos R.s), .str (tos R.r), .str (tos R.b), .str (tos R.n)])) := Fr.new0 nl _
      have hl : upd H l (.lst [V.str (kN 3), .str (tos R.s), .str (tos R.r), .str (tos R.b), .str (tos R.n)]) l = some (.lst [V.str (kN 3), .str (tos R.s), .str (tos R.r), .str (tos R.b), .str (tos R.n)]) := upd_same
      have nwl : Nw H l := .of nl
      have q1 := SqT.of (K := K) (X1.tup r.ha not_nil)
      refine ⟨_, rfl, _, _, _, _, rfl, rfl, q1, rfl, rfl, _, rfl, strT ?_⟩
      refine ⟨_, rfl, .inl ⟨rfl, _, SqL.of hl⟩, _, rfl, _, _, _, _, rfl, rfl, q1, rfl, _, rfl, ok.ab, l, _, _, rfl, rfl, hl, by show 5 < sizeLine; decide, ?_⟩
      have X2 := X1.late nwl (.lst hl) (.lst ([V.str (kN 3), .str (tos R.s), .str (tos R.r), .str (tos R.b), .str (tos R.n)] ++ [.str (tos R.ab)]))
      have q1 := SqT.of (K := K) (X2.tup r.ha not_nil)
      refine ⟨_, rfl, _, _, _, _, rfl, rfl, q1, rfl, rfl, _, rfl, strF (by decide +kernel) ?_⟩
      refine ⟨_, rfl, _, _, _, _, rfl, rfl, q1, rfl, rfl, _, rfl, strF (by decide +kernel) ?_⟩
      exact ⟨_, rfl, k l _ nwl X2 upd_same⟩
    · have q := SqT.of (K := K) r.ha
      refine ⟨_, rfl, _, _, _, _, rfl, rfl, q, rfl, _, rfl, _, _, _, _, rfl, rfl, q, rfl, _, rfl, ok.s, _, rfl, _, _, _, _, rfl, rfl, q, rfl, _, rfl, ok.r, _, rfl, _, _, _, _, rfl, rfl, q, rfl, _, rfl, ok.b, _, rfl, _, _, _, _, rfl, rfl, q, rfl, _, rfl, ok.n, by show 5 ≤ sizeLine; decide, fun l nl => ?_⟩
      have X1 : Fr [] H (upd H l (.lst [V.str (kN 4), .str (tos R.s), .str (tos R.r), .str (tos R.b), .str (tos R.n)])) := Fr.new0 nl _
      have hl : upd H l (.lst [V.str (kN 4), .str (tos R.s), .str (tos R.r), .str (tos R.b), .str (tos R.n)]) l = some (.lst [V.str (kN 4), .str (tos R.s), .str (tos R.r), .str (tos R.b), .str (tos R.n)]) := upd_same
      have nwl : Nw H l := .of nl
      have q1 := SqT.of (K := K) (X1.tup r.ha not_nil)
      refine ⟨_, rfl, _, _, _, _, rfl, rfl, q1, rfl, rfl, _, rfl, strF (by decide +kernel) ?_⟩
      refine ⟨_, rfl, _, _, _, _, rfl, rfl, q1, rfl, rfl, _, rfl, strT ?_⟩
      refine ⟨_, rfl, _, rfl, _, _, _, _, rfl, rfl, q1, rfl, _, rfl, ok.ab, by show 2 ≤ sizeLine; decide, fun ch nch => ?_⟩
      refine ⟨_, rfl, _, _, _, _, rfl, rfl, SqT.of ((X1.new nch _).tup r.ha not_nil), rfl, ?_⟩
      have X2 := X1.new nch (.lst [V.str "no", V.str "yes"])
      have hl2 := upd_new (o := .lst [V.str "no", V.str "yes"]) nch hl
      have hch : upd (upd H l (.lst [V.str (kN 4), .str (tos R.s), .str (tos R.r), .str (tos R.b), .str (tos R.n)])) ch (.lst [V.str "no", V.str "yes"]) ch = some (.lst [V.str "no", V.str "yes"]) := upd_same
      have ew : exW 4 R = [tos R.ab, yn R.re] := rfl
      cases e : R.re with
      | true =>
        rw [e] at ew
        refine .inr ⟨_, rfl, _, _, _, _, rfl, rfl, SqL.of hch, rfl, by show 2 ≤ sizeLine; decide, fun p np => ?_⟩
        have X3 := X2.new np (.lst [V.str (tos R.ab), V.str "yes"])
        refine ⟨l, p, _, _, rfl, rfl, upd_new np hl2, upd_same, by show 5 + 2 ≤ sizeLine; decide, fun r' nr => ?_⟩
        have X4 := X3.new nr (.lst ([V.str (kN 4), .str (tos R.s), .str (tos R.r), .str (tos R.b), .str (tos R.n)] ++ [V.str (tos R.ab), V.str "yes"]))
        have fin := k r' _ (X3.live r' (.of nr)) X4 (by unfold wordsF; rw [ew, upd_same]; rfl)
        exact ⟨_, rfl, _, _, _, _, rfl, rfl, SqT.of (X4.tup r.ha not_nil), rfl, rfl, _, rfl, strF (by decide +kernel) ⟨_, rfl, fin⟩⟩
      | false =>
        rw [e] at ew
        refine .inr ⟨_, rfl, _, _, _, _, rfl, rfl, SqL.of hch, rfl, by show 2 ≤ sizeLine; decide, fun p np => ?_⟩
        have X3 := X2.new np (.lst [V.str (tos R.ab), V.str "no"])
        refine ⟨l, p, _, _, rfl, rfl, upd_new np hl2, upd_same, by show 5 + 2 ≤ sizeLine; decide, fun r' nr => ?_⟩
        have X4 := X3.new nr (.lst ([V.str (kN 4), .str (tos R.s), .str (tos R.r), .str (tos R.b), .str (tos R.n)] ++ [V.str (tos R.ab), V.str "no"]))
        have fin := k r' _ (X3.live r' (.of nr)) X4 (by unfold wordsF; rw [ew, upd_same]; rfl)
        exact ⟨_, rfl, _, _, _, _, rfl, rfl, SqT.of (X4.tup r.ha not_nil), rfl, rfl, _, rfl, strF (by decide +kernel) ⟨_, rfl, fin⟩⟩
    · have q := SqT.of (K := K) r.ha
      refine ⟨_, rfl, _, _, _, _, rfl, rfl, q, rfl, _, rfl, _, _, _, _, rfl, rfl, q, rfl, _, rfl, ok.s, _, rfl, _, _, _, _, rfl, rfl, q, rfl, _, rfl, ok.r, _, rfl, _, _, _, _, rfl, rfl, q, rfl, _, rfl, ok.b, _, rfl, _, _, _, _, rfl, rfl, q, rfl, _, rfl, ok.n, by show 5 ≤ sizeLine; decide, fun l nl => ?_⟩
      have X1 : Fr [] H (upd H l (.lst [V.str (kN 5), .str (tos R.s), .str (tos R.r), .str (tos R.b), .str (tos R.n)])) := Fr.new0 nl _
      have hl : upd H l (.lst [V.str (kN 5), .str (tos R.s), .str (tos R.r), .str (tos R.b), .str (tos R.n)]) l = some (.lst [V.str (kN 5), .str (tos R.s), .str (tos R.r), .str (tos R.b), .str (tos R.n)]) := upd_same
      have nwl : Nw H l := .of nl
      have q1 := SqT.of (K := K) (X1.tup r.ha not_nil)
      refine ⟨_, rfl, _, _, _, _, rfl, rfl, q1, rfl, rfl, _, rfl, strF (by decide +kernel) ?_⟩
      refine ⟨_, rfl, _, _, _, _, rfl, rfl, q1, rfl, rfl, _, rfl, strF (by decide +kernel) ?_⟩
      refine ⟨_, rfl, _, _, _, _, rfl, rfl, q1, rfl, rfl, _, rfl, strT ?_⟩
      refine ⟨_, rfl, _, rfl, _, _, _, _, rfl, rfl, q1, rfl, _, rfl, ok.po, by show 2 ≤ sizeLine; decide, fun ch nch => ?_⟩
      refine ⟨_, rfl, _, _, _, _, rfl, rfl, SqT.of ((X1.new nch _).tup r.ha not_nil), rfl, ?_⟩
      have X2 := X1.new nch (.lst [V.str "last", V.str "more"])
      have hl2 := upd_new (o := .lst [V.str "last", V.str "more"]) nch hl
      have hch : upd (upd H l (.lst [V.str (kN 5), .str (tos R.s), .str (tos R.r), .str (tos R.b), .str (tos R.n)])) ch (.lst [V.str "last", V.str "more"]) ch = some (.lst [V.str "last", V.str "more"]) := upd_same
      have ew : exW 5 R = [tos R.po, lm R.mo] := rfl
      cases e : R.mo with
      | true =>
        rw [e] at ew
        refine .inr ⟨_, rfl, _, _, _, _, rfl, rfl, SqL.of hch, rfl, by show 2 ≤ sizeLine; decide, fun p np => ?_⟩
        have X3 := X2.new np (.lst [V.str (tos R.po), V.str "more"])
        refine ⟨l, p, _, _, rfl, rfl, upd_new np hl2, upd_same, by show 5 + 2 ≤ sizeLine; decide, fun r' nr => ?_⟩
        have X4 := X3.new nr (.lst ([V.str (kN 5), .str (tos R.s), .str (tos R.r), .str (tos R.b), .str (tos R.n)] ++ [V.str (tos R.po), V.str "more"]))
        have fin := k r' _ (X3.live r' (.of nr)) X4 (by unfold wordsF; rw [ew, upd_same]; rfl)
        exact ⟨_, rfl, fin⟩
      | false =>
        rw [e] at ew
        refine .inr ⟨_, rfl, _, _, _, _, rfl, rfl, SqL.of hch, rfl, by show 2 ≤ sizeLine; decide, fun p np => ?_⟩
        have X3 := X2.new np (.lst [V.str (tos R.po), V.str "last"])
        refine ⟨l, p, _, _, rfl, rfl, upd_new np hl2, upd_same, by show 5 + 2 ≤ sizeLine; decide, fun r' nr => ?_⟩
        have X4 := X3.new nr (.lst ([V.str (kN 5), .str (tos R.s), .str (tos R.r), .str (tos R.b), .str (tos R.n)] ++ [V.str (tos R.po), V.str "last"]))
        have fin := k r' _ (X3.live r' (.of nr)) X4 (by unfold wordsF; rw [ew, upd_same]; rfl)
        exact ⟨_, rfl, fin⟩
end
end K04

set_option Elab.async false
set_option maxRecDepth 100000
set_option maxHeartbeats 4000000
set_option exponentiation.threshold 4096
set_option linter.unusedVariables false
/-! a letter of a row; rows -/
namespace K04
open PySem PySem.Spec PyProof.Rows L2 C8 LamX UF
section
variable {P : Program} {w : World} {K : PySem.W.Frag} {mg : Str → Option Value} {base : Heap} {C0 C1 C2 C3 C4 C5 : Addr}
theorem c_law_made (T : Bl mg) (c_Letter : Mak P w K mg base 1 "Letter" C0 (spIni 0 C0) []) (c_Ask : Mak P w K mg base 1 "Ask" C1 (spIni 1 C1) []) (c_Answer : Mak P w K mg base 1 "Answer" C2 (spIni 2 C2) []) (c_Probe : Mak P w K mg base 2 "Probe" C3 (spIni 3 C3) []) (c_Probed : Mak P w K mg base 2 "Probed" C4 (spIni 4 C4) []) (c_Sums : Mak P w K mg base 2 "Sums" C5 (spIni 5 C5) []) (d : D0 K mg "_law_made" s_law_made ["row", "sayings", "sums"]) : Cal P w K mg base 4 "_law_made" (spMade (csF C0 C1 C2 C3 C4 C5)) [] := by
  refine cal d sc_law_made (fun vs H Q E h => ?_) (fun cdv A outer f s0 H vs Q E hr h => ?_)
  · obtain ⟨i, a, sa, su, l, l2, ws, us, xs, ys, R, _, rfl, _⟩ := h
    rfl
  · obtain ⟨i, a, sa, su, l, l2, ws, us, xs, ys, R, i6, rfl, r, hl, hl2, px, py, k⟩ := h
    refine ⟨_, (pss_cons (ps_if (pt_cmpR op_eq (pe_ix ix_tup (pv 0) pe_int (fun _ _ => rfl)) pe_str (nomark _)) (pss_one (ps_ret (pe_mk c_Ask hr (by decide) rfl (pa_cons (pe_ix ix_tup (pv 0) pe_int (fun _ _ => rfl)) (pa_cons (pe_ix ix_tup (pv 0) pe_int (fun _ _ => rfl)) (pa_cons (pe_ix ix_tup (pv 0) pe_int (fun _ _ => rfl)) (pa_cons (pe_ix ix_tup (pv 0) pe_int (fun _ _ => rfl)) (pa_cons (pv 1) pa_nil)))))))) pss_nil)
      (pss_cons (ps_if (pt_cmpR op_eq (pe_ix ix_tup (pv 0) pe_int (fun _ _ => rfl)) pe_str (nomark _)) (pss_one (ps_ret (pe_mk c_Answer hr (by decide) rfl (pa_cons (pe_ix ix_tup (pv 0) pe_int (fun _ _ => rfl)) (pa_cons (pe_ix ix_tup (pv 0) pe_int (fun _ _ => rfl)) (pa_cons (pe_ix ix_tup (pv 0) pe_int (fun _ _ => rfl)) (pa_cons (pe_ix ix_tup (pv 0) pe_int (fun _ _ => rfl)) (pa_cons (pv 1) pa_nil)))))))) pss_nil)
      (pss_cons (ps_if (pt_cmpR op_eq (pe_ix ix_tup (pv 0) pe_int (fun _ _ => rfl)) pe_str (nomark _)) (pss_one (ps_ret (pe_mk c_Probe hr (by decide) rfl (pa_cons (pe_ix ix_tup (pv 0) pe_int (fun _ _ => rfl)) (pa_cons (pe_ix ix_tup (pv 0) pe_int (fun _ _ => rfl)) (pa_cons (pe_ix ix_tup (pv 0) pe_int (fun _ _ => rfl)) (pa_cons (pe_ix ix_tup (pv 0) pe_int (fun _ _ => rfl)) (pa_cons (pv 1) (pa_cons (pe_ix ix_tup (pv 0) pe_int (fun _ _ => rfl)) pa_nil))))))))) pss_nil)
      (pss_cons (ps_if (pt_cmpR op_eq (pe_ix ix_tup (pv 0) pe_int (fun _ _ => rfl)) pe_str (nomark _)) (pss_one (ps_ret (pe_mk c_Probed hr (by decide) rfl (pa_cons (pe_ix ix_tup (pv 0) pe_int (fun _ _ => rfl)) (pa_cons (pe_ix ix_tup (pv 0) pe_int (fun _ _ => rfl)) (pa_cons (pe_ix ix_tup (pv 0) pe_int (fun _ _ => rfl)) (pa_cons (pe_ix ix_tup (pv 0) pe_int (fun _ _ => rfl)) (pa_cons (pv 1) (pa_cons (pe_ix ix_tup (pv 0) pe_int (fun _ _ => rfl)) (pa_cons (pe_ix ix_tup (pv 0) pe_int (fun _ _ => rfl)) pa_nil)))))))))) pss_nil)
      (pss_cons (ps_if (pt_cmpR op_eq (pe_ix ix_tup (pv 0) pe_int (fun _ _ => rfl)) pe_str (nomark _)) (pss_one (ps_ret (pe_mk c_Sums hr (by decide) rfl (pa_cons (pe_ix ix_tup (pv 0) pe_int (fun _ _ => rfl)) (pa_cons (pe_ix ix_tup (pv 0) pe_int (fun _ _ => rfl)) (pa_cons (pe_ix ix_tup (pv 0) pe_int (fun _ _ => rfl)) (pa_cons (pe_ix ix_tup (pv 0) pe_int (fun _ _ => rfl)) (pa_cons (pv 1) (pa_cons (pv 2) (pa_cons (pe_ix ix_tup (pv 0) pe_int (fun _ _ => rfl)) (pa_cons (pe_ix ix_tup (pv 0) pe_int (fun _ _ => rfl)) pa_nil))))))))))) pss_nil)
      (pss_one (ps_ret (pe_mk c_Letter hr (by decide) rfl (pa_cons (pe_ix ix_tup (pv 0) pe_int (fun _ _ => rfl)) (pa_cons (pe_ix ix_tup (pv 0) pe_int (fun _ _ => rfl)) (pa_cons (pe_ix ix_tup (pv 0) pe_int (fun _ _ => rfl)) (pa_cons (pe_ix ix_tup (pv 0) pe_int (fun _ _ => rfl)) (pa_cons (pv 1) pa_nil))))))))))))), ?_⟩
    have : i = 0 ∨ i = 1 ∨ i = 2 ∨ i = 3 ∨ i = 4 ∨ i = 5 := by omega
    clear i6
    rcases this with rfl | rfl | rfl | rfl | rfl | rfl
    · have q := SqT.of (K := K) r.ha
      refine ⟨_, rfl, _, _, _, _, rfl, rfl, q, rfl, rfl, _, rfl, strF (by decide +kernel) ?_⟩
      refine ⟨_, rfl, _, _, _, _, rfl, rfl, q, rfl, rfl, _, rfl, strF (by decide +kernel) ?_⟩
      refine ⟨_, rfl, _, _, _, _, rfl, rfl, q, rfl, rfl, _, rfl, strF (by decide +kernel) ?_⟩
      refine ⟨_, rfl, _, _, _, _, rfl, rfl, q, rfl, rfl, _, rfl, strF (by decide +kernel) ?_⟩
      refine ⟨_, rfl, _, _, _, _, rfl, rfl, q, rfl, rfl, _, rfl, strF (by decide +kernel) ?_⟩
      refine ⟨_, rfl, _, _, _, _, rfl, rfl, q, rfl, _, rfl, _, _, _, _, rfl, rfl, q, rfl, _, rfl, _, _, _, _, rfl, rfl, q, rfl, _, rfl, _, _, _, _, rfl, rfl, q, rfl, _, rfl, ?_⟩
      intro o x m n e
      have XM := made (C := C0) m n e
      refine ⟨o, x, l, l2, R, xs, ys, rfl, upd_same, XM.lst hl not_nil, fun _ => XM.lst hl2 not_nil, fun q q2 H1 nq nq2 X1 ho hq hq2 => ⟨rfl, ?_⟩⟩
      have X2 : Fr [] H H1 := XM.tail X1 (fun a mm => .inr (by rw [List.mem_singleton.mp mm]; exact .of m))
      exact k o q q2 H1 (.of m) (XM.live q nq) (fun z => XM.live q2 (nq2 z)) X2 ⟨⟨x, ho⟩, hq, pimp px fun a s h => h.fr0 X2, fun z => ⟨hq2 z, pimp py fun a s h => h.fr0 X2⟩⟩
    · have q := SqT.of (K := K) r.ha
      refine ⟨_, rfl, _, _, _, _, rfl, rfl, q, rfl, rfl, _, rfl, strT ?_⟩
      refine ⟨_, rfl, _, _, _, _, rfl, rfl, q, rfl, _, rfl, _, _, _, _, rfl, rfl, q, rfl, _, rfl, _, _, _, _, rfl, rfl, q, rfl, _, rfl, _, _, _, _, rfl, rfl, q, rfl, _, rfl, ?_⟩
      intro o x m n e
      have XM := made (C := C1) m n e
      refine ⟨o, x, l, l2, R, xs, ys, rfl, upd_same, XM.lst hl not_nil, fun _ => XM.lst hl2 not_nil, fun q q2 H1 nq nq2 X1 ho hq hq2 => ⟨rfl, ?_⟩⟩
      have X2 : Fr [] H H1 := XM.tail X1 (fun a mm => .inr (by rw [List.mem_singleton.mp mm]; exact .of m))
      exact k o q q2 H1 (.of m) (XM.live q nq) (fun z => XM.live q2 (nq2 z)) X2 ⟨⟨x, ho⟩, hq, pimp px fun a s h => h.fr0 X2, fun z => ⟨hq2 z, pimp py fun a s h => h.fr0 X2⟩⟩
    · have q := SqT.of (K := K) r.ha
      refine ⟨_, rfl, _, _, _, _, rfl, rfl, q, rfl, rfl, _, rfl, strF (by decide +kernel) ?_⟩
      refine ⟨_, rfl, _, _, _, _, rfl, rfl, q, rfl, rfl, _, rfl, strT ?_⟩
      refine ⟨_, rfl, _, _, _, _, rfl, rfl, q, rfl, _, rfl, _, _, _, _, rfl, rfl, q, rfl, _, rfl, _, _, _, _, rfl, rfl, q, rfl, _, rfl, _, _, _, _, rfl, rfl, q, rfl, _, rfl, ?_⟩
      intro o x m n e
      have XM := made (C := C2) m n e
      refine ⟨o, x, l, l2, R, xs, ys, rfl, upd_same, XM.lst hl not_nil, fun _ => XM.lst hl2 not_nil, fun q q2 H1 nq nq2 X1 ho hq hq2 => ⟨rfl, ?_⟩⟩
      have X2 : Fr [] H H1 := XM.tail X1 (fun a mm => .inr (by rw [List.mem_singleton.mp mm]; exact .of m))
      exact k o q q2 H1 (.of m) (XM.live q nq) (fun z => XM.live q2 (nq2 z)) X2 ⟨⟨x, ho⟩, hq, pimp px fun a s h => h.fr0 X2, fun z => ⟨hq2 z, pimp py fun a s h => h.fr0 X2⟩⟩
    · have q := SqT.of (K := K) r.ha
      refine ⟨_, rfl, _, _, _, _, rfl, rfl, q, rfl, rfl, _, rfl, strF (by decide +kernel) ?_⟩
      refine ⟨_, rfl, _, _, _, _, rfl, rfl, q, rfl, rfl, _, rfl, strF (by decide +kernel) ?_⟩
      refine ⟨_, rfl, _, _, _, _, rfl, rfl, q, rfl, rfl, _, rfl, strT ?_⟩
      refine ⟨_, rfl, _, _, _, _, rfl, rfl, q, rfl, _, rfl, _, _, _, _, rfl, rfl, q, rfl, _, rfl, _, _, _, _, rfl, rfl, q, rfl, _, rfl, _, _, _, _, rfl, rfl, q, rfl, _, rfl, _, rfl, _, _, _, _, rfl, rfl, q, rfl, ?_⟩
      intro o x m n e
      have XM := made (C := C3) m n e
      refine ⟨o, x, l, l2, R, xs, ys, rfl, upd_same, XM.lst hl not_nil, fun _ => XM.lst hl2 not_nil, fun q q2 H1 nq nq2 X1 ho hq hq2 => ⟨rfl, ?_⟩⟩
      have X2 : Fr [] H H1 := XM.tail X1 (fun a mm => .inr (by rw [List.mem_singleton.mp mm]; exact .of m))
      exact k o q q2 H1 (.of m) (XM.live q nq) (fun z => XM.live q2 (nq2 z)) X2 ⟨⟨x, ho⟩, hq, pimp px fun a s h => h.fr0 X2, fun z => ⟨hq2 z, pimp py fun a s h => h.fr0 X2⟩⟩
    · have q := SqT.of (K := K) r.ha
      refine ⟨_, rfl, _, _, _, _, rfl, rfl, q, rfl, rfl, _, rfl, strF (by decide +kernel) ?_⟩
      refine ⟨_, rfl, _, _, _, _, rfl, rfl, q, rfl, rfl, _, rfl, strF (by decide +kernel) ?_⟩
      refine ⟨_, rfl, _, _, _, _, rfl, rfl, q, rfl, rfl, _, rfl, strF (by decide +kernel) ?_⟩
      refine ⟨_, rfl, _, _, _, _, rfl, rfl, q, rfl, rfl, _, rfl, strT ?_⟩
      refine ⟨_, rfl, _, _, _, _, rfl, rfl, q, rfl, _, rfl, _, _, _, _, rfl, rfl, q, rfl, _, rfl, _, _, _, _, rfl, rfl, q, rfl, _, rfl, _, _, _, _, rfl, rfl, q, rfl, _, rfl, _, rfl, _, _, _, _, rfl, rfl, q, rfl, _, rfl, _, _, _, _, rfl, rfl, q, rfl, ?_⟩
      intro o x m n e
      have XM := made (C := C4) m n e
      refine ⟨o, x, l, l2, R, xs, ys, rfl, upd_same, XM.lst hl not_nil, fun _ => XM.lst hl2 not_nil, fun q q2 H1 nq nq2 X1 ho hq hq2 => ⟨rfl, ?_⟩⟩
      have X2 : Fr [] H H1 := XM.tail X1 (fun a mm => .inr (by rw [List.mem_singleton.mp mm]; exact .of m))
      exact k o q q2 H1 (.of m) (XM.live q nq) (fun z => XM.live q2 (nq2 z)) X2 ⟨⟨x, ho⟩, hq, pimp px fun a s h => h.fr0 X2, fun z => ⟨hq2 z, pimp py fun a s h => h.fr0 X2⟩⟩
    · have q := SqT.of (K := K) r.ha
      refine ⟨_, rfl, _, _, _, _, rfl, rfl, q, rfl, rfl, _, rfl, strF (by decide +kernel) ?_⟩
      refine ⟨_, rfl, _, _, _, _, rfl, rfl, q, rfl, rfl, _, rfl, strF (by decide +kernel) ?_⟩
      refine ⟨_, rfl, _, _, _, _, rfl, rfl, q, rfl, rfl, _, rfl, strF (by decide +kernel) ?_⟩
      refine ⟨_, rfl, _, _, _, _, rfl, rfl, q, rfl, rfl, _, rfl, strF (by decide +kernel) ?_⟩
      refine ⟨_, rfl, _, _, _, _, rfl, rfl, q, rfl, rfl, _, rfl, strT ?_⟩
      refine ⟨_, rfl, _, _, _, _, rfl, rfl, q, rfl, _, rfl, _, _, _, _, rfl, rfl, q, rfl, _, rfl, _, _, _, _, rfl, rfl, q, rfl, _, rfl, _, _, _, _, rfl, rfl, q, rfl, _, rfl, _, rfl, _, rfl, _, _, _, _, rfl, rfl, q, rfl, _, rfl, _, _, _, _, rfl, rfl, q, rfl, ?_⟩
      intro o x m n e
      have XM := made (C := C5) m n e
      refine ⟨o, x, l, l2, R, xs, ys, rfl, upd_same, XM.lst hl not_nil, fun _ => XM.lst hl2 not_nil, fun q q2 H1 nq nq2 X1 ho hq hq2 => ⟨rfl, ?_⟩⟩
      have X2 : Fr [] H H1 := XM.tail X1 (fun a mm => .inr (by rw [List.mem_singleton.mp mm]; exact .of m))
      exact k o q q2 H1 (.of m) (XM.live q nq) (fun z => XM.live q2 (nq2 z)) X2 ⟨⟨x, ho⟩, hq, pimp px fun a s h => h.fr0 X2, fun z => ⟨hq2 z, pimp py fun a s h => h.fr0 X2⟩⟩
end
end K04

set_option Elab.async false
set_option maxRecDepth 100000
set_option maxHeartbeats 4000000
set_option exponentiation.threshold 4096
set_option linter.unusedVariables false
/-! rows -/
namespace K04
open PySem PySem.Spec PyProof.Rows L2 C8 LamX UF
theorem lg {z : Int} (h0 : 0 ≤ z) (h1 : z < 10 ^ 90) : z.natAbs.log2 < 1920 := by
  by_cases h : z.natAbs = 0
  · rw [h]; decide
  · exact (Nat.log2_lt h).mpr (Nat.lt_trans (show z.natAbs < 10 ^ 90 by omega) (by decide +kernel))
def spRows : Sp := fun vs H Q _ => ∃ (b c : Addr) (bits : Int), vs = [.ref b, .int bits] ∧ Bag H b c ∧ 1 ≤ bits ∧ bits ≤ 8 ∧
  ∀ (l sa su : Addr) (ad : Nat → Addr) (ws us : List V) (R : Row) (H' : Hp), H' l = some (.lst [.ref (ad 0), .ref (ad 1), .ref (ad 2), .ref (ad 3), .ref (ad 4), .ref (ad 5)]) → (∀ i, i < 6 → RowAt i H' (ad i) sa su ws us R) → RowOk R → R.say.length ≤ 66 → R.sums.length ≤ 66 → Bag H' b c → Nw H l → Fr [b] H H' → Q (.ref l) H'
section
variable {P : Program} {w : World} {K : PySem.W.Frag} {mg : Str → Option Value} {base : Heap} {C0 C1 C2 C3 C4 C5 : Addr}
theorem c_law_rows (T : Bl mg) (c_law_draw : Cal P w K mg base 1 "_law_draw" spDraw []) (c_law_number : Cal P w K mg base 2 "_law_number" spNumber []) (c_law_count : Cal P w K mg base 2 "_law_count" spCount []) (c_law_range_sum : Cal P w K mg base 3 "_law_range_sum" spSaying []) (c_law_sayings : Cal P w K mg base 4 "_law_sayings" spSayings []) (d : D0 K mg "_law_rows" s_law_rows ["bag", "bits"]) : Cal P w K mg base 5 "_law_rows" spRows [] := by
  refine cal d sc_law_rows (fun vs H Q E h => ?_) (fun cdv A outer f s0 H vs Q E hr h => ?_)
  · obtain ⟨b, c, bits, rfl, _⟩ := h
    rfl
  · obtain ⟨b, c, bits, rfl, B, b1, b8, k⟩ := h
    refine ⟨_, (pss_cons (ps_set (i := 2) sc_law_rows.nd rfl (Or.inl rfl) (pe_c c_law_draw hr (by decide) rfl (pa_cons (pv 0) (pa_cons (pe_op op_shl pe_int (pv 1)) pa_nil))))
      (pss_cons (ps_set (i := 3) sc_law_rows.nd rfl (Or.inl rfl) (pe_op op_mod (pe_callTy call_int1 (by rfl) T.int (by decide +kernel) (pa_cons (pe_op op_add (pe_op op_add (pv 2) pe_int) (pe_c c_law_draw hr (by decide) rfl (pa_cons (pv 0) (pa_cons (pe_op op_sub (pe_op op_shl pe_int (pv 1)) pe_int) pa_nil)))) pa_nil)) (pe_op op_shl pe_int (pv 1))))
      (pss_cons (ps_set (i := 4) sc_law_rows.nd rfl (Or.inl rfl) (pe_c c_law_number hr (by decide) rfl (pa_cons (pv 0) (pa_cons (pe_op op_sub (pe_op op_pow pe_int pe_int) pe_int) pa_nil))))
      (pss_cons (ps_set (i := 5) sc_law_rows.nd rfl (Or.inl rfl) (pe_c c_law_number hr (by decide) rfl (pa_cons (pv 0) (pa_cons (pe_op op_sub (pe_op op_pow pe_int pe_int) pe_int) pa_nil))))
      (pss_cons (ps_set (i := 6) sc_law_rows.nd rfl (Or.inl rfl) (pe_c c_law_sayings hr (by decide) rfl (pa_cons (pv 0) (pa_cons (pv 1) (pa_cons (pe_c c_law_count hr (by decide) rfl (pa_cons (pv 0) (pa_cons pe_int pa_nil))) pa_nil)))))
      (pss_cons (ps_set (i := 7) sc_law_rows.nd rfl (Or.inl rfl) (pe_callTy call_tuple_of (by rfl) T.tuple (by decide +kernel) (pa_cons (pe_lc (own := [("k", 13)]) (g := gName 13) (tt := tYes) (by rfl) sc_law_rows.nd (pi_range1 rfl T.range (pa_cons (pe_c c_law_count hr (by decide) rfl (pa_cons (pv 0) (pa_cons pe_int pa_nil))) pa_nil)) (blkOk_by (own := [("k", 13)]) (N := n_law_rows) (sc := C8.fnScope s_law_rows) (by decide +kernel)) (fun _ _ _ _ _ => pg_name (i := 13) sc_law_rows.nd rfl (Or.inl rfl)) (fun _ _ _ _ _ => pts_nil) (fun _ _ _ _ _ => (pe_c c_law_range_sum hr (by decide) rfl (pa_cons (pv 0) (pa_cons (pv 1) pa_nil))))) pa_nil)))
      (pss_cons (ps_set (i := 8) sc_law_rows.nd rfl (Or.inl rfl) (pe_c c_law_draw hr (by decide) rfl (pa_cons (pv 0) (pa_cons (pe_op op_shl pe_int (pv 1)) pa_nil))))
      (pss_cons (ps_set (i := 9) sc_law_rows.nd rfl (Or.inl rfl) (pe_cmpR op_eq (pe_c c_law_draw hr (by decide) rfl (pa_cons (pv 0) (pa_cons pe_int pa_nil))) pe_int (nomark _)))
      (pss_cons (ps_set (i := 10) sc_law_rows.nd rfl (Or.inl rfl) (pe_c c_law_number hr (by decide) rfl (pa_cons (pv 0) (pa_cons (pe_op op_sub (pe_op op_pow pe_int pe_int) pe_int) pa_nil))))
      (pss_cons (ps_set (i := 11) sc_law_rows.nd rfl (Or.inl rfl) (pe_cmpR op_eq (pe_c c_law_draw hr (by decide) rfl (pa_cons (pv 0) (pa_cons pe_int pa_nil))) pe_int (nomark _)))
      (pss_cons (ps_set (i := 12) sc_law_rows.nd rfl (Or.inl rfl) (pe_tup (pa_cons (pv 2) (pa_cons (pv 3) (pa_cons (pv 4) (pa_cons (pv 5) (pa_cons (pv 6) pa_nil)))))))
      (pss_one (ps_ret (pe_lst (pa_cons (pe_op op_catT (pe_tup (pa_cons pe_str pa_nil)) (pv 12)) (pa_cons (pe_op op_catT (pe_tup (pa_cons pe_str pa_nil)) (pv 12)) (pa_cons (pe_op op_catT (pe_tup (pa_cons pe_str pa_nil)) (pv 12)) (pa_cons (pe_op op_catT (pe_op op_catT (pe_tup (pa_cons pe_str pa_nil)) (pv 12)) (pe_tup (pa_cons (pv 8) pa_nil))) (pa_cons (pe_op op_catT (pe_op op_catT (pe_tup (pa_cons pe_str pa_nil)) (pv 12)) (pe_tup (pa_cons (pv 8) (pa_cons (pv 9) pa_nil)))) (pa_cons (pe_op op_catT (pe_op op_catT (pe_tup (pa_cons pe_str pa_nil)) (pv 12)) (pe_tup (pa_cons (pv 7) (pa_cons (pv 10) (pa_cons (pv 11) pa_nil))))) pa_nil)))))))))))))))))))), ?_⟩
    obtain ⟨nb, rfl⟩ := Int.eq_ofNat_of_zero_le (show 0 ≤ bits by omega)
    have tab : ∀ n : Fin 9, 1 ≤ n.val → (2 : Int) ≤ 1 * 2 ^ n.val ∧ (1 : Int) * 2 ^ n.val ≤ 256 := by decide +kernel
    obtain ⟨w0, w1⟩ := tab ⟨nb, by omega⟩ (by show 1 ≤ nb; omega)
    have w0 : (2 : Int) ≤ 1 * 2 ^ ((nb : Nat) : Int).toNat := w0
    have w1 : (1 : Int) * 2 ^ ((nb : Nat) : Int).toNat ≤ 256 := w1
    have big : ∀ z : Int, z ≤ 1000 → z < 2 ^ 2000 := fun z h => Int.lt_of_le_of_lt h (by decide +kernel)
    refine ⟨_, rfl, _, rfl, _, _, rfl, rfl, ⟨by omega, by omega, by decide⟩, b, c, _, rfl, B, by omega, big _ (by omega), fun d1 H1 a1 a2 B1 X1 => ?_⟩
    refine ⟨_, rfl, _, _, rfl, rfl, _, rfl, _, rfl, _, _, rfl, rfl, ⟨by omega, by omega, by decide⟩, _, _, rfl, rfl, b, c, _, rfl, B1, by omega, big _ (by omega), fun d2 H2 e1 e2 B2 X2 => ?_⟩
    refine ⟨_, _, rfl, rfl, .inl ⟨_, rfl, _, rfl, _, _, rfl, rfl, ⟨by omega, by omega, by decide⟩, _, _, rfl, rfl, (show (0 : Int) < 1 * 2 ^ ((nb : Nat) : Int).toNat by omega), ?_⟩⟩
    show gName 3 (V.int ((d1 + 1 + d2) % (1 * 2 ^ ((nb : Nat) : Int).toNat))) _ _ _
    have r0 := Int.emod_nonneg (d1 + 1 + d2) (show (1 : Int) * 2 ^ ((nb : Nat) : Int).toNat ≠ 0 by omega)
    have r1 := Int.emod_lt_of_pos (d1 + 1 + d2) (show (0 : Int) < 1 * 2 ^ ((nb : Nat) : Int).toNat by omega)
    generalize (d1 + 1 + d2) % (1 * 2 ^ ((nb : Nat) : Int).toNat) = cd at r0 r1
    have q60 : (10 : Int) ^ (60 : Int).toNat - 1 < 10 ^ 81 := by decide +kernel
    have q60' : (10 : Int) ^ (60 : Int).toNat - 1 < 10 ^ 90 := by decide +kernel
    refine ⟨_, rfl, _, _, rfl, rfl, ⟨by decide, by decide, by decide⟩, _, _, rfl, rfl, b, c, _, rfl, B2, by decide +kernel, q60, fun bt H3 f1 f2 B3 X3 => ?_⟩
    refine ⟨_, rfl, _, _, rfl, rfl, ⟨by decide, by decide, by decide⟩, _, _, rfl, rfl, b, c, _, rfl, B3, by decide +kernel, q60, fun nm H4 g1 g2 B4 X4 => ?_⟩
    refine ⟨_, rfl, _, rfl, _, rfl, b, c, 66, rfl, B4, by decide, by decide, fun n1 H5 i1 i2 B5 X5 => ?_⟩
    obtain ⟨n1, rfl⟩ := Int.eq_ofNat_of_zero_le i1
    refine ⟨b, c, _, n1, rfl, B5, b1, b8, by omega, fun sa ws say H6 hs ps lsay B6 X6 => ?_⟩
    refine ⟨_, rfl, b, c, 66, rfl, B6, by decide, by decide, fun n2 H7 j1 j2 B7 X7 => ?_⟩
    obtain ⟨n2, rfl⟩ := Int.eq_ofNat_of_zero_le j1
    have hs7 := X7.tup hs (fun m => B6.nt _ m _ hs)
    refine ⟨(n2 : Int), rfl, by omega, by omega, fun D nD => ?_⟩
    have nwD : Nw H7 D := .of nD
    have Db := (B7.ne nwD).1
    refine lc_range (lo := 0) (n := n2) (fun i H' => Bag H' b c ∧ Fr [b] H7 H' ∧ ∃ (vs : List V) (ts : List Tr), H' D = some (.lst vs) ∧ Paired (TrAt H' 2) vs ts ∧ ts.length = i) ⟨B7.fr0 (Fr.new0 nD _), Fr.new0 nD _, [], [], upd_same, .nil, rfl⟩ (fun i H8 hi pv => ?_) (fun H8 pv => ?_)
    · obtain ⟨B8, X8, vs, ts, hD, pr, lt⟩ := pv
      have lv := pr.length
      refine ⟨rfl, _, rfl, _, rfl, b, c, _, rfl, B8, b1, b8, fun v t H9 tv B9 X9 => ?_⟩
      have hD9 := X9.lst hD (not_one Db)
      have X10 : Fr [D] H9 (upd H9 D (.lst (vs ++ [v]))) := (Fr.refl [D] H9).upd (.head _) (.lst hD9) _
      have nt10 : ∀ a ∈ [D], ∀ us, H9 a ≠ some (.tup us) := fun a m us e => by rw [List.mem_singleton.mp m, hD9] at e; cases e
      refine ⟨vs, hD9, small1000' (by omega), B9.fr X10 (not_one Db.symm) (not_one (B7.ne nwD).2.symm), (X8.trans X9).late nwD (.lst hD9) _, vs ++ [v], ts ++ [t], upd_same, psnoc (pimp pr fun a s h => (h.fr X9 B8.nt).fr X10 nt10) (tv.fr X10 nt10), by rw [List.length_append, lt]; rfl⟩
    · obtain ⟨B8, X8, us, sums, hD, pr, lt⟩ := pv
      refine ⟨D, us, rfl, .inl ⟨SqL.of hD, fun su nsu => ?_⟩⟩
      have X9 := X8.new nsu (.tup us)
      have B9 := B8.fr0 (Fr.new0 nsu (.tup us))
      have pr9 := pimp pr fun a s h => h.fr0 (Fr.new0 nsu (.tup us))
      have hu9 : upd H8 su (.tup us) su = some (.tup us) := upd_same
      generalize upd H8 su (.tup us) = H9 at X9 B9 pr9 hu9
      have hs9 := X9.tup hs7 (fun m => B7.nt _ m _ hs7)
      have ps9 := pimp ps fun a s h => (h.fr X7 B6.nt).fr X9 B7.nt
      refine ⟨_, rfl, _, rfl, _, _, rfl, rfl, ⟨by omega, by omega, by decide⟩, b, c, _, rfl, B9, by omega, big _ (by omega), fun ab H10 k1 k2 B10 X10 => ?_⟩
      refine ⟨_, rfl, b, c, 2, rfl, B10, by decide, by decide +kernel, fun d5 H11 l1 l2 B11 X11 => ⟨rfl, ?_⟩⟩
      have q6 : (10 : Int) ^ (6 : Int).toNat - 1 < 10 ^ 81 := by decide +kernel
      refine ⟨_, rfl, _, _, rfl, rfl, ⟨by decide, by decide, by decide⟩, _, _, rfl, rfl, b, c, _, rfl, B11, by decide +kernel, q6, fun po H12 m1 m2 B12 X12 => ?_⟩
      refine ⟨_, rfl, b, c, 2, rfl, B12, by decide, by decide +kernel, fun d6 H13 n1' n2' B13 X13 => ⟨rfl, ?_⟩⟩
      have up13 : ∀ {a : Addr} {zs : List V}, H9 a = some (.tup zs) → H13 a = some (.tup zs) := fun e => by
        have e1 := X10.tup e (fun m => B9.nt _ m _ e)
        have e2 := X11.tup e1 (fun m => B10.nt _ m _ e1)
        have e3 := X12.tup e2 (fun m => B11.nt _ m _ e2)
        exact X13.tup e3 (fun m => B12.nt _ m _ e3)
      have tr13 : ∀ {v : V} {s : Tr}, TrAt H9 2 v s → TrAt H13 2 v s := fun h => (((h.fr X10 B9.nt).fr X11 B10.nt).fr X12 B11.nt).fr X13 B12.nt
      have hs13 := up13 hs9
      have hu13 := up13 hu9
      have ps13 := pimp ps9 fun a s h => tr13 h
      have pu13 := pimp pr9 fun a s h => tr13 h
      have XX := (((((((X1.trans X2).trans X3).trans X4).trans X5).trans X6).trans X7).trans X9)
      have XX := (((XX.trans X10).trans X11).trans X12).trans X13
      have b90 : ∀ z : Int, z ≤ 1000 → z < 10 ^ 90 := fun z h => Int.lt_of_le_of_lt h (by decide +kernel)
      have z1 := lg a1 (b90 _ (by omega))
      have z2 := lg r0 (b90 _ (by omega))
      have z3 := lg f1 (Int.lt_of_le_of_lt f2 q60')
      have z4 := lg g1 (Int.lt_of_le_of_lt g2 q60')
      have z5 := lg k1 (b90 _ (by omega))
      have z6 := lg m1 (Int.lt_of_le_of_lt m2 (by decide +kernel))
      have ll : say.length ≤ 66 ∧ sums.length ≤ 66 := ⟨by omega, by omega⟩
      refine ⟨_, rfl, _, rfl, _, rfl, _, rfl, _, rfl, by show 5 ≤ sizeLine; decide, fun ba nba => ?_⟩
      have Y : Fr [] H13 (upd H13 ba (.tup [.int d1, .int cd, .int bt, .int nm, .ref sa])) := Fr.new0 nba _
      have gb : upd H13 ba (.tup [.int d1, .int cd, .int bt, .int nm, .ref sa]) ba = some (.tup [.int d1, .int cd, .int bt, .int nm, .ref sa]) := upd_same
      have Z := Y
      generalize upd H13 ba (.tup [.int d1, .int cd, .int bt, .int nm, .ref sa]) = H14 at Z gb 
      clear Y
      refine ⟨by show 1 ≤ sizeLine; decide, fun p0 np0 => ?_⟩
      have Y : Fr [] H14 (upd H14 p0 (.tup [V.str ""])) := Fr.new0 np0 _
      have gp0 : upd H14 p0 (.tup [V.str ""]) p0 = some (.tup [V.str ""]) := upd_same
      have Z := Z.trans Y
      have gb := Y.tup gb not_nil
      generalize upd H14 p0 (.tup [V.str ""]) = H15 at Z gp0 gb
      clear Y
      refine ⟨_, rfl, p0, ba, _, _, rfl, rfl, SqT.of gp0, SqT.of gb, (fun z => nomatch z), by show 1 + 5 ≤ sizeLine; decide, (fun z => nomatch z), fun _ r0 nr0 => ?_⟩
      have Y : Fr [] H15 (upd H15 r0 (.tup ([V.str ""] ++ [.int d1, .int cd, .int bt, .int nm, .ref sa]))) := Fr.new0 nr0 _
      have gr0 : upd H15 r0 (.tup ([V.str ""] ++ [.int d1, .int cd, .int bt, .int nm, .ref sa])) r0 = some (.tup ([V.str ""] ++ [.int d1, .int cd, .int bt, .int nm, .ref sa])) := upd_same
      have Z := Z.trans Y
      have gb := Y.tup gb not_nil
      have gp0 := Y.tup gp0 not_nil
      generalize upd H15 r0 (.tup ([V.str ""] ++ [.int d1, .int cd, .int bt, .int nm, .ref sa])) = H16 at Z gr0 gb gp0
      clear Y
      refine ⟨by show 1 ≤ sizeLine; decide, fun p1 np1 => ?_⟩
      have Y : Fr [] H16 (upd H16 p1 (.tup [V.str "ask"])) := Fr.new0 np1 _
      have gp1 : upd H16 p1 (.tup [V.str "ask"]) p1 = some (.tup [V.str "ask"]) := upd_same
      have Z := Z.trans Y
      have gb := Y.tup gb not_nil
      have gr0 := Y.tup gr0 not_nil
      generalize upd H16 p1 (.tup [V.str "ask"]) = H17 at Z gp1 gb gr0
      clear Y
      refine ⟨_, rfl, p1, ba, _, _, rfl, rfl, SqT.of gp1, SqT.of gb, (fun z => nomatch z), by show 1 + 5 ≤ sizeLine; decide, (fun z => nomatch z), fun _ r1 nr1 => ?_⟩
      have Y : Fr [] H17 (upd H17 r1 (.tup ([V.str "ask"] ++ [.int d1, .int cd, .int bt, .int nm, .ref sa]))) := Fr.new0 nr1 _
      have gr1 : upd H17 r1 (.tup ([V.str "ask"] ++ [.int d1, .int cd, .int bt, .int nm, .ref sa])) r1 = some (.tup ([V.str "ask"] ++ [.int d1, .int cd, .int bt, .int nm, .ref sa])) := upd_same
      have Z := Z.trans Y
      have gb := Y.tup gb not_nil
      have gr0 := Y.tup gr0 not_nil
      have gp1 := Y.tup gp1 not_nil
      generalize upd H17 r1 (.tup ([V.str "ask"] ++ [.int d1, .int cd, .int bt, .int nm, .ref sa])) = H18 at Z gr1 gb gr0 gp1
      clear Y
      refine ⟨by show 1 ≤ sizeLine; decide, fun p2 np2 => ?_⟩
      have Y : Fr [] H18 (upd H18 p2 (.tup [V.str "answer"])) := Fr.new0 np2 _
      have gp2 : upd H18 p2 (.tup [V.str "answer"]) p2 = some (.tup [V.str "answer"]) := upd_same
      have Z := Z.trans Y
      have gb := Y.tup gb not_nil
      have gr0 := Y.tup gr0 not_nil
      have gr1 := Y.tup gr1 not_nil
      generalize upd H18 p2 (.tup [V.str "answer"]) = H19 at Z gp2 gb gr0 gr1
      clear Y
      refine ⟨_, rfl, p2, ba, _, _, rfl, rfl, SqT.of gp2, SqT.of gb, (fun z => nomatch z), by show 1 + 5 ≤ sizeLine; decide, (fun z => nomatch z), fun _ r2 nr2 => ?_⟩
      have Y : Fr [] H19 (upd H19 r2 (.tup ([V.str "answer"] ++ [.int d1, .int cd, .int bt, .int nm, .ref sa]))) := Fr.new0 nr2 _
      have gr2 : upd H19 r2 (.tup ([V.str "answer"] ++ [.int d1, .int cd, .int bt, .int nm, .ref sa])) r2 = some (.tup ([V.str "answer"] ++ [.int d1, .int cd, .int bt, .int nm, .ref sa])) := upd_same
      have Z := Z.trans Y
      have gb := Y.tup gb not_nil
      have gr0 := Y.tup gr0 not_nil
      have gr1 := Y.tup gr1 not_nil
      have gp2 := Y.tup gp2 not_nil
      generalize upd H19 r2 (.tup ([V.str "answer"] ++ [.int d1, .int cd, .int bt, .int nm, .ref sa])) = H20 at Z gr2 gb gr0 gr1 gp2
      clear Y
      refine ⟨by show 1 ≤ sizeLine; decide, fun p3 np3 => ?_⟩
      have Y : Fr [] H20 (upd H20 p3 (.tup [V.str "probe"])) := Fr.new0 np3 _
      have gp3 : upd H20 p3 (.tup [V.str "probe"]) p3 = some (.tup [V.str "probe"]) := upd_same
      have Z := Z.trans Y
      have gb := Y.tup gb not_nil
      have gr0 := Y.tup gr0 not_nil
      have gr1 := Y.tup gr1 not_nil
      have gr2 := Y.tup gr2 not_nil
      generalize upd H20 p3 (.tup [V.str "probe"]) = H21 at Z gp3 gb gr0 gr1 gr2
      clear Y
      refine ⟨_, rfl, p3, ba, _, _, rfl, rfl, SqT.of gp3, SqT.of gb, (fun z => nomatch z), by show 1 + 5 ≤ sizeLine; decide, (fun z => nomatch z), fun _ r3 nr3 => ?_⟩
      have Y : Fr [] H21 (upd H21 r3 (.tup ([V.str "probe"] ++ [.int d1, .int cd, .int bt, .int nm, .ref sa]))) := Fr.new0 nr3 _
      have gr3 : upd H21 r3 (.tup ([V.str "probe"] ++ [.int d1, .int cd, .int bt, .int nm, .ref sa])) r3 = some (.tup ([V.str "probe"] ++ [.int d1, .int cd, .int bt, .int nm, .ref sa])) := upd_same
      have Z := Z.trans Y
      have gb := Y.tup gb not_nil
      have gr0 := Y.tup gr0 not_nil
      have gr1 := Y.tup gr1 not_nil
      have gr2 := Y.tup gr2 not_nil
      have gp3 := Y.tup gp3 not_nil
      generalize upd H21 r3 (.tup ([V.str "probe"] ++ [.int d1, .int cd, .int bt, .int nm, .ref sa])) = H22 at Z gr3 gb gr0 gr1 gr2 gp3
      clear Y
      refine ⟨_, rfl, by show 1 ≤ sizeLine; decide, fun x3 nx3 => ?_⟩
      have Y : Fr [] H22 (upd H22 x3 (.tup [V.int ab])) := Fr.new0 nx3 _
      have gx3 : upd H22 x3 (.tup [V.int ab]) x3 = some (.tup [V.int ab]) := upd_same
      have Z := Z.trans Y
      have gb := Y.tup gb not_nil
      have gr0 := Y.tup gr0 not_nil
      have gr1 := Y.tup gr1 not_nil
      have gr2 := Y.tup gr2 not_nil
      have gp3 := Y.tup gp3 not_nil
      have gr3 := Y.tup gr3 not_nil
      generalize upd H22 x3 (.tup [V.int ab]) = H23 at Z gx3 gb gr0 gr1 gr2 gp3 gr3
      clear Y
      refine ⟨r3, x3, _, _, rfl, rfl, SqT.of gr3, SqT.of gx3, (fun z => nomatch z), by show 6 + 1 ≤ sizeLine; decide, (fun z => nomatch z), fun _ w3 nw3 => ?_⟩
      have Y : Fr [] H23 (upd H23 w3 (.tup (([V.str "probe"] ++ [.int d1, .int cd, .int bt, .int nm, .ref sa]) ++ [V.int ab]))) := Fr.new0 nw3 _
      have gw3 : upd H23 w3 (.tup (([V.str "probe"] ++ [.int d1, .int cd, .int bt, .int nm, .ref sa]) ++ [V.int ab])) w3 = some (.tup (([V.str "probe"] ++ [.int d1, .int cd, .int bt, .int nm, .ref sa]) ++ [V.int ab])) := upd_same
      have Z := Z.trans Y
      have gb := Y.tup gb not_nil
      have gr0 := Y.tup gr0 not_nil
      have gr1 := Y.tup gr1 not_nil
      have gr2 := Y.tup gr2 not_nil
      have gp3 := Y.tup gp3 not_nil
      have gr3 := Y.tup gr3 not_nil
      have gx3 := Y.tup gx3 not_nil
      generalize upd H23 w3 (.tup (([V.str "probe"] ++ [.int d1, .int cd, .int bt, .int nm, .ref sa]) ++ [V.int ab])) = H24 at Z gw3 gb gr0 gr1 gr2 gp3 gr3 gx3
      clear Y
      refine ⟨by show 1 ≤ sizeLine; decide, fun p4 np4 => ?_⟩
      have Y : Fr [] H24 (upd H24 p4 (.tup [V.str "probed"])) := Fr.new0 np4 _
      have gp4 : upd H24 p4 (.tup [V.str "probed"]) p4 = some (.tup [V.str "probed"]) := upd_same
      have Z := Z.trans Y
      have gb := Y.tup gb not_nil
      have gr0 := Y.tup gr0 not_nil
      have gr1 := Y.tup gr1 not_nil
      have gr2 := Y.tup gr2 not_nil
      have gw3 := Y.tup gw3 not_nil
      generalize upd H24 p4 (.tup [V.str "probed"]) = H25 at Z gp4 gb gr0 gr1 gr2 gw3
      clear Y
      refine ⟨_, rfl, p4, ba, _, _, rfl, rfl, SqT.of gp4, SqT.of gb, (fun z => nomatch z), by show 1 + 5 ≤ sizeLine; decide, (fun z => nomatch z), fun _ r4 nr4 => ?_⟩
      have Y : Fr [] H25 (upd H25 r4 (.tup ([V.str "probed"] ++ [.int d1, .int cd, .int bt, .int nm, .ref sa]))) := Fr.new0 nr4 _
      have gr4 : upd H25 r4 (.tup ([V.str "probed"] ++ [.int d1, .int cd, .int bt, .int nm, .ref sa])) r4 = some (.tup ([V.str "probed"] ++ [.int d1, .int cd, .int bt, .int nm, .ref sa])) := upd_same
      have Z := Z.trans Y
      have gb := Y.tup gb not_nil
      have gr0 := Y.tup gr0 not_nil
      have gr1 := Y.tup gr1 not_nil
      have gr2 := Y.tup gr2 not_nil
      have gw3 := Y.tup gw3 not_nil
      have gp4 := Y.tup gp4 not_nil
      generalize upd H25 r4 (.tup ([V.str "probed"] ++ [.int d1, .int cd, .int bt, .int nm, .ref sa])) = H26 at Z gr4 gb gr0 gr1 gr2 gw3 gp4
      clear Y
      refine ⟨_, rfl, _, rfl, by show 2 ≤ sizeLine; decide, fun x4 nx4 => ?_⟩
      have Y : Fr [] H26 (upd H26 x4 (.tup [V.int ab, .bl (decide (V.int d5 = V.int 1))])) := Fr.new0 nx4 _
      have gx4 : upd H26 x4 (.tup [V.int ab, .bl (decide (V.int d5 = V.int 1))]) x4 = some (.tup [V.int ab, .bl (decide (V.int d5 = V.int 1))]) := upd_same
      have Z := Z.trans Y
      have gb := Y.tup gb not_nil
      have gr0 := Y.tup gr0 not_nil
      have gr1 := Y.tup gr1 not_nil
      have gr2 := Y.tup gr2 not_nil
      have gw3 := Y.tup gw3 not_nil
      have gp4 := Y.tup gp4 not_nil
      have gr4 := Y.tup gr4 not_nil
      generalize upd H26 x4 (.tup [V.int ab, .bl (decide (V.int d5 = V.int 1))]) = H27 at Z gx4 gb gr0 gr1 gr2 gw3 gp4 gr4
      clear Y
      refine ⟨r4, x4, _, _, rfl, rfl, SqT.of gr4, SqT.of gx4, (fun z => nomatch z), by show 6 + 2 ≤ sizeLine; decide, (fun z => nomatch z), fun _ w4 nw4 => ?_⟩
      have Y : Fr [] H27 (upd H27 w4 (.tup (([V.str "probed"] ++ [.int d1, .int cd, .int bt, .int nm, .ref sa]) ++ [V.int ab, .bl (decide (V.int d5 = V.int 1))]))) := Fr.new0 nw4 _
      have gw4 : upd H27 w4 (.tup (([V.str "probed"] ++ [.int d1, .int cd, .int bt, .int nm, .ref sa]) ++ [V.int ab, .bl (decide (V.int d5 = V.int 1))])) w4 = some (.tup (([V.str "probed"] ++ [.int d1, .int cd, .int bt, .int nm, .ref sa]) ++ [V.int ab, .bl (decide (V.int d5 = V.int 1))])) := upd_same
      have Z := Z.trans Y
      have gb := Y.tup gb not_nil
      have gr0 := Y.tup gr0 not_nil
      have gr1 := Y.tup gr1 not_nil
      have gr2 := Y.tup gr2 not_nil
      have gw3 := Y.tup gw3 not_nil
      have gp4 := Y.tup gp4 not_nil
      have gr4 := Y.tup gr4 not_nil
      have gx4 := Y.tup gx4 not_nil
      generalize upd H27 w4 (.tup (([V.str "probed"] ++ [.int d1, .int cd, .int bt, .int nm, .ref sa]) ++ [V.int ab, .bl (decide (V.int d5 = V.int 1))])) = H28 at Z gw4 gb gr0 gr1 gr2 gw3 gp4 gr4 gx4
      clear Y
      refine ⟨by show 1 ≤ sizeLine; decide, fun p5 np5 => ?_⟩
      have Y : Fr [] H28 (upd H28 p5 (.tup [V.str "sums"])) := Fr.new0 np5 _
      have gp5 : upd H28 p5 (.tup [V.str "sums"]) p5 = some (.tup [V.str "sums"]) := upd_same
      have Z := Z.trans Y
      have gb := Y.tup gb not_nil
      have gr0 := Y.tup gr0 not_nil
      have gr1 := Y.tup gr1 not_nil
      have gr2 := Y.tup gr2 not_nil
      have gw3 := Y.tup gw3 not_nil
      have gw4 := Y.tup gw4 not_nil
      generalize upd H28 p5 (.tup [V.str "sums"]) = H29 at Z gp5 gb gr0 gr1 gr2 gw3 gw4
      clear Y
      refine ⟨_, rfl, p5, ba, _, _, rfl, rfl, SqT.of gp5, SqT.of gb, (fun z => nomatch z), by show 1 + 5 ≤ sizeLine; decide, (fun z => nomatch z), fun _ r5 nr5 => ?_⟩
      have Y : Fr [] H29 (upd H29 r5 (.tup ([V.str "sums"] ++ [.int d1, .int cd, .int bt, .int nm, .ref sa]))) := Fr.new0 nr5 _
      have gr5 : upd H29 r5 (.tup ([V.str "sums"] ++ [.int d1, .int cd, .int bt, .int nm, .ref sa])) r5 = some (.tup ([V.str "sums"] ++ [.int d1, .int cd, .int bt, .int nm, .ref sa])) := upd_same
      have Z := Z.trans Y
      have gb := Y.tup gb not_nil
      have gr0 := Y.tup gr0 not_nil
      have gr1 := Y.tup gr1 not_nil
      have gr2 := Y.tup gr2 not_nil
      have gw3 := Y.tup gw3 not_nil
      have gw4 := Y.tup gw4 not_nil
      have gp5 := Y.tup gp5 not_nil
      generalize upd H29 r5 (.tup ([V.str "sums"] ++ [.int d1, .int cd, .int bt, .int nm, .ref sa])) = H30 at Z gr5 gb gr0 gr1 gr2 gw3 gw4 gp5
      clear Y
      refine ⟨_, rfl, _, rfl, _, rfl, by show 3 ≤ sizeLine; decide, fun x5 nx5 => ?_⟩
      have Y : Fr [] H30 (upd H30 x5 (.tup [V.ref su, .int po, .bl (decide (V.int d6 = V.int 1))])) := Fr.new0 nx5 _
      have gx5 : upd H30 x5 (.tup [V.ref su, .int po, .bl (decide (V.int d6 = V.int 1))]) x5 = some (.tup [V.ref su, .int po, .bl (decide (V.int d6 = V.int 1))]) := upd_same
      have Z := Z.trans Y
      have gb := Y.tup gb not_nil
      have gr0 := Y.tup gr0 not_nil
      have gr1 := Y.tup gr1 not_nil
      have gr2 := Y.tup gr2 not_nil
      have gw3 := Y.tup gw3 not_nil
      have gw4 := Y.tup gw4 not_nil
      have gp5 := Y.tup gp5 not_nil
      have gr5 := Y.tup gr5 not_nil
      generalize upd H30 x5 (.tup [V.ref su, .int po, .bl (decide (V.int d6 = V.int 1))]) = H31 at Z gx5 gb gr0 gr1 gr2 gw3 gw4 gp5 gr5
      clear Y
      refine ⟨r5, x5, _, _, rfl, rfl, SqT.of gr5, SqT.of gx5, (fun z => nomatch z), by show 6 + 3 ≤ sizeLine; decide, (fun z => nomatch z), fun _ w5 nw5 => ?_⟩
      have Y : Fr [] H31 (upd H31 w5 (.tup (([V.str "sums"] ++ [.int d1, .int cd, .int bt, .int nm, .ref sa]) ++ [V.ref su, .int po, .bl (decide (V.int d6 = V.int 1))]))) := Fr.new0 nw5 _
      have gw5 : upd H31 w5 (.tup (([V.str "sums"] ++ [.int d1, .int cd, .int bt, .int nm, .ref sa]) ++ [V.ref su, .int po, .bl (decide (V.int d6 = V.int 1))])) w5 = some (.tup (([V.str "sums"] ++ [.int d1, .int cd, .int bt, .int nm, .ref sa]) ++ [V.ref su, .int po, .bl (decide (V.int d6 = V.int 1))])) := upd_same
      have Z := Z.trans Y
      have gb := Y.tup gb not_nil
      have gr0 := Y.tup gr0 not_nil
      have gr1 := Y.tup gr1 not_nil
      have gr2 := Y.tup gr2 not_nil
      have gw3 := Y.tup gw3 not_nil
      have gw4 := Y.tup gw4 not_nil
      have gp5 := Y.tup gp5 not_nil
      have gr5 := Y.tup gr5 not_nil
      have gx5 := Y.tup gx5 not_nil
      generalize upd H31 w5 (.tup (([V.str "sums"] ++ [.int d1, .int cd, .int bt, .int nm, .ref sa]) ++ [V.ref su, .int po, .bl (decide (V.int d6 = V.int 1))])) = H32 at Z gw5 gb gr0 gr1 gr2 gw3 gw4 gp5 gr5 gx5
      clear Y
      refine ⟨by show 6 ≤ sizeLine; decide, fun l nl => ?_⟩
      have Z0 := Z
      have Z := Z.new nl (.lst [V.ref r0, V.ref r1, V.ref r2, V.ref w3, V.ref w4, V.ref w5])
      have gr0 := upd_new (o := .lst [V.ref r0, V.ref r1, V.ref r2, V.ref w3, V.ref w4, V.ref w5]) nl gr0
      have gr1 := upd_new (o := .lst [V.ref r0, V.ref r1, V.ref r2, V.ref w3, V.ref w4, V.ref w5]) nl gr1
      have gr2 := upd_new (o := .lst [V.ref r0, V.ref r1, V.ref r2, V.ref w3, V.ref w4, V.ref w5]) nl gr2
      have gw3 := upd_new (o := .lst [V.ref r0, V.ref r1, V.ref r2, V.ref w3, V.ref w4, V.ref w5]) nl gw3
      have gw4 := upd_new (o := .lst [V.ref r0, V.ref r1, V.ref r2, V.ref w3, V.ref w4, V.ref w5]) nl gw4
      have gw5 := upd_new (o := .lst [V.ref r0, V.ref r1, V.ref r2, V.ref w3, V.ref w4, V.ref w5]) nl gw5
      have XZ := XX.tail Z (fun a m => nomatch m)
      obtain ⟨R, eR⟩ : ∃ R : Row, R = ⟨0, d1, cd, bt, nm, say, ab, decide (V.int d5 = V.int 1), sums, po, decide (V.int d6 = V.int 1)⟩ := ⟨_, rfl⟩
      have hs := Z.tup hs13 not_nil
      have hu := Z.tup hu13 not_nil
      have ps : Paired (TrAt (upd H32 l (.lst [V.ref r0, V.ref r1, V.ref r2, V.ref w3, V.ref w4, V.ref w5])) 2) ws R.say := by rw [eR]; exact pimp ps13 fun a s h => h.fr0 Z
      have pu : Paired (TrAt (upd H32 l (.lst [V.ref r0, V.ref r1, V.ref r2, V.ref w3, V.ref w4, V.ref w5])) 2) us R.sums := by rw [eR]; exact pimp pu13 fun a s h => h.fr0 Z
      refine k l sa su (csF r0 r1 r2 w3 w4 w5) ws us R _ upd_same (six ?_ ?_ ?_ ?_ ?_ ?_) ?_ ?_ ?_ (B13.fr0 Z) ?_ XZ
      · exact ⟨by rw [eR]; exact gr0, hs, ps, hu, pu⟩
      · exact ⟨by rw [eR]; exact gr1, hs, ps, hu, pu⟩
      · exact ⟨by rw [eR]; exact gr2, hs, ps, hu, pu⟩
      · exact ⟨by rw [eR]; exact gw3, hs, ps, hu, pu⟩
      · exact ⟨by rw [eR]; exact gw4, hs, ps, hu, pu⟩
      · exact ⟨by rw [eR]; exact gw5, hs, ps, hu, pu⟩
      · rw [eR]; exact ⟨z1, z2, z3, z4, z5, z6, Nat.le_trans ll.1 (by decide), Nat.le_trans ll.2 (by decide)⟩
      · rw [eR]; exact ll.1
      · rw [eR]; exact ll.2
      · exact XX.live l (Z0.live l (.of nl))
end
end K04

set_option Elab.async false
set_option maxRecDepth 100000
set_option maxHeartbeats 4000000
set_option exponentiation.threshold 4096
set_option linter.unusedVariables false
/-! what a letter tells, held against its row -/
namespace K04
open PySem PySem.Spec PyProof.Rows L2 C8 LamX UF
structure At9 (K : PySem.W.Frag) (i : Nat) (C : Addr) : Prop where
  a4 : At4 K C
  kd : SupO.ConS K C "KIND" (kN i)
  ab : i = 3 ∨ i = 4 → NoAttr K C "about"
  re : i = 4 → NoAttr K C "reached"
  su : i = 5 → NoAttr K C "sums"
  po : i = 5 → NoAttr K C "position"
  mo : i = 5 → NoAttr K C "more"
def spFields (K : PySem.W.Frag) : Sp := fun vs H Q _ => ∃ (i : Nat) (C o q q2 a sa su : Addr) (ws us rs ru : List V) (R : Row), i < 6 ∧ vs = [.ref o, .ref a] ∧ LtA i C H o q q2 ws us R ∧ RowAt i H a sa su rs ru R ∧ RowOk R ∧ At9 K i C ∧ ∀ H', Fr [] H H' → Q (.bl true) H'
section
variable {P : Program} {w : World} {K : PySem.W.Frag} {mg : Str → Option Value} {base : Heap} {C0 C1 C2 C3 C4 C5 : Addr}
theorem c_law_fields (T : Bl mg) (c_law_same : Cal P w K mg base 4 "_law_same" (spSame 4) []) (d : D0 K mg "_law_fields" s_law_fields ["message", "row"]) : Cal P w K mg base 5 "_law_fields" (spFields K) [] := by
  refine cal d sc_law_fields (fun vs H Q E h => ?_) (fun cdv A outer f s0 H vs Q E hr h => ?_)
  · obtain ⟨i, C, o, q, q2, a, sa, su, ws, us, rs, ru, R, _, rfl, _⟩ := h
    rfl
  · obtain ⟨i, C, o, q, q2, a, sa, su, ws, us, rs, ru, R, i6, rfl, L, r, ok, A9, k⟩ := h
    obtain ⟨A4, ⟨u, ku⟩, n1, n2, n3, n4, n5⟩ := A9
    refine ⟨_, (pss_cons (ps_set (i := 2) sc_law_fields.nd rfl (Or.inl rfl) (pe_tup (pa_cons (pe_con (pv 0) rfl) (pa_cons (pe_fld (pv 0) rfl) (pa_cons (pe_fld (pv 0) rfl) (pa_cons (pe_fld (pv 0) rfl) (pa_cons (pe_fld (pv 0) rfl) pa_nil)))))))
      (pss_cons (ps_if (pt_not (pt_val (pe_c c_law_same hr (by decide) rfl (pa_cons (pv 2) (pa_cons (pe_slice sl_tup (pv 1) po_none (po_some pe_int)) pa_nil))))) (pss_one (ps_ret pe_bl)) pss_nil)
      (pss_cons (ps_if (pt_not (pt_val (pe_c c_law_same hr (by decide) rfl (pa_cons (pe_fld (pv 0) rfl) (pa_cons (pe_callTy call_list_of (by rfl) T.list (by decide +kernel) (pa_cons (pe_ix ix_tup (pv 1) pe_int (fun _ _ => rfl)) pa_nil)) pa_nil))))) (pss_one (ps_ret pe_bl)) pss_nil)
      (pss_cons (ps_if (pt_cmpR op_eq (pe_ix ix_tup (pv 1) pe_int (fun _ _ => rfl)) pe_str (nomark _)) (pss_one (ps_ret (pe_c c_law_same hr (by decide) rfl (pa_cons (pe_fld (pv 0) rfl) (pa_cons (pe_ix ix_tup (pv 1) pe_int (fun _ _ => rfl)) pa_nil))))) pss_nil)
      (pss_cons (ps_if (pt_cmpR op_eq (pe_ix ix_tup (pv 1) pe_int (fun _ _ => rfl)) pe_str (nomark _)) (pss_one (ps_ret (pe_c c_law_same hr (by decide) rfl (pa_cons (pe_tup (pa_cons (pe_fld (pv 0) rfl) (pa_cons (pe_fld (pv 0) rfl) pa_nil))) (pa_cons (pe_slice sl_tup (pv 1) (po_some pe_int) po_none) pa_nil))))) pss_nil)
      (pss_cons (ps_if (pt_cmpR op_eq (pe_ix ix_tup (pv 1) pe_int (fun _ _ => rfl)) pe_str (nomark _)) (pss_cons (ps_if (pt_not (pt_val (pe_c c_law_same hr (by decide) rfl (pa_cons (pe_fld (pv 0) rfl) (pa_cons (pe_callTy call_list_of (by rfl) T.list (by decide +kernel) (pa_cons (pe_ix ix_tup (pv 1) pe_int (fun _ _ => rfl)) pa_nil)) pa_nil))))) (pss_one (ps_ret pe_bl)) pss_nil)
      (pss_one (ps_ret (pe_c c_law_same hr (by decide) rfl (pa_cons (pe_tup (pa_cons (pe_fld (pv 0) rfl) (pa_cons (pe_fld (pv 0) rfl) pa_nil))) (pa_cons (pe_slice sl_tup (pv 1) (po_some pe_int) po_none) pa_nil)))))) pss_nil)
      (pss_one (ps_ret pe_bl)))))))), ?_⟩
    obtain ⟨dx, ho⟩ := L.ho
    refine ⟨_, rfl, o, C, dx, _, _, _, rfl, ho, A4.cl, ku, fx_kind i i6, _, rfl, o, C, dx, _, _, rfl, ho, A4.cl, A4.s, fx_sender i i6, _, rfl, o, C, dx, _, _, rfl, ho, A4.cl, A4.r, fx_receiver i i6, _, rfl, o, C, dx, _, _, rfl, ho, A4.cl, A4.b, fx_beat i i6, _, rfl, o, C, dx, _, _, rfl, ho, A4.cl, A4.n, fx_number i i6, by show 5 ≤ sizeLine; decide, fun vt nvt => ?_⟩
    have X1 : Fr [] H (upd H vt (.tup [.str (kN i), .int R.s, .int R.r, .int R.b, .int R.n])) := Fr.new0 nvt _
    have hv : upd H vt (.tup [.str (kN i), .int R.s, .int R.r, .int R.b, .int R.n]) vt = some (.tup [.str (kN i), .int R.s, .int R.r, .int R.b, .int R.n]) := upd_same
    generalize upd H vt (.tup [.str (kN i), .int R.s, .int R.r, .int R.b, .int R.n]) = H1 at X1 hv
    have r1 := r.fr0 X1
    refine ⟨_, rfl, _, rfl, ?_⟩
    have : i = 0 ∨ i = 1 ∨ i = 2 ∨ i = 3 ∨ i = 4 ∨ i = 5 := by omega
    clear i6
    rcases this with rfl | rfl | rfl | rfl | rfl | rfl
    · refine ⟨_, rfl, _, _, rfl, SqT.of (K := K) r1.ha, (fun z => absurd z.2 (show ¬ HT.sIx 6 6 (some 5) = 6 by decide)), fun cp ncp => ?_⟩
      have X2 := X1.new ncp (.tup [.str (kN 0), .int R.s, .int R.r, .int R.b, .int R.n])
      refine .inl ⟨_, _, .tup [.str (kN 0), .int R.s, .int R.r, .int R.b, .int R.n], rfl, ⟨vt, _, rfl, upd_new ncp hv, (show 5 ≤ 1000 by decide), .cons rfl (.cons rfl (.cons rfl (.cons rfl (.cons rfl .nil))))⟩, ⟨cp, _, rfl, upd_same, (show 5 ≤ 1000 by decide), .cons rfl (.cons rfl (.cons rfl (.cons rfl (.cons rfl .nil))))⟩, _, rfl, iteF ?_⟩
      have r2 := r.fr0 X2
      have q := SqT.of (K := K) r2.ha
      refine ⟨_, rfl, o, C, dx, _, _, rfl, X2.ins ho not_nil, A4.cl, A4.y, fx_sayings 0 (by decide), _, rfl, _, _, _, _, rfl, rfl, q, rfl, sa, _, rfl, .inr (SqT.of r2.hs), fun nl nnl => ?_⟩
      have X3 := X2.new nnl (.lst rs)
      refine .inr ⟨_, nl, _, _, R.say, 3, rfl, X3.lst L.hq not_nil, upd_same, Nat.le_trans ok.ls (by decide), pimp L.ps fun a s h => (h.fr0 X3).le (by decide), pimp r.ps fun a s h => (h.fr0 X3).le (by decide), rfl, _, rfl, iteF ?_⟩
      have r3 := r.fr0 X3
      have q := SqT.of (K := K) r3.ha
      refine ⟨_, rfl, _, _, _, _, rfl, rfl, q, rfl, rfl, _, rfl, strF (by decide +kernel) ?_⟩
      refine ⟨_, rfl, _, _, _, _, rfl, rfl, q, rfl, rfl, _, rfl, strF (by decide +kernel) ?_⟩
      refine ⟨_, rfl, _, _, _, _, rfl, rfl, q, rfl, rfl, _, rfl, strF (by decide +kernel) ?_⟩
      exact k _ X3
    · refine ⟨_, rfl, _, _, rfl, SqT.of (K := K) r1.ha, (fun z => absurd z.2 (show ¬ HT.sIx 6 6 (some 5) = 6 by decide)), fun cp ncp => ?_⟩
      have X2 := X1.new ncp (.tup [.str (kN 1), .int R.s, .int R.r, .int R.b, .int R.n])
      refine .inl ⟨_, _, .tup [.str (kN 1), .int R.s, .int R.r, .int R.b, .int R.n], rfl, ⟨vt, _, rfl, upd_new ncp hv, (show 5 ≤ 1000 by decide), .cons rfl (.cons rfl (.cons rfl (.cons rfl (.cons rfl .nil))))⟩, ⟨cp, _, rfl, upd_same, (show 5 ≤ 1000 by decide), .cons rfl (.cons rfl (.cons rfl (.cons rfl (.cons rfl .nil))))⟩, _, rfl, iteF ?_⟩
      have r2 := r.fr0 X2
      have q := SqT.of (K := K) r2.ha
      refine ⟨_, rfl, o, C, dx, _, _, rfl, X2.ins ho not_nil, A4.cl, A4.y, fx_sayings 1 (by decide), _, rfl, _, _, _, _, rfl, rfl, q, rfl, sa, _, rfl, .inr (SqT.of r2.hs), fun nl nnl => ?_⟩
      have X3 := X2.new nnl (.lst rs)
      refine .inr ⟨_, nl, _, _, R.say, 3, rfl, X3.lst L.hq not_nil, upd_same, Nat.le_trans ok.ls (by decide), pimp L.ps fun a s h => (h.fr0 X3).le (by decide), pimp r.ps fun a s h => (h.fr0 X3).le (by decide), rfl, _, rfl, iteF ?_⟩
      have r3 := r.fr0 X3
      have q := SqT.of (K := K) r3.ha
      refine ⟨_, rfl, _, _, _, _, rfl, rfl, q, rfl, rfl, _, rfl, strF (by decide +kernel) ?_⟩
      refine ⟨_, rfl, _, _, _, _, rfl, rfl, q, rfl, rfl, _, rfl, strF (by decide +kernel) ?_⟩
      refine ⟨_, rfl, _, _, _, _, rfl, rfl, q, rfl, rfl, _, rfl, strF (by decide +kernel) ?_⟩
      exact k _ X3
    · refine ⟨_, rfl, _, _, rfl, SqT.of (K := K) r1.ha, (fun z => absurd z.2 (show ¬ HT.sIx 6 6 (some 5) = 6 by decide)), fun cp ncp => ?_⟩
      have X2 := X1.new ncp (.tup [.str (kN 2), .int R.s, .int R.r, .int R.b, .int R.n])
      refine .inl ⟨_, _, .tup [.str (kN 2), .int R.s, .int R.r, .int R.b, .int R.n], rfl, ⟨vt, _, rfl, upd_new ncp hv, (show 5 ≤ 1000 by decide), .cons rfl (.cons rfl (.cons rfl (.cons rfl (.cons rfl .nil))))⟩, ⟨cp, _, rfl, upd_same, (show 5 ≤ 1000 by decide), .cons rfl (.cons rfl (.cons rfl (.cons rfl (.cons rfl .nil))))⟩, _, rfl, iteF ?_⟩
      have r2 := r.fr0 X2
      have q := SqT.of (K := K) r2.ha
      refine ⟨_, rfl, o, C, dx, _, _, rfl, X2.ins ho not_nil, A4.cl, A4.y, fx_sayings 2 (by decide), _, rfl, _, _, _, _, rfl, rfl, q, rfl, sa, _, rfl, .inr (SqT.of r2.hs), fun nl nnl => ?_⟩
      have X3 := X2.new nnl (.lst rs)
      refine .inr ⟨_, nl, _, _, R.say, 3, rfl, X3.lst L.hq not_nil, upd_same, Nat.le_trans ok.ls (by decide), pimp L.ps fun a s h => (h.fr0 X3).le (by decide), pimp r.ps fun a s h => (h.fr0 X3).le (by decide), rfl, _, rfl, iteF ?_⟩
      have r3 := r.fr0 X3
      have q := SqT.of (K := K) r3.ha
      refine ⟨_, rfl, _, _, _, _, rfl, rfl, q, rfl, rfl, _, rfl, strF (by decide +kernel) ?_⟩
      refine ⟨_, rfl, _, _, _, _, rfl, rfl, q, rfl, rfl, _, rfl, strF (by decide +kernel) ?_⟩
      refine ⟨_, rfl, _, _, _, _, rfl, rfl, q, rfl, rfl, _, rfl, strF (by decide +kernel) ?_⟩
      exact k _ X3
    · refine ⟨_, rfl, _, _, rfl, SqT.of (K := K) r1.ha, (fun z => absurd z.2 (show ¬ HT.sIx 7 7 (some 5) = 7 by decide)), fun cp ncp => ?_⟩
      have X2 := X1.new ncp (.tup [.str (kN 3), .int R.s, .int R.r, .int R.b, .int R.n])
      refine .inl ⟨_, _, .tup [.str (kN 3), .int R.s, .int R.r, .int R.b, .int R.n], rfl, ⟨vt, _, rfl, upd_new ncp hv, (show 5 ≤ 1000 by decide), .cons rfl (.cons rfl (.cons rfl (.cons rfl (.cons rfl .nil))))⟩, ⟨cp, _, rfl, upd_same, (show 5 ≤ 1000 by decide), .cons rfl (.cons rfl (.cons rfl (.cons rfl (.cons rfl .nil))))⟩, _, rfl, iteF ?_⟩
      have r2 := r.fr0 X2
      have q := SqT.of (K := K) r2.ha
      refine ⟨_, rfl, o, C, dx, _, _, rfl, X2.ins ho not_nil, A4.cl, A4.y, fx_sayings 3 (by decide), _, rfl, _, _, _, _, rfl, rfl, q, rfl, sa, _, rfl, .inr (SqT.of r2.hs), fun nl nnl => ?_⟩
      have X3 := X2.new nnl (.lst rs)
      refine .inr ⟨_, nl, _, _, R.say, 3, rfl, X3.lst L.hq not_nil, upd_same, Nat.le_trans ok.ls (by decide), pimp L.ps fun a s h => (h.fr0 X3).le (by decide), pimp r.ps fun a s h => (h.fr0 X3).le (by decide), rfl, _, rfl, iteF ?_⟩
      have r3 := r.fr0 X3
      have q := SqT.of (K := K) r3.ha
      refine ⟨_, rfl, _, _, _, _, rfl, rfl, q, rfl, rfl, _, rfl, strT ?_⟩
      refine ⟨_, rfl, o, C, dx, _, _, rfl, X3.ins ho not_nil, A4.cl, n1 (.inl rfl), f3_about, _, rfl, _, _, _, _, rfl, rfl, q, rfl, ?_⟩
      exact .inl ⟨_, _, .int R.ab, rfl, rfl, rfl, k _ X3⟩
    · refine ⟨_, rfl, _, _, rfl, SqT.of (K := K) r1.ha, (fun z => absurd z.2 (show ¬ HT.sIx 8 8 (some 5) = 8 by decide)), fun cp ncp => ?_⟩
      have X2 := X1.new ncp (.tup [.str (kN 4), .int R.s, .int R.r, .int R.b, .int R.n])
      refine .inl ⟨_, _, .tup [.str (kN 4), .int R.s, .int R.r, .int R.b, .int R.n], rfl, ⟨vt, _, rfl, upd_new ncp hv, (show 5 ≤ 1000 by decide), .cons rfl (.cons rfl (.cons rfl (.cons rfl (.cons rfl .nil))))⟩, ⟨cp, _, rfl, upd_same, (show 5 ≤ 1000 by decide), .cons rfl (.cons rfl (.cons rfl (.cons rfl (.cons rfl .nil))))⟩, _, rfl, iteF ?_⟩
      have r2 := r.fr0 X2
      have q := SqT.of (K := K) r2.ha
      refine ⟨_, rfl, o, C, dx, _, _, rfl, X2.ins ho not_nil, A4.cl, A4.y, fx_sayings 4 (by decide), _, rfl, _, _, _, _, rfl, rfl, q, rfl, sa, _, rfl, .inr (SqT.of r2.hs), fun nl nnl => ?_⟩
      have X3 := X2.new nnl (.lst rs)
      refine .inr ⟨_, nl, _, _, R.say, 3, rfl, X3.lst L.hq not_nil, upd_same, Nat.le_trans ok.ls (by decide), pimp L.ps fun a s h => (h.fr0 X3).le (by decide), pimp r.ps fun a s h => (h.fr0 X3).le (by decide), rfl, _, rfl, iteF ?_⟩
      have r3 := r.fr0 X3
      have q := SqT.of (K := K) r3.ha
      refine ⟨_, rfl, _, _, _, _, rfl, rfl, q, rfl, rfl, _, rfl, strF (by decide +kernel) ?_⟩
      refine ⟨_, rfl, _, _, _, _, rfl, rfl, q, rfl, rfl, _, rfl, strT ?_⟩
      have X4 := X3
      refine ⟨_, rfl, o, C, dx, _, _, rfl, X4.ins ho not_nil, A4.cl, n1 (.inr rfl), f4_about, _, rfl, o, C, dx, _, _, rfl, X4.ins ho not_nil, A4.cl, n2 rfl, f4_reached, by show 2 ≤ sizeLine; decide, fun p np => ?_⟩
      have X5 := X4.new np (.tup [V.int R.ab, .bl R.re])
      have r5 := r.fr0 X5
      refine ⟨_, rfl, _, rfl, _, _, rfl, SqT.of (K := K) r5.ha, (fun z => absurd z.1 (show ¬ HT.sIx 8 0 (some 6) = 0 by decide)), fun p2 np2 => ?_⟩
      have X6 := X5.new np2 (.tup [V.int R.ab, .bl R.re])
      exact .inl ⟨_, _, .tup [.int R.ab, .bl R.re], rfl, ⟨p, _, rfl, upd_new np2 upd_same, (show 2 ≤ 1000 by decide), .cons rfl (.cons rfl .nil)⟩, ⟨p2, _, rfl, upd_same, (show 2 ≤ 1000 by decide), .cons rfl (.cons rfl .nil)⟩, k _ X6⟩
    · refine ⟨_, rfl, _, _, rfl, SqT.of (K := K) r1.ha, (fun z => absurd z.2 (show ¬ HT.sIx 9 9 (some 5) = 9 by decide)), fun cp ncp => ?_⟩
      have X2 := X1.new ncp (.tup [.str (kN 5), .int R.s, .int R.r, .int R.b, .int R.n])
      refine .inl ⟨_, _, .tup [.str (kN 5), .int R.s, .int R.r, .int R.b, .int R.n], rfl, ⟨vt, _, rfl, upd_new ncp hv, (show 5 ≤ 1000 by decide), .cons rfl (.cons rfl (.cons rfl (.cons rfl (.cons rfl .nil))))⟩, ⟨cp, _, rfl, upd_same, (show 5 ≤ 1000 by decide), .cons rfl (.cons rfl (.cons rfl (.cons rfl (.cons rfl .nil))))⟩, _, rfl, iteF ?_⟩
      have r2 := r.fr0 X2
      have q := SqT.of (K := K) r2.ha
      refine ⟨_, rfl, o, C, dx, _, _, rfl, X2.ins ho not_nil, A4.cl, A4.y, fx_sayings 5 (by decide), _, rfl, _, _, _, _, rfl, rfl, q, rfl, sa, _, rfl, .inr (SqT.of r2.hs), fun nl nnl => ?_⟩
      have X3 := X2.new nnl (.lst rs)
      refine .inr ⟨_, nl, _, _, R.say, 3, rfl, X3.lst L.hq not_nil, upd_same, Nat.le_trans ok.ls (by decide), pimp L.ps fun a s h => (h.fr0 X3).le (by decide), pimp r.ps fun a s h => (h.fr0 X3).le (by decide), rfl, _, rfl, iteF ?_⟩
      have r3 := r.fr0 X3
      have q := SqT.of (K := K) r3.ha
      refine ⟨_, rfl, _, _, _, _, rfl, rfl, q, rfl, rfl, _, rfl, strF (by decide +kernel) ?_⟩
      refine ⟨_, rfl, _, _, _, _, rfl, rfl, q, rfl, rfl, _, rfl, strF (by decide +kernel) ?_⟩
      refine ⟨_, rfl, _, _, _, _, rfl, rfl, q, rfl, rfl, _, rfl, strT ?_⟩
      refine ⟨_, rfl, o, C, dx, _, _, rfl, X3.ins ho not_nil, A4.cl, n3 rfl, f5_sums, _, rfl, _, _, _, _, rfl, rfl, q, rfl, su, _, rfl, .inr (SqT.of r3.hu), fun ml nml => ?_⟩
      have X4 := X3.new nml (.lst ru)
      refine .inr ⟨_, ml, _, _, R.sums, 3, rfl, X4.lst (L.hu rfl).1 not_nil, upd_same, Nat.le_trans ok.lu (by decide), pimp (L.hu rfl).2 fun a s h => (h.fr0 X4).le (by decide), pimp r.pu fun a s h => (h.fr0 X4).le (by decide), rfl, _, rfl, iteF ?_⟩
      refine ⟨_, rfl, o, C, dx, _, _, rfl, X4.ins ho not_nil, A4.cl, n4 rfl, f5_position, _, rfl, o, C, dx, _, _, rfl, X4.ins ho not_nil, A4.cl, n5 rfl, f5_more, by show 2 ≤ sizeLine; decide, fun p np => ?_⟩
      have X5 := X4.new np (.tup [V.int R.po, .bl R.mo])
      have r5 := r.fr0 X5
      refine ⟨_, rfl, _, rfl, _, _, rfl, SqT.of (K := K) r5.ha, (fun z => absurd z.1 (show ¬ HT.sIx 9 0 (some 7) = 0 by decide)), fun p2 np2 => ?_⟩
      have X6 := X5.new np2 (.tup [V.int R.po, .bl R.mo])
      exact .inl ⟨_, _, .tup [.int R.po, .bl R.mo], rfl, ⟨p, _, rfl, upd_new np2 upd_same, (show 2 ≤ 1000 by decide), .cons rfl (.cons rfl .nil)⟩, ⟨p2, _, rfl, upd_same, (show 2 ≤ 1000 by decide), .cons rfl (.cons rfl .nil)⟩, k _ X6⟩
end
end K04

set_option Elab.async false
set_option maxRecDepth 100000
set_option maxHeartbeats 4000000
set_option exponentiation.threshold 4096
set_option linter.unusedVariables false
/-! a letter fits its row -/
namespace K04
open PySem PySem.Spec PyProof.Rows L2 C8 LamX UF
def spFits (Cs : Nat → Addr) : Sp := fun vs H Q _ => ∃ (i : Nat) (o q q2 a sa su : Addr) (ws us rs ru : List V) (R : Row), i < 6 ∧ vs = [.ref o, .ref a] ∧ LtA i (Cs i) H o q q2 ws us R ∧ RowAt i H a sa su rs ru R ∧ RowOk R ∧ ∀ H', Fr [] H H' → Q (.bl true) H'
theorem pstr {H : Hp} : ∀ ws : List Str, Paired (TrAt H 3) (ws.map V.str) (ws.map Tr.str)
  | [] => .nil
  | s :: ws => .cons rfl (pstr ws)
section
variable {P : Program} {w : World} {K : PySem.W.Frag} {mg : Str → Option Value} {base : Heap} {Cs : Nat → Addr}
theorem c_law_fits (T : Bl mg) (c_law_same : Cal P w K mg base 4 "_law_same" (spSame 4) []) (c_law_fields : Cal P w K mg base 5 "_law_fields" (spFields K) []) (c_law_words : ∀ i, i < 6 → Cal P w K mg base 1 "_law_words" (spWords i) [])
    (p_size : ∀ i, i < 6 → Prp P w K mg base 1 (Cs i) "size" (spSize i (Cs i))) (m_head : ∀ i, i < 6 → Met P w K mg base 2 (Cs i) "head" (spHead i (Cs i)) []) (m_parts : ∀ i, i < 6 → Met P w K mg base 2 (Cs i) "parts" (spParts i (Cs i)) [])
    (A9 : ∀ i, i < 6 → At9 K i (Cs i)) (ty : ∀ i, i < 6 → ∀ {H : Hp} {a dx : Addr} {fs : List (Str × V)}, H a = some (.ins (Cs i) dx fs) → TyX K H (.ref a) (.ref (Cs i))) (isL : ∀ i, i < 6 → PySem.W.kitOne K (.ref (Cs i)) (.ref (Cs 0)) = some true) (g_Letter : GcP mg "Letter" (.ref (Cs 0)))
    (d : D0 K mg "_law_fits" s_law_fits ["message", "row"]) : Cal P w K mg base 6 "_law_fits" (spFits Cs) [] := by
  refine cal d sc_law_fits (fun vs H Q E h => ?_) (fun cdv A outer f s0 H vs Q E hr h => ?_)
  · obtain ⟨i, o, q, q2, a, sa, su, ws, us, rs, ru, R, _, rfl, _⟩ := h
    rfl
  · obtain ⟨i, o, q, q2, a, sa, su, ws, us, rs, ru, R, i6, rfl, L, r, ok, k⟩ := h
    refine ⟨_, (pss_cons (ps_if (PW.pt (pw_or (pt_not (pt_val (pe_callB call_isi (by rfl) T.isinstance (by decide +kernel) (pa_cons (pv 0) (pa_cons (pe_gc (by rfl) g_Letter) pa_nil))))) (pw_or1 (pt_not (pt_val (pe_c c_law_fields hr (by decide) rfl (pa_cons (pv 0) (pa_cons (pv 1) pa_nil)))))))) (pss_one (ps_ret pe_bl)) pss_nil)
      (pss_cons (ps_set (i := 2) sc_law_fits.nd rfl (Or.inl rfl) (pe_callB call_len_seq (by rfl) T.len (by decide +kernel) (pa_cons (pe_ix ix_tup (pv 1) pe_int (fun _ _ => rfl)) pa_nil)))
      (pss_cons (ps_if (pt_cmpR op_eq (pe_ix ix_tup (pv 1) pe_int (fun _ _ => rfl)) pe_str (nomark _)) (pss_one (ps_set (i := 2) sc_law_fits.nd rfl (Or.inl rfl) (pe_op op_add (pv 2) (pe_callB call_len_seq (by rfl) T.len (by decide +kernel) (pa_cons (pe_ix ix_tup (pv 1) pe_int (fun _ _ => rfl)) pa_nil))))) pss_nil)
      (pss_cons (ps_if (PW.pt (pw_or (pt_not (pt_val (pe_c c_law_same hr (by decide) rfl (pa_cons (SupO.pe_ex (R := fun i => i < 6) fun i hi => pe_pr (p_size i hi) hr (by decide) (pv 0)) (pa_cons (pv 2) pa_nil))))) (pw_or1 (pt_not (pt_val (pe_c c_law_same hr (by decide) rfl (pa_cons (SupO.pe_ex (R := fun i => i < 6) fun i hi => pe_mt0 (m_parts i hi) hr (by decide) (pv 0)) (pa_cons (pv 1) pa_nil)))))))) (pss_one (ps_ret pe_bl)) pss_nil)
      (pss_cons (ps_if (pt_cmpR op_eq (pe_ix ix_tup (pv 1) pe_int (fun _ _ => rfl)) pe_str (nomark _)) (pss_one (ps_ret pe_bl)) pss_nil)
      (pss_cons (ps_set (i := 3) sc_law_fits.nd rfl (Or.inl rfl) (SupO.pe_ex (R := fun i => i < 6) fun i hi => pe_mt0 (m_head i hi) hr (by decide) (pv 0)))
      (pss_cons (ps_if (pt_not (pt_val (pe_c c_law_same hr (by decide) rfl (pa_cons (pv 3) (pa_cons (SupO.pe_ex (R := fun i => i < 6) fun i hi => pe_c (c_law_words i hi) hr (by decide) rfl (pa_cons (pv 1) pa_nil)) pa_nil))))) (pss_one (ps_ret pe_bl)) pss_nil)
      (pss_cons (ps_expr (pe_bm PySem.F.plainAttrs_list PySem.F.slot_list_append PySem.F.type_list_append mt_append (pv 3) (pa_cons pe_str pa_nil)))
      (pss_cons (ps_asg pe_str (pg_sub (pv 3) pe_int set_list))
      (pss_one (ps_ret (pe_and (pe_c c_law_same hr (by decide) rfl (pa_cons (SupO.pe_ex (R := fun i => i < 6) fun i hi => pe_mt0 (m_head i hi) hr (by decide) (pv 0)) (pa_cons (SupO.pe_ex (R := fun i => i < 6) fun i hi => pe_c (c_law_words i hi) hr (by decide) rfl (pa_cons (pv 1) pa_nil)) pa_nil))) (pe_one (pe_c c_law_same hr (by decide) rfl (pa_cons (SupO.pe_ex (R := fun i => i < 6) fun i hi => pe_mt0 (m_parts i hi) hr (by decide) (pv 0)) (pa_cons (pv 1) pa_nil)))))))))))))))), ?_⟩
    obtain ⟨dx, ho⟩ := L.ho
    refine ⟨_, rfl, _, _, _, _, true, rfl, .own _, ty i i6 ho, isL i i6, _, rfl, iteF ?_⟩
    refine ⟨_, rfl, _, rfl, i, Cs i, o, q, q2, a, sa, su, ws, us, rs, ru, R, i6, rfl, L, r, ok, A9 i i6, fun H1 X1 => ⟨_, rfl, iteF ?_⟩⟩
    have ho1 := X1.ins ho not_nil
    have L1 := L.fr0 X1
    have r1 := r.fr0 X1
    have lr := r.ps.length
    have lu := r.pu.length
    have i6' := i6
    have : i = 0 ∨ i = 1 ∨ i = 2 ∨ i = 3 ∨ i = 4 ∨ i = 5 := by omega
    clear i6
    rcases this with rfl | rfl | rfl | rfl | rfl | rfl
    · have sq := SqT.of (K := K) r1.ha
      refine ⟨_, rfl, _, _, _, _, rfl, rfl, sq, rfl, _, _, rfl, .inr (SqT.of r1.hs), ?_⟩
      refine ⟨_, rfl, _, _, _, _, rfl, rfl, sq, rfl, rfl, _, rfl, strF (by decide +kernel) ?_⟩
      have e0 : V.int ((rs.length : Nat) : Int) = V.int ((sizeR 0 R : Nat) : Int) := by rw [lr]; rfl
      refine ⟨0, by decide, _, rfl, o, dx, _, rfl, ho1, o, q, q2, ws, us, R, rfl, L1, _, rfl, .inl ⟨_, _, .int ((sizeR 0 R : Nat) : Int), rfl, rfl, e0, _, rfl, iteF ?_⟩⟩
      refine ⟨0, by decide, _, rfl, o, dx, _, rfl, ho1, fx_parts 0 (by decide), o, q, q2, ws, us, R, rfl, L1, ok, fun v H2 X2 tv => ⟨_, rfl, .inl ⟨_, _, partsT 0 R, rfl, tv, RowAt.tree ok 0 (by decide) (r1.fr0 X2), _, rfl, iteF ?_⟩⟩⟩
      have XX := X1.trans X2
      have r2 := r.fr0 XX
      have sq := SqT.of (K := K) r2.ha
      refine ⟨_, rfl, _, _, _, _, rfl, rfl, sq, rfl, rfl, _, rfl, strT ?_⟩
      exact k _ XX
    · have sq := SqT.of (K := K) r1.ha
      refine ⟨_, rfl, _, _, _, _, rfl, rfl, sq, rfl, _, _, rfl, .inr (SqT.of r1.hs), ?_⟩
      refine ⟨_, rfl, _, _, _, _, rfl, rfl, sq, rfl, rfl, _, rfl, strF (by decide +kernel) ?_⟩
      have e0 : V.int ((rs.length : Nat) : Int) = V.int ((sizeR 1 R : Nat) : Int) := by rw [lr]; rfl
      refine ⟨1, by decide, _, rfl, o, dx, _, rfl, ho1, o, q, q2, ws, us, R, rfl, L1, _, rfl, .inl ⟨_, _, .int ((sizeR 1 R : Nat) : Int), rfl, rfl, e0, _, rfl, iteF ?_⟩⟩
      refine ⟨1, by decide, _, rfl, o, dx, _, rfl, ho1, fx_parts 1 (by decide), o, q, q2, ws, us, R, rfl, L1, ok, fun v H2 X2 tv => ⟨_, rfl, .inl ⟨_, _, partsT 1 R, rfl, tv, RowAt.tree ok 1 (by decide) (r1.fr0 X2), _, rfl, iteF ?_⟩⟩⟩
      have XX := X1.trans X2
      have r2 := r.fr0 XX
      have sq := SqT.of (K := K) r2.ha
      refine ⟨_, rfl, _, _, _, _, rfl, rfl, sq, rfl, rfl, _, rfl, strF (by decide +kernel) ?_⟩
      refine ⟨1, by decide, _, rfl, o, dx, _, rfl, XX.ins ho not_nil, fx_head 1 (by decide), o, q, q2, ws, us, R, rfl, L.fr0 XX, ok, fun wl H3 nwl X3 hwl => ?_⟩
      have nwl := XX.live wl nwl
      have X03 := XX.trans X3
      refine ⟨_, rfl, 1, by decide, _, rfl, a, sa, su, rs, ru, R, rfl, r.fr0 X03, ok, fun wl2 H4 nwl2 X4 hwl2 => .inr ⟨wl, wl2, _, _, (wordsF 1 R).map Tr.str, 3, rfl, X4.lst hwl not_nil, hwl2, (show 5 ≤ 1000 by decide), pstr _, pstr _, rfl, _, rfl, iteF ?_⟩⟩
      have X04 := X03.trans X4
      have hw4 := X4.lst hwl not_nil
      refine ⟨_, rfl, .inl ⟨rfl, _, SqL.of hw4⟩, wl, _, _, rfl, rfl, hw4, (show 5 < sizeLine by decide), ?_⟩
      have X05 := X04.late nwl (.lst hw4) (.lst ((wordsF 1 R).map V.str ++ [V.str "more"]))
      have hw5 : upd H4 wl (.lst ((wordsF 1 R).map V.str ++ [V.str "more"])) wl = some (.lst ((wordsF 1 R).map V.str ++ [V.str "more"])) := upd_same
      refine ⟨_, rfl, _, _, _, 0, rfl, rfl, hw5, rfl, ?_⟩
      have X06 := X05.late nwl (.lst hw5) (.lst (((wordsF 1 R).map V.str ++ [V.str "more"]).set 0 (V.str "")))
      refine ⟨1, by decide, _, rfl, o, dx, _, rfl, X06.ins ho not_nil, fx_head 1 (by decide), o, q, q2, ws, us, R, rfl, L.fr0 X06, ok, fun w3 H7 n7 X7 h7 => ?_⟩
      have X07 := X06.trans X7
      refine ⟨1, by decide, _, rfl, a, sa, su, rs, ru, R, rfl, r.fr0 X07, ok, fun w4 H8 n8 X8 h8 => .inr ⟨w3, w4, _, _, (wordsF 1 R).map Tr.str, 3, rfl, X8.lst h7 not_nil, h8, (show 5 ≤ 1000 by decide), pstr _, pstr _, rfl, _, rfl, iteT ?_⟩⟩
      have X08 := X07.trans X8
      refine ⟨1, by decide, _, rfl, o, dx, _, rfl, X08.ins ho not_nil, fx_parts 1 (by decide), o, q, q2, ws, us, R, rfl, L.fr0 X08, ok, fun v H9 X9 tv => ⟨_, rfl, .inl ⟨_, _, partsT 1 R, rfl, tv, RowAt.tree ok 1 (by decide) (r.fr0 (X08.trans X9)), k _ (X08.trans X9)⟩⟩⟩
    · have sq := SqT.of (K := K) r1.ha
      refine ⟨_, rfl, _, _, _, _, rfl, rfl, sq, rfl, _, _, rfl, .inr (SqT.of r1.hs), ?_⟩
      refine ⟨_, rfl, _, _, _, _, rfl, rfl, sq, rfl, rfl, _, rfl, strF (by decide +kernel) ?_⟩
      have e0 : V.int ((rs.length : Nat) : Int) = V.int ((sizeR 2 R : Nat) : Int) := by rw [lr]; rfl
      refine ⟨2, by decide, _, rfl, o, dx, _, rfl, ho1, o, q, q2, ws, us, R, rfl, L1, _, rfl, .inl ⟨_, _, .int ((sizeR 2 R : Nat) : Int), rfl, rfl, e0, _, rfl, iteF ?_⟩⟩
      refine ⟨2, by decide, _, rfl, o, dx, _, rfl, ho1, fx_parts 2 (by decide), o, q, q2, ws, us, R, rfl, L1, ok, fun v H2 X2 tv => ⟨_, rfl, .inl ⟨_, _, partsT 2 R, rfl, tv, RowAt.tree ok 2 (by decide) (r1.fr0 X2), _, rfl, iteF ?_⟩⟩⟩
      have XX := X1.trans X2
      have r2 := r.fr0 XX
      have sq := SqT.of (K := K) r2.ha
      refine ⟨_, rfl, _, _, _, _, rfl, rfl, sq, rfl, rfl, _, rfl, strF (by decide +kernel) ?_⟩
      refine ⟨2, by decide, _, rfl, o, dx, _, rfl, XX.ins ho not_nil, fx_head 2 (by decide), o, q, q2, ws, us, R, rfl, L.fr0 XX, ok, fun wl H3 nwl X3 hwl => ?_⟩
      have nwl := XX.live wl nwl
      have X03 := XX.trans X3
      refine ⟨_, rfl, 2, by decide, _, rfl, a, sa, su, rs, ru, R, rfl, r.fr0 X03, ok, fun wl2 H4 nwl2 X4 hwl2 => .inr ⟨wl, wl2, _, _, (wordsF 2 R).map Tr.str, 3, rfl, X4.lst hwl not_nil, hwl2, (show 5 ≤ 1000 by decide), pstr _, pstr _, rfl, _, rfl, iteF ?_⟩⟩
      have X04 := X03.trans X4
      have hw4 := X4.lst hwl not_nil
      refine ⟨_, rfl, .inl ⟨rfl, _, SqL.of hw4⟩, wl, _, _, rfl, rfl, hw4, (show 5 < sizeLine by decide), ?_⟩
      have X05 := X04.late nwl (.lst hw4) (.lst ((wordsF 2 R).map V.str ++ [V.str "more"]))
      have hw5 : upd H4 wl (.lst ((wordsF 2 R).map V.str ++ [V.str "more"])) wl = some (.lst ((wordsF 2 R).map V.str ++ [V.str "more"])) := upd_same
      refine ⟨_, rfl, _, _, _, 0, rfl, rfl, hw5, rfl, ?_⟩
      have X06 := X05.late nwl (.lst hw5) (.lst (((wordsF 2 R).map V.str ++ [V.str "more"]).set 0 (V.str "")))
      refine ⟨2, by decide, _, rfl, o, dx, _, rfl, X06.ins ho not_nil, fx_head 2 (by decide), o, q, q2, ws, us, R, rfl, L.fr0 X06, ok, fun w3 H7 n7 X7 h7 => ?_⟩
      have X07 := X06.trans X7
      refine ⟨2, by decide, _, rfl, a, sa, su, rs, ru, R, rfl, r.fr0 X07, ok, fun w4 H8 n8 X8 h8 => .inr ⟨w3, w4, _, _, (wordsF 2 R).map Tr.str, 3, rfl, X8.lst h7 not_nil, h8, (show 5 ≤ 1000 by decide), pstr _, pstr _, rfl, _, rfl, iteT ?_⟩⟩
      have X08 := X07.trans X8
      refine ⟨2, by decide, _, rfl, o, dx, _, rfl, X08.ins ho not_nil, fx_parts 2 (by decide), o, q, q2, ws, us, R, rfl, L.fr0 X08, ok, fun v H9 X9 tv => ⟨_, rfl, .inl ⟨_, _, partsT 2 R, rfl, tv, RowAt.tree ok 2 (by decide) (r.fr0 (X08.trans X9)), k _ (X08.trans X9)⟩⟩⟩
    · have sq := SqT.of (K := K) r1.ha
      refine ⟨_, rfl, _, _, _, _, rfl, rfl, sq, rfl, _, _, rfl, .inr (SqT.of r1.hs), ?_⟩
      refine ⟨_, rfl, _, _, _, _, rfl, rfl, sq, rfl, rfl, _, rfl, strF (by decide +kernel) ?_⟩
      have e0 : V.int ((rs.length : Nat) : Int) = V.int ((sizeR 3 R : Nat) : Int) := by rw [lr]; rfl
      refine ⟨3, by decide, _, rfl, o, dx, _, rfl, ho1, o, q, q2, ws, us, R, rfl, L1, _, rfl, .inl ⟨_, _, .int ((sizeR 3 R : Nat) : Int), rfl, rfl, e0, _, rfl, iteF ?_⟩⟩
      refine ⟨3, by decide, _, rfl, o, dx, _, rfl, ho1, fx_parts 3 (by decide), o, q, q2, ws, us, R, rfl, L1, ok, fun v H2 X2 tv => ⟨_, rfl, .inl ⟨_, _, partsT 3 R, rfl, tv, RowAt.tree ok 3 (by decide) (r1.fr0 X2), _, rfl, iteF ?_⟩⟩⟩
      have XX := X1.trans X2
      have r2 := r.fr0 XX
      have sq := SqT.of (K := K) r2.ha
      refine ⟨_, rfl, _, _, _, _, rfl, rfl, sq, rfl, rfl, _, rfl, strF (by decide +kernel) ?_⟩
      refine ⟨3, by decide, _, rfl, o, dx, _, rfl, XX.ins ho not_nil, fx_head 3 (by decide), o, q, q2, ws, us, R, rfl, L.fr0 XX, ok, fun wl H3 nwl X3 hwl => ?_⟩
      have nwl := XX.live wl nwl
      have X03 := XX.trans X3
      refine ⟨_, rfl, 3, by decide, _, rfl, a, sa, su, rs, ru, R, rfl, r.fr0 X03, ok, fun wl2 H4 nwl2 X4 hwl2 => .inr ⟨wl, wl2, _, _, (wordsF 3 R).map Tr.str, 3, rfl, X4.lst hwl not_nil, hwl2, (show 6 ≤ 1000 by decide), pstr _, pstr _, rfl, _, rfl, iteF ?_⟩⟩
      have X04 := X03.trans X4
      have hw4 := X4.lst hwl not_nil
      refine ⟨_, rfl, .inl ⟨rfl, _, SqL.of hw4⟩, wl, _, _, rfl, rfl, hw4, (show 6 < sizeLine by decide), ?_⟩
      have X05 := X04.late nwl (.lst hw4) (.lst ((wordsF 3 R).map V.str ++ [V.str "more"]))
      have hw5 : upd H4 wl (.lst ((wordsF 3 R).map V.str ++ [V.str "more"])) wl = some (.lst ((wordsF 3 R).map V.str ++ [V.str "more"])) := upd_same
      refine ⟨_, rfl, _, _, _, 0, rfl, rfl, hw5, rfl, ?_⟩
      have X06 := X05.late nwl (.lst hw5) (.lst (((wordsF 3 R).map V.str ++ [V.str "more"]).set 0 (V.str "")))
      refine ⟨3, by decide, _, rfl, o, dx, _, rfl, X06.ins ho not_nil, fx_head 3 (by decide), o, q, q2, ws, us, R, rfl, L.fr0 X06, ok, fun w3 H7 n7 X7 h7 => ?_⟩
      have X07 := X06.trans X7
      refine ⟨3, by decide, _, rfl, a, sa, su, rs, ru, R, rfl, r.fr0 X07, ok, fun w4 H8 n8 X8 h8 => .inr ⟨w3, w4, _, _, (wordsF 3 R).map Tr.str, 3, rfl, X8.lst h7 not_nil, h8, (show 6 ≤ 1000 by decide), pstr _, pstr _, rfl, _, rfl, iteT ?_⟩⟩
      have X08 := X07.trans X8
      refine ⟨3, by decide, _, rfl, o, dx, _, rfl, X08.ins ho not_nil, fx_parts 3 (by decide), o, q, q2, ws, us, R, rfl, L.fr0 X08, ok, fun v H9 X9 tv => ⟨_, rfl, .inl ⟨_, _, partsT 3 R, rfl, tv, RowAt.tree ok 3 (by decide) (r.fr0 (X08.trans X9)), k _ (X08.trans X9)⟩⟩⟩
    · have sq := SqT.of (K := K) r1.ha
      refine ⟨_, rfl, _, _, _, _, rfl, rfl, sq, rfl, _, _, rfl, .inr (SqT.of r1.hs), ?_⟩
      refine ⟨_, rfl, _, _, _, _, rfl, rfl, sq, rfl, rfl, _, rfl, strF (by decide +kernel) ?_⟩
      have e0 : V.int ((rs.length : Nat) : Int) = V.int ((sizeR 4 R : Nat) : Int) := by rw [lr]; rfl
      refine ⟨4, by decide, _, rfl, o, dx, _, rfl, ho1, o, q, q2, ws, us, R, rfl, L1, _, rfl, .inl ⟨_, _, .int ((sizeR 4 R : Nat) : Int), rfl, rfl, e0, _, rfl, iteF ?_⟩⟩
      refine ⟨4, by decide, _, rfl, o, dx, _, rfl, ho1, fx_parts 4 (by decide), o, q, q2, ws, us, R, rfl, L1, ok, fun v H2 X2 tv => ⟨_, rfl, .inl ⟨_, _, partsT 4 R, rfl, tv, RowAt.tree ok 4 (by decide) (r1.fr0 X2), _, rfl, iteF ?_⟩⟩⟩
      have XX := X1.trans X2
      have r2 := r.fr0 XX
      have sq := SqT.of (K := K) r2.ha
      refine ⟨_, rfl, _, _, _, _, rfl, rfl, sq, rfl, rfl, _, rfl, strF (by decide +kernel) ?_⟩
      refine ⟨4, by decide, _, rfl, o, dx, _, rfl, XX.ins ho not_nil, fx_head 4 (by decide), o, q, q2, ws, us, R, rfl, L.fr0 XX, ok, fun wl H3 nwl X3 hwl => ?_⟩
      have nwl := XX.live wl nwl
      have X03 := XX.trans X3
      refine ⟨_, rfl, 4, by decide, _, rfl, a, sa, su, rs, ru, R, rfl, r.fr0 X03, ok, fun wl2 H4 nwl2 X4 hwl2 => .inr ⟨wl, wl2, _, _, (wordsF 4 R).map Tr.str, 3, rfl, X4.lst hwl not_nil, hwl2, (show 7 ≤ 1000 by decide), pstr _, pstr _, rfl, _, rfl, iteF ?_⟩⟩
      have X04 := X03.trans X4
      have hw4 := X4.lst hwl not_nil
      refine ⟨_, rfl, .inl ⟨rfl, _, SqL.of hw4⟩, wl, _, _, rfl, rfl, hw4, (show 7 < sizeLine by decide), ?_⟩
      have X05 := X04.late nwl (.lst hw4) (.lst ((wordsF 4 R).map V.str ++ [V.str "more"]))
      have hw5 : upd H4 wl (.lst ((wordsF 4 R).map V.str ++ [V.str "more"])) wl = some (.lst ((wordsF 4 R).map V.str ++ [V.str "more"])) := upd_same
      refine ⟨_, rfl, _, _, _, 0, rfl, rfl, hw5, rfl, ?_⟩
      have X06 := X05.late nwl (.lst hw5) (.lst (((wordsF 4 R).map V.str ++ [V.str "more"]).set 0 (V.str "")))
      refine ⟨4, by decide, _, rfl, o, dx, _, rfl, X06.ins ho not_nil, fx_head 4 (by decide), o, q, q2, ws, us, R, rfl, L.fr0 X06, ok, fun w3 H7 n7 X7 h7 => ?_⟩
      have X07 := X06.trans X7
      refine ⟨4, by decide, _, rfl, a, sa, su, rs, ru, R, rfl, r.fr0 X07, ok, fun w4 H8 n8 X8 h8 => .inr ⟨w3, w4, _, _, (wordsF 4 R).map Tr.str, 3, rfl, X8.lst h7 not_nil, h8, (show 7 ≤ 1000 by decide), pstr _, pstr _, rfl, _, rfl, iteT ?_⟩⟩
      have X08 := X07.trans X8
      refine ⟨4, by decide, _, rfl, o, dx, _, rfl, X08.ins ho not_nil, fx_parts 4 (by decide), o, q, q2, ws, us, R, rfl, L.fr0 X08, ok, fun v H9 X9 tv => ⟨_, rfl, .inl ⟨_, _, partsT 4 R, rfl, tv, RowAt.tree ok 4 (by decide) (r.fr0 (X08.trans X9)), k _ (X08.trans X9)⟩⟩⟩
    · have sq := SqT.of (K := K) r1.ha
      refine ⟨_, rfl, _, _, _, _, rfl, rfl, sq, rfl, _, _, rfl, .inr (SqT.of r1.hs), ?_⟩
      refine ⟨_, rfl, _, _, _, _, rfl, rfl, sq, rfl, rfl, _, rfl, strT ?_⟩
      refine ⟨_, rfl, _, rfl, _, _, _, _, rfl, rfl, sq, rfl, _, _, rfl, .inr (SqT.of r1.hu), _, _, rfl, rfl, ?_⟩
      have e0 : V.int ((rs.length : Int) + (ru.length : Int)) = V.int ((sizeR 5 R : Nat) : Int) := by rw [lr, lu]; rfl
      refine ⟨5, by decide, _, rfl, o, dx, _, rfl, ho1, o, q, q2, ws, us, R, rfl, L1, _, rfl, .inl ⟨_, _, .int ((sizeR 5 R : Nat) : Int), rfl, rfl, e0, _, rfl, iteF ?_⟩⟩
      refine ⟨5, by decide, _, rfl, o, dx, _, rfl, ho1, fx_parts 5 (by decide), o, q, q2, ws, us, R, rfl, L1, ok, fun v H2 X2 tv => ⟨_, rfl, .inl ⟨_, _, partsT 5 R, rfl, tv, RowAt.tree ok 5 (by decide) (r1.fr0 X2), _, rfl, iteF ?_⟩⟩⟩
      have XX := X1.trans X2
      have r2 := r.fr0 XX
      have sq := SqT.of (K := K) r2.ha
      refine ⟨_, rfl, _, _, _, _, rfl, rfl, sq, rfl, rfl, _, rfl, strF (by decide +kernel) ?_⟩
      refine ⟨5, by decide, _, rfl, o, dx, _, rfl, XX.ins ho not_nil, fx_head 5 (by decide), o, q, q2, ws, us, R, rfl, L.fr0 XX, ok, fun wl H3 nwl X3 hwl => ?_⟩
      have nwl := XX.live wl nwl
      have X03 := XX.trans X3
      refine ⟨_, rfl, 5, by decide, _, rfl, a, sa, su, rs, ru, R, rfl, r.fr0 X03, ok, fun wl2 H4 nwl2 X4 hwl2 => .inr ⟨wl, wl2, _, _, (wordsF 5 R).map Tr.str, 3, rfl, X4.lst hwl not_nil, hwl2, (show 7 ≤ 1000 by decide), pstr _, pstr _, rfl, _, rfl, iteF ?_⟩⟩
      have X04 := X03.trans X4
      have hw4 := X4.lst hwl not_nil
      refine ⟨_, rfl, .inl ⟨rfl, _, SqL.of hw4⟩, wl, _, _, rfl, rfl, hw4, (show 7 < sizeLine by decide), ?_⟩
      have X05 := X04.late nwl (.lst hw4) (.lst ((wordsF 5 R).map V.str ++ [V.str "more"]))
      have hw5 : upd H4 wl (.lst ((wordsF 5 R).map V.str ++ [V.str "more"])) wl = some (.lst ((wordsF 5 R).map V.str ++ [V.str "more"])) := upd_same
      refine ⟨_, rfl, _, _, _, 0, rfl, rfl, hw5, rfl, ?_⟩
      have X06 := X05.late nwl (.lst hw5) (.lst (((wordsF 5 R).map V.str ++ [V.str "more"]).set 0 (V.str "")))
      refine ⟨5, by decide, _, rfl, o, dx, _, rfl, X06.ins ho not_nil, fx_head 5 (by decide), o, q, q2, ws, us, R, rfl, L.fr0 X06, ok, fun w3 H7 n7 X7 h7 => ?_⟩
      have X07 := X06.trans X7
      refine ⟨5, by decide, _, rfl, a, sa, su, rs, ru, R, rfl, r.fr0 X07, ok, fun w4 H8 n8 X8 h8 => .inr ⟨w3, w4, _, _, (wordsF 5 R).map Tr.str, 3, rfl, X8.lst h7 not_nil, h8, (show 7 ≤ 1000 by decide), pstr _, pstr _, rfl, _, rfl, iteT ?_⟩⟩
      have X08 := X07.trans X8
      refine ⟨5, by decide, _, rfl, o, dx, _, rfl, X08.ins ho not_nil, fx_parts 5 (by decide), o, q, q2, ws, us, R, rfl, L.fr0 X08, ok, fun v H9 X9 tv => ⟨_, rfl, .inl ⟨_, _, partsT 5 R, rfl, tv, RowAt.tree ok 5 (by decide) (r.fr0 (X08.trans X9)), k _ (X08.trans X9)⟩⟩⟩
end
end K04

set_option Elab.async false
set_option maxRecDepth 100000
set_option maxHeartbeats 4000000
set_option exponentiation.threshold 4096
set_option linter.unusedVariables false
/-! the law -/
namespace K04
open PySem PySem.Spec PyProof.Rows L2 C8 LamX UF
/-- a letter and its row, held away from the lists at D -/
def Good (D : List Addr) (Cs : Nat → Addr) (H : Hp) (m w : V) : Prop := ∃ (i : Nat) (o q q2 a sa su : Addr) (ws us rs ru : List V) (R : Row), i < 6 ∧ m = .ref o ∧ w = .ref a ∧ LtA i (Cs i) H o q q2 ws us R ∧ RowAt i H a sa su rs ru R ∧ RowOk R ∧ ∀ x ∈ D, x ≠ o ∧ x ≠ q ∧ (i = 5 → x ≠ q2)
def Lsts (D : List Addr) (H : Hp) : Prop := ∀ x ∈ D, ∃ vs, H x = some (.lst vs)
theorem Lsts.fr {D ds : List Addr} {H H' : Hp} (h : Lsts D H) (X : Fr ds H H') (g : ∀ x ∈ ds, ∃ vs, H' x = some (.lst vs)) : Lsts D H' := fun x m => by
  by_cases e : x ∈ ds
  · exact g x e
  · obtain ⟨vs, e'⟩ := h x m
    exact ⟨vs, X.lst e' e⟩
theorem Lsts.nt {D : List Addr} {H : Hp} (h : Lsts D H) : ∀ a ∈ D, ∀ vs, H a ≠ some (.tup vs) := fun a m vs e => by
  obtain ⟨ws, e'⟩ := h a m
  rw [e] at e'
  cases e'
theorem Lsts.cons {D : List Addr} {H : Hp} {x : Addr} {vs : List V} (h : Lsts D H) (e : H x = some (.lst vs)) : Lsts (x :: D) H := fun y m => by
  rcases List.mem_cons.mp m with rfl | m
  · exact ⟨_, e⟩
  · exact h y m
theorem Good.fr {D ds : List Addr} {Cs : Nat → Addr} {H H' : Hp} {m w : V} (g : Good D Cs H m w) (l : Lsts D H) (X : Fr ds H H') (s : ∀ x ∈ ds, x ∈ D) : Good D Cs H' m w := by
  obtain ⟨i, o, q, q2, a, sa, su, ws, us, rs, ru, R, i6, e1, e2, L, r, ok, f⟩ := g
  have nt : ∀ a ∈ ds, ∀ vs, H a ≠ some (.tup vs) := fun a m => l.nt a (s a m)
  exact ⟨i, o, q, q2, a, sa, su, ws, us, rs, ru, R, i6, e1, e2, L.fr X (fun z => (f o (s o z)).1 rfl) (fun z => (f q (s q z)).2.1 rfl) (fun e z => (f q2 (s q2 z)).2.2 e rfl) nt, r.fr X nt, ok, f⟩
theorem Good.fr0 {D : List Addr} {Cs : Nat → Addr} {H H' : Hp} {m w : V} (g : Good D Cs H m w) (X : Fr [] H H') : Good D Cs H' m w := by
  obtain ⟨i, o, q, q2, a, sa, su, ws, us, rs, ru, R, i6, e1, e2, L, r, ok, f⟩ := g
  exact ⟨i, o, q, q2, a, sa, su, ws, us, rs, ru, R, i6, e1, e2, L.fr0 X, r.fr0 X, ok, f⟩
theorem Good.cons {D : List Addr} {Cs : Nat → Addr} {H : Hp} {m w : V} {x : Addr} (g : Good D Cs H m w) (n : H x = none) : Good (x :: D) Cs H m w := by
  obtain ⟨i, o, q, q2, a, sa, su, ws, us, rs, ru, R, i6, e1, e2, L, r, ok, f⟩ := g
  refine ⟨i, o, q, q2, a, sa, su, ws, us, rs, ru, R, i6, e1, e2, L, r, ok, fun y m => ?_⟩
  rcases List.mem_cons.mp m with rfl | m
  · obtain ⟨dx, ho⟩ := L.ho
    exact ⟨(ne_of_none ho n).symm, (ne_of_none L.hq n).symm, fun e => (ne_of_none (L.hu e).1 n).symm⟩
  · exact f y m
theorem Good.sub {D D' : List Addr} {Cs : Nat → Addr} {H : Hp} {m w : V} (g : Good D Cs H m w) (s : ∀ x ∈ D', x ∈ D) : Good D' Cs H m w := by
  obtain ⟨i, o, q, q2, a, sa, su, ws, us, rs, ru, R, i6, e1, e2, L, r, ok, f⟩ := g
  exact ⟨i, o, q, q2, a, sa, su, ws, us, rs, ru, R, i6, e1, e2, L, r, ok, fun x m => f x (s x m)⟩
section
variable {P : Program} {w : World} {K : PySem.W.Frag} {mg : Str → Option Value} {base : Heap} {Cs : Nat → Addr} {fa : Addr} {fd : FuncData}
theorem f_law (T : Bl mg) (c_law_bag : Cal P w K mg base 1 "_law_bag" (spBag K) []) (c_law_draw : Cal P w K mg base 1 "_law_draw" spDraw []) (c_law_rows : Cal P w K mg base 5 "_law_rows" spRows []) (c_law_made : Cal P w K mg base 4 "_law_made" (spMade Cs) []) (c_law_same : Cal P w K mg base 4 "_law_same" (spSame 4) []) (c_law_fits : Cal P w K mg base 6 "_law_fits" (spFits Cs) [])
    (vK : ∀ i, i < 6 → SupO.CVaS K (Cs i) "KIND" (kN i)) (g_Letter : GcP mg "Letter" (.ref (Cs 0))) (g_Ask : GcP mg "Ask" (.ref (Cs 1))) (g_Answer : GcP mg "Answer" (.ref (Cs 2))) (g_Probe : GcP mg "Probe" (.ref (Cs 3))) (g_Probed : GcP mg "Probed" (.ref (Cs 4))) (g_Sums : GcP mg "Sums" (.ref (Cs 5)))
    (FL : C8.Fun K "law" "law" s_law fa fd) : FnOk P w K mg base C8.CX0 9 fa fd ["script"] (spLaw K) := by
  refine C8.fn0 FL sc_law (fun vs H Q E h => ?_) (fun cdv A outer s0 H vs Q E hr h => ?_)
  · obtain ⟨a, ns, rfl, _⟩ := h
    rfl
  · obtain ⟨a, ns, rfl, hs, hl, k⟩ := h
    refine ⟨_, (pss_cons (ps_set (i := 1) sc_law.nd rfl (Or.inl rfl) (pe_c c_law_bag hr (by decide) rfl (pa_cons (pv 0) pa_nil)))
      (pss_cons (ps_set (i := 2) sc_law.nd rfl (Or.inl rfl) (pe_tup (pa_cons pe_str (pa_cons pe_str (pa_cons pe_str (pa_cons pe_str (pa_cons pe_str (pa_cons pe_str pa_nil))))))))
      (pss_cons (ps_set (i := 3) sc_law.nd rfl (Or.inl rfl) (pe_tup (pa_cons (ClX.pe_cval (pe_gc (by rfl) g_Letter)) (pa_cons (ClX.pe_cval (pe_gc (by rfl) g_Ask)) (pa_cons (ClX.pe_cval (pe_gc (by rfl) g_Answer)) (pa_cons (ClX.pe_cval (pe_gc (by rfl) g_Probe)) (pa_cons (ClX.pe_cval (pe_gc (by rfl) g_Probed)) (pa_cons (ClX.pe_cval (pe_gc (by rfl) g_Sums)) pa_nil))))))))
      (pss_cons (ps_if (pt_not (pt_val (pe_c c_law_same hr (by decide) rfl (pa_cons (pv 3) (pa_cons (pv 2) pa_nil))))) (pss_one (ps_ret pe_bl)) pss_nil)
      (pss_cons (ps_set (i := 4) sc_law.nd rfl (Or.inl rfl) (pe_lst pa_nil))
      (pss_cons (ps_set (i := 5) sc_law.nd rfl (Or.inl rfl) (pe_lst pa_nil))
      (pss_cons (ps_for PassesOwn.never rfl (pi_range1 rfl T.range (pa_cons pe_int pa_nil)) (pg_name (i := 6) sc_law.nd rfl (Or.inl rfl)) (pss_cons (ps_set (i := 7) sc_law.nd rfl (Or.inl rfl) (pe_c c_law_rows hr (by decide) rfl (pa_cons (pv 1) (pa_cons (pe_op op_add pe_int (pe_c c_law_draw hr (by decide) rfl (pa_cons (pv 1) (pa_cons pe_int pa_nil)))) pa_nil))))
      (pss_cons (ps_set (i := 8) sc_law.nd rfl (Or.inl rfl) (pe_callTy call_list_of (by rfl) T.list (by decide +kernel) (pa_cons (pe_ix ix_tup (pe_ix ix_list (pv 7) pe_int (fun _ _ => rfl)) pe_int (fun _ _ => rfl)) pa_nil)))
      (pss_cons (ps_set (i := 9) sc_law.nd rfl (Or.inl rfl) (pe_callTy call_list_of (by rfl) T.list (by decide +kernel) (pa_cons (pe_ix ix_tup (pe_ix ix_list (pv 7) pe_int (fun _ _ => rfl)) pe_int (fun _ _ => rfl)) pa_nil)))
      (pss_cons (ps_for PassesOwn.never rfl (pi_list (pv 7)) (pg_name (i := 10) sc_law.nd rfl (Or.inl rfl)) (pss_cons (ps_expr (pe_bm PySem.F.plainAttrs_list PySem.F.slot_list_append PySem.F.type_list_append mt_append (pv 4) (pa_cons (pe_c c_law_made hr (by decide) rfl (pa_cons (pv 10) (pa_cons (pv 8) (pa_cons (pv 9) pa_nil)))) pa_nil)))
      (pss_one (ps_expr (pe_bm PySem.F.plainAttrs_list PySem.F.slot_list_append PySem.F.type_list_append mt_append (pv 5) (pa_cons (pv 10) pa_nil))))))
      (pss_cons (ps_if (PW.pt (pw_or (pt_not (pt_val (pe_c c_law_same hr (by decide) rfl (pa_cons (pv 8) (pa_cons (pe_callTy call_list_of (by rfl) T.list (by decide +kernel) (pa_cons (pe_ix ix_tup (pe_ix ix_list (pv 7) pe_int (fun _ _ => rfl)) pe_int (fun _ _ => rfl)) pa_nil)) pa_nil))))) (pw_or1 (pt_not (pt_val (pe_c c_law_same hr (by decide) rfl (pa_cons (pv 9) (pa_cons (pe_callTy call_list_of (by rfl) T.list (by decide +kernel) (pa_cons (pe_ix ix_tup (pe_ix ix_list (pv 7) pe_int (fun _ _ => rfl)) pe_int (fun _ _ => rfl)) pa_nil)) pa_nil)))))))) (pss_one (ps_ret pe_bl)) pss_nil)
      (pss_cons (ps_expr (pe_bm PySem.F.plainAttrs_list PySem.F.slot_list_append PySem.F.type_list_append mt_append (pv 8) (pa_cons (pe_tup (pa_cons pe_int (pa_cons pe_int (pa_cons pe_str (pa_cons pe_str pa_nil))))) pa_nil)))
      (pss_one (ps_expr (pe_bm PySem.F.plainAttrs_list PySem.F.slot_list_append PySem.F.type_list_append mt_append (pv 9) (pa_cons (pe_tup (pa_cons pe_int (pa_cons pe_int (pa_cons pe_int (pa_cons pe_int (pa_cons pe_int pa_nil)))))) pa_nil)))))))))))
      (pss_cons (ps_for PassesOwn.never rfl (pi_range1 rfl T.range (pa_cons (pe_callB call_len_seq (by rfl) T.len (by decide +kernel) (pa_cons (pv 5) pa_nil)) pa_nil)) (pg_name (i := 6) sc_law.nd rfl (Or.inl rfl)) (pss_one (ps_if (pt_not (pt_val (pe_c c_law_fits hr (by decide) rfl (pa_cons (pe_ix ix_list (pv 4) (pv 6) (fun _ _ => rfl)) (pa_cons (pe_ix ix_list (pv 5) (pv 6) (fun _ _ => rfl)) pa_nil))))) (pss_one (ps_ret pe_bl)) pss_nil)))
      (pss_one (ps_ret pe_bl)))))))))), ?_⟩
    refine ⟨_, rfl, a, ns, rfl, hs, hl, fun b c H1 nwb nwc B1 X1 => ?_⟩
    refine ⟨by show 6 ≤ sizeLine; decide, fun kd nkd => ?_⟩
    have B2 := B1.fr0 (Fr.new0 nkd (.tup [.str "", .str "ask", .str "answer", .str "probe", .str "probed", .str "sums"]))
    have hkd : upd H1 kd (.tup [.str "", .str "ask", .str "answer", .str "probe", .str "probed", .str "sums"]) kd = some (.tup [.str "", .str "ask", .str "answer", .str "probe", .str "probed", .str "sums"]) := upd_same
    generalize upd H1 kd (.tup [.str "", .str "ask", .str "answer", .str "probe", .str "probed", .str "sums"]) = H2 at B2 hkd
    obtain ⟨m0, u0, v0, x0⟩ := vK 0 (by decide)
    obtain ⟨m1, u1, v1, x1⟩ := vK 1 (by decide)
    obtain ⟨m2, u2, v2, x2⟩ := vK 2 (by decide)
    obtain ⟨m3, u3, v3, x3⟩ := vK 3 (by decide)
    obtain ⟨m4, u4, v4, x4⟩ := vK 4 (by decide)
    obtain ⟨m5, u5, v5, x5⟩ := vK 5 (by decide)
    refine ⟨_, m0, _, _, rfl, v0, x0, _, m1, _, _, rfl, v1, x1, _, m2, _, _, rfl, v2, x2, _, m3, _, _, rfl, v3, x3, _, m4, _, _, rfl, v4, x4, _, m5, _, _, rfl, v5, x5, by show 6 ≤ sizeLine; decide, fun cv ncv => ?_⟩
    have B3 := B2.fr0 (Fr.new0 ncv (.tup [.str (kN 0), .str (kN 1), .str (kN 2), .str (kN 3), .str (kN 4), .str (kN 5)]))
    have hcv : upd H2 cv (.tup [.str (kN 0), .str (kN 1), .str (kN 2), .str (kN 3), .str (kN 4), .str (kN 5)]) cv = some (.tup [.str (kN 0), .str (kN 1), .str (kN 2), .str (kN 3), .str (kN 4), .str (kN 5)]) := upd_same
    have hkd := upd_new (o := .tup [.str (kN 0), .str (kN 1), .str (kN 2), .str (kN 3), .str (kN 4), .str (kN 5)]) ncv hkd
    generalize upd H2 cv (.tup [.str (kN 0), .str (kN 1), .str (kN 2), .str (kN 3), .str (kN 4), .str (kN 5)]) = H3 at B3 hcv hkd
    refine ⟨_, rfl, _, rfl, .inl ⟨_, _, .tup [.str "", .str "ask", .str "answer", .str "probe", .str "probed", .str "sums"], rfl, ⟨cv, _, rfl, hcv, (show 6 ≤ 1000 by decide), .cons rfl (.cons rfl (.cons rfl (.cons rfl (.cons rfl (.cons rfl .nil)))))⟩, ⟨kd, _, rfl, hkd, (show 6 ≤ 1000 by decide), .cons rfl (.cons rfl (.cons rfl (.cons rfl (.cons rfl (.cons rfl .nil)))))⟩, _, rfl, iteF ?_⟩⟩
    refine ⟨by show 0 ≤ sizeLine; decide, fun M nM => ⟨by show 0 ≤ sizeLine; decide, fun W nW => ?_⟩⟩
    have bM := B3.ne (.of nM)
    have B4 := B3.fr0 (Fr.new0 nM (.lst []))
    have bW := B4.ne (.of nW)
    have B5 := B4.fr0 (Fr.new0 nW (.lst []))
    have hM : upd (upd H3 M (.lst [])) W (.lst []) M = some (.lst []) := upd_new nW upd_same
    have hW : upd (upd H3 M (.lst [])) W (.lst []) W = some (.lst []) := upd_same
    have MW : M ≠ W := ne_of_none upd_same nW
    generalize upd (upd H3 M (.lst [])) W (.lst []) = H4 at B5 hM hW
    refine ⟨2, rfl, by decide, by decide, ?_⟩
    refine for_range (lo := 0) (n := 2) (fun i σ H' => ∃ v6 v7 v8 v9 v10 : Option V, σ = [some (.ref a), some (.ref b), some (.ref kd), some (.ref cv), some (.ref M), some (.ref W), v6, v7, v8, v9, v10] ∧ Bag H' b c ∧ ∃ ms us : List V, H' M = some (.lst ms) ∧ H' W = some (.lst us) ∧ Paired (Good [b, M, W] Cs H') ms us ∧ us.length = 6 * i) ⟨none, none, none, none, none, rfl, B5, [], [], hM, hW, .nil, rfl⟩ (fun i σ H5 i2 pv => ?_) (fun σ H5 pv => ?_)
    · obtain ⟨v6, v7, v8, v9, v10, rfl, B5, ms, ks, hM, hW, pr, lu⟩ := pv
      have Lb : ∀ {G : Hp}, Bag G b c → ∃ vs, G b = some (.lst vs) := fun B => by
        obtain ⟨cells, x, u, y, z, B⟩ := B
        exact ⟨_, B.hb⟩
      have L5 : Lsts [b, M, W] H5 := fun x m => by
        simp only [List.mem_cons, List.not_mem_nil, or_false] at m
        rcases m with rfl | rfl | rfl
        · exact Lb B5
        · exact ⟨_, hM⟩
        · exact ⟨_, hW⟩
      refine ⟨_, rfl, _, rfl, b, c, 8, rfl, B5, by decide, by decide +kernel, fun d1 H6 a1 a2 B6 X6 => ⟨_, _, rfl, rfl, b, c, _, rfl, B6, by omega, by omega, fun l sa su ad ws us R H7 hl hr ok ls1 ls2 B7 nwl X7 => ?_⟩⟩
      have ob : ∀ {G : Hp}, Bag G b c → ∀ x ∈ [b], ∃ vs, G x = some (.lst vs) := fun B x m => by
        rw [List.mem_singleton.mp m]
        exact Lb B
      have s1 : ∀ x ∈ [b], x ∈ [b, M, W] := fun x m => by rw [List.mem_singleton.mp m]; exact .head _
      have L6 := L5.fr X6 (ob B6)
      have L7 := L6.fr X7 (ob B7)
      have pr7 : Paired (Good [b, M, W] Cs H7) ms ks := pimp pr fun m w g => (g.fr L5 X6 s1).fr L6 X7 s1
      have hM6 := X6.lst hM (not_one bM.1)
      have hW6 := X6.lst hW (not_one bW.1)
      have hM7 := X7.lst hM6 (not_one bM.1)
      have hW7 := X7.lst hW6 (not_one bW.1)
      have lM : l ≠ M := (ne_nw hM6 nwl).symm
      have lW : l ≠ W := (ne_nw hW6 nwl).symm
      have r5 := hr 5 (by decide)
      refine ⟨_, rfl, _, _, _, _, rfl, rfl, SqL.of hl, rfl, _, _, _, _, rfl, rfl, SqT.of r5.ha, rfl, sa, _, rfl, .inr (SqT.of r5.hs), fun S nS => ?_⟩
      have X8 : Fr [] H7 (upd H7 S (.lst ws)) := Fr.new0 nS _
      have hS : upd H7 S (.lst ws) S = some (.lst ws) := upd_same
      have SM : S ≠ M := (ne_of_none hM7 nS).symm
      have SW : S ≠ W := (ne_of_none hW7 nS).symm
      have Sbc := B7.ne (.of nS)
      have L8 := (L7.fr X8 (fun x m => nomatch m)).cons hS
      have pr8 : Paired (Good [S, b, M, W] Cs (upd H7 S (.lst ws))) ms ks := pimp pr7 fun m w g => (g.cons nS).fr0 X8
      have B8 := B7.fr0 X8
      generalize upd H7 S (.lst ws) = H8 at X8 hS L8 pr8 B8
      have r58 := r5.fr0 X8
      refine ⟨_, rfl, _, _, _, _, rfl, rfl, SqL.of (X8.lst hl not_nil), rfl, _, _, _, _, rfl, rfl, SqT.of r58.ha, rfl, su, _, rfl, .inr (SqT.of r58.hu), fun U nU => ?_⟩
      have X9 : Fr [] H8 (upd H8 U (.lst us)) := Fr.new0 nU _
      have hU : upd H8 U (.lst us) U = some (.lst us) := upd_same
      have UM : U ≠ M := (ne_of_none (X8.lst hM7 not_nil) nU).symm
      have UW : U ≠ W := (ne_of_none (X8.lst hW7 not_nil) nU).symm
      have US : U ≠ S := (ne_of_none hS nU).symm
      have Ubc := B8.ne (.of nU)
      have L9 := (L8.fr X9 (fun x m => nomatch m)).cons hU
      have pr9 : Paired (Good [U, S, b, M, W] Cs (upd H8 U (.lst us))) ms ks := pimp pr8 fun m w g => (g.cons nU).fr0 X9
      have B9 := B8.fr0 X9
      generalize upd H8 U (.lst us) = H9 at X9 hU L9 pr9 B9
      have X79 := X8.trans X9
      have hS9 := X9.lst hS not_nil
      have hl9 := X79.lst hl not_nil
      have hM9 := X79.lst hM7 not_nil
      have hW9 := X79.lst hW7 not_nil
      have hr9 : ∀ i, i < 6 → RowAt i H9 (ad i) sa su ws us R := fun i h => (hr i h).fr0 X79
      have nt9 : ∀ a ∈ [M, W], ∀ vs, H9 a ≠ some (.tup vs) := fun a m => L9.nt a (by
        simp only [List.mem_cons, List.not_mem_nil, or_false] at m ⊢
        rcases m with rfl | rfl
        · exact .inr (.inr (.inr (.inl rfl)))
        · exact .inr (.inr (.inr (.inr rfl))))
      have off : ∀ {x : Addr}, x ≠ M → x ≠ W → x ∉ [M, W] := fun h1 h2 m => by
        simp only [List.mem_cons, List.not_mem_nil, or_false] at m
        rcases m with e | e
        · exact h1 e
        · exact h2 e
      have dM : M ∈ [U, S, b, M, W] := .tail _ (.tail _ (.tail _ (.head _)))
      have dW : W ∈ [U, S, b, M, W] := .tail _ (.tail _ (.tail _ (.tail _ (.head _))))
      refine ⟨_, rfl, l, rfl, ⟨_, SqL.of hl9⟩, ?_⟩
      refine for_list (xs := [.ref (ad 0), .ref (ad 1), .ref (ad 2), .ref (ad 3), .ref (ad 4), .ref (ad 5)]) (fun j σ H' => ∃ v10 : Option V, σ = [some (.ref a), some (.ref b), some (.ref kd), some (.ref cv), some (.ref M), some (.ref W), some (.int (0 + (i : Int))), some (.ref l), some (.ref S), some (.ref U), v10] ∧ Bag H' b c ∧ Fr [M, W] H9 H' ∧ Lsts [U, S, b, M, W] H' ∧ ∃ ms us : List V, H' M = some (.lst ms) ∧ H' W = some (.lst us) ∧ Paired (Good [U, S, b, M, W] Cs H') ms us ∧ us.length = 6 * i + j) ⟨v10, rfl, B9, Fr.refl _ _, L9, ms, ks, hM9, hW9, pr9, lu⟩ (fun j σ H' _ pv => SqL.of (pv.choose_spec.2.2.1.lst hl9 (off lM lW))) (fun j v σ H10 hv pv => ?_) (fun σ H10 pv => ?_)
      · obtain ⟨v10, rfl, B10, X10, L10, ms, ks, hM10, hW10, pr10, lk⟩ := pv
        have lms := pr10.length
        obtain ⟨j6, rfl⟩ : j < 6 ∧ v = .ref (ad j) := by
          rcases j with _ | _ | _ | _ | _ | _ | j
          · cases hv; exact ⟨by decide, rfl⟩
          · cases hv; exact ⟨by decide, rfl⟩
          · cases hv; exact ⟨by decide, rfl⟩
          · cases hv; exact ⟨by decide, rfl⟩
          · cases hv; exact ⟨by decide, rfl⟩
          · cases hv; exact ⟨by decide, rfl⟩
          · cases hv
        have rj := (hr9 j j6).fr X10 nt9
        refine ⟨_, rfl, .inl ⟨rfl, _, SqL.of hM10⟩, _, rfl, _, rfl, _, rfl, j, ad j, sa, su, S, U, ws, us, ws, us, R, j6, rfl, rj, X10.lst hS9 (off SM SW), X10.lst hU (off UM UW), rj.ps, rj.pu, fun o q q2 H11 no nq nq2 X11 LA => ?_⟩
        have g11 : Good [U, S, b, M, W] Cs H11 (.ref o) (.ref (ad j)) := ⟨j, o, q, q2, ad j, sa, su, ws, us, ws, us, R, j6, rfl, rfl, LA, rj.fr0 X11, ok, fun x m => by
          obtain ⟨vs, e⟩ := L10 x m
          exact ⟨ne_nw e no, ne_nw e nq, fun z => ne_nw e (nq2 z)⟩⟩
        have pr11 := psnoc (pimp pr10 fun m w g => g.fr0 X11) g11
        have B11 := B10.fr0 X11
        have L11 := L10.fr X11 (fun x m => nomatch m)
        have hM11 := X11.lst hM10 not_nil
        have hW11 := X11.lst hW10 not_nil
        have X911 := X10.tail X11 (fun a m => nomatch m)
        refine ⟨M, ms, _, rfl, rfl, hM11, small1000' (by omega), ?_⟩
        have X12 : Fr [M] H11 (upd H11 M (.lst (ms ++ [.ref o]))) := (Fr.refl _ _).upd (.head _) (.lst hM11) _
        have Y12 := X911.upd (.head _) (.lst hM11) (.lst (ms ++ [.ref o]))
        have hM12 : upd H11 M (.lst (ms ++ [.ref o])) M = some (.lst (ms ++ [.ref o])) := upd_same
        have L12 := L11.fr X12 (fun x m => by rw [List.mem_singleton.mp m]; exact ⟨_, hM12⟩)
        have pr12 := pimp pr11 fun m w g => g.fr L11 X12 (fun x m => by rw [List.mem_singleton.mp m]; exact dM)
        have B12 := B11.fr X12 (not_one bM.1.symm) (not_one bM.2.symm)
        have hW12 := X12.lst hW11 (not_one MW.symm)
        generalize upd H11 M (.lst (ms ++ [.ref o])) = H12 at X12 Y12 hM12 L12 pr12 B12 hW12
        refine ⟨_, rfl, .inl ⟨rfl, _, SqL.of hW12⟩, _, rfl, W, ks, _, rfl, rfl, hW12, small1000' (by omega), ?_⟩
        have X13 : Fr [W] H12 (upd H12 W (.lst (ks ++ [.ref (ad j)]))) := (Fr.refl _ _).upd (.head _) (.lst hW12) _
        have Y13 := Y12.upd (.tail _ (.head _)) (.lst hW12) (.lst (ks ++ [.ref (ad j)]))
        have hW13 : upd H12 W (.lst (ks ++ [.ref (ad j)])) W = some (.lst (ks ++ [.ref (ad j)])) := upd_same
        exact ⟨_, rfl, B12.fr X13 (not_one bW.1.symm) (not_one bW.2.symm), Y13, L12.fr X13 (fun x m => by rw [List.mem_singleton.mp m]; exact ⟨_, hW13⟩), _, _, X13.lst hM12 (not_one MW), hW13, pimp pr12 fun m w g => g.fr L12 X13 (fun x m => by rw [List.mem_singleton.mp m]; exact dW), by rw [List.length_append, lk]; rfl⟩
      · obtain ⟨v10, rfl, B10, X10, L10, ms, ks, hM10, hW10, pr10, lk⟩ := pv
        have rj := (hr9 5 (by decide)).fr X10 nt9
        have hl10 := X10.lst hl9 (off lM lW)
        have hS10 := X10.lst hS9 (off SM SW)
        have hU10 := X10.lst hU (off UM UW)
        refine ⟨_, rfl, _, rfl, _, _, _, _, rfl, rfl, SqL.of hl10, rfl, _, _, _, _, rfl, rfl, SqT.of rj.ha, rfl, sa, _, rfl, .inr (SqT.of rj.hs), fun p np => .inr ⟨S, p, _, _, R.say, 3, rfl, upd_new np hS10, upd_same, Nat.le_trans ls1 (by decide), pimp rj.ps fun a s h => (h.fr0 (Fr.new0 np _)).le (by decide), pimp rj.ps fun a s h => (h.fr0 (Fr.new0 np _)).le (by decide), rfl, _, rfl, iteF ?_⟩⟩
        have X11 : Fr [] H10 (upd H10 p (.lst ws)) := Fr.new0 np _
        have rk := rj.fr0 X11
        refine ⟨_, rfl, _, rfl, _, _, _, _, rfl, rfl, SqL.of (X11.lst hl10 not_nil), rfl, _, _, _, _, rfl, rfl, SqT.of rk.ha, rfl, su, _, rfl, .inr (SqT.of rk.hu), fun p' np' => .inr ⟨U, p', _, _, R.sums, 3, rfl, upd_new np' (X11.lst hU10 not_nil), upd_same, Nat.le_trans ls2 (by decide), pimp rk.pu fun a s h => (h.fr0 (Fr.new0 np' _)).le (by decide), pimp rk.pu fun a s h => (h.fr0 (Fr.new0 np' _)).le (by decide), rfl, _, rfl, iteF ?_⟩⟩
        have X12 := X11.new np' (.lst us)
        have lw := rj.ps.length
        have lu' := rj.pu.length
        generalize upd (upd H10 p (.lst ws)) p' (.lst us) = H12 at X12
        have hS12 := X12.lst hS10 not_nil
        have hU12 := X12.lst hU10 not_nil
        refine ⟨_, rfl, .inl ⟨rfl, _, SqL.of hS12⟩, by show 4 ≤ sizeLine; decide, fun p3 np3 => ?_⟩
        have X13 := X12.new np3 (.tup [.int 0, .int 7, .str "dead", .str "zz"])
        have hS13 := X13.lst hS10 not_nil
        refine ⟨S, ws, _, rfl, rfl, hS13, small1000' (by omega), ?_⟩
        generalize upd H12 p3 (.tup [.int 0, .int 7, .str "dead", .str "zz"]) = H13 at X13 hS13
        have L13 := L10.fr X13 (fun x m => nomatch m)
        have pr13 := pimp pr10 fun m w g => g.fr0 X13
        have B13 := B10.fr0 X13
        have hM13 := X13.lst hM10 not_nil
        have hW13 := X13.lst hW10 not_nil
        have hU13 := X13.lst hU10 not_nil
        have X14 : Fr [S] H13 (upd H13 S (.lst (ws ++ [.ref p3]))) := (Fr.refl _ _).upd (.head _) (.lst hS13) _
        have hS14 : upd H13 S (.lst (ws ++ [.ref p3])) S = some (.lst (ws ++ [.ref p3])) := upd_same
        have L14 := L13.fr X14 (fun x m => by rw [List.mem_singleton.mp m]; exact ⟨_, hS14⟩)
        have pr14 := pimp pr13 fun m w g => g.fr L13 X14 (fun x m => by rw [List.mem_singleton.mp m]; exact .tail _ (.head _))
        have B14 := B13.fr X14 (not_one Sbc.1.symm) (not_one Sbc.2.symm)
        have hM14 := X14.lst hM13 (not_one SM.symm)
        have hW14 := X14.lst hW13 (not_one SW.symm)
        have hU14 := X14.lst hU13 (not_one US)
        generalize upd H13 S (.lst (ws ++ [.ref p3])) = H14 at X14 hS14 L14 pr14 B14 hM14 hW14 hU14
        refine ⟨_, rfl, .inl ⟨rfl, _, SqL.of hU14⟩, by show 5 ≤ sizeLine; decide, fun p5 np5 => ?_⟩
        have X15 : Fr [] H14 (upd H14 p5 (.tup [.int 0, .int 1, .int 7, .int 7, .int 7])) := Fr.new0 np5 _
        have hU15 := X15.lst hU14 not_nil
        refine ⟨U, us, _, rfl, rfl, hU15, small1000' (by omega), ?_⟩
        generalize upd H14 p5 (.tup [.int 0, .int 1, .int 7, .int 7, .int 7]) = H15 at X15 hU15
        have L15 := L14.fr X15 (fun x m => nomatch m)
        have pr15 := pimp pr14 fun m w g => g.fr0 X15
        have B15 := B14.fr0 X15
        have X16 : Fr [U] H15 (upd H15 U (.lst (us ++ [.ref p5]))) := (Fr.refl _ _).upd (.head _) (.lst hU15) _
        exact ⟨_, _, _, _, _, rfl, B15.fr X16 (not_one Ubc.1.symm) (not_one Ubc.2.symm), ms, ks, X16.lst (X15.lst hM14 not_nil) (not_one UM.symm), X16.lst (X15.lst hW14 not_nil) (not_one UW.symm), pimp pr15 fun m w g => (g.fr L15 X16 (fun x m => by rw [List.mem_singleton.mp m]; exact .head _)).sub fun x m => .tail _ (.tail _ m), by rw [lk]; show 6 * i + 6 = 6 * (i + 1); omega⟩
    · obtain ⟨v6, v7, v8, v9, v10, rfl, B5, ms, ks, hM, hW, pr, lu⟩ := pv
      have lm := pr.length
      refine ⟨_, rfl, _, _, rfl, .inl (SqL.of hW), _, rfl, by omega, by omega, ?_⟩
      rw [lu, Int.toNat_natCast]
      refine for_range (lo := 0) (n := 6 * 2) (fun j σ H' => Fr [] H5 H' ∧ ∃ v6 : Option V, σ = [some (.ref a), some (.ref b), some (.ref kd), some (.ref cv), some (.ref M), some (.ref W), v6, v7, v8, v9, v10]) ⟨Fr.refl _ _, v6, rfl⟩ ?_ ?_
      · rintro j σ H6 hj ⟨X6, v6, rfl⟩
        rw [show (0 : Int) + (j : Int) = (j : Int) by omega]
        obtain ⟨m, em⟩ : ∃ x, ms[j]? = some x := ⟨_, List.getElem?_eq_getElem (by omega)⟩
        obtain ⟨kw, ek, g⟩ := pget pr em
        obtain ⟨i', o, q, q2, a', sa, su, ws, us, rs, ru, R, i6, rfl, rfl, LA, r, ok, _⟩ := g
        refine ⟨_, rfl, _, rfl, _, _, _, _, rfl, rfl, SqL.of (X6.lst hM not_nil), atI_nat em, _, rfl, _, rfl, _, _, _, _, rfl, rfl, SqL.of (X6.lst hW not_nil), atI_nat ek, ?_⟩
        exact ⟨i', o, q, q2, a', sa, su, ws, us, rs, ru, R, i6, rfl, LA.fr0 X6, r.fr0 X6, ok, fun H7 X7 => ⟨_, rfl, iteF ⟨X6.trans X7, _, rfl⟩⟩⟩
      · rintro σ H6 ⟨X6, v6, rfl⟩
        exact k H6
end
end K04

set_option Elab.async false
set_option maxRecDepth 100000
set_option maxHeartbeats 4000000
set_option exponentiation.threshold 4096
set_option linter.unusedVariables false
/-! from the names of the text to the promise of the law -/
namespace K04
open PySem PySem.Spec PyProof.Rows L2 C8 LamX UF
theorem raw0 {P : Program} {w : World} {K : PySem.W.Frag} {mg : Str → Option Value} {base : Heap} {k : Nat} {f : Addr} {fd : FuncData} {ps : List Str} {sp : Sp} (F : FnOk P w K mg base C8.CX0 k f fd ps sp) (b : L2.Binds K fd ps []) : FnR P w K mg base C8.CX0 k f sp :=
  (F.raw b .nil).imp fun vs H Q E h => by rw [List.append_nil]; exact h
theorem ty_of {K : PySem.W.Frag} {H : Hp} {a C dx : Addr} {fs : List (Str × V)} (e : H a = some (.ins C dx fs)) (cl : Cls K C) (oc : PySem.W.findIn K (.ref C) "__class__" = some (some (.builtin "object.__class__"))) (mo : PySem.W.mroIn K C (.type "object") = some true)
    (ocg : PySem.W.specialIn K (.builtin "object.__class__") "__get__" = some (some (.builtin "getset_descriptor.__get__"))) (oct : PySem.W.takesIn K (.builtin "object.__class__") = some true) : TyX K H (.ref a) (.ref C) := .base (.ins e cl oc ocg oct mo)
theorem head0 {P : Program} {w : World} {K : PySem.W.Frag} {mg : Str → Option Value} {base : Heap} {C f : Addr} {fd : FuncData} (A4 : At4 K C) (kd : SupO.ConS K C "KIND" (kN 0)) (F : FnOk P w K mg base C8.CX0 1 f fd ["self"] (spHead0 K)) : FnOk P w K mg base C8.CX0 2 f fd ["self"] (spHead 0 C) := by
  refine (F.mono (by decide)).imp fun vs H Q E h' => ?_
  obtain ⟨o, q, q2, ws, us, R, e, L, ok, k⟩ := h'
  exact ⟨0, C, o, q, q2, ws, us, R, by decide, e, L, ok, A4, kd, fun a H' n X h => k a H' n X h⟩
theorem parts0 {P : Program} {w : World} {K : PySem.W.Frag} {mg : Str → Option Value} {base : Heap} {C f : Addr} {fd : FuncData} (A4 : At4 K C) (kd : SupO.ConS K C "KIND" (kN 0)) (F : FnOk P w K mg base C8.CX0 1 f fd ["self"] (spParts0 K)) : FnOk P w K mg base C8.CX0 2 f fd ["self"] (spParts 0 C) := by
  refine (F.mono (by decide)).imp fun vs H Q E h' => ?_
  obtain ⟨o, q, q2, ws, us, R, e, L, ok, k⟩ := h'
  exact ⟨0, C, o, q, q2, ws, us, R, by decide, e, L, ok, A4, kd, fun a ta H1 X1 ha hta => k (.ref a) H1 X1 ⟨a, _, rfl, ha, (show 6 ≤ 1000 by decide), .cons rfl (.cons rfl (.cons rfl (.cons rfl (.cons rfl (.cons ⟨ta, ws, rfl, hta, Nat.le_trans ok.ls (by decide), pimp L.ps fun a s h => h.fr0 X1⟩ .nil)))))⟩⟩
theorem fin {l : PySem.W.OpenLaw} {w : World} {K : PySem.W.Frag} {mg : Str → Option Value} {fa C_Letter C_Ask C_Answer C_Probe C_Probed C_Sums f_Letter_init f_Letter_head f_Letter_parts f_Ask_head f_Ask_parts f_Answer_head f_Answer_parts f_Probe_init f_Probe_head f_Probe_parts f_Probed_init f_Probed_head f_Probed_parts f_Sums_init f_Sums_head f_Sums_parts : Addr} (T : Bl mg) (D : Ds l.prog K mg C_Letter C_Ask C_Answer C_Probe C_Probed C_Sums f_Letter_init f_Letter_head f_Letter_parts f_Ask_head f_Ask_parts f_Answer_head f_Answer_parts f_Probe_init f_Probe_head f_Probe_parts f_Probed_init f_Probed_head f_Probed_parts f_Sums_init f_Sums_head f_Sums_parts) (L : LawP K mg s_law fa) :
    ∃ fd : FuncData, (∀ (s : Shared) (u : Value), BindsTo s fd ⟨[u], []⟩ [("script", u)]) ∧ ∀ base : Heap, K.In base → base.Ns mainGlobals mg → FnOk l.prog w K mg base C8.CX0 9 fa fd ["script"] (spLaw K) := by
  obtain ⟨fd, FL, bt⟩ := L
  refine ⟨fd, bt, fun base _ _ => ?_⟩
  have t0 := D.t_Letter
  have A0 : At4 K C_Letter := ⟨t0.cl, t0.n_sender, t0.n_receiver, t0.n_beat, t0.n_number, t0.n_sayings⟩
  have t1 := D.t_Ask
  have A1 : At4 K C_Ask := ⟨t1.cl, t1.n_sender, t1.n_receiver, t1.n_beat, t1.n_number, t1.n_sayings⟩
  have t2 := D.t_Answer
  have A2 : At4 K C_Answer := ⟨t2.cl, t2.n_sender, t2.n_receiver, t2.n_beat, t2.n_number, t2.n_sayings⟩
  have t3 := D.t_Probe
  have A3 : At4 K C_Probe := ⟨t3.cl, t3.n_sender, t3.n_receiver, t3.n_beat, t3.n_number, t3.n_sayings⟩
  have t4 := D.t_Probed
  have A4 : At4 K C_Probed := ⟨t4.cl, t4.n_sender, t4.n_receiver, t4.n_beat, t4.n_number, t4.n_sayings⟩
  have t5 := D.t_Sums
  have A5 : At4 K C_Sums := ⟨t5.cl, t5.n_sender, t5.n_receiver, t5.n_beat, t5.n_number, t5.n_sayings⟩
  obtain ⟨fd0, M0, Fun0, b0⟩ := t0.ini
  have k0 := k_ini0 (P := l.prog) (w := w) (base := base) T Fun0
  have p0 : Mak l.prog w K mg base 1 "Letter" C_Letter (spIni 0 C_Letter) [] := ⟨f_Letter_init, fd0, _, [], M0, ini_of (by decide) A0 k0, t0.mgC, b0, .nil⟩
  obtain ⟨fd1, M1, Fun1, b1⟩ := t1.ini
  have p1 : Mak l.prog w K mg base 1 "Ask" C_Ask (spIni 1 C_Ask) [] := ⟨f_Letter_init, fd1, _, [], M1, ini_of (by decide) A1 (k_ini0 T Fun1), t1.mgC, b1, .nil⟩
  obtain ⟨fd2, M2, Fun2, b2⟩ := t2.ini
  have p2 : Mak l.prog w K mg base 1 "Answer" C_Answer (spIni 2 C_Answer) [] := ⟨f_Letter_init, fd2, _, [], M2, ini_of (by decide) A2 (k_ini0 T Fun2), t2.mgC, b2, .nil⟩
  obtain ⟨fd3, c3, cc3, M3, S3, b3⟩ := t3.ini
  have p3 : Mak l.prog w K mg base 2 "Probe" C_Probe (spIni 3 C_Probe) [] := ⟨f_Probe_init, fd3, _, [], M3, k_ini3 T S3 A3 t3.n_about t3.u_Probe_init (raw0 k0 b0), t3.mgC, b3, .nil⟩
  obtain ⟨fd4, c4, cc4, M4, S4, b4⟩ := t4.ini
  have p4 : Mak l.prog w K mg base 2 "Probed" C_Probed (spIni 4 C_Probed) [] := ⟨f_Probed_init, fd4, _, [], M4, k_ini4 T S4 A4 t4.n_about t4.n_reached t4.u_Probed_init (raw0 k0 b0), t4.mgC, b4, .nil⟩
  obtain ⟨fd5, c5, cc5, M5, S5, b5⟩ := t5.ini
  have p5 : Mak l.prog w K mg base 2 "Sums" C_Sums (spIni 5 C_Sums) [] := ⟨f_Sums_init, fd5, _, [], M5, k_ini5 T S5 A5 t5.n_sums t5.n_position t5.n_more t5.u_Sums_init (raw0 k0 b0), t5.mgC, b5, .nil⟩
  obtain ⟨ghead, Me0head, Fn0head, bb0head⟩ := t0.m_head
  have h0head := k_head0 (P := l.prog) (w := w) (base := base) T Fn0head
  have m0head : Met l.prog w K mg base 2 C_Letter "head" (spHead 0 C_Letter) [] := ⟨f_Letter_head, ghead, _, [], t0.cl, Me0head, head0 A0 t0.k_KIND h0head, bb0head, .nil⟩
  obtain ⟨g1head, gc1head, gcc1head, Me1head, Sd1head, bb1head⟩ := t1.m_head
  have m1head : Met l.prog w K mg base 2 C_Ask "head" (spHead 1 C_Ask) [] := ⟨f_Ask_head, g1head, _, [], t1.cl, Me1head, k_head1 T Sd1head A1  t1.k_KIND t1.u_Ask_head (raw0 h0head bb0head), bb1head, .nil⟩
  obtain ⟨g2head, gc2head, gcc2head, Me2head, Sd2head, bb2head⟩ := t2.m_head
  have m2head : Met l.prog w K mg base 2 C_Answer "head" (spHead 2 C_Answer) [] := ⟨f_Answer_head, g2head, _, [], t2.cl, Me2head, k_head2 T Sd2head A2  t2.k_KIND t2.u_Answer_head (raw0 h0head bb0head), bb2head, .nil⟩
  obtain ⟨g3head, gc3head, gcc3head, Me3head, Sd3head, bb3head⟩ := t3.m_head
  have m3head : Met l.prog w K mg base 2 C_Probe "head" (spHead 3 C_Probe) [] := ⟨f_Probe_head, g3head, _, [], t3.cl, Me3head, k_head3 T Sd3head A3 t3.n_about t3.k_KIND t3.u_Probe_head (raw0 h0head bb0head), bb3head, .nil⟩
  obtain ⟨g4head, gc4head, gcc4head, Me4head, Sd4head, bb4head⟩ := t4.m_head
  have m4head : Met l.prog w K mg base 2 C_Probed "head" (spHead 4 C_Probed) [] := ⟨f_Probed_head, g4head, _, [], t4.cl, Me4head, k_head4 T Sd4head A4 t4.n_about t4.n_reached t4.k_KIND t4.u_Probed_head (raw0 h0head bb0head), bb4head, .nil⟩
  obtain ⟨g5head, gc5head, gcc5head, Me5head, Sd5head, bb5head⟩ := t5.m_head
  have m5head : Met l.prog w K mg base 2 C_Sums "head" (spHead 5 C_Sums) [] := ⟨f_Sums_head, g5head, _, [], t5.cl, Me5head, k_head5 T Sd5head A5 t5.n_sums t5.n_position t5.n_more t5.k_KIND t5.u_Sums_head (raw0 h0head bb0head), bb5head, .nil⟩
  obtain ⟨gparts, Me0parts, Fn0parts, bb0parts⟩ := t0.m_parts
  have h0parts := k_parts0 (P := l.prog) (w := w) (base := base) T Fn0parts
  have m0parts : Met l.prog w K mg base 2 C_Letter "parts" (spParts 0 C_Letter) [] := ⟨f_Letter_parts, gparts, _, [], t0.cl, Me0parts, parts0 A0 t0.k_KIND h0parts, bb0parts, .nil⟩
  obtain ⟨g1parts, gc1parts, gcc1parts, Me1parts, Sd1parts, bb1parts⟩ := t1.m_parts
  have m1parts : Met l.prog w K mg base 2 C_Ask "parts" (spParts 1 C_Ask) [] := ⟨f_Ask_parts, g1parts, _, [], t1.cl, Me1parts, k_parts1 T Sd1parts A1  t1.k_KIND t1.u_Ask_parts (raw0 h0parts bb0parts), bb1parts, .nil⟩
  obtain ⟨g2parts, gc2parts, gcc2parts, Me2parts, Sd2parts, bb2parts⟩ := t2.m_parts
  have m2parts : Met l.prog w K mg base 2 C_Answer "parts" (spParts 2 C_Answer) [] := ⟨f_Answer_parts, g2parts, _, [], t2.cl, Me2parts, k_parts2 T Sd2parts A2  t2.k_KIND t2.u_Answer_parts (raw0 h0parts bb0parts), bb2parts, .nil⟩
  obtain ⟨g3parts, gc3parts, gcc3parts, Me3parts, Sd3parts, bb3parts⟩ := t3.m_parts
  have m3parts : Met l.prog w K mg base 2 C_Probe "parts" (spParts 3 C_Probe) [] := ⟨f_Probe_parts, g3parts, _, [], t3.cl, Me3parts, k_parts3 T Sd3parts A3 t3.n_about t3.k_KIND t3.u_Probe_parts (raw0 h0parts bb0parts), bb3parts, .nil⟩
  obtain ⟨g4parts, gc4parts, gcc4parts, Me4parts, Sd4parts, bb4parts⟩ := t4.m_parts
  have m4parts : Met l.prog w K mg base 2 C_Probed "parts" (spParts 4 C_Probed) [] := ⟨f_Probed_parts, g4parts, _, [], t4.cl, Me4parts, k_parts4 T Sd4parts A4 t4.n_about t4.n_reached t4.k_KIND t4.u_Probed_parts (raw0 h0parts bb0parts), bb4parts, .nil⟩
  obtain ⟨g5parts, gc5parts, gcc5parts, Me5parts, Sd5parts, bb5parts⟩ := t5.m_parts
  have m5parts : Met l.prog w K mg base 2 C_Sums "parts" (spParts 5 C_Sums) [] := ⟨f_Sums_parts, g5parts, _, [], t5.cl, Me5parts, k_parts5 T Sd5parts A5 t5.n_sums t5.n_position t5.n_more t5.k_KIND t5.u_Sums_parts (raw0 h0parts bb0parts), bb5parts, .nil⟩
  have p_draw : Cal l.prog w K mg base 1 "_law_draw" spDraw [] := c_law_draw T D.d_law_draw
  have p_number : Cal l.prog w K mg base 2 "_law_number" spNumber [] := c_law_number T p_draw D.d_law_number
  have p_count : Cal l.prog w K mg base 2 "_law_count" spCount [] := c_law_count T p_draw D.d_law_count
  have p_same : Cal l.prog w K mg base 4 "_law_same" (spSame 4) [] := c_law_same T D.d_law_same 4
  have p_fields : Cal l.prog w K mg base 5 "_law_fields" (spFields K) [] := c_law_fields T p_same D.d_law_fields
  have p_made : Cal l.prog w K mg base 4 "_law_made" (spMade (csF C_Letter C_Ask C_Answer C_Probe C_Probed C_Sums)) [] := c_law_made T p0 p1 p2 p3 p4 p5 D.d_law_made
  have p_rows : Cal l.prog w K mg base 5 "_law_rows" spRows [] := c_law_rows T p_draw p_number p_count (c_law_range_sum T p_draw p_number D.d_law_range_sum) (c_law_sayings T p_draw (c_law_saying T p_draw p_number (c_law_worth T p_draw D.d_law_worth) D.d_law_saying) D.d_law_sayings) D.d_law_rows
  have p_fits : Cal l.prog w K mg base 6 "_law_fits" (spFits (csF C_Letter C_Ask C_Answer C_Probe C_Probed C_Sums)) [] := c_law_fits T p_same p_fields (fun i hi => c_law_words T D.d_law_words i hi)
    (six (p_size0 T t0.p_size A0) (p_size1 T t1.p_size A1) (p_size2 T t2.p_size A2) (p_size3 T t3.p_size A3) (p_size4 T t4.p_size A4) (p_size5 T t5.p_size A5 t5.n_sums))
    (six (m0head) (m1head) (m2head) (m3head) (m4head) (m5head))
    (six (m0parts) (m1parts) (m2parts) (m3parts) (m4parts) (m5parts))
    (six (⟨A0, t0.k_KIND, fun z => absurd z (by decide), fun z => absurd z (by decide), fun z => absurd z (by decide), fun z => absurd z (by decide), fun z => absurd z (by decide)⟩) (⟨A1, t1.k_KIND, fun z => absurd z (by decide), fun z => absurd z (by decide), fun z => absurd z (by decide), fun z => absurd z (by decide), fun z => absurd z (by decide)⟩) (⟨A2, t2.k_KIND, fun z => absurd z (by decide), fun z => absurd z (by decide), fun z => absurd z (by decide), fun z => absurd z (by decide), fun z => absurd z (by decide)⟩) (⟨A3, t3.k_KIND, fun _ => t3.n_about, fun z => absurd z (by decide), fun z => absurd z (by decide), fun z => absurd z (by decide), fun z => absurd z (by decide)⟩) (⟨A4, t4.k_KIND, fun _ => t4.n_about, fun _ => t4.n_reached, fun z => absurd z (by decide), fun z => absurd z (by decide), fun z => absurd z (by decide)⟩) (⟨A5, t5.k_KIND, fun z => absurd z (by decide), fun z => absurd z (by decide), fun _ => t5.n_sums, fun _ => t5.n_position, fun _ => t5.n_more⟩))
    (six (fun e => ty_of e t0.cl t0.oc t0.mo D.ocg D.oct) (fun e => ty_of e t1.cl t1.oc t1.mo D.ocg D.oct) (fun e => ty_of e t2.cl t2.oc t2.mo D.ocg D.oct) (fun e => ty_of e t3.cl t3.oc t3.mo D.ocg D.oct) (fun e => ty_of e t4.cl t4.oc t4.mo D.ocg D.oct) (fun e => ty_of e t5.cl t5.oc t5.mo D.ocg D.oct))
    (six (D.is_Letter_Letter) (D.is_Ask_Letter) (D.is_Answer_Letter) (D.is_Probe_Letter) (D.is_Probed_Letter) (D.is_Sums_Letter)) ⟨_, t0.mgC, rfl⟩ D.d_law_fits
  exact f_law (Cs := (csF C_Letter C_Ask C_Answer C_Probe C_Probed C_Sums)) T (c_law_bag T D.d_law_bag) p_draw p_rows p_made p_same p_fits (six (t0.v_KIND) (t1.v_KIND) (t2.v_KIND) (t3.v_KIND) (t4.v_KIND) (t5.v_KIND)) ⟨_, t0.mgC, rfl⟩ ⟨_, t1.mgC, rfl⟩ ⟨_, t2.mgC, rfl⟩ ⟨_, t3.mgC, rfl⟩ ⟨_, t4.mgC, rfl⟩ ⟨_, t5.mgC, rfl⟩ FL
theorem walk {l : PySem.W.OpenLaw} {q : Program} {loose : List Str} {XP : (Str → Option Value) → Heap → Prop} {YP : World → Heap → Prop} {d : DefRec} {K : Params → PySem.W.Frag} (hn : l.most = some 63) (hdf : d.params.defaults = [])
    (hY : ∀ (w : World) (h : Heap), YP w h → (K w.params).In h)
    (F : ∀ (w : World) (mg : Str → Option Value) (fa : Addr) (h : Heap), (K w.params).In h → h.Ns mainGlobals mg → mg d.name = some (.ref fa) →
      ∃ fd : FuncData, (∀ (s : Shared) (u : Value), BindsTo s fd ⟨[u], []⟩ [("script", u)]) ∧ ∀ base : Heap, (K w.params).In base → base.Ns mainGlobals mg → FnOk l.prog w (K w.params) mg base C8.CX0 9 fa fd ["script"] (spLaw (K w.params))) :
    PySem.W.WalkO q loose XP YP l.row.toRowW d [] (fun f vs => PySem.call f vs) := walkN ⟨rfl, by decide, by decide⟩ hn hdf hY F
end K04

set_option Elab.async false
set_option maxRecDepth 100000
open PySem PySem.W PyProof.Rows
set_option maxRecDepth 100000 in
set_option maxHeartbeats 0 in
theorem PySem.Challenge.cw_livingroll_k04_letters_tell_their_parts_holds : PySem.Challenge.rw_livingroll_k04_letters_tell_their_parts.Holds := by
  w_on; o_law; k_head; (case hw => w_witness2)
  k_fill
  refine K04.walk (l := PySem.Challenge.rw_livingroll_k04_letters_tell_their_parts) rfl rfl (fun w h Y => PySem.W.kIn_of Y) ?F
  case F =>
    intro w mg fa h KX G hmg
    refine' K04.fin ?B ?D ?L
    (case B =>
      refine' UF.bl_mk KX G ?z0 ?z1 ?z2 ?z3 ?z4 ?z5 ?z6 ?z7 ?z8 ?z9 ?z10 ?z11 ?z12 ?z13 ?z14 ?z15 ?z16 ?z17 ?z18 ?z19 ?z20
      (case z0 => k_is)
      (case z1 => k_is)
      (case z2 => k_is)
      (case z3 => k_is)
      (case z4 => k_is)
      (case z5 => k_is)
      (case z6 => k_is)
      (case z7 => k_is)
      (case z8 => k_is)
      (case z9 => k_is)
      (case z10 => k_is)
      (case z11 => k_is)
      (case z12 => k_is)
      (case z13 => k_is)
      (case z14 => k_is)
      (case z15 => k_is)
      (case z16 => k_is)
      (case z17 => k_is)
      (case z18 => k_is)
      (case z19 => k_is)
      (case z20 => k_is))
    (case D =>
      refine' @K04.Ds.mk _ _ _ _ _ _ _ _ _ _ _ _ _ _ _ _ _ _ _ _ _ _ _ _ _ ?law_bag ?law_draw ?law_number ?law_count ?law_worth ?law_saying ?law_range_sum ?law_sayings ?law_same ?law_words ?law_fields ?law_made ?law_rows ?law_fits ?ocg ?oct ?is_Letter_Letter ?is_Letter_Ask ?is_Letter_Answer ?is_Letter_Probe ?is_Letter_Probed ?is_Letter_Sums ?t_Letter ?is_Ask_Letter ?is_Ask_Ask ?is_Ask_Answer ?is_Ask_Probe ?is_Ask_Probed ?is_Ask_Sums ?t_Ask ?is_Answer_Letter ?is_Answer_Ask ?is_Answer_Answer ?is_Answer_Probe ?is_Answer_Probed ?is_Answer_Sums ?t_Answer ?is_Probe_Letter ?is_Probe_Ask ?is_Probe_Answer ?is_Probe_Probe ?is_Probe_Probed ?is_Probe_Sums ?t_Probe ?is_Probed_Letter ?is_Probed_Ask ?is_Probed_Answer ?is_Probed_Probe ?is_Probed_Probed ?is_Probed_Sums ?t_Probed ?is_Sums_Letter ?is_Sums_Ask ?is_Sums_Answer ?is_Sums_Probe ?is_Sums_Probed ?is_Sums_Sums ?t_Sums
      (case t_Letter =>
        refine' K04.T_Letter.mk ?cl ?mgC ?n_sender ?n_receiver ?n_beat ?n_number ?n_sayings ?k_KIND ?v_KIND ?ini ?p_size ?m_head ?m_parts ?oc ?mo
        (case mgC =>
          refine' PySem.W.mg_of KX G ?a
          (case a => k_is))
        (case cl =>
          refine' UF.cls_mk ?a ?b ?c ?d
          (case a => k_is)
          (case b => k_is)
          (case c => k_is)
          (case d => k_is))
        (case n_sender => (show PySem.W.findIn _ _ _ = some none); k_is)
        (case n_receiver => (show PySem.W.findIn _ _ _ = some none); k_is)
        (case n_beat => (show PySem.W.findIn _ _ _ = some none); k_is)
        (case n_number => (show PySem.W.findIn _ _ _ = some none); k_is)
        (case n_sayings => (show PySem.W.findIn _ _ _ = some none); k_is)
        (case k_KIND =>
          refine' SupO.conS_mk ?a ?b ?c
          (case a => k_is)
          (case b => k_is)
          (case c => decide +kernel))
        (case v_KIND =>
          refine' SupO.cvaS_mk (mc := .type "type") ?a ?b ?c
          (case a => k_is)
          (case b => k_is)
          (case c => k_is))
        (case ini =>
          refine' SupO.iniA_mk ?m ?a ?i ?kc ?l ?c (fun _ _ _ _ _ _ us hl => match us, hl with | [_, _, _, _, _, _], _ => rfl)
          (case m => k_is)
          (case a => k_is)
          (case i => k_is)
          (case kc => k_is)
          (case l => k_is)
          (case c => k_is))
        (case p_size =>
          refine' UF.prop_mk ?a ?gt ?tk ?r ?l ?c (fun _ _ _ _ _ _ us hl => match us, hl with | [_], _ => rfl)
          (case a => k_is)
          (case gt => k_is)
          (case tk => k_is)
          (case r => k_is)
          (case l => k_is)
          (case c => k_is))
        (case m_head =>
          refine' SupO.methA_mk ?a ?i ?l ?c ?k (fun _ _ _ _ _ _ us hl => match us, hl with | [_], _ => rfl)
          (case a => k_is)
          (case i => k_is)
          (case l => k_is)
          (case c => k_is)
          (case k => k_is))
        (case m_parts =>
          refine' SupO.methA_mk ?a ?i ?l ?c ?k (fun _ _ _ _ _ _ us hl => match us, hl with | [_], _ => rfl)
          (case a => k_is)
          (case i => k_is)
          (case l => k_is)
          (case c => k_is)
          (case k => k_is))
        (case oc => k_is)
        (case mo => k_is))
      (case t_Ask =>
        refine' K04.T_Ask.mk ?cl ?mgC ?n_sender ?n_receiver ?n_beat ?n_number ?n_sayings ?k_KIND ?v_KIND ?p_size ?m_head ?m_parts ?ini ?u_Ask_head ?u_Ask_parts ?oc ?mo
        (case mgC =>
          refine' PySem.W.mg_of KX G ?a
          (case a => k_is))
        (case cl =>
          refine' UF.cls_mk ?a ?b ?c ?d
          (case a => k_is)
          (case b => k_is)
          (case c => k_is)
          (case d => k_is))
        (case n_sender => (show PySem.W.findIn _ _ _ = some none); k_is)
        (case n_receiver => (show PySem.W.findIn _ _ _ = some none); k_is)
        (case n_beat => (show PySem.W.findIn _ _ _ = some none); k_is)
        (case n_number => (show PySem.W.findIn _ _ _ = some none); k_is)
        (case n_sayings => (show PySem.W.findIn _ _ _ = some none); k_is)
        (case k_KIND =>
          refine' SupO.conS_mk ?a ?b ?c
          (case a => k_is)
          (case b => k_is)
          (case c => decide +kernel))
        (case v_KIND =>
          refine' SupO.cvaS_mk (mc := .type "type") ?a ?b ?c
          (case a => k_is)
          (case b => k_is)
          (case c => k_is))
        (case p_size =>
          refine' UF.prop_mk ?a ?gt ?tk ?r ?l ?c (fun _ _ _ _ _ _ us hl => match us, hl with | [_], _ => rfl)
          (case a => k_is)
          (case gt => k_is)
          (case tk => k_is)
          (case r => k_is)
          (case l => k_is)
          (case c => k_is))
        (case m_head =>
          refine' ⟨_, _, _, ⟨?a, ?i, ?k⟩, SupO.supD_mk ?l ?cd ?lc ?hv ?hf ?lcc ?cls ?glo ?top ?self ?opq ?ks ?kc2 ?ka, SupO.sup_binds (fun _ _ _ _ _ us hl => match us, hl with | [_], _ => rfl)⟩
          (case a => k_is)
          (case i => k_is)
          (case k => k_is)
          (case l => k_is)
          (case cd => k_is)
          (case lc => k_is)
          (case hv => first | rfl | decide +kernel | kernel_rfl)
          (case hf => first | rfl | decide +kernel | kernel_rfl)
          (case lcc => k_is)
          (case cls => k_is)
          (case glo => k_is)
          (case top => first | rfl | decide +kernel | kernel_rfl)
          (case self => first | rfl | decide +kernel | kernel_rfl)
          (case opq => k_is)
          (case ks => first | rfl | decide +kernel | kernel_rfl)
          (case kc2 => first | rfl | decide +kernel | kernel_rfl)
          (case ka => first | rfl | decide +kernel | kernel_rfl))
        (case m_parts =>
          refine' ⟨_, _, _, ⟨?a, ?i, ?k⟩, SupO.supD_mk ?l ?cd ?lc ?hv ?hf ?lcc ?cls ?glo ?top ?self ?opq ?ks ?kc2 ?ka, SupO.sup_binds (fun _ _ _ _ _ us hl => match us, hl with | [_], _ => rfl)⟩
          (case a => k_is)
          (case i => k_is)
          (case k => k_is)
          (case l => k_is)
          (case cd => k_is)
          (case lc => k_is)
          (case hv => first | rfl | decide +kernel | kernel_rfl)
          (case hf => first | rfl | decide +kernel | kernel_rfl)
          (case lcc => k_is)
          (case cls => k_is)
          (case glo => k_is)
          (case top => first | rfl | decide +kernel | kernel_rfl)
          (case self => first | rfl | decide +kernel | kernel_rfl)
          (case opq => k_is)
          (case ks => first | rfl | decide +kernel | kernel_rfl)
          (case kc2 => first | rfl | decide +kernel | kernel_rfl)
          (case ka => first | rfl | decide +kernel | kernel_rfl))
        (case ini =>
          refine' SupO.iniA_mk ?m ?a ?i ?kc ?l ?c (fun _ _ _ _ _ _ us hl => match us, hl with | [_, _, _, _, _, _], _ => rfl)
          (case m => k_is)
          (case a => k_is)
          (case i => k_is)
          (case kc => k_is)
          (case l => k_is)
          (case c => k_is))
        (case u_Ask_head =>
          refine' ⟨?s, ?a, ?t, ?f⟩
          (case s => k_is)
          (case a => ks_is)
          (case t => k_is)
          (case f => k_is))
        (case u_Ask_parts =>
          refine' ⟨?s, ?a, ?t, ?f⟩
          (case s => k_is)
          (case a => ks_is)
          (case t => k_is)
          (case f => k_is))
        (case oc => k_is)
        (case mo => k_is))
      (case t_Answer =>
        refine' K04.T_Answer.mk ?cl ?mgC ?n_sender ?n_receiver ?n_beat ?n_number ?n_sayings ?k_KIND ?v_KIND ?p_size ?m_head ?m_parts ?ini ?u_Answer_head ?u_Answer_parts ?oc ?mo
        (case mgC =>
          refine' PySem.W.mg_of KX G ?a
          (case a => k_is))
        (case cl =>
          refine' UF.cls_mk ?a ?b ?c ?d
          (case a => k_is)
          (case b => k_is)
          (case c => k_is)
          (case d => k_is))
        (case n_sender => (show PySem.W.findIn _ _ _ = some none); k_is)
        (case n_receiver => (show PySem.W.findIn _ _ _ = some none); k_is)
        (case n_beat => (show PySem.W.findIn _ _ _ = some none); k_is)
        (case n_number => (show PySem.W.findIn _ _ _ = some none); k_is)
        (case n_sayings => (show PySem.W.findIn _ _ _ = some none); k_is)
        (case k_KIND =>
          refine' SupO.conS_mk ?a ?b ?c
          (case a => k_is)
          (case b => k_is)
          (case c => decide +kernel))
        (case v_KIND =>
          refine' SupO.cvaS_mk (mc := .type "type") ?a ?b ?c
          (case a => k_is)
          (case b => k_is)
          (case c => k_is))
        (case p_size =>
          refine' UF.prop_mk ?a ?gt ?tk ?r ?l ?c (fun _ _ _ _ _ _ us hl => match us, hl with | [_], _ => rfl)
          (case a => k_is)
          (case gt => k_is)
          (case tk => k_is)
          (case r => k_is)
          (case l => k_is)
          (case c => k_is))
        (case m_head =>
          refine' ⟨_, _, _, ⟨?a, ?i, ?k⟩, SupO.supD_mk ?l ?cd ?lc ?hv ?hf ?lcc ?cls ?glo ?top ?self ?opq ?ks ?kc2 ?ka, SupO.sup_binds (fun _ _ _ _ _ us hl => match us, hl with | [_], _ => rfl)⟩
          (case a => k_is)
          (case i => k_is)
          (case k => k_is)
          (case l => k_is)
          (case cd => k_is)
          (case lc => k_is)
          (case hv => first | rfl | decide +kernel | kernel_rfl)
          (case hf => first | rfl | decide +kernel | kernel_rfl)
          (case lcc => k_is)
          (case cls => k_is)
          (case glo => k_is)
          (case top => first | rfl | decide +kernel | kernel_rfl)
          (case self => first | rfl | decide +kernel | kernel_rfl)
          (case opq => k_is)
          (case ks => first | rfl | decide +kernel | kernel_rfl)
          (case kc2 => first | rfl | decide +kernel | kernel_rfl)
          (case ka => first | rfl | decide +kernel | kernel_rfl))
        (case m_parts =>
          refine' ⟨_, _, _, ⟨?a, ?i, ?k⟩, SupO.supD_mk ?l ?cd ?lc ?hv ?hf ?lcc ?cls ?glo ?top ?self ?opq ?ks ?kc2 ?ka, SupO.sup_binds (fun _ _ _ _ _ us hl => match us, hl with | [_], _ => rfl)⟩
          (case a => k_is)
          (case i => k_is)
          (case k => k_is)
          (case l => k_is)
          (case cd => k_is)
          (case lc => k_is)
          (case hv => first | rfl | decide +kernel | kernel_rfl)
          (case hf => first | rfl | decide +kernel | kernel_rfl)
          (case lcc => k_is)
          (case cls => k_is)
          (case glo => k_is)
          (case top => first | rfl | decide +kernel | kernel_rfl)
          (case self => first | rfl | decide +kernel | kernel_rfl)
          (case opq => k_is)
          (case ks => first | rfl | decide +kernel | kernel_rfl)
          (case kc2 => first | rfl | decide +kernel | kernel_rfl)
          (case ka => first | rfl | decide +kernel | kernel_rfl))
        (case ini =>
          refine' SupO.iniA_mk ?m ?a ?i ?kc ?l ?c (fun _ _ _ _ _ _ us hl => match us, hl with | [_, _, _, _, _, _], _ => rfl)
          (case m => k_is)
          (case a => k_is)
          (case i => k_is)
          (case kc => k_is)
          (case l => k_is)
          (case c => k_is))
        (case u_Answer_head =>
          refine' ⟨?s, ?a, ?t, ?f⟩
          (case s => k_is)
          (case a => ks_is)
          (case t => k_is)
          (case f => k_is))
        (case u_Answer_parts =>
          refine' ⟨?s, ?a, ?t, ?f⟩
          (case s => k_is)
          (case a => ks_is)
          (case t => k_is)
          (case f => k_is))
        (case oc => k_is)
        (case mo => k_is))
      (case t_Probe =>
        refine' K04.T_Probe.mk ?cl ?mgC ?n_about ?n_sender ?n_receiver ?n_beat ?n_number ?n_sayings ?k_KIND ?v_KIND ?ini ?p_size ?m_head ?m_parts ?u_Probe_init ?u_Probe_head ?u_Probe_parts ?oc ?mo
        (case mgC =>
          refine' PySem.W.mg_of KX G ?a
          (case a => k_is))
        (case cl =>
          refine' UF.cls_mk ?a ?b ?c ?d
          (case a => k_is)
          (case b => k_is)
          (case c => k_is)
          (case d => k_is))
        (case n_about => (show PySem.W.findIn _ _ _ = some none); k_is)
        (case n_sender => (show PySem.W.findIn _ _ _ = some none); k_is)
        (case n_receiver => (show PySem.W.findIn _ _ _ = some none); k_is)
        (case n_beat => (show PySem.W.findIn _ _ _ = some none); k_is)
        (case n_number => (show PySem.W.findIn _ _ _ = some none); k_is)
        (case n_sayings => (show PySem.W.findIn _ _ _ = some none); k_is)
        (case k_KIND =>
          refine' SupO.conS_mk ?a ?b ?c
          (case a => k_is)
          (case b => k_is)
          (case c => decide +kernel))
        (case v_KIND =>
          refine' SupO.cvaS_mk (mc := .type "type") ?a ?b ?c
          (case a => k_is)
          (case b => k_is)
          (case c => k_is))
        (case ini =>
          refine' ⟨_, _, _, ⟨?m, ?a, ?i, ?kc⟩, SupO.supD_mk ?l ?cd ?lc ?hv ?hf ?lcc ?cls ?glo ?top ?self ?opq ?ks ?kc2 ?ka, SupO.sup_binds (fun _ _ _ _ _ us hl => match us, hl with | [_, _, _, _, _, _, _], _ => rfl)⟩
          (case m => k_is)
          (case a => k_is)
          (case i => k_is)
          (case kc => k_is)
          (case l => k_is)
          (case cd => k_is)
          (case lc => k_is)
          (case hv => first | rfl | decide +kernel | kernel_rfl)
          (case hf => first | rfl | decide +kernel | kernel_rfl)
          (case lcc => k_is)
          (case cls => k_is)
          (case glo => k_is)
          (case top => first | rfl | decide +kernel | kernel_rfl)
          (case self => first | rfl | decide +kernel | kernel_rfl)
          (case opq => k_is)
          (case ks => first | rfl | decide +kernel | kernel_rfl)
          (case kc2 => first | rfl | decide +kernel | kernel_rfl)
          (case ka => first | rfl | decide +kernel | kernel_rfl))
        (case p_size =>
          refine' UF.prop_mk ?a ?gt ?tk ?r ?l ?c (fun _ _ _ _ _ _ us hl => match us, hl with | [_], _ => rfl)
          (case a => k_is)
          (case gt => k_is)
          (case tk => k_is)
          (case r => k_is)
          (case l => k_is)
          (case c => k_is))
        (case m_head =>
          refine' ⟨_, _, _, ⟨?a, ?i, ?k⟩, SupO.supD_mk ?l ?cd ?lc ?hv ?hf ?lcc ?cls ?glo ?top ?self ?opq ?ks ?kc2 ?ka, SupO.sup_binds (fun _ _ _ _ _ us hl => match us, hl with | [_], _ => rfl)⟩
          (case a => k_is)
          (case i => k_is)
          (case k => k_is)
          (case l => k_is)
          (case cd => k_is)
          (case lc => k_is)
          (case hv => first | rfl | decide +kernel | kernel_rfl)
          (case hf => first | rfl | decide +kernel | kernel_rfl)
          (case lcc => k_is)
          (case cls => k_is)
          (case glo => k_is)
          (case top => first | rfl | decide +kernel | kernel_rfl)
          (case self => first | rfl | decide +kernel | kernel_rfl)
          (case opq => k_is)
          (case ks => first | rfl | decide +kernel | kernel_rfl)
          (case kc2 => first | rfl | decide +kernel | kernel_rfl)
          (case ka => first | rfl | decide +kernel | kernel_rfl))
        (case m_parts =>
          refine' ⟨_, _, _, ⟨?a, ?i, ?k⟩, SupO.supD_mk ?l ?cd ?lc ?hv ?hf ?lcc ?cls ?glo ?top ?self ?opq ?ks ?kc2 ?ka, SupO.sup_binds (fun _ _ _ _ _ us hl => match us, hl with | [_], _ => rfl)⟩
          (case a => k_is)
          (case i => k_is)
          (case k => k_is)
          (case l => k_is)
          (case cd => k_is)
          (case lc => k_is)
          (case hv => first | rfl | decide +kernel | kernel_rfl)
          (case hf => first | rfl | decide +kernel | kernel_rfl)
          (case lcc => k_is)
          (case cls => k_is)
          (case glo => k_is)
          (case top => first | rfl | decide +kernel | kernel_rfl)
          (case self => first | rfl | decide +kernel | kernel_rfl)
          (case opq => k_is)
          (case ks => first | rfl | decide +kernel | kernel_rfl)
          (case kc2 => first | rfl | decide +kernel | kernel_rfl)
          (case ka => first | rfl | decide +kernel | kernel_rfl))
        (case u_Probe_init =>
          refine' ⟨?s, ?a, ?t, ?f⟩
          (case s => k_is)
          (case a => ks_is)
          (case t => k_is)
          (case f => k_is))
        (case u_Probe_head =>
          refine' ⟨?s, ?a, ?t, ?f⟩
          (case s => k_is)
          (case a => ks_is)
          (case t => k_is)
          (case f => k_is))
        (case u_Probe_parts =>
          refine' ⟨?s, ?a, ?t, ?f⟩
          (case s => k_is)
          (case a => ks_is)
          (case t => k_is)
          (case f => k_is))
        (case oc => k_is)
        (case mo => k_is))
      (case t_Probed =>
        refine' K04.T_Probed.mk ?cl ?mgC ?n_about ?n_reached ?n_sender ?n_receiver ?n_beat ?n_number ?n_sayings ?k_KIND ?v_KIND ?ini ?p_size ?m_head ?m_parts ?u_Probed_init ?u_Probed_head ?u_Probed_parts ?oc ?mo
        (case mgC =>
          refine' PySem.W.mg_of KX G ?a
          (case a => k_is))
        (case cl =>
          refine' UF.cls_mk ?a ?b ?c ?d
          (case a => k_is)
          (case b => k_is)
          (case c => k_is)
          (case d => k_is))
        (case n_about => (show PySem.W.findIn _ _ _ = some none); k_is)
        (case n_reached => (show PySem.W.findIn _ _ _ = some none); k_is)
        (case n_sender => (show PySem.W.findIn _ _ _ = some none); k_is)
        (case n_receiver => (show PySem.W.findIn _ _ _ = some none); k_is)
        (case n_beat => (show PySem.W.findIn _ _ _ = some none); k_is)
        (case n_number => (show PySem.W.findIn _ _ _ = some none); k_is)
        (case n_sayings => (show PySem.W.findIn _ _ _ = some none); k_is)
        (case k_KIND =>
          refine' SupO.conS_mk ?a ?b ?c
          (case a => k_is)
          (case b => k_is)
          (case c => decide +kernel))
        (case v_KIND =>
          refine' SupO.cvaS_mk (mc := .type "type") ?a ?b ?c
          (case a => k_is)
          (case b => k_is)
          (case c => k_is))
        (case ini =>
          refine' ⟨_, _, _, ⟨?m, ?a, ?i, ?kc⟩, SupO.supD_mk ?l ?cd ?lc ?hv ?hf ?lcc ?cls ?glo ?top ?self ?opq ?ks ?kc2 ?ka, SupO.sup_binds (fun _ _ _ _ _ us hl => match us, hl with | [_, _, _, _, _, _, _, _], _ => rfl)⟩
          (case m => k_is)
          (case a => k_is)
          (case i => k_is)
          (case kc => k_is)
          (case l => k_is)
          (case cd => k_is)
          (case lc => k_is)
          (case hv => first | rfl | decide +kernel | kernel_rfl)
          (case hf => first | rfl | decide +kernel | kernel_rfl)
          (case lcc => k_is)
          (case cls => k_is)
          (case glo => k_is)
          (case top => first | rfl | decide +kernel | kernel_rfl)
          (case self => first | rfl | decide +kernel | kernel_rfl)
          (case opq => k_is)
          (case ks => first | rfl | decide +kernel | kernel_rfl)
          (case kc2 => first | rfl | decide +kernel | kernel_rfl)
          (case ka => first | rfl | decide +kernel | kernel_rfl))
        (case p_size =>
          refine' UF.prop_mk ?a ?gt ?tk ?r ?l ?c (fun _ _ _ _ _ _ us hl => match us, hl with | [_], _ => rfl)
          (case a => k_is)
          (case gt => k_is)
          (case tk => k_is)
          (case r => k_is)
          (case l => k_is)
          (case c => k_is))
        (case m_head =>
          refine' ⟨_, _, _, ⟨?a, ?i, ?k⟩, SupO.supD_mk ?l ?cd ?lc ?hv ?hf ?lcc ?cls ?glo ?top ?self ?opq ?ks ?kc2 ?ka, SupO.sup_binds (fun _ _ _ _ _ us hl => match us, hl with | [_], _ => rfl)⟩
          (case a => k_is)
          (case i => k_is)
          (case k => k_is)
          (case l => k_is)
          (case cd => k_is)
          (case lc => k_is)
          (case hv => first | rfl | decide +kernel | kernel_rfl)
          (case hf => first | rfl | decide +kernel | kernel_rfl)
          (case lcc => k_is)
          (case cls => k_is)
          (case glo => k_is)
          (case top => first | rfl | decide +kernel | kernel_rfl)
          (case self => first | rfl | decide +kernel | kernel_rfl)
          (case opq => k_is)
          (case ks => first | rfl | decide +kernel | kernel_rfl)
          (case kc2 => first | rfl | decide +kernel | kernel_rfl)
          (case ka => first | rfl | decide +kernel | kernel_rfl))
        (case m_parts =>
          refine' ⟨_, _, _, ⟨?a, ?i, ?k⟩, SupO.supD_mk ?l ?cd ?lc ?hv ?hf ?lcc ?cls ?glo ?top ?self ?opq ?ks ?kc2 ?ka, SupO.sup_binds (fun _ _ _ _ _ us hl => match us, hl with | [_], _ => rfl)⟩
          (case a => k_is)
          (case i => k_is)
          (case k => k_is)
          (case l => k_is)
          (case cd => k_is)
          (case lc => k_is)
          (case hv => first | rfl | decide +kernel | kernel_rfl)
          (case hf => first | rfl | decide +kernel | kernel_rfl)
          (case lcc => k_is)
          (case cls => k_is)
          (case glo => k_is)
          (case top => first | rfl | decide +kernel | kernel_rfl)
          (case self => first | rfl | decide +kernel | kernel_rfl)
          (case opq => k_is)
          (case ks => first | rfl | decide +kernel | kernel_rfl)
          (case kc2 => first | rfl | decide +kernel | kernel_rfl)
          (case ka => first | rfl | decide +kernel | kernel_rfl))
        (case u_Probed_init =>
          refine' ⟨?s, ?a, ?t, ?f⟩
          (case s => k_is)
          (case a => ks_is)
          (case t => k_is)
          (case f => k_is))
        (case u_Probed_head =>
          refine' ⟨?s, ?a, ?t, ?f⟩
          (case s => k_is)
          (case a => ks_is)
          (case t => k_is)
          (case f => k_is))
        (case u_Probed_parts =>
          refine' ⟨?s, ?a, ?t, ?f⟩
          (case s => k_is)
          (case a => ks_is)
          (case t => k_is)
          (case f => k_is))
        (case oc => k_is)
        (case mo => k_is))
      (case t_Sums =>
        refine' K04.T_Sums.mk ?cl ?mgC ?n_sums ?n_position ?n_more ?n_sender ?n_receiver ?n_beat ?n_number ?n_sayings ?k_KIND ?v_KIND ?ini ?p_size ?m_head ?m_parts ?u_Sums_init ?u_Sums_head ?u_Sums_parts ?oc ?mo
        (case mgC =>
          refine' PySem.W.mg_of KX G ?a
          (case a => k_is))
        (case cl =>
          refine' UF.cls_mk ?a ?b ?c ?d
          (case a => k_is)
          (case b => k_is)
          (case c => k_is)
          (case d => k_is))
        (case n_sums => (show PySem.W.findIn _ _ _ = some none); k_is)
        (case n_position => (show PySem.W.findIn _ _ _ = some none); k_is)
        (case n_more => (show PySem.W.findIn _ _ _ = some none); k_is)
        (case n_sender => (show PySem.W.findIn _ _ _ = some none); k_is)
        (case n_receiver => (show PySem.W.findIn _ _ _ = some none); k_is)
        (case n_beat => (show PySem.W.findIn _ _ _ = some none); k_is)
        (case n_number => (show PySem.W.findIn _ _ _ = some none); k_is)
        (case n_sayings => (show PySem.W.findIn _ _ _ = some none); k_is)
        (case k_KIND =>
          refine' SupO.conS_mk ?a ?b ?c
          (case a => k_is)
          (case b => k_is)
          (case c => decide +kernel))
        (case v_KIND =>
          refine' SupO.cvaS_mk (mc := .type "type") ?a ?b ?c
          (case a => k_is)
          (case b => k_is)
          (case c => k_is))
        (case ini =>
          refine' ⟨_, _, _, ⟨?m, ?a, ?i, ?kc⟩, SupO.supD_mk ?l ?cd ?lc ?hv ?hf ?lcc ?cls ?glo ?top ?self ?opq ?ks ?kc2 ?ka, SupO.sup_binds (fun _ _ _ _ _ us hl => match us, hl with | [_, _, _, _, _, _, _, _, _], _ => rfl)⟩
          (case m => k_is)
          (case a => k_is)
          (case i => k_is)
          (case kc => k_is)
          (case l => k_is)
          (case cd => k_is)
          (case lc => k_is)
          (case hv => first | rfl | decide +kernel | kernel_rfl)
          (case hf => first | rfl | decide +kernel | kernel_rfl)
          (case lcc => k_is)
          (case cls => k_is)
          (case glo => k_is)
          (case top => first | rfl | decide +kernel | kernel_rfl)
          (case self => first | rfl | decide +kernel | kernel_rfl)
          (case opq => k_is)
          (case ks => first | rfl | decide +kernel | kernel_rfl)
          (case kc2 => first | rfl | decide +kernel | kernel_rfl)
          (case ka => first | rfl | decide +kernel | kernel_rfl))
        (case p_size =>
          refine' UF.prop_mk ?a ?gt ?tk ?r ?l ?c (fun _ _ _ _ _ _ us hl => match us, hl with | [_], _ => rfl)
          (case a => k_is)
          (case gt => k_is)
          (case tk => k_is)
          (case r => k_is)
          (case l => k_is)
          (case c => k_is))
        (case m_head =>
          refine' ⟨_, _, _, ⟨?a, ?i, ?k⟩, SupO.supD_mk ?l ?cd ?lc ?hv ?hf ?lcc ?cls ?glo ?top ?self ?opq ?ks ?kc2 ?ka, SupO.sup_binds (fun _ _ _ _ _ us hl => match us, hl with | [_], _ => rfl)⟩
          (case a => k_is)
          (case i => k_is)
          (case k => k_is)
          (case l => k_is)
          (case cd => k_is)
          (case lc => k_is)
          (case hv => first | rfl | decide +kernel | kernel_rfl)
          (case hf => first | rfl | decide +kernel | kernel_rfl)
          (case lcc => k_is)
          (case cls => k_is)
          (case glo => k_is)
          (case top => first | rfl | decide +kernel | kernel_rfl)
          (case self => first | rfl | decide +kernel | kernel_rfl)
          (case opq => k_is)
          (case ks => first | rfl | decide +kernel | kernel_rfl)
          (case kc2 => first | rfl | decide +kernel | kernel_rfl)
          (case ka => first | rfl | decide +kernel | kernel_rfl))
        (case m_parts =>
          refine' ⟨_, _, _, ⟨?a, ?i, ?k⟩, SupO.supD_mk ?l ?cd ?lc ?hv ?hf ?lcc ?cls ?glo ?top ?self ?opq ?ks ?kc2 ?ka, SupO.sup_binds (fun _ _ _ _ _ us hl => match us, hl with | [_], _ => rfl)⟩
          (case a => k_is)
          (case i => k_is)
          (case k => k_is)
          (case l => k_is)
          (case cd => k_is)
          (case lc => k_is)
          (case hv => first | rfl | decide +kernel | kernel_rfl)
          (case hf => first | rfl | decide +kernel | kernel_rfl)
          (case lcc => k_is)
          (case cls => k_is)
          (case glo => k_is)
          (case top => first | rfl | decide +kernel | kernel_rfl)
          (case self => first | rfl | decide +kernel | kernel_rfl)
          (case opq => k_is)
          (case ks => first | rfl | decide +kernel | kernel_rfl)
          (case kc2 => first | rfl | decide +kernel | kernel_rfl)
          (case ka => first | rfl | decide +kernel | kernel_rfl))
        (case u_Sums_init =>
          refine' ⟨?s, ?a, ?t, ?f⟩
          (case s => k_is)
          (case a => ks_is)
          (case t => k_is)
          (case f => k_is))
        (case u_Sums_head =>
          refine' ⟨?s, ?a, ?t, ?f⟩
          (case s => k_is)
          (case a => ks_is)
          (case t => k_is)
          (case f => k_is))
        (case u_Sums_parts =>
          refine' ⟨?s, ?a, ?t, ?f⟩
          (case s => k_is)
          (case a => ks_is)
          (case t => k_is)
          (case f => k_is))
        (case oc => k_is)
        (case mo => k_is))
      (case law_bag =>
        refine' UF.d0_mk KX G ?a ?l ?c ?k (fun _ _ _ _ _ _ us hl => match us, hl with | [_], _ => rfl)
        (case a => k_is)
        (case l => k_is)
        (case c => k_is)
        (case k => k_is))
      (case law_draw =>
        refine' UF.d0_mk KX G ?a ?l ?c ?k (fun _ _ _ _ _ _ us hl => match us, hl with | [_, _], _ => rfl)
        (case a => k_is)
        (case l => k_is)
        (case c => k_is)
        (case k => k_is))
      (case law_number =>
        refine' UF.d0_mk KX G ?a ?l ?c ?k (fun _ _ _ _ _ _ us hl => match us, hl with | [_, _], _ => rfl)
        (case a => k_is)
        (case l => k_is)
        (case c => k_is)
        (case k => k_is))
      (case law_count =>
        refine' UF.d0_mk KX G ?a ?l ?c ?k (fun _ _ _ _ _ _ us hl => match us, hl with | [_, _], _ => rfl)
        (case a => k_is)
        (case l => k_is)
        (case c => k_is)
        (case k => k_is))
      (case law_worth =>
        refine' UF.d0_mk KX G ?a ?l ?c ?k (fun _ _ _ _ _ _ us hl => match us, hl with | [_], _ => rfl)
        (case a => k_is)
        (case l => k_is)
        (case c => k_is)
        (case k => k_is))
      (case law_saying =>
        refine' UF.d0_mk KX G ?a ?l ?c ?k (fun _ _ _ _ _ _ us hl => match us, hl with | [_, _], _ => rfl)
        (case a => k_is)
        (case l => k_is)
        (case c => k_is)
        (case k => k_is))
      (case law_range_sum =>
        refine' UF.d0_mk KX G ?a ?l ?c ?k (fun _ _ _ _ _ _ us hl => match us, hl with | [_, _], _ => rfl)
        (case a => k_is)
        (case l => k_is)
        (case c => k_is)
        (case k => k_is))
      (case law_sayings =>
        refine' UF.d0_mk KX G ?a ?l ?c ?k (fun _ _ _ _ _ _ us hl => match us, hl with | [_, _, _], _ => rfl)
        (case a => k_is)
        (case l => k_is)
        (case c => k_is)
        (case k => k_is))
      (case law_same =>
        refine' UF.d0_mk KX G ?a ?l ?c ?k (fun _ _ _ _ _ _ us hl => match us, hl with | [_, _], _ => rfl)
        (case a => k_is)
        (case l => k_is)
        (case c => k_is)
        (case k => k_is))
      (case law_words =>
        refine' UF.d0_mk KX G ?a ?l ?c ?k (fun _ _ _ _ _ _ us hl => match us, hl with | [_], _ => rfl)
        (case a => k_is)
        (case l => k_is)
        (case c => k_is)
        (case k => k_is))
      (case law_fields =>
        refine' UF.d0_mk KX G ?a ?l ?c ?k (fun _ _ _ _ _ _ us hl => match us, hl with | [_, _], _ => rfl)
        (case a => k_is)
        (case l => k_is)
        (case c => k_is)
        (case k => k_is))
      (case law_made =>
        refine' UF.d0_mk KX G ?a ?l ?c ?k (fun _ _ _ _ _ _ us hl => match us, hl with | [_, _, _], _ => rfl)
        (case a => k_is)
        (case l => k_is)
        (case c => k_is)
        (case k => k_is))
      (case law_rows =>
        refine' UF.d0_mk KX G ?a ?l ?c ?k (fun _ _ _ _ _ _ us hl => match us, hl with | [_, _], _ => rfl)
        (case a => k_is)
        (case l => k_is)
        (case c => k_is)
        (case k => k_is))
      (case law_fits =>
        refine' UF.d0_mk KX G ?a ?l ?c ?k (fun _ _ _ _ _ _ us hl => match us, hl with | [_, _], _ => rfl)
        (case a => k_is)
        (case l => k_is)
        (case c => k_is)
        (case k => k_is))
      (case ocg => k_is)
      (case oct => k_is)
      (case is_Letter_Letter => kit_is)
      (case is_Letter_Ask => kit_is)
      (case is_Letter_Answer => kit_is)
      (case is_Letter_Probe => kit_is)
      (case is_Letter_Probed => kit_is)
      (case is_Letter_Sums => kit_is)
      (case is_Ask_Letter => kit_is)
      (case is_Ask_Ask => kit_is)
      (case is_Ask_Answer => kit_is)
      (case is_Ask_Probe => kit_is)
      (case is_Ask_Probed => kit_is)
      (case is_Ask_Sums => kit_is)
      (case is_Answer_Letter => kit_is)
      (case is_Answer_Ask => kit_is)
      (case is_Answer_Answer => kit_is)
      (case is_Answer_Probe => kit_is)
      (case is_Answer_Probed => kit_is)
      (case is_Answer_Sums => kit_is)
      (case is_Probe_Letter => kit_is)
      (case is_Probe_Ask => kit_is)
      (case is_Probe_Answer => kit_is)
      (case is_Probe_Probe => kit_is)
      (case is_Probe_Probed => kit_is)
      (case is_Probe_Sums => kit_is)
      (case is_Probed_Letter => kit_is)
      (case is_Probed_Ask => kit_is)
      (case is_Probed_Answer => kit_is)
      (case is_Probed_Probe => kit_is)
      (case is_Probed_Probed => kit_is)
      (case is_Probed_Sums => kit_is)
      (case is_Sums_Letter => kit_is)
      (case is_Sums_Ask => kit_is)
      (case is_Sums_Answer => kit_is)
      (case is_Sums_Probe => kit_is)
      (case is_Sums_Probed => kit_is)
      (case is_Sums_Sums => kit_is))
    (case L =>
      refine' UF.law_mk KX G hmg ?aL ?lL ?cL (fun _ _ _ _ _ _ _ => rfl)
      (case aL => k_is)
      (case lL => k_is)
      (case cL => k_is))
