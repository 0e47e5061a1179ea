import PyProof.Rows.All
import Wide.All
import OpenK.AllK
import Wide.FinOn
import HandS.Base
import HandS.Call
import HandS.List
import HandS.Comp
import HandS.Ends
import HandS.Text
import HandS.Words
import HandS.Codes
import HandS.Wide
import HandS.Dict
import HandS.Style
import HandS.Small
import HandS.Lambda
import HandS.IsInst
import HandS.Defaults
import HandS.MakeKwOnly
import HandS.Property
import HandS.CallRecv
import HandS.Conv
import HandS.Flow
import HandS.Strs
import HandS.EndTab
import KE.KExcIs
import HandS.ExcInit
import HandS.ExcField
import HandS.ExcOwn
import HandS.ExcIs
import KE.KDictZip
import KE.KItemsList
import HandS.Iter
import HandS.SortInts
import HandS.Walk
import HandS.DictComp
import HandS.WideBits
import HandS.More
import HandS.OwnEq
import HandS.Nested
import HandS.ClsMeth
import HandS.Star
import KE.KSuper
import HandS.SetKeys
import PyProof.DictMoreH
import KE.RegKSuper
import KE.RegKIsAll
import PySem.Challenge.RW_livingroll_k44_answers_of_losses
set_option Elab.async false
set_option maxRecDepth 100000
set_option maxHeartbeats 4000000
set_option exponentiation.threshold 4096
/-! what stays between two heaps -/
namespace UF
open PySem PySem.Spec PyProof.Rows L2 C8 LamX

/-- none stands there, or a table of code -/
def Nw (H : Hp) (a : Addr) : Prop := ∀ o, H a = some o → ∃ ps, o = .tbl ps
theorem Nw.of {H : Hp} {a : Addr} (h : H a = none) : Nw H a := fun o e => by rw [h] at e; cases e
theorem ne_nw {H : Hp} {a b : Addr} {o : HO} (h : H a = some o) (n : Nw H b) (nt : ∀ ps, o ≠ .tbl ps := by intro ps z; cases z) : a ≠ b := fun e => by
  obtain ⟨ps, z⟩ := n o (by rw [← e]; exact h)
  exact nt ps z
/-- what stands there is no table and no code -/
def Pl (H : Hp) (a : Addr) : Prop := ∃ o, H a = some o ∧ (∀ ps, o ≠ .tbl ps) ∧ ∀ φ, o ≠ .ext φ
section
variable {H : Hp} {a : Addr}
theorem Pl.lst {xs : List V} (h : H a = some (.lst xs)) : Pl H a := ⟨_, h, fun _ z => (nomatch z), fun _ z => nomatch z⟩
theorem Pl.tup {xs : List V} (h : H a = some (.tup xs)) : Pl H a := ⟨_, h, fun _ z => (nomatch z), fun _ z => nomatch z⟩
theorem Pl.dK {xs : List (Key × V)} (h : H a = some (.dK xs)) : Pl H a := ⟨_, h, fun _ z => (nomatch z), fun _ z => nomatch z⟩
theorem Pl.dT {xs : List (List Key × V)} (h : H a = some (.dT xs)) : Pl H a := ⟨_, h, fun _ z => (nomatch z), fun _ z => nomatch z⟩
theorem Pl.ins {C dx : Addr} {fs : List (Str × V)} (h : H a = some (.ins C dx fs)) : Pl H a := ⟨_, h, fun _ z => (nomatch z), fun _ z => nomatch z⟩
end
/-- all that was tracked stays, but what stands at ds and tables; nothing is dropped (weak: tables may grow) -/
structure Fw (ds : List Addr) (H H' : Hp) : Prop where
  keep : ∀ a o, H a = some o → a ∉ ds → (∀ ps, o ≠ .tbl ps) → H' a = some o
  live : ∀ a, Nw H' a → Nw H a
/-- .. and tables stay as they are -/
structure Fr (ds : List Addr) (H H' : Hp) : Prop extends Fw ds H H' where
  tabs : ∀ T, Tabs T H → Tabs T H'
variable {ds es : List Addr} {H H1 H2 : Hp} {a b : Addr}
theorem Fr.w (x : Fr ds H H1) : Fw ds H H1 := x.toFw
theorem Fw.refl (ds : List Addr) (H : Hp) : Fw ds H H := ⟨fun _ _ h _ _ => h, fun _ h => h⟩
theorem Fr.refl (ds : List Addr) (H : Hp) : Fr ds H H := ⟨.refl _ _, fun _ h => h⟩
theorem Fw.trans (x : Fw ds H H1) (y : Fw ds H1 H2) : Fw ds H H2 := ⟨fun a o h n t => y.keep a o (x.keep a o h n t) n t, fun a h => x.live a (y.live a h)⟩
theorem Fr.trans (x : Fr ds H H1) (y : Fr ds H1 H2) : Fr ds H H2 := ⟨x.w.trans y.w, fun T h => y.tabs T (x.tabs T h)⟩
theorem Fw.mono (x : Fw ds H H1) (h : ∀ a, a ∈ ds → a ∈ es) : Fw es H H1 := ⟨fun a o z n t => x.keep a o z (fun m => n (h a m)) t, x.live⟩
theorem Fr.mono (x : Fr ds H H1) (h : ∀ a, a ∈ ds → a ∈ es) : Fr es H H1 := ⟨x.w.mono h, x.tabs⟩
theorem tabs_new {T : List (Addr × Str)} (hT : Tabs T H) (h : H b = none) (o : HO) : Tabs T (L2.upd H b o) := hT.ext fun c u e => by
  rw [upd_ne (ne_of_none e h)]
  exact e
theorem tabs_put {T : List (Addr × Str)} (hT : Tabs T H) (h : Pl H b) (o : HO) : Tabs T (L2.upd H b o) := fun p hp => by
  obtain ⟨ps, h1, h2, h3⟩ := hT p hp
  obtain ⟨u, hu, n1, n2⟩ := h
  refine ⟨ps, ?_, h2, fun pos cv hc => ?_⟩
  · rw [upd_ne (fun e => by rw [e, hu] at h1; exact n1 _ (Option.some.inj h1))]
    exact h1
  · obtain ⟨c, e, hcc⟩ := h3 pos cv hc
    refine ⟨c, e, ?_⟩
    rw [upd_ne (fun z => by rw [z, hu] at hcc; exact n2 _ (Option.some.inj hcc))]
    exact hcc
theorem Fw.upd (x : Fw ds H H1) (m : b ∈ ds) (o : HO) (nt : ∀ ps, o ≠ .tbl ps := by intro ps z; cases z) : Fw ds H (L2.upd H1 b o) := ⟨fun a u h n t => by
  rw [upd_ne (fun e : a = b => n (by rw [e]; exact m))]
  exact x.keep a u h n t, fun a h' => by
  refine x.live a fun u e => ?_
  by_cases q : a = b
  · obtain ⟨ps, z⟩ := h' o (by rw [q, upd_same])
    exact absurd z (nt ps)
  · exact h' u (by rw [upd_ne q]; exact e)⟩
theorem Fr.upd (x : Fr ds H H1) (m : b ∈ ds) (h : Pl H1 b) (o : HO) (nt : ∀ ps, o ≠ .tbl ps := by intro ps z; cases z) : Fr ds H (L2.upd H1 b o) := ⟨x.w.upd m o nt, fun T hT => tabs_put (x.tabs T hT) h o⟩
theorem Fw.new (x : Fw ds H H1) (n : H1 b = none) (o : HO) : Fw ds H (L2.upd H1 b o) := ⟨fun a u h q t => by
  have z := x.keep a u h q t
  rw [upd_ne (ne_of_none z n)]
  exact z, fun a h' => by
  refine x.live a fun u e => ?_
  refine h' u ?_
  rw [upd_ne (ne_of_none e n)]
  exact e⟩
theorem Fr.new (x : Fr ds H H1) (n : H1 b = none) (o : HO) : Fr ds H (L2.upd H1 b o) := ⟨x.w.new n o, fun T hT => tabs_new (x.tabs T hT) n o⟩
/-- a store into what was not there at the start -/
theorem Fw.late (x : Fw ds H H1) (n : Nw H b) (o : HO) (nt : ∀ ps, o ≠ .tbl ps := by intro ps z; cases z) : Fw ds H (L2.upd H1 b o) := ⟨fun a u h q t => by
  rw [upd_ne (ne_nw h n t)]
  exact x.keep a u h q t, fun a h' => by
  refine x.live a fun u e => ?_
  by_cases q : a = b
  · obtain ⟨ps, z⟩ := h' o (by rw [q, upd_same])
    exact absurd z (nt ps)
  · exact h' u (by rw [upd_ne q]; exact e)⟩
theorem Fr.late (x : Fr ds H H1) (n : Nw H b) (h : Pl H1 b) (o : HO) (nt : ∀ ps, o ≠ .tbl ps := by intro ps z; cases z) : Fr ds H (L2.upd H1 b o) := ⟨x.w.late n o nt, fun T hT => tabs_put (x.tabs T hT) h o⟩
theorem Fr.new0 (n : H b = none) (o : HO) : Fr ds H (L2.upd H b o) := (Fr.refl ds H).new n o
/-- then a step that changes what was not there at the start -/
theorem Fw.tail (x : Fw ds H H1) (y : Fw es H1 H2) (h : ∀ a, a ∈ es → a ∈ ds ∨ Nw H a) : Fw ds H H2 := ⟨fun a o z n t => y.keep a o (x.keep a o z n t) (fun m => by
  rcases h a m with q | q
  · exact n q
  · exact ne_nw z q t rfl) t, fun a h => x.live a (y.live a h)⟩
theorem Fr.tail (x : Fr ds H H1) (y : Fr es H1 H2) (h : ∀ a, a ∈ es → a ∈ ds ∨ Nw H a) : Fr ds H H2 := ⟨x.w.tail y.w h, fun T hT => y.tabs T (x.tabs T hT)⟩
theorem Fw.ofN (e : ExtN H H1) (l : ∀ a, Nw H1 a → Nw H a) : Fw ds H H1 := ⟨fun a o h _ t => e a o h t, l⟩
/-- a lambda's step: nothing that is no table goes, so new is new -/
theorem Fw.ext (e : ExtN H H1) : Fw ds H H1 := ⟨fun a o h _ t => e a o h t, fun a n o h => by
  by_cases t : ∃ ps, o = .tbl ps
  · exact t
  · exact n o (e a o h fun ps z => t ⟨ps, z⟩)⟩
section
variable {x : Fw ds H H1}
theorem Fw.lst {xs : List V} (x : Fw ds H H1) (h : H a = some (.lst xs)) (n : a ∉ ds) : H1 a = some (.lst xs) := x.keep a _ h n fun _ z => nomatch z
theorem Fw.tup {xs : List V} (x : Fw ds H H1) (h : H a = some (.tup xs)) (n : a ∉ ds) : H1 a = some (.tup xs) := x.keep a _ h n fun _ z => nomatch z
theorem Fw.dK {xs : List (Key × V)} (x : Fw ds H H1) (h : H a = some (.dK xs)) (n : a ∉ ds) : H1 a = some (.dK xs) := x.keep a _ h n fun _ z => nomatch z
theorem Fw.dT {xs : List (List Key × V)} (x : Fw ds H H1) (h : H a = some (.dT xs)) (n : a ∉ ds) : H1 a = some (.dT xs) := x.keep a _ h n fun _ z => nomatch z
theorem Fw.ins {C dx : Addr} {fs : List (Str × V)} (x : Fw ds H H1) (h : H a = some (.ins C dx fs)) (n : a ∉ ds) : H1 a = some (.ins C dx fs) := x.keep a _ h n fun _ z => nomatch z
theorem Fr.lst {xs : List V} (x : Fr ds H H1) (h : H a = some (.lst xs)) (n : a ∉ ds) : H1 a = some (.lst xs) := x.w.lst h n
theorem Fr.tup {xs : List V} (x : Fr ds H H1) (h : H a = some (.tup xs)) (n : a ∉ ds) : H1 a = some (.tup xs) := x.w.tup h n
theorem Fr.dK {xs : List (Key × V)} (x : Fr ds H H1) (h : H a = some (.dK xs)) (n : a ∉ ds) : H1 a = some (.dK xs) := x.w.dK h n
theorem Fr.dT {xs : List (List Key × V)} (x : Fr ds H H1) (h : H a = some (.dT xs)) (n : a ∉ ds) : H1 a = some (.dT xs) := x.w.dT h n
theorem Fr.ins {C dx : Addr} {fs : List (Str × V)} (x : Fr ds H H1) (h : H a = some (.ins C dx fs)) (n : a ∉ ds) : H1 a = some (.ins C dx fs) := x.w.ins h n
end
theorem not_nil {a : Addr} : a ∉ ([] : List Addr) := fun m => nomatch m
theorem not_one {a b : Addr} (h : a ≠ b) : a ∉ [b] := fun m => h (List.mem_singleton.mp m)
theorem not_two {a b c : Addr} (h : a ≠ b) (g : a ≠ c) : a ∉ [b, c] := fun m => by
  rcases List.mem_cons.mp m with e | m
  · exact h e
  · exact g (List.mem_singleton.mp m)
theorem not_cons {a b : Addr} {ds : List Addr} (h : a ≠ b) (g : a ∉ ds) : a ∉ b :: ds := fun m => by
  rcases List.mem_cons.mp m with e | m
  · exact h e
  · exact g m
/-- the same objects with fewer premises -/
theorem upd_new {o : HO} (h : H1 b = none) {p : HO} (q : H1 a = some p) : L2.upd H1 b o a = some p := by
  rw [upd_ne (ne_of_none q h)]; exact q

/-! ### numbers -/
theorem pm {b : Int} (h : 0 < b) : 0 < b := h
theorem dvw {j : Int} (h : 0 < j) (h2 : j < 2 ^ 2000) (i : Int) : CDivW i j := by
  refine wide_div h (b := 2000) ?_ (by decide) (by decide)
  have e : (2 : Int) ^ 2000 = ((2 ^ 2000 : Nat) : Int) := by simp
  rw [e] at h2
  generalize (2 : Nat) ^ 2000 = z at h2 ⊢
  omega
theorem at_lt {α : Type} {xs : List α} {z : Int} (h0 : 0 ≤ z) (h1 : z < xs.length) : ∃ v, atI xs z = some v := by
  obtain ⟨j, rfl⟩ := Int.eq_ofNat_of_zero_le h0
  have hl : j < xs.length := by omega
  exact ⟨xs[j], atI_nat (List.getElem?_eq_getElem hl)⟩
theorem at_map {xs : List Int} {z : Int} {v : V} (h : atI (xs.map V.int) z = some v) : ∃ n : Int, v = .int n := by
  obtain ⟨j, _, e, _⟩ := atI_get h
  rw [List.getElem?_map] at e
  cases q : xs[j]? with
  | none => rw [q] at e; cases e
  | some n => rw [q] at e; exact ⟨n, (Option.some.inj e).symm⟩
theorem small1000' {n : Nat} (h : n ≤ 1000) : n < sizeLine := Nat.lt_of_le_of_lt h (by decide)
/-- an item of a list of whole numbers -/
theorem int_at {xs : List Int} {z : Int} (h0 : 0 ≤ z) (h1 : z < xs.length) : ∃ n : Int, atI (xs.map V.int) z = some (.int n) ∧ n ∈ xs ∧ xs[z.toNat]? = some n := by
  obtain ⟨j, rfl⟩ := Int.eq_ofNat_of_zero_le h0
  have hl : j < xs.length := by omega
  refine ⟨xs[j], atI_nat ?_, List.getElem_mem hl, ?_⟩
  · rw [List.getElem?_map, List.getElem?_eq_getElem hl]; rfl
  · exact List.getElem?_eq_getElem hl
theorem map_at {α : Type} {f : α → V} {xs : List α} {z : Int} (h0 : 0 ≤ z) (h1 : z < xs.length) : ∃ n, atI (xs.map f) z = some (f n) ∧ n ∈ xs ∧ xs[z.toNat]? = some n := by
  obtain ⟨j, rfl⟩ := Int.eq_ofNat_of_zero_le h0
  have hl : j < xs.length := by omega
  refine ⟨xs[j], atI_nat ?_, List.getElem_mem hl, ?_⟩
  · rw [List.getElem?_map, List.getElem?_eq_getElem hl]; rfl
  · exact List.getElem?_eq_getElem hl
theorem twoP {a b : Int} {P Q : Prop} (h1 : a = b → P) (h2 : ¬ a = b → Q) : (decide (V.int a = V.int b) = true → P) ∧ (¬ decide (V.int a = V.int b) = true → Q) := by
  refine ⟨fun z => h1 ?_, fun z => h2 fun e => z ?_⟩
  · have z := of_decide_eq_true z
    injection z
  · rw [e]
    exact decide_eq_true rfl
theorem eqI {a b : Int} (h : decide (V.int a = V.int b) = true) : a = b := by
  have z := of_decide_eq_true h
  injection z
theorem neI {a b : Int} (h : ¬ decide (V.int a = V.int b) = true) : ¬ a = b := fun e => h (by rw [e]; exact decide_eq_true rfl)
theorem decI {a b : Int} (h : a = b) : decide (V.int a = V.int b) = true := by rw [h]; exact decide_eq_true rfl
theorem decIn {a b : Int} (h : ¬ a = b) : decide (V.int a = V.int b) = false := decide_eq_false fun e => h (by injection e)

/-! ### settings' fields -/
def fs5 (n p r g h : Int) : List (Str × V) := [("bits", .int n), ("patience", .int p), ("room", .int r), ("grace", .int g), ("helpers", .int h)]
section
variable {n p r g h : Int}
theorem fs5_bits : (fs5 n p r g h).lookup ("bits" : Str) = some (.int n) := by kernel_rfl
theorem fs5_patience : (fs5 n p r g h).lookup ("patience" : Str) = some (.int p) := by kernel_rfl
theorem fs5_room : (fs5 n p r g h).lookup ("room" : Str) = some (.int r) := by kernel_rfl
theorem fs5_grace : (fs5 n p r g h).lookup ("grace" : Str) = some (.int g) := by kernel_rfl
theorem fs5_helpers : (fs5 n p r g h).lookup ("helpers" : Str) = some (.int h) := by kernel_rfl
theorem fs5_seats : (fs5 n p r g h).lookup ("seats" : Str) = none := by kernel_rfl
theorem fs5_cycle : (fs5 n p r g h).lookup ("cycle" : Str) = none := by kernel_rfl
theorem fs5_stripes : (fs5 n p r g h).lookup ("stripes" : Str) = none := by kernel_rfl
theorem fs5_puts : putF ("helpers" : Str) (V.int h) (putF ("grace" : Str) (V.int g) (putF ("room" : Str) (V.int r) (putF ("patience" : Str) (V.int p) (putF ("bits" : Str) (V.int n) [])))) = fs5 n p r g h := by kernel_rfl
end
end UF
namespace UF
open PySem PySem.Spec PyProof.Rows L2
theorem putF_len (f : Str) (v : V) : ∀ fs : List (Str × V), (putF f v fs).length ≤ fs.length + 1
  | [] => Nat.le_refl _
  | (g, x) :: r => by
    unfold putF
    split
    · exact Nat.le_succ _
    · exact Nat.succ_le_succ (putF_len f v r)
end UF

set_option Elab.async false
set_option maxRecDepth 100000
set_option maxHeartbeats 4000000
/-! how the defs, classes and built-ins of a text are named, whatever the law -/
namespace UF
open PySem PySem.Spec PyProof.Rows L2 C8 LamX

/-- the built-ins that a text may call -/
structure Bl (mg : Str → Option Value) : Prop where
  int : mg "int" = none
  bool : mg "bool" = none
  list : mg "list" = none
  len : mg "len" = none
  tuple : mg "tuple" = none
  str : mg "str" = none
  sum : mg "sum" = none
  abs : mg "abs" = none
  max : mg "max" = none
  min : mg "min" = none
  range : mg "range" = none
  isinstance : mg "isinstance" = none
  sorted : mg "sorted" = none
  reversed : mg "reversed" = none
  enumerate : mg "enumerate" = none
  zip : mg "zip" = none
  all : mg "all" = none
  any : mg "any" = none
  dict : mg "dict" = none
  set : mg "set" = none
  ord : mg "ord" = none

/-- a def of the text that is called with all its parameters -/
structure D0 (K : PySem.W.Frag) (mg : Str → Option Value) (x : Str) (st : Stmt) (ps : List Str) : Prop where
  ex : ∃ (f : Addr) (fd : FuncData), C8.Def K mg x st f fd ∧ L2.Binds K fd ps []
/-- a method, a property of the class at C -/
def MethP (K : PySem.W.Frag) (C : Addr) (m q : Str) (st : Stmt) (ps : List Str) : Prop := ∃ (f : Addr) (fd : FuncData), Meth K C m f ∧ C8.Fun K m q st f fd ∧ L2.Binds K fd ps []
def PropP (K : PySem.W.Frag) (C : Addr) (m q : Str) (st : Stmt) : Prop := ∃ (p g : Addr) (fd : FuncData), PropOf K C m p g ∧ C8.Fun K m q st g fd ∧ L2.Binds K fd ["self"] []
def IniP (K : PySem.W.Frag) (C : Addr) (q : Str) (st : Stmt) (ps : List Str) : Prop := ∃ (f : Addr) (fd : FuncData), Mk K C f ∧ C8.Fun K "__init__" q st f fd ∧ L2.Binds K fd ps []
/-- an __init__ with keyword-only defaults -/
def IniD (K : PySem.W.Frag) (C : Addr) (q : Str) (st : Stmt) (kws : List (Str × V)) : Prop := ∃ (f : Addr) (fd : FuncData), Mk K C f ∧ FunD K "__init__" q (C8.fnArgs st) (C8.fnBody st) (C8.fnScope st) [] kws f fd
def ConP (K : PySem.W.Frag) (C : Addr) (x : Str) (n : Int) : Prop := ∃ u, Con K C x (.int n) u

section
variable {P : Program} {w : World} {K : PySem.W.Frag} {mg : Str → Option Value} {base : Heap}
theorem cal {x : Str} {st : Stmt} {N ps : List Str} {k : Nat} {sp : Sp} (d : D0 K mg x st ps) (S : FnScope N ps (C8.fnScope st)) (len : ∀ vs H Q E, sp vs H Q E → vs.length = ps.length)
    (hbody : ∀ (cdv : Value) (A : Around) (outer : List Env) (f : Addr) (s : Shared) (H : Hp) (vs : List V) (Q : VK) (E : XK), Room k (A.deeper (envOfC x (C8.fnScope st) s.heap.objs.size f cdv)) → sp vs H Q E →
      ∃ t, PSs (cxOf C8.CX0 P w K mg base N x (C8.fnScope st) f cdv A outer s H E).nox (C8.fnBody st) t ∧ t { nx := fun _ H' => Q .non H', rt := Q } (start N vs) H) : Cal P w K mg base (k + 1) x sp [] := by
  obtain ⟨f, fd, D, b⟩ := d.ex
  exact cal0 D b .nil S len fun cdv A outer s H vs Q E hr h => hbody cdv A outer f s H vs Q E hr h
theorem met {m q : Str} {C : Addr} {st : Stmt} {N ps : List Str} {k : Nat} {sp : Sp} (d : MethP K C m q st ps) (c : Cls K C) (S : FnScope N ps (C8.fnScope st)) (len : ∀ vs H Q E, sp vs H Q E → vs.length = ps.length)
    (hbody : ∀ (cdv : Value) (A : Around) (outer : List Env) (f : Addr) (s : Shared) (H : Hp) (vs : List V) (Q : VK) (E : XK), Room k (A.deeper (envOfC q (C8.fnScope st) s.heap.objs.size f cdv)) → sp vs H Q E →
      ∃ t, PSs (cxOf C8.CX0 P w K mg base N q (C8.fnScope st) f cdv A outer s H E).nox (C8.fnBody st) t ∧ t { nx := fun _ H' => Q .non H', rt := Q } (start N vs) H) : Met P w K mg base (k + 1) C m sp [] := by
  obtain ⟨f, fd, M, F, b⟩ := d
  exact met0 c M F b S len fun cdv A outer s H vs Q E hr h => hbody cdv A outer f s H vs Q E hr h
theorem mak {x q : Str} {C : Addr} {st : Stmt} {N ps : List Str} {k : Nat} {sp : Sp} (d : IniP K C q st ps) (hm : mg x = some (.ref C)) (S : FnScope N ps (C8.fnScope st)) (len : ∀ vs H Q E, sp vs H Q E → vs.length = ps.length)
    (hbody : ∀ (cdv : Value) (A : Around) (outer : List Env) (f : Addr) (s : Shared) (H : Hp) (vs : List V) (Q : VK) (E : XK), Room k (A.deeper (envOfC q (C8.fnScope st) s.heap.objs.size f cdv)) → sp vs H Q E →
      ∃ t, PSs (cxOf C8.CX0 P w K mg base N q (C8.fnScope st) f cdv A outer s H E).nox (C8.fnBody st) t ∧ t { nx := fun _ H' => Q .non H', rt := Q } (start N vs) H) : Mak P w K mg base (k + 1) x C sp [] := by
  obtain ⟨f, fd, M, F, b⟩ := d
  exact mak0 M hm F b .nil S len fun cdv A outer s H vs Q E hr h => hbody cdv A outer f s H vs Q E hr h
/-- the promise of a property's getter -/
def Prp (P : Program) (w : World) (K : PySem.W.Frag) (mg : Str → Option Value) (base : Heap) (k : Nat) (C : Addr) (m : Str) (sp : Sp) : Prop :=
  ∃ (p g : Addr) (fd : FuncData), Cls K C ∧ PropOf K C m p g ∧ FnOk P w K mg base C8.CX0 k g fd ["self"] sp ∧ L2.Binds K fd ["self"] []
theorem prp {m q : Str} {C : Addr} {st : Stmt} {N : List Str} {k : Nat} {sp : Sp} (d : PropP K C m q st) (c : Cls K C) (S : FnScope N ["self"] (C8.fnScope st)) (len : ∀ vs H Q E, sp vs H Q E → vs.length = 1)
    (hbody : ∀ (cdv : Value) (A : Around) (outer : List Env) (f : Addr) (s : Shared) (H : Hp) (vs : List V) (Q : VK) (E : XK), Room k (A.deeper (envOfC q (C8.fnScope st) s.heap.objs.size f cdv)) → sp vs H Q E →
      ∃ t, PSs (cxOf C8.CX0 P w K mg base N q (C8.fnScope st) f cdv A outer s H E).nox (C8.fnBody st) t ∧ t { nx := fun _ H' => Q .non H', rt := Q } (start N vs) H) : Prp P w K mg base (k + 1) C m sp := by
  obtain ⟨p, g, fd, M, F, b⟩ := d
  exact ⟨p, g, fd, c, M, C8.fn0 F S len fun cdv A outer s H vs Q E hr h => hbody cdv A outer g s H vs Q E hr h, b⟩
end
theorem pe_pr {X : Cx} {k j : Nat} {C : Addr} {m : Str} {sp : Sp} {e : Expr} {pos : Pos} {ta : TE} (c : Prp X.prog X.w X.K X.mg X.base k C m sp) (hr : Room j X.A) (hk : k + 1 ≤ j) (he : PE X e ta)
    (hab : attributeBase e m X.env (eval e X.env) = eval e X.env := by rfl) : PE X (.Attribute e m pos) (tProp C sp [] C8.E0 ta) := by
  obtain ⟨p, g, fd, cl, hp, F, b⟩ := c
  exact pe_prop he cl hp F (hr.mono hk) b .nil (C8.pass0 (E := C8.E0)) hab
theorem pe_c0 {X : Cx} {k j : Nat} {x : Str} {sp : Sp} {dvs : List V} {p pos : Pos} (c : Cal X.prog X.w X.K X.mg X.base k x sp dvs) (hr : Room j X.A) (hk : k ≤ j) (hg : Gl X x) (hdb : (x == ("__debug__" : Str)) = false := by decide) :
    PE X (.Call (.Name x p) [] [] pos) (tCall sp dvs C8.E0 tNil) := by
  obtain ⟨f, fd, ps, ds, F, hm, kp, b, d⟩ := c.ex
  exact pe_call0 F (hr.mono hk) hg hm kp b d C8.pass0 hdb
theorem pe_mk0 {X : Cx} {k j : Nat} {C : Addr} {x : Str} {sp : Sp} {dvs : List V} {p pos : Pos} (c : Mak X.prog X.w X.K X.mg X.base k x C sp dvs) (hr : Room j X.A) (hk : k + 1 ≤ j) (hg : Gl X x) (hdb : (x == ("__debug__" : Str)) = false := by decide) :
    PE X (.Call (.Name x p) [] [] pos) (tMake C sp dvs C8.E0 tNil) := by
  obtain ⟨f, fd, ps, ds, M, F, hm, b, d⟩ := c.ex
  exact pe_make0 M F (hr.mono hk) hg hm b d C8.pass0 hdb
theorem u1 {k : Nat} {A : Around} (hr : Room k A) : A.units + 1 < cLine := by
  have := hr.units
  omega

section
variable {K : PySem.W.Frag} {h : Heap} {mg : Str → Option Value}
theorem d0_mk {x : Str} {st : Stmt} {ps : List Str} {f : Addr} {oc : Value} {od an : Option Addr} {osl : Array (Option Value)} {kV doc pm cdv ct : Value} (X : K.In h) (G : h.Ns mainGlobals mg) (a : PySem.W.nsIn K mainGlobals x = some (some (.ref f)))
    (l : K.lookup f = some ⟨oc, od, .func (PySem.W.fnOf x x (C8.fnArgs st) (C8.fnBody st) (C8.fnScope st) .none kV doc pm an cdv ct), osl⟩) (c : PySem.W.codeIn K cdv x = true) (k : PySem.W.keepIn K (.ref f) = true)
    (hb : ∀ (kV doc pm : Value) (an : Option Addr) (cdv ct : Value) (us : List Value), us.length = ps.length → bindArgs (PySem.W.fnOf x x (C8.fnArgs st) (C8.fnBody st) (C8.fnScope st) .none kV doc pm an cdv ct) ⟨us, []⟩ = pure (ps.zip us)) : D0 K mg x st ps :=
  have F : C8.Fun K x x st f _ := ⟨⟨oc, od, _, kV, doc, pm, an, cdv, ct, osl, rfl, l, c⟩⟩
  ⟨f, _, ⟨F, PySem.W.mg_of X G a, k⟩, F.binds rfl hb⟩
theorem meth_mk {C f : Addr} {m q : Str} {st : Stmt} {ps : List Str} {oc : Value} {od an : Option Addr} {osl : Array (Option Value)} {kV doc pm cdv ct : Value} (a : PySem.W.findIn K (.ref C) m = some (some (.ref f))) (i : PySem.W.isFn K (.ref f) = true)
    (l : K.lookup f = some ⟨oc, od, .func (PySem.W.fnOf m q (C8.fnArgs st) (C8.fnBody st) (C8.fnScope st) .none kV doc pm an cdv ct), osl⟩) (c : PySem.W.codeIn K cdv q = true) (k : PySem.W.keepIn K (.ref f) = true)
    (hb : ∀ (kV doc pm : Value) (an : Option Addr) (cdv ct : Value) (us : List Value), us.length = ps.length → bindArgs (PySem.W.fnOf m q (C8.fnArgs st) (C8.fnBody st) (C8.fnScope st) .none kV doc pm an cdv ct) ⟨us, []⟩ = pure (ps.zip us)) : MethP K C m q st ps :=
  have F : C8.Fun K m q st f _ := ⟨⟨oc, od, _, kV, doc, pm, an, cdv, ct, osl, rfl, l, c⟩⟩
  ⟨f, _, ⟨a, i, k⟩, F, F.binds rfl hb⟩
theorem ini_mk {C f : Addr} {q : Str} {st : Stmt} {ps : List Str} {oc : Value} {od an : Option Addr} {osl : Array (Option Value)} {kV doc pm cdv ct : Value} (m : PySem.W.makesIn K C = true) (a : PySem.W.findIn K (.ref C) "__init__" = some (some (.ref f))) (i : PySem.W.isFn K (.ref f) = true) (kc : PySem.W.keepIn K (.ref C) = true)
    (l : K.lookup f = some ⟨oc, od, .func (PySem.W.fnOf "__init__" q (C8.fnArgs st) (C8.fnBody st) (C8.fnScope st) .none kV doc pm an cdv ct), osl⟩) (c : PySem.W.codeIn K cdv q = true)
    (hb : ∀ (kV doc pm : Value) (an : Option Addr) (cdv ct : Value) (us : List Value), us.length = ps.length → bindArgs (PySem.W.fnOf "__init__" q (C8.fnArgs st) (C8.fnBody st) (C8.fnScope st) .none kV doc pm an cdv ct) ⟨us, []⟩ = pure (ps.zip us)) : IniP K C q st ps :=
  have F : C8.Fun K "__init__" q st f _ := ⟨⟨oc, od, _, kV, doc, pm, an, cdv, ct, osl, rfl, l, c⟩⟩
  ⟨f, _, ⟨m, a, i, kc⟩, F, F.binds rfl hb⟩
theorem con_mk {C : Addr} {x : Str} {n : Int} {tk : Tok} (a : PySem.W.findIn K (.ref C) x = some (some (.int n tk))) (g : PySem.W.specialIn K (.int n tk) "__get__" = some none) (cp : PySem.W.copiedNames.contains x = false) : ConP K C x n :=
  ⟨.int n tk, a, ⟨_, rfl⟩, g, cp⟩
theorem inid2_mk {C f D : Addr} {q x1 x2 : Str} {n1 n2 : Int} {st : Stmt} {oc : Value} {od an : Option Addr} {osl : Array (Option Value)} {doc pm cdv ct : Value} {t1 t2 : Tok} (m : PySem.W.makesIn K C = true) (a : PySem.W.findIn K (.ref C) "__init__" = some (some (.ref f))) (i : PySem.W.isFn K (.ref f) = true) (kc : PySem.W.keepIn K (.ref C) = true)
    (l : K.lookup f = some ⟨oc, od, .func (PySem.W.fnOf "__init__" q (C8.fnArgs st) (C8.fnBody st) (C8.fnScope st) .none (.ref D) doc pm an cdv ct), osl⟩) (c : PySem.W.codeIn K cdv q = true) (k : PySem.W.keepIn K (.ref f) = true)
    (g1 : PySem.W.nsIn K D x1 = some (some (.int n1 t1))) (g2 : PySem.W.nsIn K D x2 = some (some (.int n2 t2))) : IniD K C q st [(x1, .int n1), (x2, .int n2)] :=
  ⟨f, _, ⟨m, a, i, kc⟩, ⟨oc, od, _, _, doc, pm, an, cdv, ct, osl, rfl, l, c, .inl ⟨rfl, rfl⟩, .inr ⟨D, rfl, fun q hq => by
    cases hq with
    | head => exact ⟨_, g1, _, rfl⟩
    | tail _ hq => cases hq with
      | head => exact ⟨_, g2, _, rfl⟩
      | tail _ hq => cases hq⟩⟩, k⟩
theorem inidN_mk {C f D : Addr} {q x1 : Str} {st : Stmt} {oc : Value} {od an : Option Addr} {osl : Array (Option Value)} {doc pm cdv ct : Value} (m : PySem.W.makesIn K C = true) (a : PySem.W.findIn K (.ref C) "__init__" = some (some (.ref f))) (i : PySem.W.isFn K (.ref f) = true) (kc : PySem.W.keepIn K (.ref C) = true)
    (l : K.lookup f = some ⟨oc, od, .func (PySem.W.fnOf "__init__" q (C8.fnArgs st) (C8.fnBody st) (C8.fnScope st) .none (.ref D) doc pm an cdv ct), osl⟩) (c : PySem.W.codeIn K cdv q = true) (k : PySem.W.keepIn K (.ref f) = true)
    (g1 : PySem.W.nsIn K D x1 = some (some .none)) : IniD K C q st [(x1, .non)] :=
  ⟨f, _, ⟨m, a, i, kc⟩, ⟨oc, od, _, _, doc, pm, an, cdv, ct, osl, rfl, l, c, .inl ⟨rfl, rfl⟩, .inr ⟨D, rfl, fun q hq => by
    cases hq with
    | head => exact ⟨_, g1, rfl⟩
    | tail _ hq => cases hq⟩⟩, k⟩
theorem prop_mk {C p g : Addr} {m q : Str} {st : Stmt} {rest : List Value} {oc : Value} {od an : Option Addr} {osl : Array (Option Value)} {kV doc pm cdv ct : Value} (a : PySem.W.findIn K (.ref C) m = some (some (.ref p))) (gt : PySem.W.specialIn K (.ref p) "__get__" = some (some (.builtin "property.__get__"))) (tk : PySem.W.takesIn K (.ref p) = some true)
    (r : PySem.W.recIn K p "property" = some (.ref g :: rest))
    (l : K.lookup g = some ⟨oc, od, .func (PySem.W.fnOf m q (C8.fnArgs st) (C8.fnBody st) (C8.fnScope st) .none kV doc pm an cdv ct), osl⟩) (c : PySem.W.codeIn K cdv q = true)
    (hb : ∀ (kV doc pm : Value) (an : Option Addr) (cdv ct : Value) (us : List Value), us.length = ["self"].length → bindArgs (PySem.W.fnOf m q (C8.fnArgs st) (C8.fnBody st) (C8.fnScope st) .none kV doc pm an cdv ct) ⟨us, []⟩ = pure ((["self"] : List Str).zip us)) : PropP K C m q st :=
  have F : C8.Fun K m q st g _ := ⟨⟨oc, od, _, kV, doc, pm, an, cdv, ct, osl, rfl, l, c⟩⟩
  ⟨p, g, _, ⟨a, gt, tk, rest, r⟩, F, F.binds (ps := ["self"]) rfl hb⟩
theorem cls_mk {C : Addr} (pg : PySem.W.plainGet K C Str.empty = true) (hd : PySem.W.hasDictIn K C = true) (po : PySem.W.plainOver K C = true) (sa : PySem.W.findIn K (.ref C) "__setattr__" = some (some (.builtin "object.__setattr__"))) : Cls K C := ⟨pg, hd, po, sa⟩
theorem bl_mk (X : K.In h) (G : h.Ns mainGlobals mg) (z0 : PySem.W.nsIn K mainGlobals "int" = some none) (z1 : PySem.W.nsIn K mainGlobals "bool" = some none) (z2 : PySem.W.nsIn K mainGlobals "list" = some none) (z3 : PySem.W.nsIn K mainGlobals "len" = some none)
    (z4 : PySem.W.nsIn K mainGlobals "tuple" = some none) (z5 : PySem.W.nsIn K mainGlobals "str" = some none) (z6 : PySem.W.nsIn K mainGlobals "sum" = some none) (z7 : PySem.W.nsIn K mainGlobals "abs" = some none) (z8 : PySem.W.nsIn K mainGlobals "max" = some none) (z9 : PySem.W.nsIn K mainGlobals "min" = some none)
    (z10 : PySem.W.nsIn K mainGlobals "range" = some none) (z11 : PySem.W.nsIn K mainGlobals "isinstance" = some none) (z12 : PySem.W.nsIn K mainGlobals "sorted" = some none) (z13 : PySem.W.nsIn K mainGlobals "reversed" = some none) (z14 : PySem.W.nsIn K mainGlobals "enumerate" = some none) (z15 : PySem.W.nsIn K mainGlobals "zip" = some none)
    (z16 : PySem.W.nsIn K mainGlobals "all" = some none) (z17 : PySem.W.nsIn K mainGlobals "any" = some none) (z18 : PySem.W.nsIn K mainGlobals "dict" = some none) (z19 : PySem.W.nsIn K mainGlobals "set" = some none) (z20 : PySem.W.nsIn K mainGlobals "ord" = some none) : Bl mg :=
  ⟨PySem.W.mg_none_of X G z0, PySem.W.mg_none_of X G z1, PySem.W.mg_none_of X G z2, PySem.W.mg_none_of X G z3, PySem.W.mg_none_of X G z4, PySem.W.mg_none_of X G z5, PySem.W.mg_none_of X G z6, PySem.W.mg_none_of X G z7, PySem.W.mg_none_of X G z8, PySem.W.mg_none_of X G z9, PySem.W.mg_none_of X G z10,
    PySem.W.mg_none_of X G z11, PySem.W.mg_none_of X G z12, PySem.W.mg_none_of X G z13, PySem.W.mg_none_of X G z14, PySem.W.mg_none_of X G z15, PySem.W.mg_none_of X G z16, PySem.W.mg_none_of X G z17, PySem.W.mg_none_of X G z18, PySem.W.mg_none_of X G z19, PySem.W.mg_none_of X G z20⟩
/-- a tuple of texts of the module -/
def TupP (K : PySem.W.Frag) (mg : Str → Option Value) (x : Str) (l : List V) : Prop := ∃ a : Addr, mg x = some (.ref a) ∧ ∀ H, SqT K H a l
theorem tup2s_mk {x : Str} {a : Addr} {s1 s2 : Str} {t1 t2 : Tok} {n : Nat} {od : Option Addr} {osl : Array (Option Value)} (X : K.In h) (G : h.Ns mainGlobals mg) (e : PySem.W.nsIn K mainGlobals x = some (some (.ref a))) (l : K.lookup a = some ⟨.type "tuple", od, .seq #[.str s1 t1, .str s2 t2] n, osl⟩) : TupP K mg x [.str s1, .str s2] :=
  ⟨a, PySem.W.mg_of X G e, fun _ => .inr ⟨_, _, _, l, rfl, rfl, by show 2 ≤ sizeLine; decide, .cons ⟨_, rfl⟩ (.cons ⟨_, rfl⟩ .nil)⟩⟩
/-- a def of the text whose code makes a lambda: its code object at c -/
structure D1 (K : PySem.W.Frag) (mg : Str → Option Value) (x : Str) (st : Stmt) (c : Addr) : Prop where
  ex : ∃ (f : Addr) (oc : Value) (od : Option Addr) (kV doc pm : Value) (an : Option Addr) (ct : Value) (osl : Array (Option Value)),
    K.lookup f = some ⟨oc, od, .func (PySem.W.fnOf x x (C8.fnArgs st) (C8.fnBody st) (C8.fnScope st) .none kV doc pm an (.ref c) ct), osl⟩ ∧ PySem.W.codeIn K (.ref c) x = true ∧ mg x = some (.ref f) ∧ PySem.W.keepIn K (.ref f) = true
theorem d1_mk {x : Str} {st : Stmt} {f c : Addr} {oc : Value} {od an : Option Addr} {osl : Array (Option Value)} {kV doc pm ct : Value} (X : K.In h) (G : h.Ns mainGlobals mg) (a : PySem.W.nsIn K mainGlobals x = some (some (.ref f)))
    (l : K.lookup f = some ⟨oc, od, .func (PySem.W.fnOf x x (C8.fnArgs st) (C8.fnBody st) (C8.fnScope st) .none kV doc pm an (.ref c) ct), osl⟩) (cd : PySem.W.codeIn K (.ref c) x = true) (k : PySem.W.keepIn K (.ref f) = true) : D1 K mg x st c :=
  ⟨f, oc, od, kV, doc, pm, an, ct, osl, l, cd, PySem.W.mg_of X G a, k⟩
/-- the law's own def -/
def LawP (K : PySem.W.Frag) (mg : Str → Option Value) (st : Stmt) (fa : Addr) : Prop := ∃ fd, C8.Fun K "law" "law" st fa fd ∧ ∀ (s : Shared) (u : Value), BindsTo s fd ⟨[u], []⟩ [("script", u)]
theorem law_mk {st : Stmt} {fa fL : Addr} {oc : Value} {od an : Option Addr} {osl : Array (Option Value)} {kV doc pm cdv ct : Value} (X : K.In h) (G : h.Ns mainGlobals mg) (hfa : mg "law" = some (.ref fa)) (aL : PySem.W.nsIn K mainGlobals "law" = some (some (.ref fL)))
    (lL : K.lookup fL = some ⟨oc, od, .func (PySem.W.fnOf "law" "law" (C8.fnArgs st) (C8.fnBody st) (C8.fnScope st) .none kV doc pm an cdv ct), osl⟩) (cL : PySem.W.codeIn K cdv "law" = true)
    (hb : ∀ (kV doc pm : Value) (an : Option Addr) (cdv ct u : Value), bindArgs (PySem.W.fnOf "law" "law" (C8.fnArgs st) (C8.fnBody st) (C8.fnScope st) .none kV doc pm an cdv ct) ⟨[u], []⟩ = pure [(("script" : Str), u)]) : LawP K mg st fa := by
  have e := hfa.symm.trans (PySem.W.mg_of X G aL)
  cases e
  exact ⟨_, ⟨⟨oc, od, _, kV, doc, pm, an, cdv, ct, osl, rfl, lL, cL⟩⟩, fun s u => .of_eq (hb _ _ _ _ _ _ u)⟩
/-- the promise of a law: whatever the script, True -/
def spLaw (K : PySem.W.Frag) : Sp := fun vs H Q _ => ∃ (a : Addr) (ns : List Int), vs = [.ref a] ∧ SqL K H a (ns.map V.int) ∧ ns.length ≤ 63 ∧ ∀ H' : Hp, Q (.bl true) H'
/-- .. of a law whose text makes a lambda, its table at t -/
def spLawT (K : PySem.W.Frag) (t : Addr) : Sp := fun vs H Q _ => ∃ (a : Addr) (ns : List Int), vs = [.ref a] ∧ SqL K H a (ns.map V.int) ∧ ns.length ≤ 63 ∧ H t = some (.tbl #[]) ∧ ∀ H' : Hp, Q (.bl true) H'
end
theorem walkN {l : PySem.W.OpenLaw} {k : Nat} {q : Program} {loose : List Str} {XP : (Str → Option Value) → Heap → Prop} {YP : World → Heap → Prop} {d : DefRec} {K : Params → PySem.W.Frag} (hk : Room k callerA) (hn : l.most = some 63) (hdf : d.params.defaults = [])
    (hY : ∀ (w : World) (h : Heap), YP w h → (K w.params).In h)
    (F : ∀ (w : World) (mg : Str → Option Value) (fa : Addr) (h : Heap), (K w.params).In h → h.Ns mainGlobals mg → mg d.name = some (.ref fa) →
      ∃ fd : FuncData, (∀ (s : Shared) (u : Value), BindsTo s fd ⟨[u], []⟩ [("script", u)]) ∧ ∀ base : Heap, (K w.params).In base → base.Ns mainGlobals mg → FnOk l.prog w (K w.params) mg base C8.CX0 k fa fd ["script"] (spLaw (K w.params))) :
    PySem.W.WalkO q loose XP YP l.row.toRowW d [] (fun f vs => PySem.call f vs) :=
  L2.walk_of (n := 63) (k := k) (x := "script") (CX := fun _ => C8.CX0) (sp := fun w => spLaw (K w.params)) hn (by decide) hdf hk hY F (fun _ _ a ns hl _ hS => ⟨a, ns, rfl, hS, hl, fun _ => rfl⟩) fun _ _ _ _ _ z => z
/-- the end of a law with one table -/
theorem lawT {l : PySem.W.OpenLaw} {w : World} {K : PySem.W.Frag} {h : Heap} {mg : Str → Option Value} {fa c t : Addr} {st : Stmt} {k : Nat} (X : K.In h) (hT : h.get? t = some { cls := .none, data := .fields #[] }) (nT : K.lookup t = none) (hC : PySem.W.codeHdIn K c t = true) (L : LawP K mg st fa)
    (F : ∀ fd, C8.Fun K "law" "law" st fa fd → ∀ base : Heap, K.In base → base.Ns mainGlobals mg → TabB base mg c t → FnOk l.prog w K mg base C8.CX0 k fa fd ["script"] (spLawT K t)) : LamX.LawAtS l w K C8.CX0 k 63 "script" mg fa h := by
  obtain ⟨fd, FL, bt⟩ := L
  refine ⟨fd, [(c, t)], spLawT K t, ?_, ?_, ?_, bt, ?_, fun base h1 h2 hTB => F fd FL base h1 h2 (hTB (c, t) (.head _))⟩
  · intro p hp
    cases hp with
    | head => exact hT
    | tail _ hp => cases hp
  · intro p hp
    cases hp with
    | head => exact nT
    | tail _ hp => cases hp
  · intro p hp
    cases hp with
    | head => exact PySem.W.codeHd_of_K X hC
    | tail _ hp => cases hp
  · exact fun H a ns hl _ hH hS => ⟨a, ns, rfl, hS, hl, hH (c, t) (.head _), fun _ => rfl⟩
end UF

set_option Elab.async false
set_option maxRecDepth 100000
set_option maxHeartbeats 4000000
/-! own errors with one field: raised, caught, asked -/
namespace UF
open PySem PySem.Spec PyProof.Rows L2 C8 LamX
/-- isinstance(e, c), e the caught error (its class cls, its dict d) -/
def rIsX (K : PySem.W.Frag) (a : Addr) (cls : Value) (d : Option Addr) (D : Addr) : List V → Hp → VK → Prop := fun xs H Q => ∃ (c : V) (cv : Value) (b : Bool), xs = [.ref a, c] ∧ cls = .ref D ∧ (∃ dd fs, d = some dd ∧ H dd = some (.xd fs)) ∧ (∀ u, RelV c u → u = cv) ∧ PySem.W.kitOne K (.ref D) cv = some b ∧ Q (.bl b) H
theorem call_isX {X : Cx} {a D : Addr} {oe : Obj} {cls : Value} {d : Option Addr} {pn : List (Addr × Obj)} (C : ExcC X.K D) (hz : Zc cls d oe) (hf : ∃ vs, oe.data = .fields vs) : CallR (X.suite a ((a, oe) :: pn)) (.builtin "isinstance") (rIsX X.K a cls d D) := by
  intro pins s σ H xs us Q I r h
  obtain ⟨c, cv, b, rfl, rfl, ⟨dd, fs, rfl, hd⟩, hcv, e, q⟩ := h
  cases r with
  | cons rx rr => cases rr with
    | cons rt rr =>
      cases rr; cases rx
      have ec := hcv _ rt
      subst ec
      have hp := I.pin (a, oe) (List.mem_append.mpr (.inl List.mem_cons_self))
      have hx : ObjOk X.prog X.w H s.heap dd (.xd fs) := I.hok dd _ hd
      obtain ⟨mA, hns, _⟩ := hx
      obtain ⟨od, ho, _⟩ := lookIn_ns hns
      have J : PySem.W.InstAt s.heap a oe D (some od) := ⟨hp.1, hz.1, by obtain ⟨vs, hv⟩ := hf; unfold PySem.W.notCls; rw [hv] <;> rfl, by rw [hz.2]; exact ho⟩
      have hcl : (PySem.W.clsIn X.K D).isSome = true := by
        have z := C.hd
        unfold PySem.W.hasDictIn at z
        cases q : PySem.W.clsIn X.K D with
        | none => rw [q] at z; cases z
        | some _ => rfl
      exact PySem.W.kia_one (PySem.W.kitx_exc hcl C.hg C.hk C.hs C.ha C.hn C.ht C.hm) I.kIn J e (fun z => nomatch z) fun tk => ⟨.bl b, H, I.kept (t' := tk) fun _ _ z => z, rfl, q⟩
/-- the __init__ of an error with one field f -/
def spIniX (C : Addr) (f : Str) : Sp := fun vs H Q _ => ∃ (a : Addr) (v : V), vs = [.ref a, v] ∧ H a = some (exo a C none) ∧ ∀ dx : Addr, H dx = none → dx ≠ a → Q .non (upd (upd H dx (exd dx [(f, v)])) a (exo a C (some dx)))
def IniX (K : PySem.W.Frag) (C : Addr) (q : Str) (st : Stmt) (ps : List Str) : Prop := ∃ (f : Addr) (fd : FuncData), PySem.W.findIn K (.ref C) "__init__" = some (some (.ref f)) ∧ PySem.W.typeIn K (.ref f) = some (.type "function") ∧ C8.Fun K "__init__" q st f fd ∧ L2.Binds K fd ps []
theorem inix_mk {K : PySem.W.Frag} {C f : Addr} {q : Str} {st : Stmt} {ps : List Str} {oc : Value} {od an : Option Addr} {osl : Array (Option Value)} {kV doc pm cdv ct : Value} (a : PySem.W.findIn K (.ref C) "__init__" = some (some (.ref f))) (i : PySem.W.typeIn K (.ref f) = some (.type "function"))
    (l : K.lookup f = some ⟨oc, od, .func (PySem.W.fnOf "__init__" q (C8.fnArgs st) (C8.fnBody st) (C8.fnScope st) .none kV doc pm an cdv ct), osl⟩) (c : PySem.W.codeIn K cdv q = true)
    (hb : ∀ (kV doc pm : Value) (an : Option Addr) (cdv ct : Value) (us : List Value), us.length = ps.length → bindArgs (PySem.W.fnOf "__init__" q (C8.fnArgs st) (C8.fnBody st) (C8.fnScope st) .none kV doc pm an cdv ct) ⟨us, []⟩ = pure (ps.zip us)) : IniX K C q st ps :=
  have F : C8.Fun K "__init__" q st f _ := ⟨⟨oc, od, _, kV, doc, pm, an, cdv, ct, osl, rfl, l, c⟩⟩
  ⟨f, _, a, i, F, F.binds rfl hb⟩
/-- an error's class that may be raised by its name -/
structure MkX (P : Program) (w : World) (K : PySem.W.Frag) (mg : Str → Option Value) (base : Heap) (k : Nat) (x f : Str) (C : Addr) : Prop where
  oex : OexC K C
  g : mg x = some (.ref C)
  ex : ∃ (fI : Addr) (fd : FuncData) (ps : List Str), PySem.W.findIn K (.ref C) "__init__" = some (some (.ref fI)) ∧ PySem.W.typeIn K (.ref fI) = some (.type "function") ∧ FnOk P w K mg base C8.CX0 k fI fd ps (spIniX C f) ∧ L2.Binds K fd ps []
/-- C(e): its class, its dict, new -/
def tMkX (C : Addr) (f : Str) (ta : TA) : L2.St → Hp → XK → Prop := fun σ H Q => ta σ H fun vs H1 => ∃ v, vs = [v] ∧ ∀ d, H1 d = none → Q (.ref C) (some d) (upd H1 d (.xd [(f, v)]))
theorem pe_mx {X : Cx} {k j : Nat} {x f : Str} {C : Addr} {e : Expr} {ta : TA} {p pos : Pos} (c : MkX X.prog X.w X.K X.mg X.base k x f C) (hr : Room j X.A) (hk : k + 1 ≤ j) (hg : Gl X x) (ha : PA X [e] ta) (hdb : (x == ("__debug__" : Str)) = false := by decide)
    (he : starEach [e] X.env = (false, eval e X.env) :: starEach [] X.env := by rfl) (hpl : (backTo pos (starEach [] X.env)).any (·.1) = false := by rfl) : PMk X (.Call (.Name x p) [e] [] pos) (tMkX C f ta) := by
  obtain ⟨fI, fd, ps, iC, tI, F, b⟩ := c.ex
  intro pins s σ H Q I h
  have ha' : PA X [e] (fun σ H Q => ∃ Q0 : List V → Hp → Prop, ta σ H Q0 ∧ ∀ vs H1, Q0 vs H1 → Q vs H1) := ⟨fun pos pins s σ H Q I h => by
    obtain ⟨Q0, h0, im⟩ := h
    exact thn (ha.run pos pins s σ H _ I h0) fun us s1 ⟨vs, H1, I1, r1, q1⟩ => ⟨vs, H1, I1, r1, im _ _ q1⟩⟩
  refine pmk_oex (sp := spIniX C f) (dvs := []) c.oex iC tI F (hr.mono hk) b .nil C8.pass0 hg c.g ha' hdb he hpl pins s σ H Q I ?_
  refine ⟨_, h, fun vs H1 q => ?_⟩
  obtain ⟨v, rfl, q⟩ := q
  refine ⟨by show 1 ≤ 1000; decide, fun a na => ⟨a, v, rfl, upd_same, fun dx nd ne => ⟨rfl, dx, [(f, v)], upd_same, ?_, ?_, ?_⟩⟩⟩
  · rw [upd_ne ne, upd_same]
  · rw [upd_ne ne] at nd
    exact nd
  · have nd' : H1 dx = none := by
      rw [upd_ne ne] at nd
      exact nd
    have e : upd (del (upd (upd (upd H1 a (exo a C none)) dx (exd dx [(f, v)])) a (exo a C (some dx))) a) dx (.xd [(f, v)]) = upd H1 dx (.xd [(f, v)]) := by
      funext c
      by_cases e1 : c = dx
      · rw [e1, upd_same, upd_same]
      · rw [upd_ne e1, upd_ne e1]
        by_cases e2 : c = a
        · rw [e2, del_same, na]
        · rw [del_ne e2, upd_ne e2, upd_ne e1, upd_ne e2]
    rw [e]
    exact q dx nd'
/-- a def of the text that may raise -/
structure CalX (P : Program) (w : World) (K : PySem.W.Frag) (mg : Str → Option Value) (base : Heap) (k : Nat) (x : Str) (sp : Sp) : Prop where
  ex : ∃ (f : Addr) (fd : FuncData) (ps : List Str), FnOk P w K mg base (L2.CX P w) k f fd ps sp ∧ mg x = some (.ref f) ∧ PySem.W.keepIn K (.ref f) = true ∧ L2.Binds K fd ps []
theorem calX {P : Program} {w : World} {K : PySem.W.Frag} {mg : Str → Option Value} {base : Heap} {x : Str} {st : Stmt} {N ps : List Str} {k : Nat} {sp : Sp} (d : D0 K mg x st ps) (S : FnScope N ps (C8.fnScope st)) (len : ∀ vs H Q E, sp vs H Q E → vs.length = ps.length)
    (hbody : ∀ (cdv : Value) (A : Around) (outer : List Env) (f : Addr) (s : Shared) (H : Hp) (vs : List V) (Q : VK) (E : XK), Room k (A.deeper (envOfC x (C8.fnScope st) s.heap.objs.size f cdv)) → sp vs H Q E →
      ∃ t, PSs (cxOf (L2.CX P w) P w K mg base N x (C8.fnScope st) f cdv A outer s H E) (C8.fnBody st) t ∧ t { nx := fun _ H' => Q .non H', rt := Q } (start N vs) H) : CalX P w K mg base (k + 1) x sp := by
  obtain ⟨f, fd, D, b⟩ := d.ex
  obtain ⟨oc, od, dV, kV, doc, pm, an, cdv, ct, osl, rfl, lk, hcd⟩ := D.fn.ex
  exact ⟨f, _, ps, fn_of lk hcd S len fun A outer s H vs Q E hr hsp => hbody cdv A outer f s H vs Q E hr hsp, D.mgf, D.kp, b⟩
/-- a call of it within a try's body (what it lets out is taken: tk) -/
theorem pe_cx {X : Cx} {k j : Nat} {x : Str} {sp : Sp} {W : WX} {e : Expr} {es : List Expr} {t : TA} {p pos : Pos} (c : CalX X.prog X.w X.K X.mg X.base k x sp) (hr : Room j X.A) (hk : k ≤ j) (hg : Gl X x) (tk : Takes X W) (ha : PA X (e :: es) t) (hdb : (x == ("__debug__" : Str)) = false := by decide)
    (he : starEach (e :: es) X.env = (false, eval e X.env) :: starEach es X.env := by rfl) (hpl : (backTo pos (starEach es X.env)).any (·.1) = false := by rfl) : PE X (.Call (.Name x p) (e :: es) [] pos) (tCallS sp (WE W) t) := by
  obtain ⟨f, fd, ps, F, hm, kp, b⟩ := c.ex
  exact pe_callS F (hr.mono hk) hg hm kp b (fun σ => passAt tk σ) ha hdb he hpl
theorem oex_mk {K : PySem.W.Frag} {C : Addr} {nm q : Str} {N : Addr} {bs bm : List Value} {sn : List Str} {sub : List Value} {ab : Bool} {col : Option Bool} {dd : Option Addr} {m0 m1 m2 m3 m5 : Option Value}
    (xL : K.lookup C = some (excClassObj nm q C N bs bm true sn sub ab col dd m0 m1 m2 m3 m5 "ValueError.__new__")) (r : PySem.HandSPX.refsVE bm = true)
    (sa : PySem.W.findIn K (.ref C) "__setattr__" = some (some (.builtin "object.__setattr__"))) (ex : PySem.W.subIn K (.ref C) (.type "BaseException") = some true) (ty : PySem.W.typeIn K (.ref C) = some (.type "type")) (kc : PySem.W.keepIn K (.ref C) = true) : OexC K C :=
  ⟨⟨nm, q, N, bs, bm, sn, sub, ab, col, dd, m0, m1, m2, m3, m5, xL, r⟩, sa, ex, ty, kc⟩
end UF

set_option Elab.async false
set_option maxRecDepth 100000
set_option maxHeartbeats 4000000
/-! defs with a keyword-only default None; rows of whole numbers as data -/
namespace UF
open PySem PySem.Spec PyProof.Rows L2 C8 LamX
/-- a def of the text with keyword-only defaults -/
def DkD (K : PySem.W.Frag) (mg : Str → Option Value) (x : Str) (st : Stmt) (kws : List (Str × V)) : Prop := ∃ (f : Addr) (fd : FuncData), FunD K x x (C8.fnArgs st) (C8.fnBody st) (C8.fnScope st) [] kws f fd ∧ mg x = some (.ref f)
section
variable {K : PySem.W.Frag} {h : Heap} {mg : Str → Option Value}
theorem dkN_mk {x x1 : Str} {st : Stmt} {f D : Addr} {oc : Value} {od an : Option Addr} {osl : Array (Option Value)} {doc pm cdv ct : Value} (X : K.In h) (G : h.Ns mainGlobals mg) (a : PySem.W.nsIn K mainGlobals x = some (some (.ref f)))
    (l : K.lookup f = some ⟨oc, od, .func (PySem.W.fnOf x x (C8.fnArgs st) (C8.fnBody st) (C8.fnScope st) .none (.ref D) doc pm an cdv ct), osl⟩) (c : PySem.W.codeIn K cdv x = true) (k : PySem.W.keepIn K (.ref f) = true)
    (g1 : PySem.W.nsIn K D x1 = some (some .none)) : DkD K mg x st [(x1, .non)] :=
  ⟨f, _, ⟨⟨oc, od, _, _, doc, pm, an, cdv, ct, osl, rfl, l, c, .inl ⟨rfl, rfl⟩, .inr ⟨D, rfl, fun q hq => by
    cases hq with
    | head => exact ⟨_, g1, rfl⟩
    | tail _ hq => cases hq⟩⟩, k⟩, PySem.W.mg_of X G a⟩
theorem dk2N_mk {x x1 x2 : Str} {st : Stmt} {f D : Addr} {oc : Value} {od an : Option Addr} {osl : Array (Option Value)} {doc pm cdv ct : Value} (X : K.In h) (G : h.Ns mainGlobals mg) (a : PySem.W.nsIn K mainGlobals x = some (some (.ref f)))
    (l : K.lookup f = some ⟨oc, od, .func (PySem.W.fnOf x x (C8.fnArgs st) (C8.fnBody st) (C8.fnScope st) .none (.ref D) doc pm an cdv ct), osl⟩) (c : PySem.W.codeIn K cdv x = true) (k : PySem.W.keepIn K (.ref f) = true)
    (g1 : PySem.W.nsIn K D x1 = some (some .none)) (g2 : PySem.W.nsIn K D x2 = some (some .none)) : DkD K mg x st [(x1, .non), (x2, .non)] :=
  ⟨f, _, ⟨⟨oc, od, _, _, doc, pm, an, cdv, ct, osl, rfl, l, c, .inl ⟨rfl, rfl⟩, .inr ⟨D, rfl, fun q hq => by
    cases hq with
    | head => exact ⟨_, g1, rfl⟩
    | tail _ hq => cases hq with
      | head => exact ⟨_, g2, rfl⟩
      | tail _ hq => cases hq⟩⟩, k⟩, PySem.W.mg_of X G a⟩
theorem inid2N_mk {C f D : Addr} {q x1 x2 : Str} {st : Stmt} {oc : Value} {od an : Option Addr} {osl : Array (Option Value)} {doc pm cdv ct : Value} (m : PySem.W.makesIn K C = true) (a : PySem.W.findIn K (.ref C) "__init__" = some (some (.ref f))) (i : PySem.W.isFn K (.ref f) = true) (kc : PySem.W.keepIn K (.ref C) = true)
    (l : K.lookup f = some ⟨oc, od, .func (PySem.W.fnOf "__init__" q (C8.fnArgs st) (C8.fnBody st) (C8.fnScope st) .none (.ref D) doc pm an cdv ct), osl⟩) (c : PySem.W.codeIn K cdv q = true) (k : PySem.W.keepIn K (.ref f) = true)
    (g1 : PySem.W.nsIn K D x1 = some (some .none)) (g2 : PySem.W.nsIn K D x2 = some (some .none)) : IniD K C q st [(x1, .non), (x2, .non)] :=
  ⟨f, _, ⟨m, a, i, kc⟩, ⟨oc, od, _, _, doc, pm, an, cdv, ct, osl, rfl, l, c, .inl ⟨rfl, rfl⟩, .inr ⟨D, rfl, fun q hq => by
    cases hq with
    | head => exact ⟨_, g1, rfl⟩
    | tail _ hq => cases hq with
      | head => exact ⟨_, g2, rfl⟩
      | tail _ hq => cases hq⟩⟩, k⟩
end
/-- a method with one default, an empty tuple -/
def MethE (K : PySem.W.Frag) (C : Addr) (m q : Str) (st : Stmt) : Prop := ∃ (f a : Addr) (fd : FuncData), Meth K C m f ∧ FunD K m q (C8.fnArgs st) (C8.fnBody st) (C8.fnScope st) [.ref a] [] f fd ∧ ∀ H, SqT K H a []
theorem methE_mk {K : PySem.W.Frag} {C f TT e : Addr} {m q : Str} {st : Stmt} {oc : Value} {od an : Option Addr} {osl : Array (Option Value)} {kV doc pm cdv ct : Value} {o1 : Value} {o2 : Option Addr} {o3 : Array (Option Value)} {n1 n2 : Nat} {p2 : Option Addr} {p3 : Array (Option Value)} (a : PySem.W.findIn K (.ref C) m = some (some (.ref f))) (i : PySem.W.isFn K (.ref f) = true)
    (l : K.lookup f = some ⟨oc, od, .func (PySem.W.fnOf m q (C8.fnArgs st) (C8.fnBody st) (C8.fnScope st) (.ref TT) kV doc pm an cdv ct), osl⟩) (c : PySem.W.codeIn K cdv q = true) (k : PySem.W.keepIn K (.ref f) = true)
    (lT : K.lookup TT = some ⟨o1, o2, .seq #[.ref e] n1, o3⟩) (le : K.lookup e = some ⟨.type "tuple", p2, .seq #[] n2, p3⟩) : MethE K C m q st :=
  ⟨f, e, _, ⟨a, i, k⟩, ⟨⟨oc, od, _, kV, doc, pm, an, cdv, ct, osl, rfl, l, c, .inr ⟨fun z => (nomatch z), TT, _, [.ref e], n1, rfl, lT, rfl, .cons rfl .nil⟩, .inl rfl⟩, k⟩, fun H => .inr ⟨_, #[], n2, le, rfl, rfl, Nat.zero_le _, .nil⟩⟩
end UF

set_option Elab.async false
set_option maxRecDepth 100000
set_option maxHeartbeats 4000000
/-! list(zip(xs, ys)): a new list of new pairs -/
namespace UF
open PySem PySem.Spec PyProof.Rows PyProof.V L2 PySem.Calls
/-- a zip between two turns -/
structure ZSt (z TI TO i1 i2 l1 l2 S : Addr) (xs ys : Array Value) (i : Nat) (h : Heap) : Prop where
  hTI : IsPair h TI (.ref i1) (.ref i2)
  h1 : h.IsListIter i1 l1 i
  h2 : h.IsListIter i2 l2 i
  hl1 : h.IsList l1 xs
  hl2 : h.IsList l2 ys
  hz : (IsZip h z TI TO .none ∧ ∃ a b, IsPair h TO a b) ∨ ∃ T f oT, IsZipHeld h z TI TO T f ∧ h.get? T = some oT ∧ T ≠ z ∧ T ≠ i1 ∧ T ≠ i2 ∧ T ≠ S
/-- where the list's address lies -/
structure ZOff (z TI TO i1 i2 l1 l2 S : Addr) : Prop where
  z : z < S
  TI : TI < S
  TO : TO < S
  i1 : i1 < S
  i2 : i2 < S
  l1 : l1 < S
  l2 : l2 < S
section
variable {z TI TO i1 i2 l1 l2 S : Addr} {xs ys : Array Value} {i : Nat} {h h' : Heap}
theorem ZSt.fr (s : ZSt z TI TO i1 i2 l1 l2 S xs ys i h) (o : ZOff z TI TO i1 i2 l1 l2 S) (k : ∀ b u, b ≠ S → h.get? b = some u → h'.get? b = some u) : ZSt z TI TO i1 i2 l1 l2 S xs ys i h' := by
  refine ⟨k _ _ (Nat.ne_of_lt o.TI) s.hTI, s.h1.at fun u e => k _ u (Nat.ne_of_lt o.i1) e, s.h2.at fun u e => k _ u (Nat.ne_of_lt o.i2) e, s.hl1.at fun u e => k _ u (Nat.ne_of_lt o.l1) e, s.hl2.at fun u e => k _ u (Nat.ne_of_lt o.l2) e, ?_⟩
  rcases s.hz with ⟨a, b, c, d⟩ | ⟨T, f, oT, a, b, r⟩
  · exact .inl ⟨k _ _ (Nat.ne_of_lt o.z) a, b, c, k _ _ (Nat.ne_of_lt o.TO) d⟩
  · exact .inr ⟨T, f, oT, k _ _ (Nat.ne_of_lt o.z) a, k _ _ r.2.2.2 b, r⟩
end
/-- all but the iterators' cells and the list stays -/
def ZKp (z TO i1 i2 S : Addr) (h h' : Heap) : Prop := ∀ b o, b ≠ S → b ≠ z → b ≠ TO → b ≠ i1 → b ≠ i2 → h.get? b = some o → h'.get? b = some o
/-- the pairs so far -/
structure ZPr (xs ys : Array Value) (S : Addr) (h : Heap) (as : List Addr) : Prop where
  up : as.Pairwise (· < ·)
  over : ∀ a ∈ as, S < a
  is : ∀ (j : Nat) (a : Addr), as[j]? = some a → ∃ x y, xs[j]? = some x ∧ ys[j]? = some y ∧ IsPair h a x y
abbrev LstO (acc : Array Value) (c : Nat) : Obj := { cls := .type "list", dict := none, data := .seq acc c, slots := #[] }
section
variable {prog : Program} {w : World} {A : Around} {s : Shared} {z TI TO i1 i2 l1 l2 S : Addr} {xs ys : Array Value}
theorem zl_item {i : Nat} {E : Value → Shared → Prop} {Q : Option Value → Shared → Prop} (D : ZipApart z TI TO i1 i2 l1 l2) (t : ZSt z TI TO i1 i2 l1 l2 S xs ys i s.heap) (hS : S < s.heap.objs.size) (hx : i < xs.size) (hy : i < ys.size)
    (q : ∀ h', ZSt z TI TO i1 i2 l1 l2 S xs ys (i + 1) h' → IsPair h' s.heap.objs.size xs[i] ys[i] → (∀ b o, b ≠ z → b ≠ TO → b ≠ i1 → b ≠ i2 → s.heap.get? b = some o → h'.get? b = some o) → Q (some (.ref s.heap.objs.size)) { s with heap := h' }) :
    wpAny (model prog w) A (pyNext (.ref z)) Q E s := by
  obtain ⟨hTI, h1, h2, hl1, hl2, hz⟩ := t
  have ex := Array.getElem?_eq_getElem hx
  have ey := Array.getElem?_eq_getElem hy
  have lt : ∀ {c : Addr} {o : Obj}, s.heap.get? c = some o → s.heap.objs.size ≠ c := fun e => Nat.ne_of_gt (Heap.lt_size e)
  have n1 : s.heap.objs.size ≠ i1 := by obtain ⟨_, e, _⟩ := h1; exact lt e
  have n2 : s.heap.objs.size ≠ i2 := by obtain ⟨_, e, _⟩ := h2; exact lt e
  rcases hz with ⟨hz, a, b, hTO⟩ | ⟨T, f, oT, hz, hT, r1, r2, r3, r4⟩
  · exact wpAny_pyNext_zip_item D hz hTI hTO h1 h2 hl1 hl2 ex ey fun h' a1 a2 a3 a4 a5 a6 hk => q h'
      ⟨hk _ _ D.TIz D.TITO D.TIi1 D.TIi2 hTI, a3, a4, hl1.at fun o e => hk _ o D.l1z D.l1TO D.l1i1 D.l1i2 e, hl2.at fun o e => hk _ o D.l2z D.l2TO D.l2i1 D.l2i2 e, .inr ⟨s.heap.objs.size, false, _, a1, a5, lt hz, n1, n2, Nat.ne_of_gt hS⟩⟩
      a5 fun b o b1 b2 b3 b4 e => hk b o b1 b2 b3 b4 e
  · exact wpAny_pyNext_zip_item_held D hz hT hTI h1 h2 hl1 hl2 ex ey fun h' a1 a3 a4 a5 a6 hk => q h'
      ⟨hk _ _ D.TIz D.TIi1 D.TIi2 hTI, a3, a4, hl1.at fun o e => hk _ o D.l1z D.l1i1 D.l1i2 e, hl2.at fun o e => hk _ o D.l2z D.l2i1 D.l2i2 e, .inr ⟨T, true, oT, a1, hk _ _ r1 r2 r3 hT, r1, r2, r3, r4⟩⟩
      a5 fun b o b1 _ b3 b4 e => hk b o b1 b3 b4 e
theorem zl_done {E : Value → Shared → Prop} {Q : Option Value → Shared → Prop} {i : Nat} (hh : A.handled = none) (D : ZipApart z TI TO i1 i2 l1 l2) (t : ZSt z TI TO i1 i2 l1 l2 S xs ys i s.heap) (hend : xs[i]? = none ∨ ys[i]? = none)
    (q : ∀ h', (∀ b o, b ≠ z → b ≠ TO → b ≠ i1 → b ≠ i2 → s.heap.get? b = some o → h'.get? b = some o) → Q none { s with heap := h' }) : wpAny (model prog w) A (pyNext (.ref z)) Q E s := by
  obtain ⟨hTI, h1, h2, hl1, hl2, hz⟩ := t
  rcases hz with ⟨hz, a, b, hTO⟩ | ⟨T, f, oT, hz, hT, r1, r2, r3, r4⟩
  · exact wpAny_pyNext_zip_end hh D hz hTI hTO h1 h2 hl1 hl2 hend fun h' hk => q h' fun b o b1 b2 b3 b4 e => hk b o b1 b2 b3 b4 e
  · exact wpAny_pyNext_zip_end_held hh D hz hT hTI h1 h2 hl1 hl2 hend fun h' hk => q h' fun b o b1 _ b3 b4 e => hk b o b1 b3 b4 e
theorem zl_loop {R : Result → Shared → Prop} {h₁ : Heap} (hh : A.handled = none) (D : ZipApart z TI TO i1 i2 l1 l2) (O : ZOff z TI TO i1 i2 l1 l2 S) (n : Nat) (en : n = min xs.size ys.size) (hn : n ≤ sizeLine) (res : Value)
    (hR : ∀ h' tk acc c as, ZKp z TO i1 i2 S h₁ h' → h'.get? S = some (LstO acc c) → as.length = n → ZPr xs ys S h' as → acc.toList = as.map Value.ref → R (.ok (.ret res)) { s with heap := h', toks := tk }) :
    ∀ (k i : Nat) (h : Heap) (tk c : Nat) (acc : Array Value) (as : List Addr), n - i = k → i ≤ n → ZSt z TI TO i1 i2 l1 l2 S xs ys i h → ZKp z TO i1 i2 S h₁ h → h.get? S = some (LstO acc c) → acc.toList = as.map Value.ref → as.length = i → ZPr xs ys S h as →
      codeAny (model prog w) A (.builtin "list.extend.loop" ⟨[.ref S, .ref z, res], []⟩) R { s with heap := h, toks := tk } := by
  have ab : ∀ {a : Addr}, S < a → a ≠ S ∧ a ≠ z ∧ a ≠ TO ∧ a ≠ i1 ∧ a ≠ i2 := fun {a} g =>
    ⟨Nat.ne_of_gt g, Nat.ne_of_gt (Nat.lt_trans O.z g), Nat.ne_of_gt (Nat.lt_trans O.TO g), Nat.ne_of_gt (Nat.lt_trans O.i1 g), Nat.ne_of_gt (Nat.lt_trans O.i2 g)⟩
  intro k
  induction k with
  | zero =>
    intro i h tk c acc as hk hi st kp hS ha hl hp
    have ei : i = n := by omega
    refine codeAny_builtin PySem.F.entry_extend_loop ?_; rw [Around.under_plainId PySem.F.plain_extend_loop _]
    show wpAny _ A.in1 (pyNext (.ref z) >>= _) _ _ _
    have he : xs[i]? = none ∨ ys[i]? = none := by
      rcases Nat.le_total xs.size ys.size with q | q
      · exact .inl (Array.getElem?_eq_none (by omega))
      · exact .inr (Array.getElem?_eq_none (by omega))
    refine wpAny_bind (zl_done (s := { s with heap := h, toks := tk }) (A := A.in1) hh D st he fun h' hk' => ?_)
    have nS : S ≠ z ∧ S ≠ TO ∧ S ≠ i1 ∧ S ≠ i2 := ⟨Nat.ne_of_gt O.z, Nat.ne_of_gt O.TO, Nat.ne_of_gt O.i1, Nat.ne_of_gt O.i2⟩
    refine wpAny_pure (hR h' tk acc c as (fun b o b0 b1 b2 b3 b4 e => hk' b o b1 b2 b3 b4 (kp b o b0 b1 b2 b3 b4 e)) (hk' S _ nS.1 nS.2.1 nS.2.2.1 nS.2.2.2 hS) (by omega) ⟨hp.up, hp.over, fun j a hj => ?_⟩ ha)
    obtain ⟨x, y, ex, ey, p⟩ := hp.is j a hj
    obtain ⟨m0, m1, m2, m3, m4⟩ := ab (hp.over a (List.mem_of_getElem? hj))
    exact ⟨x, y, ex, ey, hk' a _ m1 m2 m3 m4 p⟩
  | succ k ih =>
    intro i h tk c acc as hk hi st kp hS ha hl hp
    have hx : i < xs.size := by omega
    have hy : i < ys.size := by omega
    have hsz : acc.size = i := by rw [← Array.length_toList, ha, List.length_map, hl]
    have hSl : S < h.objs.size := Heap.lt_size hS
    refine codeAny_builtin PySem.F.entry_extend_loop ?_; rw [Around.under_plainId PySem.F.plain_extend_loop _]
    show wpAny _ A.in1 (pyNext (.ref z) >>= _) _ _ _
    refine wpAny_bind (zl_item (s := { s with heap := h, toks := tk }) D st hSl hx hy fun h' st' hp' hk' => ?_)
    dsimp only at hp' hk' ⊢
    have hS' := hk' S _ (Nat.ne_of_gt O.z) (Nat.ne_of_gt O.TO) (Nat.ne_of_gt O.i1) (Nat.ne_of_gt O.i2) hS
    have up : ∀ b o, b ≠ S → h'.get? b = some o → (h'.update S (Obj.mapSeq (·.push (Value.ref h.objs.size)))).get? b = some o := fun b o nb e => (Heap.get?_update_other _ _ (Ne.symm nb)).trans e
    show wpAny _ A.in1 (updateSeq S (·.push (Value.ref h.objs.size)) >>= _) _ _ _
    refine wpAny_bind ?_
    refine wpAny_updateSeq hS' rfl (wpAny_pure ⟨plainId_quiet PySem.F.plain_extend_loop _, ih (i + 1) _ tk _ (acc.push (Value.ref h.objs.size)) (as ++ [h.objs.size]) (by omega) (by omega) (st'.fr O up)
      (fun b o b0 b1 b2 b3 b4 e => up b o b0 (hk' b o b1 b2 b3 b4 (kp b o b0 b1 b2 b3 b4 e))) (Heap.get?_update_self _ hS' rfl) (by rw [Array.toList_push, ha, List.map_append]; rfl) (by rw [List.length_append, hl]; rfl) ⟨?_, ?_, ?_⟩⟩) (by rw [hsz]; omega) (by show (acc.push (Value.ref h.objs.size)).size ≤ sizeLine + 1; rw [Array.size_push, hsz]; omega)
    · refine List.pairwise_append.mpr ⟨hp.up, List.pairwise_singleton _ _, fun a ma b mb => ?_⟩
      rw [List.mem_singleton.mp mb]
      obtain ⟨j, hj⟩ := List.mem_iff_getElem?.mp ma
      obtain ⟨_, _, _, _, p⟩ := hp.is j a hj
      exact Heap.lt_size p
    · intro a ma
      rcases List.mem_append.mp ma with ma | ma
      · exact hp.over a ma
      · rw [List.mem_singleton.mp ma]; exact hSl
    · intro j b hj
      rcases Nat.lt_trichotomy j as.length with q | q | q
      · rw [List.getElem?_append_left q] at hj
        obtain ⟨x, y, ex, ey, p⟩ := hp.is j b hj
        obtain ⟨m0, m1, m2, m3, m4⟩ := ab (hp.over b (List.mem_of_getElem? hj))
        exact ⟨x, y, ex, ey, up b _ m0 (hk' b _ m1 m2 m3 m4 p)⟩
      · have hb : h.objs.size = b := by subst q; simpa using hj
        have ej : j = i := by omega
        subst ej
        subst hb
        exact ⟨_, _, Array.getElem?_eq_getElem hx, Array.getElem?_eq_getElem hy, up _ _ (Nat.ne_of_gt hSl) hp'⟩
      · have e0 : (as ++ [h.objs.size])[j]? = none := List.getElem?_eq_none (by rw [List.length_append, List.length_singleton]; omega)
        rw [e0] at hj; cases hj
end
section
variable {prog : Program} {w : World} {A : Around} {s : Shared} {z TI TO i1 i2 l1 l2 S : Addr} {xs ys : Array Value}
theorem z_len : typeLookup (.type "zip") "__len__" = pure none := am_miss_of_fast (by decide +kernel)
theorem z_lh : typeLookup (.type "zip") "__length_hint__" = pure none := am_miss_of_fast (by decide +kernel)
theorem zip_room {E : Value → Shared → Prop} {Q : Bool → Shared → Prop} (hT : s.TypeIs (.ref z) "zip") (h : Q true s) : wpAny (model prog w) A (Builtin.List.listLengthHint (.ref z)) Q E s := by
  unfold Builtin.List.listLengthHint
  refine wpAny_bind (wpAny_specialOf hT z_len ?_)
  refine wpAny_ite_split (fun hab => absurd hab (by decide)) (fun _ => ?_)
  refine wpAny_ite_split (fun hab => absurd hab (by decide)) (fun _ => ?_)
  exact wpAny_bind (wpAny_specialOf hT z_lh (wpAny_pure h))
theorem zl_extend {R : Result → Shared → Prop} (hh : A.handled = none) (D : ZipApart z TI TO i1 i2 l1 l2) (O : ZOff z TI TO i1 i2 l1 l2 S) (st : ZSt z TI TO i1 i2 l1 l2 S xs ys 0 s.heap) (hz : IsZip s.heap z TI TO .none) (n : Nat) (en : n = min xs.size ys.size) (hn : n ≤ sizeLine) (res : Value) (c₀ : Nat)
    (hS : s.heap.get? S = some (LstO #[] c₀)) (hR : ∀ h' tk acc c as, ZKp z TO i1 i2 S s.heap h' → h'.get? S = some (LstO acc c) → as.length = n → ZPr xs ys S h' as → acc.toList = as.map Value.ref → R (.ok (.ret res)) { s with heap := h', toks := tk }) :
    wpAny (model prog w) A.in1 (Builtin.List.listExtendWith (.ref S) (.ref z) res) (fun fin s' => match fin with | .done f => R (.ok f) s' | .again c' => c'.quiet = true ∧ codeAny (model prog w) A c' R s') (fun e s' => R (.error e) s') s := by
  have nSz : S ≠ z := Nat.ne_of_gt O.z
  have hT : s.TypeIs (.ref z) "zip" := ⟨_, hz, rfl⟩
  have t1 : Builtin.List.listSameRef (.ref S) (.ref z) = false := by simp [Builtin.List.listSameRef, nSz]
  have t2 : (Value.type "zip" == Value.type "list") = false := by decide
  have t3 : (Value.type "zip" == Value.type "tuple") = false := by decide
  have key : ∀ (h : Heap) (c₁ tk : Nat), (∀ b o, b ≠ S → s.heap.get? b = some o → h.get? b = some o) → h.get? S = some (LstO #[] c₁) → codeAny (model prog w) A (.builtin "list.extend.loop" ⟨[.ref S, .ref z, res], []⟩) R { s with heap := h, toks := tk } := fun h c₁ tk hk hS₁ =>
    zl_loop (h₁ := s.heap) hh D O n en hn res (fun h' tk acc c as a1 a2 a3 a4 a5 => hR h' tk acc c as a1 a2 a3 a4 a5) n 0 h tk c₁ #[] [] rfl (Nat.zero_le _) (st.fr O hk) (fun b o b0 _ _ _ _ e => hk b o b0 e) hS₁ rfl rfl ⟨.nil, (fun _ m => nomatch m), fun j a e => by simp at e⟩
  unfold Builtin.List.listExtendWith
  refine wpAny_bind (wpAny_typeOf (T := "zip") hT ?_)
  simp only [t1, t2, t3, Bool.or_false, Bool.false_eq_true, if_false]
  refine wpAny_bind (wpAny_pyIter_zip hz (wpAny_bind (wpAny_holding (zip_room hT ?_))))
  refine wpAny_ite_split (fun _ => ?_) (fun hab => (hab (by simp)).elim)
  refine wpAny_bind (wpAny_rule (wpAny_bind ?_))
  show wpAny _ _ (updateSeq S (·.push .none) >>= fun _ => updateSeq S (·.pop)) _ _ _
  refine wpAny_bind (wpAny_updateSeq hS rfl ?_); have hS₂ := Heap.get?_update_self (Obj.mapSeq (·.push Value.none)) hS rfl
  refine wpAny_updateSeq (hz := by seq_fits) hS₂ rfl ?_; have hS₃ := Heap.get?_update_self (Obj.mapSeq (·.pop)) hS₂ rfl
  refine wpAny_pure ⟨plainId_quiet PySem.F.plain_extend_loop _, key _ _ _ (fun b o hb e => (Heap.get?_update_other _ _ (Ne.symm hb)).trans ((Heap.get?_update_other _ _ (Ne.symm hb)).trans e)) hS₃⟩
theorem zl_call {Q : Value → Shared → Prop} {E : Value → Shared → Prop} (hh : A.handled = none) (D : ZipApart z TI TO i1 i2 l1 l2) (O : ZOff z TI TO i1 i2 l1 l2 s.heap.objs.size) (st : ZSt z TI TO i1 i2 l1 l2 s.heap.objs.size xs ys 0 s.heap) (hz : IsZip s.heap z TI TO .none) (n : Nat) (en : n = min xs.size ys.size) (hn : n ≤ sizeLine)
    (hQ : ∀ h' tk acc c as, ZKp z TO i1 i2 s.heap.objs.size s.heap h' → h'.get? s.heap.objs.size = some (LstO acc c) → as.length = n → ZPr xs ys s.heap.objs.size h' as → acc.toList = as.map Value.ref → Q (.ref s.heap.objs.size) { s with heap := h', toks := tk }) :
    wpAny (model prog w) A (call (.type "list") [.ref z]) Q E s := by
  have psh : ∀ (o : Obj) b u, s.heap.get? b = some u → (s.heap.push o).get? b = some u := fun o b u e => Heap.get?_push_of_some _ e
  refine callType_codes PySem.F.called_list (PySem.F.typeCall_list_1 _) PySem.F.entry_list_init (Q₁ := fun obj s₁ => obj = .ref s.heap.objs.size ∧ s₁ = { s with heap := s.heap.push { cls := .type "list", data := .seq #[] } })
    (code_list_new _ ⟨rfl, rfl⟩) fun obj s₁ h₁ => ?_
  obtain ⟨e1, e2⟩ := h₁; subst e1; subst e2
  have hS : (s.heap.push { cls := .type "list", data := .seq #[] }).get? s.heap.objs.size = some (LstO #[] 0) := Heap.get?_push_size _ rfl
  refine ⟨⟨_, hS, rfl⟩, PySem.F.args_list_init_2 _ _, ?_⟩
  show wpAny _ _ (do let old ← Builtin.List.listItems (.ref s.heap.objs.size); Builtin.List.listUpdate (.ref s.heap.objs.size) (fun _ => #[]); letGo old.toList.reverse; Builtin.List.listExtendWith (.ref s.heap.objs.size) (.ref z) .none) _ _ _
  refine wpAny_bind ?_
  unfold Builtin.List.listItems
  refine wpAny_bind (wpAny_seqItems hS rfl (wpAny_pure ?_))
  show wpAny _ _ (updateSeq s.heap.objs.size (fun _ => #[]) >>= fun _ => letGo (#[] : Array Value).toList.reverse >>= fun _ => Builtin.List.listExtendWith (.ref s.heap.objs.size) (.ref z) .none) _ _ _
  refine wpAny_bind (wpAny_updateSeq hS rfl ?_)
  have hS₂ := Heap.get?_update_self (Obj.mapSeq (fun _ => (#[] : Array Value))) hS rfl
  have oth : ∀ b o, b ≠ s.heap.objs.size → s.heap.get? b = some o → ((s.heap.push { cls := .type "list", data := .seq #[] }).update s.heap.objs.size (Obj.mapSeq (fun _ => (#[] : Array Value)))).get? b = some o := fun b o hb e => (Heap.get?_update_other _ _ (Ne.symm hb)).trans (psh _ b o e)
  refine wpAny_bind (wpAny_letGo ?_)
  refine zl_extend (A := A.in1) hh D O (st.fr O oth) (oth z _ (Nat.ne_of_lt O.z) hz) n en hn .none _ hS₂ fun h' tk acc c as hk hS' hl hG ha => ⟨rfl, hQ h' tk acc c as (fun b o b0 b1 b2 b3 b4 e => hk b o b0 b1 b2 b3 b4 (oth b o b0 e)) hS' hl hG ha⟩
end
/-- the new pairs laid into the tracked heap -/
def layT : List (Addr × V × V) → Hp → Hp
  | [], H => H
  | p :: r, H => L2.upd (layT r H) p.1 (.tup [p.2.1, p.2.2])
theorem layT_old {H : Hp} {c : Addr} : ∀ {l : List (Addr × V × V)}, (∀ p ∈ l, p.1 ≠ c) → layT l H c = H c
  | [], _ => rfl
  | p :: r, h => by
    show L2.upd (layT r H) p.1 _ c = _
    rw [upd_ne (Ne.symm (h p (.head _)))]
    exact layT_old fun q m => h q (.tail _ m)
theorem layT_new {H : Hp} {t : Addr} {x y : V} : ∀ {l : List (Addr × V × V)}, (l.map (·.1)).Nodup → (t, x, y) ∈ l → layT l H t = some (.tup [x, y])
  | p :: r, nd, m => by
    have nd' := List.nodup_cons.mp nd
    show L2.upd (layT r H) p.1 _ t = _
    rcases List.mem_cons.mp m with e | m
    · subst e
      exact upd_same
    · have ne : t ≠ p.1 := fun e => nd'.1 (List.mem_map.mpr ⟨_, m, e⟩)
      rw [upd_ne ne]
      exact layT_new nd'.2 m
theorem layT_inv {H : Hp} {c : Addr} {o : HO} : ∀ {l : List (Addr × V × V)}, layT l H c = some o → (∃ x y, (c, x, y) ∈ l ∧ o = .tup [x, y]) ∨ H c = some o
  | [], h => .inr h
  | p :: r, h => by
    by_cases e : c = p.1
    · have h' : L2.upd (layT r H) p.1 (.tup [p.2.1, p.2.2]) c = some o := h
      rw [e, upd_same] at h'
      exact .inl ⟨p.2.1, p.2.2, by rw [e]; exact .head _, (Option.some.inj h').symm⟩
    · have h' : L2.upd (layT r H) p.1 (.tup [p.2.1, p.2.2]) c = some o := h
      rw [upd_ne e] at h'
      rcases layT_inv h' with ⟨x, y, m, z⟩ | z
      · exact .inl ⟨x, y, .tail _ m, z⟩
      · exact .inr z
theorem Fr.exts {ds : List Addr} {H H' : Hp} (e : ∀ c o, H c = some o → H' c = some o) : Fr ds H H' := ⟨⟨fun a o h _ _ => e a o h, fun a n o h => n o (e a o h)⟩, fun T hT => hT.ext fun c u h => e c u h⟩
/-- list(zip(e, e2)) -/
def tLZ (K : PySem.W.Frag) (ta : TA) : TE := fun σ H Q => ta σ H fun vs H1 => ∃ a b xs ys, vs = [.ref a, .ref b] ∧ SqL K H1 a xs ∧ SqL K H1 b ys ∧ ∀ (l : Addr) (ts : List Addr) (H2 : Hp), Fr [] H1 H2 → H1 l = none → H2 l = some (.lst (ts.map V.ref)) → ts.length = min xs.length ys.length →
  (∀ (j : Nat) (t : Addr), ts[j]? = some t → ∃ x y, xs[j]? = some x ∧ ys[j]? = some y ∧ H1 t = none ∧ H2 t = some (.tup [x, y])) → Q (.ref l) H2
theorem ne_plus {c n : Nat} (h : c < n) (k : Nat) : c ≠ n + k := by omega
theorem le_of5 {c n m : Nat} (h : m ≤ c) (e : m = n + 5) : n ≤ c := by omega
theorem vals_ref : ∀ as : List Addr, Vals (as.map V.ref) (as.map Value.ref)
  | [] => .nil
  | _ :: as => .cons rfl (vals_ref as)
theorem vals_at {xs : List V} {us : List Value} (r : Vals xs us) : ∀ {j : Nat} {u : Value}, us[j]? = some u → ∃ x, xs[j]? = some x ∧ RelV x u := by
  induction r with
  | nil => intro j u h; simp at h
  | cons h t ih =>
    intro j u e
    cases j with
    | zero => cases e; exact ⟨_, rfl, h⟩
    | succ j => exact ih e
theorem pe_listZip {X : Cx} {e e2 : Expr} {ta : TA} {p p2 pos pos2 : Pos} (hc : X.calm = true) (gl : Gl X "list") (ml : X.mg "list" = none) (gz : Gl X "zip") (mz : X.mg "zip" = none) (ha : PA X [e, e2] ta)
    (hs : starEach [e, e2] X.env = (false, eval e X.env) :: starEach [e2] X.env := by rfl) (hpl : (backTo pos2 (starEach [e2] X.env)).any (·.1) = false := by rfl)
    (na : starEach [.Call (.Name "zip" p2) [e, e2] [] pos2] X.env = (false, eval (.Call (.Name "zip" p2) [e, e2] [] pos2) X.env) :: starEach [] X.env := by rfl) :
    PE X (.Call (.Name "list" p) [.Call (.Name "zip" p2) [e, e2] [] pos2] [] pos) (tLZ X.K ta) := by
  refine ⟨fun pins s σ H Q I h => ?_⟩
  refine Call_ (ld_blt I gl ml boot_list (PyProof.Rows.callWith_type1 (args_cons (Call_ (ld_blt I gz mz PyProof.Rows.boot_zip (PyProof.Rows.callWith_type1 (thn (ha.run pos2 pins s σ H _ I h) fun us s1 ⟨vs, H1, I1, r1, q1⟩ => ?_) hs hpl))) na) na))
  obtain ⟨a, b, xs, ys, ex, hqx, hqy, q⟩ := q1; subst ex
  cases r1 with
  | cons r rr => cases rr with
    | cons r' rr =>
      cases rr; cases r; cases r'
      obtain ⟨its, rv, p1, z1⟩ := I1.list hqx
      obtain ⟨its2, rv2, pp2, z2⟩ := I1.list hqy
      have la : a < s1.heap.objs.size := p1.lt
      have lb : b < s1.heap.objs.size := pp2.lt
      refine call_zip_2 p1.isList pp2.isList fun h' hz hTI hTO h1 h2 hsz hk => args_nil ?_
      have hl1 := p1.isList.at fun o e => hk _ o e
      have hl2 := pp2.isList.at fun o e => hk _ o e
      have ll := rv.length
      have ll2 := rv2.length
      have D := PySem.W.ktu_apart s1.heap.objs.size a b la lb
      have O : ZOff (s1.heap.objs.size + 4) (s1.heap.objs.size + 2) (s1.heap.objs.size + 3) s1.heap.objs.size (s1.heap.objs.size + 1) a b h'.objs.size := by
        rw [hsz]
        have f : ∀ n a : Nat, a < n → a < n + 5 := fun n a h => by omega
        have g : ∀ n i : Nat, i < 5 → n + i < n + 5 := fun n i h => by omega
        exact ⟨g _ 4 (by decide), g _ 2 (by decide), g _ 3 (by decide), g _ 0 (by decide), g _ 1 (by decide), f _ _ la, f _ _ lb⟩
      refine zl_call (s := { s1 with heap := h' }) (I1.ok.hd hc) D O ⟨hTI, h1, h2, hl1, hl2, .inl ⟨hz, _, _, hTO⟩⟩ hz (min xs.length ys.length) (by simp only [List.size_toArray]; omega) (by omega) fun h2' tk acc c as kp hS hl hG hacc => ?_
      have old : ∀ c o, s1.heap.get? c = some o → h2'.get? c = some o := fun c o e => by
        have lc : c < s1.heap.objs.size := Heap.lt_size e
        have f : ∀ k : Nat, c ≠ s1.heap.objs.size + k := ne_plus lc
        exact kp c o (by rw [hsz]; exact f 5) (f 4) (f 3) (f 0) (f 1) (hk c o e)
      have new : ∀ c : Addr, h'.objs.size ≤ c → s1.heap.objs.size ≤ c := fun c g => by
        exact le_of5 g hsz
      have nH : ∀ c : Addr, h'.objs.size ≤ c → H1 c = none := fun c g => I1.hok.fresh (new c g)
      have nas : ∀ c ∈ as, H1 c = none := fun c m => nH c (Nat.le_of_lt (hG.over c m))
      have lz : (xs.zip ys).length = as.length := by rw [List.length_zip, hl]
      have e1 : (as.zip (xs.zip ys)).map (·.1) = as := List.map_fst_zip (by omega)
      have nd : ((as.zip (xs.zip ys)).map (·.1)).Nodup := by
        rw [e1]
        exact hG.up.imp fun {a b} g => Nat.ne_of_lt g
      have memA : ∀ t x y, (t, x, y) ∈ as.zip (xs.zip ys) → t ∈ as ∧ ∃ j : Nat, as[j]? = some t ∧ xs[j]? = some x ∧ ys[j]? = some y := fun t x y m => by
        obtain ⟨j, hj⟩ := List.mem_iff_getElem?.mp m
        obtain ⟨q1, q2⟩ := List.getElem?_zip_eq_some.mp hj
        obtain ⟨q2, q3⟩ := List.getElem?_zip_eq_some.mp q2
        exact ⟨List.mem_of_getElem? q1, j, q1, q2, q3⟩
      have oldH : ∀ c o, H1 c = some o → L2.upd (layT (as.zip (xs.zip ys)) H1) h'.objs.size (.lst (as.map V.ref)) c = some o := fun c o e => by
        rw [upd_ne (ne_of_none e (nH _ (Nat.le_refl _))), layT_old fun p m z => ?_]
        · exact e
        · obtain ⟨t, x, y⟩ := p
          have := nas t (memA t x y m).1
          rw [show t = c from z, e] at this
          cases this
      have freeH : ∀ c o, s1.heap.get? c = some o → H1 c = none → L2.upd (layT (as.zip (xs.zip ys)) H1) h'.objs.size (.lst (as.map V.ref)) c = none := fun c o e n => by
        have lc : c < s1.heap.objs.size := Heap.lt_size e
        rw [upd_ne (fun z => Nat.lt_irrefl _ (Nat.lt_of_lt_of_le lc (new c (by rw [z]; exact Nat.le_refl _)))), layT_old fun p m z => ?_]
        · exact n
        · obtain ⟨t, x, y⟩ := p
          have g := hG.over t (memA t x y m).1
          rw [show t = c from z] at g
          exact Nat.lt_irrefl _ (Nat.lt_of_lt_of_le lc (new c (Nat.le_of_lt g)))
      have tupV : ∀ (j : Nat) (t : Addr), as[j]? = some t → ∃ x y, xs[j]? = some x ∧ ys[j]? = some y ∧ (t, x, y) ∈ as.zip (xs.zip ys) ∧ ∃ u v, RelV x u ∧ RelV y v ∧ IsPair h2' t u v := fun j t ej => by
        obtain ⟨u, v, eu, ev, pr⟩ := hG.is j t ej
        rw [List.getElem?_toArray] at eu ev
        obtain ⟨x, ex, rx⟩ := vals_at rv eu
        obtain ⟨y, ey, ry⟩ := vals_at rv2 ev
        exact ⟨x, y, ex, ey, List.mem_of_getElem? (i := j) (List.getElem?_zip_eq_some.mpr ⟨ej, List.getElem?_zip_eq_some.mpr ⟨ex, ey⟩⟩), u, v, rx, ry, pr⟩
      have u : Un X.fs [] H1 (L2.upd (layT (as.zip (xs.zip ys)) H1) h'.objs.size (.lst (as.map V.ref))) s1.heap h2' :=
        { keep := fun b o e _ _ _ => old b o e
          slot := fun b o e _ _ _ => ⟨o.slots, old b o e⟩
          free := fun b o e n _ => freeH b o e n
          there := fun b o e _ => ⟨o, old b o e⟩
          tups := fun b xs e => oldH b _ e
          frzs := fun b o u e => oldH b _ e
          tbls := fun b ps e => ⟨#[], by rw [oldH b _ e]; simp⟩ }
      have ok : HOk X.prog X.w (L2.upd (layT (as.zip (xs.zip ys)) H1) h'.objs.size (.lst (as.map V.ref))) h2' := fun c o e => by
        by_cases ec : c = h'.objs.size
        · subst ec
          rw [upd_same] at e
          cases e
          exact ⟨by rw [List.length_map]; omega, as.map Value.ref, _, vals_ref as, by rw [← hacc, Array.toArray_toList]; exact hS⟩
        · rw [upd_ne ec] at e
          rcases layT_inv e with ⟨x, y, m, rfl⟩ | e0
          · obtain ⟨_, j, ej, _, _⟩ := memA c x y m
            obtain ⟨x', y', _, _, m', u, v, ru, rw', pr⟩ := tupV j c ej
            have e' := layT_new (H := H1) nd m'
            rw [layT_new (H := H1) nd m] at e'
            cases e'
            exact ⟨by show 2 ≤ sizeLine; decide, [u, v], .cons ru (.cons rw' .nil), _, pr, rfl, _, rfl⟩
          · exact (I1.hok c o e0).stay (fun b u _ e => old b u e) (fun b e => oldH b _ e) fun b xs e => oldH b _ e
      have J := I1.un (t' := tk) u ok
      refine ⟨.ref h'.objs.size, _, J, rfl, q _ as _ (Fr.exts oldH) (nH _ (Nat.le_refl _)) upd_same hl fun j t ej => ?_⟩
      obtain ⟨x, y, ex, ey, m, _⟩ := tupV j t ej
      have mt := List.mem_of_getElem? ej
      exact ⟨x, y, ex, ey, nas t mt, by rw [upd_ne (Nat.ne_of_gt (hG.over t mt))]; exact layT_new nd m⟩
end UF

set_option Elab.async false
set_option maxRecDepth 100000
set_option maxHeartbeats 4000000
/-! seats of a ring, walks around it: mathematics -/
namespace UF
open PySem PySem.Spec PyProof.Rows L2

/-- the seats met on a walk of n steps that begins at s -/
def walkL (r s : Int) (n : Nat) (ns : List Int) : List Int := ((List.range n).map fun k => (s + ((k : Nat) : Int)) % r).filter fun x => decide (x ∈ ns)
theorem walkL_succ (r s : Int) (n : Nat) (ns : List Int) : walkL r s (n + 1) ns = if (s + (n : Int)) % r ∈ ns then walkL r s n ns ++ [(s + (n : Int)) % r] else walkL r s n ns := by
  unfold walkL
  rw [List.range_succ, List.map_append, List.filter_append]
  by_cases h : (s + (n : Int)) % r ∈ ns
  · rw [if_pos h]
    simp [h]
  · rw [if_neg h]
    simp [h]
/-- two rising lists with the same members are one -/
theorem rising_ext : ∀ {xs ys : List Int}, xs.Pairwise (· < ·) → ys.Pairwise (· < ·) → (∀ z, z ∈ xs ↔ z ∈ ys) → xs = ys
  | [], [], _, _, _ => rfl
  | [], y :: ys, _, _, h => absurd ((h y).mpr (.head _)) (by simp)
  | x :: xs, [], _, _, h => absurd ((h x).mp (.head _)) (by simp)
  | x :: xs, y :: ys, hx, hy, h => by
    have hx' := List.pairwise_cons.mp hx
    have hy' := List.pairwise_cons.mp hy
    have e : x = y := by
      have h1 := (h x).mp (.head _)
      have h2 := (h y).mpr (.head _)
      rcases List.mem_cons.mp h1 with e | m1
      · exact e
      · rcases List.mem_cons.mp h2 with e | m2
        · exact e.symm
        · have := hx'.1 y m2
          have := hy'.1 x m1
          omega
    subst e
    refine congrArg (List.cons x) (rising_ext hx'.2 hy'.2 fun z => ?_)
    constructor
    · intro m
      have l := hx'.1 z m
      rcases List.mem_cons.mp ((h z).mp (.tail _ m)) with e | m2
      · omega
      · exact m2
    · intro m
      have l := hy'.1 z m
      rcases List.mem_cons.mp ((h z).mpr (.tail _ m)) with e | m2
      · omega
      · exact m2
theorem emod_lt' {r : Int} (h : 0 < r) (a : Int) : a % r < r := Int.emod_lt_of_pos _ h
theorem emod_nn {r : Int} (h : 0 < r) (a : Int) : 0 ≤ a % r := Int.emod_nonneg _ (by omega)
/-- a seat is met again at its distance -/
theorem back {r s x : Int} (h0 : 0 ≤ x) (h1 : x < r) : (s + (x - s) % r) % r = x := by
  rw [Int.add_emod, Int.emod_emod, ← Int.add_emod, show s + (x - s) = x by omega]
  exact Int.emod_eq_of_lt h0 h1
theorem forth {r s k : Int} (h0 : 0 ≤ k) (h1 : k < r) : ((s + k) % r - s) % r = k := by
  rw [Int.sub_emod, Int.emod_emod, ← Int.sub_emod, show s + k - s = k by omega]
  exact Int.emod_eq_of_lt h0 h1
/-- the sorted distances up to span, as the walk tells them -/
theorem steps_walk {r s : Int} {ns st : List Int} {n : Nat} (hr : 0 < r) (hn : (n : Int) ≤ r) (h0 : ∀ x ∈ ns, 0 ≤ x) (h1 : ∀ x ∈ ns, x < r) (nd : ns.Nodup) (pm : st.Perm (ns.map fun x => (x - s) % r)) (so : st.Pairwise (· ≤ ·)) :
    (st.filter fun k => decide (k < (n : Int))).map (fun k => (s + k) % r) = walkL r s n ns := by
  have mem : ∀ k, k ∈ st ↔ ∃ x ∈ ns, (x - s) % r = k := fun k => by
    rw [pm.mem_iff, List.mem_map]
  have inj : (ns.map fun x => (x - s) % r).Nodup := by
    unfold List.Nodup
    rw [List.pairwise_map]
    refine List.Pairwise.imp_of_mem (fun {a b} ha hb hab e => hab ?_) nd
    rw [← back (s := s) (h0 a ha) (h1 a ha), ← back (s := s) (h0 b hb) (h1 b hb), e]
  have up : st.Pairwise (· < ·) := by
    have z := so.and (pm.nodup_iff.mpr inj)
    exact z.imp fun {a b} h => by
      have h1 := h.1
      have h2 := h.2
      omega
  have e : (st.filter fun k => decide (k < (n : Int))) = ((List.range n).filter fun k => decide ((s + ((k : Nat) : Int)) % r ∈ ns)).map fun k => ((k : Nat) : Int) := by
    refine rising_ext (up.filter _) (List.Pairwise.map _ (fun a b h => by omega) (List.pairwise_lt_range.filter _)) fun z => ?_
    rw [List.mem_filter, mem, List.mem_map]
    constructor
    · rintro ⟨⟨x, hx, rfl⟩, hz⟩
      have hz := of_decide_eq_true hz
      have p0 := emod_nn hr (x - s)
      refine ⟨((x - s) % r).toNat, List.mem_filter.mpr ⟨List.mem_range.mpr (by omega), decide_eq_true ?_⟩, by omega⟩
      rw [Int.toNat_of_nonneg p0, back (h0 x hx) (h1 x hx)]
      exact hx
    · rintro ⟨k, hk, rfl⟩
      obtain ⟨k1, k2⟩ := List.mem_filter.mp hk
      have k1 := List.mem_range.mp k1
      refine ⟨⟨_, of_decide_eq_true k2, forth (by omega) (by omega)⟩, decide_eq_true (by omega)⟩
  rw [e, List.map_map]
  unfold walkL
  rw [List.filter_map]
  rfl
theorem walkL_nil (r s : Int) (n : Nat) : walkL r s n [] = [] := by
  unfold walkL
  rw [List.filter_eq_nil_iff]
  intro a _
  simp
/-- the first seat of the walk is the one of the least distance -/
theorem walk_first {r s m : Int} {ns : List Int} (hr : 0 < r) (h0 : ∀ x ∈ ns, 0 ≤ x) (h1 : ∀ x ∈ ns, x < r) (hm : m ∈ ns) (best : ∀ x ∈ ns, (m - s) % r ≤ (x - s) % r) : ∃ rest, walkL r s r.toNat ns = m :: rest := by
  have p0 := emod_nn hr (m - s)
  have p1 := emod_lt' hr (m - s)
  obtain ⟨t, ht⟩ : ∃ t, r.toNat = ((m - s) % r).toNat + (t + 1) := ⟨r.toNat - ((m - s) % r).toNat - 1, by omega⟩
  have bk := back (s := s) (h0 m hm) (h1 m hm)
  unfold walkL
  rw [ht, List.range_add, List.map_append, List.filter_append]
  have e1 : ((List.range ((m - s) % r).toNat).map fun k => (s + ((k : Nat) : Int)) % r).filter (fun x => decide (x ∈ ns)) = [] := by
    rw [List.filter_eq_nil_iff]
    intro x hx hd
    obtain ⟨k, hk, rfl⟩ := List.mem_map.mp hx
    have hk := List.mem_range.mp hk
    have b := best _ (of_decide_eq_true hd)
    rw [forth (by omega) (by omega)] at b
    omega
  rw [e1, List.nil_append, List.range_succ_eq_map, List.map_cons, List.map_cons, List.filter_cons]
  have e2 : (s + (((((m - s) % r).toNat + 0 : Nat)) : Int)) % r = m := by
    rw [show ((((m - s) % r).toNat + 0 : Nat) : Int) = (m - s) % r by omega]
    exact bk
  rw [e2, if_pos (decide_eq_true hm)]
  exact ⟨_, rfl⟩
theorem emod_is {a r c q : Int} (e : a = c + r * q) (h0 : 0 ≤ c) (h1 : c < r) : a % r = c := by
  rw [e, Int.add_mul_emod_self_left]
  exact Int.emod_eq_of_lt h0 h1
theorem count_eq {r : Int} (hr : 0 < r) (lo hi : Int) : (if (hi - lo) % r = 0 then r else (hi - lo) % r) = (hi - (lo + 1)) % r + 1 := by
  have e := Int.emod_add_mul_ediv (hi - lo) r
  have p0 := emod_nn hr (hi - lo)
  have p1 := emod_lt' hr (hi - lo)
  generalize (hi - lo) % r = d at e p0 p1
  generalize (hi - lo) / r = q at e
  by_cases h : d = 0
  · rw [if_pos h, emod_is (c := r - 1) (q := q - 1) (r := r) ?_ (by omega) (by omega)]
    · omega
    · rw [Int.mul_sub, Int.mul_one]
      omega
  · rw [if_neg h, emod_is (c := d - 1) (q := q) (r := r) (by omega) (by omega) (by omega)]
    omega
theorem gap_eq {r : Int} (a : Int) : (a - a % r) / r * r = a - a % r := by
  refine Int.ediv_mul_cancel ⟨a / r, ?_⟩
  have e := Int.emod_add_mul_ediv a r
  omega
/-- a list of seats of the ring, each once -/
structure Seats (ns : List Int) (r : Int) : Prop where
  nd : ns.Nodup
  lo : ∀ x ∈ ns, 0 ≤ x
  hi : ∀ x ∈ ns, x < r
theorem seqIx_lt {d : Int} {n : Nat} (h0 : 0 ≤ d) (h1 : d < n) : seqIndex? d n = some d.toNat := by
  refine (ixN_seq (n := n) (i := d) (j := d.toNat) ?_).1
  unfold ixN
  rw [if_pos h0, if_pos h1]
theorem map_erase (f : Int → V) : ∀ (l : List Int) (i : Nat), (l.map f).eraseIdx i = (l.eraseIdx i).map f
  | [], _ => rfl
  | _ :: _, 0 => rfl
  | a :: l, i + 1 => congrArg (List.cons (f a)) (map_erase f l i)
theorem erase_perm : ∀ {l : List Int} {i : Nat} {y : Int}, l[i]? = some y → (y :: l.eraseIdx i).Perm l
  | [], i, y, h => by simp at h
  | a :: l, 0, y, h => by
    cases h
    exact List.Perm.refl _
  | a :: l, i + 1, y, h => by
    have h' : l[i]? = some y := h
    exact (List.Perm.swap a y _).trans ((erase_perm h').cons a)
theorem nodup_move {hs ps : List Int} {i : Nat} {y : Int} (h : (hs ++ ps).Nodup) (e : ps[i]? = some y) : ((hs ++ [y]) ++ ps.eraseIdx i).Nodup := by
  have p1 := erase_perm e
  rw [List.append_assoc]
  exact (List.Perm.append_left hs p1).symm.nodup h
theorem mem_move {hs ps : List Int} {i : Nat} {y x : Int} (e : ps[i]? = some y) (h : x ∈ (hs ++ [y]) ++ ps.eraseIdx i) : x ∈ hs ++ ps := by
  have p1 := erase_perm e
  rw [List.append_assoc] at h
  exact (List.Perm.append_left hs p1).mem_iff.mp h

theorem nodup_len : ∀ (n : Nat) (l : List Nat), l.Nodup → (∀ x ∈ l, x < n) → l.length ≤ n
  | 0, [], _, _ => Nat.le_refl _
  | 0, a :: l, _, h => absurd (h a (.head _)) (Nat.not_lt_zero _)
  | n + 1, l, nd, h => by
    by_cases m : n ∈ l
    · have z := nodup_len n (l.erase n) (nd.erase n) fun x hx => by
        have q := (nd.mem_erase_iff).mp hx
        have := h x q.2
        have := q.1
        omega
      rw [List.length_erase_of_mem m] at z
      omega
    · refine Nat.le_succ_of_le (nodup_len n l nd fun x hx => ?_)
      have := h x hx
      have : x ≠ n := fun e => m (e ▸ hx)
      omega
theorem seats_len {ns : List Int} {r : Int} (h : Seats ns r) (hr : 0 ≤ r) : ns.length ≤ r.toNat := by
  have sub : (ns.map Int.toNat).Nodup := by
    unfold List.Nodup
    rw [List.pairwise_map]
    refine List.Pairwise.imp_of_mem (fun {a b} ha hb hab e => hab ?_) h.nd
    have := h.lo a ha
    have := h.lo b hb
    omega
  have hs : (ns.map Int.toNat).Subset (List.range r.toNat) := by
    intro x hx
    obtain ⟨a, ha, rfl⟩ := List.mem_map.mp hx
    have := h.lo a ha
    have := h.hi a ha
    exact List.mem_range.mpr (by omega)
  have z := nodup_len r.toNat _ sub fun x hx => List.mem_range.mp (hs hx)
  rw [List.length_map] at z
  exact z


def ringN (n : Nat) : Int := ((2 ^ n : Nat) : Int)
theorem ring_pos (n : Nat) : 0 < ringN n := by
  unfold ringN
  have := Nat.two_pow_pos n
  omega
theorem ring_two {n : Nat} (h : 1 ≤ n) : 2 ≤ ringN n := by
  unfold ringN
  have : (2 : Nat) ^ 1 ≤ 2 ^ n := Nat.pow_le_pow_right (by decide) h
  omega
theorem ringN_le {n : Nat} (h : n ≤ 8) : ringN n ≤ 256 := by
  unfold ringN
  have : 2 ^ n ≤ 2 ^ 8 := Nat.pow_le_pow_right (by decide) h
  omega
theorem ringN_succ (i : Nat) : ringN i * 2 = ringN (i + 1) := by
  unfold ringN
  rw [Nat.pow_succ]
  omega
theorem ring_lt {n : Nat} (h : n ≤ 8) : ringN n < 2 ^ 2000 := Int.lt_of_le_of_lt (ringN_le h) (by decide +kernel)
theorem shl_eq (n : Nat) : (1 : Int) * 2 ^ ((n : Int)).toNat = ringN n := by
  unfold ringN
  rw [Int.toNat_natCast, Int.one_mul]
  simp
theorem rg_int (r : Int) : rgV 0 r = ((List.range r.toNat).map fun i => ((i : Nat) : Int)).map V.int := by
  unfold rgV
  rw [List.map_map, show (r - 0).toNat = r.toNat by rw [Int.sub_zero]]
  refine List.map_congr_left fun i _ => ?_
  show V.int (0 + (i : Nat)) = V.int ((i : Nat) : Int)
  rw [Int.zero_add]
end UF

set_option Elab.async false
set_option maxRecDepth 100000
set_option maxHeartbeats 4000000
/-! lists of whole numbers as data; slices; lists by filters -/
namespace UF
open PySem PySem.Spec PyProof.Rows L2
theorem dpList {K : PySem.W.Frag} {H : Hp} {a : Addr} {ns : List Int} (h : SqL K H a (ns.map V.int)) : Dp K H (.ref a) (.list (ns.map PyData.int)) := by
  refine .lst h ?_
  clear h
  induction ns with
  | nil => exact .nil
  | cons n ns ih => exact .cons (.int n) ih
theorem lay_ints : ∀ ns : List Int, PyData.canLayAll0 (ns.map PyData.int) = true
  | [] => by simp [PyData.canLayAll0]
  | n :: ns => by
    rw [List.map_cons, PyData.canLayAll0, lay_ints ns]
    simp [PyData.canLay0]
theorem dep_ints : ∀ ns : List Int, PyData.depthAll (ns.map PyData.int) = 0
  | [] => by simp [PyData.depthAll]
  | n :: ns => by
    rw [List.map_cons, PyData.depthAll, dep_ints ns]
    simp [PyData.depth]
theorem can_list (ns : List Int) : (PyData.list (ns.map PyData.int)).canLay0 = true := by
  rw [PyData.canLay0]
  exact lay_ints ns
theorem shaped_list (ns : List Int) : SeqAt.shaped (.list (ns.map PyData.int)) = true := by
  unfold SeqAt.shaped
  rw [can_list, PyData.depth, dep_ints]
  rfl
theorem eqv_list (ns : List Int) : PyData.eqv (.list (ns.map PyData.int)) (.list (ns.map PyData.int)) = true := SeqAt.eqv_refl _ (can_list ns)
theorem eqvAll_ints : ∀ xs ys : List Int, PyData.eqvAll (xs.map PyData.int) (ys.map PyData.int) = decide (xs = ys)
  | [], [] => by simp [PyData.eqvAll]
  | [], _ :: _ => by simp [PyData.eqvAll]
  | _ :: _, [] => by simp [PyData.eqvAll]
  | x :: xs, y :: ys => by
    rw [List.map_cons, List.map_cons, PyData.eqvAll, eqvAll_ints xs ys, PyData.eqv]
    by_cases h : x = y
    · subst h; simp
    · simp [h]
theorem eqv_ints (xs ys : List Int) : PyData.eqv (.list (xs.map PyData.int)) (.list (ys.map PyData.int)) = decide (xs = ys) := by
  rw [PyData.eqv]
  exact eqvAll_ints xs ys
theorem cut_to {xs : List V} {k : Int} (h : 0 ≤ k) : cutV xs none (some k) = xs.take k.toNat := by
  obtain ⟨j, rfl⟩ := Int.eq_ofNat_of_zero_le h
  unfold cutV
  rw [HT.sIx_nat, HT.sIx_none, List.drop_zero, Int.toNat_natCast, Nat.sub_zero]
  by_cases q : j ≤ xs.length
  · rw [Nat.min_eq_left q]
  · rw [Nat.min_eq_right (by omega), List.take_of_length_le (Nat.le_refl _), List.take_of_length_le (by omega)]
theorem cut_from {xs : List V} {k : Int} (h : 0 ≤ k) : cutV xs (some k) none = xs.drop k.toNat := by
  obtain ⟨j, rfl⟩ := Int.eq_ofNat_of_zero_le h
  unfold cutV
  rw [HT.sIx_nat, HT.sIx_none, Int.toNat_natCast]
  by_cases q : j ≤ xs.length
  · rw [Nat.min_eq_left q]
    exact List.take_of_length_le (by rw [List.length_drop]; exact Nat.le_refl _)
  · rw [Nat.min_eq_right (by omega), List.drop_of_length_le (Nat.le_refl _), List.drop_of_length_le (by omega)]
    exact List.take_nil
theorem take_snoc {α : Type} {xs : List α} {i : Nat} {z : α} (e : xs[i]? = some z) : xs.take (i + 1) = xs.take i ++ [z] := by rw [List.take_add_one, e]; rfl
theorem map_get {α : Type} {f : α → V} {xs : List α} {i : Nat} {v : V} (h : (xs.map f)[i]? = some v) : ∃ z, xs[i]? = some z ∧ v = f z := by
  rw [List.getElem?_map] at h
  cases e : xs[i]? with
  | none => rw [e] at h; cases h
  | some z => rw [e] at h; cases h; exact ⟨z, rfl, rfl⟩
theorem map_getE {xs : List Int} {i : Nat} {v : V} (h : (xs.map V.int)[i]? = some v) : ∃ z, xs[i]? = some z ∧ v = .int z := map_get h
theorem flat_ints : ∀ xs : List Int, (xs.map V.int).all flatV = true
  | [] => rfl
  | _ :: xs => by rw [List.map_cons, List.all_cons, flat_ints xs]; rfl
theorem inV_ints (x : Int) : ∀ xs : List Int, inV (.int x) (xs.map V.int) = decide (x ∈ xs)
  | [] => by simp [inV]
  | y :: xs => by
    have ih := inV_ints x xs
    unfold inV at ih ⊢
    rw [List.map_cons, List.any_cons, ih]
    by_cases h : x = y
    · subst h
      have : eqV (V.int x) (V.int x) = true := by simp [eqV]
      simp [this]
    · have : eqV (V.int y) (V.int x) = false := by simp [eqV]; omega
      simp [this, h]
end UF

set_option Elab.async false
set_option maxRecDepth 100000
set_option maxHeartbeats 4000000
set_option exponentiation.threshold 4096
/-! the purse of draws (a dict of seven) -/
namespace UF
open PySem PySem.Spec PyProof.Rows L2 C8
/-! ### the purse -/
def pv7 (c : Addr) (a r l m s n : Int) : List (Key × V) := [(.inr "cells", .ref c), (.inr "at", .int a), (.inr "rest", .int r), (.inr "left", .int l), (.inr "mixed", .int m), (.inr "seed", .int s), (.inr "count", .int n)]
structure PuV (H : Hp) (p c : Addr) (cells : List Int) (a r l m s n : Int) : Prop where
  hp : H p = some (.dK (pv7 c a r l m s n))
  hc : H c = some (.lst (cells.map V.int))
theorem PuV.ne {H : Hp} {p c : Addr} {cells : List Int} {a r l m s n : Int} (B : PuV H p c cells a r l m s n) : c ≠ p := by
  intro e
  have h := B.hc
  rw [e, B.hp] at h
  cases h
theorem PuV.set {H : Hp} {p c : Addr} {cells : List Int} {a r l m s n : Int} (B : PuV H p c cells a r l m s n) (a' r' l' m' s' n' : Int) : PuV (upd H p (.dK (pv7 c a' r' l' m' s' n'))) p c cells a' r' l' m' s' n' :=
  ⟨upd_same, by rw [upd_ne B.ne]; exact B.hc⟩
/-- the purse, between two draws -/
def Purse (H : Hp) (p c : Addr) : Prop := ∃ (cells : List Int) (a r l m s n : Int), PuV H p c cells a r l m s n ∧ 0 ≤ a
section
variable {H : Hp} {p c : Addr} {cells : List Int} {a r l m s n : Int}
theorem PuV.g_cells (B : PuV H p c cells a r l m s n) : DGet H p (.str "cells") (some (.ref c)) := by
  have h := DGet.k (k := Sum.inr "cells") B.hp
  rw [show valV (pv7 c a r l m s n) (Sum.inr "cells") = some (.ref c) by kernel_rfl] at h
  exact h
theorem PuV.g_at (B : PuV H p c cells a r l m s n) : DGet H p (.str "at") (some (.int a)) := by
  have h := DGet.k (k := Sum.inr "at") B.hp
  rw [show valV (pv7 c a r l m s n) (Sum.inr "at") = some (.int a) by kernel_rfl] at h
  exact h
theorem PuV.p_at (B : PuV H p c cells a r l m s n) (z : Int) : DPut H p (.str "at") (.int z) (upd H p (.dK (pv7 c z r l m s n))) := by
  have h := DPut.k (k := Sum.inr "at") (v := .int z) B.hp (by show 7 < sizeLine; decide)
  rw [show putK (pv7 c a r l m s n) (Sum.inr "at") (.int z) = pv7 c z r l m s n by kernel_rfl] at h
  exact h
theorem PuV.g_rest (B : PuV H p c cells a r l m s n) : DGet H p (.str "rest") (some (.int r)) := by
  have h := DGet.k (k := Sum.inr "rest") B.hp
  rw [show valV (pv7 c a r l m s n) (Sum.inr "rest") = some (.int r) by kernel_rfl] at h
  exact h
theorem PuV.p_rest (B : PuV H p c cells a r l m s n) (z : Int) : DPut H p (.str "rest") (.int z) (upd H p (.dK (pv7 c a z l m s n))) := by
  have h := DPut.k (k := Sum.inr "rest") (v := .int z) B.hp (by show 7 < sizeLine; decide)
  rw [show putK (pv7 c a r l m s n) (Sum.inr "rest") (.int z) = pv7 c a z l m s n by kernel_rfl] at h
  exact h
theorem PuV.g_left (B : PuV H p c cells a r l m s n) : DGet H p (.str "left") (some (.int l)) := by
  have h := DGet.k (k := Sum.inr "left") B.hp
  rw [show valV (pv7 c a r l m s n) (Sum.inr "left") = some (.int l) by kernel_rfl] at h
  exact h
theorem PuV.p_left (B : PuV H p c cells a r l m s n) (z : Int) : DPut H p (.str "left") (.int z) (upd H p (.dK (pv7 c a r z m s n))) := by
  have h := DPut.k (k := Sum.inr "left") (v := .int z) B.hp (by show 7 < sizeLine; decide)
  rw [show putK (pv7 c a r l m s n) (Sum.inr "left") (.int z) = pv7 c a r z m s n by kernel_rfl] at h
  exact h
theorem PuV.g_mixed (B : PuV H p c cells a r l m s n) : DGet H p (.str "mixed") (some (.int m)) := by
  have h := DGet.k (k := Sum.inr "mixed") B.hp
  rw [show valV (pv7 c a r l m s n) (Sum.inr "mixed") = some (.int m) by kernel_rfl] at h
  exact h
theorem PuV.p_mixed (B : PuV H p c cells a r l m s n) (z : Int) : DPut H p (.str "mixed") (.int z) (upd H p (.dK (pv7 c a r l z s n))) := by
  have h := DPut.k (k := Sum.inr "mixed") (v := .int z) B.hp (by show 7 < sizeLine; decide)
  rw [show putK (pv7 c a r l m s n) (Sum.inr "mixed") (.int z) = pv7 c a r l z s n by kernel_rfl] at h
  exact h
theorem PuV.g_seed (B : PuV H p c cells a r l m s n) : DGet H p (.str "seed") (some (.int s)) := by
  have h := DGet.k (k := Sum.inr "seed") B.hp
  rw [show valV (pv7 c a r l m s n) (Sum.inr "seed") = some (.int s) by kernel_rfl] at h
  exact h
theorem PuV.p_seed (B : PuV H p c cells a r l m s n) (z : Int) : DPut H p (.str "seed") (.int z) (upd H p (.dK (pv7 c a r l m z n))) := by
  have h := DPut.k (k := Sum.inr "seed") (v := .int z) B.hp (by show 7 < sizeLine; decide)
  rw [show putK (pv7 c a r l m s n) (Sum.inr "seed") (.int z) = pv7 c a r l m z n by kernel_rfl] at h
  exact h
theorem PuV.g_count (B : PuV H p c cells a r l m s n) : DGet H p (.str "count") (some (.int n)) := by
  have h := DGet.k (k := Sum.inr "count") B.hp
  rw [show valV (pv7 c a r l m s n) (Sum.inr "count") = some (.int n) by kernel_rfl] at h
  exact h
theorem PuV.p_count (B : PuV H p c cells a r l m s n) (z : Int) : DPut H p (.str "count") (.int z) (upd H p (.dK (pv7 c a r l m s z))) := by
  have h := DPut.k (k := Sum.inr "count") (v := .int z) B.hp (by show 7 < sizeLine; decide)
  rw [show putK (pv7 c a r l m s n) (Sum.inr "count") (.int z) = pv7 c a r l m s z by kernel_rfl] at h
  exact h
end


section
variable {H H' : Hp} {p c : Addr} {cells : List Int} {a r l m s n : Int} {ds : List Addr}
theorem PuV.pl (B : PuV H p c cells a r l m s n) : Pl H p := .dK B.hp
theorem PuV.fr (B : PuV H p c cells a r l m s n) (x : Fr ds H H') (n1 : p ∉ ds) (n2 : c ∉ ds) : PuV H' p c cells a r l m s n := ⟨x.dK B.hp n1, x.lst B.hc n2⟩
theorem Purse.fr (B : Purse H p c) (x : Fr ds H H') (n1 : p ∉ ds) (n2 : c ∉ ds) : Purse H' p c := by
  obtain ⟨cells, a, r, l, m, s, n, B, h⟩ := B
  exact ⟨cells, a, r, l, m, s, n, B.fr x n1 n2, h⟩
theorem Purse.new (B : Purse H p c) {q : Addr} (z : H q = none) (o : HO) : Purse (upd H q o) p c := B.fr (Fr.new0 (ds := []) z o) not_nil not_nil
theorem Purse.at_ (B : Purse H p c) : ∃ o, H p = some o := by
  obtain ⟨cells, a, r, l, m, s, n, B, h⟩ := B
  exact ⟨_, B.hp⟩
theorem Purse.in_ (B : Purse H p c) : ∃ o, H c = some o := by
  obtain ⟨cells, a, r, l, m, s, n, B, h⟩ := B
  exact ⟨_, B.hc⟩
theorem Purse.nw_ne (B : Purse H p c) {q : Addr} (n : Nw H q) : q ≠ p ∧ q ≠ c := by
  obtain ⟨cells, a, r, l, m, s, k, B, h⟩ := B
  exact ⟨(ne_nw B.hp n).symm, (ne_nw B.hc n).symm⟩
theorem Purse.off (B : Purse H p c) {q : Addr} (n1 : q ≠ p) (n2 : q ≠ c) (o : HO) : Purse (upd H q o) p c := by
  obtain ⟨cells, a, r, l, m, s, n, B, h⟩ := B
  exact ⟨cells, a, r, l, m, s, n, ⟨by rw [upd_ne n1.symm]; exact B.hp, by rw [upd_ne n2.symm]; exact B.hc⟩, h⟩
end
def spMixed : Sp := fun vs H Q _ => ∃ a t : Int, vs = [.int a, .int t] ∧ ∀ m : Int, Q (.int m) H
def spDrawP : Sp := fun vs H Q _ => ∃ (p c : Addr) (m : Int), vs = [.ref p, .int m] ∧ Purse H p c ∧ 0 < m ∧ m < 2 ^ 2000 ∧ ∀ (d : Int) (H' : Hp), 0 ≤ d → d < m → Purse H' p c → Fr [p] H H' → Q (.int d) H'
def spPurse (K : PySem.W.Frag) : Sp := fun vs H Q _ => ∃ (a : Addr) (ns : List Int), vs = [.ref a] ∧ SqL K H a (ns.map V.int) ∧ ∀ (p c : Addr) (H' : Hp), Nw H p → Nw H c → Purse H' p c → Fr [] H H' → Q (.ref p) H'
theorem cut_map (ns : List Int) (lo hi : Option Int) : ∃ ms : List Int, cutV (ns.map V.int) lo hi = ms.map V.int ∧ ms.length ≤ ns.length := by
  refine ⟨((ns.drop (HT.sIx ns.length 0 lo)).take (HT.sIx ns.length ns.length hi - HT.sIx ns.length 0 lo)), ?_, ?_⟩
  · unfold cutV
    rw [List.length_map, List.map_take, List.map_drop]
  · rw [List.length_take, List.length_drop]
    omega
end UF

set_option Elab.async false
set_option maxRecDepth 100000
set_option maxHeartbeats 4000000
/-! papers: lists of lines of pairs; who knows behind them -/
namespace UF
open PySem PySem.Spec PyProof.Rows L2 C8
/-- a dict comprehension over a walk -/
theorem dc_it {J : It} {n : Nat} {G : Hp → Prop} {Y : Nat → Hp → V → Hp → Prop} (w : Walk J n G Y) {g : TG} {tt : TT} {tk tv : TE} {vs : List Nat} {σ : L2.St} {H1 : Hp} {D : Addr} {Qd : Hp → Prop} (Pv : Nat → Hp → Prop) (h0 : Pv 0 (upd H1 D (.dK []))) (hG : ∀ i H, i ≤ n → Pv i H → G H)
    (hs : ∀ i x H H', i < n → Pv i H → Y i H x H' → g x (wipe σ vs) H' fun σ2 H2 => wipe σ2 vs = wipe σ vs ∧ tt σ2 H2 fun b H3 =>
      if b = true then tk σ2 H3 fun y H4 => tv σ2 H4 fun z H5 => ∃ kvs k, y = kV k ∧ H5 D = some (.dK kvs) ∧ kvs.length < sizeLine ∧ Pv (i + 1) (upd H5 D (.dK (putK kvs k z))) else Pv (i + 1) H3) (hd : ∀ H, Pv n H → Qd H) :
    ∃ W : Nat → Nat → Hp → Prop, (∃ m, W 0 m (upd H1 D (.dK []))) ∧ ∀ i m H, W i m H →
      (J.stop i H ∧ Qd H) ∨ (J.go i H ∧ ∃ Nx : Hp → Prop, (∀ H', Nx H' → ∃ m', m' < m ∧ W (i + 1) m' H') ∧ ∀ x H', J.yld i H x H' → g x (wipe σ vs) H' fun σ2 H2 => wipe σ2 vs = wipe σ vs ∧ tt σ2 H2 fun b H3 =>
        if b = true then tk σ2 H3 fun y H4 => tv σ2 H4 fun z H5 => ∃ kvs k, y = kV k ∧ H5 D = some (.dK kvs) ∧ kvs.length < sizeLine ∧ Nx (upd H5 D (.dK (putK kvs k z))) else Nx H3) := by
  refine ⟨fun i m H => m = n - i ∧ i ≤ n ∧ Pv i H, ⟨n, by simp, Nat.zero_le _, h0⟩, fun i m H q => ?_⟩
  obtain ⟨rfl, hi, p⟩ := q
  by_cases hlt : i < n
  · exact .inr ⟨w.goes i H hlt (hG i H hi p), Pv (i + 1), fun H' p' => ⟨n - (i + 1), by omega, rfl, hlt, p'⟩, fun x H' y => hs i x H H' hlt p (w.yields i H x H' hlt (hG i H hi p) y)⟩
  · have e : i = n := by omega
    subst e
    exact .inl ⟨w.stops H (hG _ H hi p), hd H p⟩
section
variable {α β : Type} {F G : α → β → Prop}
theorem pd_get {xs : List α} {ys : List β} (p : Paired F xs ys) : ∀ {j : Nat} {x : α}, xs[j]? = some x → ∃ y, ys[j]? = some y ∧ F x y := by
  induction p with
  | nil => intro j x h; simp at h
  | cons h t ih =>
    intro j x e
    cases j with
    | zero => cases e; exact ⟨_, rfl, h⟩
    | succ j => exact ih e
theorem pd_of {xs : List α} {ys : List β} : xs.length = ys.length → (∀ (j : Nat) (x : α) (y : β), xs[j]? = some x → ys[j]? = some y → F x y) → Paired F xs ys := by
  induction xs generalizing ys with
  | nil => intro h _; cases ys with
    | nil => exact .nil
    | cons _ _ => simp at h
  | cons x xs ih => intro h k; cases ys with
    | nil => simp at h
    | cons y ys => exact .cons (k 0 x y rfl rfl) (ih (by simpa using h) fun j a b e1 e2 => k (j + 1) a b e1 e2)
theorem pd_mem {xs : List α} {ys : List β} (p : Paired F xs ys) (h : ∀ x y, x ∈ xs → F x y → G x y) : Paired G xs ys := by
  induction p with
  | nil => exact .nil
  | cons q t ih => exact .cons (h _ _ (.head _) q) (ih fun x y m => h x y (.tail _ m))
end
/-! ### on the heap -/
def PairO (H : Hp) (t : Addr) (p : Int × Int) : Prop := H t = some (.tup [.int p.1, .int p.2])
def LineO (H : Hp) (l : Addr) (ps : List (Int × Int)) : Prop := ∃ ts : List Addr, H l = some (.lst (ts.map V.ref)) ∧ Paired (PairO H) ts ps
def PapO (H : Hp) (q : Addr) (pp : List (List (Int × Int))) : Prop := ∃ ls : List Addr, H q = some (.lst (ls.map V.ref)) ∧ Paired (LineO H) ls pp
/-- neither lists nor tuples stand at ds -/
def Nlt (H : Hp) (ds : List Addr) : Prop := ∀ a ∈ ds, (∀ xs, H a ≠ some (.lst xs)) ∧ ∀ xs, H a ≠ some (.tup xs)
theorem Nlt.nil {H : Hp} : Nlt H [] := fun _ m => nomatch m
theorem Purse.nlt {H : Hp} {p c : Addr} (B : Purse H p c) : Nlt H [p] := fun a m => by
  obtain ⟨cells, x, r, l, mx, s, n, B, _⟩ := B
  rw [List.mem_singleton.mp m, B.hp]
  exact ⟨(fun xs e => nomatch e), (fun xs e => nomatch e)⟩
section
variable {H H' : Hp} {ds : List Addr} {l q t : Addr} {ps : List (Int × Int)} {pp : List (List (Int × Int))} {p : Int × Int}
theorem PairO.fr (h : PairO H t p) (x : Fr ds H H') (n : Nlt H ds) : PairO H' t p := x.tup h fun m => (n t m).2 _ h
theorem LineO.fr (h : LineO H l ps) (x : Fr ds H H') (n : Nlt H ds) : LineO H' l ps := by
  obtain ⟨ts, e, p⟩ := h
  exact ⟨ts, x.lst e fun m => (n l m).1 _ e, Paired.mono (fun _ _ z => PairO.fr z x n) p⟩
theorem PapO.fr (h : PapO H q pp) (x : Fr ds H H') (n : Nlt H ds) : PapO H' q pp := by
  obtain ⟨ls, e, p⟩ := h
  exact ⟨ls, x.lst e fun m => (n q m).1 _ e, Paired.mono (fun _ _ z => LineO.fr z x n) p⟩
end
/-! ### who knows -/
def dkv (ks : List Int) : List (Key × V) := ks.map fun x => (.inl x, .bl true)
def addK (ks : List Int) (x : Int) : List Int := if x ∈ ks then ks else ks ++ [x]
theorem dk_val (x : Int) : ∀ ks : List Int, valV (dkv ks) (.inl x) = if x ∈ ks then some (.bl true) else none
  | [] => rfl
  | k :: ks => by
    have ih := dk_val x ks
    by_cases e : k = x
    · subst e
      rw [if_pos (.head _)]
      exact valV_pos rfl
    · have e' : ¬ (Sum.inl k : Key) = .inl x := fun z => e (Sum.inl.inj z)
      show valV ((.inl k, .bl true) :: dkv ks) (.inl x) = _
      rw [valV_neg (p := (Sum.inl k, V.bl true)) e', ih]
      by_cases m : x ∈ ks
      · rw [if_pos m, if_pos (.tail _ m)]
      · rw [if_neg m, if_neg fun z => (List.mem_cons.mp z).elim (fun y => e y.symm) m]
theorem dk_put (x : Int) (ks : List Int) : putK (dkv ks) (.inl x) (.bl true) = dkv (addK ks x) := by
  unfold putK addK
  rw [valV_any, dk_val]
  by_cases m : x ∈ ks
  · rw [if_pos m, if_pos m]
    simp only [Option.isSome_some, if_true]
    unfold dkv
    rw [List.map_map]
    refine List.map_congr_left fun k _ => ?_
    show (if (Sum.inl k : Key) = .inl x then ((Sum.inl k : Key), V.bl true) else (.inl k, .bl true)) = (.inl k, .bl true)
    split <;> rfl
  · rw [if_neg m, if_neg m]
    unfold dkv
    rw [List.map_append]
    rfl
theorem dk_len (ks : List Int) : (dkv ks).length = ks.length := List.length_map ..
def DkO (H : Hp) (D : Addr) (ks : List Int) : Prop := H D = some (.dK (dkv ks))
theorem DkO.get {H : Hp} {D : Addr} {ks : List Int} (h : DkO H D ks) (x : Int) : DGet H D (.int x) (if x ∈ ks then some (.bl true) else none) := by
  have g := DGet.k (k := Sum.inl x) h
  rw [dk_val] at g
  exact g
theorem isS {b : Prop} [Decidable b] {v : V} : (if b then some v else none).isSome = decide b := by
  by_cases h : b <;> simp [h]
theorem DkO.put {H : Hp} {D : Addr} {ks : List Int} (h : DkO H D ks) (x : Int) (l : ks.length ≤ 10000000) : DPut H D (.int x) (.bl true) (upd H D (.dK (dkv (addK ks x)))) := by
  have g := DPut.k (k := Sum.inl x) (v := .bl true) h (by rw [dk_len]; exact Nat.lt_of_le_of_lt l (by decide))
  rw [dk_put] at g
  exact g
theorem addK_len (ks : List Int) (x : Int) : (addK ks x).length ≤ ks.length + 1 := by
  unfold addK
  split
  · omega
  · rw [List.length_append]; exact Nat.le_refl _
theorem mem_addK {ks : List Int} {x y : Int} : y ∈ addK ks x ↔ y ∈ ks ∨ y = x := by
  unfold addK
  by_cases m : x ∈ ks
  · rw [if_pos m]
    exact ⟨.inl, fun h => h.elim id fun e => e ▸ m⟩
  · rw [if_neg m, List.mem_append, List.mem_singleton]
/-- is a line a round -/
def roundF (kn mem : List Int) : List (Int × Int) → List Int → Bool
  | [], _ => true
  | p :: r, cs => if p.1 ∈ kn ∧ p.1 ∉ cs ∧ p.2 ∈ mem ∧ p.2 ≠ p.1 then roundF kn mem r (addK cs p.1) else false
/-- those who know behind a line -/
def learnF (kn : List Int) (l : List (Int × Int)) : List Int := l.foldl (fun k p => addK k p.2) kn
/-- the first line that is no round, or those who know at the end -/
def walkF (mem : List Int) : List (List (Int × Int)) → List Int → Nat → Nat ⊕ List Int
  | [], kn, _ => .inr kn
  | l :: r, kn, i => if roundF kn mem l [] = true then walkF mem r (learnF kn l) (i + 1) else .inl i
def totalF (pp : List (List (Int × Int))) : Int := (pp.map fun l => (l.length : Int)).sum
theorem learn_snoc {kn : List Int} {l : List (Int × Int)} {p : Int × Int} : learnF kn (l ++ [p]) = addK (learnF kn l) p.2 := by
  unfold learnF
  rw [List.foldl_append]
  rfl
theorem learn_len : ∀ (l : List (Int × Int)) (kn : List Int), (learnF kn l).length ≤ kn.length + l.length
  | [], kn => Nat.le_refl _
  | p :: l, kn => by
    have := learn_len l (addK kn p.2)
    have := addK_len kn p.2
    show (learnF (addK kn p.2) l).length ≤ _
    rw [List.length_cons]
    omega
theorem learn_mem {y : Int} : ∀ (l : List (Int × Int)) (kn : List Int), y ∈ learnF kn l → y ∈ kn ∨ ∃ p ∈ l, y = p.2
  | [], kn, h => .inl h
  | p :: l, kn, h => by
    rcases learn_mem l (addK kn p.2) h with h | ⟨r, m, e⟩
    · rcases mem_addK.mp h with h | h
      · exact .inl h
      · exact .inr ⟨p, .head _, h⟩
    · exact .inr ⟨r, .tail _ m, e⟩
theorem round_mem {kn mem : List Int} : ∀ {l : List (Int × Int)} {cs : List Int}, roundF kn mem l cs = true → ∀ p ∈ l, p.2 ∈ mem
  | [], _, _, p, m => nomatch m
  | q :: l, cs, h, p, m => by
    unfold roundF at h
    split at h
    · rename_i c
      rcases List.mem_cons.mp m with e | m
      · rw [e]; exact c.2.2.1
      · exact round_mem h p m
    · cases h
theorem total_snoc {pp : List (List (Int × Int))} {l : List (Int × Int)} : totalF (pp ++ [l]) = totalF pp + (l.length : Int) := by
  unfold totalF
  rw [List.map_append, List.sum_append]
  simp
theorem take_at {α : Type} {xs : List α} {i : Nat} {z : α} (e : xs[i]? = some z) : xs.drop i = z :: xs.drop (i + 1) := by
  obtain ⟨h, rfl⟩ := List.getElem?_eq_some_iff.mp e
  exact List.drop_eq_getElem_cons h
end UF

set_option Elab.async false
set_option maxRecDepth 100000
set_option maxHeartbeats 4000000
/-! y = {k: v for ..} on one line, y a local -/
namespace UF
open PySem PySem.Spec PyProof.Rows L2
/-- len of a list or tuple, K written out -/
abbrev rLn (K : PySem.W.Frag) : List V → Hp → VK → Prop := fun xs H Q => ∃ p ys, xs = [V.ref p] ∧ (SqL K H p ys ∨ SqT K H p ys) ∧ Q (.int ys.length) H
variable {X : Cx}
theorem ps_setDc {i : Nat} {y : Str} {py : Pos} {kx vx tg iter : Expr} {ifs : List Expr} {scope : Scope} {own : List (Str × Nat)} {pos spos : Pos} {wi : TI} {g : TG} {tt : TT} {tk tv : TE} (hc : X.calm = true) (hN : X.N.Nodup) (hy : X.N[i]? = some y) (hyl : X.env.scope.names.lookup y = some .local)
    (hsw : swapsWith (.DictComp kx vx [⟨tg, iter, ifs, 0⟩] scope pos) (some (.Name y py)) spos.line X.env = pure true) (hi : PI X tg iter wi) (ok : BlkOk X.N X.env.scope scope own)
    (hg : ∀ s H C cl fp, PG (X.blk s H scope (compEnvC scope cl C X.env) fp) tg g) (ht : ∀ s H C cl fp, PTs (X.blk s H scope (compEnvC scope cl C X.env) fp) ifs tt)
    (hk : ∀ s H C cl fp, PE (X.blk s H scope (compEnvC scope cl C X.env) fp) kx tk) (he : ∀ s H C cl fp, PE (X.blk s H scope (compEnvC scope cl C X.env) fp) vx tv) (hs : ∀ x, foldedSetIterable iter X.env x = pure x := by intro _; rfl) :
    PS X (.Assign [.Name y py] (.DictComp kx vx [⟨tg, iter, ifs, 0⟩] scope pos) spos) (tAsg (tDc wi g tt tk tv (own.map (·.2))) (gName i)) := by
  refine ⟨fun pins s σ H D I h => ?_⟩; rw [exec_Assign_Name_used _ _ _ _ hsw]
  refine wpAny_bind (wpAny_standAt (wpAny_bind ?_))
  show wpAny _ X.A (do let _ ← comprehension (.DictComp kx vx [⟨tg, iter, ifs, 0⟩] scope pos) scope X.env (firstIterPos [⟨tg, iter, ifs, 0⟩] pos) newDict false (eval iter X.env) (some (assign (.Name y py) X.env))) _ _ s
  have h : tDc wi g tt tk tv (own.map (·.2)) σ H (fun x H1 => gName i x σ H1 D.nx) := h
  refine wpAny_bind (thn (dc_core (Qf := fun _ s' => SP X pins D .next s') hc hN I hi ok hg ht hk he hs h fun L C s' m H' I' q hn f => ?_) fun _ s' hq => wpAny_pure (wpAny_pure hq))
  show wpAny _ _ (assign (.Name y py) X.env (.ref L)) _ _ _
  refine wpAny_assign_Name (store_ok2 (v := V.ref L) I' hN hy (.inl hyl) rfl (fun s2 I2 ha => ?_) (.inr hyl))
  have haC : C ≠ ha.choose := ha.choose_spec.2.elim (fun z => by rw [z]; exact f.2.1) fun z e => f.2.2.2.2.1 y _ z e.symm
  exact ⟨m, hn.sameBut ha.choose_spec.1 haC, fun h3 sb3 => ⟨_, H', I2.turned (t' := s2.toks) (fun b o hb e => (sb3.2 b hb).trans e) f.1 f.2.1 f.2.2.2.1 f.2.2.2.2.1 f.2.2.2.2.2, q⟩⟩
theorem sw_dc {kx vx : Expr} {gs : List Comprehension} {scope : Scope} {pos py : Pos} {y : Str} {l : Nat} {env : Env} (hk : env.scope.kind = .function) (hy : env.scope.names.lookup y = some .local) (hl : (py.line == pos.line) = true)
    (ha : (scope.names.any fun (n, k) => n == y && (k == .local || k == .cell)) = false) : swapsWith (.DictComp kx vx gs scope pos) (some (.Name y py)) l env = pure true := by
  have z1 : env.kindOf y = some .local := hy
  have z2 : env.blockKind = .function := (by unfold Env.blockKind; rw [hk]; rfl)
  unfold swapsWith; simp only [z2, z1, ha, Expr.pos, hl]; rfl
end UF

set_option Elab.async false
set_option maxRecDepth 100000
set_option maxHeartbeats 4000000
/-! papers that are being written -/
namespace UF
open PySem PySem.Spec PyProof.Rows L2 C8
structure Lw (H : Hp) (l : Addr) (ts : List Addr) (ps : List (Int × Int)) : Prop where
  hl : H l = some (.lst (ts.map V.ref))
  pl : Paired (PairO H) ts ps
structure Pw (H : Hp) (q : Addr) (ls : List Addr) (pp : List (List (Int × Int))) : Prop where
  hq : H q = some (.lst (ls.map V.ref))
  pl : Paired (LineO H) ls pp
  off : ∀ l ∈ ls, l ≠ q
section
variable {H H' : Hp} {ds : List Addr} {l q a t : Addr} {ts ls : List Addr} {ps : List (Int × Int)} {pp : List (List (Int × Int))} {p : Int × Int} {xs ys : List V}
theorem Lw.line (h : Lw H l ts ps) : LineO H l ps := ⟨ts, h.hl, h.pl⟩
theorem Pw.pap (h : Pw H q ls pp) : PapO H q pp := ⟨ls, h.hq, h.pl⟩
theorem Lw.fr (h : Lw H l ts ps) (x : Fr ds H H') (n : Nlt H ds) : Lw H' l ts ps := ⟨x.lst h.hl fun m => (n l m).1 _ h.hl, Paired.mono (fun _ _ z => PairO.fr z x n) h.pl⟩
theorem Pw.fr (h : Pw H q ls pp) (x : Fr ds H H') (n : Nlt H ds) : Pw H' q ls pp := ⟨x.lst h.hq fun m => (n q m).1 _ h.hq, Paired.mono (fun _ _ z => LineO.fr z x n) h.pl, h.off⟩
theorem Lw.new (h : Lw H l ts ps) (n : H a = none) (o : HO) : Lw (upd H a o) l ts ps := h.fr (Fr.new0 (ds := []) n o) .nil
theorem Pw.new (h : Pw H q ls pp) (n : H a = none) (o : HO) : Pw (upd H a o) q ls pp := h.fr (Fr.new0 (ds := []) n o) .nil
theorem pair_upd (h : PairO H t p) (ha : H a = some (.lst xs)) (o : HO) : PairO (upd H a o) t p := by
  have h : H t = some (.tup [.int p.1, .int p.2]) := h
  show upd H a o t = _
  rw [upd_ne fun e => by rw [e, ha] at h; cases h]
  exact h
theorem line_upd (h : LineO H l ps) (ha : H a = some (.lst xs)) (ne : l ≠ a) (o : HO) : LineO (upd H a o) l ps := by
  obtain ⟨ts, e, p⟩ := h
  exact ⟨ts, by rw [upd_ne ne]; exact e, Paired.mono (fun _ _ z => pair_upd z ha o) p⟩
theorem Lw.upd (h : Lw H l ts ps) (ha : H a = some (.lst xs)) (ne : l ≠ a) (o : HO) : Lw (upd H a o) l ts ps := ⟨by rw [upd_ne ne]; exact h.hl, Paired.mono (fun _ _ z => pair_upd z ha o) h.pl⟩
theorem Pw.upd (h : Pw H q ls pp) (ha : H a = some (.lst xs)) (ne : q ≠ a) (nl : ∀ l ∈ ls, l ≠ a) (o : HO) : Pw (upd H a o) q ls pp := ⟨by rw [upd_ne ne]; exact h.hq, pd_mem h.pl fun l _ m z => line_upd z ha (nl l m) o, h.off⟩
theorem Lw.push (h : Lw H l ts ps) (z : PairO H t p) : Lw (L2.upd H l (.lst (ts.map V.ref ++ [.ref t]))) l (ts ++ [t]) (ps ++ [p]) := ⟨by rw [upd_same, List.map_append]; rfl, Paired.snoc (Paired.mono (fun _ _ z => pair_upd z h.hl _) h.pl) (pair_upd z h.hl _)⟩
theorem Pw.push (h : Pw H q ls pp) (z : LineO H l ps) (ne : l ≠ q) : Pw (L2.upd H q (.lst (ls.map V.ref ++ [.ref l]))) q (ls ++ [l]) (pp ++ [ps]) := by
  refine ⟨by rw [upd_same, List.map_append]; rfl, Paired.snoc (pd_mem h.pl fun l _ m z => line_upd z h.hq (h.off l m) _) (line_upd z h.hq ne _), fun l' m => ?_⟩
  rcases List.mem_append.mp m with m | m
  · exact h.off l' m
  · rw [List.mem_singleton.mp m]; exact ne
theorem Lw.nil (h : H l = some (.lst [])) : Lw H l [] [] := ⟨h, .nil⟩
theorem Pw.nil (h : H q = some (.lst [])) : Pw H q [] [] := ⟨h, .nil, fun _ m => nomatch m⟩
theorem Lw.len (h : Lw H l ts ps) : ts.length = ps.length := h.pl.length
theorem Pw.len (h : Pw H q ls pp) : ls.length = pp.length := h.pl.length
/-- what is new is none of the lines -/
theorem Pw.ne (h : Pw H q ls pp) (n : H a = none) : q ≠ a ∧ ∀ l ∈ ls, l ≠ a := ⟨ne_of_none h.hq n, fun l m => by
  obtain ⟨j, hj⟩ := List.mem_iff_getElem?.mp m
  obtain ⟨ps, _, ts, hts, _⟩ := pd_get h.pl hj
  exact ne_of_none hts n⟩
theorem Purse.lst_ne {p c : Addr} (B : Purse H p c) (h : H a = some (.lst xs)) : a ≠ p := fun e => by
  obtain ⟨cells, x, r, l, m, s, n, B, _⟩ := B
  rw [e, B.hp] at h
  cases h
end
/-- at most k lines of at most k pairs -/
structure PSz (k : Nat) (pp : List (List (Int × Int))) : Prop where
  n : pp.length ≤ k
  w : ∀ l ∈ pp, l.length ≤ k
theorem PSz.le {k m : Nat} {pp : List (List (Int × Int))} (h : PSz k pp) (g : k ≤ m) : PSz m pp := ⟨Nat.le_trans h.n g, fun l z => Nat.le_trans (h.w l z) g⟩
theorem rest_snoc {ns : List Int} {i : Nat} {z : Int} (e : ns[i]? = some z) (f : Int → Bool) : (ns.take (i + 1)).filter f = if f z = true then (ns.take i).filter f ++ [z] else (ns.take i).filter f := by
  rw [take_snoc e, List.filter_append]
  by_cases h : f z = true
  · rw [if_pos h]; simp [h]
  · rw [if_neg h]; simp [h]
/-! ### papers as data -/
def pairD (p : Int × Int) : PyData := .tuple [.int p.1, .int p.2]
def lineD (ps : List (Int × Int)) : PyData := .list (ps.map pairD)
def papD (pp : List (List (Int × Int))) : PyData := .list (pp.map lineD)
theorem can_pairs : ∀ ps : List (Int × Int), PyData.canLayAll0 (ps.map pairD) = true
  | [] => by simp [PyData.canLayAll0]
  | p :: ps => by rw [List.map_cons, PyData.canLayAll0, can_pairs ps]; simp [pairD, PyData.canLay0, PyData.canLayAll0]
theorem dep_pairs : ∀ ps : List (Int × Int), PyData.depthAll (ps.map pairD) ≤ 1
  | [] => by simp [PyData.depthAll]
  | p :: ps => by
    rw [List.map_cons, PyData.depthAll]
    have := dep_pairs ps
    have : (pairD p).depth = 1 := by simp [pairD, PyData.depth, PyData.depthAll]
    omega
theorem can_lines : ∀ pp : List (List (Int × Int)), PyData.canLayAll0 (pp.map lineD) = true
  | [] => by simp [PyData.canLayAll0]
  | ps :: pp => by rw [List.map_cons, PyData.canLayAll0, can_lines pp]; simp [lineD, PyData.canLay0, can_pairs]
theorem dep_lines : ∀ pp : List (List (Int × Int)), PyData.depthAll (pp.map lineD) ≤ 2
  | [] => by simp [PyData.depthAll]
  | ps :: pp => by
    rw [List.map_cons, PyData.depthAll]
    have := dep_lines pp
    have e : (lineD ps).depth = PyData.depthAll (ps.map pairD) + 1 := by simp [lineD, PyData.depth]
    have := dep_pairs ps
    omega
theorem shaped_pair (p : Int × Int) : SeqAt.shaped (pairD p) = true := by unfold SeqAt.shaped pairD; simp [PyData.canLay0, PyData.canLayAll0, PyData.depth, PyData.depthAll]
theorem shaped_line (ps : List (Int × Int)) : SeqAt.shaped (lineD ps) = true := by
  have h := dep_pairs ps
  unfold SeqAt.shaped lineD
  rw [PyData.canLay0, can_pairs, PyData.depth, decide_eq_true (by omega)]
  rfl
theorem shaped_pap (pp : List (List (Int × Int))) : SeqAt.shaped (papD pp) = true := by
  have h := dep_lines pp
  unfold SeqAt.shaped papD
  rw [PyData.canLay0, can_lines, PyData.depth, decide_eq_true (by omega)]
  rfl
theorem eqv_pap (pp : List (List (Int × Int))) : PyData.eqv (papD pp) (papD pp) = true := SeqAt.eqv_refl _ (SeqAt.canLay_of_shaped (shaped_pap pp))
theorem eqv_pair (p : Int × Int) : PyData.eqv (pairD p) (pairD p) = true := SeqAt.eqv_refl _ (SeqAt.canLay_of_shaped (shaped_pair p))
theorem pap_nil (pp : List (List (Int × Int))) : PyData.eqv (papD pp) (.list []) = decide (pp = []) := by
  cases pp <;> simp [papD, PyData.eqv, PyData.eqvAll]
theorem line_nil (ps : List (Int × Int)) : PyData.eqv (lineD ps) (.list []) = decide (ps = []) := by
  cases ps <;> simp [lineD, PyData.eqv, PyData.eqvAll]
theorem nil_dp {K : PySem.W.Frag} {H : Hp} {a : Addr} (h : H a = some (.lst [])) : Dp K H (.ref a) (.list []) := .lst (SqL.of h) .nil
theorem nil_shaped : SeqAt.shaped (.list []) = true := shaped_list []
theorem pair_dp {K : PySem.W.Frag} {H : Hp} {t : Addr} {p : Int × Int} (h : PairO H t p) : Dp K H (.ref t) (pairD p) := .tup (SqT.of h) (.cons (.int _) (.cons (.int _) .nil))
theorem pairs_dp {K : PySem.W.Frag} {H : Hp} {ts : List Addr} {ps : List (Int × Int)} (h : Paired (PairO H) ts ps) : DpAll K H (ts.map V.ref) (ps.map pairD) := by
  induction h with
  | nil => exact .nil
  | cons a t ih => exact .cons (pair_dp a) ih
theorem line_dp {K : PySem.W.Frag} {H : Hp} {l : Addr} {ps : List (Int × Int)} (h : LineO H l ps) : Dp K H (.ref l) (lineD ps) := by
  obtain ⟨ts, e, p⟩ := h
  exact .lst (SqL.of e) (pairs_dp p)
theorem pap_dp {K : PySem.W.Frag} {H : Hp} {q : Addr} {pp : List (List (Int × Int))} (h : PapO H q pp) : Dp K H (.ref q) (papD pp) := by
  obtain ⟨ls, e, p⟩ := h
  refine .lst (SqL.of e) ?_
  clear e
  induction p with
  | nil => exact .nil
  | cons a t ih => exact .cons (line_dp a) ih
/-! ### lists changed in the middle -/
section
variable {α β : Type} {F : α → β → Prop}
theorem pd_take {xs : List α} {ys : List β} (h : Paired F xs ys) : ∀ n : Nat, Paired F (xs.take n) (ys.take n) := by
  induction h with
  | nil => intro n; rw [List.take_nil, List.take_nil]; exact .nil
  | cons a t ih => intro n; cases n with
    | zero => exact .nil
    | succ n => exact .cons a (ih n)
theorem pd_drop {xs : List α} {ys : List β} (h : Paired F xs ys) : ∀ n : Nat, Paired F (xs.drop n) (ys.drop n) := by
  induction h with
  | nil => intro n; rw [List.drop_nil, List.drop_nil]; exact .nil
  | cons a t ih => intro n; cases n with
    | zero => exact .cons a t
    | succ n => exact ih n
theorem pd_app {xs xs' : List α} {ys ys' : List β} (h : Paired F xs ys) (g : Paired F xs' ys') : Paired F (xs ++ xs') (ys ++ ys') := by
  induction h with
  | nil => exact g
  | cons a t ih => exact .cons a ih
theorem pd_ins {xs : List α} {ys : List β} (h : Paired F xs ys) (n : Nat) {x : α} {y : β} (z : F x y) : Paired F (xs.take n ++ [x] ++ xs.drop n) (ys.take n ++ [y] ++ ys.drop n) := pd_app (pd_app (pd_take h n) (.cons z .nil)) (pd_drop h n)
theorem pd_erase {xs : List α} {ys : List β} (h : Paired F xs ys) : ∀ n : Nat, Paired F (xs.eraseIdx n) (ys.eraseIdx n) := by
  induction h with
  | nil => intro n; exact .nil
  | cons a t ih => intro n; cases n with
    | zero => exact t
    | succ n => exact .cons a (ih n)
theorem map_eraseG {γ : Type} (f : α → γ) : ∀ (l : List α) (i : Nat), (l.map f).eraseIdx i = (l.eraseIdx i).map f
  | [], _ => rfl
  | _ :: _, 0 => rfl
  | a :: l, i + 1 => congrArg (List.cons (f a)) (map_eraseG f l i)
theorem first_of {δ : Type} {P : δ → Bool} : ∀ (ds : List δ) (j : Nat) (z : δ), ds[j]? = some z → P z = true → ∃ (i : Nat) (y : δ), ds[i]? = some y ∧ P y = true ∧ ∀ (m : Nat) (x : δ), m < i → ds[m]? = some x → P x = false
  | [], j, z, h, _ => by simp at h
  | d :: ds, j, z, h, hz => by
    by_cases e : P d = true
    · exact ⟨0, d, rfl, e, fun m x hm => absurd hm (Nat.not_lt_zero _)⟩
    · cases j with
      | zero => cases h; exact absurd hz e
      | succ j =>
        obtain ⟨i, y, h1, h2, h3⟩ := first_of ds j z h hz
        refine ⟨i + 1, y, h1, h2, fun m x hm hx => ?_⟩
        cases m with
        | zero => cases hx; simpa using e
        | succ m => exact h3 m x (by omega) hx
theorem len_ins {xs : List α} {n : Nat} {x : α} : (xs.take n ++ [x] ++ xs.drop n).length = xs.length + 1 := by
  rw [List.length_append, List.length_append, List.length_take, List.length_drop]
  show min n xs.length + 1 + _ = _
  omega
theorem map_ins {γ : Type} (f : α → γ) {xs : List α} {n : Nat} {x : α} : (xs.take n ++ [x] ++ xs.drop n).map f = (xs.map f).take n ++ [f x] ++ (xs.map f).drop n := by
  rw [List.map_append, List.map_append, List.map_take, List.map_drop]
  rfl
end
section
variable {H : Hp} {q l : Addr} {ls ts : List Addr} {ps : List (Int × Int)} {pp : List (List (Int × Int))} {xs : List V}
/-- a line of the paper gets another list of pairs -/
theorem Pw.change (h : Pw H q ls pp) (hl : H l = some (.lst xs)) (lq : l ≠ q) (pl : Paired (PairO H) ts ps) : ∃ pp', Pw (L2.upd H l (.lst (ts.map V.ref))) q ls pp' ∧ pp'.length = pp.length ∧ ∀ x ∈ pp', x ∈ pp ∨ x = ps := by
  have line : LineO (L2.upd H l (.lst (ts.map V.ref))) l ps := ⟨ts, upd_same, Paired.mono (fun _ _ z => pair_upd z hl _) pl⟩
  have key : ∀ {ls : List Addr} {pp : List (List (Int × Int))}, Paired (LineO H) ls pp → ∃ pp', Paired (LineO (L2.upd H l (.lst (ts.map V.ref)))) ls pp' ∧ pp'.length = pp.length ∧ ∀ x ∈ pp', x ∈ pp ∨ x = ps := by
    intro ls pp p
    induction p with
    | nil => exact ⟨[], .nil, rfl, fun x m => nomatch m⟩
    | @cons a b l1 l2 z t ih =>
      obtain ⟨pp', i1, i2, i3⟩ := ih
      by_cases e : a = l
      · subst e
        refine ⟨ps :: pp', .cons line i1, by rw [List.length_cons, List.length_cons, i2], fun x m => ?_⟩
        rcases List.mem_cons.mp m with m | m
        · exact .inr m
        · exact (i3 x m).elim (fun g => .inl (.tail _ g)) .inr
      · refine ⟨b :: pp', .cons (line_upd z hl e _) i1, by rw [List.length_cons, List.length_cons, i2], fun x m => ?_⟩
        rcases List.mem_cons.mp m with m | m
        · exact .inl (by rw [m]; exact .head _)
        · exact (i3 x m).elim (fun g => .inl (.tail _ g)) .inr
  obtain ⟨pp', p, e1, e2⟩ := key h.pl
  exact ⟨pp', ⟨by rw [upd_ne lq.symm]; exact h.hq, p, h.off⟩, e1, e2⟩
/-- other lines in the paper -/
theorem Pw.put (h : Pw H q ls pp) {ls' : List Addr} {pp' : List (List (Int × Int))} (p : Paired (LineO H) ls' pp') (off : ∀ l ∈ ls', l ≠ q) : Pw (L2.upd H q (.lst (ls'.map V.ref))) q ls' pp' := ⟨upd_same, pd_mem p fun l _ m z => line_upd z h.hq (off l m) _, off⟩
end
/-- list(xs), K written out -/
abbrev rLc (K : PySem.W.Frag) : List V → Hp → VK → Prop := fun xs H Q => ∃ p ys, xs = [V.ref p] ∧ (SqL K H p ys ∨ SqT K H p ys) ∧ ∀ l, H l = none → Q (.ref l) (upd H l (.lst ys))
/-- a list without doubles among others is no longer than they -/
theorem nd_le : ∀ (l kn : List Int), l.Nodup → (∀ x ∈ l, x ∈ kn) → l.length ≤ kn.length
  | [], _, _, _ => Nat.zero_le _
  | a :: l, kn, nd, h => by
    have nd' := List.nodup_cons.mp nd
    have ma := h a (.head _)
    have z := nd_le l (kn.erase a) nd'.2 fun x m => (List.mem_erase_of_ne fun (e : x = a) => nd'.1 (by rw [← e]; exact m)).mpr (h x (.tail _ m))
    rw [List.length_erase_of_mem ma] at z
    have : 0 < kn.length := List.length_pos_of_mem ma
    rw [List.length_cons]
    omega
end UF

set_option Elab.async false
set_option maxRecDepth 100000
set_option maxHeartbeats 4000000
/-! d == {}: is the dict empty -/
namespace UF
open PySem PySem.Spec PyProof.Rows L2 C8 LamX
theorem u0 {k : Nat} {A : Around} (hr : Room k A) : A.units < cLine := Nat.lt_of_succ_lt (u1 hr)
def rEqE : R2 := fun x y H Q => ∃ a b ks, x = .ref a ∧ y = .ref b ∧ H a = some (.dK ks) ∧ H b = some (.dK []) ∧ Q (.bl ks.isEmpty) H
theorem op_eqE {X : Cx} (hu : X.A.units < cLine) : OpR X (compareOp .Eq) rEqE := by
  rintro pins s σ H _ _ v u Q I rx ry ⟨a, b, ks, rfl, rfl, ea, eb, q⟩
  obtain rfl : v = Value.ref a := rx
  obtain rfl : u = Value.ref b := ry
  obtain ⟨_, ya, va, ra, da⟩ := (show ObjOk X.prog X.w H s.heap a (.dK ks) from I.hok a _ ea)
  obtain ⟨_, yb, vb, rb, db⟩ := (show ObjOk X.prog X.w H s.heap b (.dK []) from I.hok b _ eb)
  have lb : vb.length = 0 := rb.length.symm
  refine PySem.W.keq_eq (knd := mixKind X.prog X.w) (r := true) ya yb da db hu (fun e => ?_) (fin_bl I q ?_)
  · have e0 : ks = [] := List.eq_nil_of_length_eq_zero (by
      rw [ra.length, e]
      exact lb)
    subst e0
    exact hits_all rb ra fun p hp => nomatch hp
  · rw [lb, ← ra.length, Bool.and_true]
    cases ks <;> rfl
end UF

set_option Elab.async false
set_option maxRecDepth 100000
set_option maxHeartbeats 4000000
namespace SortD
open PySem PySem.Spec PyProof.Rows L2
/-- sorted(d), d a dict whose keys are whole numbers, any number of them -/
def rSortD : List V → Hp → VK → Prop := fun zs G W => ∃ (D : Addr) (kv : List (Key × V)) (ns : List Int), zs = [.ref D] ∧ Rd G D (.dK kv) ∧ kv.map (·.1) = ns.map Sum.inl ∧
  ∀ (ms : List Int) (L : Addr), ms.Perm ns → ms.Pairwise (· ≤ ·) → G L = none → W (.ref L) (upd G L (.lst (ms.map V.int)))
theorem cr_sortD {X : Cx} (calm : X.calm = true) : CallR X (.builtin "sorted") rSortD := by
  intro pins s τ G zs ws W I r h
  obtain ⟨D, kv, ns, ez, hd, hkeys, q⟩ := h
  subst ez
  obtain ⟨w1, ew, rx⟩ := vals1 r
  subst ew
  cases rx
  obtain ⟨small, notMods, vs, rel, dd⟩ := dk_rd I.hok hd
  obtain ⟨ep, hat⟩ := dd.dictAt
  have kk : vs.map (·.1) = ns.map Sum.inl := rel.keys.symm.trans hkeys
  have lvs : vs.length = ns.length := by simpa using congrArg List.length kk
  have lkv : kv.length = ns.length := by simpa using congrArg List.length hkeys
  have fits : ns.length ≤ sizeLine := by rw [← lkv]; exact small
  refine Calls.call_function_entry kind_sorted plain_sorted entry_sorted (args_sorted1 _) ?_
  unfold Builtin.«sorted»
  refine wpAny_bind (m := checkCount "sorted" 1 1 _) (wpAny_pure ?_)
  refine wpAny_bind (PySem.W.kdu_collect (A := X.A.in1) (PySem.W.kdl_dict (knd := mixKind X.prog X.w) (kvs := vs) (ep := ep) notMods) (I.ok.hd calm) hat (by rw [lvs]; exact fits) fun g tk got keep hgot => ?_)
  have lgot : got.toList.length = ns.length := by rw [Array.length_toList, hgot.1, lvs]
  have allInt : IntsAre got.toList ns := by
    refine ints_each lgot fun j v ej => ?_
    obtain ⟨k, x, e1, e2⟩ := hgot.2 j v (by rw [← Array.getElem?_toList]; exact ej)
    have e3 : (vs.map (·.1))[j]? = some k := by rw [List.getElem?_map, e1]; rfl
    rw [kk, List.getElem?_map] at e3
    cases e4 : ns[j]? with
    | none => rw [e4] at e3; cases e3
    | some y =>
      rw [e4] at e3
      have e5 : Sum.inl y = k := Option.some.inj e3
      subst e5
      rcases keyIs_shape (show keyIs (Sum.inl y) v = true from e2) with ⟨i, t, ek, ev⟩ | ⟨z, t, ek, _⟩
      · injection ek with ek
        subst ek
        exact ⟨y, t, rfl, ev⟩
      · cases ek
  have I1 : Inv X pins τ G { s with heap := g, toks := tk } := I.kept keep
  have fits2 : got.toList.length ≤ sizeLine := by rw [lgot]; exact fits
  refine wpAny_bind (wpAny_newList ?_ fits2)
  have at0 : (g.push (seqObj "list" got.toList.toArray 0)).get? g.objs.size = some (seqObj "list" got.toList.toArray 0) := Heap.get?_push_size _ rfl
  show wpAny _ _ _ _ _ { s with heap := g.push (seqObj "list" got.toList.toArray 0), toks := tk }
  refine wpAny_bind (wpAny_holding (wpAny_call_entry slot_list_sort ⟨_, at0, rfl⟩ entry_list_sort ?_ (args_list_sort _)))
  refine SrtO.list_sort_ord SrtO.swo_int at0 fits2 (fun two => SrtO.ints_sortable allInt two) fun out h1 h2 => ⟨_, rfl, ?_⟩
  obtain ⟨k1, k2, k3⟩ := SrtO.ints_out allInt h1 h2
  obtain ⟨ep2, he2⟩ := sortedHeap_at (vs := got.toList) (out := out.toArray) at0
  have fits3 : ((out.map SrtO.iv).map V.int).length ≤ sizeLine := by rw [List.length_map, k2.length_eq]; exact fits
  refine wpAny_pure ⟨_, rfl, .ref g.objs.size, upd G g.objs.size (.lst ((out.map SrtO.iv).map V.int)), ?_, rfl, q _ _ k2 k3 (I1.hok.fresh (Nat.le_refl _))⟩
  refine I1.laid (t' := tk) (fun b u e => ?_) (Nat.le_refl _) ⟨fits3, out, ep2, vals_of_ints k1, he2⟩
  have lb : b < g.objs.size := Heap.lt_size e
  rw [sortedHeap_old (Nat.ne_of_lt lb) (by rw [size_push']; exact Nat.lt_succ_of_lt lb)]
  exact Heap.get?_push_of_some _ e
end SortD

set_option Elab.async false
set_option maxRecDepth 100000
set_option maxHeartbeats 4000000
set_option exponentiation.threshold 4096
set_option linter.unusedVariables false
/-! dicts of whole numbers as lists of pairs, whatever the values; dicts of tuples; constants of the module -/
namespace UF
open PySem PySem.Spec PyProof.Rows L2 C8 LamX
section
variable {β γ : Type}
def lkA : List (Int × β) → Int → Option β
  | [], _ => none
  | q :: ks, s => if q.1 = s then some q.2 else lkA ks s
def putA (ts : List (Int × β)) (s : Int) (t : β) : List (Int × β) := if (lkA ts s).isSome = true then ts.map (fun q => if q.1 = s then (q.1, t) else q) else ts ++ [(s, t)]
def dropA (ts : List (Int × β)) (s : Int) : List (Int × β) := ts.filter fun q => decide (q.1 ≠ s)
def dA (f : β → V) (ks : List (Int × β)) : List (Key × V) := ks.map fun q => (.inl q.1, f q.2)
theorem valV_dA (f : β → V) : ∀ (ks : List (Int × β)) (s : Int), valV (dA f ks) (.inl s) = (lkA ks s).map f
  | [], _ => rfl
  | q :: ks, s => by
    have ih := valV_dA f ks s
    show valV ((Sum.inl q.1, f q.2) :: dA f ks) (Sum.inl s) = Option.map f (if q.1 = s then some q.2 else lkA ks s)
    by_cases e : q.1 = s
    · rw [valV_pos (by rw [e]), if_pos e]
      rfl
    · rw [valV_neg (fun z => e (Sum.inl.inj z)), if_neg e]
      exact ih
theorem put_dA (f : β → V) (ts : List (Int × β)) (s : Int) (t : β) : putK (dA f ts) (.inl s) (f t) = dA f (putA ts s t) := by
  unfold putK putA
  rw [valV_any, valV_dA, Option.isSome_map]
  cases (lkA ts s).isSome with
  | false =>
    rw [if_neg Bool.false_ne_true, if_neg Bool.false_ne_true]
    unfold dA
    rw [List.map_append]
    rfl
  | true =>
    rw [if_pos rfl, if_pos rfl]
    unfold dA
    rw [List.map_map, List.map_map]
    refine List.map_congr_left fun p _ => ?_
    show (if (Sum.inl p.1 : Key) = Sum.inl s then ((Sum.inl p.1 : Key), f t) else (Sum.inl p.1, f p.2)) = (Sum.inl (if p.1 = s then (p.1, t) else p).1, f (if p.1 = s then (p.1, t) else p).2)
    by_cases e : p.1 = s
    · rw [if_pos (by rw [e]), if_pos e]
    · rw [if_neg (fun z => e (Sum.inl.inj z)), if_neg e]
theorem drop_dA (f : β → V) (ts : List (Int × β)) (s : Int) : dropK (dA f ts) (.inl s) = dA f (dropA ts s) := by
  unfold dropK dropA dA
  rw [List.filter_map]
  congr 1
  refine List.filter_congr fun q _ => ?_
  show decide ((Sum.inl q.1 : Key) ≠ Sum.inl s) = decide (q.1 ≠ s)
  by_cases e : q.1 = s
  · simp [e]
  · have : (Sum.inl q.1 : Key) ≠ Sum.inl s := fun z => e (Sum.inl.inj z)
    simp [e]
theorem lkA_map (g : β → γ) : ∀ (ts : List (Int × β)) (s : Int), lkA (ts.map fun q => (q.1, g q.2)) s = (lkA ts s).map g
  | [], _ => rfl
  | q :: ts, s => by
    show (if q.1 = s then some (g q.2) else lkA (ts.map fun q => (q.1, g q.2)) s) = Option.map g (if q.1 = s then some q.2 else lkA ts s)
    by_cases e : q.1 = s
    · rw [if_pos e, if_pos e]; rfl
    · rw [if_neg e, if_neg e]; exact lkA_map g ts s
theorem putA_map (g : β → γ) (ts : List (Int × β)) (s : Int) (t : β) : (putA ts s t).map (fun q => (q.1, g q.2)) = putA (ts.map fun q => (q.1, g q.2)) s (g t) := by
  unfold putA
  rw [lkA_map, Option.isSome_map]
  cases (lkA ts s).isSome with
  | false => rw [if_neg Bool.false_ne_true, if_neg Bool.false_ne_true, List.map_append]; rfl
  | true =>
    rw [if_pos rfl, if_pos rfl, List.map_map, List.map_map]
    refine List.map_congr_left fun p _ => ?_
    show ((if p.1 = s then (p.1, t) else p).1, g (if p.1 = s then (p.1, t) else p).2) = if p.1 = s then (p.1, g t) else (p.1, g p.2)
    split <;> rfl
theorem dropA_map (g : β → γ) (ts : List (Int × β)) (s : Int) : (dropA ts s).map (fun q => (q.1, g q.2)) = dropA (ts.map fun q => (q.1, g q.2)) s := by
  unfold dropA
  rw [List.filter_map]
  rfl
theorem lkA_app : ∀ (ts : List (Int × β)) (s s1 : Int) (t1 : β), lkA (ts ++ [(s1, t1)]) s = match lkA ts s with
    | some t => some t
    | none => if s1 = s then some t1 else none
  | [], s, s1, t1 => rfl
  | q :: ts, s, s1, t1 => by
    have ih := lkA_app ts s s1 t1
    show (if q.1 = s then some q.2 else lkA (ts ++ [(s1, t1)]) s) = match (if q.1 = s then some q.2 else lkA ts s) with
      | some t => some t
      | none => if s1 = s then some t1 else none
    by_cases e : q.1 = s
    · rw [if_pos e, if_pos e]
    · rw [if_neg e, if_neg e]
      exact ih
theorem lkA_upd (s x : Int) (t : β) : ∀ ts : List (Int × β), lkA (ts.map (fun q => if q.1 = s then (q.1, t) else q)) x = if x = s then (lkA ts s).map (fun _ => t) else lkA ts x
  | [] => by split <;> rfl
  | q :: ts => by
    have ih := lkA_upd s x t ts
    show (if (if q.1 = s then (q.1, t) else q).1 = x then some (if q.1 = s then (q.1, t) else q).2 else lkA (ts.map (fun q => if q.1 = s then (q.1, t) else q)) x) = if x = s then Option.map (fun _ => t) (if q.1 = s then some q.2 else lkA ts s) else (if q.1 = x then some q.2 else lkA ts x)
    rw [ih]
    by_cases e : q.1 = s
    · rw [if_pos e, if_pos e]
      show (if q.1 = x then some t else (if x = s then Option.map (fun _ => t) (lkA ts s) else lkA ts x)) = if x = s then some t else (if q.1 = x then some q.2 else lkA ts x)
      by_cases z : x = s
      · rw [if_pos (show q.1 = x by rw [e, z]), if_pos z]
      · rw [if_neg (show ¬ q.1 = x from fun y => z (by rw [← y, e])), if_neg z, if_neg z, if_neg (show ¬ q.1 = x from fun y => z (by rw [← y, e]))]
    · rw [if_neg e, if_neg e]
      show (if q.1 = x then some q.2 else (if x = s then Option.map (fun _ => t) (lkA ts s) else lkA ts x)) = if x = s then Option.map (fun _ => t) (lkA ts s) else (if q.1 = x then some q.2 else lkA ts x)
      by_cases z : x = s
      · rw [if_pos z, if_pos z, if_neg (show ¬ q.1 = x from fun y => e (by rw [y, z]))]
      · rw [if_neg z, if_neg z]
theorem lk_putA (ts : List (Int × β)) (s : Int) (t : β) (x : Int) : lkA (putA ts s t) x = if x = s then some t else lkA ts x := by
  unfold putA
  by_cases q : (lkA ts s).isSome = true
  · rw [if_pos q, lkA_upd]
    obtain ⟨u, e⟩ := Option.isSome_iff_exists.mp q
    rw [e]
    rfl
  · rw [if_neg q, lkA_app]
    have q : lkA ts s = none := by
      cases z : lkA ts s with
      | none => rfl
      | some u => rw [z] at q; exact absurd rfl q
    by_cases e : x = s
    · rw [if_pos e, e, q]
      show (if s = s then some t else none) = some t
      rw [if_pos rfl]
    · rw [if_neg e]
      cases lkA ts x with
      | some u => rfl
      | none =>
        show (if s = x then some t else none) = none
        rw [if_neg (fun z => e z.symm)]
theorem lk_dropA : ∀ (ts : List (Int × β)) (s x : Int), lkA (dropA ts s) x = if x = s then none else lkA ts x
  | [], s, x => by
    show none = if x = s then none else none
    split <;> rfl
  | q :: ts, s, x => by
    have ih := lk_dropA ts s x
    unfold dropA at ih ⊢
    by_cases e : q.1 = s
    · rw [List.filter_cons_of_neg (by simp [e]), ih]
      by_cases z : x = s
      · rw [if_pos z, if_pos z]
      · rw [if_neg z, if_neg z]
        show lkA ts x = if q.1 = x then some q.2 else lkA ts x
        rw [if_neg (fun y => z (by rw [← y, e]))]
    · rw [List.filter_cons_of_pos (by simp [e])]
      show (if q.1 = x then some q.2 else lkA _ x) = if x = s then none else (if q.1 = x then some q.2 else lkA ts x)
      by_cases z : q.1 = x
      · rw [if_pos z, if_pos z, if_neg (fun y => e (by rw [z, y]))]
      · rw [if_neg z, if_neg z]
        exact ih
theorem lkA_in : ∀ {ks : List (Int × β)} {s : Int}, s ∈ ks.map Prod.fst → ∃ t, lkA ks s = some t
  | [], _, m => nomatch m
  | q :: ks, s, m => by
    unfold lkA
    by_cases e : q.1 = s
    · exact ⟨_, if_pos e⟩
    · rw [if_neg e]
      exact lkA_in ((List.mem_cons.mp m).resolve_left fun z => e z.symm)
theorem lkA_pair {ks : List (Int × β)} {s : Int} {t : β} (h : lkA ks s = some t) : (s, t) ∈ ks := by
  induction ks with
  | nil => cases h
  | cons r ks ih =>
    have h : (if r.1 = s then some r.2 else lkA ks s) = some t := h
    by_cases e : r.1 = s
    · rw [if_pos e] at h
      have h := Option.some.inj h
      rw [← e, ← h]
      exact .head _
    · rw [if_neg e] at h
      exact .tail _ (ih h)
theorem lkA_mem {ks : List (Int × β)} {s : Int} {t : β} (h : lkA ks s = some t) : s ∈ ks.map Prod.fst := List.mem_map.mpr ⟨_, lkA_pair h, rfl⟩
theorem keyA {ks : List (Int × β)} {s : Int} : s ∈ ks.map Prod.fst ↔ (lkA ks s).isSome = true := by
  constructor
  · intro m
    obtain ⟨t, e⟩ := lkA_in m
    rw [e]
    rfl
  · intro h
    cases q : lkA ks s with
    | none => rw [q] at h; cases h
    | some t => exact lkA_mem q
theorem lkA_get {ks : List (Int × β)} (nd : (ks.map Prod.fst).Nodup) {q : Int × β} (m : q ∈ ks) : lkA ks q.1 = some q.2 := by
  induction ks with
  | nil => nomatch m
  | cons r ks ih =>
    rw [List.map_cons, List.nodup_cons] at nd
    show (if r.1 = q.1 then some r.2 else lkA ks q.1) = some q.2
    rcases List.mem_cons.mp m with e | m
    · rw [e, if_pos rfl]
    · rw [if_neg (fun z => nd.1 (by rw [z]; exact List.mem_map.mpr ⟨q, m, rfl⟩))]
      exact ih nd.2 m
theorem nd_putA {ts : List (Int × β)} {s : Int} {t : β} (nd : (ts.map Prod.fst).Nodup) : ((putA ts s t).map Prod.fst).Nodup := by
  unfold putA
  cases q : (lkA ts s).isSome with
  | true =>
    rw [if_pos rfl, List.map_map]
    rw [show ts.map (Prod.fst ∘ fun q => if q.1 = s then (q.1, t) else q) = ts.map Prod.fst from List.map_congr_left fun p _ => by show (if p.1 = s then (p.1, t) else p).1 = p.1; split <;> rfl]
    exact nd
  | false =>
    rw [if_neg Bool.false_ne_true, List.map_append]
    refine List.nodup_append.mpr ⟨nd, List.nodup_cons.mpr ⟨(fun m => nomatch m), List.nodup_nil⟩, fun a am b bm e => ?_⟩
    have bm : b ∈ [s] := bm
    rw [List.mem_singleton.mp bm] at e
    subst e
    rw [keyA.mp am] at q
    cases q
theorem nd_dropA {ts : List (Int × β)} {s : Int} (nd : (ts.map Prod.fst).Nodup) : ((dropA ts s).map Prod.fst).Nodup :=
  nd.sublist (List.Sublist.map _ (List.filter_sublist ..))
theorem len_putA (ts : List (Int × β)) (s : Int) (t : β) : (putA ts s t).length ≤ ts.length + 1 := by
  unfold putA
  split
  · rw [List.length_map]; omega
  · rw [List.length_append]; exact Nat.le_refl _
theorem putA_new {ts : List (Int × β)} {s : Int} {t : β} (h : lkA ts s = none) : putA ts s t = ts ++ [(s, t)] := by
  unfold putA
  rw [h]
  rfl
theorem putA_in {ts : List (Int × β)} {s : Int} {t : β} {q : Int × β} (m : q ∈ putA ts s t) : q = (s, t) ∨ q ∈ ts := by
  unfold putA at m
  split at m
  · obtain ⟨p, hp, e⟩ := List.mem_map.mp m
    by_cases z : p.1 = s
    · rw [if_pos z] at e
      left
      rw [← e, z]
    · rw [if_neg z] at e
      right
      rw [← e]
      exact hp
  · rcases List.mem_append.mp m with m | m
    · exact .inr m
    · exact .inl (List.mem_singleton.mp m)
theorem dropA_in {ts : List (Int × β)} {s : Int} {q : Int × β} (m : q ∈ dropA ts s) : q ∈ ts ∧ q.1 ≠ s := by
  obtain ⟨a, b⟩ := List.mem_filter.mp m
  exact ⟨a, by simpa using b⟩
end
/-- a dict of tuples at d: what its tuples hold is told by f -/
def TupD {β : Type} (f : β → List V) (H : Hp) (d : Addr) (ms : List (Int × β)) : Prop := ∃ es : List (Int × (Addr × β)), H d = some (.dK (dA (fun p : Addr × β => V.ref p.1) es)) ∧ (∀ e ∈ es, H e.2.1 = some (.tup (f e.2.2))) ∧ es.map (fun e => (e.1, e.2.2)) = ms
section
variable {β : Type} {f : β → List V} {H H' : Hp} {d : Addr} {ms : List (Int × β)} {ds : List Addr}
theorem TupD.nil (h : H d = some (.dK [])) : TupD f H d [] := ⟨[], h, (fun e m => nomatch m), rfl⟩
theorem TupD.at_ (T : TupD f H d ms) : ∃ kv, H d = some (.dK kv) := by
  obtain ⟨es, h, _⟩ := T
  exact ⟨_, h⟩
theorem TupD.fr (T : TupD f H d ms) (X : Fr ds H H') (n : d ∉ ds) (nt : ∀ a ∈ ds, ∀ vs, H a ≠ some (.tup vs)) : TupD f H' d ms := by
  obtain ⟨es, h, h2, h3⟩ := T
  exact ⟨es, X.dK h n, fun e m => X.tup (h2 e m) fun z => nt _ z _ (h2 e m), h3⟩
theorem TupD.fr0 (T : TupD f H d ms) (X : Fr [] H H') : TupD f H' d ms := T.fr X not_nil fun a m => nomatch m
theorem lk_es {es : List (Int × (Addr × β))} (h3 : es.map (fun e => (e.1, e.2.2)) = ms) (k : Int) : lkA ms k = (lkA es k).map Prod.snd := by
  rw [← h3]
  exact lkA_map Prod.snd es k
theorem TupD.none_ (T : TupD f H d ms) {k : Int} (e : lkA ms k = none) : DGet H d (.int k) none := by
  obtain ⟨es, h, h2, h3⟩ := T
  have g := DGet.k (k := Sum.inl k) h
  rw [valV_dA] at g
  rw [lk_es h3] at e
  cases q : lkA es k with
  | none => rw [q] at g; exact g
  | some p => rw [q] at e; cases e
theorem TupD.some_ (T : TupD f H d ms) {k : Int} {v : β} (e : lkA ms k = some v) : ∃ a, DGet H d (.int k) (some (.ref a)) ∧ H a = some (.tup (f v)) := by
  obtain ⟨es, h, h2, h3⟩ := T
  have g := DGet.k (k := Sum.inl k) h
  rw [valV_dA] at g
  rw [lk_es h3] at e
  cases q : lkA es k with
  | none => rw [q] at e; cases e
  | some p =>
    rw [q] at g e
    injection e with e
    have e : p.2 = v := e
    refine ⟨p.1, g, ?_⟩
    rw [← e]
    exact h2 _ (lkA_pair q)
theorem TupD.has (T : TupD f H d ms) (k : Int) : ∃ o, DGet H d (.int k) o ∧ o.isSome = (lkA ms k).isSome := by
  cases q : lkA ms k with
  | none => exact ⟨_, T.none_ q, rfl⟩
  | some v =>
    obtain ⟨a, g, _⟩ := T.some_ q
    exact ⟨_, g, rfl⟩
theorem TupD.len (T : TupD f H d ms) : ∃ kv, H d = some (.dK kv) ∧ kv.length = ms.length ∧ kv.map (·.1) = (ms.map Prod.fst).map Sum.inl := by
  obtain ⟨es, h, h2, h3⟩ := T
  refine ⟨_, h, by rw [← h3]; unfold dA; rw [List.length_map, List.length_map], ?_⟩
  rw [← h3]
  unfold dA
  rw [List.map_map, List.map_map, List.map_map]
  rfl
theorem TupD.put (T : TupD f H d ms) {a : Addr} {v : β} (k : Int) (ha : H a = some (.tup (f v))) (l : ms.length ≤ 100000) : ∃ kv, DPut H d (.int k) (.ref a) (upd H d (.dK kv)) ∧ TupD f (upd H d (.dK kv)) d (putA ms k v) := by
  obtain ⟨es, h, h2, h3⟩ := T
  have hl : es.length = ms.length := by rw [← h3, List.length_map]
  have g := DPut.k (k := Sum.inl k) (v := V.ref a) h (by unfold dA; rw [List.length_map, hl]; exact Nat.lt_of_le_of_lt l (by decide))
  have e := put_dA (fun p : Addr × β => V.ref p.1) es k (a, v)
  have e : putK (dA (fun p : Addr × β => V.ref p.1) es) (.inl k) (.ref a) = _ := e
  rw [e] at g
  refine ⟨_, g, putA es k (a, v), upd_same, fun x m => ?_, ?_⟩
  · have hx : H x.2.1 = some (.tup (f x.2.2)) := by
      rcases putA_in m with z | z
      · rw [z]; exact ha
      · exact h2 x z
    rw [upd_ne (fun z => by rw [z, h] at hx; cases hx)]
    exact hx
  · rw [← h3]
    exact putA_map Prod.snd es k (a, v)
theorem TupD.drop (T : TupD f H d ms) (k : Int) : ∃ kv, H d = some (.dK kv) ∧ (valV kv (.inl k)).isSome = (lkA ms k).isSome ∧ TupD f (upd H d (.dK (dropK kv (.inl k)))) d (dropA ms k) := by
  obtain ⟨es, h, h2, h3⟩ := T
  refine ⟨_, h, by rw [valV_dA, lk_es h3, Option.isSome_map, Option.isSome_map], dropA es k, ?_, fun x m => ?_, ?_⟩
  · rw [upd_same, drop_dA]
  · have hx := h2 x (dropA_in m).1
    rw [upd_ne (fun z => by rw [z, h] at hx; cases hx)]
    exact hx
  · rw [← h3]
    exact dropA_map Prod.snd es k
end
/-- a constant of the module -/
def GcP (mg : Str → Option Value) (x : Str) (v : V) : Prop := ∃ u, mg x = some u ∧ RelV v u
/-- an __init__ with one default, an empty tuple -/
def IniE (K : PySem.W.Frag) (C : Addr) (q : Str) (st : Stmt) : Prop := ∃ (f a : Addr) (fd : FuncData), Mk K C f ∧ FunD K "__init__" q (C8.fnArgs st) (C8.fnBody st) (C8.fnScope st) [.ref a] [] f fd ∧ ∀ H, SqT K H a []
section
variable {K : PySem.W.Frag} {h : Heap} {mg : Str → Option Value}
theorem gcs_mk {x s : Str} {t : Tok} (X : K.In h) (G : h.Ns mainGlobals mg) (e : PySem.W.nsIn K mainGlobals x = some (some (.str s t))) : GcP mg x (.str s) := ⟨_, PySem.W.mg_of X G e, _, rfl⟩
theorem gci_mk {x : Str} {i : Int} {t : Tok} (X : K.In h) (G : h.Ns mainGlobals mg) (e : PySem.W.nsIn K mainGlobals x = some (some (.int i t))) : GcP mg x (.int i) := ⟨_, PySem.W.mg_of X G e, _, rfl⟩
theorem tup4s_mk {x : Str} {a : Addr} {s1 s2 s3 s4 : Str} {t1 t2 t3 t4 : Tok} {n : Nat} {od : Option Addr} {osl : Array (Option Value)} (X : K.In h) (G : h.Ns mainGlobals mg) (e : PySem.W.nsIn K mainGlobals x = some (some (.ref a))) (l : K.lookup a = some ⟨.type "tuple", od, .seq #[.str s1 t1, .str s2 t2, .str s3 t3, .str s4 t4] n, osl⟩) : TupP K mg x [.str s1, .str s2, .str s3, .str s4] :=
  ⟨a, PySem.W.mg_of X G e, fun _ => .inr ⟨_, _, _, l, rfl, rfl, by show 4 ≤ sizeLine; decide, .cons ⟨_, rfl⟩ (.cons ⟨_, rfl⟩ (.cons ⟨_, rfl⟩ (.cons ⟨_, rfl⟩ .nil)))⟩⟩
theorem iniE_mk {C f TT e : Addr} {q : Str} {st : Stmt} {oc : Value} {od an : Option Addr} {osl : Array (Option Value)} {kV doc pm cdv ct : Value} {o1 : Value} {o2 : Option Addr} {o3 : Array (Option Value)} {n1 n2 : Nat} {p2 : Option Addr} {p3 : Array (Option Value)} (m : PySem.W.makesIn K C = true) (a : PySem.W.findIn K (.ref C) "__init__" = some (some (.ref f))) (i : PySem.W.isFn K (.ref f) = true) (kc : PySem.W.keepIn K (.ref C) = true)
    (l : K.lookup f = some ⟨oc, od, .func (PySem.W.fnOf "__init__" q (C8.fnArgs st) (C8.fnBody st) (C8.fnScope st) (.ref TT) kV doc pm an cdv ct), osl⟩) (c : PySem.W.codeIn K cdv q = true) (k : PySem.W.keepIn K (.ref f) = true)
    (lT : K.lookup TT = some ⟨o1, o2, .seq #[.ref e] n1, o3⟩) (le : K.lookup e = some ⟨.type "tuple", p2, .seq #[] n2, p3⟩) : IniE K C q st :=
  ⟨f, e, _, ⟨m, a, i, kc⟩, ⟨⟨oc, od, _, kV, doc, pm, an, cdv, ct, osl, rfl, l, c, .inr ⟨fun z => (nomatch z), TT, _, [.ref e], n1, rfl, lT, rfl, .cons rfl .nil⟩, .inl rfl⟩, k⟩, fun H => .inr ⟨_, #[], n2, le, rfl, rfl, Nat.zero_le _, .nil⟩⟩
/-- the ranks of marks, a written dict -/
def RanksP (K : PySem.W.Frag) (w : World) (mg : Str → Option Value) (x : Str) : Prop := ∃ p : Addr, mg x = some (.ref p) ∧ KDct K w p "alive" (.int 1) ∧ KDct K w p "suspect" (.int 2) ∧ KDct K w p "dead" (.int 3) ∧ KDct K w p "left" (.int 4)
theorem ranks_mk {w : World} {x : Str} {p : Addr} {es : Array DictEntry} {n : Nat} {t1 t2 t3 t4 : Tok} (X : K.In h) (G : h.Ns mainGlobals mg) (e : PySem.W.nsIn K mainGlobals x = some (some (.ref p))) (l : K.lookup p = some ⟨.type "dict", none, .dict es n, #[]⟩) (hk : PySem.W.KeysLit w.params es.toList)
    (n1 : PySem.W.nsIn K p "alive" = some (some (.int 1 t1))) (n2 : PySem.W.nsIn K p "suspect" = some (some (.int 2 t2))) (n3 : PySem.W.nsIn K p "dead" = some (some (.int 3 t3))) (n4 : PySem.W.nsIn K p "left" = some (some (.int 4 t4))) : RanksP K w mg x :=
  ⟨p, PySem.W.mg_of X G e, ⟨es, n, _, l, hk, n1, _, rfl⟩, ⟨es, n, _, l, hk, n2, _, rfl⟩, ⟨es, n, _, l, hk, n3, _, rfl⟩, ⟨es, n, _, l, hk, n4, _, rfl⟩⟩
end
/-! ### sayings -/
structure Say where
  seat : Int
  life : Int
  mark : Str
  worth : Str
def Say.vs (s : Say) : List V := [.int s.seat, .int s.life, .str s.mark, .str s.worth]
def marksL : List Str := ["alive", "suspect", "dead", "left"]
def markN (m : Str) : Nat := marksL.idxOf m
def rankI (s : Say) : Int := 4 * s.life + (markN s.mark : Int) + 1
def rankO : Option Say → Int
  | none => 0
  | some s => rankI s
def plainS : Str := "abcdefghijklmnopqrstuvwxyz0123456789"
def Plain (w : Str) : Prop := ∀ c ∈ w.cps.toList, c ∈ plainS.cps.toList
structure Say.Ok (r : Int) (s : Say) : Prop where
  s0 : 0 ≤ s.seat
  s1 : s.seat < r
  l0 : 0 ≤ s.life
  l1 : s.life < 10 ^ 60
  m : s.mark ∈ marksL
  w : s.worth.length ≤ 12
  p : Plain s.worth
theorem mark_lt {m : Str} (h : m ∈ marksL) : markN m < 4 := List.idxOf_lt_length_of_mem h
theorem mark_at {m : Str} (h : m ∈ marksL) : marksL[markN m]? = some m ∧ ∀ j, j < markN m → marksL[j]? ≠ some m := by
  have e := List.idxOf_lt_length_of_mem h
  refine ⟨?_, fun j hj => ?_⟩
  · unfold markN
    rw [List.getElem?_eq_getElem e, List.getElem_idxOf]
  · intro z
    obtain ⟨h1, h2⟩ := List.getElem?_eq_some_iff.mp z
    have := List.not_of_lt_findIdx (p := (· == m)) (xs := marksL) (i := j) hj
    rw [h2] at this
    simp at this
theorem rank_pos {s : Say} {r : Int} (o : s.Ok r) : 0 < rankI s := by
  unfold rankI
  have := o.l0
  omega
theorem foldl_ones : ∀ (cs : List Nat) (acc : Array Nat), ((cs.map fun c => (⟨#[c]⟩ : Str)).foldl (fun acc p => acc ++ ("" : Str).cps ++ p.cps) acc).toList = acc.toList ++ cs
  | [], acc => by simp
  | c :: cs, acc => by
    rw [List.map_cons, List.foldl_cons, foldl_ones cs]
    have e : ("" : Str).cps = #[] := by decide +kernel
    rw [e]
    simp
theorem join_ones (cs : List Nat) : (Txt.join ("" : Str) (cs.map fun c => (⟨#[c]⟩ : Str))).cps.toList = cs := by
  cases cs with
  | nil => rfl
  | cons c cs =>
    have h := foldl_ones cs #[c]
    exact h
theorem ones_len : ∀ cs : List Nat, (((cs.map fun c => (⟨#[c]⟩ : Str)).map fun x : Str => x.length).sum) = cs.length
  | [] => rfl
  | c :: cs => by
    rw [List.map_cons, List.map_cons, List.sum_cons, ones_len cs, List.length_cons]
    show 1 + cs.length = _
    omega
theorem join_worth {cs : List Nat} {m : Nat} (l : cs.length ≤ m) (h : ∀ c ∈ cs, c ∈ plainS.cps.toList) : (Txt.join ("" : Str) (cs.map fun c => (⟨#[c]⟩ : Str))).length ≤ m ∧ Plain (Txt.join ("" : Str) (cs.map fun c => (⟨#[c]⟩ : Str))) := by
  refine ⟨?_, fun c hc => ?_⟩
  · show (Txt.join ("" : Str) (cs.map fun c => (⟨#[c]⟩ : Str))).cps.size ≤ m
    rw [← Array.length_toList, join_ones]
    exact l
  · rw [join_ones] at hc
    exact h c hc
def latS (ms : List (Int × Say)) (s : Say) : List (Int × Say) := if rankO (lkA ms s.seat) < rankI s then putA ms s.seat s else ms
def latL (ss : List Say) : List (Int × Say) := ss.foldl latS []
theorem latL_snoc (ss : List Say) (s : Say) : latL (ss ++ [s]) = latS (latL ss) s := by
  unfold latL
  rw [List.foldl_append]
  rfl
end UF

set_option Elab.async false
set_option maxRecDepth 100000
set_option maxHeartbeats 4000000
/-! super().m(..) in a def of a class of the text -/
namespace SupO
open PySem PySem.Spec PyProof.Rows L2 NdefX ClX
def nfS (nm q : Str) (st : Stmt) (c cc : Addr) : NF := ⟨nm, q, C8.fnArgs st, C8.fnBody st, C8.fnScope st, [("__class__", cc)], c⟩
/-- the def at f closes over the class at D -/
structure SupD (P : Program) (K : PySem.W.Frag) (D : Addr) (nm q : Str) (st : Stmt) (f c cc : Addr) (fd : FuncData) : Prop where
  fn : ∃ (oc : Value) (od an : Option Addr) (kV doc pm ct : Value) (osl : Array (Option Value)), fd = PySem.W.fnX nm q (C8.fnArgs st) (C8.fnBody st) (C8.fnScope st) [("__class__", cc)] .none kV doc pm an (.ref c) ct ∧ K.lookup f = some ⟨oc, od, .func fd, osl⟩
  cd : PySem.W.codeIn K (.ref c) q = true
  file : ∃ (ccl : Value) (cdd : Option Addr) (vs : Array Value) (ccs : Array (Option Value)) (fl : Str) (tf : Tok), K.lookup c = some ⟨ccl, cdd, .fields vs, ccs⟩ ∧ vs[2]? = some (.str fl tf) ∧ ((P.main.file : Str) == fl) = true
  cell : ∃ (cl : Value) (cld : Option Addr) (csl : Array (Option Value)), K.lookup cc = some ⟨cl, cld, .cell (some (.ref D)), csl⟩
  cls : (PySem.W.clsIn K D).isSome = true
  glo : PySem.W.nsIn K mainGlobals "super" = some none
  top : (P.main.scope.names.lookup ("super" : Str)).isSome = false
  self : (((C8.fnArgs st).posonlyargs ++ (C8.fnArgs st).args).head?.map (·.arg)) = some ("self" : Str)
  opq : PySem.W.nsIn K cStatics "thirdparty.any" = some none
  ks : (C8.fnScope st).names.lookup ("super" : Str) = some .globalImplicit
  kc : (C8.fnScope st).names.lookup ("__class__" : Str) = some .free
  ka : (C8.fnScope st).names.lookup ("self" : Str) = some .local
/-- what super() of an instance of C in D's def gives for m -/
structure SupT (K : PySem.W.Frag) (C D : Addr) (m : Str) (g : Addr) : Prop where
  sub : PySem.W.mroIn K C (.ref D) = some true
  at_ : PySem.W.ks_superIn K C D m = some (some (.ref g))
  ty : PySem.W.typeIn K (.ref g) = some (.type "function")
  fi : PySem.W.fnIn K g = true
section
variable {X : Cx} {pins : List (Addr × Obj)} {σ : L2.St} {H : Hp} {s : Shared} {nm q : Str} {st : Stmt} {f c cc C D o dx g : Addr} {fd : FuncData} {m : Str} {fs : List (Str × V)}
theorem sup_base {body : List Stmt} {p0 p1 pos apos : Pos} {args : List Expr} {pl : Sem Bool} {Q : Value → Shared → Prop} {E : Value → Shared → Prop} (I : Inv X pins σ H s) (d : SupD X.prog X.K D nm q st f c cc fd) (hsc : X.env.scope = C8.fnScope st) (hfu : X.env.func = some f) (hco : X.env.code = .ref c) (hcl : X.env.cells = [(("__class__" : Str), cc)])
    (e : H o = some (.ins C dx fs)) (t : SupT X.K C D m g) (hself : σ[0]? = some (some (.ref o))) (hN : X.N[0]? = some ("self" : Str)) (hat : (m == ("__class__" : Str)) = false)
    (ht : eval (.Call (.Attribute (.Call (.Name "super" p0) [] [] p1) m apos) args [] pos) X.env = (do
      let ov ← attributeBase (.Call (.Name "super" p0) [] [] p1) m X.env (eval (.Call (.Name "super" p0) [] [] p1) X.env)
      standAt apos.atName
      let (f, first) ← holding [ov] (getMethod ov m pl)
      callWith pos f first (backTo pos (starEach args X.env)) []))
    (h : ∀ b s', Inv X ((b, PySem.W.methodObj (.ref g) (.ref o)) :: pins) σ H s' → X.base.get? b = none → wpAny (model X.prog X.w) X.A (callWith pos (.ref b) [] (backTo pos (starEach args X.env)) []) Q E s') :
    _root_.PySem.wpAt (model X.prog X.w) X.A (.func body X.env) (eval (.Call (.Attribute (.Call (.Name "super" p0) [] [] p1) m apos) args [] pos) X.env) Q E s := by
  obtain ⟨mA, O, _⟩ := ins_get I.hok e
  obtain ⟨od, J, _⟩ := O.look
  have X0 : X.K.In s.heap := I.kIn
  obtain ⟨oc, od', an, kV, doc, pm, ct, osl, rfl, lk⟩ := d.fn
  obtain ⟨ccl, cdd, vs, ccs, fl, tf, lkc, hvs, hfile⟩ := d.file
  obtain ⟨cl, cld, csl, lkcc⟩ := d.cell
  obtain ⟨cdD, hcD⟩ := Option.isSome_iff_exists.mp d.cls
  obtain ⟨ar, har, hse⟩ := Option.map_eq_some_iff.mp d.self
  obtain ⟨mb, hb1, hb2⟩ := I.mod.blt
  have hks : X.env.kindOf "super" = some .globalImplicit := by show X.env.scope.names.lookup _ = _; rw [hsc]; exact d.ks
  have hkc : X.env.kindOf "__class__" = some .free := by show X.env.scope.names.lookup _ = _; rw [hsc]; exact d.kc
  have hka : X.env.scope.names.lookup ("self" : Str) = some .local := by rw [hsc]; exact d.ka
  have hm : X.mg "super" = none := PySem.W.mg_none_of I.mod.kin I.mod.glob d.glo
  have hself' : wpAny (model X.prog X.w) X.A (loadName X.env ar.arg) (fun u s' => u = .ref o ∧ s' = s) (fun _ _ => False) s := by
    obtain ⟨m0, hn0, hl0⟩ := I.loc
    obtain ⟨u, ru, l⟩ := hl0 0 _ _ hN hself (.inl hka)
    cases (show u = Value.ref o from ru)
    rw [hse]
    rcases l with ⟨hk, hv⟩ | ⟨hk, _⟩
    · exact wpAny_loadName_local I.ok.kind hk hn0 hv ⟨rfl, rfl⟩
    · have hk : X.env.scope.names.lookup ("self" : Str) = some .cell ∨ X.env.scope.names.lookup ("self" : Str) = some .free := hk
      rw [hka] at hk
      rcases hk with z | z <;> cases z
  obtain ⟨oD, hD1, hD2⟩ : ∃ oD, s.heap.get? D = some oD ∧ oD.data = .cls cdD := by
    unfold PySem.W.clsIn at hcD
    split at hcD
    · rename_i a b cd' sl ho
      cases hcD
      exact ⟨_, X0 _ _ ho, rfl⟩
    · cases hcD
  refine ks_wpAt_MethodCall (pl := pl) ?_ ht
  refine ks_wpAt_super_base hks hkc hat hfu (X0 _ _ lk) rfl har hco (X0 _ _ lkc) rfl hvs hfile d.top ?_
  refine PySem.W.ks_loadName_global I.ok.kind hks (Calls.loadGlobal_builtin (by rw [I.ok.glob]; exact I.mod.glob.keeps I.bk) hm (by rw [I.ok.blt]; exact hb1.keeps I.bk) ((hb2 "super" (by decide)).trans (show bootBuiltins "super" = some (.type "super") from by first | rfl | kernel_rfl | decide +kernel)) ⟨rfl, ?_⟩)
  refine wpAny_loadName_free I.ok.kind hkc (by rw [hcl]; rfl) ⟨_, X0 _ _ lkcc, rfl⟩ ?_
  refine wpAny_mono hself' (fun u s1 hu => ?_) fun _ _ z => z.elim
  obtain ⟨rfl, rfl⟩ := hu
  refine ks_wpAny_isType_cls hD1 hD2 ⟨rfl, ?_⟩
  obtain ⟨hh, g', d', t', os⟩ := s1
  refine ks_wpAny_call_super hD1 hD2 J.at_ J.cls (fun c e => ?_) (PySem.W.looks_mroIn X0 t.sub) (fun h' e1 k => ?_)
  · have := J.no
    unfold PySem.W.notCls at this
    rw [e] at this
    exact Bool.noConfusion this
  have I1 : Inv X pins σ H ⟨h', g', d', t', os⟩ := I.kept (t' := t') k
  have X1 : X.K.In h' := I1.kIn
  obtain ⟨mA1, O1, _⟩ := ins_get I1.hok e
  obtain ⟨od1, J1, _⟩ := O1.look
  cases hcC : PySem.W.clsIn X.K C with
  | none =>
    have := t.at_
    unfold PySem.W.ks_superIn at this
    rw [hcC] at this
    cases this
  | some cd =>
    have hsu := t.at_
    unfold PySem.W.ks_superIn at hsu
    rw [hcC] at hsu
    obtain ⟨og, hog, hogc⟩ : ∃ of, h'.get? g = some of ∧ of.cls = .type "function" := by
      have ht' : (X.K.lookup g).map (·.cls) = some (.type "function") := t.ty
      cases z : X.K.lookup g with
      | none => rw [z] at ht'; cases ht'
      | some of => rw [z] at ht'; exact ⟨of, X1 _ _ z, Option.some.inj ht'⟩
    refine ks_wpAny_getMethod_super e1 (PySem.W.looks_opaque X1 d.opq) (l₀ := cd.mro) ?_ rfl X1 hsu hog hogc (PySem.W.ks_ne X1 J1 hcC) hat ?_
    · exact fun A Q E s k q => wpAny_bind ((PySem.W.looks_clsIn X1 hcC) A _ E s k (wpAny_pure q))
    · have I2 := pin_new (o := PySem.W.methodObj (.ref g) (.ref o)) (h' := h'.push (PySem.W.methodObj (.ref g) (.ref o))) (a := h'.objs.size) (t' := t' + 1) I1 (fun _ _ z => Heap.get?_push_of_some _ z) (Nat.le_refl _) (Heap.get?_push_size h' rfl) (fun v z => nomatch z)
      exact h _ _ I2 (base_none I1 (Nat.le_refl _))
/-- the call: with arguments, without -/
theorem sup_call {CX : CXT} {k : Nat} {body : List Stmt} {p0 p1 pos apos : Pos} {e1 : Expr} {es : List Expr} {pl : Sem Bool} {sp : Sp} {E : XK} {ta : TA} {Q : VK} (I : Inv X pins σ H s) (d : SupD X.prog X.K D nm q st f c cc fd) (hsc : X.env.scope = C8.fnScope st) (hfu : X.env.func = some f) (hco : X.env.code = .ref c) (hcl : X.env.cells = [(("__class__" : Str), cc)])
    (e : H o = some (.ins C dx fs)) (t : SupT X.K C D m g) (hself : σ[0]? = some (some (.ref o))) (hN : X.N[0]? = some ("self" : Str)) (F : FnR X.prog X.w X.K X.mg X.base CX k g sp) (hr : Room k X.A) (hx : Passes CX X E) (ha : PA X (e1 :: es) ta) (h : ta σ H fun vs H1 => sp (.ref o :: vs) H1 Q E)
    (ht : eval (.Call (.Attribute (.Call (.Name "super" p0) [] [] p1) m apos) (e1 :: es) [] pos) X.env = (do
      let ov ← attributeBase (.Call (.Name "super" p0) [] [] p1) m X.env (eval (.Call (.Name "super" p0) [] [] p1) X.env)
      standAt apos.atName
      let (f, first) ← holding [ov] (getMethod ov m pl)
      callWith pos f first (backTo pos (starEach (e1 :: es) X.env)) []) := by rfl)
    (hat : (m == ("__class__" : Str)) = false := by decide) (hst : starEach (e1 :: es) X.env = (false, eval e1 X.env) :: starEach es X.env := by rfl) (hpl : (backTo pos (starEach es X.env)).any (·.1) = false := by rfl) :
    _root_.PySem.wpAt (model X.prog X.w) X.A (.func body X.env) (eval (.Call (.Attribute (.Call (.Name "super" p0) [] [] p1) m apos) (e1 :: es) [] pos) X.env) (EP X pins σ Q) X.xe s := by
  refine sup_base I d hsc hfu hco hcl e t hself hN hat ht fun b s' I2 hb => ?_
  refine callwith_cm I2 hb t.fi (thn (ha.run pos _ s' σ H _ I2 h) fun us s2 ⟨vs, H2, I3, r, q2⟩ => ⟨⟨pin_at I3, I3.kIn⟩, ?_⟩) hst hpl
  exact run_cm F hr hx I3 r q2
theorem sup_call0 {CX : CXT} {k : Nat} {body : List Stmt} {p0 p1 pos apos : Pos} {pl : Sem Bool} {sp : Sp} {E : XK} {Q : VK} (I : Inv X pins σ H s) (d : SupD X.prog X.K D nm q st f c cc fd) (hsc : X.env.scope = C8.fnScope st) (hfu : X.env.func = some f) (hco : X.env.code = .ref c) (hcl : X.env.cells = [(("__class__" : Str), cc)])
    (e : H o = some (.ins C dx fs)) (t : SupT X.K C D m g) (hself : σ[0]? = some (some (.ref o))) (hN : X.N[0]? = some ("self" : Str)) (F : FnR X.prog X.w X.K X.mg X.base CX k g sp) (hr : Room k X.A) (hx : Passes CX X E) (h : sp [.ref o] H Q E)
    (ht : eval (.Call (.Attribute (.Call (.Name "super" p0) [] [] p1) m apos) [] [] pos) X.env = (do
      let ov ← attributeBase (.Call (.Name "super" p0) [] [] p1) m X.env (eval (.Call (.Name "super" p0) [] [] p1) X.env)
      standAt apos.atName
      let (f, first) ← holding [ov] (getMethod ov m pl)
      callWith pos f first (backTo pos (starEach [] X.env)) []) := by rfl)
    (hat : (m == ("__class__" : Str)) = false := by decide) :
    _root_.PySem.wpAt (model X.prog X.w) X.A (.func body X.env) (eval (.Call (.Attribute (.Call (.Name "super" p0) [] [] p1) m apos) [] [] pos) X.env) (EP X pins σ Q) X.xe s := by
  refine sup_base I d hsc hfu hco hcl e t hself hN hat ht fun b s' I2 hb => ?_
  exact PySem.W.callWith_M0 (K := X.K) ⟨pin_at I2, I2.kIn⟩ t.fi (run_cm F hr hx I2 (us := []) (vs := []) .nil h)
end
/-- what is asked of a statement's run where the code that runs is known -/
structure PSAt (X : Cx) (body : List Stmt) (sts : List Stmt) (t : TS) : Prop where
  run : ∀ (pins : List (Addr × Obj)) (s : Shared) (σ : L2.St) (H : Hp) (D : Ends), Inv X pins σ H s → t D σ H → _root_.PySem.wpAt (model X.prog X.w) X.A (.func body X.env) (execs sts X.env) (SP X pins D) X.xe s
/-- an expression -/
structure PEAt (X : Cx) (body : List Stmt) (e : Expr) (t : TE) : Prop where
  run : ∀ (pins : List (Addr × Obj)) (s : Shared) (σ : L2.St) (H : Hp) (Q : VK), Inv X pins σ H s → t σ H Q → _root_.PySem.wpAt (model X.prog X.w) X.A (.func body X.env) (eval e X.env) (EP X pins σ Q) X.xe s
section
variable {X : Cx} {body rest : List Stmt} {e e2 : Expr} {te tf : TE} {t : TS} {pos : Pos}
theorem PSs.at_ (h : PSs X rest t) : PSAt X body rest t := ⟨fun pins s σ H D I q => _root_.PySem.wpAt_of_wpAny (h.run pins s σ H D I q)⟩
theorem PE.at_ (h : PE X e te) : PEAt X body e te := ⟨fun pins s σ H Q I q => _root_.PySem.wpAt_of_wpAny (h.run pins s σ H Q I q)⟩
theorem psa_expr (he : PEAt X body e te) (hr : PSs X rest t) (hs : swapsWith e none pos.line X.env = pure false := by rfl) : PSAt X body (.Expr e pos :: rest) (fun D σ H => te σ H fun _ H1 => t D σ H1) := by
  refine ⟨fun pins s σ H D I h => ?_⟩
  refine ks_wpAt_execs_cons (ks_wpAt_Expr_any (ks_wpAt_mono (he.run pins s σ H _ I h) (fun v s1 q => ?_) fun _ _ z => z) I.quiet hs)
  obtain ⟨x, H1, I1, r1, q1⟩ := q
  exact _root_.PySem.wpAt_of_wpAny (hr.run pins s1 σ H1 D I1 q1)
theorem psa_ret (he : PEAt X body e te) : PSAt X body [.Return (some e) pos] (tRet te) := by
  refine ⟨fun pins s σ H D I h => ?_⟩
  refine ks_wpAt_execs_cons (ks_wpAt_Return_some (ks_wpAt_mono (he.run pins s σ H _ I h) (fun v s1 q => ?_) fun _ _ z => z))
  obtain ⟨x, H1, I1, r1, q1⟩ := q
  exact ⟨x, σ, H1, I1, r1, q1⟩
end
theorem PSAt.unwish {X : Cx} {body sts : List Stmt} {t : TS} (h : PSAt X.nox body sts t) : PSAt X body sts t := ⟨fun pins s σ H D I hw =>
  ks_wpAt_mono (h.run pins s σ H D (I.wish _) hw) (fun _ _ q => q.unwish) fun _ _ z => False.elim z⟩
/-- super().m(..), in a def of the class at D -/
def tSup (K : PySem.W.Frag) (D : Addr) (m : Str) (g : Addr) (sp : Sp) (ta : TA) : TE := fun σ H Q => ∃ (o C dx : Addr) (fs : List (Str × V)), σ[0]? = some (some (.ref o)) ∧ H o = some (.ins C dx fs) ∧ SupT K C D m g ∧ ta σ H fun vs H1 => sp (.ref o :: vs) H1 Q C8.E0
section
variable {X : Cx} {k j : Nat} {body : List Stmt} {nm q m : Str} {st : Stmt} {f c cc D g : Addr} {fd : FuncData} {p0 p1 pos apos : Pos} {e1 e2 : Expr} {es : List Expr} {pl : Sem Bool} {sp : Sp} {ta : TA} {te tf : TE}
theorem pea_sup (d : SupD X.prog X.K D nm q st f c cc fd) (hsc : X.env.scope = C8.fnScope st) (hfu : X.env.func = some f) (hco : X.env.code = .ref c) (hcl : X.env.cells = [(("__class__" : Str), cc)]) (hN : X.N[0]? = some ("self" : Str)) (F : FnR X.prog X.w X.K X.mg X.base C8.CX0 k g sp) (hr : Room j X.A) (hk : k ≤ j) (ha : PA X (e1 :: es) ta)
    (ht : eval (.Call (.Attribute (.Call (.Name "super" p0) [] [] p1) m apos) (e1 :: es) [] pos) X.env = (do
      let ov ← attributeBase (.Call (.Name "super" p0) [] [] p1) m X.env (eval (.Call (.Name "super" p0) [] [] p1) X.env)
      standAt apos.atName
      let (f, first) ← holding [ov] (getMethod ov m pl)
      callWith pos f first (backTo pos (starEach (e1 :: es) X.env)) []) := by rfl)
    (hat : (m == ("__class__" : Str)) = false := by decide) (hst : starEach (e1 :: es) X.env = (false, eval e1 X.env) :: starEach es X.env := by rfl) (hpl : (backTo pos (starEach es X.env)).any (·.1) = false := by rfl) :
    PEAt X body (.Call (.Attribute (.Call (.Name "super" p0) [] [] p1) m apos) (e1 :: es) [] pos) (tSup X.K D m g sp ta) := by
  refine ⟨fun pins s σ H Q I h => ?_⟩
  obtain ⟨o, C, dx, fs, h0, ho, t, h⟩ := h
  exact sup_call I d hsc hfu hco hcl ho t h0 hN F (hr.mono hk) (C8.pass0 (E := C8.E0)) ha h ht hat hst hpl
theorem pea_sup0 (d : SupD X.prog X.K D nm q st f c cc fd) (hsc : X.env.scope = C8.fnScope st) (hfu : X.env.func = some f) (hco : X.env.code = .ref c) (hcl : X.env.cells = [(("__class__" : Str), cc)]) (hN : X.N[0]? = some ("self" : Str)) (F : FnR X.prog X.w X.K X.mg X.base C8.CX0 k g sp) (hr : Room j X.A) (hk : k ≤ j)
    (ht : eval (.Call (.Attribute (.Call (.Name "super" p0) [] [] p1) m apos) [] [] pos) X.env = (do
      let ov ← attributeBase (.Call (.Name "super" p0) [] [] p1) m X.env (eval (.Call (.Name "super" p0) [] [] p1) X.env)
      standAt apos.atName
      let (f, first) ← holding [ov] (getMethod ov m pl)
      callWith pos f first (backTo pos (starEach [] X.env)) []) := by rfl)
    (hat : (m == ("__class__" : Str)) = false := by decide) :
    PEAt X body (.Call (.Attribute (.Call (.Name "super" p0) [] [] p1) m apos) [] [] pos) (tSup X.K D m g sp tNil) := by
  refine ⟨fun pins s σ H Q I h => ?_⟩
  obtain ⟨o, C, dx, fs, h0, ho, t, h⟩ := h
  exact sup_call0 I d hsc hfu hco hcl ho t h0 hN F (hr.mono hk) (C8.pass0 (E := C8.E0)) h ht hat
/-- super().m(..) op e -/
theorem pea_op {op : Operator} {rd : R2} (he : PEAt X body e1 te) (hf : PE X e2 tf) (hop : OpR X (binaryOp op) rd) : PEAt X body (.BinOp e1 op e2 pos) (fun σ H Q => te σ H fun x H1 => tf σ H1 fun y H2 => rd x y H2 Q) := by
  refine ⟨fun pins s σ H Q I h => ?_⟩
  refine ks_wpAt_BinOp (ks_wpAt_mono (he.run pins s σ H _ I h) (fun u s1 q => ?_) fun _ _ z => z)
  obtain ⟨x, H1, I1, r1, q1⟩ := q
  exact thn (hf.run pins s1 σ H1 _ I1 q1) fun v s2 ⟨y, H2, I2, r2, q2⟩ => hop pins s2 σ H2 x y u v Q I2 r1 r2 q2
end
/-- THE RULE: a def that says super(), by its body -/
theorem SupD.ok {P : Program} {w : World} {K : PySem.W.Frag} {mg : Str → Option Value} {base : Heap} {D : Addr} {nm q : Str} {st : Stmt} {f c cc : Addr} {fd : FuncData} {N ps : List Str} {k : Nat} {sp : Sp} (d : SupD P K D nm q st f c cc fd) (S : NScope N ps ["__class__"] (C8.fnScope st))
    (len : ∀ vs H Q E, sp vs H Q E → vs.length = ps.length)
    (hbody : ∀ (A : Around) (outer : List Env) (s : Shared) (H : Hp) (vs : List V) (Q : VK) (E : XK), Room k (A.deeper (envF (nfS nm q st c cc) f s.heap.objs.size)) → sp vs H Q E →
      ∃ t, PSAt (ncx C8.CX0 P w K mg base N (nfS nm q st c cc) f A outer s H E).nox (C8.fnBody st) (C8.fnBody st) t ∧ t { nx := fun _ H' => Q .non H', rt := Q } (startF N vs [some (.ref D)]) H) : FnOk P w K mg base C8.CX0 (k + 1) f fd ps sp := by
  refine ⟨len, fun A outer s H args us vs Q E hr e0 hb r hsp => ?_⟩
  have hl := len _ _ _ _ hsp
  have lim : s.heap.NoLimit := e0.mod.nolimit.keeps fun b o e => (e0.bs b o e).1
  have KX : K.In s.heap := e0.mod.kin.keeps fun b o e => (e0.bs b o e).1
  obtain ⟨oc, od', an, kV, doc, pm, ct, osl, rfl, lk⟩ := d.fn
  obtain ⟨cl, cld, csl, lkcc⟩ := d.cell
  refine codeAny_call_function hr.depth (KX _ _ lk) rfl S.co S.gen rfl (PySem.W.codeRec_of KX d.cd) (hb _ _ _ _ ?_)
  refine wpAny_newFunctionEnv S.nocell (fun ⟨n, _⟩ hy => S.par n (List.of_mem_zip hy).1) (fun h₁ hns hsb => ⟨lim.fresh _ hsb, ?_⟩) S.kind
  show codeAny _ _ (.func (C8.fnBody st) (envF (nfS nm q st c cc) f s.heap.objs.size)) _ _
  refine ks_codeAny_funcAt ?_
  have kp : ∀ b o, s.heap.get? b = some o → h₁.get? b = some o := fun b o e => hsb.extBut b o (Nat.ne_of_lt (Heap.lt_size e)) (Heap.get?_push_of_some _ e)
  obtain ⟨t, ht, hq⟩ := hbody A outer s H vs Q E (hr.deeper _) hsp
  have look : ∀ (y : Str) (c' : Addr), (nfS nm q st c cc).cl.lookup y = some c' → y = "__class__" ∧ c' = cc := fun y c' e => by
    have e : [((("__class__" : Str), cc) : Str × Addr)].lookup y = some c' := e
    unfold List.lookup at e
    split at e
    · rename_i z
      exact ⟨eq_of_beq z, (Option.some.inj e).symm⟩
    · cases e
  have C : CellsAt (nfS nm q st c cc).cl ["__class__"] [some (.ref D)] s.heap H := by
    refine ⟨rfl, fun y c' e => ?_, fun x y c' e1 e2 => ?_, fun i y hi => ?_⟩
    · obtain ⟨rfl, rfl⟩ := look y c' e
      exact ⟨(e0.bs _ _ (e0.mod.kin _ _ lkcc)).2, some (.ref D), ⟨_, KX _ _ lkcc, rfl⟩⟩
    · rw [(look x c' e1).1, (look y c' e2).1]
    · cases i with
      | succ i => cases hi
      | zero =>
        cases hi
        refine ⟨cc, by rfl, fun v hv => ?_⟩
        cases hv
        exact ⟨.ref D, rfl, ⟨_, KX _ _ lkcc, rfl⟩⟩
  have I : Inv (ncx C8.CX0 P w K mg base N (nfS nm q st c cc) f A outer s H E) [] (startF N vs [some (.ref D)]) H { s with heap := h₁, toks := s.toks + (ps.zip us).length } := inv_startN S hr.hd e0 hl r C hns kp
  refine ks_wpAt_mono (ht.unwish.run [] _ (startF N vs [some (.ref D)]) H _ I hq) (fun fl s' hs => ?_) fun e s' hs => hs
  have fin : ∀ {σ' : L2.St} {H' : Hp} {v : V} {u : Value}, Inv (ncx C8.CX0 P w K mg base N (nfS nm q st c cc) f A outer s H E) [] σ' H' s' → L2.RelV v u → Q v H' → CE outer P w H s Q u s' :=
    fun {σ' H' v u} J rv q => ⟨v, H', J.os, J.bare, J.base, J.hok, rv, q⟩
  cases fl with
  | ret u =>
    obtain ⟨v, σ', H', J, rv, q⟩ := hs
    exact fin J rv q
  | next =>
    obtain ⟨σ', H', J, q⟩ := hs
    exact fin (v := V.non) (u := Value.none) J rfl q
  | brk =>
    obtain ⟨_, _, _, q⟩ := hs
    exact False.elim q
  | cont =>
    obtain ⟨_, _, _, q⟩ := hs
    exact False.elim q
/-! ### the names of a text's classes that stand above one another -/
def IniS (P : Program) (K : PySem.W.Frag) (C D : Addr) (q : Str) (st : Stmt) (ps : List Str) (f : Addr) : Prop := ∃ (fd : FuncData) (c cc : Addr), Mk K C f ∧ SupD P K D "__init__" q st f c cc fd ∧ L2.Binds K fd ps []
def MethS (P : Program) (K : PySem.W.Frag) (C D : Addr) (m q : Str) (st : Stmt) (ps : List Str) (f : Addr) : Prop := ∃ (fd : FuncData) (c cc : Addr), Meth K C m f ∧ SupD P K D m q st f c cc fd ∧ L2.Binds K fd ps []
def IniA (K : PySem.W.Frag) (C : Addr) (q : Str) (st : Stmt) (ps : List Str) (f : Addr) : Prop := ∃ (fd : FuncData), Mk K C f ∧ C8.Fun K "__init__" q st f fd ∧ L2.Binds K fd ps []
def MethA (K : PySem.W.Frag) (C : Addr) (m q : Str) (st : Stmt) (ps : List Str) (f : Addr) : Prop := ∃ (fd : FuncData), Meth K C m f ∧ C8.Fun K m q st f fd ∧ L2.Binds K fd ps []
section
variable {P : Program} {K : PySem.W.Frag} {C D f c cc : Addr} {m q : Str} {st : Stmt} {ps : List Str} {oc : Value} {od an : Option Addr} {osl : Array (Option Value)} {kV doc pm cdv ct : Value}
theorem iniA_mk (mm : PySem.W.makesIn K C = true) (a : PySem.W.findIn K (.ref C) "__init__" = some (some (.ref f))) (i : PySem.W.isFn K (.ref f) = true) (kc : PySem.W.keepIn K (.ref C) = true)
    (l : K.lookup f = some ⟨oc, od, .func (PySem.W.fnOf "__init__" q (C8.fnArgs st) (C8.fnBody st) (C8.fnScope st) .none kV doc pm an cdv ct), osl⟩) (c : PySem.W.codeIn K cdv q = true)
    (hb : ∀ (kV doc pm : Value) (an : Option Addr) (cdv ct : Value) (us : List Value), us.length = ps.length → bindArgs (PySem.W.fnOf "__init__" q (C8.fnArgs st) (C8.fnBody st) (C8.fnScope st) .none kV doc pm an cdv ct) ⟨us, []⟩ = pure (ps.zip us)) : IniA K C q st ps f :=
  have F : C8.Fun K "__init__" q st f _ := ⟨⟨oc, od, _, kV, doc, pm, an, cdv, ct, osl, rfl, l, c⟩⟩
  ⟨_, ⟨mm, a, i, kc⟩, F, F.binds rfl hb⟩
theorem methA_mk (a : PySem.W.findIn K (.ref C) m = some (some (.ref f))) (i : PySem.W.isFn K (.ref f) = true)
    (l : K.lookup f = some ⟨oc, od, .func (PySem.W.fnOf m q (C8.fnArgs st) (C8.fnBody st) (C8.fnScope st) .none kV doc pm an cdv ct), osl⟩) (c : PySem.W.codeIn K cdv q = true) (k : PySem.W.keepIn K (.ref f) = true)
    (hb : ∀ (kV doc pm : Value) (an : Option Addr) (cdv ct : Value) (us : List Value), us.length = ps.length → bindArgs (PySem.W.fnOf m q (C8.fnArgs st) (C8.fnBody st) (C8.fnScope st) .none kV doc pm an cdv ct) ⟨us, []⟩ = pure (ps.zip us)) : MethA K C m q st ps f :=
  have F : C8.Fun K m q st f _ := ⟨⟨oc, od, _, kV, doc, pm, an, cdv, ct, osl, rfl, l, c⟩⟩
  ⟨_, ⟨a, i, k⟩, F, F.binds rfl hb⟩
variable {ccl cl : Value} {cdd cld : Option Addr} {vs : Array Value} {ccs csl : Array (Option Value)} {fl : Str} {tk : Tok}
theorem supD_mk (l : K.lookup f = some ⟨oc, od, .func (PySem.W.fnX m q (C8.fnArgs st) (C8.fnBody st) (C8.fnScope st) [(("__class__" : Str), cc)] .none kV doc pm an (.ref c) ct), osl⟩) (cd : PySem.W.codeIn K (.ref c) q = true)
    (lc : K.lookup c = some ⟨ccl, cdd, .fields vs, ccs⟩) (hv : vs[2]? = some (.str fl tk)) (hf : ((P.main.file : Str) == fl) = true) (lcc : K.lookup cc = some ⟨cl, cld, .cell (some (.ref D)), csl⟩) (cls : PySem.W.isClsIn K D = true)
    (glo : PySem.W.nsIn K mainGlobals "super" = some none) (top : (P.main.scope.names.lookup ("super" : Str)).isSome = false) (self : (((C8.fnArgs st).posonlyargs ++ (C8.fnArgs st).args).head?.map (·.arg)) = some ("self" : Str)) (opq : PySem.W.nsIn K cStatics "thirdparty.any" = some none)
    (ks : (C8.fnScope st).names.lookup ("super" : Str) = some .globalImplicit) (kc : (C8.fnScope st).names.lookup ("__class__" : Str) = some .free) (ka : (C8.fnScope st).names.lookup ("self" : Str) = some .local) : SupD P K D m q st f c cc (PySem.W.fnX m q (C8.fnArgs st) (C8.fnBody st) (C8.fnScope st) [(("__class__" : Str), cc)] .none kV doc pm an (.ref c) ct) :=
  ⟨⟨oc, od, an, kV, doc, pm, ct, osl, rfl, l⟩, cd, ⟨ccl, cdd, vs, ccs, fl, tk, lc, hv, hf⟩, ⟨cl, cld, csl, lcc⟩, cls, glo, top, self, opq, ks, kc, ka⟩
def CallP (K : PySem.W.Frag) (C : Addr) (q : Str) (st : Stmt) (ps : List Str) : Prop := ∃ (g : Addr) (fd : FuncData), StX.CallO K C g ∧ C8.Fun K "__call__" q st g fd ∧ L2.Binds K fd ps []
theorem callP_mk (a : PySem.W.findIn K (.ref C) "__call__" = some (some (.ref f))) (i : PySem.W.isFn K (.ref f) = true) (fi : PySem.W.fnIn K f = true)
    (l : K.lookup f = some ⟨oc, od, .func (PySem.W.fnOf "__call__" q (C8.fnArgs st) (C8.fnBody st) (C8.fnScope st) .none kV doc pm an cdv ct), osl⟩) (c : PySem.W.codeIn K cdv q = true)
    (hb : ∀ (kV doc pm : Value) (an : Option Addr) (cdv ct : Value) (us : List Value), us.length = ps.length → bindArgs (PySem.W.fnOf "__call__" q (C8.fnArgs st) (C8.fnBody st) (C8.fnScope st) .none kV doc pm an cdv ct) ⟨us, []⟩ = pure (ps.zip us)) : CallP K C q st ps :=
  have F : C8.Fun K "__call__" q st f _ := ⟨⟨oc, od, _, kV, doc, pm, an, cdv, ct, osl, rfl, l, c⟩⟩
  ⟨_, _, ⟨a, i, fi⟩, F, F.binds rfl hb⟩
theorem sup_binds (hb : ∀ (kV doc pm : Value) (an : Option Addr) (ct : Value) (us : List Value), us.length = ps.length → bindArgs (PySem.W.fnX m q (C8.fnArgs st) (C8.fnBody st) (C8.fnScope st) [(("__class__" : Str), cc)] .none kV doc pm an (.ref c) ct) ⟨us, []⟩ = pure (ps.zip us)) :
    L2.Binds K (PySem.W.fnX m q (C8.fnArgs st) (C8.fnBody st) (C8.fnScope st) [(("__class__" : Str), cc)] .none kV doc pm an (.ref c) ct) ps [] := .all fun us h => hb _ _ _ _ _ us h
end
section
variable {X : Cx} {k j : Nat} {fe e : Expr} {es : List Expr} {pos : Pos} {tf : TE} {t : TA}
/-- f(e, ..), f an expression that gives an instance of one of several classes -/
def tCallOs (X : Cx) (S : Addr → Sp → Prop) (tf : TE) (t : TA) : TE := fun σ H Q => tf σ H fun y H1 => ∃ a, y = V.ref a ∧ t σ H1 fun vs H2 => ∃ C sp, S C sp ∧ StX.InsC X H2 a C ∧ sp (V.ref a :: vs) H2 Q C8.E0
theorem pe_callOs {S : Addr → Sp → Prop} (hf : PE X fe tf) (A : ∀ C sp, S C sp → ∃ g, StX.CallO X.K C g ∧ FnR X.prog X.w X.K X.mg X.base C8.CX0 k g sp) (hr : Room j X.A) (hk : k ≤ j) (ha : PA X (e :: es) t)
    (ht : eval (.Call fe (e :: es) [] pos) X.env = (do callWith pos (← eval fe X.env) [] (backTo pos (starEach (e :: es) X.env)) (backToKw pos (keywordEach [] X.env))) := by rfl)
    (he : starEach (e :: es) X.env = (false, eval e X.env) :: starEach es X.env := by rfl) (hpl : (backTo pos (starEach es X.env)).any (·.1) = false := by rfl) : PE X (.Call fe (e :: es) [] pos) (tCallOs X S tf t) := by
  refine ⟨fun pins s σ H Q I h => ?_⟩
  refine Call_ (thn (hf.run pins s σ H _ I h) fun u s1 ⟨y, H1, I1, ry, a, ey, q⟩ => ?_) ht
  subst ey
  obtain rfl : u = Value.ref a := ry
  refine StX.callO_with (thn (ha.run pos pins s1 σ H1 _ I1 q) fun us s2 ⟨vs, H2, I2, r, C, sp, hS, hi, q2⟩ => ?_) he hpl
  obtain ⟨g, c, F⟩ := A C sp hS
  obtain ⟨ox, od, J, hd⟩ := StX.insC_at I2 hi
  exact ⟨⟨C, ox, od, J, hd⟩, StX.run_callO c F (hr.mono hk) (C8.pass0 (E := C8.E0)) I2 hi r q2⟩
end
end SupO

set_option Elab.async false
set_option maxRecDepth 100000
set_option maxHeartbeats 4000000
/-! d.setdefault(k, x), k a tuple of whole numbers and texts -/
namespace SetD
open PySem PySem.Spec PyProof.Rows L2
section
variable {X : Cx} {pins : List (Addr × Obj)} {σ : L2.St} {H : Hp} {s : Shared} {a b : Addr} {r : Value} {d : V} {k : List Key} {A : Around} {E : Value → Shared → Prop}
theorem d_setdT {kvs : List (List Key × V)} {Q : Value → Shared → Prop} (hu : A.units + 1 < cLine) (I : Inv X pins σ H s) (e : H a = some (.dT kvs)) (eb : H b = some (.tup (k.map kV))) (rd : RelV d r) (hl : kvs.length < sizeLine)
    (h1 : ∀ v, valV kvs k = some v → ∀ (w' : Value) (s' : Shared), Inv X pins σ H s' → RelV v w' → Q w' s') (h2 : valV kvs k = none → ∀ (w' : Value) (s' : Shared), Inv X pins σ (upd H a (.dT (putK kvs k d))) s' → RelV d w' → Q w' s') :
    wpAny (model X.prog X.w) A (call (.builtin "dict.setdefault") [.ref a, .ref b, r]) Q E s := by
  obtain ⟨z, hd, xs, rel, dd⟩ := dt_of I.hok e
  have hz : xs.length ≤ sizeLine := by rw [← Paired.length rel]; exact z
  refine call_setdefault_heap (knd := tupleKind (mixKind X.prog X.w)) (k := k) (tupleKind_room_in1 hu) (key_of I.hok eb) hd dd (fun p hp => ?_) (fun hn h' dd' hs => ?_) (hsz := hz)
  · have q := rel.val k
    rw [hp] at q
    cases q0 : valV kvs k with
    | none => rw [q0] at q; exact (show False from q).elim
    | some v0 => rw [q0] at q; exact h1 v0 q0 _ _ (I.tok _) q
  · have q := rel.val k
    rw [hn] at q
    cases q0 : valV kvs k with
    | some v0 => rw [q0] at q; exact (show False from q).elim
    | none =>
      have hl2 : (putK kvs k d).length ≤ sizeLine := by have := length_putK kvs k d; omega
      obtain ⟨o, es, ep, hq, g2, g3, g4, _, g5⟩ := dd'
      refine h2 q0 _ _ (d_write I (by rw [e]; exact True.intro) hs ⟨o, hq⟩ ⟨hl2, hd, _, (rel.put k eb rd).keeps fun c ys ec => ?_, o, es, ep, hq, g2, g3, g4, g5⟩) rd
      rw [upd_ne (ne_of ec e (fun z => nomatch z))]
      exact ec
end
/-- d.setdefault(y, z) -/
def tDSetdT (td ty tx : TE) : TE := fun σ H Q => td σ H fun x H1 => ∃ a, x = .ref a ∧ IsD H1 a ∧ ty σ H1 fun y H2 => tx σ H2 fun z H3 => ∃ (kvs : List (List Key × V)) (k : List Key) (b : Addr), H3 a = some (.dT kvs) ∧ y = .ref b ∧ H3 b = some (.tup (k.map kV)) ∧ kvs.length < sizeLine ∧
  (∀ v, valV kvs k = some v → Q v H3) ∧ (valV kvs k = none → Q z (upd H3 a (.dT (putK kvs k z))))
section
variable {X : Cx} {o e f : Expr} {td ty tx : TE} {apos cpos : Pos}
theorem pe_dsetdT (hu : X.A.units + 1 < cLine) (ho : PE X o td) (he : PE X e ty) (hf : PE X f tx) (m : M2 X o "setdefault" apos e f cpos) : PE X (.Call (.Attribute o "setdefault" apos) [e, f] [] cpos) (tDSetdT td ty tx) := by
  refine ⟨fun pins s σ H Q I h => ?_⟩
  refine wpAny_Call_method m.base m.few m.line PySem.F.plainAttrs_dict PySem.F.slot_dict_setdefault PySem.F.type_dict_setdefault (thn (ho.run pins s σ H _ I h) fun u s1 ⟨x, H1, I1, rx, a, ex, d, q1⟩ => ?_)
  subst ex
  obtain rfl : u = Value.ref a := rx
  obtain ⟨t1, t2, _⟩ := isD_at I1 d
  refine ⟨t1, t2, ?_⟩
  rw [m.trees]
  refine Calls.callWith_builtin rfl (Calls.evalArgs_plain (Calls.spliced_cons (thn (he.run pins s1 σ H1 _ I1 q1) fun iv s2 ⟨y, H2, I2, ry, q2⟩ =>
    Calls.spliced_cons (thn (hf.run pins s2 σ H2 _ I2 q2) fun fv s3 ⟨z, H3, I3, rz, kvs, k, b, ea, ey, eb, hl, q3, q4⟩ => Calls.spliced_nil ?_))))
  subst ey
  obtain rfl : iv = Value.ref b := ry
  exact d_setdT hu I3 ea eb rz hl (fun v hv w' s4 I4 rw' => ⟨v, _, I4, rw', q3 v hv⟩) fun hn w' s4 I4 rw' => ⟨z, _, I4, rw', q4 hn⟩
end
end SetD



set_option Elab.async false
set_option maxRecDepth 100000
set_option maxHeartbeats 4000000
namespace K44
open PySem PySem.Spec PyProof.Rows L2 C8 LamX UF

def top (i : Nat) : Stmt := PySem.Challenge.pw_livingroll_k44_answers_of_losses.main.body.getD i (.Pass ⟨0, 0, 0, 0⟩)

abbrev s_law_pool : Stmt := top 5
abbrev n_law_pool : List Str := ["script", "cell"]
theorem sc_law_pool : FnScope n_law_pool ["script"] (C8.fnScope s_law_pool) := ⟨rfl, rfl, rfl, by decide +kernel, rfl, by decide +kernel, by decide +kernel⟩

abbrev s_law_mixed : Stmt := top 6
abbrev n_law_mixed : List Str := ["cell", "count", "first", "second"]
theorem sc_law_mixed : FnScope n_law_mixed ["cell", "count"] (C8.fnScope s_law_mixed) := ⟨rfl, rfl, rfl, by decide +kernel, rfl, by decide +kernel, by decide +kernel⟩

abbrev s_law_draw : Stmt := top 7
abbrev n_law_draw : List Str := ["pool", "choices", "cells", "cell", "digit"]
theorem sc_law_draw : FnScope n_law_draw ["pool", "choices"] (C8.fnScope s_law_draw) := ⟨rfl, rfl, rfl, by decide +kernel, rfl, by decide +kernel, by decide +kernel⟩

abbrev s_law_whole : Stmt := top 8
abbrev n_law_whole : List Str := ["value"]
theorem sc_law_whole : FnScope n_law_whole ["value"] (C8.fnScope s_law_whole) := ⟨rfl, rfl, rfl, by decide +kernel, rfl, by decide +kernel, by decide +kernel⟩

abbrev s_law_digits : Stmt := top 9
abbrev n_law_digits : List Str := ["pool", "many", "digits", "place", "digit"]
theorem sc_law_digits : FnScope n_law_digits ["pool"] (C8.fnScope s_law_digits) := ⟨rfl, rfl, rfl, by decide +kernel, rfl, by decide +kernel, by decide +kernel⟩

abbrev s_law_planned : Stmt := top 10
abbrev n_law_planned : List Str := ["digits", "count", "digit"]
theorem sc_law_planned : FnScope n_law_planned ["digits", "count"] (C8.fnScope s_law_planned) := ⟨rfl, rfl, rfl, by decide +kernel, rfl, by decide +kernel, by decide +kernel⟩

abbrev s_law_fair : Stmt := top 11
abbrev n_law_fair : List Str := ["answers", "planned", "patience", "lost", "answer"]
theorem sc_law_fair : FnScope n_law_fair ["answers", "planned", "patience"] (C8.fnScope s_law_fair) := ⟨rfl, rfl, rfl, by decide +kernel, rfl, by decide +kernel, by decide +kernel⟩

abbrev s_law_equal : Stmt := top 12
abbrev n_law_equal : List Str := ["answer", "due"]
theorem sc_law_equal : FnScope n_law_equal ["answer", "due"] (C8.fnScope s_law_equal) := ⟨rfl, rfl, rfl, by decide +kernel, rfl, by decide +kernel, by decide +kernel⟩

abbrev s_law_families : Stmt := top 13
abbrev n_law_families : List Str := ["plain", "drawn", "fair"]
theorem sc_law_families : FnScope n_law_families ["plain", "drawn", "fair"] (C8.fnScope s_law_families) := ⟨rfl, rfl, rfl, by decide +kernel, rfl, by decide +kernel, by decide +kernel⟩

abbrev s_law_due : Stmt := top 14
abbrev n_law_due : List Str := ["which", "call", "rows", "patiences", "counts", "tables", "planned", "answers", "due"]
theorem sc_law_due : FnScope n_law_due ["which", "call", "rows", "patiences", "counts", "tables"] (C8.fnScope s_law_due) := ⟨rfl, rfl, rfl, by decide +kernel, rfl, by decide +kernel, by decide +kernel⟩

abbrev s_law_call : Stmt := top 15
abbrev n_law_call : List Str := ["pool", "places", "caller", "called", "kinds"]
theorem sc_law_call : FnScope n_law_call ["pool", "places"] (C8.fnScope s_law_call) := ⟨rfl, rfl, rfl, by decide +kernel, rfl, by decide +kernel, by decide +kernel⟩

abbrev s_law_steps : Stmt := top 16
abbrev n_law_steps : List Str := ["pool", "things", "rows", "patiences", "low", "middle", "places", "counts", "tables", "call", "at", "which", "due", "thing", "answer"]
theorem sc_law_steps : FnScope n_law_steps ["pool", "things", "rows", "patiences"] (C8.fnScope s_law_steps) := ⟨rfl, rfl, rfl, by decide +kernel, rfl, by decide +kernel, by decide +kernel⟩

abbrev s_law : Stmt := top 17
abbrev n_law : List Str := ["script", "pool", "first", "second", "one", "two", "rows", "kept", "lent", "things", "thing", "fresh", "due"]
theorem sc_law : FnScope n_law ["script"] (C8.fnScope s_law) := ⟨rfl, rfl, rfl, by decide +kernel, rfl, by decide +kernel, by decide +kernel⟩

abbrev s_Losses__init : Stmt := inClass (top 1) 0
abbrev n_Losses__init : List Str := ["self"]
theorem sc_Losses__init : FnScope n_Losses__init ["self"] (C8.fnScope s_Losses__init) := ⟨rfl, rfl, rfl, by decide +kernel, rfl, by decide +kernel, by decide +kernel⟩

abbrev s_Losses__call : Stmt := inClass (top 1) 1
abbrev n_Losses__call : List Str := ["self", "caller", "called", "kind"]
theorem sc_Losses__call : FnScope n_Losses__call ["self", "caller", "called", "kind"] (C8.fnScope s_Losses__call) := ⟨rfl, rfl, rfl, by decide +kernel, rfl, by decide +kernel, by decide +kernel⟩

abbrev s_DrawnLosses__init : Stmt := inClass (top 2) 0
abbrev n_DrawnLosses__init : List Str := ["self", "digits", "__class__"]
theorem sc_DrawnLosses__init : NdefX.NScope n_DrawnLosses__init ["self", "digits"] ["__class__"] (C8.fnScope s_DrawnLosses__init) := NdefX.nscope_by (by decide +kernel)

abbrev s_DrawnLosses__call : Stmt := inClass (top 2) 1
abbrev n_DrawnLosses__call : List Str := ["self", "caller", "called", "kind"]
theorem sc_DrawnLosses__call : FnScope n_DrawnLosses__call ["self", "caller", "called", "kind"] (C8.fnScope s_DrawnLosses__call) := ⟨rfl, rfl, rfl, by decide +kernel, rfl, by decide +kernel, by decide +kernel⟩

abbrev s_DrawnLosses_drawn : Stmt := inClass (top 2) 2
abbrev n_DrawnLosses_drawn : List Str := ["self", "digit"]
theorem sc_DrawnLosses_drawn : FnScope n_DrawnLosses_drawn ["self"] (C8.fnScope s_DrawnLosses_drawn) := ⟨rfl, rfl, rfl, by decide +kernel, rfl, by decide +kernel, by decide +kernel⟩

abbrev s_FairLosses__init : Stmt := inClass (top 3) 0
abbrev n_FairLosses__init : List Str := ["self", "digits", "patience", "__class__"]
theorem sc_FairLosses__init : NdefX.NScope n_FairLosses__init ["self", "digits", "patience"] ["__class__"] (C8.fnScope s_FairLosses__init) := NdefX.nscope_by (by decide +kernel)

abbrev s_FairLosses__call : Stmt := inClass (top 3) 1
abbrev n_FairLosses__call : List Str := ["self", "caller", "called", "kind", "call", "lost", "failed"]
theorem sc_FairLosses__call : FnScope n_FairLosses__call ["self", "caller", "called", "kind"] (C8.fnScope s_FairLosses__call) := ⟨rfl, rfl, rfl, by decide +kernel, rfl, by decide +kernel, by decide +kernel⟩

structure T_Losses (P : Program) (K : PySem.W.Frag) (mg : Str → Option Value) (C_Losses f_Losses_init : Addr) : Prop where
  cl : Cls K C_Losses
  mgC : mg "Losses" = some (.ref C_Losses)
  n_asked : NoAttr K C_Losses "asked"
  ini : SupO.IniA K C_Losses "Losses.__init__" s_Losses__init ["self"] f_Losses_init
  call : SupO.CallP K C_Losses "Losses.__call__" s_Losses__call ["self", "caller", "called", "kind"]
  oc : PySem.W.findIn K (.ref C_Losses) "__class__" = some (some (.builtin "object.__class__"))
  mo : PySem.W.mroIn K C_Losses (.type "object") = some true

structure T_DrawnLosses (P : Program) (K : PySem.W.Frag) (mg : Str → Option Value) (C_DrawnLosses f_Losses_init f_DrawnLosses_init : Addr) : Prop where
  cl : Cls K C_DrawnLosses
  mgC : mg "DrawnLosses" = some (.ref C_DrawnLosses)
  n_digits : NoAttr K C_DrawnLosses "_digits"
  n_asked : NoAttr K C_DrawnLosses "asked"
  ini : SupO.IniS P K C_DrawnLosses C_DrawnLosses "DrawnLosses.__init__" s_DrawnLosses__init ["self", "digits"] f_DrawnLosses_init
  call : SupO.CallP K C_DrawnLosses "DrawnLosses.__call__" s_DrawnLosses__call ["self", "caller", "called", "kind"]
  m_drawn : MethP K C_DrawnLosses "_drawn" "DrawnLosses._drawn" s_DrawnLosses_drawn ["self"]
  u_DrawnLosses_init : SupO.SupT K C_DrawnLosses C_DrawnLosses "__init__" f_Losses_init
  oc : PySem.W.findIn K (.ref C_DrawnLosses) "__class__" = some (some (.builtin "object.__class__"))
  mo : PySem.W.mroIn K C_DrawnLosses (.type "object") = some true

structure T_FairLosses (P : Program) (K : PySem.W.Frag) (mg : Str → Option Value) (C_DrawnLosses C_FairLosses f_Losses_init f_DrawnLosses_init f_FairLosses_init : Addr) : Prop where
  cl : Cls K C_FairLosses
  mgC : mg "FairLosses" = some (.ref C_FairLosses)
  n_patience : NoAttr K C_FairLosses "_patience"
  n_failed : NoAttr K C_FairLosses "_failed"
  n_digits : NoAttr K C_FairLosses "_digits"
  n_asked : NoAttr K C_FairLosses "asked"
  ini : SupO.IniS P K C_FairLosses C_FairLosses "FairLosses.__init__" s_FairLosses__init ["self", "digits", "patience"] f_FairLosses_init
  call : SupO.CallP K C_FairLosses "FairLosses.__call__" s_FairLosses__call ["self", "caller", "called", "kind"]
  m_drawn : MethP K C_FairLosses "_drawn" "DrawnLosses._drawn" s_DrawnLosses_drawn ["self"]
  u_FairLosses_init : SupO.SupT K C_FairLosses C_FairLosses "__init__" f_DrawnLosses_init
  u_DrawnLosses_init : SupO.SupT K C_FairLosses C_DrawnLosses "__init__" f_Losses_init
  oc : PySem.W.findIn K (.ref C_FairLosses) "__class__" = some (some (.builtin "object.__class__"))
  mo : PySem.W.mroIn K C_FairLosses (.type "object") = some true

structure Ds (P : Program) (K : PySem.W.Frag) (mg : Str → Option Value) (C_Losses C_DrawnLosses C_FairLosses f_Losses_init f_DrawnLosses_init f_FairLosses_init : Addr) : Prop where
  d_law_pool : D0 K mg "_law_pool" s_law_pool ["script"]
  d_law_mixed : D0 K mg "_law_mixed" s_law_mixed ["cell", "count"]
  d_law_draw : D0 K mg "_law_draw" s_law_draw ["pool", "choices"]
  d_law_whole : D0 K mg "_law_whole" s_law_whole ["value"]
  d_law_digits : D0 K mg "_law_digits" s_law_digits ["pool"]
  d_law_planned : D0 K mg "_law_planned" s_law_planned ["digits", "count"]
  d_law_fair : D0 K mg "_law_fair" s_law_fair ["answers", "planned", "patience"]
  d_law_equal : D0 K mg "_law_equal" s_law_equal ["answer", "due"]
  d_law_families : D0 K mg "_law_families" s_law_families ["plain", "drawn", "fair"]
  d_law_due : D0 K mg "_law_due" s_law_due ["which", "call", "rows", "patiences", "counts", "tables"]
  d_law_call : D0 K mg "_law_call" s_law_call ["pool", "places"]
  d_law_steps : D0 K mg "_law_steps" s_law_steps ["pool", "things", "rows", "patiences"]
  ocg : PySem.W.specialIn K (.builtin "object.__class__") "__get__" = some (some (.builtin "getset_descriptor.__get__"))
  oct : PySem.W.takesIn K (.builtin "object.__class__") = some true
  is_Losses_Losses : PySem.W.kitOne K (.ref C_Losses) (.ref C_Losses) = some true
  is_Losses_DrawnLosses : PySem.W.kitOne K (.ref C_Losses) (.ref C_DrawnLosses) = some false
  is_Losses_FairLosses : PySem.W.kitOne K (.ref C_Losses) (.ref C_FairLosses) = some false
  t_Losses : T_Losses P K mg C_Losses f_Losses_init
  is_DrawnLosses_Losses : PySem.W.kitOne K (.ref C_DrawnLosses) (.ref C_Losses) = some true
  is_DrawnLosses_DrawnLosses : PySem.W.kitOne K (.ref C_DrawnLosses) (.ref C_DrawnLosses) = some true
  is_DrawnLosses_FairLosses : PySem.W.kitOne K (.ref C_DrawnLosses) (.ref C_FairLosses) = some false
  t_DrawnLosses : T_DrawnLosses P K mg C_DrawnLosses f_Losses_init f_DrawnLosses_init
  is_FairLosses_Losses : PySem.W.kitOne K (.ref C_FairLosses) (.ref C_Losses) = some true
  is_FairLosses_DrawnLosses : PySem.W.kitOne K (.ref C_FairLosses) (.ref C_DrawnLosses) = some true
  is_FairLosses_FairLosses : PySem.W.kitOne K (.ref C_FairLosses) (.ref C_FairLosses) = some true
  t_FairLosses : T_FairLosses P K mg C_DrawnLosses C_FairLosses f_Losses_init f_DrawnLosses_init f_FairLosses_init
end K44

set_option Elab.async false
set_option maxRecDepth 100000
set_option maxHeartbeats 4000000
set_option exponentiation.threshold 4096
set_option linter.unusedVariables false
/-! a pool of draws, digits, what is planned, what is fair -/
namespace K44
open PySem PySem.Spec PyProof.Rows L2 C8 LamX UF
structure PlV (H : Hp) (b c : Addr) (cells : List Int) (u y z : Int) : Prop where
  hb : H b = some (.lst [.ref c, .int u, .int y, .int z])
  hc : H c = some (.lst (cells.map V.int))
  u0 : 0 ≤ u
def Pool (H : Hp) (b c : Addr) : Prop := ∃ (cells : List Int) (u y z : Int), PlV H b c cells u y z
theorem PlV.ne {H : Hp} {b c : Addr} {cells : List Int} {u y z : Int} (B : PlV H b c cells u y z) : c ≠ b := by
  intro e
  have h := B.hc
  rw [e, B.hb] at h
  injection h with h
  injection h with h
  cases cells with
  | nil => cases h
  | cons a l => injection h with h1 h2; cases h1
theorem PlV.set {H : Hp} {b c : Addr} {cells : List Int} {u y z : Int} (B : PlV H b c cells u y z) (u' y' z' : Int) (h : 0 ≤ u') : PlV (upd H b (.lst [.ref c, .int u', .int y', .int z'])) b c cells u' y' z' :=
  ⟨upd_same, by rw [upd_ne B.ne]; exact B.hc, h⟩
theorem Pool.fr {H H' : Hp} {b c : Addr} {ds : List Addr} (B : Pool H b c) (x : Fr ds H H') (m : b ∉ ds) (n : c ∉ ds) : Pool H' b c := by
  obtain ⟨cells, u, y, z, B⟩ := B
  exact ⟨cells, u, y, z, x.lst B.hb m, x.lst B.hc n, B.u0⟩
theorem Pool.fr0 {H H' : Hp} {b c : Addr} (B : Pool H b c) (X : Fr [] H H') : Pool H' b c := B.fr X not_nil not_nil
def oV : Option Int → V
  | none => .non
  | some i => .int i
def planF (ds : List Int) (n : Nat) : Option Int := if ds = [] then none else if ds.getD (n % ds.length) 0 = 0 then none else some (ds.getD (n % ds.length) 0 - 1)
def trailR : List (Option Int) → Nat
  | [] => 0
  | none :: _ => 0
  | some _ :: r => trailR r + 1
def trail (l : List (Option Int)) : Nat := trailR l.reverse
theorem trail_snoc (l : List (Option Int)) (x : Option Int) : trail (l ++ [x]) = match x with | none => 0 | some _ => trail l + 1 := by
  unfold trail
  rw [List.reverse_append]
  cases x <;> rfl
def cnt (l : List (Option Int)) : Nat := (l.filter Option.isSome).length
theorem cnt_le (l : List (Option Int)) : cnt l ≤ l.length := List.length_filter_le _ _
theorem cnt_rev (l : List (Option Int)) : cnt l.reverse = cnt l := by unfold cnt; rw [List.filter_reverse, List.length_reverse]
theorem cntR : ∀ (r : List (Option Int)) (m : Nat), cnt (r.take m) = m ↔ m ≤ trailR r
  | r, 0 => by simp [cnt]
  | [], m + 1 => by simp [cnt, trailR]
  | none :: r, m + 1 => by
    rw [List.take_succ_cons]
    have e : cnt (none :: r.take m) = cnt (r.take m) := rfl
    have l := cnt_le (r.take m)
    have l2 : (r.take m).length ≤ m := by rw [List.length_take]; omega
    rw [e]
    constructor
    · intro h; omega
    · intro h
      have h : m + 1 ≤ 0 := h
      omega
  | some i :: r, m + 1 => by
    rw [List.take_succ_cons]
    have e : cnt (some i :: r.take m) = cnt (r.take m) + 1 := rfl
    have ih := cntR r m
    rw [e]
    show _ ↔ m + 1 ≤ trailR r + 1
    omega
theorem cnt_last (l : List (Option Int)) (m : Nat) : cnt (l.drop (l.length - m)) = m ↔ m ≤ trail l := by
  rw [← cnt_rev, List.reverse_drop]
  by_cases h : m ≤ l.length
  · rw [show l.length - (l.length - m) = m by omega]
    exact cntR _ _
  · have e := cntR l.reverse m
    rw [List.take_of_length_le (by rw [List.length_reverse]; omega)] at e
    rw [List.take_of_length_le (by rw [List.length_reverse]; omega)]
    exact e
def fairF (as : List (Option Int)) (pl : Option Int) (p : Nat) : Option Int := if p - 1 ≤ trail as then none else pl
def spPool (K : PySem.W.Frag) : Sp := fun vs H Q _ => ∃ (a : Addr) (ns : List Int), vs = [.ref a] ∧ SqL K H a (ns.map V.int) ∧ ns.length ≤ 63 ∧ ∀ (b c : Addr) (H' : Hp), Nw H b → Nw H c → Pool H' b c → Fr [] H H' → Q (.ref b) H'
def spMixed : Sp := fun vs H Q _ => ∃ x y : Int, vs = [.int x, .int y] ∧ ∀ z : Int, Q (.int z) H
def spDraw : Sp := fun vs H Q _ => ∃ (b c : Addr) (m : Int), vs = [.ref b, .int m] ∧ Pool H b c ∧ 0 < m ∧ m < 2 ^ 2000 ∧ ∀ (d : Int) (H' : Hp), 0 ≤ d → d < m → Pool H' b c → Fr [b] H H' → Q (.int d) H'
def spWhole : Sp := fun vs H Q _ => ∃ n : Int, vs = [.int n] ∧ Q (.bl true) H
def spDigits : Sp := fun vs H Q _ => ∃ b c : Addr, vs = [.ref b] ∧ Pool H b c ∧ ∀ (q : Addr) (ds : List Int) (H' : Hp), Nw H q → H' q = some (.lst (ds.map V.int)) → ds.length ≤ 49 → (∀ d ∈ ds, 0 ≤ d) → Pool H' b c → Fr [b] H H' → Q (.ref q) H'
def spPlanned : Sp := fun vs H Q _ => ∃ (q : Addr) (ds : List Int) (n : Nat), vs = [.ref q, .int (n : Int)] ∧ H q = some (.lst (ds.map V.int)) ∧ ds.length ≤ 49 ∧ ∀ H' : Hp, Fr [] H H' → Q (oV (planF ds n)) H'
def spFair : Sp := fun vs H Q _ => ∃ (q : Addr) (as : List (Option Int)) (pl : Option Int) (p : Nat), vs = [.ref q, oV pl, .int (p : Int)] ∧ H q = some (.lst (as.map oV)) ∧ as.length ≤ 1000 ∧ 1 ≤ p ∧ ∀ H' : Hp, Fr [] H H' → Q (oV (fairF as pl p)) H'
def spEqual : Sp := fun vs H Q _ => ∃ o : Option Int, vs = [oV o, oV o] ∧ Q (.bl true) H
section
variable {P : Program} {w : World} {K : PySem.W.Frag} {mg : Str → Option Value} {base : Heap}
theorem c_law_pool (T : Bl mg) (d : D0 K mg "_law_pool" s_law_pool ["script"]) : Cal P w K mg base 1 "_law_pool" (spPool K) [] := by
  refine cal d sc_law_pool (fun vs H Q E h => ?_) (fun cdv A outer f s0 H vs Q E hr h => ?_)
  · obtain ⟨a, ns, rfl, _⟩ := h
    rfl
  · obtain ⟨a, ns, rfl, hs, hl, k⟩ := h
    refine ⟨_, (pss_one (ps_ret (pe_lst (pa_cons (pe_lc (own := [("cell", 1)]) (g := gName 1) (tt := tYes) (by rfl) sc_law_pool.nd (pi_list (pe_slice sl_list (pv 0) po_none (po_some pe_int))) (blkOk_by (own := [("cell", 1)]) (N := n_law_pool) (sc := C8.fnScope s_law_pool) (by decide +kernel)) (fun _ _ _ _ _ => pg_name (i := 1) sc_law_pool.nd rfl (Or.inl rfl)) (fun _ _ _ _ _ => pts_nil) (fun _ _ _ _ _ => (pe_callB call_abs (by rfl) T.abs (by decide +kernel) (pa_cons (pe_callTy call_int1 (by rfl) T.int (by decide +kernel) (pa_cons (pv 1) pa_nil)) pa_nil)))) (pa_cons pe_int (pa_cons pe_int (pa_cons pe_int pa_nil))))))), ?_⟩
    obtain ⟨ms, em, lm⟩ := cut_map ns none (some 63)
    refine ⟨_, rfl, _, rfl, _, _, rfl, hs, fun p np => ?_⟩
    rw [em]
    have X1 : Fr [] H (upd H p (.lst (ms.map V.int))) := Fr.new0 np _
    have hp1 : upd H p (.lst (ms.map V.int)) p = some (.lst (ms.map V.int)) := upd_same
    generalize upd H p (.lst (ms.map V.int)) = H1 at X1 hp1
    refine ⟨p, rfl, ⟨_, SqL.of hp1⟩, fun D nD => ?_⟩
    refine lc_list (xs := ms.map V.int) (fun j H' => Fr [] H1 H' ∧ ∃ xs : List Int, xs.length = j ∧ H' D = some (.lst (xs.map V.int))) ⟨Fr.new0 nD _, [], rfl, upd_same⟩ (fun j H' _ pv => SqL.of (pv.1.lst hp1 not_nil)) (fun j v H2 hv pv => ?_) (fun H2 pv => ?_)
    · obtain ⟨X2, xs, lx, hD⟩ := pv
      obtain ⟨n, en, rfl⟩ := map_getE hv
      have jl := (List.getElem?_eq_some_iff.mp en).1
      refine ⟨rfl, _, rfl, .inl ⟨_, rfl, ?_⟩⟩
      exact ⟨_, rfl, _, hD, by rw [List.length_map]; exact small1000' (by omega), X2.late (.of nD) (.lst hD) _, xs ++ [_], by rw [List.length_append, lx]; rfl, by rw [upd_same, List.map_append]; rfl⟩
    · obtain ⟨X2, xs, lx, hD⟩ := pv
      have X02 := X1.trans X2
      refine ⟨by show 4 ≤ sizeLine; decide, fun b nb => ?_⟩
      exact k b D _ (X02.live b (.of nb)) (X1.live D (.of nD)) ⟨xs, 0, 0, 0, upd_same, upd_new nb hD, Int.le_refl _⟩ (X02.new nb _)
theorem c_law_mixed (T : Bl mg) (d : D0 K mg "_law_mixed" s_law_mixed ["cell", "count"]) : Cal P w K mg base 1 "_law_mixed" spMixed [] := by
  refine cal d sc_law_mixed (fun vs H Q E h => ?_) (fun cdv A outer f s0 H vs Q E hr h => ?_)
  · obtain ⟨x, y, rfl, _⟩ := h
    rfl
  · obtain ⟨x, y, rfl, k⟩ := h
    refine ⟨_, (pss_cons (ps_set (i := 2) sc_law_mixed.nd rfl (Or.inl rfl) (pe_op op_mod (pe_callTy call_int1 (by rfl) T.int (by decide +kernel) (pa_cons (pe_op op_add (pe_op op_add (pe_op op_mul (pv 0) pe_int) (pe_op op_mul (pv 1) pe_int)) pe_int) pa_nil)) pe_int))
      (pss_cons (ps_set (i := 3) sc_law_mixed.nd rfl (Or.inl rfl) (pe_op op_mod (pe_callTy call_int1 (by rfl) T.int (by decide +kernel) (pa_cons (pe_op op_add (pe_op op_mul (pe_op op_add (pe_op op_fdivW (pv 2) pe_int) pe_int) (pe_op op_add (pe_op op_add (pe_op op_fdivW (pv 2) pe_int) (pv 1)) pe_int)) (pe_op op_mul (pv 2) pe_int)) pa_nil)) pe_int))
      (pss_one (ps_ret (pe_op op_fdivW (pv 3) pe_int))))), ?_⟩
    refine ⟨_, rfl, _, _, rfl, rfl, .inr ⟨by decide, by decide⟩, _, rfl, _, _, rfl, rfl, .inr ⟨by decide, by decide⟩, _, _, rfl, rfl, _, _, rfl, rfl, .inl ⟨_, rfl, _, _, rfl, rfl, pm (by decide), ?_⟩⟩
    have f0 := Int.emod_nonneg (x * 48271 + y * 69621 + 12347) (show (2147483647 : Int) ≠ 0 by decide)
    have f1 := Int.emod_lt_of_pos (x * 48271 + y * 69621 + 12347) (show (0 : Int) < 2147483647 by decide)
    generalize (x * 48271 + y * 69621 + 12347) % 2147483647 = z at f0 f1
    refine ⟨_, rfl, _, _, rfl, rfl, dvw (by decide) (by decide +kernel) _, _, _, rfl, rfl, _, rfl, _, _, rfl, rfl, dvw (by decide) (by decide +kernel) _, _, rfl, _, _, rfl, rfl, _, _, rfl, rfl, _, _, rfl, rfl, .inl ⟨by omega, by omega⟩, ?_⟩
    refine ⟨_, rfl, _, _, rfl, rfl, .inr ⟨by decide, by decide⟩, _, _, rfl, rfl, .inl ⟨_, rfl, _, _, rfl, rfl, pm (by decide), ?_⟩⟩
    exact ⟨_, rfl, _, _, rfl, rfl, dvw (by decide) (by decide +kernel) _, k _⟩
theorem c_law_draw (T : Bl mg) (c_law_mixed : Cal P w K mg base 1 "_law_mixed" spMixed []) (d : D0 K mg "_law_draw" s_law_draw ["pool", "choices"]) : Cal P w K mg base 2 "_law_draw" spDraw [] := by
  refine cal d sc_law_draw (fun vs H Q E h => ?_) (fun cdv A outer f s0 H vs Q E hr h => ?_)
  · obtain ⟨b, c, m, rfl, _⟩ := h
    rfl
  · obtain ⟨b, c, m, rfl, ⟨cells, u, y, z, B⟩, m0, m1, k⟩ := h
    refine ⟨_, (pss_cons (ps_set (i := 2) sc_law_draw.nd rfl (Or.inl rfl) (pe_ix ix_list (pv 0) pe_int (fun _ _ => rfl)))
      (pss_cons (ps_if (pt_cmpR (op_eqD hr.units) (pv 2) (pe_lst pa_nil) (nomark _)) (pss_one (ps_ret pe_int)) pss_nil)
      (pss_cons (ps_asg (pe_op op_add (pe_ix ix_list (pv 0) pe_int (fun _ _ => rfl)) pe_int) (pg_sub (pv 0) pe_int set_list))
      (pss_cut (ps_if (PW.pt (pw_and (pt_cmpR op_eq (pe_ix ix_list (pv 0) pe_int (fun _ _ => rfl)) pe_int (nomark _)) (pw_and1 (pt_cmpR op_lt (pe_ix ix_list (pv 0) pe_int (fun _ _ => rfl)) (pe_callB call_len_seq (by rfl) T.len (by decide +kernel) (pa_cons (pv 2) pa_nil)) (nomark _))))) (pss_cons (ps_set (i := 3) sc_law_draw.nd rfl (Or.inl rfl) (pe_ix ix_list (pv 2) (pe_ix ix_list (pv 0) pe_int (fun _ _ => rfl)) (fun _ _ => rfl)))
      (pss_cons (ps_asg (pe_op op_add (pe_ix ix_list (pv 0) pe_int (fun _ _ => rfl)) pe_int) (pg_sub (pv 0) pe_int set_list))
      (pss_cons (ps_if (pt_cmpR op_lt (pv 3) (pe_op op_pow pe_int pe_int) (nomark _)) (pss_one (ps_ret (pe_op op_mod (pe_callTy call_int1 (by rfl) T.int (by decide +kernel) (pa_cons (pe_c c_law_mixed hr (by decide) rfl (pa_cons (pv 3) (pa_cons (pe_ix ix_list (pv 0) pe_int (fun _ _ => rfl)) pa_nil))) pa_nil)) (pv 1)))) pss_nil)
      (pss_one (ps_asg (pv 3) (pg_sub (pv 0) pe_int set_list)))))) pss_nil)
      (pss_cons (ps_if (pt_cmpR op_gt (pe_ix ix_list (pv 0) pe_int (fun _ _ => rfl)) pe_int (nomark _)) (pss_cons (ps_set (i := 4) sc_law_draw.nd rfl (Or.inl rfl) (pe_op op_mod (pe_callTy call_int1 (by rfl) T.int (by decide +kernel) (pa_cons (pe_ix ix_list (pv 0) pe_int (fun _ _ => rfl)) pa_nil)) (pv 1)))
      (pss_cons (ps_asg (pe_op op_fdivW (pe_ix ix_list (pv 0) pe_int (fun _ _ => rfl)) (pv 1)) (pg_sub (pv 0) pe_int set_list))
      (pss_one (ps_ret (pv 4))))) pss_nil)
      (pss_cons (ps_set (i := 3) sc_law_draw.nd rfl (Or.inl rfl) (pe_ix ix_list (pv 2) (pe_op op_mod (pe_callTy call_int1 (by rfl) T.int (by decide +kernel) (pa_cons (pe_ix ix_list (pv 0) pe_int (fun _ _ => rfl)) pa_nil)) (pe_callB call_len_seq (by rfl) T.len (by decide +kernel) (pa_cons (pv 2) pa_nil))) (fun _ _ => rfl)))
      (pss_one (ps_ret (pe_op op_mod (pe_callTy call_int1 (by rfl) T.int (by decide +kernel) (pa_cons (pe_c c_law_mixed hr (by decide) rfl (pa_cons (pv 3) (pa_cons (pe_ix ix_list (pv 0) pe_int (fun _ _ => rfl)) pa_nil))) pa_nil)) (pv 1)))))))))), ?_⟩
    refine ⟨_, rfl, _, _, _, _, rfl, rfl, SqL.of B.hb, rfl, ?_⟩
    refine ⟨_, rfl, by show 0 ≤ sizeLine; decide, fun q nq => ?_⟩
    have X0 : Fr [] H (upd H q (.lst [])) := Fr.new0 nq _
    have hq : upd H q (.lst []) q = some (.lst (([] : List Int).map V.int)) := upd_same
    generalize upd H q (.lst []) = H0 at X0 hq
    have hb0 := X0.lst B.hb not_nil
    have hc0 := X0.lst B.hc not_nil
    have B0 : PlV H0 b c cells u y z := ⟨hb0, hc0, B.u0⟩
    have X0 : Fr [b] H H0 := X0.mono fun a m => nomatch m
    refine ⟨_, _, dpList (SqL.of hc0), dpList (SqL.of hq), shaped_list _, shaped_list _, ?_⟩
    rw [eqv_ints]
    by_cases e0 : cells = []
    · rw [decide_eq_true e0]
      exact ⟨_, rfl, iteT (k 0 H0 (by decide) m0 ⟨_, _, _, _, B0⟩ X0)⟩
    rw [decide_eq_false e0]
    have l0 : 0 < cells.length := List.length_pos_iff.mpr e0
    refine ⟨_, rfl, iteF ?_⟩
    refine ⟨_, rfl, _, _, _, _, rfl, rfl, SqL.of B0.hb, rfl, _, _, rfl, rfl, _, rfl, _, _, _, 3, rfl, rfl, B0.hb, rfl, ?_⟩
    have B1 := B0.set u y (z + 1) B0.u0
    have X1 := X0.upd (.head _) (.lst B0.hb) (.lst [.ref c, .int u, .int y, .int (z + 1)])
    change PlV (upd H0 b (.lst [.ref c, .int u, .int y, .int (z + 1)])) b c cells u y (z + 1) at B1
    change Fr [b] H (upd H0 b (.lst [.ref c, .int u, .int y, .int (z + 1)])) at X1
    refine ⟨fun σ H' => Fr [b] H H' ∧ ∃ (u y z : Int) (v3 v4 : Option V), PlV H' b c cells u y z ∧ σ = [some (.ref b), some (.int m), some (.ref c), v3, v4], ?_, ?_⟩
    · refine ⟨_, rfl, _, _, _, _, rfl, rfl, SqL.of B1.hb, rfl, rfl, _, rfl, ite2 (fun _ => ?_) (fun _ => iteF ⟨X1, _, _, _, _, _, B1, rfl⟩)⟩
      refine ⟨_, rfl, _, _, _, _, rfl, rfl, SqL.of B1.hb, rfl, _, rfl, _, _, rfl, .inl (SqL.of B1.hc), _, _, rfl, rfl, _, rfl, ite2 (fun lt => ?_) (fun _ => ⟨X1, _, _, _, _, _, B1, rfl⟩)⟩
      have lt : u < ((cells.map V.int).length : Int) := of_decide_eq_true lt
      rw [List.length_map] at lt
      obtain ⟨cell, hcell, _⟩ := int_at B.u0 lt
      refine ⟨_, rfl, _, rfl, _, _, _, _, rfl, rfl, SqL.of B1.hb, rfl, _, _, _, _, rfl, rfl, SqL.of B1.hc, hcell, ?_⟩
      refine ⟨_, rfl, _, _, _, _, rfl, rfl, SqL.of B1.hb, rfl, _, _, rfl, rfl, _, rfl, _, _, _, 1, rfl, rfl, B1.hb, rfl, ?_⟩
      have B2 := B1.set (u + 1) y (z + 1) (by have := B.u0; omega)
      have X2 := X1.upd (.head _) (.lst B1.hb) (.lst [.ref c, .int (u + 1), .int y, .int (z + 1)])
      refine ⟨_, rfl, _, _, rfl, rfl, ⟨by decide, by decide, by decide⟩, _, _, rfl, rfl, _, rfl, ite2 (fun _ => ?_) (fun _ => ?_)⟩
      · refine ⟨_, rfl, _, rfl, _, _, _, _, rfl, rfl, SqL.of B2.hb, rfl, _, _, rfl, fun n => .inl ⟨_, rfl, _, rfl, _, _, rfl, rfl, pm m0, ?_⟩⟩
        exact k _ _ (Int.emod_nonneg _ (by omega)) (Int.emod_lt_of_pos _ m0) ⟨_, _, _, _, B2⟩ X2
      · refine ⟨_, rfl, _, rfl, _, _, _, 2, rfl, rfl, B2.hb, rfl, ?_⟩
        exact ⟨X2.upd (.head _) (.lst B2.hb) _, _, _, _, _, _, B2.set (u + 1) _ (z + 1) B2.u0, rfl⟩
    · rintro σ H2 ⟨X2, u, y, z, v3, v4, B2, rfl⟩
      refine ⟨_, rfl, _, _, _, _, rfl, rfl, SqL.of B2.hb, rfl, _, _, rfl, rfl, _, rfl, ite2 (fun _ => ?_) (fun _ => ?_)⟩
      · refine ⟨_, rfl, _, _, _, _, rfl, rfl, SqL.of B2.hb, rfl, .inl ⟨_, rfl, _, rfl, _, _, rfl, rfl, pm m0, ?_⟩⟩
        refine ⟨_, rfl, _, _, _, _, rfl, rfl, SqL.of B2.hb, rfl, _, rfl, _, _, rfl, rfl, dvw m0 m1 _, _, rfl, _, _, _, 2, rfl, rfl, B2.hb, rfl, _, rfl, ?_⟩
        exact k _ _ (Int.emod_nonneg _ (by omega)) (Int.emod_lt_of_pos _ m0) ⟨_, _, _, _, B2.set u _ z B2.u0⟩ (X2.upd (.head _) (.lst B2.hb) _)
      · have e1 : 0 ≤ z % ((cells.map V.int).length : Int) := Int.emod_nonneg _ (by rw [List.length_map]; omega)
        have e2 : z % ((cells.map V.int).length : Int) < ((cells.map V.int).length : Int) := Int.emod_lt_of_pos _ (by rw [List.length_map]; omega)
        obtain ⟨cell, hcell, _⟩ := int_at (xs := cells) e1 (by rw [List.length_map] at e2 ⊢; exact e2)
        refine ⟨_, rfl, _, rfl, _, _, _, _, rfl, rfl, SqL.of B2.hb, rfl, .inl ⟨_, rfl, _, rfl, _, _, rfl, .inl (SqL.of B2.hc), _, _, rfl, rfl, pm (by rw [List.length_map]; omega), _, _, _, _, rfl, rfl, SqL.of B2.hc, hcell, ?_⟩⟩
        refine ⟨_, rfl, _, rfl, _, _, _, _, rfl, rfl, SqL.of B2.hb, rfl, _, _, rfl, fun n => .inl ⟨_, rfl, _, rfl, _, _, rfl, rfl, pm m0, ?_⟩⟩
        exact k _ _ (Int.emod_nonneg _ (by omega)) (Int.emod_lt_of_pos _ m0) ⟨_, _, _, _, B2⟩ X2
theorem c_law_whole (T : Bl mg) (d : D0 K mg "_law_whole" s_law_whole ["value"]) : Cal P w K mg base 1 "_law_whole" spWhole [] := by
  refine cal d sc_law_whole (fun vs H Q E h => ?_) (fun cdv A outer f s H vs Q E hr h => ?_)
  · obtain ⟨n, rfl, _⟩ := h
    rfl
  · obtain ⟨n, rfl, k⟩ := h
    refine ⟨_, (pss_one (ps_ret (pe_and (pe_callB call_isi (by rfl) T.isinstance (by decide +kernel) (pa_cons (pv 0) (pa_cons (pe_bltn (v := .ty "int") (by rfl) T.int (by decide +kernel) rfl) pa_nil))) (pe_one (pe_not (pe_callB call_isi (by rfl) T.isinstance (by decide +kernel) (pa_cons (pv 0) (pa_cons (pe_bltn (v := .ty "bool") (by rfl) T.bool (by decide +kernel) rfl) pa_nil)))))))), ?_⟩
    refine ⟨_, rfl, _, _, _, _, true, rfl, .ty _, .base (.int _), kit_ty (by decide +kernel), _, rfl, iteT ?_⟩
    exact ⟨_, rfl, _, _, _, _, false, rfl, .ty _, .base (.int _), kit_ty (by decide +kernel), _, rfl, k⟩
theorem c_law_digits (T : Bl mg) (c_law_draw : Cal P w K mg base 2 "_law_draw" spDraw []) (d : D0 K mg "_law_digits" s_law_digits ["pool"]) : Cal P w K mg base 3 "_law_digits" spDigits [] := by
  refine cal d sc_law_digits (fun vs H Q E h => ?_) (fun cdv A outer f s0 H vs Q E hr h => ?_)
  · obtain ⟨b, c, rfl, _⟩ := h
    rfl
  · obtain ⟨b, c, rfl, B, k⟩ := h
    refine ⟨_, (pss_cons (ps_set (i := 1) sc_law_digits.nd rfl (Or.inl rfl) (pe_c c_law_draw hr (by decide) rfl (pa_cons (pv 0) (pa_cons pe_int pa_nil))))
      (pss_cut (ps_if (pt_cmpR op_eq (pe_c c_law_draw hr (by decide) rfl (pa_cons (pv 0) (pa_cons pe_int pa_nil))) pe_int (nomark _)) (pss_one (ps_set (i := 1) sc_law_digits.nd rfl (Or.inl rfl) (pe_op op_add pe_int (pe_c c_law_draw hr (by decide) rfl (pa_cons (pv 0) (pa_cons pe_int pa_nil)))))) pss_nil)
      (pss_cons (ps_set (i := 2) sc_law_digits.nd rfl (Or.inl rfl) (pe_lst pa_nil))
      (pss_cons (ps_for PassesOwn.never rfl (pi_range1 rfl T.range (pa_cons (pv 1) pa_nil)) (pg_name (i := 3) sc_law_digits.nd rfl (Or.inl rfl)) (pss_cons (ps_set (i := 4) sc_law_digits.nd rfl (Or.inl rfl) (pe_c c_law_draw hr (by decide) rfl (pa_cons (pv 0) (pa_cons pe_int pa_nil))))
      (pss_cons (ps_if (pt_cmpR op_eq (pe_c c_law_draw hr (by decide) rfl (pa_cons (pv 0) (pa_cons pe_int pa_nil))) pe_int (nomark _)) (pss_one (ps_set (i := 4) sc_law_digits.nd rfl (Or.inl rfl) (pe_op op_add (pe_op op_pow pe_int pe_int) (pv 4)))) pss_nil)
      (pss_one (ps_expr (pe_bm PySem.F.plainAttrs_list PySem.F.slot_list_append PySem.F.type_list_append mt_append (pv 2) (pa_cons (pv 4) pa_nil)))))))
      (pss_one (ps_ret (pv 2))))))), ?_⟩
    refine ⟨_, rfl, b, c, 7, rfl, B, by decide, by decide +kernel, fun d1 H1 a1 a2 B1 X1 => ?_⟩
    refine ⟨fun σ H' => Fr [b] H H' ∧ Pool H' b c ∧ ∃ n : Nat, n ≤ 49 ∧ σ = [some (.ref b), some (.int (n : Int)), none, none, none], ?_, ?_⟩
    · refine ⟨_, rfl, b, c, 6, rfl, B1, by decide, by decide +kernel, fun d2 H2 b1 b2 B2 X2 => ⟨rfl, _, rfl, ite2 (fun _ => ?_) (fun _ => ?_)⟩⟩
      · refine ⟨_, rfl, b, c, 30, rfl, B2, by decide, by decide +kernel, fun d3 H3 c1 c2 B3 X3 => ⟨_, _, rfl, rfl, (X1.trans X2).trans X3, B3, (20 + d3).toNat, by omega, ?_⟩⟩
        rw [Int.toNat_of_nonneg (by omega)]
        rfl
      · refine ⟨X1.trans X2, B2, d1.toNat, by omega, ?_⟩
        rw [Int.toNat_of_nonneg (by omega)]
        rfl
    · rintro σ H2 ⟨X2, B2, n, n49, rfl⟩
      refine ⟨by show 0 ≤ sizeLine; decide, fun q nq => ?_⟩
      have X3 := X2.new nq (.lst [])
      have hq : upd H2 q (.lst []) q = some (.lst (([] : List Int).map V.int)) := upd_same
      have B3 : Pool (upd H2 q (.lst [])) b c := B2.fr0 (Fr.new0 nq _)
      have nwq : Nw H q := X2.live q (.of nq)
      generalize upd H2 q (.lst []) = H3 at X3 hq B3
      refine ⟨_, rfl, (n : Int), rfl, by omega, by omega, ?_⟩
      rw [show ((n : Int)).toNat = n from rfl]
      refine for_range (lo := 0) (n := n) (fun i σ H' => Fr [b] H H' ∧ Pool H' b c ∧ ∃ (ds : List Int) (v3 v4 : Option V), H' q = some (.lst (ds.map V.int)) ∧ ds.length = i ∧ (∀ d ∈ ds, 0 ≤ d) ∧ σ = [some (.ref b), some (.int (n : Int)), some (.ref q), v3, v4]) ⟨X3, B3, [], _, _, hq, rfl, (fun d m => nomatch m), rfl⟩ ?_ ?_
      · rintro i σ H4 hi ⟨X4, B4, ds, v3, v4, hq4, ld, dp, rfl⟩
        have bq : q ≠ b := by
          obtain ⟨cells, u, y, z, B⟩ := B
          exact (ne_nw B.hb nwq).symm
        have cq : q ≠ c := by
          obtain ⟨cells, u, y, z, B⟩ := B
          exact (ne_nw B.hc nwq).symm
        refine ⟨_, rfl, b, c, 4, rfl, B4, by decide, by decide +kernel, fun d1 H5 a1 a2 B5 X5 => ?_⟩
        have hq5 := X5.lst hq4 (not_one bq)
        refine ⟨_, rfl, b, c, 8, rfl, B5, by decide, by decide +kernel, fun d2 H6 b1 b2 B6 X6 => ⟨rfl, _, rfl, ite2 (fun _ => ?_) (fun _ => ?_)⟩⟩
        all_goals
          have hq6 := X6.lst hq5 (not_one bq)
          have X46 := (X4.trans X5).trans X6
          have app : ∀ e : Int, 0 ≤ e → Fr [b] H (upd H6 q (.lst (ds.map V.int ++ [.int e]))) ∧ Pool (upd H6 q (.lst (ds.map V.int ++ [.int e]))) b c ∧ upd H6 q (.lst (ds.map V.int ++ [.int e])) q = some (.lst ((ds ++ [e]).map V.int)) ∧ (ds ++ [e]).length = i + 1 ∧ ∀ d ∈ ds ++ [e], 0 ≤ d := fun e he => by
            have Xq : Fr [q] H6 (upd H6 q (.lst (ds.map V.int ++ [.int e]))) := (Fr.refl [q] H6).upd (.head _) (.lst hq6) _
            refine ⟨X46.late nwq (.lst hq6) _, B6.fr Xq (not_one bq.symm) (not_one cq.symm), by rw [upd_same, List.map_append]; rfl, by rw [List.length_append, ld]; rfl, fun d m => ?_⟩
            rcases List.mem_append.mp m with m | m
            · exact dp d m
            · rw [List.mem_singleton.mp m]
              exact he
        · obtain ⟨g1, g2, g3, g4, g5⟩ := app (10 ^ 12 + d1) (by omega)
          exact ⟨_, _, rfl, rfl, ⟨by decide, by decide, by decide⟩, _, rfl, _, _, rfl, rfl, _, rfl, .inl ⟨rfl, _, SqL.of hq6⟩, _, rfl, q, _, _, rfl, rfl, hq6, by rw [List.length_map]; exact small1000' (by omega), g1, g2, _, _, _, g3, g4, g5, rfl⟩
        · obtain ⟨g1, g2, g3, g4, g5⟩ := app d1 a1
          exact ⟨_, rfl, .inl ⟨rfl, _, SqL.of hq6⟩, _, rfl, q, _, _, rfl, rfl, hq6, by rw [List.length_map]; exact small1000' (by omega), g1, g2, _, _, _, g3, g4, g5, rfl⟩
      · rintro σ H4 ⟨X4, B4, ds, v3, v4, hq4, ld, dp, rfl⟩
        exact ⟨_, rfl, k q ds H4 nwq hq4 (by omega) dp B4 X4⟩
end
end K44

set_option Elab.async false
set_option maxRecDepth 100000
set_option maxHeartbeats 4000000
set_option exponentiation.threshold 4096
set_option linter.unusedVariables false
/-! what is planned, what is fair, equal answers, a call -/
namespace K44
open PySem PySem.Spec PyProof.Rows L2 C8 LamX UF
def callK (a b : Int) (kd : Str) : List Key := [.inl a, .inl b, .inr kd]
def CallAt (H : Hp) (t : Addr) (k : List Key) : Prop := H t = some (.tup (k.map kV)) ∧ ∃ (a b : Int) (kd : Str), k = callK a b kd
theorem CallAt.fr {H H' : Hp} {t : Addr} {k : List Key} {ds : List Addr} (h : CallAt H t k) (X : Fr ds H H') (nt : ∀ a ∈ ds, ∀ vs, H a ≠ some (.tup vs)) : CallAt H' t k := ⟨X.tup h.1 fun m => nt t m _ h.1, h.2⟩
def spCall : Sp := fun vs H Q _ => ∃ (b c pl : Addr) (x y z : Int), vs = [.ref b, .ref pl] ∧ Pool H b c ∧ H pl = some (.lst [.int x, .int y, .int z]) ∧ pl ≠ b ∧ ∀ (t : Addr) (k : List Key) (H' : Hp), CallAt H' t k → Pool H' b c → Fr [b] H H' → Q (.ref t) H'
section
variable {P : Program} {w : World} {K : PySem.W.Frag} {mg : Str → Option Value} {base : Heap}
theorem c_law_planned (T : Bl mg) (d : D0 K mg "_law_planned" s_law_planned ["digits", "count"]) : Cal P w K mg base 1 "_law_planned" spPlanned [] := by
  refine cal d sc_law_planned (fun vs H Q E h => ?_) (fun cdv A outer f s0 H vs Q E hr h => ?_)
  · obtain ⟨q, ds, n, rfl, _⟩ := h
    rfl
  · obtain ⟨q, ds, n, rfl, hq, l49, k⟩ := h
    refine ⟨_, (pss_cons (ps_if (pt_cmpR (op_eqD hr.units) (pv 0) (pe_lst pa_nil) (nomark _)) (pss_one (ps_ret pe_non)) pss_nil)
      (pss_cons (ps_set (i := 2) sc_law_planned.nd rfl (Or.inl rfl) (pe_ix ix_list (pv 0) (pe_op op_mod (pe_callTy call_int1 (by rfl) T.int (by decide +kernel) (pa_cons (pv 1) pa_nil)) (pe_callB call_len_seq (by rfl) T.len (by decide +kernel) (pa_cons (pv 0) pa_nil))) (fun _ _ => rfl)))
      (pss_cons (ps_if (pt_cmpR op_eq (pv 2) pe_int (nomark _)) (pss_one (ps_ret pe_non)) pss_nil)
      (pss_one (ps_ret (pe_op op_sub (pv 2) pe_int)))))), ?_⟩
    refine ⟨_, rfl, by show 0 ≤ sizeLine; decide, fun q0 nq0 => ?_⟩
    have X0 : Fr [] H (upd H q0 (.lst [])) := Fr.new0 nq0 _
    have hq0 : upd H q0 (.lst []) q0 = some (.lst (([] : List Int).map V.int)) := upd_same
    have hq1 := X0.lst hq not_nil
    generalize upd H q0 (.lst []) = H0 at X0 hq0 hq1
    refine ⟨_, _, dpList (SqL.of hq1), dpList (SqL.of hq0), shaped_list _, shaped_list _, ?_⟩
    rw [eqv_ints]
    have k0 := k H0 X0
    unfold planF at k0
    by_cases e0 : ds = []
    · rw [decide_eq_true e0]
      rw [if_pos e0] at k0
      exact ⟨_, rfl, iteT k0⟩
    rw [decide_eq_false e0]
    rw [if_neg e0] at k0
    have l0 : 0 < ds.length := List.length_pos_iff.mpr e0
    refine ⟨_, rfl, iteF ?_⟩
    have jl : n % ds.length < ds.length := Nat.mod_lt _ l0
    have ej : (n : Int) % ((ds.map V.int).length : Int) = ((n % ds.length : Nat) : Int) := by rw [List.length_map]; omega
    have ha : atI (ds.map V.int) ((n : Int) % ((ds.map V.int).length : Int)) = some (.int (ds.getD (n % ds.length) 0)) := by
      rw [ej, List.getD_eq_getElem?_getD, List.getElem?_eq_getElem jl]
      exact atI_nat (by rw [List.getElem?_map, List.getElem?_eq_getElem jl]; rfl)
    refine ⟨_, rfl, _, rfl, .inl ⟨_, rfl, _, rfl, _, _, rfl, .inl (SqL.of hq1), _, _, rfl, rfl, pm (by rw [List.length_map]; omega), _, _, _, _, rfl, rfl, SqL.of hq1, ha, ?_⟩⟩
    generalize ds.getD (n % ds.length) 0 = e at k0
    refine ⟨_, rfl, rfl, _, rfl, ite2 (fun e1 => ?_) (fun e1 => ?_)⟩
    · rw [if_pos (eqI e1)] at k0
      exact k0
    · rw [if_neg (neI e1)] at k0
      exact ⟨_, rfl, _, _, rfl, rfl, k0⟩
theorem c_law_fair (T : Bl mg) (d : D0 K mg "_law_fair" s_law_fair ["answers", "planned", "patience"]) : Cal P w K mg base 1 "_law_fair" spFair [] := by
  refine cal d sc_law_fair (fun vs H Q E h => ?_) (fun cdv A outer f s0 H vs Q E hr h => ?_)
  · obtain ⟨q, as, pl, p, rfl, _⟩ := h
    rfl
  · obtain ⟨q, as, pl, p, rfl, hq, la, p1, k⟩ := h
    refine ⟨_, (pss_cons (ps_set (i := 3) sc_law_fair.nd rfl (Or.inl rfl) pe_int)
      (pss_cons (ps_for PassesOwn.never rfl (pi_list (pe_slice sl_list (pv 0) (po_some (pe_callB (call_max2 rfl) (by rfl) T.max (by decide +kernel) (pa_cons pe_int (pa_cons (pe_op op_add (pe_op op_sub (pe_callB call_len_seq (by rfl) T.len (by decide +kernel) (pa_cons (pv 0) pa_nil)) (pv 2)) pe_int) pa_nil)))) po_none)) (pg_name (i := 4) sc_law_fair.nd rfl (Or.inl rfl)) (pss_one (ps_if (pt_cmp (pc_notN (pv 4))) (pss_one (ps_set (i := 3) sc_law_fair.nd rfl (Or.inl rfl) (pe_op op_add (pv 3) pe_int))) pss_nil)))
      (pss_cons (ps_if (pt_cmpR op_eq (pv 3) (pe_op op_sub (pv 2) pe_int) (nomark _)) (pss_one (ps_ret pe_non)) pss_nil)
      (pss_one (ps_ret (pv 1)))))), ?_⟩
    refine ⟨_, rfl, _, rfl, _, _, rfl, .inl (SqL.of hq), _, rfl, _, _, rfl, rfl, _, _, rfl, rfl, _, _, rfl, ?_⟩
    have kk : ∀ z : Int, z = (if ((as.map oV).length : Int) - (p : Int) + 1 > 0 then ((as.map oV).length : Int) - (p : Int) + 1 else 0) → 0 ≤ z ∧ z.toNat = as.length - (p - 1) := fun z e => by
      rw [List.length_map] at e
      split at e <;> omega
    refine ⟨_, rfl, _, _, rfl, SqL.of hq, fun D nD => ?_⟩
    obtain ⟨z0, zt⟩ := kk _ rfl
    rw [cut_from z0, zt, ← List.map_drop]
    have X1 : Fr [] H (upd H D (.lst ((as.drop (as.length - (p - 1))).map oV))) := Fr.new0 nD _
    have hD : upd H D (.lst ((as.drop (as.length - (p - 1))).map oV)) D = some (.lst ((as.drop (as.length - (p - 1))).map oV)) := upd_same
    have k1 := k _ X1
    generalize upd H D (.lst ((as.drop (as.length - (p - 1))).map oV)) = H1 at X1 hD k1
    have cl := cnt_last as (p - 1)
    generalize as.drop (as.length - (p - 1)) = ys at hD cl
    refine ⟨D, rfl, ⟨_, SqL.of hD⟩, ?_⟩
    refine for_list (xs := ys.map oV) (fun i σ H' => H' = H1 ∧ ∃ v4 : Option V, σ = [some (.ref q), some (oV pl), some (.int (p : Int)), some (.int (cnt (ys.take i) : Int)), v4]) ⟨rfl, _, rfl⟩ (fun i σ H' _ pv => by rw [pv.1]; exact SqL.of hD) (fun i v σ H2 hv pv => ?_) (fun σ H2 pv => ?_)
    · obtain ⟨rfl, v4, rfl⟩ := pv
      obtain ⟨o, eo, rfl⟩ := map_get hv
      have ec : cnt (ys.take (i + 1)) = cnt (ys.take i) + (if o.isSome then 1 else 0) := by
        rw [take_snoc eo]
        unfold cnt
        rw [List.filter_append, List.length_append]
        cases o <;> rfl
      cases o with
      | none => exact ⟨_, rfl, _, rfl, iteF ⟨rfl, some .non, by rw [ec]; rfl⟩⟩
      | some i' =>
        refine ⟨_, rfl, _, rfl, iteT ⟨_, rfl, _, _, rfl, rfl, rfl, some (.int i'), ?_⟩⟩
        rw [ec]
        show _ = [some (V.ref q), some (oV pl), some (V.int (p : Int)), some (V.int ((cnt (ys.take i) + 1 : Nat) : Int)), _]
        rw [show ((cnt (ys.take i) + 1 : Nat) : Int) = (cnt (ys.take i) : Int) + 1 by omega]
        rfl
    · obtain ⟨rfl, v4, rfl⟩ := pv
      rw [List.length_map, List.take_length]
      unfold fairF at k1
      refine ⟨_, rfl, _, rfl, _, _, rfl, rfl, rfl, _, rfl, ite2 (fun c => ?_) (fun c => ?_)⟩
      · have c := eqI c
        rw [if_pos (cl.mp (by omega))] at k1
        exact k1
      · have c := neI c
        rw [if_neg (fun h => c (by have := cl.mpr h; omega))] at k1
        exact ⟨_, rfl, k1⟩
theorem c_law_equal (T : Bl mg) (c_law_whole : Cal P w K mg base 1 "_law_whole" spWhole []) (d : D0 K mg "_law_equal" s_law_equal ["answer", "due"]) : Cal P w K mg base 2 "_law_equal" spEqual [] := by
  refine cal d sc_law_equal (fun vs H Q E h => ?_) (fun cdv A outer f s0 H vs Q E hr h => ?_)
  · obtain ⟨o, rfl, _⟩ := h
    rfl
  · obtain ⟨o, rfl, k⟩ := h
    refine ⟨_, (pss_cons (ps_if (pt_cmp (pc_isN (pv 1))) (pss_one (ps_ret (pe_cmp (pc_isN (pv 0))))) pss_nil)
      (pss_one (ps_ret (pe_and (pe_c c_law_whole hr (by decide) rfl (pa_cons (pv 0) pa_nil)) (pe_one (pe_cmpR op_eq (pv 0) (pv 1) (nomark _))))))), ?_⟩
    cases o with
    | none =>
      refine ⟨_, rfl, _, rfl, iteT ⟨_, rfl, ?_⟩⟩
      show Q (.bl (decide (V.non = V.non))) H
      rw [decide_eq_true rfl]
      exact k
    | some i =>
      refine ⟨_, rfl, _, rfl, iteF ⟨_, rfl, i, rfl, _, rfl, iteT ?_⟩⟩
      refine ⟨_, rfl, _, rfl, rfl, ?_⟩
      show Q (.bl (decide (V.int i = V.int i))) H
      rw [decide_eq_true rfl]
      exact k
theorem c_law_call (T : Bl mg) (c_law_draw : Cal P w K mg base 2 "_law_draw" spDraw []) (d : D0 K mg "_law_call" s_law_call ["pool", "places"]) : Cal P w K mg base 3 "_law_call" spCall [] := by
  refine cal d sc_law_call (fun vs H Q E h => ?_) (fun cdv A outer f s0 H vs Q E hr h => ?_)
  · obtain ⟨b, c, pl, x, y, z, rfl, _⟩ := h
    rfl
  · obtain ⟨b, c, pl, x, y, z, rfl, B, hp, pb, k⟩ := h
    refine ⟨_, (pss_cons (ps_set (i := 2) sc_law_call.nd rfl (Or.inl rfl) (pe_c c_law_draw hr (by decide) rfl (pa_cons (pv 0) (pa_cons pe_int pa_nil))))
      (pss_cons (ps_set (i := 3) sc_law_call.nd rfl (Or.inl rfl) (pe_op op_mod (pe_callTy call_int1 (by rfl) T.int (by decide +kernel) (pa_cons (pe_op op_add (pe_op op_add (pv 2) pe_int) (pe_c c_law_draw hr (by decide) rfl (pa_cons (pv 0) (pa_cons pe_int pa_nil)))) pa_nil)) pe_int))
      (pss_cons (ps_set (i := 4) sc_law_call.nd rfl (Or.inl rfl) (pe_lst (pa_cons pe_str (pa_cons pe_str (pa_cons pe_str pa_nil)))))
      (pss_one (ps_ret (pe_tup (pa_cons (pe_ix ix_list (pv 1) (pv 2) (fun _ _ => rfl)) (pa_cons (pe_ix ix_list (pv 1) (pv 3) (fun _ _ => rfl)) (pa_cons (pe_ix ix_list (pv 4) (pe_c c_law_draw hr (by decide) rfl (pa_cons (pv 0) (pa_cons pe_int pa_nil))) (fun _ _ => rfl)) pa_nil))))))))), ?_⟩
    refine ⟨_, rfl, b, c, 3, rfl, B, by decide, by decide +kernel, fun d1 H1 a1 a2 B1 X1 => ?_⟩
    refine ⟨_, rfl, _, _, rfl, rfl, _, rfl, b, c, 2, rfl, B1, by decide, by decide +kernel, fun d2 H2 b1 b2 B2 X2 => ⟨_, _, rfl, rfl, .inl ⟨_, rfl, _, _, rfl, rfl, pm (by decide), ?_⟩⟩⟩
    have e1 := Int.emod_nonneg (d1 + 1 + d2) (show (3 : Int) ≠ 0 by decide)
    have e2 := Int.emod_lt_of_pos (d1 + 1 + d2) (show (0 : Int) < 3 by decide)
    refine ⟨by show 3 ≤ sizeLine; decide, fun q nq => ?_⟩
    have X3 := (X1.trans X2).new nq (.lst [.str "quick", .str "slow", .str "probe"])
    have hq : upd H2 q (.lst [.str "quick", .str "slow", .str "probe"]) q = some (.lst [.str "quick", .str "slow", .str "probe"]) := upd_same
    have nwq : Nw H q := (X1.trans X2).live q (.of nq)
    have B3 : Pool (upd H2 q (.lst [.str "quick", .str "slow", .str "probe"])) b c := B2.fr0 (Fr.new0 nq _)
    generalize upd H2 q (.lst [.str "quick", .str "slow", .str "probe"]) = H3 at X3 hq B3
    have hp3 := X3.lst hp (not_one pb)
    have bq : q ≠ b := by
      obtain ⟨cells, u, y, z, B⟩ := B
      exact (ne_nw B.hb nwq).symm
    have at3 : ∀ j : Int, 0 ≤ j → j < 3 → ∃ v : Int, atI [V.int x, V.int y, V.int z] j = some (.int v) := fun j h0 h1 => by
      have : j = 0 ∨ j = 1 ∨ j = 2 := by omega
      rcases this with rfl | rfl | rfl
      · exact ⟨x, rfl⟩
      · exact ⟨y, rfl⟩
      · exact ⟨z, rfl⟩
    obtain ⟨v1, h1⟩ := at3 d1 a1 a2
    obtain ⟨v2, h2⟩ := at3 ((d1 + 1 + d2) % 3) e1 e2
    refine ⟨_, rfl, _, rfl, _, _, _, _, rfl, rfl, SqL.of hp3, h1, _, rfl, _, rfl, _, _, _, _, rfl, rfl, SqL.of hp3, h2, _, rfl, _, rfl, b, c, 3, rfl, B3, by decide, by decide +kernel, fun d4 H4 f1 f2 B4 X4 => ?_⟩
    have hs : ∃ s : Str, atI [V.str "quick", V.str "slow", V.str "probe"] d4 = some (.str s) := by
      have : d4 = 0 ∨ d4 = 1 ∨ d4 = 2 := by omega
      rcases this with rfl | rfl | rfl
      · exact ⟨_, rfl⟩
      · exact ⟨_, rfl⟩
      · exact ⟨_, rfl⟩
    obtain ⟨s, h4⟩ := hs
    refine ⟨_, _, _, _, rfl, rfl, SqL.of (X4.lst hq (not_one bq)), h4, by show 3 ≤ sizeLine; decide, fun t nt => ?_⟩
    exact k t (callK v1 v2 s) _ ⟨upd_same, v1, v2, s, rfl⟩ (B4.fr0 (Fr.new0 nt _)) ((X3.trans X4).new nt _)
end
end K44

set_option Elab.async false
set_option maxRecDepth 100000
set_option maxHeartbeats 4000000
set_option exponentiation.threshold 4096
set_option linter.unusedVariables false
/-! losses: how they are made, how they answer -/
namespace K44
open PySem PySem.Spec PyProof.Rows L2 C8 LamX UF
def fsL (n : Nat) : List (Str × V) := [("asked", .int (n : Int))]
def fsD (n : Nat) (q : Addr) : List (Str × V) := [("asked", .int (n : Int)), ("_digits", .ref q)]
def fsP (n : Nat) (q : Addr) (p : Nat) : List (Str × V) := [("asked", .int (n : Int)), ("_digits", .ref q), ("_patience", .int (p : Int))]
def fsF (n : Nat) (q : Addr) (p : Nat) (F : Addr) : List (Str × V) := [("asked", .int (n : Int)), ("_digits", .ref q), ("_patience", .int (p : Int)), ("_failed", .ref F)]
theorem fF_pat {n : Nat} {q : Addr} {p : Nat} {F : Addr} : (fsF n q p F).lookup ("_patience" : Str) = some (.int (p : Int)) := by kernel_rfl
theorem fF_fail {n : Nat} {q : Addr} {p : Nat} {F : Addr} : (fsF n q p F).lookup ("_failed" : Str) = some (.ref F) := by kernel_rfl
theorem fL_asked {n : Nat} : (fsL n).lookup ("asked" : Str) = some (.int (n : Int)) := by kernel_rfl
theorem fD_asked {n : Nat} {q : Addr} : (fsD n q).lookup ("asked" : Str) = some (.int (n : Int)) := by kernel_rfl
theorem fF_asked {n : Nat} {q : Addr} {p : Nat} {F : Addr} : (fsF n q p F).lookup ("asked" : Str) = some (.int (n : Int)) := by kernel_rfl
def FailAt (H : Hp) (F : Addr) (fm : List Key → Nat) (n : Nat) : Prop := ∃ kvs : List (List Key × V), H F = some (.dT kvs) ∧ kvs.length ≤ n ∧ ∀ k, (valV kvs k = none ∧ fm k = 0) ∨ valV kvs k = some (.int (fm k : Int))
theorem FailAt.fr {H H' : Hp} {F : Addr} {fm : List Key → Nat} {n : Nat} {ds : List Addr} (h : FailAt H F fm n) (X : Fr ds H H') (m : F ∉ ds) : FailAt H' F fm n := by
  obtain ⟨kvs, e, r⟩ := h
  exact ⟨kvs, X.dT e m, r⟩
def newF (r : Option Int) (t : Nat) : Nat := match r with
  | none => 0
  | some _ => t + 1
def setF (fm : List Key → Nat) (k : List Key) (v : Nat) : List Key → Nat := fun j => if j = k then v else fm j
def spInitL (K : PySem.W.Frag) : Sp := fun vs H Q _ => ∃ (o C dx : Addr), vs = [.ref o] ∧ H o = some (.ins C dx []) ∧ Cls K C ∧ NoAttr K C "asked" ∧ Q .non (upd H o (.ins C dx (fsL 0)))
def spInitD (K : PySem.W.Frag) (CD fL : Addr) : Sp := fun vs H Q _ => ∃ (o C dx l : Addr) (ds : List Int), vs = [.ref o, .ref l] ∧ H o = some (.ins C dx []) ∧ H l = some (.lst (ds.map V.int)) ∧ ds.length ≤ 49 ∧ Cls K C ∧ NoAttr K C "asked" ∧ NoAttr K C "_digits" ∧ SupO.SupT K C CD "__init__" fL ∧
  ∀ (q : Addr) (H' : Hp), Nw H q → Fr [o] H H' → H' o = some (.ins C dx (fsD 0 q)) → H' q = some (.lst (ds.map V.int)) → Q .non H'
def spInitF (CF : Addr) : Sp := fun vs H Q _ => ∃ (o dx l : Addr) (ds : List Int) (p : Nat), vs = [.ref o, .ref l, .int (p : Int)] ∧ H o = some (.ins CF dx []) ∧ H l = some (.lst (ds.map V.int)) ∧ ds.length ≤ 49 ∧
  ∀ (q F : Addr) (H' : Hp), Nw H q → Nw H F → Fr [o] H H' → H' o = some (.ins CF dx (fsF 0 q p F)) → H' q = some (.lst (ds.map V.int)) → FailAt H' F (fun _ => 0) 0 → Q .non H'
def spCallL (CL : Addr) : Sp := fun vs H Q _ => ∃ (o dx : Addr) (n : Nat) (x y z : V), vs = [.ref o, x, y, z] ∧ H o = some (.ins CL dx (fsL n)) ∧ Q .non (upd H o (.ins CL dx (fsL (n + 1))))
def spDrawn (C : Addr) : Sp := fun vs H Q _ => ∃ (o dx q : Addr) (fs : List (Str × V)) (n : Nat) (ds : List Int), vs = [.ref o] ∧ H o = some (.ins C dx fs) ∧ fs.length < 1000 ∧ fs.lookup ("asked" : Str) = some (.int (n : Int)) ∧ fs.lookup ("_digits" : Str) = some (.ref q) ∧ H q = some (.lst (ds.map V.int)) ∧ (∀ d ∈ ds, 0 ≤ d) ∧
  Q (oV (planF ds n)) (upd H o (.ins C dx (putF ("asked" : Str) (V.int ((n : Int) + 1)) fs)))
def spCallD (CD : Addr) : Sp := fun vs H Q _ => ∃ (o dx q : Addr) (n : Nat) (ds : List Int) (x y z : V), vs = [.ref o, x, y, z] ∧ H o = some (.ins CD dx (fsD n q)) ∧ H q = some (.lst (ds.map V.int)) ∧ (∀ d ∈ ds, 0 ≤ d) ∧ Q (oV (planF ds n)) (upd H o (.ins CD dx (fsD (n + 1) q)))
def spCallF (CF : Addr) : Sp := fun vs H Q _ => ∃ (o dx q F : Addr) (n p m : Nat) (ds : List Int) (fm : List Key → Nat) (k : List Key) (x y z : V), vs = [.ref o, x, y, z] ∧ [x, y, z] = k.map kV ∧ H o = some (.ins CF dx (fsF n q p F)) ∧ H q = some (.lst (ds.map V.int)) ∧ (∀ d ∈ ds, 0 ≤ d) ∧ FailAt H F fm m ∧ m ≤ 100000 ∧ 1 ≤ p ∧
  ∀ H' : Hp, Fr [o, F] H H' → H' o = some (.ins CF dx (fsF (n + 1) q p F)) → FailAt H' F (setF fm k (newF (if p - 1 ≤ fm k then none else planF ds n) (fm k))) (m + 1) → Q (oV (if p - 1 ≤ fm k then none else planF ds n)) H'
section
variable {P : Program} {w : World} {K : PySem.W.Frag} {mg : Str → Option Value} {base : Heap} {CL CD CF C fL fD fF f c cc : Addr} {fd : FuncData}
theorem k_initL (F : C8.Fun K "__init__" "Losses.__init__" s_Losses__init f fd) : FnOk P w K mg base C8.CX0 1 f fd ["self"] (spInitL K) := by
  refine C8.fn0 F sc_Losses__init (fun vs H Q E h => ?_) (fun cdv A outer s0 H vs Q E hr h => ?_)
  · obtain ⟨o, C, dx, rfl, _⟩ := h
    rfl
  · obtain ⟨o, C, dx, rfl, ho, cl, n1, k⟩ := h
    refine ⟨_, (pss_one (ps_fld (pv 0) pe_int rfl)), ?_⟩
    exact ⟨_, rfl, o, C, dx, [], rfl, ho, cl, n1, by show 0 < 1000; decide, k⟩
theorem k_initD (d : SupO.SupD P K CD "__init__" "DrawnLosses.__init__" s_DrawnLosses__init f c cc fd) (T : Bl mg) (F : FnR P w K mg base C8.CX0 1 fL (spInitL K)) : FnOk P w K mg base C8.CX0 2 f fd ["self", "digits"] (spInitD K CD fL) := by
  refine d.ok sc_DrawnLosses__init (fun vs H Q E h => ?_) (fun A outer s0 H vs Q E hr h => ?_)
  · obtain ⟨o, C, dx, l, ds, rfl, _⟩ := h
    rfl
  · obtain ⟨o, C, dx, l, ds, rfl, ho, hl, l49, cl, n1, n2, t, k⟩ := h
    refine ⟨_, (SupO.psa_expr (SupO.pea_sup0 d rfl rfl rfl rfl rfl F hr (by decide)) (pss_one (ps_fld (pv 0) (pe_callTy call_list_of (by rfl) T.list (by decide +kernel) (pa_cons (pv 1) pa_nil)) rfl))), ?_⟩
    refine ⟨o, C, dx, [], rfl, ho, t, o, C, dx, rfl, ho, cl, n1, ?_⟩
    have X1 : Fr [o] H (upd H o (.ins C dx (fsL 0))) := (Fr.refl [o] H).upd (.head _) (.ins ho) _
    have ho1 : upd H o (.ins C dx (fsL 0)) o = some (.ins C dx (fsL 0)) := upd_same
    have lo : l ≠ o := fun z => by rw [z, ho] at hl; cases hl
    have hl1 := X1.lst hl (not_one lo)
    generalize upd H o (.ins C dx (fsL 0)) = H1 at X1 ho1 hl1
    refine ⟨_, rfl, l, _, rfl, .inl (SqL.of hl1), fun q nq => ?_⟩
    have X2 := X1.new nq (.lst (ds.map V.int))
    have hq : upd H1 q (.lst (ds.map V.int)) q = some (.lst (ds.map V.int)) := upd_same
    have ho2 := upd_new (o := .lst (ds.map V.int)) nq ho1
    have nwq : Nw H q := X1.live q (.of nq)
    have qo : q ≠ o := (ne_of_none ho1 nq).symm
    generalize upd H1 q (.lst (ds.map V.int)) = H2 at X2 hq ho2
    refine ⟨_, rfl, o, C, dx, _, rfl, ho2, cl, n2, by show 1 < 1000; decide, ?_⟩
    exact k q _ nwq (X2.upd (.head _) (.ins ho2) _) upd_same (by rw [upd_ne qo]; exact hq)
theorem k_initF (d : SupO.SupD P K CF "__init__" "FairLosses.__init__" s_FairLosses__init f c cc fd) (cl : Cls K CF) (n1 : NoAttr K CF "asked") (n2 : NoAttr K CF "_digits") (n3 : NoAttr K CF "_patience") (n4 : NoAttr K CF "_failed") (t1 : SupO.SupT K CF CF "__init__" fD) (t2 : SupO.SupT K CF CD "__init__" fL) (F : FnR P w K mg base C8.CX0 2 fD (spInitD K CD fL)) : FnOk P w K mg base C8.CX0 3 f fd ["self", "digits", "patience"] (spInitF CF) := by
  refine d.ok sc_FairLosses__init (fun vs H Q E h => ?_) (fun A outer s0 H vs Q E hr h => ?_)
  · obtain ⟨o, dx, l, ds, p, rfl, _⟩ := h
    rfl
  · obtain ⟨o, dx, l, ds, p, rfl, ho, hl, l49, k⟩ := h
    refine ⟨_, (SupO.psa_expr (SupO.pea_sup d rfl rfl rfl rfl rfl F hr (by decide) (pa_cons (pv 1) pa_nil)) (pss_cons (ps_fld (pv 0) (pv 2) rfl)
      (pss_one (ps_fld (pv 0) pe_dnewT rfl)))), ?_⟩
    refine ⟨o, CF, dx, [], rfl, ho, t1, _, rfl, o, CF, dx, l, ds, rfl, ho, hl, l49, cl, n1, n2, t2, fun q H1 nwq X1 ho1 hq1 => ?_⟩
    have qo : q ≠ o := (ne_nw ho nwq).symm
    refine ⟨_, rfl, _, rfl, o, CF, dx, _, rfl, ho1, cl, n3, by show 2 < 1000; decide, ?_⟩
    rw [show putF ("_patience" : Str) (V.int (p : Int)) (fsD 0 q) = (fsP 0 q p) by kernel_rfl]
    have X2 := X1.upd (.head _) (.ins ho1) (.ins CF dx (fsP 0 q p))
    have ho2 : upd H1 o (.ins CF dx (fsP 0 q p)) o = some (.ins CF dx (fsP 0 q p)) := upd_same
    have hq2 : upd H1 o (.ins CF dx (fsP 0 q p)) q = some (.lst (ds.map V.int)) := by rw [upd_ne qo]; exact hq1
    generalize upd H1 o (.ins CF dx (fsP 0 q p)) = H2 at X2 ho2 hq2
    intro F nF
    have X3 := X2.new nF (.dT [])
    have hF : upd H2 F (.dT []) F = some (.dT []) := upd_same
    have ho3 := upd_new (o := .dT []) nF ho2
    have hq3 := upd_new (o := .dT []) nF hq2
    have nwF : Nw H F := X2.live F (.of nF)
    have Fo : F ≠ o := (ne_of_none ho2 nF).symm
    generalize upd H2 F (.dT []) = H3 at X3 hF ho3 hq3
    refine ⟨_, rfl, o, CF, dx, _, rfl, ho3, cl, n4, by show 3 < 1000; decide, ?_⟩
    refine k q F _ nwq nwF (X3.upd (.head _) (.ins ho3) _) (by rw [upd_same]; kernel_rfl) (by rw [upd_ne qo]; exact hq3) ⟨[], by rw [upd_ne Fo]; exact hF, Nat.le_refl _, fun k => .inl ⟨rfl, rfl⟩⟩
theorem k_callL (F : C8.Fun K "__call__" "Losses.__call__" s_Losses__call f fd) (cl : Cls K CL) (n1 : NoAttr K CL "asked") : FnOk P w K mg base C8.CX0 1 f fd ["self", "caller", "called", "kind"] (spCallL CL) := by
  refine C8.fn0 F sc_Losses__call (fun vs H Q E h => ?_) (fun cdv A outer s0 H vs Q E hr h => ?_)
  · obtain ⟨o, dx, n, x, y, z, rfl, _⟩ := h
    rfl
  · obtain ⟨o, dx, n, x, y, z, rfl, ho, k⟩ := h
    refine ⟨_, (pss_cons (ps_fldaug (pv 0) pe_int in_add)
      (pss_one (ps_ret pe_non))), ?_⟩
    refine ⟨_, rfl, o, CL, dx, _, _, rfl, ho, cl, n1, fL_asked, (n : Int), 1, rfl, rfl, dx, _, ho, by show 1 < 1000; decide, ?_⟩
    rw [show putF ("asked" : Str) (V.int ((n : Int) + 1)) (fsL n) = fsL (n + 1) by unfold fsL; rw [show ((n + 1 : Nat) : Int) = (n : Int) + 1 by omega]; kernel_rfl]
    exact k
theorem m_drawn {C : Addr} (T : Bl mg) (d : MethP K C "_drawn" "DrawnLosses._drawn" s_DrawnLosses_drawn ["self"]) (cl : Cls K C) (n1 : NoAttr K C "asked") (n2 : NoAttr K C "_digits") : Met P w K mg base 1 C "_drawn" (spDrawn C) [] := by
  refine met d cl sc_DrawnLosses_drawn (fun vs H Q E h => ?_) (fun cdv A outer f s0 H vs Q E hr h => ?_)
  · obtain ⟨o, dx, q, fs, n, ds, rfl, _⟩ := h
    rfl
  · obtain ⟨o, dx, q, fs, n, ds, rfl, ho, l1000, fa, fd, hq, dp, k⟩ := h
    refine ⟨_, (pss_cut (ps_set (i := 1) sc_DrawnLosses_drawn.nd rfl (Or.inl rfl) (pe_ifExp (pt_truth (pe_fld (pv 0) rfl) (by intro _; rfl)) (pe_ix ix_list (pe_fld (pv 0) rfl) (pe_op op_mod (pe_fld (pv 0) rfl) (pe_callB call_len_seq (by rfl) T.len (by decide +kernel) (pa_cons (pe_fld (pv 0) rfl) pa_nil))) (fun _ _ => rfl)) pe_int))
      (pss_cons (ps_fldaug (pv 0) pe_int in_add)
      (pss_one (ps_ret (pe_ifExp (pt_cmpR op_gt (pv 1) pe_int (nomark _)) (pe_op op_sub (pv 1) pe_int) pe_non))))), ?_⟩
    refine ⟨fun σ H' => H' = H ∧ ∃ e : Int, 0 ≤ e ∧ planF ds n = (if e = 0 then none else some (e - 1)) ∧ σ = [some (.ref o), some (.int e)], ?_, ?_⟩
    · refine ⟨_, rfl, o, C, dx, _, _, rfl, ho, cl, n2, fd, !decide (ds = []), .inl ⟨_, SqL.of hq, ?_⟩, ?_⟩
      · cases ds <;> rfl
      unfold planF
      by_cases e0 : ds = []
      · rw [decide_eq_true e0, if_pos e0]
        exact iteF ⟨rfl, 0, Int.le_refl _, by rw [if_pos rfl], rfl⟩
      · rw [decide_eq_false e0, if_neg e0]
        have l0 : 0 < ds.length := List.length_pos_iff.mpr e0
        have jl : n % ds.length < ds.length := Nat.mod_lt _ l0
        have ej : (n : Int) % ((ds.map V.int).length : Int) = ((n % ds.length : Nat) : Int) := by rw [List.length_map]; omega
        have eg : ds.getD (n % ds.length) 0 = ds[n % ds.length] := by rw [List.getD_eq_getElem?_getD, List.getElem?_eq_getElem jl]; rfl
        have ha : atI (ds.map V.int) ((n : Int) % ((ds.map V.int).length : Int)) = some (.int (ds.getD (n % ds.length) 0)) := by
          rw [ej, eg]
          exact atI_nat (by rw [List.getElem?_map, List.getElem?_eq_getElem jl]; rfl)
        have e1 : 0 ≤ ds.getD (n % ds.length) 0 := by rw [eg]; exact dp _ (List.getElem_mem jl)
        refine iteT ⟨_, rfl, o, C, dx, _, _, rfl, ho, cl, n2, fd, _, rfl, o, C, dx, _, _, rfl, ho, cl, n1, fa, _, rfl, o, C, dx, _, _, rfl, ho, cl, n2, fd, _, _, rfl, .inl (SqL.of hq), _, _, rfl, rfl, pm (by rw [List.length_map]; omega), _, _, _, _, rfl, rfl, SqL.of hq, ha, ?_⟩
        exact ⟨rfl, _, e1, rfl, rfl⟩
    · rintro σ H' ⟨rfl, e, e1, pe, rfl⟩
      rw [pe] at k
      refine ⟨_, rfl, o, C, dx, _, _, rfl, ho, cl, n1, fa, _, _, rfl, rfl, dx, _, ho, l1000, ?_⟩
      refine ⟨_, rfl, _, _, rfl, rfl, _, rfl, ite2 (fun c => ?_) (fun c => ?_)⟩
      · have c : e > 0 := of_decide_eq_true c
        rw [if_neg (by omega)] at k
        exact ⟨_, rfl, _, _, rfl, rfl, k⟩
      · have c : ¬ e > 0 := fun z => c (decide_eq_true z)
        rw [if_pos (by omega)] at k
        exact k
theorem k_callD (F : C8.Fun K "__call__" "DrawnLosses.__call__" s_DrawnLosses__call f fd) (m_drawn : Met P w K mg base 1 CD "_drawn" (spDrawn CD) []) : FnOk P w K mg base C8.CX0 2 f fd ["self", "caller", "called", "kind"] (spCallD CD) := by
  refine C8.fn0 F sc_DrawnLosses__call (fun vs H Q E h => ?_) (fun cdv A outer s0 H vs Q E hr h => ?_)
  · obtain ⟨o, dx, q, n, ds, x, y, z, rfl, _⟩ := h
    rfl
  · obtain ⟨o, dx, q, n, ds, x, y, z, rfl, ho, hq, dp, k⟩ := h
    refine ⟨_, (pss_one (ps_ret (pe_mt0 m_drawn hr (by decide) (pv 0)))), ?_⟩
    refine ⟨_, rfl, o, dx, _, rfl, ho, by kernel_rfl, o, dx, q, _, n, ds, rfl, ho, by show 2 < 1000; decide, by kernel_rfl, by kernel_rfl, hq, dp, ?_⟩
    rw [show putF ("asked" : Str) (V.int ((n : Int) + 1)) (fsD n q) = fsD (n + 1) q by unfold fsD; rw [show ((n + 1 : Nat) : Int) = (n : Int) + 1 by omega]; kernel_rfl]
    exact k
theorem k_callF (F : C8.Fun K "__call__" "FairLosses.__call__" s_FairLosses__call f fd) (cl : Cls K CF) (n3 : NoAttr K CF "_patience") (n4 : NoAttr K CF "_failed") (m_drawn : Met P w K mg base 1 CF "_drawn" (spDrawn CF) []) : FnOk P w K mg base C8.CX0 2 f fd ["self", "caller", "called", "kind"] (spCallF CF) := by
  refine C8.fn0 F sc_FairLosses__call (fun vs H Q E h => ?_) (fun cdv A outer s0 H vs Q E hr h => ?_)
  · obtain ⟨o, dx, q, F, n, p, m, ds, fm, kk, x, y, z, rfl, _⟩ := h
    rfl
  · obtain ⟨o, dx, q, F, n, p, m, ds, fm, kk, x, y, z, rfl, ek, ho, hq, dp, hF, lm, p1, k⟩ := h
    refine ⟨_, (pss_cons (ps_set (i := 4) sc_FairLosses__call.nd rfl (Or.inl rfl) (pe_tup (pa_cons (pv 1) (pa_cons (pv 2) (pa_cons (pv 3) pa_nil)))))
      (pss_cons (ps_set (i := 5) sc_FairLosses__call.nd rfl (Or.inl rfl) (pe_mt0 m_drawn hr (by decide) (pv 0)))
      (pss_cons (ps_set (i := 6) sc_FairLosses__call.nd rfl (Or.inl rfl) (pe_dget2 (u1 hr) (pe_fld (pv 0) rfl) (pv 4) pe_int (M2.mk (by rfl) (by rfl) (by rfl) (by rfl))))
      (pss_cut (ps_if (pt_cmpR op_ge (pv 6) (pe_op op_sub (pe_fld (pv 0) rfl) pe_int) (nomark _)) (pss_one (ps_set (i := 5) sc_FairLosses__call.nd rfl (Or.inl rfl) pe_non)) pss_nil)
      (pss_cons (ps_asg (pe_ifExp (pt_cmp (pc_isN (pv 5))) pe_int (pe_op op_add (pv 6) pe_int)) (pg_sub (pe_fld (pv 0) rfl) (pv 4) (set_dict (u1 hr))))
      (pss_one (ps_ret (pv 5)))))))), ?_⟩
    refine ⟨_, rfl, _, rfl, _, rfl, by show 3 ≤ sizeLine; decide, fun t nt => ?_⟩
    have X1 : Fr [] H (upd H t (.tup [x, y, z])) := Fr.new0 nt _
    have ht : upd H t (.tup [x, y, z]) t = some (.tup (kk.map kV)) := by rw [← ek]; exact upd_same
    generalize upd H t (.tup [x, y, z]) = H1 at X1 ht
    have ho1 := X1.ins ho not_nil
    have hq1 := X1.lst hq not_nil
    have hF1 := hF.fr X1 not_nil
    refine ⟨_, rfl, o, dx, _, rfl, ho1, by kernel_rfl, o, dx, q, _, n, ds, rfl, ho1, by show 4 < 1000; decide, by kernel_rfl, by kernel_rfl, hq1, dp, ?_⟩
    rw [show putF ("asked" : Str) (V.int ((n : Int) + 1)) (fsF n q p F) = fsF (n + 1) q p F by unfold fsF; rw [show ((n + 1 : Nat) : Int) = (n : Int) + 1 by omega]; kernel_rfl]
    have X2 : Fr [o, F] H (upd H1 o (.ins CF dx (fsF (n + 1) q p F))) := (X1.mono fun a m => nomatch m).upd (.head _) (.ins ho1) _
    have ho2 : upd H1 o (.ins CF dx (fsF (n + 1) q p F)) o = some (.ins CF dx (fsF (n + 1) q p F)) := upd_same
    obtain ⟨kvs, e1, lk, rel⟩ := hF1
    have Fo : F ≠ o := fun z => by rw [z, ho1] at e1; cases e1
    have to : t ≠ o := fun z => by rw [z, ho1] at ht; cases ht
    have e2 : upd H1 o (.ins CF dx (fsF (n + 1) q p F)) F = some (.dT kvs) := by rw [upd_ne Fo]; exact e1
    have ht2 : upd H1 o (.ins CF dx (fsF (n + 1) q p F)) t = some (.tup (kk.map kV)) := by rw [upd_ne to]; exact ht
    generalize upd H1 o (.ins CF dx (fsF (n + 1) q p F)) = H2 at X2 ho2 e2 ht2
    have eg : ((valV kvs kk).getD (V.int 0)) = .int (fm kk : Int) := by
      rcases rel kk with ⟨a, b⟩ | a
      · rw [a, b]; rfl
      · rw [a]; rfl
    refine ⟨_, rfl, o, CF, dx, _, _, rfl, ho2, cl, n4, fF_fail, F, rfl, .inr ⟨kvs, .inl e2⟩, _, rfl, valV kvs kk, .t e2 ht2, ?_⟩
    rw [eg]
    refine ⟨fun σ H' => H' = H2 ∧ σ = [some (.ref o), some x, some y, some z, some (.ref t), some (oV (if p - 1 ≤ fm kk then none else planF ds n)), some (.int (fm kk : Int))], ?_, ?_⟩
    · refine ⟨_, rfl, _, rfl, o, CF, dx, _, _, rfl, ho2, cl, n3, fF_pat, _, _, rfl, rfl, _, _, rfl, rfl, _, rfl, ite2 (fun c => ?_) (fun c => ?_)⟩
      · have c : (fm kk : Int) ≥ (p : Int) - 1 := of_decide_eq_true c
        rw [if_pos (by omega)]
        exact ⟨rfl, rfl⟩
      · have c : ¬ (fm kk : Int) ≥ (p : Int) - 1 := fun z => c (decide_eq_true z)
        rw [if_neg (by omega)]
        exact ⟨rfl, rfl⟩
    · rintro σ H' ⟨rfl, rfl⟩
      generalize (if p - 1 ≤ fm kk then none else planF ds n) = r at k
      have fin : ∀ v : Nat, newF r (fm kk) = v → Q (oV r) (upd H' F (.dT (putK kvs kk (.int (v : Int))))) := fun v ev => by
        rw [ev] at k
        refine k _ (X2.upd (.tail _ (.head _)) (.dT e2) _) (by rw [upd_ne Fo.symm]; exact ho2) ⟨_, upd_same, by have := length_putK kvs kk (V.int (v : Int)); omega, fun j => ?_⟩
        rw [valV_put]
        unfold setF
        by_cases h : j = kk
        · rw [if_pos h, if_pos h]
          exact .inr rfl
        · rw [if_neg h, if_neg h]
          exact rel j
      have lk2 : kvs.length < sizeLine := Nat.lt_of_le_of_lt (show kvs.length ≤ 100000 by omega) (by decide)
      cases r with
      | none =>
        refine ⟨_, rfl, _, rfl, iteT ?_⟩
        refine ⟨_, rfl, o, CF, dx, _, _, rfl, ho2, cl, n4, fF_fail, _, rfl, F, _, rfl, .t e2 ht2 lk2, _, rfl, ?_⟩
        exact fin 0 rfl
      | some i =>
        refine ⟨_, rfl, _, rfl, iteF ⟨_, rfl, _, _, rfl, rfl, ?_⟩⟩
        refine ⟨_, rfl, o, CF, dx, _, _, rfl, ho2, cl, n4, fF_fail, _, rfl, F, _, rfl, .t e2 ht2 lk2, _, rfl, ?_⟩
        have := fin (fm kk + 1) rfl
        rw [show ((fm kk + 1 : Nat) : Int) = (fm kk : Int) + 1 by omega] at this
        exact this
end
end K44

set_option Elab.async false
set_option maxRecDepth 100000
set_option maxHeartbeats 4000000
set_option exponentiation.threshold 4096
set_option linter.unusedVariables false
/-! families, what is due -/
namespace K44
open PySem PySem.Spec PyProof.Rows L2 C8 LamX UF
theorem at4 {f : Nat → V} {w : Nat} (h : w < 4) : atI [f 0, f 1, f 2, f 3] (w : Int) = some (f w) := by
  have : w = 0 ∨ w = 1 ∨ w = 2 ∨ w = 3 := by omega
  rcases this with rfl | rfl | rfl | rfl <;> rfl
/-- tables of answers: dicts at tb 0 .. tb 3, their lists made behind H0 -/
def Tab (H0 H : Hp) (tb : Nat → Addr) (am : Nat → List Key → List (Option Int)) (n : Nat) : Prop := ∃ loc : Nat → List Key → Option Addr,
  (∀ w, w < 4 → ∃ kvs : List (List Key × V), H (tb w) = some (.dT kvs) ∧ kvs.length ≤ n ∧ ∀ k, valV kvs k = (loc w k).map V.ref) ∧
  (∀ w k, w < 4 → (loc w k = none ∧ am w k = []) ∨ ∃ a, loc w k = some a ∧ Nw H0 a ∧ H a = some (.lst ((am w k).map oV))) ∧
  (∀ w k w' k' a, w < 4 → w' < 4 → loc w k = some a → loc w' k' = some a → w = w' ∧ k = k') ∧ ∀ w k, (am w k).length ≤ n
def setA (am : Nat → List Key → List (Option Int)) (w : Nat) (k : List Key) (l : List (Option Int)) : Nat → List Key → List (Option Int) := fun v j => if v = w ∧ j = k then l else am v j
def dueF (w : Nat) (ds : List Int) (c p : Nat) (as : List (Option Int)) : Option Int := if w = 0 then none else if w = 1 then planF ds c else fairF as (planF ds c) p
def amF (am : Nat → List Key → List (Option Int)) (w : Nat) (k : List Key) (r : Option Int) : Nat → List Key → List (Option Int) := if w < 2 then am else setA am w k (am w k ++ [r])
theorem Tab.mono {H0 H : Hp} {tb : Nat → Addr} {am : Nat → List Key → List (Option Int)} {n m : Nat} (h : Tab H0 H tb am n) (l : n ≤ m) : Tab H0 H tb am m := by
  obtain ⟨loc, h1, h2, h3, h4⟩ := h
  refine ⟨loc, fun w hw => ?_, h2, h3, fun w k => Nat.le_trans (h4 w k) l⟩
  obtain ⟨kvs, e, l', r⟩ := h1 w hw
  exact ⟨kvs, e, Nat.le_trans l' l, r⟩
theorem Tab.fr {H0 H H' : Hp} {tb : Nat → Addr} {am : Nat → List Key → List (Option Int)} {n : Nat} {ds : List Addr} (h : Tab H0 H tb am n) (X : Fr ds H H') (m1 : ∀ w, w < 4 → tb w ∉ ds) (m2 : ∀ a ∈ ds, ¬ Nw H0 a) : Tab H0 H' tb am n := by
  obtain ⟨loc, h1, h2, h3, h4⟩ := h
  refine ⟨loc, fun w hw => ?_, fun w k hw => ?_, h3, h4⟩
  · obtain ⟨kvs, e, r⟩ := h1 w hw
    exact ⟨kvs, X.dT e (m1 w hw), r⟩
  · rcases h2 w k hw with z | ⟨a, e, n, z⟩
    · exact .inl z
    · exact .inr ⟨a, e, n, X.lst z fun m => m2 a m n⟩
def spDue : Sp := fun vs H Q _ => ∃ (w : Nat) (t R Pt C Tt : Addr) (k : List Key) (H0 : Hp) (rw tb : Nat → Addr) (dsl : Nat → List Int) (p cn : Nat → Nat) (am : Nat → List Key → List (Option Int)) (n : Nat), vs = [.int (w : Int), .ref t, .ref R, .ref Pt, .ref C, .ref Tt] ∧ w < 4 ∧ CallAt H t k ∧
  H R = some (.lst [.ref (rw 0), .ref (rw 1), .ref (rw 2), .ref (rw 3)]) ∧ (∀ w, w < 4 → H (rw w) = some (.lst ((dsl w).map V.int)) ∧ (dsl w).length ≤ 49) ∧ H Pt = some (.lst [.int (p 0 : Int), .int (p 1 : Int), .int (p 2 : Int), .int (p 3 : Int)]) ∧ (∀ w, w < 4 → 1 ≤ p w) ∧
  H C = some (.lst [.int (cn 0 : Int), .int (cn 1 : Int), .int (cn 2 : Int), .int (cn 3 : Int)]) ∧ H Tt = some (.lst [.ref (tb 0), .ref (tb 1), .ref (tb 2), .ref (tb 3)]) ∧ Tab H0 H tb am n ∧ (∀ a, Nw H a → Nw H0 a) ∧ n ≤ 900 ∧ (∀ w w', w < 4 → w' < 4 → tb w = tb w' → w = w') ∧ (∀ w, w < 4 → ¬ Nw H0 (tb w)) ∧
  ∀ (es : List Addr) (H' : Hp), (∀ e ∈ es, (e = tb w ∨ Nw H0 e) ∧ ∀ vs, H e ≠ some (.tup vs)) → Fr es H H' → Tab H0 H' tb (amF am w k (dueF w (dsl w) (cn w) (p w) (am w k))) (n + 1) → Q (oV (dueF w (dsl w) (cn w) (p w) (am w k))) H'
section
variable {P : Program} {w : World} {K : PySem.W.Frag} {mg : Str → Option Value} {base : Heap} {CL CD CF fL fD fF : Addr}
theorem ty_of {H : Hp} {a C dx : Addr} {fs : List (Str × V)} (e : H a = some (.ins C dx fs)) (cl : Cls K C) (oc : PySem.W.findIn K (.ref C) "__class__" = some (some (.builtin "object.__class__"))) (mo : PySem.W.mroIn K C (.type "object") = some true)
    (ocg : PySem.W.specialIn K (.builtin "object.__class__") "__get__" = some (some (.builtin "getset_descriptor.__get__"))) (oct : PySem.W.takesIn K (.builtin "object.__class__") = some true) : TyX K H (.ref a) (.ref C) := .base (.ins e cl oc ocg oct mo)
def spFam (CL CD CF : Addr) : Sp := fun vs H Q _ => ∃ (a b c da db dc : Addr) (fa fb fc : List (Str × V)), vs = [.ref a, .ref b, .ref c] ∧ H a = some (.ins CL da fa) ∧ H b = some (.ins CD db fb) ∧ H c = some (.ins CF dc fc) ∧ Q (.bl true) H
theorem c_law_families (T : Bl mg) (D : Ds P K mg CL CD CF fL fD fF) : Cal P w K mg base 1 "_law_families" (spFam CL CD CF) [] := by
  have tL := D.t_Losses
  have tD := D.t_DrawnLosses
  have tF := D.t_FairLosses
  have g_Losses : GcP mg "Losses" (.ref CL) := ⟨_, tL.mgC, rfl⟩
  have g_DrawnLosses : GcP mg "DrawnLosses" (.ref CD) := ⟨_, tD.mgC, rfl⟩
  have g_FairLosses : GcP mg "FairLosses" (.ref CF) := ⟨_, tF.mgC, rfl⟩
  refine cal D.d_law_families sc_law_families (fun vs H Q E h => ?_) (fun cdv A outer f s0 H vs Q E hr h => ?_)
  · obtain ⟨a, b, c, da, db, dc, fa, fb, fc, rfl, _⟩ := h
    rfl
  · obtain ⟨a, b, c, da, db, dc, fa, fb, fc, rfl, ha, hb, hc, k⟩ := h
    refine ⟨_, (pss_cons (ps_if (PW.pt (pw_or (pt_not (pt_val (pe_callB call_isi (by rfl) T.isinstance (by decide +kernel) (pa_cons (pv 0) (pa_cons (pe_gc (by rfl) g_Losses) pa_nil))))) (pw_or (pt_val (pe_callB call_isi (by rfl) T.isinstance (by decide +kernel) (pa_cons (pv 0) (pa_cons (pe_gc (by rfl) g_DrawnLosses) pa_nil)))) (pw_or1 (pt_val (pe_callB call_isi (by rfl) T.isinstance (by decide +kernel) (pa_cons (pv 0) (pa_cons (pe_gc (by rfl) g_FairLosses) pa_nil)))))))) (pss_one (ps_ret pe_bl)) pss_nil)
      (pss_cons (ps_if (PW.pt (pw_or (pt_not (pt_val (pe_callB call_isi (by rfl) T.isinstance (by decide +kernel) (pa_cons (pv 1) (pa_cons (pe_gc (by rfl) g_Losses) pa_nil))))) (pw_or (pt_not (pt_val (pe_callB call_isi (by rfl) T.isinstance (by decide +kernel) (pa_cons (pv 1) (pa_cons (pe_gc (by rfl) g_DrawnLosses) pa_nil))))) (pw_or1 (pt_val (pe_callB call_isi (by rfl) T.isinstance (by decide +kernel) (pa_cons (pv 1) (pa_cons (pe_gc (by rfl) g_FairLosses) pa_nil)))))))) (pss_one (ps_ret pe_bl)) pss_nil)
      (pss_one (ps_ret (pe_and (pe_callB call_isi (by rfl) T.isinstance (by decide +kernel) (pa_cons (pv 2) (pa_cons (pe_gc (by rfl) g_Losses) pa_nil))) (pe_and (pe_callB call_isi (by rfl) T.isinstance (by decide +kernel) (pa_cons (pv 2) (pa_cons (pe_gc (by rfl) g_DrawnLosses) pa_nil))) (pe_one (pe_callB call_isi (by rfl) T.isinstance (by decide +kernel) (pa_cons (pv 2) (pa_cons (pe_gc (by rfl) g_FairLosses) pa_nil)))))))))), ?_⟩
    have ya := ty_of ha tL.cl tL.oc tL.mo D.ocg D.oct
    have yb := ty_of hb tD.cl tD.oc tD.mo D.ocg D.oct
    have yc := ty_of hc tF.cl tF.oc tF.mo D.ocg D.oct
    refine ⟨_, rfl, _, _, _, _, true, rfl, .own _, ya, D.is_Losses_Losses, _, rfl, iteF ⟨_, rfl, _, _, _, _, false, rfl, .own _, ya, D.is_Losses_DrawnLosses, _, rfl, iteF ⟨_, rfl, _, _, _, _, false, rfl, .own _, ya, D.is_Losses_FairLosses, _, rfl, iteF ?_⟩⟩⟩
    refine ⟨_, rfl, _, _, _, _, true, rfl, .own _, yb, D.is_DrawnLosses_Losses, _, rfl, iteF ⟨_, rfl, _, _, _, _, true, rfl, .own _, yb, D.is_DrawnLosses_DrawnLosses, _, rfl, iteF ⟨_, rfl, _, _, _, _, false, rfl, .own _, yb, D.is_DrawnLosses_FairLosses, _, rfl, iteF ?_⟩⟩⟩
    refine ⟨_, rfl, _, _, _, _, true, rfl, .own _, yc, D.is_FairLosses_Losses, _, rfl, iteT ⟨_, rfl, _, _, _, _, true, rfl, .own _, yc, D.is_FairLosses_DrawnLosses, _, rfl, iteT ⟨_, rfl, _, _, _, _, true, rfl, .own _, yc, D.is_FairLosses_FairLosses, k⟩⟩⟩
theorem c_law_due (T : Bl mg) (c_law_planned : Cal P w K mg base 1 "_law_planned" spPlanned []) (c_law_fair : Cal P w K mg base 1 "_law_fair" spFair []) (d : D0 K mg "_law_due" s_law_due ["which", "call", "rows", "patiences", "counts", "tables"]) : Cal P w K mg base 2 "_law_due" spDue [] := by
  refine cal d sc_law_due (fun vs H Q E h => ?_) (fun cdv A outer f s0 H vs Q E hr h => ?_)
  · obtain ⟨w, t, R, Pt, C, Tt, k, H0, rw, tb, dsl, p, cn, am, n, rfl, _⟩ := h
    rfl
  · obtain ⟨w, t, R, Pt, C, Tt, k, H0, rw, tb, dsl, p, cn, am, n, rfl, w4, hk, hR, hrw, hPt, p1, hC, hTt, TA, nw, n9, inj, tnw, kk⟩ := h
    refine ⟨_, (pss_cons (ps_if (pt_cmpR op_eq (pv 0) pe_int (nomark _)) (pss_one (ps_ret pe_non)) pss_nil)
      (pss_cons (ps_set (i := 6) sc_law_due.nd rfl (Or.inl rfl) (pe_c c_law_planned hr (by decide) rfl (pa_cons (pe_ix ix_list (pv 2) (pv 0) (fun _ _ => rfl)) (pa_cons (pe_ix ix_list (pv 4) (pv 0) (fun _ _ => rfl)) pa_nil))))
      (pss_cons (ps_if (pt_cmpR op_eq (pv 0) pe_int (nomark _)) (pss_one (ps_ret (pv 6))) pss_nil)
      (pss_cut (ps_set (i := 7) sc_law_due.nd rfl (Or.inl rfl) (SetD.pe_dsetdT (u1 hr) (pe_ix ix_list (pv 5) (pv 0) (fun _ _ => rfl)) (pv 1) (pe_lst pa_nil) (M2.mk (by rfl) (by rfl) (by rfl) (by rfl))))
      (pss_cons (ps_set (i := 8) sc_law_due.nd rfl (Or.inl rfl) (pe_c c_law_fair hr (by decide) rfl (pa_cons (pv 7) (pa_cons (pv 6) (pa_cons (pe_ix ix_list (pv 3) (pv 0) (fun _ _ => rfl)) pa_nil)))))
      (pss_cons (ps_expr (pe_bm PySem.F.plainAttrs_list PySem.F.slot_list_append PySem.F.type_list_append mt_append (pv 7) (pa_cons (pv 8) pa_nil)))
      (pss_one (ps_ret (pv 8))))))))), ?_⟩
    refine ⟨_, rfl, rfl, _, rfl, ite2 (fun c => ?_) (fun c => ?_)⟩
    · have c := eqI c
      have c : w = 0 := by omega
      subst c
      exact kk [] H (fun e m => nomatch m) (Fr.refl _ _) (TA.mono (by omega))
    have c := neI c
    have w0 : w ≠ 0 := by omega
    have aR := at4 (f := fun w => .ref (rw w)) w4
    have aC := at4 (f := fun w => .int (cn w : Int)) w4
    have aP := at4 (f := fun w => .int (p w : Int)) w4
    have aT := at4 (f := fun w => .ref (tb w)) w4
    refine ⟨_, rfl, _, rfl, _, _, _, _, rfl, rfl, SqL.of hR, aR, _, rfl, _, rfl, _, _, _, _, rfl, rfl, SqL.of hC, aC, _, dsl w, cn w, rfl, (hrw w w4).1, (hrw w w4).2, fun H1 X1 => ?_⟩
    refine ⟨_, rfl, rfl, _, rfl, ite2 (fun c => ?_) (fun c => ?_)⟩
    · have c := eqI c
      have c : w = 1 := by omega
      subst c
      exact ⟨_, rfl, kk [] H1 (fun e m => nomatch m) X1 ((TA.fr X1 (fun _ _ => not_nil) fun _ m => nomatch m).mono (by omega))⟩
    have c := neI c
    have w2 : ¬ w < 2 := by omega
    have eam : amF am w k (dueF w (dsl w) (cn w) (p w) (am w k)) = setA am w k (am w k ++ [fairF (am w k) (planF (dsl w) (cn w)) (p w)]) := by
      unfold amF dueF
      rw [if_neg w2, if_neg w0, if_neg (show ¬ w = 1 by omega)]
    have edu : dueF w (dsl w) (cn w) (p w) (am w k) = fairF (am w k) (planF (dsl w) (cn w)) (p w) := by
      unfold dueF
      rw [if_neg w0, if_neg (show ¬ w = 1 by omega)]
    rw [eam, edu] at kk
    generalize planF (dsl w) (cn w) = pf at kk
    obtain ⟨loc, h1, h2, h3, h4⟩ := TA.fr X1 (fun _ _ => not_nil) fun _ m => nomatch m
    obtain ⟨kvs, e1, lk, rel⟩ := h1 w w4
    have ht1 : H1 t = some (.tup (k.map kV)) := X1.tup hk.1 not_nil
    refine ⟨fun σ H' => ∃ (a : Addr) (loc3 : Nat → List Key → Option Addr), σ = [some (.int (w : Int)), some (.ref t), some (.ref R), some (.ref Pt), some (.ref C), some (.ref Tt), some (oV pf), some (.ref a), none] ∧ Fr [tb w] H H' ∧ Nw H0 a ∧ (∀ vs, H a ≠ some (.tup vs)) ∧ loc3 w k = some a ∧
      (∀ w, w < 4 → ∃ kvs : List (List Key × V), H' (tb w) = some (.dT kvs) ∧ kvs.length ≤ n + 1 ∧ ∀ k, valV kvs k = (loc3 w k).map V.ref) ∧
      (∀ w k, w < 4 → (loc3 w k = none ∧ am w k = []) ∨ ∃ a, loc3 w k = some a ∧ Nw H0 a ∧ H' a = some (.lst ((am w k).map oV))) ∧
      (∀ w k w' k' a, w < 4 → w' < 4 → loc3 w k = some a → loc3 w' k' = some a → w = w' ∧ k = k'), ?_, ?_⟩
    · refine ⟨_, rfl, _, rfl, _, _, _, _, rfl, rfl, SqL.of (X1.lst hTt not_nil), aT, tb w, rfl, .inr ⟨kvs, .inl e1⟩, _, rfl, by show 0 ≤ sizeLine; decide, fun D nD => ?_⟩
      have X2 := X1.new nD (.lst [])
      have hD : upd H1 D (.lst []) D = some (.lst (([] : List (Option Int)).map oV)) := upd_same
      have e2 := upd_new (o := .lst []) nD e1
      have ht2 := upd_new (o := .lst []) nD ht1
      have X12 : Fr [] H1 (upd H1 D (.lst [])) := Fr.new0 nD _
      have nwD : Nw H D := X1.live D (.of nD)
      obtain ⟨loc', g1, g2, g3, g4⟩ := (show Tab H0 H1 tb am n from ⟨loc, h1, h2, h3, h4⟩).fr X12 (fun _ _ => not_nil) fun _ m => nomatch m
      have T2 := (show Tab H0 H1 tb am n from ⟨loc, h1, h2, h3, h4⟩)
      have k1 : ∀ w, w < 4 → ∃ kvs : List (List Key × V), upd H1 D (.lst []) (tb w) = some (.dT kvs) ∧ kvs.length ≤ n ∧ ∀ k, valV kvs k = (loc w k).map V.ref := fun w hw => by
        obtain ⟨kvs, e, r⟩ := h1 w hw
        exact ⟨kvs, X12.dT e not_nil, r⟩
      have k2 : ∀ w k, w < 4 → (loc w k = none ∧ am w k = []) ∨ ∃ a, loc w k = some a ∧ Nw H0 a ∧ upd H1 D (.lst []) a = some (.lst ((am w k).map oV)) := fun w k hw => by
        rcases h2 w k hw with z | ⟨a, e, n, z⟩
        · exact .inl z
        · exact .inr ⟨a, e, n, X12.lst z not_nil⟩
      generalize upd H1 D (.lst []) = H2 at X2 hD e2 ht2 X12 k1 k2
      refine ⟨kvs, k, t, e2, rfl, ht2, Nat.lt_of_le_of_lt (show kvs.length ≤ 100000 by omega) (by decide), fun v hv => ?_, fun hn => ?_⟩
      · rw [rel k] at hv
        rcases k2 w k w4 with ⟨z, _⟩ | ⟨a, z, na, ha⟩
        · rw [z] at hv; cases hv
        · rw [z] at hv
          cases hv
          refine ⟨a, loc, rfl, X2.mono (fun a m => nomatch m), na, (fun vs e => by have e' := X2.tup e not_nil; rw [ha] at e'; cases e'), z, fun w hw => ?_, k2, h3⟩
          obtain ⟨kvs, e, l, r⟩ := k1 w hw
          exact ⟨kvs, e, Nat.le_succ_of_le l, r⟩
      · rw [rel k] at hn
        have zn : loc w k = none := by
          cases e : loc w k with
          | none => rfl
          | some a => rw [e] at hn; cases hn
        have amn : am w k = [] := by
          rcases k2 w k w4 with ⟨_, z⟩ | ⟨a, z, _⟩
          · exact z
          · rw [zn] at z; cases z
        have Dt : D ≠ tb w := fun z => by rw [z, e2] at hD; cases hD
        have fresh : ∀ v j, v < 4 → loc v j ≠ some D := fun v j hv z => by
          rcases h2 v j hv with ⟨e, _⟩ | ⟨a, e, _, q⟩
          · rw [e] at z; cases z
          · rw [e] at z
            cases z
            rw [nD] at q
            cases q
        refine ⟨D, fun v j => if v = w ∧ j = k then some D else loc v j, rfl, (X2.mono fun a m => nomatch m).upd (.head _) (.dT e2) _, nw D nwD, (fun vs e => by obtain ⟨ps, z⟩ := nwD _ e; cases z), if_pos ⟨rfl, rfl⟩, fun v hv => ?_, fun v j hv => ?_, fun v j v' j' a hv hv' q q' => ?_⟩
        · by_cases e : v = w
          · subst e
            refine ⟨_, upd_same, by have := length_putK kvs k (V.ref D); omega, fun j => ?_⟩
            rw [valV_put, rel]
            show _ = Option.map V.ref (if v = v ∧ j = k then some D else loc v j)
            by_cases z : j = k
            · rw [if_pos z, if_pos ⟨rfl, z⟩]; rfl
            · rw [if_neg z, if_neg (fun q => z q.2)]
          · obtain ⟨kvs', e', l, r⟩ := k1 v hv
            refine ⟨kvs', by rw [upd_ne (fun z => e (inj v w hv w4 z))]; exact e', Nat.le_succ_of_le l, fun j => ?_⟩
            show _ = Option.map V.ref (if v = w ∧ j = k then some D else loc v j)
            rw [r, if_neg (fun q => e q.1)]
        · show (if v = w ∧ j = k then some D else loc v j) = none ∧ _ ∨ ∃ a, (if v = w ∧ j = k then some D else loc v j) = some a ∧ _
          by_cases e : v = w ∧ j = k
          · obtain ⟨rfl, rfl⟩ := e
            rw [if_pos ⟨rfl, rfl⟩]
            exact .inr ⟨D, rfl, nw D nwD, by rw [upd_ne Dt, amn]; exact hD⟩
          · rw [if_neg e]
            rcases k2 v j hv with z | ⟨a, e, n, z⟩
            · exact .inl z
            · exact .inr ⟨a, e, n, by rw [upd_ne (fun q => by rw [q, e2] at z; cases z)]; exact z⟩
        · have q : (if v = w ∧ j = k then some D else loc v j) = some a := q
          have q' : (if v' = w ∧ j' = k then some D else loc v' j') = some a := q'
          split at q
          · rename_i c1
            cases q
            split at q'
            · rename_i c2
              exact ⟨c1.1.trans c2.1.symm, c1.2.trans c2.2.symm⟩
            · exact absurd q' (fresh v' j' hv')
          · split at q'
            · cases q'
              exact absurd q (fresh v j hv)
            · exact h3 v j v' j' a hv hv' q q'
    · rintro σ H3 ⟨a, loc3, rfl, X3, na, nta, la, g1, g2, g3⟩
      have ha : H3 a = some (.lst ((am w k).map oV)) := by
        rcases g2 w k w4 with ⟨z, _⟩ | ⟨a', z, _, q⟩
        · rw [la] at z; cases z
        · rw [la] at z; cases z; exact q
      have at_ : ¬ Nw H0 (tb w) := tnw w w4
      have Pt_ : Pt ∉ [tb w] := not_one fun z => by
        obtain ⟨kvs, e, _⟩ := h1 w w4
        have e' := X1.lst hPt not_nil
        rw [z, e] at e'
        cases e'
      refine ⟨_, rfl, _, rfl, _, rfl, _, rfl, _, _, _, _, rfl, rfl, SqL.of (X3.lst hPt Pt_), aP, a, am w k, pf, p w, rfl, ha, by have := h4 w k; omega, p1 w w4, fun H4 X4 => ?_⟩
      have ha4 := X4.lst ha not_nil
      refine ⟨_, rfl, .inl ⟨rfl, _, SqL.of ha4⟩, _, rfl, a, _, _, rfl, rfl, ha4, by rw [List.length_map]; have := h4 w k; exact small1000' (by omega), ?_⟩
      refine ⟨_, rfl, kk [tb w, a] _ (fun e m => ?_) (((X3.mono (es := [tb w, a]) fun e m => by rw [List.mem_singleton.mp m]; exact .head _).trans (X4.mono fun a m => nomatch m)).upd (b := a) (.tail _ (.head _)) (.lst ha4) _) ?_⟩
      · rcases List.mem_cons.mp m with rfl | m
        · refine ⟨.inl rfl, fun vs e => ?_⟩
          obtain ⟨loc, g1, _⟩ := TA
          obtain ⟨kvs, e', _⟩ := g1 w w4
          rw [e'] at e
          cases e
        · rw [List.mem_singleton.mp m]
          exact ⟨.inr na, nta⟩
      · have X34 : Fr [a] H3 (upd H4 a (.lst ((am w k).map oV ++ [oV (fairF (am w k) pf (p w))]))) := (X4.mono fun a m => nomatch m).upd (.head _) (.lst ha4) _
        have ta : ∀ v, v < 4 → tb v ≠ a := fun v hv z => by
          obtain ⟨kvs, e, _⟩ := g1 v hv
          rw [z, ha] at e
          cases e
        refine ⟨loc3, fun v hv => ?_, fun v j hv => ?_, g3, fun v j => ?_⟩
        · obtain ⟨kvs, e, r⟩ := g1 v hv
          exact ⟨kvs, X34.dT e (not_one (ta v hv)), r⟩
        · by_cases e : v = w ∧ j = k
          · obtain ⟨rfl, rfl⟩ := e
            refine .inr ⟨a, la, na, ?_⟩
            unfold setA
            rw [if_pos ⟨rfl, rfl⟩, upd_same, List.map_append]
            rfl
          · unfold setA
            rw [if_neg e]
            rcases g2 v j hv with z | ⟨a', z, n', q⟩
            · exact .inl z
            · refine .inr ⟨a', z, n', X34.lst q (not_one fun y => e ?_)⟩
              rw [y] at z
              obtain ⟨z1, z2⟩ := g3 v j w k a hv w4 z la
              exact ⟨z1, z2⟩
        · unfold setA
          split
          · rw [List.length_append]
            have := h4 w k
            show (am w k).length + 1 ≤ n + 1
            omega
          · have := h4 v j
            omega
end
end K44

set_option Elab.async false
set_option maxRecDepth 100000
set_option maxHeartbeats 4000000
set_option exponentiation.threshold 4096
set_option linter.unusedVariables false
/-! four objects side by side with what is due -/
namespace K44
open PySem PySem.Spec PyProof.Rows L2 C8 LamX UF
/-- what is fixed of the four objects -/
structure Par where
  o : Nat → Addr
  d : Nat → Addr
  q : Nat → Addr
  F : Nat → Addr
  p : Nat → Nat
  l : Nat → List Int
def Ob (CL CD CF : Addr) (Z : Par) (w : Nat) (H : Hp) (cn : Nat) (fm : List Key → Nat) (m : Nat) : Prop :=
  (w = 0 → H (Z.o w) = some (.ins CL (Z.d w) (fsL cn))) ∧ (w = 1 → H (Z.o w) = some (.ins CD (Z.d w) (fsD cn (Z.q w)))) ∧ (2 ≤ w → H (Z.o w) = some (.ins CF (Z.d w) (fsF cn (Z.q w) (Z.p w) (Z.F w))) ∧ FailAt H (Z.F w) fm m) ∧ (1 ≤ w → H (Z.q w) = some (.lst ((Z.l w).map V.int)))
def ansF (w : Nat) (ds : List Int) (c p t : Nat) : Option Int := if w = 0 then none else if w = 1 then planF ds c else if p - 1 ≤ t then none else planF ds c
theorem due_ans (w : Nat) (ds : List Int) (c p : Nat) (as : List (Option Int)) : dueF w ds c p as = ansF w ds c p (trail as) := rfl
def SO (CL CD CF : Addr) (C : Addr) (sp : Sp) : Prop := (C = CL ∧ sp = spCallL CL) ∨ (C = CD ∧ sp = spCallD CD) ∨ (C = CF ∧ sp = spCallF CF)
section
variable {K : PySem.W.Frag} {CL CD CF : Addr} {Z : Par} {w : Nat} {H H' : Hp} {cn m : Nat} {fm : List Key → Nat}
theorem Ob.ins (h : Ob CL CD CF Z w H cn fm m) : ∃ (C : Addr) (fs : List (Str × V)), (C = CL ∨ C = CD ∨ C = CF) ∧ H (Z.o w) = some (.ins C (Z.d w) fs) ∧ fs.lookup ("asked" : Str) = some (.int (cn : Int)) := by
  obtain ⟨h0, h1, h2, _⟩ := h
  by_cases e0 : w = 0
  · exact ⟨CL, _, .inl rfl, h0 e0, fL_asked⟩
  · by_cases e1 : w = 1
    · exact ⟨CD, _, .inr (.inl rfl), h1 e1, fD_asked⟩
    · exact ⟨CF, _, .inr (.inr rfl), (h2 (by omega)).1, fF_asked⟩
theorem Ob.fr {ds : List Addr} (h : Ob CL CD CF Z w H cn fm m) (X : Fr ds H H') (n1 : Z.o w ∉ ds) (n2 : 2 ≤ w → Z.F w ∉ ds) (n3 : 1 ≤ w → Z.q w ∉ ds) : Ob CL CD CF Z w H' cn fm m := by
  obtain ⟨h0, h1, h2, h3⟩ := h
  exact ⟨fun e => X.ins (h0 e) n1, fun e => X.ins (h1 e) n1, fun e => ⟨X.ins (h2 e).1 n1, (h2 e).2.fr X (n2 e)⟩, fun e => X.lst (h3 e) (n3 e)⟩
theorem FailAt.mono {F : Addr} {n : Nat} (h : FailAt H F fm m) (l : m ≤ n) : FailAt H F fm n := by
  obtain ⟨kvs, e, l', r⟩ := h
  exact ⟨kvs, e, Nat.le_trans l' l, r⟩
theorem Ob.mono {n : Nat} (h : Ob CL CD CF Z w H cn fm m) (l : m ≤ n) : Ob CL CD CF Z w H cn fm n := ⟨h.1, h.2.1, fun e => ⟨(h.2.2.1 e).1, (h.2.2.1 e).2.mono l⟩, h.2.2.2⟩
theorem ob_call {k : List Key} {x y z : V} {Q : VK} (h : Ob CL CD CF Z w H cn fm m) (dp : 1 ≤ w → ∀ d ∈ Z.l w, 0 ≤ d) (m9 : m ≤ 100000) (p1 : 1 ≤ Z.p w) (ek : [x, y, z] = k.map kV) (F0 : w < 2 → Z.F w = Z.o w)
    (cont : ∀ H' : Hp, Fr [Z.o w, Z.F w] H H' → Ob CL CD CF Z w H' (cn + 1) (setF fm k (newF (ansF w (Z.l w) cn (Z.p w) (fm k)) (fm k))) (m + 1) → Q (oV (ansF w (Z.l w) cn (Z.p w) (fm k))) H') :
    ∃ C sp, SO CL CD CF C sp ∧ (∃ dx fs, H (Z.o w) = some (.ins C dx fs)) ∧ sp [V.ref (Z.o w), x, y, z] H Q C8.E0 := by
  obtain ⟨h0, h1, h2, h3⟩ := h
  by_cases e0 : w = 0
  · subst e0
    have ho := h0 rfl
    refine ⟨CL, _, .inl ⟨rfl, rfl⟩, ⟨_, _, ho⟩, Z.o 0, Z.d 0, cn, x, y, z, rfl, ho, ?_⟩
    refine cont _ ((Fr.refl _ _).upd (.head _) (.ins ho) _) ⟨fun _ => upd_same, fun z => (nomatch z), fun z => (by omega), fun z => (by omega)⟩
  by_cases e1 : w = 1
  · subst e1
    have ho := h1 rfl
    have hq := h3 (Nat.le_refl _)
    have qo : Z.q 1 ≠ Z.o 1 := fun e => by rw [e, ho] at hq; cases hq
    refine ⟨CD, _, .inr (.inl ⟨rfl, rfl⟩), ⟨_, _, ho⟩, Z.o 1, Z.d 1, Z.q 1, cn, Z.l 1, x, y, z, rfl, ho, hq, dp (Nat.le_refl _), ?_⟩
    refine cont _ ((Fr.refl _ _).upd (.head _) (.ins ho) _) ⟨fun z => (nomatch z), fun _ => upd_same, fun z => (by omega), fun _ => by rw [upd_ne qo]; exact hq⟩
  · have w2 : 2 ≤ w := by omega
    obtain ⟨ho, hF⟩ := h2 w2
    have hq := h3 (by omega)
    have ea : ansF w (Z.l w) cn (Z.p w) (fm k) = if Z.p w - 1 ≤ fm k then none else planF (Z.l w) cn := by
      unfold ansF
      rw [if_neg e0, if_neg e1]
    rw [ea] at cont
    refine ⟨CF, _, .inr (.inr ⟨rfl, rfl⟩), ⟨_, _, ho⟩, Z.o w, Z.d w, Z.q w, Z.F w, cn, Z.p w, m, Z.l w, fm, k, x, y, z, rfl, ek, ho, hq, dp (by omega), hF, m9, p1, fun H' X ho' hF' => ?_⟩
    have qo : Z.q w ≠ Z.o w := fun e => by rw [e, ho] at hq; cases hq
    have qF : Z.q w ≠ Z.F w := fun e => by
      obtain ⟨kvs, e', _⟩ := hF
      rw [e, e'] at hq
      cases hq
    exact cont H' X ⟨fun z => absurd z e0, fun z => absurd z e1, fun _ => ⟨ho', hF'⟩, fun _ => X.lst hq (not_two qo qF)⟩
end
/-- the state of a walk -/
structure StS (CL CD CF : Addr) (Z : Par) (H0 H : Hp) (C : Addr) (tb : Nat → Addr) (cn : Nat → Nat) (fm : Nat → List Key → Nat) (am : Nat → List Key → List (Option Int)) (n : Nat) : Prop where
  ob : ∀ w, w < 4 → Ob CL CD CF Z w H (cn w) (fm w) n
  ta : Tab H0 H tb am n
  hc : H C = some (.lst [.int (cn 0 : Int), .int (cn 1 : Int), .int (cn 2 : Int), .int (cn 3 : Int)])
  ft : ∀ w k, w < 4 → 2 ≤ w → fm w k = trail (am w k)
/-- what is fixed of the places -/
structure Fx (Z : Par) (H0 : Hp) (b c C : Addr) (tb : Nat → Addr) : Prop where
  nb : ¬ Nw H0 b
  nc : ¬ Nw H0 c
  nC : ¬ Nw H0 C
  no : ∀ w, w < 4 → ¬ Nw H0 (Z.o w)
  nF : ∀ w, w < 4 → ¬ Nw H0 (Z.F w)
  nq : ∀ w, w < 4 → 1 ≤ w → ¬ Nw H0 (Z.q w)
  nt : ∀ w, w < 4 → ¬ Nw H0 (tb w)
  oo : ∀ w v, w < 4 → v < 4 → Z.o w = Z.o v → w = v
  tt : ∀ w v, w < 4 → v < 4 → tb w = tb v → w = v
  FF : ∀ w v, w < 4 → v < 4 → 2 ≤ w → 2 ≤ v → Z.F w = Z.F v → w = v
  F0 : ∀ w, w < 2 → Z.F w = Z.o w
  Ft : ∀ w v, w < 4 → v < 4 → 2 ≤ w → Z.F w ≠ tb v
  qb : ∀ w, w < 4 → 1 ≤ w → Z.q w ≠ b
  qC : ∀ w, w < 4 → 1 ≤ w → Z.q w ≠ C
  bC : b ≠ C
  cC : c ≠ C
def dsS (Z : Par) (b C : Addr) (tb : Nat → Addr) : List Addr := b :: C :: (List.range 4).flatMap fun w => [Z.o w, Z.F w, tb w]
theorem mem_dsS {Z : Par} {b C a : Addr} {tb : Nat → Addr} : a ∈ dsS Z b C tb ↔ a = b ∨ a = C ∨ ∃ w, w < 4 ∧ (a = Z.o w ∨ a = Z.F w ∨ a = tb w) := by
  unfold dsS
  simp only [List.mem_cons, List.mem_flatMap, List.mem_range, List.not_mem_nil, or_false]
section
variable {CL CD CF : Addr} {Z : Par} {H0 H H' : Hp} {b c C : Addr} {tb : Nat → Addr} {cn : Nat → Nat} {fm : Nat → List Key → Nat} {am : Nat → List Key → List (Option Int)} {n : Nat}
theorem StS.o_ne (S : StS CL CD CF Z H0 H C tb cn fm am n) {w : Nat} (hw : w < 4) {a : Addr} {ob : HO} (e : H a = some ob) (ni : ∀ C d f, ob ≠ .ins C d f) : Z.o w ≠ a := fun z => by
  obtain ⟨C', fs, _, e', _⟩ := (S.ob w hw).ins
  rw [z, e] at e'
  exact ni _ _ _ (Option.some.inj e')
theorem StS.F_ne (S : StS CL CD CF Z H0 H C tb cn fm am n) {w : Nat} (hw : w < 4) (w2 : 2 ≤ w) {a : Addr} {ob : HO} (e : H a = some ob) (ni : ∀ kv, ob ≠ .dT kv) : Z.F w ≠ a := fun z => by
  obtain ⟨kvs, e', _⟩ := ((S.ob w hw).2.2.1 w2).2
  rw [z, e] at e'
  exact ni _ (Option.some.inj e')
theorem StS.t_ne (S : StS CL CD CF Z H0 H C tb cn fm am n) {w : Nat} (hw : w < 4) {a : Addr} {ob : HO} (e : H a = some ob) (ni : ∀ kv, ob ≠ .dT kv) : tb w ≠ a := fun z => by
  obtain ⟨loc, h1, _⟩ := S.ta
  obtain ⟨kvs, e', _⟩ := h1 w hw
  rw [z, e] at e'
  exact ni _ (Option.some.inj e')
/-- a draw -/
theorem StS.draw (S : StS CL CD CF Z H0 H C tb cn fm am n) (F : Fx Z H0 b c C tb) (B : Pool H b c) (X : Fr [b] H H') : StS CL CD CF Z H0 H' C tb cn fm am n := by
  obtain ⟨cells, u, y, z, B⟩ := B
  refine ⟨fun w hw => (S.ob w hw).fr X (not_one (S.o_ne hw B.hb fun _ _ _ z => nomatch z)) (fun w2 => not_one (S.F_ne hw w2 B.hb fun _ z => nomatch z)) (fun w1 => not_one (F.qb w hw w1)), S.ta.fr X (fun w hw => not_one (S.t_ne hw B.hb fun _ z => nomatch z)) fun a m => ?_, X.lst S.hc (not_one F.bC.symm), S.ft⟩
  rw [List.mem_singleton.mp m]
  exact F.nb
theorem set4 {f g : Nat → V} {w : Nat} {x : V} (hw : w < 4) (e : g w = x) (o : ∀ v, v < 4 → v ≠ w → g v = f v) : [f 0, f 1, f 2, f 3].set w x = [g 0, g 1, g 2, g 3] := by
  have : w = 0 ∨ w = 1 ∨ w = 2 ∨ w = 3 := by omega
  rcases this with rfl | rfl | rfl | rfl
  · show [x, f 1, f 2, f 3] = _
    rw [e, o 1 (by omega) (by omega), o 2 (by omega) (by omega), o 3 (by omega) (by omega)]
  · show [f 0, x, f 2, f 3] = _
    rw [e, o 0 (by omega) (by omega), o 2 (by omega) (by omega), o 3 (by omega) (by omega)]
  · show [f 0, f 1, x, f 3] = _
    rw [e, o 0 (by omega) (by omega), o 1 (by omega) (by omega), o 3 (by omega) (by omega)]
  · show [f 0, f 1, f 2, x] = _
    rw [e, o 0 (by omega) (by omega), o 1 (by omega) (by omega), o 2 (by omega) (by omega)]
def inc (cn : Nat → Nat) (w : Nat) : Nat → Nat := fun v => if v = w then cn w + 1 else cn v
def fmS (fm : Nat → List Key → Nat) (w : Nat) (k : List Key) (r : Option Int) : Nat → List Key → Nat := fun v => if v = w then setF (fm w) k (newF r (fm w k)) else fm v
/-- behind what is due -/
theorem StS.due (S : StS CL CD CF Z H0 H C tb cn fm am n) (F : Fx Z H0 b c C tb) (B : Pool H b c) {w : Nat} (hw : w < 4) {es : List Addr} (he : ∀ e ∈ es, e = tb w ∨ Nw H0 e) (X : Fr es H H') :
    (∀ v, v < 4 → Ob CL CD CF Z v H' (cn v) (fm v) n) ∧ H' C = some (.lst [.int (cn 0 : Int), .int (cn 1 : Int), .int (cn 2 : Int), .int (cn 3 : Int)]) ∧ Pool H' b c := by
  have out : ∀ {a : Addr}, ¬ Nw H0 a → tb w ≠ a → a ∉ es := fun {a} h1 h2 m => by
    rcases he a m with z | z
    · exact h2 z.symm
    · exact h1 z
  refine ⟨fun v hv => (S.ob v hv).fr X (out (F.no v hv) fun z => ?_) (fun w2 => out (F.nF v hv) (F.Ft v w hv hw w2).symm) (fun w1 => out (F.nq v hv w1) (S.t_ne hw ((S.ob v hv).2.2.2 w1) fun _ z => nomatch z)), X.lst S.hc (out F.nC (S.t_ne hw S.hc fun _ z => nomatch z)), ?_⟩
  · obtain ⟨C', fs, _, e', _⟩ := (S.ob v hv).ins
    exact S.t_ne hw e' (fun _ z => nomatch z) z
  · obtain ⟨cells, u, y, z, B⟩ := B
    exact ⟨cells, u, y, z, X.lst B.hb (out F.nb (S.t_ne hw B.hb fun _ z => nomatch z)), X.lst B.hc (out F.nc (S.t_ne hw B.hc fun _ z => nomatch z)), B.u0⟩
/-- behind the answer and its count -/
theorem StS.step (S : StS CL CD CF Z H0 H C tb cn fm am n) (F : Fx Z H0 b c C tb) (B : Pool H b c) {w : Nat} (hw : w < 4) {k : List Key} {es : List Addr} {H1 H2 : Hp} (he : ∀ e ∈ es, e = tb w ∨ Nw H0 e) (X1 : Fr es H H1)
    (T1 : Tab H0 H1 tb (amF am w k (ansF w (Z.l w) (cn w) (Z.p w) (fm w k))) (n + 1)) (X2 : Fr [Z.o w, Z.F w] H1 H2) (O2 : Ob CL CD CF Z w H2 (cn w + 1) (setF (fm w) k (newF (ansF w (Z.l w) (cn w) (Z.p w) (fm w k)) (fm w k))) (n + 1)) :
    H2 C = some (.lst [.int (cn 0 : Int), .int (cn 1 : Int), .int (cn 2 : Int), .int (cn 3 : Int)]) ∧
    Pool (upd H2 C (.lst [.int (inc cn w 0 : Int), .int (inc cn w 1 : Int), .int (inc cn w 2 : Int), .int (inc cn w 3 : Int)])) b c ∧ (Fr (dsS Z b C tb) H0 H → Fr (dsS Z b C tb) H0 (upd H2 C (.lst [.int (inc cn w 0 : Int), .int (inc cn w 1 : Int), .int (inc cn w 2 : Int), .int (inc cn w 3 : Int)]))) ∧
    StS CL CD CF Z H0 (upd H2 C (.lst [.int (inc cn w 0 : Int), .int (inc cn w 1 : Int), .int (inc cn w 2 : Int), .int (inc cn w 3 : Int)])) C tb (inc cn w) (fmS fm w k (ansF w (Z.l w) (cn w) (Z.p w) (fm w k))) (amF am w k (ansF w (Z.l w) (cn w) (Z.p w) (fm w k))) (n + 1) := by
  obtain ⟨O1, c1, B1⟩ := S.due F B hw he X1
  generalize hR : ansF w (Z.l w) (cn w) (Z.p w) (fm w k) = r at *
  obtain ⟨Cw, fsw, _, eo, _⟩ := (O1 w hw).ins
  have t1 : ∀ {a : Addr} {ob : HO}, H1 a = some ob → (∀ kv, ob ≠ .dT kv) → (∀ C d f, ob ≠ .ins C d f) → a ∉ [Z.o w, Z.F w] := fun {a ob} e n1 n2 => by
    refine not_two (fun z => ?_) fun z => ?_
    · rw [z, eo] at e
      exact n2 _ _ _ (Option.some.inj e).symm
    · by_cases w2 : 2 ≤ w
      · obtain ⟨kvs, e', _⟩ := ((O1 w hw).2.2.1 w2).2
        rw [z, e'] at e
        exact n1 _ (Option.some.inj e).symm
      · rw [z, F.F0 w (by omega), eo] at e
        exact n2 _ _ _ (Option.some.inj e).symm
  have c2 := X2.lst c1 (t1 c1 (fun _ z => nomatch z) fun _ _ _ z => nomatch z)
  obtain ⟨cells, u, y, z, B1⟩ := B1
  have b2 := X2.lst B1.hb (t1 B1.hb (fun _ z => nomatch z) fun _ _ _ z => nomatch z)
  have cc2 := X2.lst B1.hc (t1 B1.hc (fun _ z => nomatch z) fun _ _ _ z => nomatch z)
  have OO : ∀ v, v < 4 → Ob CL CD CF Z v H2 (inc cn w v) (fmS fm w k r v) (n + 1) := fun v hv => by
    by_cases e : v = w
    · subst e
      unfold inc fmS
      rw [if_pos rfl, if_pos rfl]
      exact O2
    · unfold inc fmS
      rw [if_neg e, if_neg e]
      refine ((O1 v hv).fr X2 (not_two (fun z => e (F.oo v w hv hw z)) fun z => ?_) (fun w2 => not_two (fun z => ?_) fun z => ?_) (fun w1 => t1 ((O1 v hv).2.2.2 w1) (fun _ z => nomatch z) fun _ _ _ z => nomatch z)).mono (Nat.le_succ n)
      · obtain ⟨Cv, fv, _, ev, _⟩ := (O1 v hv).ins
        by_cases w2 : 2 ≤ w
        · obtain ⟨kvs, e', _⟩ := ((O1 w hw).2.2.1 w2).2
          rw [z, e'] at ev
          cases ev
        · rw [F.F0 w (by omega)] at z
          exact e (F.oo v w hv hw z)
      · obtain ⟨kvs, e', _⟩ := ((O1 v hv).2.2.1 w2).2
        rw [z, eo] at e'
        cases e'
      · by_cases w3 : 2 ≤ w
        · exact e (F.FF v w hv hw w2 w3 z)
        · obtain ⟨kvs, e', _⟩ := ((O1 v hv).2.2.1 w2).2
          rw [z, F.F0 w (by omega), eo] at e'
          cases e'
  have T2 : Tab H0 H2 tb (amF am w k r) (n + 1) := T1.fr X2 (fun v hv => by
    obtain ⟨loc, h1, _⟩ := T1
    obtain ⟨kvs, e', _⟩ := h1 v hv
    refine not_two (fun z => ?_) fun z => ?_
    · rw [z, eo] at e'; cases e'
    · by_cases w2 : 2 ≤ w
      · exact F.Ft w v hw hv w2 z.symm
      · rw [z, F.F0 w (by omega), eo] at e'
        cases e') fun a m => by
    rcases List.mem_cons.mp m with rfl | m
    · exact F.no w hw
    · rw [List.mem_singleton.mp m]; exact F.nF w hw
  have X3 : Fr [C] H2 (upd H2 C (.lst [.int (inc cn w 0 : Int), .int (inc cn w 1 : Int), .int (inc cn w 2 : Int), .int (inc cn w 3 : Int)])) := (Fr.refl _ _).upd (.head _) (.lst c2) _
  refine ⟨c2, ⟨cells, u, y, z, X3.lst b2 (not_one F.bC), X3.lst cc2 (not_one F.cC), B1.u0⟩, fun XH => ?_, fun v hv => ?_, ?_, upd_same, fun v j hv v2 => ?_⟩
  · have g1 := XH.tail X1 fun a m => by
      rcases he a m with z | z
      · exact .inl (mem_dsS.mpr (.inr (.inr ⟨w, hw, .inr (.inr z)⟩)))
      · exact .inr z
    have g2 := g1.trans (X2.mono fun a m => mem_dsS.mpr (.inr (.inr ⟨w, hw, by
      rcases List.mem_cons.mp m with z | m
      · exact .inl z
      · exact .inr (.inl (List.mem_singleton.mp m))⟩)))
    exact g2.trans (X3.mono fun a m => mem_dsS.mpr (.inr (.inl (List.mem_singleton.mp m))))
  · obtain ⟨Cv, fv, _, ev, _⟩ := (OO v hv).ins
    refine (OO v hv).fr X3 (not_one fun z => by rw [z, c2] at ev; cases ev) (fun w2 => not_one fun z => ?_) (fun w1 => not_one (F.qC v hv w1))
    obtain ⟨kvs, e', _⟩ := ((OO v hv).2.2.1 w2).2
    rw [z, c2] at e'
    cases e'
  · refine T2.fr X3 (fun v hv => not_one fun z => ?_) fun a m => by rw [List.mem_singleton.mp m]; exact F.nC
    obtain ⟨loc, h1, _⟩ := T2
    obtain ⟨kvs, e', _⟩ := h1 v hv
    rw [z, c2] at e'
    cases e'
  · unfold fmS amF
    by_cases e : v = w
    · subst e
      rw [if_pos rfl, if_neg (show ¬ v < 2 by omega)]
      unfold setF setA
      by_cases z : j = k
      · rw [if_pos z, if_pos ⟨rfl, z⟩, trail_snoc, S.ft v k hv v2]
        cases r <;> rfl
      · rw [if_neg z, if_neg (fun q => z q.2), S.ft v j hv v2]
    · rw [if_neg e]
      by_cases l2 : w < 2
      · rw [if_pos l2]; exact S.ft v j hv v2
      · rw [if_neg l2]
        unfold setA
        rw [if_neg (fun q => e q.1)]
        exact S.ft v j hv v2
end
end K44

set_option Elab.async false
set_option maxRecDepth 100000
set_option maxHeartbeats 8000000
set_option exponentiation.threshold 4096
set_option linter.unusedVariables false
/-! the steps -/
namespace K44
open PySem PySem.Spec PyProof.Rows L2 C8 LamX UF
theorem nnw {H : Hp} {a : Addr} {ob : HO} (e : H a = some ob) (nt : ∀ ps, ob ≠ .tbl ps := by intro ps z; cases z) : ¬ Nw H a := fun n => by
  obtain ⟨ps, z⟩ := n ob e
  exact nt ps z
def tbF (a b c d : Addr) : Nat → Addr
  | 0 => a
  | 1 => b
  | 2 => c
  | _ => d
def dsO (Z : Par) (b : Addr) : List Addr := b :: (List.range 4).flatMap fun w => [Z.o w, Z.F w]
theorem mem_dsO {Z : Par} {b a : Addr} : a ∈ dsO Z b ↔ a = b ∨ ∃ w, w < 4 ∧ (a = Z.o w ∨ a = Z.F w) := by
  unfold dsO
  simp only [List.mem_cons, List.mem_flatMap, List.mem_range, List.not_mem_nil, or_false]
theorem ob_callX {X : Cx} {CL CD CF : Addr} {Z : Par} {w : Nat} {H : Hp} {cn m : Nat} {fm : List Key → Nat} {k : List Key} {x y z : V} {Q : VK} (h : Ob CL CD CF Z w H cn fm m) (dp : 1 ≤ w → ∀ d ∈ Z.l w, 0 ≤ d) (m9 : m ≤ 100000) (p1 : 1 ≤ Z.p w) (ek : [x, y, z] = k.map kV) (F0 : w < 2 → Z.F w = Z.o w)
    (cont : ∀ H' : Hp, Fr [Z.o w, Z.F w] H H' → Ob CL CD CF Z w H' (cn + 1) (setF fm k (newF (ansF w (Z.l w) cn (Z.p w) (fm k)) (fm k))) (m + 1) → Q (oV (ansF w (Z.l w) cn (Z.p w) (fm k))) H') :
    ∃ C sp, SO CL CD CF C sp ∧ StX.InsC X H (Z.o w) C ∧ sp [V.ref (Z.o w), x, y, z] H Q C8.E0 := by
  obtain ⟨C, sp, a, b, c⟩ := ob_call h dp m9 p1 ek F0 cont
  exact ⟨C, sp, a, .inr b, c⟩
theorem StS.mono {CL CD CF : Addr} {Z : Par} {H0 H : Hp} {C : Addr} {tb : Nat → Addr} {cn : Nat → Nat} {fm : Nat → List Key → Nat} {am : Nat → List Key → List (Option Int)} {n m : Nat} (S : StS CL CD CF Z H0 H C tb cn fm am n) (l : n ≤ m) : StS CL CD CF Z H0 H C tb cn fm am m :=
  ⟨fun w hw => (S.ob w hw).mono l, S.ta.mono l, S.hc, S.ft⟩
theorem ix4 {w : Nat} (h : w < 4) : ixN 4 (w : Int) = some w := by
  have : w = 0 ∨ w = 1 ∨ w = 2 ∨ w = 3 := by omega
  rcases this with rfl | rfl | rfl | rfl <;> rfl
def spSteps (CL CD CF : Addr) : Sp := fun vs H Q _ => ∃ (b c Th R Pt : Addr) (Z : Par) (rw : Nat → Addr), vs = [.ref b, .ref Th, .ref R, .ref Pt] ∧ Pool H b c ∧ H Th = some (.lst [.ref (Z.o 0), .ref (Z.o 1), .ref (Z.o 2), .ref (Z.o 3)]) ∧ H R = some (.lst [.ref (rw 0), .ref (rw 1), .ref (rw 2), .ref (rw 3)]) ∧
  (∀ w, w < 4 → H (rw w) = some (.lst ((Z.l w).map V.int)) ∧ (Z.l w).length ≤ 49) ∧ (∀ w, w < 4 → 1 ≤ w → ∀ d ∈ Z.l w, 0 ≤ d) ∧ H Pt = some (.lst [.int (Z.p 0 : Int), .int (Z.p 1 : Int), .int (Z.p 2 : Int), .int (Z.p 3 : Int)]) ∧ (∀ w, w < 4 → 1 ≤ Z.p w) ∧
  (∀ w, w < 4 → Ob CL CD CF Z w H 0 (fun _ => 0) 0) ∧ (∀ w v, w < 4 → v < 4 → Z.o w = Z.o v → w = v) ∧ (∀ w v, w < 4 → v < 4 → 2 ≤ w → 2 ≤ v → Z.F w = Z.F v → w = v) ∧ (∀ w, w < 2 → Z.F w = Z.o w) ∧ (Th ≠ b ∧ R ≠ b ∧ Pt ≠ b) ∧ (∀ w, w < 4 → rw w ≠ b) ∧ (∀ w, w < 4 → 1 ≤ w → Z.q w ≠ b) ∧
  ∀ H' : Hp, Fr (dsO Z b) H H' → Q (.bl true) H'
section
variable {P : Program} {w : World} {K : PySem.W.Frag} {mg : Str → Option Value} {base : Heap} {CL CD CF : Addr}
theorem c_law_steps (T : Bl mg) (c_law_draw : Cal P w K mg base 2 "_law_draw" spDraw []) (c_law_call : Cal P w K mg base 3 "_law_call" spCall []) (c_law_due : Cal P w K mg base 2 "_law_due" spDue []) (c_law_equal : Cal P w K mg base 2 "_law_equal" spEqual []) (c_law_whole : Cal P w K mg base 1 "_law_whole" spWhole [])
    (clL : Cls K CL) (clD : Cls K CD) (clF : Cls K CF) (nL : NoAttr K CL "asked") (nD : NoAttr K CD "asked") (nF : NoAttr K CF "asked")
    (cO : ∀ C sp, SO CL CD CF C sp → ∃ g, StX.CallO K C g ∧ FnR P w K mg base C8.CX0 3 g sp) (d : D0 K mg "_law_steps" s_law_steps ["pool", "things", "rows", "patiences"]) : Cal P w K mg base 4 "_law_steps" (spSteps CL CD CF) [] := by
  refine cal d sc_law_steps (fun vs H Q E h => ?_) (fun cdv A outer f s0 H vs Q E hr h => ?_)
  · obtain ⟨b, c, Th, R, Pt, Z, rw, rfl, _⟩ := h
    rfl
  · obtain ⟨b, c, Th, R, Pt, Z, rw, rfl, B, hT, hR, hrw, dp, hPt, p1, ob, oo, FF, F0, ⟨nTb, nRb, nPb⟩, nrw, nqb, k_⟩ := h
    refine ⟨_, (pss_cons (ps_set (i := 4) sc_law_steps.nd rfl (Or.inl rfl) (pe_c c_law_draw hr (by decide) rfl (pa_cons (pv 0) (pa_cons pe_int pa_nil))))
      (pss_cons (ps_set (i := 5) sc_law_steps.nd rfl (Or.inl rfl) (pe_op op_add (pe_op op_add (pv 4) pe_int) (pe_c c_law_draw hr (by decide) rfl (pa_cons (pv 0) (pa_cons pe_int pa_nil)))))
      (pss_cons (ps_set (i := 6) sc_law_steps.nd rfl (Or.inl rfl) (pe_lst (pa_cons (pv 5) (pa_cons (pv 4) (pa_cons (pe_op op_add (pe_op op_add (pv 5) pe_int) (pe_c c_law_draw hr (by decide) rfl (pa_cons (pv 0) (pa_cons pe_int pa_nil)))) pa_nil)))))
      (pss_cons (ps_set (i := 7) sc_law_steps.nd rfl (Or.inl rfl) (pe_lst (pa_cons pe_int (pa_cons pe_int (pa_cons pe_int (pa_cons pe_int pa_nil))))))
      (pss_cons (ps_set (i := 8) sc_law_steps.nd rfl (Or.inl rfl) (pe_lst (pa_cons pe_dnewT (pa_cons pe_dnewT (pa_cons pe_dnewT (pa_cons pe_dnewT pa_nil))))))
      (pss_cons (ps_set (i := 9) sc_law_steps.nd rfl (Or.inl rfl) (pe_c c_law_call hr (by decide) rfl (pa_cons (pv 0) (pa_cons (pv 6) pa_nil))))
      (pss_cons (ps_for PassesOwn.never rfl (pi_range1 rfl T.range (pa_cons (pe_op op_add pe_int (pe_c c_law_draw hr (by decide) rfl (pa_cons (pv 0) (pa_cons pe_int pa_nil)))) pa_nil)) (pg_name (i := 10) sc_law_steps.nd rfl (Or.inl rfl)) (pss_cut (ps_if (pt_cmpR op_eq (pe_c c_law_draw hr (by decide) rfl (pa_cons (pv 0) (pa_cons pe_int pa_nil))) pe_int (nomark _)) (pss_one (ps_set (i := 9) sc_law_steps.nd rfl (Or.inl rfl) (pe_c c_law_call hr (by decide) rfl (pa_cons (pv 0) (pa_cons (pv 6) pa_nil))))) pss_nil)
      (pss_one (ps_for PassesOwn.never rfl (pi_range1 rfl T.range (pa_cons pe_int pa_nil)) (pg_name (i := 11) sc_law_steps.nd rfl (Or.inl rfl)) (pss_cons (ps_if (pt_cmpR op_eq (pe_c c_law_draw hr (by decide) rfl (pa_cons (pv 0) (pa_cons pe_int pa_nil))) pe_int (nomark _)) (pss_one (ps_continue)) pss_nil)
      (pss_cons (ps_set (i := 12) sc_law_steps.nd rfl (Or.inl rfl) (pe_c c_law_due hr (by decide) rfl (pa_cons (pv 11) (pa_cons (pv 9) (pa_cons (pv 2) (pa_cons (pv 3) (pa_cons (pv 7) (pa_cons (pv 8) pa_nil))))))))
      (pss_cons (ps_set (i := 13) sc_law_steps.nd rfl (Or.inl rfl) (pe_ix ix_list (pv 1) (pv 11) (fun _ _ => rfl)))
      (pss_cons (ps_set (i := 14) sc_law_steps.nd rfl (Or.inl rfl) (SupO.pe_callOs (pv 13) cO hr (by decide) (pa_cons (pe_ix ix_tup (pv 9) pe_int (fun _ _ => rfl)) (pa_cons (pe_ix ix_tup (pv 9) pe_int (fun _ _ => rfl)) (pa_cons (pe_ix ix_tup (pv 9) pe_int (fun _ _ => rfl)) pa_nil)))))
      (pss_cons (ps_asg (pe_op op_add (pe_ix ix_list (pv 7) (pv 11) (fun _ _ => rfl)) pe_int) (pg_sub (pv 7) (pv 11) set_list))
      (pss_cons (ps_if (pt_not (pt_val (pe_c c_law_equal hr (by decide) rfl (pa_cons (pv 14) (pa_cons (pv 12) pa_nil))))) (pss_one (ps_ret pe_bl)) pss_nil)
      (pss_one (ps_if (PW.pt (pw_or (pt_not (pt_val (pe_c c_law_whole hr (by decide) rfl (pa_cons (pe_fld (pv 13) rfl) pa_nil)))) (pw_or1 (pt_cmpR op_ne (pe_fld (pv 13) rfl) (pe_ix ix_list (pv 7) (pv 11) (fun _ _ => rfl)) (nomark _))))) (pss_one (ps_ret pe_bl)) pss_nil))))))))))))
      (pss_cons (ps_for PassesOwn.never rfl (pi_range1 rfl T.range (pa_cons pe_int pa_nil)) (pg_name (i := 11) sc_law_steps.nd rfl (Or.inl rfl)) (pss_cons (ps_set (i := 13) sc_law_steps.nd rfl (Or.inl rfl) (pe_ix ix_list (pv 1) (pv 11) (fun _ _ => rfl)))
      (pss_one (ps_if (pt_cmpR op_ne (pe_fld (pv 13) rfl) (pe_ix ix_list (pv 7) (pv 11) (fun _ _ => rfl)) (nomark _)) (pss_one (ps_ret pe_bl)) pss_nil))))
      (pss_one (ps_ret pe_bl)))))))))), ?_⟩
    have clO : ∀ C, (C = CL ∨ C = CD ∨ C = CF) → Cls K C ∧ NoAttr K C "asked" := fun C h => by
      rcases h with rfl | rfl | rfl
      · exact ⟨clL, nL⟩
      · exact ⟨clD, nD⟩
      · exact ⟨clF, nF⟩
    refine ⟨_, rfl, b, c, 200, rfl, B, by decide, by decide +kernel, fun d1 H1 a1 a2 B1 X1 => ?_⟩
    refine ⟨_, rfl, _, _, rfl, rfl, _, rfl, b, c, 20, rfl, B1, by decide, by decide +kernel, fun d2 H2 b1 b2 B2 X2 => ⟨_, _, rfl, rfl, ?_⟩⟩
    have X02 := X1.trans X2
    refine ⟨_, rfl, _, rfl, _, rfl, _, _, rfl, rfl, _, rfl, b, c, 25, rfl, B2, by decide, by decide +kernel, fun d3 H3 c1 c2 B3 X3 => ⟨_, _, rfl, rfl, by show 3 ≤ sizeLine; decide, fun pl npl => ?_⟩⟩
    have X03 := X02.trans X3
    have X04 := X03.new npl (.lst [.int (d1 + 1 + d2), .int d1, .int (d1 + 1 + d2 + 1 + d3)])
    have hpl : upd H3 pl (.lst [.int (d1 + 1 + d2), .int d1, .int (d1 + 1 + d2 + 1 + d3)]) pl = some (.lst [.int (d1 + 1 + d2), .int d1, .int (d1 + 1 + d2 + 1 + d3)]) := upd_same
    have B4 : Pool (upd H3 pl (.lst [.int (d1 + 1 + d2), .int d1, .int (d1 + 1 + d2 + 1 + d3)])) b c := B3.fr0 (Fr.new0 npl _)
    have nwpl : Nw H pl := X03.live pl (.of npl)
    generalize upd H3 pl (.lst [.int (d1 + 1 + d2), .int d1, .int (d1 + 1 + d2 + 1 + d3)]) = H4 at X04 hpl B4
    refine ⟨by show 4 ≤ sizeLine; decide, fun C nC => ?_⟩
    have X05 := X04.new nC (.lst [.int 0, .int 0, .int 0, .int 0])
    have X45 : Fr [] H4 (upd H4 C (.lst [.int 0, .int 0, .int 0, .int 0])) := Fr.new0 nC _
    have hC5 : upd H4 C (.lst [.int 0, .int 0, .int 0, .int 0]) C = some (.lst [.int 0, .int 0, .int 0, .int 0]) := upd_same
    have nwC : Nw H C := X04.live C (.of nC)
    have Cpl : C ≠ pl := (ne_of_none hpl nC).symm
    generalize upd H4 C (.lst [.int 0, .int 0, .int 0, .int 0]) = H5 at X05 X45 hC5
    intro D0 n0
    have X06 := X05.new n0 (.dT [])
    have X56 : Fr [] H5 (upd H5 D0 (.dT [])) := Fr.new0 n0 _
    have h0 : upd H5 D0 (.dT []) D0 = some (.dT []) := upd_same
    have nw0 : Nw H D0 := X05.live D0 (.of n0)
    generalize upd H5 D0 (.dT []) = H6 at X06 X56 h0
    intro D1 n1
    have X07 := X06.new n1 (.dT [])
    have X67 : Fr [] H6 (upd H6 D1 (.dT [])) := Fr.new0 n1 _
    have h1 : upd H6 D1 (.dT []) D1 = some (.dT []) := upd_same
    have nw1 : Nw H D1 := X06.live D1 (.of n1)
    have e10 : D0 ≠ D1 := ne_of_none h0 n1
    generalize upd H6 D1 (.dT []) = H7 at X07 X67 h1
    intro D2 n2
    have X08 := X07.new n2 (.dT [])
    have X78 : Fr [] H7 (upd H7 D2 (.dT [])) := Fr.new0 n2 _
    have h2 : upd H7 D2 (.dT []) D2 = some (.dT []) := upd_same
    have nw2 : Nw H D2 := X07.live D2 (.of n2)
    have e20 : D0 ≠ D2 := ne_of_none (X67.dT h0 not_nil) n2
    have e21 : D1 ≠ D2 := ne_of_none h1 n2
    generalize upd H7 D2 (.dT []) = H8 at X08 X78 h2
    intro D3 n3
    have X09 := X08.new n3 (.dT [])
    have X89 : Fr [] H8 (upd H8 D3 (.dT [])) := Fr.new0 n3 _
    have h3 : upd H8 D3 (.dT []) D3 = some (.dT []) := upd_same
    have nw3 : Nw H D3 := X08.live D3 (.of n3)
    have e30 : D0 ≠ D3 := ne_of_none ((X67.trans X78).dT h0 not_nil) n3
    have e31 : D1 ≠ D3 := ne_of_none (X78.dT h1 not_nil) n3
    have e32 : D2 ≠ D3 := ne_of_none h2 n3
    generalize upd H8 D3 (.dT []) = H9 at X09 X89 h3
    refine ⟨by show 4 ≤ sizeLine; decide, fun Tt nTt => ?_⟩
    have X0A := X09.new nTt (.lst [.ref D0, .ref D1, .ref D2, .ref D3])
    have X9A : Fr [] H9 (upd H9 Tt (.lst [.ref D0, .ref D1, .ref D2, .ref D3])) := Fr.new0 nTt _
    have hTt : upd H9 Tt (.lst [.ref D0, .ref D1, .ref D2, .ref D3]) Tt = some (.lst [.ref D0, .ref D1, .ref D2, .ref D3]) := upd_same
    have nwT : Nw H Tt := X09.live Tt (.of nTt)
    generalize upd H9 Tt (.lst [.ref D0, .ref D1, .ref D2, .ref D3]) = HA at X0A X9A hTt
    have X4A : Fr [] H4 HA := X45.trans (X56.trans (X67.trans (X78.trans (X89.trans X9A))))
    have X5A : Fr [] H5 HA := X56.trans (X67.trans (X78.trans (X89.trans X9A)))
    have hCA := X5A.lst hC5 not_nil
    have hplA := X4A.lst hpl not_nil
    have hD : ∀ w, w < 4 → HA (tbF D0 D1 D2 D3 w) = some (.dT []) := fun w hw => by
      have : w = 0 ∨ w = 1 ∨ w = 2 ∨ w = 3 := by omega
      rcases this with rfl | rfl | rfl | rfl
      · exact (X67.trans (X78.trans (X89.trans X9A))).dT h0 not_nil
      · exact (X78.trans (X89.trans X9A)).dT h1 not_nil
      · exact (X89.trans X9A).dT h2 not_nil
      · exact X9A.dT h3 not_nil
    have nwD : ∀ w, w < 4 → Nw H (tbF D0 D1 D2 D3 w) := fun w hw => by
      have : w = 0 ∨ w = 1 ∨ w = 2 ∨ w = 3 := by omega
      rcases this with rfl | rfl | rfl | rfl
      · exact nw0
      · exact nw1
      · exact nw2
      · exact nw3
    have tt : ∀ w v, w < 4 → v < 4 → tbF D0 D1 D2 D3 w = tbF D0 D1 D2 D3 v → w = v := fun w v hw hv e => by
      have a : w = 0 ∨ w = 1 ∨ w = 2 ∨ w = 3 := by omega
      have b : v = 0 ∨ v = 1 ∨ v = 2 ∨ v = 3 := by omega
      rcases a with rfl | rfl | rfl | rfl <;> rcases b with rfl | rfl | rfl | rfl <;> first | rfl | exact absurd e e10 | exact absurd e e10.symm | exact absurd e e20 | exact absurd e e20.symm | exact absurd e e21 | exact absurd e e21.symm | exact absurd e e30 | exact absurd e e30.symm | exact absurd e e31 | exact absurd e e31.symm | exact absurd e e32 | exact absurd e e32.symm
    have eTt : HA Tt = some (.lst [.ref (tbF D0 D1 D2 D3 0), .ref (tbF D0 D1 D2 D3 1), .ref (tbF D0 D1 D2 D3 2), .ref (tbF D0 D1 D2 D3 3)]) := hTt
    generalize tbF D0 D1 D2 D3 = tb at hD nwD tt eTt
    have pb : pl ≠ b := by
      obtain ⟨cells, u, y, z, B⟩ := B
      exact (ne_nw B.hb nwpl).symm
    refine ⟨_, rfl, _, rfl, b, c, pl, _, _, _, rfl, B4.fr0 X4A, hplA, pb, fun t0 k0 H0 hk0 BH XAB => ?_⟩
    have X0 := X0A.trans XAB
    have Cb : C ≠ b := by
      obtain ⟨cells, u, y, z, B⟩ := B
      exact (ne_nw B.hb nwC).symm
    have Cc : C ≠ c := by
      obtain ⟨cells, u, y, z, B⟩ := B
      exact (ne_nw B.hc nwC).symm
    have Tb : Tt ≠ b := by
      obtain ⟨cells, u, y, z, B⟩ := B
      exact (ne_nw B.hb nwT).symm
    have bH : ∀ {a : Addr} {ob : HO}, HA a = some ob → (∀ xs, ob ≠ .lst xs) → a ≠ b := fun {a ob} e n z => by
      obtain ⟨cells, u, y, z', B⟩ := B4.fr0 X4A
      rw [z, B.hb] at e
      exact n _ (Option.some.inj e).symm
    have hC0 := XAB.lst hCA (not_one Cb)
    have hpl0 := XAB.lst hplA (not_one pb)
    have hTt0 := XAB.lst eTt (not_one Tb)
    have hD0 : ∀ w, w < 4 → H0 (tb w) = some (.dT []) := fun w hw => XAB.dT (hD w hw) (not_one (bH (hD w hw) fun _ z => nomatch z))
    have ob0 : ∀ w, w < 4 → Ob CL CD CF Z w H0 0 (fun _ => 0) 0 := fun w hw => by
      refine (ob w hw).fr X0 (not_one fun z => ?_) (fun w2 => not_one fun z => ?_) (fun w1 => not_one (nqb w hw w1))
      · obtain ⟨C', fs, _, e', _⟩ := (ob w hw).ins
        obtain ⟨cells, u, y, z', B⟩ := B
        rw [z, B.hb] at e'
        cases e'
      · obtain ⟨kvs, e', _⟩ := ((ob w hw).2.2.1 w2).2
        obtain ⟨cells, u, y, z', B⟩ := B
        rw [z, B.hb] at e'
        cases e'
    have FX : Fx Z H0 b c C tb := by
      obtain ⟨cells, u, y, z', B'⟩ := BH
      refine ⟨nnw B'.hb, nnw B'.hc, nnw hC0, fun w hw => ?_, fun w hw => ?_, fun w hw w1 => nnw ((ob0 w hw).2.2.2 w1), fun w hw => nnw (hD0 w hw), oo, tt, FF, F0, fun w v hw hv w2 z => ?_, nqb, fun w hw w1 z => ?_, Cb.symm, Cc.symm⟩
      · obtain ⟨C', fs, _, e', _⟩ := (ob0 w hw).ins
        exact nnw e'
      · by_cases w2 : 2 ≤ w
        · obtain ⟨kvs, e', _⟩ := ((ob0 w hw).2.2.1 w2).2
          exact nnw e'
        · rw [F0 w (by omega)]
          obtain ⟨C', fs, _, e', _⟩ := (ob0 w hw).ins
          exact nnw e'
      · obtain ⟨kvs, e', _⟩ := ((ob w hw).2.2.1 w2).2
        exact absurd z (ne_nw e' (nwD v hv))
      · exact absurd z (ne_nw ((ob w hw).2.2.2 w1) nwC)
    have S0 : StS CL CD CF Z H0 H0 C tb (fun _ => 0) (fun _ _ => 0) (fun _ _ => []) 0 := ⟨ob0, ⟨fun _ _ => none, fun w hw => ⟨[], hD0 w hw, Nat.le_refl _, fun _ => rfl⟩, fun w k hw => .inl ⟨rfl, rfl⟩, (fun w k w' k' a _ _ e => nomatch e), fun _ _ => Nat.le_refl _⟩, hC0, fun _ _ _ _ => rfl⟩
    have hT0 := X0.lst hT (not_one nTb)
    have hR0 := X0.lst hR (not_one nRb)
    have hPt0 := X0.lst hPt (not_one nPb)
    have hrw0 : ∀ w, w < 4 → H0 (rw w) = some (.lst ((Z.l w).map V.int)) ∧ (Z.l w).length ≤ 49 := fun w hw => ⟨X0.lst (hrw w hw).1 (not_one (nrw w hw)), (hrw w hw).2⟩
    have TC : Th ≠ C := ne_nw hT nwC
    have RC : R ≠ C := ne_nw hR nwC
    have PC : Pt ≠ C := ne_nw hPt nwC
    have rC : ∀ w, w < 4 → rw w ≠ C := fun w hw => ne_nw (hrw w hw).1 nwC
    have X59 := X56.trans (X67.trans (X78.trans X89))
    have tC : C ≠ Tt := ne_of_none (X59.lst hC5 not_nil) nTt
    have stay : ∀ {a : Addr} {xs : List V}, H0 a = some (.lst xs) → a ≠ b → a ≠ C → a ∉ dsS Z b C tb := fun {a xs} e h1 h2 m => by
      have oF : ∀ w, w < 4 → a ≠ Z.o w := fun w hw z => by
        obtain ⟨C', fs, _, e', _⟩ := (ob0 w hw).ins
        rw [← z, e] at e'
        cases e'
      rcases mem_dsS.mp m with z | z | ⟨w, hw, z | z | z⟩
      · exact h1 z
      · exact h2 z
      · exact oF w hw z
      · by_cases w2 : 2 ≤ w
        · obtain ⟨kvs, e', _⟩ := ((ob0 w hw).2.2.1 w2).2
          rw [← z, e] at e'
          cases e'
        · rw [F0 w (by omega)] at z
          exact oF w hw z
      · have e' := hD0 w hw
        rw [← z, e] at e'
        cases e'
    have sT := stay hT0 nTb TC
    have sR := stay hR0 nRb RC
    have sP := stay hPt0 nPb PC
    have sr : ∀ w, w < 4 → rw w ∉ dsS Z b C tb := fun w hw => stay (hrw0 w hw).1 (nrw w hw) (rC w hw)
    have sp_ := stay hpl0 pb Cpl.symm
    have st := stay hTt0 Tb tC.symm
    clear X45 X56 X67 X78 X89 X9A X4A X5A X59 X06 X07 X08 X09 X0A X05 X04 X03 X02 h0 h1 h2 h3 e10 e20 e21 e30 e31 e32 n0 n1 n2 n3
    let Pv : Nat → L2.St → Hp → Prop := fun n σ H' => ∃ (cn : Nat → Nat) (fm : Nat → List Key → Nat) (am : Nat → List Key → List (Option Int)) (t : Addr) (k : List Key) (v10 v11 v12 v13 v14 : Option V), Fr (dsS Z b C tb) H0 H' ∧ Pool H' b c ∧ CallAt H' t k ∧ StS CL CD CF Z H0 H' C tb cn fm am n ∧
      σ = [some (.ref b), some (.ref Th), some (.ref R), some (.ref Pt), some (.int d1), some (.int (d1 + 1 + d2)), some (.ref pl), some (.ref C), some (.ref Tt), some (.ref t), v10, v11, v12, v13, v14]
    refine ⟨_, rfl, b, c, 36, rfl, BH, by decide, by decide +kernel, fun d4 Hb f1 f2 Bb Xb => ⟨_, _, rfl, rfl, 6 + d4, rfl, by omega, by omega, ?_⟩⟩
    have bm : b ∈ dsS Z b C tb := .head _
    have toS : ∀ {Ha Hc : Hp}, Fr [b] Ha Hc → Fr (dsS Z b C tb) Ha Hc := fun X => X.mono fun a m => by rw [List.mem_singleton.mp m]; exact bm
    have nt : ∀ {Ha : Hp}, Pool Ha b c → ∀ a ∈ [b], ∀ vs, Ha a ≠ some (.tup vs) := fun {Ha} B a m vs e => by
      obtain ⟨cells, u, y, z, B⟩ := B
      rw [List.mem_singleton.mp m, B.hb] at e
      cases e
    refine for_range (lo := 0) (n := (6 + d4).toNat) (fun i σ H' => Pv (4 * i) σ H') ?_ ?_ ?_
    · exact ⟨_, _, _, t0, k0, _, _, _, _, _, toS Xb, Bb, hk0.fr Xb (nt BH), S0.draw FX BH Xb, rfl⟩
    · rintro i σ H1 hi ⟨cn, fm, am, t, k, v10, v11, v12, v13, v14, X1, B1, hk1, S1, rfl⟩
      have i41 : i ≤ 41 := by omega
      refine ⟨fun σ H' => Pv (4 * i) σ H', ?_, ?_⟩
      · refine ⟨_, rfl, b, c, 3, rfl, B1, by decide, by decide +kernel, fun d5 H2 g1 g2 B2 X2 => ⟨rfl, _, rfl, ite2 (fun _ => ?_) (fun _ => ?_)⟩⟩
        · have X12 := X1.trans (toS X2)
          refine ⟨_, rfl, _, rfl, b, c, pl, _, _, _, rfl, B2, X12.lst hpl0 sp_, pb, fun t' k' H3 hk' B3 X3 => ?_⟩
          exact ⟨_, _, _, t', k', _, _, _, _, _, X12.trans (toS X3), B3, hk', (S1.draw FX B1 X2).draw FX B2 X3, rfl⟩
        · exact ⟨_, _, _, t, k, _, _, _, _, _, X1.trans (toS X2), B2, hk1.fr X2 (nt B1), S1.draw FX B1 X2, rfl⟩
      · rintro σ H2 ⟨cn, fm, am, t, k, v10, v11, v12, v13, v14, X2, B2, hk2, S2, rfl⟩
        refine ⟨_, rfl, by decide, by decide, ?_⟩
        refine for_range (lo := 0) (n := 4) (fun j σ H' => Pv (4 * i + j) σ H') ⟨_, _, _, t, k, _, _, _, _, _, X2, B2, hk2, S2, rfl⟩ ?_ ?_
        · rintro j σ H3 hj ⟨cn, fm, am, t, k, v10, v11, v12, v13, v14, X3, B3, hk3, S3, rfl⟩
          rw [show (0 : Int) + (j : Int) = (j : Int) by omega]
          refine ⟨_, rfl, b, c, 5, rfl, B3, by decide, by decide +kernel, fun d6 H4 g1 g2 B4 X4 => ⟨rfl, _, rfl, ite2 (fun _ => ?_) (fun _ => ?_)⟩⟩
          · exact ⟨_, _, _, t, k, _, _, _, _, _, X3.trans (toS X4), B4, hk3.fr X4 (nt B3), (S3.draw FX B3 X4).mono (by omega), rfl⟩
          have S4 := S3.draw FX B3 X4
          have X04 := X3.trans (toS X4)
          have hk4 := hk3.fr X4 (nt B3)
          refine ⟨_, rfl, _, rfl, _, rfl, _, rfl, _, rfl, _, rfl, j, t, R, Pt, C, Tt, k, H0, rw, tb, Z.l, Z.p, cn, am, 4 * i + j, rfl, hj, hk4, X04.lst hR0 sR, fun w hw => ⟨X04.lst (hrw0 w hw).1 (sr w hw), (hrw0 w hw).2⟩, X04.lst hPt0 sP, p1, S4.hc, X04.lst hTt0 st, S4.ta, fun a n => X04.live a n, by omega, tt, fun w hw => FX.nt w hw, fun es H5 he X5 T5 => ?_⟩
          have ef : fm j k = trail (am j k) ∨ j < 2 := by
            by_cases j2 : 2 ≤ j
            · exact .inl (S4.ft j k hj j2)
            · exact .inr (by omega)
          have ed : dueF j (Z.l j) (cn j) (Z.p j) (am j k) = ansF j (Z.l j) (cn j) (Z.p j) (fm j k) := by
            rw [due_ans]
            rcases ef with e | e
            · rw [e]
            · unfold ansF
              by_cases j0 : j = 0
              · rw [if_pos j0, if_pos j0]
              · rw [if_neg j0, if_neg j0, if_pos (show j = 1 by omega), if_pos (show j = 1 by omega)]
          rw [ed] at T5 ⊢
          have het := fun e m => (he e m).2
          have he := fun e m => (he e m).1
          obtain ⟨O5, c5, B5⟩ := S4.due FX B4 hj he X5
          have X05 := X04.tail X5 fun a m => by
            rcases he a m with z | z
            · exact .inl (mem_dsS.mpr (.inr (.inr ⟨j, hj, .inr (.inr z)⟩)))
            · exact .inr z
          obtain ⟨hk5, ka, kb, kd, ek⟩ := hk4.fr X5 het
          have hk5' : H5 t = some (.tup [.int ka, .int kb, .str kd]) := by rw [hk5, ek]; rfl
          have q5 := SqT.of (K := K) hk5'
          have aT := at4 (f := fun w => .ref (Z.o w)) hj
          have aC := at4 (f := fun w => .int (cn w : Int)) hj
          refine ⟨_, rfl, _, rfl, _, _, _, _, rfl, rfl, SqL.of (X05.lst hT0 sT), aT, ?_⟩
          refine ⟨_, rfl, Z.o j, rfl, _, rfl, _, _, _, _, rfl, rfl, q5, rfl, _, rfl, _, _, _, _, rfl, rfl, q5, rfl, _, rfl, _, _, _, _, rfl, rfl, q5, rfl, ?_⟩
          refine ob_callX (k := k) (O5 j hj) (dp j hj) (by omega) (p1 j hj) (by rw [ek]; rfl) (F0 j) (fun H6 X6 O6 => ?_)
          obtain ⟨c6, B7, X7, S7⟩ := S4.step FX B4 hj he X5 T5 X6 O6
          have X07 := X7 X04
          have o7 := S7.ob j hj
          obtain ⟨C7, f7, hC7, ho7, la7⟩ := o7.ins
          obtain ⟨cl7, n7⟩ := clO C7 hC7
          have ei : inc cn j j = cn j + 1 := by unfold inc; rw [if_pos rfl]
          have hk7 : CallAt (upd H6 C (.lst [.int (inc cn j 0 : Int), .int (inc cn j 1 : Int), .int (inc cn j 2 : Int), .int (inc cn j 3 : Int)])) t k := by
            have tC : t ≠ C := fun z => by rw [z, c5] at hk5; cases hk5
            refine ⟨?_, ka, kb, kd, ek⟩
            rw [upd_ne tC]
            refine X6.tup hk5 (not_two (fun z => ?_) fun z => ?_)
            · obtain ⟨C', fs, _, e', _⟩ := (O5 j hj).ins
              rw [← z, hk5] at e'
              cases e'
            · by_cases j2 : 2 ≤ j
              · obtain ⟨kvs, e', _⟩ := ((O5 j hj).2.2.1 j2).2
                rw [← z, hk5] at e'
                cases e'
              · rw [F0 j (by omega)] at z
                obtain ⟨C', fs, _, e', _⟩ := (O5 j hj).ins
                rw [← z, hk5] at e'
                cases e'
          refine ⟨_, rfl, _, rfl, _, _, _, _, rfl, rfl, SqL.of c6, aC, _, _, rfl, rfl, _, rfl, _, rfl, C, _, _, j, rfl, rfl, c6, ix4 hj, ?_⟩
          rw [set4 (f := fun w => V.int (cn w : Int)) (g := fun w => V.int (inc cn j w : Int)) hj (by show V.int (inc cn j j : Int) = _; rw [ei]; rfl) (fun v hv ne => by show V.int (inc cn j v : Int) = _; unfold inc; rw [if_neg ne])]
          have c7 := S7.hc
          generalize upd H6 C (.lst [.int (inc cn j 0 : Int), .int (inc cn j 1 : Int), .int (inc cn j 2 : Int), .int (inc cn j 3 : Int)]) = H7 at *
          have aC7 := at4 (f := fun w => .int (inc cn j w : Int)) hj
          rw [ei] at la7
          refine ⟨_, rfl, _, rfl, _, rfl, _, rfl, iteF ?_⟩
          refine ⟨_, rfl, Z.o j, C7, Z.d j, f7, _, rfl, ho7, cl7, n7, la7, _, rfl, _, rfl, iteF ⟨_, rfl, Z.o j, C7, _, _, _, rfl, ho7, cl7, n7, la7, _, rfl, _, rfl, _, _, _, _, rfl, rfl, SqL.of c7, aC7, ?_⟩⟩
          refine ⟨rfl, _, rfl, ?_⟩
          rw [ei, show decide (V.int ((cn j + 1 : Nat) : Int) = V.int ((cn j + 1 : Nat) : Int)) = true from decide_eq_true rfl]
          exact iteF ⟨_, _, _, t, k, _, _, _, _, _, X07, B7, hk7, S7, rfl⟩
        · rintro σ H3 ⟨cn, fm, am, t, k, v10, v11, v12, v13, v14, X3, B3, hk3, S3, rfl⟩
          exact ⟨cn, fm, am, t, k, _, _, _, _, _, X3, B3, hk3, S3, rfl⟩
    · rintro σ H1 ⟨cn, fm, am, t, k, v10, v11, v12, v13, v14, X1, B1, hk1, S1, rfl⟩
      have X01 := X0.trans (Fr.refl [b] H0)
      have fin : ∀ H', H' = H1 → Q (.bl true) H' := fun H' e => by
        subst e
        refine k_ H' ((X0.mono fun a m => by rw [List.mem_singleton.mp m]; exact .head _).tail X1 fun a m => ?_)
        rcases mem_dsS.mp m with z | z | ⟨w, hw, z | z | z⟩
        · exact .inl (mem_dsO.mpr (.inl z))
        · exact .inr (by rw [z]; exact nwC)
        · exact .inl (mem_dsO.mpr (.inr ⟨w, hw, .inl z⟩))
        · exact .inl (mem_dsO.mpr (.inr ⟨w, hw, .inr z⟩))
        · exact .inr (by rw [z]; exact nwD w hw)
      refine ⟨_, rfl, by decide, by decide, ?_⟩
      refine for_range (lo := 0) (n := 4) (fun j σ H' => H' = H1 ∧ ∃ v11 v13 : Option V, σ = [some (.ref b), some (.ref Th), some (.ref R), some (.ref Pt), some (.int d1), some (.int (d1 + 1 + d2)), some (.ref pl), some (.ref C), some (.ref Tt), some (.ref t), v10, v11, v12, v13, v14]) ⟨rfl, _, _, rfl⟩ ?_ ?_
      · rintro j σ H' hj ⟨rfl, w11, w13, rfl⟩
        rw [show (0 : Int) + (j : Int) = (j : Int) by omega]
        obtain ⟨C7, f7, hC7, ho7, la7⟩ := (S1.ob j hj).ins
        obtain ⟨cl7, n7⟩ := clO C7 hC7
        have aT := at4 (f := fun w => .ref (Z.o w)) hj
        have aC := at4 (f := fun w => .int (cn w : Int)) hj
        refine ⟨_, rfl, _, rfl, _, _, _, _, rfl, rfl, SqL.of (X1.lst hT0 sT), aT, ?_⟩
        refine ⟨_, rfl, Z.o j, C7, _, _, _, rfl, ho7, cl7, n7, la7, _, rfl, _, rfl, _, _, _, _, rfl, rfl, SqL.of S1.hc, aC, rfl, _, rfl, ?_⟩
        rw [show decide (V.int (cn j : Int) = V.int (cn j : Int)) = true from decide_eq_true rfl]
        exact iteF ⟨rfl, _, _, rfl⟩
      · rintro σ H' ⟨e, w11, w13, rfl⟩
        exact fin H' e
end
end K44

set_option Elab.async false
set_option maxRecDepth 100000
set_option maxHeartbeats 8000000
set_option exponentiation.threshold 4096
set_option linter.unusedVariables false
/-! the law -/
namespace K44
open PySem PySem.Spec PyProof.Rows L2 C8 LamX UF
theorem made {H : Hp} {x dx C : Addr} (nx : H x = none) (nd : H dx = none) (ne : dx ≠ x) : Fr [] H (upd (upd H dx (.own x)) x (.ins C dx [])) := (Fr.new0 nd _).new (by rw [upd_ne ne.symm]; exact nx) _
def npF (a b c d : Nat) : Nat → Nat
  | 0 => a
  | 1 => b
  | 2 => c
  | _ => d
def liF (a b c d : List Int) : Nat → List Int
  | 0 => a
  | 1 => b
  | 2 => c
  | _ => d
theorem four {p : Nat → Prop} (h0 : p 0) (h1 : p 1) (h2 : p 2) (h3 : p 3) : ∀ w, w < 4 → p w := fun w hw => by
  have : w = 0 ∨ w = 1 ∨ w = 2 ∨ w = 3 := by omega
  rcases this with rfl | rfl | rfl | rfl
  · exact h0
  · exact h1
  · exact h2
  · exact h3
section
variable {P : Program} {w : World} {K : PySem.W.Frag} {mg : Str → Option Value} {base : Heap} {CL CD CF fL fa : Addr} {fd : FuncData}
theorem f_law (T : Bl mg) (c_law_pool : Cal P w K mg base 1 "_law_pool" (spPool K) []) (c_law_draw : Cal P w K mg base 2 "_law_draw" spDraw []) (c_law_digits : Cal P w K mg base 3 "_law_digits" spDigits []) (c_law_whole : Cal P w K mg base 1 "_law_whole" spWhole [])
    (c_law_planned : Cal P w K mg base 1 "_law_planned" spPlanned []) (c_law_fair : Cal P w K mg base 1 "_law_fair" spFair []) (c_law_equal : Cal P w K mg base 2 "_law_equal" spEqual []) (c_law_families : Cal P w K mg base 1 "_law_families" (spFam CL CD CF) []) (c_law_steps : Cal P w K mg base 4 "_law_steps" (spSteps CL CD CF) [])
    (c_Losses : Mak P w K mg base 1 "Losses" CL (spInitL K) []) (c_DrawnLosses : Mak P w K mg base 2 "DrawnLosses" CD (spInitD K CD fL) []) (c_FairLosses : Mak P w K mg base 3 "FairLosses" CF (spInitF CF) [])
    (clL : Cls K CL) (clD : Cls K CD) (clF : Cls K CF) (nL : NoAttr K CL "asked") (nD : NoAttr K CD "asked") (nDd : NoAttr K CD "_digits") (nF : NoAttr K CF "asked") (u : SupO.SupT K CD CD "__init__" fL)
    (cO : ∀ C sp, SO CL CD CF C sp → ∃ g, StX.CallO K C g ∧ FnR P w K mg base C8.CX0 3 g sp) (FL : C8.Fun K "law" "law" s_law fa fd) : FnOk P w K mg base C8.CX0 6 fa fd ["script"] (spLaw K) := by
  refine C8.fn0 FL sc_law (fun vs H Q E h => ?_) (fun cdv A outer s0 H vs Q E hr h => ?_)
  · obtain ⟨a, ns, rfl, _⟩ := h
    rfl
  · obtain ⟨a, ns, rfl, hs, hl, k⟩ := h
    refine ⟨_, (pss_cons (ps_set (i := 1) sc_law.nd rfl (Or.inl rfl) (pe_c c_law_pool hr (by decide) rfl (pa_cons (pv 0) pa_nil)))
      (pss_cons (ps_set (i := 2) sc_law.nd rfl (Or.inl rfl) (pe_c c_law_digits hr (by decide) rfl (pa_cons (pv 1) pa_nil)))
      (pss_cons (ps_set (i := 3) sc_law.nd rfl (Or.inl rfl) (pe_c c_law_digits hr (by decide) rfl (pa_cons (pv 1) pa_nil)))
      (pss_cons (ps_set (i := 4) sc_law.nd rfl (Or.inl rfl) (pe_op op_add pe_int (pe_c c_law_draw hr (by decide) rfl (pa_cons (pv 1) (pa_cons pe_int pa_nil)))))
      (pss_cons (ps_set (i := 5) sc_law.nd rfl (Or.inl rfl) (pe_op op_add pe_int (pe_c c_law_draw hr (by decide) rfl (pa_cons (pv 1) (pa_cons pe_int pa_nil)))))
      (pss_cons (ps_set (i := 6) sc_law.nd rfl (Or.inl rfl) (pe_lst (pa_cons (pe_lst pa_nil) (pa_cons (pv 2) (pa_cons (pv 2) (pa_cons (pv 3) pa_nil))))))
      (pss_cons (ps_set (i := 7) sc_law.nd rfl (Or.inl rfl) (pe_lst (pa_cons (pe_callTy call_list_of (by rfl) T.list (by decide +kernel) (pa_cons (pv 2) pa_nil)) (pa_cons (pe_callTy call_list_of (by rfl) T.list (by decide +kernel) (pa_cons (pv 3) pa_nil)) pa_nil))))
      (pss_cons (ps_set (i := 8) sc_law.nd rfl (Or.inl rfl) (pe_callTy call_list_of (by rfl) T.list (by decide +kernel) (pa_cons (pv 2) pa_nil)))
      (pss_cons (ps_set (i := 9) sc_law.nd rfl (Or.inl rfl) (pe_lst (pa_cons (pe_mk0 c_Losses hr (by decide) rfl) (pa_cons (pe_mk c_DrawnLosses hr (by decide) rfl (pa_cons (pv 8) pa_nil)) (pa_cons (pe_mk c_FairLosses hr (by decide) rfl (pa_cons (pv 8) (pa_cons (pv 4) pa_nil))) (pa_cons (pe_mk c_FairLosses hr (by decide) rfl (pa_cons (pv 3) (pa_cons (pv 5) pa_nil))) pa_nil))))))
      (pss_cons (ps_if (pt_cmpR (op_neD hr.units) (pv 8) (pv 2) (nomark _)) (pss_one (ps_ret pe_bl)) pss_nil)
      (pss_cons (ps_expr (pe_bm PySem.F.plainAttrs_list PySem.F.slot_list_insert PySem.F.type_list_insert mt_insert (pv 8) (pa_cons pe_int (pa_cons pe_int pa_nil))))
      (pss_cons (ps_for PassesOwn.never rfl (pi_list (pv 9)) (pg_name (i := 10) sc_law.nd rfl (Or.inl rfl)) (pss_one (ps_if (PW.pt (pw_or (pt_not (pt_val (pe_c c_law_whole hr (by decide) rfl (pa_cons (pe_fld (pv 10) rfl) pa_nil)))) (pw_or1 (pt_cmpR op_ne (pe_fld (pv 10) rfl) pe_int (nomark _))))) (pss_one (ps_ret pe_bl)) pss_nil)))
      (pss_cons (ps_if (pt_not (pt_val (pe_c c_law_families hr (by decide) rfl (pa_cons (pe_ix ix_list (pv 9) pe_int (fun _ _ => rfl)) (pa_cons (pe_ix ix_list (pv 9) pe_int (fun _ _ => rfl)) (pa_cons (pe_ix ix_list (pv 9) pe_int (fun _ _ => rfl)) pa_nil)))))) (pss_one (ps_ret pe_bl)) pss_nil)
      (pss_cons (ps_if (pt_not (pt_val (pe_c c_law_steps hr (by decide) rfl (pa_cons (pv 1) (pa_cons (pv 9) (pa_cons (pv 6) (pa_cons (pe_lst (pa_cons pe_int (pa_cons pe_int (pa_cons (pv 4) (pa_cons (pv 5) pa_nil))))) pa_nil))))))) (pss_one (ps_ret pe_bl)) pss_nil)
      (pss_cons (ps_if (PW.pt (pw_or (pt_cmpR (op_neD hr.units) (pv 2) (pe_ix ix_list (pv 7) pe_int (fun _ _ => rfl)) (nomark _)) (pw_or1 (pt_cmpR (op_neD hr.units) (pv 3) (pe_ix ix_list (pv 7) pe_int (fun _ _ => rfl)) (nomark _))))) (pss_one (ps_ret pe_bl)) pss_nil)
      (pss_cons (ps_set (i := 11) sc_law.nd rfl (Or.inl rfl) (pe_mk c_FairLosses hr (by decide) rfl (pa_cons (pv 2) (pa_cons (pv 4) pa_nil))))
      (pss_cons (ps_set (i := 12) sc_law.nd rfl (Or.inl rfl) (pe_c c_law_fair hr (by decide) rfl (pa_cons (pe_lst pa_nil) (pa_cons (pe_c c_law_planned hr (by decide) rfl (pa_cons (pv 2) (pa_cons pe_int pa_nil))) (pa_cons (pv 4) pa_nil)))))
      (pss_one (ps_ret (pe_and (pe_cmpR op_eq (pe_fld (pv 11) rfl) pe_int (nomark _)) (pe_and (pe_c c_law_equal hr (by decide) rfl (pa_cons (SupO.pe_callOs (pv 11) cO hr (by decide) (pa_cons pe_int (pa_cons pe_int (pa_cons pe_str pa_nil)))) (pa_cons (pv 12) pa_nil))) (pe_one (pe_cmpR op_eq (pe_fld (pv 11) rfl) pe_int (nomark _)))))))))))))))))))))))), ?_⟩
    refine ⟨_, rfl, a, ns, rfl, hs, hl, fun b c H1 nwb nwc B1 X1 => ?_⟩
    refine ⟨_, rfl, b, c, rfl, B1, fun q1 l1 H2 nq1 hq1 l49 l0 B2 X2 => ?_⟩
    refine ⟨_, rfl, b, c, rfl, B2, fun q2 l2 H3 nq2 hq2 m49 dp2 B3 X3 => ?_⟩
    have bq1 : q1 ≠ b := by
      obtain ⟨cells, u, y, z, B⟩ := B1
      exact (ne_nw B.hb nq1).symm
    have bq2 : q2 ≠ b := by
      obtain ⟨cells, u, y, z, B⟩ := B2
      exact (ne_nw B.hb nq2).symm
    have hq13 := X3.lst hq1 (not_one bq1)
    refine ⟨_, rfl, b, c, 6, rfl, B3, by decide, by decide +kernel, fun d1 H4 a1 a2 B4 X4 => ⟨_, _, rfl, rfl, ?_⟩⟩
    obtain ⟨p1, hp1⟩ := Int.eq_ofNat_of_zero_le (show 0 ≤ 1 + d1 by omega)
    have hp1 : 1 + d1 = (p1 : Int) := hp1
    show gName 4 (V.int (1 + d1)) _ _ _
    rw [hp1]
    refine ⟨_, rfl, b, c, 6, rfl, B4, by decide, by decide +kernel, fun d2 H5 b1 b2 B5 X5 => ⟨_, _, rfl, rfl, ?_⟩⟩
    obtain ⟨p2, hp2⟩ := Int.eq_ofNat_of_zero_le (show 0 ≤ 1 + d2 by omega)
    have hp2 : 1 + d2 = (p2 : Int) := hp2
    show gName 5 (V.int (1 + d2)) _ _ _
    rw [hp2]
    have hq15 := X5.lst (X4.lst hq13 (not_one bq1)) (not_one bq1)
    have hq25 := X5.lst (X4.lst hq2 (not_one bq2)) (not_one bq2)
    refine ⟨by show 0 ≤ sizeLine; decide, fun rE nrE => ?_⟩
    have X6 : Fr [] H5 (upd H5 rE (.lst [])) := Fr.new0 nrE _
    have hrE : upd H5 rE (.lst []) rE = some (.lst (([] : List Int).map V.int)) := upd_same
    have nwE : Nw H5 rE := .of nrE
    generalize upd H5 rE (.lst []) = H6 at X6 hrE
    refine ⟨_, rfl, _, rfl, _, rfl, by show 4 ≤ sizeLine; decide, fun R nR => ?_⟩
    have X7 : Fr [] H6 (upd H6 R (.lst [.ref rE, .ref q1, .ref q1, .ref q2])) := Fr.new0 nR _
    have hR : upd H6 R (.lst [.ref rE, .ref q1, .ref q1, .ref q2]) R = some (.lst [.ref rE, .ref q1, .ref q1, .ref q2]) := upd_same
    have nwR : Nw H5 R := X6.live R (.of nR)
    generalize upd H6 R (.lst [.ref rE, .ref q1, .ref q1, .ref q2]) = H7 at X7 hR
    have X57 := X6.trans X7
    refine ⟨_, rfl, q1, _, rfl, .inl (SqL.of (X57.lst hq15 not_nil)), fun k1 nk1 => ?_⟩
    have X8 : Fr [] H7 (upd H7 k1 (.lst (l1.map V.int))) := Fr.new0 nk1 _
    have hk1 : upd H7 k1 (.lst (l1.map V.int)) k1 = some (.lst (l1.map V.int)) := upd_same
    have nwk1 : Nw H5 k1 := X57.live k1 (.of nk1)
    generalize upd H7 k1 (.lst (l1.map V.int)) = H8 at X8 hk1
    have X58 := X57.trans X8
    refine ⟨_, rfl, q2, _, rfl, .inl (SqL.of (X58.lst hq25 not_nil)), fun k2 nk2 => ?_⟩
    have X9 : Fr [] H8 (upd H8 k2 (.lst (l2.map V.int))) := Fr.new0 nk2 _
    have hk2 : upd H8 k2 (.lst (l2.map V.int)) k2 = some (.lst (l2.map V.int)) := upd_same
    have nwk2 : Nw H5 k2 := X58.live k2 (.of nk2)
    generalize upd H8 k2 (.lst (l2.map V.int)) = H9 at X9 hk2
    have X59 := X58.trans X9
    refine ⟨by show 2 ≤ sizeLine; decide, fun kp nkp => ?_⟩
    have XA : Fr [] H9 (upd H9 kp (.lst [.ref k1, .ref k2])) := Fr.new0 nkp _
    have hkp : upd H9 kp (.lst [.ref k1, .ref k2]) kp = some (.lst [.ref k1, .ref k2]) := upd_same
    have nwkp : Nw H5 kp := X59.live kp (.of nkp)
    generalize upd H9 kp (.lst [.ref k1, .ref k2]) = HA at XA hkp
    have X5A := X59.trans XA
    refine ⟨_, rfl, q1, _, rfl, .inl (SqL.of (X5A.lst hq15 not_nil)), fun ln nln => ?_⟩
    have XB : Fr [] HA (upd HA ln (.lst (l1.map V.int))) := Fr.new0 nln _
    have hln : upd HA ln (.lst (l1.map V.int)) ln = some (.lst (l1.map V.int)) := upd_same
    have nwln : Nw H5 ln := X5A.live ln (.of nln)
    have nwlnA : Nw HA ln := .of nln
    generalize upd HA ln (.lst (l1.map V.int)) = HB at XB hln
    have X5B := X5A.trans XB
    intro o0 x0 m0 n0 e0
    have XM0 := made (C := CL) m0 n0 e0
    refine ⟨o0, CL, x0, rfl, upd_same, clL, nL, rfl, ?_⟩
    have XC : Fr [] HB (upd (upd (upd HB x0 (.own o0)) o0 (.ins CL x0 [])) o0 (.ins CL x0 (fsL 0))) := XM0.tail ((Fr.refl [o0] _).upd (.head _) (.ins upd_same) _) (fun a m => .inr (by rw [List.mem_singleton.mp m]; exact .of m0))
    have ho0 : upd (upd (upd HB x0 (.own o0)) o0 (.ins CL x0 [])) o0 (.ins CL x0 (fsL 0)) o0 = some (.ins CL x0 (fsL 0)) := upd_same
    generalize upd (upd (upd HB x0 (.own o0)) o0 (.ins CL x0 [])) o0 (.ins CL x0 (fsL 0)) = HC at XC ho0
    refine ⟨_, rfl, ?_⟩
    intro o1 x1 m1 n1 e1
    have XM1 := made (C := CD) m1 n1 e1
    refine ⟨o1, CD, x1, ln, l1, rfl, upd_same, XM1.lst (XC.lst hln not_nil) not_nil, l49, clD, nD, nDd, u, fun qa HD nwqa XD ho1 hqa => ⟨rfl, ?_⟩⟩
    have XCD : Fr [] HC HD := XM1.tail XD (fun a m => .inr (by rw [List.mem_singleton.mp m]; exact .of m1))
    have nwqa := XM1.live qa nwqa
    refine ⟨_, rfl, _, rfl, ?_⟩
    intro o2 x2 m2 n2 e2
    have XM2 := made (C := CF) m2 n2 e2
    have XBD := XC.trans XCD
    refine ⟨o2, x2, ln, l1, p1, rfl, upd_same, XM2.lst (XBD.lst hln not_nil) not_nil, l49, fun qb F2 HE nwqb nwF2 XE ho2 hqb hF2 => ⟨rfl, ?_⟩⟩
    have XDE : Fr [] HD HE := XM2.tail XE (fun a m => .inr (by rw [List.mem_singleton.mp m]; exact .of m2))
    have nwqb := XM2.live qb nwqb
    have nwF2 := XM2.live F2 nwF2
    have XBE := XBD.trans XDE
    refine ⟨_, rfl, _, rfl, ?_⟩
    intro o3 x3 m3 n3 e3
    have XM3 := made (C := CF) m3 n3 e3
    have X5E := X5B.trans XBE
    refine ⟨o3, x3, q2, l2, p2, rfl, upd_same, XM3.lst (X5E.lst hq25 not_nil) not_nil, m49, fun qc F3 HF nwqc nwF3 XF ho3 hqc hF3 => ⟨rfl, ?_⟩⟩
    have XEF : Fr [] HE HF := XM3.tail XF (fun a m => .inr (by rw [List.mem_singleton.mp m]; exact .of m3))
    have nwqc := XM3.live qc nwqc
    have nwF3 := XM3.live F3 nwF3
    refine ⟨by show 4 ≤ sizeLine; decide, fun Th nTh => ?_⟩
    have XFG : Fr [] HF (upd HF Th (.lst [.ref o0, .ref o1, .ref o2, .ref o3])) := Fr.new0 nTh _
    have hTh : upd HF Th (.lst [.ref o0, .ref o1, .ref o2, .ref o3]) Th = some (.lst [.ref o0, .ref o1, .ref o2, .ref o3]) := upd_same
    have X5F := X5E.trans XEF
    have nwTh : Nw H5 Th := X5F.live Th (.of nTh)
    have nwThB : Nw HB Th := (XBE.trans XEF).live Th (.of nTh)
    generalize upd HF Th (.lst [.ref o0, .ref o1, .ref o2, .ref o3]) = HG at XFG hTh
    have XEG := XEF.trans XFG
    have XDG := XDE.trans XEG
    have XCG := XCD.trans XDG
    have XBG := XC.trans XCG
    have X5G := X5B.trans XBG
    have hlnG := XBG.lst hln not_nil
    have hq1G := X5G.lst hq15 not_nil
    have hq2G := X5G.lst hq25 not_nil
    refine ⟨_, rfl, _, rfl, _, _, dpList (SqL.of hlnG), dpList (SqL.of hq1G), shaped_list _, shaped_list _, ?_⟩
    rw [eqv_ints, decide_eq_true rfl]
    refine ⟨_, rfl, iteF ?_⟩
    refine ⟨_, rfl, .inl ⟨rfl, _, SqL.of hlnG⟩, ln, _, 0, _, rfl, rfl, hlnG, by rw [List.length_map]; exact small1000' (by omega), by decide, by decide, ?_⟩
    have XH : Fr [ln] HG (upd HG ln (.lst ((l1.map V.int).take (0 : Int).toNat ++ [V.int 2] ++ (l1.map V.int).drop (0 : Int).toNat))) := (Fr.refl _ _).upd (.head _) (.lst hlnG) _
    generalize upd HG ln (.lst ((l1.map V.int).take (0 : Int).toNat ++ [V.int 2] ++ (l1.map V.int).drop (0 : Int).toNat)) = HH at XH
    have ik : ∀ {a C d : Addr} {fs : List (Str × V)}, HG a = some (.ins C d fs) → a ≠ ln := fun e z => by rw [z, hlnG] at e; cases e
    have dk : ∀ {a : Addr} {kv : List (List Key × V)}, HG a = some (.dT kv) → a ≠ ln := fun e z => by rw [z, hlnG] at e; cases e
    have g0 := XCG.ins ho0 not_nil
    have g1 := XDG.ins ho1 not_nil
    have g2 := XEG.ins ho2 not_nil
    have g3 := XFG.ins ho3 not_nil
    have gF2 := hF2.fr XEG not_nil
    have gF3 := hF3.fr XFG not_nil
    have hF2H := gF2.fr XH (not_one (by obtain ⟨kv, e, _⟩ := gF2; exact dk e))
    have hF3H := gF3.fr XH (not_one (by obtain ⟨kv, e, _⟩ := gF3; exact dk e))
    have h0 := XH.ins g0 (not_one (ik g0))
    have h1 := XH.ins g1 (not_one (ik g1))
    have h2 := XH.ins g2 (not_one (ik g2))
    have h3 := XH.ins g3 (not_one (ik g3))
    have nqa : qa ≠ ln := (ne_nw (XC.lst hln not_nil) nwqa).symm
    have nqb : qb ≠ ln := (ne_nw (XBD.lst hln not_nil) nwqb).symm
    have nqc : qc ≠ ln := (ne_nw (XBE.lst hln not_nil) nwqc).symm
    have hqaH := XH.lst (XDG.lst hqa not_nil) (not_one nqa)
    have hqbH := XH.lst (XEG.lst hqb not_nil) (not_one nqb)
    have hqcH := XH.lst (XFG.lst hqc not_nil) (not_one nqc)
    have hThH := XH.lst hTh (not_one (ne_nw hln nwThB).symm)
    have hA : ∀ {a : Addr} {xs : List V}, HA a = some (.lst xs) → HH a = some (.lst xs) := fun e => XH.lst ((XB.trans XBG).lst e not_nil) (not_one (ne_nw e nwlnA))
    have h5 : ∀ {a : Addr} {xs : List V}, H5 a = some (.lst xs) → HH a = some (.lst xs) := fun e => XH.lst (X5G.lst e not_nil) (not_one (ne_nw e nwln))
    have hRH := hA ((X8.trans (X9.trans XA)).lst hR not_nil)
    have hrEH := hA ((X7.trans (X8.trans (X9.trans XA))).lst hrE not_nil)
    have hk1H := hA ((X9.trans XA).lst hk1 not_nil)
    have hk2H := hA (XA.lst hk2 not_nil)
    have hkpH := hA hkp
    have hq1H := h5 hq15
    have hq2H := h5 hq25
    have BH : Pool HH b c := by
      obtain ⟨cells, u, y, z, B⟩ := B5
      exact ⟨cells, u, y, z, h5 B.hb, h5 B.hc, B.u0⟩
    have o01 : o0 ≠ o1 := ne_of_none ho0 m1
    have o02 : o0 ≠ o2 := ne_of_none (XCD.ins ho0 not_nil) m2
    have o03 : o0 ≠ o3 := ne_of_none ((XCD.trans XDE).ins ho0 not_nil) m3
    have o12 : o1 ≠ o2 := ne_of_none ho1 m2
    have o13 : o1 ≠ o3 := ne_of_none (XDE.ins ho1 not_nil) m3
    have o23 : o2 ≠ o3 := ne_of_none ho2 m3
    have F23 : F2 ≠ F3 := by
      obtain ⟨kv, e, _⟩ := hF2
      exact ne_nw e nwF3
    have nb : ∀ {a : Addr}, Nw H5 a → a ≠ b := fun n => by
      obtain ⟨cells, u, y, z, B⟩ := B5
      exact (ne_nw B.hb n).symm
    have nwqa5 : Nw H5 qa := (X5B.trans XC).live qa nwqa
    have nwqb5 : Nw H5 qb := (X5B.trans XBD).live qb nwqb
    have nwqc5 : Nw H5 qc := X5E.live qc nwqc
    clear XM0 XM1 XM2 XM3 g0 g1 g2 g3 gF2 gF3 X6 X7 X8 X9 XA XB XC XD XE XF XH XFG XEG XDG XCG XBG XCD XBD XDE XBE XEF X57 X58 X59 X5A X5B X5E X5F X5G hA ik dk
    obtain ⟨Z, eZ⟩ : ∃ Z : Par, Z = ⟨tbF o0 o1 o2 o3, tbF x0 x1 x2 x3, tbF qa qa qb qc, tbF o0 o1 F2 F3, npF 1 1 p1 p2, liF [] l1 l1 l2⟩ := ⟨_, rfl⟩
    have ob : ∀ w, w < 4 → Ob CL CD CF Z w HH 0 (fun _ => 0) 0 := by
      rw [eZ]
      refine four ⟨fun _ => h0, fun z => (nomatch z), fun z => absurd z (by decide), fun z => absurd z (by decide)⟩ ⟨fun z => (nomatch z), fun _ => h1, fun z => absurd z (by decide), fun _ => hqaH⟩ ⟨fun z => (nomatch z), fun z => (nomatch z), fun _ => ⟨h2, hF2H⟩, fun _ => hqbH⟩ ⟨fun z => (nomatch z), fun z => (nomatch z), fun _ => ⟨h3, hF3H⟩, fun _ => hqcH⟩
    have clO : ∀ C, (C = CL ∨ C = CD ∨ C = CF) → Cls K C ∧ NoAttr K C "asked" := fun C h => by
      rcases h with rfl | rfl | rfl
      · exact ⟨clL, nL⟩
      · exact ⟨clD, nD⟩
      · exact ⟨clF, nF⟩
    have hThZ : HH Th = some (.lst [.ref (Z.o 0), .ref (Z.o 1), .ref (Z.o 2), .ref (Z.o 3)]) := by rw [eZ]; exact hThH
    refine ⟨_, rfl, Th, rfl, ⟨_, SqL.of hThZ⟩, ?_⟩
    refine for_list (xs := [.ref (Z.o 0), .ref (Z.o 1), .ref (Z.o 2), .ref (Z.o 3)]) (fun i σ H' => H' = HH ∧ ∃ v10 : Option V, σ = [some (.ref a), some (.ref b), some (.ref q1), some (.ref q2), some (.int (p1 : Int)), some (.int (p2 : Int)), some (.ref R), some (.ref kp), some (.ref ln), some (.ref Th), v10, none, none]) ⟨rfl, _, rfl⟩ (fun i σ H' _ pv => by rw [pv.1]; exact SqL.of hThZ) (fun i v σ H' hv pv => ?_) (fun σ H' pv => ?_)
    · obtain ⟨rfl, v10, rfl⟩ := pv
      obtain ⟨i4, rfl⟩ : i < 4 ∧ v = .ref (Z.o i) := by
        rcases i with _ | _ | _ | _ | i
        · cases hv; exact ⟨by decide, rfl⟩
        · cases hv; exact ⟨by decide, rfl⟩
        · cases hv; exact ⟨by decide, rfl⟩
        · cases hv; exact ⟨by decide, rfl⟩
        · cases hv
      obtain ⟨C7, f7, hC7, ho7, la7⟩ := (ob i i4).ins
      obtain ⟨cl7, n7⟩ := clO C7 hC7
      refine ⟨_, rfl, Z.o i, C7, _, _, _, rfl, ho7, cl7, n7, la7, _, rfl, _, rfl, iteF ⟨_, rfl, Z.o i, C7, _, _, _, rfl, ho7, cl7, n7, la7, rfl, _, rfl, ?_⟩⟩
      rw [show decide (V.int ((0 : Nat) : Int) = V.int 0) = true from decide_eq_true rfl]
      exact iteF ⟨rfl, _, rfl⟩
    · obtain ⟨rfl, v10, rfl⟩ := pv
      have q9 := SqL.of (K := K) hThH
      refine ⟨_, rfl, _, _, _, _, rfl, rfl, q9, rfl, _, rfl, _, _, _, _, rfl, rfl, q9, rfl, _, rfl, _, _, _, _, rfl, rfl, q9, rfl, o0, o1, o2, x0, x1, x2, _, _, _, rfl, h0, h1, h2, _, rfl, iteF ?_⟩
      refine ⟨_, rfl, _, rfl, _, rfl, _, rfl, _, rfl, by show 4 ≤ sizeLine; decide, fun Pt nPt => ?_⟩
      have XI : Fr [] H' (upd H' Pt (.lst [.int 1, .int 1, .int (p1 : Int), .int (p2 : Int)])) := Fr.new0 nPt _
      have hPt : upd H' Pt (.lst [.int 1, .int 1, .int (p1 : Int), .int (p2 : Int)]) Pt = some (.lst [.int 1, .int 1, .int (p1 : Int), .int (p2 : Int)]) := upd_same
      have nPtH : Nw H' Pt := .of nPt
      generalize upd H' Pt (.lst [.int 1, .int 1, .int (p1 : Int), .int (p2 : Int)]) = HI at XI hPt
      have Ptb : Pt ≠ b := by
        obtain ⟨cells, u, y, z, B⟩ := BH
        exact (ne_nw B.hb nPtH).symm
      have g0 : 1 ≤ p1 := by omega
      have g1 : 1 ≤ p2 := by omega
      refine ⟨b, c, Th, R, Pt, Z, tbF rE q1 q1 q2, rfl, BH.fr0 XI, XI.lst hThZ not_nil, XI.lst hRH not_nil, ?_, ?_, ?_, ?_, fun w hw => (ob w hw).fr XI not_nil (fun _ => not_nil) fun _ => not_nil, ?_, ?_, ?_, ⟨nb nwTh, nb nwR, Ptb⟩, ?_, ?_, fun HJ XJ => ?_⟩
      · rw [eZ]
        exact four ⟨XI.lst hrEH not_nil, Nat.zero_le _⟩ ⟨XI.lst hq1H not_nil, l49⟩ ⟨XI.lst hq1H not_nil, l49⟩ ⟨XI.lst hq2H not_nil, m49⟩
      · rw [eZ]
        exact four (fun z => absurd z (by decide)) (fun _ => l0) (fun _ => l0) (fun _ => dp2)
      · rw [eZ]; exact hPt
      · rw [eZ]
        exact four (Nat.le_refl 1) (Nat.le_refl 1) g0 g1
      · rw [eZ]
        intro w v hw hv e
        have a : w = 0 ∨ w = 1 ∨ w = 2 ∨ w = 3 := by omega
        have b : v = 0 ∨ v = 1 ∨ v = 2 ∨ v = 3 := by omega
        rcases a with rfl | rfl | rfl | rfl <;> rcases b with rfl | rfl | rfl | rfl <;> first | rfl | exact absurd e o01 | exact absurd e o01.symm | exact absurd e o02 | exact absurd e o02.symm | exact absurd e o03 | exact absurd e o03.symm | exact absurd e o12 | exact absurd e o12.symm | exact absurd e o13 | exact absurd e o13.symm | exact absurd e o23 | exact absurd e o23.symm
      · rw [eZ]
        intro w v hw hv w2 v2 e
        have a : w = 2 ∨ w = 3 := by omega
        have b : v = 2 ∨ v = 3 := by omega
        rcases a with rfl | rfl <;> rcases b with rfl | rfl <;> first | rfl | exact absurd e F23 | exact absurd e F23.symm
      · rw [eZ]
        intro w w2
        have a : w = 0 ∨ w = 1 := by omega
        rcases a with rfl | rfl <;> rfl
      · exact four (nb nwE) (fun z => bq1 z) (fun z => bq1 z) (fun z => bq2 z)
      · rw [eZ]
        exact four (fun z => absurd z (by decide)) (fun _ => nb nwqa5) (fun _ => nb nwqb5) (fun _ => nb nwqc5)
      have st : ∀ {a : Addr} {xs : List V}, H' a = some (.lst xs) → a ≠ b → HJ a = some (.lst xs) := fun {a xs} e nb' => XJ.lst (XI.lst e not_nil) fun m => by
        have oF : ∀ w, w < 4 → a ≠ Z.o w := fun w hw z => by
          obtain ⟨C', fs, _, e', _⟩ := (ob w hw).ins
          rw [← z, e] at e'
          cases e'
        rcases mem_dsO.mp m with z | ⟨w, hw, z | z⟩
        · exact nb' z
        · exact oF w hw z
        · by_cases w2 : 2 ≤ w
          · obtain ⟨kvs, e', _⟩ := ((ob w hw).2.2.1 w2).2
            rw [← z, e] at e'
            cases e'
          · have e0 : Z.F w = Z.o w := by
              rw [eZ]
              have a : w = 0 ∨ w = 1 := by omega
              rcases a with rfl | rfl <;> rfl
            rw [e0] at z
            exact oF w hw z
      have hq1J := st hq1H bq1
      have hq2J := st hq2H bq2
      have hk1J := st hk1H (nb nwk1)
      have hk2J := st hk2H (nb nwk2)
      have hkpJ := st hkpH (nb nwkp)
      refine ⟨_, rfl, iteF ?_⟩
      refine ⟨_, rfl, _, rfl, _, _, _, _, rfl, rfl, SqL.of hkpJ, rfl, _, _, dpList (SqL.of hq1J), dpList (SqL.of hk1J), shaped_list _, shaped_list _, ?_⟩
      rw [eqv_ints, decide_eq_true rfl]
      refine ⟨_, rfl, iteF ⟨_, rfl, _, rfl, _, _, _, _, rfl, rfl, SqL.of hkpJ, rfl, _, _, dpList (SqL.of hq2J), dpList (SqL.of hk2J), shaped_list _, shaped_list _, ?_⟩⟩
      rw [eqv_ints, decide_eq_true rfl]
      refine ⟨_, rfl, iteF ?_⟩
      refine ⟨_, rfl, _, rfl, ?_⟩
      intro o4 x4 m4 n4 e4
      have XM4 := made (C := CF) m4 n4 e4
      refine ⟨o4, x4, q1, l1, p1, rfl, upd_same, XM4.lst hq1J not_nil, l49, fun qd F4 HK nwqd nwF4 XK ho4 hqd hF4 => ⟨rfl, ?_⟩⟩
      have XJK : Fr [] HJ HK := XM4.tail XK (fun a m => .inr (by rw [List.mem_singleton.mp m]; exact .of m4))
      refine ⟨by show 0 ≤ sizeLine; decide, fun as nas => ?_⟩
      have XL : Fr [] HK (upd HK as (.lst [])) := Fr.new0 nas _
      have has : upd HK as (.lst []) as = some (.lst (([] : List (Option Int)).map oV)) := upd_same
      generalize upd HK as (.lst []) = HL at XL has
      refine ⟨_, rfl, q1, l1, 0, rfl, (XJK.trans XL).lst hq1J not_nil, l49, fun HM XM => ?_⟩
      refine ⟨_, rfl, as, [], planF l1 0, p1, rfl, XM.lst has not_nil, by decide, g0, fun HN XN => ?_⟩
      have XKN := XL.trans (XM.trans XN)
      have ho5 := XKN.ins ho4 not_nil
      refine ⟨_, rfl, o4, CF, x4, _, _, rfl, ho5, clF, nF, fF_asked, rfl, _, rfl, ?_⟩
      rw [show decide (V.int ((0 : Nat) : Int) = V.int 0) = true from decide_eq_true rfl]
      refine iteT ?_
      refine ⟨_, rfl, o4, rfl, CF, _, .inr (.inr ⟨rfl, rfl⟩), .inr ⟨_, _, ho5⟩, o4, x4, qd, F4, 0, p1, 0, l1, (fun _ => 0), callK 0 1 "quick", _, _, _, rfl, rfl, ho5, XKN.lst hqd not_nil, l0, hF4.fr XKN not_nil, by decide, g0, fun HO XO ho6 hF6 => ?_⟩
      have ed : fairF [] (planF l1 0) p1 = if p1 - 1 ≤ 0 then none else planF l1 0 := rfl
      rw [ed]
      refine ⟨_, rfl, (if p1 - 1 ≤ 0 then none else planF l1 0), rfl, _, rfl, iteT ?_⟩
      refine ⟨_, rfl, o4, CF, x4, _, _, rfl, ho6, clF, nF, fF_asked, rfl, ?_⟩
      rw [show decide (V.int ((0 + 1 : Nat) : Int) = V.int 1) = true from decide_eq_true rfl]
      exact k HO
end
end K44
namespace K44
open PySem PySem.Spec PyProof.Rows L2 C8 LamX UF
theorem raw0 {P : Program} {w : World} {K : PySem.W.Frag} {mg : Str → Option Value} {base : Heap} {k : Nat} {f : Addr} {fd : FuncData} {ps : List Str} {sp : Sp} (F : FnOk P w K mg base C8.CX0 k f fd ps sp) (b : L2.Binds K fd ps []) : FnR P w K mg base C8.CX0 k f sp :=
  (F.raw b .nil).imp fun vs H Q E h => by rw [List.append_nil]; exact h
/-- from the names of the text to the law's promise -/
theorem fin {l : PySem.W.OpenLaw} {w : World} {K : PySem.W.Frag} {mg : Str → Option Value} {fa CL CD CF fL fD fF : Addr} (T : Bl mg) (D : Ds l.prog K mg CL CD CF fL fD fF) (L : LawP K mg s_law fa) :
    ∃ fd : FuncData, (∀ (s : Shared) (u : Value), BindsTo s fd ⟨[u], []⟩ [("script", u)]) ∧ ∀ base : Heap, K.In base → base.Ns mainGlobals mg → FnOk l.prog w K mg base C8.CX0 6 fa fd ["script"] (spLaw K) := by
  obtain ⟨fd, FL, bt⟩ := L
  refine ⟨fd, bt, fun base _ _ => ?_⟩
  have tL := D.t_Losses
  have tD := D.t_DrawnLosses
  have tF := D.t_FairLosses
  have p_draw : Cal l.prog w K mg base 2 "_law_draw" spDraw [] := c_law_draw T (c_law_mixed T D.d_law_mixed) D.d_law_draw
  have p_whole : Cal l.prog w K mg base 1 "_law_whole" spWhole [] := c_law_whole T D.d_law_whole
  have p_planned : Cal l.prog w K mg base 1 "_law_planned" spPlanned [] := c_law_planned T D.d_law_planned
  have p_fair : Cal l.prog w K mg base 1 "_law_fair" spFair [] := c_law_fair T D.d_law_fair
  have p_equal : Cal l.prog w K mg base 2 "_law_equal" spEqual [] := c_law_equal T p_whole D.d_law_equal
  have p_due : Cal l.prog w K mg base 2 "_law_due" spDue [] := c_law_due T p_planned p_fair D.d_law_due
  have p_fam : Cal l.prog w K mg base 1 "_law_families" (spFam CL CD CF) [] := c_law_families T D
  obtain ⟨fdL, ML, FunL, bL⟩ := tL.ini
  have kL : FnOk l.prog w K mg base C8.CX0 1 fL fdL ["self"] (spInitL K) := k_initL FunL
  obtain ⟨fdD, cD, ccD, MD, SD, bD⟩ := tD.ini
  have kD : FnOk l.prog w K mg base C8.CX0 2 fD fdD ["self", "digits"] (spInitD K CD fL) := k_initD SD T (raw0 kL bL)
  obtain ⟨fdF, cF, ccF, MF, SF, bF⟩ := tF.ini
  have kF : FnOk l.prog w K mg base C8.CX0 3 fF fdF ["self", "digits", "patience"] (spInitF CF) := k_initF SF tF.cl tF.n_asked tF.n_digits tF.n_patience tF.n_failed tF.u_FairLosses_init tF.u_DrawnLosses_init (raw0 kD bD)
  have p_L : Mak l.prog w K mg base 1 "Losses" CL (spInitL K) [] := ⟨fL, fdL, _, [], ML, kL, tL.mgC, bL, .nil⟩
  have p_D : Mak l.prog w K mg base 2 "DrawnLosses" CD (spInitD K CD fL) [] := ⟨fD, fdD, _, [], MD, kD, tD.mgC, bD, .nil⟩
  have p_F : Mak l.prog w K mg base 3 "FairLosses" CF (spInitF CF) [] := ⟨fF, fdF, _, [], MF, kF, tF.mgC, bF, .nil⟩
  have cO : ∀ C sp, SO CL CD CF C sp → ∃ g, StX.CallO K C g ∧ FnR l.prog w K mg base C8.CX0 3 g sp := fun C sp h => by
    rcases h with ⟨rfl, rfl⟩ | ⟨rfl, rfl⟩ | ⟨rfl, rfl⟩
    · obtain ⟨g, fd, c, F, b⟩ := tL.call
      exact ⟨g, c, (raw0 (k_callL F tL.cl tL.n_asked) b).mono (by decide)⟩
    · obtain ⟨g, fd, c, F, b⟩ := tD.call
      exact ⟨g, c, (raw0 (k_callD F (m_drawn T tD.m_drawn tD.cl tD.n_asked tD.n_digits)) b).mono (by decide)⟩
    · obtain ⟨g, fd, c, F, b⟩ := tF.call
      exact ⟨g, c, (raw0 (k_callF F tF.cl tF.n_patience tF.n_failed (m_drawn T tF.m_drawn tF.cl tF.n_asked tF.n_digits)) b).mono (by decide)⟩
  have p_steps : Cal l.prog w K mg base 4 "_law_steps" (spSteps CL CD CF) [] := c_law_steps T p_draw (c_law_call T p_draw D.d_law_call) p_due p_equal p_whole tL.cl tD.cl tF.cl tL.n_asked tD.n_asked tF.n_asked cO D.d_law_steps
  exact f_law T (c_law_pool T D.d_law_pool) p_draw (c_law_digits T p_draw D.d_law_digits) p_whole p_planned p_fair p_equal p_fam p_steps p_L p_D p_F tL.cl tD.cl tF.cl tL.n_asked tD.n_asked tD.n_digits tF.n_asked tD.u_DrawnLosses_init cO FL
theorem walk {l : PySem.W.OpenLaw} {q : Program} {loose : List Str} {XP : (Str → Option Value) → Heap → Prop} {YP : World → Heap → Prop} {d : DefRec} {K : Params → PySem.W.Frag} (hn : l.most = some 63) (hdf : d.params.defaults = [])
    (hY : ∀ (w : World) (h : Heap), YP w h → (K w.params).In h)
    (F : ∀ (w : World) (mg : Str → Option Value) (fa : Addr) (h : Heap), (K w.params).In h → h.Ns mainGlobals mg → mg d.name = some (.ref fa) →
      ∃ fd : FuncData, (∀ (s : Shared) (u : Value), BindsTo s fd ⟨[u], []⟩ [("script", u)]) ∧ ∀ base : Heap, (K w.params).In base → base.Ns mainGlobals mg → FnOk l.prog w (K w.params) mg base C8.CX0 6 fa fd ["script"] (spLaw (K w.params))) :
    PySem.W.WalkO q loose XP YP l.row.toRowW d [] (fun f vs => PySem.call f vs) := walkN ⟨rfl, by decide, by decide⟩ hn hdf hY F
end K44

set_option Elab.async false
set_option maxRecDepth 100000
open PySem PySem.W PyProof.Rows
set_option maxRecDepth 100000 in
set_option maxHeartbeats 0 in
theorem PySem.Challenge.cw_livingroll_k44_answers_of_losses_holds : PySem.Challenge.rw_livingroll_k44_answers_of_losses.Holds := by
  w_on; o_law; k_head; (case hw => w_witness2)
  k_fill
  refine K44.walk (l := PySem.Challenge.rw_livingroll_k44_answers_of_losses) rfl rfl (fun w h Y => PySem.W.kIn_of Y) ?F
  case F =>
    intro w mg fa h KX G hmg
    refine' K44.fin ?B ?D ?L
    (case B =>
      refine' UF.bl_mk KX G ?z0 ?z1 ?z2 ?z3 ?z4 ?z5 ?z6 ?z7 ?z8 ?z9 ?z10 ?z11 ?z12 ?z13 ?z14 ?z15 ?z16 ?z17 ?z18 ?z19 ?z20
      (case z0 => k_is)
      (case z1 => k_is)
      (case z2 => k_is)
      (case z3 => k_is)
      (case z4 => k_is)
      (case z5 => k_is)
      (case z6 => k_is)
      (case z7 => k_is)
      (case z8 => k_is)
      (case z9 => k_is)
      (case z10 => k_is)
      (case z11 => k_is)
      (case z12 => k_is)
      (case z13 => k_is)
      (case z14 => k_is)
      (case z15 => k_is)
      (case z16 => k_is)
      (case z17 => k_is)
      (case z18 => k_is)
      (case z19 => k_is)
      (case z20 => k_is))
    (case D =>
      refine' @K44.Ds.mk _ _ _ _ _ _ _ _ _ ?law_pool ?law_mixed ?law_draw ?law_whole ?law_digits ?law_planned ?law_fair ?law_equal ?law_families ?law_due ?law_call ?law_steps ?ocg ?oct ?is_Losses_Losses ?is_Losses_DrawnLosses ?is_Losses_FairLosses ?t_Losses ?is_DrawnLosses_Losses ?is_DrawnLosses_DrawnLosses ?is_DrawnLosses_FairLosses ?t_DrawnLosses ?is_FairLosses_Losses ?is_FairLosses_DrawnLosses ?is_FairLosses_FairLosses ?t_FairLosses
      (case t_Losses =>
        refine' K44.T_Losses.mk ?cl ?mgC ?n_asked ?ini ?call ?oc ?mo
        (case mgC =>
          refine' PySem.W.mg_of KX G ?a
          (case a => k_is))
        (case cl =>
          refine' UF.cls_mk ?a ?b ?c ?d
          (case a => k_is)
          (case b => k_is)
          (case c => k_is)
          (case d => k_is))
        (case n_asked => (show PySem.W.findIn _ _ _ = some none); k_is)
        (case ini =>
          refine' SupO.iniA_mk ?m ?a ?i ?kc ?l ?c (fun _ _ _ _ _ _ us hl => match us, hl with | [_], _ => rfl)
          (case m => k_is)
          (case a => k_is)
          (case i => k_is)
          (case kc => k_is)
          (case l => k_is)
          (case c => k_is))
        (case call =>
          refine' SupO.callP_mk ?a ?i ?fi ?l ?c (fun _ _ _ _ _ _ us hl => match us, hl with | [_, _, _, _], _ => rfl)
          (case a => k_is)
          (case i => k_is)
          (case fi => k_is)
          (case l => k_is)
          (case c => k_is))
        (case oc => k_is)
        (case mo => k_is))
      (case t_DrawnLosses =>
        refine' K44.T_DrawnLosses.mk ?cl ?mgC ?n_digits ?n_asked ?ini ?call ?m_drawn ?u_DrawnLosses_init ?oc ?mo
        (case mgC =>
          refine' PySem.W.mg_of KX G ?a
          (case a => k_is))
        (case cl =>
          refine' UF.cls_mk ?a ?b ?c ?d
          (case a => k_is)
          (case b => k_is)
          (case c => k_is)
          (case d => k_is))
        (case n_digits => (show PySem.W.findIn _ _ _ = some none); k_is)
        (case n_asked => (show PySem.W.findIn _ _ _ = some none); k_is)
        (case ini =>
          refine' ⟨_, _, _, ⟨?m, ?a, ?i, ?kc⟩, SupO.supD_mk ?l ?cd ?lc ?hv ?hf ?lcc ?cls ?glo ?top ?self ?opq ?ks ?kc2 ?ka, SupO.sup_binds (fun _ _ _ _ _ us hl => match us, hl with | [_, _], _ => rfl)⟩
          (case m => k_is)
          (case a => k_is)
          (case i => k_is)
          (case kc => k_is)
          (case l => k_is)
          (case cd => k_is)
          (case lc => k_is)
          (case hv => first | rfl | decide +kernel | kernel_rfl)
          (case hf => first | rfl | decide +kernel | kernel_rfl)
          (case lcc => k_is)
          (case cls => k_is)
          (case glo => k_is)
          (case top => first | rfl | decide +kernel | kernel_rfl)
          (case self => first | rfl | decide +kernel | kernel_rfl)
          (case opq => k_is)
          (case ks => first | rfl | decide +kernel | kernel_rfl)
          (case kc2 => first | rfl | decide +kernel | kernel_rfl)
          (case ka => first | rfl | decide +kernel | kernel_rfl))
        (case call =>
          refine' SupO.callP_mk ?a ?i ?fi ?l ?c (fun _ _ _ _ _ _ us hl => match us, hl with | [_, _, _, _], _ => rfl)
          (case a => k_is)
          (case i => k_is)
          (case fi => k_is)
          (case l => k_is)
          (case c => k_is))
        (case m_drawn =>
          refine' UF.meth_mk ?a ?i ?l ?c ?k (fun _ _ _ _ _ _ us hl => match us, hl with | [_], _ => rfl)
          (case a => k_is)
          (case i => k_is)
          (case l => k_is)
          (case c => k_is)
          (case k => k_is))
        (case u_DrawnLosses_init =>
          refine' ⟨?s, ?a, ?t, ?f⟩
          (case s => k_is)
          (case a => ks_is)
          (case t => k_is)
          (case f => k_is))
        (case oc => k_is)
        (case mo => k_is))
      (case t_FairLosses =>
        refine' K44.T_FairLosses.mk ?cl ?mgC ?n_patience ?n_failed ?n_digits ?n_asked ?ini ?call ?m_drawn ?u_FairLosses_init ?u_DrawnLosses_init ?oc ?mo
        (case mgC =>
          refine' PySem.W.mg_of KX G ?a
          (case a => k_is))
        (case cl =>
          refine' UF.cls_mk ?a ?b ?c ?d
          (case a => k_is)
          (case b => k_is)
          (case c => k_is)
          (case d => k_is))
        (case n_patience => (show PySem.W.findIn _ _ _ = some none); k_is)
        (case n_failed => (show PySem.W.findIn _ _ _ = some none); k_is)
        (case n_digits => (show PySem.W.findIn _ _ _ = some none); k_is)
        (case n_asked => (show PySem.W.findIn _ _ _ = some none); k_is)
        (case ini =>
          refine' ⟨_, _, _, ⟨?m, ?a, ?i, ?kc⟩, SupO.supD_mk ?l ?cd ?lc ?hv ?hf ?lcc ?cls ?glo ?top ?self ?opq ?ks ?kc2 ?ka, SupO.sup_binds (fun _ _ _ _ _ us hl => match us, hl with | [_, _, _], _ => rfl)⟩
          (case m => k_is)
          (case a => k_is)
          (case i => k_is)
          (case kc => k_is)
          (case l => k_is)
          (case cd => k_is)
          (case lc => k_is)
          (case hv => first | rfl | decide +kernel | kernel_rfl)
          (case hf => first | rfl | decide +kernel | kernel_rfl)
          (case lcc => k_is)
          (case cls => k_is)
          (case glo => k_is)
          (case top => first | rfl | decide +kernel | kernel_rfl)
          (case self => first | rfl | decide +kernel | kernel_rfl)
          (case opq => k_is)
          (case ks => first | rfl | decide +kernel | kernel_rfl)
          (case kc2 => first | rfl | decide +kernel | kernel_rfl)
          (case ka => first | rfl | decide +kernel | kernel_rfl))
        (case call =>
          refine' SupO.callP_mk ?a ?i ?fi ?l ?c (fun _ _ _ _ _ _ us hl => match us, hl with | [_, _, _, _], _ => rfl)
          (case a => k_is)
          (case i => k_is)
          (case fi => k_is)
          (case l => k_is)
          (case c => k_is))
        (case m_drawn =>
          refine' UF.meth_mk ?a ?i ?l ?c ?k (fun _ _ _ _ _ _ us hl => match us, hl with | [_], _ => rfl)
          (case a => k_is)
          (case i => k_is)
          (case l => k_is)
          (case c => k_is)
          (case k => k_is))
        (case u_FairLosses_init =>
          refine' ⟨?s, ?a, ?t, ?f⟩
          (case s => k_is)
          (case a => ks_is)
          (case t => k_is)
          (case f => k_is))
        (case u_DrawnLosses_init =>
          refine' ⟨?s, ?a, ?t, ?f⟩
          (case s => k_is)
          (case a => ks_is)
          (case t => k_is)
          (case f => k_is))
        (case oc => k_is)
        (case mo => k_is))
      (case law_pool =>
        refine' UF.d0_mk KX G ?a ?l ?c ?k (fun _ _ _ _ _ _ us hl => match us, hl with | [_], _ => rfl)
        (case a => k_is)
        (case l => k_is)
        (case c => k_is)
        (case k => k_is))
      (case law_mixed =>
        refine' UF.d0_mk KX G ?a ?l ?c ?k (fun _ _ _ _ _ _ us hl => match us, hl with | [_, _], _ => rfl)
        (case a => k_is)
        (case l => k_is)
        (case c => k_is)
        (case k => k_is))
      (case law_draw =>
        refine' UF.d0_mk KX G ?a ?l ?c ?k (fun _ _ _ _ _ _ us hl => match us, hl with | [_, _], _ => rfl)
        (case a => k_is)
        (case l => k_is)
        (case c => k_is)
        (case k => k_is))
      (case law_whole =>
        refine' UF.d0_mk KX G ?a ?l ?c ?k (fun _ _ _ _ _ _ us hl => match us, hl with | [_], _ => rfl)
        (case a => k_is)
        (case l => k_is)
        (case c => k_is)
        (case k => k_is))
      (case law_digits =>
        refine' UF.d0_mk KX G ?a ?l ?c ?k (fun _ _ _ _ _ _ us hl => match us, hl with | [_], _ => rfl)
        (case a => k_is)
        (case l => k_is)
        (case c => k_is)
        (case k => k_is))
      (case law_planned =>
        refine' UF.d0_mk KX G ?a ?l ?c ?k (fun _ _ _ _ _ _ us hl => match us, hl with | [_, _], _ => rfl)
        (case a => k_is)
        (case l => k_is)
        (case c => k_is)
        (case k => k_is))
      (case law_fair =>
        refine' UF.d0_mk KX G ?a ?l ?c ?k (fun _ _ _ _ _ _ us hl => match us, hl with | [_, _, _], _ => rfl)
        (case a => k_is)
        (case l => k_is)
        (case c => k_is)
        (case k => k_is))
      (case law_equal =>
        refine' UF.d0_mk KX G ?a ?l ?c ?k (fun _ _ _ _ _ _ us hl => match us, hl with | [_, _], _ => rfl)
        (case a => k_is)
        (case l => k_is)
        (case c => k_is)
        (case k => k_is))
      (case law_families =>
        refine' UF.d0_mk KX G ?a ?l ?c ?k (fun _ _ _ _ _ _ us hl => match us, hl with | [_, _, _], _ => rfl)
        (case a => k_is)
        (case l => k_is)
        (case c => k_is)
        (case k => k_is))
      (case law_due =>
        refine' UF.d0_mk KX G ?a ?l ?c ?k (fun _ _ _ _ _ _ us hl => match us, hl with | [_, _, _, _, _, _], _ => rfl)
        (case a => k_is)
        (case l => k_is)
        (case c => k_is)
        (case k => k_is))
      (case law_call =>
        refine' UF.d0_mk KX G ?a ?l ?c ?k (fun _ _ _ _ _ _ us hl => match us, hl with | [_, _], _ => rfl)
        (case a => k_is)
        (case l => k_is)
        (case c => k_is)
        (case k => k_is))
      (case law_steps =>
        refine' UF.d0_mk KX G ?a ?l ?c ?k (fun _ _ _ _ _ _ us hl => match us, hl with | [_, _, _, _], _ => rfl)
        (case a => k_is)
        (case l => k_is)
        (case c => k_is)
        (case k => k_is))
      (case ocg => k_is)
      (case oct => k_is)
      (case is_Losses_Losses => kit_is)
      (case is_Losses_DrawnLosses => kit_is)
      (case is_Losses_FairLosses => kit_is)
      (case is_DrawnLosses_Losses => kit_is)
      (case is_DrawnLosses_DrawnLosses => kit_is)
      (case is_DrawnLosses_FairLosses => kit_is)
      (case is_FairLosses_Losses => kit_is)
      (case is_FairLosses_DrawnLosses => kit_is)
      (case is_FairLosses_FairLosses => kit_is))
    (case L =>
      refine' UF.law_mk KX G hmg ?aL ?lL ?cL (fun _ _ _ _ _ _ _ => rfl)
      (case aL => k_is)
      (case lL => k_is)
      (case cL => k_is))
