import PyProof.Rows.All
import Wide.All
import OpenK.AllK
import Wide.FinOn
import HandS.Base
import HandS.Call
import HandS.List
import HandS.Comp
import HandS.Ends
import HandS.Text
import HandS.Words
import HandS.Codes
import HandS.Wide
import HandS.Dict
import HandS.Style
import HandS.IsInst
import HandS.Defaults
import HandS.Property
import KE.KMinKey
import KE.KLam
import PyProof.WalkInts
import HandS.SortKw
import HandS.Lambda
import HandS.Nested
import HandS.Small
import PyProof.LongRange
import PyProof.GenComp
import HandS.GenBody
import HandS.GenYield
import HandS.GenCall
import HandS.GenList
import HandS.RevRange
import HandS.Walk
import HandS.SortInts
import HandS.MakeKwOnly
import HandS.Conv
import HandS.WordsList
import HandS.EndTab
import PySem.Challenge.RW_livingroll_k14_targets_and_plan_rounds
set_option Elab.async false
set_option maxRecDepth 100000
set_option maxHeartbeats 4000000
namespace K14
open PySem PySem.Spec PyProof.Rows L2 C8

def top (i : Nat) : Stmt := PySem.Challenge.pw_livingroll_k14_targets_and_plan_rounds.main.body.getD i (.Pass ⟨0, 0, 0, 0⟩)

/-- the built-ins that the text calls -/
structure Bl (mg : Str → Option Value) : Prop where
  int : mg "int" = none
  bool : mg "bool" = none
  list : mg "list" = none
  len : mg "len" = none
  tuple : mg "tuple" = none
  reversed : mg "reversed" = none
  range : mg "range" = none
  min : mg "min" = none
  isinstance : mg "isinstance" = none
  sorted : mg "sorted" = none

/-- a def of the text that is called with all its parameters -/
structure D0 (K : PySem.W.Frag) (mg : Str → Option Value) (x : Str) (st : Stmt) (ps : List Str) : Prop where
  ex : ∃ (f : Addr) (fd : FuncData), C8.Def K mg x st f fd ∧ L2.Binds K fd ps []

section
variable {P : Program} {w : World} {K : PySem.W.Frag} {mg : Str → Option Value} {base : Heap}
theorem cal {x : Str} {st : Stmt} {N ps : List Str} {k : Nat} {sp : Sp} (d : D0 K mg x st ps) (S : FnScope N ps (C8.fnScope st)) (len : ∀ vs H Q E, sp vs H Q E → vs.length = ps.length)
    (hbody : ∀ (cdv : Value) (A : Around) (outer : List Env) (f : Addr) (s : Shared) (H : Hp) (vs : List V) (Q : VK) (E : XK), Room k (A.deeper (envOfC x (C8.fnScope st) s.heap.objs.size f cdv)) → sp vs H Q E →
      ∃ t, PSs (cxOf C8.CX0 P w K mg base N x (C8.fnScope st) f cdv A outer s H E).nox (C8.fnBody st) t ∧ t { nx := fun _ H' => Q .non H', rt := Q } (start N vs) H) : Cal P w K mg base (k + 1) x sp [] := by
  obtain ⟨f, fd, D, b⟩ := d.ex
  exact cal0 D b .nil S len fun cdv A outer s H vs Q E hr h => hbody cdv A outer f s H vs Q E hr h
end

theorem pm {b : Int} (h : 0 < b) : 0 < b := h

end K14

set_option Elab.async false
set_option maxRecDepth 100000
set_option maxHeartbeats 4000000
namespace K14
open PySem PySem.Spec PyProof.Rows L2 C8

abbrev s_is_integer : Stmt := top 5
abbrev n_is_integer : List Str := ["value"]
theorem sc_is_integer : FnScope n_is_integer ["value"] (C8.fnScope s_is_integer) := ⟨rfl, rfl, rfl, by decide +kernel, rfl, by decide +kernel, by decide +kernel⟩
def spInt : Sp := fun vs H Q _ => ∃ n : Int, vs = [.int n] ∧ Q (.bl true) H
abbrev s_check_field : Stmt := top 8
abbrev n_check_field : List Str := ["field", "value", "least", "most"]
theorem sc_check_field : FnScope n_check_field ["field", "value", "least", "most"] (C8.fnScope s_check_field) := ⟨rfl, rfl, rfl, by decide +kernel, rfl, by decide +kernel, by decide +kernel⟩
def spCheck : Sp := fun vs H Q _ => ∃ (x : Str) (v l m : Int), vs = [.str x, .int v, .int l, .int m] ∧ l ≤ v ∧ v ≤ m ∧ Q .non H

section
variable {P : Program} {w : World} {K : PySem.W.Frag} {mg : Str → Option Value} {base : Heap}
theorem c_is_integer (T : Bl mg) (d : D0 K mg "is_integer" s_is_integer ["value"]) : Cal P w K mg base 1 "is_integer" spInt [] := by
  refine cal d sc_is_integer (fun vs H Q E h => ?_) (fun cdv A outer f s H vs Q E hr h => ?_)
  · obtain ⟨n, rfl, _⟩ := h
    rfl
  · obtain ⟨n, rfl, k⟩ := h
    refine ⟨_, (pss_one (ps_ret (pe_and (pe_callB call_isi (by rfl) T.isinstance (by decide +kernel) (pa_cons (pv 0) (pa_cons (pe_bltn (v := .ty "int") (by rfl) T.int (by decide +kernel) rfl) pa_nil))) (pe_one (pe_not (pe_callB call_isi (by rfl) T.isinstance (by decide +kernel) (pa_cons (pv 0) (pa_cons (pe_bltn (v := .ty "bool") (by rfl) T.bool (by decide +kernel) rfl) pa_nil)))))))), ?_⟩
    refine ⟨_, rfl, _, _, _, _, true, rfl, .ty _, .base (.int _), kit_ty (by decide +kernel), _, rfl, iteT ?_⟩
    exact ⟨_, rfl, _, _, _, _, false, rfl, .ty _, .base (.int _), kit_ty (by decide +kernel), _, rfl, k⟩
theorem c_check_field (T : Bl mg) (c_is_integer : Cal P w K mg base 1 "is_integer" spInt []) (d : D0 K mg "check_field" s_check_field ["field", "value", "least", "most"]) : Cal P w K mg base 2 "check_field" spCheck [] := by
  refine cal d sc_check_field (fun vs H Q E h => ?_) (fun cdv A outer f s H vs Q E hr h => ?_)
  · obtain ⟨x, v, l, m, rfl, _⟩ := h
    rfl
  · obtain ⟨x, v, l, m, rfl, h1, h2, k⟩ := h
    refine ⟨_, (pss_one (ps_if (pt_not (PW.pt (pw_and (pt_val (pe_c c_is_integer hr (by decide) rfl (pa_cons (pv 1) pa_nil))) (pw_and1 (pt_chain op_le op_le (pv 2) (pv 1) (pv 3)))))) (pss_one (ps_never)) pss_nil)), ?_⟩
    refine ⟨_, rfl, _, rfl, _, rfl, iteT ?_⟩
    refine ⟨_, rfl, _, rfl, _, _, rfl, rfl, _, rfl, ?_⟩
    rw [if_pos (decide_eq_true h1)]
    refine ⟨_, rfl, _, _, rfl, rfl, _, rfl, ?_⟩
    rw [decide_eq_true h2]
    exact k
end

/-! ### settings -/
/-- a setting of so many bits stands at q -/
def SetP (C : Addr) (H : Hp) (q : Addr) (n : Nat) (pt : Int) : Prop := ∃ (dx : Addr) (fs : List (Str × V)), H q = some (.ins C dx fs) ∧ fs.lookup ("bits" : Str) = some (.int (n : Int)) ∧ fs.lookup ("seats" : Str) = none ∧ fs.lookup ("patience" : Str) = some (.int pt)
def SetAt (C : Addr) (H : Hp) (q : Addr) (n : Nat) : Prop := ∃ (dx : Addr) (fs : List (Str × V)), H q = some (.ins C dx fs) ∧ fs.lookup ("bits" : Str) = some (.int (n : Int)) ∧ fs.lookup ("seats" : Str) = none
abbrev s_init : Stmt := inClass (top 7) 5
abbrev n_init : List Str := ["self", "bits", "patience", "room", "grace", "helpers"]
theorem sc_init : FnScope n_init ["self", "bits", "patience", "room", "grace", "helpers"] (C8.fnScope s_init) := ⟨rfl, rfl, rfl, by decide +kernel, rfl, by decide +kernel, by decide +kernel⟩
abbrev s_seats : Stmt := inClass (top 7) 6
theorem sc_seats : FnScope ["self"] ["self"] (C8.fnScope s_seats) := ⟨rfl, rfl, rfl, by decide +kernel, rfl, by decide +kernel, by decide +kernel⟩
structure SetT (K : PySem.W.Frag) (mg : Str → Option Value) (C : Addr) : Prop where
  cl : Cls K C
  n1 : NoAttr K C "bits"
  n2 : NoAttr K C "patience"
  n3 : NoAttr K C "room"
  n4 : NoAttr K C "grace"
  n5 : NoAttr K C "helpers"
  k1 : ∃ u, Con K C "MOST_BITS" (.int 8) u
  k2 : ∃ u, Con K C "MOST_PATIENCE" (.int 6) u
  k3 : ∃ u, Con K C "MOST_ROOM" (.int 64) u
  k4 : ∃ u, Con K C "MOST_GRACE" (.int 200) u
  k5 : ∃ u, Con K C "MOST_HELPERS" (.int 3) u
  mgC : mg "Setting" = some (.ref C)
  ini : ∃ (f : Addr) (fd : FuncData), Mk K C f ∧ FunD K "__init__" "Setting.__init__" (C8.fnArgs s_init) (C8.fnBody s_init) (C8.fnScope s_init) [] [("grace", .int 6), ("helpers", .int 1)] f fd
  sea : ∃ (p g : Addr) (fd : FuncData), PropOf K C "seats" p g ∧ C8.Fun K "seats" "Setting.seats" s_seats g fd ∧ L2.Binds K fd ["self"] []
def spInit (C : Addr) : Sp := fun vs H Q _ => ∃ (q dx : Addr) (n p r g h : Int), vs = [.ref q, .int n, .int p, .int r, .int g, .int h] ∧ H q = some (.ins C dx []) ∧ 1 ≤ n ∧ n ≤ 8 ∧ 1 ≤ p ∧ p ≤ 6 ∧ 1 ≤ r ∧ r ≤ 64 ∧ 1 ≤ g ∧ g ≤ 200 ∧ 0 ≤ h ∧ h ≤ 3 ∧
  ∀ H' : Hp, SetP C H' q n.toNat p → (∀ b o, H b = some o → b ≠ q → H' b = some o) → Q .non H'
def spSeats (C : Addr) : Sp := fun vs H Q _ => ∃ (q : Addr) (n : Nat), vs = [.ref q] ∧ SetAt C H q n ∧ n ≤ 8 ∧ Q (.int ((2 ^ n : Nat) : Int)) H

theorem SetP.at_ {C : Addr} {H : Hp} {q : Addr} {n : Nat} {pt : Int} (h : SetP C H q n pt) : SetAt C H q n := by
  obtain ⟨dx, fs, h1, h2, h3, _⟩ := h
  exact ⟨dx, fs, h1, h2, h3⟩
theorem putF_len (f : Str) (v : V) : ∀ fs : List (Str × V), (putF f v fs).length ≤ fs.length + 1
  | [] => Nat.le_refl _
  | (g, x) :: r => by
    unfold putF
    split
    · exact Nat.le_succ _
    · exact Nat.succ_le_succ (putF_len f v r)
section
variable {P : Program} {w : World} {K : PySem.W.Frag} {mg : Str → Option Value} {base : Heap} {C : Addr}
theorem f_init_ok (ST : SetT K mg C) {f : Addr} {fd : FuncData} (F : FunD K "__init__" "Setting.__init__" (C8.fnArgs s_init) (C8.fnBody s_init) (C8.fnScope s_init) [] [("grace", .int 6), ("helpers", .int 1)] f fd) (c_check_field : Cal P w K mg base 2 "check_field" spCheck []) : FnOk P w K mg base C8.CX0 3 f fd ["self", "bits", "patience", "room", "grace", "helpers"] (spInit C) := by
  refine F.ok (N := n_init) sc_init (fun vs H Q E h => ?_) (fun cdv A outer s H vs Q E hr h => ?_)
  · obtain ⟨q, dx, n, p, r, g, h, rfl, _⟩ := h
    rfl
  · obtain ⟨q, dx, n, p, r, g, h, rfl, hq, a1, a2, a3, a4, a5, a6, a7, a8, a9, a10, k⟩ := h
    obtain ⟨u1, k1⟩ := ST.k1
    obtain ⟨u2, k2⟩ := ST.k2
    obtain ⟨u3, k3⟩ := ST.k3
    obtain ⟨u4, k4⟩ := ST.k4
    obtain ⟨u5, k5⟩ := ST.k5
    refine ⟨_, PSs.nox (pss_cons (ps_expr (pe_c c_check_field hr (by decide) rfl (pa_cons pe_str (pa_cons (pv 1) (pa_cons pe_int (pa_cons (pe_con (pv 0) rfl) pa_nil))))))
      (pss_cons (ps_expr (pe_c c_check_field hr (by decide) rfl (pa_cons pe_str (pa_cons (pv 2) (pa_cons pe_int (pa_cons (pe_con (pv 0) rfl) pa_nil))))))
      (pss_cons (ps_expr (pe_c c_check_field hr (by decide) rfl (pa_cons pe_str (pa_cons (pv 3) (pa_cons pe_int (pa_cons (pe_con (pv 0) rfl) pa_nil))))))
      (pss_cons (ps_expr (pe_c c_check_field hr (by decide) rfl (pa_cons pe_str (pa_cons (pv 4) (pa_cons pe_int (pa_cons (pe_con (pv 0) rfl) pa_nil))))))
      (pss_cons (ps_expr (pe_c c_check_field hr (by decide) rfl (pa_cons pe_str (pa_cons (pv 5) (pa_cons pe_int (pa_cons (pe_con (pv 0) rfl) pa_nil))))))
      (pss_cons (ps_fld (pv 0) (pv 1) rfl)
      (pss_cons (ps_fld (pv 0) (pv 2) rfl)
      (pss_cons (ps_fld (pv 0) (pv 3) rfl)
      (pss_cons (ps_fld (pv 0) (pv 4) rfl)
      (pss_one (ps_fld (pv 0) (pv 5) rfl))))))))))), ?_⟩
    refine ⟨_, rfl, _, rfl, q, C, dx, [], _, u1, rfl, hq, ST.cl, k1, rfl, _, _, _, _, rfl, a1, a2, ?_⟩
    refine ⟨_, rfl, _, rfl, q, C, dx, [], _, u2, rfl, hq, ST.cl, k2, rfl, _, _, _, _, rfl, a3, a4, ?_⟩
    refine ⟨_, rfl, _, rfl, q, C, dx, [], _, u3, rfl, hq, ST.cl, k3, rfl, _, _, _, _, rfl, a5, a6, ?_⟩
    refine ⟨_, rfl, _, rfl, q, C, dx, [], _, u4, rfl, hq, ST.cl, k4, rfl, _, _, _, _, rfl, a7, a8, ?_⟩
    refine ⟨_, rfl, _, rfl, q, C, dx, [], _, u5, rfl, hq, ST.cl, k5, rfl, _, _, _, _, rfl, a9, a10, ?_⟩
    refine ⟨_, rfl, _, rfl, q, C, dx, [], rfl, hq, ST.cl, ST.n1, by show 0 < 1000; decide, ?_⟩
    generalize e1 : putF ("bits" : Str) (V.int n) [] = f1
    refine ⟨_, rfl, _, rfl, q, C, dx, f1, rfl, upd_same, ST.cl, ST.n2, by subst e1; show 1 < 1000; decide, ?_⟩
    generalize e2 : putF ("patience" : Str) (V.int p) f1 = f2
    have l1 : f1.length ≤ 1 := by subst e1; exact putF_len _ _ _
    have l2 : f2.length ≤ 2 := by subst e2; exact Nat.le_trans (putF_len _ _ _) (by omega)
    refine ⟨_, rfl, _, rfl, q, C, dx, f2, rfl, upd_same, ST.cl, ST.n3, by omega, ?_⟩
    generalize e3 : putF ("room" : Str) (V.int r) f2 = f3
    have l3 : f3.length ≤ 3 := by subst e3; exact Nat.le_trans (putF_len _ _ _) (by omega)
    refine ⟨_, rfl, _, rfl, q, C, dx, f3, rfl, upd_same, ST.cl, ST.n4, by omega, ?_⟩
    generalize e4 : putF ("grace" : Str) (V.int g) f3 = f4
    have l4 : f4.length ≤ 4 := by subst e4; exact Nat.le_trans (putF_len _ _ _) (by omega)
    refine ⟨_, rfl, _, rfl, q, C, dx, f4, rfl, upd_same, ST.cl, ST.n5, by omega, ?_⟩
    have hb : (putF ("helpers" : Str) (V.int h) f4).lookup ("bits" : Str) = some (V.int ((n.toNat : Nat) : Int)) := by
      rw [Int.toNat_of_nonneg (by omega), lookup_putF, if_neg (by decide +kernel), ← e4, lookup_putF, if_neg (by decide +kernel), ← e3, lookup_putF, if_neg (by decide +kernel), ← e2, lookup_putF, if_neg (by decide +kernel), ← e1, lookup_putF, if_pos rfl]
    have hs : (putF ("helpers" : Str) (V.int h) f4).lookup ("seats" : Str) = none := by
      rw [lookup_putF, if_neg (by decide +kernel), ← e4, lookup_putF, if_neg (by decide +kernel), ← e3, lookup_putF, if_neg (by decide +kernel), ← e2, lookup_putF, if_neg (by decide +kernel), ← e1, lookup_putF, if_neg (by decide +kernel)]
      rfl
    have hpt : (putF ("helpers" : Str) (V.int h) f4).lookup ("patience" : Str) = some (V.int p) := by
      rw [lookup_putF, if_neg (by decide +kernel), ← e4, lookup_putF, if_neg (by decide +kernel), ← e3, lookup_putF, if_neg (by decide +kernel), ← e2, lookup_putF, if_pos rfl]
    refine k _ ⟨dx, _, upd_same, hb, hs, hpt⟩ fun b o e ne => ?_
    rw [upd_ne ne, upd_ne ne, upd_ne ne, upd_ne ne, upd_ne ne]
    exact e
theorem f_init (ST : SetT K mg C) (c_check_field : Cal P w K mg base 2 "check_field" spCheck []) : ∃ (f : Addr) (fd : FuncData), Mk K C f ∧ FnOk P w K mg base C8.CX0 3 f fd ["self", "bits", "patience", "room", "grace", "helpers"] (spInit C) ∧
    ∃ ds, Vals [V.int 6, V.int 1] ds ∧ L2.Binds K fd ["self", "bits", "patience", "room", "grace", "helpers"] ds := by
  obtain ⟨f, fd, M, F⟩ := ST.ini
  refine ⟨f, fd, M, ?_, ?_⟩
  · exact f_init_ok ST F c_check_field
  · exact F.binds0 4 (by decide) rfl (fun D doc pm an cdv ct us ks hl hk => match us, hl, ks, hk with
      | [_, _, _, _], _, [_, _], _ => ⟨_, _, _, _, _, _, rfl, rfl, ⟨_, _, _, _, _, _, rfl, rfl, rfl⟩⟩)
theorem c_Setting (ST : SetT K mg C) (c_check_field : Cal P w K mg base 2 "check_field" spCheck []) : Mak P w K mg base 3 "Setting" C (spInit C) [.int 6, .int 1] := by
  obtain ⟨f, fd, M, F, ds, r, b⟩ := f_init (P := P) (w := w) (base := base) ST c_check_field
  exact ⟨f, fd, _, ds, M, F, ST.mgC, b, r⟩
end
end K14

set_option Elab.async false
set_option maxRecDepth 100000
set_option maxHeartbeats 4000000
/-! min(held, key=lambda a: .., default=None) over a list of ints, the key an int that changes nothing. -/
namespace MinL
open PySem PySem.Spec PyProof.Rows L2 LamX

section
variable {X : Cx} {pins : List (Addr × Obj)} {σ : L2.St} {H : Hp} {s : Shared}
/-- one more object is pinned -/
theorem pinOne {b : Addr} {o : Obj} (I : Inv X pins σ H s) (F : FpOk X pins H b) (ho : s.heap.get? b = some o) (nc : ∀ v, o.data ≠ .cell v) : Inv X ((b, o) :: pins) σ H s := by
  refine I.pins_of fun p hp => ?_
  cases hp with
  | head => exact ⟨ho, F.1, F.2.1, F.2.2.1, nc⟩
  | tail _ hp => exact I.pin p (List.mem_append_right _ hp)
theorem unpinOne {q : Addr × Obj} (I : Inv X (q :: pins) σ H s) : Inv X pins σ H s := I.pins_of fun p hp => I.pin p (List.mem_append_right _ (.tail _ hp))
theorem pinGet {b : Addr} {o : Obj} (I : Inv X pins σ H s) (h : (b, o) ∈ pins) : s.heap.get? b = some o := (I.pin (b, o) (List.mem_append_right _ h)).1
/-- an object of the rule's own turns -/
theorem turnOne {b : Addr} {h' : Heap} {t' : Nat} (I : Inv X pins σ H s) (F : FpOk X pins H b) (k : ∀ a o, a ≠ b → s.heap.get? a = some o → h'.get? a = some o) : Inv X pins σ H { s with heap := h', toks := t' } :=
  I.turned k F.1 F.2.1 F.2.2.2.1 F.2.2.2.2.1 F.2.2.2.2.2
theorem isl_of {h : Heap} {a : Addr} {its : Array Value} (p : PlainL h a its) : h.IsList a its :=
  let ⟨o, n, e, c, _, d⟩ := p
  ⟨o, e, c, n, d⟩
theorem ints_at {ns : List Int} {its : List Value} {i : Nat} {u : Value} (r : Vals (ns.map V.int) its) (h : its[i]? = some u) : ∃ n t, ns[i]? = some n ∧ u = .int n t := by
  have hl : i < its.length := (List.getElem?_eq_some_iff.mp h).1
  have hn : i < ns.length := by
    have e := r.length
    rw [List.length_map] at e
    omega
  have e1 : (ns.map V.int)[i]? = some (V.int ns[i]) := by
    rw [List.getElem?_map, List.getElem?_eq_getElem hn]
    rfl
  obtain ⟨u', hu, rv⟩ := r.get e1
  rw [h] at hu
  cases hu
  obtain ⟨t, e⟩ := (show ∃ t, u = Value.int ns[i] t from rv)
  exact ⟨_, t, List.getElem?_eq_getElem hn, e⟩

/-- what one call of the key does, whatever else is pinned -/
def KeyTurn (X : Cx) (σ : L2.St) (H : Hp) (q : Addr) (fo : Obj) (ns : List Int) (kf : Int → Int) : Prop :=
  ∀ (n : Int) (t : Tok) (pp : List (Addr × Obj)) (s : Shared), n ∈ ns → (q, fo) ∈ pp → Inv X pp σ H s →
    wpAny (model X.prog X.w) X.A.in1 (call (.ref q) [.int n t]) (fun u s' => (∃ t', u = .int (kf n) t') ∧ Inv X pp σ H s') (fun _ _ => False) s

theorem minLoop {l I S q : Addr} {fo : Obj} {ns : List Int} {kf : Int → Int} {kwd : List (Str × Value)} {R : Result → Shared → Prop} {pp : List (Addr × Obj)} (hh : X.A.handled = none) (hl : H l = some (.lst (ns.map V.int))) (turn : KeyTurn X σ H q fo ns kf)
    (hq : (q, fo) ∈ pp) (FI : FpOk X pp H I) (FS : FpOk X pp H S) (hSI : S ≠ I)
    (done : ∀ (m : Int) (t : Tok) (s' : Shared), m ∈ ns → (∀ n ∈ ns, kf m ≤ kf n) → Inv X pp σ H s' → R (.ok (.ret (.int m t))) s') :
    ∀ (r j : Nat) (m : Int) (s : Shared) (tv tb : Tok) (c : Nat), ns.length - (j + 1) = r → j + 1 ≤ ns.length → m ∈ ns → (∀ (i : Nat) (n : Int), i ≤ j → ns[i]? = some n → kf m ≤ kf n) → Inv X pp σ H s →
      s.heap.get? S = some (seqObj "list" #[.int m tv, .int (kf m) tb] c) → s.heap.IsListIter I l (j + 1) → codeAny (model X.prog X.w) X.A (.builtin "min.loop" ⟨[.ref I, .ref q, .ref S], kwd⟩) R s := by
  have nm : (toString "min" ++ toString ".loop" : String) = "min.loop" := by decide
  have lI : l ≠ I := ne_of_none hl FI.1
  have lS : l ≠ S := ne_of_none hl FS.1
  intro r
  induction r with
  | zero =>
    intro j m s tv tb c hr hj hm best IV hS hit
    obtain ⟨its, rv, pl, hz⟩ := IV.list (SqL.of hl)
    have len : its.length = ns.length := by rw [← rv.length, List.length_map]
    have W := Walks.list (prog := X.prog) (w := X.w) (A := X.A.in1) hh I l lI its.toArray
    refine codeAny_builtin PySem.F.entry_min_loop ?_
    rw [Around.under_plainId PySem.F.plain_min_loop _]
    show wpAny _ X.A.in1 (seqItems? (.ref S) >>= _) _ _ _
    refine wpAny_bind (wpAny_seqItems hS rfl ?_)
    show wpAny _ X.A.in1 (tryCatch (pyNext (.ref I)) _ >>= _) _ _ _
    refine wpAny_bind (wpAny_tryCatch (W.done _ _ _ ⟨by rw [List.size_toArray, len, show ns.length = j + 1 by omega]; exact hit, isl_of pl⟩ fun h1 t1 k1 => ?_))
    have I1 : Inv X pp σ H { s with heap := h1, toks := t1 } := turnOne IV FI fun a o na e => k1 a o (by simpa using na) e
    have hS1 : h1.get? S = some (seqObj "list" #[.int m tv, .int (kf m) tb] c) := k1 S _ (by simpa using hSI) hS
    show wpAny _ X.A.in1 (updateSeq S (fun _ => #[]) >>= _) _ _ _
    refine wpAny_bind (wpAny_updateSeq hS1 rfl (wpAny_bind (wpAny_letGo (wpAny_pure ?_))))
    refine done m tv _ hm (fun n hn => ?_) (turnOne I1 FS fun a o na e => ?_)
    · obtain ⟨i, hi⟩ := List.mem_iff_getElem?.mp hn
      have := (List.getElem?_eq_some_iff.mp hi).1
      exact best i n (by omega) hi
    · exact (Heap.get?_update_ne _ _ _ _ na).trans e
  | succ r ih =>
    intro j m s tv tb c hr hj hm best IV hS hit
    obtain ⟨its, rv, pl, hz⟩ := IV.list (SqL.of hl)
    have len : its.length = ns.length := by rw [← rv.length, List.length_map]
    have W := Walks.list (prog := X.prog) (w := X.w) (A := X.A.in1) hh I l lI its.toArray
    refine codeAny_builtin PySem.F.entry_min_loop ?_
    rw [Around.under_plainId PySem.F.plain_min_loop _]
    show wpAny _ X.A.in1 (seqItems? (.ref S) >>= _) _ _ _
    refine wpAny_bind (wpAny_seqItems hS rfl ?_)
    show wpAny _ X.A.in1 (tryCatch (pyNext (.ref I)) _ >>= _) _ _ _
    refine wpAny_bind (wpAny_tryCatch (W.item (j + 1) _ _ _ (by rw [List.size_toArray, len]; omega) ⟨hit, isl_of pl⟩ fun v h1 t1 hv st1 k1 => ?_))
    obtain ⟨n, tn, hn, rfl⟩ := ints_at rv (by simpa using hv)
    have I1 : Inv X pp σ H { s with heap := h1, toks := t1 } := turnOne IV FI fun a o na e => k1 a o (by simpa using na) e
    have hS1 : h1.get? S = some (seqObj "list" #[.int m tv, .int (kf m) tb] c) := k1 S _ (by simpa using hSI) hS
    obtain ⟨oI, hoI, c1, d1⟩ := id st1.1
    have I2 := pinOne I1 FS hS1 (fun v z => nomatch z)
    have FI2 : FpOk X ((S, seqObj "list" #[.int m tv, .int (kf m) tb] c) :: pp) H I := by
      obtain ⟨f1, f2, f3, f4, f5, f6⟩ := FI
      refine ⟨f1, f2, f3, f4, f5, fun p hp => ?_⟩
      rcases List.mem_append.mp hp with hp | hp
      · exact f6 p (List.mem_append_left _ hp)
      · cases hp with
        | head => exact hSI
        | tail _ hp => exact f6 p (List.mem_append_right _ hp)
    have I3 := pinOne I2 FI2 hoI (fun v z => by rw [d1] at z; cases z)
    show wpAny _ X.A.in1 (tryCatch (holding [.int n tn] (call (.ref q) [.int n tn])) _ >>= _) _ _ _
    refine wpAny_bind (wpAny_tryCatch (wpAny_holding (wpAny_mono (turn n tn _ _ (List.mem_of_getElem? hn) (.tail _ (.tail _ hq)) I3) (fun u s2 he => ?_) fun _ _ hF => hF.elim)))
    obtain ⟨⟨t2, rfl⟩, I4⟩ := he
    have gI := pinGet I4 (.head _)
    have gS := pinGet I4 (.tail _ (.head _))
    have I5 := unpinOne (unpinOne I4)
    have hit2 : s2.heap.IsListIter I l (j + 1 + 1) := ⟨oI, gI, c1, d1⟩
    show wpAny _ X.A.in1 (tryCatch (holding [.int n tn, .int (kf n) t2] (richCompare .Lt (.int (kf n) t2) (.int (kf m) tb) >>= _)) _ >>= _) _ _ _
    refine wpAny_bind (wpAny_tryCatch (wpAny_holding (wpAny_bind (CmpOf.ints_lt (prog := X.prog) (w := X.w) (A := X.A.in1) (P := fun i v => ∃ t, v = .int (if i = 0 then kf n else kf m) t) (fun i => if i = 0 then kf n else kf m) (fun i v h => h) 0 1 _ _ _ _ _ ⟨t2, rfl⟩ ⟨tb, rfl⟩ ?_))))
    refine wpAny_bind (wpAny_holding (wpAny_truthy_bool ?_))
    refine wpAny_bind (wpAny_letGo (wpAny_pure ?_))
    show wpAny _ X.A.in1 (if decide (kf n < kf m) = true then _ else _) _ _ _
    by_cases hb : kf n < kf m
    · rw [if_pos (decide_eq_true hb)]
      have k3 : ∀ a o, a ≠ S → s2.heap.get? a = some o → (s2.heap.update S (Obj.mapSeq fun _ => #[.int n tn, .int (kf n) t2])).get? a = some o := fun a o na e => (Heap.get?_update_ne _ _ _ _ na).trans e
      refine wpAny_bind (wpAny_updateSeq gS rfl (wpAny_bind (wpAny_letGo ?_)))
      rw [nm]
      refine wpAny_pure ⟨plainId_quiet PySem.F.plain_min_loop _, ih (j + 1) n _ tn t2 _ (by omega) (by omega) (List.mem_of_getElem? hn) (fun i n' hi' e => ?_) (turnOne I5 FS k3) (get?_update_seq gS _) ⟨oI, k3 I oI hSI.symm gI, c1, d1⟩⟩
      by_cases q : i = j + 1
      · subst q
        rw [hn] at e
        cases e
        exact Int.le_refl _
      · exact Int.le_of_lt (Int.lt_of_lt_of_le hb (best i n' (by omega) e))
    · rw [if_neg (by simpa using hb)]
      refine wpAny_bind (wpAny_letGo ?_)
      rw [nm]
      refine wpAny_pure ⟨plainId_quiet PySem.F.plain_min_loop _, ih (j + 1) m _ tv tb c (by omega) (by omega) hm (fun i n' hi' e => ?_) I5 gS hit2⟩
      by_cases q : i = j + 1
      · subst q
        rw [hn] at e
        cases e
        omega
      · exact best i n' (by omega) e
end
end MinL

set_option Elab.async false
set_option maxRecDepth 100000
set_option maxHeartbeats 4000000
namespace MinL
open PySem PySem.Spec PyProof.Rows L2 LamX
theorem minArgs (a v : Value) : argsOk "min" ⟨[a], [(Str.ofString "key", v), (Str.ofString "default", .none)]⟩ := by unfold argsOk; kernel_rfl
section
variable {X : Cx} {pins : List (Addr × Obj)} {σ : L2.St} {H : Hp} {s : Shared}
/-- what min hands back -/
def MinOut (X : Cx) (pins : List (Addr × Obj)) (σ : L2.St) (H : Hp) (ns : List Int) (kf : Int → Int) (u : Value) (s' : Shared) : Prop :=
  Inv X pins σ H s' ∧ ((ns = [] ∧ u = .none) ∨ ∃ (m : Int) (t : Tok), u = .int m t ∧ m ∈ ns ∧ ∀ n ∈ ns, kf m ≤ kf n)
theorem minRun {l q : Addr} {fo : Obj} {ns : List Int} {kf : Int → Int} (hh : X.A.handled = none) (I : Inv X pins σ H s) (hl : H l = some (.lst (ns.map V.int))) (turn : KeyTurn X σ H q fo ns kf) (hq : (q, fo) ∈ pins) :
    wpAny (model X.prog X.w) X.A (call (.builtin "min") [.ref l] [(Str.ofString "key", .ref q), (Str.ofString "default", .none)]) (MinOut X pins σ H ns kf) X.xe s := by
  have nm : (toString "min" ++ toString ".loop" : String) = "min.loop" := by decide
  obtain ⟨its, rv, pl, hz⟩ := I.list (SqL.of hl)
  refine kmk_tree PySem.F.kind_min PySem.F.plain_min PySem.F.entry_min (minArgs _ _) ?_
  show wpAny _ X.A.in1 (Builtin.Builtins.bindParams "min" ["key", "default"] 0 ⟨[], [(Str.ofString "key", .ref q), (Str.ofString "default", .none)]⟩ >>= _) _ _ s
  refine wpAny_bind (wpAny_of_eq (show Builtin.Builtins.bindParams "min" ["key", "default"] 0 ⟨[], [(Str.ofString "key", .ref q), (Str.ofString "default", .none)]⟩ = pure [some (.ref q), some .none] from rfl) ?_)
  refine wpAny_bind (wpAny_pure ?_)
  refine wpAny_bind (wpAny_pyIter_list (isl_of pl) ?_)
  refine wpAny_bind (wpAny_newList ?_ (Nat.zero_le _))
  rw [nm]
  refine wpAny_pure ⟨plainId_quiet PySem.F.plain_min_loop _, ?_⟩
  have up : ∀ {b : Addr} {u : Obj}, s.heap.get? b = some u → ((s.heap.push { cls := .type "list_iterator", data := .fields #[.ref l, .int 0 0] }).push (seqObj "list" #[] 0)).get? b = some u := fun e => Heap.get?_push_of_some _ (Heap.get?_push_of_some _ e)
  generalize hS0 : (s.heap.push { cls := .type "list_iterator", data := .fields #[.ref l, .int 0 0] }).objs.size = S
  have zS : S = s.heap.objs.size + 1 := by rw [← hS0]; exact size_push' ..
  have I1 : Inv X pins σ H { s with heap := (s.heap.push { cls := .type "list_iterator", data := .fields #[.ref l, .int 0 0] }).push (seqObj "list" #[] 0) } := by
    have z := I.kept (t' := s.toks) fun b u e => up e
    exact z
  have gI : ((s.heap.push { cls := .type "list_iterator", data := .fields #[.ref l, .int 0 0] }).push (seqObj "list" #[] 0)).get? s.heap.objs.size = some { cls := .type "list_iterator", data := .fields #[.ref l, .int 0 0] } :=
    Heap.get?_push_of_some _ (Heap.get?_push_size _ rfl)
  have gS : ((s.heap.push { cls := .type "list_iterator", data := .fields #[.ref l, .int 0 0] }).push (seqObj "list" #[] 0)).get? S = some (seqObj "list" #[] 0) := by
    rw [← hS0]
    exact Heap.get?_push_size _ rfl
  have FI : FpOk X pins H s.heap.objs.size := I.fpOk (Nat.le_refl _) (I.hok.fresh (Nat.le_refl _))
  have FS : FpOk X pins H S := I.fpOk (by omega) (I.hok.fresh (by omega))
  have hSI : S ≠ s.heap.objs.size := by omega
  generalize s.heap.objs.size = It at gI FI hSI
  generalize (s.heap.push { cls := .type "list_iterator", data := .fields #[.ref l, .int 0 0] }).push (seqObj "list" #[] 0) = h0 at I1 gI gS
  have lI : l ≠ It := ne_of_none hl FI.1
  obtain ⟨its', rv', pl', _⟩ := I1.list (SqL.of hl)
  have len : its'.length = ns.length := by rw [← rv'.length, List.length_map]
  have W := Walks.list (prog := X.prog) (w := X.w) (A := X.A.in1) hh It l lI its'.toArray
  refine codeAny_builtin PySem.F.entry_min_loop ?_
  rw [Around.under_plainId PySem.F.plain_min_loop _]
  show wpAny _ X.A.in1 (seqItems? (.ref S) >>= _) _ _ _
  refine wpAny_bind (wpAny_seqItems gS rfl ?_)
  show wpAny _ X.A.in1 (tryCatch (pyNext (.ref It)) _ >>= _) _ _ _
  cases ns with
  | nil =>
    refine wpAny_bind (wpAny_tryCatch (W.done _ _ _ ⟨by rw [List.size_toArray, len]; exact ⟨_, gI, rfl, rfl⟩, isl_of pl'⟩ fun h1 t1 k1 => ?_))
    have I2 : Inv X pins σ H { s with heap := h1, toks := t1 } := turnOne (s := { s with heap := h0 }) I1 FI fun a o na e => k1 a o (by simpa using na) e
    refine wpAny_bind (wpAny_rule ?_)
    exact wpAny_pure ⟨I2, .inl ⟨rfl, rfl⟩⟩
  | cons n0 ns0 =>
    refine wpAny_bind (wpAny_tryCatch (W.item 0 _ _ _ (by rw [List.size_toArray, len]; exact Nat.succ_pos _) ⟨⟨_, gI, rfl, rfl⟩, isl_of pl'⟩ fun v h1 t1 hv st1 k1 => ?_))
    obtain ⟨n, tn, hn, rfl⟩ := ints_at rv' (by simpa using hv)
    have I2 : Inv X pins σ H { s with heap := h1, toks := t1 } := turnOne (s := { s with heap := h0 }) I1 FI fun a o na e => k1 a o (by simpa using na) e
    have hS1 : h1.get? S = some (seqObj "list" #[] 0) := k1 S _ (by simpa using hSI) gS
    obtain ⟨oI, hoI, c1, d1⟩ := id st1.1
    have I3 := pinOne I2 FS hS1 (fun v z => nomatch z)
    have FI2 : FpOk X ((S, seqObj "list" #[] 0) :: pins) H It := by
      obtain ⟨f1, f2, f3, f4, f5, f6⟩ := FI
      refine ⟨f1, f2, f3, f4, f5, fun p hp => ?_⟩
      rcases List.mem_append.mp hp with hp | hp
      · exact f6 p (List.mem_append_left _ hp)
      · cases hp with
        | head => exact hSI
        | tail _ hp => exact f6 p (List.mem_append_right _ hp)
    have I4 := pinOne I3 FI2 hoI (fun v z => by rw [d1] at z; cases z)
    show wpAny _ X.A.in1 (tryCatch (holding [.int n tn] (call (.ref q) [.int n tn])) _ >>= _) _ _ _
    refine wpAny_bind (wpAny_tryCatch (wpAny_holding (wpAny_mono (turn n tn _ _ (List.mem_of_getElem? hn) (.tail _ (.tail _ hq)) I4) (fun u s2 he => ?_) fun _ _ hF => hF.elim)))
    obtain ⟨⟨t2, rfl⟩, I5⟩ := he
    have gI2 := pinGet I5 (.head _)
    have gS2 := pinGet I5 (.tail _ (.head _))
    have I6 := unpinOne (unpinOne I5)
    have k3 : ∀ a o, a ≠ S → s2.heap.get? a = some o → (s2.heap.update S (Obj.mapSeq fun _ => #[.int n tn, .int (kf n) t2])).get? a = some o := fun a o na e => (Heap.get?_update_ne _ _ _ _ na).trans e
    show wpAny _ X.A.in1 (updateSeq S (fun _ => #[.int n tn, .int (kf n) t2]) >>= _) _ _ _
    refine wpAny_bind (wpAny_updateSeq gS2 rfl ?_)
    rw [nm]
    refine wpAny_pure ⟨plainId_quiet PySem.F.plain_min_loop _, ?_⟩
    refine minLoop hh hl turn hq FI FS hSI (fun m t s' hm hb I' => ⟨I', .inr ⟨m, t, rfl, hm, hb⟩⟩) _ 0 n _ tn t2 _ rfl (Nat.succ_le_succ (Nat.zero_le _)) (List.mem_of_getElem? hn) (fun i n' hi e => ?_) (turnOne I6 FS k3) (get?_update_seq gS2 _) ⟨oI, k3 It oI hSI.symm gI2, c1, d1⟩
    have q : i = 0 := by omega
    subst q
    rw [hn] at e
    cases e
    exact Int.le_refl _
end
end MinL

set_option Elab.async false
set_option maxRecDepth 100000
set_option maxHeartbeats 4000000
namespace MinL
open PySem PySem.Spec PyProof.Rows L2 LamX NdefX
/-- what is wanted of the list that is handed in -/
def MinW (T : List (Addr × Str)) (N : List Str) (js : List Nat) (tb : TE) (σ : L2.St) (Q : VK) : VK := fun x H1 => Tabs T H1 ∧ ∃ (l : Addr) (ns : List Int) (kf : Int → Int), x = .ref l ∧ H1 l = some (.lst (ns.map V.int)) ∧
  ∀ H2, ExtN H1 H2 → Tabs T H2 → (∀ n ∈ ns, tb (startF N [.int n] (js.map (slotAt σ))) H2 (fun v H' => v = .int (kf n) ∧ H' = H2)) ∧ (ns = [] → Q .non H2) ∧ (∀ m, m ∈ ns → (∀ n ∈ ns, kf m ≤ kf n) → Q (.int m) H2)
/-- the reading of min(held, key=lambda a: body, default=None) -/
def tMinLam (T : List (Addr × Str)) (N : List Str) (js : List Nat) (te tb : TE) : TE := fun σ H Q => te σ H (MinW T N js tb σ Q)
/-- the lambda as a function of the layer; its body is an expression -/
abbrev lamF (X : Cx) (params : Arguments) (scope : Scope) (c' : Addr) : NF := ⟨"<lambda>", X.env.qual ++ "<lambda>", params, [], scope, cloFrom X.env.cells scope.names [], c'⟩
section
variable {X : Cx} {pins : List (Addr × Obj)} {σ : L2.St} {H : Hp} {s : Shared}
theorem lamTurn {a : Str} {params : Arguments} {body : Expr} {scope : Scope} {pm : Value} {c' q : Addr} {ctv : Value} {N fr : List Str} {js : List Nat} {k : Nat} {tb : TE} {ns : List Int} {kf : Int → Int} (hr : Room (k + 1) X.A.in1) (S : NScope N [a] fr scope) (cp : Caps X (cloFrom X.env.cells scope.names []) fr js)
    (hbind : ∀ (u : Value), bindArgs (PySem.W.kla_fn "<lambda>" (X.env.qual ++ "<lambda>") params body scope (cloFrom X.env.cells scope.names []) pm (.ref c') ctv) ⟨[u], []⟩ = pure [(a, u)])
    (hc : H c' = some (CodeO c' (X.env.qual ++ "<lambda>")))
    (hbody : ∀ (A : Around) (outer : List Env) (s : Shared) (H : Hp) (f : Addr), Room k (A.deeper (envF (lamF X params scope c') f s.heap.objs.size)) → PE (ncx C8.CX0 X.prog X.w X.K X.mg X.base N (lamF X params scope c') f A outer s H C8.E0) body tb)
    (ht : ∀ n ∈ ns, tb (startF N [.int n] (js.map (slotAt σ))) H (fun v H' => v = .int (kf n) ∧ H' = H)) :
    KeyTurn X σ H q (PySem.W.kla_obj "<lambda>" (X.env.qual ++ "<lambda>") params body scope (cloFrom X.env.cells scope.names []) pm c' ctv) ns kf := by
  intro n t pp s hn hq I
  have ho := pinGet I hq
  obtain ⟨⟨oc, vs, tk, hoc, hdc, hvc⟩, _, _⟩ := I.hok c' _ hc
  have rc : codeAny (model X.prog X.w) X.A.in1 (.call (.ref q) ⟨[.int n t], []⟩) (CR C8.CX0 X.stack X.prog X.w H s (fun v H' => v = .int (kf n) ∧ H' = H) C8.E0) s := by
    refine PySem.W.kla_callFunE hr.depth ho rfl S.co S.gen rfl ⟨c', oc, vs, tk, rfl, hoc, hdc, hvc⟩ ?_
    rw [hbind]
    refine wpAny_pure (wpAny_newFunctionEnv S.nocell (fun y hy => ?_) (fun h1 hns hsb => ⟨I.nolimit.fresh _ hsb, ?_⟩) S.kind)
    · rw [List.mem_singleton.mp hy]
      exact S.par a (List.mem_singleton.mpr rfl)
    · show codeAny _ _ (.expr body (envF (lamF X params scope c') q s.heap.objs.size)) _ _
      have kp : ∀ b o, s.heap.get? b = some o → h1.get? b = some o := fun b o e => hsb.extBut b o (Nat.ne_of_lt (Heap.lt_size e)) (Heap.get?_push_of_some _ e)
      have J : Inv (ncx C8.CX0 X.prog X.w X.K X.mg X.base N (lamF X params scope c') q X.A.in1 X.stack s H C8.E0) [] (startF N [V.int n] (js.map (slotAt σ))) H { s with heap := h1, toks := s.toks + ([(a, Value.int n t)] : List (Str × Value)).length } :=
        inv_startN (ps := [a]) (us := [.int n t]) S hr.hd I.env0.in1 rfl (.cons ⟨t, rfl⟩ .nil) (cells_of I cp) hns kp
      refine PySem.W.kla_codeExpr (wpAny_mono ((hbody _ _ s H q (hr.deeper _)).run [] _ _ H _ J (ht n hn)) (fun v s' hv => ?_) fun e s' hv => hv)
      obtain ⟨u, H', J', rv, z⟩ := hv
      exact ⟨u, H', J'.os, J'.bare, J'.base, J'.hok, rv, z⟩
  refine wpAny_call (codeAny_mono rc fun r s' hv => ?_)
  cases r with
  | error e => exact (show False from hv).elim
  | ok fl =>
    cases fl with
    | ret u =>
      obtain ⟨v, H', I', rv, e1, e2⟩ := I.after hv
      subst e1
      subst e2
      exact ⟨rv, I'⟩
    | next => exact False.elim hv
    | brk => exact False.elim hv
    | cont => exact False.elim hv

theorem pe_minLam {T : List (Addr × Str)} {c P : Addr} {a : Str} {params : Arguments} {body e : Expr} {scope : Scope} {lpos p pos p2 kp1 kp2 : Pos} {j k : Nat} {N fr : List Str} {js : List Nat} {te tb : TE} (hg : Gl X "min") (hm : X.mg "min" = none) (he : PE X e te)
    (TB : TabB X.base X.mg c P) (hcode : X.env.code = .ref c) (hmT : (P, X.env.qual ++ "<lambda>") ∈ T) (hu : ∀ p ∈ T, p.1 = P → p.2 = X.env.qual ++ "<lambda>") (hst : X.stack = X.env :: X.outer) (hr : Room (k + 2) X.A) (S : NScope N [a] fr scope)
    (hfree : ∀ y ∈ scope.names, y.2 = .free → X.env.scope.names.lookup y.1 = some .cell ∨ X.env.scope.names.lookup y.1 = some .free) (hfr : ∀ y ∈ fr, (y, NameKind.free) ∈ scope.names) (hjs : js.map (fun j => X.N[j]?) = fr.map some) (hdef : defaultsOf params X.env = ([], []))
    (hbind : ∀ (q : Str) (cl : List (Str × Addr)) (pm cv ctv u : Value), bindArgs (PySem.W.kla_fn "<lambda>" q params body scope cl pm cv ctv) ⟨[u], []⟩ = pure [(a, u)])
    (hbody : ∀ (c' : Addr) (A : Around) (outer : List Env) (s : Shared) (H : Hp) (f : Addr), Room k (A.deeper (envF (lamF X params scope c') f s.heap.objs.size)) → PE (ncx C8.CX0 X.prog X.w X.K X.mg X.base N (lamF X params scope c') f A outer s H C8.E0) body tb)
    (hp0 : starEach [e] X.env = (false, eval e X.env) :: starEach [] X.env := by rfl) (hp1 : backTo pos (starEach [e] X.env) = (false, eval e X.env) :: backTo pos (starEach [] X.env) := by rfl) (hp2 : (backTo pos (starEach [e] X.env)).any (·.1) = false := by rfl) :
    PE X (.Call (.Name "min" p) [e] [⟨some "key", .Lambda params body scope lpos, kp1⟩, ⟨some "default", .Constant .none j p2, kp2⟩] pos) (tMinLam T N js te tb) := by
  refine ⟨fun pins s σ H Q I h => ?_⟩
  refine wpAny_Call_Name_kw (ld_blt I hg hm (by decide +kernel : bootBuiltins "min" = some (.builtin "min")) ?_)
  let W : List V → Hp → Prop := fun vs H1 => match vs with
    | [x] => MinW T N js tb σ Q x H1
    | _ => False
  have h' : tCons te tNil σ H W := h
  refine PyProof.Rows.callWith_kw (thn ((pa_cons he pa_nil hp0).run pos pins s σ H W I h') fun us s1 ⟨vs, H1, I1, r1, q1⟩ => ?_) hp1 hp2 rfl rfl
  obtain ⟨x, rfl⟩ : ∃ x, vs = [x] := by
    cases vs with
    | nil => exact (show False from q1).elim
    | cons x r => cases r with
      | nil => exact ⟨x, rfl⟩
      | cons y z => exact (show False from q1).elim
  obtain ⟨hT, l, ns, kf, rfl, hl, q2⟩ := (show MinW T N js tb σ Q x H1 from q1)
  cases r1 with
  | cons ru rn =>
    cases rn
    cases ru
    show wpAny _ _ (evalAll ((do let v ← eval (.Lambda params body scope lpos) X.env; standAt pos; pure v) :: (do let v ← eval (.Constant .none j p2) X.env; standAt pos; pure v) :: [])) _ _ s1
    have fr0 : ∀ y ∈ scope.names, y.2 = .free → ∃ c, X.env.cells.lookup y.1 = some c := fun y hy e => (hfree y hy e).elim (fun z => I1.ok.has _ (.inl z)) fun z => I1.ok.has _ (.inr z)
    refine wpAny_evalAll_cons (wpAny_bind (lam_make2 I1 TB hcode hmT hu hT hdef fr0 fun f c' pm ctv H2 s2 I2 eN T2 hf hfn hfs hc => ?_))
    refine wpAny_bind (wpAny_standAt (wpAny_pure ?_))
    refine wpAny_evalAll_cons (wpAny_bind (Constant_none (wpAny_bind (wpAny_standAt (wpAny_pure (wpAny_evalAll_nil ?_))))))
    obtain ⟨q3, q4, q5⟩ := q2 H2 eN T2
    have nL : f ≠ X.env.locals := fun z => by
      obtain ⟨m, ⟨o, es, ep, ho, hd, _⟩, _⟩ := I2.loc
      rw [← z, hf] at ho
      cases ho
      cases hd
    have nF : f ∉ X.fs := fun z => hfs (by
      rw [hst]
      show f ∈ (X.env :: X.outer).filterMap (·.frame)
      rw [List.filterMap_cons]
      split
      · exact z
      · exact .tail _ z)
    have I3 : Inv X ((f, PySem.W.kla_obj "<lambda>" (X.env.qual ++ "<lambda>") params body scope (cloFrom X.env.cells scope.names []) pm c' ctv) :: pins) σ H2 s2 := by
      refine I2.pins_of fun p hp => ?_
      cases hp with
      | head => exact ⟨hf, hfn, nL, nF, fun v z => nomatch z⟩
      | tail _ hp => exact I2.pin p (List.mem_append_right _ hp)
    have cp : Caps X (cloFrom X.env.cells scope.names []) fr js := Caps.made I2.ok hfree hfr hjs
    have turn := lamTurn (q := f) (kf := kf) (pm := pm) (ctv := ctv) (hr.in1) S cp (fun u => hbind _ _ _ _ _ u) hc (hbody c') q3
    have hl2 : H2 l = some (.lst (ns.map V.int)) := eN l _ hl fun ps z => nomatch z
    refine thn (minRun hr.hd I3 hl2 turn (.head _)) fun u s3 ⟨I4, hu⟩ => ?_
    have I5 := unpinOne I4
    rcases hu with ⟨e1, e2⟩ | ⟨m, t, e2, e3, e4⟩
    · subst e2
      exact ⟨.non, H2, I5, rfl, q4 e1⟩
    · subst e2
      exact ⟨.int m, H2, I5, ⟨t, rfl⟩, q5 m e3 e4⟩
end
end MinL

set_option Elab.async false
set_option maxRecDepth 100000
set_option maxHeartbeats 4000000
namespace K14
open PySem PySem.Spec PyProof.Rows L2 C8 LamX NdefX MinL

theorem SetAt.of {C : Addr} {H H' : Hp} {q : Addr} {n : Nat} (h : SetAt C H q n) (e : ∀ o, H q = some o → (∀ ps, o ≠ .tbl ps) → H' q = some o) : SetAt C H' q n := by
  obtain ⟨dx, fs, h1, h2, h3⟩ := h
  exact ⟨dx, fs, e _ h1 (fun ps z => by cases z), h2, h3⟩

abbrev s_distance : Stmt := top 9
abbrev n_distance : List Str := ["setting", "seat", "other"]
theorem sc_distance : FnScope n_distance ["setting", "seat", "other"] (C8.fnScope s_distance) := ⟨rfl, rfl, rfl, by decide +kernel, rfl, by decide +kernel, by decide +kernel⟩
def ringN (n : Nat) : Int := ((2 ^ n : Nat) : Int)
theorem ring_pos (n : Nat) : 0 < ringN n := by
  unfold ringN
  have := Nat.two_pow_pos n
  omega
def spDist (C : Addr) : Sp := fun vs H Q _ => ∃ (q : Addr) (a b : Int) (n : Nat), vs = [.ref q, .int a, .int b] ∧ SetAt C H q n ∧ n ≤ 8 ∧ Q (.int ((b - a) % ringN n)) H

section
variable {P : Program} {w : World} {K : PySem.W.Frag} {mg : Str → Option Value} {base : Heap} {C : Addr}
theorem f_seats {g : Addr} {fd : FuncData} (cl : Cls K C) (n1 : NoAttr K C "bits") (F : C8.Fun K "seats" "Setting.seats" s_seats g fd) : FnOk P w K mg base C8.CX0 1 g fd ["self"] (spSeats C) := by
  refine C8.fn0 F sc_seats (fun vs H Q E h => ?_) (fun cdv A outer s H vs Q E hr h => ?_)
  · obtain ⟨q, n, rfl, _⟩ := h
    rfl
  · obtain ⟨q, n, rfl, ⟨dx, fs, h1, h2, h3⟩, hn, k⟩ := h
    refine ⟨_, (pss_one (ps_ret (pe_op op_shl pe_int (pe_fld (pv 0) rfl)))), ?_⟩
    refine ⟨_, rfl, q, C, dx, fs, _, rfl, h1, cl, n1, h2, _, _, rfl, rfl, ⟨by omega, by omega, by decide⟩, ?_⟩
    have e : (1 : Int) * 2 ^ ((n : Int)).toNat = ((2 ^ n : Nat) : Int) := by
      rw [Int.toNat_natCast, Int.one_mul]
      simp
    show Q (.int (1 * 2 ^ ((n : Int)).toNat)) H
    rw [e]
    exact k
theorem c_distance (ST : SetT K mg C) (d : D0 K mg "distance" s_distance n_distance) : Cal P w K mg base 3 "distance" (spDist C) [] := by
  refine cal d sc_distance (fun vs H Q E h => ?_) (fun cdv A outer f s H vs Q E hr h => ?_)
  · obtain ⟨q, a, b, n, rfl, _⟩ := h
    rfl
  · obtain ⟨q, a, b, n, rfl, hs, hn, k⟩ := h
    obtain ⟨pp, g, fd, hp, F, bb⟩ := ST.sea
    have G : FnOk P w K mg base C8.CX0 1 g fd ["self"] (spSeats C) := f_seats ST.cl ST.n1 F
    refine ⟨_, (pss_one (ps_ret (pe_op op_mod (pe_op op_sub (pv 2) (pv 1)) (pe_prop (pv 0) ST.cl hp G hr bb .nil (C8.pass0 (E := C8.E0)) rfl)))), ?_⟩
    obtain ⟨dx, fs, h1, h2, h3⟩ := id hs
    refine ⟨_, rfl, _, rfl, _, _, rfl, rfl, _, rfl, q, dx, fs, rfl, h1, q, n, rfl, hs, hn, _, _, rfl, rfl, pm (ring_pos n), k⟩
end

/-! ### first_from -/
abbrev s_first : Stmt := top 10
abbrev n_first : List Str := ["setting", "place", "held"]
theorem sc_first : FnScope n_first n_first (C8.fnScope s_first) := ⟨rfl, rfl, rfl, by decide +kernel, rfl, by decide +kernel, by decide +kernel⟩
def lamQ : Str := (envOfC ("first_from" : Str) (C8.fnScope s_first) 0 0 .none).qual ++ "<lambda>"
theorem lam_free : ∀ y ∈ ([("seat", .local), ("place", .free), ("setting", .free), ("distance", .globalImplicit)] : List (Str × NameKind)), y.2 = .free → (C8.fnScope s_first).names.lookup y.1 = some .cell ∨ (C8.fnScope s_first).names.lookup y.1 = some .free := by decide +kernel
/-- the table of first_from's code -/
abbrev TT (t : Addr) : List (Addr × Str) := [(t, lamQ)]
structure D1 (K : PySem.W.Frag) (mg : Str → Option Value) (c : Addr) : Prop where
  ex : ∃ (f : Addr) (oc : Value) (od : Option Addr) (kV doc pm : Value) (an : Option Addr) (ct : Value) (osl : Array (Option Value)),
    K.lookup f = some ⟨oc, od, .func (PySem.W.fnOf "first_from" "first_from" (C8.fnArgs s_first) (C8.fnBody s_first) (C8.fnScope s_first) .none kV doc pm an (.ref c) ct), osl⟩ ∧ PySem.W.codeIn K (.ref c) "first_from" = true ∧
      mg "first_from" = some (.ref f) ∧ PySem.W.keepIn K (.ref f) = true
def spFirst (C t : Addr) : Sp := fun vs H Q _ => ∃ (q : Addr) (place : Int) (l : Addr) (n : Nat) (ns : List Int), vs = [.ref q, .int place, .ref l] ∧ SetAt C H q n ∧ n ≤ 8 ∧ H l = some (.lst (ns.map V.int)) ∧ Tabs (TT t) H ∧
  ∀ (v : V) (H' : Hp), ExtN H H' → Tabs (TT t) H' → ((ns = [] ∧ v = .non) ∨ ∃ m, v = .int m ∧ m ∈ ns ∧ ∀ k ∈ ns, (m - place) % ringN n ≤ (k - place) % ringN n) → Q v H'

section
variable {P : Program} {w : World} {K : PySem.W.Frag} {mg : Str → Option Value} {base : Heap} {C : Addr}
theorem c_first {c t : Addr} (T : Bl mg) (c_distance : Cal P w K mg base 3 "distance" (spDist C) []) (d : D1 K mg c) (TB : TabB base mg c t) : Cal P w K mg base 7 "first_from" (spFirst C t) [] := by
  obtain ⟨f, oc, od, kV, doc, pm, an, ct, osl, lk, hcd, hm, kp⟩ := d.ex
  refine ⟨f, PySem.W.fnOf "first_from" "first_from" (C8.fnArgs s_first) (C8.fnBody s_first) (C8.fnScope s_first) .none kV doc pm an (.ref c) ct, n_first, [], ?_, hm, kp, .all fun us hl => match us, hl with | [_, _, _], _ => rfl, .nil⟩
  refine fn_of lk hcd sc_first (fun vs H Q E h => ?_) (fun A outer s H vs Q E hr h => ?_)
  · obtain ⟨q, place, l, n, ns, rfl, _⟩ := h
    rfl
  · obtain ⟨q, place, l, n, ns, rfl, hs, hn, hl, hT, k⟩ := h
    refine ⟨_, PSs.nox (pss_one (ps_ret (pe_minLam (T := TT t) (a := "seat") (fr := ["setting", "place"]) (js := [0, 1]) (N := ["seat", "setting", "place"]) (k := 4) (by rfl) T.min (pv 2) TB rfl (.head _) (fun p hp _ => by cases hp with
      | head => rfl
      | tail _ hp => cases hp) rfl hr (nscope_by (by decide +kernel)) lam_free (by decide +kernel) (by rfl) rfl (fun _ _ _ _ _ _ => rfl)
      (fun c' A outer s H f hr => pe_c c_distance hr (by decide) rfl (pa_cons (pv 1) (pa_cons (pv 2) (pa_cons (pv 0) pa_nil))))))), ?_⟩
    refine ⟨_, rfl, hT, l, ns, fun x => (x - place) % ringN n, rfl, hl, fun H2 eN T2 => ?_⟩
    refine ⟨fun x hx => ?_, fun hz => k .non H2 eN T2 (.inl ⟨hz, rfl⟩), fun m hm best => k (.int m) H2 eN T2 (.inr ⟨m, rfl, hm, best⟩)⟩
    refine ⟨_, rfl, _, rfl, _, rfl, q, place, x, n, rfl, hs.of (fun o e ne => eN _ _ e ne), hn, rfl, rfl⟩
end
end K14

set_option Elab.async false
set_option maxRecDepth 100000
set_option maxHeartbeats 4000000
set_option exponentiation.threshold 4096
namespace K14
open PySem PySem.Spec PyProof.Rows L2 C8

/-- all that was tracked, but the object at b, is as it was -/
def Sx (b : Addr) (H H' : Hp) : Prop := ∀ a o, H a = some o → a ≠ b → H' a = some o
theorem Sx.refl (b : Addr) (H : Hp) : Sx b H H := fun _ _ h _ => h
theorem Sx.trans {b : Addr} {H H1 H2 : Hp} (x : Sx b H H1) (y : Sx b H1 H2) : Sx b H H2 := fun a o h n => y a o (x a o h n) n
theorem Sx.upd {b : Addr} {H H1 : Hp} (x : Sx b H H1) (o : HO) : Sx b H (L2.upd H1 b o) := fun a u h n => by
  rw [upd_ne n]
  exact x a u h n
theorem dvw {j : Int} (h : 0 < j) (h2 : j < 2 ^ 2000) (i : Int) : CDivW i j := by
  refine wide_div h (b := 2000) ?_ (by decide) (by decide)
  have e : (2 : Int) ^ 2000 = ((2 ^ 2000 : Nat) : Int) := by simp
  rw [e] at h2
  generalize (2 : Nat) ^ 2000 = z at h2 ⊢
  omega
theorem at_lt {α : Type} {xs : List α} {z : Int} (h0 : 0 ≤ z) (h1 : z < xs.length) : ∃ v, atI xs z = some v := by
  obtain ⟨j, rfl⟩ := Int.eq_ofNat_of_zero_le h0
  have hl : j < xs.length := by omega
  exact ⟨xs[j], atI_nat (List.getElem?_eq_getElem hl)⟩
theorem at_map {xs : List Int} {z : Int} {v : V} (h : atI (xs.map V.int) z = some v) : ∃ n : Int, v = .int n := by
  obtain ⟨j, _, e, _⟩ := atI_get h
  rw [List.getElem?_map] at e
  cases q : xs[j]? with
  | none => rw [q] at e; cases e
  | some n => rw [q] at e; exact ⟨n, (Option.some.inj e).symm⟩

/-! ### the purse -/
def pv7 (c : Addr) (a r l m s n : Int) : List (Key × V) := [(.inr "cells", .ref c), (.inr "at", .int a), (.inr "rest", .int r), (.inr "left", .int l), (.inr "mixed", .int m), (.inr "seed", .int s), (.inr "count", .int n)]
structure PuV (H : Hp) (p c : Addr) (cells : List Int) (a r l m s n : Int) : Prop where
  hp : H p = some (.dK (pv7 c a r l m s n))
  hc : H c = some (.lst (cells.map V.int))
theorem PuV.ne {H : Hp} {p c : Addr} {cells : List Int} {a r l m s n : Int} (B : PuV H p c cells a r l m s n) : c ≠ p := by
  intro e
  have h := B.hc
  rw [e, B.hp] at h
  cases h
theorem PuV.set {H : Hp} {p c : Addr} {cells : List Int} {a r l m s n : Int} (B : PuV H p c cells a r l m s n) (a' r' l' m' s' n' : Int) : PuV (upd H p (.dK (pv7 c a' r' l' m' s' n'))) p c cells a' r' l' m' s' n' :=
  ⟨upd_same, by rw [upd_ne B.ne]; exact B.hc⟩
/-- the purse, between two draws -/
def Purse (H : Hp) (p c : Addr) : Prop := ∃ (cells : List Int) (a r l m s n : Int), PuV H p c cells a r l m s n ∧ 0 ≤ a
section
variable {H : Hp} {p c : Addr} {cells : List Int} {a r l m s n : Int}
theorem PuV.g_cells (B : PuV H p c cells a r l m s n) : DGet H p (.str "cells") (some (.ref c)) := by
  have h := DGet.k (k := Sum.inr "cells") B.hp
  rw [show valV (pv7 c a r l m s n) (Sum.inr "cells") = some (.ref c) by kernel_rfl] at h
  exact h
theorem PuV.g_at (B : PuV H p c cells a r l m s n) : DGet H p (.str "at") (some (.int a)) := by
  have h := DGet.k (k := Sum.inr "at") B.hp
  rw [show valV (pv7 c a r l m s n) (Sum.inr "at") = some (.int a) by kernel_rfl] at h
  exact h
theorem PuV.p_at (B : PuV H p c cells a r l m s n) (z : Int) : DPut H p (.str "at") (.int z) (upd H p (.dK (pv7 c z r l m s n))) := by
  have h := DPut.k (k := Sum.inr "at") (v := .int z) B.hp (by show 7 < sizeLine; decide)
  rw [show putK (pv7 c a r l m s n) (Sum.inr "at") (.int z) = pv7 c z r l m s n by kernel_rfl] at h
  exact h
theorem PuV.g_rest (B : PuV H p c cells a r l m s n) : DGet H p (.str "rest") (some (.int r)) := by
  have h := DGet.k (k := Sum.inr "rest") B.hp
  rw [show valV (pv7 c a r l m s n) (Sum.inr "rest") = some (.int r) by kernel_rfl] at h
  exact h
theorem PuV.p_rest (B : PuV H p c cells a r l m s n) (z : Int) : DPut H p (.str "rest") (.int z) (upd H p (.dK (pv7 c a z l m s n))) := by
  have h := DPut.k (k := Sum.inr "rest") (v := .int z) B.hp (by show 7 < sizeLine; decide)
  rw [show putK (pv7 c a r l m s n) (Sum.inr "rest") (.int z) = pv7 c a z l m s n by kernel_rfl] at h
  exact h
theorem PuV.g_left (B : PuV H p c cells a r l m s n) : DGet H p (.str "left") (some (.int l)) := by
  have h := DGet.k (k := Sum.inr "left") B.hp
  rw [show valV (pv7 c a r l m s n) (Sum.inr "left") = some (.int l) by kernel_rfl] at h
  exact h
theorem PuV.p_left (B : PuV H p c cells a r l m s n) (z : Int) : DPut H p (.str "left") (.int z) (upd H p (.dK (pv7 c a r z m s n))) := by
  have h := DPut.k (k := Sum.inr "left") (v := .int z) B.hp (by show 7 < sizeLine; decide)
  rw [show putK (pv7 c a r l m s n) (Sum.inr "left") (.int z) = pv7 c a r z m s n by kernel_rfl] at h
  exact h
theorem PuV.g_mixed (B : PuV H p c cells a r l m s n) : DGet H p (.str "mixed") (some (.int m)) := by
  have h := DGet.k (k := Sum.inr "mixed") B.hp
  rw [show valV (pv7 c a r l m s n) (Sum.inr "mixed") = some (.int m) by kernel_rfl] at h
  exact h
theorem PuV.p_mixed (B : PuV H p c cells a r l m s n) (z : Int) : DPut H p (.str "mixed") (.int z) (upd H p (.dK (pv7 c a r l z s n))) := by
  have h := DPut.k (k := Sum.inr "mixed") (v := .int z) B.hp (by show 7 < sizeLine; decide)
  rw [show putK (pv7 c a r l m s n) (Sum.inr "mixed") (.int z) = pv7 c a r l z s n by kernel_rfl] at h
  exact h
theorem PuV.g_seed (B : PuV H p c cells a r l m s n) : DGet H p (.str "seed") (some (.int s)) := by
  have h := DGet.k (k := Sum.inr "seed") B.hp
  rw [show valV (pv7 c a r l m s n) (Sum.inr "seed") = some (.int s) by kernel_rfl] at h
  exact h
theorem PuV.p_seed (B : PuV H p c cells a r l m s n) (z : Int) : DPut H p (.str "seed") (.int z) (upd H p (.dK (pv7 c a r l m z n))) := by
  have h := DPut.k (k := Sum.inr "seed") (v := .int z) B.hp (by show 7 < sizeLine; decide)
  rw [show putK (pv7 c a r l m s n) (Sum.inr "seed") (.int z) = pv7 c a r l m z n by kernel_rfl] at h
  exact h
theorem PuV.g_count (B : PuV H p c cells a r l m s n) : DGet H p (.str "count") (some (.int n)) := by
  have h := DGet.k (k := Sum.inr "count") B.hp
  rw [show valV (pv7 c a r l m s n) (Sum.inr "count") = some (.int n) by kernel_rfl] at h
  exact h
theorem PuV.p_count (B : PuV H p c cells a r l m s n) (z : Int) : DPut H p (.str "count") (.int z) (upd H p (.dK (pv7 c a r l m s z))) := by
  have h := DPut.k (k := Sum.inr "count") (v := .int z) B.hp (by show 7 < sizeLine; decide)
  rw [show putK (pv7 c a r l m s n) (Sum.inr "count") (.int z) = pv7 c a r l m s z by kernel_rfl] at h
  exact h
end
end K14

set_option Elab.async false
set_option maxRecDepth 100000
set_option maxHeartbeats 4000000
set_option exponentiation.threshold 4096
namespace K14
open PySem PySem.Spec PyProof.Rows L2 C8

/-- all that was tracked is as it was, or new -/
theorem Sx.new {b : Addr} {H H1 : Hp} {p : Addr} (x : Sx b H H1) (n : H1 p = none) (o : HO) : Sx b H (L2.upd H1 p o) := fun a u h q => by
  rw [upd_ne (ne_of_none (x a u h q) n)]
  exact x a u h q
theorem sameNew {H H' : Hp} (e : Same H H') {b : Addr} (nb : H' b = none) (o : HO) : Same H (upd H' b o) := fun c u h => by
  rw [upd_ne (ne_of_none (e c u h) nb)]
  exact e c u h
theorem PuV.new {H : Hp} {p c : Addr} {cells : List Int} {a r l m s n : Int} (B : PuV H p c cells a r l m s n) {q : Addr} (z : H q = none) (o : HO) : PuV (upd H q o) p c cells a r l m s n :=
  ⟨by rw [upd_ne (ne_of_none B.hp z)]; exact B.hp, by rw [upd_ne (ne_of_none B.hc z)]; exact B.hc⟩
theorem Purse.new {H : Hp} {p c : Addr} (B : Purse H p c) {q : Addr} (z : H q = none) (o : HO) : Purse (upd H q o) p c := by
  obtain ⟨cells, a, r, l, m, s, n, B, h⟩ := B
  exact ⟨cells, a, r, l, m, s, n, B.new z o, h⟩
theorem Purse.at_ {H : Hp} {p c : Addr} (B : Purse H p c) : ∃ o, H p = some o := by
  obtain ⟨cells, a, r, l, m, s, n, B, h⟩ := B
  exact ⟨_, B.hp⟩
theorem Purse.in_ {H : Hp} {p c : Addr} (B : Purse H p c) : ∃ o, H c = some o := by
  obtain ⟨cells, a, r, l, m, s, n, B, h⟩ := B
  exact ⟨_, B.hc⟩
theorem Purse.off {H : Hp} {p c : Addr} (B : Purse H p c) {q : Addr} (n1 : q ≠ p) (n2 : q ≠ c) (o : HO) : Purse (upd H q o) p c := by
  obtain ⟨cells, a, r, l, m, s, n, B, h⟩ := B
  exact ⟨cells, a, r, l, m, s, n, ⟨by rw [upd_ne n1.symm]; exact B.hp, by rw [upd_ne n2.symm]; exact B.hc⟩, h⟩

abbrev s_law_purse : Stmt := top 18
abbrev n_law_purse : List Str := ["script", "cells", "seed", "cell"]
theorem sc_law_purse : FnScope n_law_purse ["script"] (C8.fnScope s_law_purse) := ⟨rfl, rfl, rfl, by decide +kernel, rfl, by decide +kernel, by decide +kernel⟩
abbrev s_law_mixed : Stmt := top 19
abbrev n_law_mixed : List Str := ["seed", "place", "first", "second"]
theorem sc_law_mixed : FnScope n_law_mixed ["seed", "place"] (C8.fnScope s_law_mixed) := ⟨rfl, rfl, rfl, by decide +kernel, rfl, by decide +kernel, by decide +kernel⟩
abbrev s_law_draw : Stmt := top 20
abbrev n_law_draw : List Str := ["purse", "many", "cell", "digit"]
theorem sc_law_draw : FnScope n_law_draw ["purse", "many"] (C8.fnScope s_law_draw) := ⟨rfl, rfl, rfl, by decide +kernel, rfl, by decide +kernel, by decide +kernel⟩

def spMixed : Sp := fun vs H Q _ => ∃ a t : Int, vs = [.int a, .int t] ∧ ∀ m : Int, Q (.int m) H
def spDraw : Sp := fun vs H Q _ => ∃ (p c : Addr) (m : Int), vs = [.ref p, .int m] ∧ Purse H p c ∧ 0 < m ∧ m < 1073741824 ∧ ∀ (d : Int) (H' : Hp), 0 ≤ d → d < m → Purse H' p c → Sx p H H' → Q (.int d) H'
def spPurse (K : PySem.W.Frag) : Sp := fun vs H Q _ => ∃ (a : Addr) (ns : List Int), vs = [.ref a] ∧ SqL K H a (ns.map V.int) ∧ ∀ (p c : Addr) (H' : Hp), H p = none → Purse H' p c → Same H H' → Q (.ref p) H'
theorem cut_map (ns : List Int) (lo hi : Option Int) : ∃ ms : List Int, cutV (ns.map V.int) lo hi = ms.map V.int ∧ ms.length ≤ ns.length := by
  refine ⟨((ns.drop (HT.sIx ns.length 0 lo)).take (HT.sIx ns.length ns.length hi - HT.sIx ns.length 0 lo)), ?_, ?_⟩
  · unfold cutV
    rw [List.length_map, List.map_take, List.map_drop]
  · rw [List.length_take, List.length_drop]
    omega
section
variable {P : Program} {w : World} {K : PySem.W.Frag} {mg : Str → Option Value} {base : Heap}
theorem c_mixed (T : Bl mg) (d : D0 K mg "_law_mixed" s_law_mixed ["seed", "place"]) : Cal P w K mg base 1 "_law_mixed" spMixed [] := by
  refine cal d sc_law_mixed (fun vs H Q E h => ?_) (fun cdv A outer f s H vs Q E hr h => ?_)
  · obtain ⟨a, t, rfl, _⟩ := h
    rfl
  · obtain ⟨a, t, rfl, k⟩ := h
    have S := sc_law_mixed
    refine ⟨_, (pss_cons (ps_set (i := 2) S.nd rfl (Or.inl rfl) (pe_op op_mod (pe_callTy call_int1 (by rfl) T.int (by decide +kernel) (pa_cons (pe_op op_add (pe_op op_add (pe_op op_mul (pv 0) pe_int) (pe_op op_mul (pv 1) pe_int)) pe_int) pa_nil)) pe_int))
      (pss_cons (ps_set (i := 3) S.nd rfl (Or.inl rfl) (pe_op op_mod (pe_callTy call_int1 (by rfl) T.int (by decide +kernel) (pa_cons (pe_op op_add (pe_op op_add (pe_op op_mul (pv 2) (pe_op op_add (pe_op op_fdiv (pv 2) pe_int) pe_int)) (pe_op op_mul (pv 1) pe_int)) (pv 0)) pa_nil)) pe_int))
      (pss_one (ps_ret (pe_op op_fdiv (pv 3) pe_int))))), ?_⟩
    refine ⟨_, rfl, _, _, rfl, rfl, .inr ⟨by decide, by decide⟩, _, rfl, _, _, rfl, rfl, .inr ⟨by decide, by decide⟩, _, _, rfl, rfl, _, _, rfl, rfl, .inl ⟨_, rfl, _, _, rfl, rfl, pm (by decide), ?_⟩⟩
    refine ⟨_, rfl, _, rfl, _, _, rfl, rfl, ⟨by decide, by decide⟩, _, _, rfl, rfl, _, _, rfl, rfl, .inl ⟨by omega, by omega⟩, _, rfl, _, _, rfl, rfl, .inr ⟨by decide, by decide⟩, _, _, rfl, rfl, _, rfl, _, _, rfl, rfl, .inl ⟨_, rfl, _, _, rfl, rfl, pm (by decide), ?_⟩⟩
    exact ⟨_, rfl, _, _, rfl, rfl, ⟨by decide, by decide⟩, k _⟩
theorem c_draw (T : Bl mg) (c_law_mixed : Cal P w K mg base 1 "_law_mixed" spMixed []) (d : D0 K mg "_law_draw" s_law_draw ["purse", "many"]) : Cal P w K mg base 2 "_law_draw" spDraw [] := by
  refine cal d sc_law_draw (fun vs H Q E h => ?_) (fun cdv A outer f s H vs Q E hr h => ?_)
  · obtain ⟨p, c, m, rfl, _⟩ := h
    rfl
  · obtain ⟨p, c, many, rfl, ⟨cells, a, r, l, mx, sd, n, B, ha⟩, m1, m2, k⟩ := h
    have S := sc_law_draw
    have hu := hu_of hr
    refine ⟨_, (pss_cons (ps_asg (pe_op op_add (pe_dget hu (pv 0) pe_str (fun _ _ => rfl)) pe_int) (pg_sub (pv 0) pe_str (set_dict hu)))
      (pss_cut (ps_if (PW.pt (pw_and (pt_cmpR op_eq (pe_dget hu (pv 0) pe_str (fun _ _ => rfl)) pe_int (nomark _)) (pw_and (pt_cmpR op_eq (pe_dget hu (pv 0) pe_str (fun _ _ => rfl)) pe_int (nomark _)) (pw_and1 (pt_cmpR op_lt (pe_dget hu (pv 0) pe_str (fun _ _ => rfl)) (pe_callB call_len_seq (by rfl) T.len (by decide +kernel) (pa_cons (pe_dget hu (pv 0) pe_str (fun _ _ => rfl)) pa_nil)) (nomark _)))))) (pss_cons (ps_set (i := 2) S.nd rfl (Or.inl rfl) (pe_ix ix_list (pe_dget hu (pv 0) pe_str (fun _ _ => rfl)) (pe_dget hu (pv 0) pe_str (fun _ _ => rfl)) (fun _ _ => rfl)))
      (pss_cons (ps_asg (pe_op op_add (pe_dget hu (pv 0) pe_str (fun _ _ => rfl)) pe_int) (pg_sub (pv 0) pe_str (set_dict hu)))
      (pss_one (ps_if (pt_cmpR op_ge (pv 2) (pe_op op_pow pe_int pe_int) (nomark _)) (pss_one (ps_asg (pv 2) (pg_sub (pv 0) pe_str (set_dict hu)))) (pss_cons (ps_asg (pe_op op_mod (pe_callTy call_int1 (by rfl) T.int (by decide +kernel) (pa_cons (pv 2) pa_nil)) pe_int) (pg_sub (pv 0) pe_str (set_dict hu)))
      (pss_one (ps_asg pe_int (pg_sub (pv 0) pe_str (set_dict hu))))))))) pss_nil)
      (pss_cons (ps_if (pt_cmpR op_gt (pe_dget hu (pv 0) pe_str (fun _ _ => rfl)) pe_int (nomark _)) (pss_cons (ps_set (i := 3) S.nd rfl (Or.inl rfl) (pe_op op_mod (pe_callTy call_int1 (by rfl) T.int (by decide +kernel) (pa_cons (pe_dget hu (pv 0) pe_str (fun _ _ => rfl)) pa_nil)) (pv 1)))
      (pss_cons (ps_asg (pe_op op_fdiv (pe_dget hu (pv 0) pe_str (fun _ _ => rfl)) (pv 1)) (pg_sub (pv 0) pe_str (set_dict hu)))
      (pss_one (ps_ret (pv 3))))) pss_nil)
      (pss_cons (ps_if (pt_cmpR op_gt (pe_dget hu (pv 0) pe_str (fun _ _ => rfl)) pe_int (nomark _)) (pss_cons (ps_asg (pe_op op_sub (pe_dget hu (pv 0) pe_str (fun _ _ => rfl)) pe_int) (pg_sub (pv 0) pe_str (set_dict hu)))
      (pss_one (ps_ret (pe_op op_mod (pe_callTy call_int1 (by rfl) T.int (by decide +kernel) (pa_cons (pe_c c_law_mixed hr (by decide) rfl (pa_cons (pe_dget hu (pv 0) pe_str (fun _ _ => rfl)) (pa_cons (pe_dget hu (pv 0) pe_str (fun _ _ => rfl)) pa_nil))) pa_nil)) (pv 1))))) pss_nil)
      (pss_cons (ps_if (pt_cmpR op_eq (pe_dget hu (pv 0) pe_str (fun _ _ => rfl)) pe_int (nomark _)) (pss_one (ps_ret pe_int)) pss_nil)
      (pss_one (ps_ret (pe_op op_mod (pe_callTy call_int1 (by rfl) T.int (by decide +kernel) (pa_cons (pe_c c_law_mixed hr (by decide) rfl (pa_cons (pe_dget hu (pv 0) pe_str (fun _ _ => rfl)) (pa_cons (pe_dget hu (pv 0) pe_str (fun _ _ => rfl)) pa_nil))) pa_nil)) (pv 1))))))))), ?_⟩
    refine ⟨_, rfl, _, _, rfl, B.g_count, _, _, rfl, rfl, _, rfl, _, _, rfl, B.p_count _, ?_⟩
    have B1 := B.set a r l mx sd (n + 1)
    have X1 := (Sx.refl p H).upd (.dK (pv7 c a r l mx sd (n + 1)))
    refine ⟨fun σ H' => ∃ (a' r' l' mx' : Int) (q : Option V), σ = [some (.ref p), some (.int many), q, none] ∧ PuV H' p c cells a' r' l' mx' sd (n + 1) ∧ 0 ≤ a' ∧ Sx p H H', ?_, ?_⟩
    · refine ⟨_, rfl, _, _, rfl, B1.g_rest, rfl, _, rfl, ite2 (fun h1 => ?_) (fun h1 => iteF ⟨a, r, l, mx, _, rfl, B1, ha, X1⟩)⟩
      refine ⟨_, rfl, _, _, rfl, B1.g_left, rfl, _, rfl, ite2 (fun h2 => ?_) (fun h2 => iteF ⟨a, r, l, mx, _, rfl, B1, ha, X1⟩)⟩
      refine ⟨_, rfl, _, _, rfl, B1.g_at, _, rfl, _, _, rfl, B1.g_cells, _, _, rfl, .inl (SqL.of B1.hc), _, _, rfl, rfl, _, rfl, ite2 (fun hin => ?_) (fun h2 => ⟨a, r, l, mx, _, rfl, B1, ha, X1⟩)⟩
      obtain ⟨cv, hcv⟩ := at_lt ha (of_decide_eq_true hin)
      obtain ⟨cell, rfl⟩ := at_map hcv
      refine ⟨_, rfl, _, _, rfl, B1.g_cells, _, rfl, _, _, rfl, B1.g_at, _, _, _, _, rfl, rfl, SqL.of B1.hc, hcv, ?_⟩
      refine ⟨_, rfl, _, _, rfl, B1.g_at, _, _, rfl, rfl, _, rfl, _, _, rfl, B1.p_at _, ?_⟩
      have B2 := B1.set (a + 1) r l mx sd (n + 1)
      have X2 := X1.upd (.dK (pv7 c (a + 1) r l mx sd (n + 1)))
      refine ⟨_, rfl, _, _, rfl, rfl, ⟨by decide, by decide, by decide⟩, _, _, rfl, rfl, _, rfl, ite2 (fun hs => ?_) (fun hb => ?_)⟩
      · refine ⟨_, rfl, _, rfl, _, _, rfl, B2.p_rest _, ?_⟩
        exact ⟨a + 1, cell, l, mx, _, rfl, B2.set (a + 1) cell l mx sd (n + 1), by omega, X2.upd _⟩
      · refine ⟨_, rfl, .inl ⟨_, rfl, _, _, rfl, rfl, pm (by decide), _, rfl, _, _, rfl, B2.p_mixed _, ?_⟩⟩
        have B3 := B2.set (a + 1) r l (cell % 2147483629) sd (n + 1)
        exact ⟨_, rfl, _, _, rfl, B3.p_left _, a + 1, r, 6, _, _, rfl, B3.set (a + 1) r 6 (cell % 2147483629) sd (n + 1), by omega, (X2.upd _).upd _⟩
    · rintro σ H2 ⟨a', r', l', mx', q, rfl, B2, ha', X2⟩
      refine ⟨_, rfl, _, _, rfl, B2.g_rest, _, _, rfl, rfl, _, rfl, ite2 (fun hgt => ?_) (fun hle => ?_)⟩
      · refine ⟨_, rfl, _, _, rfl, B2.g_rest, .inl ⟨_, rfl, _, rfl, _, _, rfl, rfl, pm m1, ?_⟩⟩
        refine ⟨_, rfl, _, _, rfl, B2.g_rest, _, rfl, _, _, rfl, rfl, ⟨m1, m2⟩, _, rfl, _, _, rfl, B2.p_rest _, _, rfl, ?_⟩
        exact k _ _ (Int.emod_nonneg _ (by omega)) (Int.emod_lt_of_pos _ m1) ⟨cells, _, _, _, _, _, _, B2.set a' (r' / many) l' mx' sd (n + 1), ha'⟩ (X2.upd _)
      · refine ⟨_, rfl, _, _, rfl, B2.g_left, _, _, rfl, rfl, _, rfl, ite2 (fun hgt => ?_) (fun hle => ?_)⟩
        · refine ⟨_, rfl, _, _, rfl, B2.g_left, _, _, rfl, rfl, _, rfl, _, _, rfl, B2.p_left _, ?_⟩
          have B3 := B2.set a' r' (l' - 1) mx' sd (n + 1)
          refine ⟨_, rfl, _, _, rfl, B3.g_mixed, _, rfl, _, _, rfl, B3.g_count, _, _, rfl, fun z => .inl ⟨_, rfl, _, rfl, _, _, rfl, rfl, pm m1, ?_⟩⟩
          exact k _ _ (Int.emod_nonneg _ (by omega)) (Int.emod_lt_of_pos _ m1) ⟨cells, _, _, _, _, _, _, B3, ha'⟩ (X2.upd _)
        · refine ⟨_, rfl, _, _, rfl, B2.g_seed, rfl, _, rfl, ite2 (fun h0 => ?_) (fun h0 => ?_)⟩
          · exact k 0 _ (by decide) m1 ⟨cells, _, _, _, _, _, _, B2, ha'⟩ X2
          · refine ⟨_, rfl, _, _, rfl, B2.g_seed, _, rfl, _, _, rfl, B2.g_count, _, _, rfl, fun z => .inl ⟨_, rfl, _, rfl, _, _, rfl, rfl, pm m1, ?_⟩⟩
            exact k _ _ (Int.emod_nonneg _ (by omega)) (Int.emod_lt_of_pos _ m1) ⟨cells, _, _, _, _, _, _, B2, ha'⟩ X2
theorem c_purse (T : Bl mg) (d : D0 K mg "_law_purse" s_law_purse ["script"]) : Cal P w K mg base 1 "_law_purse" (spPurse K) [] := by
  refine cal d sc_law_purse (fun vs H Q E h => ?_) (fun cdv A outer f s H vs Q E hr h => ?_)
  · obtain ⟨a, ns, rfl, _⟩ := h
    rfl
  · obtain ⟨a, ns, rfl, hs, k⟩ := h
    have S := sc_law_purse
    have hu := hu_of hr
    refine ⟨_, (pss_cons (ps_set (i := 1) S.nd rfl (Or.inl rfl) (pe_slice sl_list (pv 0) po_none (po_some pe_int)))
      (pss_cons (ps_set (i := 2) S.nd rfl (Or.inl rfl) pe_int)
      (pss_cons (ps_for PassesOwn.never rfl (pi_list (pv 1)) (pg_name (i := 3) S.nd rfl (Or.inl rfl)) (pss_one (ps_set (i := 2) S.nd rfl (Or.inl rfl) (pe_op op_mod (pe_callTy call_int1 (by rfl) T.int (by decide +kernel) (pa_cons (pe_op op_add (pe_op op_add (pe_op op_mul (pv 2) pe_int) (pe_op op_mod (pe_callTy call_int1 (by rfl) T.int (by decide +kernel) (pa_cons (pv 3) pa_nil)) pe_int)) pe_int) pa_nil)) pe_int))))
      (pss_one (ps_ret (pe_disp (pps_cons pe_str (pv 1) (pps_cons pe_str pe_int (pps_cons pe_str pe_int (pps_cons pe_str pe_int (pps_cons pe_str pe_int (pps_cons pe_str (pv 2) (pps_cons pe_str pe_int pps_nil))))))) rfl rfl (fun z => nomatch z) (by decide))))))), ?_⟩
    obtain ⟨ms, em, _⟩ := cut_map ns none (some 63)
    refine ⟨_, rfl, _, rfl, _, _, rfl, hs, fun c nc => ?_⟩
    rw [em]
    have hc : upd H c (.lst (ms.map V.int)) c = some (.lst (ms.map V.int)) := upd_same
    have s1 : Same H (upd H c (.lst (ms.map V.int))) := sameNew (Same.refl H) nc _
    refine ⟨_, rfl, c, rfl, ⟨_, SqL.of hc⟩, for_list (K := K) (a := c) (xs := ms.map V.int) (fun i σ H2 => ∃ (z : Int) (v : Option V), σ = [some (.ref a), some (.ref c), some (.int z), v] ∧ H2 = upd H c (.lst (ms.map V.int)))
      ⟨0, none, rfl, rfl⟩ (fun i σ H2 _ ⟨_, _, _, e⟩ => by rw [e]; exact SqL.of hc) ?_ ?_⟩
    · rintro i y σ H2 hi ⟨z, v, rfl, rfl⟩
      obtain ⟨cell, rfl⟩ : ∃ z, y = V.int z := by
        rw [List.getElem?_map] at hi
        cases e : ms[i]? with
        | none => rw [e] at hi; cases hi
        | some z => rw [e] at hi; exact ⟨z, (Option.some.inj hi).symm⟩
      refine ⟨_, rfl, _, _, rfl, rfl, .inr ⟨by decide, by decide⟩, _, rfl, .inl ⟨_, rfl, _, _, rfl, rfl, pm (by decide), _, _, rfl, rfl, _, _, rfl, rfl, .inl ⟨_, rfl, _, _, rfl, rfl, pm (by decide), ?_⟩⟩⟩
      exact ⟨_, _, rfl, rfl⟩
    · rintro σ H2 ⟨z, v, rfl, rfl⟩
      intro p np
      have hp0 : (upd (upd H c (.lst (ms.map V.int))) p (.dK [])) p = some (.dK []) := upd_same
      refine ⟨_, rfl, _, rfl, hp0, [(.inr "cells", .ref c), (.inr "at", .int 0), (.inr "rest", .int 0), (.inr "left", .int 0), (.inr "mixed", .int 0), (.inr "seed", .int z), (.inr "count", .int 0)], rfl, by show 7 ≤ 15; decide, ?_⟩
      rw [show mergeK [] [((.inr "cells" : Key), V.ref c), (.inr "at", .int 0), (.inr "rest", .int 0), (.inr "left", .int 0), (.inr "mixed", .int 0), (.inr "seed", .int z), (.inr "count", .int 0)] = pv7 c 0 0 0 0 z 0 by kernel_rfl]
      have nH : H p = none := s1.free np
      have ncp : c ≠ p := ne_of_none hc np
      refine k p c _ nH ⟨ms, 0, 0, 0, 0, z, 0, ⟨upd_same, by rw [upd_ne ncp, upd_ne ncp]; exact hc⟩, by decide⟩ fun d o h => ?_
      have e := s1 d o h
      rw [upd_ne (ne_of_none e np), upd_ne (ne_of_none e np)]
      exact e
end
end K14

/-! Mathematics alone: targets on a ring. -/
namespace K14
theorem emod_lt' {r : Int} (h : 0 < r) (a : Int) : a % r < r := Int.emod_lt_of_pos _ h
theorem emod_nn {r : Int} (h : 0 < r) (a : Int) : 0 ≤ a % r := Int.emod_nonneg _ (by omega)
theorem back {r s x : Int} (h0 : 0 ≤ x) (h1 : x < r) : (s + (x - s) % r) % r = x := by
  rw [Int.add_emod, Int.emod_emod, ← Int.add_emod, show s + (x - s) = x by omega, Int.emod_eq_of_lt h0 h1]
theorem forth {r s k : Int} (h0 : 0 ≤ k) (h1 : k < r) : ((s + k) % r - s) % r = k := by
  rw [Int.sub_emod, Int.emod_emod, ← Int.sub_emod, show s + k - s = k by omega, Int.emod_eq_of_lt h0 h1]
/-- from w on, at most k steps -/
def tgGo (r seat : Int) (ns : List Int) : Nat → Int → Option Int
  | 0, _ => none
  | k + 1, w => if (seat + w) % r ∈ ns then some ((seat + w) % r) else tgGo r seat ns k (w + 1)
/-- the first seat of ns that lies at least off ahead of seat -/
def tg (r seat off : Int) (ns : List Int) : Option Int := tgGo r seat ns (r - off).toNat off
theorem tgGo_none {r seat off : Int} {ns : List Int} (ho : ∀ k ∈ ns, (k - seat) % r < off) : ∀ (k : Nat) (w : Int), 0 ≤ w → off ≤ w → w + (k : Int) ≤ r → tgGo r seat ns k w = none
  | 0, _, _, _, _ => rfl
  | k + 1, w, h0, h1, h2 => by
    unfold tgGo
    rw [if_neg fun hm => ?_]
    · exact tgGo_none ho k (w + 1) (by omega) (by omega) (by omega)
    · have := ho _ hm
      rw [forth h0 (by omega)] at this
      omega
theorem tg_none {r seat off : Int} {ns : List Int} (h0 : 0 ≤ off) (hr : off ≤ r) (ho : ∀ k ∈ ns, (k - seat) % r < off) : tg r seat off ns = none :=
  tgGo_none ho _ _ h0 (Int.le_refl _) (by omega)
theorem tgGo_some {r seat m off : Int} {ns : List Int} (hm : m ∈ ns) (m0 : 0 ≤ m) (m1 : m < r) (best : ∀ k ∈ ns, off ≤ (k - seat) % r → (m - seat) % r ≤ (k - seat) % r) : ∀ (k : Nat) (w : Int), 0 ≤ w → off ≤ w → w ≤ (m - seat) % r → w + (k : Int) = r → tgGo r seat ns k w = some m
  | 0, w, h0, h1, h2, h3 => by
    have := emod_lt' (show 0 < r by omega) (m - seat)
    omega
  | k + 1, w, h0, h1, h2, h3 => by
    unfold tgGo
    by_cases e : w = (m - seat) % r
    · have q : (seat + w) % r = m := by rw [e]; exact back m0 m1
      rw [q, if_pos hm]
    · rw [if_neg fun hk => ?_]
      · exact tgGo_some hm m0 m1 best k (w + 1) (by omega) (by omega) (by omega) (by omega)
      · have := best _ hk
        rw [forth h0 (by omega)] at this
        have := this h1
        omega
theorem tg_some {r seat off m : Int} {ns : List Int} (h0 : 0 ≤ off) (hr : off ≤ r) (hm : m ∈ ns) (m0 : 0 ≤ m) (m1 : m < r) (far : off ≤ (m - seat) % r) (best : ∀ k ∈ ns, off ≤ (k - seat) % r → (m - seat) % r ≤ (k - seat) % r) : tg r seat off ns = some m :=
  tgGo_some hm m0 m1 best _ _ h0 (Int.le_refl _) far (by omega)
/-- what the program does: the first seat from seat + off on, dropped if it lies nearer than off -/
theorem split_mod {r seat off k : Int} (h0 : 0 ≤ off) (hr : off ≤ r) (hr0 : 0 < r) : (k - (seat + off)) % r = if off ≤ (k - seat) % r then (k - seat) % r - off else (k - seat) % r + r - off := by
  have n0 := emod_nn hr0 (k - seat)
  have n1 := emod_lt' hr0 (k - seat)
  have e : (k - (seat + off)) % r = ((k - seat) % r - off) % r := by
    rw [show k - (seat + off) = (k - seat) - off by omega, Int.sub_emod, Int.sub_emod ((k - seat) % r) off, Int.emod_emod]
  rw [e]
  split
  · rw [Int.emod_eq_of_lt (by omega) (by omega)]
  · rw [← Int.add_emod_right, Int.emod_eq_of_lt (by omega) (by omega)]
    omega
theorem tg_first {r seat off m : Int} {ns : List Int} (hr0 : 0 < r) (h0 : 0 ≤ off) (hr : off ≤ r) (in0 : ∀ x ∈ ns, 0 ≤ x) (in1 : ∀ x ∈ ns, x < r) (hm : m ∈ ns) (best : ∀ k ∈ ns, (m - (seat + off)) % r ≤ (k - (seat + off)) % r) :
    tg r seat off ns = if (m - seat) % r < off then none else some m := by
  have mm := split_mod (k := m) (seat := seat) h0 hr hr0
  have n1 := emod_lt' hr0 (m - seat)
  split
  · rename_i hlt
    refine tg_none h0 hr fun k hk => ?_
    have b := best k hk
    have kk := split_mod (k := k) (seat := seat) h0 hr hr0
    have k1 := emod_lt' hr0 (k - seat)
    have k0 := emod_nn hr0 (k - seat)
    have m0 := emod_nn hr0 (m - seat)
    rw [mm, kk, if_neg (by omega)] at b
    split at b <;> omega
  · rename_i hge
    refine tg_some h0 hr hm (in0 m hm) (in1 m hm) (by omega) fun k hk far => ?_
    have b := best k hk
    have kk := split_mod (k := k) (seat := seat) h0 hr hr0
    rw [mm, kk, if_pos (by omega), if_pos far] at b
    omega
theorem tg_nil {r seat off : Int} (h0 : 0 ≤ off) (hr : off ≤ r) : tg r seat off [] = none := tg_none h0 hr fun k hk => nomatch hk
/-- the phase at a beat -/
def phN (bits pt beat : Nat) : Nat := beat % (bits * pt) / pt
theorem phN_lt {bits pt beat : Nat} (hb : 0 < bits) (hp : 0 < pt) : phN bits pt beat < bits := by
  unfold phN
  exact (Nat.div_lt_iff_lt_mul hp).mpr (Nat.mod_lt _ (Nat.mul_pos hb hp))
theorem phN_eq (bits pt beat : Nat) : beat / pt % bits = phN bits pt beat := by
  unfold phN
  rw [Nat.mul_comm bits pt, Nat.mod_mul_right_div_self]
theorem step_div {k pt : Nat} : (k + 1) / pt = k / pt + if (k + 1) % pt = 0 then 1 else 0 := by
  rw [Nat.succ_div]
  congr 1
  simp only [Nat.dvd_iff_mod_eq_zero]
end K14
namespace K14
theorem tgGo_congr {r seat : Int} {a b : List Int} (h : ∀ x, x ∈ a ↔ x ∈ b) : ∀ (k : Nat) (w : Int), tgGo r seat a k w = tgGo r seat b k w
  | 0, _ => rfl
  | k + 1, w => by
    unfold tgGo
    by_cases m : (seat + w) % r ∈ a
    · rw [if_pos m, if_pos ((h _).mp m)]
    · rw [if_neg m, if_neg fun z => m ((h _).mpr z)]
      exact tgGo_congr h k (w + 1)
theorem tg_congr {r seat off : Int} {a b : List Int} (h : ∀ x, x ∈ a ↔ x ∈ b) : tg r seat off a = tg r seat off b := tgGo_congr h _ _
theorem sorted_one {a b c : List Int} (h1 : a.Perm c) (s1 : a.Pairwise (· ≤ ·)) (h2 : b.Perm c) (s2 : b.Pairwise (· ≤ ·)) : a = b :=
  List.Perm.eq_of_pairwise (fun _ _ _ _ x y => Int.le_antisymm x y) s1 s2 (h1.trans h2.symm)
end K14

set_option Elab.async false
set_option maxRecDepth 100000
set_option maxHeartbeats 4000000
set_option exponentiation.threshold 4096
namespace K14
open PySem PySem.Spec PyProof.Rows L2 C8 LamX NdefX

/-! ### what stays -/
theorem extNew {H H1 : Hp} (e : ExtN H H1) {p : Addr} (n : H1 p = none) (o : HO) : ExtN H (L2.upd H1 p o) := fun b u h q => by
  have z := e b u h q
  rw [upd_ne (ne_of_none z n)]
  exact z
theorem extPut {H H1 : Hp} (e : ExtN H H1) {p : Addr} (n : H p = none) (o : HO) : ExtN H (L2.upd H1 p o) := fun b u h q => by
  rw [upd_ne (ne_of_none h n)]
  exact e b u h q
theorem lstN {H H' : Hp} {a : Addr} {xs : List V} (h : H a = some (.lst xs)) (e : ExtN H H') : H' a = some (.lst xs) := e _ _ h fun ps z => by cases z
theorem tupN {H H' : Hp} {a : Addr} {xs : List V} (h : H a = some (.tup xs)) (e : ExtN H H') : H' a = some (.tup xs) := e _ _ h fun ps z => by cases z
theorem dkN {H H' : Hp} {a : Addr} {xs : List (Key × V)} (h : H a = some (.dK xs)) (e : ExtN H H') : H' a = some (.dK xs) := e _ _ h fun ps z => by cases z
theorem SetAt.ext {C : Addr} {H H' : Hp} {q : Addr} {n : Nat} (h : SetAt C H q n) (e : ExtN H H') : SetAt C H' q n := h.of fun o a b => e _ o a b
theorem SetP.ext {C : Addr} {H H' : Hp} {q : Addr} {n : Nat} {pt : Int} (h : SetP C H q n pt) (e : ExtN H H') : SetP C H' q n pt := by
  obtain ⟨dx, fs, h1, h2⟩ := h
  exact ⟨dx, fs, e _ _ h1 (fun ps z => by cases z), h2⟩
/-- a store into a list leaves the tables -/
theorem tabsPut {T : List (Addr × Str)} {H : Hp} {D : Addr} {xs ys : List V} (hT : Tabs T H) (h : H D = some (.lst xs)) : Tabs T (L2.upd H D (.lst ys)) := fun p hp => by
  obtain ⟨ps, h1, h2, h3⟩ := hT p hp
  refine ⟨ps, ?_, h2, fun pos cv hc => ?_⟩
  · rw [upd_ne (fun e => by rw [e, h] at h1; cases h1)]
    exact h1
  · obtain ⟨c, e, hcc⟩ := h3 pos cv hc
    refine ⟨c, e, ?_⟩
    rw [upd_ne (fun z => by rw [z, h] at hcc; cases hcc)]
    exact hcc
theorem tabsNew {T : List (Addr × Str)} {H : Hp} {D : Addr} (hT : Tabs T H) (h : H D = none) (o : HO) : Tabs T (L2.upd H D o) := hT.ext fun b u e => by
  rw [upd_ne (ne_of_none e h)]
  exact e
def optV : Option Int → V
  | none => .non
  | some m => .int m

/-! ### the plan's defs -/
abbrev s_phase_of : Stmt := top 12
abbrev n_phase_of : List Str := ["setting", "beat"]
theorem sc_phase_of : FnScope n_phase_of ["setting", "beat"] (C8.fnScope s_phase_of) := ⟨rfl, rfl, rfl, by decide +kernel, rfl, by decide +kernel, by decide +kernel⟩
abbrev s_target : Stmt := top 13
abbrev n_target : List Str := ["setting", "seat", "beat", "held"]
theorem sc_target : FnScope n_target ["setting", "seat", "beat", "held"] (C8.fnScope s_target) := ⟨rfl, rfl, rfl, by decide +kernel, rfl, by decide +kernel, by decide +kernel⟩
abbrev s_phase_target : Stmt := top 14
abbrev n_phase_target : List Str := ["setting", "seat", "phase", "held", "offset", "found"]
theorem sc_phase_target : FnScope n_phase_target ["setting", "seat", "phase", "held"] (C8.fnScope s_phase_target) := ⟨rfl, rfl, rfl, by decide +kernel, rfl, by decide +kernel, by decide +kernel⟩
/-- the phase that the beat has -/
def phI (n pt beat : Nat) : Int := (n : Int) - 1 - ((phN n pt beat : Nat) : Int)
def spPhaseOf (C : Addr) : Sp := fun vs H Q _ => ∃ (q : Addr) (n pt beat : Nat), vs = [.ref q, .int (beat : Int)] ∧ SetP C H q n (pt : Int) ∧ 1 ≤ n ∧ 1 ≤ pt ∧ pt ≤ 6 ∧ Q (.int (phI n pt beat)) H
/-- what the seat's call at phase f has -/
def tgP (n : Nat) (seat : Int) (f : Nat) (ns : List Int) : Option Int := tg (ringN n) seat ((2 ^ f : Nat) : Int) ns
structure InRing (ns : List Int) (r : Int) : Prop where
  lo : ∀ x ∈ ns, 0 ≤ x
  hi : ∀ x ∈ ns, x < r
def spPT (C t : Addr) : Sp := fun vs H Q _ => ∃ (q : Addr) (seat : Int) (f : Nat) (l : Addr) (n : Nat) (ns : List Int), vs = [.ref q, .int seat, .int (f : Int), .ref l] ∧ SetAt C H q n ∧ n ≤ 8 ∧ f < n ∧ H l = some (.lst (ns.map V.int)) ∧ InRing ns (ringN n) ∧ Tabs (TT t) H ∧
  ∀ H' : Hp, ExtN H H' → Tabs (TT t) H' → Q (optV (tgP n seat f ns)) H'
def spTarget (C t : Addr) : Sp := fun vs H Q _ => ∃ (q : Addr) (seat : Int) (beat : Nat) (l : Addr) (n pt : Nat) (ns : List Int), vs = [.ref q, .int seat, .int (beat : Int), .ref l] ∧ SetP C H q n (pt : Int) ∧ 1 ≤ n ∧ n ≤ 8 ∧ 1 ≤ pt ∧ pt ≤ 6 ∧ H l = some (.lst (ns.map V.int)) ∧ InRing ns (ringN n) ∧ Tabs (TT t) H ∧
  ∀ H' : Hp, ExtN H H' → Tabs (TT t) H' → Q (optV (tgP n seat (phI n pt beat).toNat ns)) H'
theorem phI_nat {n pt beat : Nat} (h1 : 1 ≤ n) (h2 : 1 ≤ pt) : ((phI n pt beat).toNat : Int) = phI n pt beat ∧ (phI n pt beat).toNat < n := by
  have := phN_lt (bits := n) (pt := pt) (beat := beat) h1 h2
  unfold phI
  omega

section
variable {P : Program} {w : World} {K : PySem.W.Frag} {mg : Str → Option Value} {base : Heap} {C t : Addr}
theorem c_phase_of (ST : SetT K mg C) (d : D0 K mg "phase_of" s_phase_of ["setting", "beat"]) : Cal P w K mg base 1 "phase_of" (spPhaseOf C) [] := by
  refine cal d sc_phase_of (fun vs H Q E h => ?_) (fun cdv A outer f s H vs Q E hr h => ?_)
  · obtain ⟨q, n, pt, beat, rfl, _⟩ := h
    rfl
  · obtain ⟨q, n, pt, beat, rfl, ⟨dx, fs, h1, h2, h3, h4⟩, n1, p1, p6, k⟩ := h
    refine ⟨_, (pss_one (ps_ret (pe_op op_sub (pe_op op_sub (pe_fld (pv 0) rfl) pe_int) (pe_op op_mod (pe_op op_fdiv (pv 1) (pe_fld (pv 0) rfl)) (pe_fld (pv 0) rfl))))), ?_⟩
    refine ⟨_, rfl, q, C, dx, fs, _, rfl, h1, ST.cl, ST.n1, h2, _, _, rfl, rfl, _, rfl, _, rfl, q, C, dx, fs, _, rfl, h1, ST.cl, ST.n2, h4, _, _, rfl, rfl, ⟨by omega, by omega⟩, _, rfl, q, C, dx, fs, _, rfl, h1, ST.cl, ST.n1, h2, _, _, rfl, rfl, pm (by omega), _, _, rfl, rfl, ?_⟩
    have e : (beat : Int) / (pt : Int) % (n : Int) = ((phN n pt beat : Nat) : Int) := by
      rw [← phN_eq]
      simp
    show Q (.int ((n : Int) - 1 - (beat : Int) / (pt : Int) % (n : Int))) H
    rw [e]
    exact k
theorem c_phase_target (c_first_from : Cal P w K mg base 7 "first_from" (spFirst C t) []) (c_distance : Cal P w K mg base 3 "distance" (spDist C) []) (d : D0 K mg "phase_target" s_phase_target ["setting", "seat", "phase", "held"]) : Cal P w K mg base 8 "phase_target" (spPT C t) [] := by
  refine cal d sc_phase_target (fun vs H Q E h => ?_) (fun cdv A outer f s H vs Q E hr h => ?_)
  · obtain ⟨q, seat, f, l, n, ns, rfl, _⟩ := h
    rfl
  · obtain ⟨q, seat, f, l, n, ns, rfl, hq, hn, hf, hl, ir, hT, k⟩ := h
    have S := sc_phase_target
    refine ⟨_, (pss_cons (ps_set (i := 4) S.nd rfl (Or.inl rfl) (pe_op op_shl pe_int (pv 2)))
      (pss_cons (ps_set (i := 5) S.nd rfl (Or.inl rfl) (pe_c c_first_from hr (by decide) rfl (pa_cons (pv 0) (pa_cons (pe_op op_add (pv 1) (pv 4)) (pa_cons (pv 3) pa_nil)))))
      (pss_cons (ps_if (PW.pt (pw_or (pt_cmp (pc_isN (pv 5))) (pw_or1 (pt_cmpR op_lt (pe_c c_distance hr (by decide) rfl (pa_cons (pv 0) (pa_cons (pv 1) (pa_cons (pv 5) pa_nil)))) (pv 4) (nomark _))))) (pss_one (ps_ret pe_non)) pss_nil)
      (pss_one (ps_ret (pv 5)))))), ?_⟩
    have e : (1 : Int) * 2 ^ ((f : Int)).toNat = ((2 ^ f : Nat) : Int) := by
      rw [Int.toNat_natCast, Int.one_mul]
      simp
    have o0 : (0 : Int) ≤ ((2 ^ f : Nat) : Int) := Int.natCast_nonneg _
    have o1 : ((2 ^ f : Nat) : Int) ≤ ringN n := by
      unfold ringN
      have := Nat.pow_le_pow_right (show 0 < 2 by decide) (Nat.le_of_lt hf)
      omega
    refine ⟨_, rfl, _, _, rfl, rfl, ⟨by omega, by omega, by decide⟩, ?_⟩
    simp only [e]
    refine ⟨_, rfl, _, rfl, _, rfl, _, _, rfl, rfl, _, rfl, q, _, l, n, ns, rfl, hq, hn, hl, hT, fun v H1 e1 T1 hv => ?_⟩
    rcases hv with ⟨rfl, rfl⟩ | ⟨m, rfl, hm, best⟩
    · refine ⟨_, rfl, _, rfl, iteT ?_⟩
      have z := k H1 e1 T1
      rw [show tgP n seat f [] = none from tg_nil o0 o1] at z
      exact z
    · have z := k H1 e1 T1
      rw [show tgP n seat f ns = _ from tg_first (ring_pos n) o0 o1 ir.lo ir.hi hm best] at z
      refine ⟨_, rfl, _, rfl, iteF ?_⟩
      refine ⟨_, rfl, _, rfl, _, rfl, q, seat, m, n, rfl, hq.ext e1, hn, _, rfl, _, _, rfl, rfl, _, rfl, ite2 (fun hlt => ?_) (fun hge => ?_)⟩
      · rw [if_pos (of_decide_eq_true hlt)] at z
        exact z
      · rw [if_neg (fun y => hge (decide_eq_true y))] at z
        exact ⟨_, rfl, z⟩
theorem c_target (c_phase_target : Cal P w K mg base 8 "phase_target" (spPT C t) []) (c_phase_of : Cal P w K mg base 1 "phase_of" (spPhaseOf C) []) (d : D0 K mg "target" s_target ["setting", "seat", "beat", "held"]) : Cal P w K mg base 9 "target" (spTarget C t) [] := by
  refine cal d sc_target (fun vs H Q E h => ?_) (fun cdv A outer f s H vs Q E hr h => ?_)
  · obtain ⟨q, seat, beat, l, n, pt, ns, rfl, _⟩ := h
    rfl
  · obtain ⟨q, seat, beat, l, n, pt, ns, rfl, hq, n1, n8, p1, p6, hl, ir, hT, k⟩ := h
    refine ⟨_, (pss_one (ps_ret (pe_c c_phase_target hr (by decide) rfl (pa_cons (pv 0) (pa_cons (pv 1) (pa_cons (pe_c c_phase_of hr (by decide) rfl (pa_cons (pv 0) (pa_cons (pv 2) pa_nil))) (pa_cons (pv 3) pa_nil))))))), ?_⟩
    obtain ⟨f1, f2⟩ := phI_nat (n := n) (pt := pt) (beat := beat) n1 p1
    exact ⟨_, rfl, _, rfl, _, rfl, _, rfl, q, n, pt, beat, rfl, hq, n1, p1, p6, _, rfl, q, seat, (phI n pt beat).toNat, l, n, ns, (by rw [f1]; rfl), hq.at_, n8, f2, hl, ir, hT, k⟩
end
end K14

set_option Elab.async false
set_option maxRecDepth 100000
set_option maxHeartbeats 4000000
namespace GenFor
open PySem PySem.Spec PyProof.Rows L2 GenW

/-! ### for over a range of ints of any size -/
theorem turn_long {P : Program} {w : World} {K : PySem.W.Frag} {tg : Expr} (it : Addr) (lo : Int) (n : Nat) : Turn P w K tg (Itr lo n) [it] it (fun i h => IsLongIter h it (lo + (i : Nat) * 1) ((n : Int) - (i : Nat)) 1) where
  mem := by simp
  obj := fun i h st b hb => by
    have e : b = it := by simpa using hb
    subst e
    exact ⟨_, st, fun v z => by
      have z' : Data.fields _ = Data.cell v := z
      cases z'⟩
  keep := fun i h h' st k => k it (by simp) _ st
  item := by
    intro X hP hw hK hc i pins s σ H E I hf st hg
    subst hP hw hK
    obtain ⟨f0, f1, f2, f3, f4, f5⟩ := hf it (by simp)
    have W := Walks.longrange (prog := X.prog) (w := X.w) (I.ok.hd hc) it lo 1 n
    refine W.item i s _ _ hg st fun v h' tk hv st' kk => ?_
    obtain ⟨t, rfl⟩ := hv
    have I1 : Inv X pins σ H { s with heap := h', toks := tk } := I.turned (fun b o hb e => kk b o (by simpa using hb) e) f0 f1 f3 f4 f5
    refine ⟨_, rfl, go_of (s := { s with heap := h', toks := tk }) (n := "longrange_iterator") st' rfl rfl (by decide) ⟨.int (lo + i), H, I1, ⟨t, ?_⟩, ⟨rfl, rfl⟩, st', fun b hb => (hf b hb).1⟩⟩
    rw [Int.mul_one]
  done := by
    intro X hP hw hK hc i pins s σ H E I hf st hg
    subst hP hw hK
    obtain ⟨f0, f1, f2, f3, f4, f5⟩ := hf it (by simp)
    exact wpAny_pyNext_long_end (I.ok.hd hc) st (by have : n ≤ i := hg; omega) fun h' eb => ⟨rfl, I.turned (t' := s.toks) (fun b o hb e => eb b o hb e) f0 f1 f3 f4 f5⟩
  self := fun _ _ _ _ _ st h => wpAny_pyIter_longiter st h

section
variable {X : Cx} {tg : Expr}
theorem range_itB {pins : List (Addr × Obj)} {σ : L2.St} {H : Hp} {s : Shared} {R : It → Hp → Prop} {E : Value → Shared → Prop} {lo hi : Int} {t u v : Tok} {tk : Nat} (I : Inv X pins σ H s)
    (q : R (Itr lo (hi - lo).toNat) H) : wpAny (model X.prog X.w) X.A (pyIter (.ref s.heap.objs.size)) (PIE X pins σ tg R) E { s with heap := s.heap.push { cls := .type "range", data := .fields #[.int lo t, .int hi u, .int 1 v] }, toks := tk } := by
  have I1 : Inv X pins σ H { s with heap := s.heap.push { cls := .type "range", data := .fields #[.int lo t, .int hi u, .int 1 v] }, toks := tk } := I.kept fun b o e => Heap.get?_push_of_some _ e
  have e1 : lo + ((0 : Nat) : Int) * 1 = lo := by simp
  have e2 : (((hi - lo).toNat : Nat) : Int) - ((0 : Nat) : Int) = Builtin.Range.rangeSize lo hi 1 := by rw [rangeSize_one]; split <;> omega
  cases sm : Builtin.Range.small lo hi 1 with
  | true =>
    refine wpAny_pyIter_range (IsRange.new ..) sm ?_
    refine ⟨(s.heap.push { cls := .type "range", data := .fields #[.int lo t, .int hi u, .int 1 v] }).objs.size, [(s.heap.push { cls := .type "range", data := .fields #[.int lo t, .int hi u, .int 1 v] }).objs.size], _, _, H, rfl,
      I1.kept (t' := tk) fun b o e => Heap.get?_push_of_some _ e, turn_range _ lo (hi - lo).toNat, ?_, fun b hb => ?_, q⟩
    · show IsRangeIter _ _ (lo + ((0 : Nat) : Int) * 1) ((((hi - lo).toNat : Nat) : Int) - ((0 : Nat) : Int)) 1
      rw [e1, e2]
      exact Heap.get?_push_size _ rfl
    · have e : b = (s.heap.push { cls := .type "range", data := .fields #[.int lo t, .int hi u, .int 1 v] }).objs.size := by simpa using hb
      subst e
      exact I1.fpOk (Nat.le_refl _) (I1.hok.fresh (Nat.le_refl _))
  | false =>
    refine wpAny_pyIter_longrange (IsRange.new ..) sm ?_
    refine ⟨(s.heap.push { cls := .type "range", data := .fields #[.int lo t, .int hi u, .int 1 v] }).objs.size, [(s.heap.push { cls := .type "range", data := .fields #[.int lo t, .int hi u, .int 1 v] }).objs.size], _, _, H, rfl,
      I1.kept (t' := tk) fun b o e => Heap.get?_push_of_some _ e, turn_long _ lo (hi - lo).toNat, ?_, fun b hb => ?_, q⟩
    · show IsLongIter _ _ (lo + ((0 : Nat) : Int) * 1) ((((hi - lo).toNat : Nat) : Int) - ((0 : Nat) : Int)) 1
      rw [e1, e2]
      exact Heap.get?_push_size _ rfl
    · have e : b = (s.heap.push { cls := .type "range", data := .fields #[.int lo t, .int hi u, .int 1 v] }).objs.size := by simpa using hb
      subst e
      exact I1.fpOk (Nat.le_refl _) (I1.hok.fresh (Nat.le_refl _))
def iRngB (ta : TA) : TI := fun σ H R => ta σ H fun vs H1 => ∃ i j : Int, vs = [.int i, .int j] ∧ R (Itr i (j - i).toNat) H1
theorem pi_rangeB {a b : Expr} {ta : TA} {p pos : Pos} (hg : Gl X "range") (hm : X.mg "range" = none) (ha : PA X [a, b] ta) (hs : starEach [a, b] X.env = [(false, eval a X.env), (false, eval b X.env)] := by rfl) (hs2 : starEach [b] X.env = [(false, eval b X.env)] := by rfl) :
    PI X tg (.Call (.Name "range" p) [a, b] [] pos) (iRngB ta) := by
  refine ⟨fun pins s σ H R I h => ?_⟩
  refine Call_ (ld_blt I hg hm boot_range (PyProof.Rows.callWith_type1 (thn (ha.run pos pins s σ H _ I h) fun us s1 ⟨vs, H1, I1, r1, q1⟩ => ?_) (by rw [hs, hs2]) (by rw [hs2]; rfl)))
  obtain ⟨i, j, e, q⟩ := q1
  subst e
  cases r1 with
  | cons r rr =>
    cases rr with
    | cons r' rr =>
      cases rr
      obtain ⟨t, rfl⟩ := r
      obtain ⟨t', rfl⟩ := r'
      exact call_range_2 (range_itB I1 q)
end
end GenFor

set_option Elab.async false
set_option maxRecDepth 100000
set_option maxHeartbeats 4000000
namespace GenFor
open PySem PySem.Spec PyProof.Rows L2 GenW

/-! ### for in a generator's body -/
abbrev noted (env : Env) : Value → Sem PySem.Fin := fun e => (do noteFrame e env; theTreesLotGoes e : Sem Unit).wrap (fun _ => .raise e) .raise id id
abbrev turnEnd (c : Code) : Flow → Sem PySem.Fin := fun f => match f with
  | .next | .cont => .pure (.again c)
  | .brk => .pure (.done .next)
  | .ret v => .pure (.done (.ret v))
section
variable {prog : Program} {w : World} {A : Around} {R : GenEnd} {Y : Protocol} {n : Nat} {s₀ : Shared} {fs : List Frame} {s : Shared} {env : Env}
theorem seg_forLoop {tg : Expr} {it : Value} {body : List Stmt}
    (h : wpAny (model prog w) (A.over (.forLoop tg it body [] env) fs) (pyNext it) (fun r s1 => match r with
      | none => Seg (model prog w) A R Y n s₀ (.forLoop tg it body [] env) (.pure (.again (.block [] env))) fs s1
      | some v => wpAny (model prog w) (A.over (.forLoop tg it body [] env) fs) (letOwnedTupleGo tg it v) (fun _ s2 => wpAny (model prog w) (A.over (.forLoop tg it body [] env) fs) (assign tg env v)
          (fun _ s3 => Seg (model prog w) A R Y n s₀ (.forLoop tg it body [] env) ((execs body env).wrap (turnEnd (.forLoop tg it body [] env)) (noted env) id id) fs s3)
          (fun x s' => Seg (model prog w) A R Y n s₀ (.forLoop tg it body [] env) (noted env x) fs s') s2) (fun x s' => Seg (model prog w) A R Y n s₀ (.forLoop tg it body [] env) (noted env x) fs s') s1)
      (fun x s' => Seg (model prog w) A R Y n s₀ (.forLoop tg it body [] env) (noted env x) fs s') s) :
    Seg (model prog w) A R Y n s₀ (.forLoop tg it body [] env) ((model prog w).den (.forLoop tg it body [] env)) fs s := by
  show Seg _ A R Y n s₀ _ ((forTurn tg it body [] env).onRaise (fun x => do noteFrame x env; theTreesLotGoes x)) fs s
  rw [Sem.onRaise_eq_wrap]
  rw [Sem.wrap_congr (forTurn tg it body [] env) _ _ (K' := .pure) (H' := noted env) (fun f => rfl)
    (fun e => by first | exact Sem.bind_eq_wrap _ _ | (show (do noteFrame e env; theTreesLotGoes e : Sem Unit).bind (fun _ => .raise e) = _; rw [Sem.bind_eq_wrap]))]
  unfold forTurn
  refine seg_bind_wrap (wpAny_standAt ?_)
  refine seg_bind_wrap (wpAny_onRaise (wpAny_mono h (fun r s1 h1 => ?_) fun x s' hx => wpAny_standAt hx))
  cases r with
  | none => exact h1
  | some v =>
    refine seg_bind_wrap (wpAny_mono h1 (fun _ s2 h2 => ?_) fun _ _ z => z)
    refine seg_bind_wrap (wpAny_mono h2 (fun _ s3 h3 => ?_) fun _ _ z => z)
    rw [Sem.bind_eq_wrap', Sem.wrap_wrap]
    rw [Sem.wrap_congr (execs body env) _ _ (K' := turnEnd (.forLoop tg it body [] env)) (H' := noted env) (fun f => by cases f <;> rfl) (fun e => by rfl)]
    exact h3
theorem seg_For {c : Code} {tg iter : Expr} {body : List Stmt} {pos : Pos} {K : Flow → Sem PySem.Fin} {J : Value → Sem PySem.Fin} {gd : Bool → Bool} {lv : List Value → List Value}
    (hs : ∀ x, foldedSetIterable iter env x = pure x)
    (h : wpAny (model prog w) (A.over c fs) (eval iter env) (fun v s1 => wpAny (model prog w) (A.over c fs) (pyIter v) (fun itv s2 => ∀ p,
        Seg (model prog w) A R Y n s₀ (.forLoop tg itv body [] env) ((model prog w).den (.forLoop tg itv body [] env))
          (.ret (fun r => ((match r with | .ok f => (.pure f : Sem Flow) | .error e => .raise e).onRaise (cameBack env)).wrap K J gd lv) none (gd false) (lv []) c p [] :: fs) s2)
        (fun x s' => Seg (model prog w) A R Y n s₀ c (J x) fs s') s1) (fun x s' => Seg (model prog w) A R Y n s₀ c (J x) fs s') s) :
    Seg (model prog w) A R Y n s₀ c ((exec (.For tg iter body [] pos) env).wrap K J gd lv) fs s := by
  rw [exec_For]
  refine seg_bind_wrap (wpAny_standAt ?_)
  refine seg_bind_wrap (wpAny_mono h (fun v s1 h1 => ?_) fun _ _ z => z)
  refine seg_bind_wrap (wpAny_of_eq (hs v) ?_)
  refine seg_bind_wrap (wpAny_standAt ?_)
  refine seg_bind_wrap (wpAny_holding (wpAny_mono h1 (fun itv s2 h2 => ?_) fun _ _ z => z))
  exact seg_call h2
end

def tGFor (wi : TI) (g : TG) (tb : TGn) : TGn := fun D ys σ H => wi σ H fun J H1 => ∃ W : Nat → Nat → List V → L2.St → Hp → Prop, (∃ m, W 0 m ys σ H1) ∧ ∀ i m ys σ H, W i m ys σ H →
  (J.stop i H ∧ D.nx ys σ H) ∨ (J.go i H ∧ ∃ N : List V → L2.St → Hp → Prop, (∀ ys' σ' H', N ys' σ' H' → ∃ m', m' < m ∧ W (i + 1) m' ys' σ' H') ∧
    ∀ x H', J.yld i H x H' → g x σ H' fun σ2 H2 => tb { D with nx := N, ct := N, bk := D.nx } ys σ2 H2)
section
variable {X : Cx}
theorem gs_for {tg iter : Expr} {body : List Stmt} {wi : TI} {g : TG} {tb : TGn} {pos : Pos} (hp : PassesOwn (model X.prog X.w) X.A X.env X.xe) (hc : X.calm = true) (hi : PI X tg iter wi) (hg : PG X tg g) (hb : GSs X body tb)
    (hs : ∀ x, foldedSetIterable iter X.env x = pure x := by intro _; rfl) : GS X (.For tg iter body [] pos) (tGFor wi g tb) := by
  refine ⟨fun A S ip R n ys s₀ c fs K J gd lv s σ H D g0 hn k hI ht => ?_⟩
  obtain ⟨acc, cc, r, I⟩ := hI
  refine seg_For hs ?_
  rw [g0.over]
  refine wpAny_mono (hi.run _ s σ H _ I ht) (fun v s1 h1 => wpAny_mono h1 (fun itv s2 h2 => ?_) fun x s' hx => k.exc n s₀ x s' hx) fun x s' hx => k.exc n s₀ x s' hx
  obtain ⟨it, fp, tn, Jt, H2, rfl, I2, T, st2, f2, W, ⟨m0, w0⟩, turn⟩ := h2
  intro p
  have gl := fun (kk : Result → Sem PySem.Fin) => gc_loop (k := kk) (c' := .forLoop tg (.ref it) body [] X.env) (l := lv []) (kp := []) (p := p) g0 rfl rfl
  have nS : ∀ b ∈ fp, b ≠ S := fun b hb z => (f2 b hb).2.2.2.2.2 (S, lstObj acc cc) (List.mem_append_right _ List.mem_cons_self) z.symm
  have stat : ∀ {a' : Array Value} {c' : Nat} {H' : Hp}, (∀ b ∈ fp, H' b = none) → ∀ b ∈ fp, FpOk X ((S, lstObj a' c') :: ip) H' b := fun {a' c' H'} hn b hb => by
    obtain ⟨_, a1, a2, a3, a4, a5⟩ := f2 b hb
    refine ⟨hn b hb, a1, a2, a3, a4, fun q hq => ?_⟩
    rcases List.mem_append.mp hq with hq | hq
    · exact a5 q (List.mem_append_left _ hq)
    · rcases List.mem_cons.mp hq with hq | hq
      · rw [hq]; exact (nS b hb).symm
      · exact a5 q (List.mem_append_right _ (List.mem_cons_of_mem _ hq))
  have loop : ∀ (m i n : Nat) (ys : List V) (s₀ s : Shared) (σ : L2.St) (H : Hp), n + ys.length = sizeLine → W i m ys σ H → tn i s.heap → (∀ b ∈ fp, H b = none) → GI X S ip ys σ H s →
      Seg (model X.prog X.w) A R (GY X S) n s₀ (.forLoop tg (.ref it) body [] X.env) ((model X.prog X.w).den (.forLoop tg (.ref it) body [] X.env))
        (.ret (fun r => ((match r with | .ok f => (.pure f : Sem Flow) | .error e => .raise e).onRaise (cameBack X.env)).wrap K J gd lv) none (gd false) (lv []) c p [] :: fs) s := by
    intro m
    induction m using Nat.strongRecOn with
    | ind m ih =>
      intro i n ys s₀ s σ H hn w st fr hI
      have ee : ∀ (n : Nat) (s₀ : Shared) (x : Value) (s' : Shared), X.xe x s' → Seg (model X.prog X.w) A R (GY X S) n s₀ (.forLoop tg (.ref it) body [] X.env) (noted X.env x)
          (.ret (fun r => ((match r with | .ok f => (.pure f : Sem Flow) | .error e => .raise e).onRaise (cameBack X.env)).wrap K J gd lv) none (gd false) (lv []) c p [] :: fs) s' := fun n s₀ x s' hx => by
        refine seg_wrap ?_
        rw [(gl _).over]
        refine wpAny_bind (wpAny_mono (hp x s' hx) (fun _ s'' hcb => wpAny_theTreesLotGoes ?_) fun y s'' hcb => ?_)
        · exact seg_leaf (.error x) (seg_cameBack g0 k hcb)
        · exact seg_leaf (.error y) (seg_cameBack g0 k hcb)
      refine seg_forLoop ?_
      rw [(gl _).over]
      obtain ⟨acc, cc, r, I⟩ := hI
      rcases turn i m ys σ H w with ⟨stop, qn⟩ | ⟨go, N, hN, step⟩
      · refine wpAny_mono (T.done X rfl rfl rfl hc i _ s σ H X.xe I (stat fr) st stop) (fun r s4 h4 => ?_) fun x s' hx => ee n s₀ x s' hx
        obtain ⟨hr, I4⟩ := h4
        subst hr
        refine seg_again rfl ?_
        exact seg_leaf (.ok .next) (k.ok n ys s₀ s4 .next hn ⟨σ, H, ⟨acc, cc, by assumption, I4⟩, qn⟩)
      · refine wpAny_mono (T.item X rfl rfl rfl hc i _ s σ H X.xe I (stat fr) st go) (fun r s4 h4 => ?_) fun x s' hx => ee n s₀ x s' hx
        obtain ⟨u, hr, h4⟩ := h4
        subst hr
        refine wpAny_mono h4 (fun _ s5 h5 => ?_) fun x s' hx => ee n s₀ x s' hx
        obtain ⟨x, H5, I5, r5, y5, st5, fr5⟩ := h5
        have I5' := I5.pinned (stat fr5) (T.obj _ _ st5)
        refine wpAny_mono (hg.run _ s5 σ H5 x u _ I5' r5 (step x H5 y5)) (fun _ s6 h6 => ?_) fun x s' hx => ee n s₀ x s' hx
        obtain ⟨σ6, H6, I6, q6⟩ := h6
        refine hb.run A S (ip ++ pinsAt fp s5.heap) R n ys s₀ _ _ _ _ id id s6 σ6 H6 { D with nx := N, ct := N, bk := D.nx } ?_ hn ⟨fun n' ys' s₀' s7 f hn' hs' => ?_, fun n' s₀' x s3 hx => ee n' s₀' x s3 hx⟩ ⟨acc, cc, by assumption, I6⟩ q6
        · exact ⟨g0.pn, fun q hq => (List.mem_append.mp hq).elim (fun z => g0.ip q z) fun z => nS q.1 (of_pinsAt z).1, g0.apart, (gl _).over, (gl _).split, (gl _).guard, rfl⟩
        have un : ∀ {ys7 : List V} {σ7 : L2.St} {H7 : Hp}, GI X S (ip ++ pinsAt fp s5.heap) ys7 σ7 H7 s7 → GI X S ip ys7 σ7 H7 s7 ∧ tn (i + 1) s7.heap ∧ ∀ b ∈ fp, H7 b = none := fun {ys7 σ7 H7} hI7 => by
          obtain ⟨a7, c7, r7, I7⟩ := hI7
          have pinned : ∀ {b : Addr} {o : Obj}, b ∈ fp → s5.heap.get? b = some o → s7.heap.get? b = some o ∧ H7 b = none := fun {b o} hb e => by
            obtain ⟨e1, e2, _⟩ := I7.pin (b, o) (List.mem_append_right _ (List.mem_cons_of_mem _ (List.mem_append_right _ (mem_pinsAt hb e))))
            exact ⟨e1, e2⟩
          refine ⟨⟨a7, c7, r7, Inv.unpinned (pins := (S, lstObj a7 c7) :: ip) I7⟩, T.keep _ _ _ st5 fun b hb o e => (pinned hb e).1, fun b hb => ?_⟩
          obtain ⟨o, e, _⟩ := T.obj _ _ st5 b hb
          exact (pinned hb e).2
        cases f with
        | next =>
          obtain ⟨σ7, H7, I7, n7⟩ := hs'
          obtain ⟨m', hm, w7⟩ := hN ys' σ7 H7 n7
          obtain ⟨G7, t7, f7⟩ := un I7
          exact seg_again rfl (ih m' hm (i + 1) n' ys' s₀' s7 σ7 H7 hn' w7 t7 f7 G7)
        | cont =>
          obtain ⟨σ7, H7, I7, n7⟩ := hs'
          obtain ⟨m', hm, w7⟩ := hN ys' σ7 H7 n7
          obtain ⟨G7, t7, f7⟩ := un I7
          exact seg_again rfl (ih m' hm (i + 1) n' ys' s₀' s7 σ7 H7 hn' w7 t7 f7 G7)
        | brk =>
          obtain ⟨σ7, H7, I7, n7⟩ := hs'
          exact seg_leaf (.ok .next) (k.ok n' ys' s₀' s7 .next hn' ⟨σ7, H7, (un I7).1, n7⟩)
        | ret v =>
          obtain ⟨x7, σ7, H7, I7, r7, n7⟩ := hs'
          exact seg_leaf (.ok (.ret v)) (k.ok n' ys' s₀' s7 (.ret v) hn' ⟨x7, σ7, H7, (un I7).1, r7, n7⟩)
  exact loop m0 0 n ys s₀ s2 σ H2 hn w0 st2 (fun b hb => (f2 b hb).1) ⟨acc, cc, r, I2⟩
end
end GenFor

set_option Elab.async false
set_option maxRecDepth 100000
set_option maxHeartbeats 4000000
namespace GenFor
open PySem PySem.Spec PyProof.Rows L2 GenW
/-- over a range, by the turn, what is out, the slots and the heap -/
theorem gfor_range {lo : Int} {n : Nat} {g : TG} {tb : TGn} {D : GEnds} {ys : List V} {σ : L2.St} {H : Hp} (Pv : Nat → List V → L2.St → Hp → Prop) (h0 : Pv 0 ys σ H)
    (step : ∀ i ys σ H, i < n → Pv i ys σ H → g (.int (lo + i)) σ H fun σ2 H2 => tb { D with nx := Pv (i + 1), ct := Pv (i + 1), bk := D.nx } ys σ2 H2) (fin : ∀ ys σ H, Pv n ys σ H → D.nx ys σ H) :
    ∃ W : Nat → Nat → List V → L2.St → Hp → Prop, (∃ m, W 0 m ys σ H) ∧ ∀ i m ys σ H, W i m ys σ H →
      ((Itr lo n).stop i H ∧ D.nx ys σ H) ∨ ((Itr lo n).go i H ∧ ∃ N : List V → L2.St → Hp → Prop, (∀ ys' σ' H', N ys' σ' H' → ∃ m', m' < m ∧ W (i + 1) m' ys' σ' H') ∧
        ∀ x H', (Itr lo n).yld i H x H' → g x σ H' fun σ2 H2 => tb { D with nx := N, ct := N, bk := D.nx } ys σ2 H2) := by
  refine ⟨fun i m zs τ G => m + i = n ∧ Pv i zs τ G, ⟨n, Nat.add_zero n, h0⟩, fun i m zs τ G hw => ?_⟩
  obtain ⟨em, pv⟩ := hw
  cases m with
  | zero =>
    have e : i = n := by omega
    rw [e] at pv ⊢
    exact .inl ⟨Nat.le_refl n, fin zs τ G pv⟩
  | succ m =>
    have lt : i < n := by omega
    refine .inr ⟨lt, Pv (i + 1), fun zs' τ' G' p' => ⟨m, Nat.lt_succ_self m, by omega, p'⟩, fun x G' y => ?_⟩
    have y1 : G' = G := y.1
    have y2 : x = .int (lo + i) := y.2
    rw [y1, y2]
    exact step i zs τ G lt pv
end GenFor

set_option Elab.async false
set_option maxRecDepth 100000
set_option maxHeartbeats 4000000
set_option exponentiation.threshold 4096
namespace K14
open PySem PySem.Spec PyProof.Rows L2 C8 LamX NdefX GenFor

theorem small1000' {n : Nat} (h : n ≤ 1000) : n < sizeLine := Nat.lt_of_le_of_lt h (by decide)
/-! ### fingers -/
abbrev s_fingers : Stmt := top 15
abbrev n_fingers : List Str := ["setting", "seat", "held", "phase"]
theorem sc_fingers : FnScope n_fingers ["setting", "seat", "held"] (C8.fnScope s_fingers) := ⟨rfl, rfl, rfl, by decide +kernel, rfl, by decide +kernel, by decide +kernel⟩
def fingersL (n : Nat) (seat : Int) (ns : List Int) : List V := (List.range n).map fun i => optV (tgP n seat (n - 1 - i) ns)
def spFingers (C t : Addr) : Sp := fun vs H Q _ => ∃ (q : Addr) (seat : Int) (l : Addr) (n : Nat) (ns : List Int), vs = [.ref q, .int seat, .ref l] ∧ SetAt C H q n ∧ 1 ≤ n ∧ n ≤ 8 ∧ H l = some (.lst (ns.map V.int)) ∧ InRing ns (ringN n) ∧ Tabs (TT t) H ∧
  ∀ (p : Addr) (H' : Hp), H p = none → ExtN H H' → Tabs (TT t) H' → H' p = some (.lst (fingersL n seat ns)) → Q (.ref p) H'
/-! ### plan_rounds -/
abbrev s_plan : Stmt := top 16
abbrev n_plan : List Str := ["setting", "held", "start", "count", "seats", "beat", "pairs", "seat", "pair"]
theorem sc_plan : GScope n_plan ["setting", "held", "start", "count"] (C8.fnScope s_plan) := ⟨rfl, rfl, rfl, by decide +kernel, rfl, by decide +kernel, by decide +kernel⟩
/-- new tuples (seat, value), one for each item of l -/
def TupsOf (H : Hp) (as : List Addr) (l : List (Int × V)) : Prop := as.length = l.length ∧ ∀ (i : Nat) (a : Addr) (x : Int × V), as[i]? = some a → l[i]? = some x → H a = some (.tup [.int x.1, x.2])
theorem TupsOf.mono {H H' : Hp} {as : List Addr} {l : List (Int × V)} (h : TupsOf H as l) (e : ∀ a xs, H a = some (.tup xs) → H' a = some (.tup xs)) : TupsOf H' as l :=
  ⟨h.1, fun i a x h1 h2 => e _ _ (h.2 i a x h1 h2)⟩
theorem TupsOf.nil (H : Hp) : TupsOf H [] [] := ⟨rfl, fun i a x h _ => by simp at h⟩
theorem TupsOf.snoc {H : Hp} {as : List Addr} {l : List (Int × V)} (h : TupsOf H as l) {a : Addr} {s : Int} {v : V} (ha : H a = some (.tup [.int s, v])) : TupsOf H (as ++ [a]) (l ++ [(s, v)]) := by
  refine ⟨by simp [h.1], fun i b x h1 h2 => ?_⟩
  by_cases hi : i < as.length
  · rw [List.getElem?_append_left hi] at h1
    rw [List.getElem?_append_left (by rw [← h.1]; exact hi)] at h2
    exact h.2 i b x h1 h2
  · rw [List.getElem?_append_right (by omega)] at h1
    rw [List.getElem?_append_right (by rw [← h.1]; omega)] at h2
    have e : i - as.length = 0 := by
      cases q : i - as.length with
      | zero => rfl
      | succ j => rw [q] at h1; simp at h1
    rw [e] at h1
    rw [← h.1, e] at h2
    cases h1
    cases h2
    exact ha
theorem tup_put {H : Hp} {D : Addr} {xs ys : List V} (h : H D = some (.lst xs)) : ∀ a zs, H a = some (.tup zs) → upd H D (.lst ys) a = some (.tup zs) := fun a zs e => by
  rw [upd_ne (fun z => by rw [z, h] at e; cases e)]
  exact e
theorem tup_new {H : Hp} {D : Addr} {o : HO} (h : H D = none) : ∀ a zs, H a = some (.tup zs) → upd H D o a = some (.tup zs) := fun a zs e => by
  rw [upd_ne (ne_of_none e h)]
  exact e
theorem tup_ext {H H' : Hp} (e : ExtN H H') : ∀ a zs, H a = some (.tup zs) → H' a = some (.tup zs) := fun _ _ h => tupN h e
/-- all pairs of a round; those that call -/
def pairsV (n pt : Nat) (st : List Int) (beat : Nat) : List (Int × V) := st.map fun s => (s, optV (tgP n s (phI n pt beat).toNat st))
def planV (n pt : Nat) (st : List Int) (beat : Nat) : List (Int × V) := (pairsV n pt st beat).filter fun x => !decide (x.2 = .non)
/-- the rounds that are out so far -/
def PlanAt (H : Hp) (n pt : Nat) (st : List Int) (start : Nat) (ys : List V) (k : Nat) : Prop := ys.length = k ∧ ∀ (i : Nat) (y : V), ys[i]? = some y → ∃ (D : Addr) (bs : List Addr), y = .ref D ∧ H D = some (.lst (bs.map V.ref)) ∧ TupsOf H bs (planV n pt st (start + i))
theorem PlanAt.ext {H H' : Hp} {n pt : Nat} {st : List Int} {start : Nat} {ys : List V} {k : Nat} (h : PlanAt H n pt st start ys k) (e : ExtN H H') : PlanAt H' n pt st start ys k :=
  ⟨h.1, fun i y hy => by
    obtain ⟨D, bs, h1, h2, h3⟩ := h.2 i y hy
    exact ⟨D, bs, h1, lstN h2 e, h3.mono (tup_ext e)⟩⟩
theorem PlanAt.snoc {H : Hp} {n pt : Nat} {st : List Int} {start : Nat} {ys : List V} {k : Nat} (h : PlanAt H n pt st start ys k) {D : Addr} {bs : List Addr} (h2 : H D = some (.lst (bs.map V.ref))) (h3 : TupsOf H bs (planV n pt st (start + k))) : PlanAt H n pt st start (ys ++ [.ref D]) (k + 1) := by
  refine ⟨by rw [List.length_append, h.1]; rfl, fun i y hy => ?_⟩
  by_cases hi : i < ys.length
  · rw [List.getElem?_append_left hi] at hy
    exact h.2 i y hy
  · rw [List.getElem?_append_right (by omega)] at hy
    have e : i - ys.length = 0 := by
      cases q : i - ys.length with
      | zero => rfl
      | succ j => rw [q] at hy; simp at hy
    rw [e] at hy
    cases hy
    have ei : i = k := by have := h.1; omega
    rw [ei]
    exact ⟨D, bs, rfl, h2, h3⟩
def spPlan (C t : Addr) : SpG := fun vs H Q _ => ∃ (q l : Addr) (n pt start count : Nat) (ns : List Int), vs = [.ref q, .ref l, .int (start : Int), .int (count : Int)] ∧ SetP C H q n (pt : Int) ∧ 1 ≤ n ∧ n ≤ 8 ∧ 1 ≤ pt ∧ pt ≤ 6 ∧ H l = some (.lst (ns.map V.int)) ∧ InRing ns (ringN n) ∧ ns.length ≤ 256 ∧
  Tabs (TT t) H ∧ count ≤ 1000 ∧ ∀ (st : List Int) (ys : List V) (H' : Hp), st.Perm ns → st.Pairwise (· ≤ ·) → ExtN H H' → Tabs (TT t) H' → PlanAt H' n pt st start ys count → Q ys H'

section
variable {P : Program} {w : World} {K : PySem.W.Frag} {mg : Str → Option Value} {base : Heap} {C t : Addr}
theorem c_fingers (T : Bl mg) (ST : SetT K mg C) (c_phase_target : Cal P w K mg base 8 "phase_target" (spPT C t) []) (d : D0 K mg "fingers" s_fingers ["setting", "seat", "held"]) : Cal P w K mg base 9 "fingers" (spFingers C t) [] := by
  refine cal d sc_fingers (fun vs H Q E h => ?_) (fun cdv A outer f s H vs Q E hr h => ?_)
  · obtain ⟨q, seat, l, n, ns, rfl, _⟩ := h
    rfl
  · obtain ⟨q, seat, l, n, ns, rfl, hq, n1, n8, hl, ir, hT, k⟩ := h
    have S := sc_fingers
    refine ⟨_, (pss_one (ps_ret (pe_lc (own := [("phase", 3)]) (g := gName 3) (tt := tYes) (by rfl) S.nd (pi_revR rfl T.reversed (prg_1 rfl T.range (pe_fld (pv 0) rfl))) (blkOk_by (own := [("phase", 3)]) (N := n_fingers) (sc := C8.fnScope s_fingers) (by decide +kernel)) (fun _ _ _ _ _ => pg_name (i := 3) S.nd rfl (Or.inl rfl)) (fun _ _ _ _ _ => pts_nil) (fun _ _ _ _ _ => (pe_c c_phase_target hr (by decide) rfl (pa_cons (pv 0) (pa_cons (pv 1) (pa_cons (pv 3) (pa_cons (pv 2) pa_nil))))))))), ?_⟩
    obtain ⟨dx, fs, h1, h2, h3⟩ := id hq
    refine ⟨_, rfl, q, C, dx, fs, _, rfl, h1, ST.cl, ST.n1, h2, _, rfl, by omega, by omega, by omega, by omega, fun D nD => ?_⟩
    have en : (((n : Int) - 0).toNat) = n := by omega
    rw [en]
    refine lc_it walk_rangeC (fun i H' => ExtN H H' ∧ Tabs (TT t) H' ∧ H' D = some (.lst ((List.range i).map fun i => optV (tgP n seat (n - 1 - i) ns)))) ⟨extNew (ExtN.refl H) nD _, tabsNew hT nD _, upd_same⟩ (fun _ _ _ _ => trivial) (fun i x H1 H1' hi pv y => ?_) (fun H' pv => ?_)
    · obtain ⟨e1, T1, d1⟩ := pv
      obtain ⟨rfl, rfl⟩ := y
      have ex : (0 : Int) + (n : Int) - 1 + (i : Int) * (-1) = ((n - 1 - i : Nat) : Int) := by omega
      show gName 3 (V.int (0 + (n : Int) - 1 + (i : Int) * (-1))) _ _ _
      rw [ex]
      refine ⟨rfl, _, rfl, _, rfl, _, rfl, _, rfl, q, seat, n - 1 - i, l, n, ns, rfl, hq.ext e1, n8, by omega, lstN hl e1, ir, T1, fun H2 e2 T2 => ?_⟩
      have d2 := lstN d1 e2
      refine ⟨_, d2, small1000' (by rw [List.length_map, List.length_range]; omega), extPut (e1.trans e2) nD _, tabsPut T2 d2, ?_⟩
      rw [upd_same, List.range_succ, List.map_append]
      rfl
    · obtain ⟨e1, T1, d1⟩ := pv
      exact k D H' nD e1 T1 d1
theorem g_plan (T : Bl mg) (c_target : Cal P w K mg base 9 "target" (spTarget C t) []) {f : Addr} {fd : FuncData} (d : C8.Fun K "plan_rounds" "plan_rounds" s_plan f fd) : GFn P w K mg base 10 f fd ["setting", "held", "start", "count"] (spPlan C t) := by
  obtain ⟨oc, od, dV, kV, doc, pm, an, cdv, ct, osl, rfl, lk, hcd⟩ := d.ex
  refine gfn_of lk hcd sc_plan (fun vs H Q E h => ?_) (fun A outer s H vs Q E pn hr h => ?_)
  · obtain ⟨q, l, n, pt, start, count, ns, rfl, _⟩ := h
    rfl
  · obtain ⟨q, l, n, pt, start, count, ns, rfl, hq, n1, n8, p1, p6, hl, ir, hlen, hT, hc, k⟩ := h
    have S := sc_plan
    refine ⟨_, gss_cons (gs_ps (ps_set (i := 4) S.nd rfl (Or.inr rfl) (pe_callB cr_sortedI (by rfl) T.sorted (by decide +kernel) (pa_cons (pv 1) pa_nil))))
      (gss_cons (gs_for owns_gcx rfl (pi_rangeB rfl T.range (pa_cons (pv 2) (pa_cons (pe_op op_add (pv 2) (pv 3)) pa_nil))) (pg_name (i := 5) S.nd rfl (Or.inr rfl))
        (gss_cons (gs_ps (ps_setLc (i := 6) (own := [("seat", 7)]) (g := gName 7) (tt := tYes) (by rfl) S.nd rfl rfl (sw_true rfl rfl rfl (by decide +kernel)) (pi_list (pv 4)) (blkOk_by (own := [("seat", 7)]) (N := n_plan) (sc := C8.fnScope s_plan) (by decide +kernel)) (fun _ _ _ _ _ => pg_name (i := 7) S.nd rfl (Or.inl rfl)) (fun _ _ _ _ _ => pts_nil) (fun _ _ _ _ _ => (pe_tup (pa_cons (pv 7) (pa_cons (pe_c c_target hr (by decide) rfl (pa_cons (pv 0) (pa_cons (pv 7) (pa_cons (pv 5) (pa_cons (pv 4) pa_nil))))) pa_nil))))))
        (gss_cons (gs_yield (pe_lc (own := [("pair", 8)]) (g := gName 8) (by rfl) S.nd (pi_list (pv 6)) (blkOk_by (own := [("pair", 8)]) (N := n_plan) (sc := C8.fnScope s_plan) (by decide +kernel)) (fun _ _ _ _ _ => pg_name (i := 8) S.nd rfl (Or.inl rfl)) (fun _ _ _ _ _ => (pts_one (pt_cmp (pc_notN (pe_ix (show IxR _ (rIxT K) from ix_tup) (pv 8) pe_int (fun _ _ => rfl)))))) (fun _ _ _ _ _ => (pv 8)))) gss_nil))) gss_nil), ?_⟩
    refine ⟨_, rfl, l, ns, rfl, SqL.of hl, fun st pS perm rise nS => ?_⟩
    have e0 : ExtN H (upd H pS (.lst (st.map V.int))) := extNew (ExtN.refl H) nS _
    have T0 : Tabs (TT t) (upd H pS (.lst (st.map V.int))) := tabsNew hT nS _
    have d0 : (upd H pS (.lst (st.map V.int))) pS = some (.lst (st.map V.int)) := upd_same
    have ist : InRing st (ringN n) := ⟨fun x hx => ir.lo x (perm.mem_iff.mp hx), fun x hx => ir.hi x (perm.mem_iff.mp hx)⟩
    have lst : st.length ≤ 256 := by rw [perm.length_eq]; exact hlen
    refine ⟨_, rfl, _, rfl, _, rfl, _, _, rfl, rfl, _, _, rfl, ?_⟩
    have ec : ((start : Int) + (count : Int) - (start : Int)).toNat = count := by omega
    rw [ec]
    refine gfor_range (fun i ys σ H' => ExtN H H' ∧ Tabs (TT t) H' ∧ H' pS = some (.lst (st.map V.int)) ∧ PlanAt H' n pt st start ys i ∧ ∃ v6 v7 : Option V, σ = [some (.ref q), some (.ref l), some (.int (start : Int)), some (.int (count : Int)), some (.ref pS), v6, v7, none, none])
      ⟨e0, T0, d0, ⟨rfl, fun i y hy => by simp at hy⟩, none, none, rfl⟩ (fun i ys σ H1 hi pv => ?_) (fun ys σ H1 pv => ?_)
    · obtain ⟨e1, T1, d1, pl, v6, v7, rfl⟩ := pv
      have eb : (start : Int) + (i : Int) = ((start + i : Nat) : Int) := by omega
      rw [eb]
      refine ⟨_, rfl, pS, rfl, ⟨_, SqL.of d1⟩, fun D nD => ?_⟩
      refine lc_list (xs := st.map V.int) (fun j H2 => ExtN H1 H2 ∧ Tabs (TT t) H2 ∧ ∃ as : List Addr, H2 D = some (.lst (as.map V.ref)) ∧ TupsOf H2 as ((pairsV n pt st (start + i)).take j)) ⟨extNew (ExtN.refl _) nD _, tabsNew T1 nD _, [], upd_same, TupsOf.nil _⟩ (fun j H2 _ ⟨e2, _⟩ => SqL.of (lstN d1 e2)) (fun j x H2 hx ⟨e2, T2, as, da, ta⟩ => ?_) (fun H2 ⟨e2, T2, as, da, ta⟩ => ?_)
      · rw [List.getElem?_map] at hx
        cases ej : st[j]? with
        | none => rw [ej] at hx; cases hx
        | some z =>
          rw [ej] at hx
          cases hx
          have e12 := e1.trans e2
          refine ⟨rfl, _, rfl, _, rfl, _, rfl, _, rfl, _, rfl, q, z, start + i, pS, n, pt, st, rfl, hq.ext e12, n1, n8, p1, p6, lstN d1 e2, ist, T2, fun H3 e3 T3 => ?_⟩
          refine ⟨by show 2 ≤ sizeLine; decide, fun p np => ?_⟩
          have da3 : upd H3 p (.tup [.int z, optV (tgP n z (phI n pt (start + i)).toNat st)]) D = some (.lst (as.map V.ref)) := by
            rw [upd_ne (ne_of_none (lstN da e3) np)]
            exact lstN da e3
          have tk : (pairsV n pt st (start + i)).take (j + 1) = (pairsV n pt st (start + i)).take j ++ [(z, optV (tgP n z (phI n pt (start + i)).toNat st))] := by
            rw [List.take_add_one]
            unfold pairsV
            rw [List.getElem?_map, ej]
            rfl
          have la : as.length ≤ 256 := by
            rw [ta.1, List.length_take]
            unfold pairsV
            rw [List.length_map]
            omega
          refine ⟨_, da3, small1000' (by rw [List.length_map]; omega), extPut (extNew (e2.trans e3) np _) nD _, tabsPut (tabsNew T3 np _) da3, as ++ [p], ?_, ?_⟩
          · rw [upd_same, List.map_append]
            rfl
          · rw [tk]
            have t3 : TupsOf (upd H3 p (.tup [.int z, optV (tgP n z (phI n pt (start + i)).toNat st)])) (as ++ [p]) ((pairsV n pt st (start + i)).take j ++ [(z, optV (tgP n z (phI n pt (start + i)).toNat st))]) := ((ta.mono (tup_ext e3)).mono (tup_new np)).snoc upd_same
            exact t3.mono (tup_put da3)
      · have hle : (pairsV n pt st (start + i)).length = st.length := by unfold pairsV; rw [List.length_map]
        rw [List.length_map, ← hle, List.take_length] at ta
        refine ⟨by rw [pl.1]; exact small1000' (by omega), _, rfl, D, rfl, ⟨_, SqL.of da⟩, fun D2 nD2 => ?_⟩
        refine lc_list (xs := as.map V.ref) (fun j H3 => ExtN H2 H3 ∧ Tabs (TT t) H3 ∧ ∃ bs : List Addr, bs.length ≤ j ∧ H3 D2 = some (.lst (bs.map V.ref)) ∧ TupsOf H3 bs (((pairsV n pt st (start + i)).take j).filter fun x => !decide (x.2 = .non))) ⟨extNew (ExtN.refl _) nD2 _, tabsNew T2 nD2 _, [], Nat.le_refl _, upd_same, TupsOf.nil _⟩ (fun j H3 _ ⟨e3, _⟩ => SqL.of (lstN da e3)) (fun j x H3 hx ⟨e3, T3, bs, lb, db, tb⟩ => ?_) (fun H3 ⟨e3, T3, bs, lb, db, tb⟩ => ?_)
        · rw [List.getElem?_map] at hx
          cases ej : as[j]? with
          | none => rw [ej] at hx; cases hx
          | some a =>
            rw [ej] at hx
            cases hx
            have hj : j < as.length := (List.getElem?_eq_some_iff.mp ej).1
            obtain ⟨z, hz⟩ : ∃ z, (pairsV n pt st (start + i))[j]? = some z := ⟨_, List.getElem?_eq_getElem (by rw [← ta.1]; exact hj)⟩
            have ha := tupN (ta.2 j a z ej hz) e3
            have tk : (pairsV n pt st (start + i)).take (j + 1) = (pairsV n pt st (start + i)).take j ++ [z] := by rw [List.take_add_one, hz]; rfl
            refine ⟨rfl, _, rfl, a, _, 1, z.2, rfl, rfl, SqT.of ha, rfl, _, rfl, ?_⟩
            have hf : ([z].filter fun x => !decide (x.2 = .non)) = if (!decide (z.2 = .non)) = true then [z] else [] := by
              rw [List.filter_cons]
              rfl
            refine ite2 (fun hy => ?_) (fun hn => ?_)
            · rw [if_pos hy] at hf
              refine ⟨_, rfl, _, db, small1000' (by rw [List.length_map]; have := ta.1; omega), extPut e3 nD2 _, tabsPut T3 db, bs ++ [a], by rw [List.length_append]; show bs.length + 1 ≤ j + 1; omega, ?_, ?_⟩
              · rw [upd_same, List.map_append]
                rfl
              · rw [tk, List.filter_append, hf]
                have t3 : TupsOf H3 (bs ++ [a]) ((((pairsV n pt st (start + i)).take j).filter fun x => !decide (x.2 = .non)) ++ [z]) := tb.snoc (s := z.1) (v := z.2) ha
                exact t3.mono (tup_put db)
            · rw [if_neg hn] at hf
              refine ⟨e3, T3, bs, by omega, db, ?_⟩
              rw [tk, List.filter_append, hf, List.append_nil]
              exact tb
        · rw [List.length_map, ta.1, List.take_length] at tb
          have e13 := (e1.trans e2).trans e3
          refine ⟨e13, T3, lstN (lstN d1 e2) e3, (pl.ext (e2.trans e3)).snoc db tb, _, _, rfl⟩
    · obtain ⟨e1, T1, d1, pl, v6, v7, rfl⟩ := pv
      exact k st ys H1 perm rise e1 T1 pl
end
end K14

set_option Elab.async false
set_option maxRecDepth 100000
set_option maxHeartbeats 4000000
set_option exponentiation.threshold 4096
namespace K14
open PySem PySem.Spec PyProof.Rows L2 C8

/-- a list of seats of the ring, each once -/
structure Seats (ns : List Int) (r : Int) : Prop where
  nd : ns.Nodup
  lo : ∀ x ∈ ns, 0 ≤ x
  hi : ∀ x ∈ ns, x < r
theorem seqIx_lt {d : Int} {n : Nat} (h0 : 0 ≤ d) (h1 : d < n) : seqIndex? d n = some d.toNat := by
  refine (ixN_seq (n := n) (i := d) (j := d.toNat) ?_).1
  unfold ixN
  rw [if_pos h0, if_pos h1]
theorem map_erase (f : Int → V) : ∀ (l : List Int) (i : Nat), (l.map f).eraseIdx i = (l.eraseIdx i).map f
  | [], _ => rfl
  | _ :: _, 0 => rfl
  | a :: l, i + 1 => congrArg (List.cons (f a)) (map_erase f l i)
theorem erase_perm : ∀ {l : List Int} {i : Nat} {y : Int}, l[i]? = some y → (y :: l.eraseIdx i).Perm l
  | [], i, y, h => by simp at h
  | a :: l, 0, y, h => by
    cases h
    exact List.Perm.refl _
  | a :: l, i + 1, y, h => by
    have h' : l[i]? = some y := h
    exact (List.Perm.swap a y _).trans ((erase_perm h').cons a)
theorem nodup_move {hs ps : List Int} {i : Nat} {y : Int} (h : (hs ++ ps).Nodup) (e : ps[i]? = some y) : ((hs ++ [y]) ++ ps.eraseIdx i).Nodup := by
  have p1 := erase_perm e
  rw [List.append_assoc]
  exact (List.Perm.append_left hs p1).symm.nodup h
theorem mem_move {hs ps : List Int} {i : Nat} {y x : Int} (e : ps[i]? = some y) (h : x ∈ (hs ++ [y]) ++ ps.eraseIdx i) : x ∈ hs ++ ps := by
  have p1 := erase_perm e
  rw [List.append_assoc] at h
  exact (List.Perm.append_left hs p1).mem_iff.mp h

abbrev s_law_setting : Stmt := top 21
abbrev n_law_setting : List Str := ["purse", "bits", "patience", "room", "long"]
theorem sc_law_setting : FnScope n_law_setting ["purse", "bits", "patience"] (C8.fnScope s_law_setting) := ⟨rfl, rfl, rfl, by decide +kernel, rfl, by decide +kernel, by decide +kernel⟩
abbrev s_law_seats : Stmt := top 22
abbrev n_law_seats : List Str := ["purse", "ring", "many", "pool", "found", "k"]
theorem sc_law_seats : FnScope n_law_seats ["purse", "ring", "many"] (C8.fnScope s_law_seats) := ⟨rfl, rfl, rfl, by decide +kernel, rfl, by decide +kernel, by decide +kernel⟩
abbrev s_law_beat : Stmt := top 25
abbrev n_law_beat : List Str := ["purse", "turn", "beat", "k"]
theorem sc_law_beat : FnScope n_law_beat ["purse", "turn"] (C8.fnScope s_law_beat) := ⟨rfl, rfl, rfl, by decide +kernel, rfl, by decide +kernel, by decide +kernel⟩
abbrev s_law_phase : Stmt := top 26
abbrev n_law_phase : List Str := ["bits", "patience", "beat", "phase", "k"]
theorem sc_law_phase : FnScope n_law_phase ["bits", "patience", "beat"] (C8.fnScope s_law_phase) := ⟨rfl, rfl, rfl, by decide +kernel, rfl, by decide +kernel, by decide +kernel⟩
abbrev s_law_same : Stmt := top 27
abbrev n_law_same : List Str := ["found", "wanted"]
theorem sc_law_same : FnScope n_law_same ["found", "wanted"] (C8.fnScope s_law_same) := ⟨rfl, rfl, rfl, by decide +kernel, rfl, by decide +kernel, by decide +kernel⟩

def spSeats14 : Sp := fun vs H Q _ => ∃ (p c : Addr) (r m : Int), vs = [.ref p, .int r, .int m] ∧ Purse H p c ∧ 0 < r ∧ r ≤ 256 ∧ 0 ≤ m ∧ m ≤ r ∧ ∀ (q : Addr) (ns : List Int) (H' : Hp), H q = none → Sx p H H' → Purse H' p c → H' q = some (.lst (ns.map V.int)) → Seats ns r → Q (.ref q) H'
def spBeat : Sp := fun vs H Q _ => ∃ (p c : Addr) (u : Int), vs = [.ref p, .int u] ∧ Purse H p c ∧ 0 < u ∧ u ≤ 100 ∧ ∀ (b : Nat) (H' : Hp), Purse H' p c → Sx p H H' → Q (.int (b : Int)) H'
def spPhase : Sp := fun vs H Q _ => ∃ n pt beat : Nat, vs = [.int (n : Int), .int (pt : Int), .int (beat : Int)] ∧ 1 ≤ n ∧ n ≤ 8 ∧ 1 ≤ pt ∧ pt ≤ 6 ∧ Q (.int (phI n pt beat)) H
def spSame : Sp := fun vs H Q _ => ∃ o : Option Int, vs = [optV o, optV o] ∧ Q (.bl true) H
def spSet14 (C : Addr) : Sp := fun vs H Q _ => ∃ (p c : Addr) (n pt : Nat), vs = [.ref p, .int (n : Int), .int (pt : Int)] ∧ Purse H p c ∧ 1 ≤ n ∧ n ≤ 8 ∧ 1 ≤ pt ∧ pt ≤ 6 ∧ ∀ (q : Addr) (H' : Hp), H q = none → Sx p H H' → Purse H' p c → SetP C H' q n (pt : Int) → Q (.ref q) H'
theorem Purse.same {H H' : Hp} {p c : Addr} (B : Purse H p c) (e : Same H H') : Purse H' p c := by
  obtain ⟨cells, a, r, l, m, s, n, B, h⟩ := B
  exact ⟨cells, a, r, l, m, s, n, ⟨e _ _ B.hp, e _ _ B.hc⟩, h⟩
theorem Sx.free {b : Addr} {H H' : Hp} (e : Sx b H H') {a : Addr} (nb : a ≠ b) (n : H' a = none) : H a = none := by
  cases q : H a with
  | none => rfl
  | some o => rw [e a o q nb] at n; cases n
theorem twoP {a b : Int} {P Q : Prop} (h1 : a = b → P) (h2 : ¬ a = b → Q) : (decide (V.int a = V.int b) = true → P) ∧ (¬ decide (V.int a = V.int b) = true → Q) := by
  refine ⟨fun z => h1 ?_, fun z => h2 fun e => z ?_⟩
  · have z := of_decide_eq_true z
    injection z
  · rw [e]
    exact decide_eq_true rfl

section
variable {P : Program} {w : World} {K : PySem.W.Frag} {mg : Str → Option Value} {base : Heap} {C t : Addr}
theorem c_same (T : Bl mg) (d : D0 K mg "_law_same" s_law_same ["found", "wanted"]) : Cal P w K mg base 1 "_law_same" spSame [] := by
  refine cal d sc_law_same (fun vs H Q E h => ?_) (fun cdv A outer f s H vs Q E hr h => ?_)
  · obtain ⟨o, rfl, _⟩ := h
    rfl
  · obtain ⟨o, rfl, k⟩ := h
    have S := sc_law_same
    refine ⟨_, (pss_cons (ps_if (pt_cmp (pc_isN (pv 1))) (pss_one (ps_ret (pe_cmp (pc_isN (pv 0))))) pss_nil)
      (pss_one (ps_ret (pe_and (pe_callB call_isi (by rfl) T.isinstance (by decide +kernel) (pa_cons (pv 0) (pa_cons (pe_bltn (v := .ty "int") (by rfl) T.int (by decide +kernel) rfl) pa_nil))) (pe_and (pe_not (pe_callB call_isi (by rfl) T.isinstance (by decide +kernel) (pa_cons (pv 0) (pa_cons (pe_bltn (v := .ty "bool") (by rfl) T.bool (by decide +kernel) rfl) pa_nil)))) (pe_one (pe_cmpR op_eq (pv 0) (pv 1) (nomark _)))))))), ?_⟩
    cases o with
    | none => exact ⟨_, rfl, _, rfl, iteT ⟨_, rfl, k⟩⟩
    | some m =>
      refine ⟨_, rfl, _, rfl, iteF ?_⟩
      refine ⟨_, rfl, _, _, _, _, true, rfl, .ty _, .base (.int _), kit_ty (by decide +kernel), _, rfl, iteT ?_⟩
      refine ⟨_, rfl, _, _, _, _, false, rfl, .ty _, .base (.int _), kit_ty (by decide +kernel), _, rfl, true, rfl, iteT ?_⟩
      refine ⟨_, rfl, _, rfl, rfl, ?_⟩
      rw [show decide (optV (some m) = optV (some m)) = true from decide_eq_true rfl]
      exact k
theorem c_phase (T : Bl mg) (d : D0 K mg "_law_phase" s_law_phase ["bits", "patience", "beat"]) : Cal P w K mg base 1 "_law_phase" spPhase [] := by
  refine cal d sc_law_phase (fun vs H Q E h => ?_) (fun cdv A outer f s H vs Q E hr h => ?_)
  · obtain ⟨n, pt, beat, rfl, _⟩ := h
    rfl
  · obtain ⟨n, pt, beat, rfl, n1, n8, p1, p6, k⟩ := h
    have S := sc_law_phase
    refine ⟨_, (pss_cons (ps_set (i := 3) S.nd rfl (Or.inl rfl) (pe_op op_sub (pv 0) pe_int))
      (pss_cons (ps_for PassesOwn.never rfl (pi_range1 rfl T.range (pa_cons (pe_op op_mod (pe_callTy call_int1 (by rfl) T.int (by decide +kernel) (pa_cons (pv 2) pa_nil)) (pe_op op_mul (pv 0) (pv 1))) pa_nil)) (pg_name (i := 4) S.nd rfl (Or.inl rfl)) (pss_one (ps_if (pt_cmpR op_eq (pe_op op_mod (pe_op op_add (pv 4) pe_int) (pv 1)) pe_int (nomark _)) (pss_one (ps_set (i := 3) S.nd rfl (Or.inl rfl) (pe_op op_sub (pv 3) pe_int))) pss_nil)))
      (pss_one (ps_ret (pv 3))))), ?_⟩
    have b0 : 0 < n * pt := Nat.mul_pos n1 p1
    have b1 : n * pt ≤ 48 := Nat.mul_le_mul n8 p6
    have em : (beat : Int) % ((n : Int) * (pt : Int)) = ((beat % (n * pt) : Nat) : Int) := by simp
    have lt : beat % (n * pt) < n * pt := Nat.mod_lt _ b0
    refine ⟨_, rfl, _, _, rfl, rfl, ?_⟩
    refine ⟨_, rfl, .inl ⟨_, rfl, _, rfl, _, rfl, _, _, rfl, rfl, .inl ⟨by omega, by omega⟩, _, _, rfl, rfl, pm (by omega), ((beat % (n * pt) : Nat) : Int), congrArg (fun z => [V.int z]) em, by omega, by omega, ?_⟩⟩
    rw [Int.toNat_natCast]
    refine for_range (lo := 0) (n := beat % (n * pt)) (fun i σ H' => H' = H ∧ ∃ v : Option V, σ = [some (.int (n : Int)), some (.int (pt : Int)), some (.int (beat : Int)), some (.int ((n : Int) - 1 - ((i / pt : Nat) : Int))), v]) ?_ (fun i σ H' hi pv => ?_) (fun σ H' pv => ?_)
    · exact ⟨rfl, none, by rw [Nat.zero_div, show (n : Int) - 1 - ((0 : Nat) : Int) = (n : Int) - 1 by omega]; rfl⟩
    · obtain ⟨rfl, v, rfl⟩ := pv
      refine ⟨_, rfl, _, _, rfl, rfl, _, rfl, _, _, rfl, rfl, pm (by omega), rfl, _, rfl, ?_⟩
      have ek : (0 + (i : Int) + 1) % (pt : Int) = (((i + 1) % pt : Nat) : Int) := by
        rw [Int.zero_add]
        simp
      have sd := step_div (k := i) (pt := pt)
      refine ite2 (fun hz => ?_) (fun hz => ?_)
      · have hz : (0 + (i : Int) + 1) % (pt : Int) = 0 := by
          have z := of_decide_eq_true hz
          injection z
        rw [if_pos (by omega)] at sd
        refine ⟨_, rfl, _, _, rfl, rfl, rfl, some (.int (0 + (i : Int))), ?_⟩
        rw [sd, show (n : Int) - 1 - ((i / pt + 1 : Nat) : Int) = (n : Int) - 1 - ((i / pt : Nat) : Int) - 1 by omega]
        rfl
      · have hz : ¬ (0 + (i : Int) + 1) % (pt : Int) = 0 := fun e => hz (decide_eq_true (congrArg V.int e))
        rw [if_neg (by omega)] at sd
        refine ⟨rfl, some (.int (0 + (i : Int))), ?_⟩
        rw [sd]
        rfl
    · obtain ⟨rfl, v, rfl⟩ := pv
      exact ⟨_, rfl, k⟩
theorem c_beat (T : Bl mg) (c_law_draw : Cal P w K mg base 2 "_law_draw" spDraw []) (d : D0 K mg "_law_beat" s_law_beat ["purse", "turn"]) : Cal P w K mg base 3 "_law_beat" spBeat [] := by
  refine cal d sc_law_beat (fun vs H Q E h => ?_) (fun cdv A outer f s H vs Q E hr h => ?_)
  · obtain ⟨p, c, u, rfl, _⟩ := h
    rfl
  · obtain ⟨p, c, u, rfl, B, u0, u1, k⟩ := h
    have S := sc_law_beat
    refine ⟨_, (pss_cons (ps_set (i := 2) S.nd rfl (Or.inl rfl) (pe_c c_law_draw hr (by decide) rfl (pa_cons (pv 0) (pa_cons (pe_op op_mul pe_int (pv 1)) pa_nil))))
      (pss_cut (ps_if (pt_cmpR op_eq (pe_c c_law_draw hr (by decide) rfl (pa_cons (pv 0) (pa_cons pe_int pa_nil))) pe_int (nomark _)) (pss_cons (ps_set (i := 2) S.nd rfl (Or.inl rfl) pe_int)
      (pss_one (ps_for PassesOwn.never rfl (pi_range1 rfl T.range (pa_cons pe_int pa_nil)) (pg_name (i := 3) S.nd rfl (Or.inl rfl)) (pss_one (ps_set (i := 2) S.nd rfl (Or.inl rfl) (pe_op op_add (pe_op op_mul (pv 2) pe_int) (pe_c c_law_draw hr (by decide) rfl (pa_cons (pv 0) (pa_cons pe_int pa_nil))))))))) pss_nil)
      (pss_one (ps_ret (pv 2))))), ?_⟩
    refine ⟨_, rfl, _, rfl, _, _, rfl, rfl, .inl ⟨by decide, by decide⟩, p, c, _, rfl, B, by omega, by omega, fun d1 H1 a1 a2 B1 X1 => ?_⟩
    obtain ⟨b1, rfl⟩ := Int.eq_ofNat_of_zero_le a1
    refine ⟨fun σ H' => Purse H' p c ∧ Sx p H H' ∧ ∃ (b : Nat) (v : Option V), σ = [some (.ref p), some (.int u), some (.int (b : Int)), v], ?_, ?_⟩
    · refine ⟨_, rfl, p, c, _, rfl, B1, by decide, by decide, fun d2 H2 a3 a4 B2 X2 => ?_⟩
      refine ⟨rfl, _, rfl, ite2 (fun _ => ?_) (fun _ => ?_)⟩
      · refine ⟨9, rfl, by decide, by decide, ?_⟩
        refine for_range (lo := 0) (n := 9) (fun i σ H' => Purse H' p c ∧ Sx p H H' ∧ ∃ (b : Nat) (v : Option V), σ = [some (.ref p), some (.int u), some (.int (b : Int)), v]) ⟨B2, X1.trans X2, 0, none, rfl⟩ (fun i σ H' hi pv => ?_) (fun σ H' pv => pv)
        obtain ⟨B3, X3, b, v, rfl⟩ := pv
        refine ⟨_, rfl, _, _, rfl, rfl, .inr ⟨by decide, by decide⟩, _, rfl, p, c, _, rfl, B3, by decide, by decide, fun d3 H4 a5 a6 B4 X4 => ?_⟩
        obtain ⟨b3, rfl⟩ := Int.eq_ofNat_of_zero_le a5
        exact ⟨_, _, rfl, rfl, B4, X3.trans X4, b * 1000000 + b3, _, rfl⟩
      · exact ⟨B2, X1.trans X2, b1, none, rfl⟩
    · rintro σ H2 ⟨B2, X2, b, v, rfl⟩
      exact ⟨_, rfl, k b H2 B2 X2⟩
theorem c_set14 (ST : SetT K mg C) (c_check_field : Cal P w K mg base 2 "check_field" spCheck []) (c_law_draw : Cal P w K mg base 2 "_law_draw" spDraw []) (d : D0 K mg "_law_setting" s_law_setting ["purse", "bits", "patience"]) : Cal P w K mg base 5 "_law_setting" (spSet14 C) [] := by
  obtain ⟨f0, fd0, M0, F0⟩ := ST.ini
  have c_Setting : Mak P w K mg base 3 "Setting" C (spInit C) [.int 6, .int 1] := c_Setting ST c_check_field
  have FO : FnOk P w K mg base C8.CX0 3 f0 fd0 ["self", "bits", "patience", "room", "grace", "helpers"] (spInit C) := f_init_ok ST F0 c_check_field
  obtain ⟨mv, KB⟩ := F0.kbinds0 (ps := ["self", "bits", "patience", "room", "grace", "helpers"]) 4 ["grace", "helpers"] [] (fun us _ ws => us ++ ws) (by decide) (fun q hq => nomatch hq) (fun r1 _ r3 => r1.append r3) (fun D doc pm an cdv ct us mv ws l1 l2 l3 => match us, l1, mv, l2, ws, l3 with
    | [_, _, _, _], _, [], _, [_, _], _ => rfl)
  refine cal d sc_law_setting (fun vs H Q E h => ?_) (fun cdv A outer g s H vs Q E hr h => ?_)
  · obtain ⟨p, c, n, pt, rfl, _⟩ := h
    rfl
  · obtain ⟨p, c, n, pt, rfl, B, n1, n8, p1, p6, k⟩ := h
    have S := sc_law_setting
    refine ⟨_, (pss_cons (ps_set (i := 3) S.nd rfl (Or.inl rfl) (pe_op op_add pe_int (pe_c c_law_draw hr (by decide) rfl (pa_cons (pv 0) (pa_cons pe_int pa_nil)))))
      (pss_cons (ps_if (pt_cmpR op_eq (pe_c c_law_draw hr (by decide) rfl (pa_cons (pv 0) (pa_cons pe_int pa_nil))) pe_int (nomark _)) (pss_one (ps_ret (pe_mk c_Setting hr (by decide) rfl (pa_cons (pv 1) (pa_cons (pv 2) (pa_cons (pv 3) pa_nil)))))) pss_nil)
      (pss_cons (ps_set (i := 4) S.nd rfl (Or.inl rfl) (pe_op op_add pe_int (pe_c c_law_draw hr (by decide) rfl (pa_cons (pv 0) (pa_cons pe_int pa_nil)))))
      (pss_one (ps_ret (pe_makeK M0 FO hr rfl ST.mgC KB (C8.pass0 (E := C8.E0)) (pa_cons (pv 1) (pa_cons (pv 2) (pa_cons (pv 3) pa_nil))) (pk_cons (pv 4) (pk_cons (pe_c c_law_draw hr (by decide) rfl (pa_cons (pv 0) (pa_cons pe_int pa_nil))) pk_nil)))))))), ?_⟩
    refine ⟨_, rfl, p, c, 64, rfl, B, by decide, by decide, fun d1 H1 a1 a2 B1 X1 => ?_⟩
    refine ⟨_, _, rfl, rfl, ?_⟩
    refine ⟨_, rfl, p, c, 2, rfl, B1, by decide, by decide, fun d2 H2 a3 a4 B2 X2 => ?_⟩
    have X12 := X1.trans X2
    have fin : ∀ (H2 : Hp) (x dx : Addr) (r g h : Int), Purse H2 p c → Sx p H H2 → H2 x = none → H2 dx = none → dx ≠ x → 1 ≤ r → r ≤ 64 → 1 ≤ g → g ≤ 200 → 0 ≤ h → h ≤ 3 →
        spInit C [.ref x, .int (n : Int), .int (pt : Int), .int r, .int g, .int h] (upd (upd H2 dx (.own x)) x (.ins C dx [])) (fun v H3 => v = .non ∧ Q (.ref x) H3) C8.E0 := fun H2 x dx r g h B2 X2 nx ndx ne r1 r2 g1 g2 h1 h2 => by
      have nx' : upd H2 dx (.own x) x = none := by rw [upd_ne ne.symm]; exact nx
      refine ⟨x, dx, (n : Int), (pt : Int), r, g, h, rfl, upd_same, by omega, by omega, by omega, by omega, r1, r2, g1, g2, h1, h2, fun H3 hs hk => ⟨rfl, ?_⟩⟩
      obtain ⟨o, ho⟩ := B2.at_
      have nb : x ≠ p := (ne_of_none ho nx).symm
      have S3 : Same H2 H3 := fun a u e => by
        have na := ne_of_none e nx
        have e1 : upd H2 dx (.own x) a = some u := by rw [upd_ne (ne_of_none e ndx)]; exact e
        exact hk a u (by rw [upd_ne na]; exact e1) na
      exact k x H3 (X2.free nb nx) (fun a u e na => S3 a u (X2 a u e na)) (B2.same S3) (by rw [Int.toNat_natCast] at hs; exact hs)
    refine ⟨rfl, _, rfl, ite2 (fun _ => ?_) (fun _ => ?_)⟩
    · exact ⟨_, rfl, _, rfl, _, rfl, fun x dx nx ndx ne => fin H2 x dx _ 6 1 B2 X12 nx ndx ne (by omega) (by omega) (by decide) (by decide) (by decide) (by decide)⟩
    · refine ⟨_, rfl, p, c, 200, rfl, B2, by decide, by decide, fun d3 H3 a5 a6 B3 X3 => ?_⟩
      refine ⟨_, _, rfl, rfl, ?_⟩
      refine ⟨_, rfl, _, rfl, _, rfl, _, rfl, _, rfl, p, c, 4, rfl, B3, by decide, by decide, fun d4 H4 a7 a8 B4 X4 => ?_⟩
      exact ⟨rfl, rfl, fun x dx nx ndx ne => fin H4 x dx _ _ _ B4 ((X12.trans X3).trans X4) nx ndx ne (by omega) (by omega) (by omega) (by omega) a7 (by omega)⟩
theorem c_seats14 (T : Bl mg) (c_law_draw : Cal P w K mg base 2 "_law_draw" spDraw []) (d : D0 K mg "_law_seats" s_law_seats ["purse", "ring", "many"]) : Cal P w K mg base 3 "_law_seats" spSeats14 [] := by
  refine cal d sc_law_seats (fun vs H Q E h => ?_) (fun cdv A outer f s H vs Q E hr h => ?_)
  · obtain ⟨p, c, r, m, rfl, _⟩ := h
    rfl
  · obtain ⟨b, c, r, z, rfl, B5, hr0, hr1, z1, z2, k⟩ := h
    have S := sc_law_seats
    refine ⟨_, (pss_cons (ps_set (i := 3) S.nd rfl (Or.inl rfl) (pe_listRg rfl rfl T.list (prg_1 rfl T.range (pv 1))))
      (pss_cons (ps_set (i := 4) S.nd rfl (Or.inl rfl) (pe_lst pa_nil))
      (pss_cons (ps_for PassesOwn.never rfl (pi_range1 rfl T.range (pa_cons (pv 2) pa_nil)) (pg_name (i := 5) S.nd rfl (Or.inl rfl)) (pss_one (ps_expr (pe_bm PySem.F.plainAttrs_list PySem.F.slot_list_append PySem.F.type_list_append mt_append (pv 4) (pa_cons (pe_bm PySem.F.plainAttrs_list PySem.F.slot_list_pop PySem.F.type_list_pop mt_popAt (pv 3) (pa_cons (pe_c c_law_draw hr (by decide) rfl (pa_cons (pv 0) (pa_cons (pe_callB call_len_seq (by rfl) T.len (by decide +kernel) (pa_cons (pv 3) pa_nil)) pa_nil))) pa_nil)) pa_nil)))))
      (pss_one (ps_ret (pv 4)))))), ?_⟩
    refine ⟨_, rfl, _, rfl, RgOk.of_le (by omega) (by omega) (by omega) (by omega), fun q nq => ?_⟩
    refine ⟨by show 0 ≤ sizeLine; decide, fun hh nh => ?_⟩
    have eP : rgV 0 r = ((List.range r.toNat).map fun i => ((i : Nat) : Int)).map V.int := by
      unfold rgV
      rw [List.map_map, show (r - 0).toNat = r.toNat by rw [Int.sub_zero]]
      refine List.map_congr_left fun i _ => ?_
      show V.int (0 + (i : Nat)) = V.int ((i : Nat) : Int)
      rw [Int.zero_add]
    rw [eP] at nh ⊢
    have qh : q ≠ hh := fun e => by
      rw [← e, upd_same] at nh
      cases nh
    obtain ⟨ob, hob⟩ := B5.at_
    have qb : q ≠ b := (ne_of_none hob nq).symm
    have nh5 : H hh = none := by
      rw [upd_ne qh.symm] at nh
      exact nh
    have hb : hh ≠ b := (ne_of_none hob nh5).symm
    obtain ⟨oc, hoc⟩ := B5.in_
    have qc : q ≠ c := (ne_of_none hoc nq).symm
    have hc : hh ≠ c := (ne_of_none hoc nh5).symm
    refine ⟨_, rfl, _, rfl, by omega, by omega, ?_⟩
    refine for_range (lo := 0) (n := z.toNat) (fun i σ H' => Sx b H H' ∧ Purse H' b c ∧ ∃ (hs ps : List Int) (v1 : Option V), σ = [some (.ref b), some (.int r), some (.int z), some (.ref q), some (.ref hh), v1] ∧
      H' q = some (.lst (ps.map V.int)) ∧ H' hh = some (.lst (hs.map V.int)) ∧ hs.length = i ∧ hs.length + ps.length = r.toNat ∧ (hs ++ ps).Nodup ∧ (∀ x ∈ hs ++ ps, 0 ≤ x ∧ x < r)) ?_ ?_ ?_
    · have Xq := (((Sx.refl b H).new nq (.lst (((List.range r.toNat).map fun i => ((i : Nat) : Int)).map V.int))).new nh (.lst []))
      refine ⟨Xq, (B5.new nq _).new nh _, [], _, none, rfl, by rw [upd_ne qh, upd_same], upd_same, rfl, ?_, ?_, ?_⟩
      · simp
      · rw [List.nil_append]
        refine List.Pairwise.map _ (fun a b hab => ?_) List.nodup_range
        omega
      · intro x hx
        rw [List.nil_append] at hx
        obtain ⟨i, hi, rfl⟩ := List.mem_map.mp hx
        have := List.mem_range.mp hi
        omega
    · rintro i σ H6 hi ⟨X6, B6, hs, ps, v1, rfl, hq, hh6, e1, e2, e3, e4⟩
      have lp : 0 < ps.length := by omega
      refine ⟨_, rfl, .inl ⟨rfl, _, SqL.of hh6⟩, _, rfl, .inl ⟨rfl, _, SqL.of hq⟩, _, rfl, _, rfl, _, _, rfl, .inl (SqL.of hq), b, c, _, rfl, B6, by rw [List.length_map]; omega, by rw [List.length_map]; omega, fun d2 H7 a5 a6 B7 X7 => ?_⟩
      rw [List.length_map] at a6
      obtain ⟨y, hy⟩ : ∃ y, ps[d2.toNat]? = some y := ⟨ps[d2.toNat]'(by omega), List.getElem?_eq_getElem (by omega)⟩
      have hq7 := X7 q _ hq qb
      have hh7 := X7 hh _ hh6 hb
      refine ⟨q, _, d2, _, .int y, rfl, rfl, hq7, by omega, by omega, seqIx_lt a5 (by rw [List.length_map]; exact a6), by rw [List.getElem?_map, hy]; rfl, ?_⟩
      have hh8 : (upd H7 q (.lst ((ps.map V.int).eraseIdx d2.toNat))) hh = some (.lst (hs.map V.int)) := by rw [upd_ne qh.symm]; exact hh7
      refine ⟨hh, _, _, rfl, rfl, hh8, by rw [List.length_map]; exact small1000 (by omega), ?_⟩
      have hl : d2.toNat < ps.length := by omega
      refine ⟨?_, ?_, hs ++ [y], ps.eraseIdx d2.toNat, _, rfl, ?_, ?_, ?_, ?_, nodup_move e3 hy, fun x hx => e4 x (mem_move hy hx)⟩
      · intro a u e na
        have e7 := (X6.trans X7) a u e na
        rw [upd_ne (ne_of_none e nh5), upd_ne (ne_of_none e nq)]
        exact e7
      · exact (B7.off qb qc _).off hb hc _
      · rw [upd_ne qh, upd_same, map_erase]
      · rw [upd_same, List.map_append]
        rfl
      · rw [List.length_append, e1]
        rfl
      · rw [List.length_append, List.length_eraseIdx, if_pos hl]
        show hs.length + 1 + _ = _
        omega
    · rintro σ H6 ⟨X6, B6, hs, ps, v1, rfl, hq, hh6, e1, e2, e3, e4⟩
      refine ⟨_, rfl, k hh hs H6 nh5 X6 B6 hh6 ⟨(List.nodup_append.mp e3).1, fun x hx => (e4 x (List.mem_append_left _ hx)).1, fun x hx => (e4 x (List.mem_append_left _ hx)).2⟩⟩
end
end K14

set_option Elab.async false
set_option maxRecDepth 100000
set_option maxHeartbeats 4000000
set_option exponentiation.threshold 4096
namespace K14
open PySem PySem.Spec PyProof.Rows L2 C8

abbrev s_law_table : Stmt := top 23
abbrev n_law_table : List Str := ["bits", "held", "callers", "ring", "there", "seat", "table", "phase", "line", "way", "place"]
theorem sc_law_table : FnScope n_law_table ["bits", "held", "callers"] (C8.fnScope s_law_table) := ⟨rfl, rfl, rfl, by decide +kernel, rfl, by decide +kernel, by decide +kernel⟩
abbrev s_law_bent : Stmt := top 24
abbrev n_law_bent : List Str := ["purse", "ring", "held", "way", "spare", "at", "seat"]
theorem sc_law_bent : FnScope n_law_bent ["purse", "ring", "held"] (C8.fnScope s_law_bent) := ⟨rfl, rfl, rfl, by decide +kernel, rfl, by decide +kernel, by decide +kernel⟩

theorem putK_len (kvs : List (Key × V)) (k : Key) (v : V) : (putK kvs k v).length ≤ kvs.length + 1 := by
  unfold putK
  split
  · rw [List.length_map]
    exact Nat.le_succ _
  · rw [List.length_append]
    exact Nat.le_refl _
theorem ringN_le {n : Nat} (h : n ≤ 8) : ringN n ≤ 256 := by
  have := Nat.pow_le_pow_right (show 0 < 2 by decide) h
  unfold ringN
  omega
theorem shl_eq (n : Nat) : (1 : Int) * 2 ^ ((n : Int)).toNat = ((2 ^ n : Nat) : Int) := by
  rw [Int.toNat_natCast, Int.one_mul]
  simp
theorem shl_eq0 (n : Nat) : (1 : Int) * 2 ^ ((0 + (n : Int))).toNat = ((2 ^ n : Nat) : Int) := by
  rw [Int.zero_add]
  exact shl_eq n
/-- one line: what each caller has at the phase f -/
def LineAt (H : Hp) (a : Addr) (n f : Nat) (ns cs : List Int) : Prop := ∃ kvs : List (Key × V), H a = some (.dK kvs) ∧ ∀ s ∈ cs, valV kvs (.inl s) = some (optV (tgP n s f ns))
def TableAt (H : Hp) (p : Addr) (n : Nat) (ns cs : List Int) : Prop := ∃ as : List Addr, H p = some (.lst (as.map V.ref)) ∧ as.length = n ∧ ∀ (f : Nat) (a : Addr), as[f]? = some a → LineAt H a n f ns cs
theorem LineAt.ext {H H' : Hp} {a : Addr} {n f : Nat} {ns cs : List Int} (h : LineAt H a n f ns cs) (e : ∀ kvs, H a = some (.dK kvs) → H' a = some (.dK kvs)) : LineAt H' a n f ns cs := by
  obtain ⟨kvs, h1, h2⟩ := h
  exact ⟨kvs, e _ h1, h2⟩
theorem TableAt.ext {H H' : Hp} {p : Addr} {n : Nat} {ns cs : List Int} (h : TableAt H p n ns cs) (e : LamX.ExtN H H') : TableAt H' p n ns cs := by
  obtain ⟨as, h1, h2, h3⟩ := h
  exact ⟨as, lstN h1 e, h2, fun f a q => (h3 f a q).ext fun kvs z => dkN z e⟩
theorem TableAt.get {H : Hp} {p : Addr} {n : Nat} {ns cs : List Int} (h : TableAt H p n ns cs) {f : Nat} (hf : f < n) : ∃ (as : List Addr) (a : Addr), H p = some (.lst (as.map V.ref)) ∧ as.length = n ∧ as[f]? = some a ∧ LineAt H a n f ns cs := by
  obtain ⟨as, h1, h2, h3⟩ := h
  have hl : f < as.length := by omega
  exact ⟨as, as[f], h1, h2, List.getElem?_eq_getElem hl, h3 f _ (List.getElem?_eq_getElem hl)⟩
def spTable : Sp := fun vs H Q _ => ∃ (n : Nat) (l m : Addr) (ns cs : List Int), vs = [.int (n : Int), .ref l, .ref m] ∧ 1 ≤ n ∧ n ≤ 8 ∧ H l = some (.lst (ns.map V.int)) ∧ H m = some (.lst (cs.map V.int)) ∧ ns.length ≤ 256 ∧ cs.length ≤ 256 ∧
  ∀ (p : Addr) (H' : Hp), H p = none → Same H H' → TableAt H' p n ns cs → Q (.ref p) H'
theorem samePut {H H1 : Hp} {p : Addr} (x : Same H H1) (n : H p = none) (o : HO) : Same H (L2.upd H1 p o) := fun a u h => by
  rw [upd_ne (ne_of_none h n)]
  exact x a u h
theorem getInt {xs : List Int} {i : Nat} {y : V} (h : (xs.map V.int)[i]? = some y) : ∃ z, y = V.int z ∧ xs[i]? = some z := by
  rw [List.getElem?_map] at h
  cases e : xs[i]? with
  | none => rw [e] at h; cases h
  | some z => rw [e] at h; exact ⟨z, (Option.some.inj h).symm, rfl⟩
theorem take_snoc {α : Type} {xs : List α} {i : Nat} {z : α} (h : xs[i]? = some z) : xs.take (i + 1) = xs.take i ++ [z] := by
  rw [List.take_add_one, h]
  rfl
section
variable {P : Program} {w : World} {K : PySem.W.Frag} {mg : Str → Option Value} {base : Heap} {C t : Addr}
theorem c_table (T : Bl mg) (d : D0 K mg "_law_table" s_law_table ["bits", "held", "callers"]) : Cal P w K mg base 1 "_law_table" spTable [] := by
  refine cal d sc_law_table (fun vs H Q E h => ?_) (fun cdv A outer f s H vs Q E hr h => ?_)
  · obtain ⟨n, l, m, ns, cs, rfl, _⟩ := h
    rfl
  · obtain ⟨n, l, m, ns, cs, rfl, n1, n8, hl, hm, ln, lc, k⟩ := h
    have S := sc_law_table
    have hu := hu_of hr
    refine ⟨_, (pss_cons (ps_set (i := 3) S.nd rfl (Or.inl rfl) (pe_op op_shl pe_int (pv 0)))
      (pss_cons (ps_set (i := 4) S.nd rfl (Or.inl rfl) pe_dnewK)
      (pss_cons (ps_for PassesOwn.never rfl (pi_list (pv 1)) (pg_name (i := 5) S.nd rfl (Or.inl rfl)) (pss_one (ps_asg pe_bl (pg_sub (pv 4) (pv 5) (set_dict hu)))))
      (pss_cons (ps_set (i := 6) S.nd rfl (Or.inl rfl) (pe_lst pa_nil))
      (pss_cons (ps_for PassesOwn.never rfl (pi_range1 rfl T.range (pa_cons (pv 0) pa_nil)) (pg_name (i := 7) S.nd rfl (Or.inl rfl)) (pss_cons (ps_set (i := 8) S.nd rfl (Or.inl rfl) pe_dnewK)
      (pss_cons (ps_for PassesOwn.never rfl (pi_list (pv 2)) (pg_name (i := 5) S.nd rfl (Or.inl rfl)) (pss_cons (ps_asg pe_non (pg_sub (pv 8) (pv 5) (set_dict hu)))
      (pss_one (ps_for PassesOwn.never rfl (pi_range2 rfl T.range (pa_cons (pe_op op_shl pe_int (pv 7)) (pa_cons (pv 3) pa_nil))) (pg_name (i := 9) S.nd rfl (Or.inl rfl)) (pss_cons (ps_set (i := 10) S.nd rfl (Or.inl rfl) (pe_op op_mod (pe_callTy call_int1 (by rfl) T.int (by decide +kernel) (pa_cons (pe_op op_add (pv 5) (pv 9)) pa_nil)) (pv 3)))
      (pss_one (ps_if (pt_cmp (pc_din hu (pv 10) (pv 4))) (pss_cons (ps_asg (pv 10) (pg_sub (pv 8) (pv 5) (set_dict hu)))
      (pss_one (ps_break))) pss_nil)))))))
      (pss_one (ps_expr (pe_bm PySem.F.plainAttrs_list PySem.F.slot_list_append PySem.F.type_list_append mt_append (pv 6) (pa_cons (pv 8) pa_nil)))))))
      (pss_one (ps_ret (pv 6)))))))), ?_⟩
    have r0 := ring_pos n
    have r1 := ringN_le n8
    refine ⟨_, rfl, _, _, rfl, rfl, ⟨by omega, by omega, by decide⟩, ?_⟩
    show gName 3 (V.int (1 * 2 ^ ((n : Int)).toNat)) (L2.start n_law_table [.int (n : Int), .ref l, .ref m]) H _
    rw [shl_eq n]
    intro D nD
    have d0 : (upd H D (.dK [])) D = some (.dK []) := upd_same
    have s0 : Same H (upd H D (.dK [])) := sameNew (Same.refl H) nD _
    refine ⟨_, rfl, l, rfl, ⟨_, SqL.of (s0 _ _ hl)⟩, for_list (K := K) (a := l) (xs := ns.map V.int) (fun i σ H1 => Same H H1 ∧ ∃ (kvs : List (Key × V)) (v : Option V), σ = [some (.int (n : Int)), some (.ref l), some (.ref m), some (.int (ringN n)), some (.ref D), v, none, none, none, none, none] ∧
      H1 D = some (.dK kvs) ∧ kvs.length ≤ i ∧ ∀ x : Int, (valV kvs (.inl x)).isSome = true ↔ x ∈ ns.take i) ⟨s0, [], none, rfl, d0, Nat.le_refl _, fun x => by simp [valV_nil]⟩ (fun i σ H1 _ pv => SqL.of (pv.1 _ _ hl)) (fun i y σ H1 hy pv => ?_) (fun σ H1 pv => ?_)⟩
    · obtain ⟨s1, kvs, v, rfl, d1, l1, m1⟩ := pv
      obtain ⟨z, rfl, hz⟩ := getInt hy
      refine ⟨_, rfl, _, rfl, _, _, rfl, DPut.k (k := .inl z) (v := .bl true) d1 (small1000' (by have := (List.getElem?_eq_some_iff.mp hz).1; omega)), ?_⟩
      refine ⟨samePut s1 nD _, _, _, rfl, upd_same, Nat.le_trans (putK_len _ _ _) (Nat.succ_le_succ l1), fun x => ?_⟩
      rw [valV_put, take_snoc hz, List.mem_append, List.mem_singleton]
      by_cases e : (Sum.inl x : Key) = .inl z
      · rw [if_pos e]
        injection e with e
        exact ⟨fun _ => .inr e, fun _ => rfl⟩
      · rw [if_neg e, m1 x]
        exact ⟨.inl, fun q => q.elim (fun y => y) fun y => absurd (congrArg Sum.inl y) e⟩
    · obtain ⟨s1, kvs, v, rfl, d1, l1, m1⟩ := pv
      rw [List.length_map, List.take_length] at m1
      refine ⟨by show 0 ≤ sizeLine; decide, fun p np => ?_⟩
      have nH : H p = none := s1.free np
      have s2 := sameNew s1 np (.lst [])
      have pD : D ≠ p := ne_of_none d1 np
      refine ⟨_, rfl, _, rfl, by omega, by omega, ?_⟩
      rw [Int.toNat_natCast]
      refine for_range (lo := 0) (n := n) (fun i σ H2 => Same H H2 ∧ H2 D = some (.dK kvs) ∧ ∃ (as : List Addr) (v5 v7 v8 v9 v10 : Option V), σ = [some (.int (n : Int)), some (.ref l), some (.ref m), some (.int (ringN n)), some (.ref D), v5, some (.ref p), v7, v8, v9, v10] ∧
        H2 p = some (.lst (as.map V.ref)) ∧ as.length = i ∧ ∀ (f : Nat) (a : Addr), as[f]? = some a → LineAt H2 a n f ns cs)
        ⟨s2, by rw [upd_ne pD]; exact d1, [], v, none, none, none, none, rfl, upd_same, rfl, fun f a q => by simp at q⟩ (fun i σ H2 hi pv => ?_) (fun σ H2 pv => ?_)
      · obtain ⟨s3, d3, as, v5, v7, v8, v9, v10, rfl, hp, la, lines⟩ := pv
        intro L nL
        have LH : H L = none := s3.free nL
        have LD : D ≠ L := ne_of_none d3 nL
        have Lp : p ≠ L := ne_of_none hp nL
        have base1 : ∀ b o, H2 b = some o → (upd H2 L (.dK [])) b = some o := fun b o e => by rw [upd_ne (ne_of_none e nL)]; exact e
        have off1 : ((2 ^ i : Nat) : Int) ≤ ringN n := by
          unfold ringN
          have := Nat.pow_le_pow_right (show 0 < 2 by decide) (Nat.le_of_lt hi)
          omega
        have off0 : (0 : Int) ≤ ((2 ^ i : Nat) : Int) := Int.natCast_nonneg _
        refine ⟨_, rfl, m, rfl, ⟨_, SqL.of (base1 _ _ (s3 _ _ hm))⟩, for_list (K := K) (a := m) (xs := cs.map V.int) (fun j σ H3 => (∀ b o, b ≠ L → H2 b = some o → H3 b = some o) ∧ ∃ (kv : List (Key × V)) (w5 w9 w10 : Option V), σ = [some (.int (n : Int)), some (.ref l), some (.ref m), some (.int (ringN n)), some (.ref D), w5, some (.ref p), some (.int (0 + (i : Int))), some (.ref L), w9, w10] ∧
          H3 L = some (.dK kv) ∧ kv.length ≤ 2 * j ∧ ∀ s ∈ cs.take j, valV kv (.inl s) = some (optV (tgP n s i ns)))
          ⟨fun b o _ e => base1 b o e, [], v5, v9, v10, rfl, upd_same, Nat.zero_le _, fun s hs => by simp at hs⟩ (fun j σ H3 _ pv => SqL.of (pv.1 _ _ (ne_of_none (s3 _ _ hm) nL) (s3 _ _ hm))) (fun j y σ H3 hy pv => ?_) (fun σ H3 pv => ?_)⟩
        · obtain ⟨k3, kv, w5, w9, w10, rfl, hL, lk, vals⟩ := pv
          obtain ⟨z, rfl, hz⟩ := getInt hy
          have jl := (List.getElem?_eq_some_iff.mp hz).1
          have sm := small1000' (show kv.length ≤ 1000 by omega)
          refine ⟨_, rfl, _, rfl, _, _, rfl, DPut.k (k := .inl z) (v := .non) hL sm, ?_⟩
          have vput : ∀ (kv : List (Key × V)) (o : Option Int), (∀ s ∈ cs.take j, valV kv (.inl s) = some (optV (tgP n s i ns))) → o = tgP n z i ns → ∀ s ∈ cs.take (j + 1), valV (putK kv (.inl z) (optV o)) (.inl s) = some (optV (tgP n s i ns)) := fun kv o hv ho s hs => by
            rw [take_snoc hz, List.mem_append, List.mem_singleton] at hs
            rw [valV_put]
            by_cases e : (Sum.inl s : Key) = .inl z
            · rw [if_pos e]
              injection e with e
              rw [e, ho]
            · rw [if_neg e]
              exact hs.elim (fun y => hv s y) fun y => absurd (congrArg Sum.inl y) e
          have l1 : (putK kv (.inl z) .non).length ≤ 2 * j + 1 := Nat.le_trans (putK_len _ _ _) (by omega)
          refine ⟨_, rfl, _, _, rfl, rfl, ⟨by omega, by omega, by decide⟩, _, rfl, ((2 ^ i : Nat) : Int), ringN n, congrArg (fun q => [V.int q, V.int (ringN n)]) (shl_eq0 i), ⟨by omega, by omega, by omega, by omega⟩, ?_⟩
          refine for_range (lo := ((2 ^ i : Nat) : Int)) (n := (ringN n - ((2 ^ i : Nat) : Int)).toNat) (fun u σ H4 => (∀ b o, b ≠ L → H2 b = some o → H4 b = some o) ∧ ∃ w9 w10 : Option V, σ = [some (.int (n : Int)), some (.ref l), some (.ref m), some (.int (ringN n)), some (.ref D), some (.int z), some (.ref p), some (.int (0 + (i : Int))), some (.ref L), w9, w10] ∧
            H4 L = some (.dK (putK kv (.inl z) .non)) ∧ tgP n z i ns = tgGo (ringN n) z ns ((ringN n - ((2 ^ i : Nat) : Int)).toNat - u) (((2 ^ i : Nat) : Int) + (u : Int)))
            ⟨fun b o nb e => by rw [upd_ne nb]; exact k3 b o nb e, w9, w10, rfl, upd_same, by unfold tgP tg; rw [Nat.sub_zero]; simp⟩ (fun u σ H4 hu4 pv => ?_) (fun σ H4 pv => ?_)
          · obtain ⟨k4, x9, x10, rfl, hL4, eg⟩ := pv
            have hD4 := k4 D _ LD d3
            refine ⟨_, rfl, _, rfl, _, _, rfl, rfl, .inl ⟨_, rfl, _, rfl, _, _, rfl, rfl, pm r0, ?_⟩⟩
            refine ⟨_, rfl, _, rfl, D, _, rfl, DGet.k (k := .inl ((z + (((2 ^ i : Nat) : Int) + (u : Int))) % ringN n)) hD4, _, rfl, ?_⟩
            obtain ⟨q, hq⟩ : ∃ q, (ringN n - ((2 ^ i : Nat) : Int)).toNat - u = q + 1 := ⟨(ringN n - ((2 ^ i : Nat) : Int)).toNat - u - 1, by omega⟩
            rw [hq] at eg
            unfold tgGo at eg
            have mi := m1 ((z + (((2 ^ i : Nat) : Int) + (u : Int))) % ringN n)
            refine ite2 (fun hin => ?_) (fun hout => ?_)
            · rw [if_pos (mi.mp hin)] at eg
              refine ⟨_, rfl, _, rfl, _, rfl, _, _, rfl, DPut.k (k := .inl z) (v := .int ((z + (((2 ^ i : Nat) : Int) + (u : Int))) % ringN n)) hL4 (small1000' (by omega)), ?_⟩
              refine ⟨fun b o nb e => by rw [upd_ne nb]; exact k4 b o nb e, _, _, _, _, rfl, upd_same, Nat.le_trans (putK_len _ _ _) (by omega), ?_⟩
              intro s hs
              have hs2 := hs
              rw [take_snoc hz, List.mem_append, List.mem_singleton] at hs
              rw [valV_put, valV_put]
              by_cases e : (Sum.inl s : Key) = .inl z
              · rw [if_pos e]
                injection e with e
                rw [e, eg]
                rfl
              · rw [if_neg e, if_neg e]
                exact hs.elim (fun y => vals s y) fun y => absurd (congrArg Sum.inl y) e
            · rw [if_neg fun y => hout (mi.mpr y)] at eg
              refine ⟨k4, _, _, rfl, hL4, ?_⟩
              rw [eg]
              congr 1 <;> omega
          · obtain ⟨k4, x9, x10, rfl, hL4, eg⟩ := pv
            rw [Nat.sub_self] at eg
            refine ⟨k4, _, _, _, _, rfl, hL4, by omega, ?_⟩
            exact vput kv none vals eg.symm
        · obtain ⟨k3, kv, w5, w9, w10, rfl, hL, lk, vals⟩ := pv
          rw [List.length_map, List.take_length] at vals
          have hp3 := k3 p _ Lp hp
          refine ⟨_, rfl, .inl ⟨rfl, _, SqL.of hp3⟩, _, rfl, p, _, _, rfl, rfl, hp3, by rw [List.length_map]; exact small1000' (by omega), ?_⟩
          have hpL : L ≠ p := Lp.symm
          refine ⟨fun b o e => ?_, by rw [upd_ne pD]; exact k3 D _ LD d3, as ++ [L], _, _, _, _, _, rfl, by rw [upd_same, List.map_append]; rfl, by rw [List.length_append, la]; rfl, fun f a q => ?_⟩
          · rw [upd_ne (ne_of_none e nH)]
            exact k3 b o (ne_of_none e LH) (s3 b o e)
          · by_cases hf : f < as.length
            · rw [List.getElem?_append_left hf] at q
              refine (lines f a q).ext fun kvs z => ?_
              have na : a ≠ p := fun y => by rw [y, hp] at z; cases z
              rw [upd_ne na]
              exact k3 a _ (ne_of_none z nL) z
            · rw [List.getElem?_append_right (by omega)] at q
              have e0 : f - as.length = 0 := by
                cases q0 : f - as.length with
                | zero => rfl
                | succ j => rw [q0] at q; simp at q
              rw [e0] at q
              cases q
              have ef : f = i := by omega
              rw [ef]
              exact ⟨kv, by rw [upd_ne hpL]; exact hL, vals⟩
      · obtain ⟨s3, d3, as, v5, v7, v8, v9, v10, rfl, hp, la, lines⟩ := pv
        exact ⟨_, rfl, k p H2 nH s3 ⟨as, hp, la, lines⟩⟩
end
/-! ### bent -/
theorem cover_len : ∀ (n : Nat) (l : List Nat), (∀ x, x < n → x ∈ l) → n ≤ l.length
  | 0, _, _ => Nat.zero_le _
  | n + 1, l, h => by
    have hm : n ∈ l := h n (Nat.lt_succ_self n)
    have z := cover_len n (l.erase n) fun x hx => (List.mem_erase_of_ne (by omega)).mpr (h x (by omega))
    rw [List.length_erase_of_mem hm] at z
    have : 0 < l.length := List.length_pos_of_mem hm
    omega
theorem cover_int {r : Int} {ns : List Int} (h : ∀ x, 0 ≤ x → x < r → x ∈ ns) : r.toNat ≤ ns.length := by
  have z := cover_len r.toNat (ns.map Int.toNat) fun x hx => by
    have := h (x : Int) (by omega) (by omega)
    exact List.mem_map.mpr ⟨_, this, by omega⟩
  rw [List.length_map] at z
  exact z
theorem flatInts (ns : List Int) : (ns.map V.int).all flatV = true := by
  rw [List.all_eq_true]
  intro x hx
  obtain ⟨z, _, rfl⟩ := List.mem_map.mp hx
  rfl
theorem inV_ints {x : Int} {ns : List Int} : inV (.int x) (ns.map V.int) = true ↔ x ∈ ns := by
  unfold inV
  rw [List.any_eq_true]
  constructor
  · rintro ⟨v, hv, e⟩
    obtain ⟨z, hz, rfl⟩ := List.mem_map.mp hv
    have e : (z == x) = true := e
    rw [← eq_of_beq e]
    exact hz
  · intro h
    refine ⟨.int x, List.mem_map.mpr ⟨x, h, rfl⟩, ?_⟩
    show (x == x) = true
    exact beq_self_eq_true x
theorem dpAll {K : PySem.W.Frag} {H : Hp} : ∀ ns : List Int, DpAll K H (ns.map V.int) (ns.map PyData.int)
  | [] => .nil
  | _ :: ns => .cons (.int _) (dpAll ns)
def spBent : Sp := fun vs H Q _ => ∃ (p c l : Addr) (r : Int) (ns : List Int), vs = [.ref p, .int r, .ref l] ∧ Purse H p c ∧ 0 < r ∧ r ≤ 256 ∧ H l = some (.lst (ns.map V.int)) ∧ l ≠ p ∧ InRing ns r ∧ ns.length ≤ 256 ∧
  ∀ (q : Addr) (ms : List Int) (H' : Hp), H q = none → Sx p H H' → Purse H' p c → H' q = some (.lst (ms.map V.int)) → InRing ms r → ms.length ≤ 256 → Q (.ref q) H'
end K14

set_option Elab.async false
set_option maxRecDepth 100000
set_option maxHeartbeats 4000000
set_option exponentiation.threshold 4096
namespace K14
open PySem PySem.Spec PyProof.Rows L2 C8

theorem dpList {K : PySem.W.Frag} {H : Hp} {a : Addr} {ns : List Int} (h : H a = some (.lst (ns.map V.int))) : Dp K H (.ref a) (.list (ns.map PyData.int)) := .lst (SqL.of h) (dpAll ns)
theorem lay_ints : ∀ ns : List Int, PyData.canLayAll0 (ns.map PyData.int) = true
  | [] => by simp [PyData.canLayAll0]
  | n :: ns => by
    rw [List.map_cons, PyData.canLayAll0, lay_ints ns]
    simp [PyData.canLay0]
theorem dep_ints : ∀ ns : List Int, PyData.depthAll (ns.map PyData.int) = 0
  | [] => by simp [PyData.depthAll]
  | n :: ns => by
    rw [List.map_cons, PyData.depthAll, dep_ints ns]
    simp [PyData.depth]
theorem can_list (ns : List Int) : (PyData.list (ns.map PyData.int)).canLay0 = true := by
  rw [PyData.canLay0]
  exact lay_ints ns
theorem shaped_list (ns : List Int) : SeqAt.shaped (.list (ns.map PyData.int)) = true := by
  unfold SeqAt.shaped
  rw [can_list, PyData.depth, dep_ints]
  rfl
theorem eqv_list (ns : List Int) : PyData.eqv (.list (ns.map PyData.int)) (.list (ns.map PyData.int)) = true := SeqAt.eqv_refl _ (can_list ns)


theorem cut_mem (ns : List Int) (lo hi : Option Int) : ∀ ms : List Int, cutV (ns.map V.int) lo hi = ms.map V.int → ∀ x ∈ ms, x ∈ ns := fun ms e x hx => by
  have h : V.int x ∈ cutV (ns.map V.int) lo hi := by rw [e]; exact List.mem_map.mpr ⟨x, hx, rfl⟩
  unfold cutV at h
  obtain ⟨z, hz, ez⟩ := List.mem_map.mp (List.mem_of_mem_drop (List.mem_of_mem_take h))
  injection ez with ez
  rw [← ez]
  exact hz
theorem cut_two {d : Int} {ns as bs : List Int} (h0 : 0 ≤ d) (h1 : d < (ns.length : Int)) (ea : cutV (ns.map V.int) none (some d) = as.map V.int) (eb : cutV (ns.map V.int) (some (d + 1)) none = bs.map V.int) : as.length + bs.length ≤ ns.length := by
  have la := congrArg List.length ea
  have lb := congrArg List.length eb
  unfold cutV at la lb
  simp only [List.length_take, List.length_drop, List.length_map] at la lb
  obtain ⟨k, rfl⟩ := Int.eq_ofNat_of_zero_le h0
  rw [HT.sIx_nat, HT.sIx_none] at la
  rw [show ((k : Int) + 1) = ((k + 1 : Nat) : Int) by omega, HT.sIx_nat, HT.sIx_none] at lb
  omega
theorem Sx.same {p : Addr} {H H1 H2 : Hp} (x : Sx p H H1) (y : Same H1 H2) : Sx p H H2 := fun a u h n => y a u (x a u h n)
section
variable {P : Program} {w : World} {K : PySem.W.Frag} {mg : Str → Option Value} {base : Heap} {C t : Addr}
theorem c_bent (T : Bl mg) (c_law_draw : Cal P w K mg base 2 "_law_draw" spDraw []) (d : D0 K mg "_law_bent" s_law_bent ["purse", "ring", "held"]) : Cal P w K mg base 3 "_law_bent" spBent [] := by
  refine cal d sc_law_bent (fun vs H Q E h => ?_) (fun cdv A outer f s H vs Q E hr h => ?_)
  · obtain ⟨p, c, l, r, ns, rfl, _⟩ := h
    rfl
  · obtain ⟨p, c, l, r, ns, rfl, B, r0, r1, hl, lp, ir, ln, k⟩ := h
    have S := sc_law_bent
    refine ⟨_, (pss_cons (ps_set (i := 3) S.nd rfl (Or.inl rfl) (pe_c c_law_draw hr (by decide) rfl (pa_cons (pv 0) (pa_cons pe_int pa_nil))))
      (pss_cut (ps_if (PW.pt (pw_and (pt_cmpR op_eq (pv 3) pe_int (nomark _)) (pw_and1 (pt_cmpR op_lt (pe_callB call_len_seq (by rfl) T.len (by decide +kernel) (pa_cons (pv 2) pa_nil)) (pv 1) (nomark _))))) (pss_cons (ps_setLc (i := 4) (own := [("seat", 6)]) (g := gName 6) (by rfl) S.nd rfl rfl (sw_true rfl rfl rfl (by decide +kernel)) (pi_range1 rfl T.range (pa_cons (pv 1) pa_nil)) (blkOk_by (own := [("seat", 6)]) (N := n_law_bent) (sc := C8.fnScope s_law_bent) (by decide +kernel)) (fun _ _ _ _ _ => pg_name (i := 6) S.nd rfl (Or.inl rfl)) (fun _ _ _ _ _ => (pts_one (pt_cmpR (show OpR _ (compareOp .NotIn) (rIn K true) from op_notIn_seq) (pv 6) (pv 2) (by with_unfolding_all rfl)))) (fun _ _ _ _ _ => (pv 6)))
      (pss_one (ps_ret (pe_op op_cat (pe_lst (pa_cons (pe_ix ix_list (pv 4) (pe_c c_law_draw hr (by decide) rfl (pa_cons (pv 0) (pa_cons (pe_callB call_len_seq (by rfl) T.len (by decide +kernel) (pa_cons (pv 4) pa_nil)) pa_nil))) (fun _ _ => rfl)) pa_nil)) (pv 2))))) pss_nil)
      (pss_cons (ps_if (PW.pt (pw_and (pt_cmpR op_eq (pv 3) pe_int (nomark _)) (pw_and1 (pt_cmpR (op_neD hr.units) (pv 2) (pe_lst pa_nil) (nomark _))))) (pss_cons (ps_set (i := 5) S.nd rfl (Or.inl rfl) (pe_c c_law_draw hr (by decide) rfl (pa_cons (pv 0) (pa_cons (pe_callB call_len_seq (by rfl) T.len (by decide +kernel) (pa_cons (pv 2) pa_nil)) pa_nil))))
      (pss_one (ps_ret (pe_op op_cat (pe_slice sl_list (pv 2) po_none (po_some (pv 5))) (pe_slice sl_list (pv 2) (po_some (pe_op op_add (pv 5) pe_int)) po_none))))) pss_nil)
      (pss_one (ps_ret (pe_revL (pv 2))))))), ?_⟩
    refine ⟨_, rfl, p, c, 3, rfl, B, by decide, by decide, fun d1 H1 a1 a2 B1 X1 => ?_⟩
    have hl1 := X1 _ _ hl lp
    have tail : ∀ H2 : Hp, Sx p H H2 → Purse H2 p c → tRet (tRevL K (tVar 2)) { nx := fun _ H' => Q .non H', rt := Q } [some (.ref p), some (.int r), some (.ref l), some (.int d1), none, none, none] H2 := fun H2 X2 B2 => by
      have hl2 := X2 _ _ hl lp
      refine ⟨_, rfl, l, _, rfl, SqL.of hl2, fun q nq => ?_⟩
      rw [← List.map_reverse]
      obtain ⟨o3, ho3⟩ := B2.at_
      exact k q ns.reverse _ (X2.free (ne_of_none ho3 nq).symm nq) (X2.new nq _) (B2.new nq _) upd_same ⟨fun x hx => ir.lo x (List.mem_reverse.mp hx), fun x hx => ir.hi x (List.mem_reverse.mp hx)⟩ (by rw [List.length_reverse]; exact ln)
    refine ⟨fun σ H' => H' = H1 ∧ σ = [some (.ref p), some (.int r), some (.ref l), some (.int d1), none, none, none], ?_, ?_⟩
    · refine ⟨_, rfl, rfl, _, rfl, ite2 (fun hw => ?_) (fun hw => iteF ⟨rfl, rfl⟩)⟩
      refine ⟨_, rfl, _, _, rfl, .inl (SqL.of hl1), _, rfl, _, _, rfl, rfl, _, rfl, ite2 (fun hlt => ?_) (fun hge => ⟨rfl, rfl⟩)⟩
      have hlt := of_decide_eq_true hlt
      rw [List.length_map] at hlt
      refine ⟨_, rfl, _, rfl, by omega, by omega, fun D nD => ?_⟩
      refine lc_range (lo := 0) (n := r.toNat) (fun i H' => Same H1 H' ∧ ∃ sp : List Int, H' D = some (.lst (sp.map V.int)) ∧ InRing sp r ∧ sp.length ≤ i ∧ ∀ j : Int, 0 ≤ j → j < (i : Int) → j ∈ ns ∨ j ∈ sp) ⟨sameNew (Same.refl H1) nD _, [], upd_same, ⟨(fun x hx => nomatch hx), (fun x hx => nomatch hx)⟩, Nat.le_refl _, fun j j0 j1 => by omega⟩ (fun i H2 hi pv => ?_) (fun H2 pv => ?_)
      · obtain ⟨s2, sp, hD, isp, lsp, cov⟩ := pv
        refine ⟨rfl, _, rfl, _, rfl, l, _, rfl, .inl (SqL.of (s2 _ _ hl1)), rfl, flatInts ns, _, rfl, ite2 (fun hy => ?_) (fun hn => ?_)⟩
        · refine ⟨_, rfl, _, hD, by rw [List.length_map]; exact small1000' (by omega), samePut s2 nD _, sp ++ [0 + (i : Int)], by rw [upd_same, List.map_append]; rfl, ⟨fun x hx => ?_, fun x hx => ?_⟩, by rw [List.length_append]; show sp.length + 1 ≤ i + 1; omega, fun j j0 j1 => ?_⟩
          · rcases List.mem_append.mp hx with hx | hx
            · exact isp.lo x hx
            · rw [List.mem_singleton] at hx
              omega
          · rcases List.mem_append.mp hx with hx | hx
            · exact isp.hi x hx
            · rw [List.mem_singleton] at hx
              omega
          · by_cases e : j = 0 + (i : Int)
            · exact .inr (List.mem_append_right _ (List.mem_singleton.mpr e))
            · rcases cov j j0 (by omega) with z | z
              · exact .inl z
              · exact .inr (List.mem_append_left _ z)
        · rw [if_pos rfl] at hn
          have hin : inV (.int (0 + (i : Int))) (ns.map V.int) = true := by
            cases e : inV (.int (0 + (i : Int))) (ns.map V.int) with
            | true => rfl
            | false => rw [e] at hn; exact absurd rfl hn
          have hm := inV_ints.mp hin
          refine ⟨s2, sp, hD, isp, by omega, fun j j0 j1 => ?_⟩
          by_cases e : j = 0 + (i : Int)
          · rw [e]; exact .inl hm
          · exact cov j j0 (by omega)
      · obtain ⟨s2, sp, hD, isp, lsp, cov⟩ := pv
        have pos : 0 < sp.length := by
          cases sp with
          | cons => exact Nat.succ_pos _
          | nil =>
            have z := cover_int (r := r) (ns := ns) fun x x0 x1 => (cov x x0 (by omega)).elim (fun y => y) fun y => nomatch y
            omega
        have B2 := B1.same s2
        have X2 := X1.same s2
        obtain ⟨o1, ho1⟩ := B1.at_
        have Dp0 : D ≠ p := (ne_of_none ho1 nD).symm
        refine ⟨_, rfl, _, rfl, _, rfl, _, _, rfl, .inl (SqL.of hD), p, c, _, rfl, B2, by rw [List.length_map]; omega, by rw [List.length_map]; omega, fun d3 H3 a3 a4 B3 X3 => ?_⟩
        have hD3 := X3 _ _ hD Dp0
        obtain ⟨cv, hcv⟩ := at_lt a3 a4
        obtain ⟨cell, rfl⟩ := at_map hcv
        have hcell : cell ∈ sp := by
          obtain ⟨jj, _, e, _⟩ := atI_get hcv
          obtain ⟨z, ez, hz⟩ := getInt e
          injection ez with ez
          rw [ez]
          exact List.mem_of_getElem? hz
        refine ⟨_, _, _, _, rfl, rfl, SqL.of hD3, hcv, by show 1 ≤ sizeLine; decide, fun a na => ?_⟩
        have X3' := (X2.trans X3).new na (.lst [.int cell])
        have B3' := B3.new na (.lst [.int cell])
        have ha : upd H3 a (.lst [.int cell]) a = some (.lst ([cell].map V.int)) := upd_same
        have hl3 : upd H3 a (.lst [.int cell]) l = some (.lst (ns.map V.int)) := X3' _ _ hl lp
        refine ⟨_, rfl, a, l, _, _, rfl, rfl, ha, hl3, by rw [List.length_map, List.length_map]; exact Nat.le_of_lt (small1000' (by show 1 + ns.length ≤ 1000; omega)), fun q nq => ?_⟩
        rw [← List.map_append]
        obtain ⟨o3, ho3⟩ := B3'.at_
        refine k q ([cell] ++ ns) _ (X3'.free (ne_of_none ho3 nq).symm nq) (X3'.new nq _) (B3'.new nq _) upd_same ⟨fun x hx => ?_, fun x hx => ?_⟩ (by show ns.length + 1 ≤ 256; omega)
        · rcases List.mem_append.mp hx with hx | hx
          · rw [List.mem_singleton] at hx
            rw [hx]; exact isp.lo _ hcell
          · exact ir.lo x hx
        · rcases List.mem_append.mp hx with hx | hx
          · rw [List.mem_singleton] at hx
            rw [hx]; exact isp.hi _ hcell
          · exact ir.hi x hx
    · rintro σ H2 ⟨rfl, rfl⟩
      refine ⟨_, rfl, rfl, _, rfl, ite2 (fun hw => ?_) (fun hw => iteF ?_)⟩
      · refine ⟨_, rfl, by show 0 ≤ sizeLine; decide, fun e ne => ?_⟩
        have Xe := X1.new ne (.lst [])
        have Be := B1.new ne (.lst [])
        have hle := Xe _ _ hl lp
        have he : upd H2 e (.lst []) e = some (.lst (([] : List Int).map V.int)) := upd_same
        refine ⟨_, _, dpList hle, dpList he, shaped_list ns, shaped_list [], _, rfl, ite2 (fun hy => ?_) (fun hn => ?_)⟩
        · have pos : 0 < ns.length := by
            cases ns with
            | cons => exact Nat.succ_pos _
            | nil =>
              rw [eqv_list] at hy
              exact absurd hy (by decide)
          refine ⟨_, rfl, _, rfl, _, _, rfl, .inl (SqL.of hle), p, c, _, rfl, Be, by rw [List.length_map]; omega, by rw [List.length_map]; omega, fun d2 H3 a3 a4 B3 X3 => ?_⟩
          have X13 := Xe.trans X3
          have hl3 := X13 _ _ hl lp
          obtain ⟨as, ea, la⟩ := cut_map ns none (some d2)
          obtain ⟨bs, eb, lb⟩ := cut_map ns (some (d2 + 1)) none
          have ma := cut_mem ns none (some d2) as ea
          have mb := cut_mem ns (some (d2 + 1)) none bs eb
          refine ⟨_, rfl, _, rfl, _, rfl, _, _, rfl, SqL.of hl3, fun a na => ?_⟩
          rw [ea]
          have X4 := X13.new na (.lst (as.map V.int))
          have B4 := B3.new na (.lst (as.map V.int))
          have hl4 := X4 _ _ hl lp
          have ha4 : upd H3 a (.lst (as.map V.int)) a = some (.lst (as.map V.int)) := upd_same
          refine ⟨_, rfl, _, rfl, _, _, rfl, rfl, _, rfl, _, _, rfl, SqL.of hl4, fun b nb => ?_⟩
          rw [eb]
          have X5 := X4.new nb (.lst (bs.map V.int))
          have B5 := B4.new nb (.lst (bs.map V.int))
          have ha5 : upd (upd H3 a (.lst (as.map V.int))) b (.lst (bs.map V.int)) a = some (.lst (as.map V.int)) := by rw [upd_ne (ne_of_none ha4 nb)]; exact ha4
          have hb5 : upd (upd H3 a (.lst (as.map V.int))) b (.lst (bs.map V.int)) b = some (.lst (bs.map V.int)) := upd_same
          have lab : as.length + bs.length ≤ ns.length := cut_two (d := d2) (ns := ns) a3 (by rw [List.length_map] at a4; exact a4) ea eb
          refine ⟨a, b, _, _, rfl, rfl, ha5, hb5, by rw [List.length_map, List.length_map]; exact Nat.le_of_lt (small1000' (by omega)), fun q nq => ?_⟩
          rw [← List.map_append]
          obtain ⟨o3, ho3⟩ := B5.at_
          refine k q (as ++ bs) _ (X5.free (ne_of_none ho3 nq).symm nq) (X5.new nq _) (B5.new nq _) upd_same ⟨fun x hx => ?_, fun x hx => ?_⟩ (by rw [List.length_append]; omega)
          · exact (List.mem_append.mp hx).elim (fun y => ir.lo x (ma x y)) fun y => ir.lo x (mb x y)
          · exact (List.mem_append.mp hx).elim (fun y => ir.hi x (ma x y)) fun y => ir.hi x (mb x y)
        · exact tail (upd H2 e (.lst [])) Xe Be
      · exact tail H2 X1 B1
end
end K14

set_option Elab.async false
set_option maxRecDepth 100000
set_option maxHeartbeats 4000000
set_option exponentiation.threshold 4096
namespace K14
open PySem PySem.Spec PyProof.Rows L2 C8 LamX

abbrev s_law_calls : Stmt := top 28
abbrev n_law_calls : List Str := ["setting", "bits", "patience", "seat", "beat", "held", "table", "handed", "k", "phase", "line", "wanted", "found", "place"]
theorem sc_law_calls : FnScope n_law_calls ["setting", "bits", "patience", "seat", "beat", "held"] (C8.fnScope s_law_calls) := ⟨rfl, rfl, rfl, by decide +kernel, rfl, by decide +kernel, by decide +kernel⟩
abbrev s_law_pairs : Stmt := top 29
abbrev n_law_pairs : List Str := ["found", "wanted", "k", "pair"]
theorem sc_law_pairs : FnScope n_law_pairs ["found", "wanted"] (C8.fnScope s_law_pairs) := ⟨rfl, rfl, rfl, by decide +kernel, rfl, by decide +kernel, by decide +kernel⟩

def spPairs : Sp := fun vs H Q _ => ∃ (D W : Addr) (bs ws : List Addr) (l : List (Int × V)), vs = [.ref D, .ref W] ∧ H D = some (.lst (bs.map V.ref)) ∧ TupsOf H bs l ∧ H W = some (.lst (ws.map V.ref)) ∧ TupsOf H ws l ∧ l.length ≤ 256 ∧ (∀ x ∈ l, ∃ o : Option Int, x.2 = optV o) ∧ Q (.bl true) H
/-- what stays through a law's questions: the table at p, the list handed in at pa -/
structure CR (t : Addr) (H0 H : Hp) (p pa : Addr) (n : Nat) (ns cs : List Int) : Prop where
  e : ExtN H0 H
  T : Tabs (TT t) H
  tab : TableAt H p n ns cs
  hd : H pa = some (.lst (ns.map V.int))
theorem CR.ext {t : Addr} {H0 H H' : Hp} {p pa : Addr} {n : Nat} {ns cs : List Int} (h : CR t H0 H p pa n ns cs) (e : ExtN H H') (T : Tabs (TT t) H') : CR t H0 H' p pa n ns cs := ⟨h.e.trans e, T, h.tab.ext e, lstN h.hd e⟩
theorem CR.new {t : Addr} {H0 H : Hp} {p pa : Addr} {n : Nat} {ns cs : List Int} (h : CR t H0 H p pa n ns cs) {q : Addr} (nq : H q = none) (o : HO) : CR t H0 (upd H q o) p pa n ns cs := h.ext (extNew (ExtN.refl H) nq o) (tabsNew h.T nq o)
theorem CR.put {t : Addr} {H0 H : Hp} {p pa : Addr} {n : Nat} {ns cs : List Int} (h : CR t H0 H p pa n ns cs) {q : Addr} {xs ys : List V} (hq : H q = some (.lst xs)) (n0 : H0 q = none) (np : q ≠ p) (npa : q ≠ pa) : CR t H0 (upd H q (.lst ys)) p pa n ns cs := by
  refine ⟨extPut h.e n0 _, tabsPut h.T hq, ?_, by rw [upd_ne npa.symm]; exact h.hd⟩
  obtain ⟨as, h1, h2, h3⟩ := h.tab
  refine ⟨as, by rw [upd_ne np.symm]; exact h1, h2, fun f a z => (h3 f a z).ext fun kvs e => ?_⟩
  rw [upd_ne (fun y => by rw [y, hq] at e; cases e)]
  exact e
theorem CR.line {t : Addr} {H0 H : Hp} {p pa : Addr} {n : Nat} {ns cs : List Int} (h : CR t H0 H p pa n ns cs) {f : Nat} (hf : f < n) : ∃ (as : List Addr) (a : Addr), H p = some (.lst (as.map V.ref)) ∧ (as.map V.ref)[f]? = some (.ref a) ∧ ∀ s ∈ cs, DGet H a (.int s) (some (optV (tgP n s f ns))) := by
  obtain ⟨as, a, h1, h2, h3, kvs, h4, h5⟩ := h.tab.get hf
  refine ⟨as, a, h1, by rw [List.getElem?_map, h3]; rfl, fun s hs => ?_⟩
  have g := DGet.k (k := Sum.inl s) h4
  rw [h5 s hs] at g
  exact g
def spCalls (C t : Addr) : Sp := fun vs H Q _ => ∃ (q l : Addr) (n pt beat : Nat) (seat : Int) (ns : List Int), vs = [.ref q, .int (n : Int), .int (pt : Int), .int seat, .int (beat : Int), .ref l] ∧ SetP C H q n (pt : Int) ∧ 1 ≤ n ∧ n ≤ 8 ∧ 1 ≤ pt ∧ pt ≤ 6 ∧
  H l = some (.lst (ns.map V.int)) ∧ InRing ns (ringN n) ∧ ns.length ≤ 256 ∧ Tabs (TT t) H ∧ ∀ H' : Hp, ExtN H H' → Tabs (TT t) H' → Q (.bl true) H'

section
variable {P : Program} {w : World} {K : PySem.W.Frag} {mg : Str → Option Value} {base : Heap} {C t : Addr}
theorem c_pairs (T : Bl mg) (c_law_same : Cal P w K mg base 1 "_law_same" spSame []) (d : D0 K mg "_law_pairs" s_law_pairs ["found", "wanted"]) : Cal P w K mg base 2 "_law_pairs" spPairs [] := by
  refine cal d sc_law_pairs (fun vs H Q E h => ?_) (fun cdv A outer f s H vs Q E hr h => ?_)
  · obtain ⟨D, W, bs, ws, l, rfl, _⟩ := h
    rfl
  · obtain ⟨D, W, bs, ws, l, rfl, hD, tb, hW, tw, ll, ho, k⟩ := h
    have S := sc_law_pairs
    refine ⟨_, (pss_cons (ps_if (PW.pt (pw_or (pt_not (pt_val (pe_callB call_isi (by rfl) T.isinstance (by decide +kernel) (pa_cons (pv 0) (pa_cons (pe_bltn (v := .ty "list") (by rfl) T.list (by decide +kernel) rfl) pa_nil))))) (pw_or1 (pt_cmpR op_ne (pe_callB call_len_seq (by rfl) T.len (by decide +kernel) (pa_cons (pv 0) pa_nil)) (pe_callB call_len_seq (by rfl) T.len (by decide +kernel) (pa_cons (pv 1) pa_nil)) (nomark _))))) (pss_one (ps_ret pe_bl)) pss_nil)
      (pss_cons (ps_for PassesOwn.never rfl (pi_range1 rfl T.range (pa_cons (pe_callB call_len_seq (by rfl) T.len (by decide +kernel) (pa_cons (pv 1) pa_nil)) pa_nil)) (pg_name (i := 2) S.nd rfl (Or.inl rfl)) (pss_cons (ps_set (i := 3) S.nd rfl (Or.inl rfl) (pe_ix ix_list (pv 0) (pv 2) (fun _ _ => rfl)))
      (pss_cons (ps_if (PW.pt (pw_or (pt_not (pt_val (pe_callB call_isi (by rfl) T.isinstance (by decide +kernel) (pa_cons (pv 3) (pa_cons (pe_bltn (v := .ty "tuple") (by rfl) T.tuple (by decide +kernel) rfl) pa_nil))))) (pw_or1 (pt_cmpR op_ne (pe_callB call_len_seq (by rfl) T.len (by decide +kernel) (pa_cons (pv 3) pa_nil)) pe_int (nomark _))))) (pss_one (ps_ret pe_bl)) pss_nil)
      (pss_one (ps_if (PW.pt (pw_or (pt_not (pt_val (pe_c c_law_same hr (by decide) rfl (pa_cons (pe_ix ix_tup (pv 3) pe_int (fun _ _ => rfl)) (pa_cons (pe_ix ix_tup (pe_ix ix_list (pv 1) (pv 2) (fun _ _ => rfl)) pe_int (fun _ _ => rfl)) pa_nil))))) (pw_or1 (pt_not (pt_val (pe_c c_law_same hr (by decide) rfl (pa_cons (pe_ix ix_tup (pv 3) pe_int (fun _ _ => rfl)) (pa_cons (pe_ix ix_tup (pe_ix ix_list (pv 1) (pv 2) (fun _ _ => rfl)) pe_int (fun _ _ => rfl)) pa_nil)))))))) (pss_one (ps_ret pe_bl)) pss_nil)))))
      (pss_one (ps_ret pe_bl)))), ?_⟩
    have lb := tb.1
    have lw := tw.1
    refine ⟨_, rfl, _, _, _, _, true, rfl, .ty _, .base (.lst hD), kit_ty (by decide +kernel), _, rfl, iteF ?_⟩
    refine ⟨_, rfl, _, _, rfl, .inl (SqL.of hD), _, rfl, _, _, rfl, .inl (SqL.of hW), rfl, _, rfl, iteNS (by rw [List.length_map, List.length_map, lb, lw]) ?_⟩
    refine ⟨_, rfl, _, _, rfl, .inl (SqL.of hW), _, rfl, by omega, by rw [List.length_map, lw]; omega, ?_⟩
    refine for_range (lo := 0) (n := _) (fun i σ H2 => H2 = H ∧ ∃ v1 v2 : Option V, σ = [some (.ref D), some (.ref W), v1, v2]) ⟨rfl, _, _, rfl⟩ ?_ ?_
    · rintro i σ H2 hi ⟨rfl, v1, v2, rfl⟩
      rw [Int.toNat_natCast, List.length_map] at hi
      have il : i < l.length := by omega
      obtain ⟨x, hx⟩ : ∃ x, l[i]? = some x := ⟨_, List.getElem?_eq_getElem il⟩
      obtain ⟨o, eo⟩ := ho x (List.mem_of_getElem? hx)
      have eb : bs[i]? = some (bs[i]'(by omega)) := List.getElem?_eq_getElem (by omega)
      have ew : ws[i]? = some (ws[i]'(by omega)) := List.getElem?_eq_getElem (by omega)
      have h1 := tb.2 i _ x eb hx
      have h2 := tw.2 i _ x ew hx
      have e1 : atI (bs.map V.ref) (0 + (i : Int)) = some (.ref (bs[i]'(by omega))) := at_of (j := i) (by omega) (by rw [List.getElem?_map, eb]; rfl)
      have e2 : atI (ws.map V.ref) (0 + (i : Int)) = some (.ref (ws[i]'(by omega))) := at_of (j := i) (by omega) (by rw [List.getElem?_map, ew]; rfl)
      refine ⟨_, rfl, _, rfl, _, _, _, _, rfl, rfl, SqL.of hD, e1, ?_⟩
      refine ⟨_, rfl, _, _, _, _, true, rfl, .ty _, .base (.tup h1), kit_ty (by decide +kernel), _, rfl, iteF ?_⟩
      refine ⟨_, rfl, _, _, rfl, .inr (.inl (.inl h1)), rfl, _, rfl, iteNS rfl ?_⟩
      refine ⟨_, rfl, _, _, _, _, rfl, rfl, SqT.of h1, rfl, _, rfl, _, rfl, _, _, _, _, rfl, rfl, SqL.of hW, e2, _, _, _, _, rfl, rfl, SqT.of h2, rfl, some x.1, rfl, _, rfl, iteF ?_⟩
      refine ⟨_, rfl, _, _, _, _, rfl, rfl, SqT.of h1, rfl, _, rfl, _, rfl, _, _, _, _, rfl, rfl, SqL.of hW, e2, _, _, _, _, rfl, rfl, SqT.of h2, rfl, o, by rw [eo]; rfl, _, rfl, iteF ?_⟩
      exact ⟨rfl, _, _, rfl⟩
    · rintro σ H2 ⟨rfl, v1, v2, rfl⟩
      exact k
theorem c_calls (T : Bl mg) (c_law_table : Cal P w K mg base 1 "_law_table" spTable []) (c_law_phase : Cal P w K mg base 1 "_law_phase" spPhase []) (c_law_same : Cal P w K mg base 1 "_law_same" spSame []) (c_phase_of : Cal P w K mg base 1 "phase_of" (spPhaseOf C) [])
    (c_target : Cal P w K mg base 9 "target" (spTarget C t) []) (c_fingers : Cal P w K mg base 9 "fingers" (spFingers C t) []) (d : D0 K mg "_law_calls" s_law_calls ["setting", "bits", "patience", "seat", "beat", "held"]) : Cal P w K mg base 10 "_law_calls" (spCalls C t) [] := by
  refine cal d sc_law_calls (fun vs H Q E h => ?_) (fun cdv A outer f s H vs Q E hr h => ?_)
  · obtain ⟨q, l, n, pt, beat, seat, ns, rfl, _⟩ := h
    rfl
  · obtain ⟨q, l, n, pt, beat, seat, ns, rfl, hq, n1, n8, p1, p6, hl, ir, ln, hT, k⟩ := h
    have S := sc_law_calls
    have hu := hu_of hr
    refine ⟨_, (pss_cons (ps_set (i := 6) S.nd rfl (Or.inl rfl) (pe_c c_law_table hr (by decide) rfl (pa_cons (pv 1) (pa_cons (pv 5) (pa_cons (pe_lst (pa_cons (pv 3) pa_nil)) pa_nil)))))
      (pss_cons (ps_set (i := 7) S.nd rfl (Or.inl rfl) (pe_callTy call_list_of (by rfl) T.list (by decide +kernel) (pa_cons (pv 5) pa_nil)))
      (pss_cons (ps_for PassesOwn.never rfl (pi_range1 rfl T.range (pa_cons pe_int pa_nil)) (pg_name (i := 8) S.nd rfl (Or.inl rfl)) (pss_cons (ps_set (i := 9) S.nd rfl (Or.inl rfl) (pe_c c_law_phase hr (by decide) rfl (pa_cons (pv 1) (pa_cons (pv 2) (pa_cons (pe_op op_add (pv 4) (pv 8)) pa_nil)))))
      (pss_cons (ps_if (pt_not (pt_val (pe_c c_law_same hr (by decide) rfl (pa_cons (pe_c c_phase_of hr (by decide) rfl (pa_cons (pv 0) (pa_cons (pe_op op_add (pv 4) (pv 8)) pa_nil))) (pa_cons (pv 9) pa_nil))))) (pss_one (ps_ret pe_bl)) pss_nil)
      (pss_cons (ps_set (i := 10) S.nd rfl (Or.inl rfl) (pe_ix ix_list (pv 6) (pv 9) (fun _ _ => rfl)))
      (pss_one (ps_if (pt_not (pt_val (pe_c c_law_same hr (by decide) rfl (pa_cons (pe_c c_target hr (by decide) rfl (pa_cons (pv 0) (pa_cons (pv 3) (pa_cons (pe_op op_add (pv 4) (pv 8)) (pa_cons (pv 7) pa_nil))))) (pa_cons (pe_dget hu (pv 10) (pv 3) (fun _ _ => rfl)) pa_nil))))) (pss_one (ps_ret pe_bl)) pss_nil))))))
      (pss_cons (ps_set (i := 11) S.nd rfl (Or.inl rfl) (pe_lst pa_nil))
      (pss_cons (ps_for PassesOwn.never rfl (pi_range1 rfl T.range (pa_cons (pv 1) pa_nil)) (pg_name (i := 8) S.nd rfl (Or.inl rfl)) (pss_cons (ps_set (i := 10) S.nd rfl (Or.inl rfl) (pe_ix ix_list (pv 6) (pe_op op_sub (pe_op op_sub (pv 1) pe_int) (pv 8)) (fun _ _ => rfl)))
      (pss_one (ps_expr (pe_bm PySem.F.plainAttrs_list PySem.F.slot_list_append PySem.F.type_list_append mt_append (pv 11) (pa_cons (pe_dget hu (pv 10) (pv 3) (fun _ _ => rfl)) pa_nil))))))
      (pss_cons (ps_for PassesOwn.never rfl (pi_range1 rfl T.range (pa_cons pe_int pa_nil)) (pg_name (i := 8) S.nd rfl (Or.inl rfl)) (pss_cons (ps_set (i := 12) S.nd rfl (Or.inl rfl) (pe_c c_fingers hr (by decide) rfl (pa_cons (pv 0) (pa_cons (pv 3) (pa_cons (pv 7) pa_nil)))))
      (pss_cons (ps_if (PW.pt (pw_or (pt_not (pt_val (pe_callB call_isi (by rfl) T.isinstance (by decide +kernel) (pa_cons (pv 12) (pa_cons (pe_bltn (v := .ty "list") (by rfl) T.list (by decide +kernel) rfl) pa_nil))))) (pw_or1 (pt_cmpR op_ne (pe_callB call_len_seq (by rfl) T.len (by decide +kernel) (pa_cons (pv 12) pa_nil)) (pv 1) (nomark _))))) (pss_one (ps_ret pe_bl)) pss_nil)
      (pss_cons (ps_for PassesOwn.never rfl (pi_range1 rfl T.range (pa_cons (pv 1) pa_nil)) (pg_name (i := 13) S.nd rfl (Or.inl rfl)) (pss_one (ps_if (pt_not (pt_val (pe_c c_law_same hr (by decide) rfl (pa_cons (pe_ix ix_list (pv 12) (pv 13) (fun _ _ => rfl)) (pa_cons (pe_ix ix_list (pv 11) (pv 13) (fun _ _ => rfl)) pa_nil))))) (pss_one (ps_ret pe_bl)) pss_nil)))
      (pss_cons (ps_asg (pe_un un_neg pe_int) (pg_sub (pv 12) pe_int set_list))
      (pss_one (ps_expr (pe_bm PySem.F.plainAttrs_list PySem.F.slot_list_append PySem.F.type_list_append mt_append (pv 12) (pa_cons (pv 3) pa_nil)))))))))
      (pss_one (ps_ret (pe_cmpR (op_eqD hr.units) (pv 7) (pv 5) (nomark _)))))))))), ?_⟩
    refine ⟨_, rfl, _, rfl, _, rfl, by show 1 ≤ sizeLine; decide, fun m nm => ?_⟩
    have s1 : Same H (upd H m (.lst [.int seat])) := sameNew (Same.refl H) nm _
    have hm : upd H m (.lst [.int seat]) m = some (.lst ([seat].map V.int)) := upd_same
    refine ⟨n, l, m, ns, [seat], rfl, n1, n8, s1 _ _ hl, hm, ln, by show 1 ≤ 256; decide, fun p H2 np s2 tab => ?_⟩
    have s12 := s1.trans s2
    refine ⟨_, rfl, _, _, rfl, .inl (SqL.of (s12 _ _ hl)), fun pa npa => ?_⟩
    have R : CR t H (upd H2 pa (.lst (ns.map V.int))) p pa n ns [seat] := ⟨extNew (ExtN.of s12) npa _, tabsNew (hT.ext s12) npa _, tab.ext (extNew (ExtN.refl H2) npa _), upd_same⟩
    generalize upd H2 pa (.lst (ns.map V.int)) = H3 at R ⊢
    have ms : seat ∈ [seat] := List.mem_singleton.mpr rfl
    refine ⟨3, rfl, by decide, by decide, ?_⟩
    refine for_range (lo := 0) (n := 3) (fun i σ H' => CR t H H' p pa n ns [seat] ∧ ∃ v8 v9 v10 : Option V, σ = [some (.ref q), some (.int (n : Int)), some (.int (pt : Int)), some (.int seat), some (.int (beat : Int)), some (.ref l), some (.ref p), some (.ref pa), v8, v9, v10, none, none, none]) ⟨R, none, none, none, rfl⟩ (fun i σ H4 hi pv => ?_) (fun σ H4 pv => ?_)
    · obtain ⟨R, v8, v9, v10, rfl⟩ := pv
      have eb : (beat : Int) + (0 + (i : Int)) = ((beat + i : Nat) : Int) := by omega
      obtain ⟨f1, f2⟩ := phI_nat (n := n) (pt := pt) (beat := beat + i) n1 p1
      obtain ⟨as, a, hp, ha, vals⟩ := R.line f2
      refine ⟨_, rfl, _, rfl, _, rfl, _, rfl, _, _, rfl, rfl, n, pt, beat + i, congrArg (fun z => [V.int (n : Int), V.int (pt : Int), V.int z]) eb, n1, n8, p1, p6, ?_⟩
      refine ⟨_, rfl, _, rfl, _, rfl, _, _, rfl, rfl, q, n, pt, beat + i, congrArg (fun z => [V.ref q, V.int z]) eb, hq.ext R.e, n1, p1, p6, _, rfl, some (phI n pt (beat + i)), rfl, _, rfl, iteF ?_⟩
      refine ⟨_, rfl, _, rfl, _, _, _, _, rfl, rfl, SqL.of hp, at_of f1.symm ha, ?_⟩
      refine ⟨_, rfl, _, rfl, _, rfl, _, rfl, _, _, rfl, rfl, _, rfl, q, seat, beat + i, pa, n, pt, ns, congrArg (fun z => [V.ref q, V.int seat, V.int z, V.ref pa]) eb, hq.ext R.e, n1, n8, p1, p6, R.hd, ir, R.T, fun H5 e5 T5 => ?_⟩
      have R5 := R.ext e5 T5
      obtain ⟨as5, a5, hp5, ha5, vals5⟩ := R5.line f2
      have ea : a5 = a := by
        have z := lstN hp e5
        rw [hp5] at z
        injection z with z
        injection z with z
        rw [z, ha] at ha5
        injection ha5 with ha5
        injection ha5 with ha5
        exact ha5.symm
      rw [ea] at vals5
      refine ⟨_, rfl, _, rfl, _, _, rfl, vals5 seat ms, tgP n seat (phI n pt (beat + i)).toNat ns, rfl, _, rfl, iteF ?_⟩
      exact ⟨R5, _, _, _, rfl⟩
    · obtain ⟨R, v8, v9, v10, rfl⟩ := pv
      refine ⟨by show 0 ≤ sizeLine; decide, fun pw nw => ?_⟩
      have e0 : ExtN H4 (upd H4 pw (.lst [])) := extNew (ExtN.refl H4) nw _
      refine ⟨_, rfl, n, rfl, by omega, by omega, ?_⟩
      rw [Int.toNat_natCast]
      refine for_range (lo := 0) (n := n) (fun i σ H' => ExtN H4 H' ∧ Tabs (TT t) H' ∧ H' pw = some (.lst ((List.range i).map fun j => optV (tgP n seat (n - 1 - j) ns))) ∧ ∃ v8 v9 v10 : Option V, σ = [some (.ref q), some (.int (n : Int)), some (.int (pt : Int)), some (.int seat), some (.int (beat : Int)), some (.ref l), some (.ref p), some (.ref pa), v8, v9, v10, some (.ref pw), none, none]) ⟨e0, tabsNew R.T nw _, upd_same, v8, v9, v10, rfl⟩ (fun i σ H5 hi pv => ?_) (fun σ H5 pv => ?_)
      · obtain ⟨e5, T5, hw, v8, v9, v10, rfl⟩ := pv
        obtain ⟨as, a, hp, ha, vals⟩ := (R.ext e5 T5).line (show n - 1 - i < n by omega)
        have ei : (n : Int) - 1 - (0 + (i : Int)) = ((n - 1 - i : Nat) : Int) := by omega
        refine ⟨_, rfl, _, rfl, _, _, rfl, rfl, _, rfl, _, _, rfl, rfl, _, _, _, _, rfl, rfl, SqL.of hp, at_of ei ha, ?_⟩
        refine ⟨_, rfl, .inl ⟨rfl, _, SqL.of hw⟩, _, rfl, _, rfl, _, _, rfl, vals seat ms, pw, _, _, rfl, rfl, hw, small1000' (by rw [List.length_map, List.length_range]; omega), ?_⟩
        refine ⟨extPut e5 nw _, tabsPut T5 hw, ?_, _, _, _, rfl⟩
        rw [upd_same, List.range_succ, List.map_append]
        rfl
      · obtain ⟨e5, T5, hw, v8, v9, v10, rfl⟩ := pv
        have hw : H5 pw = some (.lst (fingersL n seat ns)) := hw
        have R5 := R.ext e5 T5
        have lf : (fingersL n seat ns).length = n := by unfold fingersL; rw [List.length_map, List.length_range]
        refine ⟨2, rfl, by decide, by decide, ?_⟩
        refine for_range (lo := 0) (n := 2) (fun i σ H' => CR t H H' p pa n ns [seat] ∧ ExtN H5 H' ∧ ∃ v8 v9 v10 v12 v13 : Option V, σ = [some (.ref q), some (.int (n : Int)), some (.int (pt : Int)), some (.int seat), some (.int (beat : Int)), some (.ref l), some (.ref p), some (.ref pa), v8, v9, v10, some (.ref pw), v12, v13]) ⟨R5, ExtN.refl H5, v8, v9, v10, none, none, rfl⟩ (fun i σ H6 hi pv => ?_) (fun σ H6 pv => ?_)
        · obtain ⟨R6, e6, v8, v9, v10, v12, v13, rfl⟩ := pv
          refine ⟨_, rfl, _, rfl, _, rfl, q, seat, pa, n, ns, rfl, (hq.ext R6.e).at_, n1, n8, R6.hd, ir, R6.T, fun pf H7 npf e7 T7 hf => ?_⟩
          have hw7 := lstN hw (e6.trans e7)
          refine ⟨_, rfl, _, _, _, _, true, rfl, .ty _, .base (.lst hf), kit_ty (by decide +kernel), _, rfl, iteF ?_⟩
          refine ⟨_, rfl, _, _, rfl, .inl (SqL.of hf), _, rfl, rfl, _, rfl, iteNS (by rw [lf]) ?_⟩
          refine ⟨_, rfl, n, rfl, by omega, by omega, ?_⟩
          rw [Int.toNat_natCast]
          refine for_range (lo := 0) (n := n) (fun j σ H' => H' = H7 ∧ ∃ v13 : Option V, σ = [some (.ref q), some (.int (n : Int)), some (.int (pt : Int)), some (.int seat), some (.int (beat : Int)), some (.ref l), some (.ref p), some (.ref pa), some (.int (0 + (i : Int))), v9, v10, some (.ref pw), some (.ref pf), v13]) ⟨rfl, v13, rfl⟩ (fun j σ H8 hj pv => ?_) (fun σ H8 pv => ?_)
          · obtain ⟨rfl, v13, rfl⟩ := pv
            have ej : atI (fingersL n seat ns) (0 + (j : Int)) = some (optV (tgP n seat (n - 1 - j) ns)) := at_of (j := j) (by omega) (by unfold fingersL; rw [List.getElem?_map, List.getElem?_range hj]; rfl)
            refine ⟨_, rfl, _, rfl, _, _, _, _, rfl, rfl, SqL.of hf, ej, _, rfl, _, rfl, _, _, _, _, rfl, rfl, SqL.of hw7, ej, tgP n seat (n - 1 - j) ns, rfl, _, rfl, iteF ?_⟩
            exact ⟨rfl, _, rfl⟩
          · obtain ⟨rfl, v13, rfl⟩ := pv
            refine ⟨_, rfl, _, rfl, pf, _, 0, 0, rfl, rfl, hf, by rw [lf]; unfold ixN; rw [if_pos (by decide), if_pos (by omega)]; rfl, ?_⟩
            have hf2 : ∀ xs, upd H8 pf (.lst xs) pf = some (.lst xs) := fun xs => upd_same
            refine ⟨_, rfl, .inl ⟨rfl, _, SqL.of (hf2 _)⟩, _, rfl, pf, _, _, rfl, rfl, hf2 _, small1000' (by rw [List.length_set, lf]; omega), ?_⟩
            have e8 : ExtN H6 (upd (upd H8 pf (.lst ((fingersL n seat ns).set 0 (.int (-1))))) pf (.lst ((fingersL n seat ns).set 0 (.int (-1)) ++ [.int seat]))) := extPut (extPut e7 npf _) npf _
            exact ⟨R6.ext e8 (tabsPut (tabsPut T7 hf) (hf2 _)), e6.trans e8, _, _, _, _, _, rfl⟩
        · obtain ⟨R6, e6, v8, v9, v10, v12, v13, rfl⟩ := pv
          refine ⟨_, rfl, _, rfl, _, _, dpList R6.hd, dpList (lstN hl R6.e), shaped_list ns, shaped_list ns, ?_⟩
          rw [eqv_list]
          exact k H6 R6.e R6.T
end
end K14

set_option Elab.async false
set_option maxRecDepth 100000
set_option maxHeartbeats 4000000
set_option exponentiation.threshold 4096
namespace K14
open PySem PySem.Spec PyProof.Rows L2 C8 LamX

abbrev s_law_plan : Stmt := top 30
abbrev n_law_plan : List Str := ["setting", "bits", "patience", "held", "start", "many", "table", "handed", "found", "k", "line", "wanted", "seat"]
theorem sc_law_plan : FnScope n_law_plan ["setting", "bits", "patience", "held", "start", "many"] (C8.fnScope s_law_plan) := ⟨rfl, rfl, rfl, by decide +kernel, rfl, by decide +kernel, by decide +kernel⟩

def wantV (n f : Nat) (ns st : List Int) : List (Int × V) := (st.map fun s => (s, optV (tgP n s f ns))).filter fun x => !decide (x.2 = .non)
theorem want_plan {n pt beat : Nat} {ns st : List Int} (h : st.Perm ns) : wantV n (phI n pt beat).toNat ns st = planV n pt st beat := by
  unfold wantV planV pairsV tgP
  congr 1
  refine List.map_congr_left fun s _ => ?_
  rw [tg_congr fun x => (h.mem_iff (a := x)).symm]
theorem lineGet {H : Hp} {a : Addr} {kvs : List (Key × V)} {z : Int} {v : V} (h : H a = some (.dK kvs)) (e : valV kvs (.inl z) = some v) : DGet H a (.int z) (some v) := by
  have g := DGet.k (k := Sum.inl z) h
  rw [e] at g
  exact g
theorem plan_len (n pt : Nat) (st : List Int) (beat : Nat) : (planV n pt st beat).length ≤ st.length := by
  unfold planV
  refine Nat.le_trans (List.length_filter_le _ _) ?_
  unfold pairsV
  rw [List.length_map]
  exact Nat.le_refl _
theorem plan_opt {n pt : Nat} {st : List Int} {beat : Nat} : ∀ x ∈ planV n pt st beat, ∃ o : Option Int, x.2 = optV o := fun x hx => by
  unfold planV at hx
  obtain ⟨s, _, rfl⟩ := List.mem_map.mp (List.mem_filter.mp hx).1
  exact ⟨_, rfl⟩
theorem passG {X : Cx} : Passes (L2.CX X.prog X.w) X C8.E0 := fun pins σ H s e s' I c => by
  obtain ⟨a, B, H', cls, d, _, _, _, _, _, _, _, hW⟩ := c
  exact False.elim hW
def spLawPlan (C t : Addr) : Sp := fun vs H Q _ => ∃ (q l : Addr) (n pt start many : Nat) (ns : List Int), vs = [.ref q, .int (n : Int), .int (pt : Int), .ref l, .int (start : Int), .int (many : Int)] ∧ SetP C H q n (pt : Int) ∧ 1 ≤ n ∧ n ≤ 8 ∧ 1 ≤ pt ∧ pt ≤ 6 ∧
  H l = some (.lst (ns.map V.int)) ∧ InRing ns (ringN n) ∧ ns.length ≤ 256 ∧ Tabs (TT t) H ∧ many ≤ 1000 ∧ ∀ H' : Hp, ExtN H H' → Tabs (TT t) H' → Q (.bl true) H'

section
variable {P : Program} {w : World} {K : PySem.W.Frag} {mg : Str → Option Value} {base : Heap} {C t : Addr}
theorem c_plan14 (T : Bl mg) (c_law_table : Cal P w K mg base 1 "_law_table" spTable []) (c_law_phase : Cal P w K mg base 1 "_law_phase" spPhase []) (c_law_pairs : Cal P w K mg base 2 "_law_pairs" spPairs [])
    (c_target : Cal P w K mg base 9 "target" (spTarget C t) []) (dp : D0 K mg "plan_rounds" s_plan ["setting", "held", "start", "count"]) (d : D0 K mg "_law_plan" s_law_plan ["setting", "bits", "patience", "held", "start", "many"]) : Cal P w K mg base 14 "_law_plan" (spLawPlan C t) [] := by
  obtain ⟨gf, gfd, ⟨gfn, gm, gk⟩, gb⟩ := dp.ex
  have G : GFn P w K mg base 10 gf gfd ["setting", "held", "start", "count"] (spPlan C t) := g_plan T c_target gfn
  refine cal d sc_law_plan (fun vs H Q E h => ?_) (fun cdv A outer f s H vs Q E hr h => ?_)
  · obtain ⟨q, l, n, pt, start, many, ns, rfl, _⟩ := h
    rfl
  · obtain ⟨q, l, n, pt, start, many, ns, rfl, hq, n1, n8, p1, p6, hl, ir, ln, hT, hmany, k⟩ := h
    have S := sc_law_plan
    have hu := hu_of hr
    refine ⟨_, (pss_cons (ps_set (i := 6) S.nd rfl (Or.inl rfl) (pe_c c_law_table hr (by decide) rfl (pa_cons (pv 1) (pa_cons (pv 3) (pa_cons (pv 3) pa_nil)))))
      (pss_cons (ps_set (i := 7) S.nd rfl (Or.inl rfl) (pe_callTy call_list_of (by rfl) T.list (by decide +kernel) (pa_cons (pv 3) pa_nil)))
      (pss_cons (ps_set (i := 8) S.nd rfl (Or.inl rfl) (pe_listG (pgen_call G (hr.mono (by decide)) rfl gm gk gb .nil (pa_cons (pv 0) (pa_cons (pv 7) (pa_cons (pv 4) (pa_cons (pv 5) pa_nil))))) passG (fun _ _ _ z => z.elim) (hr.mono (by decide)) (by rfl) T.list (by decide +kernel)))
      (pss_cons (ps_if (pt_cmpR op_ne (pe_callB call_len_seq (by rfl) T.len (by decide +kernel) (pa_cons (pv 8) pa_nil)) (pv 5) (nomark _)) (pss_one (ps_ret pe_bl)) pss_nil)
      (pss_cons (ps_for PassesOwn.never rfl (pi_range1 rfl T.range (pa_cons (pv 5) pa_nil)) (pg_name (i := 9) S.nd rfl (Or.inl rfl)) (pss_cons (ps_set (i := 10) S.nd rfl (Or.inr rfl) (pe_ix ix_list (pv 6) (pe_c c_law_phase hr (by decide) rfl (pa_cons (pv 1) (pa_cons (pv 2) (pa_cons (pe_op op_add (pv 4) (pv 9)) pa_nil)))) (fun _ _ => rfl)))
      (pss_cons (ps_setLc (i := 11) (own := [("seat", 12)]) (g := gName 12) (by rfl) S.nd rfl rfl (sw_true rfl rfl rfl (by decide +kernel)) (pi_list (pe_callB cr_sortedI (by rfl) T.sorted (by decide +kernel) (pa_cons (pv 3) pa_nil))) (blkOk_by (own := [("seat", 12)]) (N := n_law_plan) (sc := C8.fnScope s_law_plan) (by decide +kernel)) (fun _ _ _ _ _ => pg_name (i := 12) S.nd rfl (Or.inl rfl)) (fun _ _ _ _ _ => (pts_one (pt_cmp (pc_notN (pe_dget hu (pv 10) (pv 12) (fun _ _ => rfl)))))) (fun _ _ _ _ _ => (pe_tup (pa_cons (pv 12) (pa_cons (pe_dget hu (pv 10) (pv 12) (fun _ _ => rfl)) pa_nil)))))
      (pss_one (ps_if (pt_not (pt_val (pe_c c_law_pairs hr (by decide) rfl (pa_cons (pe_ix ix_list (pv 8) (pv 9) (fun _ _ => rfl)) (pa_cons (pv 11) pa_nil))))) (pss_one (ps_ret pe_bl)) pss_nil)))))
      (pss_one (ps_ret (pe_cmpR (op_eqD hr.units) (pv 7) (pv 3) (nomark _))))))))), ?_⟩
    refine ⟨_, rfl, _, rfl, _, rfl, n, l, l, ns, ns, rfl, n1, n8, hl, hl, ln, ln, fun p H2 np s2 tab => ?_⟩
    refine ⟨_, rfl, _, _, rfl, .inl (SqL.of (s2 _ _ hl)), fun pa npa => ?_⟩
    have R : CR t H (upd H2 pa (.lst (ns.map V.int))) p pa n ns ns := ⟨extNew (ExtN.of s2) npa _, tabsNew (hT.ext s2) npa _, tab.ext (extNew (ExtN.refl H2) npa _), upd_same⟩
    generalize upd H2 pa (.lst (ns.map V.int)) = H3 at R ⊢
    refine ⟨_, rfl, _, rfl, _, rfl, _, rfl, q, pa, n, pt, start, many, ns, rfl, hq.ext R.e, n1, n8, p1, p6, R.hd, ir, ln, R.T, hmany, fun st ys H4 perm rise e4 T4 pl => fun pf npf => ?_⟩
    have R5 := (R.ext e4 T4).new npf (.lst ys)
    have pl5 := pl.ext (extNew (ExtN.refl H4) npf (.lst ys))
    have hf : upd H4 pf (.lst ys) pf = some (.lst ys) := upd_same
    generalize upd H4 pf (.lst ys) = H5 at R5 pl5 hf ⊢
    refine ⟨_, rfl, _, _, rfl, .inl (SqL.of hf), _, rfl, rfl, _, rfl, iteNS (by rw [pl5.1]) ?_⟩
    refine ⟨_, rfl, many, rfl, by omega, by omega, ?_⟩
    rw [Int.toNat_natCast]
    refine for_range (lo := 0) (n := many) (fun i σ H' => CR t H H' p pa n ns ns ∧ ExtN H5 H' ∧ ∃ v9 v10 v11 : Option V, σ = [some (.ref q), some (.int (n : Int)), some (.int (pt : Int)), some (.ref l), some (.int (start : Int)), some (.int (many : Int)), some (.ref p), some (.ref pa), some (.ref pf), v9, v10, v11, none]) ⟨R5, ExtN.refl H5, none, none, none, rfl⟩ (fun i σ H6 hi pv => ?_) (fun σ H6 pv => ?_)
    · obtain ⟨R6, e6, v9, v10, v11, rfl⟩ := pv
      have eb : (start : Int) + (0 + (i : Int)) = ((start + i : Nat) : Int) := by omega
      obtain ⟨f1, f2⟩ := phI_nat (n := n) (pt := pt) (beat := start + i) n1 p1
      obtain ⟨as, a, hp, _, ea, kvs, hk, vals⟩ := R6.tab.get f2
      refine ⟨_, rfl, _, rfl, _, rfl, _, rfl, _, rfl, _, _, rfl, rfl, n, pt, start + i, congrArg (fun z => [V.int (n : Int), V.int (pt : Int), V.int z]) eb, n1, n8, p1, p6, _, _, _, _, rfl, rfl, SqL.of hp, at_of f1.symm (by rw [List.getElem?_map, ea]; rfl), ?_⟩
      refine ⟨_, rfl, l, ns, rfl, SqL.of (lstN hl R6.e), fun st' pS perm' rise' nS => ?_⟩
      have est : st' = st := sorted_one perm' rise' perm rise
      rw [est]
      have lst : st.length ≤ 256 := by rw [perm.length_eq]; exact ln
      have eS : ExtN H6 (upd H6 pS (.lst (st.map V.int))) := extNew (ExtN.refl H6) nS _
      have hS : upd H6 pS (.lst (st.map V.int)) pS = some (.lst (st.map V.int)) := upd_same
      have TS : Tabs (TT t) (upd H6 pS (.lst (st.map V.int))) := tabsNew R6.T nS _
      generalize upd H6 pS (.lst (st.map V.int)) = H7 at eS hS TS ⊢
      refine ⟨pS, rfl, ⟨_, SqL.of hS⟩, fun D nD => ?_⟩
      refine lc_list (xs := st.map V.int) (fun j H' => ExtN H7 H' ∧ Tabs (TT t) H' ∧ ∃ ws : List Addr, ws.length ≤ j ∧ H' D = some (.lst (ws.map V.ref)) ∧ TupsOf H' ws (((st.take j).map fun s => (s, optV (tgP n s (phI n pt (start + i)).toNat ns))).filter fun x => !decide (x.2 = .non))) ⟨extNew (ExtN.refl _) nD _, tabsNew TS nD _, [], Nat.le_refl _, upd_same, TupsOf.nil _⟩ (fun j H' _ ⟨e8, _⟩ => SqL.of (lstN hS e8)) (fun j x H8 hx ⟨e8, T8, ws, lw, dw, tw⟩ => ?_) (fun H8 ⟨e8, T8, ws, lw, dw, tw⟩ => ?_)
      · obtain ⟨z, rfl, hz⟩ := getInt hx
        have jl := (List.getElem?_eq_some_iff.mp hz).1
        have hm : z ∈ ns := perm.mem_iff.mp (List.mem_of_getElem? hz)
        have g8 := lineGet (dkN hk (eS.trans e8)) (vals z hm)
        have tk : (((st.take (j + 1)).map fun s => (s, optV (tgP n s (phI n pt (start + i)).toNat ns))).filter fun x => !decide (x.2 = .non)) =
            (((st.take j).map fun s => (s, optV (tgP n s (phI n pt (start + i)).toNat ns))).filter fun x => !decide (x.2 = .non)) ++ ([(z, optV (tgP n z (phI n pt (start + i)).toNat ns))].filter fun x => !decide (x.2 = .non)) := by
          rw [take_snoc hz, List.map_append, List.filter_append]
          rfl
        have hfil : ([(z, optV (tgP n z (phI n pt (start + i)).toNat ns))].filter fun x => !decide (x.2 = .non)) = if (!decide (optV (tgP n z (phI n pt (start + i)).toNat ns) = .non)) = true then [(z, optV (tgP n z (phI n pt (start + i)).toNat ns))] else [] := by
          rw [List.filter_cons]
          rfl
        refine ⟨rfl, _, rfl, _, rfl, a, _, rfl, g8, _, rfl, ite2 (fun hy => ?_) (fun hn => ?_)⟩
        · rw [if_pos hy] at hfil
          refine ⟨_, rfl, _, rfl, _, rfl, a, _, rfl, g8, by show 2 ≤ sizeLine; decide, fun tp ntp => ?_⟩
          have dw8 : upd H8 tp (.tup [.int z, optV (tgP n z (phI n pt (start + i)).toNat ns)]) D = some (.lst (ws.map V.ref)) := by
            rw [upd_ne (ne_of_none dw ntp)]
            exact dw
          refine ⟨_, dw8, small1000' (by rw [List.length_map]; omega), extPut (extNew e8 ntp _) nD _, tabsPut (tabsNew T8 ntp _) dw8, ws ++ [tp], by rw [List.length_append]; show ws.length + 1 ≤ j + 1; omega, by rw [upd_same, List.map_append]; rfl, ?_⟩
          rw [tk, hfil]
          exact ((tw.mono (tup_new ntp)).snoc upd_same).mono (tup_put dw8)
        · rw [if_neg hn] at hfil
          refine ⟨e8, T8, ws, by omega, dw, ?_⟩
          rw [tk, hfil, List.append_nil]
          exact tw
      · rw [List.length_map, List.take_length] at tw
        have tw : TupsOf H8 ws (planV n pt st (start + i)) := by
          rw [← want_plan perm]
          exact tw
        have e68 := eS.trans e8
        have hf8 := lstN hf (e6.trans e68)
        obtain ⟨y, hy⟩ : ∃ y, ys[i]? = some y := ⟨_, List.getElem?_eq_getElem (by rw [pl5.1]; exact hi)⟩
        obtain ⟨D1, bs, rfl, hD1, tb⟩ := (pl5.ext (e6.trans e68)).2 i y hy
        refine ⟨_, rfl, _, rfl, _, _, _, _, rfl, rfl, SqL.of hf8, at_of (j := i) (by omega) hy, _, rfl, D1, D, bs, ws, planV n pt st (start + i), rfl, hD1, tb, dw, tw, Nat.le_trans (plan_len _ _ _ _) lst, plan_opt, _, rfl, iteF ?_⟩
        exact ⟨R6.ext e68 T8, e6.trans e68, _, _, _, rfl⟩
    · obtain ⟨R6, e6, v9, v10, v11, rfl⟩ := pv
      refine ⟨_, rfl, _, rfl, _, _, dpList R6.hd, dpList (lstN hl R6.e), shaped_list ns, shaped_list ns, ?_⟩
      rw [eqv_list]
      exact k H6 R6.e R6.T
end
end K14

set_option Elab.async false
set_option maxRecDepth 100000
set_option maxHeartbeats 4000000
set_option exponentiation.threshold 4096
namespace K14
open PySem PySem.Spec PyProof.Rows L2 C8 LamX

abbrev s_law : Stmt := top 31
abbrev n_law : List Str := ["script", "purse", "bits", "patience", "ring", "setting", "held", "mate", "seat", "beat", "start", "many", "chosen"]
theorem sc_law : FnScope n_law ["script"] (C8.fnScope s_law) := ⟨rfl, rfl, rfl, by decide +kernel, rfl, by decide +kernel, by decide +kernel⟩

def spLaw (K : PySem.W.Frag) (t : Addr) : Sp := fun vs H Q _ => ∃ (a : Addr) (ns : List Int), vs = [.ref a] ∧ SqL K H a (ns.map V.int) ∧ H t = some (.tbl #[]) ∧ ∀ H' : Hp, Q (.bl true) H'
theorem menu {xs : List Int} {lo hi : Int} (h : ∀ x ∈ xs, lo ≤ x ∧ x ≤ hi) (h0 : 0 ≤ lo) {d : Int} (d0 : 0 ≤ d) (d1 : d < (xs.length : Int)) : ∃ b : Nat, atI (xs.map V.int) d = some (.int (b : Int)) ∧ lo ≤ (b : Int) ∧ (b : Int) ≤ hi := by
  obtain ⟨j, rfl⟩ := Int.eq_ofNat_of_zero_le d0
  have hl : j < xs.length := by omega
  have hm := h _ (List.getElem_mem hl)
  obtain ⟨b, hb⟩ := Int.eq_ofNat_of_zero_le (show 0 ≤ xs[j] by omega)
  refine ⟨b, atI_nat ?_, by omega, by omega⟩
  rw [List.getElem?_map, List.getElem?_eq_getElem hl]
  exact congrArg (fun z => some (V.int z)) hb
theorem nodup_len : ∀ (n : Nat) (l : List Nat), l.Nodup → (∀ x ∈ l, x < n) → l.length ≤ n
  | 0, [], _, _ => Nat.le_refl _
  | 0, a :: l, _, h => absurd (h a (.head _)) (Nat.not_lt_zero _)
  | n + 1, l, nd, h => by
    by_cases m : n ∈ l
    · have z := nodup_len n (l.erase n) (nd.erase n) fun x hx => by
        have q := (nd.mem_erase_iff).mp hx
        have := h x q.2
        have := q.1
        omega
      rw [List.length_erase_of_mem m] at z
      omega
    · refine Nat.le_succ_of_le (nodup_len n l nd fun x hx => ?_)
      have := h x hx
      have : x ≠ n := fun e => m (e ▸ hx)
      omega
theorem seats_len {ns : List Int} {r : Int} (h : Seats ns r) (hr : 0 ≤ r) : ns.length ≤ r.toNat := by
  have sub : (ns.map Int.toNat).Nodup := by
    unfold List.Nodup
    rw [List.pairwise_map]
    refine List.Pairwise.imp_of_mem (fun {a b} ha hb hab e => hab ?_) h.nd
    have := h.lo a ha
    have := h.lo b hb
    omega
  have hs : (ns.map Int.toNat).Subset (List.range r.toNat) := by
    intro x hx
    obtain ⟨a, ha, rfl⟩ := List.mem_map.mp hx
    have := h.lo a ha
    have := h.hi a ha
    exact List.mem_range.mpr (by omega)
  have z := nodup_len r.toNat _ sub fun x hx => List.mem_range.mp (hs hx)
  rw [List.length_map] at z
  exact z

section
variable {P : Program} {w : World} {K : PySem.W.Frag} {mg : Str → Option Value} {base : Heap} {C t : Addr}
theorem b_law (T : Bl mg) (c_law_purse : Cal P w K mg base 1 "_law_purse" (spPurse K) []) (c_law_draw : Cal P w K mg base 2 "_law_draw" spDraw []) (c_law_setting : Cal P w K mg base 5 "_law_setting" (spSet14 C) []) (c_law_seats : Cal P w K mg base 3 "_law_seats" spSeats14 [])
    (c_law_bent : Cal P w K mg base 3 "_law_bent" spBent []) (c_law_beat : Cal P w K mg base 3 "_law_beat" spBeat []) (c_law_calls : Cal P w K mg base 10 "_law_calls" (spCalls C t) []) (c_law_plan : Cal P w K mg base 14 "_law_plan" (spLawPlan C t) [])
    {f : Addr} {fd : FuncData} (d : C8.Fun K "law" "law" s_law f fd) : FnOk P w K mg base C8.CX0 15 f fd ["script"] (spLaw K t) := by
  refine C8.fn0 d sc_law (fun vs H Q E h => ?_) (fun cdv A outer s H vs Q E hr h => ?_)
  · obtain ⟨a, ns, rfl, _⟩ := h
    rfl
  · obtain ⟨a, ns, rfl, hS, ht, k⟩ := h
    have S := sc_law
    refine ⟨_, (pss_cons (ps_set (i := 1) S.nd rfl (Or.inl rfl) (pe_c c_law_purse hr (by decide) rfl (pa_cons (pv 0) pa_nil)))
      (pss_cons (ps_set (i := 2) S.nd rfl (Or.inl rfl) (pe_ix ix_list (pe_lst (pa_cons pe_int (pa_cons pe_int (pa_cons pe_int (pa_cons pe_int (pa_cons pe_int (pa_cons pe_int (pa_cons pe_int (pa_cons pe_int (pa_cons pe_int (pa_cons pe_int (pa_cons pe_int (pa_cons pe_int pa_nil))))))))))))) (pe_c c_law_draw hr (by decide) rfl (pa_cons (pv 1) (pa_cons pe_int pa_nil))) (fun _ _ => rfl)))
      (pss_cons (ps_set (i := 3) S.nd rfl (Or.inl rfl) (pe_ix ix_list (pe_lst (pa_cons pe_int (pa_cons pe_int (pa_cons pe_int (pa_cons pe_int (pa_cons pe_int (pa_cons pe_int (pa_cons pe_int (pa_cons pe_int (pa_cons pe_int (pa_cons pe_int pa_nil))))))))))) (pe_c c_law_draw hr (by decide) rfl (pa_cons (pv 1) (pa_cons pe_int pa_nil))) (fun _ _ => rfl)))
      (pss_cons (ps_set (i := 4) S.nd rfl (Or.inl rfl) (pe_op op_shl pe_int (pv 2)))
      (pss_cons (ps_set (i := 5) S.nd rfl (Or.inl rfl) (pe_c c_law_setting hr (by decide) rfl (pa_cons (pv 1) (pa_cons (pv 2) (pa_cons (pv 3) pa_nil)))))
      (pss_cons (ps_set (i := 6) S.nd rfl (Or.inl rfl) (pe_c c_law_seats hr (by decide) rfl (pa_cons (pv 1) (pa_cons (pv 4) (pa_cons (pe_callB (call_min2 rfl) (by rfl) T.min (by decide +kernel) (pa_cons (pv 4) (pa_cons (pe_ix ix_list (pe_lst (pa_cons pe_int (pa_cons pe_int (pa_cons pe_int (pa_cons pe_int (pa_cons pe_int (pa_cons pe_int (pa_cons pe_int (pa_cons pe_int (pa_cons pe_int (pa_cons pe_int pa_nil))))))))))) (pe_c c_law_draw hr (by decide) rfl (pa_cons (pv 1) (pa_cons pe_int pa_nil))) (fun _ _ => rfl)) pa_nil))) pa_nil)))))
      (pss_cons (ps_set (i := 7) S.nd rfl (Or.inl rfl) (pe_c c_law_bent hr (by decide) rfl (pa_cons (pv 1) (pa_cons (pv 4) (pa_cons (pv 6) pa_nil)))))
      (pss_cons (ps_set (i := 8) S.nd rfl (Or.inl rfl) (pe_c c_law_draw hr (by decide) rfl (pa_cons (pv 1) (pa_cons (pv 4) pa_nil))))
      (pss_cut (ps_if (PW.pt (pw_and (pt_cmpR op_eq (pe_c c_law_draw hr (by decide) rfl (pa_cons (pv 1) (pa_cons pe_int pa_nil))) pe_int (nomark _)) (pw_and1 (pt_cmpR (op_neD hr.units) (pv 6) (pe_lst pa_nil) (nomark _))))) (pss_one (ps_set (i := 8) S.nd rfl (Or.inl rfl) (pe_ix ix_list (pv 6) (pe_c c_law_draw hr (by decide) rfl (pa_cons (pv 1) (pa_cons (pe_callB call_len_seq (by rfl) T.len (by decide +kernel) (pa_cons (pv 6) pa_nil)) pa_nil))) (fun _ _ => rfl)))) pss_nil)
      (pss_cons (ps_set (i := 9) S.nd rfl (Or.inl rfl) (pe_c c_law_beat hr (by decide) rfl (pa_cons (pv 1) (pa_cons (pe_op op_mul (pv 2) (pv 3)) pa_nil))))
      (pss_cons (ps_set (i := 10) S.nd rfl (Or.inl rfl) (pe_c c_law_beat hr (by decide) rfl (pa_cons (pv 1) (pa_cons (pe_op op_mul (pv 2) (pv 3)) pa_nil))))
      (pss_cons (ps_set (i := 11) S.nd rfl (Or.inl rfl) (pe_ix ix_list (pe_lst (pa_cons pe_int (pa_cons pe_int (pa_cons pe_int (pa_cons pe_int (pa_cons pe_int (pa_cons pe_int (pa_cons (pe_op op_add (pe_op op_mul (pv 2) (pv 3)) pe_int) (pa_cons pe_int pa_nil))))))))) (pe_c c_law_draw hr (by decide) rfl (pa_cons (pv 1) (pa_cons pe_int pa_nil))) (fun _ _ => rfl)))
      (pss_cut (ps_if (pt_cmpR op_gt (pe_callB call_len_seq (by rfl) T.len (by decide +kernel) (pa_cons (pv 6) pa_nil)) pe_int (nomark _)) (pss_one (ps_set (i := 11) S.nd rfl (Or.inl rfl) (pe_callB (call_min2 rfl) (by rfl) T.min (by decide +kernel) (pa_cons (pv 11) (pa_cons pe_int pa_nil))))) pss_nil)
      (pss_cons (ps_for PassesOwn.never rfl (pi_list (pe_lst (pa_cons (pv 6) (pa_cons (pv 7) (pa_cons (pv 6) pa_nil))))) (pg_name (i := 12) S.nd rfl (Or.inl rfl)) (pss_cons (ps_if (pt_not (pt_val (pe_c c_law_calls hr (by decide) rfl (pa_cons (pv 5) (pa_cons (pv 2) (pa_cons (pv 3) (pa_cons (pv 8) (pa_cons (pv 9) (pa_cons (pv 12) pa_nil))))))))) (pss_one (ps_ret pe_bl)) pss_nil)
      (pss_one (ps_if (pt_not (pt_val (pe_c c_law_plan hr (by decide) rfl (pa_cons (pv 5) (pa_cons (pv 2) (pa_cons (pv 3) (pa_cons (pv 12) (pa_cons (pv 10) (pa_cons (pv 11) pa_nil))))))))) (pss_one (ps_ret pe_bl)) pss_nil))))
      (pss_one (ps_ret pe_bl)))))))))))))))), ?_⟩
    refine ⟨_, rfl, a, ns, rfl, hS, fun p c H1 np B1 s1 => ?_⟩
    have tp : t ≠ p := ne_of_none ht np
    have t1 := s1 _ _ ht
    clear hS
    -- bits
    refine ⟨by show 12 ≤ sizeLine; decide, fun m1 nm1 => ?_⟩
    have Y1 := (Sx.refl p H1).new nm1 (.lst [.int 2, .int 3, .int 2, .int 3, .int 1, .int 4, .int 3, .int 2, .int 5, .int 6, .int 7, .int 8])
    obtain ⟨o1, ho1⟩ := B1.at_
    have m1p : m1 ≠ p := (ne_of_none ho1 nm1).symm
    refine ⟨_, rfl, p, c, 12, rfl, B1.new nm1 _, by decide, by decide, fun d1 H2 a1 a2 B2 X2 => ?_⟩
    obtain ⟨n, hn, n1, n8⟩ := menu (xs := [2, 3, 2, 3, 1, 4, 3, 2, 5, 6, 7, 8]) (lo := 1) (hi := 8) (by decide) (by decide) a1 a2
    refine ⟨_, _, _, _, rfl, rfl, SqL.of (X2 _ _ upd_same m1p), hn, ?_⟩
    have Z2 := Y1.trans X2
    -- patience
    refine ⟨by show 10 ≤ sizeLine; decide, fun m2 nm2 => ?_⟩
    have Y2 := Z2.new nm2 (.lst [.int 1, .int 2, .int 1, .int 2, .int 3, .int 1, .int 2, .int 4, .int 5, .int 6])
    obtain ⟨o2, ho2⟩ := B2.at_
    have m2p : m2 ≠ p := (ne_of_none ho2 nm2).symm
    refine ⟨_, rfl, p, c, 10, rfl, B2.new nm2 _, by decide, by decide, fun d2 H3 a3 a4 B3 X3 => ?_⟩
    obtain ⟨pt, hpt, p1, p6⟩ := menu (xs := [1, 2, 1, 2, 3, 1, 2, 4, 5, 6]) (lo := 1) (hi := 6) (by decide) (by decide) a3 a4
    refine ⟨_, _, _, _, rfl, rfl, SqL.of (X3 _ _ upd_same m2p), hpt, ?_⟩
    have Z3 := Y2.trans X3
    have n1 : 1 ≤ n := by omega
    have n8 : n ≤ 8 := by omega
    have p1 : 1 ≤ pt := by omega
    have p6 : pt ≤ 6 := by omega
    have r0 := ring_pos n
    have r1 := ringN_le n8
    -- ring, setting
    refine ⟨_, rfl, _, _, rfl, rfl, ⟨by omega, by omega, by decide⟩, ?_⟩
    show gName 4 (V.int (1 * 2 ^ ((n : Int)).toNat)) _ H3 _
    rw [shl_eq n]
    show gName 4 (V.int (ringN n)) _ H3 _
    refine ⟨_, rfl, _, rfl, _, rfl, p, c, n, pt, rfl, B3, n1, n8, p1, p6, fun q H4 nq X4 B4 hq4 => ?_⟩
    obtain ⟨o3, ho3⟩ := B3.at_
    have qp : q ≠ p := (ne_of_none ho3 nq).symm
    have Z4 := Z3.trans X4
    have setX : ∀ {H H' : Hp}, SetP C H q n (pt : Int) → Sx p H H' → SetP C H' q n (pt : Int) := fun h x => by
      obtain ⟨dx, fs, h1, h2⟩ := h
      exact ⟨dx, fs, x _ _ h1 qp, h2⟩
    -- held
    refine ⟨_, rfl, _, rfl, _, rfl, by show 10 ≤ sizeLine; decide, fun m3 nm3 => ?_⟩
    have Y4 := (Sx.refl p H4).new nm3 (.lst [.int 3, .int 2, .int 4, .int 0, .int 5, .int 1, .int 6, .int 4, .int 7, .int 40])
    obtain ⟨o4, ho4⟩ := B4.at_
    have m3p : m3 ≠ p := (ne_of_none ho4 nm3).symm
    refine ⟨_, rfl, p, c, 10, rfl, B4.new nm3 _, by decide, by decide, fun d3 H5 a5 a6 B5 X5 => ?_⟩
    obtain ⟨mm, hmm, mm0, mm1⟩ := menu (xs := [3, 2, 4, 0, 5, 1, 6, 4, 7, 40]) (lo := 0) (hi := 40) (by decide) (by decide) a5 a6
    refine ⟨_, _, _, _, rfl, rfl, SqL.of (X5 _ _ upd_same m3p), hmm, ?_⟩
    have Z45 := Y4.trans X5
    refine ⟨_, _, rfl, p, c, ringN n, _, rfl, B5, r0, r1, by split <;> omega, by split <;> omega, fun hh hs H6 nhh X6 B6 hh6 sh => ?_⟩
    obtain ⟨o5, ho5⟩ := B5.at_
    have hhp : hh ≠ p := (ne_of_none ho5 nhh).symm
    have Z46 := Z45.trans X6
    have ih : InRing hs (ringN n) := ⟨sh.lo, sh.hi⟩
    have lh : hs.length ≤ 256 := by
      have z := seats_len sh (Int.le_of_lt r0)
      omega
    -- mate
    refine ⟨_, rfl, _, rfl, _, rfl, p, c, hh, ringN n, hs, rfl, B6, r0, r1, hh6, hhp, ih, lh, fun mt ms H7 nmt X7 B7 hmt ims lms => ?_⟩
    obtain ⟨o6, ho6⟩ := B6.at_
    have mtp : mt ≠ p := (ne_of_none ho6 nmt).symm
    have hh7 := X7 _ _ hh6 hhp
    -- seat
    refine ⟨_, rfl, _, rfl, p, c, ringN n, rfl, B7, r0, by omega, fun d4 H8 a7 a8 B8 X8 => ?_⟩
    have hh8 := X8 _ _ hh7 hhp
    refine ⟨fun σ H' => Purse H' p c ∧ Sx p H8 H' ∧ ∃ z : Int, σ = [some (.ref a), some (.ref p), some (.int (n : Int)), some (.int (pt : Int)), some (.int (ringN n)), some (.ref q), some (.ref hh), some (.ref mt), some (.int z), none, none, none, none], ?_, ?_⟩
    · refine ⟨_, rfl, p, c, 2, rfl, B8, by decide, by decide, fun d5 H9 b1 b2 B9 X9 => ?_⟩
      refine ⟨rfl, _, rfl, ite2 (fun _ => ?_) (fun _ => iteF ⟨B9, X9, d4, rfl⟩)⟩
      refine ⟨_, rfl, by show 0 ≤ sizeLine; decide, fun e ne => ?_⟩
      have Y9 := X9.new ne (.lst [])
      have hh9 := Y9 _ _ hh8 hhp
      have he : upd H9 e (.lst []) e = some (.lst (([] : List Int).map V.int)) := upd_same
      refine ⟨_, _, dpList hh9, dpList he, shaped_list hs, shaped_list [], _, rfl, ite2 (fun hy => ?_) (fun hn => ⟨B9.new ne _, Y9, d4, rfl⟩)⟩
      have pos : 0 < hs.length := by
        cases hs with
        | cons => exact Nat.succ_pos _
        | nil =>
          rw [eqv_list] at hy
          exact absurd hy (by decide)
      refine ⟨_, rfl, _, rfl, _, rfl, _, _, rfl, .inl (SqL.of hh9), p, c, _, rfl, B9.new ne _, by rw [List.length_map]; omega, by rw [List.length_map]; omega, fun d6 H10 b3 b4 B10 X10 => ?_⟩
      obtain ⟨cv, hcv⟩ := at_lt b3 b4
      obtain ⟨z, rfl⟩ := at_map hcv
      exact ⟨_, _, _, _, rfl, rfl, SqL.of (X10 _ _ hh9 hhp), hcv, B10, Y9.trans X10, z, rfl⟩
    rintro σ H9 ⟨B9, X9, seat, rfl⟩
    have bp0 : (0 : Int) < (n : Int) * (pt : Int) := by
      have : 0 < n * pt := Nat.mul_pos n1 p1
      have e : (n : Int) * (pt : Int) = ((n * pt : Nat) : Int) := by simp
      omega
    have bp1 : (n : Int) * (pt : Int) ≤ 48 := by
      have : n * pt ≤ 48 := Nat.mul_le_mul n8 p6
      have e : (n : Int) * (pt : Int) = ((n * pt : Nat) : Int) := by simp
      omega
    -- beat, start, many
    refine ⟨_, rfl, _, rfl, _, rfl, _, _, rfl, rfl, .inl ⟨by omega, by omega⟩, p, c, _, rfl, B9, bp0, by omega, fun beat H10 B10 X10 => ?_⟩
    refine ⟨_, rfl, _, rfl, _, rfl, _, _, rfl, rfl, .inl ⟨by omega, by omega⟩, p, c, _, rfl, B10, bp0, by omega, fun start H11 B11 X11 => ?_⟩
    refine ⟨_, rfl, _, rfl, _, _, rfl, rfl, .inl ⟨by omega, by omega⟩, _, _, rfl, rfl, by show 8 ≤ sizeLine; decide, fun m4 nm4 => ?_⟩
    have Y11 := (Sx.refl p H11).new nm4 (.lst [.int 3, .int 0, .int 1, .int 2, .int 5, .int 8, .int ((n : Int) * (pt : Int) + 1), .int 4])
    obtain ⟨o11, ho11⟩ := B11.at_
    have m4p : m4 ≠ p := (ne_of_none ho11 nm4).symm
    refine ⟨_, rfl, p, c, 8, rfl, B11.new nm4 _, by decide, by decide, fun d7 H12 b5 b6 B12 X12 => ?_⟩
    obtain ⟨many, hmany, ma0, ma1⟩ := menu (xs := [3, 0, 1, 2, 5, 8, (n : Int) * (pt : Int) + 1, 4]) (lo := 0) (hi := 49) (by
      intro x hx
      simp only [List.mem_cons, List.not_mem_nil, or_false] at hx
      rcases hx with rfl | rfl | rfl | rfl | rfl | rfl | rfl | rfl <;> omega) (by decide) b5 b6
    refine ⟨_, _, _, _, rfl, rfl, SqL.of (X12 _ _ upd_same m4p), hmany, ?_⟩
    have Z8 : Sx p H8 H12 := (((X9.trans X10).trans X11).trans Y11).trans X12
    have hh12 := Z8 _ _ hh8 hhp
    refine ⟨fun σ H' => H' = H12 ∧ ∃ many : Nat, many ≤ 1000 ∧ σ = [some (.ref a), some (.ref p), some (.int (n : Int)), some (.int (pt : Int)), some (.int (ringN n)), some (.ref q), some (.ref hh), some (.ref mt), some (.int seat), some (.int (beat : Int)), some (.int (start : Int)), some (.int (many : Int)), none], ?_, ?_⟩
    · refine ⟨_, rfl, _, _, rfl, .inl (SqL.of hh12), _, _, rfl, rfl, _, rfl, ite2 (fun _ => ?_) (fun _ => ⟨rfl, many, by omega, rfl⟩)⟩
      refine ⟨_, rfl, _, _, rfl, rfl, if 4 < many then 4 else many, by split <;> omega, ?_⟩
      by_cases h4 : 4 < many
      · rw [if_pos h4]
        show _ = _
        have e : (if (4 : Int) < (many : Int) then (4 : Int) else (many : Int)) = ((4 : Nat) : Int) := if_pos (by omega)
        exact congrArg (fun z => [some (V.ref a), some (.ref p), some (.int (n : Int)), some (.int (pt : Int)), some (.int (ringN n)), some (.ref q), some (.ref hh), some (.ref mt), some (.int seat), some (.int (beat : Int)), some (.int (start : Int)), some (.int z), none]) e
      · rw [if_neg h4]
        have e : (if (4 : Int) < (many : Int) then (4 : Int) else (many : Int)) = (many : Int) := if_neg (by omega)
        exact congrArg (fun z => [some (V.ref a), some (.ref p), some (.int (n : Int)), some (.int (pt : Int)), some (.int (ringN n)), some (.ref q), some (.ref hh), some (.ref mt), some (.int seat), some (.int (beat : Int)), some (.int (start : Int)), some (.int z), none]) e
    rintro σ H12' ⟨rfl, many, hmany, rfl⟩
    have t12 : H12' t = some (.tbl #[]) := Z8 _ _ (X8 _ _ (X7 _ _ (Z46 _ _ (Z4 _ _ t1 tp) tp) tp) tp) tp
    have T12 : Tabs (TT t) H12' := fun pr hp => by
      cases hp with
      | head => exact TabS.nil t12
      | tail _ hp => cases hp
    have q12 : SetP C H12' q n (pt : Int) := setX (setX (setX (setX hq4 Z46) X7) X8) Z8
    have mt12 := Z8 _ _ (X8 _ _ hmt mtp) mtp
    -- the three lists
    refine ⟨_, rfl, _, rfl, _, rfl, by show 3 ≤ sizeLine; decide, fun G nG => ?_⟩
    have eG : ExtN H12' (upd H12' G (.lst [.ref hh, .ref mt, .ref hh])) := extNew (ExtN.refl H12') nG _
    have TG : Tabs (TT t) (upd H12' G (.lst [.ref hh, .ref mt, .ref hh])) := tabsNew T12 nG _
    have hG : upd H12' G (.lst [.ref hh, .ref mt, .ref hh]) G = some (.lst [.ref hh, .ref mt, .ref hh]) := upd_same
    generalize upd H12' G (.lst [.ref hh, .ref mt, .ref hh]) = H13 at eG TG hG ⊢
    refine ⟨G, rfl, ⟨_, SqL.of hG⟩, ?_⟩
    refine for_list (xs := [.ref hh, .ref mt, .ref hh]) (fun i σ H' => ExtN H13 H' ∧ Tabs (TT t) H' ∧ ∃ v : Option V, σ = [some (.ref a), some (.ref p), some (.int (n : Int)), some (.int (pt : Int)), some (.int (ringN n)), some (.ref q), some (.ref hh), some (.ref mt), some (.int seat), some (.int (beat : Int)), some (.int (start : Int)), some (.int (many : Int)), v]) ⟨ExtN.refl H13, TG, none, rfl⟩ (fun i σ H' _ pv => SqL.of (lstN hG pv.1)) (fun i y σ H14 hy pv => ?_) (fun σ H14 pv => ?_)
    · obtain ⟨e14, T14, v, rfl⟩ := pv
      have e24 := eG.trans e14
      obtain ⟨l, ls, rfl, hl, il, ll⟩ : ∃ (l : Addr) (ls : List Int), y = .ref l ∧ H12' l = some (.lst (ls.map V.int)) ∧ InRing ls (ringN n) ∧ ls.length ≤ 256 := by
        have hm := List.mem_of_getElem? hy
        simp only [List.mem_cons, List.not_mem_nil, or_false] at hm
        rcases hm with rfl | rfl | rfl
        · exact ⟨hh, hs, rfl, hh12, ih, lh⟩
        · exact ⟨mt, ms, rfl, mt12, ims, lms⟩
        · exact ⟨hh, hs, rfl, hh12, ih, lh⟩
      refine ⟨_, rfl, _, rfl, _, rfl, _, rfl, _, rfl, _, rfl, q, l, n, pt, beat, seat, ls, rfl, q12.ext e24, n1, n8, p1, p6, lstN hl e24, il, ll, T14, fun H15 e15 T15 => ?_⟩
      refine ⟨_, rfl, iteF ?_⟩
      have e25 := e24.trans e15
      refine ⟨_, rfl, _, rfl, _, rfl, _, rfl, _, rfl, _, rfl, q, l, n, pt, start, many, ls, rfl, q12.ext e25, n1, n8, p1, p6, lstN hl e25, il, ll, T15, hmany, fun H16 e16 T16 => ?_⟩
      refine ⟨_, rfl, iteF ?_⟩
      exact ⟨(e14.trans e15).trans e16, T16, _, rfl⟩
    · exact k H14
end
end K14

set_option Elab.async false
set_option maxRecDepth 100000
set_option maxHeartbeats 4000000
set_option exponentiation.threshold 4096
namespace K14
open PySem PySem.Spec PyProof.Rows L2 C8 LamX

section
variable {K : PySem.W.Frag} {h : Heap} {mg : Str → Option Value}
theorem d0_mk {x : Str} {st : Stmt} {ps : List Str} {f : Addr} {oc : Value} {od an : Option Addr} {osl : Array (Option Value)} {kV doc pm cdv ct : Value} (X : K.In h) (G : h.Ns mainGlobals mg) (a : PySem.W.nsIn K mainGlobals x = some (some (.ref f)))
    (l : K.lookup f = some ⟨oc, od, .func (PySem.W.fnOf x x (C8.fnArgs st) (C8.fnBody st) (C8.fnScope st) .none kV doc pm an cdv ct), osl⟩) (c : PySem.W.codeIn K cdv x = true) (k : PySem.W.keepIn K (.ref f) = true)
    (hb : ∀ (kV doc pm : Value) (an : Option Addr) (cdv ct : Value) (us : List Value), us.length = ps.length → bindArgs (PySem.W.fnOf x x (C8.fnArgs st) (C8.fnBody st) (C8.fnScope st) .none kV doc pm an cdv ct) ⟨us, []⟩ = pure (ps.zip us)) : D0 K mg x st ps :=
  have F : C8.Fun K x x st f _ := ⟨⟨oc, od, _, kV, doc, pm, an, cdv, ct, osl, rfl, l, c⟩⟩
  ⟨f, _, ⟨F, PySem.W.mg_of X G a, k⟩, F.binds rfl hb⟩
theorem d1_mk {f c : Addr} {oc : Value} {od an : Option Addr} {osl : Array (Option Value)} {kV doc pm ct : Value} (X : K.In h) (G : h.Ns mainGlobals mg) (a : PySem.W.nsIn K mainGlobals "first_from" = some (some (.ref f)))
    (l : K.lookup f = some ⟨oc, od, .func (PySem.W.fnOf "first_from" "first_from" (C8.fnArgs s_first) (C8.fnBody s_first) (C8.fnScope s_first) .none kV doc pm an (.ref c) ct), osl⟩) (cd : PySem.W.codeIn K (.ref c) "first_from" = true) (k : PySem.W.keepIn K (.ref f) = true) : D1 K mg c :=
  ⟨f, oc, od, kV, doc, pm, an, ct, osl, l, cd, PySem.W.mg_of X G a, k⟩
theorem con_mk {C : Addr} {x : Str} {n : Int} {tk : Tok} (a : PySem.W.findIn K (.ref C) x = some (some (.int n tk))) (g : PySem.W.specialIn K (.int n tk) "__get__" = some none) (cp : PySem.W.copiedNames.contains x = false) : ∃ u, Con K C x (.int n) u :=
  ⟨.int n tk, a, ⟨_, rfl⟩, g, cp⟩
theorem ini_mk {C f D : Addr} {oc : Value} {od an : Option Addr} {osl : Array (Option Value)} {doc pm cdv ct : Value} {t1 t2 : Tok} (m : PySem.W.makesIn K C = true) (a : PySem.W.findIn K (.ref C) "__init__" = some (some (.ref f))) (i : PySem.W.isFn K (.ref f) = true) (kc : PySem.W.keepIn K (.ref C) = true)
    (l : K.lookup f = some ⟨oc, od, .func (PySem.W.fnOf "__init__" "Setting.__init__" (C8.fnArgs s_init) (C8.fnBody s_init) (C8.fnScope s_init) .none (.ref D) doc pm an cdv ct), osl⟩) (c : PySem.W.codeIn K cdv "Setting.__init__" = true) (k : PySem.W.keepIn K (.ref f) = true)
    (g : PySem.W.nsIn K D "grace" = some (some (.int 6 t1))) (hp : PySem.W.nsIn K D "helpers" = some (some (.int 1 t2))) :
    ∃ (f : Addr) (fd : FuncData), Mk K C f ∧ FunD K "__init__" "Setting.__init__" (C8.fnArgs s_init) (C8.fnBody s_init) (C8.fnScope s_init) [] [("grace", .int 6), ("helpers", .int 1)] f fd :=
  ⟨f, _, ⟨m, a, i, kc⟩, ⟨oc, od, _, _, doc, pm, an, cdv, ct, osl, rfl, l, c, .inl ⟨rfl, rfl⟩, .inr ⟨D, rfl, fun q hq => by
    cases hq with
    | head => exact ⟨_, g, _, rfl⟩
    | tail _ hq => cases hq with
      | head => exact ⟨_, hp, _, rfl⟩
      | tail _ hq => cases hq⟩⟩, k⟩
theorem sea_mk {C p g : Addr} {rest : List Value} {oc : Value} {od an : Option Addr} {osl : Array (Option Value)} {kV doc pm cdv ct : Value} (a : PySem.W.findIn K (.ref C) "seats" = some (some (.ref p))) (gt : PySem.W.specialIn K (.ref p) "__get__" = some (some (.builtin "property.__get__"))) (tk : PySem.W.takesIn K (.ref p) = some true)
    (r : PySem.W.recIn K p "property" = some (.ref g :: rest))
    (l : K.lookup g = some ⟨oc, od, .func (PySem.W.fnOf "seats" "Setting.seats" (C8.fnArgs s_seats) (C8.fnBody s_seats) (C8.fnScope s_seats) .none kV doc pm an cdv ct), osl⟩) (c : PySem.W.codeIn K cdv "Setting.seats" = true) :
    ∃ (p g : Addr) (fd : FuncData), PropOf K C "seats" p g ∧ C8.Fun K "seats" "Setting.seats" s_seats g fd ∧ L2.Binds K fd ["self"] [] :=
  have F : C8.Fun K "seats" "Setting.seats" s_seats g _ := ⟨⟨oc, od, _, kV, doc, pm, an, cdv, ct, osl, rfl, l, c⟩⟩
  ⟨p, g, _, ⟨a, gt, tk, rest, r⟩, F, F.binds (ps := ["self"]) rfl fun _ _ _ _ _ _ us hl => match us, hl with | [_], _ => rfl⟩
theorem set_mk {C : Addr} (X : K.In h) (G : h.Ns mainGlobals mg) (aC : PySem.W.nsIn K mainGlobals "Setting" = some (some (.ref C))) (cl : Cls K C) (n1 : PySem.W.findIn K (.ref C) "bits" = some none) (n2 : PySem.W.findIn K (.ref C) "patience" = some none) (n3 : PySem.W.findIn K (.ref C) "room" = some none) (n4 : PySem.W.findIn K (.ref C) "grace" = some none) (n5 : PySem.W.findIn K (.ref C) "helpers" = some none)
    (k1 : ∃ u, Con K C "MOST_BITS" (.int 8) u) (k2 : ∃ u, Con K C "MOST_PATIENCE" (.int 6) u) (k3 : ∃ u, Con K C "MOST_ROOM" (.int 64) u) (k4 : ∃ u, Con K C "MOST_GRACE" (.int 200) u) (k5 : ∃ u, Con K C "MOST_HELPERS" (.int 3) u)
    (ini : ∃ (f : Addr) (fd : FuncData), Mk K C f ∧ FunD K "__init__" "Setting.__init__" (C8.fnArgs s_init) (C8.fnBody s_init) (C8.fnScope s_init) [] [("grace", .int 6), ("helpers", .int 1)] f fd)
    (sea : ∃ (p g : Addr) (fd : FuncData), PropOf K C "seats" p g ∧ C8.Fun K "seats" "Setting.seats" s_seats g fd ∧ L2.Binds K fd ["self"] []) : SetT K mg C :=
  ⟨cl, n1, n2, n3, n4, n5, k1, k2, k3, k4, k5, PySem.W.mg_of X G aC, ini, sea⟩
theorem cls_mk {C : Addr} (pg : PySem.W.plainGet K C Str.empty = true) (hd : PySem.W.hasDictIn K C = true) (po : PySem.W.plainOver K C = true) (sa : PySem.W.findIn K (.ref C) "__setattr__" = some (some (.builtin "object.__setattr__"))) : Cls K C := ⟨pg, hd, po, sa⟩
theorem bl_mk (X : K.In h) (G : h.Ns mainGlobals mg) (z0 : PySem.W.nsIn K mainGlobals "int" = some none) (z1 : PySem.W.nsIn K mainGlobals "bool" = some none) (z2 : PySem.W.nsIn K mainGlobals "list" = some none) (z3 : PySem.W.nsIn K mainGlobals "len" = some none) (z4 : PySem.W.nsIn K mainGlobals "tuple" = some none) (z5 : PySem.W.nsIn K mainGlobals "reversed" = some none) (z6 : PySem.W.nsIn K mainGlobals "range" = some none) (z7 : PySem.W.nsIn K mainGlobals "min" = some none) (z8 : PySem.W.nsIn K mainGlobals "isinstance" = some none) (z9 : PySem.W.nsIn K mainGlobals "sorted" = some none) : Bl mg :=
  ⟨PySem.W.mg_none_of X G z0, PySem.W.mg_none_of X G z1, PySem.W.mg_none_of X G z2, PySem.W.mg_none_of X G z3, PySem.W.mg_none_of X G z4, PySem.W.mg_none_of X G z5, PySem.W.mg_none_of X G z6, PySem.W.mg_none_of X G z7, PySem.W.mg_none_of X G z8, PySem.W.mg_none_of X G z9⟩

theorem finish {l : PySem.W.OpenLaw} {w : World} {fa fL c t C : Addr} {oc : Value} {od an : Option Addr} {osl : Array (Option Value)} {kV doc pm cdv ct : Value} (X : K.In h) (G : h.Ns mainGlobals mg) (hfa : mg "law" = some (.ref fa)) (hT : h.get? t = some { cls := .none, data := .fields #[] })
    (aL : PySem.W.nsIn K mainGlobals "law" = some (some (.ref fL))) (lL : K.lookup fL = some ⟨oc, od, .func (PySem.W.fnOf "law" "law" (C8.fnArgs s_law) (C8.fnBody s_law) (C8.fnScope s_law) .none kV doc pm an cdv ct), osl⟩) (cL : PySem.W.codeIn K cdv "law" = true)
    (d1 : D1 K mg c) (nT : K.lookup t = none) (hC : PySem.W.codeHdIn K c t = true) (T : Bl mg) (ST : SetT K mg C)
    (d_law_mixed : D0 K mg "_law_mixed" s_law_mixed ["seed", "place"])
    (d_law_draw : D0 K mg "_law_draw" s_law_draw ["purse", "many"])
    (d_law_purse : D0 K mg "_law_purse" s_law_purse ["script"])
    (d_is_integer : D0 K mg "is_integer" s_is_integer ["value"])
    (d_check_field : D0 K mg "check_field" s_check_field ["field", "value", "least", "most"])
    (d_distance : D0 K mg "distance" s_distance ["setting", "seat", "other"])
    (d_phase_of : D0 K mg "phase_of" s_phase_of ["setting", "beat"])
    (d_phase_target : D0 K mg "phase_target" s_phase_target ["setting", "seat", "phase", "held"])
    (d_target : D0 K mg "target" s_target ["setting", "seat", "beat", "held"])
    (d_fingers : D0 K mg "fingers" s_fingers ["setting", "seat", "held"])
    (d_plan : D0 K mg "plan_rounds" s_plan ["setting", "held", "start", "count"])
    (d_law_setting : D0 K mg "_law_setting" s_law_setting ["purse", "bits", "patience"])
    (d_law_seats : D0 K mg "_law_seats" s_law_seats ["purse", "ring", "many"])
    (d_law_table : D0 K mg "_law_table" s_law_table ["bits", "held", "callers"])
    (d_law_bent : D0 K mg "_law_bent" s_law_bent ["purse", "ring", "held"])
    (d_law_beat : D0 K mg "_law_beat" s_law_beat ["purse", "turn"])
    (d_law_phase : D0 K mg "_law_phase" s_law_phase ["bits", "patience", "beat"])
    (d_law_same : D0 K mg "_law_same" s_law_same ["found", "wanted"])
    (d_law_calls : D0 K mg "_law_calls" s_law_calls ["setting", "bits", "patience", "seat", "beat", "held"])
    (d_law_pairs : D0 K mg "_law_pairs" s_law_pairs ["found", "wanted"])
    (d_law_plan : D0 K mg "_law_plan" s_law_plan ["setting", "bits", "patience", "held", "start", "many"])
    : LamX.LawAtS l w K C8.CX0 15 63 "script" mg fa h := by

  have e := hfa.symm.trans (PySem.W.mg_of X G aL)
  cases e
  have FL : C8.Fun K "law" "law" s_law fa _ := ⟨⟨oc, od, _, kV, doc, pm, an, cdv, ct, osl, rfl, lL, cL⟩⟩
  refine ⟨_, [(c, t)], spLaw K t, ?_, ?_, ?_, ?_, ?_, fun base _ _ hTB => b_law (C := C) (t := t) T ?_ ?_ ?_ ?_ ?_ ?_ ?_ ?_ FL⟩
  · intro p hp
    cases hp with
    | head => exact hT
    | tail _ hp => cases hp
  · intro p hp
    cases hp with
    | head => exact nT
    | tail _ hp => cases hp
  · intro p hp
    cases hp with
    | head => exact PySem.W.codeHd_of_K X hC
    | tail _ hp => cases hp
  · exact fun s u => .of_eq rfl
  · exact fun H a ns _ _ hH hS => ⟨a, ns, rfl, hS, hH (c, t) (.head _), fun _ => rfl⟩
  all_goals
    have p_draw : Cal l.prog w K mg base 2 "_law_draw" spDraw [] := c_draw T (c_mixed T d_law_mixed) d_law_draw
    have p_dist : Cal l.prog w K mg base 3 "distance" (spDist C) [] := c_distance ST d_distance
    have p_pt : Cal l.prog w K mg base 8 "phase_target" (spPT C t) [] := c_phase_target (c_first T p_dist d1 (hTB (c, t) (.head _))) p_dist d_phase_target
    have p_po : Cal l.prog w K mg base 1 "phase_of" (spPhaseOf C) [] := c_phase_of ST d_phase_of
    have p_tg : Cal l.prog w K mg base 9 "target" (spTarget C t) [] := c_target p_pt p_po d_target
    have p_tab : Cal l.prog w K mg base 1 "_law_table" spTable [] := c_table T d_law_table
    have p_ph : Cal l.prog w K mg base 1 "_law_phase" spPhase [] := c_phase T d_law_phase
    have p_same : Cal l.prog w K mg base 1 "_law_same" spSame [] := c_same T d_law_same
  · exact c_purse T d_law_purse
  · exact p_draw
  · exact c_set14 ST (c_check_field T (c_is_integer T d_is_integer) d_check_field) p_draw d_law_setting
  · exact c_seats14 T p_draw d_law_seats
  · exact c_bent T p_draw d_law_bent
  · exact c_beat T p_draw d_law_beat
  · exact c_calls T p_tab p_ph p_same p_po p_tg (c_fingers T ST p_pt d_fingers) d_law_calls
  · exact c_plan14 T p_tab p_ph (c_pairs T p_same d_law_pairs) p_tg d_plan d_law_plan
end
end K14

set_option Elab.async false
set_option maxRecDepth 100000
set_option exponentiation.threshold 4096
open PySem PySem.W PyProof.Rows
set_option maxRecDepth 100000 in
set_option maxHeartbeats 0 in
theorem PySem.Challenge.cw_livingroll_k14_targets_and_plan_rounds_holds : PySem.Challenge.rw_livingroll_k14_targets_and_plan_rounds.Holds := by
  w_on; o_law; k_head; (case hw => w_witness2)
  k_fill
  refine LamX.walk_ofTs (l := PySem.Challenge.rw_livingroll_k14_targets_and_plan_rounds) (n := 63) (k := 15) (x := "script") (CX := fun _ => C8.CX0) rfl (by decide) rfl ⟨rfl, by decide, by decide⟩ (fun w h Y => PySem.W.km_in_of Y) ?F (fun _ _ _ _ _ z => z)
  case F =>
    intro w mg fa h Y KX G hmg
    have hT8 := PySem.W.km_tabs_of Y
    refine' K14.finish KX G hmg (hT8 _ (List.mem_singleton.mpr rfl)) ?aL ?lL ?cL ?d1 ?nT ?hC ?T ?ST ?law_mixed ?law_draw ?law_purse ?is_integer ?check_field ?distance ?phase_of ?phase_target ?target ?fingers ?plan ?law_setting ?law_seats ?law_table ?law_bent ?law_beat ?law_phase ?law_same ?law_calls ?law_pairs ?law_plan
    (case aL => k_is); (case lL => k_is); (case cL => k_is)
    (case d1 =>
      refine' K14.d1_mk KX G ?a ?l ?c ?k
      (case a => k_is); (case l => k_is); (case c => k_is); (case k => k_is))
    (case nT => kernel_rfl); (case hC => kernel_rfl)
    (case T =>
      refine' K14.bl_mk KX G ?z0 ?z1 ?z2 ?z3 ?z4 ?z5 ?z6 ?z7 ?z8 ?z9
      (case z0 => k_is); (case z1 => k_is); (case z2 => k_is); (case z3 => k_is); (case z4 => k_is); (case z5 => k_is); (case z6 => k_is); (case z7 => k_is); (case z8 => k_is); (case z9 => k_is))
    (case ST =>
      refine' K14.set_mk KX G ?aC ?cl ?n1 ?n2 ?n3 ?n4 ?n5 ?k1 ?k2 ?k3 ?k4 ?k5 ?ini ?sea
      (case aC => k_is)
      (case cl => refine' K14.cls_mk ?a ?b ?c ?d; (case a => k_is); (case b => k_is); (case c => k_is); (case d => k_is))
      (case n1 => k_is); (case n2 => k_is); (case n3 => k_is); (case n4 => k_is); (case n5 => k_is)
      (case k1 => refine' K14.con_mk ?a ?b ?c; (case a => k_is); (case b => k_is); (case c => decide +kernel))
      (case k2 => refine' K14.con_mk ?a ?b ?c; (case a => k_is); (case b => k_is); (case c => decide +kernel))
      (case k3 => refine' K14.con_mk ?a ?b ?c; (case a => k_is); (case b => k_is); (case c => decide +kernel))
      (case k4 => refine' K14.con_mk ?a ?b ?c; (case a => k_is); (case b => k_is); (case c => decide +kernel))
      (case k5 => refine' K14.con_mk ?a ?b ?c; (case a => k_is); (case b => k_is); (case c => decide +kernel))
      (case ini => refine' K14.ini_mk ?m ?a ?i ?kc ?l ?c ?k ?g ?hp; (case m => k_is); (case a => k_is); (case i => k_is); (case kc => k_is); (case l => k_is); (case c => k_is); (case k => k_is); (case g => k_is); (case hp => k_is))
      (case sea => refine' K14.sea_mk ?a ?gt ?tk ?r ?l ?c; (case a => k_is); (case gt => k_is); (case tk => k_is); (case r => k_is); (case l => k_is); (case c => k_is)))
    (case law_mixed =>
      refine' K14.d0_mk KX G ?a ?l ?c ?k (fun _ _ _ _ _ _ us hl => match us, hl with | [_, _], _ => rfl)
      (case a => k_is); (case l => k_is); (case c => k_is); (case k => k_is))
    (case law_draw =>
      refine' K14.d0_mk KX G ?a ?l ?c ?k (fun _ _ _ _ _ _ us hl => match us, hl with | [_, _], _ => rfl)
      (case a => k_is); (case l => k_is); (case c => k_is); (case k => k_is))
    (case law_purse =>
      refine' K14.d0_mk KX G ?a ?l ?c ?k (fun _ _ _ _ _ _ us hl => match us, hl with | [_], _ => rfl)
      (case a => k_is); (case l => k_is); (case c => k_is); (case k => k_is))
    (case is_integer =>
      refine' K14.d0_mk KX G ?a ?l ?c ?k (fun _ _ _ _ _ _ us hl => match us, hl with | [_], _ => rfl)
      (case a => k_is); (case l => k_is); (case c => k_is); (case k => k_is))
    (case check_field =>
      refine' K14.d0_mk KX G ?a ?l ?c ?k (fun _ _ _ _ _ _ us hl => match us, hl with | [_, _, _, _], _ => rfl)
      (case a => k_is); (case l => k_is); (case c => k_is); (case k => k_is))
    (case distance =>
      refine' K14.d0_mk KX G ?a ?l ?c ?k (fun _ _ _ _ _ _ us hl => match us, hl with | [_, _, _], _ => rfl)
      (case a => k_is); (case l => k_is); (case c => k_is); (case k => k_is))
    (case phase_of =>
      refine' K14.d0_mk KX G ?a ?l ?c ?k (fun _ _ _ _ _ _ us hl => match us, hl with | [_, _], _ => rfl)
      (case a => k_is); (case l => k_is); (case c => k_is); (case k => k_is))
    (case phase_target =>
      refine' K14.d0_mk KX G ?a ?l ?c ?k (fun _ _ _ _ _ _ us hl => match us, hl with | [_, _, _, _], _ => rfl)
      (case a => k_is); (case l => k_is); (case c => k_is); (case k => k_is))
    (case target =>
      refine' K14.d0_mk KX G ?a ?l ?c ?k (fun _ _ _ _ _ _ us hl => match us, hl with | [_, _, _, _], _ => rfl)
      (case a => k_is); (case l => k_is); (case c => k_is); (case k => k_is))
    (case fingers =>
      refine' K14.d0_mk KX G ?a ?l ?c ?k (fun _ _ _ _ _ _ us hl => match us, hl with | [_, _, _], _ => rfl)
      (case a => k_is); (case l => k_is); (case c => k_is); (case k => k_is))
    (case plan =>
      refine' K14.d0_mk KX G ?a ?l ?c ?k (fun _ _ _ _ _ _ us hl => match us, hl with | [_, _, _, _], _ => rfl)
      (case a => k_is); (case l => k_is); (case c => k_is); (case k => k_is))
    (case law_setting =>
      refine' K14.d0_mk KX G ?a ?l ?c ?k (fun _ _ _ _ _ _ us hl => match us, hl with | [_, _, _], _ => rfl)
      (case a => k_is); (case l => k_is); (case c => k_is); (case k => k_is))
    (case law_seats =>
      refine' K14.d0_mk KX G ?a ?l ?c ?k (fun _ _ _ _ _ _ us hl => match us, hl with | [_, _, _], _ => rfl)
      (case a => k_is); (case l => k_is); (case c => k_is); (case k => k_is))
    (case law_table =>
      refine' K14.d0_mk KX G ?a ?l ?c ?k (fun _ _ _ _ _ _ us hl => match us, hl with | [_, _, _], _ => rfl)
      (case a => k_is); (case l => k_is); (case c => k_is); (case k => k_is))
    (case law_bent =>
      refine' K14.d0_mk KX G ?a ?l ?c ?k (fun _ _ _ _ _ _ us hl => match us, hl with | [_, _, _], _ => rfl)
      (case a => k_is); (case l => k_is); (case c => k_is); (case k => k_is))
    (case law_beat =>
      refine' K14.d0_mk KX G ?a ?l ?c ?k (fun _ _ _ _ _ _ us hl => match us, hl with | [_, _], _ => rfl)
      (case a => k_is); (case l => k_is); (case c => k_is); (case k => k_is))
    (case law_phase =>
      refine' K14.d0_mk KX G ?a ?l ?c ?k (fun _ _ _ _ _ _ us hl => match us, hl with | [_, _, _], _ => rfl)
      (case a => k_is); (case l => k_is); (case c => k_is); (case k => k_is))
    (case law_same =>
      refine' K14.d0_mk KX G ?a ?l ?c ?k (fun _ _ _ _ _ _ us hl => match us, hl with | [_, _], _ => rfl)
      (case a => k_is); (case l => k_is); (case c => k_is); (case k => k_is))
    (case law_calls =>
      refine' K14.d0_mk KX G ?a ?l ?c ?k (fun _ _ _ _ _ _ us hl => match us, hl with | [_, _, _, _, _, _], _ => rfl)
      (case a => k_is); (case l => k_is); (case c => k_is); (case k => k_is))
    (case law_pairs =>
      refine' K14.d0_mk KX G ?a ?l ?c ?k (fun _ _ _ _ _ _ us hl => match us, hl with | [_, _], _ => rfl)
      (case a => k_is); (case l => k_is); (case c => k_is); (case k => k_is))
    (case law_plan =>
      refine' K14.d0_mk KX G ?a ?l ?c ?k (fun _ _ _ _ _ _ us hl => match us, hl with | [_, _, _, _, _, _], _ => rfl)
      (case a => k_is); (case l => k_is); (case c => k_is); (case k => k_is))
#print axioms PySem.Challenge.cw_livingroll_k14_targets_and_plan_rounds_holds
