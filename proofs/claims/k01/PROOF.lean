import PyProof.Rows.All
import Wide.All
import OpenK.AllK
import Wide.FinOn
import HandS.Base
import HandS.Call
import HandS.List
import HandS.Comp
import HandS.Ends
import HandS.Text
import HandS.Words
import HandS.Codes
import HandS.Wide
import HandS.IsInst
import HandS.Defaults
import HandS.Property
import KE.KMinKey
import KE.KLam
import PyProof.WalkInts
import HandS.SortKw
import HandS.Lambda
import HandS.Nested
import HandS.Conv
import HandS.SortInts
import HandS.WordsList
import HandS.Style
import HandS.EndTab
import PySem.Challenge.RW_livingroll_k01_first_seat_and_arc
set_option Elab.async false
set_option maxRecDepth 100000
set_option maxHeartbeats 4000000
namespace K01
open PySem PySem.Spec PyProof.Rows L2 C8

def top (i : Nat) : Stmt := PySem.Challenge.pw_livingroll_k01_first_seat_and_arc.main.body.getD i (.Pass ⟨0, 0, 0, 0⟩)

/-- the built-ins that the text calls -/
structure Bl (mg : Str → Option Value) : Prop where
  int : mg "int" = none
  bool : mg "bool" = none
  list : mg "list" = none
  len : mg "len" = none
  sum : mg "sum" = none
  range : mg "range" = none
  min : mg "min" = none
  isinstance : mg "isinstance" = none
  sorted : mg "sorted" = none

/-- a def of the text that is called with all its parameters -/
structure D0 (K : PySem.W.Frag) (mg : Str → Option Value) (x : Str) (st : Stmt) (ps : List Str) : Prop where
  ex : ∃ (f : Addr) (fd : FuncData), C8.Def K mg x st f fd ∧ L2.Binds K fd ps []

section
variable {P : Program} {w : World} {K : PySem.W.Frag} {mg : Str → Option Value} {base : Heap}
theorem cal {x : Str} {st : Stmt} {N ps : List Str} {k : Nat} {sp : Sp} (d : D0 K mg x st ps) (S : FnScope N ps (C8.fnScope st)) (len : ∀ vs H Q E, sp vs H Q E → vs.length = ps.length)
    (hbody : ∀ (cdv : Value) (A : Around) (outer : List Env) (f : Addr) (s : Shared) (H : Hp) (vs : List V) (Q : VK) (E : XK), Room k (A.deeper (envOfC x (C8.fnScope st) s.heap.objs.size f cdv)) → sp vs H Q E →
      ∃ t, PSs (cxOf C8.CX0 P w K mg base N x (C8.fnScope st) f cdv A outer s H E).nox (C8.fnBody st) t ∧ t { nx := fun _ H' => Q .non H', rt := Q } (start N vs) H) : Cal P w K mg base (k + 1) x sp [] := by
  obtain ⟨f, fd, D, b⟩ := d.ex
  exact cal0 D b .nil S len fun cdv A outer s H vs Q E hr h => hbody cdv A outer f s H vs Q E hr h
end

theorem pm {b : Int} (h : 0 < b) : 0 < b := h

abbrev s_law_mixed : Stmt := top 14
abbrev n_law_mixed : List Str := ["cell", "turn", "first", "other"]
theorem sc_law_mixed : FnScope n_law_mixed ["cell", "turn"] (C8.fnScope s_law_mixed) := ⟨rfl, rfl, rfl, by decide +kernel, rfl, by decide +kernel, by decide +kernel⟩

def spMixed : Sp := fun vs H Q _ => ∃ a t : Int, vs = [.int a, .int t] ∧ ∀ m : Int, 0 ≤ m → m < 2147483629 → Q (.int m) H

section
variable {P : Program} {w : World} {K : PySem.W.Frag} {mg : Str → Option Value} {base : Heap}
theorem c_mixed (T : Bl mg) (d : D0 K mg "_law_mixed" s_law_mixed ["cell", "turn"]) : Cal P w K mg base 1 "_law_mixed" spMixed [] := by
  refine cal d sc_law_mixed (fun vs H Q E h => ?_) (fun cdv A outer f s H vs Q E hr h => ?_)
  · obtain ⟨a, t, rfl, _⟩ := h
    rfl
  · obtain ⟨a, t, rfl, k⟩ := h
    have S := sc_law_mixed
    refine ⟨_, (pss_cons (ps_set (i := 2) S.nd rfl (Or.inl rfl) (pe_op op_mod (pe_callTy call_int1 (by rfl) T.int (by decide +kernel) (pa_cons (pe_op op_add (pe_op op_add (pe_op op_mul (pv 0) pe_int) (pe_op op_mul (pv 1) pe_int)) pe_int) pa_nil)) pe_int))
      (pss_cons (ps_set (i := 3) S.nd rfl (Or.inl rfl) (pe_op op_mod (pe_callTy call_int1 (by rfl) T.int (by decide +kernel) (pa_cons (pe_op op_add (pe_op op_add (pe_op op_mul (pv 2) (pv 2)) (pe_op op_mul (pv 1) pe_int)) pe_int) pa_nil)) pe_int))
      (pss_one (ps_ret (pe_op op_mod (pe_callTy call_int1 (by rfl) T.int (by decide +kernel) (pa_cons (pe_op op_add (pe_op op_add (pe_op op_mul (pv 3) (pv 3)) (pe_op op_mul (pv 2) pe_int)) (pv 1)) pa_nil)) pe_int))))), ?_⟩
    refine ⟨_, rfl, _, _, rfl, rfl, .inr ⟨by decide, by decide⟩, _, rfl, _, _, rfl, rfl, .inr ⟨by decide, by decide⟩, _, _, rfl, rfl, _, _, rfl, rfl, .inl ⟨_, rfl, _, _, rfl, rfl, pm (by decide), ?_⟩⟩
    refine ⟨_, rfl, _, rfl, _, _, rfl, rfl, .inl ⟨by omega, by omega⟩, _, rfl, _, _, rfl, rfl, .inr ⟨by decide, by decide⟩, _, _, rfl, rfl, _, _, rfl, rfl, .inl ⟨_, rfl, _, _, rfl, rfl, pm (by decide), ?_⟩⟩
    refine ⟨_, rfl, _, rfl, _, _, rfl, rfl, .inl ⟨by omega, by omega⟩, _, rfl, _, _, rfl, rfl, .inr ⟨by decide, by decide⟩, _, _, rfl, rfl, _, rfl, _, _, rfl, rfl, .inl ⟨_, rfl, _, _, rfl, rfl, pm (by decide), ?_⟩⟩
    exact k _ (by omega) (by omega)
end
end K01

set_option Elab.async false
set_option maxRecDepth 100000
set_option maxHeartbeats 4000000
namespace K01
open PySem PySem.Spec PyProof.Rows L2 C8

/-- all that was tracked, but the object at b, is as it was -/
def Sx (b : Addr) (H H' : Hp) : Prop := ∀ a o, H a = some o → a ≠ b → H' a = some o
theorem Sx.refl (b : Addr) (H : Hp) : Sx b H H := fun _ _ h _ => h
theorem Sx.trans {b : Addr} {H H1 H2 : Hp} (x : Sx b H H1) (y : Sx b H1 H2) : Sx b H H2 := fun a o h n => y a o (x a o h n) n
theorem Sx.upd {b : Addr} {H H1 : Hp} (x : Sx b H H1) (o : HO) : Sx b H (L2.upd H1 b o) := fun a u h n => by
  rw [upd_ne n]
  exact x a u h n

structure BagV (H : Hp) (b c : Addr) (cells : List Int) (p r t s : Int) : Prop where
  hb : H b = some (.lst [.ref c, .int p, .int r, .int t, .int s])
  hc : H c = some (.lst (cells.map V.int))
theorem BagV.ne {H : Hp} {b c : Addr} {cells : List Int} {p r t s : Int} (B : BagV H b c cells p r t s) : c ≠ b := by
  intro e
  have h := B.hc
  rw [e, B.hb] at h
  cases cells <;> simp at h
theorem BagV.set {H : Hp} {b c : Addr} {cells : List Int} {p r t s : Int} (B : BagV H b c cells p r t s) (p' r' t' s' : Int) : BagV (upd H b (.lst [.ref c, .int p', .int r', .int t', .int s'])) b c cells p' r' t' s' :=
  ⟨upd_same, by rw [upd_ne B.ne]; exact B.hc⟩
/-- the bag, between two draws -/
def Bag (H : Hp) (b c : Addr) : Prop := ∃ (cells : List Int) (p r t s : Int), BagV H b c cells p r t s ∧ 0 < cells.length ∧ 0 ≤ p

abbrev s_law_wide : Stmt := top 15
abbrev n_law_wide : List Str := ["cell", "turn", "many", "number", "k"]
theorem sc_law_wide : FnScope n_law_wide ["cell", "turn", "many"] (C8.fnScope s_law_wide) := ⟨rfl, rfl, rfl, by decide +kernel, rfl, by decide +kernel, by decide +kernel⟩
def spWide : Sp := fun vs H Q _ => ∃ a t m : Int, vs = [.int a, .int t, .int m] ∧ 0 < m ∧ ∀ d : Int, 0 ≤ d → d < m → Q (.int d) H

section
variable {P : Program} {w : World} {K : PySem.W.Frag} {mg : Str → Option Value} {base : Heap}
theorem c_wide (T : Bl mg) (c_law_mixed : Cal P w K mg base 1 "_law_mixed" spMixed []) (d : D0 K mg "_law_wide" s_law_wide ["cell", "turn", "many"]) : Cal P w K mg base 2 "_law_wide" spWide [] := by
  refine cal d sc_law_wide (fun vs H Q E h => ?_) (fun cdv A outer f s H vs Q E hr h => ?_)
  · obtain ⟨a, t, m, rfl, _⟩ := h
    rfl
  · obtain ⟨a, t, m, rfl, hm, k⟩ := h
    have S := sc_law_wide
    refine ⟨_, (pss_cons (ps_set (i := 3) S.nd rfl (Or.inl rfl) (pe_c c_law_mixed hr (by decide) rfl (pa_cons (pv 0) (pa_cons (pv 1) pa_nil))))
      (pss_cut (ps_if (pt_cmpR op_gt (pv 2) pe_int (nomark _)) (pss_one (ps_for PassesOwn.never rfl (pi_range2 rfl T.range (pa_cons pe_int (pa_cons pe_int pa_nil))) (pg_name (i := 4) S.nd rfl (Or.inl rfl)) (pss_one (ps_set (i := 3) S.nd rfl (Or.inl rfl) (pe_op op_add (pe_op op_mul (pv 3) pe_int) (pe_c c_law_mixed hr (by decide) rfl (pa_cons (pe_op op_add (pv 0) (pv 4)) (pa_cons (pe_op op_add (pv 1) (pe_op op_mul pe_int (pv 4))) pa_nil)))))))) pss_nil)
      (pss_one (ps_ret (pe_op op_mod (pe_callTy call_int1 (by rfl) T.int (by decide +kernel) (pa_cons (pv 3) pa_nil)) (pv 2)))))), ?_⟩
    refine ⟨_, rfl, _, rfl, _, _, rfl, fun n0 h0 h1 => ?_⟩
    refine ⟨fun σ H' => H' = H ∧ ∃ (n : Int) (q : Option V), σ = [some (.int a), some (.int t), some (.int m), some (.int n), q], ?_, ?_⟩
    · refine ⟨_, rfl, _, _, rfl, rfl, _, rfl, ?_⟩
      refine ite2 (fun _ => ?_) (fun _ => ⟨rfl, n0, _, rfl⟩)
      refine ⟨_, _, rfl, ⟨by decide, by decide, by decide, by decide⟩, ?_⟩
      refine for_range (lo := 1) (n := 7) (fun i σ H' => H' = H ∧ ∃ (n : Int) (q : Option V), σ = [some (.int a), some (.int t), some (.int m), some (.int n), q]) ⟨rfl, n0, _, rfl⟩ ?_ ?_
      · rintro i σ H' hi ⟨rfl, n, q, rfl⟩
        refine ⟨_, rfl, _, _, rfl, rfl, .inr ⟨by decide, by decide⟩, _, rfl, _, rfl, _, _, rfl, rfl, _, rfl, _, rfl, _, _, rfl, rfl, .inl ⟨by decide, by decide⟩, _, _, rfl, rfl, _, _, rfl, fun n1 _ _ => ?_⟩
        refine ⟨_, _, rfl, rfl, ?_⟩
        exact ⟨rfl, _, _, rfl⟩
      · rintro σ H' h
        exact h
    · rintro σ H' ⟨rfl, n, q, rfl⟩
      refine ⟨_, rfl, .inl ⟨_, rfl, _, rfl, _, _, rfl, rfl, hm, ?_⟩⟩
      exact k _ (Int.emod_nonneg _ (by omega)) (Int.emod_lt_of_pos _ hm)
end
end K01

set_option Elab.async false
set_option maxRecDepth 100000
set_option maxHeartbeats 4000000
set_option exponentiation.threshold 4096
namespace K01
open PySem PySem.Spec PyProof.Rows L2 C8

/-- a divisor that the machine's long division takes -/
theorem dvw {j : Int} (h : 0 < j) (h2 : j < 2 ^ 2000) (i : Int) : CDivW i j := by
  refine wide_div h (b := 2000) ?_ (by decide) (by decide)
  have e : (2 : Int) ^ 2000 = ((2 ^ 2000 : Nat) : Int) := by simp
  rw [e] at h2
  generalize (2 : Nat) ^ 2000 = z at h2 ⊢
  omega
theorem at_mod {α : Type} {xs : List α} (z : Int) (h : 0 < xs.length) : ∃ v, atI xs (z % (xs.length : Int)) = some v := by
  have h0 : 0 ≤ z % (xs.length : Int) := Int.emod_nonneg _ (by omega)
  have h1 : z % (xs.length : Int) < xs.length := Int.emod_lt_of_pos _ (by omega)
  obtain ⟨j, hj⟩ := Int.eq_ofNat_of_zero_le h0
  rw [hj] at h1 ⊢
  have hl : j < xs.length := by omega
  exact ⟨xs[j], atI_nat (List.getElem?_eq_getElem hl)⟩
theorem at_lt {α : Type} {xs : List α} {z : Int} (h0 : 0 ≤ z) (h1 : z < xs.length) : ∃ v, atI xs z = some v := by
  obtain ⟨j, rfl⟩ := Int.eq_ofNat_of_zero_le h0
  have hl : j < xs.length := by omega
  exact ⟨xs[j], atI_nat (List.getElem?_eq_getElem hl)⟩
theorem at_map {xs : List Int} {z : Int} {v : V} (h : atI (xs.map V.int) z = some v) : ∃ n : Int, v = .int n := by
  obtain ⟨j, _, e, _⟩ := atI_get h
  rw [List.getElem?_map] at e
  cases q : xs[j]? with
  | none => rw [q] at e; cases e
  | some n => rw [q] at e; exact ⟨n, (Option.some.inj e).symm⟩

abbrev s_law_pick : Stmt := top 16
abbrev n_law_pick : List Str := ["bag", "many", "cell", "digit"]
theorem sc_law_pick : FnScope n_law_pick ["bag", "many"] (C8.fnScope s_law_pick) := ⟨rfl, rfl, rfl, by decide +kernel, rfl, by decide +kernel, by decide +kernel⟩
def spPick : Sp := fun vs H Q _ => ∃ (b c : Addr) (m : Int), vs = [.ref b, .int m] ∧ Bag H b c ∧ m < 2 ^ 2000 ∧ ∀ (d : Int) (H' : Hp), 0 ≤ d → (d < m ∨ m < 2 ∧ d = 0) → Bag H' b c → Sx b H H' → Q (.int d) H'

section
variable {P : Program} {w : World} {K : PySem.W.Frag} {mg : Str → Option Value} {base : Heap}
theorem c_pick (T : Bl mg) (c_law_wide : Cal P w K mg base 2 "_law_wide" spWide []) (d : D0 K mg "_law_pick" s_law_pick ["bag", "many"]) : Cal P w K mg base 3 "_law_pick" spPick [] := by
  refine cal d sc_law_pick (fun vs H Q E h => ?_) (fun cdv A outer f s H vs Q E hr h => ?_)
  · obtain ⟨b, c, m, rfl, _⟩ := h
    rfl
  · obtain ⟨b, c, m, rfl, ⟨cells, p, r, t, sm, B, hl, hp⟩, hm2, k⟩ := h
    have S := sc_law_pick
    refine ⟨_, (pss_cons (ps_if (pt_cmpR op_lt (pv 1) pe_int (nomark _)) (pss_one (ps_ret pe_int)) pss_nil)
      (pss_cons (ps_asg (pe_op op_add (pe_ix ix_list (pv 0) pe_int (fun _ _ => rfl)) pe_int) (pg_sub (pv 0) pe_int set_list))
      (pss_cut (ps_if (pw_and (pt_cmpR op_lt (pe_ix ix_list (pv 0) pe_int (fun _ _ => rfl)) pe_int (nomark _)) (pw_and1 (pt_cmpR op_lt (pe_ix ix_list (pv 0) pe_int (fun _ _ => rfl)) (pe_callB call_len_seq (by rfl) T.len (by decide +kernel) (pa_cons (pe_ix ix_list (pv 0) pe_int (fun _ _ => rfl)) pa_nil)) (nomark _)))).pt (pss_cons (ps_set (i := 2) S.nd rfl (Or.inl rfl) (pe_ix ix_list (pe_ix ix_list (pv 0) pe_int (fun _ _ => rfl)) (pe_ix ix_list (pv 0) pe_int (fun _ _ => rfl)) (fun _ _ => rfl)))
      (pss_cons (ps_asg (pe_op op_add (pe_ix ix_list (pv 0) pe_int (fun _ _ => rfl)) pe_int) (pg_sub (pv 0) pe_int set_list))
      (pss_cons (ps_if (pt_cmpR op_lt (pv 2) (pe_op op_pow pe_int pe_int) (nomark _)) (pss_one (ps_ret (pe_c c_law_wide hr (by decide) rfl (pa_cons (pv 2) (pa_cons (pe_ix ix_list (pv 0) pe_int (fun _ _ => rfl)) (pa_cons (pv 1) pa_nil)))))) pss_nil)
      (pss_one (ps_asg (pv 2) (pg_sub (pv 0) pe_int set_list)))))) pss_nil)
      (pss_cons (ps_if (pt_cmpR op_gt (pe_ix ix_list (pv 0) pe_int (fun _ _ => rfl)) pe_int (nomark _)) (pss_cons (ps_set (i := 3) S.nd rfl (Or.inl rfl) (pe_op op_mod (pe_callTy call_int1 (by rfl) T.int (by decide +kernel) (pa_cons (pe_ix ix_list (pv 0) pe_int (fun _ _ => rfl)) pa_nil)) (pv 1)))
      (pss_cons (ps_asg (pe_op op_fdivW (pe_ix ix_list (pv 0) pe_int (fun _ _ => rfl)) (pv 1)) (pg_sub (pv 0) pe_int set_list))
      (pss_one (ps_ret (pv 3))))) pss_nil)
      (pss_cons (ps_set (i := 2) S.nd rfl (Or.inl rfl) (pe_op op_add (pe_ix ix_list (pe_ix ix_list (pv 0) pe_int (fun _ _ => rfl)) (pe_op op_mod (pe_callTy call_int1 (by rfl) T.int (by decide +kernel) (pa_cons (pe_ix ix_list (pv 0) pe_int (fun _ _ => rfl)) pa_nil)) (pe_callB call_len_seq (by rfl) T.len (by decide +kernel) (pa_cons (pe_ix ix_list (pv 0) pe_int (fun _ _ => rfl)) pa_nil))) (fun _ _ => rfl)) (pe_ix ix_list (pv 0) pe_int (fun _ _ => rfl))))
      (pss_one (ps_ret (pe_c c_law_wide hr (by decide) rfl (pa_cons (pv 2) (pa_cons (pe_ix ix_list (pv 0) pe_int (fun _ _ => rfl)) (pa_cons (pv 1) pa_nil))))))))))), ?_⟩
    refine ⟨_, rfl, _, _, rfl, rfl, _, rfl, ite2 (fun hlt => ?_) (fun hge => ?_)⟩
    · exact k 0 H (by decide) (.inr ⟨of_decide_eq_true hlt, rfl⟩) ⟨cells, p, r, t, sm, B, hl, hp⟩ (Sx.refl b H)
    have hm : 2 ≤ m := by
      have := mt decide_eq_true hge
      omega
    refine ⟨_, rfl, _, _, _, _, rfl, rfl, SqL.of B.hb, rfl, _, _, rfl, rfl, _, rfl, _, _, _, 3, rfl, rfl, B.hb, rfl, ?_⟩
    have B1 := B.set p r (t + 1) sm
    have X1 := (Sx.refl b H).upd (.lst [.ref c, .int p, .int r, .int (t + 1), .int sm])
    refine ⟨fun σ H' => ∃ (p' r' : Int) (q : Option V), σ = [some (.ref b), some (.int m), q, none] ∧ BagV H' b c cells p' r' (t + 1) sm ∧ 0 ≤ p' ∧ Sx b H H', ?_, ?_⟩
    · refine ⟨_, rfl, _, _, _, _, rfl, rfl, SqL.of B1.hb, rfl, _, _, rfl, rfl, _, rfl, ite2 (fun hlt => ?_) (fun hge => ?_)⟩
      rotate_left
      · exact iteF ⟨p, r, _, rfl, B1, hp, X1⟩
      refine ⟨_, rfl, _, _, _, _, rfl, rfl, SqL.of B1.hb, rfl, _, rfl, _, _, _, _, rfl, rfl, SqL.of B1.hb, rfl, _, _, rfl, .inl (SqL.of B1.hc), _, _, rfl, rfl, _, rfl, ite2 (fun hin => ?_) (fun hout => ?_)⟩
      rotate_left
      · exact ⟨p, r, _, rfl, B1, hp, X1⟩
      have hin' : p < ((cells.map V.int).length : Int) := of_decide_eq_true hin
      obtain ⟨cv, hcv⟩ := at_lt hp hin'
      obtain ⟨cell, rfl⟩ := at_map hcv
      refine ⟨_, rfl, _, _, _, _, rfl, rfl, SqL.of B1.hb, rfl, _, rfl, _, _, _, _, rfl, rfl, SqL.of B1.hb, rfl, _, _, _, _, rfl, rfl, SqL.of B1.hc, hcv, ?_⟩
      refine ⟨_, rfl, _, _, _, _, rfl, rfl, SqL.of B1.hb, rfl, _, _, rfl, rfl, _, rfl, _, _, _, 1, rfl, rfl, B1.hb, rfl, ?_⟩
      have B2 := B1.set (p + 1) r (t + 1) sm
      have X2 := X1.upd (.lst [.ref c, .int (p + 1), .int r, .int (t + 1), .int sm])
      refine ⟨_, rfl, _, _, rfl, rfl, ⟨by decide, by decide, by decide⟩, _, _, rfl, rfl, _, rfl, ite2 (fun hs => ?_) (fun hb => ?_)⟩
      · refine ⟨_, rfl, _, rfl, _, _, _, _, rfl, rfl, SqL.of B2.hb, rfl, _, rfl, _, _, _, rfl, by omega, fun d h0 h1 => ?_⟩
        exact k d _ h0 (.inl h1) ⟨cells, p + 1, r, t + 1, sm, B2, hl, by omega⟩ X2
      · refine ⟨_, rfl, _, rfl, _, _, _, 2, rfl, rfl, B2.hb, rfl, ?_⟩
        exact ⟨p + 1, cell, _, rfl, B2.set (p + 1) cell (t + 1) sm, by omega, X2.upd _⟩
    · rintro σ H2 ⟨p', r', q, rfl, B2, hp', X2⟩
      refine ⟨_, rfl, _, _, _, _, rfl, rfl, SqL.of B2.hb, rfl, _, _, rfl, rfl, _, rfl, ite2 (fun hgt => ?_) (fun hle => ?_)⟩
      · refine ⟨_, rfl, _, _, _, _, rfl, rfl, SqL.of B2.hb, rfl, .inl ⟨_, rfl, _, rfl, _, _, rfl, rfl, pm (by omega), ?_⟩⟩
        refine ⟨_, rfl, _, _, _, _, rfl, rfl, SqL.of B2.hb, rfl, _, rfl, _, _, rfl, rfl, dvw (by omega) hm2 _, _, rfl, _, _, _, 2, rfl, rfl, B2.hb, rfl, _, rfl, ?_⟩
        exact k _ _ (Int.emod_nonneg _ (by omega)) (.inl (Int.emod_lt_of_pos _ (by omega))) ⟨cells, p', r' / m, t + 1, sm, B2.set p' (r' / m) (t + 1) sm, hl, hp'⟩ (X2.upd _)
      · have hl' : 0 < (cells.map V.int).length := by rw [List.length_map]; exact hl
        obtain ⟨cv, hcv⟩ := at_mod (xs := cells.map V.int) (t + 1) hl'
        obtain ⟨cell, rfl⟩ := at_map hcv
        refine ⟨_, rfl, _, _, _, _, rfl, rfl, SqL.of B2.hb, rfl, _, rfl, _, _, _, _, rfl, rfl, SqL.of B2.hb, rfl, .inl ⟨_, rfl, _, rfl, _, _, _, _, rfl, rfl, SqL.of B2.hb, rfl, _, _, rfl, .inl (SqL.of B2.hc), _, _, rfl, rfl, pm (by omega), _, _, _, _, rfl, rfl, SqL.of B2.hc, hcv, ?_⟩⟩
        refine ⟨_, rfl, _, _, _, _, rfl, rfl, SqL.of B2.hb, rfl, _, _, rfl, rfl, ?_⟩
        refine ⟨_, rfl, _, rfl, _, _, _, _, rfl, rfl, SqL.of B2.hb, rfl, _, rfl, _, _, _, rfl, by omega, fun d h0 h1 => ?_⟩
        exact k d _ h0 (.inl h1) ⟨cells, p', r', t + 1, sm, B2, hl, hp'⟩ X2
end
end K01

set_option Elab.async false
set_option maxRecDepth 100000
set_option maxHeartbeats 4000000
namespace K01
open PySem PySem.Spec PyProof.Rows L2 C8

/-- all that was tracked is as it was, or new -/
theorem Sx.new {b : Addr} {H H1 : Hp} {p : Addr} (x : Sx b H H1) (n : H1 p = none) (o : HO) : Sx b H (L2.upd H1 p o) := fun a u h q => by
  rw [upd_ne (ne_of_none (x a u h q) n)]
  exact x a u h q
theorem BagV.new {H : Hp} {b c : Addr} {cells : List Int} {p r t s : Int} (B : BagV H b c cells p r t s) {q : Addr} (n : H q = none) (o : HO) : BagV (upd H q o) b c cells p r t s :=
  ⟨by rw [upd_ne (ne_of_none B.hb n)]; exact B.hb, by rw [upd_ne (ne_of_none B.hc n)]; exact B.hc⟩
theorem Bag.new {H : Hp} {b c : Addr} (B : Bag H b c) {q : Addr} (n : H q = none) (o : HO) : Bag (upd H q o) b c := by
  obtain ⟨cells, p, r, t, s, B, h⟩ := B
  exact ⟨cells, p, r, t, s, B.new n o, h⟩
theorem Bag.at_ {H : Hp} {b c : Addr} (B : Bag H b c) : ∃ o, H b = some o := by
  obtain ⟨cells, p, r, t, s, B, h⟩ := B
  exact ⟨_, B.hb⟩
theorem Bag.in_ {H : Hp} {b c : Addr} (B : Bag H b c) : ∃ o, H c = some o := by
  obtain ⟨cells, p, r, t, s, B, h⟩ := B
  exact ⟨_, B.hc⟩
/-- a store elsewhere -/
theorem Bag.off {H : Hp} {b c : Addr} (B : Bag H b c) {q : Addr} (n1 : q ≠ b) (n2 : q ≠ c) (o : HO) : Bag (upd H q o) b c := by
  obtain ⟨cells, p, r, t, s, B, h⟩ := B
  exact ⟨cells, p, r, t, s, ⟨by rw [upd_ne n1.symm]; exact B.hb, by rw [upd_ne n2.symm]; exact B.hc⟩, h⟩

abbrev s_law_bag : Stmt := top 13
abbrev n_law_bag : List Str := ["script", "cells"]
theorem sc_law_bag : FnScope n_law_bag ["script"] (C8.fnScope s_law_bag) := ⟨rfl, rfl, rfl, by decide +kernel, rfl, by decide +kernel, by decide +kernel⟩
def spBag (K : PySem.W.Frag) : Sp := fun vs H Q _ => ∃ (a : Addr) (ns : List Int), vs = [.ref a] ∧ SqL K H a (ns.map V.int) ∧ ∀ (b c : Addr) (H' : Hp), H b = none → Bag H' b c → Same H H' → Q (.ref b) H'
theorem cut_map (ns : List Int) (lo hi : Option Int) : ∃ ms : List Int, cutV (ns.map V.int) lo hi = ms.map V.int ∧ ms.length ≤ ns.length := by
  refine ⟨((ns.drop (HT.sIx ns.length 0 lo)).take (HT.sIx ns.length ns.length hi - HT.sIx ns.length 0 lo)), ?_, ?_⟩
  · unfold cutV
    rw [List.length_map, List.map_take, List.map_drop]
  · rw [List.length_take, List.length_drop]
    omega

section
variable {P : Program} {w : World} {K : PySem.W.Frag} {mg : Str → Option Value} {base : Heap}
theorem c_bag (T : Bl mg) (d : D0 K mg "_law_bag" s_law_bag ["script"]) : Cal P w K mg base 1 "_law_bag" (spBag K) [] := by
  refine cal d sc_law_bag (fun vs H Q E h => ?_) (fun cdv A outer f s H vs Q E hr h => ?_)
  · obtain ⟨a, ns, rfl, _⟩ := h
    rfl
  · obtain ⟨a, ns, rfl, hs, k⟩ := h
    have S := sc_law_bag
    refine ⟨_, (pss_cons (ps_set (i := 1) S.nd rfl (Or.inl rfl) (pe_callTy call_list_of (by rfl) T.list (by decide +kernel) (pa_cons (pe_slice sl_list (pv 0) po_none (po_some pe_int)) pa_nil)))
      (pss_cut (ps_if (pt_cmpR op_eq (pe_callB call_len_seq (by rfl) T.len (by decide +kernel) (pa_cons (pv 1) pa_nil)) pe_int (nomark _)) (pss_one (ps_set (i := 1) S.nd rfl (Or.inl rfl) (pe_lst (pa_cons pe_int pa_nil)))) pss_nil)
      (pss_one (ps_ret (pe_lst (pa_cons (pv 1) (pa_cons pe_int (pa_cons pe_int (pa_cons pe_int (pa_cons (pe_callB (cr_sum rfl) (by rfl) T.sum (by decide +kernel) (pa_cons (pv 1) pa_nil)) pa_nil)))))))))), ?_⟩
    obtain ⟨ms, em, _⟩ := cut_map ns none (some 63)
    refine ⟨_, rfl, _, rfl, _, _, rfl, hs, fun p np => ?_⟩
    refine ⟨_, _, rfl, .inl (SqL.of upd_same), fun l nl => ?_⟩
    rw [em] at nl ⊢
    have s1 : Same H (upd (upd H p (.lst (ms.map V.int))) l (.lst (ms.map V.int))) := fun c o h => by
      have e : upd H p (.lst (ms.map V.int)) c = some o := by rw [upd_ne (ne_of_none h np)]; exact h
      rw [upd_ne (ne_of_none e nl)]
      exact e
    refine ⟨fun σ H' => ∃ (c : Addr) (cs : List Int), σ = [some (.ref a), some (.ref c)] ∧ H' c = some (.lst (cs.map V.int)) ∧ 0 < cs.length ∧ Same H H', ?_, ?_⟩
    · refine ⟨_, rfl, _, _, rfl, .inl (SqL.of upd_same), rfl, _, rfl, ite2 (fun h0 => ?_) (fun h1 => ?_)⟩
      · refine ⟨by show 1 ≤ sizeLine; decide, fun q nq => ?_⟩
        refine ⟨q, [0], rfl, upd_same, by decide, fun c o h => ?_⟩
        rw [upd_ne (ne_of_none (s1 c o h) nq)]
        exact s1 c o h
      · refine ⟨l, ms, rfl, upd_same, ?_, s1⟩
        have e := mt decide_eq_true h1
        rw [List.length_map] at e
        cases ms with
        | nil => exact absurd rfl e
        | cons => exact Nat.succ_pos _
    · rintro σ H2 ⟨c, cs, rfl, hc, hl, s2⟩
      refine ⟨_, rfl, _, rfl, _, _, rfl, SqL.of hc, ?_⟩
      refine ⟨by show 5 ≤ sizeLine; decide, fun b nb => ?_⟩
      have nH : H b = none := s2.free nb
      refine k b c _ nH ⟨cs, 0, 0, 0, _, ⟨upd_same, by rw [upd_ne (ne_of_none hc nb)]; exact hc⟩, hl, by decide⟩ fun d o h => ?_
      rw [upd_ne (ne_of_none (s2 d o h) nb)]
      exact s2 d o h
end
end K01

set_option Elab.async false
set_option maxRecDepth 100000
set_option maxHeartbeats 4000000
namespace K01
open PySem PySem.Spec PyProof.Rows L2 C8

abbrev s_is_integer : Stmt := top 5
abbrev n_is_integer : List Str := ["value"]
theorem sc_is_integer : FnScope n_is_integer ["value"] (C8.fnScope s_is_integer) := ⟨rfl, rfl, rfl, by decide +kernel, rfl, by decide +kernel, by decide +kernel⟩
abbrev s_law_whole : Stmt := top 17
theorem sc_law_whole : FnScope n_is_integer ["value"] (C8.fnScope s_law_whole) := ⟨rfl, rfl, rfl, by decide +kernel, rfl, by decide +kernel, by decide +kernel⟩
def spInt : Sp := fun vs H Q _ => ∃ n : Int, vs = [.int n] ∧ Q (.bl true) H
abbrev s_check_field : Stmt := top 8
abbrev n_check_field : List Str := ["field", "value", "least", "most"]
theorem sc_check_field : FnScope n_check_field ["field", "value", "least", "most"] (C8.fnScope s_check_field) := ⟨rfl, rfl, rfl, by decide +kernel, rfl, by decide +kernel, by decide +kernel⟩
def spCheck : Sp := fun vs H Q _ => ∃ (x : Str) (v l m : Int), vs = [.str x, .int v, .int l, .int m] ∧ l ≤ v ∧ v ≤ m ∧ Q .non H

section
variable {P : Program} {w : World} {K : PySem.W.Frag} {mg : Str → Option Value} {base : Heap}
theorem c_is_integer (T : Bl mg) (d : D0 K mg "is_integer" s_is_integer ["value"]) : Cal P w K mg base 1 "is_integer" spInt [] := by
  refine cal d sc_is_integer (fun vs H Q E h => ?_) (fun cdv A outer f s H vs Q E hr h => ?_)
  · obtain ⟨n, rfl, _⟩ := h
    rfl
  · obtain ⟨n, rfl, k⟩ := h
    refine ⟨_, (pss_one (ps_ret (pe_and (pe_callB call_isi (by rfl) T.isinstance (by decide +kernel) (pa_cons (pv 0) (pa_cons (pe_bltn (v := .ty "int") (by rfl) T.int (by decide +kernel) rfl) pa_nil))) (pe_one (pe_not (pe_callB call_isi (by rfl) T.isinstance (by decide +kernel) (pa_cons (pv 0) (pa_cons (pe_bltn (v := .ty "bool") (by rfl) T.bool (by decide +kernel) rfl) pa_nil)))))))), ?_⟩
    refine ⟨_, rfl, _, _, _, _, true, rfl, .ty _, .base (.int _), kit_ty (by decide +kernel), _, rfl, iteT ?_⟩
    exact ⟨_, rfl, _, _, _, _, false, rfl, .ty _, .base (.int _), kit_ty (by decide +kernel), _, rfl, k⟩
theorem c_whole (T : Bl mg) (d : D0 K mg "_law_whole" s_law_whole ["value"]) : Cal P w K mg base 1 "_law_whole" spInt [] := by
  refine cal d sc_law_whole (fun vs H Q E h => ?_) (fun cdv A outer f s H vs Q E hr h => ?_)
  · obtain ⟨n, rfl, _⟩ := h
    rfl
  · obtain ⟨n, rfl, k⟩ := h
    refine ⟨_, (pss_one (ps_ret (pe_and (pe_callB call_isi (by rfl) T.isinstance (by decide +kernel) (pa_cons (pv 0) (pa_cons (pe_bltn (v := .ty "int") (by rfl) T.int (by decide +kernel) rfl) pa_nil))) (pe_one (pe_not (pe_callB call_isi (by rfl) T.isinstance (by decide +kernel) (pa_cons (pv 0) (pa_cons (pe_bltn (v := .ty "bool") (by rfl) T.bool (by decide +kernel) rfl) pa_nil)))))))), ?_⟩
    refine ⟨_, rfl, _, _, _, _, true, rfl, .ty _, .base (.int _), kit_ty (by decide +kernel), _, rfl, iteT ?_⟩
    exact ⟨_, rfl, _, _, _, _, false, rfl, .ty _, .base (.int _), kit_ty (by decide +kernel), _, rfl, k⟩
theorem c_check_field (T : Bl mg) (c_is_integer : Cal P w K mg base 1 "is_integer" spInt []) (d : D0 K mg "check_field" s_check_field ["field", "value", "least", "most"]) : Cal P w K mg base 2 "check_field" spCheck [] := by
  refine cal d sc_check_field (fun vs H Q E h => ?_) (fun cdv A outer f s H vs Q E hr h => ?_)
  · obtain ⟨x, v, l, m, rfl, _⟩ := h
    rfl
  · obtain ⟨x, v, l, m, rfl, h1, h2, k⟩ := h
    refine ⟨_, (pss_one (ps_if (pt_not (PW.pt (pw_and (pt_val (pe_c c_is_integer hr (by decide) rfl (pa_cons (pv 1) pa_nil))) (pw_and1 (pt_chain op_le op_le (pv 2) (pv 1) (pv 3)))))) (pss_one (ps_never)) pss_nil)), ?_⟩
    refine ⟨_, rfl, _, rfl, _, rfl, iteT ?_⟩
    refine ⟨_, rfl, _, rfl, _, _, rfl, rfl, _, rfl, ?_⟩
    rw [if_pos (decide_eq_true h1)]
    refine ⟨_, rfl, _, _, rfl, rfl, _, rfl, ?_⟩
    rw [decide_eq_true h2]
    exact k
end

/-! ### settings -/
/-- a setting of so many bits stands at q -/
def SetAt (C : Addr) (H : Hp) (q : Addr) (n : Nat) : Prop := ∃ (dx : Addr) (fs : List (Str × V)), H q = some (.ins C dx fs) ∧ fs.lookup ("bits" : Str) = some (.int (n : Int)) ∧ fs.lookup ("seats" : Str) = none
abbrev s_init : Stmt := inClass (top 7) 5
abbrev n_init : List Str := ["self", "bits", "patience", "room", "grace", "helpers"]
theorem sc_init : FnScope n_init ["self", "bits", "patience", "room", "grace", "helpers"] (C8.fnScope s_init) := ⟨rfl, rfl, rfl, by decide +kernel, rfl, by decide +kernel, by decide +kernel⟩
abbrev s_seats : Stmt := inClass (top 7) 6
theorem sc_seats : FnScope ["self"] ["self"] (C8.fnScope s_seats) := ⟨rfl, rfl, rfl, by decide +kernel, rfl, by decide +kernel, by decide +kernel⟩
structure SetT (K : PySem.W.Frag) (mg : Str → Option Value) (C : Addr) : Prop where
  cl : Cls K C
  n1 : NoAttr K C "bits"
  n2 : NoAttr K C "patience"
  n3 : NoAttr K C "room"
  n4 : NoAttr K C "grace"
  n5 : NoAttr K C "helpers"
  k1 : ∃ u, Con K C "MOST_BITS" (.int 8) u
  k2 : ∃ u, Con K C "MOST_PATIENCE" (.int 6) u
  k3 : ∃ u, Con K C "MOST_ROOM" (.int 64) u
  k4 : ∃ u, Con K C "MOST_GRACE" (.int 200) u
  k5 : ∃ u, Con K C "MOST_HELPERS" (.int 3) u
  mgC : mg "Setting" = some (.ref C)
  ini : ∃ (f : Addr) (fd : FuncData), Mk K C f ∧ FunD K "__init__" "Setting.__init__" (C8.fnArgs s_init) (C8.fnBody s_init) (C8.fnScope s_init) [] [("grace", .int 6), ("helpers", .int 1)] f fd
  sea : ∃ (p g : Addr) (fd : FuncData), PropOf K C "seats" p g ∧ C8.Fun K "seats" "Setting.seats" s_seats g fd ∧ L2.Binds K fd ["self"] []
def spInit (C : Addr) : Sp := fun vs H Q _ => ∃ (q dx : Addr) (n p r g h : Int), vs = [.ref q, .int n, .int p, .int r, .int g, .int h] ∧ H q = some (.ins C dx []) ∧ 1 ≤ n ∧ n ≤ 8 ∧ 1 ≤ p ∧ p ≤ 6 ∧ 1 ≤ r ∧ r ≤ 64 ∧ 1 ≤ g ∧ g ≤ 200 ∧ 0 ≤ h ∧ h ≤ 3 ∧
  ∀ H' : Hp, SetAt C H' q n.toNat → (∀ b o, H b = some o → b ≠ q → H' b = some o) → Q .non H'
def spSeats (C : Addr) : Sp := fun vs H Q _ => ∃ (q : Addr) (n : Nat), vs = [.ref q] ∧ SetAt C H q n ∧ n ≤ 8 ∧ Q (.int ((2 ^ n : Nat) : Int)) H

theorem putF_len (f : Str) (v : V) : ∀ fs : List (Str × V), (putF f v fs).length ≤ fs.length + 1
  | [] => Nat.le_refl _
  | (g, x) :: r => by
    unfold putF
    split
    · exact Nat.le_succ _
    · exact Nat.succ_le_succ (putF_len f v r)
section
variable {P : Program} {w : World} {K : PySem.W.Frag} {mg : Str → Option Value} {base : Heap} {C : Addr}
theorem f_init (ST : SetT K mg C) (c_check_field : Cal P w K mg base 2 "check_field" spCheck []) : ∃ (f : Addr) (fd : FuncData), Mk K C f ∧ FnOk P w K mg base C8.CX0 3 f fd ["self", "bits", "patience", "room", "grace", "helpers"] (spInit C) ∧
    ∃ ds, Vals [V.int 6, V.int 1] ds ∧ L2.Binds K fd ["self", "bits", "patience", "room", "grace", "helpers"] ds := by
  obtain ⟨f, fd, M, F⟩ := ST.ini
  refine ⟨f, fd, M, ?_, ?_⟩
  · refine F.ok (N := n_init) sc_init (fun vs H Q E h => ?_) (fun cdv A outer s H vs Q E hr h => ?_)
    · obtain ⟨q, dx, n, p, r, g, h, rfl, _⟩ := h
      rfl
    · obtain ⟨q, dx, n, p, r, g, h, rfl, hq, a1, a2, a3, a4, a5, a6, a7, a8, a9, a10, k⟩ := h
      obtain ⟨u1, k1⟩ := ST.k1
      obtain ⟨u2, k2⟩ := ST.k2
      obtain ⟨u3, k3⟩ := ST.k3
      obtain ⟨u4, k4⟩ := ST.k4
      obtain ⟨u5, k5⟩ := ST.k5
      refine ⟨_, PSs.nox (pss_cons (ps_expr (pe_c c_check_field hr (by decide) rfl (pa_cons pe_str (pa_cons (pv 1) (pa_cons pe_int (pa_cons (pe_con (pv 0) rfl) pa_nil))))))
        (pss_cons (ps_expr (pe_c c_check_field hr (by decide) rfl (pa_cons pe_str (pa_cons (pv 2) (pa_cons pe_int (pa_cons (pe_con (pv 0) rfl) pa_nil))))))
        (pss_cons (ps_expr (pe_c c_check_field hr (by decide) rfl (pa_cons pe_str (pa_cons (pv 3) (pa_cons pe_int (pa_cons (pe_con (pv 0) rfl) pa_nil))))))
        (pss_cons (ps_expr (pe_c c_check_field hr (by decide) rfl (pa_cons pe_str (pa_cons (pv 4) (pa_cons pe_int (pa_cons (pe_con (pv 0) rfl) pa_nil))))))
        (pss_cons (ps_expr (pe_c c_check_field hr (by decide) rfl (pa_cons pe_str (pa_cons (pv 5) (pa_cons pe_int (pa_cons (pe_con (pv 0) rfl) pa_nil))))))
        (pss_cons (ps_fld (pv 0) (pv 1) rfl)
        (pss_cons (ps_fld (pv 0) (pv 2) rfl)
        (pss_cons (ps_fld (pv 0) (pv 3) rfl)
        (pss_cons (ps_fld (pv 0) (pv 4) rfl)
        (pss_one (ps_fld (pv 0) (pv 5) rfl))))))))))), ?_⟩
      refine ⟨_, rfl, _, rfl, q, C, dx, [], _, u1, rfl, hq, ST.cl, k1, rfl, _, _, _, _, rfl, a1, a2, ?_⟩
      refine ⟨_, rfl, _, rfl, q, C, dx, [], _, u2, rfl, hq, ST.cl, k2, rfl, _, _, _, _, rfl, a3, a4, ?_⟩
      refine ⟨_, rfl, _, rfl, q, C, dx, [], _, u3, rfl, hq, ST.cl, k3, rfl, _, _, _, _, rfl, a5, a6, ?_⟩
      refine ⟨_, rfl, _, rfl, q, C, dx, [], _, u4, rfl, hq, ST.cl, k4, rfl, _, _, _, _, rfl, a7, a8, ?_⟩
      refine ⟨_, rfl, _, rfl, q, C, dx, [], _, u5, rfl, hq, ST.cl, k5, rfl, _, _, _, _, rfl, a9, a10, ?_⟩
      refine ⟨_, rfl, _, rfl, q, C, dx, [], rfl, hq, ST.cl, ST.n1, by show 0 < 1000; decide, ?_⟩
      generalize e1 : putF ("bits" : Str) (V.int n) [] = f1
      refine ⟨_, rfl, _, rfl, q, C, dx, f1, rfl, upd_same, ST.cl, ST.n2, by subst e1; show 1 < 1000; decide, ?_⟩
      generalize e2 : putF ("patience" : Str) (V.int p) f1 = f2
      have l1 : f1.length ≤ 1 := by subst e1; exact putF_len _ _ _
      have l2 : f2.length ≤ 2 := by subst e2; exact Nat.le_trans (putF_len _ _ _) (by omega)
      refine ⟨_, rfl, _, rfl, q, C, dx, f2, rfl, upd_same, ST.cl, ST.n3, by omega, ?_⟩
      generalize e3 : putF ("room" : Str) (V.int r) f2 = f3
      have l3 : f3.length ≤ 3 := by subst e3; exact Nat.le_trans (putF_len _ _ _) (by omega)
      refine ⟨_, rfl, _, rfl, q, C, dx, f3, rfl, upd_same, ST.cl, ST.n4, by omega, ?_⟩
      generalize e4 : putF ("grace" : Str) (V.int g) f3 = f4
      have l4 : f4.length ≤ 4 := by subst e4; exact Nat.le_trans (putF_len _ _ _) (by omega)
      refine ⟨_, rfl, _, rfl, q, C, dx, f4, rfl, upd_same, ST.cl, ST.n5, by omega, ?_⟩
      have hb : (putF ("helpers" : Str) (V.int h) f4).lookup ("bits" : Str) = some (V.int ((n.toNat : Nat) : Int)) := by
        rw [Int.toNat_of_nonneg (by omega), lookup_putF, if_neg (by decide +kernel), ← e4, lookup_putF, if_neg (by decide +kernel), ← e3, lookup_putF, if_neg (by decide +kernel), ← e2, lookup_putF, if_neg (by decide +kernel), ← e1, lookup_putF, if_pos rfl]
      have hs : (putF ("helpers" : Str) (V.int h) f4).lookup ("seats" : Str) = none := by
        rw [lookup_putF, if_neg (by decide +kernel), ← e4, lookup_putF, if_neg (by decide +kernel), ← e3, lookup_putF, if_neg (by decide +kernel), ← e2, lookup_putF, if_neg (by decide +kernel), ← e1, lookup_putF, if_neg (by decide +kernel)]
        rfl
      refine k _ ⟨dx, _, upd_same, hb, hs⟩ fun b o e ne => ?_
      rw [upd_ne ne, upd_ne ne, upd_ne ne, upd_ne ne, upd_ne ne]
      exact e
  · exact F.binds0 4 (by decide) rfl (fun D doc pm an cdv ct us ks hl hk => match us, hl, ks, hk with
      | [_, _, _, _], _, [_, _], _ => ⟨_, _, _, _, _, _, rfl, rfl, ⟨_, _, _, _, _, _, rfl, rfl, rfl⟩⟩)
theorem c_Setting (ST : SetT K mg C) (c_check_field : Cal P w K mg base 2 "check_field" spCheck []) : Mak P w K mg base 3 "Setting" C (spInit C) [.int 6, .int 1] := by
  obtain ⟨f, fd, M, F, ds, r, b⟩ := f_init (P := P) (w := w) (base := base) ST c_check_field
  exact ⟨f, fd, _, ds, M, F, ST.mgC, b, r⟩
end
end K01

set_option Elab.async false
set_option maxRecDepth 100000
set_option maxHeartbeats 4000000
/-! min(held, key=lambda a: .., default=None) over a list of ints, the key an int that changes nothing. -/
namespace MinL
open PySem PySem.Spec PyProof.Rows L2 LamX

section
variable {X : Cx} {pins : List (Addr × Obj)} {σ : L2.St} {H : Hp} {s : Shared}
/-- one more object is pinned -/
theorem pinOne {b : Addr} {o : Obj} (I : Inv X pins σ H s) (F : FpOk X pins H b) (ho : s.heap.get? b = some o) (nc : ∀ v, o.data ≠ .cell v) : Inv X ((b, o) :: pins) σ H s := by
  refine I.pins_of fun p hp => ?_
  cases hp with
  | head => exact ⟨ho, F.1, F.2.1, F.2.2.1, nc⟩
  | tail _ hp => exact I.pin p (List.mem_append_right _ hp)
theorem unpinOne {q : Addr × Obj} (I : Inv X (q :: pins) σ H s) : Inv X pins σ H s := I.pins_of fun p hp => I.pin p (List.mem_append_right _ (.tail _ hp))
theorem pinGet {b : Addr} {o : Obj} (I : Inv X pins σ H s) (h : (b, o) ∈ pins) : s.heap.get? b = some o := (I.pin (b, o) (List.mem_append_right _ h)).1
/-- an object of the rule's own turns -/
theorem turnOne {b : Addr} {h' : Heap} {t' : Nat} (I : Inv X pins σ H s) (F : FpOk X pins H b) (k : ∀ a o, a ≠ b → s.heap.get? a = some o → h'.get? a = some o) : Inv X pins σ H { s with heap := h', toks := t' } :=
  I.turned k F.1 F.2.1 F.2.2.2.1 F.2.2.2.2.1 F.2.2.2.2.2
theorem isl_of {h : Heap} {a : Addr} {its : Array Value} (p : PlainL h a its) : h.IsList a its :=
  let ⟨o, n, e, c, _, d⟩ := p
  ⟨o, e, c, n, d⟩
theorem ints_at {ns : List Int} {its : List Value} {i : Nat} {u : Value} (r : Vals (ns.map V.int) its) (h : its[i]? = some u) : ∃ n t, ns[i]? = some n ∧ u = .int n t := by
  have hl : i < its.length := (List.getElem?_eq_some_iff.mp h).1
  have hn : i < ns.length := by
    have e := r.length
    rw [List.length_map] at e
    omega
  have e1 : (ns.map V.int)[i]? = some (V.int ns[i]) := by
    rw [List.getElem?_map, List.getElem?_eq_getElem hn]
    rfl
  obtain ⟨u', hu, rv⟩ := r.get e1
  rw [h] at hu
  cases hu
  obtain ⟨t, e⟩ := (show ∃ t, u = Value.int ns[i] t from rv)
  exact ⟨_, t, List.getElem?_eq_getElem hn, e⟩

/-- what one call of the key does, whatever else is pinned -/
def KeyTurn (X : Cx) (σ : L2.St) (H : Hp) (q : Addr) (fo : Obj) (ns : List Int) (kf : Int → Int) : Prop :=
  ∀ (n : Int) (t : Tok) (pp : List (Addr × Obj)) (s : Shared), n ∈ ns → (q, fo) ∈ pp → Inv X pp σ H s →
    wpAny (model X.prog X.w) X.A.in1 (call (.ref q) [.int n t]) (fun u s' => (∃ t', u = .int (kf n) t') ∧ Inv X pp σ H s') (fun _ _ => False) s

theorem minLoop {l I S q : Addr} {fo : Obj} {ns : List Int} {kf : Int → Int} {kwd : List (Str × Value)} {R : Result → Shared → Prop} {pp : List (Addr × Obj)} (hh : X.A.handled = none) (hl : H l = some (.lst (ns.map V.int))) (turn : KeyTurn X σ H q fo ns kf)
    (hq : (q, fo) ∈ pp) (FI : FpOk X pp H I) (FS : FpOk X pp H S) (hSI : S ≠ I)
    (done : ∀ (m : Int) (t : Tok) (s' : Shared), m ∈ ns → (∀ n ∈ ns, kf m ≤ kf n) → Inv X pp σ H s' → R (.ok (.ret (.int m t))) s') :
    ∀ (r j : Nat) (m : Int) (s : Shared) (tv tb : Tok) (c : Nat), ns.length - (j + 1) = r → j + 1 ≤ ns.length → m ∈ ns → (∀ (i : Nat) (n : Int), i ≤ j → ns[i]? = some n → kf m ≤ kf n) → Inv X pp σ H s →
      s.heap.get? S = some (seqObj "list" #[.int m tv, .int (kf m) tb] c) → s.heap.IsListIter I l (j + 1) → codeAny (model X.prog X.w) X.A (.builtin "min.loop" ⟨[.ref I, .ref q, .ref S], kwd⟩) R s := by
  have nm : (toString "min" ++ toString ".loop" : String) = "min.loop" := by decide
  have lI : l ≠ I := ne_of_none hl FI.1
  have lS : l ≠ S := ne_of_none hl FS.1
  intro r
  induction r with
  | zero =>
    intro j m s tv tb c hr hj hm best IV hS hit
    obtain ⟨its, rv, pl, hz⟩ := IV.list (SqL.of hl)
    have len : its.length = ns.length := by rw [← rv.length, List.length_map]
    have W := Walks.list (prog := X.prog) (w := X.w) (A := X.A.in1) hh I l lI its.toArray
    refine codeAny_builtin PySem.F.entry_min_loop ?_
    rw [Around.under_plainId PySem.F.plain_min_loop _]
    show wpAny _ X.A.in1 (seqItems? (.ref S) >>= _) _ _ _
    refine wpAny_bind (wpAny_seqItems hS rfl ?_)
    show wpAny _ X.A.in1 (tryCatch (pyNext (.ref I)) _ >>= _) _ _ _
    refine wpAny_bind (wpAny_tryCatch (W.done _ _ _ ⟨by rw [List.size_toArray, len, show ns.length = j + 1 by omega]; exact hit, isl_of pl⟩ fun h1 t1 k1 => ?_))
    have I1 : Inv X pp σ H { s with heap := h1, toks := t1 } := turnOne IV FI fun a o na e => k1 a o (by simpa using na) e
    have hS1 : h1.get? S = some (seqObj "list" #[.int m tv, .int (kf m) tb] c) := k1 S _ (by simpa using hSI) hS
    show wpAny _ X.A.in1 (updateSeq S (fun _ => #[]) >>= _) _ _ _
    refine wpAny_bind (wpAny_updateSeq hS1 rfl (wpAny_bind (wpAny_letGo (wpAny_pure ?_))))
    refine done m tv _ hm (fun n hn => ?_) (turnOne I1 FS fun a o na e => ?_)
    · obtain ⟨i, hi⟩ := List.mem_iff_getElem?.mp hn
      have := (List.getElem?_eq_some_iff.mp hi).1
      exact best i n (by omega) hi
    · exact (Heap.get?_update_ne _ _ _ _ na).trans e
  | succ r ih =>
    intro j m s tv tb c hr hj hm best IV hS hit
    obtain ⟨its, rv, pl, hz⟩ := IV.list (SqL.of hl)
    have len : its.length = ns.length := by rw [← rv.length, List.length_map]
    have W := Walks.list (prog := X.prog) (w := X.w) (A := X.A.in1) hh I l lI its.toArray
    refine codeAny_builtin PySem.F.entry_min_loop ?_
    rw [Around.under_plainId PySem.F.plain_min_loop _]
    show wpAny _ X.A.in1 (seqItems? (.ref S) >>= _) _ _ _
    refine wpAny_bind (wpAny_seqItems hS rfl ?_)
    show wpAny _ X.A.in1 (tryCatch (pyNext (.ref I)) _ >>= _) _ _ _
    refine wpAny_bind (wpAny_tryCatch (W.item (j + 1) _ _ _ (by rw [List.size_toArray, len]; omega) ⟨hit, isl_of pl⟩ fun v h1 t1 hv st1 k1 => ?_))
    obtain ⟨n, tn, hn, rfl⟩ := ints_at rv (by simpa using hv)
    have I1 : Inv X pp σ H { s with heap := h1, toks := t1 } := turnOne IV FI fun a o na e => k1 a o (by simpa using na) e
    have hS1 : h1.get? S = some (seqObj "list" #[.int m tv, .int (kf m) tb] c) := k1 S _ (by simpa using hSI) hS
    obtain ⟨oI, hoI, c1, d1⟩ := id st1.1
    have I2 := pinOne I1 FS hS1 (fun v z => nomatch z)
    have FI2 : FpOk X ((S, seqObj "list" #[.int m tv, .int (kf m) tb] c) :: pp) H I := by
      obtain ⟨f1, f2, f3, f4, f5, f6⟩ := FI
      refine ⟨f1, f2, f3, f4, f5, fun p hp => ?_⟩
      rcases List.mem_append.mp hp with hp | hp
      · exact f6 p (List.mem_append_left _ hp)
      · cases hp with
        | head => exact hSI
        | tail _ hp => exact f6 p (List.mem_append_right _ hp)
    have I3 := pinOne I2 FI2 hoI (fun v z => by rw [d1] at z; cases z)
    show wpAny _ X.A.in1 (tryCatch (holding [.int n tn] (call (.ref q) [.int n tn])) _ >>= _) _ _ _
    refine wpAny_bind (wpAny_tryCatch (wpAny_holding (wpAny_mono (turn n tn _ _ (List.mem_of_getElem? hn) (.tail _ (.tail _ hq)) I3) (fun u s2 he => ?_) fun _ _ hF => hF.elim)))
    obtain ⟨⟨t2, rfl⟩, I4⟩ := he
    have gI := pinGet I4 (.head _)
    have gS := pinGet I4 (.tail _ (.head _))
    have I5 := unpinOne (unpinOne I4)
    have hit2 : s2.heap.IsListIter I l (j + 1 + 1) := ⟨oI, gI, c1, d1⟩
    show wpAny _ X.A.in1 (tryCatch (holding [.int n tn, .int (kf n) t2] (richCompare .Lt (.int (kf n) t2) (.int (kf m) tb) >>= _)) _ >>= _) _ _ _
    refine wpAny_bind (wpAny_tryCatch (wpAny_holding (wpAny_bind (CmpOf.ints_lt (prog := X.prog) (w := X.w) (A := X.A.in1) (P := fun i v => ∃ t, v = .int (if i = 0 then kf n else kf m) t) (fun i => if i = 0 then kf n else kf m) (fun i v h => h) 0 1 _ _ _ _ _ ⟨t2, rfl⟩ ⟨tb, rfl⟩ ?_))))
    refine wpAny_bind (wpAny_holding (wpAny_truthy_bool ?_))
    refine wpAny_bind (wpAny_letGo (wpAny_pure ?_))
    show wpAny _ X.A.in1 (if decide (kf n < kf m) = true then _ else _) _ _ _
    by_cases hb : kf n < kf m
    · rw [if_pos (decide_eq_true hb)]
      have k3 : ∀ a o, a ≠ S → s2.heap.get? a = some o → (s2.heap.update S (Obj.mapSeq fun _ => #[.int n tn, .int (kf n) t2])).get? a = some o := fun a o na e => (Heap.get?_update_ne _ _ _ _ na).trans e
      refine wpAny_bind (wpAny_updateSeq gS rfl (wpAny_bind (wpAny_letGo ?_)))
      rw [nm]
      refine wpAny_pure ⟨plainId_quiet PySem.F.plain_min_loop _, ih (j + 1) n _ tn t2 _ (by omega) (by omega) (List.mem_of_getElem? hn) (fun i n' hi' e => ?_) (turnOne I5 FS k3) (get?_update_seq gS _) ⟨oI, k3 I oI hSI.symm gI, c1, d1⟩⟩
      by_cases q : i = j + 1
      · subst q
        rw [hn] at e
        cases e
        exact Int.le_refl _
      · exact Int.le_of_lt (Int.lt_of_lt_of_le hb (best i n' (by omega) e))
    · rw [if_neg (by simpa using hb)]
      refine wpAny_bind (wpAny_letGo ?_)
      rw [nm]
      refine wpAny_pure ⟨plainId_quiet PySem.F.plain_min_loop _, ih (j + 1) m _ tv tb c (by omega) (by omega) hm (fun i n' hi' e => ?_) I5 gS hit2⟩
      by_cases q : i = j + 1
      · subst q
        rw [hn] at e
        cases e
        omega
      · exact best i n' (by omega) e
end
end MinL

set_option Elab.async false
set_option maxRecDepth 100000
set_option maxHeartbeats 4000000
namespace MinL
open PySem PySem.Spec PyProof.Rows L2 LamX
theorem minArgs (a v : Value) : argsOk "min" ⟨[a], [(Str.ofString "key", v), (Str.ofString "default", .none)]⟩ := by unfold argsOk; kernel_rfl
section
variable {X : Cx} {pins : List (Addr × Obj)} {σ : L2.St} {H : Hp} {s : Shared}
/-- what min hands back -/
def MinOut (X : Cx) (pins : List (Addr × Obj)) (σ : L2.St) (H : Hp) (ns : List Int) (kf : Int → Int) (u : Value) (s' : Shared) : Prop :=
  Inv X pins σ H s' ∧ ((ns = [] ∧ u = .none) ∨ ∃ (m : Int) (t : Tok), u = .int m t ∧ m ∈ ns ∧ ∀ n ∈ ns, kf m ≤ kf n)
theorem minRun {l q : Addr} {fo : Obj} {ns : List Int} {kf : Int → Int} (hh : X.A.handled = none) (I : Inv X pins σ H s) (hl : H l = some (.lst (ns.map V.int))) (turn : KeyTurn X σ H q fo ns kf) (hq : (q, fo) ∈ pins) :
    wpAny (model X.prog X.w) X.A (call (.builtin "min") [.ref l] [(Str.ofString "key", .ref q), (Str.ofString "default", .none)]) (MinOut X pins σ H ns kf) X.xe s := by
  have nm : (toString "min" ++ toString ".loop" : String) = "min.loop" := by decide
  obtain ⟨its, rv, pl, hz⟩ := I.list (SqL.of hl)
  refine kmk_tree PySem.F.kind_min PySem.F.plain_min PySem.F.entry_min (minArgs _ _) ?_
  show wpAny _ X.A.in1 (Builtin.Builtins.bindParams "min" ["key", "default"] 0 ⟨[], [(Str.ofString "key", .ref q), (Str.ofString "default", .none)]⟩ >>= _) _ _ s
  refine wpAny_bind (wpAny_of_eq (show Builtin.Builtins.bindParams "min" ["key", "default"] 0 ⟨[], [(Str.ofString "key", .ref q), (Str.ofString "default", .none)]⟩ = pure [some (.ref q), some .none] from rfl) ?_)
  refine wpAny_bind (wpAny_pure ?_)
  refine wpAny_bind (wpAny_pyIter_list (isl_of pl) ?_)
  refine wpAny_bind (wpAny_newList ?_ (Nat.zero_le _))
  rw [nm]
  refine wpAny_pure ⟨plainId_quiet PySem.F.plain_min_loop _, ?_⟩
  have up : ∀ {b : Addr} {u : Obj}, s.heap.get? b = some u → ((s.heap.push { cls := .type "list_iterator", data := .fields #[.ref l, .int 0 0] }).push (seqObj "list" #[] 0)).get? b = some u := fun e => Heap.get?_push_of_some _ (Heap.get?_push_of_some _ e)
  generalize hS0 : (s.heap.push { cls := .type "list_iterator", data := .fields #[.ref l, .int 0 0] }).objs.size = S
  have zS : S = s.heap.objs.size + 1 := by rw [← hS0]; exact size_push' ..
  have I1 : Inv X pins σ H { s with heap := (s.heap.push { cls := .type "list_iterator", data := .fields #[.ref l, .int 0 0] }).push (seqObj "list" #[] 0) } := by
    have z := I.kept (t' := s.toks) fun b u e => up e
    exact z
  have gI : ((s.heap.push { cls := .type "list_iterator", data := .fields #[.ref l, .int 0 0] }).push (seqObj "list" #[] 0)).get? s.heap.objs.size = some { cls := .type "list_iterator", data := .fields #[.ref l, .int 0 0] } :=
    Heap.get?_push_of_some _ (Heap.get?_push_size _ rfl)
  have gS : ((s.heap.push { cls := .type "list_iterator", data := .fields #[.ref l, .int 0 0] }).push (seqObj "list" #[] 0)).get? S = some (seqObj "list" #[] 0) := by
    rw [← hS0]
    exact Heap.get?_push_size _ rfl
  have FI : FpOk X pins H s.heap.objs.size := I.fpOk (Nat.le_refl _) (I.hok.fresh (Nat.le_refl _))
  have FS : FpOk X pins H S := I.fpOk (by omega) (I.hok.fresh (by omega))
  have hSI : S ≠ s.heap.objs.size := by omega
  generalize s.heap.objs.size = It at gI FI hSI
  generalize (s.heap.push { cls := .type "list_iterator", data := .fields #[.ref l, .int 0 0] }).push (seqObj "list" #[] 0) = h0 at I1 gI gS
  have lI : l ≠ It := ne_of_none hl FI.1
  obtain ⟨its', rv', pl', _⟩ := I1.list (SqL.of hl)
  have len : its'.length = ns.length := by rw [← rv'.length, List.length_map]
  have W := Walks.list (prog := X.prog) (w := X.w) (A := X.A.in1) hh It l lI its'.toArray
  refine codeAny_builtin PySem.F.entry_min_loop ?_
  rw [Around.under_plainId PySem.F.plain_min_loop _]
  show wpAny _ X.A.in1 (seqItems? (.ref S) >>= _) _ _ _
  refine wpAny_bind (wpAny_seqItems gS rfl ?_)
  show wpAny _ X.A.in1 (tryCatch (pyNext (.ref It)) _ >>= _) _ _ _
  cases ns with
  | nil =>
    refine wpAny_bind (wpAny_tryCatch (W.done _ _ _ ⟨by rw [List.size_toArray, len]; exact ⟨_, gI, rfl, rfl⟩, isl_of pl'⟩ fun h1 t1 k1 => ?_))
    have I2 : Inv X pins σ H { s with heap := h1, toks := t1 } := turnOne (s := { s with heap := h0 }) I1 FI fun a o na e => k1 a o (by simpa using na) e
    refine wpAny_bind (wpAny_rule ?_)
    exact wpAny_pure ⟨I2, .inl ⟨rfl, rfl⟩⟩
  | cons n0 ns0 =>
    refine wpAny_bind (wpAny_tryCatch (W.item 0 _ _ _ (by rw [List.size_toArray, len]; exact Nat.succ_pos _) ⟨⟨_, gI, rfl, rfl⟩, isl_of pl'⟩ fun v h1 t1 hv st1 k1 => ?_))
    obtain ⟨n, tn, hn, rfl⟩ := ints_at rv' (by simpa using hv)
    have I2 : Inv X pins σ H { s with heap := h1, toks := t1 } := turnOne (s := { s with heap := h0 }) I1 FI fun a o na e => k1 a o (by simpa using na) e
    have hS1 : h1.get? S = some (seqObj "list" #[] 0) := k1 S _ (by simpa using hSI) gS
    obtain ⟨oI, hoI, c1, d1⟩ := id st1.1
    have I3 := pinOne I2 FS hS1 (fun v z => nomatch z)
    have FI2 : FpOk X ((S, seqObj "list" #[] 0) :: pins) H It := by
      obtain ⟨f1, f2, f3, f4, f5, f6⟩ := FI
      refine ⟨f1, f2, f3, f4, f5, fun p hp => ?_⟩
      rcases List.mem_append.mp hp with hp | hp
      · exact f6 p (List.mem_append_left _ hp)
      · cases hp with
        | head => exact hSI
        | tail _ hp => exact f6 p (List.mem_append_right _ hp)
    have I4 := pinOne I3 FI2 hoI (fun v z => by rw [d1] at z; cases z)
    show wpAny _ X.A.in1 (tryCatch (holding [.int n tn] (call (.ref q) [.int n tn])) _ >>= _) _ _ _
    refine wpAny_bind (wpAny_tryCatch (wpAny_holding (wpAny_mono (turn n tn _ _ (List.mem_of_getElem? hn) (.tail _ (.tail _ hq)) I4) (fun u s2 he => ?_) fun _ _ hF => hF.elim)))
    obtain ⟨⟨t2, rfl⟩, I5⟩ := he
    have gI2 := pinGet I5 (.head _)
    have gS2 := pinGet I5 (.tail _ (.head _))
    have I6 := unpinOne (unpinOne I5)
    have k3 : ∀ a o, a ≠ S → s2.heap.get? a = some o → (s2.heap.update S (Obj.mapSeq fun _ => #[.int n tn, .int (kf n) t2])).get? a = some o := fun a o na e => (Heap.get?_update_ne _ _ _ _ na).trans e
    show wpAny _ X.A.in1 (updateSeq S (fun _ => #[.int n tn, .int (kf n) t2]) >>= _) _ _ _
    refine wpAny_bind (wpAny_updateSeq gS2 rfl ?_)
    rw [nm]
    refine wpAny_pure ⟨plainId_quiet PySem.F.plain_min_loop _, ?_⟩
    refine minLoop hh hl turn hq FI FS hSI (fun m t s' hm hb I' => ⟨I', .inr ⟨m, t, rfl, hm, hb⟩⟩) _ 0 n _ tn t2 _ rfl (Nat.succ_le_succ (Nat.zero_le _)) (List.mem_of_getElem? hn) (fun i n' hi e => ?_) (turnOne I6 FS k3) (get?_update_seq gS2 _) ⟨oI, k3 It oI hSI.symm gI2, c1, d1⟩
    have q : i = 0 := by omega
    subst q
    rw [hn] at e
    cases e
    exact Int.le_refl _
end
end MinL

set_option Elab.async false
set_option maxRecDepth 100000
set_option maxHeartbeats 4000000
namespace MinL
open PySem PySem.Spec PyProof.Rows L2 LamX NdefX
/-- what is wanted of the list that is handed in -/
def MinW (T : List (Addr × Str)) (N : List Str) (js : List Nat) (tb : TE) (σ : L2.St) (Q : VK) : VK := fun x H1 => Tabs T H1 ∧ ∃ (l : Addr) (ns : List Int) (kf : Int → Int), x = .ref l ∧ H1 l = some (.lst (ns.map V.int)) ∧
  ∀ H2, ExtN H1 H2 → Tabs T H2 → (∀ n ∈ ns, tb (startF N [.int n] (js.map (slotAt σ))) H2 (fun v H' => v = .int (kf n) ∧ H' = H2)) ∧ (ns = [] → Q .non H2) ∧ (∀ m, m ∈ ns → (∀ n ∈ ns, kf m ≤ kf n) → Q (.int m) H2)
/-- the reading of min(held, key=lambda a: body, default=None) -/
def tMinLam (T : List (Addr × Str)) (N : List Str) (js : List Nat) (te tb : TE) : TE := fun σ H Q => te σ H (MinW T N js tb σ Q)
/-- the lambda as a function of the layer; its body is an expression -/
abbrev lamF (X : Cx) (params : Arguments) (scope : Scope) (c' : Addr) : NF := ⟨"<lambda>", X.env.qual ++ "<lambda>", params, [], scope, cloFrom X.env.cells scope.names [], c'⟩
section
variable {X : Cx} {pins : List (Addr × Obj)} {σ : L2.St} {H : Hp} {s : Shared}
theorem lamTurn {a : Str} {params : Arguments} {body : Expr} {scope : Scope} {pm : Value} {c' q : Addr} {ctv : Value} {N fr : List Str} {js : List Nat} {k : Nat} {tb : TE} {ns : List Int} {kf : Int → Int} (hr : Room (k + 1) X.A.in1) (S : NScope N [a] fr scope) (cp : Caps X (cloFrom X.env.cells scope.names []) fr js)
    (hbind : ∀ (u : Value), bindArgs (PySem.W.kla_fn "<lambda>" (X.env.qual ++ "<lambda>") params body scope (cloFrom X.env.cells scope.names []) pm (.ref c') ctv) ⟨[u], []⟩ = pure [(a, u)])
    (hc : H c' = some (CodeO c' (X.env.qual ++ "<lambda>")))
    (hbody : ∀ (A : Around) (outer : List Env) (s : Shared) (H : Hp) (f : Addr), Room k (A.deeper (envF (lamF X params scope c') f s.heap.objs.size)) → PE (ncx C8.CX0 X.prog X.w X.K X.mg X.base N (lamF X params scope c') f A outer s H C8.E0) body tb)
    (ht : ∀ n ∈ ns, tb (startF N [.int n] (js.map (slotAt σ))) H (fun v H' => v = .int (kf n) ∧ H' = H)) :
    KeyTurn X σ H q (PySem.W.kla_obj "<lambda>" (X.env.qual ++ "<lambda>") params body scope (cloFrom X.env.cells scope.names []) pm c' ctv) ns kf := by
  intro n t pp s hn hq I
  have ho := pinGet I hq
  obtain ⟨⟨oc, vs, tk, hoc, hdc, hvc⟩, _, _⟩ := I.hok c' _ hc
  have rc : codeAny (model X.prog X.w) X.A.in1 (.call (.ref q) ⟨[.int n t], []⟩) (CR C8.CX0 X.stack X.prog X.w H s (fun v H' => v = .int (kf n) ∧ H' = H) C8.E0) s := by
    refine PySem.W.kla_callFunE hr.depth ho rfl S.co S.gen rfl ⟨c', oc, vs, tk, rfl, hoc, hdc, hvc⟩ ?_
    rw [hbind]
    refine wpAny_pure (wpAny_newFunctionEnv S.nocell (fun y hy => ?_) (fun h1 hns hsb => ⟨I.nolimit.fresh _ hsb, ?_⟩) S.kind)
    · rw [List.mem_singleton.mp hy]
      exact S.par a (List.mem_singleton.mpr rfl)
    · show codeAny _ _ (.expr body (envF (lamF X params scope c') q s.heap.objs.size)) _ _
      have kp : ∀ b o, s.heap.get? b = some o → h1.get? b = some o := fun b o e => hsb.extBut b o (Nat.ne_of_lt (Heap.lt_size e)) (Heap.get?_push_of_some _ e)
      have J : Inv (ncx C8.CX0 X.prog X.w X.K X.mg X.base N (lamF X params scope c') q X.A.in1 X.stack s H C8.E0) [] (startF N [V.int n] (js.map (slotAt σ))) H { s with heap := h1, toks := s.toks + ([(a, Value.int n t)] : List (Str × Value)).length } :=
        inv_startN (ps := [a]) (us := [.int n t]) S hr.hd I.env0.in1 rfl (.cons ⟨t, rfl⟩ .nil) (cells_of I cp) hns kp
      refine PySem.W.kla_codeExpr (wpAny_mono ((hbody _ _ s H q (hr.deeper _)).run [] _ _ H _ J (ht n hn)) (fun v s' hv => ?_) fun e s' hv => hv)
      obtain ⟨u, H', J', rv, z⟩ := hv
      exact ⟨u, H', J'.os, J'.bare, J'.base, J'.hok, rv, z⟩
  refine wpAny_call (codeAny_mono rc fun r s' hv => ?_)
  cases r with
  | error e => exact (show False from hv).elim
  | ok fl =>
    cases fl with
    | ret u =>
      obtain ⟨v, H', I', rv, e1, e2⟩ := I.after hv
      subst e1
      subst e2
      exact ⟨rv, I'⟩
    | next => exact False.elim hv
    | brk => exact False.elim hv
    | cont => exact False.elim hv

theorem pe_minLam {T : List (Addr × Str)} {c P : Addr} {a : Str} {params : Arguments} {body e : Expr} {scope : Scope} {lpos p pos p2 kp1 kp2 : Pos} {j k : Nat} {N fr : List Str} {js : List Nat} {te tb : TE} (hg : Gl X "min") (hm : X.mg "min" = none) (he : PE X e te)
    (TB : TabB X.base X.mg c P) (hcode : X.env.code = .ref c) (hmT : (P, X.env.qual ++ "<lambda>") ∈ T) (hu : ∀ p ∈ T, p.1 = P → p.2 = X.env.qual ++ "<lambda>") (hst : X.stack = X.env :: X.outer) (hr : Room (k + 2) X.A) (S : NScope N [a] fr scope)
    (hfree : ∀ y ∈ scope.names, y.2 = .free → X.env.scope.names.lookup y.1 = some .cell ∨ X.env.scope.names.lookup y.1 = some .free) (hfr : ∀ y ∈ fr, (y, NameKind.free) ∈ scope.names) (hjs : js.map (fun j => X.N[j]?) = fr.map some) (hdef : defaultsOf params X.env = ([], []))
    (hbind : ∀ (q : Str) (cl : List (Str × Addr)) (pm cv ctv u : Value), bindArgs (PySem.W.kla_fn "<lambda>" q params body scope cl pm cv ctv) ⟨[u], []⟩ = pure [(a, u)])
    (hbody : ∀ (c' : Addr) (A : Around) (outer : List Env) (s : Shared) (H : Hp) (f : Addr), Room k (A.deeper (envF (lamF X params scope c') f s.heap.objs.size)) → PE (ncx C8.CX0 X.prog X.w X.K X.mg X.base N (lamF X params scope c') f A outer s H C8.E0) body tb)
    (hp0 : starEach [e] X.env = (false, eval e X.env) :: starEach [] X.env := by rfl) (hp1 : backTo pos (starEach [e] X.env) = (false, eval e X.env) :: backTo pos (starEach [] X.env) := by rfl) (hp2 : (backTo pos (starEach [e] X.env)).any (·.1) = false := by rfl) :
    PE X (.Call (.Name "min" p) [e] [⟨some "key", .Lambda params body scope lpos, kp1⟩, ⟨some "default", .Constant .none j p2, kp2⟩] pos) (tMinLam T N js te tb) := by
  refine ⟨fun pins s σ H Q I h => ?_⟩
  refine wpAny_Call_Name_kw (ld_blt I hg hm (by decide +kernel : bootBuiltins "min" = some (.builtin "min")) ?_)
  let W : List V → Hp → Prop := fun vs H1 => match vs with
    | [x] => MinW T N js tb σ Q x H1
    | _ => False
  have h' : tCons te tNil σ H W := h
  refine PyProof.Rows.callWith_kw (thn ((pa_cons he pa_nil hp0).run pos pins s σ H W I h') fun us s1 ⟨vs, H1, I1, r1, q1⟩ => ?_) hp1 hp2 rfl rfl
  obtain ⟨x, rfl⟩ : ∃ x, vs = [x] := by
    cases vs with
    | nil => exact (show False from q1).elim
    | cons x r => cases r with
      | nil => exact ⟨x, rfl⟩
      | cons y z => exact (show False from q1).elim
  obtain ⟨hT, l, ns, kf, rfl, hl, q2⟩ := (show MinW T N js tb σ Q x H1 from q1)
  cases r1 with
  | cons ru rn =>
    cases rn
    cases ru
    show wpAny _ _ (evalAll ((do let v ← eval (.Lambda params body scope lpos) X.env; standAt pos; pure v) :: (do let v ← eval (.Constant .none j p2) X.env; standAt pos; pure v) :: [])) _ _ s1
    have fr0 : ∀ y ∈ scope.names, y.2 = .free → ∃ c, X.env.cells.lookup y.1 = some c := fun y hy e => (hfree y hy e).elim (fun z => I1.ok.has _ (.inl z)) fun z => I1.ok.has _ (.inr z)
    refine wpAny_evalAll_cons (wpAny_bind (lam_make2 I1 TB hcode hmT hu hT hdef fr0 fun f c' pm ctv H2 s2 I2 eN T2 hf hfn hfs hc => ?_))
    refine wpAny_bind (wpAny_standAt (wpAny_pure ?_))
    refine wpAny_evalAll_cons (wpAny_bind (Constant_none (wpAny_bind (wpAny_standAt (wpAny_pure (wpAny_evalAll_nil ?_))))))
    obtain ⟨q3, q4, q5⟩ := q2 H2 eN T2
    have nL : f ≠ X.env.locals := fun z => by
      obtain ⟨m, ⟨o, es, ep, ho, hd, _⟩, _⟩ := I2.loc
      rw [← z, hf] at ho
      cases ho
      cases hd
    have nF : f ∉ X.fs := fun z => hfs (by
      rw [hst]
      show f ∈ (X.env :: X.outer).filterMap (·.frame)
      rw [List.filterMap_cons]
      split
      · exact z
      · exact .tail _ z)
    have I3 : Inv X ((f, PySem.W.kla_obj "<lambda>" (X.env.qual ++ "<lambda>") params body scope (cloFrom X.env.cells scope.names []) pm c' ctv) :: pins) σ H2 s2 := by
      refine I2.pins_of fun p hp => ?_
      cases hp with
      | head => exact ⟨hf, hfn, nL, nF, fun v z => nomatch z⟩
      | tail _ hp => exact I2.pin p (List.mem_append_right _ hp)
    have cp : Caps X (cloFrom X.env.cells scope.names []) fr js := Caps.made I2.ok hfree hfr hjs
    have turn := lamTurn (q := f) (kf := kf) (pm := pm) (ctv := ctv) (hr.in1) S cp (fun u => hbind _ _ _ _ _ u) hc (hbody c') q3
    have hl2 : H2 l = some (.lst (ns.map V.int)) := eN l _ hl fun ps z => nomatch z
    refine thn (minRun hr.hd I3 hl2 turn (.head _)) fun u s3 ⟨I4, hu⟩ => ?_
    have I5 := unpinOne I4
    rcases hu with ⟨e1, e2⟩ | ⟨m, t, e2, e3, e4⟩
    · subst e2
      exact ⟨.non, H2, I5, rfl, q4 e1⟩
    · subst e2
      exact ⟨.int m, H2, I5, ⟨t, rfl⟩, q5 m e3 e4⟩
end
end MinL

set_option Elab.async false
set_option maxRecDepth 100000
set_option maxHeartbeats 4000000
namespace K01
open PySem PySem.Spec PyProof.Rows L2 C8 LamX NdefX MinL

theorem SetAt.of {C : Addr} {H H' : Hp} {q : Addr} {n : Nat} (h : SetAt C H q n) (e : ∀ o, H q = some o → (∀ ps, o ≠ .tbl ps) → H' q = some o) : SetAt C H' q n := by
  obtain ⟨dx, fs, h1, h2, h3⟩ := h
  exact ⟨dx, fs, e _ h1 (fun ps z => by cases z), h2, h3⟩

abbrev s_distance : Stmt := top 9
abbrev n_distance : List Str := ["setting", "seat", "other"]
theorem sc_distance : FnScope n_distance ["setting", "seat", "other"] (C8.fnScope s_distance) := ⟨rfl, rfl, rfl, by decide +kernel, rfl, by decide +kernel, by decide +kernel⟩
def ringN (n : Nat) : Int := ((2 ^ n : Nat) : Int)
theorem ring_pos (n : Nat) : 0 < ringN n := by
  unfold ringN
  have := Nat.two_pow_pos n
  omega
def spDist (C : Addr) : Sp := fun vs H Q _ => ∃ (q : Addr) (a b : Int) (n : Nat), vs = [.ref q, .int a, .int b] ∧ SetAt C H q n ∧ n ≤ 8 ∧ Q (.int ((b - a) % ringN n)) H

section
variable {P : Program} {w : World} {K : PySem.W.Frag} {mg : Str → Option Value} {base : Heap} {C : Addr}
theorem f_seats {g : Addr} {fd : FuncData} (cl : Cls K C) (n1 : NoAttr K C "bits") (F : C8.Fun K "seats" "Setting.seats" s_seats g fd) : FnOk P w K mg base C8.CX0 1 g fd ["self"] (spSeats C) := by
  refine C8.fn0 F sc_seats (fun vs H Q E h => ?_) (fun cdv A outer s H vs Q E hr h => ?_)
  · obtain ⟨q, n, rfl, _⟩ := h
    rfl
  · obtain ⟨q, n, rfl, ⟨dx, fs, h1, h2, h3⟩, hn, k⟩ := h
    refine ⟨_, (pss_one (ps_ret (pe_op op_shl pe_int (pe_fld (pv 0) rfl)))), ?_⟩
    refine ⟨_, rfl, q, C, dx, fs, _, rfl, h1, cl, n1, h2, _, _, rfl, rfl, ⟨by omega, by omega, by decide⟩, ?_⟩
    have e : (1 : Int) * 2 ^ ((n : Int)).toNat = ((2 ^ n : Nat) : Int) := by
      rw [Int.toNat_natCast, Int.one_mul]
      simp
    show Q (.int (1 * 2 ^ ((n : Int)).toNat)) H
    rw [e]
    exact k
theorem c_distance (ST : SetT K mg C) (d : D0 K mg "distance" s_distance n_distance) : Cal P w K mg base 3 "distance" (spDist C) [] := by
  refine cal d sc_distance (fun vs H Q E h => ?_) (fun cdv A outer f s H vs Q E hr h => ?_)
  · obtain ⟨q, a, b, n, rfl, _⟩ := h
    rfl
  · obtain ⟨q, a, b, n, rfl, hs, hn, k⟩ := h
    obtain ⟨pp, g, fd, hp, F, bb⟩ := ST.sea
    have G : FnOk P w K mg base C8.CX0 1 g fd ["self"] (spSeats C) := f_seats ST.cl ST.n1 F
    refine ⟨_, (pss_one (ps_ret (pe_op op_mod (pe_op op_sub (pv 2) (pv 1)) (pe_prop (pv 0) ST.cl hp G hr bb .nil (C8.pass0 (E := C8.E0)) rfl)))), ?_⟩
    obtain ⟨dx, fs, h1, h2, h3⟩ := id hs
    refine ⟨_, rfl, _, rfl, _, _, rfl, rfl, _, rfl, q, dx, fs, rfl, h1, q, n, rfl, hs, hn, _, _, rfl, rfl, pm (ring_pos n), k⟩
end

/-! ### first_from -/
abbrev s_first : Stmt := top 10
abbrev n_first : List Str := ["setting", "place", "held"]
theorem sc_first : FnScope n_first n_first (C8.fnScope s_first) := ⟨rfl, rfl, rfl, by decide +kernel, rfl, by decide +kernel, by decide +kernel⟩
def lamQ : Str := (envOfC ("first_from" : Str) (C8.fnScope s_first) 0 0 .none).qual ++ "<lambda>"
theorem lam_free : ∀ y ∈ ([("seat", .local), ("place", .free), ("setting", .free), ("distance", .globalImplicit)] : List (Str × NameKind)), y.2 = .free → (C8.fnScope s_first).names.lookup y.1 = some .cell ∨ (C8.fnScope s_first).names.lookup y.1 = some .free := by decide +kernel
/-- the table of first_from's code -/
abbrev TT (t : Addr) : List (Addr × Str) := [(t, lamQ)]
structure D1 (K : PySem.W.Frag) (mg : Str → Option Value) (c : Addr) : Prop where
  ex : ∃ (f : Addr) (oc : Value) (od : Option Addr) (kV doc pm : Value) (an : Option Addr) (ct : Value) (osl : Array (Option Value)),
    K.lookup f = some ⟨oc, od, .func (PySem.W.fnOf "first_from" "first_from" (C8.fnArgs s_first) (C8.fnBody s_first) (C8.fnScope s_first) .none kV doc pm an (.ref c) ct), osl⟩ ∧ PySem.W.codeIn K (.ref c) "first_from" = true ∧
      mg "first_from" = some (.ref f) ∧ PySem.W.keepIn K (.ref f) = true
def spFirst (C t : Addr) : Sp := fun vs H Q _ => ∃ (q : Addr) (place : Int) (l : Addr) (n : Nat) (ns : List Int), vs = [.ref q, .int place, .ref l] ∧ SetAt C H q n ∧ n ≤ 8 ∧ H l = some (.lst (ns.map V.int)) ∧ Tabs (TT t) H ∧
  ∀ (v : V) (H' : Hp), ExtN H H' → Tabs (TT t) H' → ((ns = [] ∧ v = .non) ∨ ∃ m, v = .int m ∧ m ∈ ns ∧ ∀ k ∈ ns, (m - place) % ringN n ≤ (k - place) % ringN n) → Q v H'

section
variable {P : Program} {w : World} {K : PySem.W.Frag} {mg : Str → Option Value} {base : Heap} {C : Addr}
theorem c_first {c t : Addr} (T : Bl mg) (c_distance : Cal P w K mg base 3 "distance" (spDist C) []) (d : D1 K mg c) (TB : TabB base mg c t) : Cal P w K mg base 7 "first_from" (spFirst C t) [] := by
  obtain ⟨f, oc, od, kV, doc, pm, an, ct, osl, lk, hcd, hm, kp⟩ := d.ex
  refine ⟨f, PySem.W.fnOf "first_from" "first_from" (C8.fnArgs s_first) (C8.fnBody s_first) (C8.fnScope s_first) .none kV doc pm an (.ref c) ct, n_first, [], ?_, hm, kp, .all fun us hl => match us, hl with | [_, _, _], _ => rfl, .nil⟩
  refine fn_of lk hcd sc_first (fun vs H Q E h => ?_) (fun A outer s H vs Q E hr h => ?_)
  · obtain ⟨q, place, l, n, ns, rfl, _⟩ := h
    rfl
  · obtain ⟨q, place, l, n, ns, rfl, hs, hn, hl, hT, k⟩ := h
    refine ⟨_, PSs.nox (pss_one (ps_ret (pe_minLam (T := TT t) (a := "seat") (fr := ["setting", "place"]) (js := [0, 1]) (N := ["seat", "setting", "place"]) (k := 4) (by rfl) T.min (pv 2) TB rfl (.head _) (fun p hp _ => by cases hp with
      | head => rfl
      | tail _ hp => cases hp) rfl hr (nscope_by (by decide +kernel)) lam_free (by decide +kernel) (by rfl) rfl (fun _ _ _ _ _ _ => rfl)
      (fun c' A outer s H f hr => pe_c c_distance hr (by decide) rfl (pa_cons (pv 1) (pa_cons (pv 2) (pa_cons (pv 0) pa_nil))))))), ?_⟩
    refine ⟨_, rfl, hT, l, ns, fun x => (x - place) % ringN n, rfl, hl, fun H2 eN T2 => ?_⟩
    refine ⟨fun x hx => ?_, fun hz => k .non H2 eN T2 (.inl ⟨hz, rfl⟩), fun m hm best => k (.int m) H2 eN T2 (.inr ⟨m, rfl, hm, best⟩)⟩
    refine ⟨_, rfl, _, rfl, _, rfl, q, place, x, n, rfl, hs.of (fun o e ne => eN _ _ e ne), hn, rfl, rfl⟩
end
end K01

set_option Elab.async false
set_option maxRecDepth 100000
set_option maxHeartbeats 4000000
set_option exponentiation.threshold 4096
namespace K01
open PySem PySem.Spec PyProof.Rows L2 C8

abbrev s_law_ring : Stmt := top 18
abbrev n_law_ring : List Str := ["bits", "ring", "k"]
theorem sc_law_ring : FnScope n_law_ring ["bits"] (C8.fnScope s_law_ring) := ⟨rfl, rfl, rfl, by decide +kernel, rfl, by decide +kernel, by decide +kernel⟩
def spRing : Sp := fun vs H Q _ => ∃ n : Nat, vs = [.int (n : Int)] ∧ n ≤ 8 ∧ Q (.int (ringN n)) H
theorem ringN_succ (i : Nat) : ringN i * 2 = ringN (i + 1) := by
  unfold ringN
  rw [Nat.pow_succ]
  omega
theorem ringN_le {n : Nat} (h : n ≤ 8) : ringN n ≤ 256 := by
  unfold ringN
  have : 2 ^ n ≤ 2 ^ 8 := Nat.pow_le_pow_right (by decide) h
  omega

abbrev s_law_setting : Stmt := top 19
abbrev n_law_setting : List Str := ["bag", "bits"]
theorem sc_law_setting : FnScope n_law_setting ["bag", "bits"] (C8.fnScope s_law_setting) := ⟨rfl, rfl, rfl, by decide +kernel, rfl, by decide +kernel, by decide +kernel⟩
def spSetting (C : Addr) : Sp := fun vs H Q _ => ∃ (b c : Addr) (n : Nat), vs = [.ref b, .int (n : Int)] ∧ Bag H b c ∧ 1 ≤ n ∧ n ≤ 8 ∧ ∀ (q : Addr) (H' : Hp), H q = none → Sx b H H' → Bag H' b c → SetAt C H' q n → Q (.ref q) H'

abbrev s_law_place : Stmt := top 21
abbrev n_law_place : List Str := ["bag", "ring", "kind", "seat"]
theorem sc_law_place : FnScope n_law_place ["bag", "ring"] (C8.fnScope s_law_place) := ⟨rfl, rfl, rfl, by decide +kernel, rfl, by decide +kernel, by decide +kernel⟩
def spPlace : Sp := fun vs H Q _ => ∃ (b c : Addr) (r : Int), vs = [.ref b, .int r] ∧ Bag H b c ∧ 0 < r ∧ r ≤ 256 ∧ ∀ (v : Int) (H' : Hp), Sx b H H' → Bag H' b c → Q (.int v) H'
abbrev s_law_end : Stmt := top 22
abbrev n_law_end : List Str := ["bag", "ring", "low"]
theorem sc_law_end : FnScope n_law_end ["bag", "ring", "low"] (C8.fnScope s_law_end) := ⟨rfl, rfl, rfl, by decide +kernel, rfl, by decide +kernel, by decide +kernel⟩
def spEnd : Sp := fun vs H Q _ => ∃ (b c : Addr) (r l : Int), vs = [.ref b, .int r, .int l] ∧ Bag H b c ∧ 0 < r ∧ r ≤ 256 ∧ ∀ (v : Int) (H' : Hp), Sx b H H' → Bag H' b c → Q (.int v) H'

theorem Sx.free {b : Addr} {H H' : Hp} (e : Sx b H H') {l : Addr} (ne : l ≠ b) (h : H' l = none) : H l = none := by
  cases q : H l with
  | none => rfl
  | some o =>
    rw [e l o q ne] at h
    cases h

theorem Bag.same {H H' : Hp} {b c : Addr} (B : Bag H b c) (e : Same H H') : Bag H' b c := by
  obtain ⟨cells, p, r, t, s, V, h⟩ := B
  exact ⟨cells, p, r, t, s, ⟨e _ _ V.hb, e _ _ V.hc⟩, h⟩

section
variable {P : Program} {w : World} {K : PySem.W.Frag} {mg : Str → Option Value} {base : Heap} {C : Addr}
theorem c_ring (T : Bl mg) (d : D0 K mg "_law_ring" s_law_ring ["bits"]) : Cal P w K mg base 1 "_law_ring" spRing [] := by
  refine cal d sc_law_ring (fun vs H Q E h => ?_) (fun cdv A outer f s H vs Q E hr h => ?_)
  · obtain ⟨n, rfl, _⟩ := h
    rfl
  · obtain ⟨n, rfl, hn, k⟩ := h
    have S := sc_law_ring
    refine ⟨_, (pss_cons (ps_set (i := 1) S.nd rfl (Or.inl rfl) pe_int)
      (pss_cons (ps_for PassesOwn.never rfl (pi_range1 rfl T.range (pa_cons (pv 0) pa_nil)) (pg_name (i := 2) S.nd rfl (Or.inl rfl)) (pss_one (ps_set (i := 1) S.nd rfl (Or.inl rfl) (pe_op op_mul (pv 1) pe_int))))
      (pss_one (ps_ret (pv 1))))), ?_⟩
    refine ⟨_, rfl, _, rfl, by omega, by omega, ?_⟩
    refine for_range (lo := 0) (n := ((n : Nat) : Int).toNat) (fun i σ H' => H' = H ∧ ∃ q : Option V, σ = [some (.int (n : Int)), some (.int (ringN i)), q]) ⟨rfl, none, rfl⟩ ?_ ?_
    · rintro i σ H' hi ⟨rfl, q, rfl⟩
      refine ⟨_, rfl, _, _, rfl, rfl, .inr ⟨by decide, by decide⟩, ?_⟩
      exact ⟨rfl, _, by rw [← ringN_succ]; rfl⟩
    · rintro σ H' ⟨rfl, q, rfl⟩
      rw [Int.toNat_natCast]
      exact ⟨_, rfl, k⟩
theorem c_setting (c_Setting : Mak P w K mg base 3 "Setting" C (spInit C) [.int 6, .int 1]) (c_law_pick : Cal P w K mg base 3 "_law_pick" spPick []) (d : D0 K mg "_law_setting" s_law_setting ["bag", "bits"]) : Cal P w K mg base 5 "_law_setting" (spSetting C) [] := by
  refine cal d sc_law_setting (fun vs H Q E h => ?_) (fun cdv A outer f s H vs Q E hr h => ?_)
  · obtain ⟨b, c, n, rfl, _⟩ := h
    rfl
  · obtain ⟨b, c, n, rfl, B, hn1, hn2, k⟩ := h
    refine ⟨_, (pss_one (ps_ret (pe_mk c_Setting hr (by decide) rfl (pa_cons (pv 1) (pa_cons (pe_op op_add pe_int (pe_c c_law_pick hr (by decide) rfl (pa_cons (pv 0) (pa_cons pe_int pa_nil)))) (pa_cons (pe_op op_add pe_int (pe_c c_law_pick hr (by decide) rfl (pa_cons (pv 0) (pa_cons pe_int pa_nil)))) pa_nil)))))), ?_⟩
    refine ⟨_, rfl, _, rfl, b, c, 6, rfl, B, by decide +kernel, fun d1 H1 a1 a2 B1 X1 => ?_⟩
    refine ⟨_, _, rfl, rfl, _, rfl, b, c, 64, rfl, B1, by decide +kernel, fun d2 H2 a3 a4 B2 X2 => ?_⟩
    refine ⟨_, _, rfl, rfl, fun x dx nx ndx ne => ?_⟩
    have nx' : upd H2 dx (.own x) x = none := by rw [upd_ne ne.symm]; exact nx
    refine ⟨x, dx, (n : Int), 1 + d1, 1 + d2, 6, 1, rfl, upd_same, by omega, by omega, by omega, by omega, by omega, by omega, by decide, by decide, by decide, by decide, fun H3 hs hk => ⟨rfl, ?_⟩⟩
    obtain ⟨o, ho⟩ := B2.at_
    have nb : x ≠ b := fun z => by
      rw [z, ho] at nx
      cases nx
    have S3 : Same H2 H3 := fun a u e => by
      have na := ne_of_none e nx
      have e1 : upd H2 dx (.own x) a = some u := by rw [upd_ne (ne_of_none e ndx)]; exact e
      exact hk a u (by rw [upd_ne na]; exact e1) na
    exact k x H3 ((X1.trans X2).free nb nx) (fun a u e na => S3 a u ((X1.trans X2) a u e na)) (B2.same S3) (by rw [Int.toNat_natCast] at hs; exact hs)
end
end K01

set_option Elab.async false
set_option maxRecDepth 100000
set_option maxHeartbeats 4000000
set_option exponentiation.threshold 4096
namespace K01
open PySem PySem.Spec PyProof.Rows L2 C8

abbrev s_law_held : Stmt := top 20
abbrev n_law_held : List Str := ["bag", "ring", "kind", "count", "pool", "held", "k", "seat"]
theorem sc_law_held : FnScope n_law_held ["bag", "ring"] (C8.fnScope s_law_held) := ⟨rfl, rfl, rfl, by decide +kernel, rfl, by decide +kernel, by decide +kernel⟩
/-- a list of seats of the ring, each once -/
structure Seats (ns : List Int) (r : Int) : Prop where
  nd : ns.Nodup
  lo : ∀ x ∈ ns, 0 ≤ x
  hi : ∀ x ∈ ns, x < r
def spHeld : Sp := fun vs H Q _ => ∃ (b c : Addr) (r : Int), vs = [.ref b, .int r] ∧ Bag H b c ∧ 0 < r ∧ r ≤ 256 ∧ ∀ (p : Addr) (ns : List Int) (H' : Hp), H p = none → Sx b H H' → Bag H' b c → H' p = some (.lst (ns.map V.int)) → Seats ns r → Q (.ref p) H'
theorem seqIx_lt {d : Int} {n : Nat} (h0 : 0 ≤ d) (h1 : d < n) : seqIndex? d n = some d.toNat := by
  refine (ixN_seq (n := n) (i := d) (j := d.toNat) ?_).1
  unfold ixN
  rw [if_pos h0, if_pos h1]
theorem map_erase (f : Int → V) : ∀ (l : List Int) (i : Nat), (l.map f).eraseIdx i = (l.eraseIdx i).map f
  | [], _ => rfl
  | _ :: _, 0 => rfl
  | a :: l, i + 1 => congrArg (List.cons (f a)) (map_erase f l i)
theorem erase_perm : ∀ {l : List Int} {i : Nat} {y : Int}, l[i]? = some y → (y :: l.eraseIdx i).Perm l
  | [], i, y, h => by simp at h
  | a :: l, 0, y, h => by
    cases h
    exact List.Perm.refl _
  | a :: l, i + 1, y, h => by
    have h' : l[i]? = some y := h
    exact (List.Perm.swap a y _).trans ((erase_perm h').cons a)
theorem nodup_move {hs ps : List Int} {i : Nat} {y : Int} (h : (hs ++ ps).Nodup) (e : ps[i]? = some y) : ((hs ++ [y]) ++ ps.eraseIdx i).Nodup := by
  have p1 := erase_perm e
  rw [List.append_assoc]
  exact (List.Perm.append_left hs p1).symm.nodup h
theorem mem_move {hs ps : List Int} {i : Nat} {y x : Int} (e : ps[i]? = some y) (h : x ∈ (hs ++ [y]) ++ ps.eraseIdx i) : x ∈ hs ++ ps := by
  have p1 := erase_perm e
  rw [List.append_assoc] at h
  exact (List.Perm.append_left hs p1).mem_iff.mp h

section
variable {P : Program} {w : World} {K : PySem.W.Frag} {mg : Str → Option Value} {base : Heap} {C : Addr}
theorem c_place (c_law_pick : Cal P w K mg base 3 "_law_pick" spPick []) (d : D0 K mg "_law_place" s_law_place ["bag", "ring"]) : Cal P w K mg base 4 "_law_place" spPlace [] := by
  refine cal d sc_law_place (fun vs H Q E h => ?_) (fun cdv A outer f s H vs Q E hr h => ?_)
  · obtain ⟨b, c, r, rfl, _⟩ := h
    rfl
  · obtain ⟨b, c, r, rfl, B, hr0, hr1, k⟩ := h
    have S := sc_law_place
    refine ⟨_, (pss_cons (ps_set (i := 2) S.nd rfl (Or.inl rfl) (pe_c c_law_pick hr (by decide) rfl (pa_cons (pv 0) (pa_cons pe_int pa_nil))))
      (pss_cons (ps_set (i := 3) S.nd rfl (Or.inl rfl) (pe_c c_law_pick hr (by decide) rfl (pa_cons (pv 0) (pa_cons (pv 1) pa_nil))))
      (pss_cons (ps_if (pt_cmpR op_eq (pv 2) pe_int (nomark _)) (pss_one (ps_ret (pv 3))) pss_nil)
      (pss_cons (ps_if (pt_cmpR op_eq (pv 2) pe_int (nomark _)) (pss_one (ps_ret (pe_op op_add (pv 3) (pe_op op_mul (pv 1) (pe_op op_add pe_int (pe_c c_law_pick hr (by decide) rfl (pa_cons (pv 0) (pa_cons pe_int pa_nil)))))))) pss_nil)
      (pss_cons (ps_if (pt_cmpR op_eq (pv 2) pe_int (nomark _)) (pss_one (ps_ret (pe_op op_sub (pv 3) (pe_op op_mul (pv 1) (pe_op op_add pe_int (pe_c c_law_pick hr (by decide) rfl (pa_cons (pv 0) (pa_cons pe_int pa_nil)))))))) pss_nil)
      (pss_cons (ps_if (pt_cmpR op_eq (pv 2) pe_int (nomark _)) (pss_one (ps_ret (pe_c c_law_pick hr (by decide) rfl (pa_cons (pv 0) (pa_cons (pe_op op_pow pe_int pe_int) pa_nil))))) pss_nil)
      (pss_one (ps_ret (pe_op op_sub pe_int (pe_c c_law_pick hr (by decide) rfl (pa_cons (pv 0) (pa_cons (pe_op op_pow pe_int pe_int) pa_nil)))))))))))), ?_⟩
    refine ⟨_, rfl, b, c, 5, rfl, B, by decide +kernel, fun d1 H1 a1 a2 B1 X1 => ?_⟩
    refine ⟨_, rfl, _, rfl, b, c, r, rfl, B1, Int.lt_of_le_of_lt hr1 (by decide +kernel), fun d2 H2 a3 a4 B2 X2 => ?_⟩
    have X := X1.trans X2
    refine ⟨_, rfl, rfl, _, rfl, ite2 (fun _ => ⟨_, rfl, k _ _ X B2⟩) (fun _ => ?_)⟩
    refine ⟨_, rfl, rfl, _, rfl, ite2 (fun _ => ?_) (fun _ => ?_)⟩
    · refine ⟨_, rfl, _, rfl, _, rfl, b, c, 9, rfl, B2, by decide +kernel, fun d3 H3 a5 a6 B3 X3 => ?_⟩
      exact ⟨_, _, rfl, rfl, _, _, rfl, rfl, .inl ⟨by omega, by omega⟩, _, _, rfl, rfl, k _ _ (X.trans X3) B3⟩
    refine ⟨_, rfl, rfl, _, rfl, ite2 (fun _ => ?_) (fun _ => ?_)⟩
    · refine ⟨_, rfl, _, rfl, _, rfl, b, c, 9, rfl, B2, by decide +kernel, fun d3 H3 a5 a6 B3 X3 => ?_⟩
      exact ⟨_, _, rfl, rfl, _, _, rfl, rfl, .inl ⟨by omega, by omega⟩, _, _, rfl, rfl, k _ _ (X.trans X3) B3⟩
    refine ⟨_, rfl, rfl, _, rfl, ite2 (fun _ => ?_) (fun _ => ?_)⟩
    · refine ⟨_, rfl, _, _, rfl, rfl, ⟨by decide, by decide, by decide⟩, b, c, _, rfl, B2, by decide +kernel, fun d3 H3 a5 a6 B3 X3 => ?_⟩
      exact k _ _ (X.trans X3) B3
    · refine ⟨_, rfl, _, _, rfl, rfl, ⟨by decide, by decide, by decide⟩, b, c, _, rfl, B2, by decide +kernel, fun d3 H3 a5 a6 B3 X3 => ?_⟩
      exact ⟨_, _, rfl, rfl, k _ _ (X.trans X3) B3⟩
theorem c_end (c_law_pick : Cal P w K mg base 3 "_law_pick" spPick []) (c_law_place : Cal P w K mg base 4 "_law_place" spPlace []) (d : D0 K mg "_law_end" s_law_end ["bag", "ring", "low"]) : Cal P w K mg base 5 "_law_end" spEnd [] := by
  refine cal d sc_law_end (fun vs H Q E h => ?_) (fun cdv A outer f s H vs Q E hr h => ?_)
  · obtain ⟨b, c, r, l, rfl, _⟩ := h
    rfl
  · obtain ⟨b, c, r, l, rfl, B, hr0, hr1, k⟩ := h
    refine ⟨_, (pss_cons (ps_if (pt_cmpR op_eq (pe_c c_law_pick hr (by decide) rfl (pa_cons (pv 0) (pa_cons pe_int pa_nil))) pe_int (nomark _)) (pss_one (ps_ret (pe_op op_add (pv 2) (pe_op op_mul (pv 1) (pe_op op_sub (pe_c c_law_pick hr (by decide) rfl (pa_cons (pv 0) (pa_cons pe_int pa_nil))) pe_int))))) pss_nil)
      (pss_one (ps_ret (pe_c c_law_place hr (by decide) rfl (pa_cons (pv 0) (pa_cons (pv 1) pa_nil)))))), ?_⟩
    refine ⟨_, rfl, b, c, 4, rfl, B, by decide +kernel, fun d1 H1 a1 a2 B1 X1 => ?_⟩
    refine ⟨rfl, _, rfl, ite2 (fun _ => ?_) (fun _ => ?_)⟩
    · refine ⟨_, rfl, _, rfl, _, rfl, b, c, 7, rfl, B1, by decide +kernel, fun d2 H2 a3 a4 B2 X2 => ?_⟩
      exact ⟨_, _, rfl, rfl, _, _, rfl, rfl, .inl ⟨by omega, by omega⟩, _, _, rfl, rfl, k _ _ (X1.trans X2) B2⟩
    · refine ⟨_, rfl, _, rfl, b, c, r, rfl, B1, hr0, hr1, fun v H2 X2 B2 => ?_⟩
      exact k _ _ (X1.trans X2) B2
theorem c_held (T : Bl mg) (c_law_pick : Cal P w K mg base 3 "_law_pick" spPick []) (d : D0 K mg "_law_held" s_law_held ["bag", "ring"]) : Cal P w K mg base 4 "_law_held" spHeld [] := by
  refine cal d sc_law_held (fun vs H Q E h => ?_) (fun cdv A outer f s H vs Q E hr h => ?_)
  · obtain ⟨b, c, r, rfl, _⟩ := h
    rfl
  · obtain ⟨b, c, r, rfl, B, hr0, hr1, k⟩ := h
    have S := sc_law_held
    have big : r < 2 ^ 2000 := Int.lt_of_le_of_lt hr1 (by decide +kernel)
    refine ⟨_, (pss_cons (ps_set (i := 2) S.nd rfl (Or.inl rfl) (pe_c c_law_pick hr (by decide) rfl (pa_cons (pv 0) (pa_cons pe_int pa_nil))))
      (pss_cons (ps_set (i := 3) S.nd rfl (Or.inl rfl) (pe_op op_add pe_int (pe_c c_law_pick hr (by decide) rfl (pa_cons (pv 0) (pa_cons (pe_callB (call_min2 rfl) (by rfl) T.min (by decide +kernel) (pa_cons (pv 1) (pa_cons pe_int pa_nil))) pa_nil)))))
      (pss_cut (ps_if (pt_cmpR op_eq (pv 2) pe_int (nomark _)) (pss_one (ps_set (i := 3) S.nd rfl (Or.inl rfl) (pv 1))) pss_nil)
      (pss_cut (ps_if (pt_cmpR op_eq (pv 2) pe_int (nomark _)) (pss_one (ps_set (i := 3) S.nd rfl (Or.inl rfl) (pe_op op_sub (pv 1) pe_int))) pss_nil)
      (pss_cut (ps_if (pt_cmpR op_eq (pv 2) pe_int (nomark _)) (pss_one (ps_set (i := 3) S.nd rfl (Or.inl rfl) (pe_c c_law_pick hr (by decide) rfl (pa_cons (pv 0) (pa_cons (pe_op op_add (pv 1) pe_int) pa_nil))))) pss_nil)
      (pss_cons (ps_set (i := 4) S.nd rfl (Or.inl rfl) (pe_listRg rfl rfl T.list (prg_1 rfl T.range (pv 1))))
      (pss_cons (ps_set (i := 5) S.nd rfl (Or.inl rfl) (pe_lst pa_nil))
      (pss_cons (ps_for PassesOwn.never rfl (pi_range1 rfl T.range (pa_cons (pv 3) pa_nil)) (pg_name (i := 6) S.nd rfl (Or.inl rfl)) (pss_cons (ps_set (i := 7) S.nd rfl (Or.inl rfl) (pe_bm PySem.F.plainAttrs_list PySem.F.slot_list_pop PySem.F.type_list_pop mt_popAt (pv 4) (pa_cons (pe_c c_law_pick hr (by decide) rfl (pa_cons (pv 0) (pa_cons (pe_callB call_len_seq (by rfl) T.len (by decide +kernel) (pa_cons (pv 4) pa_nil)) pa_nil))) pa_nil)))
      (pss_one (ps_expr (pe_bm PySem.F.plainAttrs_list PySem.F.slot_list_append PySem.F.type_list_append mt_append (pv 5) (pa_cons (pv 7) pa_nil))))))
      (pss_one (ps_ret (pv 5))))))))))), ?_⟩
    refine ⟨_, rfl, b, c, 7, rfl, B, by decide +kernel, fun kd H1 a1 a2 B1 X1 => ?_⟩
    refine ⟨_, rfl, _, rfl, _, _, rfl, b, c, _, rfl, B1, by split <;> first | exact big | decide +kernel, fun d1 H2 a3 a4 B2 X2 => ?_⟩
    refine ⟨_, _, rfl, rfl, ?_⟩
    have c0 : 1 + d1 ≤ r := by
      split at a4 <;> omega
    -- the count, behind each of the three tests
    refine ⟨fun σ H' => Sx b H H' ∧ Bag H' b c ∧ ∃ n : Int, σ = [some (.ref b), some (.int r), some (.int kd), some (.int n), none, none, none, none] ∧ 0 ≤ n ∧ n ≤ r, ?_, ?_⟩
    · refine ⟨_, rfl, rfl, _, rfl, ite2 (fun _ => ?_) (fun _ => ?_)⟩
      · exact ⟨_, rfl, X1.trans X2, B2, r, rfl, by omega, by omega⟩
      · exact ⟨X1.trans X2, B2, 1 + d1, rfl, by omega, by omega⟩
    rintro σ H3 ⟨X3, B3, n, rfl, n1, n2⟩
    refine ⟨fun σ H' => Sx b H H' ∧ Bag H' b c ∧ ∃ n : Int, σ = [some (.ref b), some (.int r), some (.int kd), some (.int n), none, none, none, none] ∧ 0 ≤ n ∧ n ≤ r, ?_, ?_⟩
    · refine ⟨_, rfl, rfl, _, rfl, ite2 (fun _ => ?_) (fun _ => ?_)⟩
      · exact ⟨_, rfl, _, _, rfl, rfl, X3, B3, r - 1, rfl, by omega, by omega⟩
      · exact ⟨X3, B3, n, rfl, by omega, by omega⟩
    rintro σ H4 ⟨X4, B4, m, rfl, m1, m2⟩
    refine ⟨fun σ H' => Sx b H H' ∧ Bag H' b c ∧ ∃ n : Int, σ = [some (.ref b), some (.int r), some (.int kd), some (.int n), none, none, none, none] ∧ 0 ≤ n ∧ n ≤ r, ?_, ?_⟩
    · refine ⟨_, rfl, rfl, _, rfl, ite2 (fun _ => ?_) (fun _ => ?_)⟩
      · refine ⟨_, rfl, _, rfl, _, _, rfl, rfl, b, c, _, rfl, B4, Int.lt_of_le_of_lt (show r + 1 ≤ 257 by omega) (by decide +kernel), fun d2 H5 a5 a6 B5 X5 => ?_⟩
        exact ⟨X4.trans X5, B5, d2, rfl, by omega, by omega⟩
      · exact ⟨X4, B4, m, rfl, by omega, by omega⟩
    rintro σ H5 ⟨X5, B5, z, rfl, z1, z2⟩
    refine ⟨_, rfl, _, rfl, RgOk.of_le (by omega) (by omega) (by omega) (by omega), fun q nq => ?_⟩
    refine ⟨by show 0 ≤ sizeLine; decide, fun hh nh => ?_⟩
    have eP : rgV 0 r = ((List.range r.toNat).map fun i => ((i : Nat) : Int)).map V.int := by
      unfold rgV
      rw [List.map_map, show (r - 0).toNat = r.toNat by rw [Int.sub_zero]]
      refine List.map_congr_left fun i _ => ?_
      show V.int (0 + (i : Nat)) = V.int ((i : Nat) : Int)
      rw [Int.zero_add]
    rw [eP] at nh ⊢
    have qh : q ≠ hh := fun e => by
      rw [← e, upd_same] at nh
      cases nh
    obtain ⟨ob, hob⟩ := B5.at_
    have qb : q ≠ b := (ne_of_none hob nq).symm
    have nh5 : H5 hh = none := by
      rw [upd_ne qh.symm] at nh
      exact nh
    have hb : hh ≠ b := (ne_of_none hob nh5).symm
    have hp : H hh = none := X5.free hb nh5
    obtain ⟨oc, hoc⟩ := B5.in_
    have qc : q ≠ c := (ne_of_none hoc nq).symm
    have hc : hh ≠ c := (ne_of_none hoc nh5).symm
    refine ⟨_, rfl, _, rfl, by omega, by omega, ?_⟩
    refine for_range (lo := 0) (n := z.toNat) (fun i σ H' => Sx b H H' ∧ Bag H' b c ∧ ∃ (hs ps : List Int) (v1 v2 : Option V), σ = [some (.ref b), some (.int r), some (.int kd), some (.int z), some (.ref q), some (.ref hh), v1, v2] ∧
      H' q = some (.lst (ps.map V.int)) ∧ H' hh = some (.lst (hs.map V.int)) ∧ hs.length = i ∧ hs.length + ps.length = r.toNat ∧ (hs ++ ps).Nodup ∧ (∀ x ∈ hs ++ ps, 0 ≤ x ∧ x < r)) ?_ ?_ ?_
    · have Xq := (X5.new nq (.lst (((List.range r.toNat).map fun i => ((i : Nat) : Int)).map V.int))).new nh (.lst [])
      refine ⟨Xq, (B5.new nq _).new nh _, [], _, none, none, rfl, by rw [upd_ne qh, upd_same], upd_same, rfl, ?_, ?_, ?_⟩
      · simp
      · rw [List.nil_append]
        refine List.Pairwise.map _ (fun a b hab => ?_) List.nodup_range
        omega
      · intro x hx
        rw [List.nil_append] at hx
        obtain ⟨i, hi, rfl⟩ := List.mem_map.mp hx
        have := List.mem_range.mp hi
        omega
    · rintro i σ H6 hi ⟨X6, B6, hs, ps, v1, v2, rfl, hq, hh6, e1, e2, e3, e4⟩
      have lp : 0 < ps.length := by omega
      refine ⟨_, rfl, .inl ⟨rfl, _, SqL.of hq⟩, _, rfl, _, rfl, _, _, rfl, .inl (SqL.of hq), b, c, _, rfl, B6, ?_, fun d2 H7 a5 a6 B7 X7 => ?_⟩
      · refine Int.lt_of_le_of_lt (show ((ps.map V.int).length : Int) ≤ 256 by rw [List.length_map]; omega) (by decide +kernel)
      rw [List.length_map] at a6
      have a7 : d2 < (ps.length : Int) := by omega
      obtain ⟨y, hy⟩ : ∃ y, ps[d2.toNat]? = some y := ⟨ps[d2.toNat]'(by omega), List.getElem?_eq_getElem (by omega)⟩
      have hq7 := X7 q _ hq qb
      have hh7 := X7 hh _ hh6 hb
      refine ⟨q, _, d2, _, .int y, rfl, rfl, hq7, by omega, by omega, seqIx_lt a5 (by rw [List.length_map]; exact a7), by rw [List.getElem?_map, hy]; rfl, ?_⟩
      have hh8 : (upd H7 q (.lst ((ps.map V.int).eraseIdx d2.toNat))) hh = some (.lst (hs.map V.int)) := by rw [upd_ne qh.symm]; exact hh7
      refine ⟨_, rfl, .inl ⟨rfl, _, SqL.of hh8⟩, _, rfl, hh, _, _, rfl, rfl, hh8, by rw [List.length_map]; exact small1000 (by omega), ?_⟩
      have hl : d2.toNat < ps.length := by omega
      refine ⟨?_, ?_, hs ++ [y], ps.eraseIdx d2.toNat, _, _, rfl, ?_, ?_, ?_, ?_, nodup_move e3 hy, fun x hx => e4 x (mem_move hy hx)⟩
      · intro a u e na
        have e7 := (X6.trans X7) a u e na
        have nq2 : a ≠ q := fun w => by
          rw [w] at e
          have := X5 q u e qb
          rw [nq] at this
          cases this
        have nh2 : a ≠ hh := fun w => by
          rw [w, hp] at e
          cases e
        rw [upd_ne nh2, upd_ne nq2]
        exact e7
      · exact (B7.off qb qc _).off hb hc _
      · rw [upd_ne qh, upd_same, map_erase]
      · rw [upd_same, List.map_append]
        rfl
      · rw [List.length_append, e1]
        rfl
      · rw [List.length_append, List.length_eraseIdx, if_pos hl]
        show hs.length + 1 + _ = _
        omega
    · rintro σ H6 ⟨X6, B6, hs, ps, v1, v2, rfl, hq, hh6, e1, e2, e3, e4⟩
      refine ⟨_, rfl, k hh hs H6 hp X6 B6 hh6 ⟨(List.nodup_append.mp e3).1, fun x hx => (e4 x (List.mem_append_left _ hx)).1, fun x hx => (e4 x (List.mem_append_left _ hx)).2⟩⟩
end
end K01

set_option maxHeartbeats 1000000
namespace K01
/-- the seats met on a walk of n steps that begins at s -/
def walkL (r s : Int) (n : Nat) (ns : List Int) : List Int := ((List.range n).map fun k => (s + ((k : Nat) : Int)) % r).filter fun x => decide (x ∈ ns)
theorem walkL_succ (r s : Int) (n : Nat) (ns : List Int) : walkL r s (n + 1) ns = if (s + (n : Int)) % r ∈ ns then walkL r s n ns ++ [(s + (n : Int)) % r] else walkL r s n ns := by
  unfold walkL
  rw [List.range_succ, List.map_append, List.filter_append]
  by_cases h : (s + (n : Int)) % r ∈ ns
  · rw [if_pos h]
    simp [h]
  · rw [if_neg h]
    simp [h]
/-- two rising lists with the same members are one -/
theorem rising_ext : ∀ {xs ys : List Int}, xs.Pairwise (· < ·) → ys.Pairwise (· < ·) → (∀ z, z ∈ xs ↔ z ∈ ys) → xs = ys
  | [], [], _, _, _ => rfl
  | [], y :: ys, _, _, h => absurd ((h y).mpr (.head _)) (by simp)
  | x :: xs, [], _, _, h => absurd ((h x).mp (.head _)) (by simp)
  | x :: xs, y :: ys, hx, hy, h => by
    have hx' := List.pairwise_cons.mp hx
    have hy' := List.pairwise_cons.mp hy
    have e : x = y := by
      have h1 := (h x).mp (.head _)
      have h2 := (h y).mpr (.head _)
      rcases List.mem_cons.mp h1 with e | m1
      · exact e
      · rcases List.mem_cons.mp h2 with e | m2
        · exact e.symm
        · have := hx'.1 y m2
          have := hy'.1 x m1
          omega
    subst e
    refine congrArg (List.cons x) (rising_ext hx'.2 hy'.2 fun z => ?_)
    constructor
    · intro m
      have l := hx'.1 z m
      rcases List.mem_cons.mp ((h z).mp (.tail _ m)) with e | m2
      · omega
      · exact m2
    · intro m
      have l := hy'.1 z m
      rcases List.mem_cons.mp ((h z).mpr (.tail _ m)) with e | m2
      · omega
      · exact m2
theorem emod_lt' {r : Int} (h : 0 < r) (a : Int) : a % r < r := Int.emod_lt_of_pos _ h
theorem emod_nn {r : Int} (h : 0 < r) (a : Int) : 0 ≤ a % r := Int.emod_nonneg _ (by omega)
/-- a seat is met again at its distance -/
theorem back {r s x : Int} (h0 : 0 ≤ x) (h1 : x < r) : (s + (x - s) % r) % r = x := by
  rw [Int.add_emod, Int.emod_emod, ← Int.add_emod, show s + (x - s) = x by omega]
  exact Int.emod_eq_of_lt h0 h1
theorem forth {r s k : Int} (h0 : 0 ≤ k) (h1 : k < r) : ((s + k) % r - s) % r = k := by
  rw [Int.sub_emod, Int.emod_emod, ← Int.sub_emod, show s + k - s = k by omega]
  exact Int.emod_eq_of_lt h0 h1
/-- the sorted distances up to span, as the walk tells them -/
theorem steps_walk {r s : Int} {ns st : List Int} {n : Nat} (hr : 0 < r) (hn : (n : Int) ≤ r) (h0 : ∀ x ∈ ns, 0 ≤ x) (h1 : ∀ x ∈ ns, x < r) (nd : ns.Nodup) (pm : st.Perm (ns.map fun x => (x - s) % r)) (so : st.Pairwise (· ≤ ·)) :
    (st.filter fun k => decide (k < (n : Int))).map (fun k => (s + k) % r) = walkL r s n ns := by
  have mem : ∀ k, k ∈ st ↔ ∃ x ∈ ns, (x - s) % r = k := fun k => by
    rw [pm.mem_iff, List.mem_map]
  have inj : (ns.map fun x => (x - s) % r).Nodup := by
    unfold List.Nodup
    rw [List.pairwise_map]
    refine List.Pairwise.imp_of_mem (fun {a b} ha hb hab e => hab ?_) nd
    rw [← back (s := s) (h0 a ha) (h1 a ha), ← back (s := s) (h0 b hb) (h1 b hb), e]
  have up : st.Pairwise (· < ·) := by
    have z := so.and (pm.nodup_iff.mpr inj)
    exact z.imp fun {a b} h => by
      have h1 := h.1
      have h2 := h.2
      omega
  have e : (st.filter fun k => decide (k < (n : Int))) = ((List.range n).filter fun k => decide ((s + ((k : Nat) : Int)) % r ∈ ns)).map fun k => ((k : Nat) : Int) := by
    refine rising_ext (up.filter _) (List.Pairwise.map _ (fun a b h => by omega) (List.pairwise_lt_range.filter _)) fun z => ?_
    rw [List.mem_filter, mem, List.mem_map]
    constructor
    · rintro ⟨⟨x, hx, rfl⟩, hz⟩
      have hz := of_decide_eq_true hz
      have p0 := emod_nn hr (x - s)
      refine ⟨((x - s) % r).toNat, List.mem_filter.mpr ⟨List.mem_range.mpr (by omega), decide_eq_true ?_⟩, by omega⟩
      rw [Int.toNat_of_nonneg p0, back (h0 x hx) (h1 x hx)]
      exact hx
    · rintro ⟨k, hk, rfl⟩
      obtain ⟨k1, k2⟩ := List.mem_filter.mp hk
      have k1 := List.mem_range.mp k1
      refine ⟨⟨_, of_decide_eq_true k2, forth (by omega) (by omega)⟩, decide_eq_true (by omega)⟩
  rw [e, List.map_map]
  unfold walkL
  rw [List.filter_map]
  rfl
theorem walkL_nil (r s : Int) (n : Nat) : walkL r s n [] = [] := by
  unfold walkL
  rw [List.filter_eq_nil_iff]
  intro a _
  simp
/-- the first seat of the walk is the one of the least distance -/
theorem walk_first {r s m : Int} {ns : List Int} (hr : 0 < r) (h0 : ∀ x ∈ ns, 0 ≤ x) (h1 : ∀ x ∈ ns, x < r) (hm : m ∈ ns) (best : ∀ x ∈ ns, (m - s) % r ≤ (x - s) % r) : ∃ rest, walkL r s r.toNat ns = m :: rest := by
  have p0 := emod_nn hr (m - s)
  have p1 := emod_lt' hr (m - s)
  obtain ⟨t, ht⟩ : ∃ t, r.toNat = ((m - s) % r).toNat + (t + 1) := ⟨r.toNat - ((m - s) % r).toNat - 1, by omega⟩
  have bk := back (s := s) (h0 m hm) (h1 m hm)
  unfold walkL
  rw [ht, List.range_add, List.map_append, List.filter_append]
  have e1 : ((List.range ((m - s) % r).toNat).map fun k => (s + ((k : Nat) : Int)) % r).filter (fun x => decide (x ∈ ns)) = [] := by
    rw [List.filter_eq_nil_iff]
    intro x hx hd
    obtain ⟨k, hk, rfl⟩ := List.mem_map.mp hx
    have hk := List.mem_range.mp hk
    have b := best _ (of_decide_eq_true hd)
    rw [forth (by omega) (by omega)] at b
    omega
  rw [e1, List.nil_append, List.range_succ_eq_map, List.map_cons, List.map_cons, List.filter_cons]
  have e2 : (s + (((((m - s) % r).toNat + 0 : Nat)) : Int)) % r = m := by
    rw [show ((((m - s) % r).toNat + 0 : Nat) : Int) = (m - s) % r by omega]
    exact bk
  rw [e2, if_pos (decide_eq_true hm)]
  exact ⟨_, rfl⟩
theorem emod_is {a r c q : Int} (e : a = c + r * q) (h0 : 0 ≤ c) (h1 : c < r) : a % r = c := by
  rw [e, Int.add_mul_emod_self_left]
  exact Int.emod_eq_of_lt h0 h1
theorem count_eq {r : Int} (hr : 0 < r) (lo hi : Int) : (if (hi - lo) % r = 0 then r else (hi - lo) % r) = (hi - (lo + 1)) % r + 1 := by
  have e := Int.emod_add_mul_ediv (hi - lo) r
  have p0 := emod_nn hr (hi - lo)
  have p1 := emod_lt' hr (hi - lo)
  generalize (hi - lo) % r = d at e p0 p1
  generalize (hi - lo) / r = q at e
  by_cases h : d = 0
  · rw [if_pos h, emod_is (c := r - 1) (q := q - 1) (r := r) ?_ (by omega) (by omega)]
    · omega
    · rw [Int.mul_sub, Int.mul_one]
      omega
  · rw [if_neg h, emod_is (c := d - 1) (q := q) (r := r) (by omega) (by omega) (by omega)]
    omega
theorem gap_eq {r : Int} (a : Int) : (a - a % r) / r * r = a - a % r := by
  refine Int.ediv_mul_cancel ⟨a / r, ?_⟩
  have e := Int.emod_add_mul_ediv a r
  omega
end K01

set_option Elab.async false
set_option maxRecDepth 100000
set_option maxHeartbeats 4000000
namespace K01
open PySem PySem.Spec PyProof.Rows L2 C8

theorem sameNew {H H1 : Hp} {p : Addr} (x : Same H H1) (n : H1 p = none) (o : HO) : Same H (L2.upd H1 p o) := fun a u h => by
  rw [upd_ne (ne_of_none (x a u h) n)]
  exact x a u h
/-- a store to what is new -/
theorem samePut {H H1 : Hp} {p : Addr} (x : Same H H1) (n : H p = none) (o : HO) : Same H (L2.upd H1 p o) := fun a u h => by
  rw [upd_ne (ne_of_none h n)]
  exact x a u h

theorem iteD {c A B : Prop} [Decidable c] (h : ¬ c) (b : B) : if decide c = true then A else B := by
  rw [decide_eq_false h]
  exact iteF b
theorem iteDT {c A B : Prop} [Decidable c] (h : c) (a : A) : if decide c = true then A else B := by
  rw [decide_eq_true h]
  exact iteT a

abbrev s_law_flags : Stmt := top 23
abbrev n_law_flags : List Str := ["ring", "held", "flags", "seat", "k"]
theorem sc_law_flags : FnScope n_law_flags ["ring", "held"] (C8.fnScope s_law_flags) := ⟨rfl, rfl, rfl, by decide +kernel, rfl, by decide +kernel, by decide +kernel⟩
/-- which seats are among ms -/
def flagsL (r : Int) (ms : List Int) : List V := (List.range r.toNat).map fun k => V.bl (decide (((k : Nat) : Int) ∈ ms))
theorem flagsL_len (r : Int) (ms : List Int) : (flagsL r ms).length = r.toNat := by
  unfold flagsL
  rw [List.length_map, List.length_range]
theorem flagsL_at {r : Int} {ms : List Int} {z : Int} (h0 : 0 ≤ z) (h1 : z < r) : (flagsL r ms)[z.toNat]? = some (V.bl (decide (z ∈ ms))) := by
  unfold flagsL
  rw [List.getElem?_map, List.getElem?_range (by omega)]
  show some (V.bl (decide (((z.toNat : Nat) : Int) ∈ ms))) = _
  rw [Int.toNat_of_nonneg h0]
theorem flagsL_nil (r : Int) : flagsL r [] = List.replicate r.toNat (V.bl false) := by
  refine List.ext_getElem (by rw [flagsL_len, List.length_replicate]) fun i h1 h2 => ?_
  simp [flagsL]
theorem flagsL_set {r : Int} {ms : List Int} {z : Int} (h0 : 0 ≤ z) (h1 : z < r) : (flagsL r ms).set z.toNat (V.bl true) = flagsL r (ms ++ [z]) := by
  refine List.ext_getElem? fun i => ?_
  rw [List.getElem?_set, flagsL_len]
  have at_ : ∀ l : List Int, i < r.toNat → (flagsL r l)[i]? = some (V.bl (decide (((i : Nat) : Int) ∈ l))) := fun l hi => by
    have e := flagsL_at (r := r) (ms := l) (z := (i : Int)) (by omega) (by omega)
    rw [Int.toNat_natCast] at e
    exact e
  by_cases q : z.toNat = i
  · have hi : i < r.toNat := by omega
    rw [if_pos q, if_pos (by omega), at_ _ hi]
    have e : ((i : Nat) : Int) = z := by omega
    rw [e]
    simp
  · rw [if_neg q]
    by_cases hi : i < r.toNat
    · rw [at_ _ hi, at_ _ hi]
      have e : ((i : Nat) : Int) ≠ z := by omega
      simp [e]
    · rw [List.getElem?_eq_none (by rw [flagsL_len]; omega), List.getElem?_eq_none (by rw [flagsL_len]; omega)]
def spFlags : Sp := fun vs H Q _ => ∃ (r : Int) (l : Addr) (ns : List Int), vs = [.int r, .ref l] ∧ H l = some (.lst (ns.map V.int)) ∧ 0 < r ∧ r ≤ 256 ∧ Seats ns r ∧ ∀ (p : Addr) (H' : Hp), H p = none → Same H H' → H' p = some (.lst (flagsL r ns)) → Q (.ref p) H'

abbrev s_law_walk : Stmt := top 24
abbrev n_law_walk : List Str := ["ring", "start", "count", "held", "flags", "met", "k", "seat"]
theorem sc_law_walk : FnScope n_law_walk ["ring", "start", "count", "held"] (C8.fnScope s_law_walk) := ⟨rfl, rfl, rfl, by decide +kernel, rfl, by decide +kernel, by decide +kernel⟩
def spWalk : Sp := fun vs H Q _ => ∃ (r s n : Int) (l : Addr) (ns : List Int), vs = [.int r, .int s, .int n, .ref l] ∧ H l = some (.lst (ns.map V.int)) ∧ 0 < r ∧ r ≤ 256 ∧ 0 ≤ n ∧ n ≤ r ∧ Seats ns r ∧
  ∀ (p : Addr) (H' : Hp), H p = none → Same H H' → H' p = some (.lst ((walkL r s n.toNat ns).map V.int)) → Q (.ref p) H'
theorem walkL_len (r s : Int) (n : Nat) (ns : List Int) : (walkL r s n ns).length ≤ n := by
  unfold walkL
  refine Nat.le_trans (List.length_filter_le _ _) ?_
  rw [List.length_map, List.length_range]
  exact Nat.le_refl _

abbrev s_law_is_list : Stmt := top 26
abbrev n_law_is_list : List Str := ["shown", "wanted", "k"]
theorem sc_law_is_list : FnScope n_law_is_list ["shown", "wanted"] (C8.fnScope s_law_is_list) := ⟨rfl, rfl, rfl, by decide +kernel, rfl, by decide +kernel, by decide +kernel⟩
def spIsList : Sp := fun vs H Q _ => ∃ (a b : Addr) (xs : List Int), vs = [.ref a, .ref b] ∧ H a = some (.lst (xs.map V.int)) ∧ H b = some (.lst (xs.map V.int)) ∧ xs.length ≤ 1000 ∧ Q (.bl true) H

abbrev s_law_distance_right : Stmt := top 28
abbrev n_law_distance_right : List Str := ["setting", "ring", "place", "seat", "shown", "gap"]
theorem sc_law_distance_right : FnScope n_law_distance_right ["setting", "ring", "place", "seat"] (C8.fnScope s_law_distance_right) := ⟨rfl, rfl, rfl, by decide +kernel, rfl, by decide +kernel, by decide +kernel⟩
def spDR (C : Addr) : Sp := fun vs H Q _ => ∃ (q : Addr) (n : Nat) (a b : Int), vs = [.ref q, .int (ringN n), .int a, .int b] ∧ SetAt C H q n ∧ n ≤ 8 ∧ Q (.bl true) H

section
variable {P : Program} {w : World} {K : PySem.W.Frag} {mg : Str → Option Value} {base : Heap} {C : Addr}
theorem c_flags (T : Bl mg) (d : D0 K mg "_law_flags" s_law_flags ["ring", "held"]) : Cal P w K mg base 1 "_law_flags" spFlags [] := by
  refine cal d sc_law_flags (fun vs H Q E h => ?_) (fun cdv A outer f s H vs Q E hr h => ?_)
  · obtain ⟨r, l, ns, rfl, _⟩ := h
    rfl
  · obtain ⟨r, l, ns, rfl, hl, r0, r1, st, k⟩ := h
    have S := sc_law_flags
    refine ⟨_, (pss_cons (ps_setLc (i := 2) (own := [("k", 4)]) (g := gName 4) (tt := tYes) (by rfl) S.nd rfl rfl (sw_true rfl rfl rfl (by decide +kernel)) (pi_range1 rfl T.range (pa_cons (pv 0) pa_nil)) (blkOk_by (own := [("k", 4)]) (N := n_law_flags) (sc := C8.fnScope s_law_flags) (by decide +kernel)) (fun _ _ _ _ _ => pg_name (i := 4) S.nd rfl (Or.inl rfl)) (fun _ _ _ _ _ => pts_nil) (fun _ _ _ _ _ => pe_bl))
      (pss_cons (ps_for PassesOwn.never rfl (pi_list (pv 1)) (pg_name (i := 3) S.nd rfl (Or.inl rfl)) (pss_one (ps_asg pe_bl (pg_sub (pv 2) (pv 3) set_list))))
      (pss_one (ps_ret (pv 2))))), ?_⟩
    refine ⟨_, rfl, _, rfl, by omega, by omega, fun D nD => ?_⟩
    refine lc_range (lo := 0) (n := r.toNat) (fun i H' => Same H H' ∧ H' D = some (.lst (List.replicate i (V.bl false)))) ⟨sameNew (Same.refl H) nD _, upd_same⟩ (fun i H' hi ⟨s1, h1⟩ => ?_) (fun H' ⟨s1, h1⟩ => ?_)
    · refine ⟨rfl, _, h1, by rw [List.length_replicate]; exact small1000 (by omega), samePut s1 nD _, ?_⟩
      rw [upd_same, List.replicate_succ']
    · rw [← flagsL_nil] at h1
      refine ⟨_, rfl, l, rfl, ⟨_, SqL.of (s1 _ _ hl)⟩, ?_⟩
      refine for_list (xs := ns.map V.int) (fun i σ H2 => Same H H2 ∧ H2 D = some (.lst (flagsL r (ns.take i))) ∧ ∃ v1 v2 : Option V, σ = [some (.int r), some (.ref l), some (.ref D), v1, v2]) ⟨s1, h1, _, _, rfl⟩ (fun i σ H2 _ ⟨s2, _⟩ => SqL.of (s2 _ _ hl)) ?_ ?_
      · rintro i x σ H2 hx ⟨s2, h2, v1, v2, rfl⟩
        rw [List.getElem?_map] at hx
        cases e : ns[i]? with
        | none => rw [e] at hx; cases hx
        | some z =>
          rw [e] at hx
          cases hx
          have hm := List.mem_of_getElem? e
          have z0 := st.lo z hm
          have z1 := st.hi z hm
          refine ⟨_, rfl, _, rfl, D, _, z, z.toNat, rfl, rfl, h2, ?_, samePut s2 nD _, ?_, _, _, rfl⟩
          · unfold ixN
            rw [flagsL_len, if_pos z0, if_pos (by omega)]
          · rw [upd_same, flagsL_set z0 z1, List.take_add_one, e]
            rfl
      · rintro σ H2 ⟨s2, h2, v1, v2, rfl⟩
        rw [List.length_map, List.take_length] at h2
        exact ⟨_, rfl, k D H2 nD s2 h2⟩
theorem c_walk (T : Bl mg) (c_law_flags : Cal P w K mg base 1 "_law_flags" spFlags []) (d : D0 K mg "_law_walk" s_law_walk ["ring", "start", "count", "held"]) : Cal P w K mg base 2 "_law_walk" spWalk [] := by
  refine cal d sc_law_walk (fun vs H Q E h => ?_) (fun cdv A outer f s H vs Q E hr h => ?_)
  · obtain ⟨r, sx, n, l, ns, rfl, _⟩ := h
    rfl
  · obtain ⟨r, sx, n, l, ns, rfl, hl, r0, r1, n0, n1, st, k⟩ := h
    have S := sc_law_walk
    refine ⟨_, (pss_cons (ps_set (i := 4) S.nd rfl (Or.inl rfl) (pe_c c_law_flags hr (by decide) rfl (pa_cons (pv 0) (pa_cons (pv 3) pa_nil))))
      (pss_cons (ps_set (i := 5) S.nd rfl (Or.inl rfl) (pe_lst pa_nil))
      (pss_cons (ps_for PassesOwn.never rfl (pi_range1 rfl T.range (pa_cons (pv 2) pa_nil)) (pg_name (i := 6) S.nd rfl (Or.inl rfl)) (pss_cons (ps_set (i := 7) S.nd rfl (Or.inl rfl) (pe_op op_mod (pe_callTy call_int1 (by rfl) T.int (by decide +kernel) (pa_cons (pe_op op_add (pv 1) (pv 6)) pa_nil)) (pv 0)))
      (pss_one (ps_if (pt_val (pe_ix ix_list (pv 4) (pv 7) (fun _ _ => rfl))) (pss_one (ps_expr (pe_bm PySem.F.plainAttrs_list PySem.F.slot_list_append PySem.F.type_list_append mt_append (pv 5) (pa_cons (pv 7) pa_nil)))) pss_nil))))
      (pss_one (ps_ret (pv 5)))))), ?_⟩
    refine ⟨_, rfl, _, rfl, r, l, ns, rfl, hl, r0, r1, st, fun F H1 nF s1 hF => ?_⟩
    refine ⟨by show 0 ≤ sizeLine; decide, fun m nm => ?_⟩
    have nmH : H m = none := s1.free nm
    have Fm : F ≠ m := ne_of_none hF nm
    refine ⟨_, rfl, _, rfl, by omega, by omega, ?_⟩
    refine for_range (lo := 0) (n := n.toNat) (fun i σ H2 => Same H H2 ∧ H2 F = some (.lst (flagsL r ns)) ∧ H2 m = some (.lst ((walkL r sx i ns).map V.int)) ∧ ∃ v1 v2 : Option V, σ = [some (.int r), some (.int sx), some (.int n), some (.ref l), some (.ref F), some (.ref m), v1, v2]) ⟨sameNew s1 nm _, by rw [upd_ne Fm]; exact hF, upd_same, _, _, rfl⟩ ?_ ?_
    · rintro i σ H2 hi ⟨s2, h2, h3, v1, v2, rfl⟩
      have m0 := emod_nn r0 (sx + (0 + (i : Int)))
      have m1 := emod_lt' r0 (sx + (0 + (i : Int)))
      refine ⟨_, rfl, _, rfl, _, _, rfl, rfl, .inl ⟨_, rfl, _, rfl, _, _, rfl, rfl, pm r0, ?_⟩⟩
      refine ⟨_, rfl, _, rfl, F, _, _, _, rfl, rfl, SqL.of h2, at_of (Int.toNat_of_nonneg m0).symm (flagsL_at m0 m1), _, rfl, ?_⟩
      have e := walkL_succ r sx i ns
      rw [Int.zero_add] at m0 m1 ⊢
      refine ite2 (fun hin => ?_) (fun hout => ?_)
      · rw [if_pos (of_decide_eq_true hin)] at e
        refine ⟨_, rfl, .inl ⟨rfl, _, SqL.of h3⟩, _, rfl, m, _, _, rfl, rfl, h3, ?_, ?_⟩
        · rw [List.length_map]
          have := walkL_len r sx i ns
          exact small1000 (by omega)
        · refine ⟨samePut s2 nmH _, by rw [upd_ne Fm]; exact h2, ?_, _, _, rfl⟩
          rw [upd_same, e, List.map_append]
          rfl
      · rw [if_neg (mt decide_eq_true hout)] at e
        exact ⟨s2, h2, by rw [e]; exact h3, _, _, rfl⟩
    · rintro σ H2 ⟨s2, h2, h3, v1, v2, rfl⟩
      exact ⟨_, rfl, k m H2 nmH s2 h3⟩
theorem c_is_list (T : Bl mg) (c_law_whole : Cal P w K mg base 1 "_law_whole" spInt []) (d : D0 K mg "_law_is_list" s_law_is_list ["shown", "wanted"]) : Cal P w K mg base 2 "_law_is_list" spIsList [] := by
  refine cal d sc_law_is_list (fun vs H Q E h => ?_) (fun cdv A outer f s H vs Q E hr h => ?_)
  · obtain ⟨a, b, xs, rfl, _⟩ := h
    rfl
  · obtain ⟨a, b, xs, rfl, ha, hb, hz, k⟩ := h
    have S := sc_law_is_list
    refine ⟨_, (pss_cons (ps_if (PW.pt (pw_or (pt_not (pt_val (pe_callB call_isi (by rfl) T.isinstance (by decide +kernel) (pa_cons (pv 0) (pa_cons (pe_bltn (v := .ty "list") (by rfl) T.list (by decide +kernel) rfl) pa_nil))))) (pw_or1 (pt_cmpR op_ne (pe_callB call_len_seq (by rfl) T.len (by decide +kernel) (pa_cons (pv 0) pa_nil)) (pe_callB call_len_seq (by rfl) T.len (by decide +kernel) (pa_cons (pv 1) pa_nil)) (nomark _))))) (pss_one (ps_ret pe_bl)) pss_nil)
      (pss_cons (ps_for PassesOwn.never rfl (pi_range1 rfl T.range (pa_cons (pe_callB call_len_seq (by rfl) T.len (by decide +kernel) (pa_cons (pv 1) pa_nil)) pa_nil)) (pg_name (i := 2) S.nd rfl (Or.inl rfl)) (pss_one (ps_if (PW.pt (pw_or (pt_not (pt_val (pe_c c_law_whole hr (by decide) rfl (pa_cons (pe_ix ix_list (pv 0) (pv 2) (fun _ _ => rfl)) pa_nil)))) (pw_or1 (pt_cmpR op_ne (pe_ix ix_list (pv 0) (pv 2) (fun _ _ => rfl)) (pe_ix ix_list (pv 1) (pv 2) (fun _ _ => rfl)) (nomark _))))) (pss_one (ps_ret pe_bl)) pss_nil)))
      (pss_one (ps_ret pe_bl)))), ?_⟩
    refine ⟨_, rfl, _, _, _, _, true, rfl, .ty _, .base (.lst ha), kit_ty (by decide +kernel), _, rfl, iteF ?_⟩
    refine ⟨_, rfl, _, _, rfl, .inl (SqL.of ha), _, rfl, _, _, rfl, .inl (SqL.of hb), rfl, _, rfl, iteNS rfl ?_⟩
    refine ⟨_, rfl, _, _, rfl, .inl (SqL.of hb), _, rfl, by omega, ?_, ?_⟩
    · rw [List.length_map]
      omega
    refine for_range (lo := 0) (n := _) (fun i σ H2 => H2 = H ∧ ∃ v1 : Option V, σ = [some (.ref a), some (.ref b), v1]) ⟨rfl, _, rfl⟩ ?_ ?_
    · rintro i σ H2 hi ⟨rfl, v1, rfl⟩
      rw [Int.toNat_natCast, List.length_map] at hi
      have e : (xs.map V.int)[i]? = some (.int xs[i]) := by rw [List.getElem?_map, List.getElem?_eq_getElem hi]; rfl
      have e' : atI (xs.map V.int) (0 + (i : Int)) = some (.int xs[i]) := at_of (by omega) e
      refine ⟨_, rfl, _, rfl, _, _, _, _, rfl, rfl, SqL.of ha, e', _, rfl, _, rfl, iteF ?_⟩
      refine ⟨_, rfl, _, rfl, _, _, _, _, rfl, rfl, SqL.of ha, e', _, rfl, _, rfl, _, _, _, _, rfl, rfl, SqL.of hb, e', rfl, _, rfl, iteNS rfl ?_⟩
      exact ⟨rfl, _, rfl⟩
    · rintro σ H2 ⟨rfl, v1, rfl⟩
      exact k
theorem c_distance_right (c_distance : Cal P w K mg base 3 "distance" (spDist C) []) (c_law_whole : Cal P w K mg base 1 "_law_whole" spInt []) (d : D0 K mg "_law_distance_right" s_law_distance_right ["setting", "ring", "place", "seat"]) : Cal P w K mg base 4 "_law_distance_right" (spDR C) [] := by
  refine cal d sc_law_distance_right (fun vs H Q E h => ?_) (fun cdv A outer f s H vs Q E hr h => ?_)
  · obtain ⟨q, n, a, b, rfl, _⟩ := h
    rfl
  · obtain ⟨q, n, a, b, rfl, hs, hn, k⟩ := h
    have S := sc_law_distance_right
    refine ⟨_, (pss_cons (ps_set (i := 4) S.nd rfl (Or.inl rfl) (pe_c c_distance hr (by decide) rfl (pa_cons (pv 0) (pa_cons (pv 2) (pa_cons (pv 3) pa_nil)))))
      (pss_cons (ps_if (PW.pt (pw_or (pt_not (pt_val (pe_c c_law_whole hr (by decide) rfl (pa_cons (pv 4) pa_nil)))) (pw_or (pt_cmpR op_lt (pv 4) pe_int (nomark _)) (pw_or1 (pt_cmpR op_ge (pv 4) (pv 1) (nomark _)))))) (pss_one (ps_ret pe_bl)) pss_nil)
      (pss_cons (ps_set (i := 5) S.nd rfl (Or.inl rfl) (pe_op op_sub (pe_op op_sub (pv 3) (pv 2)) (pv 4)))
      (pss_one (ps_ret (pe_cmpR op_eq (pe_op op_mul (pe_op op_fdivW (pv 5) (pv 1)) (pv 1)) (pv 5) (nomark _))))))), ?_⟩
    have r0 := ring_pos n
    have r1 := ringN_le hn
    have p0 := emod_nn r0 (b - a)
    have p1 := emod_lt' r0 (b - a)
    refine ⟨_, rfl, _, rfl, _, rfl, q, a, b, n, rfl, hs, hn, ?_⟩
    refine ⟨_, rfl, _, rfl, _, rfl, iteF ?_⟩
    refine ⟨_, rfl, _, _, rfl, rfl, _, rfl, ?_⟩
    refine iteD (by omega) ?_
    refine ⟨_, rfl, _, rfl, _, _, rfl, rfl, _, rfl, iteD (by omega) ?_⟩
    refine ⟨_, rfl, _, rfl, _, _, rfl, rfl, _, rfl, _, _, rfl, rfl, ?_⟩
    refine ⟨_, rfl, _, rfl, _, _, rfl, rfl, dvw r0 (Int.lt_of_le_of_lt r1 (by decide +kernel)) _, _, rfl, _, _, rfl, rfl, .inr ⟨by omega, by omega⟩, _, rfl, rfl, ?_⟩
    have e := gap_eq (r := ringN n) (b - a)
    show Q (.bl (decide (V.int ((b - a - (b - a) % ringN n) / ringN n * ringN n) = V.int (b - a - (b - a) % ringN n)))) H
    rw [e, decide_eq_true rfl]
    exact k
end
end K01

set_option Elab.async false
set_option maxRecDepth 100000
set_option maxHeartbeats 4000000
namespace K01
open PySem PySem.Spec PyProof.Rows L2 C8

abbrev s_arc : Stmt := top 11
abbrev n_arc : List Str := ["setting", "low", "high", "held", "start", "span", "steps", "step", "seat"]
theorem sc_arc : FnScope n_arc ["setting", "low", "high", "held"] (C8.fnScope s_arc) := ⟨rfl, rfl, rfl, by decide +kernel, rfl, by decide +kernel, by decide +kernel⟩
/-- the seats that the arc has -/
def arcL (n : Nat) (lo hi : Int) (ns : List Int) : List Int := walkL (ringN n) (lo + 1) ((hi - (lo + 1)) % ringN n + 1).toNat ns
def spArc (C : Addr) : Sp := fun vs H Q _ => ∃ (q : Addr) (lo hi : Int) (l : Addr) (n : Nat) (ns : List Int), vs = [.ref q, .int lo, .int hi, .ref l] ∧ SetAt C H q n ∧ n ≤ 8 ∧ H l = some (.lst (ns.map V.int)) ∧ Seats ns (ringN n) ∧
  ∀ (p : Addr) (H' : Hp), H p = none → Same H H' → H' p = some (.lst ((arcL n lo hi ns).map V.int)) → Q (.ref p) H'
theorem nodup_len : ∀ (n : Nat) (l : List Nat), l.Nodup → (∀ x ∈ l, x < n) → l.length ≤ n
  | 0, [], _, _ => Nat.le_refl _
  | 0, a :: l, _, h => absurd (h a (.head _)) (Nat.not_lt_zero _)
  | n + 1, l, nd, h => by
    by_cases m : n ∈ l
    · have z := nodup_len n (l.erase n) (nd.erase n) fun x hx => by
        have q := (nd.mem_erase_iff).mp hx
        have := h x q.2
        have := q.1
        omega
      rw [List.length_erase_of_mem m] at z
      omega
    · refine Nat.le_succ_of_le (nodup_len n l nd fun x hx => ?_)
      have := h x hx
      have : x ≠ n := fun e => m (e ▸ hx)
      omega
theorem seats_len {ns : List Int} {r : Int} (h : Seats ns r) (hr : 0 ≤ r) : ns.length ≤ r.toNat := by
  have sub : (ns.map Int.toNat).Nodup := by
    unfold List.Nodup
    rw [List.pairwise_map]
    refine List.Pairwise.imp_of_mem (fun {a b} ha hb hab e => hab ?_) h.nd
    have := h.lo a ha
    have := h.lo b hb
    omega
  have hs : (ns.map Int.toNat).Subset (List.range r.toNat) := by
    intro x hx
    obtain ⟨a, ha, rfl⟩ := List.mem_map.mp hx
    have := h.lo a ha
    have := h.hi a ha
    exact List.mem_range.mpr (by omega)
  have z := nodup_len r.toNat _ sub fun x hx => List.mem_range.mp (hs hx)
  rw [List.length_map] at z
  exact z

section
variable {P : Program} {w : World} {K : PySem.W.Frag} {mg : Str → Option Value} {base : Heap} {C : Addr}
theorem c_arc (T : Bl mg) (ST : SetT K mg C) (c_distance : Cal P w K mg base 3 "distance" (spDist C) []) (d : D0 K mg "arc" s_arc ["setting", "low", "high", "held"]) : Cal P w K mg base 4 "arc" (spArc C) [] := by
  refine cal d sc_arc (fun vs H Q E h => ?_) (fun cdv A outer f s H vs Q E hr h => ?_)
  · obtain ⟨q, lo, hi, l, n, ns, rfl, _⟩ := h
    rfl
  · obtain ⟨q, lo, hi, l, n, ns, rfl, hq, hn, hl, st, k⟩ := h
    have S := sc_arc
    obtain ⟨pp, g, fd, hp, F, bb⟩ := ST.sea
    have G : FnOk P w K mg base C8.CX0 1 g fd ["self"] (spSeats C) := f_seats ST.cl ST.n1 F
    refine ⟨_, (pss_cons (ps_set (i := 4) S.nd rfl (Or.inr rfl) (pe_op op_add (pv 1) pe_int))
      (pss_cons (ps_set (i := 5) S.nd rfl (Or.inr rfl) (pe_c c_distance hr (by decide) rfl (pa_cons (pv 0) (pa_cons (pv 4) (pa_cons (pv 2) pa_nil)))))
      (pss_cons (ps_set (i := 6) S.nd rfl (Or.inl rfl) (pe_callB cr_sortedI (by rfl) T.sorted (by decide +kernel) (pa_cons (pe_lc (own := [("seat", 8)]) (g := gName 8) (tt := tYes) (by rfl) S.nd (pi_list (pv 3)) (blkOk_by (own := [("seat", 8)]) (N := n_arc) (sc := C8.fnScope s_arc) (by decide +kernel)) (fun _ _ _ _ _ => pg_name (i := 8) S.nd rfl (Or.inl rfl)) (fun _ _ _ _ _ => pts_nil) (fun _ _ _ _ _ => (pe_c c_distance hr (by decide) rfl (pa_cons (pv 0) (pa_cons (pv 4) (pa_cons (pv 8) pa_nil)))))) pa_nil)))
      (pss_one (ps_ret (pe_lc (own := [("step", 7)]) (g := gName 7) (by rfl) S.nd (pi_list (pv 6)) (blkOk_by (own := [("step", 7)]) (N := n_arc) (sc := C8.fnScope s_arc) (by decide +kernel)) (fun _ _ _ _ _ => pg_name (i := 7) S.nd rfl (Or.inl rfl)) (fun _ _ _ _ _ => (pts_one (pt_cmpR op_le (pv 7) (pv 5) (nomark _)))) (fun _ _ _ _ _ => (pe_op op_mod (pe_op op_add (pv 4) (pv 7)) (pe_prop (pv 0) ST.cl hp G (hr.mono (by decide)) bb .nil (C8.pass0 (E := C8.E0)) rfl))))))))), ?_⟩
    have r0 := ring_pos n
    have r1 := ringN_le hn
    have sl := seats_len st (Int.le_of_lt r0)
    have same_set : ∀ {H' : Hp}, Same H H' → SetAt C H' q n := fun e => hq.of fun o h _ => e _ _ h
    refine ⟨_, rfl, _, _, rfl, rfl, ?_⟩
    refine ⟨_, rfl, _, rfl, _, rfl, q, lo + 1, hi, n, rfl, hq, hn, ?_⟩
    refine ⟨_, rfl, l, rfl, ⟨_, SqL.of hl⟩, fun D nD => ?_⟩
    refine lc_list (xs := ns.map V.int) (fun i H' => Same H H' ∧ H' D = some (.lst (((ns.take i).map fun x => (x - (lo + 1)) % ringN n).map V.int))) ⟨sameNew (Same.refl H) nD _, upd_same⟩ (fun i H' _ ⟨s1, _⟩ => SqL.of (s1 _ _ hl)) (fun i x H' hx ⟨s1, h1⟩ => ?_) (fun H' ⟨s1, h1⟩ => ?_)
    · rw [List.getElem?_map] at hx
      cases e : ns[i]? with
      | none => rw [e] at hx; cases hx
      | some z =>
        rw [e] at hx
        cases hx
        refine ⟨rfl, _, rfl, _, rfl, _, rfl, q, lo + 1, z, n, rfl, same_set s1, hn, _, h1, ?_, samePut s1 nD _, ?_⟩
        · rw [List.length_map, List.length_map, List.length_take]
          exact small1000 (by omega)
        · rw [upd_same, List.take_add_one, e, List.map_append, List.map_append]
          rfl
    · rw [List.length_map, List.take_length] at h1
      refine ⟨D, _, rfl, SqL.of h1, fun stp pS perm rise nS => ?_⟩
      have s2 : Same H (upd H' pS (.lst (stp.map V.int))) := sameNew s1 nS _
      have lenS : stp.length = ns.length := by rw [perm.length_eq, List.length_map]
      refine ⟨_, rfl, pS, rfl, ⟨_, SqL.of upd_same⟩, fun D2 nD2 => ?_⟩
      have nD2H : H D2 = none := s2.free nD2
      have span0 := emod_nn r0 (hi - (lo + 1))
      have span1 := emod_lt' r0 (hi - (lo + 1))
      refine lc_list (xs := stp.map V.int) (fun i H2 => Same (upd H' pS (.lst (stp.map V.int))) H2 ∧ H2 D2 = some (.lst ((((stp.take i).filter fun k => decide (k < ((((hi - (lo + 1)) % ringN n + 1).toNat : Nat) : Int))).map fun k => (lo + 1 + k) % ringN n).map V.int))) ⟨sameNew (Same.refl _) nD2 _, upd_same⟩ (fun i H2 _ ⟨s3, _⟩ => SqL.of (s3 _ _ upd_same)) (fun i x H2 hx ⟨s3, h3⟩ => ?_) (fun H2 ⟨s3, h3⟩ => ?_)
      · rw [List.getElem?_map] at hx
        cases e : stp[i]? with
        | none => rw [e] at hx; cases hx
        | some z =>
          rw [e] at hx
          cases hx
          have tk : stp.take (i + 1) = stp.take i ++ [z] := by rw [List.take_add_one, e]; rfl
          refine ⟨rfl, _, rfl, _, rfl, _, _, rfl, rfl, _, rfl, ite2 (fun hle => ?_) (fun hgt => ?_)⟩
          · have hle := of_decide_eq_true hle
            obtain ⟨dx, fs, g1, g2, g3⟩ := same_set (s2.trans s3)
            refine ⟨_, rfl, _, rfl, _, _, rfl, rfl, _, rfl, q, dx, fs, rfl, g1, q, n, rfl, same_set (s2.trans s3), hn, _, _, rfl, rfl, pm r0, _, h3, ?_, samePut s3 nD2 _, ?_⟩
            · rw [List.length_map, List.length_map]
              have := List.length_filter_le (fun k => decide (k < ((((hi - (lo + 1)) % ringN n + 1).toNat : Nat) : Int))) (stp.take i)
              rw [List.length_take] at this
              exact small1000 (by omega)
            · rw [upd_same, tk, List.filter_append, List.map_append, List.map_append]
              have ez : [z].filter (fun k => decide (k < ((((hi - (lo + 1)) % ringN n + 1).toNat : Nat) : Int))) = [z] := by
                rw [List.filter_cons, if_pos (decide_eq_true (by omega))]
                rfl
              rw [ez]
              rfl
          · have hgt := mt decide_eq_true hgt
            refine ⟨s3, ?_⟩
            rw [h3, tk, List.filter_append]
            have ez : [z].filter (fun k => decide (k < ((((hi - (lo + 1)) % ringN n + 1).toNat : Nat) : Int))) = [] := by
              rw [List.filter_cons, if_neg (by rw [decide_eq_true_eq]; omega)]
              rfl
            rw [ez, List.append_nil]
      · rw [List.length_map, List.take_length, steps_walk r0 (by omega) st.lo st.hi st.nd perm rise] at h3
        exact k D2 H2 nD2H (s2.trans s3) h3
end
end K01

set_option Elab.async false
set_option maxRecDepth 100000
set_option maxHeartbeats 4000000
namespace K01
open PySem PySem.Spec PyProof.Rows L2 C8 LamX

/-! ### lists of ints compared -/
theorem dpAll {K : PySem.W.Frag} {H : Hp} : ∀ ns : List Int, DpAll K H (ns.map V.int) (ns.map PyData.int)
  | [] => .nil
  | n :: ns => .cons (.int n) (dpAll ns)
theorem dpList {K : PySem.W.Frag} {H : Hp} {a : Addr} {ns : List Int} (h : H a = some (.lst (ns.map V.int))) : Dp K H (.ref a) (.list (ns.map PyData.int)) := .lst (SqL.of h) (dpAll ns)
theorem lay_ints : ∀ ns : List Int, PyData.canLayAll0 (ns.map PyData.int) = true
  | [] => by simp [PyData.canLayAll0]
  | n :: ns => by
    rw [List.map_cons, PyData.canLayAll0, lay_ints ns]
    simp [PyData.canLay0]
theorem dep_ints : ∀ ns : List Int, PyData.depthAll (ns.map PyData.int) = 0
  | [] => by simp [PyData.depthAll]
  | n :: ns => by
    rw [List.map_cons, PyData.depthAll, dep_ints ns]
    simp [PyData.depth]
theorem can_list (ns : List Int) : (PyData.list (ns.map PyData.int)).canLay0 = true := by
  rw [PyData.canLay0]
  exact lay_ints ns
theorem shaped_list (ns : List Int) : SeqAt.shaped (.list (ns.map PyData.int)) = true := by
  unfold SeqAt.shaped
  rw [can_list, PyData.depth, dep_ints]
  rfl
theorem eqv_list (ns : List Int) : PyData.eqv (.list (ns.map PyData.int)) (.list (ns.map PyData.int)) = true := SeqAt.eqv_refl _ (can_list ns)

abbrev s_law_arc_right : Stmt := top 27
abbrev n_law_arc_right : List Str := ["setting", "ring", "low", "high", "held", "passed", "count", "wanted", "shown"]
theorem sc_law_arc_right : FnScope n_law_arc_right ["setting", "ring", "low", "high", "held"] (C8.fnScope s_law_arc_right) := ⟨rfl, rfl, rfl, by decide +kernel, rfl, by decide +kernel, by decide +kernel⟩
def spAR (C : Addr) : Sp := fun vs H Q _ => ∃ (q : Addr) (n : Nat) (lo hi : Int) (l : Addr) (ns : List Int), vs = [.ref q, .int (ringN n), .int lo, .int hi, .ref l] ∧ SetAt C H q n ∧ n ≤ 8 ∧ H l = some (.lst (ns.map V.int)) ∧ Seats ns (ringN n) ∧
  ∀ H' : Hp, Same H H' → Q (.bl true) H'
abbrev s_law_first_right : Stmt := top 25
abbrev n_law_first_right : List Str := ["setting", "ring", "place", "held", "passed", "shown", "met"]
theorem sc_law_first_right : FnScope n_law_first_right ["setting", "ring", "place", "held"] (C8.fnScope s_law_first_right) := ⟨rfl, rfl, rfl, by decide +kernel, rfl, by decide +kernel, by decide +kernel⟩
def spFR (C t : Addr) : Sp := fun vs H Q _ => ∃ (q : Addr) (n : Nat) (pl : Int) (l : Addr) (ns : List Int), vs = [.ref q, .int (ringN n), .int pl, .ref l] ∧ SetAt C H q n ∧ n ≤ 8 ∧ H l = some (.lst (ns.map V.int)) ∧ Seats ns (ringN n) ∧ Tabs (TT t) H ∧
  ∀ H' : Hp, ExtN H H' → Tabs (TT t) H' → Q (.bl true) H'
abbrev s_law_asked : Stmt := top 29
abbrev n_law_asked : List Str := ["setting", "ring", "low", "high", "held", "seat"]
theorem sc_law_asked : FnScope n_law_asked ["setting", "ring", "low", "high", "held"] (C8.fnScope s_law_asked) := ⟨rfl, rfl, rfl, by decide +kernel, rfl, by decide +kernel, by decide +kernel⟩
def spAsked (C t : Addr) : Sp := fun vs H Q _ => ∃ (q : Addr) (n : Nat) (lo hi : Int) (l : Addr) (ns : List Int), vs = [.ref q, .int (ringN n), .int lo, .int hi, .ref l] ∧ SetAt C H q n ∧ n ≤ 8 ∧ H l = some (.lst (ns.map V.int)) ∧ Seats ns (ringN n) ∧ Tabs (TT t) H ∧
  ∀ H' : Hp, ExtN H H' → Tabs (TT t) H' → Q (.bl true) H'
theorem twoWays {r pl : Int} {ns : List Int} {v : V} (r0 : 0 < r) (st : Seats ns r) (h : (ns = [] ∧ v = .non) ∨ ∃ m, v = .int m ∧ m ∈ ns ∧ ∀ k ∈ ns, (m - pl) % r ≤ (k - pl) % r) : (walkL r pl r.toNat ns = [] ∧ v = .non) ∨ ∃ m rest, walkL r pl r.toNat ns = m :: rest ∧ v = .int m := by
  rcases h with ⟨hz, rfl⟩ | ⟨m, rfl, hm, best⟩
  · exact .inl ⟨by rw [hz, walkL_nil], rfl⟩
  · obtain ⟨rest, hw⟩ := walk_first r0 st.lo st.hi hm best
    exact .inr ⟨m, rest, hw, rfl⟩
theorem SetAt.ext {C : Addr} {H H' : Hp} {q : Addr} {n : Nat} (h : SetAt C H q n) (e : ExtN H H') : SetAt C H' q n := h.of fun o a b => e _ o a b
theorem lstN {H H' : Hp} {a : Addr} {xs : List V} (h : H a = some (.lst xs)) (e : ExtN H H') : H' a = some (.lst xs) := e _ _ h fun ps z => by cases z

section
variable {P : Program} {w : World} {K : PySem.W.Frag} {mg : Str → Option Value} {base : Heap} {C t : Addr}
theorem c_arc_right (T : Bl mg) (c_law_walk : Cal P w K mg base 2 "_law_walk" spWalk []) (c_arc : Cal P w K mg base 4 "arc" (spArc C) []) (c_law_is_list : Cal P w K mg base 2 "_law_is_list" spIsList [])
    (d : D0 K mg "_law_arc_right" s_law_arc_right ["setting", "ring", "low", "high", "held"]) : Cal P w K mg base 5 "_law_arc_right" (spAR C) [] := by
  refine cal d sc_law_arc_right (fun vs H Q E h => ?_) (fun cdv A outer f s H vs Q E hr h => ?_)
  · obtain ⟨q, n, lo, hi, l, ns, rfl, _⟩ := h
    rfl
  · obtain ⟨q, n, lo, hi, l, ns, rfl, hq, hn, hl, st, k⟩ := h
    have S := sc_law_arc_right
    refine ⟨_, (pss_cons (ps_set (i := 5) S.nd rfl (Or.inl rfl) (pe_callTy call_list_of (by rfl) T.list (by decide +kernel) (pa_cons (pv 4) pa_nil)))
      (pss_cons (ps_set (i := 6) S.nd rfl (Or.inl rfl) (pe_op op_mod (pe_callTy call_int1 (by rfl) T.int (by decide +kernel) (pa_cons (pe_op op_sub (pv 3) (pv 2)) pa_nil)) (pv 1)))
      (pss_cut (ps_if (pt_cmpR op_eq (pv 6) pe_int (nomark _)) (pss_one (ps_set (i := 6) S.nd rfl (Or.inl rfl) (pv 1))) pss_nil)
      (pss_cons (ps_set (i := 7) S.nd rfl (Or.inl rfl) (pe_c c_law_walk hr (by decide) rfl (pa_cons (pv 1) (pa_cons (pe_op op_add (pv 2) pe_int) (pa_cons (pv 6) (pa_cons (pv 4) pa_nil))))))
      (pss_cons (ps_set (i := 8) S.nd rfl (Or.inl rfl) (pe_c c_arc hr (by decide) rfl (pa_cons (pv 0) (pa_cons (pv 2) (pa_cons (pv 3) (pa_cons (pv 5) pa_nil))))))
      (pss_cons (ps_if (pt_not (pt_val (pe_c c_law_is_list hr (by decide) rfl (pa_cons (pv 8) (pa_cons (pv 7) pa_nil))))) (pss_one (ps_ret pe_bl)) pss_nil)
      (pss_cons (ps_expr (pe_bm PySem.F.plainAttrs_list PySem.F.slot_list_append PySem.F.type_list_append mt_append (pv 8) (pa_cons (pv 2) pa_nil)))
      (pss_cons (ps_if (pt_cmpR (op_neD hr.units) (pv 5) (pv 4) (nomark _)) (pss_one (ps_ret pe_bl)) pss_nil)
      (pss_one (ps_ret (pe_c c_law_is_list hr (by decide) rfl (pa_cons (pe_c c_arc hr (by decide) rfl (pa_cons (pv 0) (pa_cons (pv 2) (pa_cons (pv 3) (pa_cons (pv 5) pa_nil))))) (pa_cons (pv 7) pa_nil))))))))))))), ?_⟩
    have r0 := ring_pos n
    have r1 := ringN_le hn
    have p0 := emod_nn r0 (hi - (lo + 1))
    have p1 := emod_lt' r0 (hi - (lo + 1))
    have ce := count_eq r0 lo hi
    refine ⟨_, rfl, _, _, rfl, .inl (SqL.of hl), fun pa npa => ?_⟩
    have s1 : Same H (upd H pa (.lst (ns.map V.int))) := sameNew (Same.refl H) npa _
    have h1 : (upd H pa (.lst (ns.map V.int))) pa = some (.lst (ns.map V.int)) := upd_same
    generalize upd H pa (.lst (ns.map V.int)) = H1 at s1 h1 ⊢
    refine ⟨_, rfl, _, rfl, _, _, rfl, rfl, .inl ⟨_, rfl, _, rfl, _, _, rfl, rfl, pm r0, ?_⟩⟩
    refine ⟨fun σ H' => H' = H1 ∧ σ = [some (.ref q), some (.int (ringN n)), some (.int lo), some (.int hi), some (.ref l), some (.ref pa), some (.int ((hi - (lo + 1)) % ringN n + 1)), none, none], ?_, ?_⟩
    · refine ⟨_, rfl, rfl, _, rfl, ite2 (fun hz => ?_) (fun hz => ?_)⟩
      · have hz : (hi - lo) % ringN n = 0 := by
          have z := of_decide_eq_true hz
          injection z
        rw [if_pos hz] at ce
        exact ⟨_, rfl, rfl, by rw [← ce]; rfl⟩
      · have hz : ¬ (hi - lo) % ringN n = 0 := fun e => hz (decide_eq_true (congrArg V.int e))
        rw [if_neg hz] at ce
        exact ⟨rfl, by rw [← ce]; rfl⟩
    rintro σ H' ⟨rfl, rfl⟩
    refine ⟨_, rfl, _, rfl, _, _, rfl, rfl, _, rfl, _, rfl, ringN n, lo + 1, _, l, ns, rfl, s1 _ _ hl, r0, r1, by omega, by omega, st, fun wl H2 nw s2 hw => ?_⟩
    have s12 := s1.trans s2
    have hq2 : SetAt C H2 q n := hq.of fun o e _ => s12 _ _ e
    refine ⟨_, rfl, _, rfl, _, rfl, _, rfl, q, lo, hi, pa, n, ns, rfl, hq2, hn, s2 _ _ h1, st, fun sh H3 ns3 s3 h3 => ?_⟩
    have s13 := s12.trans s3
    have lenA : (arcL n lo hi ns).length ≤ 1000 := Nat.le_trans (walkL_len _ _ _ _) (by omega)
    refine ⟨_, rfl, _, rfl, sh, wl, _, rfl, h3, s3 _ _ hw, lenA, _, rfl, iteF ?_⟩
    have shH : H sh = none := s12.free ns3
    refine ⟨_, rfl, .inl ⟨rfl, _, SqL.of h3⟩, _, rfl, sh, _, _, rfl, rfl, h3, by rw [List.length_map]; exact small1000 lenA, ?_⟩
    have s14 := samePut s13 shH (.lst ((arcL n lo hi ns).map V.int ++ [V.int lo]))
    have npa2 : pa ≠ sh := ne_of_none (s2 _ _ h1) ns3
    have nwl2 : wl ≠ sh := ne_of_none hw ns3
    have h4 : (upd H3 sh (.lst ((arcL n lo hi ns).map V.int ++ [V.int lo]))) pa = some (.lst (ns.map V.int)) := by rw [upd_ne npa2]; exact s3 _ _ (s2 _ _ h1)
    have w4 : (upd H3 sh (.lst ((arcL n lo hi ns).map V.int ++ [V.int lo]))) wl = some (.lst ((arcL n lo hi ns).map V.int)) := by rw [upd_ne nwl2]; exact s3 _ _ hw
    generalize upd H3 sh (.lst ((arcL n lo hi ns).map V.int ++ [V.int lo])) = H4 at s14 h4 w4 ⊢
    refine ⟨_, rfl, _, rfl, _, _, dpList h4, dpList (s14 _ _ hl), shaped_list ns, shaped_list ns, _, rfl, ?_⟩
    rw [eqv_list]
    refine ⟨_, rfl, _, rfl, _, rfl, _, rfl, q, lo, hi, pa, n, ns, rfl, hq.of fun o e _ => s14 _ _ e, hn, h4, st, fun sh2 H5 ns5 s5 h5 => ?_⟩
    refine ⟨_, rfl, sh2, wl, _, rfl, h5, s5 _ _ w4, lenA, k H5 (s14.trans s5)⟩
theorem c_first_right (T : Bl mg) (c_first_from : Cal P w K mg base 7 "first_from" (spFirst C t) []) (c_law_walk : Cal P w K mg base 2 "_law_walk" spWalk []) (c_law_whole : Cal P w K mg base 1 "_law_whole" spInt [])
    (d : D0 K mg "_law_first_right" s_law_first_right ["setting", "ring", "place", "held"]) : Cal P w K mg base 8 "_law_first_right" (spFR C t) [] := by
  refine cal d sc_law_first_right (fun vs H Q E h => ?_) (fun cdv A outer f s H vs Q E hr h => ?_)
  · obtain ⟨q, n, pl, l, ns, rfl, _⟩ := h
    rfl
  · obtain ⟨q, n, pl, l, ns, rfl, hq, hn, hl, st, hT, k⟩ := h
    have S := sc_law_first_right
    refine ⟨_, (pss_cons (ps_set (i := 4) S.nd rfl (Or.inl rfl) (pe_callTy call_list_of (by rfl) T.list (by decide +kernel) (pa_cons (pv 3) pa_nil)))
      (pss_cons (ps_set (i := 5) S.nd rfl (Or.inl rfl) (pe_c c_first_from hr (by decide) rfl (pa_cons (pv 0) (pa_cons (pv 2) (pa_cons (pv 4) pa_nil)))))
      (pss_cons (ps_set (i := 6) S.nd rfl (Or.inl rfl) (pe_c c_law_walk hr (by decide) rfl (pa_cons (pv 1) (pa_cons (pv 2) (pa_cons (pv 1) (pa_cons (pv 3) pa_nil))))))
      (pss_cons (ps_if (pt_cmpR (op_neD hr.units) (pv 4) (pv 3) (nomark _)) (pss_one (ps_ret pe_bl)) pss_nil)
      (pss_cons (ps_if (pt_cmpR op_eq (pe_callB call_len_seq (by rfl) T.len (by decide +kernel) (pa_cons (pv 6) pa_nil)) pe_int (nomark _)) (pss_one (ps_ret (pe_cmp (pc_isN (pv 5))))) pss_nil)
      (pss_one (ps_ret (pe_and (pe_c c_law_whole hr (by decide) rfl (pa_cons (pv 5) pa_nil)) (pe_one (pe_cmpR op_eq (pv 5) (pe_ix ix_list (pv 6) pe_int (fun _ _ => rfl)) (nomark _))))))))))), ?_⟩
    have r0 := ring_pos n
    have r1 := ringN_le hn
    refine ⟨_, rfl, _, _, rfl, .inl (SqL.of hl), fun pa npa => ?_⟩
    have s1 : Same H (upd H pa (.lst (ns.map V.int))) := sameNew (Same.refl H) npa _
    have h1 : (upd H pa (.lst (ns.map V.int))) pa = some (.lst (ns.map V.int)) := upd_same
    generalize upd H pa (.lst (ns.map V.int)) = H1 at s1 h1 ⊢
    have hl1 := s1 _ _ hl
    have e1 : ExtN H H1 := ExtN.of s1
    refine ⟨_, rfl, _, rfl, _, rfl, q, pl, pa, n, ns, rfl, hq.ext e1, hn, h1, hT.ext s1, fun v H2 e2 T2 hv => ?_⟩
    have e12 := e1.trans e2
    have hv := twoWays r0 st hv
    · refine ⟨_, rfl, _, rfl, _, rfl, _, rfl, ringN n, pl, ringN n, l, ns, rfl, lstN hl1 e2, r0, r1, Int.le_of_lt r0, Int.le_refl _, st, fun wl H3 nw s3 h3 => ?_⟩
      have e13 := e12.trans (ExtN.of s3)
      refine ⟨_, rfl, _, rfl, _, _, dpList (s3 _ _ (lstN h1 e2)), dpList (s3 _ _ (lstN hl1 e2)), shaped_list ns, shaped_list ns, _, rfl, ?_⟩
      rw [eqv_list]
      have fin := k H3 e13 (T2.ext s3)
      refine ⟨_, rfl, _, _, rfl, .inl (SqL.of h3), rfl, _, rfl, ?_⟩
      rw [List.length_map]
      rcases hv with ⟨hw, rfl⟩ | ⟨m, rest, hw, rfl⟩
      · rw [hw]
        exact ⟨_, rfl, fin⟩
      · rw [hw] at h3 ⊢
        refine iteD (fun z => ?_) ?_
        · injection z with z
          rw [List.length_cons] at z
          omega
        · refine ⟨_, rfl, _, rfl, _, rfl, iteT ?_⟩
          refine ⟨_, rfl, _, rfl, _, _, _, .int m, rfl, rfl, SqL.of h3, at_of (j := 0) rfl rfl, rfl, ?_⟩
          rw [decide_eq_true rfl]
          exact fin
end
end K01

set_option Elab.async false
set_option maxRecDepth 100000
set_option maxHeartbeats 4000000
set_option exponentiation.threshold 4096
namespace K01
open PySem PySem.Spec PyProof.Rows L2 C8 LamX

section
variable {P : Program} {w : World} {K : PySem.W.Frag} {mg : Str → Option Value} {base : Heap} {C t : Addr}
theorem c_asked (c_law_first_right : Cal P w K mg base 8 "_law_first_right" (spFR C t) []) (c_law_arc_right : Cal P w K mg base 5 "_law_arc_right" (spAR C) []) (c_law_distance_right : Cal P w K mg base 4 "_law_distance_right" (spDR C) [])
    (d : D0 K mg "_law_asked" s_law_asked ["setting", "ring", "low", "high", "held"]) : Cal P w K mg base 9 "_law_asked" (spAsked C t) [] := by
  refine cal d sc_law_asked (fun vs H Q E h => ?_) (fun cdv A outer f s H vs Q E hr h => ?_)
  · obtain ⟨q, n, lo, hi, l, ns, rfl, _⟩ := h
    rfl
  · obtain ⟨q, n, lo, hi, l, ns, rfl, hq, hn, hl, st, hT, k⟩ := h
    have S := sc_law_asked
    refine ⟨_, (pss_cons (ps_if (PW.pt (pw_or (pt_not (pt_val (pe_c c_law_first_right hr (by decide) rfl (pa_cons (pv 0) (pa_cons (pv 1) (pa_cons (pv 2) (pa_cons (pv 4) pa_nil))))))) (pw_or1 (pt_not (pt_val (pe_c c_law_first_right hr (by decide) rfl (pa_cons (pv 0) (pa_cons (pv 1) (pa_cons (pv 3) (pa_cons (pv 4) pa_nil)))))))))) (pss_one (ps_ret pe_bl)) pss_nil)
      (pss_cons (ps_if (pt_not (pt_val (pe_c c_law_arc_right hr (by decide) rfl (pa_cons (pv 0) (pa_cons (pv 1) (pa_cons (pv 2) (pa_cons (pv 3) (pa_cons (pv 4) pa_nil)))))))) (pss_one (ps_ret pe_bl)) pss_nil)
      (pss_cons (ps_for PassesOwn.never rfl (pi_list (pe_slice sl_list (pv 4) po_none (po_some pe_int))) (pg_name (i := 5) S.nd rfl (Or.inl rfl)) (pss_cons (ps_if (pt_not (pt_val (pe_c c_law_distance_right hr (by decide) rfl (pa_cons (pv 0) (pa_cons (pv 1) (pa_cons (pv 2) (pa_cons (pv 5) pa_nil))))))) (pss_one (ps_ret pe_bl)) pss_nil)
      (pss_one (ps_if (pt_not (pt_val (pe_c c_law_distance_right hr (by decide) rfl (pa_cons (pv 0) (pa_cons (pv 1) (pa_cons (pv 3) (pa_cons (pv 5) pa_nil))))))) (pss_one (ps_ret pe_bl)) pss_nil))))
      (pss_one (ps_ret pe_bl))))), ?_⟩
    refine ⟨_, rfl, _, rfl, _, rfl, _, rfl, q, n, lo, l, ns, rfl, hq, hn, hl, st, hT, fun H1 e1 T1 => ?_⟩
    refine ⟨_, rfl, iteF ?_⟩
    refine ⟨_, rfl, _, rfl, _, rfl, _, rfl, q, n, hi, l, ns, rfl, hq.ext e1, hn, lstN hl e1, st, T1, fun H2 e2 T2 => ?_⟩
    have e12 := e1.trans e2
    refine ⟨_, rfl, iteF ?_⟩
    refine ⟨_, rfl, _, rfl, _, rfl, _, rfl, _, rfl, q, n, lo, hi, l, ns, rfl, hq.ext e12, hn, lstN hl e12, st, fun H3 s3 => ?_⟩
    have e13 := e12.trans (ExtN.of s3)
    have T3 := T2.ext s3
    refine ⟨_, rfl, iteF ?_⟩
    refine ⟨_, rfl, _, rfl, _, _, rfl, SqL.of (lstN hl e13), fun p np => ?_⟩
    obtain ⟨ms, em, _⟩ := cut_map ns none (some 12)
    rw [em]
    have s4 : Same H3 (upd H3 p (.lst (ms.map V.int))) := sameNew (Same.refl H3) np _
    refine ⟨p, rfl, ⟨_, SqL.of upd_same⟩, ?_⟩
    have e14 := e13.trans (ExtN.of s4)
    refine for_list (xs := ms.map V.int) (fun i σ H5 => H5 = upd H3 p (.lst (ms.map V.int)) ∧ ∃ v1 : Option V, σ = [some (.ref q), some (.int (ringN n)), some (.int lo), some (.int hi), some (.ref l), v1]) ⟨rfl, _, rfl⟩ (fun i σ H5 _ ⟨e, _⟩ => by rw [e]; exact SqL.of upd_same) ?_ ?_
    · rintro i x σ H5 hx ⟨rfl, v1, rfl⟩
      rw [List.getElem?_map] at hx
      cases e : ms[i]? with
      | none => rw [e] at hx; cases hx
      | some z =>
        rw [e] at hx
        cases hx
        refine ⟨_, rfl, _, rfl, _, rfl, _, rfl, q, n, lo, z, rfl, hq.ext e14, hn, _, rfl, iteF ?_⟩
        refine ⟨_, rfl, _, rfl, _, rfl, _, rfl, q, n, hi, z, rfl, hq.ext e14, hn, _, rfl, iteF ?_⟩
        exact ⟨rfl, _, rfl⟩
    · rintro σ H5 ⟨rfl, v1, rfl⟩
      exact k _ e14 (T3.ext s4)
end

/-! ### the law -/
abbrev s_law : Stmt := top 30
abbrev n_law : List Str := ["script", "bag", "bits", "ring", "low", "high", "held", "other", "seat", "near", "wide", "wide_ring"]
theorem sc_law : FnScope n_law ["script"] (C8.fnScope s_law) := ⟨rfl, rfl, rfl, by decide +kernel, rfl, by decide +kernel, by decide +kernel⟩
def spLaw (K : PySem.W.Frag) (t : Addr) : Sp := fun vs H Q _ => ∃ (a : Addr) (ns : List Int), vs = [.ref a] ∧ SqL K H a (ns.map V.int) ∧ H t = some (.tbl #[]) ∧ ∀ H' : Hp, Q (.bl true) H'
def min8 (n : Nat) : Nat := if n + 1 < 8 then n + 1 else 8
theorem min8_eq (n : Nat) : (if (n : Int) + 1 < 8 then (n : Int) + 1 else 8) = ((min8 n : Nat) : Int) := by
  unfold min8
  by_cases h : n + 1 < 8
  · rw [if_pos h, if_pos (by omega)]
    omega
  · rw [if_neg h, if_neg (by omega)]
    rfl
theorem min8_le (n : Nat) : 1 ≤ min8 n ∧ min8 n ≤ 8 := by
  unfold min8
  split <;> omega
theorem ringN_mono {n : Nat} (h : n ≤ 8) : ringN n ≤ ringN (min8 n) := by
  unfold ringN
  have : 2 ^ n ≤ 2 ^ min8 n := Nat.pow_le_pow_right (by decide) (by unfold min8; split <;> omega)
  omega
theorem Seats.wide {ns : List Int} {r r' : Int} (h : Seats ns r) (e : r ≤ r') : Seats ns r' := ⟨h.nd, h.lo, fun x hx => Int.lt_of_lt_of_le (h.hi x hx) e⟩
theorem Seats.rev {ns : List Int} {r : Int} (h : Seats ns r) : Seats ns.reverse r := ⟨(List.reverse_perm ns).nodup_iff.mpr h.nd, fun x hx => h.lo x (List.mem_reverse.mp hx), fun x hx => h.hi x (List.mem_reverse.mp hx)⟩
theorem Seats.nil (r : Int) : Seats [] r := ⟨List.nodup_nil, (fun _ hx => nomatch hx), (fun _ hx => nomatch hx)⟩
/-- all that the questions need, in one -/
structure Ready (C t : Addr) (H : Hp) (n : Nat) (qn qw lh lo : Addr) (hs os : List Int) : Prop where
  near : SetAt C H qn n
  wide : SetAt C H qw (min8 n)
  hl : H lh = some (.lst (hs.map V.int))
  ol : H lo = some (.lst (os.map V.int))
  tab : Tabs (TT t) H
theorem Ready.ext {C t : Addr} {H H' : Hp} {n : Nat} {qn qw lh lo : Addr} {hs os : List Int} (R : Ready C t H n qn qw lh lo hs os) (e : ExtN H H') (T : Tabs (TT t) H') : Ready C t H' n qn qw lh lo hs os :=
  ⟨R.near.ext e, R.wide.ext e, lstN R.hl e, lstN R.ol e, T⟩
theorem SetAt.sx {C b : Addr} {H H' : Hp} {q : Addr} {n : Nat} (h : SetAt C H q n) (e : Sx b H H') (ne : q ≠ b) : SetAt C H' q n := h.of fun o a _ => e _ _ a ne

section
variable {P : Program} {w : World} {K : PySem.W.Frag} {mg : Str → Option Value} {base : Heap} {C t : Addr}
theorem b_law (T : Bl mg) (c_law_bag : Cal P w K mg base 1 "_law_bag" (spBag K) []) (c_law_pick : Cal P w K mg base 3 "_law_pick" spPick []) (c_law_ring : Cal P w K mg base 1 "_law_ring" spRing [])
    (c_law_place : Cal P w K mg base 4 "_law_place" spPlace []) (c_law_end : Cal P w K mg base 5 "_law_end" spEnd []) (c_law_held : Cal P w K mg base 4 "_law_held" spHeld []) (c_law_setting : Cal P w K mg base 5 "_law_setting" (spSetting C) [])
    (c_law_asked : Cal P w K mg base 9 "_law_asked" (spAsked C t) []) (c_law_distance_right : Cal P w K mg base 4 "_law_distance_right" (spDR C) [])
    {f : Addr} {fd : FuncData} (d : C8.Fun K "law" "law" s_law f fd) : FnOk P w K mg base C8.CX0 10 f fd ["script"] (spLaw K t) := by
  refine C8.fn0 d sc_law (fun vs H Q E h => ?_) (fun cdv A outer s H vs Q E hr h => ?_)
  · obtain ⟨a, ns, rfl, _⟩ := h
    rfl
  · obtain ⟨a, ns, rfl, hS, ht, k⟩ := h
    have S := sc_law
    refine ⟨_, (pss_cons (ps_set (i := 1) S.nd rfl (Or.inl rfl) (pe_c c_law_bag hr (by decide) rfl (pa_cons (pv 0) pa_nil)))
      (pss_cons (ps_set (i := 2) S.nd rfl (Or.inl rfl) (pe_op op_add pe_int (pe_c c_law_pick hr (by decide) rfl (pa_cons (pv 1) (pa_cons pe_int pa_nil)))))
      (pss_cut (ps_if (pt_cmpR op_eq (pe_c c_law_pick hr (by decide) rfl (pa_cons (pv 1) (pa_cons pe_int pa_nil))) pe_int (nomark _)) (pss_one (ps_set (i := 2) S.nd rfl (Or.inl rfl) (pe_op op_add pe_int (pe_c c_law_pick hr (by decide) rfl (pa_cons (pv 1) (pa_cons pe_int pa_nil)))))) pss_nil)
      (pss_cons (ps_set (i := 3) S.nd rfl (Or.inl rfl) (pe_c c_law_ring hr (by decide) rfl (pa_cons (pv 2) pa_nil)))
      (pss_cons (ps_set (i := 4) S.nd rfl (Or.inl rfl) (pe_c c_law_place hr (by decide) rfl (pa_cons (pv 1) (pa_cons (pv 3) pa_nil))))
      (pss_cons (ps_set (i := 5) S.nd rfl (Or.inl rfl) (pe_c c_law_end hr (by decide) rfl (pa_cons (pv 1) (pa_cons (pv 3) (pa_cons (pv 4) pa_nil)))))
      (pss_cons (ps_set (i := 6) S.nd rfl (Or.inl rfl) (pe_c c_law_held hr (by decide) rfl (pa_cons (pv 1) (pa_cons (pv 3) pa_nil))))
      (pss_cons (ps_set (i := 7) S.nd rfl (Or.inl rfl) (pe_c c_law_held hr (by decide) rfl (pa_cons (pv 1) (pa_cons (pv 3) pa_nil))))
      (pss_cons (ps_set (i := 8) S.nd rfl (Or.inl rfl) (pe_c c_law_pick hr (by decide) rfl (pa_cons (pv 1) (pa_cons (pv 3) pa_nil))))
      (pss_cons (ps_set (i := 9) S.nd rfl (Or.inl rfl) (pe_c c_law_setting hr (by decide) rfl (pa_cons (pv 1) (pa_cons (pv 2) pa_nil))))
      (pss_cons (ps_set (i := 10) S.nd rfl (Or.inl rfl) (pe_c c_law_setting hr (by decide) rfl (pa_cons (pv 1) (pa_cons (pe_callB (call_min2 rfl) (by rfl) T.min (by decide +kernel) (pa_cons pe_int (pa_cons (pe_op op_add (pv 2) pe_int) pa_nil))) pa_nil))))
      (pss_cons (ps_set (i := 11) S.nd rfl (Or.inl rfl) (pe_c c_law_ring hr (by decide) rfl (pa_cons (pe_callB (call_min2 rfl) (by rfl) T.min (by decide +kernel) (pa_cons pe_int (pa_cons (pe_op op_add (pv 2) pe_int) pa_nil))) pa_nil)))
      (pss_cons (ps_if (PW.pt (pw_or (pt_not (pt_val (pe_c c_law_asked hr (by decide) rfl (pa_cons (pv 9) (pa_cons (pv 3) (pa_cons (pv 4) (pa_cons (pv 5) (pa_cons (pv 6) pa_nil)))))))) (pw_or1 (pt_not (pt_val (pe_c c_law_asked hr (by decide) rfl (pa_cons (pv 10) (pa_cons (pv 11) (pa_cons (pv 4) (pa_cons (pv 5) (pa_cons (pv 6) pa_nil))))))))))) (pss_one (ps_ret pe_bl)) pss_nil)
      (pss_cons (ps_if (PW.pt (pw_or (pt_not (pt_val (pe_c c_law_asked hr (by decide) rfl (pa_cons (pv 9) (pa_cons (pv 3) (pa_cons (pv 5) (pa_cons (pv 4) (pa_cons (pv 6) pa_nil)))))))) (pw_or1 (pt_not (pt_val (pe_c c_law_asked hr (by decide) rfl (pa_cons (pv 9) (pa_cons (pv 3) (pa_cons (pv 4) (pa_cons (pv 5) (pa_cons (pv 7) pa_nil))))))))))) (pss_one (ps_ret pe_bl)) pss_nil)
      (pss_cons (ps_if (PW.pt (pw_or (pt_not (pt_val (pe_c c_law_asked hr (by decide) rfl (pa_cons (pv 9) (pa_cons (pv 3) (pa_cons (pv 4) (pa_cons (pv 5) (pa_cons (pe_lst pa_nil) pa_nil)))))))) (pw_or1 (pt_not (pt_val (pe_c c_law_distance_right hr (by decide) rfl (pa_cons (pv 9) (pa_cons (pv 3) (pa_cons (pv 4) (pa_cons (pv 8) pa_nil)))))))))) (pss_one (ps_ret pe_bl)) pss_nil)
      (pss_cons (ps_if (PW.pt (pw_or (pt_not (pt_val (pe_c c_law_distance_right hr (by decide) rfl (pa_cons (pv 9) (pa_cons (pv 3) (pa_cons (pv 4) (pa_cons (pv 5) pa_nil))))))) (pw_or1 (pt_not (pt_val (pe_c c_law_distance_right hr (by decide) rfl (pa_cons (pv 9) (pa_cons (pv 3) (pa_cons (pv 5) (pa_cons (pv 4) pa_nil)))))))))) (pss_one (ps_ret pe_bl)) pss_nil)
      (pss_one (ps_ret (pe_c c_law_asked hr (by decide) rfl (pa_cons (pv 9) (pa_cons (pv 3) (pa_cons (pv 4) (pa_cons (pv 5) (pa_cons (pe_revL (pv 6)) pa_nil)))))))))))))))))))))))), ?_⟩
    refine ⟨_, rfl, a, ns, rfl, hS, fun b c H1 nb B1 s1 => ?_⟩
    have tb : t ≠ b := ne_of_none ht nb
    refine ⟨_, rfl, b, c, 4, rfl, B1, by decide +kernel, fun d1 H2 a1 a2 B2 X2 => ?_⟩
    refine ⟨_, _, rfl, rfl, ?_⟩
    refine ⟨fun σ H' => Bag H' b c ∧ H' t = some (.tbl #[]) ∧ ∃ n : Nat, 1 ≤ n ∧ n ≤ 8 ∧ σ = [some (.ref a), some (.ref b), some (.int (n : Int)), none, none, none, none, none, none, none, none, none], ?_, ?_⟩
    · refine ⟨_, rfl, b, c, 4, rfl, B2, by decide +kernel, fun d2 H3 a3 a4 B3 X3 => ?_⟩
      refine ⟨rfl, _, rfl, ite2 (fun _ => ?_) (fun _ => ?_)⟩
      · refine ⟨_, rfl, b, c, 8, rfl, B3, by decide +kernel, fun d3 H4 a5 a6 B4 X4 => ?_⟩
        refine ⟨_, _, rfl, rfl, B4, ((X2.trans X3).trans X4) _ _ (s1 _ _ ht) tb, (1 + d3).toNat, by omega, by omega, ?_⟩
        rw [Int.toNat_of_nonneg (by omega)]
        rfl
      · refine ⟨B3, (X2.trans X3) _ _ (s1 _ _ ht) tb, (1 + d1).toNat, by omega, by omega, ?_⟩
        rw [Int.toNat_of_nonneg (by omega)]
        rfl
    rintro σ H4 ⟨B4, t4, n, n1, n8, rfl⟩
    have r0 := ring_pos n
    have r1 := ringN_le n8
    obtain ⟨m1, m8⟩ := min8_le n
    refine ⟨_, rfl, n, rfl, n8, ?_⟩
    refine ⟨_, rfl, _, rfl, b, c, ringN n, rfl, B4, r0, r1, fun low H5 X5 B5 => ?_⟩
    refine ⟨_, rfl, _, rfl, _, rfl, b, c, ringN n, low, rfl, B5, r0, r1, fun high H6 X6 B6 => ?_⟩
    refine ⟨_, rfl, _, rfl, b, c, ringN n, rfl, B6, r0, r1, fun lh hs H7 nh X7 B7 hh sh => ?_⟩
    obtain ⟨o6, ho6⟩ := B6.at_
    have lhb : lh ≠ b := (ne_of_none ho6 nh).symm
    refine ⟨_, rfl, _, rfl, b, c, ringN n, rfl, B7, r0, r1, fun lo os H8 no X8 B8 ho so => ?_⟩
    obtain ⟨o7, ho7⟩ := B7.at_
    have lob : lo ≠ b := (ne_of_none ho7 no).symm
    refine ⟨_, rfl, _, rfl, b, c, ringN n, rfl, B8, Int.lt_of_le_of_lt r1 (by decide +kernel), fun seat H9 a7 a8 B9 X9 => ?_⟩
    refine ⟨_, rfl, _, rfl, b, c, n, rfl, B9, n1, n8, fun qn H10 nqn X10 B10 sn => ?_⟩
    obtain ⟨o9, ho9⟩ := B9.at_
    have qnb : qn ≠ b := (ne_of_none ho9 nqn).symm
    refine ⟨_, rfl, _, rfl, _, _, rfl, rfl, _, _, rfl, b, c, min8 n, ?_, B10, m1, m8, fun qw H11 nqw X11 B11 sw => ?_⟩
    · show [V.ref b, V.int (if (n : Int) + 1 < 8 then (n : Int) + 1 else 8)] = _
      rw [min8_eq]
    refine ⟨_, rfl, _, _, rfl, rfl, _, _, rfl, min8 n, ?_, m8, ?_⟩
    · show [V.int (if (n : Int) + 1 < 8 then (n : Int) + 1 else 8)] = _
      rw [min8_eq]
    have t11 : H11 t = some (.tbl #[]) := X11 _ _ (X10 _ _ (X9 _ _ (X8 _ _ (X7 _ _ (X6 _ _ (X5 _ _ t4 tb) tb) tb) tb) tb) tb) tb
    have R : Ready C t H11 n qn qw lh lo hs os := ⟨sn.sx X11 qnb, sw, X11 _ _ (X10 _ _ (X9 _ _ (X8 _ _ hh lhb) lhb) lhb) lhb, X11 _ _ (X10 _ _ (X9 _ _ ho lob) lob) lob, fun p hp => by
      cases hp with
      | head => exact TabS.nil t11
      | tail _ hp => cases hp⟩
    clear t11 sn sw hh ho X5 X6 X7 X8 X9 X10 X11 B5 B6 B7 B8 B9 B10 B11
    have rm := ringN_mono n8
    refine ⟨_, rfl, _, rfl, _, rfl, _, rfl, _, rfl, qn, n, low, high, lh, hs, rfl, R.near, n8, R.hl, sh, R.tab, fun H12 e12 T12 => ?_⟩
    have R := R.ext e12 T12
    refine ⟨_, rfl, iteF ?_⟩
    refine ⟨_, rfl, _, rfl, _, rfl, _, rfl, _, rfl, qw, min8 n, low, high, lh, hs, rfl, R.wide, m8, R.hl, sh.wide rm, R.tab, fun H13 e13 T13 => ?_⟩
    have R := R.ext e13 T13
    refine ⟨_, rfl, iteF ?_⟩
    refine ⟨_, rfl, _, rfl, _, rfl, _, rfl, _, rfl, qn, n, high, low, lh, hs, rfl, R.near, n8, R.hl, sh, R.tab, fun H14 e14 T14 => ?_⟩
    have R := R.ext e14 T14
    refine ⟨_, rfl, iteF ?_⟩
    refine ⟨_, rfl, _, rfl, _, rfl, _, rfl, _, rfl, qn, n, low, high, lo, os, rfl, R.near, n8, R.ol, so, R.tab, fun H15 e15 T15 => ?_⟩
    have R := R.ext e15 T15
    refine ⟨_, rfl, iteF ?_⟩
    refine ⟨_, rfl, _, rfl, _, rfl, _, rfl, by show 0 ≤ sizeLine; decide, fun pe npe => ?_⟩
    have se : Same H15 (upd H15 pe (.lst [])) := sameNew (Same.refl H15) npe _
    have R := R.ext (ExtN.of se) (R.tab.ext se)
    refine ⟨qn, n, low, high, pe, [], rfl, R.near, n8, upd_same, Seats.nil _, R.tab, fun H16 e16 T16 => ?_⟩
    have R := R.ext e16 T16
    refine ⟨_, rfl, iteF ?_⟩
    refine ⟨_, rfl, _, rfl, _, rfl, _, rfl, qn, n, low, seat, rfl, R.near, n8, _, rfl, iteF ?_⟩
    refine ⟨_, rfl, _, rfl, _, rfl, _, rfl, qn, n, low, high, rfl, R.near, n8, _, rfl, iteF ?_⟩
    refine ⟨_, rfl, _, rfl, _, rfl, _, rfl, qn, n, high, low, rfl, R.near, n8, _, rfl, iteF ?_⟩
    refine ⟨_, rfl, _, rfl, _, rfl, _, rfl, _, rfl, lh, _, rfl, SqL.of R.hl, fun pr npr => ?_⟩
    rw [← List.map_reverse]
    have sr : Same H16 (upd H16 pr (.lst (hs.reverse.map V.int))) := sameNew (Same.refl H16) npr _
    have R := R.ext (ExtN.of sr) (R.tab.ext sr)
    exact ⟨qn, n, low, high, pr, hs.reverse, rfl, R.near, n8, upd_same, sh.rev, R.tab, fun H17 _ _ => k H17⟩
end
end K01

set_option Elab.async false
set_option maxRecDepth 100000
set_option maxHeartbeats 4000000
set_option exponentiation.threshold 4096
namespace K01
open PySem PySem.Spec PyProof.Rows L2 C8 LamX

section
variable {K : PySem.W.Frag} {h : Heap} {mg : Str → Option Value}
theorem d0_mk {x : Str} {st : Stmt} {ps : List Str} {f : Addr} {oc : Value} {od an : Option Addr} {osl : Array (Option Value)} {kV doc pm cdv ct : Value} (X : K.In h) (G : h.Ns mainGlobals mg) (a : PySem.W.nsIn K mainGlobals x = some (some (.ref f)))
    (l : K.lookup f = some ⟨oc, od, .func (PySem.W.fnOf x x (C8.fnArgs st) (C8.fnBody st) (C8.fnScope st) .none kV doc pm an cdv ct), osl⟩) (c : PySem.W.codeIn K cdv x = true) (k : PySem.W.keepIn K (.ref f) = true)
    (hb : ∀ (kV doc pm : Value) (an : Option Addr) (cdv ct : Value) (us : List Value), us.length = ps.length → bindArgs (PySem.W.fnOf x x (C8.fnArgs st) (C8.fnBody st) (C8.fnScope st) .none kV doc pm an cdv ct) ⟨us, []⟩ = pure (ps.zip us)) : D0 K mg x st ps :=
  have F : C8.Fun K x x st f _ := ⟨⟨oc, od, _, kV, doc, pm, an, cdv, ct, osl, rfl, l, c⟩⟩
  ⟨f, _, ⟨F, PySem.W.mg_of X G a, k⟩, F.binds rfl hb⟩
theorem d1_mk {f c : Addr} {oc : Value} {od an : Option Addr} {osl : Array (Option Value)} {kV doc pm ct : Value} (X : K.In h) (G : h.Ns mainGlobals mg) (a : PySem.W.nsIn K mainGlobals "first_from" = some (some (.ref f)))
    (l : K.lookup f = some ⟨oc, od, .func (PySem.W.fnOf "first_from" "first_from" (C8.fnArgs s_first) (C8.fnBody s_first) (C8.fnScope s_first) .none kV doc pm an (.ref c) ct), osl⟩) (cd : PySem.W.codeIn K (.ref c) "first_from" = true) (k : PySem.W.keepIn K (.ref f) = true) : D1 K mg c :=
  ⟨f, oc, od, kV, doc, pm, an, ct, osl, l, cd, PySem.W.mg_of X G a, k⟩
theorem con_mk {C : Addr} {x : Str} {n : Int} {tk : Tok} (a : PySem.W.findIn K (.ref C) x = some (some (.int n tk))) (g : PySem.W.specialIn K (.int n tk) "__get__" = some none) (cp : PySem.W.copiedNames.contains x = false) : ∃ u, Con K C x (.int n) u :=
  ⟨.int n tk, a, ⟨_, rfl⟩, g, cp⟩
theorem ini_mk {C f D : Addr} {oc : Value} {od an : Option Addr} {osl : Array (Option Value)} {doc pm cdv ct : Value} {t1 t2 : Tok} (m : PySem.W.makesIn K C = true) (a : PySem.W.findIn K (.ref C) "__init__" = some (some (.ref f))) (i : PySem.W.isFn K (.ref f) = true) (kc : PySem.W.keepIn K (.ref C) = true)
    (l : K.lookup f = some ⟨oc, od, .func (PySem.W.fnOf "__init__" "Setting.__init__" (C8.fnArgs s_init) (C8.fnBody s_init) (C8.fnScope s_init) .none (.ref D) doc pm an cdv ct), osl⟩) (c : PySem.W.codeIn K cdv "Setting.__init__" = true) (k : PySem.W.keepIn K (.ref f) = true)
    (g : PySem.W.nsIn K D "grace" = some (some (.int 6 t1))) (hp : PySem.W.nsIn K D "helpers" = some (some (.int 1 t2))) :
    ∃ (f : Addr) (fd : FuncData), Mk K C f ∧ FunD K "__init__" "Setting.__init__" (C8.fnArgs s_init) (C8.fnBody s_init) (C8.fnScope s_init) [] [("grace", .int 6), ("helpers", .int 1)] f fd :=
  ⟨f, _, ⟨m, a, i, kc⟩, ⟨oc, od, _, _, doc, pm, an, cdv, ct, osl, rfl, l, c, .inl ⟨rfl, rfl⟩, .inr ⟨D, rfl, fun q hq => by
    cases hq with
    | head => exact ⟨_, g, _, rfl⟩
    | tail _ hq => cases hq with
      | head => exact ⟨_, hp, _, rfl⟩
      | tail _ hq => cases hq⟩⟩, k⟩
theorem sea_mk {C p g : Addr} {rest : List Value} {oc : Value} {od an : Option Addr} {osl : Array (Option Value)} {kV doc pm cdv ct : Value} (a : PySem.W.findIn K (.ref C) "seats" = some (some (.ref p))) (gt : PySem.W.specialIn K (.ref p) "__get__" = some (some (.builtin "property.__get__"))) (tk : PySem.W.takesIn K (.ref p) = some true)
    (r : PySem.W.recIn K p "property" = some (.ref g :: rest))
    (l : K.lookup g = some ⟨oc, od, .func (PySem.W.fnOf "seats" "Setting.seats" (C8.fnArgs s_seats) (C8.fnBody s_seats) (C8.fnScope s_seats) .none kV doc pm an cdv ct), osl⟩) (c : PySem.W.codeIn K cdv "Setting.seats" = true) :
    ∃ (p g : Addr) (fd : FuncData), PropOf K C "seats" p g ∧ C8.Fun K "seats" "Setting.seats" s_seats g fd ∧ L2.Binds K fd ["self"] [] :=
  have F : C8.Fun K "seats" "Setting.seats" s_seats g _ := ⟨⟨oc, od, _, kV, doc, pm, an, cdv, ct, osl, rfl, l, c⟩⟩
  ⟨p, g, _, ⟨a, gt, tk, rest, r⟩, F, F.binds (ps := ["self"]) rfl fun _ _ _ _ _ _ us hl => match us, hl with | [_], _ => rfl⟩
theorem set_mk {C : Addr} (X : K.In h) (G : h.Ns mainGlobals mg) (aC : PySem.W.nsIn K mainGlobals "Setting" = some (some (.ref C))) (cl : Cls K C) (n1 : PySem.W.findIn K (.ref C) "bits" = some none) (n2 : PySem.W.findIn K (.ref C) "patience" = some none) (n3 : PySem.W.findIn K (.ref C) "room" = some none) (n4 : PySem.W.findIn K (.ref C) "grace" = some none) (n5 : PySem.W.findIn K (.ref C) "helpers" = some none)
    (k1 : ∃ u, Con K C "MOST_BITS" (.int 8) u) (k2 : ∃ u, Con K C "MOST_PATIENCE" (.int 6) u) (k3 : ∃ u, Con K C "MOST_ROOM" (.int 64) u) (k4 : ∃ u, Con K C "MOST_GRACE" (.int 200) u) (k5 : ∃ u, Con K C "MOST_HELPERS" (.int 3) u)
    (ini : ∃ (f : Addr) (fd : FuncData), Mk K C f ∧ FunD K "__init__" "Setting.__init__" (C8.fnArgs s_init) (C8.fnBody s_init) (C8.fnScope s_init) [] [("grace", .int 6), ("helpers", .int 1)] f fd)
    (sea : ∃ (p g : Addr) (fd : FuncData), PropOf K C "seats" p g ∧ C8.Fun K "seats" "Setting.seats" s_seats g fd ∧ L2.Binds K fd ["self"] []) : SetT K mg C :=
  ⟨cl, n1, n2, n3, n4, n5, k1, k2, k3, k4, k5, PySem.W.mg_of X G aC, ini, sea⟩
theorem cls_mk {C : Addr} (pg : PySem.W.plainGet K C Str.empty = true) (hd : PySem.W.hasDictIn K C = true) (po : PySem.W.plainOver K C = true) (sa : PySem.W.findIn K (.ref C) "__setattr__" = some (some (.builtin "object.__setattr__"))) : Cls K C := ⟨pg, hd, po, sa⟩
theorem bl_mk (X : K.In h) (G : h.Ns mainGlobals mg) (z0 : PySem.W.nsIn K mainGlobals "int" = some none) (z1 : PySem.W.nsIn K mainGlobals "bool" = some none) (z2 : PySem.W.nsIn K mainGlobals "list" = some none) (z3 : PySem.W.nsIn K mainGlobals "len" = some none) (z4 : PySem.W.nsIn K mainGlobals "sum" = some none) (z5 : PySem.W.nsIn K mainGlobals "range" = some none) (z6 : PySem.W.nsIn K mainGlobals "min" = some none) (z7 : PySem.W.nsIn K mainGlobals "isinstance" = some none) (z8 : PySem.W.nsIn K mainGlobals "sorted" = some none) : Bl mg :=
  ⟨PySem.W.mg_none_of X G z0, PySem.W.mg_none_of X G z1, PySem.W.mg_none_of X G z2, PySem.W.mg_none_of X G z3, PySem.W.mg_none_of X G z4, PySem.W.mg_none_of X G z5, PySem.W.mg_none_of X G z6, PySem.W.mg_none_of X G z7, PySem.W.mg_none_of X G z8⟩

theorem finish {l : PySem.W.OpenLaw} {w : World} {fa fL c t C : Addr} {oc : Value} {od an : Option Addr} {osl : Array (Option Value)} {kV doc pm cdv ct : Value} (X : K.In h) (G : h.Ns mainGlobals mg) (hfa : mg "law" = some (.ref fa)) (hT : h.get? t = some { cls := .none, data := .fields #[] })
    (aL : PySem.W.nsIn K mainGlobals "law" = some (some (.ref fL))) (lL : K.lookup fL = some ⟨oc, od, .func (PySem.W.fnOf "law" "law" (C8.fnArgs s_law) (C8.fnBody s_law) (C8.fnScope s_law) .none kV doc pm an cdv ct), osl⟩) (cL : PySem.W.codeIn K cdv "law" = true)
    (d1 : D1 K mg c) (nT : K.lookup t = none) (hC : PySem.W.codeHdIn K c t = true) (T : Bl mg) (ST : SetT K mg C)
    (d_law_mixed : D0 K mg "_law_mixed" s_law_mixed ["cell", "turn"])
    (d_law_wide : D0 K mg "_law_wide" s_law_wide ["cell", "turn", "many"])
    (d_law_pick : D0 K mg "_law_pick" s_law_pick ["bag", "many"])
    (d_law_bag : D0 K mg "_law_bag" s_law_bag ["script"])
    (d_is_integer : D0 K mg "is_integer" s_is_integer ["value"])
    (d_law_whole : D0 K mg "_law_whole" s_law_whole ["value"])
    (d_check_field : D0 K mg "check_field" s_check_field ["field", "value", "least", "most"])
    (d_distance : D0 K mg "distance" s_distance ["setting", "seat", "other"])
    (d_law_ring : D0 K mg "_law_ring" s_law_ring ["bits"])
    (d_law_setting : D0 K mg "_law_setting" s_law_setting ["bag", "bits"])
    (d_law_place : D0 K mg "_law_place" s_law_place ["bag", "ring"])
    (d_law_end : D0 K mg "_law_end" s_law_end ["bag", "ring", "low"])
    (d_law_held : D0 K mg "_law_held" s_law_held ["bag", "ring"])
    (d_law_flags : D0 K mg "_law_flags" s_law_flags ["ring", "held"])
    (d_law_walk : D0 K mg "_law_walk" s_law_walk ["ring", "start", "count", "held"])
    (d_law_is_list : D0 K mg "_law_is_list" s_law_is_list ["shown", "wanted"])
    (d_law_distance_right : D0 K mg "_law_distance_right" s_law_distance_right ["setting", "ring", "place", "seat"])
    (d_arc : D0 K mg "arc" s_arc ["setting", "low", "high", "held"])
    (d_law_arc_right : D0 K mg "_law_arc_right" s_law_arc_right ["setting", "ring", "low", "high", "held"])
    (d_law_first_right : D0 K mg "_law_first_right" s_law_first_right ["setting", "ring", "place", "held"])
    (d_law_asked : D0 K mg "_law_asked" s_law_asked ["setting", "ring", "low", "high", "held"])
    : LamX.LawAtS l w K C8.CX0 10 63 "script" mg fa h := by

  have e := hfa.symm.trans (PySem.W.mg_of X G aL)
  cases e
  have FL : C8.Fun K "law" "law" s_law fa _ := ⟨⟨oc, od, _, kV, doc, pm, an, cdv, ct, osl, rfl, lL, cL⟩⟩
  refine ⟨_, [(c, t)], spLaw K t, ?_, ?_, ?_, ?_, ?_, fun base _ _ hTB => b_law (C := C) (t := t) T ?_ ?_ ?_ ?_ ?_ ?_ ?_ ?_ ?_ FL⟩
  · intro p hp
    cases hp with
    | head => exact hT
    | tail _ hp => cases hp
  · intro p hp
    cases hp with
    | head => exact nT
    | tail _ hp => cases hp
  · intro p hp
    cases hp with
    | head => exact PySem.W.codeHd_of_K X hC
    | tail _ hp => cases hp
  · exact fun s u => .of_eq rfl
  · exact fun H a ns _ _ hH hS => ⟨a, ns, rfl, hS, hH (c, t) (.head _), fun _ => rfl⟩
  all_goals
    have p_pick : Cal l.prog w K mg base 3 "_law_pick" spPick [] := c_pick T (c_wide T (c_mixed T d_law_mixed) d_law_wide) d_law_pick
    have p_place : Cal l.prog w K mg base 4 "_law_place" spPlace [] := c_place p_pick d_law_place
    have p_whole : Cal l.prog w K mg base 1 "_law_whole" spInt [] := c_whole T d_law_whole
    have p_dist : Cal l.prog w K mg base 3 "distance" (spDist C) [] := c_distance ST d_distance
    have p_walk : Cal l.prog w K mg base 2 "_law_walk" spWalk [] := c_walk T (c_flags T d_law_flags) d_law_walk
    have p_dr : Cal l.prog w K mg base 4 "_law_distance_right" (spDR C) [] := c_distance_right p_dist p_whole d_law_distance_right
  · exact c_bag T d_law_bag
  · exact p_pick
  · exact c_ring T d_law_ring
  · exact p_place
  · exact c_end p_pick p_place d_law_end
  · exact c_held T p_pick d_law_held
  · exact c_setting (c_Setting ST (c_check_field T (c_is_integer T d_is_integer) d_check_field)) p_pick d_law_setting
  · exact c_asked (c_first_right T (c_first T p_dist d1 (hTB (c, t) (.head _))) p_walk p_whole d_law_first_right) (c_arc_right T p_walk (c_arc T ST p_dist d_arc) (c_is_list T p_whole d_law_is_list) d_law_arc_right) p_dr d_law_asked
  · exact p_dr
end
end K01

set_option Elab.async false
set_option maxRecDepth 100000
set_option exponentiation.threshold 4096
open PySem PySem.W PyProof.Rows
set_option maxRecDepth 100000 in
set_option maxHeartbeats 0 in
theorem PySem.Challenge.cw_livingroll_k01_first_seat_and_arc_holds : PySem.Challenge.rw_livingroll_k01_first_seat_and_arc.Holds := by
  w_on; o_law; k_head; (case hw => w_witness2)
  k_fill
  refine LamX.walk_ofTs (l := PySem.Challenge.rw_livingroll_k01_first_seat_and_arc) (n := 63) (k := 10) (x := "script") (CX := fun _ => C8.CX0) rfl (by decide) rfl ⟨rfl, by decide, by decide⟩ (fun w h Y => PySem.W.km_in_of Y) ?F (fun _ _ _ _ _ z => z)
  case F =>
    intro w mg fa h Y KX G hmg
    have hT8 := PySem.W.km_tabs_of Y
    refine' K01.finish KX G hmg (hT8 139 (by k_mem)) ?aL ?lL ?cL ?d1 ?nT ?hC ?T ?ST ?law_mixed ?law_wide ?law_pick ?law_bag ?is_integer ?law_whole ?check_field ?distance ?law_ring ?law_setting ?law_place ?law_end ?law_held ?law_flags ?law_walk ?law_is_list ?law_distance_right ?arc ?law_arc_right ?law_first_right ?law_asked
    (case aL => k_is); (case lL => k_is); (case cL => k_is)
    (case d1 =>
      refine' K01.d1_mk KX G ?a ?l ?c ?k
      (case a => k_is); (case l => k_is); (case c => k_is); (case k => k_is))
    (case nT => kernel_rfl); (case hC => kernel_rfl)
    (case T =>
      refine' K01.bl_mk KX G ?z0 ?z1 ?z2 ?z3 ?z4 ?z5 ?z6 ?z7 ?z8
      (case z0 => k_is); (case z1 => k_is); (case z2 => k_is); (case z3 => k_is); (case z4 => k_is); (case z5 => k_is); (case z6 => k_is); (case z7 => k_is); (case z8 => k_is))
    (case ST =>
      refine' K01.set_mk KX G ?aC ?cl ?n1 ?n2 ?n3 ?n4 ?n5 ?k1 ?k2 ?k3 ?k4 ?k5 ?ini ?sea
      (case aC => k_is)
      (case cl => refine' K01.cls_mk ?a ?b ?c ?d; (case a => k_is); (case b => k_is); (case c => k_is); (case d => k_is))
      (case n1 => k_is); (case n2 => k_is); (case n3 => k_is); (case n4 => k_is); (case n5 => k_is)
      (case k1 => refine' K01.con_mk ?a ?b ?c; (case a => k_is); (case b => k_is); (case c => decide +kernel))
      (case k2 => refine' K01.con_mk ?a ?b ?c; (case a => k_is); (case b => k_is); (case c => decide +kernel))
      (case k3 => refine' K01.con_mk ?a ?b ?c; (case a => k_is); (case b => k_is); (case c => decide +kernel))
      (case k4 => refine' K01.con_mk ?a ?b ?c; (case a => k_is); (case b => k_is); (case c => decide +kernel))
      (case k5 => refine' K01.con_mk ?a ?b ?c; (case a => k_is); (case b => k_is); (case c => decide +kernel))
      (case ini => refine' K01.ini_mk ?m ?a ?i ?kc ?l ?c ?k ?g ?hp; (case m => k_is); (case a => k_is); (case i => k_is); (case kc => k_is); (case l => k_is); (case c => k_is); (case k => k_is); (case g => k_is); (case hp => k_is))
      (case sea => refine' K01.sea_mk ?a ?gt ?tk ?r ?l ?c; (case a => k_is); (case gt => k_is); (case tk => k_is); (case r => k_is); (case l => k_is); (case c => k_is)))
    (case law_mixed =>
      refine' K01.d0_mk KX G ?a ?l ?c ?k (fun _ _ _ _ _ _ us hl => match us, hl with | [_, _], _ => rfl)
      (case a => k_is); (case l => k_is); (case c => k_is); (case k => k_is))
    (case law_wide =>
      refine' K01.d0_mk KX G ?a ?l ?c ?k (fun _ _ _ _ _ _ us hl => match us, hl with | [_, _, _], _ => rfl)
      (case a => k_is); (case l => k_is); (case c => k_is); (case k => k_is))
    (case law_pick =>
      refine' K01.d0_mk KX G ?a ?l ?c ?k (fun _ _ _ _ _ _ us hl => match us, hl with | [_, _], _ => rfl)
      (case a => k_is); (case l => k_is); (case c => k_is); (case k => k_is))
    (case law_bag =>
      refine' K01.d0_mk KX G ?a ?l ?c ?k (fun _ _ _ _ _ _ us hl => match us, hl with | [_], _ => rfl)
      (case a => k_is); (case l => k_is); (case c => k_is); (case k => k_is))
    (case is_integer =>
      refine' K01.d0_mk KX G ?a ?l ?c ?k (fun _ _ _ _ _ _ us hl => match us, hl with | [_], _ => rfl)
      (case a => k_is); (case l => k_is); (case c => k_is); (case k => k_is))
    (case law_whole =>
      refine' K01.d0_mk KX G ?a ?l ?c ?k (fun _ _ _ _ _ _ us hl => match us, hl with | [_], _ => rfl)
      (case a => k_is); (case l => k_is); (case c => k_is); (case k => k_is))
    (case check_field =>
      refine' K01.d0_mk KX G ?a ?l ?c ?k (fun _ _ _ _ _ _ us hl => match us, hl with | [_, _, _, _], _ => rfl)
      (case a => k_is); (case l => k_is); (case c => k_is); (case k => k_is))
    (case distance =>
      refine' K01.d0_mk KX G ?a ?l ?c ?k (fun _ _ _ _ _ _ us hl => match us, hl with | [_, _, _], _ => rfl)
      (case a => k_is); (case l => k_is); (case c => k_is); (case k => k_is))
    (case law_ring =>
      refine' K01.d0_mk KX G ?a ?l ?c ?k (fun _ _ _ _ _ _ us hl => match us, hl with | [_], _ => rfl)
      (case a => k_is); (case l => k_is); (case c => k_is); (case k => k_is))
    (case law_setting =>
      refine' K01.d0_mk KX G ?a ?l ?c ?k (fun _ _ _ _ _ _ us hl => match us, hl with | [_, _], _ => rfl)
      (case a => k_is); (case l => k_is); (case c => k_is); (case k => k_is))
    (case law_place =>
      refine' K01.d0_mk KX G ?a ?l ?c ?k (fun _ _ _ _ _ _ us hl => match us, hl with | [_, _], _ => rfl)
      (case a => k_is); (case l => k_is); (case c => k_is); (case k => k_is))
    (case law_end =>
      refine' K01.d0_mk KX G ?a ?l ?c ?k (fun _ _ _ _ _ _ us hl => match us, hl with | [_, _, _], _ => rfl)
      (case a => k_is); (case l => k_is); (case c => k_is); (case k => k_is))
    (case law_held =>
      refine' K01.d0_mk KX G ?a ?l ?c ?k (fun _ _ _ _ _ _ us hl => match us, hl with | [_, _], _ => rfl)
      (case a => k_is); (case l => k_is); (case c => k_is); (case k => k_is))
    (case law_flags =>
      refine' K01.d0_mk KX G ?a ?l ?c ?k (fun _ _ _ _ _ _ us hl => match us, hl with | [_, _], _ => rfl)
      (case a => k_is); (case l => k_is); (case c => k_is); (case k => k_is))
    (case law_walk =>
      refine' K01.d0_mk KX G ?a ?l ?c ?k (fun _ _ _ _ _ _ us hl => match us, hl with | [_, _, _, _], _ => rfl)
      (case a => k_is); (case l => k_is); (case c => k_is); (case k => k_is))
    (case law_is_list =>
      refine' K01.d0_mk KX G ?a ?l ?c ?k (fun _ _ _ _ _ _ us hl => match us, hl with | [_, _], _ => rfl)
      (case a => k_is); (case l => k_is); (case c => k_is); (case k => k_is))
    (case law_distance_right =>
      refine' K01.d0_mk KX G ?a ?l ?c ?k (fun _ _ _ _ _ _ us hl => match us, hl with | [_, _, _, _], _ => rfl)
      (case a => k_is); (case l => k_is); (case c => k_is); (case k => k_is))
    (case arc =>
      refine' K01.d0_mk KX G ?a ?l ?c ?k (fun _ _ _ _ _ _ us hl => match us, hl with | [_, _, _, _], _ => rfl)
      (case a => k_is); (case l => k_is); (case c => k_is); (case k => k_is))
    (case law_arc_right =>
      refine' K01.d0_mk KX G ?a ?l ?c ?k (fun _ _ _ _ _ _ us hl => match us, hl with | [_, _, _, _, _], _ => rfl)
      (case a => k_is); (case l => k_is); (case c => k_is); (case k => k_is))
    (case law_first_right =>
      refine' K01.d0_mk KX G ?a ?l ?c ?k (fun _ _ _ _ _ _ us hl => match us, hl with | [_, _, _, _], _ => rfl)
      (case a => k_is); (case l => k_is); (case c => k_is); (case k => k_is))
    (case law_asked =>
      refine' K01.d0_mk KX G ?a ?l ?c ?k (fun _ _ _ _ _ _ us hl => match us, hl with | [_, _, _, _, _], _ => rfl)
      (case a => k_is); (case l => k_is); (case c => k_is); (case k => k_is))
#print axioms PySem.Challenge.cw_livingroll_k01_first_seat_and_arc_holds
