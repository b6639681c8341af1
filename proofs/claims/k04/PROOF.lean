import PyProof.Rows.All
import Wide.All
import OpenK.AllK
import Wide.FinOn
import KE.KStateDown
import Lean
import HandS.ForMost
import HandS.More
import HandS.WordsExc
import HandS.Defaults
import HandS.IsInst
import HandS.Zip
import HandS.Walk
import HandS.Wide
import HandS.Flow
import HandS.SortKw
import HandS.SortRule
import HandS.Lambda
import HandS.Head0
import HandS.Head1
import HandS.Head2
import HandS.HeadEnd
import HandS.HeadHook1
import HandS.HeadHook2
import PySem.Challenge.RW_throughlines_k04_months
set_option Elab.async false
set_option linter.all false
set_option maxRecDepth 100000
set_option maxHeartbeats 4000000
namespace Th
open PySem PySem.Spec PyProof.Rows L2
/-! the text -/
def topS (i : Nat) : Stmt := PySem.Challenge.pw_throughlines_k04_months.main.body.getD i (.Pass ⟨0, 0, 0, 0⟩)
abbrev FnP (K : PySem.W.Frag) (x : Str) (st : Stmt) (f : Addr) (fd : FuncData) : Prop := FunD K x x (defArgs st) (defBody st) (defScope st) [] [] f fd
abbrev s_month_of : Stmt := topS 2
abbrev N_month_of : List Str := ["day"]
theorem sc_month_of : FnScope N_month_of ["day"] (defScope s_month_of) := ⟨rfl, rfl, rfl, by decide +kernel, rfl, by decide +kernel, by decide +kernel⟩
abbrev s_days_of : Stmt := topS 3
abbrev N_days_of : List Str := ["month"]
theorem sc_days_of : FnScope N_days_of ["month"] (defScope s_days_of) := ⟨rfl, rfl, rfl, by decide +kernel, rfl, by decide +kernel, by decide +kernel⟩
abbrev s_l_bag : Stmt := topS 5
abbrev N_l_bag : List Str := ["_law_script", "_law_at", "_law_cell", "_law_great", "_law_primes"]
theorem sc_l_bag : FnScope N_l_bag ["_law_script", "_law_at"] (defScope s_l_bag) := ⟨rfl, rfl, rfl, by decide +kernel, rfl, by decide +kernel, by decide +kernel⟩
abbrev s_l_take : Stmt := topS 6
abbrev N_l_take : List Str := ["_law_bag_here", "_law_many", "_law_digit"]
theorem sc_l_take : FnScope N_l_take ["_law_bag_here", "_law_many"] (defScope s_l_take) := ⟨rfl, rfl, rfl, by decide +kernel, rfl, by decide +kernel, by decide +kernel⟩
abbrev s_l_like : Stmt := topS 7
abbrev N_l_like : List Str := ["_law_told", "_law_due", "_law_one", "_law_other"]
theorem sc_l_like : FnScope N_l_like ["_law_told", "_law_due"] (defScope s_l_like) := ⟨rfl, rfl, rfl, by decide +kernel, rfl, by decide +kernel, by decide +kernel⟩
abbrev s_law : Stmt := topS 8
abbrev N_law : List Str := ["_law_script", "_law_first", "_law_due", "_law_month", "_law_step", "_law_day", "_law_days", "_law_told", "_law_at", "_law_one"]
theorem sc_law : FnScope N_law ["_law_script"] (defScope s_law) := ⟨rfl, rfl, rfl, by decide +kernel, rfl, by decide +kernel, by decide +kernel⟩
structure Defs (K : PySem.W.Frag) (mg : Str → Option Value) where
  a_month_of : Addr
  d_month_of : FuncData
  F_month_of : FnP K "month_of" s_month_of a_month_of d_month_of
  g_month_of : mg "month_of" = some (.ref a_month_of)
  b_month_of : Binds K d_month_of ["day"] []
  a_days_of : Addr
  d_days_of : FuncData
  F_days_of : FnP K "days_of" s_days_of a_days_of d_days_of
  g_days_of : mg "days_of" = some (.ref a_days_of)
  b_days_of : Binds K d_days_of ["month"] []
  a_l_bag : Addr
  d_l_bag : FuncData
  F_l_bag : FnP K "_law_bag" s_l_bag a_l_bag d_l_bag
  g_l_bag : mg "_law_bag" = some (.ref a_l_bag)
  b_l_bag : Binds K d_l_bag ["_law_script", "_law_at"] []
  a_l_take : Addr
  d_l_take : FuncData
  F_l_take : FnP K "_law_take" s_l_take a_l_take d_l_take
  g_l_take : mg "_law_take" = some (.ref a_l_take)
  b_l_take : Binds K d_l_take ["_law_bag_here", "_law_many"] []
  a_l_like : Addr
  d_l_like : FuncData
  F_l_like : FnP K "_law_like" s_l_like a_l_like d_l_like
  g_l_like : mg "_law_like" = some (.ref a_l_like)
  b_l_like : Binds K d_l_like ["_law_told", "_law_due"] []
  t_MONTH_DAYS : Tok
  c_MONTH_DAYS : mg "MONTH_DAYS" = some (.int 30 t_MONTH_DAYS)
  z_abs : mg "abs" = none
  z_all : mg "all" = none
  z_bool : mg "bool" = none
  z_enumerate : mg "enumerate" = none
  z_isinstance : mg "isinstance" = none
  z_len : mg "len" = none
  z_list : mg "list" = none
  z_range : mg "range" = none
  z_tuple : mg "tuple" = none
  z_zip : mg "zip" = none
end Th
namespace Th
open PySem PySem.Spec PyProof.Rows L2
/-! heaps -/
theorem same_upd {H : Hp} {p : Addr} {o : HO} (h : H p = none) : Same H (upd H p o) := fun b x e => by
  rw [upd_ne (ne_of_none e h)]
  exact e
/-- all but p stays -/
def Keep (p : Addr) (H H' : Hp) : Prop := ∀ b o, b ≠ p → H b = some o → H' b = some o
theorem Keep.refl (p : Addr) (H : Hp) : Keep p H H := fun _ _ _ h => h
theorem Keep.trans {p : Addr} {H H1 H2 : Hp} (a : Keep p H H1) (b : Keep p H1 H2) : Keep p H H2 := fun c o n h => b c o n (a c o n h)
theorem Keep.of {p : Addr} {H H1 : Hp} (a : Same H H1) : Keep p H H1 := fun c o _ h => a c o h
theorem Keep.upd {p : Addr} {H : Hp} {o : HO} : Keep p H (upd H p o) := fun c o n h => by rw [upd_ne n]; exact h
/-- the bag of draws at p -/
def Bag (H : Hp) (p : Addr) : Prop := ∃ g r : Int, H p = some (.lst [.int g, .int r]) ∧ 0 ≤ g ∧ 0 ≤ r ∧ r < 2147483648
theorem Bag.keep {H H' : Hp} {p : Addr} (b : Bag H p) (s : Same H H') : Bag H' p := by
  obtain ⟨g, r, e, h⟩ := b
  exact ⟨g, r, s _ _ e, h⟩
theorem Bag.some {H : Hp} {p : Addr} (b : Bag H p) : ∃ o, H p = Option.some o := by
  obtain ⟨g, r, e, _⟩ := b
  exact ⟨_, e⟩
theorem Bag.ne {H : Hp} {p q : Addr} (b : Bag H p) (h : H q = none) : q ≠ p := by
  obtain ⟨g, r, e, _⟩ := b
  exact (ne_of_none e h).symm
theorem p8 : (0 : Int) < 8 := by decide
theorem pA : (0 : Int) < 2147483647 := by decide
theorem pB : (0 : Int) < 2147483629 := by decide
section
variable {P : Program} {w : World} {K : PySem.W.Frag} {mg : Str → Option Value} {base : Heap} {k : Nat}
/-! the days -/
def sp_month_of : Sp := fun vs H Q _ => ∃ d : Int, vs = [.int d] ∧ Q (.int ((d - 1) / 30 + 1)) H
theorem ok_month_of (T : Defs K mg) : FnOk P w K mg base CX0 (k + 1) T.a_month_of T.d_month_of ["day"] sp_month_of := by
  refine T.F_month_of.ok sc_month_of (fun vs H Q E h => ?_) (fun cdv A outer s H vs Q E hr h => ?_)
  · obtain ⟨d, rfl, _⟩ := h
    rfl
  · obtain ⟨d, rfl, q⟩ := h
    refine ⟨_, PSs.nox
(pss_one (ps_ret (pe_op op_add (pe_op op_fdiv (pe_op op_sub (pv 0) (pe_int)) (pe_glob (v := .int 30) (by rfl) T.c_MONTH_DAYS ⟨_, rfl⟩)) (pe_int))))
      , ?_⟩
    exact ⟨.int d, rfl, d, 1, rfl, rfl, d - 1, 30, rfl, rfl, ⟨by decide, by decide⟩, _, 1, rfl, rfl, q⟩
def sp_days_of : Sp := fun vs H Q _ => ∃ m : Int, vs = [.int m] ∧ -1000 < m ∧ m < 1000 ∧ ∀ p, H p = none → Q (.ref p) (upd H p (.tup [.int ((m - 1) * 30 + 1), .int (m * 30)]))
theorem ok_days_of (T : Defs K mg) : FnOk P w K mg base CX0 (k + 1) T.a_days_of T.d_days_of ["month"] sp_days_of := by
  refine T.F_days_of.ok sc_days_of (fun vs H Q E h => ?_) (fun cdv A outer s H vs Q E hr h => ?_)
  · obtain ⟨d, rfl, _⟩ := h
    rfl
  · obtain ⟨m, rfl, h1, h2, q⟩ := h
    refine ⟨_, PSs.nox
(pss_one (ps_ret (pe_tup (pa_cons (pe_op op_add (pe_op op_mul (pe_op op_sub (pv 0) (pe_int)) (pe_glob (v := .int 30) (by rfl) T.c_MONTH_DAYS ⟨_, rfl⟩)) (pe_int)) (pa_cons (pe_op op_mul (pv 0) (pe_glob (v := .int 30) (by rfl) T.c_MONTH_DAYS ⟨_, rfl⟩)) pa_nil)))))
      , ?_⟩
    exact ⟨.int m, rfl, m, 1, rfl, rfl, m - 1, 30, rfl, rfl, .inr ⟨by decide, by decide⟩, _, 1, rfl, rfl, .int m, rfl, m, 30, rfl, rfl, .inr ⟨by decide, by decide⟩, by show 2 ≤ sizeLine; decide, q⟩
/-! the bag and its draws -/
def sp_bag (K : PySem.W.Frag) : Sp := fun vs H Q _ => ∃ (a : Addr) (ns : List Int) (i : Nat), vs = [.ref a, .int i] ∧ SqL K H a (ns.map V.int) ∧ i < 1000000 ∧ ∀ H' p, Same H H' → H p = none → Bag H' p → Q (.ref p) H'
theorem primes_at (i : Nat) : ∃ pr : Int, atI [V.int 2147483629, .int 2147483587, .int 2147483579, .int 2147483563, .int 2147483549, .int 2147483543, .int 2147483497, .int 2147483489] ((i : Int) % 8) = some (.int pr) ∧ 0 < pr ∧ pr < 2147483648 := by
  have e : ((i : Int) % 8) = ((i % 8 : Nat) : Int) := by omega
  rw [e]
  have h : i % 8 < 8 := Nat.mod_lt _ (by decide)
  generalize i % 8 = j at h
  have c : j = 0 ∨ j = 1 ∨ j = 2 ∨ j = 3 ∨ j = 4 ∨ j = 5 ∨ j = 6 ∨ j = 7 := by omega
  rcases c with rfl | rfl | rfl | rfl | rfl | rfl | rfl | rfl
  all_goals exact ⟨_, atI_nat rfl, by decide, by decide⟩
theorem ok_l_bag (T : Defs K mg) : FnOk P w K mg base CX0 (k + 1) T.a_l_bag T.d_l_bag ["_law_script", "_law_at"] (sp_bag K) := by
  refine T.F_l_bag.ok sc_l_bag (fun vs H Q E h => ?_) (fun cdv A outer s H vs Q E hr h => ?_)
  · obtain ⟨a, ns, i, rfl, _⟩ := h
    rfl
  · obtain ⟨a, ns, i, rfl, hS, hi, q⟩ := h
    refine ⟨_, PSs.nox
(pss_cons (ps_set (i := 2) sc_l_bag.nd rfl (.inl rfl) (pe_int))
    (pss_cons (ps_if (pt_cmpR op_lt (pv 1) (pe_callB call_len_seq (by rfl) T.z_len (by decide +kernel) (pa_cons (pv 0) pa_nil)) (nomark _))
      (pss_one (ps_set (i := 2) sc_l_bag.nd rfl (.inl rfl) (pe_ix ix_list (pv 0) (pv 1) (fun _ _ => rfl))))
      pss_nil)
    (pss_cons (ps_set (i := 3) sc_l_bag.nd rfl (.inl rfl) (pe_int))
    (pss_cons (ps_if (pt_cmpR op_ge (pe_callB call_abs (by rfl) T.z_abs (by decide +kernel) (pa_cons (pv 2) pa_nil)) (pe_op op_pow (pe_int) (pe_int)) (nomark _))
      (pss_one (ps_set (i := 3) sc_l_bag.nd rfl (.inl rfl) (pe_callB call_abs (by rfl) T.z_abs (by decide +kernel) (pa_cons (pv 2) pa_nil))))
      pss_nil)
    (pss_cons (ps_set (i := 4) sc_l_bag.nd rfl (.inl rfl) (pe_lst (pa_cons (pe_int) (pa_cons (pe_int) (pa_cons (pe_int) (pa_cons (pe_int) (pa_cons (pe_int) (pa_cons (pe_int) (pa_cons (pe_int) (pa_cons (pe_int) pa_nil))))))))))
    (pss_one (ps_ret (pe_lst (pa_cons (pv 3) (pa_cons (pe_op op_mod (pe_op op_pow (pe_op op_add (pe_op op_add (pe_op op_mod (pv 2) (pe_int)) (pe_op op_mul (pe_int) (pv 1))) (pe_int)) (pe_int)) (pe_ix ix_list (pv 4) (pe_op op_mod (pv 1) (pe_int)) (fun _ _ => rfl))) pa_nil))))))))))
      , ?_⟩
    obtain ⟨pr, hp, hp0, hp1⟩ := primes_at i
    have fin : ∀ (c g : Int), 0 ≤ g → ∀ l, H l = none → ∀ H1, H1 = upd H l (.lst [V.int 2147483629, .int 2147483587, .int 2147483579, .int 2147483563, .int 2147483549, .int 2147483543, .int 2147483497, .int 2147483489]) →
        ∀ p, H1 p = none → Q (.ref p) (upd H1 p (.lst [.int g, .int ((c % 2147483647 + 104729 * (i : Int) + 7) ^ (5 : Int).toNat % pr)])) := by
      intro c g hg l nl H1 e p np
      have s1 : Same H H1 := by rw [e]; exact same_upd nl
      exact q _ p (s1.trans (same_upd np)) (s1.free np) ⟨g, _, upd_same, hg, Int.emod_nonneg _ (by omega), Int.lt_trans (Int.emod_lt_of_pos _ hp0) hp1⟩
    refine ⟨.int i, rfl, .ref a, rfl, a, ns.map V.int, rfl, .inl hS, _, _, rfl, rfl, _, rfl, ite2 (fun e => ?_) (fun e => ?_)⟩
    · have lt : i < ns.length := by
        have := of_decide_eq_true e
        rw [List.length_map] at this
        omega
      have g1 : (ns.map V.int)[i]? = some (.int ns[i]) := by
        rw [List.getElem?_map, List.getElem?_eq_getElem lt]
        rfl
      refine ⟨.ref a, rfl, .int i, rfl, a, _, (i : Int), .int ns[i], rfl, rfl, hS, atI_nat g1, ?_⟩
      refine ⟨.int ns[i], rfl, _, rfl, 10, 18, rfl, rfl, ⟨by decide, by decide, by decide⟩, _, _, rfl, rfl, _, rfl, ite2 (fun e => ?_) (fun e => ?_)⟩
      · refine ⟨.int ns[i], rfl, _, rfl, ?_⟩
        refine ⟨by show 8 ≤ sizeLine; decide, fun l nl => ?_⟩
        refine ⟨_, rfl, .int ns[i], rfl, ns[i], 2147483647, rfl, rfl, pA, .int i, rfl, 104729, i, rfl, rfl, .inl ⟨by decide, by decide⟩, _, _, rfl, rfl, _, 7, rfl, rfl, _, 5, rfl, rfl, ⟨by decide, by decide, ?_⟩, .ref l, rfl, .int i, rfl, i, 8, rfl, rfl, p8, l, _, _, _, rfl, rfl, SqL.of upd_same, hp, _, pr, rfl, rfl, hp0, by show 2 ≤ sizeLine; decide, fin ns[i] _ ?_ l nl _ rfl⟩
        · omega
        · split <;> omega
      · refine ⟨by show 8 ≤ sizeLine; decide, fun l nl => ?_⟩
        refine ⟨_, rfl, .int ns[i], rfl, ns[i], 2147483647, rfl, rfl, pA, .int i, rfl, 104729, i, rfl, rfl, .inl ⟨by decide, by decide⟩, _, _, rfl, rfl, _, 7, rfl, rfl, _, 5, rfl, rfl, ⟨by decide, by decide, ?_⟩, .ref l, rfl, .int i, rfl, i, 8, rfl, rfl, p8, l, _, _, _, rfl, rfl, SqL.of upd_same, hp, _, pr, rfl, rfl, hp0, by show 2 ≤ sizeLine; decide, fin ns[i] 0 (by decide) l nl _ rfl⟩
        omega
    · refine ⟨.int 0, rfl, _, rfl, 10, 18, rfl, rfl, ⟨by decide, by decide, by decide⟩, _, _, rfl, rfl, _, rfl, ite2 (fun e => ?_) (fun e => ?_)⟩
      · exact absurd (of_decide_eq_true e) (by decide)
      · refine ⟨by show 8 ≤ sizeLine; decide, fun l nl => ?_⟩
        refine ⟨_, rfl, .int 0, rfl, 0, 2147483647, rfl, rfl, pA, .int i, rfl, 104729, i, rfl, rfl, .inl ⟨by decide, by decide⟩, _, _, rfl, rfl, _, 7, rfl, rfl, _, 5, rfl, rfl, ⟨by decide, by decide, ?_⟩, .ref l, rfl, .int i, rfl, i, 8, rfl, rfl, p8, l, _, _, _, rfl, rfl, SqL.of upd_same, hp, _, pr, rfl, rfl, hp0, by show 2 ≤ sizeLine; decide, fin 0 0 (by decide) l nl _ rfl⟩
        omega
def sp_take : Sp := fun vs H Q _ => ∃ (p : Addr) (m : Int), vs = [.ref p, .int m] ∧ Bag H p ∧ 0 < m ∧ m < 1073741824 ∧ ∀ H' d, Keep p H H' → Bag H' p → 0 ≤ d → d < m → Q (.int d) H'
theorem ok_l_take (T : Defs K mg) : FnOk P w K mg base CX0 (k + 1) T.a_l_take T.d_l_take ["_law_bag_here", "_law_many"] sp_take := by
  refine T.F_l_take.ok sc_l_take (fun vs H Q E h => ?_) (fun cdv A outer s H vs Q E hr h => ?_)
  · obtain ⟨p, m, rfl, _⟩ := h
    rfl
  · obtain ⟨p, m, rfl, ⟨g, r, hp, g0, r0, r1⟩, m0, m1, q⟩ := h
    refine ⟨_, PSs.nox
(pss_cons (ps_if (pt_cmpR op_gt (pe_ix ix_list (pv 0) (pe_int) (fun _ _ => rfl)) (pe_int) (nomark _))
      (pss_cons (ps_set (i := 2) sc_l_take.nd rfl (.inl rfl) (pe_op op_mod (pe_ix ix_list (pv 0) (pe_int) (fun _ _ => rfl)) (pv 1)))
      (pss_cons (ps_asg (pe_op op_fdiv (pe_ix ix_list (pv 0) (pe_int) (fun _ _ => rfl)) (pv 1)) (pg_sub (pv 0) (pe_int) set_list))
      (pss_one (ps_ret (pv 2)))))
      pss_nil)
    (pss_cons (ps_asg (pe_op op_mod (pe_op op_add (pe_op op_mul (pe_ix ix_list (pv 0) (pe_int) (fun _ _ => rfl)) (pe_int)) (pe_int)) (pe_int)) (pg_sub (pv 0) (pe_int) set_list))
    (pss_one (ps_ret (pe_op op_mod (pe_op op_mod (pe_op op_pow (pe_op op_fdiv (pe_ix ix_list (pv 0) (pe_int) (fun _ _ => rfl)) (pe_int)) (pe_int)) (pe_int)) (pv 1))))))
      , ?_⟩
    refine ⟨.ref p, rfl, p, _, 0, .int g, rfl, rfl, SqL.of hp, atI_nat (j := 0) rfl, _, 0, rfl, rfl, _, rfl, ite2 (fun e => ?_) (fun e => ?_)⟩
    · refine ⟨.ref p, rfl, p, _, 0, .int g, rfl, rfl, SqL.of hp, atI_nat (j := 0) rfl, .int m, rfl, g, m, rfl, rfl, m0, ?_⟩
      refine ⟨.ref p, rfl, p, _, 0, .int g, rfl, rfl, SqL.of hp, atI_nat (j := 0) rfl, .int m, rfl, g, m, rfl, rfl, ⟨m0, m1⟩, .ref p, rfl, p, _, 0, 0, rfl, rfl, hp, rfl, ?_⟩
      refine ⟨_, rfl, q _ _ Keep.upd ⟨_, _, upd_same, ?_, r0, r1⟩ (Int.emod_nonneg _ (by omega)) (Int.emod_lt_of_pos _ m0)⟩
      exact Int.ediv_nonneg g0 (by omega)
    · refine ⟨.ref p, rfl, p, _, 1, .int r, rfl, rfl, SqL.of hp, atI_nat (j := 1) rfl, r, 48271, rfl, rfl, .inr ⟨by decide, by decide⟩, _, 11, rfl, rfl, _, 2147483647, rfl, rfl, pA, .ref p, rfl, p, _, 1, 1, rfl, rfl, hp, rfl, ?_⟩
      have hz0 : 0 ≤ (r * 48271 + 11) % 2147483647 := Int.emod_nonneg _ (by decide)
      have hz1 : (r * 48271 + 11) % 2147483647 < 2147483647 := Int.emod_lt_of_pos _ (by decide)
      refine ⟨.ref p, rfl, p, _, 1, _, rfl, rfl, SqL.of upd_same, atI_nat (j := 1) rfl, (r * 48271 + 11) % 2147483647, 8, rfl, rfl, ⟨by decide, by decide⟩, _, 3, rfl, rfl, ⟨by decide, by decide, ?_⟩, _, 2147483629, rfl, rfl, pB, .int m, rfl, _, m, rfl, rfl, m0, ?_⟩
      · omega
      · exact q _ _ Keep.upd ⟨_, _, upd_same, g0, hz0, by omega⟩ (Int.emod_nonneg _ (by omega)) (Int.emod_lt_of_pos _ m0)
end
end Th
namespace Th
open PySem PySem.Spec PyProof.Rows L2
/-! data that is tracked, at addresses of which S holds -/
mutual
inductive Dt (S : Addr → Prop) (H : Hp) : V → PyData → Prop
  | non : Dt S H .non .none
  | bl (b : Bool) : Dt S H (.bl b) (.bool b)
  | int (i : Int) : Dt S H (.int i) (.int i)
  | str (x : Str) : Dt S H (.str x) (.str x)
  | lst {a : Addr} {xs : List V} {ds : List PyData} : S a → H a = some (.lst xs) → xs.length ≤ 5000 → DtAll S H xs ds → Dt S H (.ref a) (.list ds)
  | tup {a : Addr} {xs : List V} {ds : List PyData} : S a → H a = some (.tup xs) → xs.length ≤ 5000 → DtAll S H xs ds → Dt S H (.ref a) (.tuple ds)
inductive DtAll (S : Addr → Prop) (H : Hp) : List V → List PyData → Prop
  | nil : DtAll S H [] []
  | cons {v : V} {vs : List V} {d : PyData} {ds : List PyData} : Dt S H v d → DtAll S H vs ds → DtAll S H (v :: vs) (d :: ds)
end
mutual
theorem Dt.mono {S S' : Addr → Prop} {H H' : Hp} (hS : ∀ a, S a → S' a) (hh : ∀ a o, S a → H a = some o → H' a = some o) : ∀ {v : V} {d : PyData}, Dt S H v d → Dt S' H' v d
  | _, _, .non => .non
  | _, _, .bl b => .bl b
  | _, _, .int b => .int b
  | _, _, .str b => .str b
  | _, _, .lst s e l r => .lst (hS _ s) (hh _ _ s e) l (DtAll.mono hS hh r)
  | _, _, .tup s e l r => .tup (hS _ s) (hh _ _ s e) l (DtAll.mono hS hh r)
theorem DtAll.mono {S S' : Addr → Prop} {H H' : Hp} (hS : ∀ a, S a → S' a) (hh : ∀ a o, S a → H a = some o → H' a = some o) : ∀ {v : List V} {d : List PyData}, DtAll S H v d → DtAll S' H' v d
  | _, _, .nil => .nil
  | _, _, .cons a r => .cons (Dt.mono hS hh a) (DtAll.mono hS hh r)
end
mutual
theorem Dt.dp {K : PySem.W.Frag} {S : Addr → Prop} {H : Hp} : ∀ {v : V} {d : PyData}, Dt S H v d → Dp K H v d
  | _, _, .non => .non
  | _, _, .bl b => .bl b
  | _, _, .int b => .int b
  | _, _, .str b => .str b
  | _, _, .lst s e l r => .lst (SqL.of e) (DtAll.dp r)
  | _, _, .tup s e l r => .tup (SqT.of e) (DtAll.dp r)
theorem DtAll.dp {K : PySem.W.Frag} {S : Addr → Prop} {H : Hp} : ∀ {v : List V} {d : List PyData}, DtAll S H v d → DpAll K H v d
  | _, _, .nil => .nil
  | _, _, .cons a r => .cons (Dt.dp a) (DtAll.dp r)
end
abbrev SA : Addr → Prop := fun _ => True
theorem Dt.same {H H' : Hp} {v : V} {d : PyData} (s : Same H H') (h : Dt SA H v d) : Dt SA H' v d := h.mono (fun _ x => x) fun a o _ e => s a o e
theorem DtAll.same {H H' : Hp} {v : List V} {d : List PyData} (s : Same H H') (h : DtAll SA H v d) : DtAll SA H' v d := h.mono (fun _ x => x) fun a o _ e => s a o e
theorem DtAll.len {S : Addr → Prop} {H : Hp} : ∀ {v : List V} {d : List PyData}, DtAll S H v d → v.length = d.length
  | _, _, .nil => rfl
  | _, _, .cons _ r => congrArg Nat.succ r.len
theorem DtAll.get {S : Addr → Prop} {H : Hp} : ∀ {v : List V} {d : List PyData} {i : Nat} {x : V}, DtAll S H v d → v[i]? = some x → ∃ e, d[i]? = some e ∧ Dt S H x e
  | _, _, _, _, .nil, h => by simp at h
  | _, _, 0, _, .cons a r, h => by
    have e := Option.some.inj h
    subst e
    exact ⟨_, rfl, a⟩
  | _, _, i + 1, _, .cons a r, h => r.get (i := i) h
/-! depth, what may be laid -/
theorem depth_mem : ∀ {ds : List PyData} {i : Nat} {d : PyData}, ds[i]? = some d → PyData.depth d ≤ PyData.depthAll ds
  | [], _, _, h => by simp at h
  | x :: xs, 0, d, h => by
    have e := Option.some.inj h
    subst e
    rw [PyData.depthAll]
    exact Nat.le_max_left _ _
  | x :: xs, i + 1, d, h => by
    rw [PyData.depthAll]
    exact Nat.le_trans (depth_mem (i := i) h) (Nat.le_max_right _ _)
theorem lay_mem : ∀ {ds : List PyData} {i : Nat} {d : PyData}, PyData.canLayAll0 ds = true → ds[i]? = some d → PyData.canLay0 d = true
  | [], _, _, _, h => by simp at h
  | x :: xs, 0, d, c, h => by
    have e := Option.some.inj h
    subst e
    rw [PyData.canLayAll0, Bool.and_eq_true_iff] at c
    exact c.1
  | x :: xs, i + 1, d, c, h => by
    rw [PyData.canLayAll0, Bool.and_eq_true_iff] at c
    exact lay_mem (i := i) c.2 h
/-! the types -/
def tyN : PyData → String
  | .none => "NoneType"
  | .bool _ => "bool"
  | .int _ => "int"
  | .str _ => "str"
  | .list _ => "list"
  | .tuple _ => "tuple"
  | .dict _ => "dict"
theorem Dt.ty {K : PySem.W.Frag} {S : Addr → Prop} {H : Hp} {v : V} {d : PyData} (h : Dt S H v d) : TyX K H v (.type (tyN d)) := by
  cases h with
  | non => exact .base .non
  | bl b => exact .base (.bl b)
  | int b => exact .base (.int b)
  | str b => exact .base (.str b)
  | lst s e l r => exact .base (.lst e)
  | tup s e l r => exact .base (.tup e)
def isB : PyData → Bool
  | .bool _ => true
  | _ => false
def isSeq : PyData → Bool
  | .list _ => true
  | .tuple _ => true
  | _ => false
theorem kit_bool {K : PySem.W.Frag} {S : Addr → Prop} {H : Hp} {v : V} {d : PyData} (h : Dt S H v d) : PySem.W.kitOne K (.type (tyN d)) (.type "bool") = some (isB d) := by
  cases h with
  | non => exact kit_ty (a := "NoneType") (b := "bool") (r := false) (by decide +kernel)
  | bl b => exact kit_ty (a := "bool") (b := "bool") (r := true) (by decide +kernel)
  | int b => exact kit_ty (a := "int") (b := "bool") (r := false) (by decide +kernel)
  | str b => exact kit_ty (a := "str") (b := "bool") (r := false) (by decide +kernel)
  | lst s e l r => exact kit_ty (a := "list") (b := "bool") (r := false) (by decide +kernel)
  | tup s e l r => exact kit_ty (a := "tuple") (b := "bool") (r := false) (by decide +kernel)
theorem kit2 {K : PySem.W.Frag} {n : String} (h1 : kitB n "list" = some false) (h2 : kitB n "tuple" = some false) : PySem.W.kitAny K (.type n) [.type "list", .type "tuple"] = some false :=
  kitAny_cons (b := false) (kit_ty h1) (fun _ => kitAny_cons (b := false) (kit_ty h2) (fun _ => kitAny_nil) (fun z => nomatch z)) (fun z => nomatch z)
theorem kit_seq {K : PySem.W.Frag} {S : Addr → Prop} {H : Hp} {v : V} {d : PyData} (h : Dt S H v d) : PySem.W.kitAny K (.type (tyN d)) [.type "list", .type "tuple"] = some (isSeq d) := by
  cases h with
  | non => exact kit2 (n := "NoneType") (by decide +kernel) (by decide +kernel)
  | bl b => exact kit2 (n := "bool") (by decide +kernel) (by decide +kernel)
  | int b => exact kit2 (n := "int") (by decide +kernel) (by decide +kernel)
  | str b => exact kit2 (n := "str") (by decide +kernel) (by decide +kernel)
  | lst s e l r => exact kitAny_cons (b := true) (kit_ty (a := "list") (by decide +kernel)) (fun z => nomatch z) (fun _ => rfl)
  | tup s e l r => exact kitAny_cons (b := false) (kit_ty (a := "tuple") (by decide +kernel)) (fun _ => kitAny_cons (b := true) (kit_ty (a := "tuple") (by decide +kernel)) (fun z => nomatch z) (fun _ => rfl)) (fun z => nomatch z)
/-! zip of two tuples, walked -/
theorem walk_zipT {K : PySem.W.Frag} {a b : Addr} {xs ys : List V} {n : Nat} (hn : n = min xs.length ys.length) : Walk (RZ.ItzT K a b) n (fun H => SqT K H a xs ∧ SqT K H b ys) (YPair (fun i => xs[i]?) (fun i => ys[i]?)) := by
  subst hn
  refine ⟨fun i _ hi q => ?_, fun _ q => ⟨xs, ys, q.1, q.2, by omega⟩, fun i H v H' _ q y => ?_⟩
  · have h1 : i < xs.length := by omega
    have h2 : i < ys.length := by omega
    exact ⟨xs, ys, xs[i], ys[i], q.1, q.2, by simp [h1], by simp [h2]⟩
  · obtain ⟨T, x, z, h1, h2, h3, h4, h5⟩ := y
    exact ⟨T, x, z, h1, h2, h3, h4 xs q.1, h5 ys q.2⟩
theorem yes_ {σ : L2.St} {H : Hp} {A B : Hp → Prop} (h : A H) : tYes σ H fun b H3 => if b = true then A H3 else B H3 := by
  show if true = true then A H else B H
  exact iteT h
theorem small5000 {n : Nat} (h : n ≤ 5000) : n < sizeLine := Nat.lt_of_le_of_lt h (by decide)
section
variable {P : Program} {w : World} {K : PySem.W.Frag} {mg : Str → Option Value} {base : Heap}
/-- told and due are the same data, of a depth below n: True -/
def sp_like (n : Nat) : Sp := fun vs H Q _ => ∃ (v u : V) (d : PyData), vs = [v, u] ∧ Dt SA H v d ∧ Dt SA H u d ∧ d.canLay0 = true ∧ d.depth < n ∧ n ≤ 60 ∧ ∀ H', Same H H' → Q (.bl true) H'
theorem ok_l_like (T : Defs K mg) : ∀ n : Nat, FnOk P w K mg base CX0 n T.a_l_like T.d_l_like ["_law_told", "_law_due"] (sp_like n) := by
  intro n
  induction n with
  | zero =>
    exact ⟨fun vs H Q E ⟨v, u, d, _, _, _, _, z, _⟩ => absurd z (Nat.not_lt_zero _), fun A outer s H args us vs Q E _ _ _ _ ⟨v, u, d, _, _, _, _, z, _⟩ => absurd z (Nat.not_lt_zero _)⟩
  | succ n ih =>
  have G_l_like := ih
  refine T.F_l_like.ok sc_l_like (fun vs H Q E h => ?_) (fun cdv A outer s H vs Q E hr h => ?_)
  · obtain ⟨v, u, d, rfl, _⟩ := h
    rfl
  · obtain ⟨v, u, d, rfl, hv, hu, hlay, hdep, hn, q⟩ := h
    refine ⟨_, PSs.nox
(pss_cons (ps_if (PW.pt (pw_or (pt_cmpR op_ne (pe_callB call_isi (by rfl) T.z_isinstance (by decide +kernel) (pa_cons (pv 0) (pa_cons (pe_bltn (v := .ty "bool") (by rfl) T.z_bool (by decide +kernel) rfl) pa_nil))) (pe_callB call_isi (by rfl) T.z_isinstance (by decide +kernel) (pa_cons (pv 1) (pa_cons (pe_bltn (v := .ty "bool") (by rfl) T.z_bool (by decide +kernel) rfl) pa_nil))) (nomark _)) (pw_or1 (pt_cmpR (op_neD hr.units) (pv 0) (pv 1) (nomark _)))))
      (pss_one (ps_ret (pe_bl)))
      pss_nil)
    (pss_cons (ps_if (pt_val (pe_callB call_isiT (by rfl) T.z_isinstance (by decide +kernel) (pa_cons (pv 0) (pa_cons (pe_tup (pa_cons (pe_bltn (v := .ty "list") (by rfl) T.z_list (by decide +kernel) rfl) (pa_cons (pe_bltn (v := .ty "tuple") (by rfl) T.z_tuple (by decide +kernel) rfl) pa_nil))) pa_nil))))
      (pss_one (ps_ret (pe_callB (cr_all rfl) (by rfl) T.z_all (by decide +kernel) (pa_cons (pe_lc (own := [("_law_one", 2), ("_law_other", 3)]) (g := gTup K 2 (gCons (gName 2) (gCons (gName 3) gNil))) rfl sc_l_like.nd (RZ.pi_zipA (by rfl) T.z_zip (pa_cons (pv 0) (pa_cons (pv 1) pa_nil))) (blkOk_by (N := N_l_like) (sc := defScope s_l_like) (by decide +kernel)) (fun _ _ _ _ _ => (pg_tup rfl (pgs_cons (pg_name (i := 2) sc_l_like.nd rfl (.inl rfl)) (pgs_cons (pg_name (i := 3) sc_l_like.nd rfl (.inl rfl)) pgs_nil)))) (fun _ _ _ _ _ => pts_nil) (fun _ _ _ _ _ => (pe_call G_l_like hr (by rfl) T.g_l_like T.F_l_like.kp T.b_l_like .nil pass0 (pa_cons (pv 2) (pa_cons (pv 3) pa_nil))))) pa_nil))))
      pss_nil)
    (pss_one (ps_ret (pe_bl)))))
      , ?_⟩
    have hsh : SeqAt.shaped d = true := Bool.and_eq_true_iff.mpr ⟨hlay, decide_eq_true (by omega)⟩
    refine ⟨v, rfl, v, .ty "bool", _, _, _, rfl, .ty "bool", hv.ty, kit_bool hv, u, rfl, u, .ty "bool", _, _, _, rfl, .ty "bool", hu.ty, kit_bool hu, rfl, _, rfl, iteNS rfl ?_⟩
    refine ⟨v, rfl, u, rfl, d, d, hv.dp, hu.dp, hsh, hsh, _, rfl, ?_⟩
    rw [SeqAt.eqv_refl d hlay]
    refine iteF ?_
    refine ⟨v, rfl, by show 2 ≤ sizeLine; decide, fun t nt => ?_⟩
    have s1 : Same H (upd H t (.tup [.ty "list", .ty "tuple"])) := same_upd nt
    have hv1 := hv.same s1
    have hu1 := hu.same s1
    refine ⟨v, t, [.ty "list", .ty "tuple"], _, _, _, rfl, upd_same, .cons (.ty _) (.cons (.ty _) .nil), hv1.ty, kit_seq hv1, _, rfl, ?_⟩
    generalize upd H t (.tup [.ty "list", .ty "tuple"]) = H1 at s1 hv1 hu1
    cases hv1 with
    | non => exact iteF (q _ s1)
    | bl b => exact iteF (q _ s1)
    | int b => exact iteF (q _ s1)
    | str b => exact iteF (q _ s1)
    | @lst a xs ds _ ea la ra =>
      cases hu1 with
      | @lst b ys _ _ eb lb rb =>
      refine iteT ?_
      have lx := ra.len
      have ly := rb.len
      refine ⟨.ref a, rfl, .ref b, rfl, a, b, xs, ys, rfl, .inl ⟨SqL.of ea, SqL.of eb, fun D nD => ?_⟩⟩
      refine lc_it (walk_zip (n := xs.length) (xs := xs) (ys := ys) (by omega)) (fun i H3 => Same H1 H3 ∧ H3 D = some (.lst (List.replicate i (V.bl true)))) ⟨same_upd nD, upd_same⟩ (fun i H3 _ p => ⟨SqL.of (p.1 _ _ ea), SqL.of (p.1 _ _ eb)⟩) (fun i x H3 H4 hi p y => ?_) (fun H3 p => ?_)
      · obtain ⟨t1, x1, y1, rfl, nT, rfl, e1, e2⟩ := y
        obtain ⟨d1, f1, hd1⟩ := ra.get e1
        obtain ⟨d2, f2, hd2⟩ := rb.get e2
        have e12 : d1 = d2 := Option.some.inj (f1.symm.trans f2)
        subst e12
        have s2 : Same H1 (upd H3 t1 (.tup [x1, y1])) := p.1.trans (same_upd nT)
        refine ⟨t1, [x1, y1], rfl, SqT.of upd_same, rfl, x1, [y1], rfl, y1, [], rfl, rfl, rfl, yes_ ?_⟩
        refine ⟨x1, rfl, y1, rfl, x1, y1, d1, rfl, hd1.same s2, hd2.same s2, lay_mem hlay f1, ?_, by omega, fun H5 s5 => ?_⟩
        · have := depth_mem f1
          rw [PyData.depth] at hdep
          omega
        · have eD : H5 D = some (.lst (List.replicate i (V.bl true))) := s5 _ _ (same_upd nT _ _ p.2)
          refine ⟨_, eD, by rw [List.length_replicate]; exact small5000 (by omega), fun c o e => ?_, ?_⟩
          · rw [upd_ne (ne_of_none e nD)]
            exact s5 _ _ (s2 _ _ e)
          · rw [upd_same, List.replicate_succ']
      · refine ⟨D, List.replicate xs.length true, rfl, SqL.of (by rw [p.2, List.map_replicate]), ?_⟩
        rw [show (List.replicate xs.length true).all id = true from by simp]
        exact q _ (s1.trans p.1)
    | @tup a xs ds _ ea la ra =>
      cases hu1 with
      | @tup b ys _ _ eb lb rb =>
      refine iteT ?_
      have lx := ra.len
      have ly := rb.len
      refine ⟨.ref a, rfl, .ref b, rfl, a, b, xs, ys, rfl, .inr ⟨SqT.of ea, SqT.of eb, fun D nD => ?_⟩⟩
      refine lc_it (walk_zipT (n := xs.length) (xs := xs) (ys := ys) (by omega)) (fun i H3 => Same H1 H3 ∧ H3 D = some (.lst (List.replicate i (V.bl true)))) ⟨same_upd nD, upd_same⟩ (fun i H3 _ p => ⟨SqT.of (p.1 _ _ ea), SqT.of (p.1 _ _ eb)⟩) (fun i x H3 H4 hi p y => ?_) (fun H3 p => ?_)
      · obtain ⟨t1, x1, y1, rfl, nT, rfl, e1, e2⟩ := y
        obtain ⟨d1, f1, hd1⟩ := ra.get e1
        obtain ⟨d2, f2, hd2⟩ := rb.get e2
        have e12 : d1 = d2 := Option.some.inj (f1.symm.trans f2)
        subst e12
        have s2 : Same H1 (upd H3 t1 (.tup [x1, y1])) := p.1.trans (same_upd nT)
        refine ⟨t1, [x1, y1], rfl, SqT.of upd_same, rfl, x1, [y1], rfl, y1, [], rfl, rfl, rfl, yes_ ?_⟩
        refine ⟨x1, rfl, y1, rfl, x1, y1, d1, rfl, hd1.same s2, hd2.same s2, lay_mem hlay f1, ?_, by omega, fun H5 s5 => ?_⟩
        · have := depth_mem f1
          rw [PyData.depth] at hdep
          omega
        · have eD : H5 D = some (.lst (List.replicate i (V.bl true))) := s5 _ _ (same_upd nT _ _ p.2)
          refine ⟨_, eD, by rw [List.length_replicate]; exact small5000 (by omega), fun c o e => ?_, ?_⟩
          · rw [upd_ne (ne_of_none e nD)]
            exact s5 _ _ (s2 _ _ e)
          · rw [upd_same, List.replicate_succ']
      · refine ⟨D, List.replicate xs.length true, rfl, SqL.of (by rw [p.2, List.map_replicate]), ?_⟩
        rw [show (List.replicate xs.length true).all id = true from by simp]
        exact q _ (s1.trans p.1)
end
end Th
namespace Th
open PySem PySem.Spec PyProof.Rows L2
/-! the months' days -/
def dueL (n : Nat) : List Int := (List.range n).flatMap fun j : Nat => List.replicate 30 ((j : Int) + 1)
theorem dueL_succ (n : Nat) : dueL (n + 1) = dueL n ++ List.replicate 30 ((n : Int) + 1) := by
  unfold dueL
  rw [List.range_succ, List.flatMap_append]
  simp
theorem dueL_len (n : Nat) : (dueL n).length = n * 30 := by
  induction n with
  | zero => rfl
  | succ n ih => rw [dueL_succ, List.length_append, ih, List.length_replicate]; omega
def due14 : List Int := dueL 14
theorem due_at : ∀ j : Fin 420, due14[j.1]? = some (((j.1 : Nat) : Int) / 30 + 1) := by decide +kernel
def daysOf (m : Int) (n : Nat) : List Int := ((List.range n).filter fun j : Nat => decide ((j : Int) / 30 + 1 = m)).map fun j : Nat => (j : Int) + 1
theorem daysOf_succ (m : Int) (n : Nat) : daysOf m (n + 1) = daysOf m n ++ (if (n : Int) / 30 + 1 = m then [(n : Int) + 1] else []) := by
  unfold daysOf
  rw [List.range_succ, List.filter_append, List.map_append]
  congr 1
  by_cases h : (n : Int) / 30 + 1 = m
  · rw [if_pos h]; simp [h]
  · rw [if_neg h]; simp [h]
theorem daysOf_len (m : Int) (n : Nat) : (daysOf m n).length ≤ n := by
  unfold daysOf
  rw [List.length_map]
  exact Nat.le_trans (List.length_filter_le _ _) (by rw [List.length_range]; exact Nat.le_refl _)
theorem days_ends : ∀ i : Fin 14, (daysOf (1 + ((i.1 : Nat) : Int)) 420)[0]? = some ((1 + ((i.1 : Nat) : Int) - 1) * 30 + 1) ∧ (daysOf (1 + ((i.1 : Nat) : Int)) 420).getLast? = some ((1 + ((i.1 : Nat) : Int)) * 30) := by decide +kernel
theorem atI_end {ns : List Int} {z : Int} (h : ns.getLast? = some z) : atI (ns.map V.int) (-1) = some (.int z) := by
  obtain ⟨l, rfl⟩ := List.getLast?_eq_some_iff.mp h
  rw [List.map_append]
  exact atI_last _ _
theorem p420 : (0 : Int) < 420 := by decide
section
variable {P : Program} {w : World} {K : PySem.W.Frag} {mg : Str → Option Value} {base : Heap}
def sp_law (K : PySem.W.Frag) : Sp := fun vs H Q _ => ∃ (a : Addr) (ns : List Int), vs = [.ref a] ∧ SqL K H a (ns.map V.int) ∧ ns.length ≤ 63 ∧ ∀ H', Q (.bl true) H'
theorem ok_law {f : Addr} {fd : FuncData} (F : FnP K "law" s_law f fd) (T : Defs K mg) : FnOk P w K mg base CX0 3 f fd ["_law_script"] (sp_law K) := by
  have G_l_bag : FnOk P w K mg base CX0 2 _ _ _ _ := ok_l_bag T
  have G_l_take : FnOk P w K mg base CX0 2 _ _ _ _ := ok_l_take T
  have G_month_of : FnOk P w K mg base CX0 2 _ _ _ _ := ok_month_of T
  have G_days_of : FnOk P w K mg base CX0 2 _ _ _ _ := ok_days_of T
  have G_l_like : FnOk P w K mg base CX0 2 _ _ _ _ := ok_l_like T 2
  refine F.ok sc_law (fun vs H Q E h => ?_) (fun cdv A outer s H vs Q E hr h => ?_)
  · obtain ⟨a, ns, rfl, _⟩ := h
    rfl
  · obtain ⟨a, ns, rfl, hS, hlen, q⟩ := h
    refine ⟨_, PSs.nox
(pss_cons (ps_set (i := 1) sc_law.nd rfl (.inl rfl) (pe_call G_l_take hr (by rfl) T.g_l_take T.F_l_take.kp T.b_l_take .nil pass0 (pa_cons (pe_call G_l_bag hr (by rfl) T.g_l_bag T.F_l_bag.kp T.b_l_bag .nil pass0 (pa_cons (pv 0) (pa_cons (pe_int) pa_nil))) (pa_cons (pe_int) pa_nil))))
    (pss_cons (ps_set (i := 2) sc_law.nd rfl (.inl rfl) (pe_lst pa_nil))
    (pss_cons (ps_for PassesOwn.never rfl (pi_range2 (by rfl) T.z_range (pa_cons (pe_int) (pa_cons (pe_int) pa_nil))) (pg_name (i := 3) sc_law.nd rfl (.inr rfl))
      (pss_one (ps_set (i := 2) sc_law.nd rfl (.inl rfl) (pe_op op_cat (pv 2) (pe_op op_rep (pe_lst (pa_cons (pv 3) pa_nil)) (pe_int))))))
    (pss_cons (ps_for PassesOwn.never rfl (pi_range1 (by rfl) T.z_range (pa_cons (pe_int) pa_nil)) (pg_name (i := 4) sc_law.nd rfl (.inl rfl))
      (pss_cons (ps_set (i := 5) sc_law.nd rfl (.inl rfl) (pe_op op_add (pe_int) (pe_op op_mod (pe_op op_add (pv 1) (pe_op op_mul (pe_int) (pv 4))) (pe_int))))
      (pss_one (ps_if (pt_not (pt_val (pe_call G_l_like hr (by rfl) T.g_l_like T.F_l_like.kp T.b_l_like .nil pass0 (pa_cons (pe_call G_month_of hr (by rfl) T.g_month_of T.F_month_of.kp T.b_month_of .nil pass0 (pa_cons (pv 5) pa_nil)) (pa_cons (pe_ix ix_list (pv 2) (pe_op op_sub (pv 5) (pe_int)) (fun _ _ => rfl)) pa_nil)))))
        (pss_one (ps_ret (pe_bl)))
        pss_nil))))
    (pss_cons (ps_for PassesOwn.never rfl (pi_range2 (by rfl) T.z_range (pa_cons (pe_int) (pa_cons (pe_int) pa_nil))) (pg_name (i := 3) sc_law.nd rfl (.inr rfl))
      (pss_cons (ps_setLc (i := 6) (own := [("_law_at", 8), ("_law_one", 9)]) (g := gTup K 2 (gCons (gName 8) (gCons (gName 9) gNil))) rfl sc_law.nd rfl rfl (sw_true rfl rfl rfl (by decide +kernel)) (pi_enum (by rfl) T.z_enumerate (pa_cons (pv 2) pa_nil)) (blkOk_by (N := N_law) (sc := defScope s_law) (by decide +kernel)) (fun _ _ _ _ _ => (pg_tup rfl (pgs_cons (pg_name (i := 8) sc_law.nd rfl (.inl rfl)) (pgs_cons (pg_name (i := 9) sc_law.nd rfl (.inl rfl)) pgs_nil)))) (fun _ _ _ _ _ => pts_one (pt_cmpR op_eq (pv 9) (pv 3) (nomark _))) (fun _ _ _ _ _ => (pe_op op_add (pv 8) (pe_int))))
      (pss_cons (ps_set (i := 7) sc_law.nd rfl (.inl rfl) (pe_call G_days_of hr (by rfl) T.g_days_of T.F_days_of.kp T.b_days_of .nil pass0 (pa_cons (pv 3) pa_nil)))
      (pss_one (ps_if (PW.pt (pw_or (pt_not (pt_val (pe_callB call_isi (by rfl) T.z_isinstance (by decide +kernel) (pa_cons (pv 7) (pa_cons (pe_bltn (v := .ty "tuple") (by rfl) T.z_tuple (by decide +kernel) rfl) pa_nil))))) (pw_or1 (pt_not (pt_val (pe_call G_l_like hr (by rfl) T.g_l_like T.F_l_like.kp T.b_l_like .nil pass0 (pa_cons (pv 7) (pa_cons (pe_tup (pa_cons (pe_ix ix_list (pv 6) (pe_int) (fun _ _ => rfl)) (pa_cons (pe_ix ix_list (pv 6) (pe_un un_neg (pe_int)) (fun _ _ => rfl)) pa_nil))) pa_nil))))))))
        (pss_one (ps_ret (pe_bl)))
        pss_nil)))))
    (pss_one (ps_ret (pe_bl))))))))
      , ?_⟩
    -- first = take(bag(script, 0), 420)
    refine ⟨.ref a, rfl, a, ns, 0, rfl, hS, by decide, fun H1 p s1 np b1 => ?_⟩
    refine ⟨p, 420, rfl, b1, by decide, by decide, fun H2 first k2 b2 f0 f1 => ?_⟩
    -- due = []
    refine ⟨Nat.zero_le _, fun D0 nD0 => ?_⟩
    -- for month in range(1, 15)
    refine ⟨1, 15, rfl, ⟨by decide, by decide, by decide, by decide⟩, ?_⟩
    refine for_range (lo := 1) (n := 14) (fun i σ H3 => ∃ D y3, σ = [some (.ref a), some (.int first), some (.ref D), y3, none, none, none, none, none, none] ∧ H3 D = some (.lst ((dueL i).map V.int)))
      ⟨D0, none, rfl, upd_same⟩ (fun i σ H3 hi hp => ?_) (fun σ H3 hp => ?_)
    · obtain ⟨D, y3, rfl, eD⟩ := hp
      refine ⟨.ref D, rfl, .int (1 + (i : Int)), rfl, by show 1 ≤ sizeLine; decide, fun l1 n1 => ?_⟩
      refine ⟨l1, 30, [.int (1 + (i : Int))], rfl, rfl, upd_same, by decide, by decide, by show 1 * 30 ≤ sizeLine; decide, fun l2 n2 => ?_⟩
      have s3 : Same H3 (upd (upd H3 l1 (.lst [.int (1 + (i : Int))])) l2 (.lst (List.replicate (30 : Int).toNat [V.int (1 + (i : Int))]).flatten)) := (same_upd n1).trans (same_upd n2)
      refine ⟨D, l2, _, _, rfl, rfl, s3 _ _ eD, upd_same, ?_, fun l3 n3 => ?_⟩
      · rw [List.length_map, dueL_len]
        exact Nat.le_of_lt (small5000 (by show i * 30 + 30 ≤ 5000; omega))
      · refine ⟨l3, some (.int (1 + (i : Int))), rfl, ?_⟩
        rw [upd_same, dueL_succ, List.map_append, List.map_replicate, Int.add_comm (i : Int) 1]
        rfl
    · obtain ⟨D, y3, rfl, eD⟩ := hp
      have eD : H3 D = some (.lst (due14.map V.int)) := eD
      -- for step in range(420)
      refine ⟨420, rfl, by decide, by decide, ?_⟩
      refine for_range (lo := 0) (n := 420) (fun i σ H4 => ∃ y4 y5, σ = [some (.ref a), some (.int first), some (.ref D), y3, y4, y5, none, none, none, none] ∧ H4 D = some (.lst (due14.map V.int)))
        ⟨none, none, rfl, eD⟩ (fun i σ H4 hi hp => ?_) (fun σ H4 hp => ?_)
      · obtain ⟨y4, y5, rfl, eD4⟩ := hp
        have r0 : 0 ≤ (first + 53 * (0 + (i : Int))) % 420 := Int.emod_nonneg _ (by decide)
        have r1 : (first + 53 * (0 + (i : Int))) % 420 < 420 := Int.emod_lt_of_pos _ (by decide)
        refine ⟨.int first, rfl, .int (0 + (i : Int)), rfl, 53, _, rfl, rfl, .inl ⟨by decide, by decide⟩, first, _, rfl, rfl, _, 420, rfl, rfl, p420, 1, _, rfl, rfl, ?_⟩
        obtain ⟨j, ej⟩ : ∃ j : Nat, (first + 53 * (0 + (i : Int))) % 420 = (j : Int) := ⟨((first + 53 * (0 + (i : Int))) % 420).toNat, by omega⟩
        have hj : j < 420 := by omega
        have ge : (due14.map V.int)[j]? = some (.int ((j : Int) / 30 + 1)) := by
          rw [List.getElem?_map, due_at ⟨j, hj⟩]
          rfl
        refine ⟨_, rfl, _, rfl, .ref D, rfl, _, rfl, _, 1, rfl, rfl, D, _, _, .int ((j : Int) / 30 + 1), rfl, rfl, SqL.of eD4, at_of (j := j) ?_ ge, ?_⟩
        · show 1 + (first + 53 * (0 + (i : Int))) % 420 - 1 = (j : Int)
          omega
        · refine ⟨_, _, .int ((j : Int) / 30 + 1), rfl, ?_, .int _, rfl, by show 0 < 2; decide, by decide, fun H5 s5 => ?_⟩
          · have : (1 + (first + 53 * (0 + (i : Int))) % 420 - 1) / 30 + 1 = (j : Int) / 30 + 1 := by rw [ej]; congr 2; omega
            rw [show (V.int ((1 + (first + 53 * (0 + (i : Int))) % 420 - 1) / 30 + 1)) = V.int ((j : Int) / 30 + 1) from by rw [this]]
            exact .int _
          · exact ⟨true, rfl, iteF ⟨_, _, rfl, s5 _ _ eD4⟩⟩
      · obtain ⟨y4, y5, rfl, eD4⟩ := hp
        -- for month in range(1, 15)
        refine ⟨1, 15, rfl, ⟨by decide, by decide, by decide, by decide⟩, ?_⟩
        refine for_range (lo := 1) (n := 14) (fun i σ H5 => ∃ y3 y6 y7, σ = [some (.ref a), some (.int first), some (.ref D), y3, y4, y5, y6, y7, none, none] ∧ H5 D = some (.lst (due14.map V.int)))
          ⟨y3, none, none, rfl, eD4⟩ (fun i σ H5 hi hp => ?_) (fun σ H5 hp => ?_)
        · obtain ⟨z3, y6, y7, rfl, eD5⟩ := hp
          have hm := days_ends ⟨i, hi⟩
          -- days = [at + 1 for at, one in enumerate(due) if one == month]
          refine ⟨.ref D, rfl, D, _, rfl, SqL.of eD5, fun L nL => ?_⟩
          refine lc_it (walk_enum (xs := due14.map V.int)) (fun j H6 => Same H5 H6 ∧ H6 L = some (.lst ((daysOf (1 + (i : Int)) j).map V.int))) ⟨same_upd nL, upd_same⟩ (fun j H6 _ p => SqL.of (p.1 _ _ eD5)) (fun j x H6 H7 hj pv y => ?_) (fun H6 pv => ?_)
          · obtain ⟨t1, x1, y1, rfl, nT, rfl, e1, e2⟩ := y
            have hj : j < 420 := by
              rw [List.length_map] at hj
              exact hj
            have ex : x1 = .int (j : Int) := (Option.some.inj e1).symm
            have ey : y1 = .int ((j : Int) / 30 + 1) := by
              have e3 : (due14.map V.int)[j]? = some y1 := e2
              rw [List.getElem?_map, due_at ⟨j, hj⟩] at e3
              exact (Option.some.inj e3).symm
            subst ex ey
            have eL : (upd H6 t1 (.tup [.int (j : Int), .int ((j : Int) / 30 + 1)])) L = some (.lst ((daysOf (1 + (i : Int)) j).map V.int)) := same_upd nT _ _ pv.2
            have sL : Same H5 (upd H6 t1 (.tup [.int (j : Int), .int ((j : Int) / 30 + 1)])) := pv.1.trans (same_upd nT)
            refine ⟨t1, _, rfl, SqT.of upd_same, rfl, .int (j : Int), _, rfl, .int ((j : Int) / 30 + 1), [], rfl, rfl, rfl, ?_⟩
            refine ⟨.int ((j : Int) / 30 + 1), rfl, .int (1 + (i : Int)), rfl, rfl, _, rfl, ite2 (fun e => ?_) (fun e => ?_)⟩
            · have e' : (j : Int) / 30 + 1 = 1 + (i : Int) := V.int.inj (of_decide_eq_true e)
              refine ⟨.int (j : Int), rfl, j, 1, rfl, rfl, _, eL, ?_, fun c o h => ?_, ?_⟩
              · rw [List.length_map]
                exact small5000 (Nat.le_trans (daysOf_len _ _) (by omega))
              · rw [upd_ne (ne_of_none h nL)]
                exact sL _ _ h
              · rw [upd_same, daysOf_succ, if_pos e', List.map_append]
                rfl
            · have e' : ¬ (j : Int) / 30 + 1 = 1 + (i : Int) := fun z => e (decide_eq_true (congrArg V.int z))
              refine ⟨sL, ?_⟩
              rw [eL, daysOf_succ, if_neg e', List.append_nil]
          · obtain ⟨s6, eL⟩ := pv
            have eL : H6 L = some (.lst ((daysOf (1 + (i : Int)) 420).map V.int)) := eL
            -- told = days_of(month)
            refine ⟨.int (1 + (i : Int)), rfl, 1 + (i : Int), rfl, by omega, by omega, fun t nt => ?_⟩
            have s7 : Same H6 (upd H6 t (.tup [.int ((1 + (i : Int) - 1) * 30 + 1), .int ((1 + (i : Int)) * 30)])) := same_upd nt
            have et : (upd H6 t (.tup [.int ((1 + (i : Int) - 1) * 30 + 1), .int ((1 + (i : Int)) * 30)])) t = some (.tup [.int ((1 + (i : Int) - 1) * 30 + 1), .int ((1 + (i : Int)) * 30)]) := upd_same
            generalize (upd H6 t (.tup [.int ((1 + (i : Int) - 1) * 30 + 1), .int ((1 + (i : Int)) * 30)])) = H7 at s7 et
            refine ⟨.ref t, rfl, .ref t, .ty "tuple", _, _, _, rfl, .ty _, .base (.tup et), kit_ty (r := true) (by decide +kernel), true, rfl, iteF ?_⟩
            have g0 : ((daysOf (1 + (i : Int)) 420).map V.int)[0]? = some (.int ((1 + (i : Int) - 1) * 30 + 1)) := by
              rw [List.getElem?_map, hm.1]
              rfl
            refine ⟨.ref t, rfl, .ref L, rfl, L, _, 0, _, rfl, rfl, SqL.of (s7 _ _ eL), atI_nat (j := 0) g0, .ref L, rfl, 1, rfl, L, _, -1, _, rfl, rfl, SqL.of (s7 _ _ eL), atI_end hm.2, by show 2 ≤ sizeLine; decide, fun u nu => ?_⟩
            have s8 := same_upd (o := .tup [.int ((1 + (i : Int) - 1) * 30 + 1), .int ((1 + (i : Int)) * 30)]) nu
            refine ⟨.ref t, .ref u, .tuple [.int ((1 + (i : Int) - 1) * 30 + 1), .int ((1 + (i : Int)) * 30)], rfl, .tup trivial (s8 _ _ et) (by show 2 ≤ 5000; decide) (.cons (.int _) (.cons (.int _) .nil)), .tup trivial upd_same (by show 2 ≤ 5000; decide) (.cons (.int _) (.cons (.int _) .nil)), rfl, by show 0 + 1 < 2; decide, by decide, fun H9 s9 => ?_⟩
            exact ⟨true, rfl, iteF ⟨_, _, _, rfl, s9 _ _ (s8 _ _ (s7 _ _ (s6 _ _ eD5)))⟩⟩
        · exact q _
end
end Th
namespace Th
open PySem PySem.Spec PyProof.Rows L2
def dd_month_of : He.DefD := ⟨("month_of", none), "month_of", "month_of", defArgs s_month_of, defBody s_month_of, defScope s_month_of, [], []⟩
def dd_days_of : He.DefD := ⟨("days_of", none), "days_of", "days_of", defArgs s_days_of, defBody s_days_of, defScope s_days_of, [], []⟩
def dd_l_bag : He.DefD := ⟨("_law_bag", none), "_law_bag", "_law_bag", defArgs s_l_bag, defBody s_l_bag, defScope s_l_bag, [], []⟩
def dd_l_take : He.DefD := ⟨("_law_take", none), "_law_take", "_law_take", defArgs s_l_take, defBody s_l_take, defScope s_l_take, [], []⟩
def dd_l_like : He.DefD := ⟨("_law_like", none), "_law_like", "_law_like", defArgs s_l_like, defBody s_l_like, defScope s_l_like, [], []⟩
def dd_law : He.DefD := ⟨("law", none), "law", "law", defArgs s_law, defBody s_law, defScope s_law, [], []⟩
def fn : List He.DefD := [dd_month_of, dd_days_of, dd_l_bag, dd_l_take, dd_l_like, dd_law]
def fa : List He.Fa := [.glo "month_of", .glo "days_of", .glo "_law_bag", .glo "_law_take", .glo "_law_like", .glo "law", .int "MONTH_DAYS" 30, .free "abs", .free "all", .free "bool", .free "enumerate", .free "isinstance", .free "len", .free "list", .free "range", .free "tuple", .free "zip"]
abbrev R : PySem.W.OpenRow := PySem.W.OpenLaw.row PySem.Challenge.rw_throughlines_k04_months
abbrev hk : PySem.W.Hook := He.hookD 4 fa fn
def ob (s : PySem.W.SharedT) : He.AlD := He.obsDG 4 fa fn (HandSHeadRun.getT s)
theorem ob_eq (s : PySem.W.SharedT) : ob s = hk.obs s.abs := He.obsDG_eq (HandSHeadRun.getT_eq s)
def loose : List PySem.Str := ["month_of", "days_of", "_law_bag", "_law_take", "_law_like", "MONTH_DAYS"]
set_option maxHeartbeats 0 in
theorem run (w : World) : HandSHeadRun.RunEq R (PySem.W.view R.prog [8]) hk ob 2000 loose w := by
  intro os
  kernel_rfl
theorem facts {P : Program} {w : World} {K : PySem.W.Frag} {h : Heap} {mg : Str → Option Value} {f : Addr} (X : K.In h) (G : h.Ns mainGlobals mg) (hfa : mg ("law" : Str) = some (.ref f)) (c : He.SaysD fa fn K) :
    ∃ fd : FuncData, (∀ (s : Shared) (v : Value), BindsTo s fd ⟨[v], []⟩ [("_law_script", v)]) ∧ ∀ base : Heap, K.In base → base.Ns mainGlobals mg → FnOk P w K mg base CX0 3 f fd ["_law_script"] (sp_law K) := by
  obtain ⟨d_month_of, F_month_of⟩ := c.def_ 0 (d := dd_month_of) rfl
  have b_month_of : Binds K d_month_of ["day"] [] := FunD.bindsN F_month_of fun _ _ _ _ _ _ us hl => match us, hl with | [_], _ => rfl
  obtain ⟨d_days_of, F_days_of⟩ := c.def_ 1 (d := dd_days_of) rfl
  have b_days_of : Binds K d_days_of ["month"] [] := FunD.bindsN F_days_of fun _ _ _ _ _ _ us hl => match us, hl with | [_], _ => rfl
  obtain ⟨d_l_bag, F_l_bag⟩ := c.def_ 2 (d := dd_l_bag) rfl
  have b_l_bag : Binds K d_l_bag ["_law_script", "_law_at"] [] := FunD.bindsN F_l_bag fun _ _ _ _ _ _ us hl => match us, hl with | [_, _], _ => rfl
  obtain ⟨d_l_take, F_l_take⟩ := c.def_ 3 (d := dd_l_take) rfl
  have b_l_take : Binds K d_l_take ["_law_bag_here", "_law_many"] [] := FunD.bindsN F_l_take fun _ _ _ _ _ _ us hl => match us, hl with | [_, _], _ => rfl
  obtain ⟨d_l_like, F_l_like⟩ := c.def_ 4 (d := dd_l_like) rfl
  have b_l_like : Binds K d_l_like ["_law_told", "_law_due"] [] := FunD.bindsN F_l_like fun _ _ _ _ _ _ us hl => match us, hl with | [_, _], _ => rfl
  obtain ⟨d_law, F_law⟩ := c.def_ 5 (d := dd_law) rfl
  obtain ⟨t_MONTH_DAYS, c_MONTH_DAYS⟩ := He.int_ok X G (c.fact 6 (f := .int "MONTH_DAYS" 30) rfl)
  have T : Defs K mg := {
    a_month_of := _,
    d_month_of := d_month_of,
    F_month_of := F_month_of,
    g_month_of := He.glo_ok X G (c.fact 0 (f := .glo "month_of") rfl),
    b_month_of := b_month_of,
    a_days_of := _,
    d_days_of := d_days_of,
    F_days_of := F_days_of,
    g_days_of := He.glo_ok X G (c.fact 1 (f := .glo "days_of") rfl),
    b_days_of := b_days_of,
    a_l_bag := _,
    d_l_bag := d_l_bag,
    F_l_bag := F_l_bag,
    g_l_bag := He.glo_ok X G (c.fact 2 (f := .glo "_law_bag") rfl),
    b_l_bag := b_l_bag,
    a_l_take := _,
    d_l_take := d_l_take,
    F_l_take := F_l_take,
    g_l_take := He.glo_ok X G (c.fact 3 (f := .glo "_law_take") rfl),
    b_l_take := b_l_take,
    a_l_like := _,
    d_l_like := d_l_like,
    F_l_like := F_l_like,
    g_l_like := He.glo_ok X G (c.fact 4 (f := .glo "_law_like") rfl),
    b_l_like := b_l_like,
    t_MONTH_DAYS := t_MONTH_DAYS,
    c_MONTH_DAYS := c_MONTH_DAYS,
    z_abs := He.free_ok X G (c.fact 7 (f := .free "abs") rfl),
    z_all := He.free_ok X G (c.fact 8 (f := .free "all") rfl),
    z_bool := He.free_ok X G (c.fact 9 (f := .free "bool") rfl),
    z_enumerate := He.free_ok X G (c.fact 10 (f := .free "enumerate") rfl),
    z_isinstance := He.free_ok X G (c.fact 11 (f := .free "isinstance") rfl),
    z_len := He.free_ok X G (c.fact 12 (f := .free "len") rfl),
    z_list := He.free_ok X G (c.fact 13 (f := .free "list") rfl),
    z_range := He.free_ok X G (c.fact 14 (f := .free "range") rfl),
    z_tuple := He.free_ok X G (c.fact 15 (f := .free "tuple") rfl),
    z_zip := He.free_ok X G (c.fact 16 (f := .free "zip") rfl) }
  have e := hfa.symm.trans (He.glo_ok X G (c.fact 5 (f := .glo "law") rfl))
  cases e
  have b := FunD.bindsA (ps := ["_law_script"]) F_law fun _ _ _ _ _ _ us hl => match us, hl with | [_], _ => rfl
  exact ⟨d_law, fun s v => b s [v] rfl, fun base _ _ => ok_law F_law T⟩
end Th
open PySem PySem.W PySem.Calls PyProof.Rows
set_option maxHeartbeats 0 in
theorem PySem.Challenge.cw_throughlines_k04_months_holds : PySem.Challenge.rw_throughlines_k04_months.Holds := by
  w_on; o_law
  refine HandSHeadRun.head_any (r := OpenLaw.row PySem.Challenge.rw_throughlines_k04_months) (q := view (OpenLaw.row PySem.Challenge.rw_throughlines_k04_months).prog [8]) (H := Th.hk) (ob := Th.ob) (M := 2000) (loose := Th.loose) (d := HandSHeadRun.topDef (OpenLaw.row PySem.Challenge.rw_throughlines_k04_months).prog 8) (kwd := []) Th.ob_eq
    (by kernel_rfl) (fun s => by kernel_rfl) Th.run (by kernel_rfl) (by kernel_rfl) (by kernel_rfl) (by rfl) (by first | assumption | decide +kernel) (by decide +kernel) ⟨rfl, rfl, rfl, rfl, rfl, by decide +kernel⟩ ?hw ?hc
  case hw => w_witness2
  case hc =>
    refine L2.walk_ofE (l := PySem.Challenge.rw_throughlines_k04_months) (n := 63) (k := 3) (x := "_law_script") (CX := L2.CX0) rfl (by decide) (by kernel_rfl) ⟨rfl, by decide, by decide⟩ ?F (fun _ _ _ _ z => z)
    intro w mg fa h Y G hmg0
    obtain ⟨K, KX, c⟩ := Y
    have hmg : mg ("law" : PySem.Str) = some (.ref fa) := by
      have e : (HandSHeadRun.topDef (OpenLaw.row PySem.Challenge.rw_throughlines_k04_months).prog 8).name = ("law" : PySem.Str) := by kernel_rfl
      rw [← e]
      exact hmg0
    obtain ⟨fd, hb, hF⟩ := Th.facts (P := (PySem.Challenge.rw_throughlines_k04_months).prog) (w := w) KX G hmg c
    exact ⟨K, fd, Th.sp_law K, KX, hb, fun H a ns hl _ hS => ⟨a, ns, rfl, hS, hl, fun _ => rfl⟩, hF⟩
