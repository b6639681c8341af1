import PyProof.Rows.All
import Wide.All
import OpenK.AllK
import Wide.FinOn
import KE.KStateDown
import Lean
import HandS.ForMost
import HandS.More
import HandS.WordsExc
import HandS.Defaults
import HandS.IsInst
import HandS.Zip
import HandS.Walk
import HandS.Wide
import HandS.Flow
import HandS.Evl
import HandS.Strs
import HandS.SetFor
import HandS.DictComp
import HandS.Set
import HandS.SetBool
import KE.DatumOrd
import HandS.TupAny
import HandS.Codes
import KE.KDictPairs
import KE.SortData
import KE.KDictZip
import KE.KItemsList
import HandS.Lambda
import KE.GoesZip
import KE.GoesMore
import KE.GoesEnum
import KE.GoesEnumKw
import HandS.Dict
import KE.KDictLaws
import KE.DataCmp
import PyProof.StrOps2
import HandS.Text
import HandS.Style
import HandS.ReCall
import KE.KRevSl
import KE.SortKeyHeap
import KE.KLam
import HandS.Conv
import HandS.EndTab
import HandS.HeadWalk
import HandS.HeadHook4
import KE.KIndexOf
import HandS.Deep
import PyProof.Rows.IntBool
import HandS.HeadHook3
import HandS.WrittenGet
import KE.KExcSuper
import HandS.ExcInit
import HandS.ExcField
import HandS.ExcSuper
import HandS.FStr
import HandS.HeadHook1
import KE.KExcIs
import HandS.ExcIs
import HandS.TryMany
import HandS.ExcOwn
import KE.DataFind
import HandS.HotCalls
import KE.KTryMore
import PyProof.Rows.InDataRows
import HandS.TupSets
import HandS.List
import PyProof.Rows.SortStr
import HandS.TupMul
import HandS.DictTup
import HandS.CallLocal
import HandS.StrSplit
import HandS.RaiseMore
import KE.KIntText
import HandS.Head0
import HandS.Head1
import HandS.Head2
import HandS.HeadEnd
import HandS.HeadHook2
import PySem.Challenge.RW_throughlines_k80_nets_written
set_option Elab.async false
set_option linter.all false
set_option maxRecDepth 100000
set_option maxHeartbeats 4000000
namespace Th
open PySem PySem.Spec PyProof.Rows L2
theorem same_upd {H : Hp} {p : Addr} {o : HO} (h : H p = none) : Same H (upd H p o) := fun b x e => by
  rw [upd_ne (ne_of_none e h)]
  exact e
/-- all but p stays -/
def Keep (p : Addr) (H H' : Hp) : Prop := ∀ b o, b ≠ p → H b = some o → H' b = some o
theorem Keep.refl (p : Addr) (H : Hp) : Keep p H H := fun _ _ _ h => h
theorem Keep.trans {p : Addr} {H H1 H2 : Hp} (a : Keep p H H1) (b : Keep p H1 H2) : Keep p H H2 := fun c o n h => b c o n (a c o n h)
theorem Keep.of {p : Addr} {H H1 : Hp} (a : Same H H1) : Keep p H H1 := fun c o _ h => a c o h
theorem Keep.upd {p : Addr} {H : Hp} {o : HO} : Keep p H (upd H p o) := fun c o n h => by rw [upd_ne n]; exact h
/-- the bag of draws at p -/
def Bag (H : Hp) (p : Addr) : Prop := ∃ g r : Int, H p = some (.lst [.int g, .int r]) ∧ 0 ≤ g ∧ 0 ≤ r ∧ r < 2147483648
theorem Bag.keep {H H' : Hp} {p : Addr} (b : Bag H p) (s : Same H H') : Bag H' p := by
  obtain ⟨g, r, e, h⟩ := b
  exact ⟨g, r, s _ _ e, h⟩
theorem Bag.some {H : Hp} {p : Addr} (b : Bag H p) : ∃ o, H p = Option.some o := by
  obtain ⟨g, r, e, _⟩ := b
  exact ⟨_, e⟩
theorem Bag.ne {H : Hp} {p q : Addr} (b : Bag H p) (h : H q = none) : q ≠ p := by
  obtain ⟨g, r, e, _⟩ := b
  exact (ne_of_none e h).symm
theorem p8 : (0 : Int) < 8 := by decide
theorem pA : (0 : Int) < 2147483647 := by decide
theorem pB : (0 : Int) < 2147483629 := by decide
theorem primes_at (i : Nat) : ∃ pr : Int, atI [V.int 2147483629, .int 2147483587, .int 2147483579, .int 2147483563, .int 2147483549, .int 2147483543, .int 2147483497, .int 2147483489] ((i : Int) % 8) = some (.int pr) ∧ 0 < pr ∧ pr < 2147483648 := by
  have e : ((i : Int) % 8) = ((i % 8 : Nat) : Int) := by omega
  rw [e]
  have h : i % 8 < 8 := Nat.mod_lt _ (by decide)
  generalize i % 8 = j at h
  have c : j = 0 ∨ j = 1 ∨ j = 2 ∨ j = 3 ∨ j = 4 ∨ j = 5 ∨ j = 6 ∨ j = 7 := by omega
  rcases c with rfl | rfl | rfl | rfl | rfl | rfl | rfl | rfl
  all_goals exact ⟨_, atI_nat rfl, by decide, by decide⟩
def sp_bag (K : PySem.W.Frag) : Sp := fun vs H Q _ => ∃ (a : Addr) (ns : List Int) (i : Nat), vs = [.ref a, .int i] ∧ SqL K H a (ns.map V.int) ∧ i < 1000000 ∧ ∀ H' p, Same H H' → H p = none → Bag H' p → Q (.ref p) H'
def sp_take : Sp := fun vs H Q _ => ∃ (p : Addr) (m : Int), vs = [.ref p, .int m] ∧ Bag H p ∧ 0 < m ∧ m < 1073741824 ∧ ∀ H' d, Keep p H H' → Bag H' p → 0 ≤ d → d < m → Q (.int d) H'
mutual
inductive Dt (S : Addr → Prop) (H : Hp) : V → PyData → Prop
  | non : Dt S H .non .none
  | bl (b : Bool) : Dt S H (.bl b) (.bool b)
  | int (i : Int) : Dt S H (.int i) (.int i)
  | str (x : Str) : Dt S H (.str x) (.str x)
  | lst {a : Addr} {xs : List V} {ds : List PyData} : S a → H a = some (.lst xs) → xs.length ≤ 5000 → DtAll S H xs ds → Dt S H (.ref a) (.list ds)
  | tup {a : Addr} {xs : List V} {ds : List PyData} : S a → H a = some (.tup xs) → xs.length ≤ 5000 → DtAll S H xs ds → Dt S H (.ref a) (.tuple ds)
inductive DtAll (S : Addr → Prop) (H : Hp) : List V → List PyData → Prop
  | nil : DtAll S H [] []
  | cons {v : V} {vs : List V} {d : PyData} {ds : List PyData} : Dt S H v d → DtAll S H vs ds → DtAll S H (v :: vs) (d :: ds)
end
mutual
theorem Dt.mono {S S' : Addr → Prop} {H H' : Hp} (hS : ∀ a, S a → S' a) (hh : ∀ a o, S a → H a = some o → H' a = some o) : ∀ {v : V} {d : PyData}, Dt S H v d → Dt S' H' v d
  | _, _, .non => .non
  | _, _, .bl b => .bl b
  | _, _, .int b => .int b
  | _, _, .str b => .str b
  | _, _, .lst s e l r => .lst (hS _ s) (hh _ _ s e) l (DtAll.mono hS hh r)
  | _, _, .tup s e l r => .tup (hS _ s) (hh _ _ s e) l (DtAll.mono hS hh r)
theorem DtAll.mono {S S' : Addr → Prop} {H H' : Hp} (hS : ∀ a, S a → S' a) (hh : ∀ a o, S a → H a = some o → H' a = some o) : ∀ {v : List V} {d : List PyData}, DtAll S H v d → DtAll S' H' v d
  | _, _, .nil => .nil
  | _, _, .cons a r => .cons (Dt.mono hS hh a) (DtAll.mono hS hh r)
end
mutual
theorem Dt.dp {K : PySem.W.Frag} {S : Addr → Prop} {H : Hp} : ∀ {v : V} {d : PyData}, Dt S H v d → Dp K H v d
  | _, _, .non => .non
  | _, _, .bl b => .bl b
  | _, _, .int b => .int b
  | _, _, .str b => .str b
  | _, _, .lst s e l r => .lst (SqL.of e) (DtAll.dp r)
  | _, _, .tup s e l r => .tup (SqT.of e) (DtAll.dp r)
theorem DtAll.dp {K : PySem.W.Frag} {S : Addr → Prop} {H : Hp} : ∀ {v : List V} {d : List PyData}, DtAll S H v d → DpAll K H v d
  | _, _, .nil => .nil
  | _, _, .cons a r => .cons (Dt.dp a) (DtAll.dp r)
end
abbrev SA : Addr → Prop := fun _ => True
theorem Dt.same {H H' : Hp} {v : V} {d : PyData} (s : Same H H') (h : Dt SA H v d) : Dt SA H' v d := h.mono (fun _ x => x) fun a o _ e => s a o e
theorem DtAll.same {H H' : Hp} {v : List V} {d : List PyData} (s : Same H H') (h : DtAll SA H v d) : DtAll SA H' v d := h.mono (fun _ x => x) fun a o _ e => s a o e
theorem DtAll.len {S : Addr → Prop} {H : Hp} : ∀ {v : List V} {d : List PyData}, DtAll S H v d → v.length = d.length
  | _, _, .nil => rfl
  | _, _, .cons _ r => congrArg Nat.succ r.len
theorem DtAll.get {S : Addr → Prop} {H : Hp} : ∀ {v : List V} {d : List PyData} {i : Nat} {x : V}, DtAll S H v d → v[i]? = some x → ∃ e, d[i]? = some e ∧ Dt S H x e
  | _, _, _, _, .nil, h => by simp at h
  | _, _, 0, _, .cons a r, h => by
    have e := Option.some.inj h
    subst e
    exact ⟨_, rfl, a⟩
  | _, _, i + 1, _, .cons a r, h => r.get (i := i) h
def tyN : PyData → String
  | .none => "NoneType"
  | .bool _ => "bool"
  | .int _ => "int"
  | .str _ => "str"
  | .list _ => "list"
  | .tuple _ => "tuple"
  | .dict _ => "dict"
theorem Dt.ty {K : PySem.W.Frag} {S : Addr → Prop} {H : Hp} {v : V} {d : PyData} (h : Dt S H v d) : TyX K H v (.type (tyN d)) := by
  cases h with
  | non => exact .base .non
  | bl b => exact .base (.bl b)
  | int b => exact .base (.int b)
  | str b => exact .base (.str b)
  | lst s e l r => exact .base (.lst e)
  | tup s e l r => exact .base (.tup e)
def isB : PyData → Bool
  | .bool _ => true
  | _ => false
theorem yes_ {σ : L2.St} {H : Hp} {A B : Hp → Prop} (h : A H) : tYes σ H fun b H3 => if b = true then A H3 else B H3 := by
  show if true = true then A H else B H
  exact iteT h
theorem small5000 {n : Nat} (h : n ≤ 5000) : n < sizeLine := Nat.lt_of_le_of_lt h (by decide)
/-- the d-th of some whole numbers -/
theorem pick {ms : List Int} {d : Int} (h0 : 0 ≤ d) (h1 : d < ms.length) : ∃ m ∈ ms, atI (ms.map V.int) d = some (.int m) := by
  obtain ⟨j, rfl⟩ : ∃ j : Nat, d = (j : Int) := ⟨d.toNat, by omega⟩
  have hj : j < ms.length := by omega
  refine ⟨ms[j], List.getElem_mem hj, atI_nat ?_⟩
  rw [List.getElem?_map, List.getElem?_eq_getElem hj]
  rfl
theorem Bag.at {H H' : Hp} {p : Addr} (b : Bag H p) (e : H' p = H p) : Bag H' p := by
  obtain ⟨g, r, h, k⟩ := b
  exact ⟨g, r, e.trans h, k⟩
theorem Keep.new {p q : Addr} {H H' : Hp} {o : HO} (k : Keep p H H') (n : H' q = none) : Keep p H (L2.upd H' q o) := k.trans (.of (same_upd n))
theorem Keep.free {p q : Addr} {H H' : Hp} (k : Keep p H H') (b : Bag H p) (h : H' q = none) (b' : Bag H' p) : H q = none := by
  cases e : H q with
  | none => rfl
  | some o =>
    by_cases z : q = p
    · rw [z] at h
      obtain ⟨g, r, e', _⟩ := b'
      rw [e'] at h
      cases h
    · rw [k q o z e] at h
      cases h
def rLenS (K : PySem.W.Frag) : List V → Hp → VK → Prop := fun xs H Q => ∃ (p : Addr) (ys : List V), xs = [.ref p] ∧ (SqL K H p ys ∨ SqT K H p ys) ∧ Q (.int ys.length) H
theorem call_lenS {X : Cx} : CallR X (.builtin "len") (rLenS X.K) := call_len_seq
end Th
namespace Sl
open PySem PySem.Spec PyProof.Rows L2
/-- the object of a set just made -/
abbrev set0 (w : World) : Obj := { cls := .type "set", dict := none, data := .set #[] 0 (.fresh 0 0 (!w.params.followText "set-order")) }
section
variable {P : Program} {w : World} {A : Around} {E : Value → Shared → Prop} {s : Shared}
set_option maxHeartbeats 8000000 in
/-- set(xs) of a list of whole numbers -/
theorem set_of_ints {l : Addr} {its : Array Value} (ns : List Int) {Q : Value → Shared → Prop} (nh : A.handled = none) (il : s.heap.IsList l its) (ii : IntsAre its.toList ns) (nb : ns.length + 1 < scanBound)
    (fin : ∀ (g : Heap) (tk c : Nat), SetR w g s.heap.objs.size (fun j => decide (j ∈ ns)) c → c ≤ ns.length → (∀ b o, s.heap.get? b = some o → g.get? b = some o) → Q (.ref s.heap.objs.size) { s with heap := g, toks := tk }) :
    wpAny (model P w) A (call (.type "set") [.ref l]) Q E s := by
  have isz : its.size = ns.length := by
    have z := IntsAre.length ii
    rwa [Array.length_toList] at z
  obtain ⟨_, _, mro⟩ := F.called_set.mro
  have m1 := F.called_set.made
  have m2 := F.called_set.sub
  have m3 := F.called_set.notType
  have m4 := F.called_set.canCreate
  have m5 := F.typeCall_set_1 (.ref l)
  refine wpAny_call (codeAny_of_tree (?_ : wpAny _ _ (callAny (.type "set") _) _ _ _))
  refine wpAny_pure ⟨Code.quiet_builtin _ (by decide +kernel), codeAny_builtin F.entry_type_call ?_⟩
  rw [Around.under_plain (weight_type_call_type "set" [.ref l] []) rfl]
  repeat (any_goals (first | assumption | wp_step))
  refine codeAny_mono (code_set_led1 (.ref l) (E := E) (Q₁ := fun ob z => ob = .ref s.heap.objs.size ∧ z = { s with heap := s.heap.push (set0 w) }) ⟨rfl, rfl⟩) fun r z hz => ?_
  cases r with
  | error e => exact hz
  | ok fl =>
    cases fl with
    | ret ob =>
      obtain ⟨rfl, rfl⟩ := hz
      have zS : (s.heap.push (set0 w)).get? s.heap.objs.size = some (set0 w) := Heap.get?_push_size _ rfl
      have zT : Shared.TypeIs { s with heap := s.heap.push (set0 w) } (.ref s.heap.objs.size) "set" := ⟨_, zS, rfl⟩
      have n1 := F.called_set.init.lookup
      have n2 := F.called_set.init.bind (.ref s.heap.objs.size)
      repeat (any_goals (first | assumption | wp_step))
      refine codeAny_mono (codeAny_call_builtin (R := wants (fun r z => r = .none ∧ ∃ g tk c, z = { s with heap := g, toks := tk } ∧ SetR w g s.heap.objs.size (fun j => decide (j ∈ ns)) c ∧ c ≤ ns.length ∧ ∀ b o, s.heap.get? b = some o → g.get? b = some o) E)
        F.called_set.init.plain F.entry_set_init (check_set_init_1 zT ?_)) fun r2 z2 hz2 => ?_
      · obtain ⟨⟨oc, od, odt, osl⟩, ol, c1, nl, c2⟩ := il
        simp only at c1 c2
        subst c1 c2
        have ol2 : (s.heap.push (set0 w)).get? l = some { cls := .type "list", dict := od, data := .seq its nl, slots := osl } := Heap.get?_push_of_some _ ol
        have k1 := F.sub_list_set
        have k2 := F.sub_list_frozenset
        have k3 : (Value.type "list" == Value.type "dict") = false := by decide
        have il2 : (s.heap.push (set0 w)).IsList l its := ⟨_, ol2, rfl, nl, rfl⟩
        unfold Builtin.«set.__init__» noKeywords Builtin.Frozenset.updateFrom
        generalize ePI : pyIter = PI
        wp_walk
        subst ePI
        refine wpAny_pyIter_list il2 (wpAny_bind (wpAny_runValue ?_))
        have lS : l < s.heap.objs.size := Heap.lt_size ol
        have h3 : A.in1.in1.in1.handled = none := by simp [nh]
        have nI : l ≠ (s.heap.push (set0 w)).objs.size := by
          rw [Heap.size_push]
          exact Nat.ne_of_lt (Nat.lt_succ_of_lt lS)
        have nf : s.heap.objs.size ∉ [(s.heap.push (set0 w)).objs.size, l] := by
          rw [Heap.size_push]
          simp only [List.mem_cons, List.not_mem_nil, or_false, not_or]
          exact ⟨Nat.ne_of_lt (Nat.lt_succ_self _), Nat.ne_of_gt lS⟩
        have vl : ∀ (i : Nat) (v : Value), its[i]? = some v → ∃ k t, ns[i]? = some k ∧ v = .int k t := fun i v hv => by
          have hi : i < ns.length := by rw [← isz]; exact (Array.getElem?_eq_some_iff.mp hv).1
          obtain ⟨t, e⟩ := IntsAre.int_at ii i v (by rw [Array.getElem?_toList]; exact hv)
          refine ⟨ns[i], t, List.getElem?_eq_getElem hi, ?_⟩
          rw [e, List.getD_eq_getElem?_getD, List.getElem?_eq_getElem hi] <;> rfl
        refine set_update_ints ((Walks.list h3 _ l nI its).toS) s.heap.objs.size nf ns isz nb vl (its.size - 0) 0 _ (by omega) (Nat.zero_le _) ⟨⟨_, Heap.get?_push_size _ rfl, rfl, rfl⟩, il2.push _⟩ ?zStart ?zEnd
        case zStart => exact ⟨0, Nat.le_refl 0, setR_new_at (Heap.get?_push_of_some _ zS)⟩
        case zEnd =>
          intro z c hm hc hS
          obtain ⟨g, gg, dd, tk, os⟩ := z
          have e1 : gg = s.gens := hm.gens
          have e2 : dd = s.drawn := hm.drawn
          have e3 : os = s.os := hm.os
          subst e1 e2 e3
          refine wpAny_pure (?_ : wpAny _ _ (ret Value.none) _ _ _)
          rw [isz] at hc
          refine wpAny_pure ⟨rfl, g, tk, c, rfl, hS, hc, fun b o e => ?_⟩
          have b0 : b < s.heap.objs.size := Heap.lt_size e
          refine hm.heap b o ?_ (Heap.get?_push_of_some _ (Heap.get?_push_of_some _ e))
          rw [Heap.size_push]
          simp only [List.mem_cons, List.not_mem_nil, or_false, not_or]
          exact ⟨Nat.ne_of_lt b0, Nat.ne_of_lt (Nat.lt_succ_of_lt b0)⟩
      · cases r2 with
        | error e => exact hz2
        | ok f2 =>
          cases f2 with
          | ret r =>
            obtain ⟨rfl, g, tk, c, rfl, q1, q2, q3⟩ := hz2
            repeat (any_goals (first | assumption | wp_step))
            exact fin _ _ _ q1 q2 q3
          | _ => exact hz2.elim
    | _ => exact hz.elim
end
def rSetI (K : PySem.W.Frag) (w : World) : List V → Hp → VK → Prop := fun xs H Q => ∃ (l : Addr) (ns : List Int), xs = [.ref l] ∧ SqL K H l (ns.map V.int) ∧ ns.length ≤ 1000 ∧ ∀ p c, H p = none → c ≤ ns.length → Q (.ref p) (upd H p (SetO w p (fun j => decide (j ∈ ns)) c))
theorem call_setI {X : Cx} (hc : X.calm = true) : CallR X (.type "set") (rSetI X.K X.w) := by
  intro pins s σ H xs us Q I r h
  obtain ⟨l, ns, rfl, hs, hl, q⟩ := h
  rw [Vals.ref1 r]
  obtain ⟨its, rv, pl, hz⟩ := I.list hs
  refine set_of_ints ns (I.ok.hd hc) pl.isList (ints_of_vals rv) (by unfold scanBound; omega) fun g tk c R hcn k => ?_
  exact ⟨.ref _, _, I.laid (t' := tk) k (Nat.le_refl _) (setO_new R), rfl, q _ c (I.hok.fresh (Nat.le_refl _)) hcn⟩
end Sl
namespace Ds
open PySem PySem.Spec PyProof.Rows L2
section
variable {X : Cx}
theorem ps_setDc {i : Nat} {y : Str} {py : Pos} {kx vx tg iter : Expr} {ifs : List Expr} {scope : Scope} {own : List (Str × Nat)} {pos spos : Pos} {wi : TI} {g : TG} {tt : TT} {tk tv : TE} (hc : X.calm = true) (hN : X.N.Nodup) (hy : X.N[i]? = some y) (hyl : X.env.scope.names.lookup y = some .local)
    (hsw : swapsWith (.DictComp kx vx [⟨tg, iter, ifs, 0⟩] scope pos) (some (.Name y py)) spos.line X.env = pure true) (hi : PI X tg iter wi) (ok : BlkOk X.N X.env.scope scope own)
    (hg : ∀ (s : Shared) (H : Hp) (C : Addr) (cl : List (Str × Addr)) (fp : List Addr), PG (X.blk s H scope (compEnvC scope cl C X.env) fp) tg g) (ht : ∀ (s : Shared) (H : Hp) (C : Addr) (cl : List (Str × Addr)) (fp : List Addr), PTs (X.blk s H scope (compEnvC scope cl C X.env) fp) ifs tt)
    (hk : ∀ (s : Shared) (H : Hp) (C : Addr) (cl : List (Str × Addr)) (fp : List Addr), PE (X.blk s H scope (compEnvC scope cl C X.env) fp) kx tk)
    (he : ∀ (s : Shared) (H : Hp) (C : Addr) (cl : List (Str × Addr)) (fp : List Addr), PE (X.blk s H scope (compEnvC scope cl C X.env) fp) vx tv) (hs : ∀ x, foldedSetIterable iter X.env x = pure x := by intro _; rfl) :
    PS X (.Assign [.Name y py] (.DictComp kx vx [⟨tg, iter, ifs, 0⟩] scope pos) spos) (tAsg (tDc wi g tt tk tv (own.map (·.2))) (gName i)) := by
  refine ⟨fun pins s σ H D I h => ?_⟩
  rw [exec_Assign_Name_used _ _ _ _ hsw]
  refine wpAny_bind (wpAny_standAt (wpAny_bind ?_))
  show wpAny _ X.A (do let _ ← comprehension (.DictComp kx vx [⟨tg, iter, ifs, 0⟩] scope pos) scope X.env (firstIterPos [⟨tg, iter, ifs, 0⟩] pos) newDict false (eval iter X.env) (some (assign (.Name y py) X.env))) _ _ s
  have h : tDc wi g tt tk tv (own.map (·.2)) σ H (fun x H1 => gName i x σ H1 D.nx) := h
  refine wpAny_bind (thn (dc_core (Qf := fun _ s' => SP X pins D .next s') hc hN I hi ok hg ht hk he hs h fun L C s' m H' I' q hn f => ?_) fun _ s' hq => wpAny_pure (wpAny_pure hq))
  show wpAny _ _ (assign (.Name y py) X.env (.ref L)) _ _ _
  refine wpAny_assign_Name (store_ok2 (v := V.ref L) I' hN hy (.inl hyl) rfl (fun s2 I2 ⟨a, sb, ha⟩ => ?_) (.inr hyl))
  obtain ⟨f0, f1, f2, f3, f4, f5⟩ := f
  have haC : C ≠ a := by
    rcases ha with z | z
    · rw [z]; exact f1
    · exact fun e => f4 y a z e.symm
  refine ⟨m, hn.sameBut sb haC, fun h3 sb3 => ?_⟩
  exact ⟨_, H', I2.turned (t' := s2.toks) (fun b o hb e => (sb3.2 b hb).trans e) f0 f1 f3 f4 f5, q⟩
theorem sw_trueD {kx vx : Expr} {gs : List Comprehension} {scope : Scope} {pos py : Pos} {y : Str} {l : Nat} {env : Env} (hk : env.scope.kind = .function) (hy : env.scope.names.lookup y = some .local) (hl : (py.line == pos.line) = true)
    (ha : (scope.names.any fun (n, k) => n == y && (k == .local || k == .cell)) = false) : swapsWith (.DictComp kx vx gs scope pos) (some (.Name y py)) l env = pure true := by
  have ky : env.kindOf y = some .local := hy
  have hb : env.blockKind = .function := by unfold Env.blockKind; rw [hk]; rfl
  unfold swapsWith
  simp only [hb, ky, ha, Expr.pos, hl]
  rfl
end
end Ds
namespace Ss
open PySem PySem.Spec PyProof.Rows L2
def kOf (e : Int × Value) : Str := match e.2 with
  | .str k _ => k
  | _ => ⟨#[]⟩
def Gd (w : World) (e : Int × Value) : Prop := ∃ k tk, e.2 = Value.str k tk ∧ e.1 = hashStr w k
abbrev Led (w : World) (t : SetTable) : Prop := w.params.followText "set-order" = true ∨ t.led = true
/-- the set of texts at a, its members the list L -/
def SetS (w : World) (h : Heap) (a : Addr) (L : List Str) : Prop := ∃ o es ep t, h.get? a = some o ∧ o.ExactSet ∧ o.data = .set es ep t ∧ (∀ e ∈ es.toList, Gd w e) ∧ (es.toList.map kOf).Perm L ∧ L.Nodup ∧ es.size < scanBound ∧ t.fits es.size = true ∧ Ris t.place.toList ∧ Led w t
section
variable {P : Program} {w : World} {A : Around} {E : Value → Shared → Prop} {s : Shared} {a : Addr} {L : List Str} {h h' : Heap}
theorem isS (k : Str) (u : Tok) : (PySem.strKind P w).is k (.str k u) = true := by show Value.isStrOf k (.str k u) = true; simp [Value.isStrOf]
theorem SetS.at (R : SetS w h a L) (k : ∀ o, h.get? a = some o → h'.get? a = some o) : SetS w h' a L := let ⟨o, es, ep, t, ho, r⟩ := R; ⟨o, es, ep, t, k o ho, r⟩
theorem gd_elems {l : List (Int × Value)} (g : ∀ e ∈ l, Gd w e) : ElemsOf (PySem.strKind P w) l := fun e he => let ⟨k, tk, h1, h2⟩ := g e he; ⟨⟨k, h1 ▸ isS k tk, h2⟩, by rw [h1]; rfl⟩
theorem gd_is {e : Int × Value} (g : Gd w e) (k : Str) : (PySem.strKind P w).is k e.2 = true ↔ kOf e = k := by
  obtain ⟨k0, tk, h1, -⟩ := g
  have ek : kOf e = k0 := by unfold kOf; rw [h1]
  rw [ek, h1]
  constructor
  · intro z
    obtain ⟨t, et⟩ := Value.isStrOf_shape (x := k) (v := .str k0 tk) z
    injection et
  · intro z
    rw [z]
    exact isS k tk
theorem gd_mem {l : List (Int × Value)} (g : ∀ e ∈ l, Gd w e) (k : Str) : k ∈ l.map kOf ↔ ∃ e ∈ l, (PySem.strKind P w).is k e.2 = true :=
  ⟨fun z => let ⟨e, he, q⟩ := List.mem_map.mp z; ⟨e, he, (gd_is (g e he) k).2 q⟩, fun ⟨e, he, q⟩ => List.mem_map.mpr ⟨e, he, (gd_is (g e he) k).1 q⟩⟩
theorem SetS.len (R : SetS w h a L) : ∀ {o es ep t}, h.get? a = some o → o.data = .set es ep t → es.size = L.length := by
  obtain ⟨o', es', ep', t', ho', _, hd', _, pm, _⟩ := R
  intro o es ep t ho hd
  rw [ho'] at ho
  cases ho
  rw [hd'] at hd
  cases hd
  have z := pm.length_eq
  rw [List.length_map, Array.length_toList] at z
  exact z
theorem SetS.setOf (R : SetS w h a L) : h.SetOf (PySem.strKind P w) a (fun k => decide (k ∈ L)) L.length := by
  have hlen := @SetS.len _ _ _ _ R
  obtain ⟨o, es, ep, t, ho, hx, hd, g, pm, nd, hb, hf, -⟩ := R
  exact ⟨o, es, ep, t, ho, hx, hd, gd_elems g, fun k => by rw [decide_eq_true_eq, ← pm.mem_iff]; exact gd_mem g k, hb, hf, hlen ho hd⟩
end
section
variable {prog : Program} {w : World} {A : Around} {R : Result → Shared → Prop} {s : Shared} {elt t0 i0 t1 i1 : Expr} {f0 f1 : List Expr} {sc : Scope} {pos : Pos} {it acc : Value} {env : Env}
end
section
variable {X : Cx}
theorem strs_of : ∀ (l : List Value), (∀ v ∈ l, ∃ k tk, v = Value.str k tk) → StrsAre l (l.map fun v => kOf (0, v))
  | [], _ => .nil
  | v :: l, h => by
    obtain ⟨k, tk, rfl⟩ := h v List.mem_cons_self
    exact .cons k tk (strs_of l fun u hu => h u (List.mem_cons_of_mem _ hu))
end
end Ss
namespace Md
open PySem PySem.Spec PyProof.Rows L2
open PySem.W (DatumOrd Datum minOf AlikeAll readsAll_len readsAll_atA cmpIn_lt iter_listW moved_old argBest_fold dataLt)
section
variable {α : Type} [DecidableEq α] [DatumOrd α]
end
end Md
namespace Rm
abbrev Nd := List Nat
section
variable (R : Nd → Nd → Prop) (F : Nd → Prop)
/-- a walk of n steps to a goal -/
def Wk : Nat → Nd → Prop
  | 0, x => F x
  | n + 1, x => ∃ y, R x y ∧ Wk n y
/-- it is n steps away -/
def Ds (n : Nat) (x : Nd) : Prop := Wk R F n x ∧ ∀ m, m < n → ¬ Wk R F m x
variable {R F}
theorem Ds.eq {n m : Nat} {x : Nd} (h : Ds R F n x) (k : Ds R F m x) : n = m := by
  rcases Nat.lt_trichotomy n m with c | c | c
  · exact absurd h.1 (k.2 n c)
  · exact c
  · exact absurd k.1 (h.2 m c)
theorem Ds.next {n : Nat} {x y : Nd} (h : Ds R F (n + 1) x) (r : R x y) (w : Wk R F n y) : Ds R F n y := ⟨w, fun m hm hw => h.2 (m + 1) (by omega) ⟨y, r, hw⟩⟩
/-- the least of those with a property -/
def Lst (P : Nd → Prop) (y : Nd) : Prop := P y ∧ ∀ z, P z → ¬ z < y
theorem Lst.eq {P : Nd → Prop} {y z : Nd} (a : Lst P y) (b : Lst P z) : y = z := List.le_antisymm (List.not_lt.mp (a.2 z b.1)) (List.not_lt.mp (b.2 y a.1))
variable (R F)
/-- the least of the shortest roads -/
def Gr : Nat → Nd → List Nd → Prop
  | 0, x, r => F x ∧ r = [x]
  | n + 1, x, r => ∃ y t, Lst (fun y => R x y ∧ Ds R F n y) y ∧ Gr n y t ∧ r = x :: t
variable {R F}
theorem Gr.eq : ∀ {n : Nat} {x : Nd} {r t : List Nd}, Gr R F n x r → Gr R F n x t → r = t
  | 0, _, _, _, h, k => h.2.trans k.2.symm
  | n + 1, x, _, _, ⟨y, r, h1, h2, h3⟩, ⟨z, t, k1, k2, k3⟩ => by
    have := h1.eq k1
    subst this
    rw [h3, k3, h2.eq k2]
theorem Gr.len : ∀ {n : Nat} {x : Nd} {r : List Nd}, Gr R F n x r → r.length = n + 1
  | 0, _, _, h => by rw [h.2]; rfl
  | n + 1, _, _, ⟨y, t, _, h2, h3⟩ => by rw [h3, List.length_cons, h2.len]
theorem Gr.head : ∀ {n : Nat} {x : Nd} {r : List Nd}, Gr R F n x r → r.head? = some x
  | 0, _, _, h => by rw [h.2]; rfl
  | n + 1, _, _, ⟨y, t, _, h2, h3⟩ => by rw [h3]; rfl
/-- a walk, its places told: p begins with x and its neighbours are related -/
def Pth (R : Nd → Nd → Prop) : Nd → List Nd → Prop
  | x, [] => False
  | x, [y] => x = y
  | x, y :: z :: t => x = y ∧ R x z ∧ Pth R z (z :: t)
end
/-- roads of unlike places, t steps long -/
def SP (R : Nd → Nd → Prop) (x : Nd) (t : Nat) (p : List Nd) : Prop := Pth R x p ∧ p.length = t + 1 ∧ p.Nodup
theorem SP.ne {R : Nd → Nd → Prop} {x : Nd} {t : Nat} {p : List Nd} (h : SP R x t p) : p ≠ [] := fun e => by
  have := h.2.1
  rw [e] at this
  cases this
end Rm
namespace Th
open PySem PySem.Spec PyProof.Rows L2
end Th
namespace Th
open PySem PySem.Spec PyProof.Rows L2
abbrev nS (l : List Nat) : V := .str (SX.S l)
def Lower (l : List Nat) : Prop := ∀ c ∈ l, 97 ≤ c ∧ c ≤ 122
/-- a name: one to eight letters -/
def IsNm (l : List Nat) : Prop := 1 ≤ l.length ∧ l.length ≤ 8 ∧ Lower l
abbrev abc : Str := Str.ofString "abcdefghijklmnopqrstuvwxyz"
theorem abc_list : abc.cps.toList = (List.range 26).map (97 + ·) := by decide +kernel
theorem abc_at {d : Int} (h0 : 0 ≤ d) (h1 : d < 26) : atI abc.cps.toList d = some (97 + d.toNat) := by
  obtain ⟨j, rfl⟩ : ∃ j : Nat, d = (j : Int) := ⟨d.toNat, by omega⟩
  refine atI_nat ?_
  rw [abc_list, List.getElem?_map, List.getElem?_range (by omega)]
  rfl
theorem joinL_one : ∀ cs : List Nat, TL.joinL [] (cs.map fun c => [c]) = cs
  | [] => rfl
  | [_] => rfl
  | c :: d :: cs => by
    show [c] ++ ([] ++ TL.joinL [] ((d :: cs).map fun c => [c])) = _
    rw [joinL_one (d :: cs)]
    rfl
theorem join_signs (cs : List Nat) : Txt.join (SX.S []) ((cs.map fun c => [c]).map SX.S) = SX.S cs := by rw [SX.join_S, joinL_one]
theorem p26 : (0 : Int) < 26 := by decide
theorem paired_snoc {α β : Type} {R : α → β → Prop} : ∀ {as : List α} {bs : List β} {a : α} {b : β}, Paired R as bs → R a b → Paired R (as ++ [a]) (bs ++ [b])
  | _, _, _, _, .nil, r => .cons r .nil
  | _, _, _, _, .cons q t, r => .cons q (paired_snoc t r)
theorem paired_imp {α β : Type} {R S : α → β → Prop} : ∀ {as : List α} {bs : List β}, Paired R as bs → (∀ a ∈ as, ∀ b, R a b → S a b) → Paired S as bs
  | _, _, .nil, _ => .nil
  | _, _, .cons q t, f => .cons (f _ (List.mem_cons_self ..) _ q) (paired_imp t fun a ha b r => f a (List.mem_cons_of_mem _ ha) b r)
theorem paired_get {α β : Type} {R : α → β → Prop} : ∀ {as : List α} {bs : List β} {i : Nat} {a : α}, Paired R as bs → as[i]? = some a → ∃ b, bs[i]? = some b ∧ R a b
  | _, _, _, _, .nil, h => by simp at h
  | _, _, 0, _, .cons q t, h => by
    have e := Option.some.inj h
    subst e
    exact ⟨_, rfl, q⟩
  | _, _, i + 1, _, .cons q t, h => paired_get (i := i) t h
theorem paired_len {α β : Type} {R : α → β → Prop} : ∀ {as : List α} {bs : List β}, Paired R as bs → as.length = bs.length
  | _, _, .nil => rfl
  | _, _, .cons _ t => congrArg Nat.succ (paired_len t)
theorem one_sz {x : V} : [x].length ≤ sizeLine := by show 1 ≤ sizeLine; decide
theorem paired_append {α β : Type} {R : α → β → Prop} : ∀ {as cs : List α} {bs ds : List β}, Paired R as bs → Paired R cs ds → Paired R (as ++ cs) (bs ++ ds)
  | _, _, _, _, .nil, h => h
  | _, _, _, _, .cons q t, h => .cons q (paired_append t h)
theorem paired_take {α β : Type} {R : α → β → Prop} : ∀ {as : List α} {bs : List β} (n : Nat), Paired R as bs → Paired R (as.take n) (bs.take n)
  | _, _, 0, _ => by rw [List.take_zero, List.take_zero]; exact .nil
  | _, _, n + 1, .nil => .nil
  | _, _, n + 1, .cons q t => .cons q (paired_take n t)
theorem cut_to (xs : List V) (j : Nat) : cutV xs none (some (j : Int)) = xs.take j := by
  unfold cutV
  rw [HT.sIx_none, HT.sIx_nat, List.drop_zero, Nat.sub_zero]
  by_cases h : j ≤ xs.length
  · rw [Nat.min_eq_left h]
  · rw [Nat.min_eq_right (by omega), List.take_of_length_le (Nat.le_refl _), List.take_of_length_le (by omega)]
abbrev Nm := List Nat
def TK (H H' : Hp) : Prop := ∀ a xs, H a = some (.tup xs) → H' a = some (.tup xs)
theorem TK.of {H H' : Hp} (s : Same H H') : TK H H' := fun a xs e => s a _ e
theorem TK.trans {H H' H2 : Hp} (a : TK H H') (b : TK H' H2) : TK H H2 := fun c xs e => b c xs (a c xs e)
theorem TK.keep {p : Addr} {H H' : Hp} (k : Keep p H H') (b : Bag H p) : TK H H' := fun a xs e => k a _ (fun z => by
  obtain ⟨g, r, e', _⟩ := b
  rw [z, e'] at e
  cases e) e
theorem TK.upd {c : Addr} {H : Hp} {o : HO} (h : ∀ xs, H c ≠ some (.tup xs)) : TK H (upd H c o) := fun a xs e => by
  rw [upd_ne (fun z => h xs (by rw [← z]; exact e))]
  exact e
theorem Keep.set {p S : Addr} {H H' : Hp} {o : HO} (k : Keep p H H') (n : H S = none) : Keep p H (L2.upd H' S o) := fun c o nc ec => by
  rw [upd_ne (ne_of_none ec n)]
  exact k c o nc ec
theorem same_set {S : Addr} {H H' : Hp} {o : HO} (k : Same H H') (n : H S = none) : Same H (upd H' S o) := fun c o ec => by
  rw [upd_ne (ne_of_none ec n)]
  exact k c o ec
theorem two_sz {x y : V} : [x, y].length ≤ sizeLine := by show 2 ≤ sizeLine; decide
theorem four_sz {x y z u : V} : [x, y, z, u].length ≤ sizeLine := by show 4 ≤ sizeLine; decide
theorem nm_ok {z : Nm} (h : IsNm z) : PyData.strOk (SX.S z) = true := by
  unfold PyData.strOk
  rw [Array.all_eq_true']
  intro c hc
  have hc : c ∈ z := by simpa [SX.S] using hc
  have := h.2.2 c hc
  exact decide_eq_true (by omega)
end Th
namespace Th
open PySem PySem.Spec PyProof.Rows L2
/-- the tuple xs at a, its object known to be plain -/
def TpF (H : Hp) (a : Addr) (xs : List V) : Prop := ∃ o : Obj, H a = some (.frz o (.tup xs)) ∧ o.dict = none
theorem TpF.sq {K : PySem.W.Frag} {H : Hp} {a : Addr} {xs : List V} (h : TpF H a xs) : SqT K H a xs := let ⟨o, e, _⟩ := h; .inl (.inr ⟨o, e⟩)
theorem TpF.same {H H' : Hp} {a : Addr} {xs : List V} (h : TpF H a xs) (s : Same H H') : TpF H' a xs := let ⟨o, e, d⟩ := h; ⟨o, s _ _ e, d⟩
theorem TpF.keep {p : Addr} {H H' : Hp} {a : Addr} {xs : List V} (h : TpF H a xs) (k : Keep p H H') (b : Bag H p) : TpF H' a xs := by
  obtain ⟨o, e, d⟩ := h
  refine ⟨o, k _ _ (fun z => ?_) e, d⟩
  obtain ⟨g, r, e', _⟩ := b
  rw [z, e'] at e
  cases e
def rTupF (K : PySem.W.Frag) : List V → Hp → VK → Prop := fun xs H Q => ∃ (p : Addr) (ys : List V), xs = [.ref p] ∧ SqL K H p ys ∧ ∀ (l : Addr) (H' : Hp), H l = none → Same H H' → TpF H' l ys → (∀ q, q ≠ l → H' q = H q) → Q (.ref l) H'
theorem call_tuple_ofF {X : Cx} : CallR X (.type "tuple") (rTupF X.K) := by
  intro pins s σ H xs us Q I r h
  obtain ⟨p, ys, rfl, hq, q⟩ := h
  obtain ⟨u, rfl, rx⟩ := vals1 r
  cases rx
  obtain ⟨its, r', pl, hz⟩ := I.list hq
  have hlen := r'.length
  refine call_tuple_list pl.isList (fun h' kp => ?_) (by simp only [List.size_toArray] <;> omega)
  have I1 : Inv X pins σ H { s with heap := h' } := I.kept (t' := s.toks) kp
  have I2 : Inv X pins σ (upd H h'.objs.size (.frz { cls := .type "tuple", data := .seq its.toArray } (.tup ys))) { s with heap := h'.push { cls := .type "tuple", data := .seq its.toArray } } :=
    I1.laid (t' := s.toks) (fun b o e => Heap.get?_push_of_some _ e) (Nat.le_refl _) (show ObjOk X.prog X.w _ _ _ (.frz _ (.tup ys)) from ⟨Heap.get?_push_size _ rfl, hz, its, r', IsTup.new _ _⟩)
  have nl := I1.hok.fresh (Nat.le_refl h'.objs.size)
  exact ⟨.ref h'.objs.size, _, I2, rfl, q _ _ nl (same_upd nl) ⟨_, upd_same, rfl⟩ fun q hq => upd_ne hq⟩
end Th
namespace Lz
open PySem PySem.Spec PyProof.Rows L2
structure ZS (z TI TO i1 i2 l1 l2 S : Addr) (xs ys : Array Value) (i : Nat) (h : Heap) : Prop where
  ti : IsPair h TI (.ref i1) (.ref i2)
  a1 : h.IsListIter i1 l1 i
  a2 : h.IsListIter i2 l2 i
  b1 : h.IsList l1 xs
  b2 : h.IsList l2 ys
  zz : (IsZip h z TI TO .none ∧ ∃ a b, IsPair h TO a b) ∨ ∃ T f oT, IsZipHeld h z TI TO T f ∧ h.get? T = some oT ∧ T ≠ z ∧ T ≠ i1 ∧ T ≠ i2 ∧ T ≠ S
structure Off (z TI TO i1 i2 l1 l2 S : Addr) : Prop where
  z : z ≠ S
  ti : TI ≠ S
  to' : TO ≠ S
  i1 : i1 ≠ S
  i2 : i2 ≠ S
  l1 : l1 ≠ S
  l2 : l2 ≠ S
theorem ZS.frame {z TI TO i1 i2 l1 l2 S : Addr} {xs ys : Array Value} {i : Nat} {h h' : Heap} (O : Off z TI TO i1 i2 l1 l2 S) (st : ZS z TI TO i1 i2 l1 l2 S xs ys i h) (hk : ∀ b o, b ≠ S → h.get? b = some o → h'.get? b = some o) : ZS z TI TO i1 i2 l1 l2 S xs ys i h' := by
  refine ⟨hk _ _ O.ti st.ti, st.a1.at fun o e => hk _ o O.i1 e, st.a2.at fun o e => hk _ o O.i2 e, st.b1.at fun o e => hk _ o O.l1 e, st.b2.at fun o e => hk _ o O.l2 e, ?_⟩
  rcases st.zz with ⟨hz, a, b, hTO⟩ | ⟨T, f, oT, hz, hT, r1, r2, r3, r4⟩
  · exact .inl ⟨hk _ _ O.z hz, a, b, hk _ _ O.to' hTO⟩
  · exact .inr ⟨T, f, oT, hk _ _ O.z hz, hk _ _ r4 hT, r1, r2, r3, r4⟩
structure ZG (xs ys : Array Value) (lo : Addr) (h : Heap) (as : List Addr) : Prop where
  rise : as.Pairwise (· < ·)
  above : ∀ a ∈ as, lo < a
  pairs : ∀ (j : Nat) (a : Addr), as[j]? = some a → ∃ x y, xs[j]? = some x ∧ ys[j]? = some y ∧ h.get? a = some { cls := .type "tuple", data := .seq #[x, y] }
theorem ZG.there {xs ys : Array Value} {lo : Addr} {h : Heap} {as : List Addr} (g : ZG xs ys lo h as) {a : Addr} (ha : a ∈ as) : a < h.objs.size := by
  obtain ⟨j, hj⟩ := List.mem_iff_getElem?.mp ha
  obtain ⟨_, _, _, _, e⟩ := g.pairs j a hj
  exact Heap.lt_size e
section
variable {prog : Program} {w : World} {A : Around} {E : Value → Shared → Prop} {s : Shared} {z TI TO i1 i2 l1 l2 S : Addr} {xs ys : Array Value} {i : Nat}
end
section
variable {X : Cx}
end
end Lz
namespace Es
open PySem PySem.Spec PyProof.Rows L2
section
variable {M : Model} {A : Around} {E : Value → Shared → Prop} {s : Shared} {env : Env}
theorem callWith_type_kwB {pos : Pos} {T : String} {first : List Value} {args : List (Bool × Sem Value)} {keywords : List (Option Str × Sem Value)} {Q : Value → Shared → Prop}
    (hplain : args.any (·.1) = false) (hkw : keywords.any (·.1.isNone) = false)
    (h : wpAny M A (evalArgs (.type T) true args keywords) (fun a s₁ => wpAny M A (call (.type T) (first ++ a.pos) a.kw) Q E s₁) E s) :
    wpAny M A (callWith pos (.type T) first args keywords) Q E s := by
  unfold callWith
  refine wpAny_bind (wpAny_holding (wpAny_mono h (fun a s₁ h₁ => wpAny_bind (wpAny_standAt ?_)) fun _ _ x => x))
  simp only [hplain, hkw, Bool.or_false]
  refine wpAny_bind (wpAny_pure ?_)
  exact wpAny_bind (wpAny_mono h₁ (fun r s₂ hr => wpAny_bind (wpAny_holding (wpAny_point (wpAny_pure hr)))) fun _ _ x => x)
theorem callWith_kwT {pos : Pos} {T : String} {e : Expr} {rest : List Expr} {kws : List Keyword} {Q : Value → Shared → Prop}
    (h : wpAny M A (spliced (backTo pos (starEach (e :: rest) env))) (fun vs s₁ => wpAny M A (evalAll ((backToKw pos (keywordEach kws env)).map (·.2)))
      (fun kvs s₂ => wpAny M A (call (.type T) vs (((backToKw pos (keywordEach kws env)).filterMap (·.1)).zip kvs)) Q E s₂) E s₁) E s)
    (he : backTo pos (starEach (e :: rest) env) = (false, eval e env) :: backTo pos (starEach rest env) := by rfl)
    (hplain : (backTo pos (starEach (e :: rest) env)).any (·.1) = false := by rfl)
    (hall : (backToKw pos (keywordEach kws env)).all (·.1.isSome) = true := by rfl)
    (hkw : (backToKw pos (keywordEach kws env)).any (·.1.isNone) = false := by rfl) :
    wpAny M A (callWith pos (.type T) [] (backTo pos (starEach (e :: rest) env)) (backToKw pos (keywordEach kws env))) Q E s := by
  refine callWith_type_kwB hplain hkw ?_
  rw [he] at h ⊢
  exact evalArgs_kwB hall h
end
end Es
namespace Mx
open PySem PySem.Spec PyProof.Rows L2
end Mx
namespace Du
open PySem PySem.Spec PyProof.Rows L2
section
variable {X : Cx}
end
end Du
namespace Stm
open PySem PySem.Spec PyProof.Rows L2
def rMulS01 : R2 := fun x y H Q => ∃ (z : Str) (n : Int), x = .str z ∧ y = .int n ∧ ((n = 0 ∧ Q (.str (SX.S [])) H) ∨ (n = 1 ∧ Q (.str z) H))
theorem op_mulS01 {X : Cx} : OpR X (binaryOp .Mult) rMulS01 := by
  intro pins s σ H x y v u Q I rx ry h
  obtain ⟨z, n, rfl, rfl, h⟩ := h
  obtain ⟨t, rfl⟩ := rx
  obtain ⟨t2, rfl⟩ := ry
  rcases h with ⟨rfl, q⟩ | ⟨rfl, q⟩
  · exact P.mul_str_none (by decide) (by decide) ⟨.str (SX.S []), H, I.kept (t' := s.toks + 1) (fun b o e => e), ⟨_, rfl⟩, q⟩
  · refine P.mul_str (by decide) (fun _ h => absurd h (by simp)) (fun _ h => absurd h (by simp)) ?_
    exact ⟨.str z, H, I, ⟨_, rfl⟩, q⟩
theorem cut_S (l : List Nat) (lo hi : Option Int) : cutS (SX.S l) lo hi = SX.S ((l.drop (HT.sIx l.length 0 lo)).take (HT.sIx l.length l.length hi - HT.sIx l.length 0 lo)) := by
  unfold cutS
  rw [SX.S_len]
theorem cut_to (l : List Nat) (n : Nat) : cutS (SX.S l) none (some (n : Int)) = SX.S (l.take n) := by
  rw [cut_S, HT.sIx_none, HT.sIx_nat]
  show SX.S ((l.drop 0).take (min n l.length - 0)) = _
  rw [List.drop_zero, Nat.sub_zero]
  by_cases h : n ≤ l.length
  · rw [Nat.min_eq_left h]
  · rw [Nat.min_eq_right (by omega), List.take_length, List.take_of_length_le (by omega)]
theorem cut_of (l : List Nat) (n : Nat) : cutS (SX.S l) (some (n : Int)) none = SX.S (l.drop n) := by
  rw [cut_S, HT.sIx_none, HT.sIx_nat]
  by_cases h : n ≤ l.length
  · rw [Nat.min_eq_left h, List.take_of_length_le (by rw [List.length_drop]; exact Nat.le_refl _)]
  · rw [Nat.min_eq_right (by omega), List.drop_length, List.drop_of_length_le (by omega), List.take_nil]
end Stm
namespace Dz
open PySem PySem.Spec PyProof.Rows L2
section
variable {X : Cx}
end
end Dz
namespace Rt
open PySem PySem.Spec PyProof.Rows L2 HT
section
variable {prog : Program} {w : World} {A : Around} {E : Value → Shared → Prop} {s : Shared}
end
section
variable {X : Cx}
end
end Rt
namespace Tw
open PySem PySem.Spec PyProof.Rows L2 HT Th
section
variable {X : Cx}
end
section
variable {prog : Program} {w : World} {A : Around} {E : Value → Shared → Prop} {s : Shared}
theorem places (n : Nat) : Builtin.Slice.slicePlaces ((n : Int) - 1) (-1) (-1) = n := by
  unfold Builtin.Slice.slicePlaces
  rw [if_neg (by decide)]
  by_cases h : (n : Int) - 1 > -1
  · rw [if_pos h]
    have e : ((n : Int) - 1 - -1 - 1) / (- -1) + 1 = (n : Int) := by
      rw [show (- -1 : Int) = 1 by decide, Int.ediv_one]
      omega
    rw [e]
    rfl
  · rw [if_neg h]
    have : n = 0 := by omega
    subst this
    rfl
theorem fm_congr {α β : Type} {f g : α → Option β} : ∀ {l : List α}, (∀ x ∈ l, f x = g x) → l.filterMap f = l.filterMap g
  | [], _ => rfl
  | x :: l, h => by
    rw [List.filterMap_cons, List.filterMap_cons, h x List.mem_cons_self, fm_congr fun y hy => h y (List.mem_cons_of_mem _ hy)]
theorem back (xs : Array Value) : ((List.range xs.size).filterMap fun (k : Nat) => xs[(((xs.size : Int) - 1) + (k : Int) * (-1)).toNat]?) = xs.toList.reverse := by
  have e : ((List.range xs.size).filterMap fun (k : Nat) => xs[(((xs.size : Int) - 1) + (k : Int) * (-1)).toNat]?) = ((List.range xs.size).map fun k => xs.size - 1 - k).filterMap (xs[·]?) := by
    rw [List.filterMap_map]
    refine fm_congr fun k hk => ?_
    have := List.mem_range.mp hk
    show _ = xs[xs.size - 1 - k]?
    congr 1
    omega
  rw [e, PySem.W.krv_range, List.filterMap_reverse, PySem.W.krv_all]
end
section
variable {X : Cx}
end
end Tw
namespace Sr
open PySem PySem.Spec PyProof.Rows L2 HT Th
section
variable {X : Cx}
end
section
variable {prog : Program} {w : World} {A : Around} {E : Value → Shared → Prop} {s : Shared}
end
section
variable {X : Cx}
end
end Sr
namespace Lr
open PySem PySem.Spec PyProof.Rows L2 LamX
section
variable {prog : Program} {w : World} {A : Around} {E : Value → Shared → Prop} {s : Shared}
end
section
variable {X : Cx}
end
end Lr
namespace Lka
open PySem PySem.Spec PyProof.Rows L2 LamX
/-- a tuple of texts that the module holds -/
def tupO (o : Obj) (ys : List Str) : Prop := o.dict = none ∧ o.cls = .type "tuple" ∧ ∃ its n, o.data = .seq its n ∧ StrsAre its.toList ys
def strsB : List Value → List Str → Bool
  | [], [] => true
  | .str x _ :: vs, y :: ys => decide (x = y) && strsB vs ys
  | _, _ => false
theorem strs_of : ∀ {vs : List Value} {ys : List Str}, strsB vs ys = true → StrsAre vs ys
  | [], [], _ => .nil
  | .str x t :: vs, y :: ys, h => by
    have h := Bool.and_eq_true_iff.mp h
    have e : x = y := of_decide_eq_true h.1
    subst e
    exact .cons _ _ (strs_of h.2)
def tupB (K : PySem.W.Frag) (a : Addr) (ys : List Str) : Bool := match List.lookup a K with
  | some ⟨.type id, none, .seq its n, sl⟩ => decide (id = "tuple") && strsB its.toList ys
  | _ => false
theorem tup_ok {K : PySem.W.Frag} {a : Addr} {ys : List Str} (h : tupB K a ys = true) : ∃ o, List.lookup a K = some o ∧ tupO o ys := by
  unfold tupB at h
  split at h
  · next id its n sl e =>
    have h := Bool.and_eq_true_iff.mp h
    have e2 : id = "tuple" := of_decide_eq_true h.1
    subst e2
    exact ⟨_, e, rfl, rfl, its, n, rfl, strs_of h.2⟩
  · cases h
section
variable {prog : Program} {w : World} {A : Around} {E : Value → Shared → Prop} {s : Shared}
end
section
variable {X : Cx}
end
end Lka
namespace DicK
open PySem PySem.Spec PyProof.Rows L2
def refAt (K : PySem.W.Frag) (d : Addr) (z : Str) : Addr := match PySem.W.nsIn K d z with
  | some (some (.ref a)) => a
  | _ => 0
theorem vals_strs : ∀ {its : List Value} {ys : List Str}, StrsAre its ys → Vals (ys.map V.str) its
  | _, _, .nil => .nil
  | _, _, .cons x t h => .cons ⟨t, rfl⟩ (vals_strs h)
theorem sqT {K : PySem.W.Frag} {H : Hp} {a : Addr} {o : Obj} {ys : List Str} (h : List.lookup a K = some o) (u : Lka.tupO o ys) (n : ys.length ≤ 100) : SqT K H a (ys.map V.str) := by
  obtain ⟨_, hc, its, m, hd, hs⟩ := u
  have v := vals_strs hs
  refine .inr ⟨o, its, m, h, hc, hd, ?_, v⟩
  have := v.length
  rw [List.length_map] at this
  have e : its.size = its.toList.length := by simp
  rw [e, ← this]
  exact Nat.le_trans n (by decide)
end DicK
namespace Et
open Es (callWith_type_kwB callWith_kwT)
open PySem PySem.Spec PyProof.Rows L2
end Et
namespace InT
open PySem PySem.Spec PyProof.Rows L2
section
variable {X : Cx}
def rInT (K : PySem.W.Frag) : R2 := fun x y H Q => ∃ d ds, Dp K H x d ∧ Dp K H y (.tuple ds) ∧ SeqAt.shaped d = true ∧ SeqAt.shaped (.tuple ds) = true ∧ Q (.bl (ds.any fun z => PyData.eqv z d)) H
def rNotInT (K : PySem.W.Frag) : R2 := fun x y H Q => ∃ d ds, Dp K H x d ∧ Dp K H y (.tuple ds) ∧ SeqAt.shaped d = true ∧ SeqAt.shaped (.tuple ds) = true ∧ Q (.bl (!ds.any fun z => PyData.eqv z d)) H
theorem op_inT (hu : X.A.units + 65 < cLine) : OpR X (compareOp .In) (rInT X.K) := by
  intro pins s σ H x y v u Q I rx ry h
  obtain ⟨d, ds, hd, he, sd, se, q⟩ := h
  obtain ⟨as, r1⟩ := Dp.reads I d x v hd rx
  obtain ⟨bs, r2⟩ := Dp.reads I (.tuple ds) y u he ry
  exact SeqAt.in_tuple_reads r2 r1 (SeqAt.canLay_of_shaped se) (SeqAt.canLay_of_shaped sd) (room_in_shaped sd hu) ⟨.bl _, H, I, rfl, q⟩
theorem op_notInT (hu : X.A.units + 65 < cLine) : OpR X (compareOp .NotIn) (rNotInT X.K) := by
  intro pins s σ H x y v u Q I rx ry h
  obtain ⟨d, ds, hd, he, sd, se, q⟩ := h
  obtain ⟨as, r1⟩ := Dp.reads I d x v hd rx
  obtain ⟨bs, r2⟩ := Dp.reads I (.tuple ds) y u he ry
  exact SeqAt.notIn_tuple_reads r2 r1 (SeqAt.canLay_of_shaped se) (SeqAt.canLay_of_shaped sd) (room_in_shaped sd hu) ⟨.bl _, H, I, rfl, q⟩
end
end InT
namespace Mx2
open PySem PySem.Spec PyProof.Rows L2
section
variable {X : Cx}
end
end Mx2
namespace Sls
open PySem PySem.Spec PyProof.Rows L2
end Sls
namespace Zs
open PySem PySem.Spec PyProof.Rows L2
def sg (c : Nat) : V := .str ⟨#[c]⟩
end Zs
namespace Zt
open PySem PySem.Spec PyProof.Rows L2
def ItzTL (K : PySem.W.Frag) (a b : Addr) : It :=
  ⟨fun i H => ∃ (xs ys : List V) (x y : V), SqT K H a xs ∧ SqL K H b ys ∧ xs[i]? = some x ∧ ys[i]? = some y,
    fun i H v H' => ∃ T x y, v = .ref T ∧ H T = none ∧ H' = upd H T (.tup [x, y]) ∧ (∀ xs, SqT K H a xs → xs[i]? = some x) ∧ (∀ ys, SqL K H b ys → ys[i]? = some y),
    fun i H => ∃ xs ys : List V, SqT K H a xs ∧ SqL K H b ys ∧ i ≤ xs.length ∧ i ≤ ys.length ∧ (i = xs.length ∨ i = ys.length)⟩
theorem turn_zipTL {P : Program} {w : World} {K : PySem.W.Frag} {elts : List Expr} {kk : Nat} {tpos : Pos} {a b z TI TO i1 i2 : Addr} (D : ZipSep2 z TI TO i1 i2 [i1, a] [i2, b]) (n1 : a ≠ i1) (n2 : b ≠ i2) :
    Turn P w K (.Tuple elts kk tpos) (ItzTL K a b) [z, TI, TO, i1, i2] z (fun i h => IsZip h z TI TO .none ∧ IsTupOf2 h TI (.ref i1) (.ref i2) ∧ (∃ x y, IsTupOf2 h TO x y) ∧ h.IsTupleIter i1 a i ∧ h.IsListIter i2 b i) where
  mem := by simp
  obj := fun i h st d hd => by
    obtain ⟨hz, hTI, ⟨x, y, hTO⟩, ⟨o1, e1, _, d1⟩, ⟨o2, e2, _, d2⟩⟩ := st
    have e' : d = z ∨ d = TI ∨ d = TO ∨ d = i1 ∨ d = i2 := by simpa using hd
    rcases e' with q | q | q | q | q
    · rw [q]; exact ⟨_, hz, fun v q => nomatch q⟩
    · rw [q]; exact ⟨_, hTI, fun v q => nomatch q⟩
    · rw [q]; exact ⟨_, hTO, fun v q => nomatch q⟩
    · rw [q]; exact ⟨o1, e1, fun v q => by rw [d1] at q; cases q⟩
    · rw [q]; exact ⟨o2, e2, fun v q => by rw [d2] at q; cases q⟩
  keep := fun i h h' st k => by
    obtain ⟨hz, hTI, ⟨x, y, hTO⟩, h1, h2⟩ := st
    exact ⟨k z (by simp) _ hz, k TI (by simp) _ hTI, ⟨x, y, k TO (by simp) _ hTO⟩, h1.at fun o q => k i1 (by simp) o q, h2.at fun o q => k i2 (by simp) o q⟩
  item := by
    intro X hP hw hK hc i pins s σ H E I hf st hg
    subst hP hw hK
    obtain ⟨hz, hTI, ⟨x0, y0, hTO⟩, h1, h2⟩ := st
    obtain ⟨xs, ys, x, y, hqx, hqy, hx, hy⟩ := hg
    obtain ⟨its, rv, p, _⟩ := I.tuple hqx
    obtain ⟨its2, rv2, p2, _⟩ := I.list hqy
    obtain ⟨u1, hu1, ru1⟩ := rv.get hx
    obtain ⟨u2, hu2, ru2⟩ := rv2.get hy
    have hzl : z < s.heap.objs.size := Heap.lt_size hz
    have hA : X.A.in1.handled = none := I.ok.hd hc
    have lt1 : i < its.toArray.size := by have := (List.getElem?_eq_some_iff.mp hu1).1; simpa using this
    have lt2 : i < its2.toArray.size := by have := (List.getElem?_eq_some_iff.mp hu2).1; simpa using this
    refine wpAny_pyNext_zipD2_item D (Draws.tuple hA i1 a n1 its.toArray) (Draws.list hA i2 b n2 its2.toArray) hz hTI hTO ⟨h1, p⟩ ⟨h2, p2.isList⟩ lt1 lt2 fun v1 v2 h' tk y1 y2 z' TO' d1 d2 hT hsz hk => ?_
    have f1 : v1 = u1 := Option.some.inj (y1.symm.trans (by simpa using hu1))
    have f2 : v2 = u2 := Option.some.inj (y2.symm.trans (by simpa using hu2))
    subst f1 f2
    refine ⟨_, rfl, wpAny_letOwnedTupleGo_zip (s := { s with heap := h', toks := tk }) z' fun h'' z'' sb => ?_⟩
    have hT2 : h''.get? s.heap.objs.size = some { cls := .type "tuple", data := .seq #[v1, v2] } := (sb.2 _ (Nat.ne_of_gt hzl)).trans hT
    have new : ObjOk X.prog X.w (upd H s.heap.objs.size (.tup [x, y])) h'' s.heap.objs.size (.tup [x, y]) :=
      ⟨by show 2 ≤ sizeLine; decide, [v1, v2], .cons ru1 (.cons ru2 .nil), ⟨_, hT2, rfl, _, rfl⟩⟩
    have I1 : Inv X pins σ (upd H s.heap.objs.size (.tup [x, y])) { s with heap := h'', toks := tk } :=
      I.turnedNew (t' := tk) (ch := [z, TI, TO, i1, i2]) (fun d o hb q => (sb.2 d (fun q' => hb (by simp [q']))).trans (hk d o (fun q' => hb (by simp [q'])) (fun q' => hb (by simp [q'])) (fun q' => hb (by simp [q'])) (fun q' => hb (by simp [q'])) q)) hf (Nat.le_refl _) new
    refine ⟨.ref s.heap.objs.size, _, I1, rfl, ⟨_, x, y, rfl, I.hok.fresh (Nat.le_refl _), rfl, fun l hl => by rw [I.tuple_inj hl hqx]; exact hx, fun l hl => by rw [I.list_inj hl hqy]; exact hy⟩, ⟨z'', ?_, ⟨v1, v2, ?_⟩, ?_, ?_⟩, fun d hcm => ?_⟩
    · exact (sb.2 _ D.TIz).trans (hk _ _ D.TIz D.TITO D.TIi1 D.TIi2 hTI)
    · exact (sb.2 _ D.TOz).trans TO'
    · exact d1.1.at fun o q => (sb.2 _ (fun e => D.zf1 (by rw [← e]; simp))).trans q
    · exact d2.1.at fun o q => (sb.2 _ (fun e => D.zf2 (by rw [← e]; simp))).trans q
    · have hlt : d < s.heap.objs.size := by
        have e' : d = z ∨ d = TI ∨ d = TO ∨ d = i1 ∨ d = i2 := by simpa using hcm
        rcases e' with q | q | q | q | q
        · rw [q]; exact hzl
        · rw [q]; exact Heap.lt_size hTI
        · rw [q]; exact Heap.lt_size hTO
        · rw [q]; obtain ⟨_, e1, _⟩ := h1; exact Heap.lt_size e1
        · rw [q]; obtain ⟨_, e2, _⟩ := h2; exact Heap.lt_size e2
      rw [upd_ne (Nat.ne_of_lt hlt)]
      exact (hf d hcm).1
  done := by
    intro X hP hw hK hc i pins s σ H E I hf st hg
    subst hP hw hK
    obtain ⟨hz, hTI, ⟨x0, y0, hTO⟩, h1, h2⟩ := st
    obtain ⟨xs, ys, hqx, hqy, le1, le2, hend⟩ := hg
    obtain ⟨its, rv, p, _⟩ := I.tuple hqx
    obtain ⟨its2, rv2, p2, _⟩ := I.list hqy
    have l1 : its.toArray.size = xs.length := by rw [rv.length]; simp
    have l2 : its2.toArray.size = ys.length := by rw [rv2.length]; simp
    have hA : X.A.in1.handled = none := I.ok.hd hc
    exact wpAny_pyNext_zipD2_end D (Draws.tuple hA i1 a n1 its.toArray) (Draws.list hA i2 b n2 its2.toArray) hz hTI hTO ⟨h1, p⟩ ⟨h2, p2.isList⟩ (by rw [l1]; exact le1) (by rw [l2]; exact le2) (by rw [l1, l2]; exact hend) fun h' tk hk => ⟨rfl, I.turnedL (t' := tk) (ch := [z, TI, TO, i1, i2]) (fun d o hb q =>
      hk d o (fun q' => hb (by simp [q'])) (fun q' => hb (by simp [q'])) (fun q' => hb (by simp [q'])) (fun q' => hb (by simp [q'])) q) hf⟩
  self := fun A i s Q E st h => wpAny_pyIter_zip st.1 h
def iZipTL (K : PySem.W.Frag) (ta : TA) : TI := fun σ H R => ta σ H fun vs H1 => ∃ a b xs ys, vs = [.ref a, .ref b] ∧ SqT K H1 a xs ∧ SqL K H1 b ys ∧ R (ItzTL K a b) H1
theorem pi_zipTL {X : Cx} {e e2 : Expr} {ta : TA} {p pos tpos : Pos} {elts : List Expr} {kk : Nat} (hg : Gl X "zip") (hm : X.mg "zip" = none) (ha : PA X [e, e2] ta)
    (hs : starEach [e, e2] X.env = (false, eval e X.env) :: starEach [e2] X.env := by rfl) (hpl : (backTo pos (starEach [e2] X.env)).any (·.1) = false := by rfl) :
    PI X (.Tuple elts kk tpos) (.Call (.Name "zip" p) [e, e2] [] pos) (iZipTL X.K ta) := by
  refine ⟨fun pins s σ H R I h => ?_⟩
  refine Call_ (ld_blt I hg hm PyProof.Rows.boot_zip (PyProof.Rows.callWith_type1 (thn (ha.run pos pins s σ H _ I h) fun us s1 ⟨vs, H1, I1, r1, q1⟩ => ?_) hs hpl))
  obtain ⟨a, b, xs, ys, ex, hqx, hqy, q⟩ := q1
  subst ex
  cases r1 with
  | cons r rr =>
    cases rr with
    | cons r' rr =>
      cases rr
      cases r
      cases r'
      have fresh5 : ∀ c, c ∈ [s1.heap.objs.size + 4, s1.heap.objs.size + 2, s1.heap.objs.size + 3, s1.heap.objs.size, s1.heap.objs.size + 1] → FpOk X pins H1 c := fun c hcm => by
        have e' : c = s1.heap.objs.size + 4 ∨ c = s1.heap.objs.size + 2 ∨ c = s1.heap.objs.size + 3 ∨ c = s1.heap.objs.size ∨ c = s1.heap.objs.size + 1 := by simpa using hcm
        have hle : s1.heap.objs.size ≤ c := by
          rcases e' with z | z | z | z | z
          · rw [z]; exact Nat.le_add_right _ _
          · rw [z]; exact Nat.le_add_right _ _
          · rw [z]; exact Nat.le_add_right _ _
          · rw [z]; exact Nat.le_refl _
          · rw [z]; exact Nat.le_add_right _ _
        exact I1.fpOk hle (I1.hok.fresh hle)
      obtain ⟨its, rv, p1, _⟩ := I1.tuple hqx
      obtain ⟨its2, rv2, p2, _⟩ := I1.list hqy
      obtain ⟨o1, ho1, _⟩ := id p1
      refine zip_begins2 (begins_tuple a its.toArray) (begins_list b its2.toArray) p1 p2.isList fun h' hz hTI hTO h1 h2 hsz hk => wpAny_pyIter_zip hz ?_
      have I2 : Inv X pins σ H1 { s1 with heap := h' } := I1.kept (t' := s1.toks) hk
      have la : a < s1.heap.objs.size := Heap.lt_size ho1
      have lb := p2.lt
      refine ⟨s1.heap.objs.size + 4, [s1.heap.objs.size + 4, s1.heap.objs.size + 2, s1.heap.objs.size + 3, s1.heap.objs.size, s1.heap.objs.size + 1], _, _, H1, rfl, I2, turn_zipTL (zip_sep2 (N := s1.heap.objs.size) (fp1 := [a]) (fp2 := [b]) (fun d hd => by rw [List.mem_singleton.mp hd]; exact la) (fun d hd => by rw [List.mem_singleton.mp hd]; exact lb)) (Nat.ne_of_lt la) (Nat.ne_of_lt (Nat.lt_succ_of_lt lb)), ⟨hz, hTI, ⟨_, _, hTO⟩, ⟨_, h1, rfl, rfl⟩, ⟨_, h2, rfl, rfl⟩⟩, fresh5, q⟩
theorem walk_zipTL {K : PySem.W.Frag} {a b : Addr} {xs ys : List V} {n : Nat} (h1 : n ≤ xs.length) (h2 : n ≤ ys.length) (he : n = xs.length ∨ n = ys.length) :
    Walk (ItzTL K a b) n (fun H => SqT K H a xs ∧ SqL K H b ys) (YPair (fun i => xs[i]?) (fun i => ys[i]?)) where
  goes := fun i H hi g => ⟨xs, ys, _, _, g.1, g.2, List.getElem?_eq_getElem (Nat.lt_of_lt_of_le hi h1), List.getElem?_eq_getElem (Nat.lt_of_lt_of_le hi h2)⟩
  stops := fun H g => ⟨xs, ys, g.1, g.2, h1, h2, he⟩
  yields := fun i H x H' hi g y => by
    obtain ⟨T, u, v, e1, e2, e3, e4, e5⟩ := y
    exact ⟨T, u, v, e1, e2, e3, e4 _ g.1, e5 _ g.2⟩
end Zt
namespace Sls
open PySem PySem.Spec PyProof.Rows L2
section
variable {prog : Program} {w : World} {A : Around} {E : Value → Shared → Prop} {s : Shared}
end
section
variable {X : Cx}
end
end Sls
namespace Nv
open PySem PySem.Spec PyProof.Rows L2
end Nv
namespace WrK
open PySem PySem.Spec PyProof.Rows L2
theorem keys_at {K : PySem.W.Frag} {w : World} {a : Addr} {ks : List Str} (h : He.dicW K a = some (He.keysIn w.params ks)) {z : Str} (hz : z ∉ ks) : KMiss K w a z := by
  obtain ⟨es, n, kd⟩ := He.dicW_ok h
  have lk := kd.at_
  refine ⟨es, n, lk, kd.lit, kd.low, ?_⟩
  unfold PySem.W.nsIn
  rw [lk]
  dsimp only
  have hk : es.toList.map He.keyOf = He.keysIn w.params ks := by
    unfold He.dicW at h
    rw [lk] at h
    dsimp only at h
    split at h
    · exact Option.some.inj h
    · cases h
  have mem : ∀ e ∈ es.toList, ∃ x t, e.key = .str x t ∧ x ∈ ks := fun e he => by
    have m : He.keyOf e ∈ es.toList.map He.keyOf := List.mem_map_of_mem he
    rw [hk] at m
    obtain ⟨x, hx, ex⟩ := List.mem_map.mp m
    unfold He.keyOf at ex
    split at ex
    · next y t q =>
      have : x = y := (Prod.mk.inj (Option.some.inj ex)).1
      exact ⟨y, t, q, by rw [← this]; exact hx⟩
    · cases ex
  have f : es.toList.find? (·.key.isStr z) = none := List.find?_eq_none.mpr fun e he => by
    obtain ⟨x, t, q, hx⟩ := mem e he
    rw [q]
    intro hc
    have : x = z := by simpa [Value.isStr] using hc
    exact hz (by rw [← this]; exact hx)
  rw [f]
  have g : es.toList.any (·.refKey) = false := List.any_eq_false.mpr fun e he => by
    obtain ⟨x, t, q, hx⟩ := mem e he
    unfold DictEntry.refKey
    rw [q]
    simp
  rw [g]
  rfl
/-- z in d, z not in d -/
def rInK (K : PySem.W.Frag) (w : World) (n : Bool) : R2 := fun x y H Q => ∃ (p : Addr) (z : Str) (b : Bool), y = .ref p ∧ x = .str z ∧ (p == sysModules) = false ∧ (b = true → ∃ v, KDct K w p z v) ∧ (b = false → KMiss K w p z) ∧ Q (.bl (b != n)) H
section
variable {X : Cx}
theorem op_inK : OpR X (compareOp .In) (rInK X.K X.w false) := by
  intro pins s σ H x y v u Q I rx ry h
  obtain ⟨p, z, b, rfl, rfl, sm, h1, h2, q⟩ := h
  obtain rfl : u = Value.ref p := ry
  obtain ⟨t, rfl⟩ := (show ∃ t, v = Value.str z t from rx)
  cases b with
  | true =>
    obtain ⟨v0, es, n, u0, hl, hk, e, ru⟩ := h1 rfl
    have hm := PySem.W.mapOf_K (prog := X.prog) (w := X.w) I.kIn hl hk
    refine wpAny_in_of (strKind_is X.prog X.w z t) sm hm ?_
    rw [PySem.W.find_K hl e]
    exact ⟨.bl true, H, I.tok _, rfl, q⟩
  | false =>
    obtain ⟨es, n, hl, hk, _, e⟩ := h2 rfl
    have hm := PySem.W.mapOf_K (prog := X.prog) (w := X.w) I.kIn hl hk
    refine wpAny_in_of (strKind_is X.prog X.w z t) sm hm ?_
    rw [PySem.W.find_K hl e]
    exact ⟨.bl false, H, I.tok _, rfl, q⟩
end
end WrK
namespace WrK
open PySem PySem.Spec PyProof.Rows L2
theorem keys_of {fa : List He.Fa} {fn : List He.DefD} {ts : List He.Tab} {w : World} {K : PySem.W.Frag} (c : He.SaysT fa fn ts w K) (i : Nat) {t : He.Tab} (h : ts[i]? = some t) : He.dicW K (t.1 K) = some (He.keysIn w.params t.2) := by
  have e : ts.map (fun t => He.dicW K (t.1 K)) = ts.map fun t => some (He.keysIn w.params t.2) := congrArg (fun z : He.AlT => z.2) c
  have e2 : (ts.map fun t => He.dicW K (t.1 K))[i]? = (ts.map fun t => some (He.keysIn w.params t.2))[i]? := by rw [e]
  rw [List.getElem?_map, List.getElem?_map, h] at e2
  exact Option.some.inj e2
end WrK
namespace SupE
open PySem PySem.W PySem.Calls PyProof.Rows PySem.HandSPX
def iA (p1 p2 : Pos) : Arguments := { posonlyargs := [], args := [{ arg := "self", annotation := none, pos := p1 }, { arg := "where", annotation := none, pos := p2 }], vararg := none, kwonlyargs := [], kw_defaults := [], kwarg := none, defaults := [] }
structure Ps where
  a : Pos
  b : Pos
  c : Pos
  d : Pos
  e : Pos
  f : Pos
  g : Pos
  h : Pos
  i : Pos
  j : Pos
  k : Pos
  l : Pos
  m : Pos
def jE (z : Str) (q : Ps) : Expr := .JoinedStr [.Constant (.str z) 0 q.d, .FormattedValue (.Name "where" q.e) (-1) none q.f] q.g
def s1 (z : Str) (q : Ps) : Stmt := .Expr (.Call (.Attribute (.Call (.Name "super" q.a) [] [] q.b) "__init__" q.c) [jE z q] [] q.h) q.i
def s2 (q : Ps) : Stmt := .Assign [.Attribute (.Name "self" q.j) "where" q.k] (.Name "where" q.l) q.m
def iB (z : Str) (q : Ps) : List Stmt := [s1 z q, s2 q]
def iS : Scope := { kind := .function, names := [(PySem.Str.ofString "self", .local), (PySem.Str.ofString "where", .local), (PySem.Str.ofString "__class__", .free), (PySem.Str.ofString "super", .globalImplicit)], isGenerator := false, isCoroutine := false, more := [] }
/-- what the written part says of the class at C and of its __init__ at fI -/
structure Txt (prog : Program) (K : Frag) (mg : Str → Option Value) (z : Str) (C fI : Addr) : Prop where
  ox : L2.OexC K C
  noN : findIn K (.ref C) "where" = some none
  iC : findIn K (.ref C) "__init__" = some (some (.ref fI))
  tI : typeIn K (.ref fI) = some (.type "function")
  sub : mroIn K C (.ref C) = some true
  al : ks_superIn K C C "__init__" = some (some (.builtin "ValueError.__init__"))
  opq : nsIn K cStatics "thirdparty.any" = some none
  xi : excInitIn K C He.veBase "ValueError.__new__" = true
  sVE : subIn K (.ref C) (.type "ValueError") = some true
  sup : mg "super" = none
  top : (prog.main.scope.names.lookup ("super" : Str)).isSome = false
  fn : ∃ (oc doc pm ct ccl cl : Value) (qual : Str) (od cdd cld an : Option Addr) (osl ccs csl : Array (Option Value)) (p1 p2 : Pos) (q : Ps) (cda cc : Addr) (vs : Array Value) (file : Str) (tf : Tok), (q.c.endLine == q.h.line) = true ∧
    K.lookup fI = some ⟨oc, od, .func (ksFn "__init__" qual (iA p1 p2) (iB z q) iS .none .none doc pm an (.ref cda) ct cc), osl⟩ ∧ codeIn K (.ref cda) qual = true ∧
    K.lookup cda = some ⟨ccl, cdd, .fields vs, ccs⟩ ∧ vs[2]? = some (.str file tf) ∧ ((prog.main.file : Str) == file) = true ∧ K.lookup cc = some ⟨cl, cld, .cell (some (.ref C)), csl⟩
theorem call_tree {z : Str} {q : Ps} {env : Env} (h : (q.c.endLine == q.h.line) = true) (hform : methodCallForm 1 (backTo q.h (starEach [jE z q] env)) [] = true := by rfl) :
    eval (.Call (.Attribute (.Call (.Name "super" q.a) [] [] q.b) "__init__" q.c) [jE z q] [] q.h) env = (do
      let ov ← attributeBase (.Call (.Name "super" q.a) [] [] q.b) "__init__" env (eval (.Call (.Name "super" q.a) [] [] q.b) env)
      standAt q.c.atName
      let (f, first) ← holding [ov] (getMethod ov "__init__" (L2.plainOf (.Call (.Name "super" q.a) [] [] q.b) env))
      callWith q.h f first (backTo q.h (starEach [jE z q] env)) []) := by
  rw [arm_eval_Call]
  have e : ∀ ov, methodCall (.Call (.Name "super" q.a) [] [] q.b) "__init__" q.c q.h env ov ([jE z q].length + ([] : List Keyword).length) (backTo q.h (starEach [jE z q] env)) (backToKw q.h (keywordEach [] env)) = (do
      let (f, first) ← holding [ov] (getMethod ov "__init__" (L2.plainOf (.Call (.Name "super" q.a) [] [] q.b) env))
      callWith q.h f first (backTo q.h (starEach [jE z q] env)) []) := fun ov => L2.mcall_line hform h
  exact congrArg (fun k : Value → Sem Value => (do
      let ov ← attributeBase (.Call (.Name "super" q.a) [] [] q.b) "__init__" env (eval (.Call (.Name "super" q.a) [] [] q.b) env)
      standAt q.c.atName
      k ov)) (funext e)
/-- what __init__ leaves of a fresh error at x -/
structure InitEnd (h h' : Heap) (x C dx t1 : Addr) (v : Value) : Prop where
  keep : ∀ b o, b ≠ x → h.get? b = some o → h'.get? b = some o
  obj : h'.get? x = some { cls := .ref C, dict := some dx, data := .fields #[.ref t1, .none, .none, .none, .bool false, .none] }
  dbig : h.objs.size ≤ dx
  dne : dx ≠ x
  ns : h'.Ns1 dx (fun y => if y = "where" then some v else none)
section
variable {prog : Program} {w : World} {A : Around} {E : Value → Shared → Prop} {R : Result → Shared → Prop} {s : Shared} {K : Frag} {mg : Str → Option Value} {C fI : Addr} {z : Str}
/-- a value that may stand behind a text -/
def Says (z : Str) (v : Value) : Prop := z.length ≤ sizeLine ∧ ((∃ (y : Str) (t : Tok), v = .str y t ∧ y.length ≤ sizeLine ∧ (z ++ y).length ≤ sizeLine) ∨
  ∃ (i : Int) (t : Tok), v = .int i t ∧ i.natAbs.log2 < 1920 ∧ (z ++ (toString i : Str)).length ≤ sizeLine)
theorem kept_but {h h' : Heap} {x : Addr} (X : K.In h) (hx : K.lookup x = none) (k : ∀ b o, b ≠ x → h.get? b = some o → h'.get? b = some o) : K.In h' := fun a o e =>
  k a o (fun z => by rw [z, hx] at e; cases e) (X a o e)
theorem init (T : Txt prog K mg z C fI) {x t0 : Addr} {v : Value} (X : K.In s.heap) (G : s.heap.Ns mainGlobals mg) (B : ∃ mb, s.heap.Ns builtinsNs mb ∧ ∀ y : Str, y ≠ "__name__" → mb y = bootBuiltins y) (hlim : s.heap.NoLimit)
    (hx : s.heap.get? x = some (excO C t0)) (hnx : K.lookup x = none) (hroom : A.depth < recursionLimit) (hv : Says z v)
    (hq : ∀ h' tk dx t1, InitEnd s.heap h' x C dx t1 v → R (.ok (.ret .none)) { s with heap := h', toks := tk }) :
    codeAny (model prog w) A (.call (.ref fI) ⟨[.ref x, v], []⟩) R s := by
  obtain ⟨oc, doc, pm, ct, ccl, cl, qual, od, cdd, cld, an, osl, ccs, csl, p1, p2, q, cda, cc, vs, file, tf, hln, ho, hcd, hco, hvs, hfile, hcell⟩ := T.fn
  obtain ⟨nm, qn, N, bs, bm, sn, sub, ab, col, dd, k0, k1, k2, k3, k5, hC, hbm⟩ := T.ox.cls
  have hcl : clsIn K C = some { name := nm, bases := bs, mro := .ref C :: bm, ns := N, qualname := qn, hasDict := true, slotNames := sn, subclasses := sub, abstract := ab, collection := col, hasDel := false } := by unfold clsIn; rw [hC] <;> rfl
  obtain ⟨hp, g, d, tk, os⟩ := s
  obtain ⟨mb, hmb, hbt⟩ := B
  refine ks_codeAny_call_defAt (fd := ksFn "__init__" qual (iA p1 p2) (iB z q) iS .none .none doc pm an (.ref cda) ct cc) (body := iB z q) (binds := [("self", .ref x), ("where", v)]) hroom (X _ _ ho) rfl hlim (codeRec_of X hcd) rfl
    (BindsTo.of_eq (by first | rfl | with_unfolding_all rfl)) (show ∀ y ∈ iS.names, y.2 ≠ .cell by decide) (fun y hy => ?_) (fun h₁ hns hk => ?_) rfl rfl rfl
  · rcases List.mem_cons.mp hy with rfl | hy
    · rfl
    rcases List.mem_cons.mp hy with rfl | hy
    · rfl
    · cases hy
  have X₁ : K.In h₁ := X.keeps hk
  have hx₁ := hk _ _ hx
  have hxC : x ≠ C := fun e => by rw [e, hC] at hnx; cases hnx
  refine ks_wpAt_execs_cons (ks_wpAt_Expr_any (ks_wpAt_MethodCall (pl := L2.plainOf (.Call (.Name "super" q.a) [] [] q.b) (ksEnv qual iS hp.objs.size fI (.ref cda) cc)) ?_ (call_tree hln)))
  refine ks_wpAt_super_base (by rfl) (by rfl) rfl rfl (hk _ _ (X _ _ ho)) rfl rfl rfl (hk _ _ (X _ _ hco)) rfl hvs hfile T.top ?_
  refine ks_loadName_global rfl (by rfl) (loadGlobal_builtin (G.keeps hk) T.sup (hmb.keeps hk) ((hbt _ (by decide)).trans PyProof.Rows.Boot.«super») ⟨rfl, ?_⟩)
  refine wpAny_loadName_free rfl (by rfl) rfl ⟨_, hk _ _ (X _ _ hcell), rfl⟩ ?_
  refine wpAny_loadName_local (v := .ref x) rfl (by rfl) hns (by first | rfl | with_unfolding_all rfl | kernel_rfl) ?_
  refine ks_wpAny_isType_cls (X₁ _ _ hC) rfl ⟨rfl, ?_⟩
  refine ks_wpAny_call_super (X₁ _ _ hC) rfl hx₁ rfl (fun c e => by cases e) (looks_mroIn X₁ T.sub) (fun h₂ e₂ k₂ => ?_)
  have X₂ : K.In h₂ := X₁.keeps k₂
  have hx₂ := k₂ _ _ hx₁
  have hns₂ := hns.keeps k₂
  have hal : alongIn K "__init__" ((((.ref C : Value) :: bm).dropWhile (· != .ref C)).drop 1) = some (some (.builtin "ValueError.__init__")) := by
    have e := T.al
    unfold ks_superIn at e
    rw [hcl] at e
    exact e
  have I₂ : InstAt h₂ x (excO C t0) C none := ⟨hx₂, rfl, rfl, trivial⟩
  refine kxs_getMethod kxs_ValueError (K := K) (l₀ := .ref C :: bm) e₂ (looks_opaque X₂ T.opq) (fun A Q E s k q => wpAny_bind ((looks_clsIn X₂ hcl) A _ E s k (wpAny_pure q))) rfl X₂ hal (I₂.type.andThen (looks_subIn X₂ T.sVE)) hxC (by decide) ?_
  -- the text, the call
  have k₃ : ∀ b o, h₂.get? b = some o → (h₂.push (kxs_mw "ValueError.__init__" x)).get? b = some o := fun b o e => Heap.get?_push_of_some _ e
  have hmw : (h₂.push (kxs_mw "ValueError.__init__" x)).get? h₂.objs.size = some (kxs_mw "ValueError.__init__" x) := Heap.get?_push_at rfl rfl
  have hx₃ := k₃ _ _ hx₂
  have hns₃ := hns₂.keeps k₃
  have X₃ : K.In _ := X₂.keeps k₃
  refine kxs_callWith (i := "ValueError.__init__") (x := x) (by rfl) ?_
  show wpAny _ _ (evalArgs _ true (backTo q.h ((false, eval (jE z q) (ksEnv qual iS hp.objs.size fI (.ref cda) cc)) :: [])) []) _ _ _
  refine evalArgs_plain ?_
  refine spliced_more (pos := q.h) (e := jE z q) (rest := []) (env := ksEnv qual iS hp.objs.size fI (.ref cda) cc) ?_ rfl
  -- what stands behind the text
  have fin : ∀ (y : Str) (ty : Tok) (tk3 : Nat), wpAny (model prog w) (A.deeper (ksEnv qual iS hp.objs.size fI (.ref cda) cc)) (spliced (backTo q.h (starEach [] (ksEnv qual iS hp.objs.size fI (.ref cda) cc))))
      (fun vs s₁ => KxsAt "ValueError.__init__" h₂.objs.size x s₁.heap ∧ wpAny (model prog w) (A.deeper (ksEnv qual iS hp.objs.size fI (.ref cda) cc)) (call (.ref h₂.objs.size) ([] ++ (Value.str y ty :: vs)))
        (fun _ s' => PySem.wpAt (model prog w) (A.deeper (ksEnv qual iS hp.objs.size fI (.ref cda) cc)) (.func (iB z q) (ksEnv qual iS hp.objs.size fI (.ref cda) cc)) (execs [s2 q] (ksEnv qual iS hp.objs.size fI (.ref cda) cc))
          (fun f s' => R (.ok (.ret (match f with | .ret v => v | _ => .none))) s')
          (fun e s' => wpAny (model prog w) (A.deeper (ksEnv qual iS hp.objs.size fI (.ref cda) cc)) (leaving (ksEnv qual iS hp.objs.size fI (.ref cda) cc) e) (fun _ s'' => R (.error e) s'') (fun e' s'' => R (.error e') s'') s') s')
        (fun e s' => wpAny (model prog w) (A.deeper (ksEnv qual iS hp.objs.size fI (.ref cda) cc)) (leaving (ksEnv qual iS hp.objs.size fI (.ref cda) cc) e) (fun _ s'' => R (.error e) s'') (fun e' s'' => R (.error e') s'') s') s₁)
      (fun e s' => wpAny (model prog w) (A.deeper (ksEnv qual iS hp.objs.size fI (.ref cda) cc)) (leaving (ksEnv qual iS hp.objs.size fI (.ref cda) cc) e) (fun _ s'' => R (.error e) s'') (fun e' s'' => R (.error e') s'') s')
      ⟨h₂.push (kxs_mw "ValueError.__init__" x), g, d, tk3, os⟩ := fun y ty tk3 => by
    refine spliced_none ⟨hmw, ?_⟩
    have xL : hp.objs.size ≠ x := Nat.ne_of_gt (Heap.lt_size hx)
    have lt2 : hp.objs.size < h₂.objs.size := hns₂.lt
    have F0 : Fr (hp.hide x) hp.objs.size (h₂.push (kxs_mw "ValueError.__init__" x)) _ := ⟨hns₃, fun b o e => k₃ _ _ (k₂ _ _ (hk _ _ (Heap.of_hide e))), Nat.le_of_eq (Heap.hide_size hp x)⟩
    have K0 : K.In (hp.hide x) := fun b o e => (Heap.hide_ne hp (fun z => by rw [z, hnx] at e; cases e)).trans (X b o e)
    have N0 : News (hp.hide x) hp.objs.size (h₂.push (kxs_mw "ValueError.__init__" x)) [(h₂.objs.size, kxs_mw "ValueError.__init__" x), (x, excObj C t0 none .none)] := fun p hpm => by
      rcases List.mem_cons.mp hpm with rfl | hpm
      · refine ⟨hmw, Nat.ne_of_gt lt2, ?_⟩
        cases e : (hp.hide x).get? h₂.objs.size with
        | none => rfl
        | some o => exact absurd (Nat.lt_trans lt2 (Heap.lt_size (Heap.of_hide e))) (Nat.lt_irrefl _)
      · cases List.mem_singleton.mp hpm
        exact ⟨hx₃, Ne.symm xL, Heap.hide_self hp x⟩
    have ux : h₂.objs.size ≠ x := fun z => by
      have lx : x < hp.objs.size := Heap.lt_size hx
      rw [← z] at lx
      exact absurd (Nat.lt_trans lt2 lx) (Nat.lt_irrefl _)
    have U0 : UpdF x (excObj C t0 none .none) [(h₂.objs.size, kxs_mw "ValueError.__init__" x), (x, excObj C t0 none .none)] _ := .tail ux (.head (fun _ h => (nomatch h)))
    refine kxs_call F0 K0 N0 F.excBase_ValueError T.xi (.head _) U0 (show 1 ≤ sizeLine by rw [sizeLine_eq]; decide) (fun t1 h₄ F4 N4 _ => ?_)
    have hx₄ : h₄.get? x = some (excO C t1) := (N4 (x, excObj C t1 none .none) (.tail _ (.tail _ (.head _)))).1
    have hns₄ := F4.ns
    have up : ∀ b o, b ≠ x → hp.get? b = some o → h₄.get? b = some o := fun b o hb e => F4.keep b o ((Heap.hide_ne hp hb).trans e)
    have X₄ : K.In h₄ := kept_but X hnx up
    refine wpAt_of_wpAny (wpAny_execs_cons (plainObj_wpAny_Assign_Attribute ?_))
    refine PySem.ESX.ldL (v := v) hns₄ (by first | rfl | with_unfolding_all rfl | kernel_rfl) (PySem.ESX.ldL (v := .ref x) hns₄ (by first | rfl | with_unfolding_all rfl | kernel_rfl) ?_)
    refine set_plain X₄ (ox := excO C t1) (od := none) ⟨hx₄, rfl, rfl, trivial⟩ T.ox.sa ?_
    refine exc_osa X₄ hx₄ hcl (show refsVE (.ref C :: bm) = true from hbm) rfl T.noN (fun h₅ tk₅ dx k₅ dn dne hx₅ hn₅ => ?_)
    show wpAny _ _ (execs _ _) _ _ _
    have big : hp.objs.size ≤ h₄.objs.size := by
      have z := hns₄.lt
      exact Nat.le_of_lt z
    exact wpAny_execs_nil (hq h₅ tk₅ dx t1 ⟨fun b o hb e => k₅ b o hb (up b o hb e), hx₅, Nat.le_trans big dn, dne, hn₅⟩)
  obtain ⟨hzl, hv⟩ := hv
  have z0 : (Str.empty ++ z : Str) = z := by obtain ⟨c⟩ := z; exact congrArg Str.mk (Array.empty_append)
  refine JoinedStr_many (joinParts_cons (wpAny_Constant_str ⟨by rw [z0]; exact hzl, joinParts_cons (FormattedValue_plain (PySem.ESX.ldL (v := v) hns₃ (by first | rfl | with_unfolding_all rfl | kernel_rfl) ?_))⟩))
  rw [z0]
  rcases hv with ⟨y, t, rfl, hy, hzy⟩ | ⟨i, t, rfl, hi, hzy⟩
  · exact formatField_str (fun t' tk => ⟨hzy, joinParts_nil (fin _ _ _) hzy⟩) hy
  · exact formatField_int_small hi ⟨hzy, joinParts_nil (fin _ _ _) hzy⟩
/-- a made one -/
structure Made (h h' : Heap) (e C d : Addr) (v : Value) : Prop where
  keep : ∀ b o, h.get? b = some o → h'.get? b = some o
  new : h.objs.size ≤ e
  obj : ∃ oe vs, h'.get? e = some oe ∧ oe.cls = .ref C ∧ oe.dict = some d ∧ oe.data = .fields vs ∧ vs[1]? = some .none
  dbig : h.objs.size ≤ d
  dne : d ≠ e
  ns : h'.Ns1 d (fun y => if y = "where" then some v else none)
theorem made (T : Txt prog K mg z C fI) {v : Value} (X : K.In s.heap) (G : s.heap.Ns mainGlobals mg) (B : ∃ mb, s.heap.Ns builtinsNs mb ∧ ∀ y : Str, y ≠ "__name__" → mb y = bootBuiltins y) (hlim : s.heap.NoLimit) (hroom : A.depth + 1 < recursionLimit) (hv : Says z v)
    (hq : ∀ h' tk e d, Made s.heap h' e C d v → R (.ok (.ret (.ref e))) { s with heap := h', toks := tk }) :
    codeAny (model prog w) A (.call (.ref C) ⟨[v], []⟩) R s := by
  obtain ⟨nm, qn, N, bs, bm, sn, sub, ab, col, dd, k0, k1, k2, k3, k5, hC, hbm⟩ := T.ox.cls
  obtain ⟨hp, g, d, tk, os⟩ := s
  obtain ⟨mb, hmb, hbt⟩ := B
  have k : ∀ b o, hp.get? b = some o → ((hp.push (kdv_tup [v])).push (excO C hp.objs.size)).get? b = some o := fun b o e => Heap.get?_push_of_some _ (Heap.get?_push_of_some _ e)
  have hget : ((hp.push (kdv_tup [v])).push (excO C hp.objs.size)).get? (hp.objs.size + 1) = some (excO C hp.objs.size) := by heap_get
  have hnx : K.lookup (hp.objs.size + 1) = none := by
    cases e : K.lookup (hp.objs.size + 1) with
    | none => rfl
    | some o => exact absurd (Nat.lt_of_succ_lt (Heap.lt_size (X _ _ e))) (Nat.lt_irrefl _)
  refine call_own F.excBase_ValueError (fun X => refsVE_contains X bm hbm) (X _ _ hC) (looks_findIn X T.iC) (fun self => bind_fn X self T.tI) (show 1 ≤ sizeLine by rw [sizeLine_eq]; decide) ?_
  refine init (s := ⟨(hp.push (kdv_tup [v])).push (excO C hp.objs.size), g, d, tk, os⟩) T (X.keeps k) (G.keeps k) ⟨mb, hmb.keeps k, hbt⟩ (hlim.keeps k) hget hnx hroom hv fun h' tk' dx t1 ⟨k', hx, dn, dne, hns⟩ => ?_
  have old : ∀ b o, hp.get? b = some o → h'.get? b = some o := fun b o e => k' b o (Nat.ne_of_lt (Nat.lt_succ_of_lt (Heap.lt_size e))) (k b o e)
  have z2 : hp.objs.size ≤ dx := by
    have q := dn
    rw [Heap.size_push, Heap.size_push] at q
    omega
  exact ⟨rfl, hq h' tk' (hp.objs.size + 1) dx ⟨old, Nat.le_succ _, ⟨_, _, hx, rfl, rfl, rfl, rfl⟩, z2, dne, hns⟩⟩
end
end SupE
namespace SupE
open PySem PySem.Spec PyProof.Rows L2
theorem relO_where {v : V} {v' : Value} (r : RelV v v') (f : Str) : RelO (List.lookup f [(("where" : Str), v)]) (if f = "where" then some v' else none) := by
  by_cases hw : f = "where"
  · subst hw
    rw [if_pos rfl, show List.lookup ("where" : Str) [(("where" : Str), v)] = some v by simp [List.lookup]]
    exact r
  · rw [if_neg hw, show List.lookup f [(("where" : Str), v)] = none by simp [List.lookup, show (f == ("where" : Str)) = false by simpa using hw]]
    trivial
/-- a text or number that may stand behind a text -/
def SaysV (z : Str) (v : V) : Prop := z.length ≤ sizeLine ∧ ((∃ y : Str, v = .str y ∧ y.length ≤ sizeLine ∧ (z ++ y).length ≤ sizeLine) ∨ ∃ i : Int, v = .int i ∧ i.natAbs.log2 < 1920 ∧ (z ++ (toString i : Str)).length ≤ sizeLine)
theorem saysV_ok {z : Str} {v : V} {u : Value} (h : SaysV z v) (r : RelV v u) : Says z u := by
  obtain ⟨h1, ⟨y, rfl, a, b⟩ | ⟨i, rfl, a, b⟩⟩ := h
  · obtain ⟨t, rfl⟩ := r
    exact ⟨h1, .inl ⟨y, t, rfl, a, b⟩⟩
  · obtain ⟨t, rfl⟩ := r
    exact ⟨h1, .inr ⟨i, t, rfl, a, b⟩⟩
/-- C(e) -/
def tMk (z : Str) (C : Addr) (ta : TA) : L2.St → Hp → XK → Prop := fun σ H Q => ta σ H fun vs H1 => ∃ v, vs = [v] ∧ SaysV z v ∧ ∀ d, H1 d = none → Q (.ref C) (some d) (upd H1 d (.xd [(("where" : Str), v)]))
section
variable {X : Cx} {C fI : Addr} {z : Str}
theorem pmk {x : Str} {a : Expr} {ta : TA} {p pos : Pos} {k : Nat} (T : Txt X.prog X.K X.mg z C fI) (hm : X.mg x = some (.ref C)) (hr : Room k X.A) (hk : 1 ≤ k) (ha : PA X [a] ta) (hg : Gl X x)
    (hdb : (x == ("__debug__" : Str)) = false := by decide) (he : starEach (a :: []) X.env = (false, eval a X.env) :: starEach [] X.env := by rfl) (hpl : (backTo pos (starEach [] X.env)).any (·.1) = false := by rfl) :
    PMk X (.Call (.Name x p) [a] [] pos) (tMk z C ta) := by
  intro pins s σ H Q I h
  refine wpAny_Call_Name_kw (ld_glob I hg hm ?_ hdb)
  refine PySem.W.callWith_K (h₀ := X.base) I.ok.mod.kin T.ox.kC (thn (ha.run pos pins s σ H _ I h) fun us s1 hh => ?_) he hpl
  obtain ⟨vs, H1, I1, r1, v, ev, sv, q1⟩ := hh
  subst ev
  refine ⟨I1.kIn, ?_⟩
  cases r1 with
  | cons rv rn =>
    rename_i v' us'
    cases rn
    show wpAny _ _ (call (.ref C) [v']) _ _ _
    have hlim := I1.nolimit
    have hG := I1.mod.glob.keeps I1.bk
    obtain ⟨mb, hb1, hb2⟩ := I1.mod.blt
    have hB := hb1.keeps I1.bk
    obtain ⟨hp, g, dr, tk, os⟩ := s1
    refine wpAny_call (made T I1.kIn hG ⟨mb, hB, hb2⟩ hlim (by have := hr.dp; omega) (saysV_ok sv rv) fun h' tk' e d M => ?_)
    show MkP X pins σ Q (.ref e) ⟨h', g, dr, tk', os⟩
    obtain ⟨oe, fv, hoe, hc, hd, hdat, h1⟩ := M.obj
    have hns := M.ns
    obtain ⟨G', g1, g2⟩ := restrict h' fun b => decide (b ≠ e)
    have gk : ∀ b, b ≠ e → G'.get? b = h'.get? b := fun b hb => g1 b (decide_eq_true hb)
    have ge : G'.get? e = none := g2 e (by simp)
    have old : ∀ b o, hp.get? b = some o → G'.get? b = some o := fun b o q => (gk b (Nat.ne_of_lt (Nat.lt_of_lt_of_le (Heap.lt_size q) M.new))).trans (M.keep b o q)
    have ob : ObjOk X.prog X.w (upd H1 d (.xd [(("where" : Str), v)])) G' d (.xd [(("where" : Str), v)]) := ⟨_, hns.at (fun o q => (gk d M.dne).trans q), fun f => relO_where rv f⟩
    have J : Inv X pins σ (upd H1 d (.xd [(("where" : Str), v)])) ⟨G', g, dr, tk', os⟩ := I1.laid (t' := tk') old M.dbig ob
    refine ⟨e, oe, fv, ⟨G', g, dr, tk', os⟩, _, .ref C, some d, rfl, J, fun b o q => ?_, ge, hoe, ⟨hc, hd⟩, hdat, h1, ?_, rfl, I1.bare, raises_own T.ox.exC T.ox.tyC, q1 d (I1.hok.fresh M.dbig)⟩
    · by_cases hb : b = e
      · have q' : G'.get? b = some o := q
        rw [hb, ge] at q'
        cases q'
      · exact (gk b hb).symm.trans q
    · rw [upd_ne (Ne.symm M.dne)]
      exact I1.hok.fresh M.new
end
end SupE
namespace ExIs
open PySem PySem.Spec PyProof.Rows L2
theorem kitD {K : PySem.W.Frag} {D x : Addr} {ox : Obj} {od : Option Obj} (c : ExcC K D) : PySem.W.KitX K (.ref x) (.ref D) (fun h => PySem.W.InstAt h x ox D od) := by
  have hcl : (PySem.W.clsIn K D).isSome = true := by
    have e := c.hd
    unfold PySem.W.hasDictIn at e
    cases q : PySem.W.clsIn K D with
    | none => rw [q] at e; cases e
    | some _ => rfl
  exact PySem.W.kitx_exc hcl c.hg c.hk c.hs c.ha c.hn c.ht c.hm
section
variable {X : Cx} {a : Addr} {oe : Obj} {cls : Value} {d : Option Addr} {pn : List (Addr × Obj)}
end
end ExIs
namespace HookS
open PySem PySem.Spec PyProof.Rows L2
/-- an own error: the class's name, its __init__'s qualified name, places, text -/
structure ErD where
  cls : Str
  qual : Str
  p1 : Pos
  p2 : Pos
  z : Str
  q : SupE.Ps
def iAt (K : PySem.W.Frag) (x : Str) : Addr := He.ma K (He.ga K x) "__init__"
abbrev ErW : Type := Option (Str × Str × Arguments × FuncBody × Scope × Addr × List Str × Value × Value × Addr)
def erW (K : PySem.W.Frag) (x : Str) : ErW := match K.lookup (iAt K x) with
  | some ⟨_, _, .func fd, _⟩ => some (fd.name, fd.qualname, fd.params, fd.body, fd.scope, fd.globals, fd.closure.map (·.1), fd.defaults, fd.kwdefaults, fd.builtins)
  | _ => none
def ErD.val (d : ErD) : ErW := some ("__init__", d.qual, SupE.iA d.p1 d.p2, .stmts (SupE.iB d.z d.q), SupE.iS, mainGlobals, ["__class__"], .none, .none, builtinsNs)
/-- isinstance and the fields of its instances -/
def isB (K : PySem.W.Frag) (C : Addr) : Bool := decide (PySem.W.findIn K (.ref C) "__getattribute__" = some (some (.builtin "BaseException.__getattribute__"))) && (decide (PySem.W.findIn K (.ref C) "__getattr__" = some none) &&
  (decide (PySem.W.subIn K (.ref C) (.type "BaseException") = some true) && (PySem.W.hasDictIn K C && (decide (PySem.W.findIn K (.ref C) "__class__" = some (some (.builtin "object.__class__"))) &&
  (decide (PySem.W.specialIn K (.builtin "object.__class__") "__get__" = some (some (.builtin "getset_descriptor.__get__"))) && (decide (PySem.W.takesIn K (.builtin "object.__class__") = some true) && decide (PySem.W.mroIn K C (.type "object") = some true)))))))
section
variable {K : PySem.W.Frag} {C : Addr} {x file : Str}
theorem is_ok (h : isB K C = true) : ExcC K C := by
  obtain ⟨h1, h⟩ := He.ba h
  obtain ⟨h2, h⟩ := He.ba h
  obtain ⟨h3, h⟩ := He.ba h
  obtain ⟨h4, h⟩ := He.ba h
  obtain ⟨h5, h⟩ := He.ba h
  obtain ⟨h6, h⟩ := He.ba h
  obtain ⟨h7, h8⟩ := He.ba h
  exact ⟨of_decide_eq_true h1, of_decide_eq_true h2, of_decide_eq_true h3, h4, of_decide_eq_true h5, of_decide_eq_true h6, of_decide_eq_true h7, of_decide_eq_true h8⟩
end
structure SaysS (fa : List He.Fa) (fn : List He.DefD) (ts : List He.Tab) (tf : List He.Defn) (er : List ErD) (ex : PySem.W.Frag → Bool) (w : World) (h : Heap) (K : PySem.W.Frag) : Prop where
  x : He.SaysX fa fn ts tf ex w h K
  er : er.map (fun d => erW K d.cls) = er.map ErD.val
theorem SaysS.one {fa : List He.Fa} {fn : List He.DefD} {ts : List He.Tab} {tf : List He.Defn} {er : List ErD} {ex : PySem.W.Frag → Bool} {w : World} {h : Heap} {K : PySem.W.Frag} (c : SaysS fa fn ts tf er ex w h K) {d : ErD} (hd : d ∈ er) : erW K d.cls = d.val := by
  have e := c.er
  obtain ⟨i, hi, q⟩ := List.mem_iff_getElem.mp hd
  have e2 := congrArg (fun l : List ErW => l[i]?) e
  simp only [List.getElem?_map, List.getElem?_eq_getElem hi, Option.map_some, q, Option.some.injEq] at e2
  exact e2
end HookS
namespace PlE
open PySem PySem.Spec PyProof.Rows L2
abbrev veB : List Value := [.type "ValueError", .type "Exception", .type "BaseException", .type "object"]
structure Plain (K : PySem.W.Frag) (C : Addr) : Prop where
  ex : PySem.W.excIn K C veB "ValueError.__new__" = true
  kp : PySem.W.keepIn K (.ref C) = true
  bP : PySem.W.subIn K (.ref C) (.type "BaseException") = some true
  tP : PySem.W.typeIn K (.ref C) = some (.type "type")
  is_ : ExcC K C
def plainB (K : PySem.W.Frag) (C : Addr) : Bool := PySem.W.excIn K C veB "ValueError.__new__" && (PySem.W.keepIn K (.ref C) && (decide (PySem.W.subIn K (.ref C) (.type "BaseException") = some true) && (decide (PySem.W.typeIn K (.ref C) = some (.type "type")) && HookS.isB K C)))
theorem plain_ok {K : PySem.W.Frag} {C : Addr} (h : plainB K C = true) : Plain K C := by
  obtain ⟨h1, h⟩ := He.ba h
  obtain ⟨h2, h⟩ := He.ba h
  obtain ⟨h3, h⟩ := He.ba h
  obtain ⟨h4, h5⟩ := He.ba h
  exact ⟨h1, h2, of_decide_eq_true h3, of_decide_eq_true h4, HookS.is_ok h5⟩
/-- X('m') -/
theorem pmk {X : Cx} {C : Addr} {x m : Str} {j : Nat} {p p2 pos : Pos} (T : Plain X.K C) (gC : X.mg x = some (.ref C)) (hg : Gl X x) (hdb : (x == ("__debug__" : Str)) = false := by decide) :
    PMk X (.Call (.Name x p) [.Constant (.str m) j p2] [] pos) (fun _ H Q => Q (.ref C) none H) :=
  pmk_own PySem.F.excBase_ValueError T.ex gC T.kp (raises_own T.bP T.tP) hg hdb
/-- of the classes cs the error's is the j-th alone; it is a ValueError, and one of the class at B -/
structure Wch (K : PySem.W.Frag) (C B : Addr) (cs : List Addr) (j : Nat) : Prop where
  lt : j < cs.length
  one : ∀ i c, cs[i]? = some c → PySem.W.kitOne K (.ref C) (.ref c) = some (decide (i = j))
  ve : PySem.W.kitOne K (.ref C) (.type "ValueError") = some true
  up : PySem.W.exmOne K (.ref C) (.ref B) = some true
def wchB (K : PySem.W.Frag) (C B : Addr) (cs : List Addr) (j : Nat) : Bool := decide (j < cs.length) && ((cs.zipIdx.all fun q => decide (PySem.W.kitOne K (.ref C) (.ref q.1) = some (decide (q.2 = j)))) &&
  (decide (PySem.W.kitOne K (.ref C) (.type "ValueError") = some true) && decide (PySem.W.exmOne K (.ref C) (.ref B) = some true)))
theorem wch_ok {K : PySem.W.Frag} {C B : Addr} {cs : List Addr} {j : Nat} (h : wchB K C B cs j = true) : Wch K C B cs j := by
  obtain ⟨h1, h⟩ := He.ba h
  obtain ⟨h2, h⟩ := He.ba h
  obtain ⟨h3, h4⟩ := He.ba h
  refine ⟨of_decide_eq_true h1, fun i c e => ?_, of_decide_eq_true h3, of_decide_eq_true h4⟩
  have m : (c, i) ∈ cs.zipIdx := List.mem_zipIdx_iff_getElem?.mpr e
  exact of_decide_eq_true (List.all_eq_true.mp h2 _ m)
end PlE
namespace Tk
open PySem PySem.Spec PyProof.Rows L2 HT Th
section
variable {X : Cx}
end
end Tk
namespace TryAs
open PySem PySem.Spec PyProof.Rows L2
/-- the classes that a clause names -/
inductive Cl where
  | one (c : Value)
  | two (c1 c2 : Value)
def Cl.ask (K : PySem.W.Frag) (cls : Value) : Cl → Option Bool
  | .one c => PySem.W.exmOne K cls c
  | .two c1 c2 => PySem.W.exmAny K cls [c1, c2]
/-- the ends of a suite whose name goes -/
abbrev gone (i : Nat) (D : Ends) : Ends := { nx := fun σ' H' => D.nx (σ'.set i none) H', rt := D.rt, bk := fun σ' H' => D.bk (σ'.set i none) H', ct := fun σ' H' => D.ct (σ'.set i none) H' }
def wAsM (K : PySem.W.Frag) (i m : Nat) (Wout : WX) (D : Ends) : List (Cl × (Addr → Value → Option Addr → TS)) → WX
  | [] => Wout
  | (c, ts) :: r => fun cls d σ H => ∃ b, c.ask K cls = some b ∧ (b = true → ∀ a, H a = none → σ.length = m → ts a cls d (gone i D) (σ.set i (some (.ref a))) H) ∧ (b = false → wAsM K i m Wout D r cls d σ H)
abbrev SuiteOk (X : Cx) (b₀ : Stmt) (suite : List Stmt) (ts : Addr → Value → Option Addr → TS) : Prop :=
  ∀ (a : Addr) (oe : Obj) (cls : Value) (d : Option Addr) (pn : List (Addr × Obj)), Zc cls d oe → (∃ vs, oe.data = .fields vs) → PSs (X.suite a ((a, oe) :: pn)) (b₀ :: suite) (ts a cls d)
inductive HAs (X : Cx) (n : Str) : List ExceptHandler → List (Cl × (Addr → Value → Option Addr → TS)) → Prop
  | nil : HAs X n [] []
  | one {x : Str} {c : Value} {ts : Addr → Value → Option Addr → TS} {b₀ : Stmt} {suite : List Stmt} {np pos' : Pos} {hds : List ExceptHandler} {l : List (Cl × (Addr → Value → Option Addr → TS))} (hc : Names X x c)
      (hsu : SuiteOk X b₀ suite ts) (r : HAs X n hds l) : HAs X n (.ExceptHandler (some (.Name x np)) (some n) (b₀ :: suite) pos' :: hds) ((.one c, ts) :: l)
  | two {x1 x2 : Str} {c1 c2 : Value} {ts : Addr → Value → Option Addr → TS} {b₀ : Stmt} {suite : List Stmt} {p1 p2 tp pos' : Pos} {kk} {hds : List ExceptHandler} {l : List (Cl × (Addr → Value → Option Addr → TS))} (h1 : Names X x1 c1) (h2 : Names X x2 c2)
      (hsu : SuiteOk X b₀ suite ts) (r : HAs X n hds l) : HAs X n (.ExceptHandler (some (.Tuple [.Name x1 p1, .Name x2 p2] kk tp)) (some n) (b₀ :: suite) pos' :: hds) ((.two c1 c2, ts) :: l)
theorem flying_push {B h : Heap} {l : List Env} {a : Addr} {Z : Obj → Prop} (o : Obj) (f : HandSPX.FlyingZ B l a Z h) : HandSPX.FlyingZ B l a Z (h.push o) := by
  obtain ⟨f1, f2, f3, oe, vs, T, oT, ts, he, hz, hd, h1, hn, hT, hTo, hdT, h3⟩ := f
  exact ⟨fun b ob e => Heap.get?_push_of_some _ (f1 b ob e), f2, f3.of_keeps fun b ob e _ => ⟨ob, Heap.get?_push_of_some _ e, rfl⟩, oe, vs, T, oT, ts, Heap.get?_push_of_some _ he, hz, hd, h1, hn, hT, Heap.get?_push_of_some _ hTo, hdT, h3⟩
section
variable {X : Cx} {n : Str} {i : Nat} {body : List Stmt} {h₀ : ExceptHandler} {hds : List ExceptHandler} {l : List (Cl × (Addr → Value → Option Addr → TS))} {pos : Pos} {tb : WX → TS} {Wout : WX}
theorem ps_try_asM (hs : X.stack = X.env :: X.outer) (hf : X.env.frame = some X.env.locals) (hN : X.N.Nodup) (hi : X.N[i]? = some n) (hln : X.env.kindOf n = some .local) (tk : Takes X Wout)
    (hb : ∀ (W : WX) (pn : List (Addr × Obj)) (xe : Value → Shared → Prop), Takes (X.tr pn xe) W → PassesOwn (model X.prog X.w) X.A X.env xe → PSs (X.tr pn xe) body (tb W))
    (hh : HAs X n (h₀ :: hds) l) : PS X (.Try body (h₀ :: hds) [] [] pos) (fun D σ H => tb (wAsM X.K i X.N.length Wout D l) D σ H) := by
  refine ⟨fun pins s σ H D I h => ?_⟩
  have ok := I.ok
  have hfr : X.A.frames = some (X.env :: X.outer) := by rw [ok.frames, hs]
  have hloc : Loc X.env.scope n := .inl hln
  refine wpAny_Try_except ?_
  refine wpAny_mono ((hb (wAsM X.K i X.N.length Wout D l) (X.pn ++ pins) (fun e s₁ => wpAny (model X.prog X.w) X.A (noteFrame e X.env) (fun _ s₂ => wpAny (model X.prog X.w) X.A (setFlight e none) (fun _ s₃ =>
    wpAny (model X.prog X.w) X.A (handleBy e X.env (h₀ :: hds)) (SP X pins D) X.xe s₃) X.xe s₂) X.xe s₁) (fun u s' xx => ?_) PassesOwn.looking).run [] s σ H D (I.toTry _) h) (fun f s1 hsp => ?_) (fun e s1 he => he)
  · -- the catch
    obtain ⟨a, B, sI, pins', σ', H', cls, d, rfl, J', nb, up, sky, na, os, ag, w⟩ := xx
    have J : Inv X pins σ' H' sI := J'.ofTry ok
    have sky' : Sky B (X.env :: X.outer) a (Zc cls d) X.env.locals s'.heap := by rw [← hs]; exact sky
    show wpAny (model X.prog X.w) X.A (noteFrame (.ref a) X.env) _ _ _
    refine Sky.land Zc.steady hfr hf sky' fun h3 fl3 up3 => ?_
    have notFr : ∀ {h : Heap} {o : Obj} {vs : Array Value}, h.FunFrames B (X.env :: X.outer) → h.get? a = some o → o.data = .fields vs → a ∉ frs (X.env :: X.outer) := fun {h o vs} ff e dd hm => by
      obtain ⟨_, o', e', hnf⟩ := ff.mem hm
      rw [e] at e'; cases e'
      exact hnf _ dd
    have nfr : a ∉ frs (X.env :: X.outer) := by
      obtain ⟨oe3, vs3, he3, hz3, hd3⟩ := fl3.there
      exact notFr fl3.2.2.1 he3 hd3
    have nL : a ≠ X.env.locals := fun z => nfr (List.mem_filterMap.mpr ⟨X.env, List.mem_cons_self, by rw [hf, z]⟩)
    have nF : a ∉ X.fs := fun hm => by
      obtain ⟨e, he, q⟩ := List.mem_filterMap.mp hm
      exact nfr (List.mem_filterMap.mpr ⟨e, List.mem_cons_of_mem _ he, q⟩)
    have go : ∀ {hds' : List ExceptHandler} {l' : List (Cl × (Addr → Value → Option Addr → TS))}, HAs X n hds' l' → wAsM X.K i X.N.length Wout D l' cls d σ' H' → ∀ s3 : Shared, HandSPX.FlyingZ B (X.env :: X.outer) a (Zc cls d) s3.heap → sI.heap.UpToSlots s3.heap → s3.os = sI.os → AllBare s3.gens →
        wpAny (model X.prog X.w) X.A (handleBy (.ref a) X.env hds') (SP X pins D) X.xe s3 := by
      intro hds' l' hk
      induction hk with
      | nil =>
        intro w s3 fl3 up3 os3 ag3
        refine wpAny_handleBy_nil ?_
        obtain ⟨k1, k2, k3, oe, vs, T, oT, ts', he, hz, hd, h1, hr⟩ := id fl3
        unfold PySem.passOn
        refine wpAny_bind (wpAny_field he hd h1 ?_)
        rw [if_neg (show ¬ ((Value.ref T == Value.none) = true) from by simp)]
        have fin : wpAny (model X.prog X.w) X.A (setFlight (.ref a) X.env.frame) (fun _ s4 => wpAny (model X.prog X.w) X.A (throw (.ref a) : Sem Flow) (SP X pins D) X.xe s4) X.xe s3 := by
          rw [hf]
          refine HandSPX.setFlight_upZ fl3 fun h4 hh4 up4 => wpAny_throw (tk _ _ ?_)
          exact ⟨a, B, sI, pins, σ', H', cls, d, rfl, J, nb, up3.trans up4, .inr (.inr (by rw [hs]; exact hh4)), na, os3, ag3, w⟩
        first
          | exact wpAny_bind (wpAny_pure (wpAny_bind fin))
          | exact wpAny_bind fin
      | @one x c ts b₀ suite np pos' hds2 l2 hc hsu r ih =>
        intro w s3 fl3 up3 os3 ag3
        obtain ⟨b, hb1, hyes, hno⟩ := w
        obtain ⟨oe3, vs3, he3, hz3, hd3⟩ := fl3.there
        have J3 : Inv X pins σ' H' s3 := J.landed nb fl3.1 up3 os3 ag3
        have S3 := J3.suite he3 hd3 na nL nF
        refine wpAny_handleBy_cons (codeAny_handlers_test ?_) (by intro q; cases q)
        have LT : PySem.W.Looks (model X.prog X.w) s3.heap (typeOf (.ref a)) cls := fun A Q E s k q => wpAny_typeOf_ref (k _ _ he3) (by rw [hz3.1]; exact q)
        have LM := PySem.W.exm_one (M := model X.prog X.w) (J3.kIn) LT hb1
        have test : ∀ {Q : Value → Shared → Prop} {E : Value → Shared → Prop}, Q c s3 → wpAny (model X.prog X.w) (X.A.mark (some (.ref a))) (eval (.Name x np) X.env) Q E s3 := fun {Q E} q => by
          obtain ⟨hg, hdbg, hm | ⟨hm, hv, hnn⟩⟩ := hc
          · exact ld_glob (X := X.suite a ((a, oe3) :: (X.pn ++ pins))) S3 hg hm q hdbg
          · exact ld_blt (X := X.suite a ((a, oe3) :: (X.pn ++ pins))) S3 hg hm hv q hnn hdbg
        refine test (LM.here ?_)
        cases b with
        | true =>
          refine codeAny_handlers_suite_as ?_
          refine HandSPX.lands_againZ fl3 fun h4 fl4 up4 => ?_
          have J4 : Inv X pins σ' H' { s3 with heap := h4 } := J.landed nb fl4.1 (up3.trans up4) os3 ag3
          obtain ⟨oe4, vs4, he4, hz4, hd4⟩ := fl4.there
          have S4 := J4.suite he4 hd4 na nL nF
          refine store_ok (X := X.suite a ((a, oe4) :: (X.pn ++ pins))) (v := .ref a) S4 hN hi hloc rfl (fun s5 S5 => ?_) (.inr hln)
          refine wpAny_mono ((hsu a oe4 cls d (X.pn ++ pins) hz4 ⟨_, hd4⟩).run [] s5 _ H' _ S5 (hyes rfl a na J.len)) (fun f s6 hsp => ?_) (fun _ _ z => False.elim z)
          have end_ : ∀ {σ6 : L2.St} {H6 : Hp} {Q : Shared → Prop}, Inv (X.suite a ((a, oe4) :: (X.pn ++ pins))) [] σ6 H6 s6 → (∀ s7, Inv X pins (σ6.set i none) H6 s7 → Q s7) →
              wpAny (model X.prog X.w) X.A (do bindName X.env n .none; unbindBehindTheSuite X.env n pos') (fun _ s7 => Q s7) X.xe s6 := fun {σ6 H6 Q} S6 hq => gone_ok (S6.unsuite ok) hN hi hln hq
          cases f with
          | next =>
            obtain ⟨σ6, H6, S6, q6⟩ := hsp
            exact end_ S6 fun s7 J7 => ⟨_, _, J7, q6⟩
          | brk =>
            obtain ⟨σ6, H6, S6, q6⟩ := hsp
            exact end_ S6 fun s7 J7 => ⟨_, _, J7, q6⟩
          | cont =>
            obtain ⟨σ6, H6, S6, q6⟩ := hsp
            exact end_ S6 fun s7 J7 => ⟨_, _, J7, q6⟩
          | ret u =>
            obtain ⟨v6, σ6, H6, S6, r6, q6⟩ := hsp
            exact end_ S6 fun s7 J7 => ⟨_, _, _, J7, r6, q6⟩
        | false =>
          show wpAny _ X.A (handleBy (.ref a) X.env hds2) _ _ _
          exact ih (hno rfl) s3 fl3 up3 os3 ag3
      | @two x1 x2 c1 c2 ts b₀ suite p1 p2 tp pos' kk hds2 l2 hc1 hc2 hsu r ih =>
        intro w s3 fl3 up3 os3 ag3
        obtain ⟨b, hb1, hyes, hno⟩ := w
        obtain ⟨oe3, vs3, he3, hz3, hd3⟩ := fl3.there
        have J3 : Inv X pins σ' H' s3 := J.landed nb fl3.1 up3 os3 ag3
        have S3 := J3.suite he3 hd3 na nL nF
        refine wpAny_handleBy_cons (codeAny_handlers_test ?_) (by intro q; cases q)
        have test : ∀ {x : Str} {c : Value} {np : Pos}, Names X x c → ∀ {Q : Value → Shared → Prop} {E : Value → Shared → Prop}, Q c s3 → wpAny (model X.prog X.w) (X.A.mark (some (.ref a))) (eval (.Name x np) X.env) Q E s3 := fun {x c np} hc {Q E} q => by
          obtain ⟨hg, hdbg, hm | ⟨hm, hv, hnn⟩⟩ := hc
          · exact ld_glob (X := X.suite a ((a, oe3) :: (X.pn ++ pins))) S3 hg hm q hdbg
          · exact ld_blt (X := X.suite a ((a, oe3) :: (X.pn ++ pins))) S3 hg hm hv q hnn hdbg
        refine wpAny_Tuple_spliced (PyProof.Rows.spliced_more (test hc1 (PyProof.Rows.spliced_more (test hc2 (PyProof.Rows.spliced_none ⟨by show 2 ≤ sizeLine; decide, ?_⟩)))))
        have fl4 := flying_push { cls := .type "tuple", data := .seq [c1, c2].toArray } fl3
        have up4 : sI.heap.UpToSlots (s3.heap.push { cls := .type "tuple", data := .seq [c1, c2].toArray }) := up3.trans (Heap.UpToSlots.of_keeps fun b o e => Heap.get?_push_of_some _ e)
        have J4 : Inv X pins σ' H' { s3 with heap := s3.heap.push { cls := .type "tuple", data := .seq [c1, c2].toArray } } := J.landed nb fl4.1 up4 os3 ag3
        have he4 : (s3.heap.push { cls := .type "tuple", data := .seq [c1, c2].toArray }).get? a = some oe3 := Heap.get?_push_of_some _ he3
        have LT : PySem.W.Looks (model X.prog X.w) (s3.heap.push { cls := .type "tuple", data := .seq [c1, c2].toArray }) (typeOf (.ref a)) cls := fun A Q E s k q => wpAny_typeOf_ref (k _ _ he4) (by rw [hz3.1]; exact q)
        have LM := PySem.W.exm_tup2 (M := model X.prog X.w) (J4.kIn) LT (Heap.get?_push_size _ rfl) hb1
        refine LM.here ?_
        cases b with
        | true =>
          refine codeAny_handlers_suite_as ?_
          refine HandSPX.lands_againZ fl4 fun h4 fl4 up5 => ?_
          have J4 : Inv X pins σ' H' { s3 with heap := h4 } := J.landed nb fl4.1 (up4.trans up5) os3 ag3
          obtain ⟨oe4, vs4, he4, hz4, hd4⟩ := fl4.there
          have S4 := J4.suite he4 hd4 na nL nF
          refine store_ok (X := X.suite a ((a, oe4) :: (X.pn ++ pins))) (v := .ref a) S4 hN hi hloc rfl (fun s5 S5 => ?_) (.inr hln)
          refine wpAny_mono ((hsu a oe4 cls d (X.pn ++ pins) hz4 ⟨_, hd4⟩).run [] s5 _ H' _ S5 (hyes rfl a na J.len)) (fun f s6 hsp => ?_) (fun _ _ z => False.elim z)
          have end_ : ∀ {σ6 : L2.St} {H6 : Hp} {Q : Shared → Prop}, Inv (X.suite a ((a, oe4) :: (X.pn ++ pins))) [] σ6 H6 s6 → (∀ s7, Inv X pins (σ6.set i none) H6 s7 → Q s7) →
              wpAny (model X.prog X.w) X.A (do bindName X.env n .none; unbindBehindTheSuite X.env n pos') (fun _ s7 => Q s7) X.xe s6 := fun {σ6 H6 Q} S6 hq => gone_ok (S6.unsuite ok) hN hi hln hq
          cases f with
          | next =>
            obtain ⟨σ6, H6, S6, q6⟩ := hsp
            exact end_ S6 fun s7 J7 => ⟨_, _, J7, q6⟩
          | brk =>
            obtain ⟨σ6, H6, S6, q6⟩ := hsp
            exact end_ S6 fun s7 J7 => ⟨_, _, J7, q6⟩
          | cont =>
            obtain ⟨σ6, H6, S6, q6⟩ := hsp
            exact end_ S6 fun s7 J7 => ⟨_, _, J7, q6⟩
          | ret u =>
            obtain ⟨v6, σ6, H6, S6, r6, q6⟩ := hsp
            exact end_ S6 fun s7 J7 => ⟨_, _, _, J7, r6, q6⟩
        | false =>
          show wpAny _ X.A (handleBy (.ref a) X.env hds2) _ _ _
          exact ih (hno rfl) { s3 with heap := s3.heap.push { cls := .type "tuple", data := .seq [c1, c2].toArray } } fl4 up4 os3 ag3
    exact go hh w { s' with heap := h3 } fl3 (up.trans up3) os ag
  · cases f with
    | next =>
      obtain ⟨σ', H', J', q⟩ := hsp
      exact wpAny_execs_nil ⟨σ', H', J'.ofTry ok, q⟩
    | brk =>
      obtain ⟨σ', H', J', q⟩ := hsp
      exact ⟨σ', H', J'.ofTry ok, q⟩
    | cont =>
      obtain ⟨σ', H', J', q⟩ := hsp
      exact ⟨σ', H', J'.ofTry ok, q⟩
    | ret u =>
      obtain ⟨v, σ', H', J', r, q⟩ := hsp
      exact ⟨v, σ', H', J'.ofTry ok, r, q⟩
end
open L2H
/-- the promise hangs on the error's address and object -/
structure FnP (P : Program) (w : World) (K : PySem.W.Frag) (mg : Str → Option Value) (base : Heap) (k : Nat) (f : Addr) (fd : FuncData) (ps : List Str) (sp : Addr × Obj → Sp) : Prop where
  len : ∀ p vs H Q E, sp p vs H Q E → vs.length = ps.length
  run : ∀ (A : Around) (outer : List Env) (s : Shared) (H : Hp) (args : Args) (us : List Value) (vs : List V) (Q : VK) (E : XK) (p : Addr × Obj), RoomH k A → PinOk outer H s p → Env0 P w K mg base A outer s H → BindsTo s fd args (ps.zip us) → Vals vs us → sp p vs H Q E →
    codeAny (model P w) A (.call (.ref f) args) (CR CX0 outer P w H s Q E) s
theorem fn_ofP {P : Program} {w : World} {K : PySem.W.Frag} {mg : Str → Option Value} {base : Heap} {k : Nat} {f : Addr} {name qual : Str} {params : Arguments} {body : List Stmt} {scope : Scope} {dV kV doc pm cdv ct oc : Value} {an od : Option Addr}
    {osl : Array (Option Value)} {N ps : List Str} {sp : Addr × Obj → Sp} (lk : K.lookup f = some ⟨oc, od, .func (PySem.W.fnOf name qual params body scope dV kV doc pm an cdv ct), osl⟩) (hcd : PySem.W.codeIn K cdv qual = true) (S : FnScope N ps scope)
    (len : ∀ p vs H Q E, sp p vs H Q E → vs.length = ps.length)
    (hbody : ∀ (A : Around) (outer : List Env) (s : Shared) (H : Hp) (vs : List V) (Q : VK) (E : XK) (p : Addr × Obj), RoomH k (A.deeper (envOfC qual scope s.heap.objs.size f cdv)) → sp p vs H Q E →
      ∃ t, PSs (cxH CX0 P w K mg base N qual scope f cdv A outer s H E p) body t ∧ t { nx := fun _ H' => Q .non H', rt := Q } (L2.start N vs) H) :
    FnP P w K mg base (k + 1) f (PySem.W.fnOf name qual params body scope dV kV doc pm an cdv ct) ps sp := by
  refine ⟨len, fun A outer s H args us vs Q E p hr hpin e0 hb r hsp => ?_⟩
  have hl := len _ _ _ _ _ hsp
  have KX : K.In s.heap := e0.mod.kin.keeps fun b o e => (e0.bs b o e).1
  have lim : s.heap.NoLimit := e0.mod.nolimit.keeps fun b o e => (e0.bs b o e).1
  have hkind : ∀ y ∈ ps.zip us, scope.names.lookup y.1 = some .local ∨ (scope.names.lookup y.1 = some .cell ∧ ((cellsFrom (s.heap.objs.size + 1) scope.names []).lookup y.1).isSome = true) := fun ⟨n, v⟩ hy => by
    rcases S.par n (List.of_mem_zip hy).1 with q | q
    · exact .inl q
    · exact .inr ⟨q, PySem.W.cellsFrom_some _ _ _ (.inl q)⟩
  refine codeAny_call_function hr.depth (KX _ _ lk) rfl S.co S.gen rfl (PySem.W.codeRec_of KX hcd) (hb _ _ _ _ ?_)
  refine wpAny_newFunctionEnv_cells S.kind hkind fun env he s1 x => ?_
  subst he
  refine ⟨lim.keeps x.toInCall.keep, codeAny_func ?_⟩
  obtain ⟨t, ht, hq⟩ := hbody A outer s H vs Q E p (hr.deeper _) hsp
  have I : Inv (cxH CX0 P w K mg base N qual scope f cdv A outer s H E p) [] (L2.start N vs) H s1 := inv_startH S hpin e0 hl r x
  refine wpAny_mono (ht.run [] s1 (L2.start N vs) H _ I hq) (fun fl s' hs => ?_) fun e s' hs => hs
  have fin : ∀ {σ' : L2.St} {H' : Hp} {v : V} {u : Value}, Inv (cxH CX0 P w K mg base N qual scope f cdv A outer s H E p) [] σ' H' s' → RelV v u → Q v H' → CE outer P w H s Q u s' :=
    fun {σ' H' v u} J rv q => ⟨v, H', J.os, J.bare, J.base, J.hok, rv, q⟩
  cases fl with
  | ret u =>
    obtain ⟨v, σ', H', J, rv, q⟩ := hs
    exact fin J rv q
  | next =>
    obtain ⟨σ', H', J, q⟩ := hs
    exact fin (v := V.non) (u := Value.none) J rfl q
  | brk =>
    obtain ⟨_, _, _, q⟩ := hs
    exact False.elim q
  | cont =>
    obtain ⟨_, _, _, q⟩ := hs
    exact False.elim q
section
variable {X : Cx} {k : Nat} {f : Addr} {fd : FuncData} {ps : List Str} {sp : Addr × Obj → Sp} {x : Str} {q pos : Pos} {e : Expr} {es : List Expr} {t : TA} {p : Addr × Obj}
/-- isinstance(e, c) of a pinned error -/
structure PinIs (p : Addr × Obj) (D : Addr) (H : Hp) : Prop where
  cls : p.2.cls = .ref D
  fld : ∃ vs, p.2.data = .fields vs
  dic : p.2.dict = none ∨ ∃ (dd : Addr) (fs : List (Str × V)), p.2.dict = some dd ∧ H dd = some (.xd fs)
theorem PinIs.same {D : Addr} {H H' : Hp} (h : PinIs p D H) (s : Same H H') : PinIs p D H' := ⟨h.cls, h.fld, h.dic.elim .inl fun ⟨dd, fs, a, b⟩ => .inr ⟨dd, fs, a, s _ _ b⟩⟩
def rPin (K : PySem.W.Frag) (p : Addr × Obj) : List V → Hp → VK → Prop := fun xs H Q => ∃ (D : Addr) (c : V) (u : Value) (b : Bool), xs = [.ref p.1, c] ∧ PinIs p D H ∧ ExcC K D ∧ ClsV c u ∧ PySem.W.kitOne K (.ref D) u = some b ∧ Q (.bl b) H
theorem pin_inst {pins : List (Addr × Obj)} {σ : L2.St} {H : Hp} {s : Shared} {D : Addr} (hp : p ∈ X.pn) (I : Inv X pins σ H s) (o : PinIs p D H) : ∃ od, PySem.W.InstAt s.heap p.1 p.2 D od := by
  obtain ⟨hget, _⟩ := I.pin p (List.mem_append_left _ hp)
  obtain ⟨vs, hv⟩ := o.fld
  have hno : PySem.W.notCls p.2 = true := by
    unfold PySem.W.notCls
    rw [hv]
  rcases o.dic with e | ⟨dd, fs, e, hd⟩
  · exact ⟨none, hget, o.cls, hno, by rw [e]; trivial⟩
  · have hx : ObjOk X.prog X.w H s.heap dd (.xd fs) := I.hok dd _ hd
    obtain ⟨mA, hns, _⟩ := hx
    obtain ⟨od, ho, _⟩ := lookIn_ns hns
    exact ⟨some od, hget, o.cls, hno, by rw [e]; exact ho⟩
theorem kitP {K : PySem.W.Frag} {D x : Addr} {ox : Obj} {od : Option Obj} (c : ExcC K D) : PySem.W.KitX K (.ref x) (.ref D) (fun h => PySem.W.InstAt h x ox D od) := ExIs.kitD c
theorem call_pin (hp : p ∈ X.pn) : CallR X (.builtin "isinstance") (rPin X.K p) := by
  intro pins s σ H xs us Q I r h
  obtain ⟨D, c, u, b, rfl, o, C, k, e, q⟩ := h
  obtain ⟨od, J⟩ := pin_inst hp I o
  obtain ⟨u1, u2, rfl, r1, r2⟩ := vals2 r
  cases (show u1 = Value.ref p.1 from r1)
  cases k.eq r2
  exact PySem.W.kia_one (kitP C) I.kIn J e (fun z => nomatch z) fun tk => ⟨.bl b, H, I.tok tk, rfl, q⟩
end
/-- xs.count(d) -/
def rCntL (K : PySem.W.Frag) : V → List V → Hp → VK → Prop := fun x xs H Q => ∃ (p : Addr) (v : V) (ds : List PyData) (d : PyData), x = .ref p ∧ xs = [v] ∧ Dp K H (.ref p) (.list ds) ∧ Dp K H v d ∧ SeqAt.shaped (.list ds) = true ∧ SeqAt.shaped d = true ∧ Q (.int ((ds.countP fun y => PyData.eqv y d : Nat) : Int)) H
theorem mt_lcountD {X : Cx} (hu : X.A.units + 65 < cLine) : MtR X "list.count" (rCntL X.K) := by
  intro pins s σ H x xs v us Q I rx rxs h
  obtain ⟨p, y, ds, d, rfl, rfl, hd, he, sd, se, q⟩ := h
  cases rx
  obtain ⟨u, rfl, ru⟩ := rxs.one
  obtain ⟨as, r1⟩ := Dp.reads I (.list ds) (.ref p) _ hd (by rfl)
  obtain ⟨bs, r2⟩ := Dp.reads I d y u he ru
  cases r1 with
  | list h1 h2 h3 h4 => exact SeqAt.count_list_data ⟨_, h1, h2, _, h3⟩ h4 r2 (PyData.plainAll_of_canLay0 _ (SeqAt.canLay_of_shaped sd)) (PyData.plain_of_canLay0 _ (SeqAt.canLay_of_shaped se)) (PyProof.Rows.room_in_shaped se hu) ⟨.int _, H, I.tok _, ⟨_, rfl⟩, q⟩
end TryAs
namespace TryAs
open PySem PySem.Spec PyProof.Rows L2 L2H
section
variable {Y : Cx} {k : Nat} {f : Addr} {fd : FuncData} {ps : List Str} {sp : Addr × Obj → Sp} {x : Str} {q pos : Pos} {e : Expr} {es : List Expr} {t : TA}
def tCallZ (sp : Addr × Obj → Sp) (a : Addr) (cls : Value) (d : Option Addr) (t : TA) : TE := fun σ H Q => t σ H fun vs H1 => ∀ oe, Zc cls d oe → (∃ vs, oe.data = .fields vs) → sp (a, oe) vs H1 Q (fun _ _ _ => False)
/-- x(e, ..) in an except suite, the caught error handed in -/
theorem pe_callZ {a : Addr} {oe : Obj} {cls : Value} {d : Option Addr} {pn : List (Addr × Obj)} (hz : Zc cls d oe) (hf : ∃ vs, oe.data = .fields vs) (F : FnP Y.prog Y.w Y.K Y.mg Y.base k f fd ps sp) (hr : RoomH k Y.A) (hg : Gl Y x) (hm : Y.mg x = some (.ref f)) (hk : PySem.W.keepIn Y.K (.ref f) = true) (hb : Binds Y.K fd ps [])
    (ha : PA (Y.suite a ((a, oe) :: pn)) (e :: es) t) (hdb : (x == ("__debug__" : Str)) = false := by decide) (he : starEach (e :: es) Y.env = (false, eval e Y.env) :: starEach es Y.env := by rfl) (hpl : (backTo pos (starEach es Y.env)).any (·.1) = false := by rfl) :
    PE (Y.suite a ((a, oe) :: pn)) (.Call (.Name x q) (e :: es) [] pos) (tCallZ sp a cls d t) := by
  refine ⟨fun pins s σ H Q I h => ?_⟩
  refine wpAny_Call_Name_kw (ld_glob I hg hm ?_ hdb)
  refine PySem.W.callWith_K (h₀ := Y.base) I.ok.mod.kin hk (thn (ha.run pos pins s σ H _ I h) fun us s1 ⟨vs, H1, I1, r, q⟩ => ⟨I1.kIn, ?_⟩) he hpl
  have q := q oe hz hf
  have hl : us.length = ps.length := by rw [← r.length]; exact F.len _ _ _ _ _ q
  have b := hb s1 us I1.kIn (by rw [List.append_nil]; exact hl)
  rw [List.append_nil] at b
  have P1 := I1.pin (a, oe) (List.mem_append_left _ List.mem_cons_self)
  have hpin : PinOk Y.stack H1 s1 (a, oe) := ⟨P1.1, P1.2.1, fun hm => (List.mem_cons.mp (I1.stkSub a hm)).elim P1.2.2.1 P1.2.2.2.1, P1.2.2.2.2⟩
  refine wpAny_call (codeAny_mono (F.run _ Y.stack s1 H1 ⟨us, []⟩ us vs Q _ (a, oe) ⟨hr.dp, hr.un⟩ hpin I1.env0 b r q) fun r s' hq => ?_)
  cases r with
  | error e => exact (show False from hq).elim
  | ok fl =>
    cases fl with
    | ret u => exact I1.after hq
    | next => exact False.elim hq
    | brk => exact False.elim hq
    | cont => exact False.elim hq
end
end TryAs
namespace TryAs
open PySem PySem.Spec PyProof.Rows L2
/-- err.n in a suite, whatever own class it is of -/
def tXfZ (K : PySem.W.Frag) (a : Addr) (cls : Value) (d : Option Addr) (n : Str) (te : TE) : TE := fun σ H Q => te σ H fun x H1 => x = .ref a ∧ ∃ C, cls = .ref C ∧ XfC K C ∧ PySem.W.findIn K (.ref C) n = some none ∧ ∃ (dd : Addr) (fs : List (Str × V)) (v : V), d = some dd ∧ H1 dd = some (.xd fs) ∧ fs.lookup n = some v ∧ Q v H1
theorem pe_xfZ {X : Cx} {a : Addr} {oe : Obj} {cls : Value} {d : Option Addr} {pn : List (Addr × Obj)} {e : Expr} {te : TE} {pos : Pos} {n : Str}
    (hz : Zc cls d oe) (hf : ∃ vs, oe.data = .fields vs) (he : PE (X.suite a ((a, oe) :: pn)) e te) (hb : attributeBase e n X.env (eval e X.env) = eval e X.env := by rfl) :
    PE (X.suite a ((a, oe) :: pn)) (.Attribute e n pos) (tXfZ X.K a cls d n te) := by
  refine ⟨fun pins s σ H Q I h => ?_⟩
  refine attr_of hb (thn (he.run pins s σ H _ I h) fun u s1 hh => ?_)
  obtain ⟨x, H1, I1, rx, ex, C, ec, T, hno, dd, fs, v, ed, ea, l, q⟩ := hh
  subst ex
  obtain rfl : u = Value.ref a := rx
  subst ec
  subst ed
  obtain ⟨ha, _⟩ := I1.pin (a, oe) (List.mem_append_left _ List.mem_cons_self)
  obtain ⟨vs, hd⟩ := hf
  have hx : ObjOk X.prog X.w H1 s1.heap dd (.xd fs) := I1.hok dd _ ea
  obtain ⟨mA, hns, hr⟩ := hx
  obtain ⟨od, ho, hl⟩ := lookIn_ns hns
  obtain ⟨u, hu, ru⟩ := RelO.some_of (v := v) (o := mA n) (by rw [← l]; exact hr n)
  have J : PySem.W.InstAt s1.heap a oe C (some od) := ⟨ha, hz.1, by unfold PySem.W.notCls; rw [hd] <;> rfl, by rw [hz.2]; exact ho⟩
  exact HandSPX.exc_get I1.kIn J T.ga T.gg T.exC (PySem.W.findObj_own T.hdC hno rfl (by rw [hl, hu])) (handed_of ru) ⟨v, H1, I1.tok _, ru, q⟩
end TryAs
namespace SetBy
open PySem PySem.Spec PyProof.Rows L2
/-- a set that fills: S where it lies, h0 the heap ahead of the call -/
structure Under (P : Program) (w : World) (A : Around) (h0 : Heap) (S : Addr) (items : Array Value) (SS : Nat → Heap → Prop) : Prop where
  keep : ∀ i h h', SS i h → (∀ o, h.get? S = some o → h'.get? S = some o) → (∀ b o, h0.get? b = some o → h'.get? b = some o) → SS i h'
  add : ∀ (i : Nat) (v : Value) (s : Shared) (E : Value → Shared → Prop) (Q : Bool → Shared → Prop), items[i]? = some v → SS i s.heap → (∀ b o, h0.get? b = some o → s.heap.get? b = some o) →
    (∀ (b : Bool) (h' : Heap) (tk : Nat), s.toks ≤ tk → Heap.SameBut S s.heap h' → SS (i + 1) h' → Q b { s with heap := h', toks := tk }) → wpAny (model P w) A (setAdd S v) Q E s
abbrev freshSet (w : World) : Obj := { cls := .type "set", dict := none, data := .set #[] 0 (.fresh 0 0 (!w.params.followText "set-order")) }
section
variable {P : Program} {w : World} {A : Around} {E : Value → Shared → Prop} {s : Shared}
theorem fills {I : Addr} {fp wr : List Addr} {G : Array GenState → Array GenState → Prop} {n : Nat} {Pv : Nat → Value → Prop} {St : Nat → Shared → Prop} {R : Result → Shared → Prop} {h0 : Heap} {S : Addr} {items : Array Value} {SS : Nat → Heap → Prop}
    (W : WalksS P w A.in1 I fp wr G n Pv St) (U : Under P w A.in1 h0 S items SS) (hSf : S ∉ fp) (hPv : ∀ i v, Pv i v → items[i]? = some v) (hS0 : h0.get? S = none) (hw0 : ∀ b ∈ wr, h0.get? b = none) (k : Nat) :
    ∀ (i : Nat) (s : Shared), n - i = k → i ≤ n → St i s → (∀ b o, h0.get? b = some o → s.heap.get? b = some o) → SS i s.heap →
      (∀ s', Moved (S :: wr) G s s' → SS n s'.heap → (∀ b o, h0.get? b = some o → s'.heap.get? b = some o) → R (.ok (.ret .none)) s') →
      codeAny (model P w) A (.builtin "set.update.loop" ⟨[.ref S, .ref I], []⟩) R s := by
  have nin : S ∉ wr := fun h => hSf (W.sub _ h)
  have wider : ∀ b ∈ wr, b ∈ S :: wr := fun b hb => .tail _ hb
  have old : ∀ {s s' : Shared}, Moved wr G s s' → (∀ b o, h0.get? b = some o → s.heap.get? b = some o) → ∀ b o, h0.get? b = some o → s'.heap.get? b = some o := fun m hk b o e =>
    m.heap b o (fun hb => by have := hw0 b hb; rw [this] at e; cases e) (hk b o e)
  induction k with
  | zero =>
    intro i s hk le hst ho hs hR
    obtain rfl : i = n := by omega
    refine codeAny_builtin F.entry_set_update_loop ?_
    rw [Around.under_plainId F.plain_set_update_loop _]
    refine wpAny_bind (W.done s _ _ hst fun s' m => wpAny_pure ?_)
    exact hR s' (m.mono wider) (U.keep _ _ _ hs (fun o e => m.heap S o nin e) (old m ho)) (old m ho)
  | succ k ih =>
    intro i s hk le hst ho hs hR
    have lt : i < n := by omega
    refine codeAny_builtin F.entry_set_update_loop ?_
    rw [Around.under_plainId F.plain_set_update_loop _]
    refine wpAny_bind (W.item i s _ _ lt hst fun v s' hv hst' m => ?_)
    have ho' := old m ho
    have hs' := U.keep _ _ _ hs (fun o e => m.heap S o nin e) ho'
    show wpAny _ A.in1 (holding [v] (setAdd S v) >>= _) _ _ s'
    refine wpAny_bind (wpAny_holding (U.add i v s' _ _ (hPv i v hv) hs' ho' fun b h' tk le' sb hs2 => ?_))
    have ho2 : ∀ b o, h0.get? b = some o → h'.get? b = some o := fun b o e => (sb.2 b fun z => by rw [z, hS0] at e; cases e).trans (ho' b o e)
    have st2 : St (i + 1) { s' with heap := h', toks := tk } := W.frame _ s' _ _ hst' le' fun b hb o e => (sb.2 b fun z => hSf (by rw [← z]; exact hb)).trans e
    refine wpAny_pure ⟨plainId_quiet F.plain_set_update_loop _, ih (i + 1) _ (by omega) lt st2 ho2 hs2 fun s2 m2 hs3 ho3 => hR s2 (Moved.trans W.gtrans ((m.mono wider).then_heap le' fun b o hb e => ?_) m2) hs3 ho3⟩
    exact (sb.2 b fun z => hb (by rw [z]; exact .head _)).trans e
set_option maxHeartbeats 8000000 in
/-- set(xs), xs a tuple -/
theorem call_tup {l : Addr} {items : Array Value} {SS : Nat → Heap → Prop} {Q : Value → Shared → Prop} (hh : A.handled = none) (hl : s.heap.IsTuple l items) (U : Under P w A.in1.in1.in1 s.heap s.heap.objs.size items SS)
    (fresh : ∀ h, h.get? s.heap.objs.size = some (freshSet w) → (∀ b o, s.heap.get? b = some o → h.get? b = some o) → SS 0 h)
    (h : ∀ (h' : Heap) (tk : Nat), SS items.size h' → (∀ b o, s.heap.get? b = some o → h'.get? b = some o) → Q (.ref s.heap.objs.size) { s with heap := h', toks := tk }) :
    wpAny (model P w) A (call (.type "set") [.ref l]) Q E s := by
  have F1 := F.called_set.notType
  have F2 := F.called_set.canCreate
  have F3 := F.typeCall_set_1 (.ref l)
  have F4 := F.called_set.made
  have F5 := F.called_set.sub
  obtain ⟨c, tl, F6⟩ := F.called_set.mro
  have lS : l < s.heap.objs.size := Heap.lt_size (show ∃ o, s.heap.get? l = some o from hl.elim fun o x => ⟨o, x.1⟩).choose_spec
  -- the class is called: its __new__, its __init__
  refine wpAny_call (codeAny_of_tree ?_)
  show wpAny _ _ (callAny (.type "set") _) _ _ _
  refine wpAny_pure ⟨Code.quiet_builtin _ (by decide +kernel), codeAny_builtin F.entry_type_call ?_⟩
  rw [Around.under_plain (weight_type_call_type "set" [.ref l] []) rfl]
  repeat (any_goals (first | assumption | wp_step))
  refine codeAny_mono (code_set_led1 (.ref l) (E := E) (Q₁ := fun r s₁ => r = .ref s.heap.objs.size ∧ s₁ = { s with heap := s.heap.push (freshSet w) }) ⟨rfl, rfl⟩) fun r s₁ hr => ?_
  match r, hr with
  | .error e, hr => exact hr
  | .ok (.ret obj), hr =>
    obtain ⟨rfl, rfl⟩ := hr
    have there : (s.heap.push (freshSet w)).get? s.heap.objs.size = some (freshSet w) := Heap.get?_push_size _ rfl
    have F7 := F.called_set.init.lookup
    have F8 := F.called_set.init.bind (.ref s.heap.objs.size)
    have isSet : Shared.TypeIs { s with heap := s.heap.push (freshSet w) } (.ref s.heap.objs.size) "set" := ⟨_, there, rfl⟩
    repeat (any_goals (first | assumption | wp_step))
    refine codeAny_mono (codeAny_call_builtin (R := wants (fun r s₂ => r = .none ∧ ∃ h' tk, s₂ = { s with heap := h', toks := tk } ∧ SS items.size h' ∧ ∀ b o, s.heap.get? b = some o → h'.get? b = some o) E) F.called_set.init.plain F.entry_set_init (check_set_init_1 isSet ?_)) fun r₂ s₂ hr₂ => ?_
    · obtain ⟨⟨ocls, odict, odata, oslots⟩, ho, hc, nl, hd⟩ := hl
      dsimp only at hc hd
      subst hc hd
      have hl1 : (s.heap.push (freshSet w)).IsTuple l items := ⟨_, Heap.get?_push_of_some _ ho, rfl, nl, rfl⟩
      have ho1 : (s.heap.push (freshSet w)).get? l = some { cls := .type "tuple", dict := odict, data := .seq items nl, slots := oslots } := Heap.get?_push_of_some _ ho
      have N1 := F.sub_tuple_set
      have N2 := F.sub_tuple_frozenset
      have N3 : (Value.type "tuple" == Value.type "dict") = false := by decide
      unfold Builtin.«set.__init__» noKeywords Builtin.Frozenset.updateFrom
      generalize hPI : pyIter = PI
      wp_walk
      subst hPI
      refine wpAny_pyIter_tuple hl1 ?_
      refine wpAny_bind (wpAny_runValue ?_)
      have hh3 : A.in1.in1.in1.handled = none := hh
      have sz1 : (s.heap.push (freshSet w)).objs.size = s.heap.objs.size + 1 := Heap.size_push ..
      have new1 : s.heap.get? s.heap.objs.size = none := by
        cases e : s.heap.get? s.heap.objs.size with
        | none => rfl
        | some o => exact absurd (Heap.lt_size e) (Nat.lt_irrefl _)
      have new2 : s.heap.get? (s.heap.push (freshSet w)).objs.size = none := by
        cases e : s.heap.get? (s.heap.push (freshSet w)).objs.size with
        | none => rfl
        | some o => exact absurd (Nat.lt_trans (Nat.lt_of_lt_of_eq (Nat.lt_succ_self _) sz1.symm) (Heap.lt_size e)) (Nat.lt_irrefl _)
      have d1 : l ≠ (s.heap.push (freshSet w)).objs.size := fun z => absurd (z ▸ sz1 : l = s.heap.objs.size + 1) (Nat.ne_of_lt (Nat.lt_succ_of_lt lS))
      have d2 : s.heap.objs.size ∉ [(s.heap.push (freshSet w)).objs.size, l] := fun z => by
        rcases List.mem_cons.mp z with z | z
        · exact absurd (z.trans sz1) (Nat.ne_of_lt (Nat.lt_succ_self _))
        · exact absurd (List.mem_singleton.mp z) (Nat.ne_of_gt lS)
      refine fills ((Walks.tuple hh3 _ l d1 items).toS) U d2 (fun _ _ z => z) new1 (fun b hb => by rw [List.mem_singleton.mp hb]; exact new2) (items.size - 0) 0 _ rfl (Nat.zero_le _) ⟨⟨_, Heap.get?_push_size _ rfl, rfl, rfl⟩, hl1.push _⟩ (fun b o e => Heap.get?_push_of_some _ (Heap.get?_push_of_some _ e)) (fresh _ (Heap.get?_push_of_some _ there) fun b o e => Heap.get?_push_of_some _ (Heap.get?_push_of_some _ e)) fun s' m hs ho' => ?_
      obtain ⟨h', g', d', tk', os'⟩ := s'
      obtain rfl : g' = s.gens := m.gens
      obtain rfl : d' = s.drawn := m.drawn
      obtain rfl : os' = s.os := m.os
      exact wpAny_pure (wpAny_pure ⟨rfl, h', tk', rfl, hs, ho'⟩)
    · match r₂, hr₂ with
      | .error e, hr₂ => exact hr₂
      | .ok (.ret r), hr₂ =>
        obtain ⟨rfl, h', tk, rfl, hs, ho'⟩ := hr₂
        repeat (any_goals (first | assumption | wp_step))
        exact h _ _ hs ho'
      | .ok .next, hr₂ => exact hr₂.elim
      | .ok .brk, hr₂ => exact hr₂.elim
      | .ok .cont, hr₂ => exact hr₂.elim
  | .ok .next, hr => exact hr.elim
  | .ok .brk, hr => exact hr.elim
  | .ok .cont, hr => exact hr.elim
set_option maxHeartbeats 8000000 in
/-- set(xs), xs a list -/
theorem call_lst {l : Addr} {items : Array Value} {SS : Nat → Heap → Prop} {Q : Value → Shared → Prop} (hh : A.handled = none) (hl : s.heap.IsList l items) (U : Under P w A.in1.in1.in1 s.heap s.heap.objs.size items SS)
    (fresh : ∀ h, h.get? s.heap.objs.size = some (freshSet w) → (∀ b o, s.heap.get? b = some o → h.get? b = some o) → SS 0 h)
    (h : ∀ (h' : Heap) (tk : Nat), SS items.size h' → (∀ b o, s.heap.get? b = some o → h'.get? b = some o) → Q (.ref s.heap.objs.size) { s with heap := h', toks := tk }) :
    wpAny (model P w) A (call (.type "set") [.ref l]) Q E s := by
  have F1 := F.called_set.notType
  have F2 := F.called_set.canCreate
  have F3 := F.typeCall_set_1 (.ref l)
  have F4 := F.called_set.made
  have F5 := F.called_set.sub
  obtain ⟨c, tl, F6⟩ := F.called_set.mro
  have lS : l < s.heap.objs.size := Heap.lt_size (show ∃ o, s.heap.get? l = some o from hl.elim fun o x => ⟨o, x.1⟩).choose_spec
  -- the class is called: its __new__, its __init__
  refine wpAny_call (codeAny_of_tree ?_)
  show wpAny _ _ (callAny (.type "set") _) _ _ _
  refine wpAny_pure ⟨Code.quiet_builtin _ (by decide +kernel), codeAny_builtin F.entry_type_call ?_⟩
  rw [Around.under_plain (weight_type_call_type "set" [.ref l] []) rfl]
  repeat (any_goals (first | assumption | wp_step))
  refine codeAny_mono (code_set_led1 (.ref l) (E := E) (Q₁ := fun r s₁ => r = .ref s.heap.objs.size ∧ s₁ = { s with heap := s.heap.push (freshSet w) }) ⟨rfl, rfl⟩) fun r s₁ hr => ?_
  match r, hr with
  | .error e, hr => exact hr
  | .ok (.ret obj), hr =>
    obtain ⟨rfl, rfl⟩ := hr
    have there : (s.heap.push (freshSet w)).get? s.heap.objs.size = some (freshSet w) := Heap.get?_push_size _ rfl
    have F7 := F.called_set.init.lookup
    have F8 := F.called_set.init.bind (.ref s.heap.objs.size)
    have isSet : Shared.TypeIs { s with heap := s.heap.push (freshSet w) } (.ref s.heap.objs.size) "set" := ⟨_, there, rfl⟩
    repeat (any_goals (first | assumption | wp_step))
    refine codeAny_mono (codeAny_call_builtin (R := wants (fun r s₂ => r = .none ∧ ∃ h' tk, s₂ = { s with heap := h', toks := tk } ∧ SS items.size h' ∧ ∀ b o, s.heap.get? b = some o → h'.get? b = some o) E) F.called_set.init.plain F.entry_set_init (check_set_init_1 isSet ?_)) fun r₂ s₂ hr₂ => ?_
    · obtain ⟨⟨ocls, odict, odata, oslots⟩, ho, hc, nl, hd⟩ := hl
      dsimp only at hc hd
      subst hc hd
      have hl1 : (s.heap.push (freshSet w)).IsList l items := ⟨_, Heap.get?_push_of_some _ ho, rfl, nl, rfl⟩
      have ho1 : (s.heap.push (freshSet w)).get? l = some { cls := .type "list", dict := odict, data := .seq items nl, slots := oslots } := Heap.get?_push_of_some _ ho
      have N1 := F.sub_list_set
      have N2 := F.sub_list_frozenset
      have N3 : (Value.type "list" == Value.type "dict") = false := by decide
      unfold Builtin.«set.__init__» noKeywords Builtin.Frozenset.updateFrom
      generalize hPI : pyIter = PI
      wp_walk
      subst hPI
      refine wpAny_pyIter_list hl1 ?_
      refine wpAny_bind (wpAny_runValue ?_)
      have hh3 : A.in1.in1.in1.handled = none := hh
      have sz1 : (s.heap.push (freshSet w)).objs.size = s.heap.objs.size + 1 := Heap.size_push ..
      have new1 : s.heap.get? s.heap.objs.size = none := by
        cases e : s.heap.get? s.heap.objs.size with
        | none => rfl
        | some o => exact absurd (Heap.lt_size e) (Nat.lt_irrefl _)
      have new2 : s.heap.get? (s.heap.push (freshSet w)).objs.size = none := by
        cases e : s.heap.get? (s.heap.push (freshSet w)).objs.size with
        | none => rfl
        | some o => exact absurd (Nat.lt_trans (Nat.lt_of_lt_of_eq (Nat.lt_succ_self _) sz1.symm) (Heap.lt_size e)) (Nat.lt_irrefl _)
      have d1 : l ≠ (s.heap.push (freshSet w)).objs.size := fun z => absurd (z ▸ sz1 : l = s.heap.objs.size + 1) (Nat.ne_of_lt (Nat.lt_succ_of_lt lS))
      have d2 : s.heap.objs.size ∉ [(s.heap.push (freshSet w)).objs.size, l] := fun z => by
        rcases List.mem_cons.mp z with z | z
        · exact absurd (z.trans sz1) (Nat.ne_of_lt (Nat.lt_succ_self _))
        · exact absurd (List.mem_singleton.mp z) (Nat.ne_of_gt lS)
      refine fills ((Walks.list hh3 _ l d1 items).toS) U d2 (fun _ _ z => z) new1 (fun b hb => by rw [List.mem_singleton.mp hb]; exact new2) (items.size - 0) 0 _ rfl (Nat.zero_le _) ⟨⟨_, Heap.get?_push_size _ rfl, rfl, rfl⟩, hl1.push _⟩ (fun b o e => Heap.get?_push_of_some _ (Heap.get?_push_of_some _ e)) (fresh _ (Heap.get?_push_of_some _ there) fun b o e => Heap.get?_push_of_some _ (Heap.get?_push_of_some _ e)) fun s' m hs ho' => ?_
      obtain ⟨h', g', d', tk', os'⟩ := s'
      obtain rfl : g' = s.gens := m.gens
      obtain rfl : d' = s.drawn := m.drawn
      obtain rfl : os' = s.os := m.os
      exact wpAny_pure (wpAny_pure ⟨rfl, h', tk', rfl, hs, ho'⟩)
    · match r₂, hr₂ with
      | .error e, hr₂ => exact hr₂
      | .ok (.ret r), hr₂ =>
        obtain ⟨rfl, h', tk, rfl, hs, ho'⟩ := hr₂
        repeat (any_goals (first | assumption | wp_step))
        exact h _ _ hs ho'
      | .ok .next, hr₂ => exact hr₂.elim
      | .ok .brk, hr₂ => exact hr₂.elim
      | .ok .cont, hr₂ => exact hr₂.elim
  | .ok .next, hr => exact hr.elim
  | .ok .brk, hr => exact hr.elim
  | .ok .cont, hr => exact hr.elim
end
end SetBy
namespace Stx
open PySem PySem.Spec PyProof.Rows L2
/-- c of the texts are unlike: all of them just where the list has none twice -/
def Held (P : Program) (w : World) (a : Addr) (ss : List Str) (h : Heap) : Prop := ∃ c, h.SetOf (PySem.strKind P w) a (fun k => decide (k ∈ ss)) c ∧ c ≤ ss.length ∧ (c = ss.length ↔ ss.Nodup)
theorem Held.at {P : Program} {w : World} {a : Addr} {ss : List Str} {h h' : Heap} (x : Held P w a ss h) (k : ∀ o, h.get? a = some o → h'.get? a = some o) : Held P w a ss h' := by
  obtain ⟨c, ⟨o, es, ep, t, ho, r⟩, q⟩ := x
  exact ⟨c, ⟨o, es, ep, t, k o ho, r⟩, q⟩
theorem nd_snoc {α : Type} {l : List α} {x : α} : (l ++ [x]).Nodup ↔ l.Nodup ∧ x ∉ l := by
  rw [List.nodup_append]
  constructor
  · rintro ⟨a, _, d⟩
    exact ⟨a, fun m => d x m x (List.mem_singleton.mpr rfl) rfl⟩
  · rintro ⟨a, d⟩
    exact ⟨a, by simp, fun y hy z hz e => d (by rw [← List.mem_singleton.mp hz, ← e]; exact hy)⟩
theorem str_at : ∀ {vs : List Value} {ss : List Str} {i : Nat} {v : Value}, StrsAre vs ss → vs[i]? = some v → ∃ x t, ss[i]? = some x ∧ v = .str x t
  | _, _, _, _, .nil, h => by simp at h
  | _, _, 0, _, .cons x t _, h => ⟨x, t, rfl, (Option.some.inj h).symm⟩
  | _, _, i + 1, _, .cons _ _ r, h => str_at (i := i) r h
section
variable {P : Program} {w : World} {A : Around} {h0 : Heap} {S : Addr} {items : Array Value} {ss : List Str}
theorem under (hit : StrsAre items.toList ss) (few : ss.length < 4000) : SetBy.Under P w A h0 S items (fun i => Held P w S (ss.take i)) where
  keep := fun i h h' x k _ => x.at k
  add := fun i v s E Q hv hs _ q => by
    obtain ⟨x, t, ex, rfl⟩ := str_at hit (by rw [Array.getElem?_toList]; exact hv)
    have il : i < ss.length := (List.getElem?_eq_some_iff.mp ex).1
    have tk : ss.take (i + 1) = ss.take i ++ [x] := by rw [List.take_add_one, ex]; rfl
    have tl : (ss.take i).length = i := by rw [List.length_take]; omega
    obtain ⟨c, hc, le, nd⟩ := hs
    rw [tl] at le nd
    unfold setAdd
    refine wpAny_holding (wpAny_bind ((PySem.strKind P w).pyHash (k := x) (strKind_is _ _ _ _) ?_))
    refine wpAny_setAddHashed_of (knd := PySem.strKind P w) (s := { s with toks := s.toks + 1 }) (strKind_is _ _ _ _) rfl hc (by unfold scanBound; omega) fun h' sb h2 => ?_
    refine q _ h' (s.toks + 1) (Nat.le_succ _) sb ⟨_, SetOf_congr h2 (fun k => ?_) rfl, ?_, ?_⟩
    · rw [tk]
      by_cases m : k ∈ ss.take i <;> by_cases e : k = x <;> simp [m, e]
    · rw [tk, List.length_append, tl]
      show (if decide (x ∈ ss.take i) = true then c else c + 1) ≤ i + 1
      split <;> omega
    · rw [tk, List.length_append, tl, nd_snoc, ← nd]
      show (if decide (x ∈ ss.take i) = true then c else c + 1) = i + 1 ↔ _
      by_cases m : x ∈ ss.take i
      · rw [if_pos (decide_eq_true m)]
        exact ⟨fun z => by omega, fun z => absurd m z.2⟩
      · rw [if_neg (by rw [decide_eq_false m]; exact Bool.false_ne_true)]
        exact ⟨fun z => ⟨by omega, m⟩, fun z => by omega⟩
theorem fresh0 {h : Heap} (e : h.get? S = some (SetBy.freshSet w)) : Held P w S (ss.take 0) h :=
  ⟨0, SetOf_congr ((setObjOf_fresh (knd := PySem.strKind P w) (!w.params.followText "set-order")).setOf e (by unfold scanBound; omega)) (fun k => by simp) rfl, Nat.le_refl _, by simp⟩
end
def SetTxO (P : Program) (w : World) (a : Addr) (ss : List Str) : HO := .ext (Held P w a ss)
theorem new {P : Program} {w : World} {H : Hp} {h : Heap} {a : Addr} {ss : List Str} (x : Held P w a ss h) : ObjOk P w H h a (SetTxO P w a ss) := by
  have ⟨c, ⟨o, es, ep, t, ho, r⟩, q⟩ := x
  exact ⟨x, ⟨o, ho⟩, fun h1 h2 y k => Held.at y k⟩
theorem strs_of_vals : ∀ {ss : List Str} {us : List Value}, Vals (ss.map V.str) us → StrsAre us ss
  | [], _, .nil => .nil
  | s :: ss, _, .cons r t => by
    obtain ⟨tk, rfl⟩ := r
    exact .cons s tk (strs_of_vals t)
section
variable {X : Cx}
def rSetTx (K : PySem.W.Frag) (P : Program) (w : World) : List V → Hp → VK → Prop := fun xs H Q => ∃ (l : Addr) (ss : List Str), xs = [V.ref l] ∧ (SqL K H l (ss.map V.str) ∨ SqT K H l (ss.map V.str)) ∧ ss.length < 4000 ∧ ∀ a, H a = none → Q (.ref a) (upd H a (SetTxO P w a ss))
theorem cr_setTx (hc : X.calm = true) : CallR X (.type "set") (rSetTx X.K X.prog X.w) := by
  intro pins s σ H xs us Q I r h
  obtain ⟨l, ss, rfl, hl, few, q⟩ := h
  rw [Vals.ref1 r]
  have hn : H s.heap.objs.size = none := I.hok.fresh (Nat.le_refl _)
  have fin : ∀ {items : Array Value} (h' : Heap) (tk : Nat), StrsAre items.toList ss → Held X.prog X.w s.heap.objs.size (ss.take items.size) h' → (∀ b o, s.heap.get? b = some o → h'.get? b = some o) → EP X pins σ Q (.ref s.heap.objs.size) { s with heap := h', toks := tk } := fun {items} h' tk hit x k => by
    have e : items.size = ss.length := by rw [← StrsAre.len_eq hit, Array.length_toList]
    rw [e, List.take_length] at x
    exact ⟨.ref s.heap.objs.size, upd H s.heap.objs.size (SetTxO X.prog X.w s.heap.objs.size ss), I.laid (t' := tk) k (Nat.le_refl _) (new x), rfl, q _ hn⟩
  rcases hl with hl | hl
  · obtain ⟨its, rv, pl, hz⟩ := I.list hl
    have hit : StrsAre its.toArray.toList ss := by simpa using strs_of_vals rv
    exact SetBy.call_lst (I.ok.hd hc) pl.isList (under hit few) (fun h e _ => fresh0 e) fun h' tk x k => fin h' tk hit x k
  · obtain ⟨its, rv, pl, hz⟩ := I.tuple hl
    have hit : StrsAre its.toArray.toList ss := by simpa using strs_of_vals rv
    exact SetBy.call_tup (I.ok.hd hc) pl (under hit few) (fun h e _ => fresh0 e) fun h' tk x k => fin h' tk hit x k
def rLenTx (P : Program) (w : World) : List V → Hp → VK → Prop := fun xs H Q => ∃ (a : Addr) (ss : List Str), xs = [.ref a] ∧ H a = some (SetTxO P w a ss) ∧ ∀ c : Nat, c ≤ ss.length → (c = ss.length ↔ ss.Nodup) → Q (.int c) H
theorem call_lenTx : CallR X (.builtin "len") (rLenTx X.prog X.w) := by
  intro pins s σ H xs us Q I r h
  obtain ⟨a, ss, rfl, ha, q⟩ := h
  rw [Vals.ref1 r]
  obtain ⟨c, ⟨o, es, ep, t, ho, hex, hd, hel, hmem, hb, hf, hn⟩, le, nd⟩ := (show Held X.prog X.w a ss s.heap from (I.hok a _ ha).1)
  refine call_len_set ho hex hd hf (by unfold scanBound at hb; omega) ?_
  rw [hn]
  exact ⟨.int (c : Nat), H, I.tok _, ⟨_, rfl⟩, q c le nd⟩
end
end Stx
namespace Stt
open PySem PySem.Spec PyProof.Rows L2
section
variable {P : Program} {w : World} {κ : Type} [DecidableEq κ]
/-- members that the model asks nothing about -/
structure Plain (D : KeyKind P w κ) : Prop where
  cls : ∀ n k v, D.is k v = true → ofAClassStatement n v = pure false
  val : ∀ n k v, D.is k v = true → hashByValue n v = pure false
theorem plain_str : Plain (PySem.strKind P w) where
  cls := fun n k v h => by
    obtain ⟨t, rfl⟩ := Value.isStrOf_shape h
    cases n <;> rfl
  val := fun n k v h => by
    obtain ⟨t, rfl⟩ := Value.isStrOf_shape h
    cases n <;> rfl
variable {D : KeyKind P w κ}
theorem members {ks : List κ} {vs : List Value} (h : ItemsAre D ks vs) : ∀ v ∈ vs, ∃ k, D.is k v = true := by
  induction h with
  | nil => exact fun v hv => (by cases hv)
  | cons a _ ih => exact fun v hv => (List.mem_cons.mp hv).elim (fun e => ⟨_, e ▸ a⟩) (ih v)
abbrev kh (D : KeyKind P w κ) (k : List κ) : Int := tupleKeyHash D k
abbrev Tk (D : KeyKind P w κ) (h : Heap) (k : List κ) (b : Addr) : Prop := IsTupleKey D h k b
theorem Tk.kept {h h' : Heap} {k : List κ} {b : Addr} (x : Tk D h k b) (hk : ∀ c o, h.get? c = some o → h'.get? c = some o) : Tk D h' k b := by
  obtain ⟨o, its, n, ho, q⟩ := x
  exact ⟨o, its, n, hk _ _ ho, q⟩
theorem Tk.beside {h h' : Heap} {k : List κ} {a b : Addr} {o : Obj} {es : Array (Int × Value)} {ep : Nat} {t : SetTable} (x : Tk D h k b) (ho : h.get? a = some o) (hd : o.data = .set es ep t) (sb : Heap.SameBut a h h') : Tk D h' k b := by
  obtain ⟨o', its, n, ho', hc, hd', q⟩ := x
  refine ⟨o', its, n, (sb.2 b fun e => ?_).trans ho', hc, hd', q⟩
  rw [e, ho] at ho'
  cases ho'
  rw [hd] at hd'
  cases hd'
variable {A : Around} {E : Value → Shared → Prop} {s : Shared}
theorem no_cls (pl : Plain D) {k : List κ} {b : Addr} {Q : Bool → Shared → Prop} (hk : Tk D s.heap k b) (h : Q false s) : wpAny (model P w) A (ofAClassStatement 8 (.ref b)) Q E s := by
  have hT := hk.typeIs
  obtain ⟨o, its, n, ho, _, hd, hi⟩ := hk
  unfold ofAClassStatement
  refine wpAny_bind (wpAny_typeOf hT ?_)
  dsimp only
  simp only [show (("tuple" : String) == "tuple") = true by decide, if_true, Bool.not_true, Bool.false_eq_true, if_false]
  try refine wpAny_bind (wpAny_pure ?_)
  show wpAny _ _ (seqItems? (.ref b) >>= _) _ _ s
  refine wpAny_bind (wpAny_seqItems ho hd ?_)
  dsimp only
  refine wpAny_bind ?_
  show wpAny _ _ (forIn its _ _) _ _ s
  rw [← Array.forIn_toList]
  refine wpAny_forIn_list _ (fun rest r s' => r.1 = none ∧ s' = s ∧ ∀ v ∈ rest, ∃ k, D.is k v = true) _ ?_ ?_ _ _ ⟨rfl, rfl, members hi⟩
  · rintro v rest r s' ⟨hr, rfl, all⟩
    obtain ⟨k', hv⟩ := all v (.head _)
    rw [pl.cls _ k' v hv]
    refine wpAny_bind (wpAny_pure ?_)
    simp only [Bool.false_eq_true, if_false]
    exact wpAny_pure ⟨rfl, rfl, fun u hu => all u (.tail _ hu)⟩
  · rintro ⟨r1, r2⟩ s' ⟨hr, rfl, _⟩
    dsimp only at hr
    subst hr
    exact wpAny_pure h
theorem by_val (pl : Plain D) {k : List κ} {b : Addr} {Q : Bool → Shared → Prop} (hk : Tk D s.heap k b) (h : ∀ c, Q c s) : wpAny (model P w) A (hashByValue 8 (.ref b)) Q E s := by
  have hT := hk.typeIs
  obtain ⟨o, its, n, ho, _, hd, hi⟩ := hk
  unfold hashByValue
  refine wpAny_bind (wpAny_specialOf hT F.slot_tuple_hash.lookup ?_)
  show wpAny _ _ (seqItems? (.ref b) >>= _) _ _ s
  refine wpAny_bind (wpAny_seqItems ho hd (wpAny_bind ?_))
  show wpAny _ _ (forIn its _ _) _ _ s
  rw [← Array.forIn_toList]
  refine wpAny_forIn_list _ (fun rest r s' => (r.1 = none ∨ r.1 = some false) ∧ s' = s ∧ ∀ v ∈ rest, ∃ k, D.is k v = true) _ ?_ ?_ _ _ ⟨.inl rfl, rfl, members hi⟩
  · rintro v rest r s' ⟨hr, rfl, all⟩
    obtain ⟨k', hv⟩ := all v (.head _)
    rw [pl.val _ k' v hv]
    refine wpAny_bind (wpAny_pure ?_)
    simp only [Bool.not_false, if_true]
    exact wpAny_pure (wpAny_pure (h _))
  · rintro ⟨r1, r2⟩ s' ⟨hr, rfl, _⟩
    dsimp only at hr
    rcases hr with rfl | rfl
    · exact wpAny_pure (h _)
    · exact wpAny_pure (h _)
theorem unseen (pl : Plain D) {k : List κ} {b : Addr} {ys : List Value} {Q : Bool → Shared → Prop} (hk : Tk D s.heap k b) (hy : ∀ y ∈ ys, ∃ k' c, y = Value.ref c ∧ Tk D s.heap k' c) (h : Q false s) : wpAny (model P w) A (searchCouldBeSeen (.ref b) ys) Q E s := by
  unfold searchCouldBeSeen
  refine wpAny_bind (wpAny_forIn_list _ (fun rest r s' => r.1 = none ∧ s' = s ∧ ∀ y ∈ rest, ∃ k' c, y = Value.ref c ∧ Tk D s.heap k' c) _ ?_ ?_ _ _ ⟨rfl, rfl, hy⟩)
  · rintro v rest r s' ⟨hr, rfl, all⟩
    obtain ⟨k', c, rfl, hc⟩ := all v (.head _)
    have on : ∀ y ∈ rest, ∃ k' c, y = Value.ref c ∧ Tk D s'.heap k' c := fun u hu => all u (.tail _ hu)
    dsimp only
    by_cases hv : (b == c || (carriedByValue (.ref b) && carriedByValue (.ref c))) = true
    · exact wp_if_pos hv (wpAny_pure ⟨rfl, rfl, on⟩)
    · refine wp_if_neg hv (wpAny_bind (wpAny_eqIsQuiet_tuple hk ?_))
      simp only [Bool.not_true, Bool.false_eq_true, if_false]
      refine wpAny_bind (wpAny_eqIsQuiet_tuple hc ?_)
      simp only [Bool.not_true, Bool.false_eq_true, if_false]
      refine wpAny_bind (no_cls pl hk ?_)
      simp only [Bool.false_eq_true, if_false]
      refine wpAny_bind (no_cls pl hc ?_)
      simp only [Bool.false_eq_true, if_false]
      exact wpAny_pure ⟨rfl, rfl, on⟩
  · rintro ⟨r1, r2⟩ s' ⟨hr, rfl, _⟩
    dsimp only at hr
    subst hr
    exact wpAny_pure h
/-- the rows of a set whose tuples are L, by their place in the table -/
def rows (D : KeyKind P w κ) (L : List (Addr × List κ)) : Array (Int × Value) := (L.map fun p => (kh D p.2, Value.ref p.1)).toArray
def hs (D : KeyKind P w κ) (L : List (Addr × List κ)) : List Int := L.map fun p => kh D p.2
theorem rows_size (L : List (Addr × List κ)) : (rows D L).size = L.length := by simp [rows]
theorem hs_len (L : List (Addr × List κ)) : (hs D L).length = L.length := List.length_map _
theorem rows_at {L : List (Addr × List κ)} {i : Nat} {p : Addr × List κ} (h : L[i]? = some p) : (rows D L)[i]? = some (kh D p.2, Value.ref p.1) := by
  unfold rows
  rw [List.getElem?_toArray, List.getElem?_map, h]
  rfl
structure Has (D : KeyKind P w κ) (h : Heap) (a : Addr) (L : List (Addr × List κ)) (t : SetTable) : Prop where
  ob : ∃ o ep, h.get? a = some o ∧ o.ExactSet ∧ o.data = .set (rows D L) ep t
  tab : TabOk t (hs D L)
  nd : (L.map (·.2)).Nodup
  tk : ∀ p ∈ L, Tk D h p.2 p.1
  room : L.length * 5 < t.mask * 3
  few : L.length < 64
variable {a : Addr} {L : List (Addr × List κ)} {t : SetTable}
theorem fits_of (T : TabOk t (hs D L)) (l : L.length ≤ t.mask) : t.fits (rows D L).size = true := by
  have e := T.sz
  rw [hs_len] at e
  unfold SetTable.fits SetTable.fill
  rw [T.dm, rows_size, Bool.and_eq_true, beq_iff_eq, decide_eq_true_eq]
  exact ⟨e, by show t.place.size + 0 ≤ t.mask; omega⟩
theorem not_gave (T : TabOk t (hs D L)) : ¬ t.gaveWay = true := by
  unfold SetTable.gaveWay
  rw [mask_odd T.mok]
  decide
abbrev stop (t : SetTable) (h : Int) (c : Nat) : SetTable.Probe := nth t.mask (runAt t.mask (SetTable.bits h % (t.mask + 1)) (SetTable.bits h)) c
theorem stop_add (t : SetTable) (h : Int) (c q : Nat) : nth t.mask (stop t h c) q = stop t h (c + q) := (nth_add t.mask c _ q).symm
theorem stop_clean (t : SetTable) (h : Int) (c : Nat) : (stop t h c).dummy = none := by
  have go : ∀ (n : Nat) (p : SetTable.Probe), p.dummy = none → (nth t.mask p n).dummy = none := fun n => by
    induction n with
    | zero => exact fun p h => h
    | succ n ih =>
      intro p h
      refine ih (adv t.mask p) ?_
      unfold adv
      split <;> exact h
  exact go c _ rfl
/-- the search from its c-th stop on: K is the first free one -/
theorem seek (pl : Plain D) (R : Has D s.heap a L t) {x : Addr} {k : List κ} (hx : Tk D s.heap k x) (hu : A.units < cLine) {K : Nat} (Kf : K < 10 * SetTable.turns t.mask)
    (free : (stop t (kh D k) K).j ∉ t.place.toList) (full : ∀ c, c < K → (stop t (kh D k) c).j ∈ t.place.toList) {Q : SetFound → Shared → Prop}
    (yes : k ∈ L.map (·.2) → Q (.there none) s) (no : k ∉ L.map (·.2) → Q (.free (stop t (kh D k) K).j false) s) :
    ∀ (f c : Nat) (stand : Option SetTable.Probe), stand.getD (t.probeStart (kh D k)) = stop t (kh D k) c → c ≤ K → K - c < f →
      (∀ (i : Nat) p, L[i]? = some p → p.2 = k → ∃ c', c ≤ c' ∧ c' < K ∧ t.place.toList[i]? = some (stop t (kh D k) c').j) →
      wpAny (model P w) A (setSearchFrom a (.ref x) (kh D k) true f stand) Q E s := by
  obtain ⟨o, ep, ho, hex, hd⟩ := R.ob
  have Lm : L.length ≤ t.mask := by have := R.room; omega
  have fit := fits_of R.tab Lm
  have hat : ∀ {i : Nat} {p : Addr × List κ}, L[i]? = some p → ((rows D L)[i]?.map (·.1)).getD 0 = kh D p.2 := fun h => by rw [rows_at h]; rfl
  intro f
  induction f with
  | zero => intro c stand _ _ l _; omega
  | succ f ih =>
    intro c stand est cK l reach
    rw [setSearchFrom_succ]
    refine wpAny_bind (wpAny_setState_of ho hd fit ?_)
    dsimp only
    refine wp_if_neg (not_gave R.tab) ?_
    try refine wpAny_bind (wpAny_pure ?_)
    have at_ : ∀ q, (nth t.mask (stop t (kh D k) c) q).j = (stop t (kh D k) (c + q)).j := fun q => congrArg SetTable.Probe.j (stop_add t _ c q)
    have spec := go_spec t R.tab.ris R.tab.dm (fun i => ((rows D L)[i]?.map (·.1)).getD 0) (kh D k) (10 * SetTable.turns t.mask) (K - c) (stop t (kh D k) c) (stop_clean t _ c) (by omega)
      (fun q hq => by rw [at_]; exact full _ (by omega)) (by rw [at_, show c + (K - c) = K by omega]; exact free)
    rcases spec with ⟨q, i, hq, hi, hh, first, got⟩ | ⟨first, got⟩
    · have pr : t.probe (fun i => ((rows D L)[i]?.map (·.1)).getD 0) (kh D k) (stand.getD (t.probeStart (kh D k))) = some (.candidate (stop t (kh D k) (c + q)).j i (stop t (kh D k) (c + (q + 1)))) := by
        rw [est, ← at_, ← stop_add]
        exact got
      rw [pr]
      dsimp only
      rw [at_] at hi
      have il : i < L.length := by
        have h1 := (List.getElem?_eq_some_iff.mp hi).1
        have h2 := R.tab.sz
        rw [hs_len] at h2
        rw [Array.length_toList] at h1
        omega
      obtain ⟨p, hp⟩ : ∃ p, L[i]? = some p := ⟨_, List.getElem?_eq_getElem il⟩
      have hm := List.mem_of_getElem? hp
      have here := slot_live R.tab.ris hi
      have on : wpAny (model P w) A (searchRest a (.ref x) (kh D k) true f (rows D L) t (stop t (kh D k) (c + q)).j i (stop t (kh D k) (c + (q + 1)))) Q E s := by
        unfold searchRest
        rw [rows_at hp]
        dsimp only
        refine wpAny_bind (wpAny_holding (wpAny_eqBool_tuple hu (R.tk p hm) hx ?_))
        refine wpAny_bind (wpAny_setState_of ho hd fit ?_)
        dsimp only
        by_cases e : p.2 = k
        · exact wp_if_pos (by simp [e]) (wpAny_pure (yes (List.mem_map.mpr ⟨p, hm, e⟩)))
        · refine wp_if_neg (by simp [e]) ?_
          try refine wpAny_bind (wpAny_pure ?_)
          rw [sameMem]
          dsimp only
          simp only [if_true, here, rows_at hp]
          refine wpAny_bind (wpAny_isSame_ref_self (wpAny_bind (wpAny_pure ?_)))
          simp only [if_true]
          refine wp_if_neg (by simp [e]) (ih (c + (q + 1)) _ rfl (by omega) (by omega) fun i0 p0 h0 e0 => ?_)
          obtain ⟨c', r1, r2, r3⟩ := reach i0 p0 h0 e0
          refine ⟨c', ?_, r2, r3⟩
          rcases Nat.lt_trichotomy c' (c + q) with z | z | z
          · exact absurd ((hat h0).trans (congrArg (kh D) e0)) (first (c' - c) i0 (by omega) (by rw [at_, show c + (c' - c) = c' by omega]; exact r3))
          · subst z
            have s0 := slot_live R.tab.ris r3
            rw [here] at s0
            injection s0 with s0
            rw [← s0, hp] at h0
            injection h0 with h0
            exact absurd (by rw [h0]; exact e0) e
          · omega
      by_cases ld : t.led = true
      · refine wp_if_neg (by simp [ld]) ?_
        try refine wpAny_bind (wpAny_pure ?_)
        exact on
      · refine wp_if_pos (by simp [ld]) (wpAny_bind (unseen pl hx (fun y hy => ?_) ?_))
        · obtain ⟨e, he, rfl⟩ := List.mem_map.mp hy
          have he1 : e ∈ (rows D L) ∧ e.1 = kh D k := by simpa using he
          have he2 : e ∈ L.map fun p => (kh D p.2, Value.ref p.1) := by simpa [rows] using he1.1
          obtain ⟨p2, hp2, rfl⟩ := List.mem_map.mp he2
          exact ⟨p2.2, p2.1, rfl, R.tk p2 hp2⟩
        · refine wp_if_neg (by decide) ?_
          try refine wpAny_bind (wpAny_pure ?_)
          exact on
    · have pr : t.probe (fun i => ((rows D L)[i]?.map (·.1)).getD 0) (kh D k) (stand.getD (t.probeStart (kh D k))) = some (.empty (stop t (kh D k) K).j none) := by
        have e2 : (stop t (kh D k) K).j = (nth t.mask (stop t (kh D k) c) (K - c)).j := by rw [at_, show c + (K - c) = K by omega]
        rw [est, e2]
        exact got
      rw [pr]
      dsimp only
      refine wpAny_pure (no fun hm => ?_)
      obtain ⟨p0, h0, e0⟩ := List.mem_map.mp hm
      obtain ⟨i0, hi0⟩ := List.getElem?_of_mem h0
      obtain ⟨c', r1, r2, r3⟩ := reach i0 p0 hi0 e0
      exact absurd ((hat hi0).trans (congrArg (kh D) e0)) (first (c' - c) i0 (by omega) (by rw [at_, show c + (c' - c) = c' by omega]; exact r3))
theorem seek_all (pl : Plain D) (R : Has D s.heap a L t) {x : Addr} {k : List κ} (hx : Tk D s.heap k x) (hu : A.units < cLine) {Q : SetFound → Shared → Prop} (yes : k ∈ L.map (·.2) → Q (.there none) s)
    (no : ∀ K, k ∉ L.map (·.2) → way t.mask (kh D k) K ∉ t.place.toList → (∀ c, c < K → way t.mask (kh D k) c ∈ t.place.toList) → Q (.free (way t.mask (kh D k) K) false) s) :
    wpAny (model P w) A (setSearch a (.ref x) (kh D k) true) Q E s := by
  have rm := R.room
  obtain ⟨K, Kf, free, full⟩ := R.tab.first (by rw [hs_len]; omega) (kh D k)
  have big : 10 * SetTable.turns t.mask ≤ 1420 := by
    unfold SetTable.turns
    rcases R.tab.mok with e | e | e <;> omega
  unfold setSearch
  refine seek pl R hx hu Kf free full yes (fun n => no K n free full) 100000 0 none rfl (Nat.zero_le _) (by omega) fun i p hp e => ?_
  have h1 : (hs D L)[i]? = some (kh D k) := by unfold hs; rw [List.getElem?_map, hp, ← e]; rfl
  have il : i < t.place.toList.length := by
    have h3 := (List.getElem?_eq_some_iff.mp hp).1
    have h2 := R.tab.sz
    rw [hs_len] at h2
    rw [Array.length_toList]
    omega
  have hj := List.getElem?_eq_getElem il
  obtain ⟨c, hc, e⟩ := R.tab.before free h1 hj
  exact ⟨c, Nat.zero_le _, hc, by rw [hj, ← e]⟩
/-- the tuples by another order of their places -/
theorem all_of {α : Type} (L : List α) : ∀ n, n ≤ L.length → (List.range n).filterMap (fun i => L[i]?) = L.take n := fun n => by
  induction n with
  | zero => exact fun _ => rfl
  | succ n ih =>
    intro h
    obtain ⟨x, hx⟩ : ∃ x, L[n]? = some x := ⟨_, List.getElem?_eq_getElem h⟩
    rw [List.range_succ, List.filterMap_append, ih (Nat.le_of_lt h), List.take_add_one, List.filterMap_cons_some hx, hx]
    rfl
theorem ordered (L : List (Addr × List κ)) (order : Array Nat) (hp : order.toList.Perm (List.range L.length)) :
    ∃ L2, order.filterMap ((rows D L)[·]?) = rows D L2 ∧ L2.Perm L ∧ hs D L2 = order.toList.map fun i => ((rows D L).map (·.1)).getD i 0 := by
  have row : ∀ i : Nat, (rows D L)[i]? = (L[i]?).map fun p => (kh D p.2, Value.ref p.1) := fun i => by
    unfold rows
    rw [List.getElem?_toArray, List.getElem?_map]
  refine ⟨order.toList.filterMap fun i => L[i]?, ?_, ?_, ?_⟩
  · refine Array.toList_inj.mp ?_
    rw [Array.toList_filterMap]
    show order.toList.filterMap (fun i => (rows D L)[i]?) = (order.toList.filterMap fun i => L[i]?).map _
    rw [List.map_filterMap]
    congr 1
    exact funext row
  · have h := hp.filterMap fun i => L[i]?
    rwa [all_of L L.length (Nat.le_refl _), List.take_length] at h
  · have lt : ∀ i ∈ order.toList, i < L.length := fun i hi => List.mem_range.mp (hp.mem_iff.mp hi)
    unfold hs
    generalize order.toList = l at lt
    clear hp
    induction l with
    | nil => rfl
    | cons i l ih =>
      obtain ⟨p, ep⟩ : ∃ p, L[i]? = some p := ⟨_, List.getElem?_eq_getElem (lt i (.head _))⟩
      rw [List.filterMap_cons_some ep, List.map_cons, List.map_cons, ih fun j hj => lt j (.tail _ hj)]
      have e : ((rows D L).map (·.1)).getD i 0 = kh D p.2 := by
        have e2 : ((rows D L).map (·.1))[i]? = some (kh D p.2) := by rw [Array.getElem?_map, rows_at ep]; rfl
        rw [Array.getD_eq_getD_getElem?, e2]
        rfl
      rw [e]
/-- laid anew, larger -/
theorem relaid {o : Obj} {ep : Nat} (ho : s.heap.get? a = some o) (hex : o.ExactSet) (hd : o.data = .set (rows D L) ep t) (T : TabOk t (hs D L)) (Lm : L.length ≤ t.mask) (nd : (L.map (·.2)).Nodup) (tk : ∀ p ∈ L, Tk D s.heap p.2 p.1) (few : L.length < 64)
    {wanted M : Nat} (hw : SetTable.sizeAbove wanted - 1 = M) (hM : MaskOk M) (hw2 : SetTable.sizeAbove wanted ≤ 128) (hn : L.length * 5 < M * 3) {Q : Unit → Shared → Prop}
    (hQ : ∀ h' L' t', Heap.SameBut a s.heap h' → Has D h' a L' t' → L'.Perm L → Q () { s with heap := h' }) : wpAny (model P w) A (setRelay a wanted) Q E s := by
  obtain ⟨t', order, e, hp, T', em, _, _, _⟩ := relaid_ok t (hs := (rows D L).map (·.1)) (wanted := wanted) hw hM (by rw [Array.size_map, rows_size]; omega)
  rw [Array.size_map, rows_size] at hp
  obtain ⟨L2, r1, r2, r3⟩ := ordered (D := D) L order hp
  rw [← r3] at T'
  have l2 := r2.length_eq
  rw [setRelay_eq]
  refine wpAny_bind (wpAny_setState_of ho hd (fits_of T Lm) ?_)
  dsimp only
  refine wp_if_neg (by rw [sizeLine_eq]; omega) ?_
  try refine wpAny_bind (wpAny_pure ?_)
  rw [e]
  dsimp only
  rw [r1]
  refine wpAny_bind ?_
  refine wp_if_neg (by rw [rows_size, rows_size, l2]; simp) ?_
  try refine wpAny_bind (wpAny_pure ?_)
  refine wpAny_pure ?_
  dsimp only
  refine wpAny_storeSet_of ho hd ?_ (by rw [rows_size, l2, sizeLine_eq]; omega)
  have sb : Heap.SameBut a s.heap (s.heap.update a (Obj.putSet (rows D L2) t')) := Heap.SameBut.update ..
  exact hQ _ L2 t' sb ⟨⟨_, ep + 1, store_at ho hd, ⟨hex.1, hex.2.1, hex.2.2⟩, rfl⟩, T', (r2.map (·.2)).nodup_iff.mpr nd, fun p hp => (tk p (r2.mem_iff.mp hp)).beside ho hd sb, by rw [l2, em]; exact hn, by rw [l2]; exact few⟩ r2
/-- one put in -/
theorem adds (pl : Plain D) (R : Has D s.heap a L t) {x : Addr} {k : List κ} (hx : Tk D s.heap k x) (hu : A.units < cLine) (few : L.length + 1 < 64) {Q : Bool → Shared → Prop}
    (hQ : ∀ b h' L' t', Heap.SameBut a s.heap h' → Has D h' a L' t' → (k ∈ L.map (·.2) → L' = L) → (k ∉ L.map (·.2) → L'.Perm ((x, k) :: L)) → Q b { s with heap := h' }) :
    wpAny (model P w) A (setAddHashed a (.ref x) (kh D k)) Q E s := by
  obtain ⟨o, ep, ho, hex, hd⟩ := R.ob
  have rm := R.room
  have fit := fits_of R.tab (by omega)
  unfold setAddHashed
  refine wpAny_holding ?_
  rw [show (100000 : Nat) = 99999 + 1 from rfl, setAddHashedIn_succ]
  refine wpAny_bind (wpAny_setState_of ho hd fit ?_)
  dsimp only
  refine wp_if_neg (by simp [byScan, Value.scannable]) ?_
  try refine wpAny_bind (wpAny_pure ?_)
  refine wpAny_bind (seek_all pl R hx hu (fun m => ?_) fun K m free full => ?_)
  · exact wpAny_pure (hQ false s.heap L t (Heap.SameBut.refl a s.heap) R (fun _ => rfl) fun z => absurd m z)
  dsimp only
  refine wpAny_bind (wpAny_setState_of ho hd fit ?_)
  dsimp only
  obtain ⟨q1, q2, q3, q4, _, _, _, _, q9⟩ := R.tab.put free full
  rw [hs_len] at q2 q9
  generalize hj : SetTable.below t.place (way t.mask (kh D k) K) = j at q1 q2 q3
  have pm : (L.take j ++ (x, k) :: L.drop j).Perm ((x, k) :: L) := by
    have := List.perm_middle (a := (x, k)) (l₁ := L.take j) (l₂ := L.drop j)
    rwa [List.take_append_drop] at this
  have ein : SetTable.insertAt (rows D L) j (kh D k, Value.ref x) = rows D (L.take j ++ (x, k) :: L.drop j) := by
    refine Array.toList_inj.mp ?_
    rw [SetTable.toList_insertAt]
    unfold rows
    simp [List.map_take, List.map_drop]
  have ehs : hs D (L.take j ++ (x, k) :: L.drop j) = (hs D L).take j ++ kh D k :: (hs D L).drop j := by
    unfold hs
    rw [List.map_append, List.map_cons, List.map_take, List.map_drop]
  rw [← ehs] at q3
  have nd1 : ((L.take j ++ (x, k) :: L.drop j).map (·.2)).Nodup := (pm.map (·.2)).nodup_iff.mpr (by rw [List.map_cons]; exact List.nodup_cons.mpr ⟨m, R.nd⟩)
  have l1 : (L.take j ++ (x, k) :: L.drop j).length = L.length + 1 := pm.length_eq
  generalize hpt : t.put (way t.mask (kh D k) K) = pt at q1 q3 q4 q9 ⊢
  obtain ⟨t1, j1⟩ := pt
  dsimp only at q1 q3 q4 q9 ⊢
  subst q1
  -- plain or not, the places are the same
  have put : ∀ t2 : SetTable, t2.place = t1.place → t2.dummies = t1.dummies → t2.mask = t1.mask → TabOk t2 (hs D (L.take j1 ++ (x, k) :: L.drop j1)) ∧ t2.fill = t1.fill := fun t2 e1 e2 e3 => by
    refine ⟨⟨by rw [e1]; exact q3.ris, by rw [e2]; exact q3.dm, by rw [e1]; exact q3.sz, by rw [e3]; exact q3.mok, by rw [e1, e3]; exact q3.bd, by rw [e1, e3]; exact q3.reach⟩, ?_⟩
    unfold SetTable.fill
    rw [e1, e2]
  have on : ∀ t2 : SetTable, t2.place = t1.place → t2.dummies = t1.dummies → t2.mask = t1.mask → wpAny (model P w) A (do
      storeSet a (SetTable.insertAt (rows D L) j1 (kh D k, Value.ref x)) t2
      if !false && t2.tooFull then setRelay a (SetTable.grown ((rows D L).size + 1))
      return true) Q E s := fun t2 e1 e2 e3 => by
    obtain ⟨T2, f2⟩ := put t2 e1 e2 e3
    rw [ein]
    generalize L.take j1 ++ (x, k) :: L.drop j1 = L1 at pm nd1 l1 T2
    refine wpAny_bind (wpAny_storeSet_of ho hd ?_ (by rw [rows_size, l1, sizeLine_eq]; omega))
    have sb : Heap.SameBut a s.heap (s.heap.update a (Obj.putSet (rows D L1) t2)) := Heap.SameBut.update ..
    have ho1 := store_at (es' := rows D L1) (t' := t2) ho hd
    generalize s.heap.update a (Obj.putSet (rows D L1) t2) = h1 at sb ho1 ⊢
    have tk1 : ∀ p ∈ L1, Tk D h1 p.2 p.1 := fun p hp => by
      rcases List.mem_cons.mp (pm.mem_iff.mp hp) with e | hp
      · rw [e]; exact hx.beside ho hd sb
      · exact (R.tk p hp).beside ho hd sb
    have m2 : t2.mask = t.mask := e3.trans q4
    by_cases full2 : t2.tooFull = true
    · have hf : (L.length + 1) * 5 ≥ t2.mask * 3 := by
        have h := full2
        unfold SetTable.tooFull at h
        rw [decide_eq_true_eq, f2, q9] at h
        exact h
      have which : (t.mask = 7 ∧ L.length = 4) ∨ (t.mask = 31 ∧ L.length = 18) := by
        rw [m2] at hf
        rcases R.tab.mok with e | e | e <;> rw [e] at hf rm
        · exact .inl ⟨e, by omega⟩
        · exact .inr ⟨e, by omega⟩
        · omega
      have go : ∀ M, SetTable.sizeAbove (SetTable.grown (L.length + 1)) - 1 = M → MaskOk M → SetTable.sizeAbove (SetTable.grown (L.length + 1)) ≤ 128 → (L.length + 1) * 5 < M * 3 →
          wpAny (model P w) A (setRelay a (SetTable.grown (L.length + 1))) (fun _ s' => wpAny (model P w) A (pure true) Q E s') E { s with heap := h1 } := fun M g1 g2 g3 g4 =>
        relaid (s := { s with heap := h1 }) ho1 ⟨hex.1, hex.2.1, hex.2.2⟩ rfl T2 (by rw [l1, m2]; rcases which with ⟨e, e'⟩ | ⟨e, e'⟩ <;> omega) nd1 tk1 (by rw [l1]; exact few) g1 g2 g3 (by rw [l1]; exact g4) fun h2 L2 t3 sb2 R2 pm2 =>
          wpAny_pure (hQ true h2 L2 t3 (sb.trans sb2) R2 (fun z => absurd z m) fun _ => pm2.trans pm)
      rw [rows_size]
      first
        | (refine wpAny_bind ?_; refine wp_if_pos (by simp [full2]) ?_)
        | (refine wp_if_pos (by simp [full2]) ?_; refine wpAny_bind ?_)
      rcases which with ⟨_, e⟩ | ⟨_, e⟩
      · exact go 31 (by rw [e, size_20]) (.inr (.inl rfl)) (by rw [e, size_20]; decide) (by omega)
      · exact go 127 (by rw [e, size_76]) (.inr (.inr rfl)) (by rw [e, size_76]; decide) (by omega)
    · have hr : (L.length + 1) * 5 < t2.mask * 3 := by
        have h := full2
        unfold SetTable.tooFull at h
        rw [decide_eq_true_eq, f2, q9] at h
        omega
      have done := hQ true h1 L1 t2 sb ⟨⟨_, ep + 1, ho1, ⟨hex.1, hex.2.1, hex.2.2⟩, rfl⟩, T2, nd1, tk1, by rw [l1]; exact hr, by rw [l1]; exact few⟩ (fun z => absurd z m) fun _ => pm
      first
        | exact wp_if_neg (by simp [full2]) (wpAny_pure done)
        | (refine wpAny_bind ?_; exact wp_if_neg (by simp [full2]) (wpAny_pure (wpAny_pure done)))
  by_cases pn : t1.plain = true
  · refine wp_if_pos pn (wpAny_bind (by_val pl hx fun c => ?_))
    cases c with
    | true => exact on t1 rfl rfl rfl
    | false => exact on { t1 with plain := false } rfl rfl rfl
  · refine wp_if_neg pn ?_
    first
      | exact on t1 rfl rfl rfl
      | exact wpAny_bind (wpAny_pure (on t1 rfl rfl rfl))
end
end Stt
namespace Spr
open PySem PySem.Spec PyProof.Rows L2
section
variable {P : Program} {w : World} {A : Around} {h0 : Heap} {S : Addr} {ks : List (Addr × List Str)}
abbrev DS (P : Program) (w : World) : KeyKind P w Str := PySem.strKind P w
structure Got (P : Program) (w : World) (S : Addr) (ks : List (Addr × List Str)) (i : Nat) (h : Heap) : Prop where
  ex : ∃ L t, Stt.Has (DS P w) h S L t ∧ (∀ p ∈ L, p ∈ ks) ∧ (∀ k, k ∈ L.map (·.2) ↔ k ∈ (ks.take i).map (·.2)) ∧ L.length ≤ i ∧ (L.length = i ↔ ((ks.take i).map (·.2)).Nodup)
theorem under {items : Array Value} (hit : items.toList = ks.map fun p => Value.ref p.1) (tk : ∀ p ∈ ks, Stt.Tk (DS P w) h0 p.2 p.1) (few : ks.length < 64) (hu : A.units < cLine) : SetBy.Under P w A h0 S items (fun i => Got P w S ks i) where
  keep := fun i h h' x k old => by
    obtain ⟨L, t, ⟨⟨o, ep, ho, q⟩, r1, r2, r3, r4, r5⟩, sub, g⟩ := x.ex
    exact ⟨L, t, ⟨⟨o, ep, k o ho, q⟩, r1, r2, fun p hp => (tk p (sub p hp)).kept old, r4, r5⟩, sub, g⟩
  add := fun i v s E Q hv hs old q => by
    have hv' : (ks.map fun p => Value.ref p.1)[i]? = some v := by rw [← hit, Array.getElem?_toList]; exact hv
    rw [List.getElem?_map] at hv'
    obtain ⟨⟨x, k⟩, ex, rfl⟩ := Option.map_eq_some_iff.mp hv'
    have il : i < ks.length := (List.getElem?_eq_some_iff.mp ex).1
    have hx := (tk _ (List.mem_of_getElem? ex)).kept old
    obtain ⟨L, t, R, sub, mem, le, nd⟩ := hs.ex
    have tk1 : (ks.take (i + 1)).map (·.2) = (ks.take i).map (·.2) ++ [k] := by rw [List.take_add_one, ex, List.map_append]; rfl
    unfold setAdd
    refine wpAny_holding (wpAny_bind (wpAny_pyHash_tuple hu hx ?_))
    refine Stt.adds (s := { s with toks := s.toks + (k.length + 1) }) Stt.plain_str R hx hu (by omega) fun b h' L' t' sb R' same more => ?_
    refine q b h' (s.toks + (k.length + 1)) (Nat.le_add_right _ _) sb ⟨L', t', R', ?_⟩
    by_cases m : k ∈ L.map (·.2)
    · rw [same m]
      refine ⟨sub, fun z => ?_, by omega, ?_⟩
      · rw [tk1, mem z, List.mem_append, List.mem_singleton]
        exact ⟨.inl, fun y => y.elim id fun e => by rw [e]; exact (mem k).mp m⟩
      · rw [tk1, Stx.nd_snoc]
        exact ⟨fun z => by omega, fun z => absurd ((mem k).mp m) z.2⟩
    · have pm := more m
      have pl := pm.length_eq
      rw [List.length_cons] at pl
      refine ⟨fun p hp => ?_, fun z => ?_, by omega, ?_⟩
      · rcases List.mem_cons.mp (pm.mem_iff.mp hp) with e | e
        · rw [e]; exact List.mem_of_getElem? ex
        · exact sub p e
      · rw [tk1, (pm.map (·.2)).mem_iff, List.map_cons, List.mem_cons, List.mem_append, List.mem_singleton, mem z]
        exact or_comm
      · rw [tk1, Stx.nd_snoc, ← nd, ← mem k, pl]
        exact ⟨fun z => ⟨by omega, m⟩, fun z => by omega⟩
theorem fresh0 {h : Heap} (e : h.get? S = some (SetBy.freshSet w)) : Got P w S ks 0 h := by
  refine ⟨[], .fresh 0 0 (!w.params.followText "set-order"), ⟨⟨_, 0, e, ⟨rfl, rfl, rfl⟩, rfl⟩, ?_, List.nodup_nil, fun p hp => (by cases hp), (by show 0 * 5 < 7 * 3; decide), by decide⟩, fun p hp => (by cases hp), fun k => by simp, Nat.le_refl _, by simp⟩
  have x := (setTR_fresh (P := P) (w := w) e).tab
  exact x
/-- the set by its size -/
def Held (a : Addr) (ks : List (List Str)) (h : Heap) : Prop := ∃ c, (∃ (o : Obj) (es : Array (Int × Value)) (ep : Nat) (t : SetTable), h.get? a = some o ∧ o.ExactSet ∧ o.data = .set es ep t ∧ t.fits es.size = true ∧ es.size = c ∧ c < 64) ∧ c ≤ ks.length ∧ (c = ks.length ↔ ks.Nodup)
theorem Held.at {a : Addr} {ks : List (List Str)} {h h' : Heap} (x : Held a ks h) (k : ∀ o, h.get? a = some o → h'.get? a = some o) : Held a ks h' := by
  obtain ⟨c, ⟨o, es, ep, t, ho, r⟩, q⟩ := x
  exact ⟨c, ⟨o, es, ep, t, k o ho, r⟩, q⟩
theorem Got.held {h : Heap} (x : Got P w S ks ks.length h) : Held S (ks.map (·.2)) h := by
  obtain ⟨L, t, R, _, _, le, nd⟩ := x.ex
  obtain ⟨o, ep, ho, hex, hd⟩ := R.ob
  rw [List.take_length] at nd
  exact ⟨L.length, ⟨o, _, ep, t, ho, hex, hd, Stt.fits_of R.tab (by have := R.room; omega), Stt.rows_size L, R.few⟩, by rw [List.length_map]; exact le, by rw [List.length_map]; exact nd⟩
end
def SetPrO (a : Addr) (ks : List (List Str)) : HO := .ext (Held a ks)
theorem new {P : Program} {w : World} {H : Hp} {h : Heap} {a : Addr} {ks : List (List Str)} (x : Held a ks h) : ObjOk P w H h a (SetPrO a ks) := by
  have ⟨c, ⟨o, es, ep, t, ho, r⟩, q⟩ := x
  exact ⟨x, ⟨o, ho⟩, fun h1 h2 y k => Held.at y k⟩
theorem items_of {P : Program} {w : World} : ∀ {k : List Str} {us : List Value}, Vals (k.map V.str) us → ItemsAre (DS P w) k us
  | [], _, .nil => .nil
  | n :: k, _, .cons r t => by
    obtain ⟨tk, rfl⟩ := r
    exact .cons (strKind_is P w n tk) (items_of t)
theorem refs_of : ∀ {ks : List (Addr × List Str)} {us : List Value}, Vals (ks.map fun p => V.ref p.1) us → us = ks.map fun p => Value.ref p.1
  | [], _, .nil => rfl
  | p :: ks, _, .cons r t => by
    cases r
    rw [refs_of t] <;> rfl
section
variable {X : Cx}
def rSetPr (K : PySem.W.Frag) : List V → Hp → VK → Prop := fun xs H Q => ∃ (l : Addr) (ks : List (Addr × List Str)), xs = [V.ref l] ∧ SqL K H l (ks.map fun p => V.ref p.1) ∧ (∀ p ∈ ks, SqT K H p.1 (p.2.map V.str)) ∧ ks.length < 64 ∧ ∀ a, H a = none → Q (.ref a) (upd H a (SetPrO a (ks.map (·.2))))
theorem cr_setPr (hc : X.calm = true) (hu : X.A.units + 64 < cLine) : CallR X (.type "set") (rSetPr X.K) := by
  intro pins s σ H xs us Q I r h
  obtain ⟨l, ks, rfl, hl, hk, few, q⟩ := h
  rw [Vals.ref1 r]
  obtain ⟨its, rv, pl, hz⟩ := I.list hl
  have hn : H s.heap.objs.size = none := I.hok.fresh (Nat.le_refl _)
  have hit : its.toArray.toList = ks.map fun p => Value.ref p.1 := by simpa using refs_of rv
  have sz : its.toArray.size = ks.length := by
    have := congrArg List.length hit
    rw [List.length_map, Array.length_toList] at this
    exact this
  have tk : ∀ p ∈ ks, Stt.Tk (DS X.prog X.w) s.heap p.2 p.1 := fun p hp => by
    obtain ⟨us, ru, ⟨o, ho, hc, n, hd⟩, _⟩ := I.tuple (hk p hp)
    exact ⟨o, us.toArray, n, ho, hc, hd, by simpa using items_of ru⟩
  refine SetBy.call_lst (I.ok.hd hc) pl.isList (under hit tk few (by show X.A.units + 1 + 1 + 1 < cLine; omega)) (fun h e _ => fresh0 e) fun h' t x k => ?_
  rw [sz] at x
  exact ⟨.ref s.heap.objs.size, upd H s.heap.objs.size (SetPrO s.heap.objs.size (ks.map (·.2))), I.laid (t' := t) k (Nat.le_refl _) (new x.held), rfl, q _ hn⟩
def rLenPr : List V → Hp → VK → Prop := fun xs H Q => ∃ (a : Addr) (ks : List (List Str)), xs = [.ref a] ∧ H a = some (SetPrO a ks) ∧ ∀ c : Nat, c ≤ ks.length → (c = ks.length ↔ ks.Nodup) → Q (.int c) H
theorem call_lenPr : CallR X (.builtin "len") rLenPr := by
  intro pins s σ H xs us Q I r h
  obtain ⟨a, ks, rfl, ha, q⟩ := h
  rw [Vals.ref1 r]
  obtain ⟨c, ⟨o, es, ep, t, ho, hex, hd, hf, hn, hb⟩, le, nd⟩ := (show Held a ks s.heap from (I.hok a _ ha).1)
  refine call_len_set ho hex hd hf (by omega) ?_
  rw [hn]
  exact ⟨.int (c : Nat), H, I.tok _, ⟨_, rfl⟩, q c le nd⟩
/-- either: texts of a list or a tuple, tuples of texts of a list -/
def rSetU (K : PySem.W.Frag) (P : Program) (w : World) : List V → Hp → VK → Prop := fun xs H Q => Stx.rSetTx K P w xs H Q ∨ rSetPr K xs H Q
theorem cr_setU (hc : X.calm = true) (hu : X.A.units + 64 < cLine) : CallR X (.type "set") (rSetU X.K X.prog X.w) := CallR.or (Stx.cr_setTx hc) (cr_setPr hc hu)
def rLenU (P : Program) (w : World) : List V → Hp → VK → Prop := fun xs H Q => Stx.rLenTx P w xs H Q ∨ rLenPr xs H Q
theorem call_lenU : CallR X (.builtin "len") (rLenU X.prog X.w) := CallR.or Stx.call_lenTx call_lenPr
end
end Spr
namespace Stp
open PySem PySem.Spec PyProof.Rows L2
section
variable {P : Program} {w : World} {A : Around} {E : Value → Shared → Prop} {s : Shared}
theorem collected {l : Addr} {vs : List Value} {Q : List Value → Shared → Prop} (hl : s.heap.IsTuple l vs.toArray) (sz : vs.length ≤ sizeLine)
    (h : Q vs { s with heap := (s.heap.push (seqObj "list" #[] 0)).update s.heap.objs.size (Obj.mapSeq (· ++ vs.toArray)) }) : wpAny (model P w) A (collect (.ref l)) Q E s := by
  obtain ⟨o, ho, hc, n, hd⟩ := hl
  have ho1 : (s.heap.push (seqObj "list" #[] 0)).get? l = some o := Heap.get?_push_of_some _ ho
  have new : (s.heap.push (seqObj "list" #[] 0)).get? s.heap.objs.size = some (seqObj "list" #[] 0) := Heap.get?_push_size _ rfl
  have all : (#[] : Array Value) ++ vs.toArray = vs.toArray := by simp
  unfold collect
  refine wpAny_bind (wpAny_runValue (codeAny_builtin entry_proto_collect' ?_))
  show wpAny _ _ (do again (.builtin "list.__iadd__" ⟨[← newList [], .ref l], []⟩)) _ _ s
  refine wpAny_bind (wpAny_newList (wpAny_pure ⟨Code.quiet_builtin _ (by decide +kernel), codeAny_builtin entry_list_iadd' ?_⟩))
  show wpAny _ _ (Builtin.List.listExtendWith (.ref s.heap.objs.size) (.ref l) (.ref s.heap.objs.size)) _ _ { s with heap := s.heap.push (seqObj "list" #[] 0) }
  unfold Builtin.List.listExtendWith
  refine wpAny_bind (wpAny_typeOf (T := "tuple") ⟨o, ho1, hc⟩ ?_)
  rw [if_pos (by rw [show (Value.type "tuple" == Value.type "tuple") = true by decide, Bool.or_true])]
  refine wpAny_bind (listItems_at ho1 hd (wpAny_bind (listItems_at (xs := #[]) (n := 0) new rfl ?_)))
  rw [if_neg (by simp)]
  refine wpAny_bind (listUpdate_at (xs := #[]) (n := 0) new rfl ?_ (Nat.zero_le _) (by show (#[] ++ vs.toArray).size ≤ sizeLine + 1; rw [all]; simp only [List.size_toArray]; omega))
  refine wpAny_pure ?_
  refine wpAny_bind (wpAny_load (get?_update_seq new _) ?_)
  show wpAny _ _ (pure ((#[] : Array Value) ++ vs.toArray).toList) Q E _
  rw [all]
  exact wpAny_pure h
theorem sorted_tup {l : Addr} {vs : List Value} {ss : List Str} {Q : Value → Shared → Prop} (hl : s.heap.IsTuple l vs.toArray) (hS : StrsAre vs ss) (few : vs.length < 64)
    (h : ∀ (out : Array Value) (ss' : List Str), StrsAre out.toList ss' → ss'.Perm ss → sortedS ss' = true → Q (.ref (s.heap.objs.size + 1)) { s with heap := sortedAll s.heap vs out }) :
    wpAny (model P w) A (call (.builtin "sorted") [.ref l]) Q E s := by
  refine Calls.call_function_entry kind_sorted plain_sorted entry_sorted (args_sorted1 _) ?_
  unfold Builtin.«sorted»
  refine wpAny_bind (m := checkCount "sorted" 1 1 _) (wpAny_pure (wpAny_bind (collected hl (by rw [sizeLine_eq]; omega) (wpAny_bind (wpAny_newList ?_)))))
  have sz : ((s.heap.push (seqObj "list" #[] 0)).update s.heap.objs.size (Obj.mapSeq (· ++ vs.toArray))).objs.size = s.heap.objs.size + 1 := by rw [Heap.size_update, size_push']
  have there : (((s.heap.push (seqObj "list" #[] 0)).update s.heap.objs.size (Obj.mapSeq (· ++ vs.toArray))).push (seqObj "list" vs.toArray 0)).get? (s.heap.objs.size + 1) = some (seqObj "list" vs.toArray 0) := by
    rw [← sz]
    exact Heap.get?_push_size _ rfl
  show wpAny _ _ _ _ _ { s with heap := ((s.heap.push (seqObj "list" #[] 0)).update s.heap.objs.size (Obj.mapSeq (· ++ vs.toArray))).push (seqObj "list" vs.toArray 0) }
  rw [sz]
  refine wpAny_bind (wpAny_holding (wpAny_call_entry slot_list_sort ⟨_, there, rfl⟩ entry_list_sort (list_sort_treeK PyProof.Rows.strKind_oneLt there hS.keysOf (fun v₁ v₂ rest e => keyKind_strs (by rw [← e]; exact hS)) few fun st hp hs => ⟨_, rfl, ?_⟩) (args_list_sort _)))
  obtain ⟨ss', h1, h2, h3⟩ := sorted_out_str hS hp hs
  exact wpAny_pure ⟨_, rfl, h _ ss' h1 h2 h3⟩
end
section
variable {X : Cx}
def rSortTp (K : PySem.W.Frag) : List V → Hp → VK → Prop := fun vs H Q => ∃ (a : Addr) (xs : List Str), vs = [V.ref a] ∧ SqT K H a (xs.map V.str) ∧ xs.length < 64 ∧ ∀ (ys : List Str) (p : Addr), ys.Perm xs → sortedS ys = true → H p = none → Q (.ref p) (upd H p (.lst (ys.map V.str)))
theorem cr_sortTp : CallR X (.builtin "sorted") (rSortTp X.K) := by
  intro pins s σ H vs us Q I r h
  obtain ⟨a, xs, rfl, hs, few, q⟩ := h
  obtain ⟨its, rv, hl, _⟩ := I.tuple hs
  rw [Vals.ref1 r]
  have len := rv.length
  rw [List.length_map] at len
  refine sorted_tup hl rv.strs (by rw [← len]; exact few) fun out ys h1 h2 h3 => ?_
  obtain ⟨ep, he⟩ := sortedAll_at s.heap its out
  have sz : (ys.map V.str).length ≤ sizeLine := by rw [List.length_map, h2.length_eq]; exact small64 few
  exact ⟨.ref _, upd H (s.heap.objs.size + 1) (.lst (ys.map V.str)), I.laid (t' := s.toks) (fun _ _ => sortedAll_old) (Nat.le_succ _) ⟨sz, out.toList, ep, vals_of_strs h1, he⟩, rfl, q ys _ h2 h3 (I.hok.fresh (Nat.le_succ _))⟩
end
end Stp
namespace Tma
open PySem PySem.Spec PyProof.Rows L2
theorem mul_one (ta : Addr) (cs : Array Value) (nn : Nat) (dq : Option Addr) (sq : Array (Option Value)) (tk1 : Tok) :
    Meets (Builtin.«tuple.__mul__» ⟨[.ref ta, .int 1 tk1], []⟩) (fun _ R s => s.heap.get? ta = some { cls := .type "tuple", dict := dq, data := .seq cs nn, slots := sq } ∧ R (.ok (.ret (Value.ref ta))) s) :=
  .of_wp fun pr1 ww A R s hh => by
    obtain ⟨hp1, gg, dg, tkk, oss⟩ := s
    obtain ⟨hq, hh⟩ := hh
    have fx := AutoSeq1.idx_int
    have b0 : (decide ((1 : Int) < -(2 ^ 63)) || decide ((1 : Int) ≥ 2 ^ 63)) = false := by decide
    have b1 : (cs.isEmpty || (1 : Int) == 1) = true := by rw [show ((1 : Int) == 1) = true by decide, Bool.or_true]
    wp_walk using wpAny_loadPart' hq
    repeat (first
      | (refine wpAny_ite_false (decide_eq_false (by rw [b0]; exact Bool.false_ne_true)) ?_; wp_walk using wpAny_loadPart' hq)
      | (refine wpAny_ite_true (decide_eq_true b1) ?_; wp_walk using wpAny_loadPart' hq))
    exact ⟨_, rfl, hh⟩
theorem mul_none (ta : Addr) (cs : Array Value) (nn : Nat) (dq : Option Addr) (sq : Array (Option Value)) (kk : Int) (tk1 : Tok) (b0 : (decide (kk < -(2 ^ 63)) || decide (kk ≥ 2 ^ 63)) = false) (b1 : (cs.isEmpty || kk == 1) = false) (b2 : (decide (kk ≤ 0) || cs.isEmpty) = true) :
    Meets (Builtin.«tuple.__mul__» ⟨[.ref ta, .int kk tk1], []⟩) (fun _ R s => s.heap.get? ta = some { cls := .type "tuple", dict := dq, data := .seq cs nn, slots := sq } ∧
      R (.ok (.ret (Value.ref s.heap.objs.size))) { s with heap := s.heap.push { cls := Value.type "tuple", data := Data.seq #[] }, toks := s.toks }) :=
  .of_wp fun pr1 ww A R s hh => by
    obtain ⟨hp1, gg, dg, tkk, oss⟩ := s
    obtain ⟨hq, hh⟩ := hh
    have fx := AutoSeq1.idx_int
    wp_walk using wpAny_loadPart' hq
    repeat (first
      | (refine wpAny_ite_false (decide_eq_false (by rw [b0]; exact Bool.false_ne_true)) ?_; wp_walk using wpAny_loadPart' hq)
      | (refine wpAny_ite_false (decide_eq_false (by rw [b1]; exact Bool.false_ne_true)) ?_; wp_walk using wpAny_loadPart' hq)
      | (refine wpAny_ite_true (decide_eq_true b2) ?_; wp_walk using wpAny_loadPart' hq))
    exact ⟨_, rfl, hh⟩
def rRepA (K : PySem.W.Frag) : R2 := fun x y H Q => ∃ (ta : Addr) (kk : Int) (xs : List V), x = .ref ta ∧ y = .int kk ∧ SqT K H ta xs ∧ xs ≠ [] ∧ -20000 ≤ kk ∧ kk ≤ 20000 ∧ xs.length ≤ 500 ∧
  (kk = 1 → Q (.ref ta) H) ∧ (kk ≠ 1 → ∀ p, H p = none → Q (.ref p) (upd H p (.tup (List.replicate kk.toNat xs).flatten)))
/-- t * k, whatever k is -/
theorem op_repA {X : Cx} : OpR X (binaryOp .Mult) (rRepA X.K) := by
  intro pins s σ H x y v u Q I rx ry hh
  obtain ⟨ta, kk, xs, rfl, rfl, hT, hne, lo, hi, hz, qa, qb⟩ := hh
  cases rx
  obtain ⟨tk1, rfl⟩ := ry
  obtain ⟨cells, rr, ⟨⟨cl1, dq, da1, sq⟩, g0, g1, nn, g2⟩, g3⟩ := I.tuple hT
  simp only at g1 g2
  subst g1 g2
  have len1 : cells.length = xs.length := rr.length.symm
  have ne0 : cells.toArray.isEmpty = false := by
    cases cells with
    | nil => exact absurd (List.eq_nil_of_length_eq_zero len1.symm) hne
    | cons c1 c2 => rfl
  have b0 : (decide (kk < -(2 ^ 63)) || decide (kk ≥ 2 ^ 63)) = false := by rw [decide_eq_false (by omega), decide_eq_false (by omega)]; rfl
  by_cases one : kk = 1
  · subst one
    refine wpAny_binaryOp_repeat_ref (T := "tuple") (U := "int") (by decide) ⟨_, g0, rfl⟩ (fun s1 => typeIs_int s1 1 tk1) noFill_tuple_mul F.fills_int_mul F.slot_int_rmul repeat_tuple F.slot_int_index.lookup (call_meets F.slot_int_rmul (typeIs_int s 1 tk1) F.entry_int_rmul (F.args_int_rmul_2 _ _) (int_rmul_tuple 1 tk1 ta cells.toArray nn dq sq) ⟨g0, rfl, ⟨_, g0, rfl⟩, call_meets F.slot_tuple_mul ⟨_, g0, rfl⟩ F.entry_tuple_mul (F.args_tuple_mul_2 _ _) (mul_one ta cells.toArray nn dq sq tk1) ⟨g0, ?_⟩⟩)
    exact ⟨.ref ta, H, I, rfl, qa rfl⟩
  have b1 : (cells.toArray.isEmpty || kk == 1) = false := by rw [ne0, Bool.false_or, beq_eq_false_iff_ne.mpr one]
  by_cases big : 2 ≤ kk
  · have b2 : (decide (kk ≤ 0) || cells.toArray.isEmpty) = false := by rw [ne0, Bool.or_false, decide_eq_false (by omega)]
    have size1 : cells.toArray.size = xs.length := by rw [List.size_toArray, len1]
    have pm : ((cells.toArray.size : Nat) : Int) * kk ≤ 10000000 := by
      rw [size1]
      have : ((xs.length : Nat) : Int) * kk ≤ 500 * kk := Int.mul_le_mul_of_nonneg_right (by omega) (by omega)
      omega
    have pn : kk.toNat * xs.length ≤ 20000 * 500 := Nat.mul_le_mul (by omega) hz
    have fl : (List.replicate kk.toNat cells).flatten.length ≤ sizeLine := by rw [PyProof.Rows.lm_len_rep_flat, len1, sizeLine_eq]; omega
    have b4 : Builtin.Tuple.tupleTooMany (((cells.toArray.size : Nat) : Int) * kk) = false := by unfold Builtin.Tuple.tupleTooMany; rw [sizeLine_eq, decide_eq_false (by omega)]
    refine wpAny_binaryOp_repeat_ref (T := "tuple") (U := "int") (by decide) ⟨_, g0, rfl⟩ (fun s1 => typeIs_int s1 kk tk1) noFill_tuple_mul F.fills_int_mul F.slot_int_rmul repeat_tuple F.slot_int_index.lookup (call_meets F.slot_int_rmul (typeIs_int s kk tk1) F.entry_int_rmul (F.args_int_rmul_2 _ _) (int_rmul_tuple kk tk1 ta cells.toArray nn dq sq) ⟨g0, rfl, ⟨_, g0, rfl⟩, call_meets F.slot_tuple_mul ⟨_, g0, rfl⟩ F.entry_tuple_mul (F.args_tuple_mul_2 _ _) (tuple_mulW ta cells.toArray nn dq sq kk tk1 b0 b1 b2 (by omega) b4 (by rw [size_rep, List.size_toArray]; exact fl)) ⟨g0, ?_⟩⟩)
    rw [size_rep]
    have q1 := qb one s.heap.objs.size (I.hok.fresh (Nat.le_refl _))
    exact ⟨.ref s.heap.objs.size, _, I.laid (t' := s.toks) (o := .tup (List.replicate kk.toNat xs).flatten) (fun b1 o1 qq => Heap.get?_push_of_some _ qq) (Nat.le_refl _) ⟨by rw [PyProof.Rows.lm_len_rep_flat, sizeLine_eq]; omega, _, rr.rep kk.toNat, IsTup.new _ _⟩, rfl, q1⟩
  · have b2 : (decide (kk ≤ 0) || cells.toArray.isEmpty) = true := by rw [decide_eq_true (by omega)]; rfl
    refine wpAny_binaryOp_repeat_ref (T := "tuple") (U := "int") (by decide) ⟨_, g0, rfl⟩ (fun s1 => typeIs_int s1 kk tk1) noFill_tuple_mul F.fills_int_mul F.slot_int_rmul repeat_tuple F.slot_int_index.lookup (call_meets F.slot_int_rmul (typeIs_int s kk tk1) F.entry_int_rmul (F.args_int_rmul_2 _ _) (int_rmul_tuple kk tk1 ta cells.toArray nn dq sq) ⟨g0, rfl, ⟨_, g0, rfl⟩, call_meets F.slot_tuple_mul ⟨_, g0, rfl⟩ F.entry_tuple_mul (F.args_tuple_mul_2 _ _) (mul_none ta cells.toArray nn dq sq kk tk1 b0 b1 b2) ⟨g0, ?_⟩⟩)
    have none_ : (List.replicate kk.toNat xs).flatten = [] := by rw [show kk.toNat = 0 by omega]; rfl
    have q1 := qb one s.heap.objs.size (I.hok.fresh (Nat.le_refl _))
    rw [none_] at q1
    exact ⟨.ref s.heap.objs.size, _, I.laid (t' := s.toks) (o := .tup []) (fun b1 o1 qq => Heap.get?_push_of_some _ qq) (Nat.le_refl _) ⟨Nat.zero_le _, [], .nil, IsTup.new _ _⟩, rfl, q1⟩
end Tma
namespace Jc
open PySem PySem.Spec PyProof.Rows L2
def rJoin (K : PySem.W.Frag) : V → List V → Hp → VK → Prop := fun x xs H Q => ∃ (sep : Str) (p : Addr) (ys : List Str), x = .str sep ∧ xs = [.ref p] ∧ (SqL K H p (ys.map V.str) ∨ SqT K H p (ys.map V.str)) ∧ (ys.map (·.length)).sum + ys.length * sep.length ≤ 16777216 ∧ Q (.str (Txt.join sep ys)) H
theorem pe_joinC {X : Cx} {K : PySem.W.Frag} (hK : X.K = K) {o e : Expr} {to te : TE} {apos pos : Pos} (ho : PE X o to) (he : PE X e te) (h1 : starEach [e] X.env = [(false, eval e X.env)] := by rfl) (h2 : attributeBase o "join" X.env (eval o X.env) = eval o X.env := by rfl) (h3 : (apos.endLine == pos.line) = true := by rfl) : PE X (.Call (.Attribute o "join" apos) [e] [] pos) (tM1 (rJoin K) to te) := by
  subst hK
  exact pe_join ho he h1 h2 h3
end Jc
namespace Th
open PySem PySem.Spec PyProof.Rows L2
def topS (i : Nat) : Stmt := PySem.Challenge.pw_throughlines_k80_nets_written.main.body.getD i (.Pass ⟨0, 0, 0, 0⟩)
abbrev FnP (K : PySem.W.Frag) (x : Str) (st : Stmt) (f : Addr) (fd : FuncData) : Prop := FunD K x x (defArgs st) (defBody st) (defScope st) [] [] f fd
abbrev s_is_whole : Stmt := topS 19
abbrev N_is_whole : List Str := ["thing"]
theorem sc_is_whole : FnScope N_is_whole ["thing"] (defScope s_is_whole) := ⟨rfl, rfl, rfl, by decide +kernel, rfl, by decide +kernel, by decide +kernel⟩
abbrev s_is_whole_between : Stmt := topS 20
abbrev N_is_whole_between : List Str := ["thing", "least", "most"]
theorem sc_is_whole_between : FnScope N_is_whole_between ["thing", "least", "most"] (defScope s_is_whole_between) := ⟨rfl, rfl, rfl, by decide +kernel, rfl, by decide +kernel, by decide +kernel⟩
abbrev s_is_name : Stmt := topS 21
abbrev N_is_name : List Str := ["thing", "letter"]
theorem sc_is_name : FnScope N_is_name ["thing"] (defScope s_is_name) := ⟨rfl, rfl, rfl, by decide +kernel, rfl, by decide +kernel, by decide +kernel⟩
abbrev s_is_tuple : Stmt := topS 22
abbrev N_is_tuple : List Str := ["thing", "fewest", "most"]
theorem sc_is_tuple : FnScope N_is_tuple ["thing", "fewest", "most"] (defScope s_is_tuple) := ⟨rfl, rfl, rfl, by decide +kernel, rfl, by decide +kernel, by decide +kernel⟩
abbrev s_all_unlike : Stmt := topS 23
abbrev N_all_unlike : List Str := ["things"]
theorem sc_all_unlike : FnScope N_all_unlike ["things"] (defScope s_all_unlike) := ⟨rfl, rfl, rfl, by decide +kernel, rfl, by decide +kernel, by decide +kernel⟩
abbrev s_is_net : Stmt := topS 30
abbrev N_is_net : List Str := ["thing", "lines", "stations", "junctions", "ties", "place"]
theorem sc_is_net : FnScope N_is_net ["thing"] (defScope s_is_net) := ⟨rfl, rfl, rfl, by decide +kernel, rfl, by decide +kernel, by decide +kernel⟩
abbrev s_are_lines : Stmt := topS 31
abbrev N_are_lines : List Str := ["thing", "line"]
theorem sc_are_lines : FnScope N_are_lines ["thing"] (defScope s_are_lines) := ⟨rfl, rfl, rfl, by decide +kernel, rfl, by decide +kernel, by decide +kernel⟩
abbrev s_are_stations : Stmt := topS 32
abbrev N_are_stations : List Str := ["lines", "thing", "station"]
theorem sc_are_stations : FnScope N_are_stations ["lines", "thing"] (defScope s_are_stations) := ⟨rfl, rfl, rfl, by decide +kernel, rfl, by decide +kernel, by decide +kernel⟩
abbrev s_is_station : Stmt := topS 33
abbrev N_is_station : List Str := ["lines", "thing"]
theorem sc_is_station : FnScope N_is_station ["lines", "thing"] (defScope s_is_station) := ⟨rfl, rfl, rfl, by decide +kernel, rfl, by decide +kernel, by decide +kernel⟩
abbrev s_are_junctions : Stmt := topS 34
abbrev N_are_junctions : List Str := ["lines", "thing", "junction"]
theorem sc_are_junctions : FnScope N_are_junctions ["lines", "thing"] (defScope s_are_junctions) := ⟨rfl, rfl, rfl, by decide +kernel, rfl, by decide +kernel, by decide +kernel⟩
abbrev s_is_junction : Stmt := topS 35
abbrev N_is_junction : List Str := ["lines", "thing"]
theorem sc_is_junction : FnScope N_is_junction ["lines", "thing"] (defScope s_is_junction) := ⟨rfl, rfl, rfl, by decide +kernel, rfl, by decide +kernel, by decide +kernel⟩
abbrev s_are_joined : Stmt := topS 36
abbrev N_are_joined : List Str := ["lines", "thing", "line"]
theorem sc_are_joined : FnScope N_are_joined ["lines", "thing"] (defScope s_are_joined) := ⟨rfl, rfl, rfl, by decide +kernel, rfl, by decide +kernel, by decide +kernel⟩
abbrev s_lines_by_place : Stmt := topS 37
abbrev N_lines_by_place : List Str := ["stations", "junctions", "found", "name", "joined", "line"]
theorem sc_lines_by_place : FnScope N_lines_by_place ["stations", "junctions"] (defScope s_lines_by_place) := ⟨rfl, rfl, rfl, by decide +kernel, rfl, by decide +kernel, by decide +kernel⟩
abbrev s_are_ties : Stmt := topS 38
abbrev N_are_ties : List Str := ["places", "thing", "tie"]
theorem sc_are_ties : FnScope N_are_ties ["places", "thing"] (defScope s_are_ties) := ⟨rfl, rfl, rfl, by decide +kernel, rfl, by decide +kernel, by decide +kernel⟩
abbrev s_is_tie : Stmt := topS 39
abbrev N_is_tie : List Str := ["places", "thing", "place", "far", "line", "chains"]
theorem sc_is_tie : FnScope N_is_tie ["places", "thing"] (defScope s_is_tie) := ⟨rfl, rfl, rfl, by decide +kernel, rfl, by decide +kernel, by decide +kernel⟩
abbrev s_words_of : Stmt := topS 44
abbrev N_words_of : List Str := ["thing", "words"]
theorem sc_words_of : FnScope N_words_of ["thing"] (defScope s_words_of) := ⟨rfl, rfl, rfl, by decide +kernel, rfl, by decide +kernel, by decide +kernel⟩
abbrev s_is_plain : Stmt := topS 45
abbrev N_is_plain : List Str := ["word", "figure"]
theorem sc_is_plain : FnScope N_is_plain ["word"] (defScope s_is_plain) := ⟨rfl, rfl, rfl, by decide +kernel, rfl, by decide +kernel, by decide +kernel⟩
abbrev s_fits : Stmt := topS 46
abbrev N_fits : List Str := ["slot", "word"]
theorem sc_fits : FnScope N_fits ["slot", "word"] (defScope s_fits) := ⟨rfl, rfl, rfl, by decide +kernel, rfl, by decide +kernel, by decide +kernel⟩
abbrev s_things_in : Stmt := topS 47
abbrev N_things_in : List Str := ["slots", "words", "slot", "word"]
theorem sc_things_in : FnScope N_things_in ["slots", "words"] (defScope s_things_in) := ⟨rfl, rfl, rfl, by decide +kernel, rfl, by decide +kernel, by decide +kernel⟩
abbrev s_house_in : Stmt := topS 48
abbrev N_house_in : List Str := ["words", "kind", "things"]
theorem sc_house_in : FnScope N_house_in ["words"] (defScope s_house_in) := ⟨rfl, rfl, rfl, by decide +kernel, rfl, by decide +kernel, by decide +kernel⟩
abbrev s_net_of_rows : Stmt := topS 49
abbrev N_net_of_rows : List Str := ["house", "kind"]
theorem sc_net_of_rows : FnScope N_net_of_rows ["house"] (defScope s_net_of_rows) := ⟨rfl, rfl, rfl, by decide +kernel, rfl, by decide +kernel, by decide +kernel⟩
abbrev s_show_row : Stmt := topS 51
abbrev N_show_row : List Str := ["things", "thing"]
theorem sc_show_row : FnScope N_show_row ["things"] (defScope s_show_row) := ⟨rfl, rfl, rfl, by decide +kernel, rfl, by decide +kernel, by decide +kernel⟩
abbrev s_show_net : Stmt := topS 52
abbrev N_show_net : List Str := ["net", "lines", "stations", "junctions", "ties", "rows", "line", "station", "name", "joined", "tie", "row"]
theorem sc_show_net : FnScope N_show_net ["net"] (defScope s_show_net) := ⟨rfl, rfl, rfl, by decide +kernel, rfl, by decide +kernel, by decide +kernel⟩
abbrev s_read_net : Stmt := topS 53
abbrev N_read_net : List Str := ["thing", "net"]
theorem sc_read_net : FnScope N_read_net ["thing"] (defScope s_read_net) := ⟨rfl, rfl, rfl, by decide +kernel, rfl, by decide +kernel, by decide +kernel⟩
abbrev s_net_in : Stmt := topS 54
abbrev N_net_in : List Str := ["thing", "house", "row", "words", "told", "kind"]
theorem sc_net_in : FnScope N_net_in ["thing"] (defScope s_net_in) := ⟨rfl, rfl, rfl, by decide +kernel, rfl, by decide +kernel, by decide +kernel⟩
abbrev s_l_bag : Stmt := topS 56
abbrev N_l_bag : List Str := ["_law_script", "_law_at", "_law_cell", "_law_great", "_law_primes"]
theorem sc_l_bag : FnScope N_l_bag ["_law_script", "_law_at"] (defScope s_l_bag) := ⟨rfl, rfl, rfl, by decide +kernel, rfl, by decide +kernel, by decide +kernel⟩
abbrev s_l_take : Stmt := topS 57
abbrev N_l_take : List Str := ["_law_bag_here", "_law_many", "_law_digit"]
theorem sc_l_take : FnScope N_l_take ["_law_bag_here", "_law_many"] (defScope s_l_take) := ⟨rfl, rfl, rfl, by decide +kernel, rfl, by decide +kernel, by decide +kernel⟩
abbrev s_l_names : Stmt := topS 58
abbrev N_l_names : List Str := ["_law_bag_here", "_law_many", "_law_head", "_law_tail", "_law_letters", "_law_stem", "_law_at", "_law_first", "_law_front", "_law_back", "_law_k"]
theorem sc_l_names : FnScope N_l_names ["_law_bag_here", "_law_many", "_law_head", "_law_tail"] (defScope s_l_names) := ⟨rfl, rfl, rfl, by decide +kernel, rfl, by decide +kernel, by decide +kernel⟩
abbrev s_l_net : Stmt := topS 59
abbrev N_l_net : List Str := ["_law_bag_here", "_law_many", "_law_signs", "_law_side", "_law_lines", "_law_some", "_law_stations", "_law_second", "_law_names_here", "_law_junctions", "_law_ties", "_law_k", "_law_sign", "_law_name", "_law_line", "_law_one"]
theorem sc_l_net : FnScope N_l_net ["_law_bag_here"] (defScope s_l_net) := ⟨rfl, rfl, rfl, by decide +kernel, rfl, by decide +kernel, by decide +kernel⟩
abbrev s_l_which : Stmt := topS 60
abbrev N_l_which : List Str := ["_law_e", "_law_told", "_law_names_here"]
theorem sc_l_which : FnScope N_l_which ["_law_e"] (defScope s_l_which) := ⟨rfl, rfl, rfl, by decide +kernel, rfl, by decide +kernel, by decide +kernel⟩
abbrev s_l_try : Stmt := topS 61
abbrev N_l_try : List Str := ["_law_deed", "_law_e"]
theorem sc_l_try : FnScope N_l_try ["_law_deed"] (defScope s_l_try) := ⟨rfl, rfl, rfl, by decide +kernel, rfl, by decide +kernel, by decide +kernel⟩
abbrev s_l_net_text : Stmt := topS 62
abbrev N_l_net_text : List Str := ["_law_net_here", "_law_lines", "_law_stations", "_law_junctions", "_law_ties", "_law_rows", "_law_line", "_law_one", "_law_name", "_law_own"]
theorem sc_l_net_text : FnScope N_l_net_text ["_law_net_here"] (defScope s_l_net_text) := ⟨rfl, rfl, rfl, by decide +kernel, rfl, by decide +kernel, by decide +kernel⟩
abbrev s_l_plain : Stmt := topS 63
abbrev N_l_plain : List Str := ["_law_word", "_law_sign"]
theorem sc_l_plain : FnScope N_l_plain ["_law_word"] (defScope s_l_plain) := ⟨rfl, rfl, rfl, by decide +kernel, rfl, by decide +kernel, by decide +kernel⟩
abbrev s_l_read : Stmt := topS 64
abbrev N_l_read : List Str := ["_law_text", "_law_found", "_law_least", "_law_row", "_law_words", "_law_net_here", "_law_kind"]
theorem sc_l_read : FnScope N_l_read ["_law_text"] (defScope s_l_read) := ⟨rfl, rfl, rfl, by decide +kernel, rfl, by decide +kernel, by decide +kernel⟩
abbrev s_l_near : Stmt := topS 65
abbrev N_l_near : List Str := ["_law_bag_here", "_law_text", "_law_signs", "_law_way", "_law_at", "_law_sign", "_law_rows", "_law_k", "_law_other", "_law_words"]
theorem sc_l_near : FnScope N_l_near ["_law_bag_here", "_law_text"] (defScope s_l_near) := ⟨rfl, rfl, rfl, by decide +kernel, rfl, by decide +kernel, by decide +kernel⟩
abbrev s_law : Stmt := topS 66
abbrev N_law : List Str := ["_law_script", "_law_k", "_law_bag_here", "_law_net_here", "_law_text", "_law_told", "_law_turn", "_law_near_here", "_law_due", "_law_thing"]
theorem sc_law : FnScope N_law ["_law_script"] (defScope s_law) := ⟨rfl, rfl, rfl, by decide +kernel, rfl, by decide +kernel, by decide +kernel⟩
def NET_ROWS_L : List Str := ["line", "station", "junction", "tie"]
structure Defs (K : PySem.W.Frag) (mg : Str → Option Value) where
  a_is_whole : Addr
  d_is_whole : FuncData
  F_is_whole : FnP K "is_whole" s_is_whole a_is_whole d_is_whole
  g_is_whole : mg "is_whole" = some (.ref a_is_whole)
  b_is_whole : Binds K d_is_whole ["thing"] []
  a_is_whole_between : Addr
  d_is_whole_between : FuncData
  F_is_whole_between : FnP K "is_whole_between" s_is_whole_between a_is_whole_between d_is_whole_between
  g_is_whole_between : mg "is_whole_between" = some (.ref a_is_whole_between)
  b_is_whole_between : Binds K d_is_whole_between ["thing", "least", "most"] []
  a_is_name : Addr
  d_is_name : FuncData
  F_is_name : FnP K "is_name" s_is_name a_is_name d_is_name
  g_is_name : mg "is_name" = some (.ref a_is_name)
  b_is_name : Binds K d_is_name ["thing"] []
  a_is_tuple : Addr
  d_is_tuple : FuncData
  F_is_tuple : FnP K "is_tuple" s_is_tuple a_is_tuple d_is_tuple
  g_is_tuple : mg "is_tuple" = some (.ref a_is_tuple)
  b_is_tuple : Binds K d_is_tuple ["thing", "fewest", "most"] []
  a_all_unlike : Addr
  d_all_unlike : FuncData
  F_all_unlike : FnP K "all_unlike" s_all_unlike a_all_unlike d_all_unlike
  g_all_unlike : mg "all_unlike" = some (.ref a_all_unlike)
  b_all_unlike : Binds K d_all_unlike ["things"] []
  a_is_net : Addr
  d_is_net : FuncData
  F_is_net : FnP K "is_net" s_is_net a_is_net d_is_net
  g_is_net : mg "is_net" = some (.ref a_is_net)
  b_is_net : Binds K d_is_net ["thing"] []
  a_are_lines : Addr
  d_are_lines : FuncData
  F_are_lines : FnP K "are_lines" s_are_lines a_are_lines d_are_lines
  g_are_lines : mg "are_lines" = some (.ref a_are_lines)
  b_are_lines : Binds K d_are_lines ["thing"] []
  a_are_stations : Addr
  d_are_stations : FuncData
  F_are_stations : FnP K "are_stations" s_are_stations a_are_stations d_are_stations
  g_are_stations : mg "are_stations" = some (.ref a_are_stations)
  b_are_stations : Binds K d_are_stations ["lines", "thing"] []
  a_is_station : Addr
  d_is_station : FuncData
  F_is_station : FnP K "is_station" s_is_station a_is_station d_is_station
  g_is_station : mg "is_station" = some (.ref a_is_station)
  b_is_station : Binds K d_is_station ["lines", "thing"] []
  a_are_junctions : Addr
  d_are_junctions : FuncData
  F_are_junctions : FnP K "are_junctions" s_are_junctions a_are_junctions d_are_junctions
  g_are_junctions : mg "are_junctions" = some (.ref a_are_junctions)
  b_are_junctions : Binds K d_are_junctions ["lines", "thing"] []
  a_is_junction : Addr
  d_is_junction : FuncData
  F_is_junction : FnP K "is_junction" s_is_junction a_is_junction d_is_junction
  g_is_junction : mg "is_junction" = some (.ref a_is_junction)
  b_is_junction : Binds K d_is_junction ["lines", "thing"] []
  a_are_joined : Addr
  d_are_joined : FuncData
  F_are_joined : FnP K "are_joined" s_are_joined a_are_joined d_are_joined
  g_are_joined : mg "are_joined" = some (.ref a_are_joined)
  b_are_joined : Binds K d_are_joined ["lines", "thing"] []
  a_lines_by_place : Addr
  d_lines_by_place : FuncData
  F_lines_by_place : FnP K "lines_by_place" s_lines_by_place a_lines_by_place d_lines_by_place
  g_lines_by_place : mg "lines_by_place" = some (.ref a_lines_by_place)
  b_lines_by_place : Binds K d_lines_by_place ["stations", "junctions"] []
  a_are_ties : Addr
  d_are_ties : FuncData
  F_are_ties : FnP K "are_ties" s_are_ties a_are_ties d_are_ties
  g_are_ties : mg "are_ties" = some (.ref a_are_ties)
  b_are_ties : Binds K d_are_ties ["places", "thing"] []
  a_is_tie : Addr
  d_is_tie : FuncData
  F_is_tie : FnP K "is_tie" s_is_tie a_is_tie d_is_tie
  g_is_tie : mg "is_tie" = some (.ref a_is_tie)
  b_is_tie : Binds K d_is_tie ["places", "thing"] []
  a_words_of : Addr
  d_words_of : FuncData
  F_words_of : FnP K "words_of" s_words_of a_words_of d_words_of
  g_words_of : mg "words_of" = some (.ref a_words_of)
  b_words_of : Binds K d_words_of ["thing"] []
  a_is_plain : Addr
  d_is_plain : FuncData
  F_is_plain : FnP K "is_plain" s_is_plain a_is_plain d_is_plain
  g_is_plain : mg "is_plain" = some (.ref a_is_plain)
  b_is_plain : Binds K d_is_plain ["word"] []
  a_fits : Addr
  d_fits : FuncData
  F_fits : FnP K "fits" s_fits a_fits d_fits
  g_fits : mg "fits" = some (.ref a_fits)
  b_fits : Binds K d_fits ["slot", "word"] []
  a_things_in : Addr
  d_things_in : FuncData
  F_things_in : FnP K "things_in" s_things_in a_things_in d_things_in
  g_things_in : mg "things_in" = some (.ref a_things_in)
  b_things_in : Binds K d_things_in ["slots", "words"] []
  a_house_in : Addr
  d_house_in : FuncData
  F_house_in : FnP K "house_in" s_house_in a_house_in d_house_in
  g_house_in : mg "house_in" = some (.ref a_house_in)
  b_house_in : Binds K d_house_in ["words"] []
  a_net_of_rows : Addr
  d_net_of_rows : FuncData
  F_net_of_rows : FnP K "net_of_rows" s_net_of_rows a_net_of_rows d_net_of_rows
  g_net_of_rows : mg "net_of_rows" = some (.ref a_net_of_rows)
  b_net_of_rows : Binds K d_net_of_rows ["house"] []
  a_show_row : Addr
  d_show_row : FuncData
  F_show_row : FnP K "show_row" s_show_row a_show_row d_show_row
  g_show_row : mg "show_row" = some (.ref a_show_row)
  b_show_row : Binds K d_show_row ["things"] []
  a_show_net : Addr
  d_show_net : FuncData
  F_show_net : FnP K "show_net" s_show_net a_show_net d_show_net
  g_show_net : mg "show_net" = some (.ref a_show_net)
  b_show_net : Binds K d_show_net ["net"] []
  a_read_net : Addr
  d_read_net : FuncData
  F_read_net : FnP K "read_net" s_read_net a_read_net d_read_net
  g_read_net : mg "read_net" = some (.ref a_read_net)
  b_read_net : Binds K d_read_net ["thing"] []
  a_net_in : Addr
  d_net_in : FuncData
  F_net_in : FnP K "net_in" s_net_in a_net_in d_net_in
  g_net_in : mg "net_in" = some (.ref a_net_in)
  b_net_in : Binds K d_net_in ["thing"] []
  a_l_bag : Addr
  d_l_bag : FuncData
  F_l_bag : FnP K "_law_bag" s_l_bag a_l_bag d_l_bag
  g_l_bag : mg "_law_bag" = some (.ref a_l_bag)
  b_l_bag : Binds K d_l_bag ["_law_script", "_law_at"] []
  a_l_take : Addr
  d_l_take : FuncData
  F_l_take : FnP K "_law_take" s_l_take a_l_take d_l_take
  g_l_take : mg "_law_take" = some (.ref a_l_take)
  b_l_take : Binds K d_l_take ["_law_bag_here", "_law_many"] []
  a_l_names : Addr
  d_l_names : FuncData
  F_l_names : FnP K "_law_names" s_l_names a_l_names d_l_names
  g_l_names : mg "_law_names" = some (.ref a_l_names)
  b_l_names : Binds K d_l_names ["_law_bag_here", "_law_many", "_law_head", "_law_tail"] []
  a_l_net : Addr
  d_l_net : FuncData
  F_l_net : FnP K "_law_net" s_l_net a_l_net d_l_net
  g_l_net : mg "_law_net" = some (.ref a_l_net)
  b_l_net : Binds K d_l_net ["_law_bag_here"] []
  a_l_which : Addr
  d_l_which : FuncData
  F_l_which : FnP K "_law_which" s_l_which a_l_which d_l_which
  g_l_which : mg "_law_which" = some (.ref a_l_which)
  b_l_which : Binds K d_l_which ["_law_e"] []
  a_l_try : Addr
  d_l_try : FuncData
  F_l_try : FnP K "_law_try" s_l_try a_l_try d_l_try
  g_l_try : mg "_law_try" = some (.ref a_l_try)
  b_l_try : Binds K d_l_try ["_law_deed"] []
  a_l_net_text : Addr
  d_l_net_text : FuncData
  F_l_net_text : FnP K "_law_net_text" s_l_net_text a_l_net_text d_l_net_text
  g_l_net_text : mg "_law_net_text" = some (.ref a_l_net_text)
  b_l_net_text : Binds K d_l_net_text ["_law_net_here"] []
  a_l_plain : Addr
  d_l_plain : FuncData
  F_l_plain : FnP K "_law_plain" s_l_plain a_l_plain d_l_plain
  g_l_plain : mg "_law_plain" = some (.ref a_l_plain)
  b_l_plain : Binds K d_l_plain ["_law_word"] []
  a_l_read : Addr
  d_l_read : FuncData
  F_l_read : FnP K "_law_read" s_l_read a_l_read d_l_read
  g_l_read : mg "_law_read" = some (.ref a_l_read)
  b_l_read : Binds K d_l_read ["_law_text"] []
  a_l_near : Addr
  d_l_near : FuncData
  F_l_near : FnP K "_law_near" s_l_near a_l_near d_l_near
  g_l_near : mg "_law_near" = some (.ref a_l_near)
  b_l_near : Binds K d_l_near ["_law_bag_here", "_law_text"] []
  t_LONGEST_NAME : Tok
  c_LONGEST_NAME : mg "LONGEST_NAME" = some (.int 8 t_LONGEST_NAME)
  t_MOST_LINES : Tok
  c_MOST_LINES : mg "MOST_LINES" = some (.int 8 t_MOST_LINES)
  t_MOST_STATIONS : Tok
  c_MOST_STATIONS : mg "MOST_STATIONS" = some (.int 16 t_MOST_STATIONS)
  t_MOST_JUNCTIONS : Tok
  c_MOST_JUNCTIONS : mg "MOST_JUNCTIONS" = some (.int 12 t_MOST_JUNCTIONS)
  t_MOST_TIES : Tok
  c_MOST_TIES : mg "MOST_TIES" = some (.int 40 t_MOST_TIES)
  t_MOST_CHAINS : Tok
  c_MOST_CHAINS : mg "MOST_CHAINS" = some (.int 9999 t_MOST_CHAINS)
  t_MOST_FIGURES : Tok
  c_MOST_FIGURES : mg "MOST_FIGURES" = some (.int 10 t_MOST_FIGURES)
  z_ValueError : mg "ValueError" = none
  z_abs : mg "abs" = none
  z_all : mg "all" = none
  z_bool : mg "bool" = none
  z_int : mg "int" = none
  z_isinstance : mg "isinstance" = none
  z_len : mg "len" = none
  z_max : mg "max" = none
  z_min : mg "min" = none
  z_range : mg "range" = none
  z_set : mg "set" = none
  z_sorted : mg "sorted" = none
  z_str : mg "str" = none
  z_super : mg "super" = none
  z_tuple : mg "tuple" = none
  z_zip : mg "zip" = none
  a_NET_ROWS : Addr
  o_NET_ROWS : Obj
  g_NET_ROWS : mg "NET_ROWS" = some (.ref a_NET_ROWS)
  k_NET_ROWS : List.lookup a_NET_ROWS K = some o_NET_ROWS
  u_NET_ROWS : Lka.tupO o_NET_ROWS NET_ROWS_L
  a_HouseError : Addr
  g_HouseError : mg "HouseError" = some (.ref a_HouseError)
  a_NoNet : Addr
  g_NoNet : mg "NoNet" = some (.ref a_NoNet)
  a_NoWay : Addr
  g_NoWay : mg "NoWay" = some (.ref a_NoWay)
  a_NoWagon : Addr
  g_NoWagon : mg "NoWagon" = some (.ref a_NoWagon)
  a_NoRules : Addr
  g_NoRules : mg "NoRules" = some (.ref a_NoRules)
  a_NoPaper : Addr
  g_NoPaper : mg "NoPaper" = some (.ref a_NoPaper)
  a_NoProof : Addr
  g_NoProof : mg "NoProof" = some (.ref a_NoProof)
  a_NotYet : Addr
  g_NotYet : mg "NotYet" = some (.ref a_NotYet)
  a_TooMany : Addr
  g_TooMany : mg "TooMany" = some (.ref a_TooMany)
  a_TooLate : Addr
  g_TooLate : mg "TooLate" = some (.ref a_TooLate)
  a_NoLine : Addr
  g_NoLine : mg "NoLine" = some (.ref a_NoLine)
  a_Stopped : Addr
  g_Stopped : mg "Stopped" = some (.ref a_Stopped)
  a_NoMonth : Addr
  g_NoMonth : mg "NoMonth" = some (.ref a_NoMonth)
  a_NoBill : Addr
  g_NoBill : mg "NoBill" = some (.ref a_NoBill)
  a_NoText : Addr
  g_NoText : mg "NoText" = some (.ref a_NoText)
  a_NoSaying : Addr
  g_NoSaying : mg "NoSaying" = some (.ref a_NoSaying)
  a_HOUSE_ROWS : Addr
  g_HOUSE_ROWS : mg "HOUSE_ROWS" = some (.ref a_HOUSE_ROWS)
  a_HOUSE_ROWS_0 : Addr
  o_HOUSE_ROWS_0 : Obj
  k_HOUSE_ROWS_0 : List.lookup a_HOUSE_ROWS_0 K = some o_HOUSE_ROWS_0
  u_HOUSE_ROWS_0 : Lka.tupO o_HOUSE_ROWS_0 ["name"]
  a_HOUSE_ROWS_1 : Addr
  o_HOUSE_ROWS_1 : Obj
  k_HOUSE_ROWS_1 : List.lookup a_HOUSE_ROWS_1 K = some o_HOUSE_ROWS_1
  u_HOUSE_ROWS_1 : Lka.tupO o_HOUSE_ROWS_1 ["name", "name"]
  a_HOUSE_ROWS_2 : Addr
  o_HOUSE_ROWS_2 : Obj
  k_HOUSE_ROWS_2 : List.lookup a_HOUSE_ROWS_2 K = some o_HOUSE_ROWS_2
  u_HOUSE_ROWS_2 : Lka.tupO o_HOUSE_ROWS_2 ["name", "name", ".."]
  a_HOUSE_ROWS_3 : Addr
  o_HOUSE_ROWS_3 : Obj
  k_HOUSE_ROWS_3 : List.lookup a_HOUSE_ROWS_3 K = some o_HOUSE_ROWS_3
  u_HOUSE_ROWS_3 : Lka.tupO o_HOUSE_ROWS_3 ["name", "name", "name", "number"]
  a_HOUSE_ROWS_4 : Addr
  o_HOUSE_ROWS_4 : Obj
  k_HOUSE_ROWS_4 : List.lookup a_HOUSE_ROWS_4 K = some o_HOUSE_ROWS_4
  u_HOUSE_ROWS_4 : Lka.tupO o_HOUSE_ROWS_4 ["name", "name", ".."]
  a_HOUSE_ROWS_5 : Addr
  o_HOUSE_ROWS_5 : Obj
  k_HOUSE_ROWS_5 : List.lookup a_HOUSE_ROWS_5 K = some o_HOUSE_ROWS_5
  u_HOUSE_ROWS_5 : Lka.tupO o_HOUSE_ROWS_5 ["number", "name"]
  a_HOUSE_ROWS_6 : Addr
  o_HOUSE_ROWS_6 : Obj
  k_HOUSE_ROWS_6 : List.lookup a_HOUSE_ROWS_6 K = some o_HOUSE_ROWS_6
  u_HOUSE_ROWS_6 : Lka.tupO o_HOUSE_ROWS_6 ["number", "number", "number", "number", ".."]
  p_NoText : PlE.Plain K a_NoText
  w_NoText : PlE.Wch K a_NoText a_HouseError [a_NoNet, a_NoWay, a_NoWagon, a_NoRules, a_NoPaper, a_NoProof, a_NotYet, a_TooMany, a_TooLate, a_NoLine, a_Stopped, a_NoMonth, a_NoBill, a_NoText, a_NoSaying] 13
  y_NoText : PySem.W.exmAny K (.ref a_NoText) [.ref a_NoPaper, .ref a_NoProof] = some false
structure DicT (w : World) {K : PySem.W.Frag} {mg : Str → Option Value} (T : Defs K mg) : Prop where
  d_HOUSE_ROWS_0 : KDct K w T.a_HOUSE_ROWS "line" (.ref T.a_HOUSE_ROWS_0)
  d_HOUSE_ROWS_1 : KDct K w T.a_HOUSE_ROWS "station" (.ref T.a_HOUSE_ROWS_1)
  d_HOUSE_ROWS_2 : KDct K w T.a_HOUSE_ROWS "junction" (.ref T.a_HOUSE_ROWS_2)
  d_HOUSE_ROWS_3 : KDct K w T.a_HOUSE_ROWS "tie" (.ref T.a_HOUSE_ROWS_3)
  d_HOUSE_ROWS_4 : KDct K w T.a_HOUSE_ROWS "way" (.ref T.a_HOUSE_ROWS_4)
  d_HOUSE_ROWS_5 : KDct K w T.a_HOUSE_ROWS "wagon" (.ref T.a_HOUSE_ROWS_5)
  d_HOUSE_ROWS_6 : KDct K w T.a_HOUSE_ROWS "rules" (.ref T.a_HOUSE_ROWS_6)
  n_HOUSE_ROWS : ∀ z : Str, z ∉ (["line", "station", "junction", "tie", "way", "wagon", "rules"] : List Str) → KMiss K w T.a_HOUSE_ROWS z
  l_HOUSE_ROWS : (T.a_HOUSE_ROWS == sysModules) = false
end Th
namespace Th
open PySem PySem.Spec PyProof.Rows L2
def dd_is_whole : He.DefD := ⟨("is_whole", none), "is_whole", "is_whole", defArgs s_is_whole, defBody s_is_whole, defScope s_is_whole, [], []⟩
def dd_is_whole_between : He.DefD := ⟨("is_whole_between", none), "is_whole_between", "is_whole_between", defArgs s_is_whole_between, defBody s_is_whole_between, defScope s_is_whole_between, [], []⟩
def dd_is_name : He.DefD := ⟨("is_name", none), "is_name", "is_name", defArgs s_is_name, defBody s_is_name, defScope s_is_name, [], []⟩
def dd_is_tuple : He.DefD := ⟨("is_tuple", none), "is_tuple", "is_tuple", defArgs s_is_tuple, defBody s_is_tuple, defScope s_is_tuple, [], []⟩
def dd_all_unlike : He.DefD := ⟨("all_unlike", none), "all_unlike", "all_unlike", defArgs s_all_unlike, defBody s_all_unlike, defScope s_all_unlike, [], []⟩
def dd_is_net : He.DefD := ⟨("is_net", none), "is_net", "is_net", defArgs s_is_net, defBody s_is_net, defScope s_is_net, [], []⟩
def dd_are_lines : He.DefD := ⟨("are_lines", none), "are_lines", "are_lines", defArgs s_are_lines, defBody s_are_lines, defScope s_are_lines, [], []⟩
def dd_are_stations : He.DefD := ⟨("are_stations", none), "are_stations", "are_stations", defArgs s_are_stations, defBody s_are_stations, defScope s_are_stations, [], []⟩
def dd_is_station : He.DefD := ⟨("is_station", none), "is_station", "is_station", defArgs s_is_station, defBody s_is_station, defScope s_is_station, [], []⟩
def dd_are_junctions : He.DefD := ⟨("are_junctions", none), "are_junctions", "are_junctions", defArgs s_are_junctions, defBody s_are_junctions, defScope s_are_junctions, [], []⟩
def dd_is_junction : He.DefD := ⟨("is_junction", none), "is_junction", "is_junction", defArgs s_is_junction, defBody s_is_junction, defScope s_is_junction, [], []⟩
def dd_are_joined : He.DefD := ⟨("are_joined", none), "are_joined", "are_joined", defArgs s_are_joined, defBody s_are_joined, defScope s_are_joined, [], []⟩
def dd_lines_by_place : He.DefD := ⟨("lines_by_place", none), "lines_by_place", "lines_by_place", defArgs s_lines_by_place, defBody s_lines_by_place, defScope s_lines_by_place, [], []⟩
def dd_are_ties : He.DefD := ⟨("are_ties", none), "are_ties", "are_ties", defArgs s_are_ties, defBody s_are_ties, defScope s_are_ties, [], []⟩
def dd_is_tie : He.DefD := ⟨("is_tie", none), "is_tie", "is_tie", defArgs s_is_tie, defBody s_is_tie, defScope s_is_tie, [], []⟩
def dd_words_of : He.DefD := ⟨("words_of", none), "words_of", "words_of", defArgs s_words_of, defBody s_words_of, defScope s_words_of, [], []⟩
def dd_is_plain : He.DefD := ⟨("is_plain", none), "is_plain", "is_plain", defArgs s_is_plain, defBody s_is_plain, defScope s_is_plain, [], []⟩
def dd_fits : He.DefD := ⟨("fits", none), "fits", "fits", defArgs s_fits, defBody s_fits, defScope s_fits, [], []⟩
def dd_things_in : He.DefD := ⟨("things_in", none), "things_in", "things_in", defArgs s_things_in, defBody s_things_in, defScope s_things_in, [], []⟩
def dd_house_in : He.DefD := ⟨("house_in", none), "house_in", "house_in", defArgs s_house_in, defBody s_house_in, defScope s_house_in, [], []⟩
def dd_net_of_rows : He.DefD := ⟨("net_of_rows", none), "net_of_rows", "net_of_rows", defArgs s_net_of_rows, defBody s_net_of_rows, defScope s_net_of_rows, [], []⟩
def dd_show_row : He.DefD := ⟨("show_row", none), "show_row", "show_row", defArgs s_show_row, defBody s_show_row, defScope s_show_row, [], []⟩
def dd_show_net : He.DefD := ⟨("show_net", none), "show_net", "show_net", defArgs s_show_net, defBody s_show_net, defScope s_show_net, [], []⟩
def dd_read_net : He.DefD := ⟨("read_net", none), "read_net", "read_net", defArgs s_read_net, defBody s_read_net, defScope s_read_net, [], []⟩
def dd_net_in : He.DefD := ⟨("net_in", none), "net_in", "net_in", defArgs s_net_in, defBody s_net_in, defScope s_net_in, [], []⟩
def dd_l_bag : He.DefD := ⟨("_law_bag", none), "_law_bag", "_law_bag", defArgs s_l_bag, defBody s_l_bag, defScope s_l_bag, [], []⟩
def dd_l_take : He.DefD := ⟨("_law_take", none), "_law_take", "_law_take", defArgs s_l_take, defBody s_l_take, defScope s_l_take, [], []⟩
def dd_l_names : He.DefD := ⟨("_law_names", none), "_law_names", "_law_names", defArgs s_l_names, defBody s_l_names, defScope s_l_names, [], []⟩
def dd_l_net : He.DefD := ⟨("_law_net", none), "_law_net", "_law_net", defArgs s_l_net, defBody s_l_net, defScope s_l_net, [], []⟩
def dd_l_which : He.DefD := ⟨("_law_which", none), "_law_which", "_law_which", defArgs s_l_which, defBody s_l_which, defScope s_l_which, [], []⟩
def dd_l_try : He.DefD := ⟨("_law_try", none), "_law_try", "_law_try", defArgs s_l_try, defBody s_l_try, defScope s_l_try, [], []⟩
def dd_l_net_text : He.DefD := ⟨("_law_net_text", none), "_law_net_text", "_law_net_text", defArgs s_l_net_text, defBody s_l_net_text, defScope s_l_net_text, [], []⟩
def dd_l_plain : He.DefD := ⟨("_law_plain", none), "_law_plain", "_law_plain", defArgs s_l_plain, defBody s_l_plain, defScope s_l_plain, [], []⟩
def dd_l_read : He.DefD := ⟨("_law_read", none), "_law_read", "_law_read", defArgs s_l_read, defBody s_l_read, defScope s_l_read, [], []⟩
def dd_l_near : He.DefD := ⟨("_law_near", none), "_law_near", "_law_near", defArgs s_l_near, defBody s_l_near, defScope s_l_near, [], []⟩
def dd_law : He.DefD := ⟨("law", none), "law", "law", defArgs s_law, defBody s_law, defScope s_law, [], []⟩
def fn : List He.DefD := [dd_is_whole, dd_is_whole_between, dd_is_name, dd_is_tuple, dd_all_unlike, dd_is_net, dd_are_lines, dd_are_stations, dd_is_station, dd_are_junctions, dd_is_junction, dd_are_joined, dd_lines_by_place, dd_are_ties, dd_is_tie, dd_words_of, dd_is_plain, dd_fits, dd_things_in, dd_house_in, dd_net_of_rows, dd_show_row, dd_show_net, dd_read_net, dd_net_in, dd_l_bag, dd_l_take, dd_l_names, dd_l_net, dd_l_which, dd_l_try, dd_l_net_text, dd_l_plain, dd_l_read, dd_l_near, dd_law]
def fa : List He.Fa := .glo "is_whole" :: .glo "is_whole_between" :: .glo "is_name" :: .glo "is_tuple" :: .glo "all_unlike" :: .glo "is_net" :: .glo "are_lines" :: .glo "are_stations" :: .glo "is_station" :: .glo "are_junctions" :: .glo "is_junction" :: .glo "are_joined" :: .glo "lines_by_place" :: .glo "are_ties" :: .glo "is_tie" :: .glo "words_of" :: .glo "is_plain" :: .glo "fits" :: .glo "things_in" :: .glo "house_in" :: .glo "net_of_rows" :: .glo "show_row" :: .glo "show_net" :: .glo "read_net" :: .glo "net_in" :: .glo "_law_bag" :: .glo "_law_take" :: .glo "_law_names" :: .glo "_law_net" :: .glo "_law_which" :: .glo "_law_try" :: .glo "_law_net_text" :: .glo "_law_plain" :: .glo "_law_read" :: .glo "_law_near" :: .glo "law" :: .int "LONGEST_NAME" 8 :: .int "MOST_LINES" 8 :: .int "MOST_STATIONS" 16 :: .int "MOST_JUNCTIONS" 12 :: .int "MOST_TIES" 40 :: .int "MOST_CHAINS" 9999 :: .int "MOST_FIGURES" 10 :: .free "ValueError" :: .free "abs" :: .free "all" :: .free "bool" :: .free "int" :: .free "isinstance" :: .free "len" :: .free "max" :: .free "min" :: .free "range" :: .free "set" :: .free "sorted" :: .free "str" :: .free "super" :: .free "tuple" :: .free "zip" :: .glo "HouseError" :: .glo "NoNet" :: .glo "NoWay" :: .glo "NoWagon" :: .glo "NoRules" :: .glo "NoPaper" :: .glo "NoProof" :: .glo "NotYet" :: .glo "TooMany" :: .glo "TooLate" :: .glo "NoLine" :: .glo "Stopped" :: .glo "NoMonth" :: .glo "NoBill" :: .glo "NoText" :: .glo "NoSaying" :: .glo "NET_ROWS" :: .glo "HOUSE_ROWS" :: []
def tf : List He.Defn := [("law", none)]
def ts : List He.Tab := [(fun K => He.ga K "HOUSE_ROWS", ["line", "station", "junction", "tie", "way", "wagon", "rules"])]
def exb : PySem.W.Frag → Bool := fun K => PlE.plainB K (He.ga K "NoText") && (PlE.wchB K (He.ga K "NoText") (He.ga K "HouseError") [He.ga K "NoNet", He.ga K "NoWay", He.ga K "NoWagon", He.ga K "NoRules", He.ga K "NoPaper", He.ga K "NoProof", He.ga K "NotYet", He.ga K "TooMany", He.ga K "TooLate", He.ga K "NoLine", He.ga K "Stopped", He.ga K "NoMonth", He.ga K "NoBill", He.ga K "NoText", He.ga K "NoSaying"] 13 && (decide (PySem.W.exmAny K (.ref (He.ga K "NoText")) [.ref (He.ga K "NoPaper"), .ref (He.ga K "NoProof")] = some false) && (Lka.tupB K (He.ga K "NET_ROWS") NET_ROWS_L && (He.eqO (PySem.W.nsIn K (He.ga K "HOUSE_ROWS") "line") (some (some (.ref (DicK.refAt K (He.ga K "HOUSE_ROWS") "line")))) && (He.eqO (PySem.W.nsIn K (He.ga K "HOUSE_ROWS") "station") (some (some (.ref (DicK.refAt K (He.ga K "HOUSE_ROWS") "station")))) && (He.eqO (PySem.W.nsIn K (He.ga K "HOUSE_ROWS") "junction") (some (some (.ref (DicK.refAt K (He.ga K "HOUSE_ROWS") "junction")))) && (He.eqO (PySem.W.nsIn K (He.ga K "HOUSE_ROWS") "tie") (some (some (.ref (DicK.refAt K (He.ga K "HOUSE_ROWS") "tie")))) && (He.eqO (PySem.W.nsIn K (He.ga K "HOUSE_ROWS") "way") (some (some (.ref (DicK.refAt K (He.ga K "HOUSE_ROWS") "way")))) && (He.eqO (PySem.W.nsIn K (He.ga K "HOUSE_ROWS") "wagon") (some (some (.ref (DicK.refAt K (He.ga K "HOUSE_ROWS") "wagon")))) && (He.eqO (PySem.W.nsIn K (He.ga K "HOUSE_ROWS") "rules") (some (some (.ref (DicK.refAt K (He.ga K "HOUSE_ROWS") "rules")))) && (Lka.tupB K (DicK.refAt K (He.ga K "HOUSE_ROWS") "line") ["name"] && (Lka.tupB K (DicK.refAt K (He.ga K "HOUSE_ROWS") "station") ["name", "name"] && (Lka.tupB K (DicK.refAt K (He.ga K "HOUSE_ROWS") "junction") ["name", "name", ".."] && (Lka.tupB K (DicK.refAt K (He.ga K "HOUSE_ROWS") "tie") ["name", "name", "name", "number"] && (Lka.tupB K (DicK.refAt K (He.ga K "HOUSE_ROWS") "way") ["name", "name", ".."] && (Lka.tupB K (DicK.refAt K (He.ga K "HOUSE_ROWS") "wagon") ["number", "name"] && (Lka.tupB K (DicK.refAt K (He.ga K "HOUSE_ROWS") "rules") ["number", "number", "number", "number", ".."])))))))))))))))))
abbrev R : PySem.W.OpenRow := PySem.W.OpenLaw.row PySem.Challenge.rw_throughlines_k80_nets_written
abbrev hk : PySem.W.Hook := He.hookX 4 fa fn ts tf exb
def ob (s : PySem.W.SharedT) : He.AlX := He.obsX 4 fa fn ts tf exb (HandSHeadRun.getT s)
theorem ob_eq (s : PySem.W.SharedT) : ob s = hk.obs s.abs := He.obsX_eq (HandSHeadRun.getT_eq s)
def loose : List PySem.Str := "HouseError" :: "NoNet" :: "NoWay" :: "NoWagon" :: "NoRules" :: "NoPaper" :: "NoProof" :: "NotYet" :: "TooMany" :: "TooLate" :: "NoLine" :: "Stopped" :: "NoMonth" :: "NoBill" :: "NoText" :: "NoSaying" :: "is_whole" :: "is_whole_between" :: "is_name" :: "is_tuple" :: "all_unlike" :: "is_net" :: "are_lines" :: "are_stations" :: "is_station" :: "are_junctions" :: "is_junction" :: "are_joined" :: "lines_by_place" :: "are_ties" :: "is_tie" :: "words_of" :: "is_plain" :: "fits" :: "things_in" :: "house_in" :: "net_of_rows" :: "show_row" :: "show_net" :: "read_net" :: "net_in" :: "_law_bag" :: "_law_take" :: "_law_names" :: "_law_net" :: "_law_which" :: "_law_try" :: "_law_net_text" :: "_law_plain" :: "_law_read" :: "_law_near" :: "LONGEST_NAME" :: "MOST_LINES" :: "MOST_STATIONS" :: "MOST_JUNCTIONS" :: "MOST_TIES" :: "MOST_CHAINS" :: "MOST_FIGURES" :: "HOUSE_ROWS" :: "NET_ROWS" :: []
set_option maxHeartbeats 0 in
theorem run_f (dr : Source → Nat → Nat) (pa : Params) : HandSHeadRun.RunEq R (PySem.W.view R.prog [66]) hk ob 8000 loose ⟨dr, { pa with followText := fun s => if s = "special-get-raises" then false else pa.followText s }⟩ := by
  intro os
  kernel_rfl
set_option maxHeartbeats 0 in
theorem run_t (dr : Source → Nat → Nat) (pa : Params) : HandSHeadRun.RunEq R (PySem.W.view R.prog [66]) hk ob 8000 loose ⟨dr, { pa with followText := fun s => if s = "special-get-raises" then true else pa.followText s }⟩ := by
  intro os
  kernel_rfl
theorem run0 (dr : Source → Nat → Nat) (pa : Params) (b : Bool) : HandSHeadRun.RunEq R (PySem.W.view R.prog [66]) hk ob 8000 loose ⟨dr, { pa with followText := fun s => if s = "special-get-raises" then b else pa.followText s }⟩ := by
  cases b with
  | false => exact run_f dr pa
  | true => exact run_t dr pa
theorem run (w : World) : HandSHeadRun.RunEq R (PySem.W.view R.prog [66]) hk ob 8000 loose w := by
  have h := run0 w.draws w.params (w.params.followText "special-get-raises")
  have e : (⟨w.draws, { w.params with followText := fun s => if s = "special-get-raises" then w.params.followText "special-get-raises" else w.params.followText s }⟩ : World) = w := by
    have f : (fun s => if s = "special-get-raises" then w.params.followText "special-get-raises" else w.params.followText s) = w.params.followText := by
      funext s
      split
      · next c => rw [c]
      · rfl
    rw [f]
  rw [e] at h
  exact h
end Th
namespace Th
open PySem PySem.Spec PyProof.Rows L2
section
variable {P : Program} {w : World} {K : PySem.W.Frag} {mg : Str → Option Value} {base : Heap} {k : Nat}
set_option maxHeartbeats 8000000 in
theorem ok_l_bag (T : Defs K mg) : FnOk P w K mg base CX0 (k + 1) T.a_l_bag T.d_l_bag ["_law_script", "_law_at"] (sp_bag K) := by
  refine T.F_l_bag.ok sc_l_bag (fun vs H Q E h => ?_) (fun cdv A outer s H vs Q E hr h => ?_)
  · obtain ⟨a, ns, i, rfl, _⟩ := h
    rfl
  · obtain ⟨a, ns, i, rfl, hS, hi, q⟩ := h
    refine ⟨_, PSs.nox
(pss_cons (ps_set (i := 2) sc_l_bag.nd rfl (.inl rfl) (pe_int))
    (Evl.pss_cut (ps_if (pt_cmpR op_gt (pe_callB (r := rLenS K) call_lenS (by rfl) T.z_len (by decide +kernel) (pa_cons (pv 0) pa_nil)) (pe_int) (nomark _))
      (pss_one (ps_set (i := 2) sc_l_bag.nd rfl (.inl rfl) (pe_ix (r := rIxL K) ix_list (pv 0) (pe_op op_mod (pv 1) (pe_callB (r := rLenS K) call_lenS (by rfl) T.z_len (by decide +kernel) (pa_cons (pv 0) pa_nil))) (fun _ _ => rfl))))
      pss_nil)
    (pss_cons (ps_set (i := 3) sc_l_bag.nd rfl (.inl rfl) (pe_int))
    (Evl.pss_cut (ps_if (PW.pt (pw_and (pt_cmpR op_ge (pe_callB call_abs (by rfl) T.z_abs (by decide +kernel) (pa_cons (pv 2) pa_nil)) (pe_op op_pow (pe_int) (pe_int)) (nomark _)) (pw_and1 (pt_cmpR op_lt (pv 1) (pe_callB (r := rLenS K) call_lenS (by rfl) T.z_len (by decide +kernel) (pa_cons (pv 0) pa_nil)) (nomark _)))))
      (pss_one (ps_set (i := 3) sc_l_bag.nd rfl (.inl rfl) (pe_callB call_abs (by rfl) T.z_abs (by decide +kernel) (pa_cons (pv 2) pa_nil))))
      pss_nil)
    (pss_cons (ps_set (i := 4) sc_l_bag.nd rfl (.inl rfl) (pe_tup (pa_cons (pe_int) (pa_cons (pe_int) (pa_cons (pe_int) (pa_cons (pe_int) (pa_cons (pe_int) (pa_cons (pe_int) (pa_cons (pe_int) (pa_cons (pe_int) pa_nil))))))))))
    (pss_one (ps_ret (pe_lst (pa_cons (pv 3) (pa_cons (pe_op op_mod (pe_op op_pow (pe_op op_add (pe_op op_add (pe_op op_mod (pv 2) (pe_int)) (pe_op op_mul (pe_int) (pv 1))) (pe_int)) (pe_int)) (pe_ix (r := rIxT K) ix_tup (pv 4) (pe_op op_mod (pv 1) (pe_int)) (fun _ _ => rfl))) pa_nil))))))))))
      , ?_⟩
    obtain ⟨pr, hp, hp0, hp1⟩ := primes_at i
    have lenV : (ns.map V.int).length = ns.length := List.length_map _
    refine ⟨fun σ H1 => ∃ c : Int, σ = [some (.ref a), some (.int i), some (.int c), none, none] ∧ H1 = H, ?_, fun σ H1 mid => ?_⟩
    · refine ⟨.ref a, rfl, a, _, rfl, .inl hS, _, 0, rfl, rfl, _, rfl, ite2 (fun e => ?_) (fun e => ⟨0, rfl, rfl⟩)⟩
      have lp : 0 < ns.length := by
        have := of_decide_eq_true e
        rw [lenV] at this
        omega
      have hm : i % ns.length < ns.length := Nat.mod_lt _ lp
      have g1 : (ns.map V.int)[i % ns.length]? = some (.int ns[i % ns.length]) := by
        rw [List.getElem?_map, List.getElem?_eq_getElem hm]
        rfl
      refine ⟨.ref a, rfl, .int i, rfl, .ref a, rfl, a, _, rfl, .inl hS, (i : Int), _, rfl, rfl, by rw [lenV]; omega, a, _, _, .int ns[i % ns.length], rfl, rfl, hS, ?_, _, rfl, rfl⟩
      rw [lenV, ← Int.natCast_emod]
      exact atI_nat g1
    obtain ⟨c, rfl, rfl⟩ := mid
    refine ⟨fun σ H2 => ∃ g : Int, 0 ≤ g ∧ σ = [some (.ref a), some (.int i), some (.int c), some (.int g), none] ∧ H2 = H1, ?_, fun σ H2 mid => ?_⟩
    · refine ⟨.int c, rfl, _, rfl, 10, 18, rfl, rfl, ⟨by decide, by decide, by decide⟩, _, _, rfl, rfl, _, rfl, ite2 (fun e => ?_) (fun e => ⟨0, by decide, rfl, rfl⟩)⟩
      refine ⟨.int i, rfl, .ref a, rfl, a, _, rfl, .inl hS, _, _, rfl, rfl, _, rfl, ite2 (fun e => ?_) (fun e => ⟨0, by decide, rfl, rfl⟩)⟩
      refine ⟨.int c, rfl, _, rfl, _, ?_, rfl, rfl⟩
      split <;> omega
    obtain ⟨g, hg, rfl, rfl⟩ := mid
    refine ⟨by show 8 ≤ sizeLine; decide, fun l nl => ?_⟩
    refine ⟨_, rfl, .int c, rfl, c, 2147483647, rfl, rfl, pA, .int i, rfl, 104729, i, rfl, rfl, .inl ⟨by decide, by decide⟩, _, _, rfl, rfl, _, 7, rfl, rfl, _, 5, rfl, rfl, ⟨by decide, by decide, ?_⟩, .ref l, rfl, .int i, rfl, i, 8, rfl, rfl, p8, l, _, _, _, rfl, rfl, SqT.of upd_same, hp, _, pr, rfl, rfl, hp0, by show 2 ≤ sizeLine; decide, fun p np => ?_⟩
    · omega
    · have s1 := same_upd (o := .tup [V.int 2147483629, .int 2147483587, .int 2147483579, .int 2147483563, .int 2147483549, .int 2147483543, .int 2147483497, .int 2147483489]) nl
      exact q _ p (s1.trans (same_upd np)) (s1.free np) ⟨g, _, upd_same, hg, Int.emod_nonneg _ (by omega), Int.lt_trans (Int.emod_lt_of_pos _ hp0) hp1⟩
end
section
variable {P : Program} {w : World} {K : PySem.W.Frag} {mg : Str → Option Value} {base : Heap} {k : Nat}
theorem ok_l_take (T : Defs K mg) : FnOk P w K mg base CX0 (k + 1) T.a_l_take T.d_l_take ["_law_bag_here", "_law_many"] sp_take := by
  refine T.F_l_take.ok sc_l_take (fun vs H Q E h => ?_) (fun cdv A outer s H vs Q E hr h => ?_)
  · obtain ⟨p, m, rfl, _⟩ := h
    rfl
  · obtain ⟨p, m, rfl, ⟨g, r, hp, g0, r0, r1⟩, m0, m1, q⟩ := h
    refine ⟨_, PSs.nox
(pss_cons (ps_if (pt_cmpR op_gt (pe_ix (r := rIxL K) ix_list (pv 0) (pe_int) (fun _ _ => rfl)) (pe_int) (nomark _))
      (pss_cons (ps_set (i := 2) sc_l_take.nd rfl (.inl rfl) (pe_op op_mod (pe_ix (r := rIxL K) ix_list (pv 0) (pe_int) (fun _ _ => rfl)) (pv 1)))
      (pss_cons (ps_asg (pe_op op_fdiv (pe_ix (r := rIxL K) ix_list (pv 0) (pe_int) (fun _ _ => rfl)) (pv 1)) (pg_sub (pv 0) (pe_int) set_list))
      (pss_one (ps_ret (pv 2)))))
      pss_nil)
    (pss_cons (ps_asg (pe_op op_mod (pe_op op_add (pe_op op_mul (pe_ix (r := rIxL K) ix_list (pv 0) (pe_int) (fun _ _ => rfl)) (pe_int)) (pe_int)) (pe_int)) (pg_sub (pv 0) (pe_int) set_list))
    (pss_one (ps_ret (pe_op op_mod (pe_op op_mod (pe_op op_pow (pe_op op_fdiv (pe_ix (r := rIxL K) ix_list (pv 0) (pe_int) (fun _ _ => rfl)) (pe_int)) (pe_int)) (pe_int)) (pv 1))))))
      , ?_⟩
    refine ⟨.ref p, rfl, p, _, 0, .int g, rfl, rfl, SqL.of hp, atI_nat (j := 0) rfl, _, 0, rfl, rfl, _, rfl, ite2 (fun e => ?_) (fun e => ?_)⟩
    · refine ⟨.ref p, rfl, p, _, 0, .int g, rfl, rfl, SqL.of hp, atI_nat (j := 0) rfl, .int m, rfl, g, m, rfl, rfl, m0, ?_⟩
      refine ⟨.ref p, rfl, p, _, 0, .int g, rfl, rfl, SqL.of hp, atI_nat (j := 0) rfl, .int m, rfl, g, m, rfl, rfl, ⟨m0, m1⟩, .ref p, rfl, p, _, 0, 0, rfl, rfl, hp, rfl, ?_⟩
      refine ⟨_, rfl, q _ _ Keep.upd ⟨_, _, upd_same, ?_, r0, r1⟩ (Int.emod_nonneg _ (by omega)) (Int.emod_lt_of_pos _ m0)⟩
      exact Int.ediv_nonneg g0 (by omega)
    · refine ⟨.ref p, rfl, p, _, 1, .int r, rfl, rfl, SqL.of hp, atI_nat (j := 1) rfl, r, 48271, rfl, rfl, .inr ⟨by decide, by decide⟩, _, 11, rfl, rfl, _, 2147483647, rfl, rfl, pA, .ref p, rfl, p, _, 1, 1, rfl, rfl, hp, rfl, ?_⟩
      have hz0 : 0 ≤ (r * 48271 + 11) % 2147483647 := Int.emod_nonneg _ (by decide)
      have hz1 : (r * 48271 + 11) % 2147483647 < 2147483647 := Int.emod_lt_of_pos _ (by decide)
      refine ⟨.ref p, rfl, p, _, 1, _, rfl, rfl, SqL.of upd_same, atI_nat (j := 1) rfl, (r * 48271 + 11) % 2147483647, 8, rfl, rfl, ⟨by decide, by decide⟩, _, 3, rfl, rfl, ⟨by decide, by decide, ?_⟩, _, 2147483629, rfl, rfl, pB, .int m, rfl, _, m, rfl, rfl, m0, ?_⟩
      · omega
      · exact q _ _ Keep.upd ⟨_, _, upd_same, g0, hz0, by omega⟩ (Int.emod_nonneg _ (by omega)) (Int.emod_lt_of_pos _ m0)
end
end Th
namespace Th
open PySem PySem.Spec PyProof.Rows L2
def hNm (f : Nm) (d : Nat) (b : Nm) (k : Nat) : Nm := f ++ [97 + (d + k) % 26] ++ b
def hNms (f : Nm) (d : Nat) (b : Nm) (n : Nat) : List Nm := (List.range n).map (hNm f d b)
theorem hNms_len (f : Nm) (d : Nat) (b : Nm) (n : Nat) : (hNms f d b n).length = n := by unfold hNms; rw [List.length_map, List.length_range]
theorem hNms_at {f : Nm} {d : Nat} {b : Nm} {n k : Nat} (h : k < n) : (hNms f d b n)[k]? = some (hNm f d b k) := by
  unfold hNms
  rw [List.getElem?_map, List.getElem?_range h]
  rfl
theorem hNm_inj {f : Nm} {d : Nat} {b : Nm} {i j : Nat} (hi : i < 26) (hj : j < 26) (h : hNm f d b i = hNm f d b j) : i = j := by
  unfold hNm at h
  have h := List.append_cancel_right h
  have h := List.append_cancel_left h
  have h := (List.cons.inj h).1
  omega
theorem hNms_nd {f : Nm} {d : Nat} {b : Nm} {n : Nat} (h : n ≤ 26) : (hNms f d b n).Nodup := by
  rw [List.nodup_iff_pairwise_ne, List.pairwise_iff_getElem]
  intro i j hi hj hij e
  rw [hNms_len] at hi hj
  have e1 := hNms_at (f := f) (d := d) (b := b) hi
  have e2 := hNms_at (f := f) (d := d) (b := b) hj
  rw [List.getElem?_eq_getElem (by rw [hNms_len]; exact hi)] at e1
  rw [List.getElem?_eq_getElem (by rw [hNms_len]; exact hj)] at e2
  rw [Option.some.inj e1, Option.some.inj e2] at e
  have := hNm_inj (by omega) (by omega) e
  omega
/-- the stem's parts: with the sign ahead, or behind -/
structure HN (hd tl f b : Nm) : Prop where
  hf : ∃ f', f = hd ++ f'
  hb : ∃ b', b = b' ++ tl
  len : f.length + b.length ≤ 5 + hd.length + tl.length
  lf : Lower f
  lb : Lower b
theorem HN.nm {hd tl f b : Nm} (h : HN hd tl f b) (l : hd.length + tl.length ≤ 2) (d k : Nat) : IsNm (hNm f d b k) := by
  have := h.len
  refine ⟨by unfold hNm; rw [List.length_append, List.length_append, List.length_singleton]; omega, by unfold hNm; rw [List.length_append, List.length_append]; simp; omega, fun c hc => ?_⟩
  unfold hNm at hc
  rcases List.mem_append.mp hc with z | z
  · rcases List.mem_append.mp z with z | z
    · exact h.lf c z
    · rw [List.mem_singleton.mp z]; omega
  · exact h.lb c z
theorem HN.nms {hd tl f b : Nm} (h : HN hd tl f b) (l : hd.length + tl.length ≤ 2) (d n : Nat) : ∀ z ∈ hNms f d b n, IsNm z := fun z hz => by
  obtain ⟨k, _, rfl⟩ := List.mem_map.mp hz
  exact h.nm l d k
section
variable {P : Program} {w : World} {K : PySem.W.Frag} {mg : Str → Option Value} {base : Heap} {k : Nat}
def sp_l_names : Sp := fun vs H Q _ => ∃ (p : Addr) (n : Nat) (hd tl : Nm), vs = [.ref p, .int n, nS hd, nS tl] ∧ Bag H p ∧ n ≤ 26 ∧ Lower hd ∧ Lower tl ∧ hd.length + tl.length ≤ 2 ∧ ∀ (H' : Hp) (l : Addr) (f : Nm) (d : Nat) (b : Nm), Keep p H H' → Bag H' p → H l = none → H' l = some (.lst ((hNms f d b n).map nS)) → HN hd tl f b → Q (.ref l) H'
set_option maxHeartbeats 8000000 in
theorem ok_l_names (T : Defs K mg) : FnOk P w K mg base CX0 (k + 2) T.a_l_names T.d_l_names ["_law_bag_here", "_law_many", "_law_head", "_law_tail"] sp_l_names := by
  have G_l_take : FnOk P w K mg base CX0 (k + 1) _ _ _ _ := ok_l_take T
  refine T.F_l_names.ok sc_l_names (fun vs H Q E h => ?_) (fun cdv A outer s H vs Q E hr h => ?_)
  · obtain ⟨p, n, hd, tl, rfl, _⟩ := h
    rfl
  · obtain ⟨p, n, hd, tl, rfl, b, hn, lhd, ltl, hl1, q⟩ := h
    refine ⟨_, PSs.nox
(pss_cons (ps_set (i := 4) sc_l_names.nd rfl (.inr rfl) (pe_str))
    (pss_cons (ps_set (i := 5) sc_l_names.nd rfl (.inl rfl) (pe_join (pe_str) (pe_lc (own := [("_law_k", 10)]) (g := gName 10) rfl sc_l_names.nd (pi_range1 (by rfl) T.z_range (pa_cons (pe_call G_l_take hr (by rfl) T.g_l_take T.F_l_take.kp T.b_l_take .nil pass0 (pa_cons (pv 0) (pa_cons (pe_int) pa_nil))) pa_nil)) (blkOk_by (N := N_l_names) (sc := defScope s_l_names) (by decide +kernel)) (fun _ _ _ _ _ => (pg_name (i := 10) sc_l_names.nd rfl (.inl rfl))) (fun _ _ _ _ _ => pts_nil) (fun _ _ _ _ _ => (pe_ix ix_str (pv 4) (pe_call G_l_take hr (by rfl) T.g_l_take T.F_l_take.kp T.b_l_take .nil pass0 (pa_cons (pv 0) (pa_cons (pe_int) pa_nil))) (fun _ _ => rfl))))))
    (pss_cons (ps_asg (pe_tup (pa_cons (pe_call G_l_take hr (by rfl) T.g_l_take T.F_l_take.kp T.b_l_take .nil pass0 (pa_cons (pv 0) (pa_cons (pe_op op_add (pe_callB call_len_str (by rfl) T.z_len (by decide +kernel) (pa_cons (pv 5) pa_nil)) (pe_int)) pa_nil))) (pa_cons (pe_call G_l_take hr (by rfl) T.g_l_take T.F_l_take.kp T.b_l_take .nil pass0 (pa_cons (pv 0) (pa_cons (pe_int) pa_nil))) pa_nil))) (pg_tup rfl (pgs_cons (pg_name (i := 6) sc_l_names.nd rfl (.inl rfl)) (pgs_cons (pg_name (i := 7) sc_l_names.nd rfl (.inr rfl)) pgs_nil))))
    (pss_cons (ps_asg (pe_tup (pa_cons (pe_op op_add_str (pv 2) (pe_slice sl_str (pv 5) po_none (po_some (pv 6)))) (pa_cons (pe_op op_add_str (pe_slice sl_str (pv 5) (po_some (pv 6)) po_none) (pv 3)) pa_nil))) (pg_tup rfl (pgs_cons (pg_name (i := 8) sc_l_names.nd rfl (.inr rfl)) (pgs_cons (pg_name (i := 9) sc_l_names.nd rfl (.inr rfl)) pgs_nil))))
    (pss_one (ps_ret (pe_lc (own := [("_law_k", 10)]) (g := gName 10) rfl sc_l_names.nd (pi_range1 (by rfl) T.z_range (pa_cons (pv 1) pa_nil)) (blkOk_by (N := N_l_names) (sc := defScope s_l_names) (by decide +kernel)) (fun _ _ _ _ _ => (pg_name (i := 10) sc_l_names.nd rfl (.inl rfl))) (fun _ _ _ _ _ => pts_nil) (fun _ _ _ _ _ => (pe_op op_add_str (pe_op op_add_str (pv 8) (pe_ix ix_str (pv 4) (pe_op op_mod (pe_op op_add (pv 7) (pv 10)) (pe_int)) (fun _ _ => rfl))) (pv 9))))))))))
      , ?_⟩
    refine ⟨⟨_, rfl⟩, .ref p, rfl, p, 6, rfl, b, by decide, by decide, fun H4 sz k4 b4 z0 z1 => ?_⟩
    obtain ⟨sz, rfl⟩ : ∃ xn : Nat, sz = (xn : Int) := ⟨sz.toNat, by omega⟩
    have sz5 : sz ≤ 5 := by omega
    refine ⟨sz, rfl, by omega, by omega, fun D nD => ?_⟩
    have nDp : D ≠ p := b4.ne nD
    rw [Int.toNat_natCast]
    refine lc_it walk_range (fun j H5 => Keep p H4 H5 ∧ Bag H5 p ∧ ∃ cs : List Nat, cs.length = j ∧ Lower cs ∧ H5 D = some (.lst (((cs.map fun c => [c]).map SX.S).map V.str))) ⟨.of (same_upd nD), b4.keep (same_upd nD), [], rfl, fun c hc => by simp at hc, upd_same⟩ (fun _ _ _ _ => trivial) (fun j x H5 H6 hj pv y => ?_) (fun H5 pv => ?_)
    · obtain ⟨rfl, rfl⟩ := y
      obtain ⟨k5, b5, cs, hcl, hcs, eD⟩ := pv
      refine ⟨rfl, yes_ ?_⟩
      refine ⟨.str abc, rfl, .ref p, rfl, p, 26, rfl, b5, by decide, by decide, fun H7 d k7 b7 d0 d1 => ?_⟩
      refine ⟨abc, d, _, rfl, rfl, by decide +kernel, abc_at d0 d1, _, k7 _ _ nDp eD, by rw [List.length_map, List.length_map, List.length_map]; exact small5000 (by omega), (k5.trans k7).set nD, b7.at (upd_ne nDp.symm), cs ++ [97 + d.toNat], by rw [List.length_append, hcl]; rfl, fun c hc => ?_, by rw [upd_same, List.map_append, List.map_append, List.map_append]; rfl⟩
      rcases List.mem_append.mp hc with z | z
      · exact hcs c z
      · rw [List.mem_singleton.mp z]
        omega
    obtain ⟨k5, b5, cs, hcl, hcs, eD⟩ := pv
    have k05 := k4.trans k5
    refine ⟨_, D, (cs.map fun c => [c]).map SX.S, rfl, rfl, .inl (SqL.of eD), ?_, ?_⟩
    · rw [SX.lens, List.map_map, List.length_map, List.length_map]
      have e1 : (cs.map ((fun x : List Nat => x.length) ∘ fun c => [c])).sum = cs.length := by
        clear eD hcs hcl
        induction cs with
        | nil => rfl
        | cons c cs ih => rw [List.map_cons, List.sum_cons, ih, List.length_cons]; show 1 + _ = _; omega
      rw [e1]
      show cs.length + cs.length * 0 ≤ 16777216
      omega
    have ej : Txt.join (Str.ofString "") ((cs.map fun c => [c]).map SX.S) = SX.S cs := join_signs cs
    rw [ej]
    have cl8 : cs.length ≤ 5 := by omega
    have sline : ∀ {n : Nat}, n ≤ 100 → n ≤ sizeLine := fun h => Nat.le_of_lt (small5000 (by omega))
    -- at, first
    refine ⟨.ref p, rfl, .str (SX.S cs), rfl, _, rfl, sline (by rw [SX.S_len]; omega), _, 1, rfl, rfl, p, _, rfl, b5, by omega, by rw [SX.S_len]; omega, fun H6 at' k6 b6 a0 a1 => ?_⟩
    rw [SX.S_len] at a1
    obtain ⟨at', rfl⟩ : ∃ xn : Nat, at' = (xn : Int) := ⟨at'.toNat, by omega⟩
    refine ⟨.ref p, rfl, p, 26, rfl, b6, by decide, by decide, fun H7 fi k7 b7 f0 f1 => ?_⟩
    obtain ⟨fi, rfl⟩ : ∃ xn : Nat, fi = (xn : Int) := ⟨fi.toNat, by omega⟩
    refine ⟨two_sz, fun U nU => ?_⟩
    have sU := same_upd (o := .tup [.int (at' : Int), .int (fi : Int)]) nU
    refine ⟨U, _, rfl, SqT.of upd_same, rfl, _, _, rfl, _, [], rfl, rfl, ?_⟩
    have k07 := (k05.trans (k6.trans k7)).trans (.of sU)
    have b7 := b7.keep sU
    generalize upd H7 U (.tup [.int (at' : Int), .int (fi : Int)]) = H8 at k07 b7 ⊢
    -- front, back
    refine ⟨nS hd, rfl, .str (SX.S cs), rfl, .int (at' : Int), rfl, at', rfl, _, rfl, sline (by rw [SX.S_len]; omega), ?_⟩
    rw [Stm.cut_to]
    refine ⟨_, _, rfl, rfl, sline (by rw [SX.S_len, SX.S_len, List.length_take]; omega), ?_⟩
    rw [SX.S_cat]
    refine ⟨.str (SX.S cs), rfl, .int (at' : Int), rfl, at', rfl, _, rfl, sline (by rw [SX.S_len]; omega), ?_⟩
    rw [Stm.cut_of]
    refine ⟨nS tl, rfl, _, _, rfl, rfl, sline (by rw [SX.S_len, SX.S_len, List.length_drop]; omega), ?_⟩
    rw [SX.S_cat]
    refine ⟨two_sz, fun U2 nU2 => ?_⟩
    have sU2 := same_upd (o := .tup [nS (hd ++ cs.take at'), nS (cs.drop at' ++ tl)]) nU2
    refine ⟨U2, _, rfl, SqT.of upd_same, rfl, _, _, rfl, _, [], rfl, rfl, ?_⟩
    have k08 := k07.trans (.of sU2)
    have b8 := b7.keep sU2
    generalize upd H8 U2 (.tup [nS (hd ++ cs.take at'), nS (cs.drop at' ++ tl)]) = H9 at k08 b8 ⊢
    have hn' : HN hd tl (hd ++ cs.take at') (cs.drop at' ++ tl) := by
      refine ⟨⟨_, rfl⟩, ⟨_, rfl⟩, ?_, fun c hc => ?_, fun c hc => ?_⟩
      · rw [List.length_append, List.length_append, List.length_take, List.length_drop]
        omega
      · rcases List.mem_append.mp hc with z | z
        · exact lhd c z
        · exact hcs c (List.mem_of_mem_take z)
      · rcases List.mem_append.mp hc with z | z
        · exact hcs c (List.mem_of_mem_drop z)
        · exact ltl c z
    generalize hd ++ cs.take at' = f at hn' ⊢
    generalize cs.drop at' ++ tl = bk at hn' ⊢
    have fl := hn'.len
    refine ⟨.int n, rfl, n, rfl, by omega, by omega, fun L nL => ?_⟩
    rw [Int.toNat_natCast]
    refine lc_it (walk_range (lo := 0) (n := n)) (fun j Hx => Same H9 Hx ∧ Hx L = some (.lst ((hNms f fi bk j).map nS))) ⟨same_upd nL, upd_same⟩ (fun _ _ _ _ => trivial) (fun j x Hx Hx' hj pv y => ?_) (fun Hx pv => ?_)
    · have ex : x = V.int (j : Int) := by first | exact (y.1).trans (congrArg V.int (Int.zero_add _)) | exact (y.2).trans (congrArg V.int (Int.zero_add _))
      have eh : Hx' = Hx := by first | exact y.1 | exact y.2
      subst ex
      subst eh
      obtain ⟨sx, eL⟩ := pv
      have hm0 : 0 ≤ ((fi : Int) + (j : Int)) % 26 := Int.emod_nonneg _ (by decide)
      have hm1 : ((fi : Int) + (j : Int)) % 26 < 26 := Int.emod_lt_of_pos _ (by decide)
      have ei : (((fi : Int) + (j : Int)) % 26).toNat = (fi + j) % 26 := by omega
      refine ⟨rfl, yes_ ⟨nS f, rfl, .str abc, rfl, .int (fi : Int), rfl, .int (j : Int), rfl, _, _, rfl, rfl, _, 26, rfl, rfl, p26, abc, _, _, rfl, rfl, by decide +kernel, abc_at hm0 hm1, ?_⟩⟩
      rw [ei]
      refine ⟨_, _, rfl, rfl, sline (by rw [SX.S_len]; show _ + 1 ≤ 100; omega), ?_⟩
      rw [show SX.S f ++ Str.mk #[97 + (fi + j) % 26] = SX.S (f ++ [97 + (fi + j) % 26]) from SX.S_cat f [97 + (fi + j) % 26]]
      refine ⟨nS bk, rfl, _, _, rfl, rfl, sline (by rw [SX.S_len, SX.S_len, List.length_append]; show _ + 1 + _ ≤ 100; omega), ?_⟩
      rw [SX.S_cat]
      refine ⟨_, eL, by rw [List.length_map, hNms_len]; exact small5000 (by omega), same_set sx nL, ?_⟩
      rw [upd_same]
      unfold hNms
      rw [List.range_succ, List.map_append, List.map_append]
      rfl
    obtain ⟨sx, eL⟩ := pv
    exact q Hx L f fi bk (k08.trans (.of sx)) (b8.keep sx) (k08.free b nL b8) eL hn'
end
end Th
namespace Th
open PySem PySem.Spec PyProof.Rows L2
theorem up0 {H H' : Hp} {p : Addr} (s : Same H H') (n : H' p = none) : H p = none := by
  cases e : H p with
  | none => rfl
  | some o => rw [s _ _ e] at n; cases n
/-- tuples stay, those whose object is known, too -/
structure TKF (H H' : Hp) : Prop where
  t : ∀ a xs, H a = some (.tup xs) → H' a = some (.tup xs)
  f : ∀ a o xs, H a = some (.frz o (.tup xs)) → H' a = some (.frz o (.tup xs))
instance {H H' : Hp} : CoeFun (TKF H H') fun _ => ∀ a xs, H a = some (.tup xs) → H' a = some (.tup xs) := ⟨TKF.t⟩
theorem TKF.of {H H' : Hp} (s : Same H H') : TKF H H' := ⟨fun a xs e => s a _ e, fun a o xs e => s a _ e⟩
theorem TKF.trans {H H' H2 : Hp} (a : TKF H H') (b : TKF H' H2) : TKF H H2 := ⟨fun c xs e => b.t c xs (a.t c xs e), fun c o xs e => b.f c o xs (a.f c o xs e)⟩
theorem TKF.keep {p : Addr} {H H' : Hp} (k : Keep p H H') (b : Bag H p) : TKF H H' := by
  obtain ⟨g, r, e', _⟩ := b
  exact ⟨fun a xs e => k a _ (fun z => by rw [z, e'] at e; cases e) e, fun a o xs e => k a _ (fun z => by rw [z, e'] at e; cases e) e⟩
theorem TKF.upd {c : Addr} {H : Hp} {o : HO} (h : ∀ xs, H c ≠ some (.tup xs)) (h2 : ∀ o' xs, H c ≠ some (.frz o' (.tup xs)) := by intro o' xs e; simp_all) : TKF H (upd H c o) :=
  ⟨fun a xs e => by rw [upd_ne (fun z => h xs (by rw [← z]; exact e))]; exact e, fun a o' xs e => by rw [upd_ne (fun z => h2 o' xs (by rw [← z]; exact e))]; exact e⟩
theorem TpF.tk {H H' : Hp} {a : Addr} {xs : List V} (h : TpF H a xs) (k : TKF H H') : TpF H' a xs := let ⟨o, e, d⟩ := h; ⟨o, k.f _ _ _ e, d⟩
def StAt (H : Hp) (a : Addr) (st : Nm × Nm) : Prop := H a = some (.tup [nS st.1, nS st.2])
def JnAt (H : Hp) (a : Addr) (jn : Nm × List Nm) : Prop := ∃ b, H a = some (.tup [nS jn.1, .ref b]) ∧ H b = some (.tup (jn.2.map nS))
structure Ti where
  a : Nm
  b : Nm
  ln : Nm
  ch : Nat
def TiAt (H : Hp) (x : Addr) (t : Ti) : Prop := H x = some (.tup [nS t.a, nS t.b, nS t.ln, .int t.ch])
/-- the net at its address -/
def NetAt (H : Hp) (r : Addr) (ls : List Nm) (sts : List (Nm × Nm)) (jns : List (Nm × List Nm)) (tis : List Ti) : Prop :=
  ∃ (a b c d : Addr) (sa ja ta : List Addr), H r = some (.tup [.ref a, .ref b, .ref c, .ref d]) ∧ TpF H a (ls.map nS) ∧ TpF H b (sa.map V.ref) ∧ Paired (StAt H) sa sts ∧
    TpF H c (ja.map V.ref) ∧ Paired (JnAt H) ja jns ∧ TpF H d (ta.map V.ref) ∧ Paired (TiAt H) ta tis
theorem NetAt.tk {H H' : Hp} {r : Addr} {ls : List Nm} {sts : List (Nm × Nm)} {jns : List (Nm × List Nm)} {tis : List Ti} (h : NetAt H r ls sts jns tis) (k : TKF H H') : NetAt H' r ls sts jns tis := by
  obtain ⟨a, b, c, d, sa, ja, ta, e1, e2, e3, e4, e5, e6, e7, e8⟩ := h
  exact ⟨a, b, c, d, sa, ja, ta, k _ _ e1, e2.tk k, e3.tk k, paired_imp e4 fun x _ y e => k _ _ e, e5.tk k, paired_imp e6 (fun x _ y ⟨z, f1, f2⟩ => ⟨z, k _ _ f1, k _ _ f2⟩), e7.tk k, paired_imp e8 fun x _ y e => k _ _ e⟩
abbrev jV (js : List Nat) : List V := js.map fun j => V.int ((j : Nat) : Int)
theorem natsH {ns : List Int} (h : ∀ x ∈ ns, 0 ≤ x) : ns = (ns.map Int.toNat).map fun j => ((j : Nat) : Int) := by
  rw [List.map_map]
  conv => lhs; rw [← List.map_id ns]
  refine List.map_congr_left fun x hx => ?_
  have := h x hx
  show x = ((x.toNat : Nat) : Int)
  omega
theorem ints_natsH {ns : List Int} (h : ∀ x ∈ ns, 0 ≤ x) : ns.map V.int = jV (ns.map Int.toNat) := by
  conv => lhs; rw [natsH h]
  rw [List.map_map]
  rfl
theorem cut_takeH (xs : List V) (m : Nat) : cutV xs none (some (m : Int)) = xs.take m := by
  unfold cutV
  rw [HT.sIx_none, HT.sIx_nat]
  show (xs.drop 0).take (min m xs.length - 0) = xs.take m
  rw [List.drop_zero, Nat.sub_zero]
  by_cases h : m ≤ xs.length
  · rw [Nat.min_eq_left h]
  · rw [Nat.min_eq_right (by omega), List.take_length, List.take_of_length_le (by omega)]
def sgL (k : Nat) : List Nm := if k = 0 then [[115], [116], [106]] else [[107], [113], [122]]
def hdS (sd : Nat) (g : Nm) : Nm := if sd = 1 then g else []
def tlS (sd : Nat) (g : Nm) : Nm := if sd = 1 then [] else g
/-- the names' parts: lines, stations, second ones, junctions -/
structure HNs (k sd : Nat) (f0 b0 f1 b1 f2 b2 f3 b3 : Nm) : Prop where
  h0 : HN [] [] f0 b0
  h1 : HN (hdS sd ((sgL k).getD 0 [])) (tlS sd ((sgL k).getD 0 [])) f1 b1
  h2 : HN (hdS sd ((sgL k).getD 1 [])) (tlS sd ((sgL k).getD 1 [])) f2 b2
  h3 : HN (hdS sd ((sgL k).getD 2 [])) (tlS sd ((sgL k).getD 2 [])) f3 b3
def hSts (n m2 : Nat) (L S T : Nat → Nm) : List (Nm × Nm) := (List.range n).map (fun k => (S k, L k)) ++ (List.range m2).map fun k => (T k, L k)
def hJns (n : Nat) (L J : Nat → Nm) : List (Nm × List Nm) := (List.range (n - 1)).map fun k => (J k, [L k, L (k + 1)])
def hT1 (m : Nat) (L S J : Nat → Nm) : List (Nm × Nm × Nm) := ((List.range m).map fun k => [(S k, J k, L k), (J k, S (k + 1), L (k + 1))]).flatten
def hT2 (m : Nat) (L J : Nat → Nm) : List (Nm × Nm × Nm) := (List.range m).map fun k => (J k, J (k + 1), L (k + 1))
def hT3 (m : Nat) (L S T : Nat → Nm) : List (Nm × Nm × Nm) := (List.range m).map fun k => (T k, S k, L k)
def tiK (t : Ti) : Nm × Nm × Nm := (t.a, t.b, t.ln)
/-- further junctions: of the i-th name on, with lines in order, two at least -/
structure JxOk (n : Nat) (L J : Nat → Nm) (m : Nat) (x : Nm × List Nm) : Prop where
  at_ : ∃ k, k < m ∧ k < 3 ∧ x.1 = J (n - 1 + k)
  ls : ∃ js : List Nat, js.Pairwise (· < ·) ∧ (∀ j ∈ js, j < n) ∧ 2 ≤ js.length ∧ x.2 = js.map L
  l3 : x.2.length ≤ 3
theorem JxOk.more {n : Nat} {L J : Nat → Nm} {m : Nat} {x : Nm × List Nm} (h : JxOk n L J m x) : JxOk n L J (m + 1) x := ⟨let ⟨k, a, b⟩ := h.at_; ⟨k, by omega, b⟩, h.ls, h.l3⟩
theorem StAt.kp {p : Addr} {H H' : Hp} {a : Addr} {x : Nm × Nm} (h : StAt H a x) (k : Keep p H H') (b : Bag H p) : StAt H' a x := (TKF.keep k b).t _ _ h
theorem JnAt.kp {p : Addr} {H H' : Hp} {a : Addr} {x : Nm × List Nm} (h : JnAt H a x) (k : Keep p H H') (b : Bag H p) : JnAt H' a x := let ⟨c, h1, h2⟩ := h; ⟨c, (TKF.keep k b).t _ _ h1, (TKF.keep k b).t _ _ h2⟩
theorem TiAt.kp {p : Addr} {H H' : Hp} {a : Addr} {x : Ti} (h : TiAt H a x) (k : Keep p H H') (b : Bag H p) : TiAt H' a x := (TKF.keep k b).t _ _ h
theorem tk_updl {H : Hp} {F : Addr} {xs : List V} {o : HO} (e : H F = some (.lst xs)) : TKF H (upd H F o) := TKF.upd (fun ys z => by rw [e] at z; cases z) (fun o' ys z => by rw [e] at z; cases z)
/-- the lists of ties and junctions under way -/
structure TsS (H9 Hx : Hp) (p Ta D4 : Addr) (ta : List Addr) (tis : List Ti) (ja : List Addr) (jn : List (Nm × List Nm)) : Prop where
  k : Keep p H9 Hx
  b : Bag Hx p
  eT : Hx Ta = some (.lst (ta.map V.ref))
  hT : Paired (TiAt Hx) ta tis
  eD : Hx D4 = some (.lst (ja.map V.ref))
  hJ : Paired (JnAt Hx) ja jn
theorem TsS.keep {H9 Hx Hy : Hp} {p Ta D4 : Addr} {ta : List Addr} {tis : List Ti} {ja : List Addr} {jn : List (Nm × List Nm)} (h : TsS H9 Hx p Ta D4 ta tis ja jn) (nT : Ta ≠ p) (nD : D4 ≠ p) (k : Keep p Hx Hy) (b : Bag Hy p) : TsS H9 Hy p Ta D4 ta tis ja jn :=
  ⟨h.k.trans k, b, k _ _ nT h.eT, paired_imp h.hT fun a _ x e => e.kp k h.b, k _ _ nD h.eD, paired_imp h.hJ fun a _ x e => e.kp k h.b⟩
theorem TsS.addT {H9 Hx : Hp} {p Ta D4 u : Addr} {t : Ti} {ta : List Addr} {tis : List Ti} {ja : List Addr} {jn : List (Nm × List Nm)} (h : TsS H9 Hx p Ta D4 ta tis ja jn) (nT : Ta ≠ p) (n9 : H9 Ta = none) (ne : Ta ≠ D4) (hu : TiAt Hx u t) : TsS H9 (upd Hx Ta (.lst (ta.map V.ref ++ [.ref u]))) p Ta D4 (ta ++ [u]) (tis ++ [t]) ja jn := by
  have tk := tk_updl (o := .lst (ta.map V.ref ++ [.ref u])) h.eT
  exact ⟨h.k.set n9, h.b.at (upd_ne nT.symm), by rw [upd_same, List.map_append]; rfl, paired_snoc (paired_imp h.hT fun a _ x e => tk.t _ _ e) (tk.t _ _ hu), by rw [upd_ne ne.symm]; exact h.eD, paired_imp h.hJ fun a _ x ⟨c, h1, h2⟩ => ⟨c, tk.t _ _ h1, tk.t _ _ h2⟩⟩
theorem TsS.addJ {H9 Hx : Hp} {p Ta D4 u : Addr} {j : Nm × List Nm} {ta : List Addr} {tis : List Ti} {ja : List Addr} {jn : List (Nm × List Nm)} (h : TsS H9 Hx p Ta D4 ta tis ja jn) (nD : D4 ≠ p) (n9 : H9 D4 = none) (ne : Ta ≠ D4) (hu : JnAt Hx u j) : TsS H9 (upd Hx D4 (.lst (ja.map V.ref ++ [.ref u]))) p Ta D4 ta tis (ja ++ [u]) (jn ++ [j]) := by
  have tk := tk_updl (o := .lst (ja.map V.ref ++ [.ref u])) h.eD
  refine ⟨h.k.set n9, h.b.at (upd_ne nD.symm), by rw [upd_ne ne]; exact h.eT, paired_imp h.hT fun a _ x e => tk.t _ _ e, by rw [upd_same, List.map_append]; rfl, paired_snoc (paired_imp h.hJ fun a _ x ⟨c, h1, h2⟩ => ⟨c, tk.t _ _ h1, tk.t _ _ h2⟩) ?_⟩
  obtain ⟨c, h1, h2⟩ := hu
  exact ⟨c, tk.t _ _ h1, tk.t _ _ h2⟩
section
variable {P : Program} {w : World} {K : PySem.W.Frag} {mg : Str → Option Value} {base : Heap} {k : Nat}
/-- all that is known of the drawn net -/
def NetH (H : Hp) (r : Addr) (n m2 kk sd : Nat) (f0 b0 f1 b1 f2 b2 f3 b3 : Nm) (d0 d1 d2 d3 : Nat) (jx : List (Nm × List Nm)) (tis : List Ti) : Prop :=
  NetAt H r (hNms f0 d0 b0 n) (hSts n m2 (hNm f0 d0 b0) (hNm f1 d1 b1) (hNm f2 d2 b2)) (hJns n (hNm f0 d0 b0) (hNm f3 d3 b3) ++ jx) tis ∧ 1 ≤ n ∧ n ≤ 8 ∧ 1 ≤ m2 ∧ m2 ≤ n ∧ sd ≤ 1 ∧ HNs kk sd f0 b0 f1 b1 f2 b2 f3 b3 ∧ jx.length ≤ 3 ∧ (jx.map (·.1)).Nodup ∧ (∀ x ∈ jx, JxOk n (hNm f0 d0 b0) (hNm f3 d3 b3) 3 x) ∧
  tis.map tiK = hT1 (n - 1) (hNm f0 d0 b0) (hNm f1 d1 b1) (hNm f3 d3 b3) ++ hT2 (n - 2) (hNm f0 d0 b0) (hNm f3 d3 b3) ++ hT3 m2 (hNm f0 d0 b0) (hNm f1 d1 b1) (hNm f2 d2 b2) ∧ ∀ t ∈ tis, 1 ≤ t.ch ∧ t.ch ≤ 9999
def sp_l_net : Sp := fun vs H Q _ => ∃ (p : Addr), vs = [.ref p] ∧ Bag H p ∧ ∀ H' r n m2 kk sd f0 b0 f1 b1 f2 b2 f3 b3 d0 d1 d2 d3 jx tis, Keep p H H' → Bag H' p → NetH H' r n m2 kk sd f0 b0 f1 b1 f2 b2 f3 b3 d0 d1 d2 d3 jx tis → Q (.ref r) H'
/-- three lists of names -/
def NmsA (p D : Addr) (n sd : Nat) (H : Hp) (a : Addr) (g : Nm) : Prop := a ≠ p ∧ a ≠ D ∧ ∃ f d b, H a = some (.lst ((hNms f d b n).map nS)) ∧ HN (hdS sd g) (tlS sd g) f b
set_option maxHeartbeats 32000000 in
theorem ok_l_net (T : Defs K mg) : FnOk P w K mg base CX0 (k + 3) T.a_l_net T.d_l_net ["_law_bag_here"] sp_l_net := by
  have G_l_take : FnOk P w K mg base CX0 (k + 2) _ _ _ _ := ok_l_take (k := k + 1) T
  have G_l_names : FnOk P w K mg base CX0 (k + 2) _ _ _ _ := ok_l_names (k := k) T
  refine T.F_l_net.ok sc_l_net (fun vs H Q E h => ?_) (fun cdv A outer s H vs Q E hr h => ?_)
  · obtain ⟨p, rfl, _⟩ := h
    rfl
  · obtain ⟨p, rfl, b, q⟩ := h
    refine ⟨_, PSs.nox
(pss_cons (ps_set (i := 1) sc_l_net.nd rfl (.inr rfl) (pe_ix (r := rIxT K) ix_tup (pe_tup (pa_cons (pe_int) (pa_cons (pe_int) (pa_cons (pe_int) (pa_cons (pe_int) (pa_cons (pe_int) (pa_cons (pe_int) pa_nil))))))) (pe_call G_l_take hr (by rfl) T.g_l_take T.F_l_take.kp T.b_l_take .nil pass0 (pa_cons (pv 0) (pa_cons (pe_int) pa_nil))) (fun _ _ => rfl)))
    (Evl.pss_cut (ps_set (i := 2) sc_l_net.nd rfl (.inl rfl) (pe_ifExp (pt_cmpR op_eq (pe_call G_l_take hr (by rfl) T.g_l_take T.F_l_take.kp T.b_l_take .nil pass0 (pa_cons (pv 0) (pa_cons (pe_int) pa_nil))) (pe_int) (nomark _)) (pe_lst (pa_cons (pe_str) (pa_cons (pe_str) (pa_cons (pe_str) pa_nil)))) (pe_lst (pa_cons (pe_str) (pa_cons (pe_str) (pa_cons (pe_str) pa_nil))))))
    (pss_cons (ps_set (i := 3) sc_l_net.nd rfl (.inr rfl) (pe_call G_l_take hr (by rfl) T.g_l_take T.F_l_take.kp T.b_l_take .nil pass0 (pa_cons (pv 0) (pa_cons (pe_int) pa_nil))))
    (pss_cons (ps_set (i := 4) sc_l_net.nd rfl (.inr rfl) (pe_call G_l_names hr (by rfl) T.g_l_names T.F_l_names.kp T.b_l_names .nil pass0 (pa_cons (pv 0) (pa_cons (pv 1) (pa_cons (pe_str) (pa_cons (pe_str) pa_nil))))))
    (pss_cons (ps_setLc (i := 5) (own := [("_law_sign", 12)]) (g := gName 12) rfl sc_l_net.nd rfl rfl (sw_true rfl rfl rfl (by decide +kernel)) (pi_list (pv 2)) (blkOk_by (N := N_l_net) (sc := defScope s_l_net) (by decide +kernel)) (fun _ _ _ _ _ => (pg_name (i := 12) sc_l_net.nd rfl (.inl rfl))) (fun _ _ _ _ _ => pts_nil) (fun _ _ _ _ _ => (pe_call G_l_names hr (by rfl) T.g_l_names T.F_l_names.kp T.b_l_names .nil pass0 (pa_cons (pv 0) (pa_cons (pe_op op_add (pv 1) (pe_int)) (pa_cons (pe_op Stm.op_mulS01 (pv 12) (pv 3)) (pa_cons (pe_op Stm.op_mulS01 (pv 12) (pe_op op_sub (pe_int) (pv 3))) pa_nil)))))))
    (pss_cons (ps_setLc (i := 6) (own := [("_law_name", 13), ("_law_line", 14)]) (g := gTup K 2 (gCons (gName 13) (gCons (gName 14) gNil))) rfl sc_l_net.nd rfl rfl (sw_true rfl rfl rfl (by decide +kernel)) (pi_zip (by rfl) T.z_zip (pa_cons (pe_ix (r := rIxL K) ix_list (pv 5) (pe_int) (fun _ _ => rfl)) (pa_cons (pv 4) pa_nil))) (blkOk_by (N := N_l_net) (sc := defScope s_l_net) (by decide +kernel)) (fun _ _ _ _ _ => (pg_tup rfl (pgs_cons (pg_name (i := 13) sc_l_net.nd rfl (.inl rfl)) (pgs_cons (pg_name (i := 14) sc_l_net.nd rfl (.inl rfl)) pgs_nil)))) (fun _ _ _ _ _ => pts_nil) (fun _ _ _ _ _ => (pe_tup (pa_cons (pv 13) (pa_cons (pv 14) pa_nil)))))
    (pss_cons (ps_set (i := 7) sc_l_net.nd rfl (.inl rfl) (pe_slice sl_list (pe_lc (own := [("_law_name", 13), ("_law_line", 14)]) (g := gTup K 2 (gCons (gName 13) (gCons (gName 14) gNil))) rfl sc_l_net.nd (pi_zip (by rfl) T.z_zip (pa_cons (pe_ix (r := rIxL K) ix_list (pv 5) (pe_int) (fun _ _ => rfl)) (pa_cons (pv 4) pa_nil))) (blkOk_by (N := N_l_net) (sc := defScope s_l_net) (by decide +kernel)) (fun _ _ _ _ _ => (pg_tup rfl (pgs_cons (pg_name (i := 13) sc_l_net.nd rfl (.inl rfl)) (pgs_cons (pg_name (i := 14) sc_l_net.nd rfl (.inl rfl)) pgs_nil)))) (fun _ _ _ _ _ => pts_nil) (fun _ _ _ _ _ => (pe_tup (pa_cons (pv 13) (pa_cons (pv 14) pa_nil))))) po_none (po_some (pe_op op_add (pe_int) (pe_call G_l_take hr (by rfl) T.g_l_take T.F_l_take.kp T.b_l_take .nil pass0 (pa_cons (pv 0) (pa_cons (pv 1) pa_nil)))))))
    (pss_cons (ps_set (i := 8) sc_l_net.nd rfl (.inr rfl) (pe_ix (r := rIxL K) ix_list (pv 5) (pe_int) (fun _ _ => rfl)))
    (pss_cons (ps_setLc (i := 9) (own := [("_law_k", 11)]) (g := gName 11) rfl sc_l_net.nd rfl rfl (sw_true rfl rfl rfl (by decide +kernel)) (pi_range1 (by rfl) T.z_range (pa_cons (pe_op op_sub (pv 1) (pe_int)) pa_nil)) (blkOk_by (N := N_l_net) (sc := defScope s_l_net) (by decide +kernel)) (fun _ _ _ _ _ => (pg_name (i := 11) sc_l_net.nd rfl (.inl rfl))) (fun _ _ _ _ _ => pts_nil) (fun _ _ _ _ _ => (pe_tup (pa_cons (pe_ix (r := rIxL K) ix_list (pv 8) (pv 11) (fun _ _ => rfl)) (pa_cons (pe_tup (pa_cons (pe_ix (r := rIxL K) ix_list (pv 4) (pv 11) (fun _ _ => rfl)) (pa_cons (pe_ix (r := rIxL K) ix_list (pv 4) (pe_op op_add (pv 11) (pe_int)) (fun _ _ => rfl)) pa_nil))) pa_nil)))))
    (pss_cons (ps_set (i := 10) sc_l_net.nd rfl (.inl rfl) (pe_lst pa_nil))
    (pss_cons (ps_for PassesOwn.never rfl (pi_range1 (by rfl) T.z_range (pa_cons (pe_op op_sub (pv 1) (pe_int)) pa_nil)) (pg_name (i := 11) sc_l_net.nd rfl (.inl rfl))
      (pss_cons (ps_expr (pe_bm PySem.F.plainAttrs_list PySem.F.slot_list_append PySem.F.type_list_append mt_append (pv 10) (pa_cons (pe_tup (pa_cons (pe_ix (r := rIxT K) ix_tup (pe_ix (r := rIxL K) ix_list (pv 6) (pv 11) (fun _ _ => rfl)) (pe_int) (fun _ _ => rfl)) (pa_cons (pe_ix (r := rIxL K) ix_list (pv 8) (pv 11) (fun _ _ => rfl)) (pa_cons (pe_ix (r := rIxL K) ix_list (pv 4) (pv 11) (fun _ _ => rfl)) (pa_cons (pe_op op_add (pe_int) (pe_call G_l_take hr (by rfl) T.g_l_take T.F_l_take.kp T.b_l_take .nil pass0 (pa_cons (pv 0) (pa_cons (pe_int) pa_nil)))) pa_nil))))) pa_nil)))
      (pss_one (ps_expr (pe_bm PySem.F.plainAttrs_list PySem.F.slot_list_append PySem.F.type_list_append mt_append (pv 10) (pa_cons (pe_tup (pa_cons (pe_ix (r := rIxL K) ix_list (pv 8) (pv 11) (fun _ _ => rfl)) (pa_cons (pe_ix (r := rIxT K) ix_tup (pe_ix (r := rIxL K) ix_list (pv 6) (pe_op op_add (pv 11) (pe_int)) (fun _ _ => rfl)) (pe_int) (fun _ _ => rfl)) (pa_cons (pe_ix (r := rIxL K) ix_list (pv 4) (pe_op op_add (pv 11) (pe_int)) (fun _ _ => rfl)) (pa_cons (pe_op op_add (pe_int) (pe_call G_l_take hr (by rfl) T.g_l_take T.F_l_take.kp T.b_l_take .nil pass0 (pa_cons (pv 0) (pa_cons (pe_int) pa_nil)))) pa_nil))))) pa_nil))))))
    (pss_cons (ps_for PassesOwn.never rfl (pi_range1 (by rfl) T.z_range (pa_cons (pe_op op_sub (pv 1) (pe_int)) pa_nil)) (pg_name (i := 11) sc_l_net.nd rfl (.inl rfl))
      (pss_one (ps_expr (pe_bm PySem.F.plainAttrs_list PySem.F.slot_list_append PySem.F.type_list_append mt_append (pv 10) (pa_cons (pe_tup (pa_cons (pe_ix (r := rIxL K) ix_list (pv 8) (pv 11) (fun _ _ => rfl)) (pa_cons (pe_ix (r := rIxL K) ix_list (pv 8) (pe_op op_add (pv 11) (pe_int)) (fun _ _ => rfl)) (pa_cons (pe_ix (r := rIxL K) ix_list (pv 4) (pe_op op_add (pv 11) (pe_int)) (fun _ _ => rfl)) (pa_cons (pe_op op_add (pe_int) (pe_call G_l_take hr (by rfl) T.g_l_take T.F_l_take.kp T.b_l_take .nil pass0 (pa_cons (pv 0) (pa_cons (pe_int) pa_nil)))) pa_nil))))) pa_nil)))))
    (pss_cons (ps_for PassesOwn.never rfl (pi_range1 (by rfl) T.z_range (pa_cons (pe_callB (r := rLenS K) call_lenS (by rfl) T.z_len (by decide +kernel) (pa_cons (pv 7) pa_nil)) pa_nil)) (pg_name (i := 11) sc_l_net.nd rfl (.inl rfl))
      (pss_one (ps_expr (pe_bm PySem.F.plainAttrs_list PySem.F.slot_list_append PySem.F.type_list_append mt_append (pv 10) (pa_cons (pe_tup (pa_cons (pe_ix (r := rIxT K) ix_tup (pe_ix (r := rIxL K) ix_list (pv 7) (pv 11) (fun _ _ => rfl)) (pe_int) (fun _ _ => rfl)) (pa_cons (pe_ix (r := rIxT K) ix_tup (pe_ix (r := rIxL K) ix_list (pv 6) (pv 11) (fun _ _ => rfl)) (pe_int) (fun _ _ => rfl)) (pa_cons (pe_ix (r := rIxL K) ix_list (pv 4) (pv 11) (fun _ _ => rfl)) (pa_cons (pe_op op_add (pe_int) (pe_call G_l_take hr (by rfl) T.g_l_take T.F_l_take.kp T.b_l_take .nil pass0 (pa_cons (pv 0) (pa_cons (pe_int) pa_nil)))) pa_nil))))) pa_nil)))))
    (pss_cons (ps_for PassesOwn.never rfl (pi_range1 (by rfl) T.z_range (pa_cons (pe_op op_mul (pe_call G_l_take hr (by rfl) T.g_l_take T.F_l_take.kp T.b_l_take .nil pass0 (pa_cons (pv 0) (pa_cons (pe_int) pa_nil))) (pe_callTy call_int1 (by rfl) T.z_int (by decide +kernel) (pa_cons (pe_cmpR op_gt (pv 1) (pe_int) (nomark _)) pa_nil))) pa_nil)) (pg_name (i := 11) sc_l_net.nd rfl (.inl rfl))
      (pss_cons (ps_set (i := 5) sc_l_net.nd rfl (.inl rfl) (pe_callB (cr_sortedSet rfl) (by rfl) T.z_sorted (by decide +kernel) (pa_cons (pe_callTy (Sl.call_setI rfl) (by rfl) T.z_set (by decide +kernel) (pa_cons (pe_lst (pa_cons (pe_call G_l_take hr (by rfl) T.g_l_take T.F_l_take.kp T.b_l_take .nil pass0 (pa_cons (pv 0) (pa_cons (pv 1) pa_nil))) (pa_cons (pe_call G_l_take hr (by rfl) T.g_l_take T.F_l_take.kp T.b_l_take .nil pass0 (pa_cons (pv 0) (pa_cons (pv 1) pa_nil))) (pa_cons (pe_call G_l_take hr (by rfl) T.g_l_take T.F_l_take.kp T.b_l_take .nil pass0 (pa_cons (pv 0) (pa_cons (pv 1) pa_nil))) pa_nil)))) pa_nil)) pa_nil)))
      (pss_one (ps_if (pt_cmpR op_gt (pe_callB (r := rLenS K) call_lenS (by rfl) T.z_len (by decide +kernel) (pa_cons (pv 5) pa_nil)) (pe_int) (nomark _))
        (pss_one (ps_expr (pe_bm PySem.F.plainAttrs_list PySem.F.slot_list_append PySem.F.type_list_append mt_append (pv 9) (pa_cons (pe_tup (pa_cons (pe_ix (r := rIxL K) ix_list (pv 8) (pe_op op_add (pe_op op_sub (pv 1) (pe_int)) (pv 11)) (fun _ _ => rfl)) (pa_cons (pe_callTy call_tuple_of (by rfl) T.z_tuple (by decide +kernel) (pa_cons (pe_lc (own := [("_law_one", 15)]) (g := gName 15) rfl sc_l_net.nd (pi_list (pv 5)) (blkOk_by (N := N_l_net) (sc := defScope s_l_net) (by decide +kernel)) (fun _ _ _ _ _ => (pg_name (i := 15) sc_l_net.nd rfl (.inl rfl))) (fun _ _ _ _ _ => pts_nil) (fun _ _ _ _ _ => (pe_ix (r := rIxL K) ix_list (pv 4) (pv 15) (fun _ _ => rfl)))) pa_nil)) pa_nil))) pa_nil))))
        pss_nil))))
    (pss_one (ps_ret (pe_tup (pa_cons (pe_callTy (r := rTupF K) call_tuple_ofF (by rfl) T.z_tuple (by decide +kernel) (pa_cons (pv 4) pa_nil)) (pa_cons (pe_callTy (r := rTupF K) call_tuple_ofF (by rfl) T.z_tuple (by decide +kernel) (pa_cons (pe_op op_cat (pv 6) (pv 7)) pa_nil)) (pa_cons (pe_callTy (r := rTupF K) call_tuple_ofF (by rfl) T.z_tuple (by decide +kernel) (pa_cons (pv 9) pa_nil)) (pa_cons (pe_callTy (r := rTupF K) call_tuple_ofF (by rfl) T.z_tuple (by decide +kernel) (pa_cons (pv 10) pa_nil)) pa_nil)))))))))))))))))))))
      , ?_⟩
    -- many
    refine ⟨by show 6 ≤ sizeLine; decide, fun t nt => ?_⟩
    have st := same_upd (o := .tup [.int 3, .int 2, .int 4, .int 5, .int 8, .int 1]) nt
    have ntp := b.ne nt
    refine ⟨.ref p, rfl, p, 6, rfl, b.keep st, by decide, by decide, fun H1 c k1 b1 c0 c1 => ?_⟩
    obtain ⟨m0, hm0, em0⟩ := pick (ms := [3, 2, 4, 5, 8, 1]) c0 c1
    refine ⟨t, _, c, _, rfl, rfl, SqT.of (k1 _ _ ntp upd_same), em0, ?_⟩
    obtain ⟨n, rfl, n1, n8⟩ : ∃ n : Nat, m0 = (n : Int) ∧ 1 ≤ n ∧ n ≤ 8 := by
      simp only [List.mem_cons, List.not_mem_nil, or_false] at hm0
      exact ⟨m0.toNat, by omega, by omega, by omega⟩
    have k01 : Keep p H H1 := (Keep.of st).trans k1
    -- signs
    refine ⟨fun σ Hz => ∃ (G : Addr) (kk : Nat), σ = [some (.ref p), some (.int (n : Int)), some (.ref G), none, none, none, none, none, none, none, none, none, none, none, none, none] ∧ Keep p H Hz ∧ Bag Hz p ∧ G ≠ p ∧ Hz G = some (.lst ((sgL kk).map nS)), ?_, fun σ H2 mid => ?_⟩
    · refine ⟨.ref p, rfl, p, 2, rfl, b1, by decide, by decide, fun H2 c2 k2 b2 _ _ => ⟨rfl, _, rfl, ite2 (fun _ => ?_) (fun _ => ?_)⟩⟩
      · refine ⟨by show 3 ≤ sizeLine; decide, fun G nG => ?_⟩
        exact ⟨G, 0, rfl, (k01.trans k2).trans (.of (same_upd nG)), b2.keep (same_upd nG), b2.ne nG, upd_same⟩
      · refine ⟨by show 3 ≤ sizeLine; decide, fun G nG => ?_⟩
        exact ⟨G, 1, rfl, (k01.trans k2).trans (.of (same_upd nG)), b2.keep (same_upd nG), b2.ne nG, upd_same⟩
    obtain ⟨G, kk, rfl, k02, b2, nGp, eG⟩ := mid
    have sgl : (sgL kk).length = 3 := by unfold sgL; split <;> rfl
    have sglen : ∀ g ∈ sgL kk, g.length = 1 ∧ Lower g := fun g hg => by
      unfold sgL at hg
      split at hg <;> simp only [List.mem_cons, List.not_mem_nil, or_false] at hg <;> rcases hg with rfl | rfl | rfl <;> exact ⟨rfl, fun c hc => by rw [List.mem_singleton.mp hc]; omega⟩
    -- side
    refine ⟨.ref p, rfl, p, 2, rfl, b2, by decide, by decide, fun H3 sd k3 b3 s0 s1 => ?_⟩
    obtain ⟨sd, rfl⟩ : ∃ xn : Nat, sd = (xn : Int) := ⟨sd.toNat, by omega⟩
    have sd1 : sd ≤ 1 := by omega
    have eG3 := k3 _ _ nGp eG
    -- lines
    refine ⟨.ref p, rfl, .int (n : Int), rfl, p, n, [], [], rfl, b3, by omega, (fun c hc => by cases hc), (fun c hc => by cases hc), by show 0 + 0 ≤ 2; decide, fun H4 A0 f0 d0 b0 k4 b4 nA0 eA0 h0 => ?_⟩
    have nA0p : A0 ≠ p := b3.ne nA0
    have eG4 := k4 _ _ nGp eG3
    have k04 := (k02.trans k3).trans k4
    -- the others' names
    refine ⟨.ref G, rfl, G, rfl, ⟨_, SqL.of eG4⟩, fun So nSo => ?_⟩
    have nSop : So ≠ p := b4.ne nSo
    refine lc_it (walk_list (xs := (sgL kk).map nS)) (fun j Hx => Keep p H4 Hx ∧ Bag Hx p ∧ ∃ as : List Addr, Hx So = some (.lst (as.map V.ref)) ∧ Paired (NmsA p So (n + 3) sd Hx) as ((sgL kk).take j)) ⟨.of (same_upd nSo), b4.keep (same_upd nSo), [], upd_same, .nil⟩ (fun j Hx _ pv => SqL.of (pv.1 _ _ nGp eG4)) (fun j v Hx₀ Hx hj pv yy => ?_) (fun H5 pv => ?_)
    · obtain ⟨rfl, ey⟩ := yy
      obtain ⟨kx, bx, as, eSo, has⟩ := pv
      obtain ⟨g, eg, rfl⟩ : ∃ g, (sgL kk)[j]? = some g ∧ v = nS g := by
        rw [List.getElem?_map] at ey
        cases e : (sgL kk)[j]? with
        | none => rw [e] at ey; cases ey
        | some g => rw [e] at ey; exact ⟨g, rfl, (Option.some.inj ey).symm⟩
      obtain ⟨gl, glo⟩ := sglen g (List.mem_of_getElem? eg)
      rw [List.length_map, sgl] at hj
      have al := paired_len has
      rw [List.length_take, sgl] at al
      have mulS : ∀ z : Int, (z = 0 ∨ z = 1) → ∀ (Q : V → Hp → Prop) (Hy : Hp), Q (nS (if z = 1 then g else [])) Hy → Stm.rMulS01 (nS g) (.int z) Hy Q := fun z hz Q Hy h => by
        rcases hz with rfl | rfl
        · exact ⟨_, _, rfl, rfl, .inl ⟨rfl, h⟩⟩
        · exact ⟨_, _, rfl, rfl, .inr ⟨rfl, h⟩⟩
      refine ⟨rfl, yes_ ⟨.ref p, rfl, .int (n : Int), rfl, _, 3, rfl, rfl, nS g, rfl, .int (sd : Int), rfl, mulS _ (by omega) _ _ ?_⟩⟩
      refine ⟨nS g, rfl, .int (sd : Int), rfl, 1, _, rfl, rfl, mulS _ (by omega) _ _ ?_⟩
      rw [show (if ((sd : Nat) : Int) = 1 then g else []) = hdS sd g by unfold hdS; by_cases c : sd = 1 <;> simp [c]; omega, show (if (1 : Int) - ((sd : Nat) : Int) = 1 then g else []) = tlS sd g by unfold tlS; by_cases c : sd = 1 <;> simp [c]; omega]
      refine ⟨p, n + 3, hdS sd g, tlS sd g, by rw [show ((n + 3 : Nat) : Int) = (n : Int) + 3 by omega]; rfl, bx, by omega, ?_, ?_, ?_, fun Hy l f d bb ky by_ nl el hn => ?_⟩
      · unfold hdS; split; exact glo; exact fun c hc => by cases hc
      · unfold tlS; split; exact fun c hc => (by cases hc); exact glo
      · unfold hdS tlS; split <;> simp [gl]
      have nlSo : l ≠ So := fun z => by rw [z, eSo] at nl; cases nl
      have nlp := bx.ne nl
      refine ⟨_, ky _ _ nSop eSo, by rw [List.length_map]; exact small5000 (by omega), (kx.trans ky).set nSo, by_.at (upd_ne nSop.symm), as ++ [l], by rw [upd_same, List.map_append]; rfl, ?_⟩
      rw [List.take_add_one, eg]
      refine paired_snoc (paired_imp has fun a _ g ⟨h1, h2, f, d, bb, h3, h4⟩ => ⟨h1, h2, f, d, bb, by rw [upd_ne h2]; exact ky _ _ h1 h3, h4⟩) ⟨nlp, nlSo, f, d, bb, by rw [upd_ne nlSo]; exact el, hn⟩
    obtain ⟨k5, b5, as, eSo, has⟩ := pv
    rw [List.length_map, List.take_length] at has
    have k05 := k04.trans k5
    have eA05 := k5 _ _ nA0p eA0
    obtain ⟨g0, g1, g2, eg⟩ : ∃ g0 g1 g2, sgL kk = [g0, g1, g2] := by
      unfold sgL
      split <;> exact ⟨_, _, _, rfl⟩
    have hsg0 : (sgL kk).getD 0 [] = g0 := by rw [eg]; rfl
    have hsg1 : (sgL kk).getD 1 [] = g1 := by rw [eg]; rfl
    have hsg2 : (sgL kk).getD 2 [] = g2 := by rw [eg]; rfl
    rw [eg] at has
    cases has with
    | @cons a1 _ as _ q1 has =>
    cases has with
    | @cons a2 _ as _ q2 has =>
    cases has with
    | @cons a3 _ as _ q3 has =>
    cases has
    obtain ⟨na1p, na1S, f1, d1, b1', ea1, hn1⟩ := q1
    obtain ⟨na2p, na2S, f2, d2, b2', ea2, hn2⟩ := q2
    obtain ⟨na3p, na3S, f3, d3, b3', ea3, hn3⟩ := q3
    have hns : HNs kk sd f0 b0 f1 b1' f2 b2' f3 b3' := ⟨h0, by rw [hsg0]; exact hn1, by rw [hsg1]; exact hn2, by rw [hsg2]; exact hn3⟩
    clear h0 hn1 hn2 hn3 hsg0 hsg1 hsg2 eg sglen sgl
    have nmZ : ∀ (f : Nm) (d : Nat) (bb : Nm) (m k : Nat), k < m → ((hNms f d bb m).map nS)[k]? = some (nS (hNm f d bb k)) := fun f d bb m k h => by rw [List.getElem?_map, hNms_at h]; rfl
    have nmL : ∀ (f : Nm) (d : Nat) (bb : Nm) (m : Nat), ((hNms f d bb m).map nS).length = m := fun f d bb m => by rw [List.length_map, hNms_len]
    have nm_of : ∀ {f : Nm} {d : Nat} {bb : Nm} {m k : Nat} {v : V}, ((hNms f d bb m).map nS)[k]? = some v → k < m ∧ v = nS (hNm f d bb k) := fun {f d bb m k v} h => by
      have l := (List.getElem?_eq_some_iff.mp h).1
      rw [nmL] at l
      rw [nmZ _ _ _ _ _ l] at h
      exact ⟨l, (Option.some.inj h).symm⟩
    -- stations
    refine ⟨.ref So, rfl, So, _, (0 : Int), .ref a1, rfl, rfl, SqL.of eSo, rfl, .ref A0, rfl, a1, A0, _, _, rfl, SqL.of ea1, SqL.of eA05, fun D1 nD1 => ?_⟩
    refine lc_it (walk_zip (n := n) (xs := (hNms f1 d1 b1' (n + 3)).map nS) (ys := (hNms f0 d0 b0 n).map nS) (by rw [nmL, nmL]; omega)) (fun j Hx => Same H5 Hx ∧ ∃ sa : List Addr, Hx D1 = some (.lst (sa.map V.ref)) ∧ Paired (StAt Hx) sa ((List.range j).map fun k => (hNm f1 d1 b1' k, hNm f0 d0 b0 k))) ⟨same_upd nD1, [], upd_same, .nil⟩ (fun j Hx _ pv => ⟨SqL.of (pv.1 _ _ ea1), SqL.of (pv.1 _ _ eA05)⟩) (fun j v Hx Hx' hj pv yy => ?_) (fun H6 pv => ?_)
    · obtain ⟨U, xv, yv, rfl, nU, rfl, ex, ey⟩ := yy
      obtain ⟨sx, sa, eD, hsa⟩ := pv
      obtain ⟨_, rfl⟩ := nm_of (show ((hNms f1 d1 b1' (n + 3)).map nS)[j]? = some xv from ex)
      obtain ⟨_, rfl⟩ := nm_of (show ((hNms f0 d0 b0 n).map nS)[j]? = some yv from ey)
      have sU := same_upd (o := .tup [nS (hNm f1 d1 b1' j), nS (hNm f0 d0 b0 j)]) nU
      have sl := paired_len hsa
      rw [List.length_map, List.length_range] at sl
      refine ⟨U, _, rfl, SqT.of upd_same, rfl, _, _, rfl, _, [], rfl, rfl, rfl, yes_ ⟨_, rfl, _, rfl, two_sz, fun u nu => ?_⟩⟩
      have su := sU.trans (same_upd (o := .tup [nS (hNm f1 d1 b1' j), nS (hNm f0 d0 b0 j)]) nu)
      have eDu := su _ _ eD
      have tk := tk_updl (o := .lst (sa.map V.ref ++ [.ref u])) eDu
      refine ⟨_, eDu, by rw [List.length_map]; exact small5000 (by omega), same_set (sx.trans su) nD1, sa ++ [u], by rw [upd_same, List.map_append]; rfl, ?_⟩
      rw [List.range_succ, List.map_append]
      exact paired_snoc (paired_imp hsa fun a _ x h => tk.t _ _ (su _ _ h)) (tk.t _ _ upd_same)
    obtain ⟨s6, sa, eD1, hsa⟩ := pv
    have b6 := b5.keep s6
    have nD1p := b5.ne nD1
    have eSo6 := s6 _ _ eSo
    have ea26 := s6 _ _ ea2
    have eA06 := s6 _ _ eA05
    have sal := paired_len hsa
    rw [List.length_map, List.length_range] at sal
    -- the second ones
    refine ⟨.ref So, rfl, So, _, (1 : Int), .ref a2, rfl, rfl, SqL.of eSo6, rfl, .ref A0, rfl, a2, A0, _, _, rfl, SqL.of ea26, SqL.of eA06, fun D2 nD2 => ?_⟩
    refine lc_it (walk_zip (n := n) (xs := (hNms f2 d2 b2' (n + 3)).map nS) (ys := (hNms f0 d0 b0 n).map nS) (by rw [nmL, nmL]; omega)) (fun j Hx => Same H6 Hx ∧ ∃ sa : List Addr, Hx D2 = some (.lst (sa.map V.ref)) ∧ Paired (StAt Hx) sa ((List.range j).map fun k => (hNm f2 d2 b2' k, hNm f0 d0 b0 k))) ⟨same_upd nD2, [], upd_same, .nil⟩ (fun j Hx _ pv => ⟨SqL.of (pv.1 _ _ ea26), SqL.of (pv.1 _ _ eA06)⟩) (fun j v Hx Hx' hj pv yy => ?_) (fun H7 pv => ?_)
    · obtain ⟨U, xv, yv, rfl, nU, rfl, ex, ey⟩ := yy
      obtain ⟨sx, sa, eD, hsa⟩ := pv
      obtain ⟨_, rfl⟩ := nm_of (show ((hNms f2 d2 b2' (n + 3)).map nS)[j]? = some xv from ex)
      obtain ⟨_, rfl⟩ := nm_of (show ((hNms f0 d0 b0 n).map nS)[j]? = some yv from ey)
      have sU := same_upd (o := .tup [nS (hNm f2 d2 b2' j), nS (hNm f0 d0 b0 j)]) nU
      have sl := paired_len hsa
      rw [List.length_map, List.length_range] at sl
      refine ⟨U, _, rfl, SqT.of upd_same, rfl, _, _, rfl, _, [], rfl, rfl, rfl, yes_ ⟨_, rfl, _, rfl, two_sz, fun u nu => ?_⟩⟩
      have su := sU.trans (same_upd (o := .tup [nS (hNm f2 d2 b2' j), nS (hNm f0 d0 b0 j)]) nu)
      have eDu := su _ _ eD
      have tk := tk_updl (o := .lst (sa.map V.ref ++ [.ref u])) eDu
      refine ⟨_, eDu, by rw [List.length_map]; exact small5000 (by omega), same_set (sx.trans su) nD2, sa ++ [u], by rw [upd_same, List.map_append]; rfl, ?_⟩
      rw [List.range_succ, List.map_append]
      exact paired_snoc (paired_imp hsa fun a _ x h => tk.t _ _ (su _ _ h)) (tk.t _ _ upd_same)
    obtain ⟨s7, sb, eD2, hsb⟩ := pv
    have b7 := b6.keep s7
    have nD2p := b6.ne nD2
    have sbl := paired_len hsb
    rw [List.length_map, List.length_range] at sbl
    refine ⟨.ref p, rfl, .int (n : Int), rfl, p, n, rfl, b7, by omega, by omega, fun H8 c k8 b8 c0 c1 => ?_⟩
    obtain ⟨c, rfl⟩ : ∃ xn : Nat, c = (xn : Int) := ⟨c.toNat, by omega⟩
    refine ⟨1, (c : Int), rfl, rfl, _, rfl, D2, _, rfl, SqL.of (k8 _ _ nD2p eD2), fun D3 nD3 => ?_⟩
    rw [show (1 : Int) + (c : Int) = ((1 + c : Nat) : Int) by omega, cut_takeH, ← List.map_take]
    obtain ⟨m2, hm2⟩ : ∃ m2, m2 = 1 + c := ⟨_, rfl⟩
    rw [← hm2]
    have m21 : 1 ≤ m2 := by omega
    have m2n : m2 ≤ n := by omega
    clear hm2 c0 c1
    have sD3 := same_upd (o := .lst ((sb.take m2).map V.ref)) nD3
    have nD3p := b8.ne nD3
    have k58 : Keep p H5 (upd H8 D3 (.lst ((sb.take m2).map V.ref))) := (Keep.of (s6.trans s7)).trans (k8.trans (.of sD3))
    have b9 := b8.keep sD3
    have eD39 : (upd H8 D3 (.lst ((sb.take m2).map V.ref))) D3 = _ := upd_same
    have kk7 : Keep p H7 (upd H8 D3 (.lst ((sb.take m2).map V.ref))) := k8.trans (.of sD3)
    have hsb9 : Paired (StAt (upd H8 D3 (.lst ((sb.take m2).map V.ref)))) (sb.take m2) ((List.range m2).map fun k => (hNm f2 d2 b2' k, hNm f0 d0 b0 k)) := by
      have := paired_take m2 (paired_imp hsb fun a _ x h => h.kp kk7 b7)
      rw [← List.map_take, List.take_range, Nat.min_eq_left m2n] at this
      exact this
    have hsa9 : Paired (StAt (upd H8 D3 (.lst ((sb.take m2).map V.ref)))) sa _ := paired_imp hsa fun a _ x h => (show StAt H7 a x from s7 _ _ h).kp kk7 b7
    have eD19 := kk7 _ _ nD1p (s7 _ _ eD1)
    have eA09 := k58 _ _ nA0p eA05
    have ea39 := k58 _ _ na3p ea3
    have eSo9 := k58 _ _ nSop eSo
    have k09 := k05.trans k58
    clear hsa hsb eD2 eD1 ea26 eA06 eSo6
    have sb2 : (sb.take m2).length = m2 := by rw [List.length_take]; omega
    generalize sb.take m2 = sc at hsb9 eD39 sb2 k58 b9 kk7 hsa9 eD19 eA09 ea39 eSo9 k09 ⊢
    generalize upd H8 D3 (.lst (sc.map V.ref)) = H9 at hsb9 eD39 k58 b9 kk7 hsa9 eD19 eA09 ea39 eSo9 k09 ⊢
    clear kk7 k8 b8 sD3 nD3 s6 s7
    -- junctions
    refine ⟨.ref So, rfl, So, _, (2 : Int), .ref a3, rfl, rfl, SqL.of eSo9, rfl, ?_⟩
    refine ⟨.int (n : Int), rfl, _, 1, rfl, rfl, _, rfl, by omega, by omega, fun D4 nD4 => ?_⟩
    rw [show ((n : Int) - 1).toNat = n - 1 by omega]
    have nD4p := b9.ne nD4
    refine lc_it (walk_range (lo := 0) (n := n - 1)) (fun j Hx => Same H9 Hx ∧ ∃ ja : List Addr, Hx D4 = some (.lst (ja.map V.ref)) ∧ Paired (JnAt Hx) ja ((List.range j).map fun k => (hNm f3 d3 b3' k, [hNm f0 d0 b0 k, hNm f0 d0 b0 (k + 1)]))) ⟨same_upd nD4, [], upd_same, .nil⟩ (fun _ _ _ _ => trivial) (fun j x Hx Hx' hj pv y => ?_) (fun H10 pv => ?_)
    · have ex : x = V.int (j : Int) := by first | exact (y.1).trans (congrArg V.int (Int.zero_add _)) | exact (y.2).trans (congrArg V.int (Int.zero_add _))
      have eh : Hx' = Hx := by first | exact y.1 | exact y.2
      subst ex
      subst eh
      obtain ⟨sx, ja, eD, hja⟩ := pv
      have jl := paired_len hja
      rw [List.length_map, List.length_range] at jl
      refine ⟨rfl, yes_ ⟨.ref a3, rfl, .int (j : Int), rfl, a3, _, _, _, rfl, rfl, SqL.of (sx _ _ ea39), atI_nat (nmZ _ _ _ _ _ (by omega)), .ref A0, rfl, .int (j : Int), rfl, A0, _, _, _, rfl, rfl, SqL.of (sx _ _ eA09), atI_nat (nmZ _ _ _ _ _ (by omega)), .ref A0, rfl, .int (j : Int), rfl, _, 1, rfl, rfl, A0, _, _, nS (hNm f0 d0 b0 (j + 1)), rfl, rfl, SqL.of (sx _ _ eA09), ?_, two_sz, fun u nu => ?_⟩⟩
      · rw [show (j : Int) + 1 = ((j + 1 : Nat) : Int) by omega]
        exact atI_nat (nmZ _ _ _ _ _ (by omega))
      have su := same_upd (o := .tup [nS (hNm f0 d0 b0 j), nS (hNm f0 d0 b0 (j + 1))]) nu
      refine ⟨two_sz, fun v nv => ?_⟩
      have suv := su.trans (same_upd (o := .tup [nS (hNm f3 d3 b3' j), .ref u]) nv)
      have eDu := suv _ _ eD
      have tk := tk_updl (o := .lst (ja.map V.ref ++ [.ref v])) eDu
      refine ⟨_, eDu, by rw [List.length_map]; exact small5000 (by omega), same_set (sx.trans suv) nD4, ja ++ [v], by rw [upd_same, List.map_append]; rfl, ?_⟩
      rw [List.range_succ, List.map_append]
      exact paired_snoc (paired_imp hja fun a _ x ⟨c, h1, h2⟩ => ⟨c, tk.t _ _ (suv _ _ h1), tk.t _ _ (suv _ _ h2)⟩) ⟨u, tk.t _ _ upd_same, tk.t _ _ (same_upd nv _ _ upd_same)⟩
    obtain ⟨s10, ja, eD4, hja⟩ := pv
    have jal := paired_len hja
    rw [List.length_map, List.length_range] at jal
    -- ties
    refine ⟨Nat.zero_le _, fun Ta nTa => ?_⟩
    have s11 := s10.trans (same_upd (o := .lst []) nTa)
    have nTap : Ta ≠ p := (b9.keep s10).ne nTa
    have nTaD4 : Ta ≠ D4 := (ne_of_none eD4 nTa).symm
    have n9Ta : H9 Ta = none := up0 s10 nTa
    have b11 := b9.keep s11
    have eTa : (upd H10 Ta (.lst [])) Ta = some (.lst (([] : List Addr).map V.ref)) := upd_same
    have eD411 := same_upd (o := .lst []) nTa _ _ eD4
    have hja11 : Paired (JnAt (upd H10 Ta (.lst []))) ja _ := paired_imp hja fun a _ x ⟨c, h1, h2⟩ => ⟨c, same_upd nTa _ _ h1, same_upd nTa _ _ h2⟩
    have hn9 : ∀ {a : Addr} {xs : List V}, H9 a = some (.lst xs) → a ≠ Ta := fun h z => by rw [z, n9Ta] at h; cases h
    generalize upd H10 Ta (.lst []) = H11 at s11 b11 eTa eD411 hja11 ⊢
    clear hja eD4 s10 nTa
    have n9D4 : H9 D4 = none := nD4
    have h11 : TsS H9 (H11) p Ta D4 [] [] ja ((List.range (n - 1)).map fun k => (hNm f3 d3 b3' k, [hNm f0 d0 b0 k, hNm f0 d0 b0 (k + 1)])) := ⟨.of s11, b11, eTa, .nil, eD411, hja11⟩
    clear s11 b11 eTa eD411 hja11
    have chOk : ∀ (m : Int) (c : Int), m ≤ 9999 → 0 ≤ c → c < m → ∃ m : Nat, 1 + c = (m : Int) ∧ 1 ≤ m ∧ m ≤ 9999 := fun m c hm h0 h1 => ⟨(1 + c).toNat, by omega, by omega, by omega⟩
    have stat : ∀ {Hx : Hp}, Keep p H9 Hx → ∀ k, k < n → ∃ t, (sa.map V.ref)[k]? = some (.ref t) ∧ Hx t = some (.tup [nS (hNm f1 d1 b1' k), nS (hNm f0 d0 b0 k)]) := fun {Hx} kx k hk => by
      have e : sa[k]? = some sa[k] := List.getElem?_eq_getElem (by omega)
      obtain ⟨x, ex, hx⟩ := paired_get hsa9 e
      rw [List.getElem?_map, List.getElem?_range hk] at ex
      have ex := (Option.some.inj ex).symm
      subst ex
      exact ⟨sa[k], by rw [List.getElem?_map, e]; rfl, hx.kp kx b9⟩
    have secd : ∀ {Hx : Hp}, Keep p H9 Hx → ∀ k, k < m2 → ∃ t, (sc.map V.ref)[k]? = some (.ref t) ∧ Hx t = some (.tup [nS (hNm f2 d2 b2' k), nS (hNm f0 d0 b0 k)]) := fun {Hx} kx k hk => by
      have e : sc[k]? = some sc[k] := List.getElem?_eq_getElem (by omega)
      obtain ⟨x, ex, hx⟩ := paired_get hsb9 e
      rw [List.getElem?_map, List.getElem?_range hk] at ex
      have ex := (Option.some.inj ex).symm
      subst ex
      exact ⟨sc[k], by rw [List.getElem?_map, e]; rfl, hx.kp kx b9⟩
    refine ⟨.int (n : Int), rfl, _, 1, rfl, rfl, _, rfl, by omega, by omega, ?_⟩
    rw [show ((n : Int) - 1).toNat = n - 1 by omega]
    refine for_range (lo := 0) (n := n - 1) (fun i σ Hx => ∃ (y11 : Option V) (ta : List Addr) (tis : List Ti), σ = [some (.ref p), some (.int (n : Int)), some (.ref G), some (.int (sd : Int)), some (.ref A0), some (.ref So), some (.ref D1), some (.ref D3), some (.ref a3), some (.ref D4), some (.ref Ta), y11, none, none, none, none] ∧ TsS H9 Hx p Ta D4 ta tis ja ((List.range (n - 1)).map fun k => (hNm f3 d3 b3' k, [hNm f0 d0 b0 k, hNm f0 d0 b0 (k + 1)])) ∧ tis.map tiK = hT1 i (hNm f0 d0 b0) (hNm f1 d1 b1') (hNm f3 d3 b3') ∧ (∀ t ∈ tis, 1 ≤ t.ch ∧ t.ch ≤ 9999) ∧ tis.length = 2 * i)
      ⟨_, [], [], rfl, h11, rfl, fun t h => (by cases h), rfl⟩ (fun i σ Hx hi hp => ?_) (fun σ H12 hp => ?_)
    · obtain ⟨y11, ta, tis, rfl, hx, htk, htc, htl⟩ := hp
      have tal := paired_len hx.hT
      obtain ⟨st1, es1, ht1⟩ := stat hx.k i (by omega)
      have zi : V.int (0 + (i : Int)) = .int (i : Int) := by rw [Int.zero_add]
      refine ⟨.ref Ta, rfl, .inl ⟨rfl, _, SqL.of hx.eT⟩, .ref D1, rfl, .int (0 + (i : Int)), rfl, D1, _, _, .ref st1, rfl, rfl, SqL.of (hx.k _ _ nD1p eD19), by rw [Int.zero_add]; exact atI_nat es1, st1, _, (0 : Int), _, rfl, rfl, SqT.of ht1, rfl, .ref a3, rfl, .int (0 + (i : Int)), rfl, a3, _, _, _, rfl, rfl, SqL.of (hx.k _ _ na3p ea39), by rw [Int.zero_add]; exact atI_nat (nmZ _ _ _ _ _ (by omega)), .ref A0, rfl, .int (0 + (i : Int)), rfl, A0, _, _, _, rfl, rfl, SqL.of (hx.k _ _ nA0p eA09), by rw [Int.zero_add]; exact atI_nat (nmZ _ _ _ _ _ (by omega)), .ref p, rfl, p, 9999, rfl, hx.b, by decide, by decide, fun Hy c ky by_ c0 c1 => ?_⟩
      have hy := hx.keep nTap nD4p ky by_
      obtain ⟨ch, ech, ch1, ch2⟩ := chOk 9999 c (by omega) c0 c1
      refine ⟨1, c, rfl, rfl, four_sz, fun u nu => ?_⟩
      rw [show (fun i j : Int => V.int (i + j)) 1 c = V.int (ch : Int) from congrArg V.int ech]
      have su := same_upd (o := .tup [nS (hNm f1 d1 b1' i), nS (hNm f3 d3 b3' i), nS (hNm f0 d0 b0 i), .int (ch : Int)]) nu
      have hz := hy.keep nTap nD4p (.of su) (hy.b.keep su)
      have hu : TiAt (upd Hy u (.tup [nS (hNm f1 d1 b1' i), nS (hNm f3 d3 b3' i), nS (hNm f0 d0 b0 i), .int (ch : Int)])) u ⟨hNm f1 d1 b1' i, hNm f3 d3 b3' i, hNm f0 d0 b0 i, ch⟩ := upd_same
      refine ⟨Ta, _, _, rfl, rfl, hz.eT, by rw [List.length_map]; exact small5000 (by omega), ?_⟩
      have hw := hz.addT nTap n9Ta nTaD4 hu
      generalize upd (upd Hy u (.tup [nS (hNm f1 d1 b1' i), nS (hNm f3 d3 b3' i), nS (hNm f0 d0 b0 i), .int (ch : Int)])) Ta (.lst (ta.map V.ref ++ [.ref u])) = Hw at hw ⊢
      clear hx hy hz hu su
      obtain ⟨st2, es2, ht2⟩ := stat hw.k (i + 1) (by omega)
      have i1 : (0 : Int) + (i : Int) + 1 = ((i + 1 : Nat) : Int) := by omega
      refine ⟨.ref Ta, rfl, .inl ⟨rfl, _, SqL.of hw.eT⟩, .ref a3, rfl, .int (0 + (i : Int)), rfl, a3, _, _, _, rfl, rfl, SqL.of (hw.k _ _ na3p ea39), by rw [Int.zero_add]; exact atI_nat (nmZ _ _ _ _ _ (by omega)), .ref D1, rfl, .int (0 + (i : Int)), rfl, _, 1, rfl, rfl, D1, _, _, .ref st2, rfl, rfl, SqL.of (hw.k _ _ nD1p eD19), by rw [i1]; exact atI_nat es2, st2, _, (0 : Int), _, rfl, rfl, SqT.of ht2, rfl, .ref A0, rfl, .int (0 + (i : Int)), rfl, _, 1, rfl, rfl, A0, _, _, nS (hNm f0 d0 b0 (i + 1)), rfl, rfl, SqL.of (hw.k _ _ nA0p eA09), by rw [i1]; exact atI_nat (nmZ _ _ _ _ _ (by omega)), .ref p, rfl, p, 60, rfl, hw.b, by decide, by decide, fun Hy c ky by_ c0 c1 => ?_⟩
      have hy := hw.keep nTap nD4p ky by_
      obtain ⟨ch', ech', ch1', ch2'⟩ := chOk 60 c (by omega) c0 c1
      refine ⟨1, c, rfl, rfl, four_sz, fun u' nu' => ?_⟩
      rw [show (fun i j : Int => V.int (i + j)) 1 c = V.int (ch' : Int) from congrArg V.int ech']
      have su := same_upd (o := .tup [nS (hNm f3 d3 b3' i), nS (hNm f1 d1 b1' (i + 1)), nS (hNm f0 d0 b0 (i + 1)), .int (ch' : Int)]) nu'
      have hz := hy.keep nTap nD4p (.of su) (hy.b.keep su)
      have hu : TiAt (upd Hy u' (.tup [nS (hNm f3 d3 b3' i), nS (hNm f1 d1 b1' (i + 1)), nS (hNm f0 d0 b0 (i + 1)), .int (ch' : Int)])) u' ⟨hNm f3 d3 b3' i, hNm f1 d1 b1' (i + 1), hNm f0 d0 b0 (i + 1), ch'⟩ := upd_same
      refine ⟨Ta, _, _, rfl, rfl, hz.eT, by rw [List.length_map, List.length_append]; exact small5000 (by show _ + 1 ≤ 5000; omega), ?_⟩
      have hv := hz.addT nTap n9Ta nTaD4 hu
      refine ⟨_, _, _, rfl, hv, ?_, fun t ht => ?_, by rw [List.length_append, List.length_append, htl]; show 2 * i + 1 + 1 = _; omega⟩
      · rw [List.map_append, List.map_append, htk]
        unfold hT1
        rw [List.range_succ, List.map_append, List.flatten_append, List.append_assoc]
        rfl
      · rcases List.mem_append.mp ht with z | z
        · rcases List.mem_append.mp z with z | z
          · exact htc t z
          · rw [List.mem_singleton.mp z]; exact ⟨ch1, ch2⟩
        · rw [List.mem_singleton.mp z]; exact ⟨ch1', ch2'⟩
    obtain ⟨y11, ta, tis, rfl, h12, htk, htc, htl⟩ := hp
    refine ⟨.int (n : Int), rfl, _, 2, rfl, rfl, _, rfl, by omega, by omega, ?_⟩
    rw [show ((n : Int) - 2).toNat = n - 2 by omega]
    refine for_range (lo := 0) (n := n - 2) (fun i σ Hx => ∃ (y11 : Option V) (ta : List Addr) (tis : List Ti), σ = [some (.ref p), some (.int (n : Int)), some (.ref G), some (.int (sd : Int)), some (.ref A0), some (.ref So), some (.ref D1), some (.ref D3), some (.ref a3), some (.ref D4), some (.ref Ta), y11, none, none, none, none] ∧ TsS H9 Hx p Ta D4 ta tis ja ((List.range (n - 1)).map fun k => (hNm f3 d3 b3' k, [hNm f0 d0 b0 k, hNm f0 d0 b0 (k + 1)])) ∧ tis.map tiK = hT1 (n - 1) (hNm f0 d0 b0) (hNm f1 d1 b1') (hNm f3 d3 b3') ++ hT2 i (hNm f0 d0 b0) (hNm f3 d3 b3') ∧ (∀ t ∈ tis, 1 ≤ t.ch ∧ t.ch ≤ 9999) ∧ tis.length ≤ 14 + i)
      ⟨_, ta, tis, rfl, h12, by rw [htk]; exact (List.append_nil _).symm, htc, by omega⟩ (fun i σ Hx hi hp => ?_) (fun σ H13 hp => ?_)
    · obtain ⟨y11, ta, tis, rfl, hx, htk, htc, htl⟩ := hp
      have tal := paired_len hx.hT
      have i1 : (0 : Int) + (i : Int) + 1 = ((i + 1 : Nat) : Int) := by omega
      refine ⟨.ref Ta, rfl, .inl ⟨rfl, _, SqL.of hx.eT⟩, .ref a3, rfl, .int (0 + (i : Int)), rfl, a3, _, _, _, rfl, rfl, SqL.of (hx.k _ _ na3p ea39), by rw [Int.zero_add]; exact atI_nat (nmZ _ _ _ _ _ (by omega)), .ref a3, rfl, .int (0 + (i : Int)), rfl, _, 1, rfl, rfl, a3, _, _, nS (hNm f3 d3 b3' (i + 1)), rfl, rfl, SqL.of (hx.k _ _ na3p ea39), by rw [i1]; exact atI_nat (nmZ _ _ _ _ _ (by omega)), .ref A0, rfl, .int (0 + (i : Int)), rfl, _, 1, rfl, rfl, A0, _, _, nS (hNm f0 d0 b0 (i + 1)), rfl, rfl, SqL.of (hx.k _ _ nA0p eA09), by rw [i1]; exact atI_nat (nmZ _ _ _ _ _ (by omega)), .ref p, rfl, p, 60, rfl, hx.b, by decide, by decide, fun Hy c ky by_ c0 c1 => ?_⟩
      have hy := hx.keep nTap nD4p ky by_
      obtain ⟨ch', ech', ch1', ch2'⟩ := chOk 60 c (by omega) c0 c1
      refine ⟨1, c, rfl, rfl, four_sz, fun u' nu' => ?_⟩
      rw [show (fun i j : Int => V.int (i + j)) 1 c = V.int (ch' : Int) from congrArg V.int ech']
      have su := same_upd (o := .tup [nS (hNm f3 d3 b3' i), nS (hNm f3 d3 b3' (i + 1)), nS (hNm f0 d0 b0 (i + 1)), .int (ch' : Int)]) nu'
      have hz := hy.keep nTap nD4p (.of su) (hy.b.keep su)
      have hu : TiAt (upd Hy u' (.tup [nS (hNm f3 d3 b3' i), nS (hNm f3 d3 b3' (i + 1)), nS (hNm f0 d0 b0 (i + 1)), .int (ch' : Int)])) u' ⟨hNm f3 d3 b3' i, hNm f3 d3 b3' (i + 1), hNm f0 d0 b0 (i + 1), ch'⟩ := upd_same
      refine ⟨Ta, _, _, rfl, rfl, hz.eT, by rw [List.length_map]; exact small5000 (by omega), ?_⟩
      refine ⟨_, _, _, rfl, hz.addT nTap n9Ta nTaD4 hu, ?_, fun t ht => ?_, by rw [List.length_append]; show tis.length + 1 ≤ _; omega⟩
      · rw [List.map_append, htk]
        unfold hT2
        rw [List.range_succ, List.map_append, List.append_assoc]
        rfl
      · rcases List.mem_append.mp ht with z | z
        · exact htc t z
        · rw [List.mem_singleton.mp z]; exact ⟨ch1', ch2'⟩
    obtain ⟨y11, ta, tis, rfl, h13, htk, htc, htl⟩ := hp
    refine ⟨.ref D3, rfl, D3, _, rfl, .inl (SqL.of (h13.k _ _ nD3p eD39)), _, rfl, by rw [List.length_map]; omega, by rw [List.length_map]; omega, ?_⟩
    rw [List.length_map, sb2, Int.toNat_natCast]
    refine for_range (lo := 0) (n := m2) (fun i σ Hx => ∃ (y11 : Option V) (ta : List Addr) (tis : List Ti), σ = [some (.ref p), some (.int (n : Int)), some (.ref G), some (.int (sd : Int)), some (.ref A0), some (.ref So), some (.ref D1), some (.ref D3), some (.ref a3), some (.ref D4), some (.ref Ta), y11, none, none, none, none] ∧ TsS H9 Hx p Ta D4 ta tis ja ((List.range (n - 1)).map fun k => (hNm f3 d3 b3' k, [hNm f0 d0 b0 k, hNm f0 d0 b0 (k + 1)])) ∧ tis.map tiK = hT1 (n - 1) (hNm f0 d0 b0) (hNm f1 d1 b1') (hNm f3 d3 b3') ++ hT2 (n - 2) (hNm f0 d0 b0) (hNm f3 d3 b3') ++ hT3 i (hNm f0 d0 b0) (hNm f1 d1 b1') (hNm f2 d2 b2') ∧ (∀ t ∈ tis, 1 ≤ t.ch ∧ t.ch ≤ 9999) ∧ tis.length ≤ 20 + i)
      ⟨_, ta, tis, rfl, h13, by rw [htk]; exact (List.append_nil _).symm, htc, by omega⟩ (fun i σ Hx hi hp => ?_) (fun σ H14 hp => ?_)
    · obtain ⟨y11, ta, tis, rfl, hx, htk, htc, htl⟩ := hp
      have tal := paired_len hx.hT
      obtain ⟨st1, es1, ht1⟩ := stat hx.k i (by omega)
      obtain ⟨sc1, ec1, hc1⟩ := secd hx.k i hi
      refine ⟨.ref Ta, rfl, .inl ⟨rfl, _, SqL.of hx.eT⟩, .ref D3, rfl, .int (0 + (i : Int)), rfl, D3, _, _, .ref sc1, rfl, rfl, SqL.of (hx.k _ _ nD3p eD39), by rw [Int.zero_add]; exact atI_nat ec1, sc1, _, (0 : Int), _, rfl, rfl, SqT.of hc1, rfl, .ref D1, rfl, .int (0 + (i : Int)), rfl, D1, _, _, .ref st1, rfl, rfl, SqL.of (hx.k _ _ nD1p eD19), by rw [Int.zero_add]; exact atI_nat es1, st1, _, (0 : Int), _, rfl, rfl, SqT.of ht1, rfl, .ref A0, rfl, .int (0 + (i : Int)), rfl, A0, _, _, _, rfl, rfl, SqL.of (hx.k _ _ nA0p eA09), by rw [Int.zero_add]; exact atI_nat (nmZ _ _ _ _ _ (by omega)), .ref p, rfl, p, 60, rfl, hx.b, by decide, by decide, fun Hy c ky by_ c0 c1 => ?_⟩
      have hy := hx.keep nTap nD4p ky by_
      obtain ⟨ch', ech', ch1', ch2'⟩ := chOk 60 c (by omega) c0 c1
      refine ⟨1, c, rfl, rfl, four_sz, fun u' nu' => ?_⟩
      rw [show (fun i j : Int => V.int (i + j)) 1 c = V.int (ch' : Int) from congrArg V.int ech']
      have su := same_upd (o := .tup [nS (hNm f2 d2 b2' i), nS (hNm f1 d1 b1' i), nS (hNm f0 d0 b0 i), .int (ch' : Int)]) nu'
      have hz := hy.keep nTap nD4p (.of su) (hy.b.keep su)
      have hu : TiAt (upd Hy u' (.tup [nS (hNm f2 d2 b2' i), nS (hNm f1 d1 b1' i), nS (hNm f0 d0 b0 i), .int (ch' : Int)])) u' ⟨hNm f2 d2 b2' i, hNm f1 d1 b1' i, hNm f0 d0 b0 i, ch'⟩ := upd_same
      refine ⟨Ta, _, _, rfl, rfl, hz.eT, by rw [List.length_map]; exact small5000 (by omega), ?_⟩
      refine ⟨_, _, _, rfl, hz.addT nTap n9Ta nTaD4 hu, ?_, fun t ht => ?_, by rw [List.length_append]; show tis.length + 1 ≤ _; omega⟩
      · rw [List.map_append, htk]
        unfold hT3
        rw [List.range_succ, List.map_append, List.append_assoc]
        rfl
      · rcases List.mem_append.mp ht with z | z
        · exact htc t z
        · rw [List.mem_singleton.mp z]; exact ⟨ch1', ch2'⟩
    obtain ⟨y11, ta, tis, rfl, h14, htk, htc, htl⟩ := hp
    -- further junctions
    refine ⟨.ref p, rfl, p, 4, rfl, h14.b, by decide, by decide, fun H15 c k15 b15 c0 c1 => ?_⟩
    have h15 := h14.keep nTap nD4p k15 b15
    refine ⟨.int (n : Int), rfl, _, 2, rfl, rfl, .inr ⟨_, rfl, c, _, rfl, rfl, .inl ⟨by omega, by omega⟩, ?_⟩⟩
    obtain ⟨m, em, m3, mn⟩ : ∃ m : Nat, (c * if decide ((n : Int) > 2) = true then (1 : Int) else 0) = (m : Int) ∧ m ≤ 3 ∧ (0 < m → 2 < n) := by
      by_cases z : (n : Int) > 2
      · rw [if_pos (decide_eq_true z), Int.mul_one]
        exact ⟨c.toNat, by omega, by omega, fun _ => by omega⟩
      · rw [if_neg (fun w => z (of_decide_eq_true w)), Int.mul_zero]
        exact ⟨0, rfl, by decide, fun z => absurd z (by decide)⟩
    refine ⟨_, rfl, ?_, ?_, ?_⟩
    · show -(2 ^ 62) ≤ (c * if decide ((n : Int) > 2) = true then (1 : Int) else 0)
      rw [em]; omega
    · show (c * if decide ((n : Int) > 2) = true then (1 : Int) else 0) < 2 ^ 62
      rw [em]; omega
    rw [show (c * if decide ((n : Int) > 2) = true then (1 : Int) else 0).toNat = m by rw [em]; exact Int.toNat_natCast _]
    refine for_range (lo := 0) (n := m) (fun i σ Hx => ∃ (y5 y11 : Option V) (jxa : List Addr) (jx : List (Nm × List Nm)), σ = [some (.ref p), some (.int (n : Int)), some (.ref G), some (.int (sd : Int)), some (.ref A0), y5, some (.ref D1), some (.ref D3), some (.ref a3), some (.ref D4), some (.ref Ta), y11, none, none, none, none] ∧ TsS H9 Hx p Ta D4 ta tis (ja ++ jxa) (hJns n (hNm f0 d0 b0) (hNm f3 d3 b3') ++ jx) ∧ jx.length ≤ i ∧ (jx.map (·.1)).Nodup ∧ ∀ x ∈ jx, JxOk n (hNm f0 d0 b0) (hNm f3 d3 b3') i x)
      ⟨_, _, [], [], rfl, by rw [List.append_nil, List.append_nil]; exact h15, Nat.le_refl _, List.nodup_nil, fun x h => by cases h⟩ (fun i σ Hx hi hp => ?_) (fun σ H16 hp => ?_)
    · obtain ⟨y5, y11, jxa, jx, rfl, hx, jxl, jxn, jxo⟩ := hp
      have n2 : 2 < n := mn (by omega)
      refine ⟨.ref p, rfl, .int (n : Int), rfl, p, n, rfl, hx.b, by omega, by omega, fun Ha x1 ka ba x10 x11 => ?_⟩
      refine ⟨.ref p, rfl, .int (n : Int), rfl, p, n, rfl, ba, by omega, by omega, fun Hb x2 kb bb x20 x21 => ?_⟩
      refine ⟨.ref p, rfl, .int (n : Int), rfl, p, n, rfl, bb, by omega, by omega, fun Hc x3 kc bc x30 x31 => ?_⟩
      have hc := hx.keep nTap nD4p ((ka.trans kb).trans kc) bc
      refine ⟨by show 3 ≤ sizeLine; decide, fun S nS' => ?_⟩
      have sS := same_upd (o := .lst [.int x1, .int x2, .int x3]) nS'
      have hd := hc.keep nTap nD4p (.of sS) (hc.b.keep sS)
      have eS : (upd Hc S (.lst [.int x1, .int x2, .int x3])) S = some (.lst (([x1, x2, x3] : List Int).map V.int)) := upd_same
      generalize upd Hc S (.lst [.int x1, .int x2, .int x3]) = Hd at hd eS ⊢
      refine ⟨S, [x1, x2, x3], rfl, SqL.of eS, by show 3 ≤ 1000; decide, fun se c nse hc => ?_⟩
      have s1 := same_upd (o := SetO (cxOf CX0 P w K mg base N_l_net (Str.ofString "_law_net") (defScope s_l_net) T.a_l_net cdv A outer s H E).nox.w se (fun j => decide (j ∈ [x1, x2, x3])) c) nse
      have he := hd.keep nTap nD4p (.of s1) (hd.b.keep s1)
      refine ⟨se, _, c, rfl, upd_same, by have : [x1, x2, x3].length = 3 := rfl; omega, fun ns so pw mem len nso => ?_⟩
      have s2 := same_upd (o := .lst (ns.map V.int)) nso
      have hf := he.keep nTap nD4p (.of s2) (he.b.keep s2)
      have memx : ∀ x, x ∈ ns ↔ x ∈ [x1, x2, x3] := fun x => (mem x).trans decide_eq_true_iff
      have hns : ∀ x ∈ ns, 0 ≤ x ∧ x < n := fun x h => by
        have := (memx x).mp h
        simp only [List.mem_cons, List.not_mem_nil, or_false] at this
        omega
      have eso : (upd (upd Hd se (SetO (cxOf CX0 P w K mg base N_l_net (Str.ofString "_law_net") (defScope s_l_net) T.a_l_net cdv A outer s H E).nox.w se (fun j => decide (j ∈ [x1, x2, x3])) c)) so (.lst (ns.map V.int))) so = some (.lst (jV (ns.map Int.toNat))) := by
        rw [upd_same, ints_natsH fun x h => (hns x h).1]
      have nsD4 : so ≠ D4 := (ne_of_none he.eD nso).symm
      generalize upd (upd Hd se (SetO (cxOf CX0 P w K mg base N_l_net (Str.ofString "_law_net") (defScope s_l_net) T.a_l_net cdv A outer s H E).nox.w se (fun j => decide (j ∈ [x1, x2, x3])) c)) so (.lst (ns.map V.int)) = Hf at hf eso ⊢
      have hjs : ∀ j ∈ ns.map Int.toNat, j < n := fun j hj => by
        obtain ⟨x, hx, rfl⟩ := List.mem_map.mp hj
        have := hns x hx
        omega
      have hpw : (ns.map Int.toNat).Pairwise (· < ·) := by
        rw [List.pairwise_map]
        refine pw.imp_of_mem fun {a b} ha hb h => ?_
        have := hns a ha
        have := hns b hb
        omega
      have l3 : [x1, x2, x3].length = 3 := rfl
      have nl : (ns.map Int.toNat).length ≤ 3 := by rw [List.length_map]; omega
      generalize ns.map Int.toNat = js at eso hjs hpw nl
      have jlV : (jV js).length = js.length := List.length_map _
      refine ⟨.ref so, rfl, so, _, rfl, .inl (SqL.of eso), _, 1, rfl, rfl, _, rfl, ite2 (fun c2 => ?_) (fun c2 => ?_)⟩
      · have c2 := of_decide_eq_true c2
        rw [jlV] at c2
        refine ⟨.ref D4, rfl, .inl ⟨rfl, _, SqL.of hf.eD⟩, .ref a3, rfl, .int (n : Int), rfl, _, 1, rfl, rfl, .int (0 + (i : Int)), rfl, _, _, rfl, rfl, a3, _, _, nS (hNm f3 d3 b3' (n - 1 + i)), rfl, rfl, SqL.of (hf.k _ _ na3p ea39), ?_, .ref so, rfl, so, rfl, ⟨_, SqL.of eso⟩, fun M nM => ?_⟩
        · rw [show (n : Int) - 1 + (0 + (i : Int)) = ((n - 1 + i : Nat) : Int) by omega]
          exact atI_nat (nmZ _ _ _ _ _ (by omega))
        refine lc_it (walk_list (xs := jV js)) (fun j Hy => Same Hf Hy ∧ Hy M = some (.lst (((js.take j).map (hNm f0 d0 b0)).map nS))) ⟨same_upd nM, upd_same⟩ (fun j Hy _ pv => SqL.of (pv.1 _ _ eso)) (fun j v Hy₀ Hy hj pv yy => ?_) (fun Hg pv => ?_)
        · obtain ⟨rfl, ey⟩ := yy
          obtain ⟨sy, eM⟩ := pv
          rw [jlV] at hj
          have ev : v = .int ((js[j] : Nat) : Int) := by
            rw [List.getElem?_map, List.getElem?_eq_getElem hj] at ey
            exact (Option.some.inj ey).symm
          subst ev
          have hlt := hjs _ (List.getElem_mem hj)
          refine ⟨rfl, yes_ ⟨.ref A0, rfl, .int ((js[j] : Nat) : Int), rfl, A0, _, _, _, rfl, rfl, SqL.of (sy _ _ (hf.k _ _ nA0p eA09)), atI_nat (nmZ _ _ _ _ _ hlt), _, eM, by rw [List.length_map, List.length_map, List.length_take]; exact small5000 (by omega), same_set sy nM, ?_⟩⟩
          rw [upd_same, List.take_add_one, List.getElem?_eq_getElem hj, List.map_append, List.map_append]
          rfl
        obtain ⟨sg, eM⟩ := pv
        rw [jlV, List.take_length] at eM
        have hg := hf.keep nTap nD4p (.of sg) (hf.b.keep sg)
        refine ⟨M, _, rfl, .inl ⟨SqL.of eM, fun u nu => ⟨two_sz, fun v nv => ?_⟩⟩⟩
        have su := same_upd (o := .tup ((js.map (hNm f0 d0 b0)).map nS)) nu
        have sv := same_upd (o := .tup [nS (hNm f3 d3 b3' (n - 1 + i)), .ref u]) nv
        have suv := su.trans sv
        have hh := hg.keep nTap nD4p (.of suv) (hg.b.keep suv)
        have hj' : JnAt (upd (upd Hg u (.tup ((js.map (hNm f0 d0 b0)).map nS))) v (.tup [nS (hNm f3 d3 b3' (n - 1 + i)), .ref u])) v (hNm f3 d3 b3' (n - 1 + i), js.map (hNm f0 d0 b0)) := ⟨u, upd_same, sv _ _ upd_same⟩
        have jal2 := paired_len hh.hJ
        refine ⟨D4, _, _, rfl, rfl, hh.eD, ?_, ?_⟩
        · rw [List.length_map, jal2, List.length_append]
          unfold hJns
          rw [List.length_map, List.length_range]
          exact small5000 (by omega)
        refine ⟨_, _, jxa ++ [v], jx ++ [(hNm f3 d3 b3' (n - 1 + i), js.map (hNm f0 d0 b0))], rfl, ?_, by rw [List.length_append]; show jx.length + 1 ≤ _; omega, ?_, fun x hx' => ?_⟩
        · rw [← List.append_assoc, ← List.append_assoc]
          exact hh.addJ nD4p n9D4 nTaD4 hj'
        · rw [List.map_append]
          refine List.nodup_append.mpr ⟨jxn, List.pairwise_singleton _ _, fun a ha b hb => ?_⟩
          obtain ⟨x, hx', rfl⟩ := List.mem_map.mp ha
          have hb := List.mem_singleton.mp hb
          obtain ⟨k, hk, hk3, ek⟩ := (jxo x hx').at_
          intro z
          rw [ek, hb] at z
          have := hNm_inj (by omega) (by omega) z
          omega
        · rcases List.mem_append.mp hx' with z | z
          · exact (jxo x z).more
          · rw [List.mem_singleton.mp z]
            exact ⟨⟨i, by omega, by omega, rfl⟩, ⟨js, hpw, hjs, by omega, rfl⟩, by show (js.map _).length ≤ 3; rw [List.length_map]; exact nl⟩
      · exact ⟨_, _, jxa, jx, rfl, hf, by omega, jxn, fun x hx' => (jxo x hx').more⟩
    obtain ⟨y5, y11, jxa, jx, rfl, h16, jxl, jxn, jxo⟩ := hp
    have jxo3 : ∀ x ∈ jx, JxOk n (hNm f0 d0 b0) (hNm f3 d3 b3') 3 x := fun x hx => ⟨let ⟨k, a, b, c⟩ := (jxo x hx).at_; ⟨k, b, b, c⟩, (jxo x hx).ls, (jxo x hx).l3⟩
    -- the four tuples
    refine ⟨.ref A0, rfl, A0, _, rfl, SqL.of (h16.k _ _ nA0p eA09), fun ra H17 _ s17 tra _ => ?_⟩
    have h17 := h16.keep nTap nD4p (.of s17) (h16.b.keep s17)
    refine ⟨.ref D1, rfl, .ref D3, rfl, D1, D3, _, _, rfl, rfl, h17.k _ _ nD1p eD19, h17.k _ _ nD3p eD39, by rw [List.length_map, List.length_map, sb2, sal]; exact Nat.le_of_lt (small5000 (by omega)), fun M nM => ?_⟩
    have sM := same_upd (o := .lst (sa.map V.ref ++ sc.map V.ref)) nM
    have h18 := h17.keep nTap nD4p (.of sM) (h17.b.keep sM)
    have eM : (upd H17 M (.lst (sa.map V.ref ++ sc.map V.ref))) M = some (.lst ((sa ++ sc).map V.ref)) := by rw [upd_same, List.map_append]
    have tra := tra.same sM
    generalize upd H17 M (.lst (sa.map V.ref ++ sc.map V.ref)) = H18 at h18 eM tra ⊢
    refine ⟨M, _, rfl, SqL.of eM, fun rb H19 _ s19 trb _ => ?_⟩
    have h19 := h18.keep nTap nD4p (.of s19) (h18.b.keep s19)
    have tra := tra.same s19
    refine ⟨.ref D4, rfl, D4, _, rfl, SqL.of h19.eD, fun rc H20 _ s20 trc _ => ?_⟩
    have h20 := h19.keep nTap nD4p (.of s20) (h19.b.keep s20)
    have tra := tra.same s20
    have trb := trb.same s20
    refine ⟨.ref Ta, rfl, Ta, _, rfl, SqL.of h20.eT, fun rd H21 _ s21 trd _ => ?_⟩
    have h21 := h20.keep nTap nD4p (.of s21) (h20.b.keep s21)
    have tra := tra.same s21
    have trb := trb.same s21
    have trc := trc.same s21
    refine ⟨four_sz, fun r nr => ?_⟩
    have sr := same_upd (o := .tup [.ref ra, .ref rb, .ref rc, .ref rd]) nr
    have h22 := h21.keep nTap nD4p (.of sr) (h21.b.keep sr)
    refine q _ r n m2 kk sd f0 b0 f1 b1' f2 b2' f3 b3' d0 d1 d2 d3 jx tis (k09.trans h22.k) h22.b ⟨⟨ra, rb, rc, rd, sa ++ sc, ja ++ jxa, ta, upd_same, tra.same sr, trb.same sr, ?_, trc.same sr, h22.hJ, trd.same sr, h22.hT⟩, n1, n8, m21, m2n, sd1, hns, by omega, jxn, jxo3, htk, htc⟩
    exact paired_append (paired_imp hsa9 fun a _ x h => h.kp h22.k b9) (paired_imp hsb9 fun a _ x h => h.kp h22.k b9)
end
end Th
namespace Th
open PySem PySem.Spec PyProof.Rows L2
def isiI : PyData → Bool
  | .int _ => true
  | .bool _ => true
  | _ => false
def isiB : PyData → Bool
  | .bool _ => true
  | _ => false
def isiT : PyData → Bool
  | .tuple _ => true
  | _ => false
def isiS : PyData → Bool
  | .str _ => true
  | _ => false
theorem kit_I {K : PySem.W.Frag} : ∀ d : PyData, PySem.W.kitOne K (.type (tyN d)) (.type "int") = some (isiI d)
  | .none => kit_ty (a := "NoneType") (b := "int") (r := false) (by decide +kernel)
  | .bool _ => kit_ty (a := "bool") (b := "int") (r := true) (by decide +kernel)
  | .int _ => kit_ty (a := "int") (b := "int") (r := true) (by decide +kernel)
  | .str _ => kit_ty (a := "str") (b := "int") (r := false) (by decide +kernel)
  | .list _ => kit_ty (a := "list") (b := "int") (r := false) (by decide +kernel)
  | .tuple _ => kit_ty (a := "tuple") (b := "int") (r := false) (by decide +kernel)
  | .dict _ => kit_ty (a := "dict") (b := "int") (r := false) (by decide +kernel)
theorem kit_B {K : PySem.W.Frag} : ∀ d : PyData, PySem.W.kitOne K (.type (tyN d)) (.type "bool") = some (isiB d)
  | .none => kit_ty (a := "NoneType") (b := "bool") (r := false) (by decide +kernel)
  | .bool _ => kit_ty (a := "bool") (b := "bool") (r := true) (by decide +kernel)
  | .int _ => kit_ty (a := "int") (b := "bool") (r := false) (by decide +kernel)
  | .str _ => kit_ty (a := "str") (b := "bool") (r := false) (by decide +kernel)
  | .list _ => kit_ty (a := "list") (b := "bool") (r := false) (by decide +kernel)
  | .tuple _ => kit_ty (a := "tuple") (b := "bool") (r := false) (by decide +kernel)
  | .dict _ => kit_ty (a := "dict") (b := "bool") (r := false) (by decide +kernel)
theorem kit_T {K : PySem.W.Frag} : ∀ d : PyData, PySem.W.kitOne K (.type (tyN d)) (.type "tuple") = some (isiT d)
  | .none => kit_ty (a := "NoneType") (b := "tuple") (r := false) (by decide +kernel)
  | .bool _ => kit_ty (a := "bool") (b := "tuple") (r := false) (by decide +kernel)
  | .int _ => kit_ty (a := "int") (b := "tuple") (r := false) (by decide +kernel)
  | .str _ => kit_ty (a := "str") (b := "tuple") (r := false) (by decide +kernel)
  | .list _ => kit_ty (a := "list") (b := "tuple") (r := false) (by decide +kernel)
  | .tuple _ => kit_ty (a := "tuple") (b := "tuple") (r := true) (by decide +kernel)
  | .dict _ => kit_ty (a := "dict") (b := "tuple") (r := false) (by decide +kernel)
theorem kit_S {K : PySem.W.Frag} : ∀ d : PyData, PySem.W.kitOne K (.type (tyN d)) (.type "str") = some (isiS d)
  | .none => kit_ty (a := "NoneType") (b := "str") (r := false) (by decide +kernel)
  | .bool _ => kit_ty (a := "bool") (b := "str") (r := false) (by decide +kernel)
  | .int _ => kit_ty (a := "int") (b := "str") (r := false) (by decide +kernel)
  | .str _ => kit_ty (a := "str") (b := "str") (r := true) (by decide +kernel)
  | .list _ => kit_ty (a := "list") (b := "str") (r := false) (by decide +kernel)
  | .tuple _ => kit_ty (a := "tuple") (b := "str") (r := false) (by decide +kernel)
  | .dict _ => kit_ty (a := "dict") (b := "str") (r := false) (by decide +kernel)
def wholeD : PyData → Bool
  | .int _ => true
  | _ => false
def betD (d : PyData) (lo hi : Int) : Bool := match d with
  | .int i => decide (lo ≤ i) && decide (i ≤ hi)
  | _ => false
def tupD (d : PyData) (lo hi : Int) : Bool := match d with
  | .tuple ds => decide (lo ≤ (ds.length : Int)) && decide ((ds.length : Int) ≤ hi)
  | _ => false
section
variable {P : Program} {w : World} {K : PySem.W.Frag} {mg : Str → Option Value} {base : Heap} {k : Nat}
end
end Th
namespace Th
open PySem PySem.Spec PyProof.Rows L2
def alS (lo hi : Str) (s : Str) : Bool := s.cps.toList.all fun c => !decide ([c] < lo.cps.toList) && !decide (hi.cps.toList < [c])
def nameS (s : Str) : Bool := decide (1 ≤ s.length) && decide (s.length ≤ 8) && alS "a" "z" s
def nameD : PyData → Bool
  | .str s => nameS s
  | _ => false
section
variable {P : Program} {w : World} {K : PySem.W.Frag} {mg : Str → Option Value} {base : Heap} {k : Nat}
def sp_is_name : Sp := fun vs H Q _ => ∃ v d, vs = [v] ∧ Dt SA H v d ∧ (∀ s, d = .str s → s.length ≤ 5000) ∧ ∀ H', Same H H' → Q (.bl (nameD d)) H'
set_option maxHeartbeats 8000000 in
theorem ok_is_name (T : Defs K mg) : FnOk P w K mg base CX0 (k + 1) T.a_is_name T.d_is_name ["thing"] sp_is_name := by
  refine T.F_is_name.ok sc_is_name (fun vs H Q E h => ?_) (fun cdv A outer s H vs Q E hr h => ?_)
  · obtain ⟨v, d, rfl, _⟩ := h
    rfl
  · obtain ⟨v, d, rfl, hv, hl, q⟩ := h
    refine ⟨_, PSs.nox
(pss_cons (ps_if (PW.pt (pw_or (pt_not (pt_val (pe_callB call_isi (by rfl) T.z_isinstance (by decide +kernel) (pa_cons (pv 0) (pa_cons (pe_bltn (v := .ty "str") (by rfl) T.z_str (by decide +kernel) rfl) pa_nil))))) (pw_or1 (pt_not (pt_chain op_le op_le (pe_int) (pe_callB call_len_str (by rfl) T.z_len (by decide +kernel) (pa_cons (pv 0) pa_nil)) (pe_glob (v := .int 8) (by rfl) T.c_LONGEST_NAME ⟨_, rfl⟩))))))
      (pss_one (ps_ret (pe_bl)))
      pss_nil)
    (pss_one (ps_ret (pe_callB (r := rAll K) (cr_all rfl) (by rfl) T.z_all (by decide +kernel) (pa_cons (pe_lc (own := [("letter", 1)]) (g := gName 1) rfl sc_is_name.nd (pi_str (pv 0)) (blkOk_by (N := N_is_name) (sc := defScope s_is_name) (by decide +kernel)) (fun _ _ _ _ _ => (pg_name (i := 1) sc_is_name.nd rfl (.inl rfl))) (fun _ _ _ _ _ => pts_nil) (fun _ _ _ _ _ => (pe_chain op_le_str op_le_str (pe_str) (pv 1) (pe_str)))) pa_nil)))))
      , ?_⟩
    refine ⟨v, rfl, v, .ty "str", _, _, _, rfl, .ty _, hv.ty, kit_S d, isiS d, rfl, ?_⟩
    have q0 := q H (fun _ _ e => e)
    cases d with
    | int i => exact iteT q0
    | bool b => exact iteT q0
    | none => exact iteT q0
    | list _ => exact iteT q0
    | tuple _ => exact iteT q0
    | dict _ => exact iteT q0
    | str z =>
      cases hv
      have zl := hl z rfl
      have zs : z.length ≤ sizeLine := by rw [sizeLine_eq]; omega
      refine iteF ⟨.str z, rfl, z, rfl, zs, 1, (z.length : Int), rfl, rfl, decide ((1 : Int) ≤ (z.length : Int)), rfl, ite2 (fun c1 => ?_) (fun c1 => ?_)⟩
      · refine ⟨(z.length : Int), 8, rfl, rfl, _, rfl, ite2 (fun c2 => ?_) (fun c2 => ?_)⟩
        · have c2 : ¬ z.length ≤ 8 := fun g => by
            rw [show decide ((z.length : Int) ≤ 8) = true from decide_eq_true (by omega)] at c2
            cases c2
          have e : nameD (.str z) = false := by
            show (decide (1 ≤ z.length) && decide (z.length ≤ 8) && alS "a" "z" z) = false
            rw [decide_eq_false c2, Bool.and_false, Bool.false_and]
          rw [e] at q0
          exact q0
        · have c2 : z.length ≤ 8 := Decidable.byContradiction fun g => c2 (by rw [decide_eq_false (show ¬ (z.length : Int) ≤ 8 by omega)]; rfl)
          have c1 : 1 ≤ z.length := by have := of_decide_eq_true c1; omega
          have e : nameD (.str z) = alS "a" "z" z := by
            show (decide (1 ≤ z.length) && decide (z.length ≤ 8) && alS "a" "z" z) = _
            rw [decide_eq_true c1, decide_eq_true c2]
            rfl
          rw [e] at q
          refine ⟨.str z, rfl, z, rfl, fun C nC => ?_⟩
          refine lc_it (walk_str (z := z)) (fun i Hx => Same H Hx ∧ Hx C = some (.lst (((z.cps.toList.take i).map fun c => !decide ([c] < ("a" : Str).cps.toList) && !decide (("z" : Str).cps.toList < [c])).map V.bl))) ⟨same_upd nC, upd_same⟩ (fun _ _ _ _ => trivial) (fun i v Hx Hx' hi pv yy => ?_) (fun Hx pv => ?_)
          · obtain ⟨rfl, c, ec, rfl⟩ := yy
            obtain ⟨sx, eC⟩ := pv
            have zl2 : z.cps.toList.length = z.length := rfl
            have hlen : ((z.cps.toList.take i).map fun c => !decide ([c] < ("a" : Str).cps.toList) && !decide (("z" : Str).cps.toList < [c])).length ≤ 8 := by rw [List.length_map, List.length_take]; omega
            have tk1 : z.cps.toList.take (i + 1) = z.cps.toList.take i ++ [c] := by rw [List.take_add_one, Array.getElem?_toList, ec]; rfl
            refine ⟨rfl, yes_ ⟨.str ⟨#[c]⟩, rfl, "a", ⟨#[c]⟩, rfl, rfl, _, rfl, ite2 (fun b1 => ?_) (fun b1 => ?_)⟩⟩
            · refine ⟨⟨#[c]⟩, "z", rfl, rfl, _, eC, small5000 (by rw [List.length_map]; omega), same_set sx nC, ?_⟩
              rw [upd_same, tk1, List.map_append, List.map_append]
              have b1 : (!decide ([c] < ("a" : Str).cps.toList)) = true := b1
              show _ = some (HO.lst (_ ++ [V.bl (!decide ([c] < ("a" : Str).cps.toList) && !decide (("z" : Str).cps.toList < [c]))]))
              rw [b1, Bool.true_and]
            · refine ⟨_, eC, small5000 (by rw [List.length_map]; omega), same_set sx nC, ?_⟩
              rw [upd_same, tk1, List.map_append, List.map_append]
              have b1 : (!decide ([c] < ("a" : Str).cps.toList)) = false := Bool.eq_false_iff.mpr b1
              show _ = some (HO.lst (_ ++ [V.bl (!decide ([c] < ("a" : Str).cps.toList) && !decide (("z" : Str).cps.toList < [c]))]))
              rw [b1, Bool.false_and]
          · obtain ⟨sx, eC⟩ := pv
            refine ⟨C, _, rfl, SqL.of eC, ?_⟩
            have ea : (((z.cps.toList.take z.cps.size).map fun c => !decide ([c] < ("a" : Str).cps.toList) && !decide (("z" : Str).cps.toList < [c])).all id) = alS "a" "z" z := by
              rw [List.take_of_length_le (by rw [Array.length_toList]; exact Nat.le_refl _), List.all_map]
              rfl
            rw [ea]
            exact q _ sx
      · have e : nameD (.str z) = false := by
          show (decide (1 ≤ z.length) && decide (z.length ≤ 8) && alS "a" "z" z) = false
          rw [show decide (1 ≤ z.length) = false from decide_eq_false fun g => c1 (decide_eq_true (by omega))]
          rfl
        rw [e] at q0
        exact ⟨_, rfl, q0⟩
end
end Th
namespace Th
open PySem PySem.Spec PyProof.Rows L2
theorem sq_same {K : PySem.W.Frag} {H H' : Hp} {a : Addr} {xs : List V} (s : Same H H') (h : SqL K H a xs) : SqL K H' a xs := by
  rcases h with (h | ⟨o, h⟩) | h
  · exact .inl (.inl (s _ _ h))
  · exact .inl (.inr ⟨o, s _ _ h⟩)
  · exact .inr h
def TPl (H : Hp) (a : Addr) (xs : List V) : Prop := H a = some (.tup xs) ∨ ∃ o, H a = some (.frz o (.tup xs))
theorem TPl.same {H H' : Hp} {a : Addr} {xs : List V} (h : TPl H a xs) (s : Same H H') : TPl H' a xs := h.elim (fun e => .inl (s _ _ e)) fun ⟨o, e⟩ => .inr ⟨o, s _ _ e⟩
theorem TPl.sq {K : PySem.W.Frag} {H : Hp} {a : Addr} {xs : List V} (h : TPl H a xs) : SqT K H a xs := .inl h
mutual
inductive Df (H : Hp) : V → PyData → Prop
  | non : Df H .non .none
  | bl (b : Bool) : Df H (.bl b) (.bool b)
  | int (i : Int) : Df H (.int i) (.int i)
  | str (x : Str) : Df H (.str x) (.str x)
  | lst {a : Addr} {xs : List V} {ds : List PyData} : H a = some (.lst xs) → DfAll H xs ds → Df H (.ref a) (.list ds)
  | tup {a : Addr} {xs : List V} {ds : List PyData} : TPl H a xs → DfAll H xs ds → Df H (.ref a) (.tuple ds)
inductive DfAll (H : Hp) : List V → List PyData → Prop
  | nil : DfAll H [] []
  | cons {v : V} {vs : List V} {d : PyData} {ds : List PyData} : Df H v d → DfAll H vs ds → DfAll H (v :: vs) (d :: ds)
end
mutual
theorem Df.same {H H' : Hp} (s : Same H H') : ∀ {v : V} {d : PyData}, Df H v d → Df H' v d
  | _, _, .non => .non
  | _, _, .bl b => .bl b
  | _, _, .int b => .int b
  | _, _, .str b => .str b
  | _, _, .lst e r => .lst (s _ _ e) (DfAll.same s r)
  | _, _, .tup e r => .tup (e.same s) (DfAll.same s r)
theorem DfAll.same {H H' : Hp} (s : Same H H') : ∀ {v : List V} {d : List PyData}, DfAll H v d → DfAll H' v d
  | _, _, .nil => .nil
  | _, _, .cons a r => .cons (Df.same s a) (DfAll.same s r)
end
mutual
theorem Df.dp {K : PySem.W.Frag} {H : Hp} : ∀ {v : V} {d : PyData}, Df H v d → Dp K H v d
  | _, _, .non => .non
  | _, _, .bl b => .bl b
  | _, _, .int b => .int b
  | _, _, .str b => .str b
  | _, _, .lst e r => .lst (SqL.of e) (DfAll.dp r)
  | _, _, .tup e r => .tup e.sq (DfAll.dp r)
theorem DfAll.dp {K : PySem.W.Frag} {H : Hp} : ∀ {v : List V} {d : List PyData}, DfAll H v d → DpAll K H v d
  | _, _, .nil => .nil
  | _, _, .cons a r => .cons (Df.dp a) (DfAll.dp r)
end
mutual
theorem Dt.df {S : Addr → Prop} {H : Hp} : ∀ {v : V} {d : PyData}, Dt S H v d → Df H v d
  | _, _, .non => .non
  | _, _, .bl b => .bl b
  | _, _, .int b => .int b
  | _, _, .str b => .str b
  | _, _, .lst _ e _ r => .lst e (DtAll.df r)
  | _, _, .tup _ e _ r => .tup (.inl e) (DtAll.df r)
theorem DtAll.df {S : Addr → Prop} {H : Hp} : ∀ {v : List V} {d : List PyData}, DtAll S H v d → DfAll H v d
  | _, _, .nil => .nil
  | _, _, .cons a r => .cons (Dt.df a) (DtAll.df r)
end
theorem Df.ty {K : PySem.W.Frag} {H : Hp} {v : V} {d : PyData} (h : Df H v d) : TyX K H v (.type (tyN d)) := by
  cases h with
  | non => exact .base .non
  | bl b => exact .base (.bl b)
  | int b => exact .base (.int b)
  | str b => exact .base (.str b)
  | lst e r => exact .base (.lst e)
  | tup e r =>
    rcases e with e | ⟨o, e⟩
    · exact .base (.tup e)
    · exact .fTuple e
theorem DfAll.len {H : Hp} : ∀ {xs : List V} {ds : List PyData}, DfAll H xs ds → xs.length = ds.length
  | _, _, .nil => rfl
  | _, _, .cons _ r => congrArg Nat.succ (DfAll.len r)
theorem DfAll.get {H : Hp} : ∀ {i : Nat} {xs : List V} {ds : List PyData} {x : V}, DfAll H xs ds → xs[i]? = some x → ∃ d, ds[i]? = some d ∧ Df H x d
  | _, _, _, _, .nil, h => by simp at h
  | 0, _, _, _, .cons a _, h => ⟨_, rfl, by rw [← Option.some.inj h]; exact a⟩
  | i + 1, _, _, _, .cons _ r, h => DfAll.get (i := i) r h
section
variable {P : Program} {w : World} {K : PySem.W.Frag} {mg : Str → Option Value} {base : Heap} {k : Nat}
def sp_is_wholeF : Sp := fun vs H Q _ => ∃ v d, vs = [v] ∧ Df H v d ∧ Q (.bl (wholeD d)) H
theorem ok_is_wholeF (T : Defs K mg) : FnOk P w K mg base CX0 (k + 1) T.a_is_whole T.d_is_whole ["thing"] sp_is_wholeF := by
  refine T.F_is_whole.ok sc_is_whole (fun vs H Q E h => ?_) (fun cdv A outer s H vs Q E hr h => ?_)
  · obtain ⟨v, d, rfl, _⟩ := h
    rfl
  · obtain ⟨v, d, rfl, hv, q⟩ := h
    refine ⟨_, PSs.nox
(pss_one (ps_ret (pe_and (pe_callB call_isi (by rfl) T.z_isinstance (by decide +kernel) (pa_cons (pv 0) (pa_cons (pe_bltn (v := .ty "int") (by rfl) T.z_int (by decide +kernel) rfl) pa_nil))) (pe_one (pe_not (pe_callB call_isi (by rfl) T.z_isinstance (by decide +kernel) (pa_cons (pv 0) (pa_cons (pe_bltn (v := .ty "bool") (by rfl) T.z_bool (by decide +kernel) rfl) pa_nil))))))))
      , ?_⟩
    refine ⟨v, rfl, v, .ty "int", _, _, _, rfl, .ty _, hv.ty, kit_I d, isiI d, rfl, ?_⟩
    cases d with
    | int i => exact iteT ⟨v, rfl, v, .ty "bool", _, _, _, rfl, .ty _, Df.ty (K := K) hv, kit_B (K := K) (.int i), false, rfl, q⟩
    | bool b => exact iteT ⟨v, rfl, v, .ty "bool", _, _, _, rfl, .ty _, Df.ty (K := K) hv, kit_B (K := K) (.bool b), true, rfl, q⟩
    | none => exact iteF q
    | str _ => exact iteF q
    | list _ => exact iteF q
    | tuple _ => exact iteF q
    | dict _ => exact iteF q
def sp_is_betweenF : Sp := fun vs H Q _ => ∃ v d lo hi, vs = [v, .int lo, .int hi] ∧ Df H v d ∧ Q (.bl (betD d lo hi)) H
theorem ok_is_whole_betweenF (T : Defs K mg) : FnOk P w K mg base CX0 (k + 2) T.a_is_whole_between T.d_is_whole_between ["thing", "least", "most"] sp_is_betweenF := by
  have G_is_whole : FnOk P w K mg base CX0 (k + 1) _ _ _ _ := ok_is_wholeF (k := k) T
  refine T.F_is_whole_between.ok sc_is_whole_between (fun vs H Q E h => ?_) (fun cdv A outer s H vs Q E hr h => ?_)
  · obtain ⟨v, d, lo, hi, rfl, _⟩ := h
    rfl
  · obtain ⟨v, d, lo, hi, rfl, hv, q⟩ := h
    refine ⟨_, PSs.nox
(pss_one (ps_ret (pe_and (pe_call G_is_whole hr (by rfl) T.g_is_whole T.F_is_whole.kp T.b_is_whole .nil pass0 (pa_cons (pv 0) pa_nil)) (pe_one (pe_chain op_le op_le (pv 1) (pv 0) (pv 2))))))
      , ?_⟩
    refine ⟨v, rfl, v, d, rfl, hv, wholeD d, rfl, ?_⟩
    cases d with
    | int i =>
      cases hv
      refine iteT ⟨.int lo, rfl, .int i, rfl, lo, i, rfl, rfl, decide (lo ≤ i), rfl, ite2 (fun c => ?_) fun c => ?_⟩
      · refine ⟨.int hi, rfl, i, hi, rfl, rfl, ?_⟩
        have e : betD (.int i) lo hi = decide (i ≤ hi) := by show (decide (lo ≤ i) && decide (i ≤ hi)) = _; rw [c, Bool.true_and]
        rw [e] at q
        exact q
      · have e : betD (.int i) lo hi = false := by show (decide (lo ≤ i) && decide (i ≤ hi)) = _; rw [show decide (lo ≤ i) = false by simpa using c, Bool.false_and]
        rw [e] at q
        exact q
    | bool b => exact iteF q
    | none => exact iteF q
    | str _ => exact iteF q
    | list _ => exact iteF q
    | tuple _ => exact iteF q
    | dict _ => exact iteF q
def sp_is_tupleF : Sp := fun vs H Q _ => ∃ v d lo hi, vs = [v, .int lo, .int hi] ∧ Df H v d ∧ Q (.bl (tupD d lo hi)) H
theorem ok_is_tupleF (T : Defs K mg) : FnOk P w K mg base CX0 (k + 1) T.a_is_tuple T.d_is_tuple ["thing", "fewest", "most"] sp_is_tupleF := by
  refine T.F_is_tuple.ok sc_is_tuple (fun vs H Q E h => ?_) (fun cdv A outer s H vs Q E hr h => ?_)
  · obtain ⟨v, d, lo, hi, rfl, _⟩ := h
    rfl
  · obtain ⟨v, d, lo, hi, rfl, hv, q⟩ := h
    refine ⟨_, PSs.nox
(pss_one (ps_ret (pe_and (pe_callB call_isi (by rfl) T.z_isinstance (by decide +kernel) (pa_cons (pv 0) (pa_cons (pe_bltn (v := .ty "tuple") (by rfl) T.z_tuple (by decide +kernel) rfl) pa_nil))) (pe_one (pe_chain op_le op_le (pv 1) (pe_callB (r := rLenS K) call_lenS (by rfl) T.z_len (by decide +kernel) (pa_cons (pv 0) pa_nil)) (pv 2))))))
      , ?_⟩
    refine ⟨v, rfl, v, .ty "tuple", _, _, _, rfl, .ty _, hv.ty, kit_T d, isiT d, rfl, ?_⟩
    cases d with
    | tuple ds =>
      obtain ⟨a, xs, rfl, e, hxs⟩ : ∃ a xs, v = .ref a ∧ TPl H a xs ∧ DfAll H xs ds := by
        cases hv with
        | tup e r => exact ⟨_, _, rfl, e, r⟩
      have xl := hxs.len
      refine iteT ⟨.int lo, rfl, .ref a, rfl, a, _, rfl, .inr (.inl e), lo, _, rfl, rfl, decide (lo ≤ (xs.length : Int)), rfl, ite2 (fun c => ?_) fun c => ?_⟩
      · refine ⟨.int hi, rfl, _, hi, rfl, rfl, ?_⟩
        have e : tupD (.tuple ds) lo hi = decide ((xs.length : Int) ≤ hi) := by show (decide (lo ≤ (ds.length : Int)) && decide ((ds.length : Int) ≤ hi)) = _; rw [← xl, c, Bool.true_and]
        rw [e] at q
        exact q
      · have e : tupD (.tuple ds) lo hi = false := by show (decide (lo ≤ (ds.length : Int)) && decide ((ds.length : Int) ≤ hi)) = _; rw [← xl, show decide (lo ≤ (xs.length : Int)) = false by simpa using c, Bool.false_and]
        rw [e] at q
        exact q
    | bool b => exact iteF q
    | none => exact iteF q
    | str _ => exact iteF q
    | list _ => exact iteF q
    | int _ => exact iteF q
    | dict _ => exact iteF q
def sp_is_nameF : Sp := fun vs H Q _ => ∃ v d, vs = [v] ∧ Df H v d ∧ (∀ s, d = .str s → s.length ≤ 5000) ∧ ∀ H', Same H H' → Q (.bl (nameD d)) H'
set_option maxHeartbeats 8000000 in
theorem ok_is_nameF (T : Defs K mg) : FnOk P w K mg base CX0 (k + 1) T.a_is_name T.d_is_name ["thing"] sp_is_nameF := by
  refine T.F_is_name.ok sc_is_name (fun vs H Q E h => ?_) (fun cdv A outer s H vs Q E hr h => ?_)
  · obtain ⟨v, d, rfl, _⟩ := h
    rfl
  · obtain ⟨v, d, rfl, hv, hl, q⟩ := h
    refine ⟨_, PSs.nox
(pss_cons (ps_if (PW.pt (pw_or (pt_not (pt_val (pe_callB call_isi (by rfl) T.z_isinstance (by decide +kernel) (pa_cons (pv 0) (pa_cons (pe_bltn (v := .ty "str") (by rfl) T.z_str (by decide +kernel) rfl) pa_nil))))) (pw_or1 (pt_not (pt_chain op_le op_le (pe_int) (pe_callB call_len_str (by rfl) T.z_len (by decide +kernel) (pa_cons (pv 0) pa_nil)) (pe_glob (v := .int 8) (by rfl) T.c_LONGEST_NAME ⟨_, rfl⟩))))))
      (pss_one (ps_ret (pe_bl)))
      pss_nil)
    (pss_one (ps_ret (pe_callB (r := rAll K) (cr_all rfl) (by rfl) T.z_all (by decide +kernel) (pa_cons (pe_lc (own := [("letter", 1)]) (g := gName 1) rfl sc_is_name.nd (pi_str (pv 0)) (blkOk_by (N := N_is_name) (sc := defScope s_is_name) (by decide +kernel)) (fun _ _ _ _ _ => (pg_name (i := 1) sc_is_name.nd rfl (.inl rfl))) (fun _ _ _ _ _ => pts_nil) (fun _ _ _ _ _ => (pe_chain op_le_str op_le_str (pe_str) (pv 1) (pe_str)))) pa_nil)))))
      , ?_⟩
    refine ⟨v, rfl, v, .ty "str", _, _, _, rfl, .ty _, hv.ty, kit_S d, isiS d, rfl, ?_⟩
    have q0 := q H (fun _ _ e => e)
    cases d with
    | int i => exact iteT q0
    | bool b => exact iteT q0
    | none => exact iteT q0
    | list _ => exact iteT q0
    | tuple _ => exact iteT q0
    | dict _ => exact iteT q0
    | str z =>
      cases hv
      have zl := hl z rfl
      have zs : z.length ≤ sizeLine := by rw [sizeLine_eq]; omega
      refine iteF ⟨.str z, rfl, z, rfl, zs, 1, (z.length : Int), rfl, rfl, decide ((1 : Int) ≤ (z.length : Int)), rfl, ite2 (fun c1 => ?_) (fun c1 => ?_)⟩
      · refine ⟨(z.length : Int), 8, rfl, rfl, _, rfl, ite2 (fun c2 => ?_) (fun c2 => ?_)⟩
        · have c2 : ¬ z.length ≤ 8 := fun g => by
            rw [show decide ((z.length : Int) ≤ 8) = true from decide_eq_true (by omega)] at c2
            cases c2
          have e : nameD (.str z) = false := by
            show (decide (1 ≤ z.length) && decide (z.length ≤ 8) && alS "a" "z" z) = false
            rw [decide_eq_false c2, Bool.and_false, Bool.false_and]
          rw [e] at q0
          exact q0
        · have c2 : z.length ≤ 8 := Decidable.byContradiction fun g => c2 (by rw [decide_eq_false (show ¬ (z.length : Int) ≤ 8 by omega)]; rfl)
          have c1 : 1 ≤ z.length := by have := of_decide_eq_true c1; omega
          have e : nameD (.str z) = alS "a" "z" z := by
            show (decide (1 ≤ z.length) && decide (z.length ≤ 8) && alS "a" "z" z) = _
            rw [decide_eq_true c1, decide_eq_true c2]
            rfl
          rw [e] at q
          refine ⟨.str z, rfl, z, rfl, fun C nC => ?_⟩
          refine lc_it (walk_str (z := z)) (fun i Hx => Same H Hx ∧ Hx C = some (.lst (((z.cps.toList.take i).map fun c => !decide ([c] < ("a" : Str).cps.toList) && !decide (("z" : Str).cps.toList < [c])).map V.bl))) ⟨same_upd nC, upd_same⟩ (fun _ _ _ _ => trivial) (fun i v Hx Hx' hi pv yy => ?_) (fun Hx pv => ?_)
          · obtain ⟨rfl, c, ec, rfl⟩ := yy
            obtain ⟨sx, eC⟩ := pv
            have zl2 : z.cps.toList.length = z.length := rfl
            have hlen : ((z.cps.toList.take i).map fun c => !decide ([c] < ("a" : Str).cps.toList) && !decide (("z" : Str).cps.toList < [c])).length ≤ 8 := by rw [List.length_map, List.length_take]; omega
            have tk1 : z.cps.toList.take (i + 1) = z.cps.toList.take i ++ [c] := by rw [List.take_add_one, Array.getElem?_toList, ec]; rfl
            refine ⟨rfl, yes_ ⟨.str ⟨#[c]⟩, rfl, "a", ⟨#[c]⟩, rfl, rfl, _, rfl, ite2 (fun b1 => ?_) (fun b1 => ?_)⟩⟩
            · refine ⟨⟨#[c]⟩, "z", rfl, rfl, _, eC, small5000 (by rw [List.length_map]; omega), same_set sx nC, ?_⟩
              rw [upd_same, tk1, List.map_append, List.map_append]
              have b1 : (!decide ([c] < ("a" : Str).cps.toList)) = true := b1
              show _ = some (HO.lst (_ ++ [V.bl (!decide ([c] < ("a" : Str).cps.toList) && !decide (("z" : Str).cps.toList < [c]))]))
              rw [b1, Bool.true_and]
            · refine ⟨_, eC, small5000 (by rw [List.length_map]; omega), same_set sx nC, ?_⟩
              rw [upd_same, tk1, List.map_append, List.map_append]
              have b1 : (!decide ([c] < ("a" : Str).cps.toList)) = false := Bool.eq_false_iff.mpr b1
              show _ = some (HO.lst (_ ++ [V.bl (!decide ([c] < ("a" : Str).cps.toList) && !decide (("z" : Str).cps.toList < [c]))]))
              rw [b1, Bool.false_and]
          · obtain ⟨sx, eC⟩ := pv
            refine ⟨C, _, rfl, SqL.of eC, ?_⟩
            have ea : (((z.cps.toList.take z.cps.size).map fun c => !decide ([c] < ("a" : Str).cps.toList) && !decide (("z" : Str).cps.toList < [c])).all id) = alS "a" "z" z := by
              rw [List.take_of_length_le (by rw [Array.length_toList]; exact Nat.le_refl _), List.all_map]
              rfl
            rw [ea]
            exact q _ sx
      · have e : nameD (.str z) = false := by
          show (decide (1 ≤ z.length) && decide (z.length ≤ 8) && alS "a" "z" z) = false
          rw [show decide (1 ≤ z.length) = false from decide_eq_false fun g => c1 (decide_eq_true (by omega))]
          rfl
        rw [e] at q0
        exact ⟨_, rfl, q0⟩
end
section
variable {P : Program} {w : World} {K : PySem.W.Frag} {mg : Str → Option Value} {base : Heap} {k : Nat}
def sp_all_unlike (K : PySem.W.Frag) : Sp := fun vs H Q _ => ∃ l : Addr, vs = [.ref l] ∧ ((∃ ss : List Str, (SqL K H l (ss.map V.str) ∨ SqT K H l (ss.map V.str)) ∧ ss.length < 4000 ∧ ∀ H', Same H H' → Q (.bl (decide ss.Nodup)) H') ∨
  ∃ ks : List (Addr × List Str), SqL K H l (ks.map fun p => V.ref p.1) ∧ (∀ p ∈ ks, SqT K H p.1 (p.2.map V.str)) ∧ ks.length < 64 ∧ ∀ H', Same H H' → Q (.bl (decide (ks.map (·.2)).Nodup)) H')
theorem sqT_same {K : PySem.W.Frag} {H H' : Hp} {a : Addr} {xs : List V} (s : Same H H') (h : SqT K H a xs) : SqT K H' a xs := by
  rcases h with (h | ⟨o, h⟩) | h
  · exact .inl (.inl (s _ _ h))
  · exact .inl (.inr ⟨o, s _ _ h⟩)
  · exact .inr h
set_option maxHeartbeats 8000000 in
theorem ok_all_unlike (T : Defs K mg) : FnOk P w K mg base CX0 (k + 1) T.a_all_unlike T.d_all_unlike ["things"] (sp_all_unlike K) := by
  refine T.F_all_unlike.ok sc_all_unlike (fun vs H Q E h => ?_) (fun cdv A outer s H vs Q E hr h => ?_)
  · obtain ⟨l, rfl, _⟩ := h
    rfl
  · obtain ⟨l, rfl, h⟩ := h
    refine ⟨_, PSs.nox
(pss_one (ps_ret (pe_cmpR op_eq (pe_callB (r := Spr.rLenU P w) Spr.call_lenU (by rfl) T.z_len (by decide +kernel) (pa_cons (pe_callTy (r := Spr.rSetU K P w) (Spr.cr_setU rfl hr.units) (by rfl) T.z_set (by decide +kernel) (pa_cons (pv 0) pa_nil)) pa_nil)) (pe_callB (r := rLenS K) call_lenS (by rfl) T.z_len (by decide +kernel) (pa_cons (pv 0) pa_nil)) (nomark _))))
      , ?_⟩
    have eq : ∀ {c n : Nat} {p : Prop} [Decidable p], (c = n ↔ p) → decide (V.int (c : Int) = V.int (n : Int)) = decide p := fun {c n p} _ h => by
      by_cases e : p
      · rw [decide_eq_true e, decide_eq_true (by rw [h.mpr e])]
      · rw [decide_eq_false e, decide_eq_false fun z => e (h.mp (by injection z with z; omega))]
    rcases h with ⟨ss, hl, few, q⟩ | ⟨ks, hl, hk, few, q⟩
    · refine ⟨.ref l, rfl, .inl ⟨l, ss, rfl, hl, few, fun a na => .inl ⟨a, ss, rfl, upd_same, fun c le nd => ?_⟩⟩⟩
      have sa := same_upd (o := Stx.SetTxO P w a ss) na
      refine ⟨.ref l, rfl, l, _, rfl, hl.elim (fun h => .inl (sq_same sa h)) (fun h => .inr (sqT_same sa h)), rfl, ?_⟩
      rw [show ((ss.map V.str).length : Int) = (ss.length : Int) by rw [List.length_map], eq nd]
      exact q _ sa
    · refine ⟨.ref l, rfl, .inr ⟨l, ks, rfl, hl, hk, few, fun a na => .inr ⟨a, ks.map (·.2), rfl, upd_same, fun c le nd => ?_⟩⟩⟩
      have sa := same_upd (o := Spr.SetPrO a (ks.map (·.2))) na
      refine ⟨.ref l, rfl, l, _, rfl, .inl (sq_same sa hl), rfl, ?_⟩
      rw [List.length_map] at nd
      rw [show ((ks.map fun p => V.ref p.1).length : Int) = (ks.length : Int) by rw [List.length_map], eq nd]
      exact q _ sa
end
end Th
namespace Th
open PySem PySem.Spec PyProof.Rows L2
inductive Tb : PyData → Prop
  | non : Tb .none
  | bl (b : Bool) : Tb (.bool b)
  | int (i : Int) : Tb (.int i)
  | str {s : Str} : s.length ≤ 5000 → Tb (.str s)
  | lst (ds : List PyData) : Tb (.list ds)
  | tup {ds : List PyData} : (∀ x ∈ ds, Tb x) → Tb (.tuple ds)
  | dct (ds : List (PyData × PyData)) : Tb (.dict ds)
theorem Tb.len {d : PyData} (h : Tb d) : ∀ s, d = .str s → s.length ≤ 5000 := fun s e => by
  subst e
  cases h
  assumption
theorem Tb.mem {ds : List PyData} (h : Tb (.tuple ds)) : ∀ x ∈ ds, Tb x := by
  cases h
  assumption
def namesD (ds : List PyData) : List Str := ds.filterMap fun d => match d with
  | .str s => some s
  | _ => none
theorem names_all {ds : List PyData} (h : ds.all nameD = true) : ds = (namesD ds).map PyData.str := by
  induction ds with
  | nil => rfl
  | cons d ds ih =>
    rw [List.all_cons, Bool.and_eq_true] at h
    obtain ⟨h1, h2⟩ := h
    cases d with
    | str s =>
      show PyData.str s :: ds = PyData.str s :: (namesD ds).map PyData.str
      rw [← ih h2]
    | _ => cases (show false = true from h1)
def linesB (d : PyData) : Bool := tupD d 1 8 && (match d with
  | .tuple ds => ds.all nameD && decide (namesD ds).Nodup
  | _ => false)
theorem dfAll_vs {H : Hp} : ∀ {xs : List V} {ss : List Str}, DfAll H xs (ss.map PyData.str) → xs = ss.map V.str
  | _, [], h => by cases h; rfl
  | _, s :: ss, h => by
    cases h with
    | cons a r =>
      cases a
      rw [dfAll_vs r]
      rfl
theorem tup_inv {H : Hp} {v : V} {ds : List PyData} (h : Df H v (.tuple ds)) : ∃ a xs, v = .ref a ∧ TPl H a xs ∧ DfAll H xs ds ∧ xs.length = ds.length := by
  cases h with
  | tup e r => exact ⟨_, _, rfl, e, r, r.len⟩
section
variable {P : Program} {w : World} {K : PySem.W.Frag} {mg : Str → Option Value} {base : Heap} {k : Nat}
def sp_are_lines : Sp := fun vs H Q _ => ∃ v d, vs = [v] ∧ Df H v d ∧ Tb d ∧ ∀ H', Same H H' → Q (.bl (linesB d)) H'
set_option maxHeartbeats 8000000 in
theorem ok_are_lines (T : Defs K mg) : FnOk P w K mg base CX0 (k + 2) T.a_are_lines T.d_are_lines ["thing"] sp_are_lines := by
  have G_is_tuple : FnOk P w K mg base CX0 (k + 1) _ _ _ _ := ok_is_tupleF (k := k) T
  have G_is_name : FnOk P w K mg base CX0 (k + 1) _ _ _ _ := ok_is_nameF (k := k) T
  have G_all_unlike : FnOk P w K mg base CX0 (k + 1) _ _ _ _ := ok_all_unlike (k := k) T
  refine T.F_are_lines.ok sc_are_lines (fun vs H Q E h => ?_) (fun cdv A outer s H vs Q E hr h => ?_)
  · obtain ⟨v, d, rfl, _⟩ := h
    rfl
  · obtain ⟨v, d, rfl, hv, tb, q⟩ := h
    refine ⟨_, PSs.nox
(pss_cons (ps_if (pt_not (pt_val (pe_call G_is_tuple hr (by rfl) T.g_is_tuple T.F_is_tuple.kp T.b_is_tuple .nil pass0 (pa_cons (pv 0) (pa_cons (pe_int) (pa_cons (pe_glob (v := .int 8) (by rfl) T.c_MOST_LINES ⟨_, rfl⟩) pa_nil))))))
      (pss_one (ps_ret (pe_bl)))
      pss_nil)
    (pss_one (ps_ret (pe_and (pe_callB (r := rAll K) (cr_all rfl) (by rfl) T.z_all (by decide +kernel) (pa_cons (pe_lc (own := [("line", 1)]) (g := gName 1) rfl sc_are_lines.nd (pi_tup (pv 0)) (blkOk_by (N := N_are_lines) (sc := defScope s_are_lines) (by decide +kernel)) (fun _ _ _ _ _ => (pg_name (i := 1) sc_are_lines.nd rfl (.inl rfl))) (fun _ _ _ _ _ => pts_nil) (fun _ _ _ _ _ => (pe_call G_is_name hr (by rfl) T.g_is_name T.F_is_name.kp T.b_is_name .nil pass0 (pa_cons (pv 1) pa_nil)))) pa_nil)) (pe_one (pe_call G_all_unlike hr (by rfl) T.g_all_unlike T.F_all_unlike.kp T.b_all_unlike .nil pass0 (pa_cons (pv 0) pa_nil)))))))
      , ?_⟩
    refine ⟨v, rfl, v, d, 1, 8, rfl, hv, ?_⟩
    have q0 : linesB d = false → ∀ H', Same H H' → Q (.bl false) H' := fun e H' s => by rw [← e]; exact q H' s
    cases c : tupD d 1 8 with
    | false =>
      refine ⟨_, rfl, iteT (q0 ?_ _ fun _ _ z => z)⟩
      unfold linesB
      rw [c]
      rfl
    | true =>
      refine ⟨_, rfl, iteF ?_⟩
      obtain ⟨ds, rfl⟩ : ∃ ds, d = .tuple ds := by
        cases d with
        | tuple ds => exact ⟨ds, rfl⟩
        | _ => cases c
      obtain ⟨t, xs, rfl, et, hxs, xl⟩ := tup_inv hv
      have l8 : ds.length ≤ 8 := by
        have c : (decide ((1 : Int) ≤ (ds.length : Int)) && decide ((ds.length : Int) ≤ 8)) = true := c
        have := of_decide_eq_true (Bool.and_eq_true_iff.mp c).2
        omega
      have lb : linesB (.tuple ds) = (ds.all nameD && decide (namesD ds).Nodup) := by unfold linesB; rw [c, Bool.true_and]
      refine ⟨.ref t, rfl, t, rfl, ⟨_, .inl et⟩, fun C nC => ?_⟩
      refine lc_it (walk_tup (xs := xs)) (fun i Hx => Same H Hx ∧ Hx C = some (.lst (((ds.take i).map nameD).map V.bl))) ⟨same_upd nC, upd_same⟩ (fun i Hx _ pv => .inl (et.same pv.1)) (fun i x Hx₀ Hx hi pv yy => ?_) (fun Hx pv => ?_)
      · obtain ⟨rfl, ex⟩ := yy
        obtain ⟨sx, eC⟩ := pv
        obtain ⟨y, ey, hy⟩ := hxs.get ex
        have tk1 : ds.take (i + 1) = ds.take i ++ [y] := by rw [List.take_add_one, ey]; rfl
        refine ⟨rfl, yes_ ⟨x, rfl, x, y, rfl, hy.same sx, (tb.mem y (List.mem_of_getElem? ey)).len, fun H3 s3 => ⟨_, s3 _ _ eC, small5000 (by rw [List.length_map, List.length_map, List.length_take]; omega), same_set (sx.trans s3) nC, ?_⟩⟩⟩
        rw [upd_same, tk1, List.map_append, List.map_append]
        rfl
      · obtain ⟨sx, eC⟩ := pv
        rw [xl, List.take_length] at eC
        refine ⟨C, _, rfl, SqL.of eC, ?_⟩
        have ea : ((ds.map nameD).all id) = ds.all nameD := by rw [List.all_map]; rfl
        rw [ea]
        cases ca : ds.all nameD with
        | false => exact ⟨_, rfl, iteF (q0 (by rw [lb, ca, Bool.false_and]) _ sx)⟩
        | true =>
          have en := names_all ca
          rw [en] at hxs
          have ev := dfAll_vs hxs
          refine ⟨_, rfl, iteT ⟨.ref t, rfl, t, rfl, .inl ⟨namesD ds, .inr (.inl (by rw [← ev]; exact et.same sx)), ?_, fun H' s' => ?_⟩⟩⟩
          · have := congrArg List.length en
            rw [List.length_map] at this
            omega
          · have := q H' (sx.trans s')
            rw [lb, ca, Bool.true_and] at this
            exact this
end
end Th
namespace Th
open PySem PySem.Spec PyProof.Rows L2
theorem un65 {k : Nat} {A : Around} (h : Room k A) : A.units + 65 < cLine := by have := h.un; omega
def strIn (ss : List Str) (d : PyData) : Bool := (ss.map PyData.str).any fun z => z.eqv d
theorem strs_lay {ss : List Str} (h : ∀ s ∈ ss, PyData.strOk s = true) : PyData.canLayAll0 (ss.map PyData.str) = true := by
  induction ss with
  | nil => rfl
  | cons s ss ih => exact Bool.and_eq_true_iff.mpr ⟨h s List.mem_cons_self, ih fun z hz => h z (List.mem_cons_of_mem _ hz)⟩
theorem strs_dep (ss : List Str) : PyData.depthAll (ss.map PyData.str) = 0 := by
  induction ss with
  | nil => rfl
  | cons s ss ih => show max 0 (PyData.depthAll (ss.map PyData.str)) = 0; rw [ih]; rfl
theorem strs_tup {ss : List Str} (h : ∀ s ∈ ss, PyData.strOk s = true) : SeqAt.shaped (.tuple (ss.map PyData.str)) = true := Bool.and_eq_true_iff.mpr ⟨strs_lay h, decide_eq_true (by show PyData.depthAll (ss.map PyData.str) + 1 ≤ 64; rw [strs_dep]; decide)⟩
theorem dpAll_strs {K : PySem.W.Frag} {H : Hp} : ∀ ss : List Str, DpAll K H (ss.map V.str) (ss.map PyData.str)
  | [] => .nil
  | s :: ss => .cons (.str s) (dpAll_strs ss)
theorem shm {ds : List PyData} (h : SeqAt.shaped (.tuple ds) = true) : ∀ x ∈ ds, SeqAt.shaped x = true := by
  have h : (PyData.canLayAll0 ds && decide (PyData.depthAll ds + 1 ≤ 64)) = true := h
  obtain ⟨h1, h2⟩ := Bool.and_eq_true_iff.mp h
  have h2 := of_decide_eq_true h2
  have go : ∀ l : List PyData, PyData.canLayAll0 l = true → ∀ x ∈ l, x.canLay0 = true ∧ PyData.depth x ≤ PyData.depthAll l := fun l => by
    induction l with
    | nil => exact fun _ x hx => (by cases hx)
    | cons d l ih =>
      intro h x hx
      obtain ⟨a, b⟩ := Bool.and_eq_true_iff.mp (show (d.canLay0 && PyData.canLayAll0 l) = true from h)
      have e : PyData.depthAll (d :: l) = max (PyData.depth d) (PyData.depthAll l) := rfl
      rw [e]
      rcases List.mem_cons.mp hx with z | z
      · rw [z]; exact ⟨a, Nat.le_max_left _ _⟩
      · obtain ⟨p, q⟩ := ih b x z
        exact ⟨p, Nat.le_trans q (Nat.le_max_right _ _)⟩
  intro x hx
  obtain ⟨a, b⟩ := go ds h1 x hx
  exact Bool.and_eq_true_iff.mpr ⟨a, decide_eq_true (by omega)⟩
theorem tupD_len {d : PyData} {a b : Int} (h : tupD d a b = true) : ∃ ds, d = .tuple ds ∧ a ≤ (ds.length : Int) ∧ (ds.length : Int) ≤ b := by
  cases d with
  | tuple ds =>
    have h : (decide (a ≤ (ds.length : Int)) && decide ((ds.length : Int) ≤ b)) = true := h
    obtain ⟨h1, h2⟩ := Bool.and_eq_true_iff.mp h
    exact ⟨ds, rfl, of_decide_eq_true h1, of_decide_eq_true h2⟩
  | _ => cases h
theorem two_of {α : Type} {l : List α} (h : l.length = 2) : ∃ a b, l = [a, b] := by
  match l, h with
  | [a, b], _ => exact ⟨a, b, rfl⟩
def stationB (ls : List Str) (d : PyData) : Bool := match d with
  | .tuple [a, b] => nameD a && strIn ls b
  | _ => false
theorem station_tup {ls : List Str} {d : PyData} (h : tupD d 2 2 = false) : stationB ls d = false := by
  cases d with
  | tuple ds =>
    match ds, h with
    | [], _ => rfl
    | [_], _ => rfl
    | [_, _], h => cases h
    | _ :: _ :: _ :: _, _ => rfl
  | _ => rfl
def stationsB (ls : List Str) (d : PyData) : Bool := tupD d 0 16 && (match d with
  | .tuple ds => ds.all (stationB ls)
  | _ => false)
structure LnOk (ls : List Str) : Prop where
  ok : ∀ z ∈ ls, PyData.strOk z = true
  len : ls.length ≤ 8
section
variable {P : Program} {w : World} {K : PySem.W.Frag} {mg : Str → Option Value} {base : Heap} {k : Nat}
def sp_one (f : List Str → PyData → Bool) : Sp := fun vs H Q _ => ∃ (l : Addr) (ls : List Str) (v : V) (d : PyData), vs = [.ref l, v] ∧ TPl H l (ls.map V.str) ∧ LnOk ls ∧ Df H v d ∧ Tb d ∧ SeqAt.shaped d = true ∧ ∀ H', Same H H' → Q (.bl (f ls d)) H'
set_option maxHeartbeats 8000000 in
theorem ok_is_station (T : Defs K mg) : FnOk P w K mg base CX0 (k + 2) T.a_is_station T.d_is_station ["lines", "thing"] (sp_one stationB) := by
  have G_is_tuple : FnOk P w K mg base CX0 (k + 1) _ _ _ _ := ok_is_tupleF (k := k) T
  have G_is_name : FnOk P w K mg base CX0 (k + 1) _ _ _ _ := ok_is_nameF (k := k) T
  refine T.F_is_station.ok sc_is_station (fun vs H Q E h => ?_) (fun cdv A outer s H vs Q E hr h => ?_)
  · obtain ⟨l, ls, v, d, rfl, _⟩ := h
    rfl
  · obtain ⟨l, ls, v, d, rfl, el, lo, hv, tb, sh, q⟩ := h
    refine ⟨_, PSs.nox
(pss_one (ps_ret (pe_and (pe_call G_is_tuple hr (by rfl) T.g_is_tuple T.F_is_tuple.kp T.b_is_tuple .nil pass0 (pa_cons (pv 1) (pa_cons (pe_int) (pa_cons (pe_int) pa_nil)))) (pe_and (pe_call G_is_name hr (by rfl) T.g_is_name T.F_is_name.kp T.b_is_name .nil pass0 (pa_cons (pe_ix (r := rIxT K) ix_tup (pv 1) (pe_int) (fun _ _ => rfl)) pa_nil)) (pe_one (pe_cmpR (r := InT.rInT K) (InT.op_inT (un65 hr)) (pe_ix (r := rIxT K) ix_tup (pv 1) (pe_int) (fun _ _ => rfl)) (pv 0) (by rfl)))))))
      , ?_⟩
    refine ⟨v, rfl, v, d, 2, 2, rfl, hv, ?_⟩
    cases c : tupD d 2 2 with
    | false =>
      refine ⟨_, rfl, iteF ?_⟩
      have := q H fun _ _ z => z
      rw [station_tup c] at this
      exact this
    | true =>
      refine ⟨_, rfl, iteT ?_⟩
      obtain ⟨ds, rfl, c1, c2⟩ := tupD_len c
      obtain ⟨a, b, rfl⟩ := two_of (l := ds) (by omega)
      obtain ⟨t, xs, rfl, et, hxs, xl⟩ := tup_inv hv
      obtain ⟨x, y, rfl, hx, hy⟩ : ∃ x y, xs = [x, y] ∧ Df H x a ∧ Df H y b := by
        cases hxs with
        | cons h1 h2 =>
          cases h2 with
          | cons h2 h3 => cases h3; exact ⟨_, _, rfl, h1, h2⟩
      have e : stationB ls (.tuple [a, b]) = (nameD a && strIn ls b) := rfl
      refine ⟨.ref t, rfl, t, _, 0, x, rfl, rfl, .inl et, atI_nat (j := 0) rfl, x, a, rfl, hx, (tb.mem a (by simp)).len, fun H1 s1 => ⟨_, rfl, ?_⟩⟩
      cases ca : nameD a with
      | false =>
        refine iteF ?_
        have := q H1 s1
        rw [e, ca] at this
        exact this
      | true =>
        refine iteT ⟨.ref t, rfl, t, _, 1, y, rfl, rfl, .inl (et.same s1), atI_nat (j := 1) rfl, .ref l, rfl, b, ls.map PyData.str, (hy.same s1).dp, .tup (.inl (el.same s1)) (dpAll_strs _), shm sh b (by simp), strs_tup lo.ok, ?_⟩
        have := q H1 s1
        rw [e, ca, Bool.true_and] at this
        exact this
set_option maxHeartbeats 8000000 in
theorem ok_are_stations (T : Defs K mg) : FnOk P w K mg base CX0 (k + 3) T.a_are_stations T.d_are_stations ["lines", "thing"] (sp_one stationsB) := by
  have G_is_tuple : FnOk P w K mg base CX0 (k + 2) _ _ _ _ := ok_is_tupleF (k := k + 1) T
  have G_is_station : FnOk P w K mg base CX0 (k + 2) _ _ _ _ := ok_is_station (k := k) T
  refine T.F_are_stations.ok sc_are_stations (fun vs H Q E h => ?_) (fun cdv A outer s H vs Q E hr h => ?_)
  · obtain ⟨l, ls, v, d, rfl, _⟩ := h
    rfl
  · obtain ⟨l, ls, v, d, rfl, el, lo, hv, tb, sh, q⟩ := h
    refine ⟨_, PSs.nox
(pss_cons (ps_if (pt_not (pt_val (pe_call G_is_tuple hr (by rfl) T.g_is_tuple T.F_is_tuple.kp T.b_is_tuple .nil pass0 (pa_cons (pv 1) (pa_cons (pe_int) (pa_cons (pe_glob (v := .int 16) (by rfl) T.c_MOST_STATIONS ⟨_, rfl⟩) pa_nil))))))
      (pss_one (ps_ret (pe_bl)))
      pss_nil)
    (pss_one (ps_ret (pe_callB (r := rAll K) (cr_all rfl) (by rfl) T.z_all (by decide +kernel) (pa_cons (pe_lc (own := [("station", 2)]) (g := gName 2) rfl sc_are_stations.nd (pi_tup (pv 1)) (blkOk_by (N := N_are_stations) (sc := defScope s_are_stations) (by decide +kernel)) (fun _ _ _ _ _ => (pg_name (i := 2) sc_are_stations.nd rfl (.inl rfl))) (fun _ _ _ _ _ => pts_nil) (fun _ _ _ _ _ => (pe_call G_is_station hr (by rfl) T.g_is_station T.F_is_station.kp T.b_is_station .nil pass0 (pa_cons (pv 0) (pa_cons (pv 2) pa_nil))))) pa_nil)))))
      , ?_⟩
    refine ⟨v, rfl, v, d, 0, 16, rfl, hv, ?_⟩
    cases c : tupD d 0 16 with
    | false =>
      refine ⟨_, rfl, iteT ?_⟩
      have := q H fun _ _ z => z
      unfold stationsB at this
      rw [c] at this
      exact this
    | true =>
      refine ⟨_, rfl, iteF ?_⟩
      obtain ⟨ds, rfl, c1, c2⟩ := tupD_len c
      obtain ⟨t, xs, rfl, et, hxs, xl⟩ := tup_inv hv
      refine ⟨.ref t, rfl, t, rfl, ⟨_, .inl et⟩, fun C nC => ?_⟩
      refine lc_it (walk_tup (xs := xs)) (fun i Hx => Same H Hx ∧ Hx C = some (.lst (((ds.take i).map (stationB ls)).map V.bl))) ⟨same_upd nC, upd_same⟩ (fun i Hx _ pv => .inl (et.same pv.1)) (fun i x Hx₀ Hx hi pv yy => ?_) (fun Hx pv => ?_)
      · obtain ⟨rfl, ex⟩ := yy
        obtain ⟨sx, eC⟩ := pv
        obtain ⟨y, ey, hy⟩ := hxs.get ex
        have my := List.mem_of_getElem? ey
        have tk1 : ds.take (i + 1) = ds.take i ++ [y] := by rw [List.take_add_one, ey]; rfl
        refine ⟨rfl, yes_ ⟨.ref l, rfl, x, rfl, l, ls, x, y, rfl, el.same sx, lo, hy.same sx, tb.mem y my, shm sh y my, fun H3 s3 => ⟨_, s3 _ _ eC, small5000 (by rw [List.length_map, List.length_map, List.length_take]; omega), same_set (sx.trans s3) nC, ?_⟩⟩⟩
        rw [upd_same, tk1, List.map_append, List.map_append]
        rfl
      · obtain ⟨sx, eC⟩ := pv
        rw [xl, List.take_length] at eC
        refine ⟨C, _, rfl, SqL.of eC, ?_⟩
        have := q Hx sx
        unfold stationsB at this
        rw [c, Bool.true_and] at this
        rw [List.all_map]
        exact this
end
end Th
namespace Th
open PySem PySem.Spec PyProof.Rows L2
def inD (ds : List PyData) (z : Str) : Bool := ds.any fun x => PyData.eqv x (.str z)
def joinedB (ls : List Str) (d : PyData) : Bool := tupD d 2 (ls.length : Int) && (match d with
  | .tuple ds => PyData.eqv (.tuple ds) (.tuple ((ls.filter (inD ds)).map PyData.str))
  | _ => false)
def junctionB (ls : List Str) (d : PyData) : Bool := match d with
  | .tuple [a, b] => nameD a && joinedB ls b
  | _ => false
theorem junction_tup {ls : List Str} {d : PyData} (h : tupD d 2 2 = false) : junctionB ls d = false := by
  cases d with
  | tuple ds =>
    match ds, h with
    | [], _ => rfl
    | [_], _ => rfl
    | [_, _], h => cases h
    | _ :: _ :: _ :: _, _ => rfl
  | _ => rfl
def junctionsB (ls : List Str) (d : PyData) : Bool := tupD d 0 12 && (match d with
  | .tuple ds => ds.all (junctionB ls)
  | _ => false)
theorem str_shp {z : Str} (h : PyData.strOk z = true) : SeqAt.shaped (.str z) = true := Bool.and_eq_true_iff.mpr ⟨h, decide_eq_true (by show 0 ≤ 64; decide)⟩
section
variable {P : Program} {w : World} {K : PySem.W.Frag} {mg : Str → Option Value} {base : Heap} {k : Nat}
set_option maxHeartbeats 8000000 in
theorem ok_are_joined (T : Defs K mg) : FnOk P w K mg base CX0 (k + 2) T.a_are_joined T.d_are_joined ["lines", "thing"] (sp_one joinedB) := by
  have G_is_tuple : FnOk P w K mg base CX0 (k + 1) _ _ _ _ := ok_is_tupleF (k := k) T
  refine T.F_are_joined.ok sc_are_joined (fun vs H Q E h => ?_) (fun cdv A outer s H vs Q E hr h => ?_)
  · obtain ⟨l, ls, v, d, rfl, _⟩ := h
    rfl
  · obtain ⟨l, ls, v, d, rfl, el, lo, hv, tb, sh, q⟩ := h
    refine ⟨_, PSs.nox
(pss_cons (ps_if (pt_not (pt_val (pe_call G_is_tuple hr (by rfl) T.g_is_tuple T.F_is_tuple.kp T.b_is_tuple .nil pass0 (pa_cons (pv 1) (pa_cons (pe_int) (pa_cons (pe_callB (r := rLenS K) call_lenS (by rfl) T.z_len (by decide +kernel) (pa_cons (pv 0) pa_nil)) pa_nil))))))
      (pss_one (ps_ret (pe_bl)))
      pss_nil)
    (pss_one (ps_ret (pe_cmpR (r := rEqD K) (op_eqD hr.units) (pv 1) (pe_callTy call_tuple_of (by rfl) T.z_tuple (by decide +kernel) (pa_cons (pe_lc (own := [("line", 2)]) (g := gName 2) rfl sc_are_joined.nd (pi_tup (pv 0)) (blkOk_by (N := N_are_joined) (sc := defScope s_are_joined) (by decide +kernel)) (fun _ _ _ _ _ => (pg_name (i := 2) sc_are_joined.nd rfl (.inl rfl))) (fun _ _ _ _ _ => pts_one (pt_cmpR (r := InT.rInT K) (InT.op_inT (un65 hr)) (pv 2) (pv 1) (by rfl))) (fun _ _ _ _ _ => (pv 2))) pa_nil)) (nomark _)))))
      , ?_⟩
    have ll : ((ls.map V.str).length : Int) = (ls.length : Int) := by rw [List.length_map]
    refine ⟨v, rfl, .ref l, rfl, l, _, rfl, .inr (.inl el), v, d, 2, _, rfl, hv, ?_⟩
    rw [ll]
    cases c : tupD d 2 (ls.length : Int) with
    | false =>
      refine ⟨_, rfl, iteT ?_⟩
      have := q H fun _ _ z => z
      unfold joinedB at this
      rw [c] at this
      exact this
    | true =>
      refine ⟨_, rfl, iteF ?_⟩
      obtain ⟨ds, rfl, c1, c2⟩ := tupD_len c
      obtain ⟨t, xs, rfl, et, hxs, xl⟩ := tup_inv hv
      refine ⟨.ref t, rfl, .ref l, rfl, l, rfl, ⟨_, .inl el⟩, fun C nC => ?_⟩
      refine lc_it (walk_tup (xs := ls.map V.str)) (fun i Hx => Same H Hx ∧ Hx C = some (.lst (((ls.take i).filter (inD ds)).map V.str))) ⟨same_upd nC, upd_same⟩ (fun i Hx _ pv => .inl (el.same pv.1)) (fun i x Hx₀ Hx hi pv yy => ?_) (fun Hx pv => ?_)
      · obtain ⟨rfl, ex⟩ := yy
        obtain ⟨sx, eC⟩ := pv
        rw [List.getElem?_map] at ex
        obtain ⟨z, ez, rfl⟩ := Option.map_eq_some_iff.mp ex
        have mz := List.mem_of_getElem? ez
        have tk1 : ls.take (i + 1) = ls.take i ++ [z] := by rw [List.take_add_one, ez]; rfl
        refine ⟨rfl, .str z, rfl, .ref t, rfl, .str z, ds, .str z, (hv.same sx).dp, str_shp (lo.ok z mz), sh, _, rfl, ite2 (fun b => ?_) fun b => ?_⟩
        · have b : inD ds z = true := b
          refine ⟨.str z, rfl, _, eC, ?_, same_set sx nC, ?_⟩
          · rw [List.length_map]
            have := List.length_filter_le (inD ds) (ls.take i)
            rw [List.length_take] at this
            have := lo.len
            exact small5000 (by omega)
          · rw [upd_same, tk1, List.filter_append, List.map_append, List.filter_cons_of_pos b]
            rfl
        · have b : ¬ inD ds z = true := b
          refine ⟨sx, ?_⟩
          rw [eC, tk1, List.filter_append, List.filter_cons_of_neg b, List.filter_nil, List.append_nil]
      · obtain ⟨sx, eC⟩ := pv
        rw [List.length_map, List.take_length] at eC
        refine ⟨C, _, rfl, .inl ⟨SqL.of eC, fun u nu => ?_⟩⟩
        have su := same_upd (o := .tup ((ls.filter (inD ds)).map V.str)) nu
        have sxu := sx.trans su
        refine ⟨.tuple ds, .tuple ((ls.filter (inD ds)).map PyData.str), (hv.same sxu).dp, .tup (SqT.of upd_same) (dpAll_strs _), sh, strs_tup fun z hz => lo.ok z (List.mem_filter.mp hz).1, ?_⟩
        have := q _ sxu
        unfold joinedB at this
        rw [c, Bool.true_and] at this
        exact this
set_option maxHeartbeats 8000000 in
theorem ok_is_junction (T : Defs K mg) : FnOk P w K mg base CX0 (k + 3) T.a_is_junction T.d_is_junction ["lines", "thing"] (sp_one junctionB) := by
  have G_is_tuple : FnOk P w K mg base CX0 (k + 2) _ _ _ _ := ok_is_tupleF (k := k + 1) T
  have G_is_name : FnOk P w K mg base CX0 (k + 2) _ _ _ _ := ok_is_nameF (k := k + 1) T
  have G_are_joined : FnOk P w K mg base CX0 (k + 2) _ _ _ _ := ok_are_joined (k := k) T
  refine T.F_is_junction.ok sc_is_junction (fun vs H Q E h => ?_) (fun cdv A outer s H vs Q E hr h => ?_)
  · obtain ⟨l, ls, v, d, rfl, _⟩ := h
    rfl
  · obtain ⟨l, ls, v, d, rfl, el, lo, hv, tb, sh, q⟩ := h
    refine ⟨_, PSs.nox
(pss_one (ps_ret (pe_and (pe_call G_is_tuple hr (by rfl) T.g_is_tuple T.F_is_tuple.kp T.b_is_tuple .nil pass0 (pa_cons (pv 1) (pa_cons (pe_int) (pa_cons (pe_int) pa_nil)))) (pe_and (pe_call G_is_name hr (by rfl) T.g_is_name T.F_is_name.kp T.b_is_name .nil pass0 (pa_cons (pe_ix (r := rIxT K) ix_tup (pv 1) (pe_int) (fun _ _ => rfl)) pa_nil)) (pe_one (pe_call G_are_joined hr (by rfl) T.g_are_joined T.F_are_joined.kp T.b_are_joined .nil pass0 (pa_cons (pv 0) (pa_cons (pe_ix (r := rIxT K) ix_tup (pv 1) (pe_int) (fun _ _ => rfl)) pa_nil))))))))
      , ?_⟩
    refine ⟨v, rfl, v, d, 2, 2, rfl, hv, ?_⟩
    cases c : tupD d 2 2 with
    | false =>
      refine ⟨_, rfl, iteF ?_⟩
      have := q H fun _ _ z => z
      rw [junction_tup c] at this
      exact this
    | true =>
      refine ⟨_, rfl, iteT ?_⟩
      obtain ⟨ds, rfl, c1, c2⟩ := tupD_len c
      obtain ⟨a, b, rfl⟩ := two_of (l := ds) (by omega)
      obtain ⟨t, xs, rfl, et, hxs, xl⟩ := tup_inv hv
      obtain ⟨x, y, rfl, hx, hy⟩ : ∃ x y, xs = [x, y] ∧ Df H x a ∧ Df H y b := by
        cases hxs with
        | cons h1 h2 =>
          cases h2 with
          | cons h2 h3 => cases h3; exact ⟨_, _, rfl, h1, h2⟩
      have e : junctionB ls (.tuple [a, b]) = (nameD a && joinedB ls b) := rfl
      refine ⟨.ref t, rfl, t, _, 0, x, rfl, rfl, .inl et, atI_nat (j := 0) rfl, x, a, rfl, hx, (tb.mem a (by simp)).len, fun H1 s1 => ⟨_, rfl, ?_⟩⟩
      cases ca : nameD a with
      | false =>
        refine iteF ?_
        have := q H1 s1
        rw [e, ca] at this
        exact this
      | true =>
        refine iteT ⟨.ref l, rfl, .ref t, rfl, t, _, 1, y, rfl, rfl, .inl (et.same s1), atI_nat (j := 1) rfl, l, ls, y, b, rfl, el.same s1, lo, hy.same s1, tb.mem b (by simp), shm sh b (by simp), fun H2 s2 => ?_⟩
        have := q H2 (s1.trans s2)
        rw [e, ca, Bool.true_and] at this
        exact this
set_option maxHeartbeats 8000000 in
theorem ok_are_junctions (T : Defs K mg) : FnOk P w K mg base CX0 (k + 4) T.a_are_junctions T.d_are_junctions ["lines", "thing"] (sp_one junctionsB) := by
  have G_is_tuple : FnOk P w K mg base CX0 (k + 3) _ _ _ _ := ok_is_tupleF (k := k + 2) T
  have G_is_junction : FnOk P w K mg base CX0 (k + 3) _ _ _ _ := ok_is_junction (k := k) T
  refine T.F_are_junctions.ok sc_are_junctions (fun vs H Q E h => ?_) (fun cdv A outer s H vs Q E hr h => ?_)
  · obtain ⟨l, ls, v, d, rfl, _⟩ := h
    rfl
  · obtain ⟨l, ls, v, d, rfl, el, lo, hv, tb, sh, q⟩ := h
    refine ⟨_, PSs.nox
(pss_cons (ps_if (pt_not (pt_val (pe_call G_is_tuple hr (by rfl) T.g_is_tuple T.F_is_tuple.kp T.b_is_tuple .nil pass0 (pa_cons (pv 1) (pa_cons (pe_int) (pa_cons (pe_glob (v := .int 12) (by rfl) T.c_MOST_JUNCTIONS ⟨_, rfl⟩) pa_nil))))))
      (pss_one (ps_ret (pe_bl)))
      pss_nil)
    (pss_one (ps_ret (pe_callB (r := rAll K) (cr_all rfl) (by rfl) T.z_all (by decide +kernel) (pa_cons (pe_lc (own := [("junction", 2)]) (g := gName 2) rfl sc_are_junctions.nd (pi_tup (pv 1)) (blkOk_by (N := N_are_junctions) (sc := defScope s_are_junctions) (by decide +kernel)) (fun _ _ _ _ _ => (pg_name (i := 2) sc_are_junctions.nd rfl (.inl rfl))) (fun _ _ _ _ _ => pts_nil) (fun _ _ _ _ _ => (pe_call G_is_junction hr (by rfl) T.g_is_junction T.F_is_junction.kp T.b_is_junction .nil pass0 (pa_cons (pv 0) (pa_cons (pv 2) pa_nil))))) pa_nil)))))
      , ?_⟩
    refine ⟨v, rfl, v, d, 0, 12, rfl, hv, ?_⟩
    cases c : tupD d 0 12 with
    | false =>
      refine ⟨_, rfl, iteT ?_⟩
      have := q H fun _ _ z => z
      unfold junctionsB at this
      rw [c] at this
      exact this
    | true =>
      refine ⟨_, rfl, iteF ?_⟩
      obtain ⟨ds, rfl, c1, c2⟩ := tupD_len c
      obtain ⟨t, xs, rfl, et, hxs, xl⟩ := tup_inv hv
      refine ⟨.ref t, rfl, t, rfl, ⟨_, .inl et⟩, fun C nC => ?_⟩
      refine lc_it (walk_tup (xs := xs)) (fun i Hx => Same H Hx ∧ Hx C = some (.lst (((ds.take i).map (junctionB ls)).map V.bl))) ⟨same_upd nC, upd_same⟩ (fun i Hx _ pv => .inl (et.same pv.1)) (fun i x Hx₀ Hx hi pv yy => ?_) (fun Hx pv => ?_)
      · obtain ⟨rfl, ex⟩ := yy
        obtain ⟨sx, eC⟩ := pv
        obtain ⟨y, ey, hy⟩ := hxs.get ex
        have my := List.mem_of_getElem? ey
        have tk1 : ds.take (i + 1) = ds.take i ++ [y] := by rw [List.take_add_one, ey]; rfl
        refine ⟨rfl, yes_ ⟨.ref l, rfl, x, rfl, l, ls, x, y, rfl, el.same sx, lo, hy.same sx, tb.mem y my, shm sh y my, fun H3 s3 => ⟨_, s3 _ _ eC, small5000 (by rw [List.length_map, List.length_map, List.length_take]; omega), same_set (sx.trans s3) nC, ?_⟩⟩⟩
        rw [upd_same, tk1, List.map_append, List.map_append]
        rfl
      · obtain ⟨sx, eC⟩ := pv
        rw [xl, List.take_length] at eC
        refine ⟨C, _, rfl, SqL.of eC, ?_⟩
        have := q Hx sx
        unfold junctionsB at this
        rw [c, Bool.true_and] at this
        rw [List.all_map]
        exact this
end
end Th
namespace Th
open PySem PySem.Spec PyProof.Rows L2
def ent (sts : List (Nm × Nm)) (jns : List (Nm × List Nm)) : List (Nm × List Nm) := sts.map (fun s => (s.1, [s.2])) ++ jns
def lkF (es : List (Nm × List Nm)) (y : Nm) : Option (List Nm) := es.foldl (fun acc e => if y = e.1 then some e.2 else acc) none
theorem lkF_snoc (es : List (Nm × List Nm)) (e : Nm × List Nm) (y : Nm) : lkF (es ++ [e]) y = if y = e.1 then some e.2 else lkF es y := by
  unfold lkF
  rw [List.foldl_append]
  rfl
theorem TPl.tk {H H' : Hp} {a : Addr} {xs : List V} (h : TPl H a xs) (k : TKF H H') : TPl H' a xs := h.elim (fun e => .inl (k.t _ _ e)) fun ⟨o, e⟩ => .inr ⟨o, k.f _ _ _ e⟩
def StF (H : Hp) (a : Addr) (st : Nm × Nm) : Prop := TPl H a [nS st.1, nS st.2]
def JnF (H : Hp) (a : Addr) (jn : Nm × List Nm) : Prop := ∃ b, TPl H a [nS jn.1, .ref b] ∧ TPl H b (jn.2.map nS)
/-- what a dict tells of the places -/
structure DVF (H : Hp) (kvs : List (Key × V)) (es : List (Nm × List Nm)) : Prop where
  no : ∀ z, lkF es z = none → valV kvs (Sum.inr (SX.S z)) = none
  yes : ∀ z l, lkF es z = some l → ∃ a, valV kvs (Sum.inr (SX.S z)) = some (.ref a) ∧ TPl H a (l.map nS)
  ks : ∃ zs : List Nm, kvs.map (·.1) = (zs.map SX.S).map Sum.inr ∧ zs.length ≤ es.length ∧ (es ≠ [] → zs ≠ []) ∧ ∀ z ∈ zs, (lkF es z).isSome = true
theorem DVF.tk {H H' : Hp} {kvs : List (Key × V)} {es : List (Nm × List Nm)} (h : DVF H kvs es) (k : TKF H H') : DVF H' kvs es :=
  ⟨h.no, fun z l e => let ⟨a, h1, h2⟩ := h.yes z l e; ⟨a, h1, h2.tk k⟩, h.ks⟩
theorem DVF.nil {H : Hp} : DVF H [] [] := ⟨fun _ _ => rfl, fun z l e => (by cases e), [], rfl, Nat.le_refl _, fun h => absurd rfl h, fun z h => (by cases h)⟩
theorem DVF.put {H : Hp} {kvs : List (Key × V)} {es : List (Nm × List Nm)} (h : DVF H kvs es) {z : Nm} {l : List Nm} {a : Addr} (e : TPl H a (l.map nS)) : DVF H (putK kvs (Sum.inr (SX.S z)) (.ref a)) (es ++ [(z, l)]) := by
  refine ⟨fun y hy => ?_, fun y m hy => ?_, ?_⟩
  · rw [lkF_snoc] at hy
    rw [valV_put]
    by_cases c : y = z
    · rw [if_pos c] at hy
      cases hy
    · rw [if_neg c] at hy
      rw [if_neg (fun q => c (SX.S_inj (Sum.inr.inj q)))]
      exact h.no y hy
  · rw [lkF_snoc] at hy
    rw [valV_put]
    by_cases c : y = z
    · rw [if_pos c] at hy
      have := Option.some.inj hy
      subst this
      rw [if_pos (by rw [c])]
      exact ⟨a, rfl, e⟩
    · rw [if_neg c] at hy
      rw [if_neg (fun q => c (SX.S_inj (Sum.inr.inj q)))]
      exact h.yes y m hy
  · obtain ⟨zs, h1, h2, h3, h4⟩ := h.ks
    cases hv : valV kvs (Sum.inr (SX.S z)) with
    | none =>
      rw [putK_new _ hv]
      refine ⟨zs ++ [z], by rw [List.map_append, h1, List.map_append, List.map_append]; rfl, by rw [List.length_append, List.length_append]; show _ + 1 ≤ _ + 1; omega, fun _ => by simp, fun y hy => ?_⟩
      rw [lkF_snoc]
      by_cases c : y = z
      · rw [if_pos c]
        rfl
      · rw [if_neg c]
        rcases List.mem_append.mp hy with q | q
        · exact h4 y q
        · exact absurd (List.mem_singleton.mp q) c
    | some v =>
      refine ⟨zs, ?_, by rw [List.length_append]; omega, fun _ q => ?_, fun y hy => ?_⟩
      · have ha : (kvs.any fun kv => decide (kv.1 = (Sum.inr (SX.S z) : Key))) = true := by
          rw [valV_any, hv]
          rfl
        unfold putK
        rw [if_pos ha, List.map_map, ← h1]
        refine List.map_congr_left fun kv _ => ?_
        show (if kv.1 = Sum.inr (SX.S z) then (kv.1, V.ref a) else kv).1 = kv.1
        split <;> rfl
      · rw [q] at h1
        rw [List.map_eq_nil_iff.mp h1] at hv
        cases hv
      · rw [lkF_snoc]
        by_cases c : y = z
        · rw [if_pos c]
          rfl
        · rw [if_neg c]
          exact h4 y hy
section
variable {P : Program} {w : World} {K : PySem.W.Frag} {mg : Str → Option Value} {base : Heap} {k : Nat}
def sp_lines_by_placeF : Sp := fun vs H Q _ => ∃ (b c : Addr) (sa ja : List Addr) (sts : List (Nm × Nm)) (jns : List (Nm × List Nm)), vs = [.ref b, .ref c] ∧ TPl H b (sa.map V.ref) ∧ Paired (StF H) sa sts ∧ TPl H c (ja.map V.ref) ∧ Paired (JnF H) ja jns ∧ sts.length ≤ 100 ∧ jns.length ≤ 100 ∧
  ∀ H' d kvs, Same H H' → H d = none → H' d = some (.dK kvs) → DVF H' kvs (ent sts jns) → Q (.ref d) H'
theorem DVF.len {H : Hp} {kvs : List (Key × V)} {es : List (Nm × List Nm)} (h : DVF H kvs es) : kvs.length ≤ es.length := by
  obtain ⟨zs, h1, h2, _⟩ := h.ks
  have := congrArg List.length h1
  rw [List.length_map, List.length_map, List.length_map] at this
  omega
set_option maxHeartbeats 8000000 in
theorem ok_lines_by_placeF (T : Defs K mg) : FnOk P w K mg base CX0 (k + 1) T.a_lines_by_place T.d_lines_by_place ["stations", "junctions"] sp_lines_by_placeF := by
  refine T.F_lines_by_place.ok sc_lines_by_place (fun vs H Q E h => ?_) (fun cdv A outer s H vs Q E hr h => ?_)
  · obtain ⟨b, c, sa, ja, sts, jns, rfl, _⟩ := h
    rfl
  · obtain ⟨b, c, sa, ja, sts, jns, rfl, eb, hS, ec, hJ, l1, l2, q⟩ := h
    refine ⟨_, PSs.nox
(pss_cons (Ds.ps_setDc (i := 2) (own := [("name", 3), ("line", 5)]) (g := gTup K 2 (gCons (gName 3) (gCons (gName 5) gNil))) rfl sc_lines_by_place.nd rfl rfl (Ds.sw_trueD rfl rfl rfl (by decide +kernel)) (pi_tup (pv 0)) (blkOk_by (N := N_lines_by_place) (sc := defScope s_lines_by_place) (by decide +kernel)) (fun _ _ _ _ _ => (pg_tup rfl (pgs_cons (pg_name (i := 3) sc_lines_by_place.nd rfl (.inl rfl)) (pgs_cons (pg_name (i := 5) sc_lines_by_place.nd rfl (.inl rfl)) pgs_nil)))) (fun _ _ _ _ _ => pts_nil) (fun _ _ _ _ _ => (pv 3)) (fun _ _ _ _ _ => (pe_tup (pa_cons (pv 5) pa_nil))))
    (pss_cons (ps_for PassesOwn.never rfl (pi_tup (pv 1)) (pg_tup rfl (pgs_cons (pg_name (i := 3) sc_lines_by_place.nd rfl (.inl rfl)) (pgs_cons (pg_name (i := 4) sc_lines_by_place.nd rfl (.inl rfl)) pgs_nil)))
      (pss_one (ps_dput (hu_of hr) (pv 2) (pv 3) (pv 4) (by rfl))))
    (pss_one (ps_ret (pv 2)))))
      , ?_⟩
    have sl := paired_len hS
    have jl := paired_len hJ
    refine ⟨.ref b, rfl, b, rfl, ⟨_, eb.sq⟩, fun D nD => ?_⟩
    have nDt : ∀ {H' : Hp} {o : HO} {kvs : List (Key × V)}, H' D = some (.dK kvs) → TKF H' (upd H' D o) := fun e => .upd fun xs z => by rw [e] at z; cases z
    refine dc_tup (xs := sa.map V.ref) (fun i H3 => Same H H3 ∧ ∃ kvs, H3 D = some (.dK kvs) ∧ DVF H3 kvs ((sts.take i).map fun s => (s.1, [s.2]))) ⟨same_upd nD, [], upd_same, DVF.nil⟩ (fun i H3 _ pv => (eb.same pv.1).sq) (fun i x H3 ex pv => ?_) (fun H3 pv => ?_)
    · obtain ⟨s3, kvs, eD, dv⟩ := pv
      obtain ⟨u, eu, rfl⟩ : ∃ u, sa[i]? = some u ∧ x = .ref u := by
        rw [List.getElem?_map] at ex
        cases h : sa[i]? with
        | none => rw [h] at ex; cases ex
        | some t => rw [h] at ex; exact ⟨t, rfl, (Option.some.inj ex).symm⟩
      obtain ⟨st, est, hu⟩ := paired_get hS eu
      refine ⟨u, _, rfl, (hu.same s3).sq, rfl, _, _, rfl, _, [], rfl, rfl, rfl, yes_ ?_⟩
      refine ⟨nS st.1, rfl, nS st.2, rfl, one_sz, fun u1 n1 => ?_⟩
      have eD1 := same_upd (o := .tup [nS st.2]) n1 _ _ eD
      have ilt : i < sts.length := (List.getElem?_eq_some_iff.mp est).1
      refine ⟨kvs, Sum.inr (SX.S st.1), rfl, eD1, ?_, same_set (s3.trans (same_upd n1)) nD, _, upd_same, ?_⟩
      · refine small5000 (Nat.le_trans dv.len ?_)
        rw [List.length_map, List.length_take]
        omega
      · rw [List.take_add_one, est, List.map_append]
        exact ((dv.tk (.of (same_upd n1))).put (l := [st.2]) (.inl upd_same)).tk (nDt eD1)
    obtain ⟨s3, kvs, eD, dv⟩ := pv
    rw [List.length_map, sl, List.take_length] at dv
    refine ⟨.ref c, rfl, c, rfl, ⟨_, (ec.same s3).sq⟩, ?_⟩
    refine for_it (walk_tup (xs := ja.map V.ref)) (fun i σ H4 => ∃ (y3 y4 y5 : Option V), σ = [some (.ref b), some (.ref c), some (.ref D), y3, y4, y5] ∧ Same H H4 ∧ ∃ kvs, H4 D = some (.dK kvs) ∧ DVF H4 kvs ((sts.map fun s => (s.1, [s.2])) ++ jns.take i))
      ⟨_, _, _, rfl, s3, kvs, eD, by rw [List.take_zero, List.append_nil]; exact dv⟩ (fun i σ H4 _ hp => ?_) (fun i v σ H4₀ H4 hi hp yy => ?_) (fun σ H4 hp => ?_)
    · obtain ⟨_, _, _, _, s4, _⟩ := hp
      exact (ec.same s4).sq
    · obtain ⟨rfl, ex⟩ := yy
      obtain ⟨y3, y4, y5, rfl, s4, kvs, eD, dv⟩ := hp
      obtain ⟨u, eu, rfl⟩ : ∃ u, ja[i]? = some u ∧ v = .ref u := by
        rw [List.getElem?_map] at ex
        cases h : ja[i]? with
        | none => rw [h] at ex; cases ex
        | some t => rw [h] at ex; exact ⟨t, rfl, (Option.some.inj ex).symm⟩
      obtain ⟨jn, ejn, jt, hu, hjt⟩ := paired_get hJ eu
      have ilt : i < jns.length := (List.getElem?_eq_some_iff.mp ejn).1
      refine ⟨u, _, rfl, (hu.same s4).sq, rfl, _, _, rfl, _, [], rfl, rfl, ?_⟩
      refine ⟨.ref jt, rfl, .ref D, rfl, nS jn.1, rfl, D, _, rfl, DPut.k (k := Sum.inr (SX.S jn.1)) eD ?_, ?_⟩
      · refine small5000 (Nat.le_trans dv.len ?_)
        rw [List.length_append, List.length_map, List.length_take]
        omega
      · refine ⟨_, _, _, rfl, same_set s4 nD, _, upd_same, ?_⟩
        rw [List.take_add_one, ejn, ← List.append_assoc]
        exact (dv.put (hjt.same s4)).tk (nDt eD)
    · obtain ⟨y3, y4, y5, rfl, s4, kvs, eD, dv⟩ := hp
      rw [List.length_map, jl, List.take_length] at dv
      exact ⟨.ref D, rfl, q _ D kvs s4 nD eD dv⟩
end
end Th
namespace Th
open PySem PySem.Spec PyProof.Rows L2
def nmOf (z : Str) : Nm := z.cps.toList
theorem nmOf_S (z : Str) : SX.S (nmOf z) = z := by
  obtain ⟨a⟩ := z
  exact congrArg Str.mk (Array.toArray_toList)
def linesOf (es : List (Nm × List Nm)) (z : Str) : List Str := ((lkF es (nmOf z)).getD []).map SX.S
def tieB (es : List (Nm × List Nm)) (d : PyData) : Bool := match d with
  | .tuple [.str a, .str b, l, c] => nameS a && nameS b && !decide (a = b) && strIn (linesOf es a) l && strIn (linesOf es b) l && betD c 1 9999
  | _ => false
theorem four_of {α : Type} {l : List α} (h : l.length = 4) : ∃ a b c d, l = [a, b, c, d] := by
  match l, h with
  | [a, b, c, d], _ => exact ⟨a, b, c, d, rfl⟩
theorem tie_tup {es : List (Nm × List Nm)} {d : PyData} (h : tupD d 4 4 = false) : tieB es d = false := by
  unfold tieB
  split
  · cases h
  · rfl
section
variable {P : Program} {w : World} {K : PySem.W.Frag} {mg : Str → Option Value} {base : Heap} {k : Nat}
def sp_is_tie : Sp := fun vs H Q _ => ∃ (D : Addr) (kvs : List (Key × V)) (es : List (Nm × List Nm)) (v : V) (d : PyData), vs = [.ref D, v] ∧ H D = some (.dK kvs) ∧ DVF H kvs es ∧ (∀ z l, lkF es z = some l → ∀ y ∈ l, IsNm y) ∧ Df H v d ∧ Tb d ∧ SeqAt.shaped d = true ∧ ∀ H', Same H H' → Q (.bl (tieB es d)) H'
set_option maxHeartbeats 8000000 in
theorem ok_is_tie (T : Defs K mg) : FnOk P w K mg base CX0 (k + 3) T.a_is_tie T.d_is_tie ["places", "thing"] sp_is_tie := by
  have G_is_tuple : FnOk P w K mg base CX0 (k + 2) _ _ _ _ := ok_is_tupleF (k := k + 1) T
  have G_is_name : FnOk P w K mg base CX0 (k + 2) _ _ _ _ := ok_is_nameF (k := k + 1) T
  have G_is_whole_between : FnOk P w K mg base CX0 (k + 2) _ _ _ _ := ok_is_whole_betweenF (k := k) T
  refine T.F_is_tie.ok sc_is_tie (fun vs H Q E h => ?_) (fun cdv A outer s H vs Q E hr h => ?_)
  · obtain ⟨D, kvs, es, v, d, rfl, _⟩ := h
    rfl
  · obtain ⟨D, kvs, es, v, d, rfl, eD, dv, lks, hv, tb, sh, q⟩ := h
    refine ⟨_, PSs.nox
(pss_cons (ps_if (pt_not (pt_val (pe_call G_is_tuple hr (by rfl) T.g_is_tuple T.F_is_tuple.kp T.b_is_tuple .nil pass0 (pa_cons (pv 1) (pa_cons (pe_int) (pa_cons (pe_int) pa_nil))))))
      (pss_one (ps_ret (pe_bl)))
      pss_nil)
    (pss_cons (ps_asg (pv 1) (pg_tup rfl (pgs_cons (pg_name (i := 2) sc_is_tie.nd rfl (.inl rfl)) (pgs_cons (pg_name (i := 3) sc_is_tie.nd rfl (.inl rfl)) (pgs_cons (pg_name (i := 4) sc_is_tie.nd rfl (.inl rfl)) (pgs_cons (pg_name (i := 5) sc_is_tie.nd rfl (.inl rfl)) pgs_nil))))))
    (pss_cons (ps_if (PW.pt (pw_or (pt_not (pt_val (pe_call G_is_name hr (by rfl) T.g_is_name T.F_is_name.kp T.b_is_name .nil pass0 (pa_cons (pv 2) pa_nil)))) (pw_or (pt_not (pt_val (pe_call G_is_name hr (by rfl) T.g_is_name T.F_is_name.kp T.b_is_name .nil pass0 (pa_cons (pv 3) pa_nil)))) (pw_or1 (pt_cmpR op_eq (pv 2) (pv 3) (nomark _))))))
      (pss_one (ps_ret (pe_bl)))
      pss_nil)
    (pss_cons (ps_if (PW.pt (pw_or (pt_cmpR (InT.op_notInT (un65 hr)) (pv 4) (pe_dget2 (hu_of hr) (pv 0) (pv 2) (pe_tup pa_nil) ⟨rfl, rfl, rfl, rfl⟩) (by rfl)) (pw_or1 (pt_cmpR (InT.op_notInT (un65 hr)) (pv 4) (pe_dget2 (hu_of hr) (pv 0) (pv 3) (pe_tup pa_nil) ⟨rfl, rfl, rfl, rfl⟩) (by rfl)))))
      (pss_one (ps_ret (pe_bl)))
      pss_nil)
    (pss_one (ps_ret (pe_call G_is_whole_between hr (by rfl) T.g_is_whole_between T.F_is_whole_between.kp T.b_is_whole_between .nil pass0 (pa_cons (pv 5) (pa_cons (pe_int) (pa_cons (pe_glob (v := .int 9999) (by rfl) T.c_MOST_CHAINS ⟨_, rfl⟩) pa_nil))))))))))
      , ?_⟩
    refine ⟨v, rfl, v, d, 4, 4, rfl, hv, ?_⟩
    have q0 : tieB es d = false → ∀ H', Same H H' → Q (.bl false) H' := fun e H' s => by rw [← e]; exact q H' s
    cases c : tupD d 4 4 with
    | false => exact ⟨_, rfl, iteT (q0 (tie_tup c) _ fun _ _ z => z)⟩
    | true =>
      refine ⟨_, rfl, iteF ?_⟩
      obtain ⟨ds, rfl, c1, c2⟩ := tupD_len c
      obtain ⟨a, b, l, n, rfl⟩ := four_of (l := ds) (by omega)
      obtain ⟨t, xs, rfl, et, hxs, xl⟩ := tup_inv hv
      obtain ⟨x1, x2, x3, x4, rfl, h1, h2, h3, h4⟩ : ∃ x1 x2 x3 x4, xs = [x1, x2, x3, x4] ∧ Df H x1 a ∧ Df H x2 b ∧ Df H x3 l ∧ Df H x4 n := by
        cases hxs with
        | cons h1 r =>
          cases r with
          | cons h2 r =>
            cases r with
            | cons h3 r =>
              cases r with
              | cons h4 r => cases r; exact ⟨_, _, _, _, rfl, h1, h2, h3, h4⟩
      refine ⟨.ref t, rfl, t, _, rfl, .inl et, rfl, _, _, rfl, _, _, rfl, _, _, rfl, _, [], rfl, rfl, ?_⟩
      have ta := tb.mem a (by simp)
      have tb2 := tb.mem b (by simp)
      have shl := shm sh l (by simp)
      refine ⟨x1, rfl, x1, a, rfl, h1, ta.len, fun H1 s1 => ⟨_, rfl, ?_⟩⟩
      cases ca : nameD a with
      | false =>
        refine iteT (q0 ?_ _ s1)
        cases a with
        | str z => unfold tieB; cases b <;> first | rfl | (show (nameS z && _ && _ && _ && _ && _) = false; rw [show nameS z = false from ca]; rfl)
        | _ => rfl
      | true =>
        refine iteF ⟨x2, rfl, x2, b, rfl, h2.same s1, tb2.len, fun H2 s2 => ⟨_, rfl, ?_⟩⟩
        obtain ⟨za, rfl⟩ : ∃ z, a = .str z := by
          cases a with
          | str z => exact ⟨z, rfl⟩
          | _ => cases (show false = true from ca)
        cases h1
        have ca : nameS za = true := ca
        have s02 := s1.trans s2
        cases cb : nameD b with
        | false =>
          refine iteT (q0 ?_ _ s02)
          cases b with
          | str z => show (_ && nameS z && _ && _ && _ && _) = false; rw [show nameS z = false from cb, Bool.and_false]; rfl
          | _ => rfl
        | true =>
          obtain ⟨zb, rfl⟩ : ∃ z, b = .str z := by
            cases b with
            | str z => exact ⟨z, rfl⟩
            | _ => cases (show false = true from cb)
          cases h2
          have cb : nameS zb = true := cb
          have e0 : tieB es (.tuple [.str za, .str zb, l, n]) = (!decide (za = zb) && strIn (linesOf es za) l && strIn (linesOf es zb) l && betD n 1 9999) := by
            show (nameS za && nameS zb && _ && _ && _ && _) = _
            rw [ca, cb]
            rfl
          refine iteF ⟨.str za, rfl, .str zb, rfl, rfl, _, rfl, ite2 (fun cc => ?_) fun cc => ?_⟩
          · have cc := of_decide_eq_true cc
            injection cc with cc
            exact q0 (by rw [e0, decide_eq_true cc]; rfl) _ s02
          · have cc : ¬ za = zb := fun z => cc (decide_eq_true (by rw [z]))
            rw [decide_eq_false cc, Bool.not_false, Bool.true_and] at e0
            have got : ∀ {Hx : Hp} (z : Str) (p : Addr), Same H Hx → Hx p = some (.tup []) → Dp K Hx ((valV kvs (Sum.inr z)).getD (.ref p)) (.tuple ((linesOf es z).map PyData.str)) ∧ SeqAt.shaped (.tuple ((linesOf es z).map PyData.str)) = true := fun {Hx} z p sx ep => by
              have ez := nmOf_S z
              unfold linesOf
              cases c : lkF es (nmOf z) with
              | none =>
                have := dv.no _ c
                rw [ez] at this
                rw [this]
                exact ⟨.tup (SqT.of ep) .nil, by decide +kernel⟩
              | some l =>
                obtain ⟨u, e1, e2⟩ := dv.yes _ l c
                rw [ez] at e1
                rw [e1]
                refine ⟨.tup (K := K) (xs := (l.map SX.S).map V.str) ?_ (dpAll_strs _), strs_tup fun y hy => ?_⟩
                · rw [List.map_map]
                  exact (e2.same sx).sq
                · obtain ⟨nm, hn, rfl⟩ := List.mem_map.mp hy
                  exact nm_ok (lks _ l c nm hn)
            refine ⟨x3, rfl, .ref D, rfl, D, rfl, .inl ⟨_, .inl (s02 _ _ eD)⟩, .str za, rfl, Nat.zero_le _, fun p1 n1 => ?_⟩
            have sp1 := same_upd (o := .tup []) n1
            have s03 := s02.trans sp1
            obtain ⟨d1, g1⟩ := got za p1 s03 upd_same
            refine ⟨_, DGet.k (k := Sum.inr za) (s03 _ _ eD), l, _, (h3.same s03).dp, d1, shl, g1, _, rfl, ite2 (fun c1 => ?_) fun c1 => ?_⟩
            · have c1 : (!strIn (linesOf es za) l) = true := c1
              refine q0 ?_ _ s03
              rw [e0, show strIn (linesOf es za) l = false by simpa using c1]
              rfl
            · have c1 : ¬ (!strIn (linesOf es za) l) = true := c1
              rw [show strIn (linesOf es za) l = true by simpa using c1, Bool.true_and] at e0
              refine ⟨x3, rfl, .ref D, rfl, D, rfl, .inl ⟨_, .inl (s03 _ _ eD)⟩, .str zb, rfl, Nat.zero_le _, fun p2 n2 => ?_⟩
              have sp2 := same_upd (o := .tup []) n2
              have s04 := s03.trans sp2
              obtain ⟨d2, g2⟩ := got zb p2 s04 upd_same
              refine ⟨_, DGet.k (k := Sum.inr zb) (s04 _ _ eD), l, _, (h3.same s04).dp, d2, shl, g2, _, rfl, ite2 (fun c2 => ?_) fun c2 => ?_⟩
              · have c2 : (!strIn (linesOf es zb) l) = true := c2
                refine q0 ?_ _ s04
                rw [e0, show strIn (linesOf es zb) l = false by simpa using c2]
                rfl
              · have c2 : ¬ (!strIn (linesOf es zb) l) = true := c2
                rw [show strIn (linesOf es zb) l = true by simpa using c2, Bool.true_and] at e0
                have := q _ s04
                rw [e0] at this
                exact ⟨x4, rfl, x4, n, 1, 9999, rfl, h4.same s04, this⟩
end
end Th
namespace Th
open PySem PySem.Spec PyProof.Rows L2
def srt2 (a b : Str) : List Str := if b.cps.toList < a.cps.toList then [b, a] else [a, b]
theorem perm2 {ys : List Str} {a b : Str} (h : ys.Perm [a, b]) : ys = [a, b] ∨ ys = [b, a] := by
  obtain ⟨x, y, rfl⟩ := two_of (l := ys) h.length_eq
  have hx : x ∈ [a, b] := h.mem_iff.mp List.mem_cons_self
  rcases List.mem_cons.mp hx with e | e
  · subst e
    have := (List.perm_cons x).mp h
    exact .inl (by rw [List.perm_singleton.mp this])
  · have e := List.mem_singleton.mp e
    subst e
    have := (List.perm_cons x).mp (h.trans (List.Perm.swap x a []))
    exact .inr (by rw [List.perm_singleton.mp this])
theorem cps_ext {a b : Str} (h : a.cps.toList = b.cps.toList) : a = b := by
  obtain ⟨a⟩ := a
  obtain ⟨b⟩ := b
  exact congrArg Str.mk (Array.toList_inj.mp h)
theorem lt_conn {a b : List Nat} (h1 : ¬ a < b) (h2 : ¬ b < a) : a = b := List.le_antisymm (as := a) (bs := b) (List.not_lt.mp h2) (List.not_lt.mp h1)
theorem srt2_of {ys : List Str} {a b : Str} (h : ys.Perm [a, b]) (s : sortedS ys = true) : ys = srt2 a b := by
  have two : ∀ x y : Str, sortedS [x, y] = true → ¬ y.cps.toList < x.cps.toList := fun x y e => by
    have e : (!ltCps y.cps.toList x.cps.toList && true) = true := e
    rw [ltCps_eq, Bool.and_true] at e
    simpa using e
  unfold srt2
  rcases perm2 h with rfl | rfl
  · rw [if_neg (two _ _ s)]
  · split
    · rfl
    · rename_i n
      have e := cps_ext (lt_conn (two _ _ s) n)
      rw [e]
def rTupOf (K : PySem.W.Frag) : List V → Hp → VK → Prop := fun xs H Q => ∃ p ys, xs = [.ref p] ∧ ((SqL K H p ys ∧ ∀ l, H l = none → Q (.ref l) (upd H l (.tup ys))) ∨ (SqT K H p ys ∧ Q (.ref p) H))
def pairD : PyData → List Str
  | .tuple (.str a :: .str b :: _) => srt2 a b
  | _ => []
def tiesB (es : List (Nm × List Nm)) (d : PyData) : Bool := tupD d 0 40 && (match d with
  | .tuple ds => ds.all (tieB es) && decide (ds.map pairD).Nodup
  | _ => false)
theorem tie_inv {es : List (Nm × List Nm)} {d : PyData} (h : tieB es d = true) : ∃ a b l n, d = .tuple [.str a, .str b, l, n] := by
  unfold tieB at h
  split at h
  · exact ⟨_, _, _, _, rfl⟩
  · cases h
section
variable {P : Program} {w : World} {K : PySem.W.Frag} {mg : Str → Option Value} {base : Heap} {k : Nat}
def sp_are_ties : Sp := fun vs H Q _ => ∃ (D : Addr) (kvs : List (Key × V)) (es : List (Nm × List Nm)) (v : V) (d : PyData), vs = [.ref D, v] ∧ H D = some (.dK kvs) ∧ DVF H kvs es ∧ (∀ z l, lkF es z = some l → ∀ y ∈ l, IsNm y) ∧ Df H v d ∧ Tb d ∧ SeqAt.shaped d = true ∧ ∀ H', Same H H' → Q (.bl (tiesB es d)) H'
set_option maxHeartbeats 8000000 in
theorem ok_are_ties (T : Defs K mg) : FnOk P w K mg base CX0 (k + 4) T.a_are_ties T.d_are_ties ["places", "thing"] sp_are_ties := by
  have G_is_tuple : FnOk P w K mg base CX0 (k + 3) _ _ _ _ := ok_is_tupleF (k := k + 2) T
  have G_is_tie : FnOk P w K mg base CX0 (k + 3) _ _ _ _ := ok_is_tie (k := k) T
  have G_all_unlike : FnOk P w K mg base CX0 (k + 3) _ _ _ _ := ok_all_unlike (k := k + 2) T
  refine T.F_are_ties.ok sc_are_ties (fun vs H Q E h => ?_) (fun cdv A outer s H vs Q E hr h => ?_)
  · obtain ⟨D, kvs, es, v, d, rfl, _⟩ := h
    rfl
  · obtain ⟨D, kvs, es, v, d, rfl, eD, dv, lks, hv, tb, sh, q⟩ := h
    refine ⟨_, PSs.nox
(pss_cons (ps_if (pt_not (pt_val (pe_call G_is_tuple hr (by rfl) T.g_is_tuple T.F_is_tuple.kp T.b_is_tuple .nil pass0 (pa_cons (pv 1) (pa_cons (pe_int) (pa_cons (pe_glob (v := .int 40) (by rfl) T.c_MOST_TIES ⟨_, rfl⟩) pa_nil))))))
      (pss_one (ps_ret (pe_bl)))
      pss_nil)
    (pss_cons (ps_if (pt_not (pt_val (pe_callB (r := rAll K) (cr_all rfl) (by rfl) T.z_all (by decide +kernel) (pa_cons (pe_lc (own := [("tie", 2)]) (g := gName 2) rfl sc_are_ties.nd (pi_tup (pv 1)) (blkOk_by (N := N_are_ties) (sc := defScope s_are_ties) (by decide +kernel)) (fun _ _ _ _ _ => (pg_name (i := 2) sc_are_ties.nd rfl (.inl rfl))) (fun _ _ _ _ _ => pts_nil) (fun _ _ _ _ _ => (pe_call G_is_tie hr (by rfl) T.g_is_tie T.F_is_tie.kp T.b_is_tie .nil pass0 (pa_cons (pv 0) (pa_cons (pv 2) pa_nil))))) pa_nil))))
      (pss_one (ps_ret (pe_bl)))
      pss_nil)
    (pss_one (ps_ret (pe_call G_all_unlike hr (by rfl) T.g_all_unlike T.F_all_unlike.kp T.b_all_unlike .nil pass0 (pa_cons (pe_lc (own := [("tie", 2)]) (g := gName 2) rfl sc_are_ties.nd (pi_tup (pv 1)) (blkOk_by (N := N_are_ties) (sc := defScope s_are_ties) (by decide +kernel)) (fun _ _ _ _ _ => (pg_name (i := 2) sc_are_ties.nd rfl (.inl rfl))) (fun _ _ _ _ _ => pts_nil) (fun _ _ _ _ _ => (pe_callTy (r := rTupOf K) call_tuple_of (by rfl) T.z_tuple (by decide +kernel) (pa_cons (pe_callB (r := Stp.rSortTp K) Stp.cr_sortTp (by rfl) T.z_sorted (by decide +kernel) (pa_cons (pe_slice (r := rSlT K) sl_tup (pv 2) po_none (po_some (pe_int))) pa_nil)) pa_nil)))) pa_nil))))))
      , ?_⟩
    refine ⟨v, rfl, v, d, 0, 40, rfl, hv, ?_⟩
    have q0 : tiesB es d = false → ∀ H', Same H H' → Q (.bl false) H' := fun e H' s => by rw [← e]; exact q H' s
    cases c : tupD d 0 40 with
    | false => exact ⟨_, rfl, iteT (q0 (by unfold tiesB; rw [c]; rfl) _ fun _ _ z => z)⟩
    | true =>
      refine ⟨_, rfl, iteF ?_⟩
      obtain ⟨ds, rfl, c1, c2⟩ := tupD_len c
      obtain ⟨t, xs, rfl, et, hxs, xl⟩ := tup_inv hv
      have e0 : tiesB es (.tuple ds) = (ds.all (tieB es) && decide (ds.map pairD).Nodup) := by unfold tiesB; rw [c, Bool.true_and]
      have nDt : ∀ {H' : Hp}, Same H H' → DVF H' kvs es := fun s => dv.tk (.of s)
      refine ⟨.ref t, rfl, t, rfl, ⟨_, et.sq⟩, fun C nC => ?_⟩
      refine lc_it (walk_tup (xs := xs)) (fun i Hx => Same H Hx ∧ Hx C = some (.lst (((ds.take i).map (tieB es)).map V.bl))) ⟨same_upd nC, upd_same⟩ (fun i Hx _ pv => (et.same pv.1).sq) (fun i x Hx₀ Hx hi pv yy => ?_) (fun Hx pv => ?_)
      · obtain ⟨rfl, ex⟩ := yy
        obtain ⟨sx, eC⟩ := pv
        obtain ⟨y, ey, hy⟩ := hxs.get ex
        have my := List.mem_of_getElem? ey
        have tk1 : ds.take (i + 1) = ds.take i ++ [y] := by rw [List.take_add_one, ey]; rfl
        refine ⟨rfl, yes_ ⟨.ref D, rfl, x, rfl, D, kvs, es, x, y, rfl, sx _ _ eD, nDt sx, lks, hy.same sx, tb.mem y my, shm sh y my, fun H3 s3 => ⟨_, s3 _ _ eC, small5000 (by rw [List.length_map, List.length_map, List.length_take]; omega), same_set (sx.trans s3) nC, ?_⟩⟩⟩
        rw [upd_same, tk1, List.map_append, List.map_append]
        rfl
      · obtain ⟨sx, eC⟩ := pv
        rw [xl, List.take_length] at eC
        refine ⟨C, _, rfl, SqL.of eC, ?_⟩
        have ea : ((ds.map (tieB es)).all id) = ds.all (tieB es) := by rw [List.all_map]; rfl
        rw [ea]
        cases ca : ds.all (tieB es) with
        | false => exact ⟨_, rfl, iteT (q0 (by rw [e0, ca, Bool.false_and]) _ sx)⟩
        | true =>
          rw [ca, Bool.true_and] at e0
          refine ⟨_, rfl, iteF ?_⟩
          refine ⟨.ref t, rfl, t, rfl, ⟨_, (et.same sx).sq⟩, fun C2 nC2 => ?_⟩
          have n0 : H C2 = none := up0 sx nC2
          refine lc_it (walk_tup (xs := xs)) (fun i Hy => Same H Hy ∧ ∃ ps : List (Addr × List Str), Hy C2 = some (.lst (ps.map fun p => V.ref p.1)) ∧ (∀ p ∈ ps, p.1 ≠ C2 ∧ Hy p.1 = some (.tup (p.2.map V.str))) ∧ ps.map (·.2) = (ds.take i).map pairD) ⟨sx.trans (same_upd nC2), [], upd_same, fun p hp => (by cases hp), rfl⟩ (fun i Hy _ pv => (et.same pv.1).sq) (fun i x Hy₀ Hy hi pv yy => ?_) (fun Hy pv => ?_)
          · obtain ⟨rfl, ex⟩ := yy
            obtain ⟨sy, ps, eC2, hps, eps⟩ := pv
            obtain ⟨y, ey, hy⟩ := hxs.get ex
            have tk1 : ds.take (i + 1) = ds.take i ++ [y] := by rw [List.take_add_one, ey]; rfl
            obtain ⟨za, zb, l, n, rfl⟩ := tie_inv (List.all_eq_true.mp ca y (List.mem_of_getElem? ey))
            obtain ⟨u, us, rfl, eu, hus, ul⟩ := tup_inv hy
            obtain ⟨x3, x4, rfl⟩ : ∃ x3 x4, us = [.str za, .str zb, x3, x4] := by
              cases hus with
              | cons a r =>
                cases a
                cases r with
                | cons a r =>
                  cases a
                  cases r with
                  | cons a r =>
                    cases r with
                    | cons b r => cases r; exact ⟨_, _, rfl⟩
            have pl : ps.length ≤ 40 := by
              have := congrArg List.length eps
              rw [List.length_map, List.length_map, List.length_take] at this
              omega
            refine ⟨rfl, yes_ ?_⟩
            refine ⟨.ref u, rfl, 2, rfl, u, _, rfl, (eu.same sy).sq, fun z => absurd (show (2 : Nat) = 4 from z.2) (by decide), fun r nr => ?_⟩
            rw [show cutV [V.str za, .str zb, x3, x4] none (some (2 : Int)) = [V.str za, .str zb] from rfl]
            have s1 := same_upd (o := .tup [V.str za, .str zb]) nr
            refine ⟨r, [za, zb], rfl, SqT.of upd_same, (by show 2 < 64; decide), fun ys p perm srt np => ?_⟩
            have s2 := same_upd (o := .lst (ys.map V.str)) np
            refine ⟨p, _, rfl, .inl ⟨SqL.of upd_same, fun r2 nr2 => ?_⟩⟩
            have s3 := same_upd (o := .tup (ys.map V.str)) nr2
            have s13 := (s1.trans s2).trans s3
            have n2 : r2 ≠ C2 := fun z => by
              rw [z, s2 _ _ (s1 _ _ eC2)] at nr2
              cases nr2
            refine ⟨_, s13 _ _ eC2, small5000 (by rw [List.length_map]; omega), same_set (sy.trans s13) n0, ps ++ [(r2, ys)], ?_, fun p' hp => ?_, ?_⟩
            · rw [upd_same, List.map_append]
              rfl
            · rcases List.mem_append.mp hp with h | h
              · obtain ⟨h1, h2⟩ := hps p' h
                exact ⟨h1, (upd_ne h1).trans (s13 _ _ h2)⟩
              · rw [List.mem_singleton.mp h]
                exact ⟨n2, (upd_ne n2).trans upd_same⟩
            · rw [List.map_append, eps, tk1, List.map_append]
              show _ ++ [ys] = _ ++ [srt2 za zb]
              rw [srt2_of perm srt]
          · obtain ⟨sy, ps, eC2, hps, eps⟩ := pv
            rw [xl, List.take_length] at eps
            have pl : ps.length ≤ 40 := by
              have := congrArg List.length eps
              rw [List.length_map, List.length_map] at this
              omega
            refine ⟨C2, rfl, .inr ⟨ps, SqL.of eC2, fun p hp => SqT.of (hps p hp).2, by omega, fun H' s' => ?_⟩⟩
            have := q H' (sy.trans s')
            rw [e0, ← eps] at this
            exact this
end
end Th
namespace Th
open PySem PySem.Spec PyProof.Rows L2
def linesS : PyData → List Str
  | .tuple ds => namesD ds
  | _ => []
def itemsD : PyData → List PyData
  | .tuple ds => ds
  | _ => []
def firstS : PyData → Str
  | .tuple (.str a :: _) => a
  | _ => ""
def stD : PyData → Nm × Nm
  | .tuple [.str a, .str b] => (nmOf a, nmOf b)
  | _ => ([], [])
def jnD' : PyData → Nm × List Nm
  | .tuple [.str a, .tuple bs] => (nmOf a, (namesD bs).map nmOf)
  | _ => ([], [])
def entD (ss js : PyData) : List (Nm × List Nm) := ent ((itemsD ss).map stD) ((itemsD js).map jnD')
def netB (d : PyData) : Bool := match d with
  | .tuple [ls, ss, js, ts] => linesB ls && stationsB (linesS ls) ss && junctionsB (linesS ls) js && decide ((itemsD ss ++ itemsD js).map firstS).Nodup && tiesB (entD ss js) ts
  | _ => false
theorem net_tup {d : PyData} (h : tupD d 4 4 = false) : netB d = false := by
  unfold netB
  split
  · cases h
  · rfl
theorem nm_is {z : Str} (h : nameS z = true) : IsNm (nmOf z) := by
  unfold nameS at h
  simp only [Bool.and_eq_true, decide_eq_true_eq] at h
  obtain ⟨⟨h1, h2⟩, h3⟩ := h
  have zl : (nmOf z).length = z.length := rfl
  refine ⟨by omega, by omega, fun c hc => ?_⟩
  have a := List.all_eq_true.mp h3 c hc
  simp only [Bool.and_eq_true, Bool.not_eq_true', decide_eq_false_iff_not] at a
  have t1 : ¬ ([c] : List Nat) < [97] := a.1
  have t2 : ¬ ([122] : List Nat) < [c] := a.2
  exact ⟨Decidable.byContradiction fun n => t1 (.rel (by omega)), Decidable.byContradiction fun n => t2 (.rel (by omega))⟩
theorem strIn_str {ss : List Str} {d : PyData} (h : strIn ss d = true) : ∃ s ∈ ss, d = .str s := by
  unfold strIn at h
  obtain ⟨v, hv, e⟩ := List.any_eq_true.mp h
  obtain ⟨s, hs, rfl⟩ := List.mem_map.mp hv
  refine ⟨s, hs, ?_⟩
  cases d with
  | str t =>
    have e : (s == t) = true := by simpa [PyData.eqv] using e
    rw [beq_iff_eq.mp e]
  | _ => simp [PyData.eqv] at e
theorem eqv_strs : ∀ {ds : List PyData} {ss : List Str}, PyData.eqv (.tuple ds) (.tuple (ss.map PyData.str)) = true → ds = ss.map PyData.str
  | [], [], _ => rfl
  | [], _ :: _, h => by cases h
  | _ :: _, [], h => by cases h
  | d :: ds, s :: ss, h => by
    have h : (PyData.eqv d (.str s) && PyData.eqv (.tuple ds) (.tuple (ss.map PyData.str))) = true := h
    obtain ⟨h1, h2⟩ := Bool.and_eq_true_iff.mp h
    rw [eqv_strs h2]
    cases d with
    | str t =>
      have e : (t == s) = true := by simpa [PyData.eqv] using h1
      rw [beq_iff_eq.mp e]
      rfl
    | _ => simp [PyData.eqv] at h1
theorem names_strs (ss : List Str) : namesD (ss.map PyData.str) = ss := by
  induction ss with
  | nil => rfl
  | cons s ss ih =>
    show s :: namesD (ss.map PyData.str) = s :: ss
    rw [ih]
/-- a right station -/
theorem station_inv {ls : List Str} {d : PyData} (h : stationB ls d = true) : ∃ a b, d = .tuple [.str a, .str b] ∧ nameS a = true ∧ b ∈ ls := by
  unfold stationB at h
  split at h
  · rename_i a b
    obtain ⟨h1, h2⟩ := Bool.and_eq_true_iff.mp h
    obtain ⟨s, hs, rfl⟩ := strIn_str h2
    cases a with
    | str z => exact ⟨z, s, rfl, h1, hs⟩
    | _ => cases (show false = true from h1)
  · cases h
theorem junction_inv {ls : List Str} {d : PyData} (h : junctionB ls d = true) : ∃ (a : Str) (bs : List Str), d = .tuple [.str a, .tuple (bs.map PyData.str)] ∧ nameS a = true ∧ ∀ b ∈ bs, b ∈ ls := by
  unfold junctionB at h
  split at h
  · rename_i a b
    obtain ⟨h1, h2⟩ := Bool.and_eq_true_iff.mp h
    unfold joinedB at h2
    obtain ⟨h2, h3⟩ := Bool.and_eq_true_iff.mp h2
    obtain ⟨ds, rfl, _, _⟩ := tupD_len h2
    have e := eqv_strs h3
    cases a with
    | str z => exact ⟨z, ls.filter (inD ds), by rw [← e], h1, fun b hb => (List.mem_filter.mp hb).1⟩
    | _ => cases (show false = true from h1)
  · cases h
theorem rev_ind' {α : Type} {p : List α → Prop} (h0 : p []) (hs : ∀ l a, p l → p (l ++ [a])) : ∀ l, p l := fun l => by
  have key : ∀ r : List α, p r.reverse := fun r => by
    induction r with
    | nil => exact h0
    | cons a r ih => rw [List.reverse_cons]; exact hs _ _ ih
  have := key l.reverse
  rw [List.reverse_reverse] at this
  exact this
theorem lkF_mem : ∀ {es : List (Nm × List Nm)} {z : Nm} {l : List Nm}, lkF es z = some l → ∃ e ∈ es, e.2 = l := fun {es} => by
  refine rev_ind' (p := fun es => ∀ {z : Nm} {l : List Nm}, lkF es z = some l → ∃ e ∈ es, e.2 = l) (fun {z l} h => by cases h) (fun es e ih {z l} h => ?_) es
  rw [lkF_snoc] at h
  split at h
  · exact ⟨e, by simp, Option.some.inj h⟩
  · obtain ⟨x, hx, ex⟩ := ih h
    exact ⟨x, by simp [hx], ex⟩
theorem stF_all {H : Hp} {ls : List Str} : ∀ {xs : List V} {ds : List PyData}, DfAll H xs ds → ds.all (stationB ls) = true → ∃ sa : List Addr, xs = sa.map V.ref ∧ Paired (StF H) sa (ds.map stD)
  | _, _, .nil, _ => ⟨[], rfl, .nil⟩
  | _, _, .cons a r, h => by
    rw [List.all_cons, Bool.and_eq_true] at h
    obtain ⟨sa, rfl, p⟩ := stF_all r h.2
    obtain ⟨x, y, rfl, _, _⟩ := station_inv h.1
    obtain ⟨u, us, rfl, eu, hus, _⟩ := tup_inv a
    refine ⟨u :: sa, rfl, .cons ?_ p⟩
    have e : us = [V.str x, .str y] := dfAll_vs (ss := [x, y]) hus
    show TPl H u [.str (SX.S (nmOf x)), .str (SX.S (nmOf y))]
    rw [nmOf_S, nmOf_S, ← e]
    exact eu
theorem jnF_all {H : Hp} {ls : List Str} : ∀ {xs : List V} {ds : List PyData}, DfAll H xs ds → ds.all (junctionB ls) = true → ∃ sa : List Addr, xs = sa.map V.ref ∧ Paired (JnF H) sa (ds.map jnD')
  | _, _, .nil, _ => ⟨[], rfl, .nil⟩
  | _, _, .cons a r, h => by
    rw [List.all_cons, Bool.and_eq_true] at h
    obtain ⟨sa, rfl, p⟩ := jnF_all r h.2
    obtain ⟨x, bs, rfl, _, _⟩ := junction_inv h.1
    obtain ⟨u, us, rfl, eu, hus, _⟩ := tup_inv a
    refine ⟨u :: sa, rfl, .cons ?_ p⟩
    obtain ⟨q, rfl, hq⟩ : ∃ q, us = [V.str x, q] ∧ Df H q (.tuple (bs.map PyData.str)) := by
      cases hus with
      | cons a r =>
        cases a
        cases r with
        | cons b r => cases r; exact ⟨_, rfl, b⟩
    obtain ⟨b2, ys, rfl, eb, hys, _⟩ := tup_inv hq
    have e := dfAll_vs hys
    refine ⟨b2, ?_, ?_⟩
    · show TPl H u [.str (SX.S (nmOf x)), .ref b2]
      rw [nmOf_S]
      exact eu
    · show TPl H b2 (((namesD (bs.map PyData.str)).map nmOf).map nS)
      rw [names_strs, List.map_map]
      have e2 : bs.map (nS ∘ nmOf) = bs.map V.str := List.map_congr_left fun z _ => by show V.str (SX.S (nmOf z)) = _; rw [nmOf_S]
      rw [e2, ← e]
      exact eb
end Th
namespace Th
open PySem PySem.Spec PyProof.Rows L2
section
variable {P : Program} {w : World} {K : PySem.W.Frag} {mg : Str → Option Value} {base : Heap} {k : Nat}
def sp_is_net : Sp := fun vs H Q _ => ∃ v d, vs = [v] ∧ Df H v d ∧ Tb d ∧ SeqAt.shaped d = true ∧ ∀ H', Same H H' → Q (.bl (netB d)) H'
theorem names_len {ds : List PyData} (h : ds.all nameD = true) : (namesD ds).length = ds.length := by
  have := congrArg List.length (names_all h)
  rw [List.length_map] at this
  exact this.symm
theorem lines_inv {d : PyData} (h : linesB d = true) : ∃ ds, d = .tuple ds ∧ ds.all nameD = true ∧ ds.length ≤ 8 := by
  unfold linesB at h
  obtain ⟨h1, h2⟩ := Bool.and_eq_true_iff.mp h
  obtain ⟨ds, rfl, _, c2⟩ := tupD_len h1
  exact ⟨ds, rfl, (Bool.and_eq_true_iff.mp h2).1, by omega⟩
theorem st_inv {ls : List Str} {d : PyData} (h : stationsB ls d = true) : ∃ ds, d = .tuple ds ∧ ds.all (stationB ls) = true ∧ ds.length ≤ 16 := by
  unfold stationsB at h
  obtain ⟨h1, h2⟩ := Bool.and_eq_true_iff.mp h
  obtain ⟨ds, rfl, _, c2⟩ := tupD_len h1
  exact ⟨ds, rfl, h2, by omega⟩
theorem jn_inv {ls : List Str} {d : PyData} (h : junctionsB ls d = true) : ∃ ds, d = .tuple ds ∧ ds.all (junctionB ls) = true ∧ ds.length ≤ 12 := by
  unfold junctionsB at h
  obtain ⟨h1, h2⟩ := Bool.and_eq_true_iff.mp h
  obtain ⟨ds, rfl, _, c2⟩ := tupD_len h1
  exact ⟨ds, rfl, h2, by omega⟩
theorem strs_oks {ds : List PyData} (h : ∀ x ∈ ds, SeqAt.shaped x = true) : ∀ z ∈ namesD ds, PyData.strOk z = true := fun z hz => by
  unfold namesD at hz
  obtain ⟨d, hd, e⟩ := List.mem_filterMap.mp hz
  cases d with
  | str s =>
    injection e with e
    subst e
    exact (Bool.and_eq_true_iff.mp (h _ hd)).1
  | _ => cases e
theorem name_mem {ds : List PyData} (h : ds.all nameD = true) : ∀ z ∈ namesD ds, nameS z = true := fun z hz => by
  unfold namesD at hz
  obtain ⟨d, hd, e⟩ := List.mem_filterMap.mp hz
  have := List.all_eq_true.mp h d hd
  cases d with
  | str s =>
    injection e with e
    subst e
    exact this
  | _ => cases e
theorem DfAll.app {H : Hp} : ∀ {xs ys : List V} {ds es : List PyData}, DfAll H xs ds → DfAll H ys es → DfAll H (xs ++ ys) (ds ++ es)
  | _, _, _, _, .nil, h => h
  | _, _, _, _, .cons a r, h => .cons a (DfAll.app r h)
theorem first_inv {ls : List Str} {d : PyData} (h : stationB ls d = true ∨ junctionB ls d = true) : ∃ (a : Str) (r : List PyData), d = .tuple (.str a :: r) ∧ firstS d = a := by
  rcases h with h | h
  · obtain ⟨a, b, rfl, _⟩ := station_inv h
    exact ⟨a, _, rfl, rfl⟩
  · obtain ⟨a, bs, rfl, _⟩ := junction_inv h
    exact ⟨a, _, rfl, rfl⟩
set_option maxHeartbeats 16000000 in
theorem ok_is_net (T : Defs K mg) : FnOk P w K mg base CX0 (k + 5) T.a_is_net T.d_is_net ["thing"] sp_is_net := by
  have G_is_tuple : FnOk P w K mg base CX0 (k + 4) _ _ _ _ := ok_is_tupleF (k := k + 3) T
  have G_are_lines : FnOk P w K mg base CX0 (k + 4) _ _ _ _ := ok_are_lines (k := k + 2) T
  have G_are_stations : FnOk P w K mg base CX0 (k + 4) _ _ _ _ := ok_are_stations (k := k + 1) T
  have G_are_junctions : FnOk P w K mg base CX0 (k + 4) _ _ _ _ := ok_are_junctions (k := k) T
  have G_all_unlike : FnOk P w K mg base CX0 (k + 4) _ _ _ _ := ok_all_unlike (k := k + 3) T
  have G_lines_by_place : FnOk P w K mg base CX0 (k + 4) _ _ _ _ := ok_lines_by_placeF (k := k + 3) T
  have G_are_ties : FnOk P w K mg base CX0 (k + 4) _ _ _ _ := ok_are_ties (k := k) T
  refine T.F_is_net.ok sc_is_net (fun vs H Q E h => ?_) (fun cdv A outer s H vs Q E hr h => ?_)
  · obtain ⟨v, d, rfl, _⟩ := h
    rfl
  · obtain ⟨v, d, rfl, hv, tb, sh, q⟩ := h
    refine ⟨_, PSs.nox
(pss_cons (ps_if (pt_not (pt_val (pe_call G_is_tuple hr (by rfl) T.g_is_tuple T.F_is_tuple.kp T.b_is_tuple .nil pass0 (pa_cons (pv 0) (pa_cons (pe_int) (pa_cons (pe_int) pa_nil))))))
      (pss_one (ps_ret (pe_bl)))
      pss_nil)
    (pss_cons (ps_asg (pv 0) (pg_tup rfl (pgs_cons (pg_name (i := 1) sc_is_net.nd rfl (.inl rfl)) (pgs_cons (pg_name (i := 2) sc_is_net.nd rfl (.inl rfl)) (pgs_cons (pg_name (i := 3) sc_is_net.nd rfl (.inl rfl)) (pgs_cons (pg_name (i := 4) sc_is_net.nd rfl (.inl rfl)) pgs_nil))))))
    (pss_one (ps_ret (pe_and (pe_call G_are_lines hr (by rfl) T.g_are_lines T.F_are_lines.kp T.b_are_lines .nil pass0 (pa_cons (pv 1) pa_nil)) (pe_and (pe_call G_are_stations hr (by rfl) T.g_are_stations T.F_are_stations.kp T.b_are_stations .nil pass0 (pa_cons (pv 1) (pa_cons (pv 2) pa_nil))) (pe_and (pe_call G_are_junctions hr (by rfl) T.g_are_junctions T.F_are_junctions.kp T.b_are_junctions .nil pass0 (pa_cons (pv 1) (pa_cons (pv 3) pa_nil))) (pe_and (pe_call G_all_unlike hr (by rfl) T.g_all_unlike T.F_all_unlike.kp T.b_all_unlike .nil pass0 (pa_cons (pe_lc (own := [("place", 5)]) (g := gName 5) rfl sc_is_net.nd (pi_tup (pe_op op_catA (pv 2) (pv 3))) (blkOk_by (N := N_is_net) (sc := defScope s_is_net) (by decide +kernel)) (fun _ _ _ _ _ => (pg_name (i := 5) sc_is_net.nd rfl (.inl rfl))) (fun _ _ _ _ _ => pts_nil) (fun _ _ _ _ _ => (pe_ix (r := rIxT K) ix_tup (pv 5) (pe_int) (fun _ _ => rfl)))) pa_nil)) (pe_one (pe_call G_are_ties hr (by rfl) T.g_are_ties T.F_are_ties.kp T.b_are_ties .nil pass0 (pa_cons (pe_call G_lines_by_place hr (by rfl) T.g_lines_by_place T.F_lines_by_place.kp T.b_lines_by_place .nil pass0 (pa_cons (pv 2) (pa_cons (pv 3) pa_nil))) (pa_cons (pv 4) pa_nil))))))))))))
      , ?_⟩
    refine ⟨v, rfl, v, d, 4, 4, rfl, hv, ?_⟩
    have q0 : netB d = false → ∀ H', Same H H' → Q (.bl false) H' := fun e H' s => by rw [← e]; exact q H' s
    cases c : tupD d 4 4 with
    | false => exact ⟨_, rfl, iteT (q0 (net_tup c) _ fun _ _ z => z)⟩
    | true =>
      refine ⟨_, rfl, iteF ?_⟩
      obtain ⟨ds, rfl, c1, c2⟩ := tupD_len c
      obtain ⟨ls, ss, js, ts, rfl⟩ := four_of (l := ds) (by omega)
      obtain ⟨t, xs, rfl, et, hxs, xl⟩ := tup_inv hv
      obtain ⟨x1, x2, x3, x4, rfl, h1, h2, h3, h4⟩ : ∃ x1 x2 x3 x4, xs = [x1, x2, x3, x4] ∧ Df H x1 ls ∧ Df H x2 ss ∧ Df H x3 js ∧ Df H x4 ts := by
        cases hxs with
        | cons h1 r =>
          cases r with
          | cons h2 r =>
            cases r with
            | cons h3 r =>
              cases r with
              | cons h4 r => cases r; exact ⟨_, _, _, _, rfl, h1, h2, h3, h4⟩
      have e0 : netB (.tuple [ls, ss, js, ts]) = (linesB ls && stationsB (linesS ls) ss && junctionsB (linesS ls) js && decide ((itemsD ss ++ itemsD js).map firstS).Nodup && tiesB (entD ss js) ts) := rfl
      refine ⟨.ref t, rfl, t, _, rfl, et.sq, rfl, _, _, rfl, _, _, rfl, _, _, rfl, _, [], rfl, rfl, ?_⟩
      refine ⟨x1, rfl, x1, ls, rfl, h1, tb.mem ls (by simp), fun H1 s1 => ⟨_, rfl, ?_⟩⟩
      cases ca : linesB ls with
      | false => exact iteF (q0 (by rw [e0, ca]; rfl) _ s1)
      | true =>
        obtain ⟨dl, rfl, al, l8⟩ := lines_inv ca
        rw [ca, Bool.true_and] at e0
        obtain ⟨lt, lx, rfl, elt, hlx, _⟩ := tup_inv h1
        have en := names_all al
        rw [en] at hlx
        have ev := dfAll_vs hlx
        rw [ev] at elt
        have lo : LnOk (namesD dl) := ⟨strs_oks (shm (shm sh _ (by simp))), by rw [names_len al]; exact l8⟩
        refine iteT ⟨.ref lt, rfl, x2, rfl, lt, namesD dl, x2, ss, rfl, elt.same s1, lo, h2.same s1, tb.mem ss (by simp), shm sh ss (by simp), fun H2 s2 => ⟨_, rfl, ?_⟩⟩
        have s02 := s1.trans s2
        have e0 : netB (.tuple [.tuple dl, ss, js, ts]) = (stationsB (namesD dl) ss && junctionsB (namesD dl) js && decide ((itemsD ss ++ itemsD js).map firstS).Nodup && tiesB (entD ss js) ts) := e0
        cases cb : stationsB (namesD dl) ss with
        | false => exact iteF (q0 (by rw [e0, cb]; rfl) _ s02)
        | true =>
          rw [cb, Bool.true_and] at e0
          refine iteT ⟨.ref lt, rfl, x3, rfl, lt, namesD dl, x3, js, rfl, elt.same s02, lo, h3.same s02, tb.mem js (by simp), shm sh js (by simp), fun H3 s3 => ⟨_, rfl, ?_⟩⟩
          have s03 := s02.trans s3
          cases cj : junctionsB (namesD dl) js with
          | false => exact iteF (q0 (by rw [e0, cj]; rfl) _ s03)
          | true =>
            rw [cj, Bool.true_and] at e0
            obtain ⟨dss, rfl, ass, l16⟩ := st_inv cb
            obtain ⟨djs, rfl, ajs, l12⟩ := jn_inv cj
            obtain ⟨st, sx, rfl, est, hsx, sxl⟩ := tup_inv (h2.same s03)
            obtain ⟨jt, jx, rfl, ejt, hjx, jxl⟩ := tup_inv (h3.same s03)
            have all2 : ∀ y ∈ dss ++ djs, stationB (namesD dl) y = true ∨ junctionB (namesD dl) y = true := fun y hy => (List.mem_append.mp hy).elim (fun z => .inl (List.all_eq_true.mp ass y z)) fun z => .inr (List.all_eq_true.mp ajs y z)
            have e0 : netB (.tuple [.tuple dl, .tuple dss, .tuple djs, ts]) = (decide ((dss ++ djs).map firstS).Nodup && tiesB (entD (.tuple dss) (.tuple djs)) ts) := e0
            have nmL := name_mem al
            have lks : ∀ z l, lkF (entD (.tuple dss) (.tuple djs)) z = some l → ∀ y ∈ l, IsNm y := fun z l h y hy => by
              obtain ⟨e, he, rfl⟩ := lkF_mem h
              rcases List.mem_append.mp he with he | he
              · obtain ⟨s', hs, rfl⟩ := List.mem_map.mp he
                obtain ⟨d, hd, rfl⟩ := List.mem_map.mp hs
                obtain ⟨a, b, rfl, _, hb⟩ := station_inv (List.all_eq_true.mp ass d hd)
                rw [List.mem_singleton.mp hy]
                exact nm_is (nmL b hb)
              · obtain ⟨d, hd, rfl⟩ := List.mem_map.mp he
                obtain ⟨a, bs, rfl, _, hb⟩ := junction_inv (List.all_eq_true.mp ajs d hd)
                have hy : y ∈ (namesD (bs.map PyData.str)).map nmOf := hy
                rw [names_strs] at hy
                obtain ⟨b, hb2, rfl⟩ := List.mem_map.mp hy
                exact nm_is (nmL b (hb b hb2))
            refine iteT ⟨.ref st, rfl, .ref jt, rfl, st, jt, sx, jx, rfl, rfl, est.sq, ejt.sq, by rw [sizeLine_eq]; omega, fun e => ?_, fun n e => ?_, fun n1 n2 p np => ?_⟩
            all_goals first
              | (have tc : TPl H3 st (sx ++ jx) := by rw [e, List.append_nil]; exact est
                 obtain ⟨Hc, eHc⟩ : ∃ Hc, Hc = H3 := ⟨_, rfl⟩
                 rw [← eHc] at tc ⊢
                 have sc : Same H3 Hc := by rw [eHc]; exact fun _ _ z => z
                 clear eHc)
              | (have tc : TPl H3 jt (sx ++ jx) := by rw [e]; exact ejt
                 obtain ⟨Hc, eHc⟩ : ∃ Hc, Hc = H3 := ⟨_, rfl⟩
                 rw [← eHc] at tc ⊢
                 have sc : Same H3 Hc := by rw [eHc]; exact fun _ _ z => z
                 clear eHc)
              | (have sc := same_upd (o := .tup (sx ++ jx)) np
                 have tc : TPl (upd H3 p (.tup (sx ++ jx))) p (sx ++ jx) := .inl upd_same
                 generalize upd H3 p (.tup (sx ++ jx)) = Hc at sc tc ⊢)
            all_goals
              have ha := (hsx.app hjx).same sc
              have s0c := s03.trans sc
              have al2 := ha.len
              have al3 : (dss ++ djs).length ≤ 28 := by rw [List.length_append]; omega
              refine ⟨_, rfl, ⟨_, tc.sq⟩, fun C nC => ?_⟩
              refine lc_it (walk_tup (xs := sx ++ jx)) (fun i Hx => Same Hc Hx ∧ Hx C = some (.lst ((((dss ++ djs).take i).map firstS).map V.str))) ⟨same_upd nC, upd_same⟩ (fun i Hx _ pv => (tc.same pv.1).sq) (fun i x Hx₀ Hx hi pv yy => ?_) (fun Hx pv => ?_)
              · obtain ⟨rfl, ex⟩ := yy
                obtain ⟨sx', eC⟩ := pv
                obtain ⟨y, ey, hy⟩ := ha.get ex
                have tk1 : (dss ++ djs).take (i + 1) = (dss ++ djs).take i ++ [y] := by rw [List.take_add_one, ey]; rfl
                obtain ⟨a, r, rfl, ef⟩ := first_inv (all2 y (List.mem_of_getElem? ey))
                obtain ⟨u, us, rfl, eu, hus, _⟩ := tup_inv hy
                obtain ⟨us', rfl⟩ : ∃ us', us = .str a :: us' := by
                  cases hus with
                  | cons a r => cases a; exact ⟨_, rfl⟩
                refine ⟨rfl, yes_ ⟨.ref u, rfl, u, _, 0, .str a, rfl, rfl, (eu.same sx').sq, atI_nat (j := 0) rfl, _, eC, small5000 (by rw [List.length_map, List.length_map, List.length_take]; omega), same_set sx' nC, ?_⟩⟩
                rw [upd_same, tk1, List.map_append, List.map_append]
                rw [show [PyData.tuple (.str a :: r)].map firstS = [a] from rfl]
                rfl
              · obtain ⟨sx', eC⟩ := pv
                rw [al2, List.take_length] at eC
                have s0x := s0c.trans sx'
                have s3x := sc.trans sx'
                refine ⟨C, rfl, .inl ⟨(dss ++ djs).map firstS, .inl (SqL.of eC), by rw [List.length_map]; omega, fun H4 s4 => ⟨_, rfl, ?_⟩⟩⟩
                have s04 := s0x.trans s4
                have s34 := s3x.trans s4
                cases cu : decide ((dss ++ djs).map firstS).Nodup with
                | false => exact iteF (q0 (by rw [e0, cu]; rfl) _ s04)
                | true =>
                  rw [cu, Bool.true_and] at e0
                  obtain ⟨sa, rfl, psa⟩ := stF_all (hsx.same s34) ass
                  obtain ⟨ja, rfl, pja⟩ := jnF_all (hjx.same s34) ajs
                  refine iteT ⟨.ref st, rfl, .ref jt, rfl, st, jt, sa, ja, dss.map stD, djs.map jnD', rfl, est.same s34, psa, ejt.same s34, pja, by rw [List.length_map]; omega, by rw [List.length_map]; omega, fun H5 dd kvs s5 n5 e5 dv => ?_⟩
                  have s05 := s04.trans s5
                  refine ⟨x4, rfl, dd, kvs, _, x4, ts, rfl, e5, dv, lks, h4.same s05, tb.mem ts (by simp), shm sh ts (by simp), fun H6 s6 => ?_⟩
                  have := q H6 (s05.trans s6)
                  rw [e0] at this
                  exact this
end
end Th
namespace Th
open PySem PySem.Spec PyProof.Rows L2
def wordsS (s : Str) : List Str := if inV (.str "") ((Txt.split s " ").map V.str) then [] else Txt.split s " "
def wordsD : PyData → List Str
  | .str s => wordsS s
  | _ => []
def plainS (s : Str) : Bool := decide (1 ≤ s.length) && decide (s.length ≤ 10) && !(decide (s.cps.toList.head? = some 48) && !decide (s = ("0" : Str))) && alS "0" "9" s
section
variable {P : Program} {w : World} {K : PySem.W.Frag} {mg : Str → Option Value} {base : Heap} {k : Nat}
def sp_words_of : Sp := fun vs H Q _ => ∃ v d, vs = [v] ∧ Dt SA H v d ∧ (∀ s, d = .str s → s.length ≤ 5000) ∧ ∀ H' p, Same H H' → H p = none → H' p = some (.lst ((wordsD d).map V.str)) → Q (.ref p) H'
set_option maxHeartbeats 8000000 in
theorem ok_words_of (T : Defs K mg) : FnOk P w K mg base CX0 (k + 1) T.a_words_of T.d_words_of ["thing"] sp_words_of := by
  refine T.F_words_of.ok sc_words_of (fun vs H Q E h => ?_) (fun cdv A outer s H vs Q E hr h => ?_)
  · obtain ⟨v, d, rfl, _⟩ := h
    rfl
  · obtain ⟨v, d, rfl, hv, hl, q⟩ := h
    refine ⟨_, PSs.nox
(pss_cons (ps_if (pt_not (pt_val (pe_callB call_isi (by rfl) T.z_isinstance (by decide +kernel) (pa_cons (pv 0) (pa_cons (pe_bltn (v := .ty "str") (by rfl) T.z_str (by decide +kernel) rfl) pa_nil)))))
      (pss_one (ps_ret (pe_lst pa_nil)))
      pss_nil)
    (pss_cons (ps_set (i := 1) sc_words_of.nd rfl (.inl rfl) (pe_bm PySem.F.plainAttrs_str PySem.F.slot_str_split PySem.F.type_str_split mt_split (pv 0) (pa_cons (pe_str) pa_nil)))
    (pss_one (ps_ret (pe_ifExp (pt_cmpR (r := rIn K false) op_in_seq (pe_str) (pv 1) (by rfl)) (pe_lst pa_nil) (pv 1))))))
      , ?_⟩
    refine ⟨v, rfl, v, .ty "str", _, _, _, rfl, .ty _, hv.ty, kit_S d, isiS d, rfl, ?_⟩
    have q0 : ∀ p, H p = none → wordsD d = [] → Q (.ref p) (upd H p (.lst [])) := fun p np e => q _ p (same_upd np) np (by rw [e]; exact upd_same)
    cases d with
    | int i => exact iteT ⟨Nat.zero_le _, fun p np => q0 p np rfl⟩
    | bool b => exact iteT ⟨Nat.zero_le _, fun p np => q0 p np rfl⟩
    | none => exact iteT ⟨Nat.zero_le _, fun p np => q0 p np rfl⟩
    | list _ => exact iteT ⟨Nat.zero_le _, fun p np => q0 p np rfl⟩
    | tuple _ => exact iteT ⟨Nat.zero_le _, fun p np => q0 p np rfl⟩
    | dict _ => exact iteT ⟨Nat.zero_le _, fun p np => q0 p np rfl⟩
    | str z =>
      cases hv
      have zl := hl z rfl
      have zs : z.length + 2 ≤ sizeLine := by rw [sizeLine_eq]; omega
      refine iteF ⟨.str z, rfl, rfl, z, " ", rfl, rfl, by decide +kernel, zs, fun p np => ?_⟩
      have sp := same_upd (o := .lst ((Txt.split z " ").map V.str)) np
      refine ⟨.ref p, rfl, p, _, rfl, .inl (SqL.of upd_same), rfl, flat_strs _, _, rfl, ite2 (fun c => ?_) (fun c => ?_)⟩
      · have c : inV (.str "") ((Txt.split z " ").map V.str) = true := c
        have e : wordsD (.str z) = [] := by show wordsS z = []; unfold wordsS; rw [if_pos c]
        refine ⟨Nat.zero_le _, fun p2 n2 => q _ p2 (sp.trans (same_upd n2)) (up0 sp n2) (by rw [e]; exact upd_same)⟩
      · have c : ¬ inV (.str "") ((Txt.split z " ").map V.str) = true := c
        have e : wordsD (.str z) = Txt.split z " " := by show wordsS z = _; unfold wordsS; rw [if_neg c]
        exact ⟨.ref p, rfl, q _ p sp np (by rw [e]; exact upd_same)⟩
def sp_is_plain : Sp := fun vs H Q _ => ∃ s, vs = [.str s] ∧ s.length ≤ 5000 ∧ ∀ H', Same H H' → Q (.bl (plainS s)) H'
set_option maxHeartbeats 8000000 in
theorem ok_is_plain (T : Defs K mg) : FnOk P w K mg base CX0 (k + 1) T.a_is_plain T.d_is_plain ["word"] sp_is_plain := by
  refine T.F_is_plain.ok sc_is_plain (fun vs H Q E h => ?_) (fun cdv A outer s H vs Q E hr h => ?_)
  · obtain ⟨z, rfl, _⟩ := h
    rfl
  · obtain ⟨z, rfl, zl, q⟩ := h
    refine ⟨_, PSs.nox
(pss_cons (ps_if (PW.pt (pw_or (pt_not (pt_chain op_le op_le (pe_int) (pe_callB call_len_str (by rfl) T.z_len (by decide +kernel) (pa_cons (pv 0) pa_nil)) (pe_glob (v := .int 10) (by rfl) T.c_MOST_FIGURES ⟨_, rfl⟩))) (pw_or1 (PW.pt (pw_and (pt_cmpR op_eq (pe_ix ix_str (pv 0) (pe_int) (fun _ _ => rfl)) (pe_str) (nomark _)) (pw_and1 (pt_cmpR op_ne (pv 0) (pe_str) (nomark _))))))))
      (pss_one (ps_ret (pe_bl)))
      pss_nil)
    (pss_one (ps_ret (pe_callB (r := rAll K) (cr_all rfl) (by rfl) T.z_all (by decide +kernel) (pa_cons (pe_lc (own := [("figure", 1)]) (g := gName 1) rfl sc_is_plain.nd (pi_str (pv 0)) (blkOk_by (N := N_is_plain) (sc := defScope s_is_plain) (by decide +kernel)) (fun _ _ _ _ _ => (pg_name (i := 1) sc_is_plain.nd rfl (.inl rfl))) (fun _ _ _ _ _ => pts_nil) (fun _ _ _ _ _ => (pe_chain op_le_str op_le_str (pe_str) (pv 1) (pe_str)))) pa_nil)))))
      , ?_⟩
    have q0 := q H (fun _ _ e => e)
    have zs : z.length ≤ sizeLine := by rw [sizeLine_eq]; omega
    refine ⟨.str z, rfl, z, rfl, zs, 1, (z.length : Int), rfl, rfl, decide ((1 : Int) ≤ (z.length : Int)), rfl, ite2 (fun c1 => ?_) (fun c1 => ?_)⟩
    · refine ⟨(z.length : Int), 10, rfl, rfl, _, rfl, ite2 (fun c2 => ?_) (fun c2 => ?_)⟩
      · have c2 : ¬ z.length ≤ 10 := fun g => by
          rw [show decide ((z.length : Int) ≤ 10) = true from decide_eq_true (by omega)] at c2
          cases c2
        have e : plainS z = false := by
          unfold plainS
          rw [decide_eq_false c2, Bool.and_false, Bool.false_and, Bool.false_and]
        rw [e] at q0
        exact q0
      · have c2 : z.length ≤ 10 := Decidable.byContradiction fun g => c2 (by rw [decide_eq_false (show ¬ (z.length : Int) ≤ 10 by omega)]; rfl)
        have c1 : 1 ≤ z.length := by have := of_decide_eq_true c1; omega
        obtain ⟨c0, cs, ez⟩ : ∃ c0 cs, z.cps.toList = c0 :: cs := by
          cases e : z.cps.toList with
          | nil => have : z.cps.toList.length = z.length := rfl; rw [e] at this; simp at this; omega
          | cons a b => exact ⟨a, b, rfl⟩
        have e : plainS z = (!(decide (c0 = 48) && !decide (z = ("0" : Str))) && alS "0" "9" z) := by
          unfold plainS
          rw [decide_eq_true c1, decide_eq_true c2, ez]
          show (!(decide (some c0 = some 48) && _) && _) = _
          rw [show decide (some c0 = some 48) = decide (c0 = 48) by simp]
        rw [e] at q q0
        have h0 : (V.str ⟨#[c0]⟩ = V.str ("0" : Str)) ↔ c0 = 48 := ⟨fun h => by
          injection h with h
          have h := congrArg (fun s : Str => s.cps.toList) h
          have h : [c0] = [48] := h
          injection h, fun h => by rw [h]; rfl⟩
        have hz : (V.str z = V.str ("0" : Str)) ↔ z = ("0" : Str) := ⟨fun h => by injection h, fun h => by rw [h]⟩
        refine ⟨.str z, rfl, z, 0, c0, rfl, rfl, zs, by rw [ez]; exact atI_nat (j := 0) rfl, rfl, _, rfl, ite2 (fun c3 => ⟨.str z, rfl, rfl, _, rfl, ite2 (fun c4 => ?_) (fun c4 => ?_)⟩) (fun c3 => ?_)⟩
        · have c3 := h0.mp (of_decide_eq_true c3)
          have c4 : ¬ z = ("0" : Str) := fun g => by
            rw [decide_eq_true (hz.mpr g)] at c4
            cases c4
          rw [decide_eq_true c3, decide_eq_false c4] at q0
          exact q0
        all_goals
          have hb : (decide (c0 = 48) && !decide (z = ("0" : Str))) = false := by
            first
              | (have c4 : z = ("0" : Str) := Decidable.byContradiction fun g => c4 (by rw [decide_eq_false (fun h => g (hz.mp h))]; rfl)
                 rw [decide_eq_true c4]
                 exact Bool.and_false _)
              | (have c3 : ¬ c0 = 48 := fun g => c3 (decide_eq_true (h0.mpr g))
                 rw [decide_eq_false c3]
                 rfl)
          rw [hb] at q
          refine ⟨.str z, rfl, z, rfl, fun C nC => ?_⟩
          refine lc_it (walk_str (z := z)) (fun i Hx => Same H Hx ∧ Hx C = some (.lst (((z.cps.toList.take i).map fun c => !decide ([c] < ("0" : Str).cps.toList) && !decide (("9" : Str).cps.toList < [c])).map V.bl))) ⟨same_upd nC, upd_same⟩ (fun _ _ _ _ => trivial) (fun i v Hx Hx' hi pv yy => ?_) (fun Hx pv => ?_)
          · obtain ⟨rfl, c, ec, rfl⟩ := yy
            obtain ⟨sx, eC⟩ := pv
            have zl2 : z.cps.toList.length = z.length := rfl
            have hlen : ((z.cps.toList.take i).map fun c => !decide ([c] < ("0" : Str).cps.toList) && !decide (("9" : Str).cps.toList < [c])).length ≤ 10 := by rw [List.length_map, List.length_take]; omega
            have tk1 : z.cps.toList.take (i + 1) = z.cps.toList.take i ++ [c] := by rw [List.take_add_one, Array.getElem?_toList, ec]; rfl
            refine ⟨rfl, yes_ ⟨.str ⟨#[c]⟩, rfl, "0", ⟨#[c]⟩, rfl, rfl, _, rfl, ite2 (fun b1 => ?_) (fun b1 => ?_)⟩⟩
            · refine ⟨⟨#[c]⟩, "9", rfl, rfl, _, eC, small5000 (by rw [List.length_map]; omega), same_set sx nC, ?_⟩
              rw [upd_same, tk1, List.map_append, List.map_append]
              have b1 : (!decide ([c] < ("0" : Str).cps.toList)) = true := b1
              show _ = some (HO.lst (_ ++ [V.bl (!decide ([c] < ("0" : Str).cps.toList) && !decide (("9" : Str).cps.toList < [c]))]))
              rw [b1, Bool.true_and]
            · refine ⟨_, eC, small5000 (by rw [List.length_map]; omega), same_set sx nC, ?_⟩
              rw [upd_same, tk1, List.map_append, List.map_append]
              have b1 : (!decide ([c] < ("0" : Str).cps.toList)) = false := Bool.eq_false_iff.mpr b1
              show _ = some (HO.lst (_ ++ [V.bl (!decide ([c] < ("0" : Str).cps.toList) && !decide (("9" : Str).cps.toList < [c]))]))
              rw [b1, Bool.false_and]
          · obtain ⟨sx, eC⟩ := pv
            refine ⟨C, _, rfl, SqL.of eC, ?_⟩
            have ea : (((z.cps.toList.take z.cps.size).map fun c => !decide ([c] < ("0" : Str).cps.toList) && !decide (("9" : Str).cps.toList < [c])).all id) = alS "0" "9" z := by
              rw [List.take_of_length_le (by rw [Array.length_toList]; exact Nat.le_refl _), List.all_map]
              rfl
            rw [ea]
            exact q _ sx
    · have e : plainS z = false := by
        unfold plainS
        rw [show decide (1 ≤ z.length) = false from decide_eq_false fun g => c1 (decide_eq_true (by omega))]
        rfl
      rw [e] at q0
      exact ⟨_, rfl, q0⟩
end
end Th
namespace Th
open PySem PySem.Spec PyProof.Rows L2
theorem cut_one {c : Nat} : ∀ {a b r r' : List Nat}, c ∉ a → c ∉ b → a ++ c :: r = b ++ c :: r' → a = b ∧ r = r'
  | [], [], _, _, _, _, h => by injection h with _ h; exact ⟨rfl, h⟩
  | [], y :: b, _, _, _, hb, h => by injection h with h _; exact absurd (by rw [h]; exact List.mem_cons_self) hb
  | x :: a, [], _, _, ha, _, h => by injection h with h _; exact absurd (by rw [h]; exact List.mem_cons_self) ha
  | x :: a, y :: b, _, _, ha, hb, h => by
    injection h with h1 h2
    obtain ⟨e1, e2⟩ := cut_one (fun z => ha (List.mem_cons_of_mem _ z)) (fun z => hb (List.mem_cons_of_mem _ z)) h2
    exact ⟨by rw [h1, e1], e2⟩
theorem joinL_inj {c : Nat} : ∀ {as bs : List (List Nat)}, as ≠ [] → bs ≠ [] → (∀ a ∈ as, c ∉ a) → (∀ b ∈ bs, c ∉ b) → TL.joinL [c] as = TL.joinL [c] bs → as = bs
  | [], _, n, _, _, _, _ => absurd rfl n
  | _ :: _, [], _, n, _, _, _ => absurd rfl n
  | [a], [b], _, _, _, _, h => by
    have h : a = b := h
    rw [h]
  | [a], b :: b' :: t, _, _, ha, _, h => by
    have h : a = b ++ (c :: TL.joinL [c] (b' :: t)) := h
    exact absurd (by rw [h]; exact List.mem_append_right _ List.mem_cons_self) (ha a List.mem_cons_self)
  | a :: a' :: s, [b], _, _, _, hb, h => by
    have h : a ++ (c :: TL.joinL [c] (a' :: s)) = b := h
    exact absurd (by rw [← h]; exact List.mem_append_right _ List.mem_cons_self) (hb b List.mem_cons_self)
  | a :: a' :: s, b :: b' :: t, _, _, ha, hb, h => by
    have h : a ++ (c :: TL.joinL [c] (a' :: s)) = b ++ (c :: TL.joinL [c] (b' :: t)) := h
    obtain ⟨e1, e2⟩ := cut_one (ha a List.mem_cons_self) (hb b List.mem_cons_self) h
    rw [e1, joinL_inj (by simp) (by simp) (fun x hx => ha x (List.mem_cons_of_mem _ hx)) (fun x hx => hb x (List.mem_cons_of_mem _ hx)) e2]
theorem join_L (c : Nat) (ws : List Str) : Txt.join (SX.S [c]) ws = SX.S (TL.joinL [c] (ws.map fun w => w.cps.toList)) := by
  rw [← SX.join_S, List.map_map]
  congr 1
  exact (List.map_id' ws).symm.trans (List.map_congr_left fun w _ => rfl)
theorem strs_back (ws : List Str) : (ws.map fun w => w.cps.toList).map SX.S = ws := by
  rw [List.map_map]
  exact (List.map_congr_left fun w _ => rfl).trans (List.map_id' ws)
theorem split_join {ws : List Str} (ne : ws ≠ []) (h : ∀ w ∈ ws, 32 ∉ w.cps.toList) : Txt.split (Txt.join " " ws) " " = ws := by
  have e0 : (" " : Str) = SX.S [32] := by decide +kernel
  have h1 : Txt.join " " (Txt.split (Txt.join " " ws) " ") = Txt.join " " ws := (PySem.StrLaws.glued_eq_join _ _).trans (PySem.StrLaws.join_split (Txt.join " " ws) " ")
  have h2 : ∀ p ∈ Txt.split (Txt.join " " ws) " ", 32 ∉ p.cps.toList := by
    rw [show (" " : Str) = ⟨#[32]⟩ from e0]
    exact PySem.StrLaws.split_free _ 32
  have h3 : Txt.split (Txt.join " " ws) " " ≠ [] := fun z => by
    rw [z] at h1
    have h1 : (⟨#[]⟩ : Str) = Txt.join " " ws := h1
    rw [← h1] at z
    exact absurd z (by decide +kernel)
  generalize Txt.split (Txt.join " " ws) " " = ps at h1 h2 h3
  rw [e0, join_L, join_L] at h1
  have h4 : TL.joinL [32] (ps.map fun w => w.cps.toList) = TL.joinL [32] (ws.map fun w => w.cps.toList) := SX.S_inj h1
  have h5 := joinL_inj (by simpa using h3) (by simpa using ne) (fun a ha => by obtain ⟨w, hw, rfl⟩ := List.mem_map.mp ha; exact h2 w hw) (fun a ha => by obtain ⟨w, hw, rfl⟩ := List.mem_map.mp ha; exact h w hw) h4
  rw [← strs_back ps, h5, strs_back]
end Th
namespace Th
open PySem PySem.Spec PyProof.Rows L2
theorem dig_head : ∀ m : Nat, 0 < m → ∃ ch t, Nat.toDigits 10 m = ch :: t ∧ ch.toNat ≠ 48 := fun m => by
  induction m using Nat.strongRecOn with
  | _ m ih =>
    intro h
    by_cases c : m < 10
    · rw [Nat.toDigits_of_lt_base c]
      refine ⟨_, [], rfl, ?_⟩
      have key : ∀ d : Nat, d < 10 → 0 < d → (Nat.digitChar d).toNat ≠ 48 := by decide
      exact key m c h
    · have hm : m % 10 < 10 := Nat.mod_lt m (by decide)
      have t : Nat.toDigits 10 (m / 10) ++ Nat.toDigits 10 (m % 10) = Nat.toDigits 10 (10 * (m / 10) + m % 10) := Nat.toDigits_append_toDigits (by decide) (by omega) hm
      rw [Nat.div_add_mod] at t
      obtain ⟨ch, s, e, n⟩ := ih (m / 10) (by omega) (by omega)
      rw [← t, e]
      exact ⟨ch, _, rfl, n⟩
theorem one_lt {a b : Nat} (h : ([a] : List Nat) < [b]) : a < b := by
  cases h with
  | rel h' => exact h'
  | cons h' => cases h'
theorem num_plain {n : Int} (h0 : 0 ≤ n) (h1 : n < 10 ^ 10) : plainS (toString n) = true := by
  have hl : (PySem.Str.ofString (toString n)).length ≤ 10 := PySem.W.KT.len_num h0 h1
  obtain ⟨m, rfl⟩ := Int.eq_ofNat_of_zero_le h0
  have es : (PySem.Str.ofString (toString ((m : Nat) : Int))).cps.toList = (Nat.toDigits 10 m).map Char.toNat := PySem.W.KIN.signs_num m
  have dg : ∀ c ∈ (PySem.Str.ofString (toString ((m : Nat) : Int))).cps.toList, 48 ≤ c ∧ c ≤ 57 := fun c hc => by
    rw [es] at hc
    obtain ⟨ch, hch, e⟩ := List.mem_map.mp hc
    have r := digit_range (Nat.isDigit_of_mem_toDigits (by decide) (by decide) hch)
    rw [← e]
    exact r
  have al : alS "0" "9" (PySem.Str.ofString (toString ((m : Nat) : Int))) = true := List.all_eq_true.mpr fun c hc => by
    obtain ⟨a, b⟩ := dg c hc
    rw [decide_eq_false (fun h => by have := one_lt (b := 48) h; omega), decide_eq_false (fun h => by have := one_lt (a := 57) h; omega)]
    rfl
  have l1 : 1 ≤ (PySem.Str.ofString (toString ((m : Nat) : Int))).length := by
    have : (PySem.Str.ofString (toString ((m : Nat) : Int))).cps.toList.length = (PySem.Str.ofString (toString ((m : Nat) : Int))).length := rfl
    rw [← this, es, List.length_map]
    rcases Nat.eq_zero_or_pos m with z | z
    · rw [z]; decide
    · obtain ⟨ch, t, e, _⟩ := dig_head m z
      rw [e, List.length_cons]
      omega
  have nz : (!(decide ((PySem.Str.ofString (toString ((m : Nat) : Int))).cps.toList.head? = some 48) && !decide (PySem.Str.ofString (toString ((m : Nat) : Int)) = ("0" : Str)))) = true := by
    rcases Nat.eq_zero_or_pos m with z | z
    · rw [z]; decide +kernel
    · obtain ⟨ch, t, e, n⟩ := dig_head m z
      rw [es, e, decide_eq_false (show ¬ ((ch :: t).map Char.toNat).head? = some 48 from fun h => n (Option.some.inj h))]
      rfl
  show (decide (1 ≤ (PySem.Str.ofString (toString ((m : Nat) : Int))).length) && decide ((PySem.Str.ofString (toString ((m : Nat) : Int))).length ≤ 10) && !(decide ((PySem.Str.ofString (toString ((m : Nat) : Int))).cps.toList.head? = some 48) && !decide (PySem.Str.ofString (toString ((m : Nat) : Int)) = ("0" : Str))) && alS "0" "9" (PySem.Str.ofString (toString ((m : Nat) : Int)))) = true
  rw [decide_eq_true l1, decide_eq_true hl, nz, al]
  rfl
theorem lowers {z : Nm} (h : ∀ c ∈ z, 97 ≤ c ∧ c ≤ 122) : alS "a" "z" (SX.S z) = true := List.all_eq_true.mpr fun c hc => by
  obtain ⟨a, b⟩ := h c hc
  rw [decide_eq_false (fun h => by have := one_lt (b := 97) h; omega), decide_eq_false (fun h => by have := one_lt (a := 122) h; omega)]
  rfl
theorem nm_name {z : Nm} (h : IsNm z) : nameS (SX.S z) = true := by
  obtain ⟨a, b, c⟩ := h
  have al := lowers (z := z) fun x hx => c x hx
  have e : (SX.S z).length = z.length := rfl
  show (decide (1 ≤ (SX.S z).length) && decide ((SX.S z).length ≤ 8) && alS "a" "z" (SX.S z)) = true
  rw [e, decide_eq_true a, decide_eq_true b, al]
  rfl
theorem num_nosp {n : Int} (h0 : 0 ≤ n) : 32 ∉ ((toString n : String) : Str).cps.toList := fun hc => by
  obtain ⟨m, rfl⟩ := Int.eq_ofNat_of_zero_le h0
  have es : (PySem.Str.ofString (toString ((m : Nat) : Int))).cps.toList = (Nat.toDigits 10 m).map Char.toNat := PySem.W.KIN.signs_num m
  have hc : 32 ∈ (PySem.Str.ofString (toString ((m : Nat) : Int))).cps.toList := hc
  rw [es] at hc
  obtain ⟨ch, hch, e⟩ := List.mem_map.mp hc
  have r := digit_range (Nat.isDigit_of_mem_toDigits (by decide) (by decide) hch)
  omega
end Th
namespace Th
open PySem PySem.Spec PyProof.Rows L2
theorem un65H {k : Nat} {A : Around} (h : L2H.RoomH k A) : A.units + 65 < cLine := by have := h.un; omega
/-- a slot of a row: a name, a number, or one of some words -/
inductive Slot where
  | nm
  | num
  | ws (l : List Str)
def slotD : Slot → PyData
  | .nm => .str "name"
  | .num => .str "number"
  | .ws l => .tuple (l.map PyData.str)
def fitS : Slot → Str → Bool
  | .nm, s => nameS s
  | .num, s => plainS s
  | .ws l, s => inV (.str s) (l.map V.str)
structure SlotOk (s : Slot) : Prop where
  ws : ∀ l, s = .ws l → ∀ z ∈ l, PyData.strOk z = true
theorem slot_sh {s : Slot} (h : SlotOk s) : SeqAt.shaped (slotD s) = true := by
  cases s with
  | nm => decide +kernel
  | num => decide +kernel
  | ws l => exact strs_tup (h.ws l rfl)
theorem dpAll_vs {K : PySem.W.Frag} {H : Hp} : ∀ {xs : List V} {l : List Str}, DpAll K H xs (l.map PyData.str) → xs = l.map V.str
  | _, [], h => by cases h; rfl
  | _, s :: l, h => by
    cases h with
    | cons a r =>
      cases a
      rw [dpAll_vs r]
      rfl
section
variable {P : Program} {w : World} {K : PySem.W.Frag} {mg : Str → Option Value} {base : Heap} {k : Nat}
def sp_fits (K : PySem.W.Frag) : Sp := fun vs H Q _ => ∃ (v : V) (s : Slot) (z : Str), vs = [v, .str z] ∧ Dp K H v (slotD s) ∧ SlotOk s ∧ z.length ≤ 5000 ∧ ∀ H', Same H H' → Q (.bl (fitS s z)) H'
set_option maxHeartbeats 8000000 in
theorem ok_fits (T : Defs K mg) : FnOk P w K mg base CX0 (k + 2) T.a_fits T.d_fits ["slot", "word"] (sp_fits K) := by
  have G_is_name : FnOk P w K mg base CX0 (k + 1) _ _ _ _ := ok_is_name (k := k) T
  have G_is_plain : FnOk P w K mg base CX0 (k + 1) _ _ _ _ := ok_is_plain (k := k) T
  refine T.F_fits.ok sc_fits (fun vs H Q E h => ?_) (fun cdv A outer s H vs Q E hr h => ?_)
  · obtain ⟨v, s, z, rfl, _⟩ := h
    rfl
  · obtain ⟨v, s, z, rfl, hv, ok, zl, q⟩ := h
    refine ⟨_, PSs.nox
(pss_cons (ps_if (pt_cmpR (r := rEqD K) (op_eqD hr.units) (pv 0) (pe_str) (nomark _))
      (pss_one (ps_ret (pe_call G_is_name hr (by rfl) T.g_is_name T.F_is_name.kp T.b_is_name .nil pass0 (pa_cons (pv 1) pa_nil))))
      pss_nil)
    (pss_cons (ps_if (pt_cmpR (r := rEqD K) (op_eqD hr.units) (pv 0) (pe_str) (nomark _))
      (pss_one (ps_ret (pe_call G_is_plain hr (by rfl) T.g_is_plain T.F_is_plain.kp T.b_is_plain .nil pass0 (pa_cons (pv 1) pa_nil))))
      pss_nil)
    (pss_one (ps_ret (pe_cmpR (r := rIn K false) op_in_seq (pv 1) (pv 0) (by rfl))))))
      , ?_⟩
    have sn : SeqAt.shaped (.str ("name" : Str)) = true := by decide +kernel
    have su : SeqAt.shaped (.str ("number" : Str)) = true := by decide +kernel
    refine ⟨v, rfl, slotD s, .str "name", hv, .str _, slot_sh ok, sn, _, rfl, ?_⟩
    cases s with
    | nm =>
      rw [show PyData.eqv (slotD .nm) (.str ("name" : Str)) = true by decide +kernel]
      exact iteT ⟨.str z, rfl, .str z, .str z, rfl, .str z, fun s e => by cases e; exact zl, q⟩
    | num =>
      rw [show PyData.eqv (slotD .num) (.str ("name" : Str)) = false by decide +kernel]
      refine iteF ⟨v, rfl, slotD .num, .str "number", hv, .str _, slot_sh ok, su, _, rfl, ?_⟩
      rw [show PyData.eqv (slotD .num) (.str ("number" : Str)) = true by decide +kernel]
      exact iteT ⟨.str z, rfl, z, rfl, zl, q⟩
    | ws l =>
      rw [show PyData.eqv (slotD (.ws l)) (.str ("name" : Str)) = false from rfl]
      refine iteF ⟨v, rfl, slotD (.ws l), .str "number", hv, .str _, slot_sh ok, su, _, rfl, ?_⟩
      rw [show PyData.eqv (slotD (.ws l)) (.str ("number" : Str)) = false from rfl]
      have hv : Dp K H v (.tuple (l.map PyData.str)) := hv
      cases hv with
      | tup e d =>
        rw [dpAll_vs d] at e
        exact iteF ⟨.str z, rfl, _, rfl, _, _, rfl, .inr e, rfl, flat_strs _, q _ fun _ _ e => e⟩
end
end Th
namespace Th
open PySem PySem.Spec PyProof.Rows L2
def valL (l : List Nat) : Nat := l.foldl (fun a c => 10 * a + (c - 48)) 0
theorem valL_snoc (l : List Nat) (c : Nat) : valL (l ++ [c]) = 10 * valL l + (c - 48) := by
  unfold valL
  rw [List.foldl_append]
  rfl
theorem rev_ind {α : Type} {p : List α → Prop} (h0 : p []) (hs : ∀ l a, p l → p (l ++ [a])) : ∀ l, p l := fun l => by
  have key : ∀ r : List α, p r.reverse := fun r => by
    induction r with
    | nil => exact h0
    | cons a r ih => rw [List.reverse_cons]; exact hs _ _ ih
  have := key l.reverse
  rw [List.reverse_reverse] at this
  exact this
theorem valL_lt : ∀ l : List Nat, (∀ c ∈ l, 48 ≤ c ∧ c ≤ 57) → valL l < 10 ^ l.length := by
  refine rev_ind (fun _ => by decide) fun l c ih h => ?_
  have h1 := ih fun x hx => h x (List.mem_append_left _ hx)
  have h2 := h c (List.mem_append_right _ List.mem_cons_self)
  rw [valL_snoc, List.length_append, List.length_singleton, Nat.pow_succ]
  omega
theorem valL_pos : ∀ l : List Nat, (∀ c ∈ l, 48 ≤ c ∧ c ≤ 57) → l ≠ [] → l.head? ≠ some 48 → 0 < valL l := by
  refine rev_ind (fun _ h => absurd rfl h) fun l c ih h _ hd => ?_
  rw [valL_snoc]
  cases l with
  | nil =>
    have h2 := h c (List.mem_append_right _ List.mem_cons_self)
    have : c ≠ 48 := fun z => hd (by rw [z]; rfl)
    omega
  | cons a l =>
    have := ih (fun x hx => h x (List.mem_append_left _ hx)) (by simp) (fun z => hd z)
    omega
theorem dig_one : ∀ d, d < 10 → (Nat.toDigits 10 d).map Char.toNat = [48 + d] := by decide
theorem digs_of : ∀ l : List Nat, (∀ c ∈ l, 48 ≤ c ∧ c ≤ 57) → l ≠ [] → (l.head? ≠ some 48 ∨ l = [48]) → (Nat.toDigits 10 (valL l)).map Char.toNat = l := by
  refine rev_ind (fun _ h => absurd rfl h) fun l c ih h _ hd => ?_
  have h2 := h c (List.mem_append_right _ List.mem_cons_self)
  rw [valL_snoc]
  cases l with
  | nil =>
    show (Nat.toDigits 10 (0 + (c - 48))).map Char.toNat = [c]
    rw [Nat.zero_add, dig_one _ (by omega)]
    congr 1
    omega
  | cons a l =>
    have hd1 : (a :: l).head? ≠ some 48 := by
      rcases hd with z | z
      · exact fun e => z e
      · exact absurd (congrArg List.length z) (by simp)
    have ha := fun x hx => h x (List.mem_append_left [c] hx)
    have p := valL_pos (a :: l) ha (by simp) hd1
    rw [← Nat.toDigits_append_toDigits (b := 10) (by decide) p (by omega : c - 48 < 10), List.map_append, ih ha (by simp) (.inl hd1), dig_one _ (by omega)]
    congr 2
    omega
def numS (z : Str) : Int := ((valL z.cps.toList : Nat) : Int)
theorem str_ext {a b : Str} (h : a.cps.toList = b.cps.toList) : a = b := by
  obtain ⟨a⟩ := a
  obtain ⟨b⟩ := b
  exact congrArg Str.mk (Array.toList_inj.mp h)
theorem not_lt_one {a b : Nat} (h : a ≤ b) : ¬ (([b] : List Nat) < [a]) := fun z => by
  have := one_lt z
  omega
theorem lt_one {a b : Nat} (h : a < b) : ([a] : List Nat) < [b] := .rel h
/-- a plain word -/
theorem plain_text {z : Str} (h : plainS z = true) : z = ((toString (numS z) : String) : Str) ∧ 0 ≤ numS z ∧ numS z < 10 ^ 10 := by
  unfold plainS at h
  simp only [Bool.and_eq_true, decide_eq_true_eq, Bool.not_eq_true', Bool.and_eq_false_iff, decide_eq_false_iff_not] at h
  obtain ⟨⟨⟨h1, h2⟩, h3⟩, h4⟩ := h
  have zl : z.cps.toList.length = z.length := rfl
  have hd : ∀ c ∈ z.cps.toList, 48 ≤ c ∧ c ≤ 57 := fun c hc => by
    have := List.all_eq_true.mp h4 c hc
    simp only [Bool.and_eq_true, Bool.not_eq_true', decide_eq_false_iff_not] at this
    have t1 : ¬ ([c] : List Nat) < [48] := this.1
    have t2 : ¬ ([57] : List Nat) < [c] := this.2
    exact ⟨Decidable.byContradiction fun n => t1 (lt_one (by omega)), Decidable.byContradiction fun n => t2 (lt_one (by omega))⟩
  have ne : z.cps.toList ≠ [] := fun e => by rw [e] at zl; simp at zl; omega
  have hz : z.cps.toList.head? ≠ some 48 ∨ z.cps.toList = [48] := by
    rcases h3 with a | a
    · exact .inl a
    · refine .inr ?_
      have a : z = ("0" : Str) := by simpa using a
      rw [a]
      rfl
  have e := digs_of _ hd ne hz
  have b := valL_lt _ hd
  have b2 : 10 ^ z.cps.toList.length ≤ 10 ^ 10 := Nat.pow_le_pow_right (by decide) (by omega)
  refine ⟨str_ext ?_, Int.natCast_nonneg _, by unfold numS; omega⟩
  have es : (PySem.Str.ofString (toString ((valL z.cps.toList : Nat) : Int))).cps.toList = (Nat.toDigits 10 (valL z.cps.toList)).map Char.toNat := PySem.W.KIN.signs_num _
  exact e.symm.trans es.symm
theorem plain_reads {z : Str} (h : plainS z = true) : PySem.intText? z = some (numS z) := by
  obtain ⟨e, a, b⟩ := plain_text h
  have r := PySem.W.KIN.num_reads a b
  have e2 : PySem.intText? z = PySem.intText? ((toString (numS z) : String) : Str) := congrArg _ e
  exact e2.trans r
theorem num_back {n : Int} (h0 : 0 ≤ n) (h1 : n < 10 ^ 10) : numS ((toString n : String) : Str) = n := by
  have p := num_plain h0 h1
  have r := plain_reads p
  have r2 := PySem.W.KIN.num_reads h0 h1
  exact Option.some.inj (r.symm.trans r2)
end Th
namespace Th
open PySem PySem.Spec PyProof.Rows L2
def thV : Slot → Str → V
  | .num, z => .int (numS z)
  | _, z => .str z
def fitsB (slots : List Slot) (ws : List Str) : Bool := decide (ws.length = slots.length) && (List.zipWith fitS slots ws).all id
theorem cut_last (xs : List V) : cutV xs (some (-1)) none = xs.drop (xs.length - 1) := by
  unfold cutV
  rw [HT.sIx_none]
  have e : HT.sIx xs.length 0 (some (-1)) = xs.length - 1 := by
    unfold HT.sIx
    simp
    omega
  rw [e]
  exact List.take_of_length_le (by rw [List.length_drop]; exact Nat.le_refl _)
theorem dpAll_drop {K : PySem.W.Frag} {H : Hp} : ∀ {n : Nat} {xs : List V} {ds : List PyData}, DpAll K H xs ds → DpAll K H (xs.drop n) (ds.drop n)
  | 0, _, _, h => h
  | _ + 1, _, _, .nil => .nil
  | n + 1, _, _, .cons _ r => dpAll_drop (n := n) r
theorem dpAll_len {K : PySem.W.Frag} {H : Hp} : ∀ {xs : List V} {ds : List PyData}, DpAll K H xs ds → xs.length = ds.length
  | _, _, .nil => rfl
  | _, _, .cons _ r => congrArg Nat.succ (dpAll_len r)
theorem dpAll_get {K : PySem.W.Frag} {H : Hp} : ∀ {i : Nat} {xs : List V} {ds : List PyData} {x : V}, DpAll K H xs ds → xs[i]? = some x → ∃ d, ds[i]? = some d ∧ Dp K H x d
  | _, _, _, _, .nil, h => by simp at h
  | 0, _, _, _, .cons a _, h => by
    have e := Option.some.inj h
    subst e
    exact ⟨_, rfl, a⟩
  | i + 1, _, _, _, .cons _ r, h => dpAll_get (i := i) r h
theorem slots_sh : ∀ {l : List Slot}, (∀ s ∈ l, SlotOk s) → l.length ≤ 100 → SeqAt.shaped (.tuple (l.map slotD)) = true := fun {l} h n => by
  have lay : ∀ l : List Slot, (∀ s ∈ l, SlotOk s) → PyData.canLayAll0 (l.map slotD) = true := fun l => by
    induction l with
    | nil => exact fun _ => rfl
    | cons s l ih => exact fun h => Bool.and_eq_true_iff.mpr ⟨SeqAt.canLay_of_shaped (slot_sh (h s List.mem_cons_self)), ih fun x hx => h x (List.mem_cons_of_mem _ hx)⟩
  have dep : ∀ l : List Slot, PyData.depthAll (l.map slotD) ≤ 1 := fun l => by
    induction l with
    | nil => exact Nat.zero_le _
    | cons s l ih =>
      refine Nat.max_le.mpr ⟨?_, ih⟩
      cases s with
      | nm => exact Nat.zero_le _
      | num => exact Nat.zero_le _
      | ws l =>
        show PyData.depthAll (l.map PyData.str) + 1 ≤ 1
        rw [strs_dep]
        decide
  refine Bool.and_eq_true_iff.mpr ⟨lay l h, decide_eq_true ?_⟩
  show PyData.depthAll (l.map slotD) + 1 ≤ 64
  have := dep l
  omega
theorem zipW_take {α β γ : Type} (f : α → β → γ) : ∀ {i : Nat} {as : List α} {bs : List β} {a : α} {b : β}, as[i]? = some a → bs[i]? = some b → (List.zipWith f as bs).take (i + 1) = (List.zipWith f as bs).take i ++ [f a b] := fun {i as bs a b} h1 h2 => by
  rw [List.take_add_one, List.getElem?_zipWith, h1, h2]
  rfl
theorem slA_of {K : PySem.W.Frag} {H : Hp} {a : Addr} {xs : List V} {lo hi : Option Int} {Q : VK} (h : SqT K H a xs) (q : ∀ c H', Same H H' → SqT K H' c (cutV xs lo hi) → Q (.ref c) H') : rSlA K (.ref a) lo hi H Q := by
  refine ⟨a, xs, rfl, h, fun z => ?_, fun _ p np => q _ _ (same_upd np) (SqT.of upd_same)⟩
  have e : cutV xs lo hi = xs := by
    unfold cutV
    rw [z.1, z.2, List.drop_zero, Nat.sub_zero, List.take_length]
  exact q _ _ (fun _ _ z => z) (by rw [e]; exact h)
theorem catA_of {K : PySem.W.Frag} {H : Hp} {a b : Addr} {xs ys : List V} {Q : VK} (h : SqT K H a xs) (g : SqT K H b ys) (l : xs.length + ys.length ≤ sizeLine) (q : ∀ c H', Same H H' → SqT K H' c (xs ++ ys) → Q (.ref c) H') : rCatA K (.ref a) (.ref b) H Q :=
  ⟨a, b, xs, ys, rfl, rfl, h, g, l, fun e => q _ _ (fun _ _ z => z) (by rw [e]; exact g), fun _ e => q _ _ (fun _ _ z => z) (by rw [e, List.append_nil]; exact h), fun _ _ p np => q _ _ (same_upd np) (SqT.of upd_same)⟩
theorem repA_of {K : PySem.W.Frag} {H : Hp} {a : Addr} {xs : List V} {k : Int} {Q : VK} (h : SqT K H a xs) (ne : xs ≠ []) (k1 : -20000 ≤ k) (k2 : k ≤ 20000) (l : xs.length ≤ 500) (q : ∀ c H', Same H H' → SqT K H' c (List.replicate k.toNat xs).flatten → Q (.ref c) H') : Tma.rRepA K (.ref a) (.int k) H Q :=
  ⟨a, k, xs, rfl, rfl, h, ne, k1, k2, l, fun e => q _ _ (fun _ _ z => z) (by rw [e]; show SqT K H a (xs ++ []); rw [List.append_nil]; exact h), fun _ p np => q _ _ (same_upd np) (SqT.of upd_same)⟩
def rowsD (more : Bool) (ss : List Slot) : List PyData := if more = true then ss.map slotD ++ [.str ".."] else ss.map slotD
def slotsOf (more : Bool) (ss : List Slot) (m : Nat) : List Slot := if more = true then ss ++ (List.replicate (m - ss.length) (ss.drop (ss.length - 1))).flatten else ss
theorem cut_init (xs : List V) (h : 1 ≤ xs.length) : cutV xs none (some (-1)) = xs.take (xs.length - 1) := by
  unfold cutV
  rw [HT.sIx_none]
  have e : HT.sIx xs.length xs.length (some (-1)) = xs.length - 1 := by
    unfold HT.sIx
    simp
    omega
  rw [e]
  rfl
theorem cut_ult (xs : List V) (h : 2 ≤ xs.length) : cutV xs (some (-2)) (some (-1)) = (xs.drop (xs.length - 2)).take 1 := by
  unfold cutV
  have e1 : HT.sIx xs.length 0 (some (-2)) = xs.length - 2 := by
    unfold HT.sIx
    simp
    omega
  have e2 : HT.sIx xs.length xs.length (some (-1)) = xs.length - 1 := by
    unfold HT.sIx
    simp
    omega
  rw [e1, e2, show xs.length - 1 - (xs.length - 2) = 1 by omega]
theorem dpAll_take' {K : PySem.W.Frag} {H : Hp} : ∀ {n : Nat} {xs : List V} {ds : List PyData}, DpAll K H xs ds → DpAll K H (xs.take n) (ds.take n)
  | 0, _, _, _ => .nil
  | _ + 1, _, _, .nil => .nil
  | n + 1, _, _, .cons a r => .cons a (dpAll_take' (n := n) r)
theorem dpAll_app' {K : PySem.W.Frag} {H : Hp} : ∀ {xs ys : List V} {ds es : List PyData}, DpAll K H xs ds → DpAll K H ys es → DpAll K H (xs ++ ys) (ds ++ es)
  | _, _, _, _, .nil, h => h
  | _, _, _, _, .cons a r, h => .cons a (dpAll_app' r h)
theorem dpAll_rep {K : PySem.W.Frag} {H : Hp} {xs : List V} {ds : List PyData} (h : DpAll K H xs ds) : ∀ n : Nat, DpAll K H (List.replicate n xs).flatten (List.replicate n ds).flatten
  | 0 => .nil
  | n + 1 => by
    rw [List.replicate_succ, List.replicate_succ, List.flatten_cons, List.flatten_cons]
    exact dpAll_app' h (dpAll_rep h n)
theorem map_rep {α β : Type} (f : α → β) (l : List α) (n : Nat) : (List.replicate n l).flatten.map f = (List.replicate n (l.map f)).flatten := by
  rw [List.map_flatten, List.map_replicate]
theorem mem_rep {α : Type} {l : List α} {n : Nat} {x : α} (h : x ∈ (List.replicate n l).flatten) : x ∈ l := by
  obtain ⟨m, hm, hx⟩ := List.mem_flatten.mp h
  rw [(List.mem_replicate.mp hm).2] at hx
  exact hx
theorem slot_ndots (s : Slot) : PyData.eqv (.tuple [slotD s]) (.tuple [.str ".."]) = false := by
  cases s with
  | nm => decide +kernel
  | num => decide +kernel
  | ws l => rfl
section
variable {P : Program} {w : World} {K : PySem.W.Frag} {mg : Str → Option Value} {base : Heap} {k : Nat}
def sp_things_inM (K : PySem.W.Frag) : Sp := fun vs H Q _ => ∃ (sl wl : Addr) (xs : List V) (more : Bool) (ss : List Slot) (ws : List Str), vs = [.ref sl, .ref wl] ∧ (∀ H, SqT K H sl xs) ∧ (∀ H, DpAll K H xs (rowsD more ss)) ∧ (∀ s ∈ ss, SlotOk s) ∧ 1 ≤ ss.length ∧ ss.length ≤ 100 ∧
  SqL K H wl (ws.map V.str) ∧ ws.length ≤ 4001 ∧ (∀ z ∈ ws, z.length ≤ 5000) ∧ (fitsB (slotsOf more ss ws.length) ws = true → ∀ H' p, Same H H' → H p = none → H' p = some (.lst (List.zipWith thV (slotsOf more ss ws.length) ws)) → Q (.ref p) H') ∧ (fitsB (slotsOf more ss ws.length) ws = false → ∀ H', Same H H' → Q .non H')
set_option maxHeartbeats 16000000 in
theorem ok_things_inM (T : Defs K mg) : FnOk P w K mg base CX0 (k + 3) T.a_things_in T.d_things_in ["slots", "words"] (sp_things_inM K) := by
  have G_fits : FnOk P w K mg base CX0 (k + 2) _ _ _ _ := ok_fits (k := k) T
  refine T.F_things_in.ok sc_things_in (fun vs H Q E h => ?_) (fun cdv A outer s H vs Q E hr h => ?_)
  · obtain ⟨sl, wl, xs, more, ss, ws, rfl, _⟩ := h
    rfl
  · obtain ⟨sl, wl, xs, more, ss, ws, rfl, hsl, hdp, hok0, l1, l100, hwl, w1000, hz, qy, qn⟩ := h
    refine ⟨_, PSs.nox
(Evl.pss_cut (ps_if (pt_cmpR (r := rEqD K) (op_eqD hr.units) (pe_slice (r := rSlA K) sl_tupA (pv 0) (po_some (pe_un un_neg (pe_int))) po_none) (pe_tup (pa_cons (pe_str) pa_nil)) (nomark _))
      (pss_one (ps_set (i := 0) sc_things_in.nd rfl (.inl rfl) (pe_op op_catA (pe_slice (r := rSlA K) sl_tupA (pv 0) po_none (po_some (pe_un un_neg (pe_int)))) (pe_op Tma.op_repA (pe_slice (r := rSlA K) sl_tupA (pv 0) (po_some (pe_un un_neg (pe_int))) (po_some (pe_un un_neg (pe_int)))) (pe_op op_add (pe_op op_sub (pe_callB (r := rLenS K) call_lenS (by rfl) T.z_len (by decide +kernel) (pa_cons (pv 1) pa_nil)) (pe_callB (r := rLenS K) call_lenS (by rfl) T.z_len (by decide +kernel) (pa_cons (pv 0) pa_nil))) (pe_int))))))
      pss_nil)
    (pss_cons (ps_if (PW.pt (pw_or (pt_cmpR op_ne (pe_callB (r := rLenS K) call_lenS (by rfl) T.z_len (by decide +kernel) (pa_cons (pv 1) pa_nil)) (pe_callB (r := rLenS K) call_lenS (by rfl) T.z_len (by decide +kernel) (pa_cons (pv 0) pa_nil)) (nomark _)) (pw_or1 (pt_not (pt_val (pe_callB (r := rAll K) (cr_all rfl) (by rfl) T.z_all (by decide +kernel) (pa_cons (pe_lc (own := [("slot", 2), ("word", 3)]) (g := gTup K 2 (gCons (gName 2) (gCons (gName 3) gNil))) rfl sc_things_in.nd (Zt.pi_zipTL (by rfl) T.z_zip (pa_cons (pv 0) (pa_cons (pv 1) pa_nil))) (blkOk_by (N := N_things_in) (sc := defScope s_things_in) (by decide +kernel)) (fun _ _ _ _ _ => (pg_tup rfl (pgs_cons (pg_name (i := 2) sc_things_in.nd rfl (.inl rfl)) (pgs_cons (pg_name (i := 3) sc_things_in.nd rfl (.inl rfl)) pgs_nil)))) (fun _ _ _ _ _ => pts_nil) (fun _ _ _ _ _ => (pe_call G_fits hr (by rfl) T.g_fits T.F_fits.kp T.b_fits .nil pass0 (pa_cons (pv 2) (pa_cons (pv 3) pa_nil))))) pa_nil)))))))
      (pss_one (ps_ret (pe_non)))
      pss_nil)
    (pss_one (ps_ret (pe_lc (own := [("slot", 2), ("word", 3)]) (g := gTup K 2 (gCons (gName 2) (gCons (gName 3) gNil))) rfl sc_things_in.nd (Zt.pi_zipTL (by rfl) T.z_zip (pa_cons (pv 0) (pa_cons (pv 1) pa_nil))) (blkOk_by (N := N_things_in) (sc := defScope s_things_in) (by decide +kernel)) (fun _ _ _ _ _ => (pg_tup rfl (pgs_cons (pg_name (i := 2) sc_things_in.nd rfl (.inl rfl)) (pgs_cons (pg_name (i := 3) sc_things_in.nd rfl (.inl rfl)) pgs_nil)))) (fun _ _ _ _ _ => pts_nil) (fun _ _ _ _ _ => (pe_ifExp (pt_cmpR (r := rEqD K) (op_eqD hr.units) (pv 2) (pe_str) (nomark _)) (pe_callTy call_int_str (by rfl) T.z_int (by decide +kernel) (pa_cons (pv 3) pa_nil)) (pv 3))))))))
      , ?_⟩
    have w5 : ws.length ≤ 5000 := by omega
    have xl0 : xs.length = (rowsD more ss).length := dpAll_len (hdp H)
    have hok' : ∀ s ∈ slotsOf more ss ws.length, SlotOk s := fun s hs => by
      unfold slotsOf at hs
      split at hs
      · rcases List.mem_append.mp hs with h | h
        · exact hok0 s h
        · exact hok0 s (List.mem_of_mem_drop (mem_rep h))
      · exact hok0 s hs
    have lM' : (slotsOf more ss ws.length).length ≤ 5000 := by
      unfold slotsOf
      split
      · rw [List.length_append, List.length_flatten, List.map_replicate, List.sum_replicate_nat, List.length_drop, show ss.length - (ss.length - 1) = 1 by omega]
        omega
      · omega
    refine ⟨fun σ Hz => ∃ (sl' : Addr) (xs' : List V), σ = [some (.ref sl'), some (.ref wl), none, none] ∧ Same H Hz ∧ SqT K Hz sl' xs' ∧ ∀ Hx : Hp, DpAll K Hx xs' ((slotsOf more ss ws.length).map slotD), ?_, fun σ H2 mid => ?_⟩
    · refine ⟨.ref sl, rfl, 1, rfl, _, rfl, ?_⟩
      unfold tNoPart
      dsimp only
      refine slA_of (hsl H) fun c1 H1 s1 hc1 => ?_
      refine ⟨one_sz, fun t nt => ?_⟩
      rw [show cutV xs (some (-1 : Int)) none = xs.drop (xs.length - 1) from cut_last xs] at hc1
      have st := same_upd (o := .tup [.str ("..") ]) nt
      cases more with
      | false =>
        have hdp : ∀ H : Hp, DpAll K H xs (ss.map slotD) := hdp
        have xl : xs.length = ss.length := (dpAll_len (hdp H)).trans (List.length_map _)
        obtain ⟨s0, es0⟩ : ∃ s0, ss.drop (ss.length - 1) = [s0] := by
          cases e : ss.drop (ss.length - 1) with
          | nil =>
            have := congrArg List.length e
            rw [List.length_drop] at this
            simp at this
            omega
          | cons a b =>
            have := congrArg List.length e
            rw [List.length_drop, List.length_cons] at this
            have : b = [] := List.length_eq_zero_iff.mp (by omega)
            exact ⟨a, by rw [this]⟩
        have hs0 : SlotOk s0 := hok0 s0 (List.mem_of_mem_drop (by rw [es0]; exact List.mem_cons_self))
        have dd : ∀ Hx, DpAll K Hx (xs.drop (xs.length - 1)) [slotD s0] := fun Hx => by
          have := dpAll_drop (n := xs.length - 1) (hdp Hx)
          rw [← List.map_drop, xl, es0] at this
          rw [xl]
          exact this
        have sh0 : SeqAt.shaped (.tuple [slotD s0]) = true := slots_sh (l := [s0]) (fun s hs => by rw [List.mem_singleton.mp hs]; exact hs0) (by show 1 ≤ 100; decide)
        refine ⟨.tuple [slotD s0], .tuple [.str ".."], .tup (sqT_same st hc1) (dd _), .tup (SqT.of upd_same) (.cons (.str _) .nil), sh0, by decide +kernel, _, rfl, ?_⟩
        rw [slot_ndots]
        exact iteF ⟨sl, xs, rfl, s1.trans st, hsl _, hdp⟩
      | true =>
        have hdp : ∀ H : Hp, DpAll K H xs (ss.map slotD ++ [.str ".."]) := hdp
        have xl : xs.length = ss.length + 1 := by
          have := dpAll_len (hdp H)
          rw [List.length_append, List.length_map] at this
          exact this
        have dd : ∀ Hx, DpAll K Hx (xs.drop (xs.length - 1)) [.str ".."] := fun Hx => by
          have := dpAll_drop (n := xs.length - 1) (hdp Hx)
          rw [xl, Nat.add_sub_cancel, List.drop_left' (List.length_map _)] at this
          rw [xl, Nat.add_sub_cancel]
          exact this
        refine ⟨.tuple [.str ".."], .tuple [.str ".."], .tup (sqT_same st hc1) (dd _), .tup (SqT.of upd_same) (.cons (.str _) .nil), by decide +kernel, by decide +kernel, _, rfl, ?_⟩
        rw [show PyData.eqv (.tuple [.str ".."]) (.tuple [.str ".."]) = true by decide +kernel]
        refine iteT ?_
        have s1t := s1.trans st
        refine ⟨.ref sl, rfl, 1, rfl, _, rfl, ?_⟩
        show rSlA K (.ref sl) none (some (-1 : Int)) _ _
        refine slA_of (hsl _) fun c2 H3 s3 hc2 => ?_
        refine ⟨.ref sl, rfl, 2, rfl, _, rfl, 1, rfl, _, rfl, ?_⟩
        show rSlA K (.ref sl) (some (-2 : Int)) (some (-1 : Int)) _ _
        refine slA_of (hsl _) fun c3 H4 s4 hc3 => ?_
        rw [show cutV xs none (some (-1 : Int)) = xs.take (xs.length - 1) from cut_init xs (by omega)] at hc2
        rw [show cutV xs (some (-2 : Int)) (some (-1 : Int)) = (xs.drop (xs.length - 2)).take 1 from cut_ult xs (by omega)] at hc3
        have s14 := (s1t.trans s3).trans s4
        have one : ((xs.drop (xs.length - 2)).take 1).length = 1 := by rw [List.length_take, List.length_drop]; omega
        have tkl : (xs.take (xs.length - 1)).length = ss.length := by rw [List.length_take]; omega
        refine ⟨.ref wl, rfl, wl, _, rfl, .inl (sq_same s14 hwl), .ref sl, rfl, sl, _, rfl, .inr (hsl _), _, _, rfl, rfl, _, _, rfl, rfl, ?_⟩
        rw [List.length_map, xl]
        refine repA_of hc3 (fun z => by rw [z] at one; cases one) (by omega) (by omega) (by omega) fun c4 H5 s5 hc5 => ?_
        have kn : ((ws.length : Int) - ((ss.length + 1 : Nat) : Int) + 1).toNat = ws.length - ss.length := by omega
        rw [kn] at hc5
        refine catA_of (sqT_same (s4.trans s5) hc2) hc5 (by rw [tkl, List.length_flatten, List.map_replicate, List.sum_replicate_nat, one, sizeLine_eq]; omega) fun c6 H6 s6 hc6 => ?_
        refine ⟨c6, _, rfl, (s14.trans s5).trans s6, hc6, fun Hx => ?_⟩
        show DpAll K Hx _ ((ss ++ (List.replicate (ws.length - ss.length) (ss.drop (ss.length - 1))).flatten).map slotD)
        rw [List.map_append, map_rep]
        have d1 := dpAll_take' (n := xs.length - 1) (hdp Hx)
        rw [xl, Nat.add_sub_cancel, List.take_left' (List.length_map _)] at d1
        have d2 := dpAll_take' (n := 1) (dpAll_drop (n := xs.length - 2) (hdp Hx))
        have e2 : ((ss.map slotD ++ [PyData.str ".."]).drop (ss.length - 1)).take 1 = (ss.drop (ss.length - 1)).map slotD := by
          rw [List.drop_append_of_le_length (by rw [List.length_map]; omega), List.take_append_of_le_length (by rw [List.length_drop, List.length_map]; omega), ← List.map_drop, List.take_of_length_le (by rw [List.length_map, List.length_drop]; omega)]
        rw [xl, show ss.length + 1 - 2 = ss.length - 1 by omega, e2] at d2
        rw [xl, Nat.add_sub_cancel, show ss.length + 1 - 2 = ss.length - 1 by omega]
        exact dpAll_app' d1 (dpAll_rep d2 _)
    obtain ⟨sl', xs', rfl, s12, hsl2, hdp'⟩ := mid
    have xl' : xs'.length = (slotsOf more ss ws.length).length := (dpAll_len (hdp' H2)).trans (List.length_map _)
    have hok := hok'
    have lM : (slotsOf more ss ws.length).length ≤ 5000 := lM'
    generalize slotsOf more ss ws.length = slots at hdp' xl' hok lM qy qn
    have hwl2 := sq_same s12 hwl
    have wlen : (ws.map V.str).length = ws.length := List.length_map _
    refine ⟨.ref wl, rfl, wl, _, rfl, .inl hwl2, .ref sl', rfl, sl', _, rfl, .inr (hsl2), rfl, _, rfl, ite2 (fun c => ?_) fun c => ?_⟩
    · refine qn ?_ _ s12
      unfold fitsB
      rw [decide_eq_false fun e => ?_]
      · rfl
      · have c : (!decide (V.int ((ws.map V.str).length : Int) = V.int (xs'.length : Int))) = true := c
        rw [wlen, xl', e] at c
        simp at c
    · have hl : ws.length = slots.length := by
        have c2 : (!decide (V.int ((ws.map V.str).length : Int) = V.int (xs'.length : Int))) = false := by simpa using c
        have c3 : V.int ((ws.map V.str).length : Int) = V.int (xs'.length : Int) := by simpa using c2
        injection c3 with c3
        rw [wlen, xl'] at c3
        omega
      have zlen : (List.zipWith fitS slots ws).length = slots.length := by rw [List.length_zipWith]; omega
      have zlen2 : (List.zipWith thV slots ws).length = slots.length := by rw [List.length_zipWith]; omega
      refine ⟨.ref sl', rfl, .ref wl, rfl, sl', wl, xs', ws.map V.str, rfl, hsl2, hwl2, fun C nC => ?_⟩
      refine lc_it (Zt.walk_zipTL (xs := xs') (ys := ws.map V.str) (n := slots.length) (by omega) (by omega) (.inl (by omega))) (fun i Hx => Same H2 Hx ∧ Hx C = some (.lst (((List.zipWith fitS slots ws).take i).map V.bl))) ⟨same_upd nC, upd_same⟩ (fun i Hx _ pv => ⟨sqT_same pv.1 hsl2, sq_same pv.1 hwl2⟩) (fun i v Hx₀ Hx hi pv yy => ?_) (fun Hx pv => ?_)
      · obtain ⟨U, x, y, rfl, nU, rfl, ex, ey⟩ := yy
        obtain ⟨sx, eC⟩ := pv
        obtain ⟨d, ed, hd⟩ := dpAll_get (hdp' (upd Hx₀ U (.tup [x, y]))) ex
        have ei := List.getElem?_eq_getElem (show i < slots.length from hi)
        rw [List.getElem?_map, ei] at ed
        have ed := Option.some.inj ed
        subst ed
        have wi : i < ws.length := by omega
        have ew := List.getElem?_eq_getElem wi
        have ey : (ws.map V.str)[i]? = some y := ey
        rw [List.getElem?_map, ew] at ey
        have ey := Option.some.inj ey
        subst ey
        have sU := same_upd (o := .tup [x, V.str ws[i]]) nU
        refine ⟨U, _, rfl, SqT.of upd_same, rfl, _, _, rfl, _, [], rfl, rfl, ?_⟩
        refine ⟨rfl, yes_ ⟨x, rfl, .str ws[i], rfl, x, slots[i], ws[i], rfl, hd, hok _ (List.getElem_mem _), hz _ (List.getElem_mem _), fun H3 s3 => ?_⟩⟩
        have s03 := sU.trans s3
        refine ⟨_, s03 _ _ eC, small5000 (by rw [List.length_map, List.length_take]; omega), same_set (sx.trans s03) nC, ?_⟩
        rw [upd_same, zipW_take fitS ei ew, List.map_append]
        rfl
      · obtain ⟨sx, eC⟩ := pv
        rw [List.take_of_length_le (by omega)] at eC
        refine ⟨C, _, rfl, SqL.of eC, _, rfl, ?_⟩
        have s3 := s12.trans sx
        cases fb : (List.zipWith fitS slots ws).all id with
        | false =>
          refine iteT (qn ?_ _ s3)
          unfold fitsB
          rw [fb, Bool.and_false]
        | true =>
          have q1 := qy (by unfold fitsB; rw [fb, decide_eq_true hl]; rfl)
          refine iteF ?_
          have hwl3 := sq_same s3 hwl
          refine ⟨.ref sl', rfl, .ref wl, rfl, sl', wl, xs', ws.map V.str, rfl, sqT_same sx hsl2, hwl3, fun D nD => ?_⟩
          refine lc_it (Zt.walk_zipTL (xs := xs') (ys := ws.map V.str) (n := slots.length) (by omega) (by omega) (.inl (by omega))) (fun i Hy => Same Hx Hy ∧ Hy D = some (.lst ((List.zipWith thV slots ws).take i))) ⟨same_upd nD, upd_same⟩ (fun i Hy _ pv => ⟨sqT_same (sx.trans pv.1) hsl2, sq_same pv.1 hwl3⟩) (fun i v Hy₀ Hy hi pv yy => ?_) (fun Hy pv => ?_)
          · obtain ⟨U, x, y, rfl, nU, rfl, ex, ey⟩ := yy
            obtain ⟨sy, eD⟩ := pv
            obtain ⟨d, ed, hd⟩ := dpAll_get (hdp' (upd Hy₀ U (.tup [x, y]))) ex
            have ei := List.getElem?_eq_getElem (show i < slots.length from hi)
            rw [List.getElem?_map, ei] at ed
            have ed := Option.some.inj ed
            subst ed
            have wi : i < ws.length := by omega
            have ew := List.getElem?_eq_getElem wi
            have ey : (ws.map V.str)[i]? = some y := ey
            rw [List.getElem?_map, ew] at ey
            have ey := Option.some.inj ey
            subst ey
            have fi : fitS slots[i] ws[i] = true := by
              have m : (List.zipWith fitS slots ws)[i]? = some (fitS slots[i] ws[i]) := by rw [List.getElem?_zipWith, ei, ew]
              exact List.all_eq_true.mp fb _ (List.mem_of_getElem? m)
            have hsi := hok _ (List.getElem_mem (show i < slots.length from hi))
            have zwi := hz _ (List.getElem_mem wi)
            have tkD := zipW_take thV ei ew
            have sU := same_upd (o := .tup [x, V.str ws[i]]) nU
            have eD2 := sU _ _ eD
            have sy2 := same_set (o := .lst ((List.zipWith thV slots ws).take i ++ [thV slots[i] ws[i]])) (sy.trans sU) nD
            refine ⟨U, _, rfl, SqT.of upd_same, rfl, _, _, rfl, _, [], rfl, rfl, ?_⟩
            have sm : ((List.zipWith thV slots ws).take i).length < sizeLine := small5000 (by rw [List.length_take]; omega)
            generalize slots[i] = sl0 at hd hsi fi tkD sy2
            generalize ws[i] = z0 at fi zwi tkD sy2 sU eD2 hd ⊢
            refine ⟨rfl, yes_ ⟨x, rfl, slotD sl0, .str "number", hd, .str _, slot_sh hsi, by decide +kernel, _, rfl, ?_⟩⟩
            cases sl0 with
            | num =>
              rw [show PyData.eqv (slotD .num) (.str ("number" : Str)) = true by decide +kernel]
              have fi : plainS z0 = true := fi
              have z10 : z0.length ≤ 640 := by
                unfold plainS at fi
                simp only [Bool.and_eq_true, decide_eq_true_eq] at fi
                have := fi.1.1.2
                omega
              exact iteT ⟨.str z0, rfl, z0, numS z0, rfl, plain_reads fi, z10, _, eD2, sm, sy2, by rw [upd_same, tkD]; rfl⟩
            | nm =>
              rw [show PyData.eqv (slotD .nm) (.str ("number" : Str)) = false by decide +kernel]
              exact iteF ⟨.str z0, rfl, _, eD2, sm, sy2, by rw [upd_same, tkD]; rfl⟩
            | ws l =>
              rw [show PyData.eqv (slotD (.ws l)) (.str ("number" : Str)) = false from rfl]
              exact iteF ⟨.str z0, rfl, _, eD2, sm, sy2, by rw [upd_same, tkD]; rfl⟩
          · obtain ⟨sy, eD⟩ := pv
            rw [List.take_of_length_le (by omega)] at eD
            exact q1 _ D (s3.trans sy) (up0 s3 nD) eD
end
end Th
namespace Th
open PySem PySem.Spec PyProof.Rows L2
theorem dig_in (c : Nat) : decide (c ∈ ("0123456789" : Str).cps.toList) = (!decide ([c] < ("0" : Str).cps.toList) && !decide (("9" : Str).cps.toList < [c])) := by
  have e1 : ("0123456789" : Str).cps.toList = [48, 49, 50, 51, 52, 53, 54, 55, 56, 57] := by decide +kernel
  have e2 : ("0" : Str).cps.toList = [48] := by decide +kernel
  have e3 : ("9" : Str).cps.toList = [57] := by decide +kernel
  rw [e1, e2, e3]
  by_cases h1 : 48 ≤ c
  · rw [show decide ([c] < [48]) = false from decide_eq_false (not_lt_one h1)]
    by_cases h2 : c ≤ 57
    · rw [show decide (([57] : List Nat) < [c]) = false from decide_eq_false (not_lt_one h2)]
      refine decide_eq_true ?_
      simp only [List.mem_cons, List.not_mem_nil, or_false]
      omega
    · rw [show decide (([57] : List Nat) < [c]) = true from decide_eq_true (lt_one (by omega))]
      refine decide_eq_false ?_
      simp only [List.mem_cons, List.not_mem_nil, or_false]
      omega
  · rw [show decide (([c] : List Nat) < [48]) = true from decide_eq_true (lt_one (by omega))]
    refine decide_eq_false ?_
    simp only [List.mem_cons, List.not_mem_nil, or_false]
    omega
def plV (z : Str) : V := if plainS z = true then .int (numS z) else .non
section
variable {P : Program} {w : World} {K : PySem.W.Frag} {mg : Str → Option Value} {base : Heap} {k : Nat}
def sp_l_plain : Sp := fun vs H Q _ => ∃ s, vs = [.str s] ∧ s.length ≤ 5000 ∧ ∀ H', Same H H' → Q (plV s) H'
set_option maxHeartbeats 8000000 in
theorem ok_l_plain (T : Defs K mg) : FnOk P w K mg base CX0 (k + 1) T.a_l_plain T.d_l_plain ["_law_word"] sp_l_plain := by
  refine T.F_l_plain.ok sc_l_plain (fun vs H Q E h => ?_) (fun cdv A outer s H vs Q E hr h => ?_)
  · obtain ⟨z, rfl, _⟩ := h
    rfl
  · obtain ⟨z, rfl, zl, q⟩ := h
    refine ⟨_, PSs.nox
(pss_cons (ps_if (PW.pt (pw_or (pt_not (pt_chain op_le op_le (pe_int) (pe_callB call_len_str (by rfl) T.z_len (by decide +kernel) (pa_cons (pv 0) pa_nil)) (pe_int))) (pw_or1 (pt_not (pt_val (pe_callB (r := rAll K) (cr_all rfl) (by rfl) T.z_all (by decide +kernel) (pa_cons (pe_lc (own := [("_law_sign", 1)]) (g := gName 1) rfl sc_l_plain.nd (pi_str (pv 0)) (blkOk_by (N := N_l_plain) (sc := defScope s_l_plain) (by decide +kernel)) (fun _ _ _ _ _ => (pg_name (i := 1) sc_l_plain.nd rfl (.inl rfl))) (fun _ _ _ _ _ => pts_nil) (fun _ _ _ _ _ => (pe_cmpR op_in_sign (pv 1) (pe_str) (by rfl)))) pa_nil)))))))
      (pss_one (ps_ret (pe_non)))
      pss_nil)
    (pss_one (ps_ret (pe_ifExp (PW.pt (pw_or (pt_cmpR op_eq (pv 0) (pe_str) (nomark _)) (pw_or1 (pt_cmpR op_ne (pe_ix ix_str (pv 0) (pe_int) (fun _ _ => rfl)) (pe_str) (nomark _))))) (pe_callTy call_int_str (by rfl) T.z_int (by decide +kernel) (pa_cons (pv 0) pa_nil)) (pe_non)))))
      , ?_⟩
    have zs : z.length ≤ sizeLine := by rw [sizeLine_eq]; omega
    have q0 : plainS z = false → ∀ H', Same H H' → Q .non H' := fun e H' s => by
      have := q H' s
      unfold plV at this
      rw [e] at this
      exact this
    refine ⟨.str z, rfl, z, rfl, zs, 1, (z.length : Int), rfl, rfl, decide ((1 : Int) ≤ (z.length : Int)), rfl, ite2 (fun c1 => ?_) (fun c1 => ?_)⟩
    · refine ⟨(z.length : Int), 10, rfl, rfl, _, rfl, ite2 (fun c2 => ?_) (fun c2 => ?_)⟩
      · have c2 : ¬ z.length ≤ 10 := fun g => by
          rw [show decide ((z.length : Int) ≤ 10) = true from decide_eq_true (by omega)] at c2
          cases c2
        have e : plainS z = false := by
          unfold plainS
          rw [decide_eq_false c2, Bool.and_false, Bool.false_and, Bool.false_and]
        exact iteT (q0 e _ fun _ _ e => e)
      · have c2 : z.length ≤ 10 := Decidable.byContradiction fun g => c2 (by rw [decide_eq_false (show ¬ (z.length : Int) ≤ 10 by omega)]; rfl)
        have c1 : 1 ≤ z.length := by have := of_decide_eq_true c1; omega
        obtain ⟨c0, cs, ez⟩ : ∃ c0 cs, z.cps.toList = c0 :: cs := by
          cases e : z.cps.toList with
          | nil => have : z.cps.toList.length = z.length := rfl; rw [e] at this; simp at this; omega
          | cons a b => exact ⟨a, b, rfl⟩
        have e : plainS z = (!(decide (c0 = 48) && !decide (z = ("0" : Str))) && alS "0" "9" z) := by
          unfold plainS
          rw [decide_eq_true c1, decide_eq_true c2, ez]
          show (!(decide (some c0 = some 48) && _) && _) = _
          rw [show decide (some c0 = some 48) = decide (c0 = 48) by simp]
        have h0 : (V.str ⟨#[c0]⟩ = V.str ("0" : Str)) ↔ c0 = 48 := ⟨fun h => by
          injection h with h
          have h := congrArg (fun s : Str => s.cps.toList) h
          have h : [c0] = [48] := h
          injection h, fun h => by rw [h]; rfl⟩
        have hz : (V.str z = V.str ("0" : Str)) ↔ z = ("0" : Str) := ⟨fun h => by injection h, fun h => by rw [h]⟩
        refine ⟨.str z, rfl, z, rfl, fun C nC => ?_⟩
        refine lc_it (walk_str (z := z)) (fun i Hx => Same H Hx ∧ Hx C = some (.lst (((z.cps.toList.take i).map fun c => !decide ([c] < ("0" : Str).cps.toList) && !decide (("9" : Str).cps.toList < [c])).map V.bl))) ⟨same_upd nC, upd_same⟩ (fun _ _ _ _ => trivial) (fun i v Hx Hx' hi pv yy => ?_) (fun Hx pv => ?_)
        · obtain ⟨rfl, c, ec, rfl⟩ := yy
          obtain ⟨sx, eC⟩ := pv
          have zl2 : z.cps.toList.length = z.length := rfl
          have hlen : ((z.cps.toList.take i).map fun c => !decide ([c] < ("0" : Str).cps.toList) && !decide (("9" : Str).cps.toList < [c])).length ≤ 10 := by rw [List.length_map, List.length_take]; omega
          have tk1 : z.cps.toList.take (i + 1) = z.cps.toList.take i ++ [c] := by rw [List.take_add_one, Array.getElem?_toList, ec]; rfl
          refine ⟨rfl, yes_ ⟨.str ⟨#[c]⟩, rfl, c, "0123456789", rfl, rfl, _, eC, small5000 (by rw [List.length_map]; omega), same_set sx nC, ?_⟩⟩
          rw [upd_same, tk1, List.map_append, List.map_append, dig_in]
          rfl
        · obtain ⟨sx, eC⟩ := pv
          have ea : (((z.cps.toList.take z.cps.size).map fun c => !decide ([c] < ("0" : Str).cps.toList) && !decide (("9" : Str).cps.toList < [c])).all id) = alS "0" "9" z := by
            rw [List.take_of_length_le (by rw [Array.length_toList]; exact Nat.le_refl _), List.all_map]
            rfl
          refine ⟨C, _, rfl, SqL.of eC, _, rfl, ?_⟩
          rw [ea]
          cases ha : alS "0" "9" z with
          | false =>
            rw [ha, Bool.and_false] at e
            exact iteT (q0 e _ sx)
          | true =>
            rw [ha, Bool.and_true] at e
            refine iteF ?_
            have qy : (!(decide (c0 = 48) && !decide (z = ("0" : Str)))) = true → ∃ a n, [V.str z] = [V.str a] ∧ intText? a = some n ∧ a.length ≤ 640 ∧ Q (.int n) Hx := fun h => by
              rw [h] at e
              refine ⟨z, numS z, rfl, plain_reads e, by omega, ?_⟩
              have := q Hx sx
              unfold plV at this
              rw [e] at this
              exact this
            refine ⟨.str z, rfl, rfl, _, rfl, ite2 (fun c3 => ⟨.str z, rfl, ?_⟩) (fun c3 => ⟨.str z, rfl, z, 0, c0, rfl, rfl, zs, by rw [ez]; exact atI_nat (j := 0) rfl, rfl, _, rfl, ite2 (fun c4 => ⟨.str z, rfl, ?_⟩) (fun c4 => ?_)⟩)⟩
            · have c3 := hz.mp (of_decide_eq_true c3)
              exact qy (by rw [decide_eq_true c3, Bool.not_true, Bool.and_false]; rfl)
            · have c4 : ¬ c0 = 48 := fun g => by
                have c4 : (!decide (V.str ⟨#[c0]⟩ = V.str ("0" : Str))) = true := c4
                rw [decide_eq_true (h0.mpr g)] at c4
                cases c4
              exact qy (by rw [decide_eq_false c4, Bool.false_and]; rfl)
            · have c3 : ¬ z = ("0" : Str) := fun g => c3 (decide_eq_true (hz.mpr g))
              have c4 : c0 = 48 := Decidable.byContradiction fun g => c4 (by
                show (!decide (V.str ⟨#[c0]⟩ = V.str ("0" : Str))) = true
                rw [decide_eq_false (fun h => g (h0.mp h))]
                rfl)
              rw [decide_eq_true c4, decide_eq_false c3] at e
              exact q0 e _ sx
    · have e : plainS z = false := by
        unfold plainS
        rw [show decide (1 ≤ z.length) = false from decide_eq_false fun g => c1 (decide_eq_true (by omega))]
        rfl
      refine ⟨_, rfl, ?_⟩
      exact iteT (q0 e _ fun _ _ e => e)
end
end Th
namespace Th
open PySem PySem.Spec PyProof.Rows L2
def NamesE : List Str := ["NoNet", "NoWay", "NoWagon", "NoRules", "NoPaper", "NoProof", "NotYet", "TooMany", "TooLate", "NoLine", "Stopped", "NoMonth", "NoBill", "NoText", "NoSaying"]
abbrev clsE {K : PySem.W.Frag} {mg : Str → Option Value} (T : Defs K mg) : List Addr := [T.a_NoNet, T.a_NoWay, T.a_NoWagon, T.a_NoRules, T.a_NoPaper, T.a_NoProof, T.a_NotYet, T.a_TooMany, T.a_TooLate, T.a_NoLine, T.a_Stopped, T.a_NoMonth, T.a_NoBill, T.a_NoText, T.a_NoSaying]
def toldE (j : Nat) : List Bool := (List.range 15).map fun i => decide (i = j)
theorem toldE_count : ∀ j, j < 15 → ((toldE j).map PyData.bool).countP (fun y => PyData.eqv y (.bool true)) = 1 := by decide +kernel
theorem toldE_at : ∀ j, j < 15 → (toldE j)[j]? = some true := by decide +kernel
theorem toldE_pre : ∀ j, j < 15 → ∀ m, m < j → (toldE j)[m]? = some false := by decide +kernel
theorem namesE_split : Txt.split (("NoNet NoWay NoWagon NoRules NoPaper NoProof NotYet TooMany TooLate NoLine Stopped NoMonth" : Str) ++ (" NoBill NoText NoSaying" : Str)) " " = NamesE := by decide +kernel
theorem dpAll_bls {K : PySem.W.Frag} {H : Hp} : ∀ bs : List Bool, DpAll K H (bs.map V.bl) (bs.map PyData.bool)
  | [] => .nil
  | b :: bs => .cons (.bl b) (dpAll_bls bs)
theorem flat_bls : ∀ bs : List Bool, (bs.map V.bl).all flatV = true
  | [] => rfl
  | b :: bs => by
    show (true && (bs.map V.bl).all flatV) = true
    rw [flat_bls bs]
    rfl
section
variable {P : Program} {w : World} {K : PySem.W.Frag} {mg : Str → Option Value} {base : Heap} {k : Nat}
def sp_l_which (T : Defs K mg) (p : Addr × Obj) : Sp := fun vs H Q _ => ∃ (D : Addr) (j : Nat), vs = [.ref p.1] ∧ TryAs.PinIs p D H ∧ ExcC K D ∧ PlE.Wch K D T.a_HouseError (clsE T) j ∧ ∀ H', Same H H' → Q (.str (NamesE.getD j "")) H'
set_option maxHeartbeats 8000000 in
theorem ok_which0 {f : Addr} {fd : FuncData} (F : FnP K "_law_which" s_l_which f fd) (T : Defs K mg) : TryAs.FnP P w K mg base (k + 1) f fd ["_law_e"] (sp_l_which T) := by
  obtain ⟨oc, od, dV, kV, doc, pm, an, cdv, ct, osl, rfl, lk, hcd, _, _⟩ := F.ex
  refine TryAs.fn_ofP lk hcd sc_l_which (fun p vs H Q E h => ?_) (fun A outer s H vs Q E p hr h => ?_)
  · obtain ⟨D, j, rfl, _⟩ := h
    rfl
  · obtain ⟨D, j, rfl, hp, hc, hw, q⟩ := h
    refine ⟨_,
(pss_cons (ps_set (i := 1) sc_l_which.nd rfl (.inl rfl) (pe_lst (pa_cons (pe_callB (r := TryAs.rPin K p) (TryAs.call_pin (List.mem_singleton.mpr rfl)) (by rfl) T.z_isinstance (by decide +kernel) (pa_cons (pv 0) (pa_cons (pe_glob (v := .ref T.a_NoNet) (by rfl) T.g_NoNet rfl) pa_nil))) (pa_cons (pe_callB (r := TryAs.rPin K p) (TryAs.call_pin (List.mem_singleton.mpr rfl)) (by rfl) T.z_isinstance (by decide +kernel) (pa_cons (pv 0) (pa_cons (pe_glob (v := .ref T.a_NoWay) (by rfl) T.g_NoWay rfl) pa_nil))) (pa_cons (pe_callB (r := TryAs.rPin K p) (TryAs.call_pin (List.mem_singleton.mpr rfl)) (by rfl) T.z_isinstance (by decide +kernel) (pa_cons (pv 0) (pa_cons (pe_glob (v := .ref T.a_NoWagon) (by rfl) T.g_NoWagon rfl) pa_nil))) (pa_cons (pe_callB (r := TryAs.rPin K p) (TryAs.call_pin (List.mem_singleton.mpr rfl)) (by rfl) T.z_isinstance (by decide +kernel) (pa_cons (pv 0) (pa_cons (pe_glob (v := .ref T.a_NoRules) (by rfl) T.g_NoRules rfl) pa_nil))) pa_nil))))))
    (pss_cons (ps_set (i := 1) sc_l_which.nd rfl (.inl rfl) (pe_op op_cat (pv 1) (pe_lst (pa_cons (pe_callB (r := TryAs.rPin K p) (TryAs.call_pin (List.mem_singleton.mpr rfl)) (by rfl) T.z_isinstance (by decide +kernel) (pa_cons (pv 0) (pa_cons (pe_glob (v := .ref T.a_NoPaper) (by rfl) T.g_NoPaper rfl) pa_nil))) (pa_cons (pe_callB (r := TryAs.rPin K p) (TryAs.call_pin (List.mem_singleton.mpr rfl)) (by rfl) T.z_isinstance (by decide +kernel) (pa_cons (pv 0) (pa_cons (pe_glob (v := .ref T.a_NoProof) (by rfl) T.g_NoProof rfl) pa_nil))) (pa_cons (pe_callB (r := TryAs.rPin K p) (TryAs.call_pin (List.mem_singleton.mpr rfl)) (by rfl) T.z_isinstance (by decide +kernel) (pa_cons (pv 0) (pa_cons (pe_glob (v := .ref T.a_NotYet) (by rfl) T.g_NotYet rfl) pa_nil))) (pa_cons (pe_callB (r := TryAs.rPin K p) (TryAs.call_pin (List.mem_singleton.mpr rfl)) (by rfl) T.z_isinstance (by decide +kernel) (pa_cons (pv 0) (pa_cons (pe_glob (v := .ref T.a_TooMany) (by rfl) T.g_TooMany rfl) pa_nil))) pa_nil)))))))
    (pss_cons (ps_set (i := 1) sc_l_which.nd rfl (.inl rfl) (pe_op op_cat (pv 1) (pe_lst (pa_cons (pe_callB (r := TryAs.rPin K p) (TryAs.call_pin (List.mem_singleton.mpr rfl)) (by rfl) T.z_isinstance (by decide +kernel) (pa_cons (pv 0) (pa_cons (pe_glob (v := .ref T.a_TooLate) (by rfl) T.g_TooLate rfl) pa_nil))) (pa_cons (pe_callB (r := TryAs.rPin K p) (TryAs.call_pin (List.mem_singleton.mpr rfl)) (by rfl) T.z_isinstance (by decide +kernel) (pa_cons (pv 0) (pa_cons (pe_glob (v := .ref T.a_NoLine) (by rfl) T.g_NoLine rfl) pa_nil))) (pa_cons (pe_callB (r := TryAs.rPin K p) (TryAs.call_pin (List.mem_singleton.mpr rfl)) (by rfl) T.z_isinstance (by decide +kernel) (pa_cons (pv 0) (pa_cons (pe_glob (v := .ref T.a_Stopped) (by rfl) T.g_Stopped rfl) pa_nil))) (pa_cons (pe_callB (r := TryAs.rPin K p) (TryAs.call_pin (List.mem_singleton.mpr rfl)) (by rfl) T.z_isinstance (by decide +kernel) (pa_cons (pv 0) (pa_cons (pe_glob (v := .ref T.a_NoMonth) (by rfl) T.g_NoMonth rfl) pa_nil))) pa_nil)))))))
    (pss_cons (ps_set (i := 1) sc_l_which.nd rfl (.inl rfl) (pe_op op_cat (pv 1) (pe_lst (pa_cons (pe_callB (r := TryAs.rPin K p) (TryAs.call_pin (List.mem_singleton.mpr rfl)) (by rfl) T.z_isinstance (by decide +kernel) (pa_cons (pv 0) (pa_cons (pe_glob (v := .ref T.a_NoBill) (by rfl) T.g_NoBill rfl) pa_nil))) (pa_cons (pe_callB (r := TryAs.rPin K p) (TryAs.call_pin (List.mem_singleton.mpr rfl)) (by rfl) T.z_isinstance (by decide +kernel) (pa_cons (pv 0) (pa_cons (pe_glob (v := .ref T.a_NoText) (by rfl) T.g_NoText rfl) pa_nil))) (pa_cons (pe_callB (r := TryAs.rPin K p) (TryAs.call_pin (List.mem_singleton.mpr rfl)) (by rfl) T.z_isinstance (by decide +kernel) (pa_cons (pv 0) (pa_cons (pe_glob (v := .ref T.a_NoSaying) (by rfl) T.g_NoSaying rfl) pa_nil))) pa_nil))))))
    (pss_cons (ps_set (i := 2) sc_l_which.nd rfl (.inl rfl) (pe_str))
    (pss_cons (ps_set (i := 2) sc_l_which.nd rfl (.inl rfl) (pe_op op_add_str (pv 2) (pe_str)))
    (pss_cons (ps_if (PW.pt (pw_or (pt_cmpR op_ne (pe_bm PySem.F.plainAttrs_list PySem.F.slot_list_count PySem.F.type_list_count (TryAs.mt_lcountD (un65H hr)) (pv 1) (pa_cons (pe_bl) pa_nil)) (pe_int) (nomark _)) (pw_or1 (pt_not (pt_val (pe_callB (r := TryAs.rPin K p) (TryAs.call_pin (List.mem_singleton.mpr rfl)) (by rfl) T.z_isinstance (by decide +kernel) (pa_cons (pv 0) (pa_cons (pe_bltn (v := .ty "ValueError") (by rfl) T.z_ValueError (by decide +kernel) rfl) pa_nil))))))))
      (pss_one (ps_ret (pe_str)))
      pss_nil)
    (pss_one (ps_ret (pe_ix (r := rIxL K) ix_list (pe_bm PySem.F.plainAttrs_str PySem.F.slot_str_split PySem.F.type_str_split mt_split (pv 2) (pa_cons (pe_str) pa_nil)) (pe_bm PySem.F.plainAttrs_list PySem.F.slot_list_index PySem.F.type_list_index mt_index (pv 1) (pa_cons (pe_bl) pa_nil)) (fun _ _ => rfl)))))))))))
      , ?_⟩
    have j15 : j < 15 := hw.lt
    have e : ∀ i c, (clsE T)[i]? = some c → PySem.W.kitOne K (.ref D) (.ref c) = some (decide (i = j)) := hw.one
    refine ⟨.ref p.1, rfl, D, _, _, _, rfl, hp, hc, .own _, e 0 _ rfl, .ref p.1, rfl, D, _, _, _, rfl, hp, hc, .own _, e 1 _ rfl, .ref p.1, rfl, D, _, _, _, rfl, hp, hc, .own _, e 2 _ rfl, .ref p.1, rfl, D, _, _, _, rfl, hp, hc, .own _, e 3 _ rfl, by show 4 ≤ sizeLine; decide, fun l1 n1 => ?_⟩
    have s1 := same_upd (o := .lst [V.bl (decide (0 = j)), .bl (decide (1 = j)), .bl (decide (2 = j)), .bl (decide (3 = j))]) n1
    have e1 : (upd H l1 (.lst [V.bl (decide (0 = j)), .bl (decide (1 = j)), .bl (decide (2 = j)), .bl (decide (3 = j))])) l1 = some (.lst [V.bl (decide (0 = j)), .bl (decide (1 = j)), .bl (decide (2 = j)), .bl (decide (3 = j))]) := upd_same
    generalize upd H l1 (.lst [V.bl (decide (0 = j)), .bl (decide (1 = j)), .bl (decide (2 = j)), .bl (decide (3 = j))]) = H1 at s1 e1 ⊢
    have hp1 := hp.same s1
    refine ⟨.ref l1, rfl, .ref p.1, rfl, D, _, _, _, rfl, hp1, hc, .own _, e 4 _ rfl, .ref p.1, rfl, D, _, _, _, rfl, hp1, hc, .own _, e 5 _ rfl, .ref p.1, rfl, D, _, _, _, rfl, hp1, hc, .own _, e 6 _ rfl, .ref p.1, rfl, D, _, _, _, rfl, hp1, hc, .own _, e 7 _ rfl, by show 4 ≤ sizeLine; decide, fun l2 n2 => ?_⟩
    have s2 := same_upd (o := .lst [V.bl (decide (4 = j)), .bl (decide (5 = j)), .bl (decide (6 = j)), .bl (decide (7 = j))]) n2
    refine ⟨l1, l2, _, _, rfl, rfl, s2 _ _ e1, upd_same, by show 8 ≤ sizeLine; decide, fun l3 n3 => ?_⟩
    have s3 := s2.trans (same_upd (o := .lst ([V.bl (decide (0 = j)), .bl (decide (1 = j)), .bl (decide (2 = j)), .bl (decide (3 = j))] ++ [V.bl (decide (4 = j)), .bl (decide (5 = j)), .bl (decide (6 = j)), .bl (decide (7 = j))])) n3)
    have e3 : (upd (upd H1 l2 (.lst [V.bl (decide (4 = j)), .bl (decide (5 = j)), .bl (decide (6 = j)), .bl (decide (7 = j))])) l3 (.lst ([V.bl (decide (0 = j)), .bl (decide (1 = j)), .bl (decide (2 = j)), .bl (decide (3 = j))] ++ [V.bl (decide (4 = j)), .bl (decide (5 = j)), .bl (decide (6 = j)), .bl (decide (7 = j))]))) l3 = some (.lst ([V.bl (decide (0 = j)), .bl (decide (1 = j)), .bl (decide (2 = j)), .bl (decide (3 = j))] ++ [V.bl (decide (4 = j)), .bl (decide (5 = j)), .bl (decide (6 = j)), .bl (decide (7 = j))])) := upd_same
    generalize upd (upd H1 l2 (.lst [V.bl (decide (4 = j)), .bl (decide (5 = j)), .bl (decide (6 = j)), .bl (decide (7 = j))])) l3 (.lst ([V.bl (decide (0 = j)), .bl (decide (1 = j)), .bl (decide (2 = j)), .bl (decide (3 = j))] ++ [V.bl (decide (4 = j)), .bl (decide (5 = j)), .bl (decide (6 = j)), .bl (decide (7 = j))])) = H3 at s3 e3 ⊢
    have hp3 := hp1.same s3
    refine ⟨.ref l3, rfl, .ref p.1, rfl, D, _, _, _, rfl, hp3, hc, .own _, e 8 _ rfl, .ref p.1, rfl, D, _, _, _, rfl, hp3, hc, .own _, e 9 _ rfl, .ref p.1, rfl, D, _, _, _, rfl, hp3, hc, .own _, e 10 _ rfl, .ref p.1, rfl, D, _, _, _, rfl, hp3, hc, .own _, e 11 _ rfl, by show 4 ≤ sizeLine; decide, fun l4 n4 => ?_⟩
    have s4 := same_upd (o := .lst [V.bl (decide (8 = j)), .bl (decide (9 = j)), .bl (decide (10 = j)), .bl (decide (11 = j))]) n4
    refine ⟨l3, l4, _, _, rfl, rfl, s4 _ _ e3, upd_same, by show 12 ≤ sizeLine; decide, fun l5 n5 => ?_⟩
    have s5 := fun o => s4.trans (same_upd (o := o) n5)
    have e5 : ∀ o, (upd (upd H3 l4 (.lst [V.bl (decide (8 = j)), .bl (decide (9 = j)), .bl (decide (10 = j)), .bl (decide (11 = j))])) l5 o) l5 = some o := fun o => upd_same
    have s5 := s5 (.lst ([V.bl (decide (0 = j)), .bl (decide (1 = j)), .bl (decide (2 = j)), .bl (decide (3 = j))] ++ [V.bl (decide (4 = j)), .bl (decide (5 = j)), .bl (decide (6 = j)), .bl (decide (7 = j))] ++ [V.bl (decide (8 = j)), .bl (decide (9 = j)), .bl (decide (10 = j)), .bl (decide (11 = j))]))
    have e5 := e5 (.lst ([V.bl (decide (0 = j)), .bl (decide (1 = j)), .bl (decide (2 = j)), .bl (decide (3 = j))] ++ [V.bl (decide (4 = j)), .bl (decide (5 = j)), .bl (decide (6 = j)), .bl (decide (7 = j))] ++ [V.bl (decide (8 = j)), .bl (decide (9 = j)), .bl (decide (10 = j)), .bl (decide (11 = j))]))
    generalize upd (upd H3 l4 (.lst [V.bl (decide (8 = j)), .bl (decide (9 = j)), .bl (decide (10 = j)), .bl (decide (11 = j))])) l5 (.lst ([V.bl (decide (0 = j)), .bl (decide (1 = j)), .bl (decide (2 = j)), .bl (decide (3 = j))] ++ [V.bl (decide (4 = j)), .bl (decide (5 = j)), .bl (decide (6 = j)), .bl (decide (7 = j))] ++ [V.bl (decide (8 = j)), .bl (decide (9 = j)), .bl (decide (10 = j)), .bl (decide (11 = j))])) = H5 at s5 e5 ⊢
    have hp5 := hp3.same s5
    refine ⟨.ref l5, rfl, .ref p.1, rfl, D, _, _, _, rfl, hp5, hc, .own _, e 12 _ rfl, .ref p.1, rfl, D, _, _, _, rfl, hp5, hc, .own _, e 13 _ rfl, .ref p.1, rfl, D, _, _, _, rfl, hp5, hc, .own _, e 14 _ rfl, by show 3 ≤ sizeLine; decide, fun l6 n6 => ?_⟩
    have s6 := same_upd (o := .lst [V.bl (decide (12 = j)), .bl (decide (13 = j)), .bl (decide (14 = j))]) n6
    refine ⟨l5, l6, _, _, rfl, rfl, s6 _ _ e5, upd_same, by show 15 ≤ sizeLine; decide, fun l7 n7 => ?_⟩
    have s7 := s6.trans (same_upd (o := .lst ((toldE j).map V.bl)) n7)
    have e7 : (upd (upd H5 l6 (.lst [V.bl (decide (12 = j)), .bl (decide (13 = j)), .bl (decide (14 = j))])) l7 (.lst ((toldE j).map V.bl))) l7 = some (.lst ((toldE j).map V.bl)) := upd_same
    rw [show (([V.bl (decide (0 = j)), .bl (decide (1 = j)), .bl (decide (2 = j)), .bl (decide (3 = j))] ++ [V.bl (decide (4 = j)), .bl (decide (5 = j)), .bl (decide (6 = j)), .bl (decide (7 = j))] ++ [V.bl (decide (8 = j)), .bl (decide (9 = j)), .bl (decide (10 = j)), .bl (decide (11 = j))]) ++ [V.bl (decide (12 = j)), .bl (decide (13 = j)), .bl (decide (14 = j))]) = (toldE j).map V.bl from rfl]
    generalize upd (upd H5 l6 (.lst [V.bl (decide (12 = j)), .bl (decide (13 = j)), .bl (decide (14 = j))])) l7 (.lst ((toldE j).map V.bl)) = H7 at s7 e7 ⊢
    have s07 := ((s1.trans s3).trans s5).trans s7
    have hp7 := hp.same s07
    refine ⟨_, rfl, _, _, rfl, rfl, by decide +kernel, ?_⟩
    have tl : (toldE j).length = 15 := by unfold toldE; simp
    have shL : SeqAt.shaped (.list ((toldE j).map PyData.bool)) = true := (by decide +kernel : ∀ j, j < 15 → SeqAt.shaped (.list ((toldE j).map PyData.bool)) = true) j j15
    refine ⟨.ref l7, rfl, .inl ⟨rfl, _, SqL.of e7⟩, l7, .bl true, (toldE j).map PyData.bool, .bool true, rfl, rfl, .lst (SqL.of e7) (dpAll_bls _), .bl true, shL, by decide +kernel, ?_⟩
    rw [toldE_count j j15]
    refine ⟨rfl, _, rfl, iteF ⟨.ref p.1, rfl, D, _, _, _, rfl, hp7, hc, .ty _, hw.ve, _, rfl, iteF ?_⟩⟩
    refine ⟨_, rfl, rfl, _, " ", rfl, rfl, by decide +kernel, by decide +kernel, fun l8 n8 => ?_⟩
    rw [namesE_split]
    have s8 := same_upd (o := .lst (NamesE.map V.str)) n8
    refine ⟨.ref l7, rfl, .inl ⟨rfl, _, SqL.of (s8 _ _ e7)⟩, l7, (toldE j).map V.bl, .bl true, j, .bl true, rfl, rfl, SqL.of (s8 _ _ e7), rfl, flat_bls _, by rw [List.getElem?_map, toldE_at j j15]; rfl, rfl, fun m z hm hz => ?_, ?_⟩
    · rw [List.getElem?_map, toldE_pre j j15 m hm] at hz
      cases hz
      rfl
    · obtain ⟨nm, en⟩ : ∃ nm, NamesE[j]? = some nm := ⟨NamesE[j]'(by show j < 15; exact j15), List.getElem?_eq_getElem _⟩
      refine ⟨l8, _, j, .str nm, rfl, rfl, SqL.of upd_same, atI_nat (by rw [List.getElem?_map, en]; rfl), ?_⟩
      have q := q _ (s07.trans s8)
      rw [List.getD_eq_getElem?_getD, en] at q
      exact q
theorem ok_l_which (T : Defs K mg) : TryAs.FnP P w K mg base (k + 1) T.a_l_which T.d_l_which ["_law_e"] (sp_l_which T) := ok_which0 T.F_l_which T
end
end Th
namespace Th
open PySem PySem.Spec PyProof.Rows L2
section
variable {K : PySem.W.Frag} {mg : Str → Option Value}
/-- what is wished of a refusal: the told tuple -/
structure RefKind (T : Defs K mg) (cls : Value) (C : Addr) (j : Nat) : Prop where
  cls : cls = .ref C
  ex : ExcC K C
  wch : PlE.Wch K C T.a_HouseError (clsE T) j
def Refd (T : Defs K mg) (Q : VK) : XK := fun cls d H => ∃ (C : Addr) (j : Nat), RefKind T cls C j ∧
  ((PySem.W.exmAny K (.ref C) [.ref T.a_NoPaper, .ref T.a_NoProof] = some false ∧ (d = none ∨ ∃ (dd : Addr) (fs : List (Str × V)), d = some dd ∧ H dd = some (.xd fs)) ∧ ∀ H' t, Same H H' → H t = none → H' t = some (.tup [.str "refused", .str (NamesE.getD j "")]) → Q (.ref t) H') ∨
   (PySem.W.exmAny K (.ref C) [.ref T.a_NoPaper, .ref T.a_NoProof] = some true ∧ XfC K C ∧ PySem.W.findIn K (.ref C) "where" = some none ∧ ∃ (dd : Addr) (fs : List (Str × V)) (v : V), d = some dd ∧ H dd = some (.xd fs) ∧ fs.lookup ("where" : Str) = some v ∧ ∀ H' t, Same H H' → H t = none → H' t = some (.tup [.str "refused", .str (NamesE.getD j ""), v]) → Q (.ref t) H'))
def TTry (T : Defs K mg) : (XK → Hp → VK → Prop) → Hp → VK → Prop := fun tl H Q => tl (Refd T Q) H Q
end
section
variable {X : Cx} {k : Nat}
set_option maxHeartbeats 8000000 in
theorem try_gives (T : Defs X.K X.mg) (Fw : TryAs.FnP X.prog X.w X.K X.mg X.base k T.a_l_which T.d_l_which ["_law_e"] (sp_l_which T)) (hr : Room (k + 1) X.A) {g : Addr} {cdg : Value} {q : Str} :
    LamX.GivesTo X N_l_try "_law_try" (defScope s_l_try) g cdg (defBody s_l_try) "_law_deed" q (TTry T) := by
  intro f c' s H Q tl act hc h
  have hrH : L2H.RoomH k (X.A.deeper (envOfC ("_law_try" : Str) (defScope s_l_try) s.heap.objs.size g cdg)) := L2H.roomH_of (hr.deeper _)
  refine ⟨_, pss_one (TryAs.ps_try_asM (X := (cxOf C8.CX0 X.prog X.w X.K X.mg X.base N_l_try ("_law_try" : Str) (defScope s_l_try) g cdg X.A X.stack s H C8.E0).nox) (i := 1) (Wout := fun _ _ _ _ => False) (l := [(.two (.ref T.a_NoPaper) (.ref T.a_NoProof), _), (.one (.ref T.a_HouseError), _)])
      (tb := fun W D σ H => ∃ Ech : XK, (∀ cls d σ' H', Ech cls d H' → W cls d σ' H') ∧ σ[0]? = some (some (.ref f)) ∧ H c' = some (LamX.CodeO c' q) ∧ tl Ech H D.rt)
      rfl rfl sc_l_try.nd rfl rfl LamX.takes0 (fun W pn xe tk _ => ?_)
      (.two ⟨by rfl, by decide, .inl T.g_NoPaper⟩ ⟨by rfl, by decide, .inl T.g_NoProof⟩
        (fun a oe cls d pn hz hf => pss_one (ps_ret (pe_tup (pa_cons pe_str (pa_cons (TryAs.pe_callZ hz hf Fw hrH (by rfl) T.g_l_which T.F_l_which.kp T.b_l_which (pa_cons (pv 1) pa_nil)) (pa_cons (TryAs.pe_xfZ hz hf (pv 1)) pa_nil))))))
        (.one ⟨by rfl, by decide, .inl T.g_HouseError⟩
          (fun a oe cls d pn hz hf => pss_one (ps_ret (pe_tup (pa_cons pe_str (pa_cons (TryAs.pe_callZ hz hf Fw hrH (by rfl) T.g_l_which T.F_l_which.kp T.b_l_which (pa_cons (pv 1) pa_nil)) pa_nil)))))
          .nil))), ?_⟩
  · refine ⟨fun pins s' σ H' D I h' => ?_⟩
    obtain ⟨Ech, hW, h1, h2, h3⟩ := h'
    exact (pss_one (ps_ret (act W pn xe Ech _ _ tk hW))).run pins s' σ H' D I ⟨h1, h2, h3⟩
  · refine ⟨Refd T Q, fun cls d σ' H' hR => ?_, rfl, hc, h⟩
    obtain ⟨C, j, hk, ⟨e1, ed, q1⟩ | ⟨e1, xf, noN, dd, fs, v, ed, eH, lk, q1⟩⟩ := hR
    · obtain ⟨rfl, ex, wc⟩ := hk
      refine ⟨false, e1, (fun z => nomatch z), fun _ => ⟨true, wc.up, fun _ a na sl => ?_, fun z => nomatch z⟩⟩
      have at1 : (σ'.set 1 (some (V.ref a)))[1]? = some (some (V.ref a)) := List.getElem?_set_self (by rw [sl]; show 1 < 2; decide)
      refine ⟨.ref a, at1, fun oe hz hf => ⟨C, j, rfl, ⟨hz.1, hf, ?_⟩, ex, wc, fun H2 s2 => ⟨by show 2 ≤ sizeLine; decide, fun t nt => q1 _ t (s2.trans (same_upd nt)) (up0 s2 nt) upd_same⟩⟩⟩
      · rcases ed with rfl | ⟨dd, fs, rfl, ed⟩
        · exact .inl hz.2
        · exact .inr ⟨dd, fs, hz.2, ed⟩
    · obtain ⟨rfl, ex, wc⟩ := hk
      refine ⟨true, e1, fun _ a na sl => ?_, (fun z => nomatch z)⟩
      have at1 : (σ'.set 1 (some (V.ref a)))[1]? = some (some (V.ref a)) := List.getElem?_set_self (by rw [sl]; show 1 < 2; decide)
      exact ⟨.ref a, at1, fun oe hz hf => ⟨C, j, rfl, ⟨hz.1, hf, .inr ⟨dd, fs, hz.2.trans ed, eH⟩⟩, ex, wc, fun H2 s2 => ⟨.ref a, at1, rfl, C, rfl, xf, noN, dd, fs, v, ed, s2 _ _ eH, lk, by show 3 ≤ sizeLine; decide, fun t nt => q1 _ t (s2.trans (same_upd nt)) (up0 s2 nt) upd_same⟩⟩⟩
end
end Th
namespace Th
open PySem PySem.Spec PyProof.Rows L2
section
variable {X : Cx} {m : Nat} {c P : Addr} {params : Arguments} {body : Expr} {scope : Scope} {t : XK → TE} {p lpos pos : Pos}
theorem pe_try (T : Defs X.K X.mg) (Fw : TryAs.FnP X.prog X.w X.K X.mg X.base (m + 1) T.a_l_which T.d_l_which ["_law_e"] (sp_l_which T)) (hg : Gl X "_law_try") (TB : LamX.TabB X.base X.mg c P) (hcode : X.env.code = .ref c) (hr : Room (m + 2) X.A)
    (L : LamX.LamS X.env.scope scope) (hdef : defaultsOf params X.env = ([], []))
    (hbind : ∀ (q : Str) (cl : List (Str × Addr)) (pm cv ctv : Value), bindArgs (PySem.W.kla_fn "<lambda>" q params body scope cl pm cv ctv) ⟨[], []⟩ = pure [])
    (hbody : ∀ (A : Around) (outer : List Env) (s : Shared) (H : Hp) (E : XK) (f c' : Addr), Room m (A.deeper (LamX.lamEnv X scope s.heap.objs.size f c')) → PE (LamX.lamCx X A outer s H E scope f c') body (t E)) :
    PE X (.Call (.Name "_law_try" p) [.Lambda params body scope lpos] [] pos) (LamX.tLam [(P, X.env.qual ++ "<lambda>")] (TTry T) t) := by
  obtain ⟨oc, od, dV, kV, doc, pm, an, cdv, ct, osl, hfd, lk, hcd, _, _⟩ := T.F_l_try.ex
  have hb := T.b_l_try
  rw [hfd] at hb lk
  exact LamX.pe_lamcall (Ng := N_l_try) (a := "_law_deed") hg T.g_l_try T.F_l_try.kp lk hcd hb sc_l_try rfl (.inl rfl) (try_gives T Fw hr) TB hcode (List.mem_singleton.mpr rfl) (fun p hp _ => by rw [List.mem_singleton.mp hp]) hr L hdef hbind hbody
end
end Th
namespace Th
open PySem PySem.Spec PyProof.Rows L2
def txV : V → Str
  | .int i => toString i
  | .str s => s
  | _ => ""
def TxOk (v : V) : Prop := (∃ i, v = .int i ∧ i.natAbs.log2 < 1920) ∨ ∃ s, v = .str s
section
variable {P : Program} {w : World} {K : PySem.W.Frag} {mg : Str → Option Value} {base : Heap} {k : Nat}
def sp_show_rowT (K : PySem.W.Frag) : Sp := fun vs H Q _ => ∃ (l : Addr) (xs : List V), vs = [.ref l] ∧ SqT K H l xs ∧ (∀ v ∈ xs, TxOk v) ∧ xs.length ≤ 100 ∧ ((xs.map txV).map (·.length)).sum + xs.length ≤ 16777216 ∧ ∀ H', Same H H' → Q (.str (Txt.join " " (xs.map txV))) H'
set_option maxHeartbeats 8000000 in
theorem ok_show_rowT (T : Defs K mg) : FnOk P w K mg base CX0 (k + 1) T.a_show_row T.d_show_row ["things"] (sp_show_rowT K) := by
  refine T.F_show_row.ok sc_show_row (fun vs H Q E h => ?_) (fun cdv A outer s H vs Q E hr h => ?_)
  · obtain ⟨l, xs, rfl, _⟩ := h
    rfl
  · obtain ⟨l, xs, rfl, hl, ok, l100, hz, q⟩ := h
    refine ⟨_, PSs.nox
(pss_one (ps_ret (pe_join (pe_str) (pe_lc (own := [("thing", 1)]) (g := gName 1) rfl sc_show_row.nd (pi_tup (pv 0)) (blkOk_by (N := N_show_row) (sc := defScope s_show_row) (by decide +kernel)) (fun _ _ _ _ _ => (pg_name (i := 1) sc_show_row.nd rfl (.inl rfl))) (fun _ _ _ _ _ => pts_nil) (fun _ _ _ _ _ => (pe_callTy (CallR.or call_str_int SkE.call_str_str) (by rfl) T.z_str (by decide +kernel) (pa_cons (pv 1) pa_nil)))))))
      , ?_⟩
    refine ⟨⟨_, rfl⟩, .ref l, rfl, l, rfl, ⟨xs, hl⟩, fun C nC => ?_⟩
    refine lc_it (walk_tup (xs := xs)) (fun i Hx => Same H Hx ∧ Hx C = some (.lst (((xs.take i).map txV).map V.str))) ⟨same_upd nC, upd_same⟩ (fun i Hx _ pv => sqT_same pv.1 hl) (fun i v Hx₀ Hx hi pv yy => ?_) (fun Hx pv => ?_)
    · obtain ⟨rfl, ey⟩ := yy
      obtain ⟨sx, eC⟩ := pv
      have tk1 : xs.take (i + 1) = xs.take i ++ [v] := by rw [List.take_add_one, ey]; rfl
      have fin : ∀ s : Str, txV v = s → upd Hx C (.lst (((xs.take i).map txV).map V.str ++ [.str s])) C = some (.lst (((xs.take (i + 1)).map txV).map V.str)) := fun s e => by
        rw [upd_same, tk1, List.map_append, List.map_append, ← e]
        rfl
      have len : (((xs.take i).map txV).map V.str).length < sizeLine := small5000 (by rw [List.length_map, List.length_map, List.length_take]; omega)
      rcases ok v (List.mem_of_getElem? ey) with ⟨n, rfl, hn⟩ | ⟨s, rfl⟩
      · exact ⟨rfl, yes_ ⟨.int n, rfl, .inl ⟨n, rfl, hn, _, eC, len, same_set sx nC, fin _ rfl⟩⟩⟩
      · exact ⟨rfl, yes_ ⟨.str s, rfl, .inr ⟨s, rfl, _, eC, len, same_set sx nC, fin _ rfl⟩⟩⟩
    · obtain ⟨sx, eC⟩ := pv
      rw [List.take_length] at eC
      refine ⟨" ", C, xs.map txV, rfl, rfl, .inl (SqL.of eC), ?_, q _ sx⟩
      rw [List.length_map]
      show _ + _ * 1 ≤ _
      omega
end
end Th
namespace Th
open PySem PySem.Spec PyProof.Rows L2
def RowsT (H : Hp) (as : List Addr) (rows : List (List V)) : Prop := Paired (fun a r => H a = some (HO.tup r)) as rows
theorem RowsT.same {H H' : Hp} {as : List Addr} {rows : List (List V)} (h : RowsT H as rows) (s : Same H H') : RowsT H' as rows := paired_imp h fun _ _ _ z => s _ _ z
theorem RowsT.set {H : Hp} {as : List Addr} {rows : List (List V)} {C : Addr} {o : HO} (h : RowsT H as rows) (n : ∀ r, H C ≠ some (.tup r)) : RowsT (upd H C o) as rows := paired_imp h fun a _ r z => (upd_ne fun e => n r (by rw [← e]; exact z)).trans z
theorem RowsT.snoc {H : Hp} {as : List Addr} {rows : List (List V)} {a : Addr} {r : List V} (h : RowsT H as rows) (e : H a = some (.tup r)) : RowsT H (as ++ [a]) (rows ++ [r]) := paired_append h (.cons e .nil)
theorem not_tup {H : Hp} {C : Addr} {xs : List V} (e : H C = some (.lst xs)) : ∀ r, H C ≠ some (.tup r) := fun r z => by rw [e] at z; cases z
structure NtF (H : Hp) (r : Addr) (ls : List Str) (sts : List (Str × Str)) (jns : List (Str × List Str)) (tis : List (Str × Str × Str × Int)) : Prop where
  ex : ∃ (lt st jt tt : Addr) (sa ja ta : List Addr), TPl H r [.ref lt, .ref st, .ref jt, .ref tt] ∧ TPl H lt (ls.map V.str) ∧ TPl H st (sa.map V.ref) ∧ Paired (fun a (x : Str × Str) => TPl H a [.str x.1, .str x.2]) sa sts ∧
    TPl H jt (ja.map V.ref) ∧ Paired (fun a (x : Str × List Str) => ∃ b, TPl H a [.str x.1, .ref b] ∧ TPl H b (x.2.map V.str)) ja jns ∧ TPl H tt (ta.map V.ref) ∧ Paired (fun a (x : Str × Str × Str × Int) => TPl H a [.str x.1, .str x.2.1, .str x.2.2.1, .int x.2.2.2]) ta tis
def rowsV (ls : List Str) (sts : List (Str × Str)) (jns : List (Str × List Str)) (tis : List (Str × Str × Str × Int)) : List (List V) :=
  ls.map (fun l => [.str "line", .str l]) ++ sts.map (fun x => [.str "station", .str x.1, .str x.2]) ++ jns.map (fun x => .str "junction" :: .str x.1 :: x.2.map V.str) ++ tis.map (fun x => [.str "tie", .str x.1, .str x.2.1, .str x.2.2.1, .int x.2.2.2])
def rowT (r : List V) : Str := Txt.join " " (r.map txV)
def netT (rows : List (List V)) : Str := Txt.join "\n" (rows.map rowT)
section
variable {P : Program} {w : World} {K : PySem.W.Frag} {mg : Str → Option Value} {base : Heap} {k : Nat}
def sp_show_net : Sp := fun vs H Q _ => ∃ (r : Addr) (ls : List Str) (sts : List (Str × Str)) (jns : List (Str × List Str)) (tis : List (Str × Str × Str × Int)), vs = [.ref r] ∧ NtF H r ls sts jns tis ∧ ls.length ≤ 8 ∧ sts.length ≤ 16 ∧ jns.length ≤ 12 ∧ tis.length ≤ 40 ∧ (∀ x ∈ jns, x.2.length ≤ 8) ∧
  (∀ r ∈ rowsV ls sts jns tis, (∀ v ∈ r, TxOk v) ∧ r.length ≤ 100 ∧ ((r.map txV).map (·.length)).sum + r.length ≤ 5000) ∧ (((rowsV ls sts jns tis).map rowT).map (·.length)).sum + ((rowsV ls sts jns tis).map rowT).length ≤ 16777216 ∧ ∀ H', Same H H' → Q (.str (netT (rowsV ls sts jns tis))) H'
set_option maxHeartbeats 16000000 in
theorem ok_show_net (T : Defs K mg) : FnOk P w K mg base CX0 (k + 2) T.a_show_net T.d_show_net ["net"] sp_show_net := by
  have G_show_row : FnOk P w K mg base CX0 (k + 1) _ _ _ _ := ok_show_rowT (k := k) T
  refine T.F_show_net.ok sc_show_net (fun vs H Q E h => ?_) (fun cdv A outer s H vs Q E hr h => ?_)
  · obtain ⟨r, ls, sts, jns, tis, rfl, _⟩ := h
    rfl
  · obtain ⟨r, ls, sts, jns, tis, rfl, hN, l8, l16, l12, l40, j8, hrow, hall, q⟩ := h
    obtain ⟨lt, st, jt, tt, sa, ja, ta, er, el, es, hs, ej, hj, et, ht⟩ := hN.ex
    refine ⟨_, PSs.nox
(pss_cons (ps_asg (pv 0) (pg_tup rfl (pgs_cons (pg_name (i := 1) sc_show_net.nd rfl (.inl rfl)) (pgs_cons (pg_name (i := 2) sc_show_net.nd rfl (.inl rfl)) (pgs_cons (pg_name (i := 3) sc_show_net.nd rfl (.inl rfl)) (pgs_cons (pg_name (i := 4) sc_show_net.nd rfl (.inl rfl)) pgs_nil))))))
    (pss_cons (ps_setLc (i := 5) (own := [("line", 6)]) (g := gName 6) rfl sc_show_net.nd rfl rfl (sw_true rfl rfl rfl (by decide +kernel)) (pi_tup (pv 1)) (blkOk_by (N := N_show_net) (sc := defScope s_show_net) (by decide +kernel)) (fun _ _ _ _ _ => (pg_name (i := 6) sc_show_net.nd rfl (.inl rfl))) (fun _ _ _ _ _ => pts_nil) (fun _ _ _ _ _ => (pe_tup (pa_cons (pe_str) (pa_cons (pv 6) pa_nil)))))
    (pss_cons (ps_aug (i := 5) sc_show_net.nd rfl (.inl rfl) (pe_lc (own := [("station", 7)]) (g := gName 7) rfl sc_show_net.nd (pi_tup (pv 2)) (blkOk_by (N := N_show_net) (sc := defScope s_show_net) (by decide +kernel)) (fun _ _ _ _ _ => (pg_name (i := 7) sc_show_net.nd rfl (.inl rfl))) (fun _ _ _ _ _ => pts_nil) (fun _ _ _ _ _ => (pe_op (r := rCatA K) op_catA (pe_tup (pa_cons (pe_str) pa_nil)) (pv 7)))) iop_ext)
    (pss_cons (ps_aug (i := 5) sc_show_net.nd rfl (.inl rfl) (pe_lc (own := [("name", 8), ("joined", 9)]) (g := gTup K 2 (gCons (gName 8) (gCons (gName 9) gNil))) rfl sc_show_net.nd (pi_tup (pv 3)) (blkOk_by (N := N_show_net) (sc := defScope s_show_net) (by decide +kernel)) (fun _ _ _ _ _ => (pg_tup rfl (pgs_cons (pg_name (i := 8) sc_show_net.nd rfl (.inl rfl)) (pgs_cons (pg_name (i := 9) sc_show_net.nd rfl (.inl rfl)) pgs_nil)))) (fun _ _ _ _ _ => pts_nil) (fun _ _ _ _ _ => (pe_op (r := rCatA K) op_catA (pe_tup (pa_cons (pe_str) (pa_cons (pv 8) pa_nil))) (pv 9)))) iop_ext)
    (pss_cons (ps_aug (i := 5) sc_show_net.nd rfl (.inl rfl) (pe_lc (own := [("tie", 10)]) (g := gName 10) rfl sc_show_net.nd (pi_tup (pv 4)) (blkOk_by (N := N_show_net) (sc := defScope s_show_net) (by decide +kernel)) (fun _ _ _ _ _ => (pg_name (i := 10) sc_show_net.nd rfl (.inl rfl))) (fun _ _ _ _ _ => pts_nil) (fun _ _ _ _ _ => (pe_op (r := rCatA K) op_catA (pe_tup (pa_cons (pe_str) pa_nil)) (pv 10)))) iop_ext)
    (pss_one (ps_ret (pe_join (pe_str) (pe_lc (own := [("row", 11)]) (g := gName 11) rfl sc_show_net.nd (pi_list (pv 5)) (blkOk_by (N := N_show_net) (sc := defScope s_show_net) (by decide +kernel)) (fun _ _ _ _ _ => (pg_name (i := 11) sc_show_net.nd rfl (.inl rfl))) (fun _ _ _ _ _ => pts_nil) (fun _ _ _ _ _ => (pe_call G_show_row hr (by rfl) T.g_show_row T.F_show_row.kp T.b_show_row .nil pass0 (pa_cons (pv 11) pa_nil))))))))))))
      , ?_⟩
    refine ⟨.ref r, rfl, r, _, rfl, er.sq, rfl, _, _, rfl, _, _, rfl, _, _, rfl, _, [], rfl, rfl, ?_⟩
    -- the lines
    refine ⟨.ref lt, rfl, lt, rfl, ⟨_, el.sq⟩, fun R nR => ?_⟩
    refine lc_it (walk_tup (xs := ls.map V.str)) (fun i Hx => Same H Hx ∧ ∃ as, Hx R = some (.lst (as.map V.ref)) ∧ RowsT Hx as ((ls.take i).map fun l => [V.str "line", .str l])) ⟨same_upd nR, [], upd_same, .nil⟩ (fun i Hx _ pv => (el.same pv.1).sq) (fun i x Hx₀ Hx hi pv yy => ?_) (fun Hx pv => ?_)
    · obtain ⟨rfl, ex⟩ := yy
      obtain ⟨sx, as, eR, ha⟩ := pv
      rw [List.getElem?_map] at ex
      obtain ⟨z, ez, rfl⟩ := Option.map_eq_some_iff.mp ex
      have tk1 : ls.take (i + 1) = ls.take i ++ [z] := by rw [List.take_add_one, ez]; rfl
      have al := paired_len ha
      rw [List.length_map, List.length_take] at al
      refine ⟨rfl, yes_ ⟨.str z, rfl, by show 2 ≤ sizeLine; decide, fun u nu => ?_⟩⟩
      have su := same_upd (o := .tup [V.str "line", .str z]) nu
      have eR2 := su _ _ eR
      have h2 := (ha.same su).snoc (a := u) (r := [V.str "line", .str z]) upd_same
      refine ⟨_, eR2, small5000 (by rw [List.length_map]; omega), same_set (sx.trans su) nR, as ++ [u], by rw [upd_same, List.map_append]; rfl, ?_⟩
      rw [tk1, List.map_append]
      exact h2.set (not_tup eR2)
    obtain ⟨s1, as1, eR1, ha1⟩ := pv
    rw [List.length_map, List.take_length] at ha1
    -- the stations
    have sal := paired_len hs
    refine ⟨.ref R, rfl, .ref st, rfl, st, rfl, ⟨_, (es.same s1).sq⟩, fun C nC => ?_⟩
    refine lc_it (walk_tup (xs := sa.map V.ref)) (fun i Hy => Same Hx Hy ∧ ∃ bs, Hy C = some (.lst (bs.map V.ref)) ∧ RowsT Hy bs ((sts.take i).map fun x => [V.str "station", .str x.1, .str x.2])) ⟨same_upd nC, [], upd_same, .nil⟩ (fun i Hy _ pv => (es.same (s1.trans pv.1)).sq) (fun i x Hy₀ Hy hi pv yy => ?_) (fun Hy pv => ?_)
    · obtain ⟨rfl, ex⟩ := yy
      obtain ⟨sy, bs, eC, hb⟩ := pv
      rw [List.getElem?_map] at ex
      obtain ⟨u, eu, rfl⟩ := Option.map_eq_some_iff.mp ex
      obtain ⟨z, ez, hz⟩ := paired_get hs eu
      have tk1 : sts.take (i + 1) = sts.take i ++ [z] := by rw [List.take_add_one, ez]; rfl
      have bl := paired_len hb
      rw [List.length_map, List.length_take] at bl
      refine ⟨rfl, yes_ ⟨one_sz, fun p np => ⟨.ref u, rfl, ?_⟩⟩⟩
      have sp := same_upd (o := .tup [V.str "station"]) np
      refine ⟨p, u, _, _, rfl, rfl, SqT.of upd_same, (hz.same ((s1.trans sy).trans sp)).sq, by show 3 ≤ sizeLine; decide, fun e => (by cases e), fun _ e => (by cases e), fun _ _ c nc => ?_⟩
      have sc := same_upd (o := .tup ([V.str "station"] ++ [V.str z.1, .str z.2])) nc
      have spc := sp.trans sc
      have eC2 := spc _ _ eC
      have h2 := (hb.same spc).snoc (a := c) (r := [V.str "station", .str z.1, .str z.2]) upd_same
      refine ⟨_, eC2, small5000 (by rw [List.length_map]; omega), same_set (sy.trans spc) nC, bs ++ [c], by rw [upd_same, List.map_append]; rfl, ?_⟩
      rw [tk1, List.map_append]
      exact h2.set (not_tup eC2)
    obtain ⟨s2, as2, eC2, ha2⟩ := pv
    rw [List.length_map, sal, List.take_length] at ha2
    have eR2 := s2 _ _ eR1
    have nRC : R ≠ C := fun z => by rw [← z, eR1] at nC; cases nC
    have l1 := paired_len ha1
    have l2 := paired_len ha2
    rw [List.length_map] at l1 l2
    refine ⟨R, C, _, _, rfl, rfl, eR2, eC2, by rw [List.length_map, List.length_map, sizeLine_eq]; omega, ?_⟩
    have s3 : Same H (upd Hy R (.lst (as1.map V.ref ++ as2.map V.ref))) := same_set (s1.trans s2) nR
    have ha3 : RowsT (upd Hy R (.lst (as1.map V.ref ++ as2.map V.ref))) (as1 ++ as2) (ls.map (fun l => [V.str "line", .str l]) ++ sts.map fun x => [V.str "station", .str x.1, .str x.2]) := RowsT.set (paired_append (ha1.same s2) ha2) (not_tup eR2)
    have eR3 : upd Hy R (.lst (as1.map V.ref ++ as2.map V.ref)) R = some (.lst ((as1 ++ as2).map V.ref)) := by rw [upd_same, List.map_append]
    generalize upd Hy R (.lst (as1.map V.ref ++ as2.map V.ref)) = H3 at s3 ha3 eR3 ⊢
    generalize as1 ++ as2 = as3 at ha3 eR3
    clear s1 s2 ha1 ha2 eR1 eR2 eC2 nC nRC
    -- the junctions
    have jal := paired_len hj
    refine ⟨.ref R, rfl, .ref jt, rfl, jt, rfl, ⟨_, (ej.same s3).sq⟩, fun C nC => ?_⟩
    refine lc_it (walk_tup (xs := ja.map V.ref)) (fun i Hy => Same H3 Hy ∧ ∃ bs, Hy C = some (.lst (bs.map V.ref)) ∧ RowsT Hy bs ((jns.take i).map fun x => V.str "junction" :: .str x.1 :: x.2.map V.str)) ⟨same_upd nC, [], upd_same, .nil⟩ (fun i Hy _ pv => (ej.same (s3.trans pv.1)).sq) (fun i x Hy₀ Hy hi pv yy => ?_) (fun Hy pv => ?_)
    · obtain ⟨rfl, ex⟩ := yy
      obtain ⟨sy, bs, eC, hb⟩ := pv
      rw [List.getElem?_map] at ex
      obtain ⟨u, eu, rfl⟩ := Option.map_eq_some_iff.mp ex
      obtain ⟨z, ez, jb, hz, hjb⟩ := paired_get hj eu
      have tk1 : jns.take (i + 1) = jns.take i ++ [z] := by rw [List.take_add_one, ez]; rfl
      have bl := paired_len hb
      rw [List.length_map, List.length_take] at bl
      have z8 := j8 z (List.mem_of_getElem? ez)
      have s0y := s3.trans sy
      refine ⟨u, _, rfl, (hz.same s0y).sq, rfl, _, _, rfl, _, [], rfl, rfl, ?_⟩
      have fin : ∀ {Hc : Hp} {c : Addr}, Same Hy Hc → Hc c = some (.tup (V.str "junction" :: .str z.1 :: z.2.map V.str)) → ∃ ys, Hc C = some (.lst ys) ∧ ys.length < sizeLine ∧ Same H3 (upd Hc C (.lst (ys ++ [.ref c]))) ∧ ∃ bs, (upd Hc C (.lst (ys ++ [.ref c]))) C = some (.lst (bs.map V.ref)) ∧ RowsT (upd Hc C (.lst (ys ++ [.ref c]))) bs ((jns.take (i + 1)).map fun x => V.str "junction" :: .str x.1 :: x.2.map V.str) := fun {Hc c} sc ec => by
        have eC2 := sc _ _ eC
        refine ⟨_, eC2, small5000 (by rw [List.length_map]; omega), same_set (sy.trans sc) nC, bs ++ [c], by rw [upd_same, List.map_append]; rfl, ?_⟩
        rw [tk1, List.map_append]
        exact ((hb.same sc).snoc ec).set (not_tup eC2)
      refine ⟨rfl, yes_ ⟨.str z.1, rfl, by show 2 ≤ sizeLine; decide, fun p np => ⟨.ref jb, rfl, ?_⟩⟩⟩
      have sp := same_upd (o := .tup [V.str "junction", .str z.1]) np
      refine ⟨p, jb, _, _, rfl, rfl, SqT.of upd_same, (hjb.same (s0y.trans sp)).sq, by rw [List.length_map, sizeLine_eq]; show 2 + _ ≤ _; omega, fun e => (by cases e), fun _ e => ?_, fun _ _ c nc => ?_⟩
      · exact fin sp (by rw [upd_same, e])
      · exact fin (sp.trans (same_upd nc)) upd_same
    obtain ⟨s4, as4, eC4, ha4⟩ := pv
    rw [List.length_map, jal, List.take_length] at ha4
    have eR4 := s4 _ _ eR3
    have l3 := paired_len ha3
    have l4 := paired_len ha4
    rw [List.length_append, List.length_map, List.length_map] at l3
    rw [List.length_map] at l4
    refine ⟨R, C, _, _, rfl, rfl, eR4, eC4, by rw [List.length_map, List.length_map, sizeLine_eq]; omega, ?_⟩
    have s5 : Same H (upd Hy R (.lst (as3.map V.ref ++ as4.map V.ref))) := same_set (s3.trans s4) nR
    have ha5 := RowsT.set (o := .lst (as3.map V.ref ++ as4.map V.ref)) (paired_append (ha3.same s4) ha4) (not_tup eR4)
    have eR5 : upd Hy R (.lst (as3.map V.ref ++ as4.map V.ref)) R = some (.lst ((as3 ++ as4).map V.ref)) := by rw [upd_same, List.map_append]
    have l5 : (as3 ++ as4).length ≤ 36 := by rw [List.length_append]; omega
    generalize upd Hy R (.lst (as3.map V.ref ++ as4.map V.ref)) = H5 at s5 ha5 eR5 ⊢
    generalize as3 ++ as4 = as5 at ha5 eR5 l5
    clear s3 s4 ha3 ha4 eR3 eR4 eC4 nC
    -- the ties
    have tal := paired_len ht
    refine ⟨.ref R, rfl, .ref tt, rfl, tt, rfl, ⟨_, (et.same s5).sq⟩, fun C nC => ?_⟩
    refine lc_it (walk_tup (xs := ta.map V.ref)) (fun i Hy => Same H5 Hy ∧ ∃ bs, Hy C = some (.lst (bs.map V.ref)) ∧ RowsT Hy bs ((tis.take i).map fun x => [V.str "tie", .str x.1, .str x.2.1, .str x.2.2.1, .int x.2.2.2])) ⟨same_upd nC, [], upd_same, .nil⟩ (fun i Hy _ pv => (et.same (s5.trans pv.1)).sq) (fun i x Hy₀ Hy hi pv yy => ?_) (fun Hy pv => ?_)
    · obtain ⟨rfl, ex⟩ := yy
      obtain ⟨sy, bs, eC, hb⟩ := pv
      rw [List.getElem?_map] at ex
      obtain ⟨u, eu, rfl⟩ := Option.map_eq_some_iff.mp ex
      obtain ⟨z, ez, hz⟩ := paired_get ht eu
      have tk1 : tis.take (i + 1) = tis.take i ++ [z] := by rw [List.take_add_one, ez]; rfl
      have bl := paired_len hb
      rw [List.length_map, List.length_take] at bl
      refine ⟨rfl, yes_ ⟨one_sz, fun p np => ⟨.ref u, rfl, ?_⟩⟩⟩
      have sp := same_upd (o := .tup [V.str "tie"]) np
      refine ⟨p, u, _, _, rfl, rfl, SqT.of upd_same, (hz.same ((s5.trans sy).trans sp)).sq, by show 5 ≤ sizeLine; decide, fun e => (by cases e), fun _ e => (by cases e), fun _ _ c nc => ?_⟩
      have sc := same_upd (o := .tup ([V.str "tie"] ++ [V.str z.1, .str z.2.1, .str z.2.2.1, .int z.2.2.2])) nc
      have spc := sp.trans sc
      have eC2 := spc _ _ eC
      have h2 := (hb.same spc).snoc (a := c) (r := [V.str "tie", .str z.1, .str z.2.1, .str z.2.2.1, .int z.2.2.2]) upd_same
      refine ⟨_, eC2, small5000 (by rw [List.length_map]; omega), same_set (sy.trans spc) nC, bs ++ [c], by rw [upd_same, List.map_append]; rfl, ?_⟩
      rw [tk1, List.map_append]
      exact h2.set (not_tup eC2)
    obtain ⟨s6, as6, eC6, ha6⟩ := pv
    rw [List.length_map, tal, List.take_length] at ha6
    have eR6 := s6 _ _ eR5
    have l6 := paired_len ha6
    rw [List.length_map] at l6
    refine ⟨R, C, _, _, rfl, rfl, eR6, eC6, by rw [List.length_map, List.length_map, sizeLine_eq]; omega, ?_⟩
    have s7 : Same H (upd Hy R (.lst (as5.map V.ref ++ as6.map V.ref))) := same_set (s5.trans s6) nR
    have ha7 : RowsT (upd Hy R (.lst (as5.map V.ref ++ as6.map V.ref))) (as5 ++ as6) (rowsV ls sts jns tis) := RowsT.set (paired_append (ha5.same s6) ha6) (not_tup eR6)
    have eR7 : upd Hy R (.lst (as5.map V.ref ++ as6.map V.ref)) R = some (.lst ((as5 ++ as6).map V.ref)) := by rw [upd_same, List.map_append]
    have l7 : (as5 ++ as6).length ≤ 76 := by rw [List.length_append]; omega
    generalize upd Hy R (.lst (as5.map V.ref ++ as6.map V.ref)) = H7 at s7 ha7 eR7 ⊢
    generalize as5 ++ as6 = as7 at ha7 eR7 l7
    generalize rowsV ls sts jns tis = rows at hrow hall ha7 q
    have al7 := paired_len ha7
    refine ⟨⟨_, rfl⟩, .ref R, rfl, R, rfl, ⟨_, SqL.of eR7⟩, fun C nC => ?_⟩
    refine lc_it (walk_list (xs := as7.map V.ref)) (fun i Hy => Same H7 Hy ∧ Hy C = some (.lst (((rows.take i).map rowT).map V.str))) ⟨same_upd nC, upd_same⟩ (fun i Hy _ pv => SqL.of (pv.1 _ _ eR7)) (fun i x Hy₀ Hy hi pv yy => ?_) (fun Hy pv => ?_)
    · obtain ⟨rfl, ex⟩ := yy
      obtain ⟨sy, eC⟩ := pv
      rw [List.getElem?_map] at ex
      obtain ⟨u, eu, rfl⟩ := Option.map_eq_some_iff.mp ex
      obtain ⟨z, ez, hz⟩ := paired_get ha7 eu
      have tk1 : rows.take (i + 1) = rows.take i ++ [z] := by rw [List.take_add_one, ez]; rfl
      obtain ⟨ok, z100, sm⟩ := hrow z (List.mem_of_getElem? ez)
      refine ⟨rfl, yes_ ⟨.ref u, rfl, u, z, rfl, SqT.of (sy _ _ hz), ok, z100, by omega, fun H8 s8 => ⟨_, s8 _ _ eC, small5000 (by rw [List.length_map, List.length_map, List.length_take]; omega), same_set (sy.trans s8) nC, ?_⟩⟩⟩
      rw [upd_same, tk1, List.map_append, List.map_append]
      rfl
    · obtain ⟨sy, eC⟩ := pv
      rw [List.length_map, al7, List.take_length] at eC
      refine ⟨"\n", C, rows.map rowT, rfl, rfl, .inl (SqL.of eC), ?_, q _ (s7.trans sy)⟩
      rw [show ("\n" : Str).length = 1 by decide +kernel]
      omega
end
end Th
namespace Th
open PySem PySem.Spec PyProof.Rows L2
theorem ok_all {z : Str} : PyData.strOk z = true ↔ ∀ c ∈ z.cps.toList, PyData.strOk ⟨#[c]⟩ = true := by
  unfold PyData.strOk
  rw [← Array.all_toList]
  constructor
  · intro h c hc
    rw [← Array.all_toList]
    exact List.all_eq_true.mpr fun d hd => by
      have hd : d ∈ [c] := hd
      rw [List.mem_singleton.mp hd]
      exact List.all_eq_true.mp h c hc
  · intro h
    refine List.all_eq_true.mpr fun c hc => ?_
    have := h c hc
    rw [← Array.all_toList] at this
    exact List.all_eq_true.mp this c (show c ∈ [c] from List.mem_singleton.mpr rfl)
theorem ok_sub {p z : Str} (h : PyData.strOk z = true) (s : ∀ c ∈ p.cps.toList, c ∈ z.cps.toList) : PyData.strOk p = true := ok_all.mpr fun c hc => ok_all.mp h c (s c hc)
theorem str_app (a b : Str) : (a ++ b).cps.toList = a.cps.toList ++ b.cps.toList := Array.toList_append
theorem jl_len (c : Nat) : ∀ (as : List (List Nat)), (TL.joinL [c] as).length ≤ (as.map List.length).sum + as.length ∧ (as.map List.length).sum + as.length ≤ (TL.joinL [c] as).length + 1
  | [] => by show 0 ≤ 0 ∧ 0 ≤ 1; decide
  | [a] => by show a.length ≤ a.length + 0 + 1 ∧ a.length + 0 + 1 ≤ a.length + 1; omega
  | a :: b :: t => by
    have e : TL.joinL [c] (a :: b :: t) = a ++ (c :: TL.joinL [c] (b :: t)) := rfl
    have ih := jl_len c (b :: t)
    rw [e]
    simp only [List.length_append, List.length_cons, List.map_cons, List.sum_cons] at ih ⊢
    omega
theorem jl_in (c : Nat) : ∀ {as : List (List Nat)} {d : Nat}, d ∈ TL.joinL [c] as → d = c ∨ ∃ a ∈ as, d ∈ a
  | [], _, h => by cases h
  | [a], _, h => .inr ⟨a, List.mem_cons_self, h⟩
  | a :: b :: t, d, h => by
    have h : d ∈ a ++ (c :: TL.joinL [c] (b :: t)) := h
    rcases List.mem_append.mp h with z | z
    · exact .inr ⟨a, List.mem_cons_self, z⟩
    · rcases List.mem_cons.mp z with z | z
      · exact .inl z
      · rcases jl_in c (as := b :: t) z with y | ⟨x, hx, y⟩
        · exact .inl y
        · exact .inr ⟨x, List.mem_cons_of_mem _ hx, y⟩
theorem jl_sub (c : Nat) : ∀ {as : List (List Nat)} {a : List Nat}, a ∈ as → ∃ x y, TL.joinL [c] as = x ++ (a ++ y)
  | [b], a, h => ⟨[], [], by rw [List.mem_singleton.mp h, List.append_nil]; rfl⟩
  | b :: b' :: t, a, h => by
    have e : TL.joinL [c] (b :: b' :: t) = b ++ (c :: TL.joinL [c] (b' :: t)) := rfl
    rcases List.mem_cons.mp h with rfl | h
    · exact ⟨[], _, e⟩
    · obtain ⟨x, y, z⟩ := jl_sub c (as := b' :: t) h
      exact ⟨b ++ (c :: x), y, by rw [e, z, List.append_assoc]; rfl⟩
/-- no piece without the sign c is longer than m -/
def RunB (c : Nat) (l : List Nat) (m : Nat) : Prop := ∀ x b y, l = x ++ (b ++ y) → c ∉ b → b.length ≤ m
theorem RunB.mono {c : Nat} {l : List Nat} {m m' : Nat} (h : RunB c l m) (g : m ≤ m') : RunB c l m' := fun x b y e n => Nat.le_trans (h x b y e n) g
theorem RunB.part {c : Nat} {l x l' y : List Nat} {m : Nat} (h : RunB c l m) (e : l = x ++ (l' ++ y)) : RunB c l' m := fun x' b y' e' n =>
  h (x ++ x') b (y' ++ y) (by rw [e, e']; simp only [List.append_assoc]) n
theorem RunB.len {c : Nat} {l : List Nat} {m : Nat} (h : l.length ≤ m) : RunB c l m := fun x b y e _ => by
  have := congrArg List.length e
  rw [List.length_append, List.length_append] at this
  omega
theorem RunB.app {c : Nat} {l l' : List Nat} {m m' : Nat} (h : RunB c l m) (g : RunB c l' m') : RunB c (l ++ l') (m + m') := fun x b y e n => by
  rcases List.append_eq_append_iff.mp e with ⟨u, e1, e2⟩ | ⟨u, e1, e2⟩
  · exact Nat.le_trans (g u b y e2 n) (Nat.le_add_left _ _)
  · rcases List.append_eq_append_iff.mp e2 with ⟨v, e3, e4⟩ | ⟨v, e3, e4⟩
    · exact Nat.le_trans (h x b v (by rw [e1, e3]) n) (Nat.le_add_right _ _)
    · have a := h x u [] (by rw [e1, List.append_nil]) fun z => n (by rw [e3]; exact List.mem_append_left _ z)
      have b' := g [] v y (by rw [e4]; rfl) fun z => n (by rw [e3]; exact List.mem_append_right _ z)
      rw [e3, List.length_append]
      omega
theorem RunB.sep {c : Nat} {l l' : List Nat} {m : Nat} (h : RunB c l m) (g : RunB c l' m) : RunB c (l ++ (c :: l')) m := fun x b y e n => by
  have hb : ∀ {u v : List Nat}, b = u ++ v → ∀ {r : List Nat}, c :: l' = v ++ r → v = [] := fun {u v} e1 {r} e2 => by
    cases v with
    | nil => rfl
    | cons d v =>
      injection e2 with e2 _
      exact absurd (by rw [e1, ← e2]; exact List.mem_append_right _ List.mem_cons_self) n
  rcases List.append_eq_append_iff.mp e with ⟨u, e1, e2⟩ | ⟨u, e1, e2⟩
  · cases u with
    | nil =>
      have : b = [] := hb (u := []) (v := b) rfl (r := y) e2
      rw [this]
      exact Nat.zero_le _
    | cons d u =>
      injection e2 with _ e2
      exact g u b y e2 n
  · rcases List.append_eq_append_iff.mp e2 with ⟨v, e3, e4⟩ | ⟨v, e3, e4⟩
    · exact h x b v (by rw [e1, e3]) n
    · have := hb e3 e4
      rw [this, List.append_nil] at e3
      rw [e3]
      exact h x u [] (by rw [e1, List.append_nil]) fun z => n (by rw [e3]; exact z)
theorem RunB.join {c : Nat} {m : Nat} : ∀ {as : List (List Nat)}, (∀ a ∈ as, RunB c a m) → RunB c (TL.joinL [c] as) m
  | [], _ => RunB.len (Nat.zero_le _)
  | [a], h => h a List.mem_cons_self
  | a :: b :: t, h => RunB.sep (h a List.mem_cons_self) (RunB.join (as := b :: t) fun x hx => h x (List.mem_cons_of_mem _ hx))
/-- a text parted at a sign -/
structure PtOf (c : Nat) (z : Str) (ps : List Str) : Prop where
  ne : ps ≠ []
  j : TL.joinL [c] (ps.map fun w => w.cps.toList) = z.cps.toList
  n : ∀ p ∈ ps, c ∉ p.cps.toList
theorem part_of (c : Nat) (z : Str) : PtOf c z (Txt.split z (SX.S [c])) := by
  have h1 : Txt.join (SX.S [c]) (Txt.split z (SX.S [c])) = z := (PySem.StrLaws.glued_eq_join _ _).trans (PySem.StrLaws.join_split z _)
  have h2 : ∀ p ∈ Txt.split z (SX.S [c]), c ∉ p.cps.toList := PySem.StrLaws.split_free _ c
  have h3 : Txt.split z (SX.S [c]) ≠ [] := fun e => by
    have h0 := PyProof.Rows.split_pos z (SX.S [c])
    rw [e] at h0
    exact absurd h0 (by decide)
  refine ⟨h3, ?_, h2⟩
  generalize Txt.split z (SX.S [c]) = ps at h1
  rw [join_L] at h1
  rw [← h1]
theorem PtOf.uniq {c : Nat} {z : Str} {ps qs : List Str} (h : PtOf c z ps) (g : PtOf c z qs) : ps = qs := by
  have h5 := joinL_inj (by simpa using h.ne) (by simpa using g.ne) (fun a ha => by obtain ⟨w, hw, rfl⟩ := List.mem_map.mp ha; exact h.n w hw) (fun a ha => by obtain ⟨w, hw, rfl⟩ := List.mem_map.mp ha; exact g.n w hw) (h.j.trans g.j.symm)
  rw [← strs_back ps, h5, strs_back]
theorem PtOf.of {c : Nat} {ps : List Str} (ne : ps ≠ []) (n : ∀ p ∈ ps, c ∉ p.cps.toList) : PtOf c (Txt.join (SX.S [c]) ps) ps := ⟨ne, by rw [join_L], n⟩
theorem split_of {c : Nat} {z : Str} {ps : List Str} (h : PtOf c z ps) : Txt.split z (SX.S [c]) = ps := (part_of c z).uniq h
structure TxB (z : Str) (n : Nat) : Prop where
  len : z.length ≤ n
  ok : PyData.strOk z = true
theorem TxB.cut {z : Str} {n : Nat} (h : TxB z n) (lo hi : Option Int) : TxB (cutS z lo hi) n := by
  have e : (cutS z lo hi).cps.toList = (z.cps.toList.drop (HT.sIx z.length 0 lo)).take (HT.sIx z.length z.length hi - HT.sIx z.length 0 lo) := rfl
  have zl : z.cps.toList.length = z.length := rfl
  refine ⟨?_, ok_sub h.ok fun c hc => ?_⟩
  · have : (cutS z lo hi).length = ((z.cps.toList.drop (HT.sIx z.length 0 lo)).take (HT.sIx z.length z.length hi - HT.sIx z.length 0 lo)).length := congrArg List.length e
    rw [this, List.length_take, List.length_drop]
    have := h.len
    omega
  · rw [e] at hc
    exact List.mem_of_mem_drop (List.mem_of_mem_take hc)
theorem TxB.add {a b : Str} {n m : Nat} (h : TxB a n) (g : TxB b m) : TxB (a ++ b) (n + m) := by
  have e := str_app a b
  refine ⟨?_, ok_all.mpr fun c hc => ?_⟩
  · have : (a ++ b).length = (a.cps.toList ++ b.cps.toList).length := congrArg List.length e
    have e1 : a.cps.toList.length = a.length := rfl
    have e2 : b.cps.toList.length = b.length := rfl
    rw [this, List.length_append]
    have := h.len
    have := g.len
    omega
  · rw [e] at hc
    rcases List.mem_append.mp hc with x | x
    · exact ok_all.mp h.ok c x
    · exact ok_all.mp g.ok c x
def wsum (ws : List Str) : Nat := (ws.map (·.length)).sum + ws.length
structure WsB (ws : List Str) (n : Nat) : Prop where
  le : wsum ws ≤ n
  ok : ∀ z ∈ ws, PyData.strOk z = true
theorem wsum_app (a b : List Str) : wsum (a ++ b) = wsum a + wsum b := by
  unfold wsum
  rw [List.map_append, List.sum_append, List.length_append]
  omega
theorem WsB.app {a b : List Str} {n m : Nat} (h : WsB a n) (g : WsB b m) : WsB (a ++ b) (n + m) :=
  ⟨by rw [wsum_app]; have := h.le; have := g.le; omega, fun z hz => (List.mem_append.mp hz).elim (h.ok z) (g.ok z)⟩
theorem WsB.take {a : List Str} {n : Nat} (h : WsB a n) (i : Nat) : WsB (a.take i) n :=
  ⟨by have e := wsum_app (a.take i) (a.drop i); rw [List.take_append_drop] at e; have := h.le; omega, fun z hz => h.ok z (List.mem_of_mem_take hz)⟩
theorem WsB.drop {a : List Str} {n : Nat} (h : WsB a n) (i : Nat) : WsB (a.drop i) n :=
  ⟨by have e := wsum_app (a.take i) (a.drop i); rw [List.take_append_drop] at e; have := h.le; omega, fun z hz => h.ok z (List.mem_of_mem_drop hz)⟩
theorem wsum_cons (z : Str) (a : List Str) : wsum (z :: a) = z.length + 1 + wsum a := by
  unfold wsum
  rw [List.map_cons, List.sum_cons, List.length_cons]
  omega
theorem wsum_set (z : Str) : ∀ (a : List Str) (i : Nat), wsum (a.set i z) ≤ wsum a + z.length
  | [], _ => Nat.le_add_right _ _
  | x :: a, 0 => by rw [List.set_cons_zero, wsum_cons, wsum_cons]; omega
  | x :: a, i + 1 => by
    rw [List.set_cons_succ, wsum_cons, wsum_cons]
    have := wsum_set z a i
    omega
theorem WsB.set {a : List Str} {n m : Nat} {z : Str} (h : WsB a n) (g : TxB z m) (i : Nat) : WsB (a.set i z) (n + m) :=
  ⟨by have := wsum_set z a i; have := h.le; have := g.len; omega, fun y hy => (List.mem_or_eq_of_mem_set hy).elim (h.ok y) fun e => by rw [e]; exact g.ok⟩
theorem WsB.mem {a : List Str} {n : Nat} {z : Str} (h : WsB a n) (m : z ∈ a) : TxB z n := by
  refine ⟨?_, h.ok z m⟩
  obtain ⟨x, y, rfl⟩ := List.append_of_mem m
  have := h.le
  rw [wsum_app, wsum_cons] at this
  omega
theorem WsB.joinC {c : Nat} {a : List Str} {n : Nat} (hc : PyData.strOk ⟨#[c]⟩ = true) (h : WsB a n) : TxB (Txt.join (SX.S [c]) a) n := by
  rw [join_L]
  refine ⟨?_, ?_⟩
  · have := (jl_len c (a.map fun w => w.cps.toList)).1
    rw [List.map_map, List.length_map] at this
    have e1 : (a.map (List.length ∘ fun w : Str => w.cps.toList)).sum = (a.map (·.length)).sum := rfl
    have e2 : (SX.S (TL.joinL [c] (a.map fun w => w.cps.toList))).length = (TL.joinL [c] (a.map fun w => w.cps.toList)).length := List.size_toArray
    have := h.le
    unfold wsum at this
    omega
  · refine ok_all.mpr fun d hd => ?_
    have hd : d ∈ TL.joinL [c] (a.map fun w => w.cps.toList) := hd
    rcases jl_in c hd with z | ⟨x, ha, z⟩
    · rw [z]; exact hc
    · obtain ⟨w, hw, rfl⟩ := List.mem_map.mp ha
      exact ok_all.mp (h.ok w hw) d z
theorem PtOf.sub {c : Nat} {z : Str} {ps : List Str} (h : PtOf c z ps) {p : Str} (m : p ∈ ps) : ∃ x y, z.cps.toList = x ++ (p.cps.toList ++ y) := by
  obtain ⟨x, y, e⟩ := jl_sub c (List.mem_map_of_mem (f := fun w : Str => w.cps.toList) m)
  exact ⟨x, y, h.j.symm.trans e⟩
theorem PtOf.wsb {c : Nat} {z : Str} {ps : List Str} {n : Nat} (p : PtOf c z ps) (h : TxB z n) : WsB ps (n + 1) := by
  refine ⟨?_, fun w hw => ok_sub h.ok fun d hd => ?_⟩
  · have zl : z.cps.toList.length = z.length := rfl
    have := (jl_len c (ps.map fun w => w.cps.toList)).2
    rw [p.j, List.map_map, List.length_map] at this
    have e1 : (ps.map (List.length ∘ fun w : Str => w.cps.toList)).sum = (ps.map (·.length)).sum := rfl
    have := h.len
    unfold wsum
    omega
  · obtain ⟨x, y, e⟩ := p.sub hw
    rw [e]
    exact List.mem_append_right _ (List.mem_append_left _ hd)
theorem TxB.mono {z : Str} {n m : Nat} (h : TxB z n) (l : n ≤ m) : TxB z m := ⟨Nat.le_trans h.len l, h.ok⟩
theorem WsB.len {a : List Str} {n : Nat} (h : WsB a n) : a.length ≤ n := by
  have := h.le
  unfold wsum at this
  omega
/-- a text of rows: its length, and its longest row -/
structure TxR (z : Str) (n m : Nat) : Prop where
  b : TxB z n
  r : RunB 10 z.cps.toList m
theorem TxR.mono {z : Str} {n m n' m' : Nat} (h : TxR z n m) (a : n ≤ n') (b : m ≤ m') : TxR z n' m' := ⟨h.b.mono a, h.r.mono b⟩
theorem TxR.row {z p : Str} {ps : List Str} {n m : Nat} (h : TxR z n m) (g : PtOf 10 z ps) (i : p ∈ ps) : TxB p m ∧ 10 ∉ p.cps.toList := by
  obtain ⟨x, y, e⟩ := g.sub i
  refine ⟨⟨h.r x p.cps.toList y e (g.n p i), ok_sub h.b.ok fun d hd => by rw [e]; exact List.mem_append_right _ (List.mem_append_left _ hd)⟩, g.n p i⟩
theorem TxR.join {ps : List Str} {n m : Nat} (h : WsB ps n) (g : ∀ p ∈ ps, p.length ≤ m) : TxR (Txt.join (SX.S [10]) ps) n m := by
  refine ⟨h.joinC (by decide +kernel), ?_⟩
  rw [join_L]
  refine RunB.join fun a ha => ?_
  obtain ⟨w, hw, rfl⟩ := List.mem_map.mp ha
  exact RunB.len (g w hw)
theorem nl_S : ("\n" : Str) = SX.S [10] := by decide +kernel
theorem sp_S : (" " : Str) = SX.S [32] := by decide +kernel
def netD (ls : List Str) (sts : List (Str × Str)) (jns : List (Str × List Str)) (tis : List (Str × Str × Str × Int)) : PyData :=
  .tuple [.tuple (ls.map PyData.str), .tuple (sts.map fun x => .tuple [.str x.1, .str x.2]), .tuple (jns.map fun x => .tuple [.str x.1, .tuple (x.2.map PyData.str)]), .tuple (tis.map fun x => .tuple [.str x.1, .str x.2.1, .str x.2.2.1, .int x.2.2.2])]
structure NsOk (ls : List Str) (sts : List (Str × Str)) (jns : List (Str × List Str)) (tis : List (Str × Str × Str × Int)) : Prop where
  l8 : ls.length ≤ 8
  l16 : sts.length ≤ 16
  l12 : jns.length ≤ 12
  l40 : tis.length ≤ 40
  jl : ∀ x ∈ jns, x.2.length ≤ 8 ∧ x.2 ≠ []
  ln : ∀ z ∈ ls, nameS z = true
  sn : ∀ x ∈ sts, nameS x.1 = true ∧ nameS x.2 = true
  jn : ∀ x ∈ jns, nameS x.1 = true ∧ ∀ z ∈ x.2, nameS z = true
  tn : ∀ x ∈ tis, nameS x.1 = true ∧ nameS x.2.1 = true ∧ nameS x.2.2.1 = true ∧ 1 ≤ x.2.2.2 ∧ x.2.2.2 ≤ 9999
theorem pick_list {α : Type} {f : α → PyData} {p : α → Prop} : ∀ {ds : List PyData}, (∀ d ∈ ds, ∃ x, d = f x ∧ p x) → ∃ xs : List α, ds = xs.map f ∧ ∀ x ∈ xs, p x
  | [], _ => ⟨[], rfl, fun _ h => (by cases h)⟩
  | d :: ds, h => by
    obtain ⟨x, e, px⟩ := h d List.mem_cons_self
    obtain ⟨xs, es, ps⟩ := pick_list (ds := ds) fun y hy => h y (List.mem_cons_of_mem _ hy)
    refine ⟨x :: xs, by rw [e, es]; rfl, fun y hy => ?_⟩
    rcases List.mem_cons.mp hy with rfl | hy
    · exact px
    · exact ps y hy
theorem joined_len {ls : List Str} {bs : List Str} (h : joinedB ls (.tuple (bs.map PyData.str)) = true) : bs.length ≤ ls.length ∧ bs ≠ [] := by
  unfold joinedB at h
  obtain ⟨h2, _⟩ := Bool.and_eq_true_iff.mp h
  have h2 : (decide ((2 : Int) ≤ ((bs.map PyData.str).length : Int)) && decide (((bs.map PyData.str).length : Int) ≤ (ls.length : Int))) = true := h2
  have h3 := of_decide_eq_true (Bool.and_eq_true_iff.mp h2).2
  have h4 := of_decide_eq_true (Bool.and_eq_true_iff.mp h2).1
  rw [List.length_map] at h3 h4
  refine ⟨by omega, fun e => ?_⟩
  rw [e] at h4
  exact absurd h4 (by decide)
theorem net_inv {d : PyData} (h : netB d = true) : ∃ ls sts jns tis, d = netD ls sts jns tis ∧ NsOk ls sts jns tis := by
  unfold netB at h
  split at h
  · rename_i L S J T'
    simp only [Bool.and_eq_true] at h
    obtain ⟨⟨⟨⟨hl, hs⟩, hj⟩, _⟩, ht⟩ := h
    obtain ⟨dl, rfl, al, l8⟩ := lines_inv hl
    have nmL := name_mem al
    have en := names_all al
    have ell : linesS (.tuple dl) = namesD dl := rfl
    rw [ell] at hs hj
    obtain ⟨ds, rfl, as, l16⟩ := st_inv hs
    obtain ⟨dj, rfl, aj, l12⟩ := jn_inv hj
    obtain ⟨sts, rfl, psts⟩ := pick_list (f := fun x : Str × Str => PyData.tuple [.str x.1, .str x.2]) (p := fun x => nameS x.1 = true ∧ nameS x.2 = true) (ds := ds) fun d hd => by
      obtain ⟨a, b, rfl, na, hb⟩ := station_inv (List.all_eq_true.mp as d hd)
      exact ⟨(a, b), rfl, na, nmL b hb⟩
    obtain ⟨jns, rfl, pjns⟩ := pick_list (f := fun x : Str × List Str => PyData.tuple [.str x.1, .tuple (x.2.map PyData.str)]) (p := fun x => (nameS x.1 = true ∧ ∀ z ∈ x.2, nameS z = true) ∧ x.2.length ≤ 8 ∧ x.2 ≠ []) (ds := dj) fun d hd => by
      have hd := List.all_eq_true.mp aj d hd
      obtain ⟨a, bs, rfl, na, hb⟩ := junction_inv hd
      refine ⟨(a, bs), rfl, ⟨na, fun z hz => nmL z (hb z hz)⟩, ?_⟩
      have hd : (nameS a && joinedB (namesD dl) (.tuple (bs.map PyData.str))) = true := hd
      have := joined_len (Bool.and_eq_true_iff.mp hd).2
      rw [names_len al] at this
      exact ⟨by show bs.length ≤ 8; omega, this.2⟩
    unfold tiesB at ht
    obtain ⟨ht1, ht2⟩ := Bool.and_eq_true_iff.mp ht
    obtain ⟨dt, rfl, _, l40⟩ := tupD_len ht1
    have ht2 := (Bool.and_eq_true_iff.mp ht2).1
    have lks : ∀ z l, lkF (entD (.tuple (sts.map fun x => PyData.tuple [.str x.1, .str x.2])) (.tuple (jns.map fun x => PyData.tuple [.str x.1, .tuple (x.2.map PyData.str)]))) z = some l → ∀ y ∈ l, IsNm y := fun z l h y hy => by
      obtain ⟨e, he, rfl⟩ := lkF_mem h
      rcases List.mem_append.mp he with he | he
      · obtain ⟨s', hs, rfl⟩ := List.mem_map.mp he
        obtain ⟨d, hd, rfl⟩ := List.mem_map.mp hs
        obtain ⟨x, hx, rfl⟩ := List.mem_map.mp hd
        rw [List.mem_singleton.mp hy]
        exact nm_is (psts x hx).2
      · obtain ⟨d, hd, rfl⟩ := List.mem_map.mp he
        obtain ⟨x, hx, rfl⟩ := List.mem_map.mp hd
        have hy : y ∈ (namesD (x.2.map PyData.str)).map nmOf := hy
        rw [names_strs] at hy
        obtain ⟨b, hb2, rfl⟩ := List.mem_map.mp hy
        exact nm_is ((pjns x hx).1.2 b hb2)
    generalize entD (.tuple (sts.map fun x => PyData.tuple [.str x.1, .str x.2])) (.tuple (jns.map fun x => PyData.tuple [.str x.1, .tuple (x.2.map PyData.str)])) = es at ht2 lks
    obtain ⟨tis, rfl, ptis⟩ := pick_list (f := fun x : Str × Str × Str × Int => PyData.tuple [.str x.1, .str x.2.1, .str x.2.2.1, .int x.2.2.2]) (p := fun x => nameS x.1 = true ∧ nameS x.2.1 = true ∧ nameS x.2.2.1 = true ∧ 1 ≤ x.2.2.2 ∧ x.2.2.2 ≤ 9999) (ds := dt) fun d hd => by
      have hd := List.all_eq_true.mp ht2 d hd
      obtain ⟨a, b, l, n, rfl⟩ := tie_inv hd
      have hd : (nameS a && nameS b && !decide (a = b) && strIn (linesOf es a) l && strIn (linesOf es b) l && betD n 1 9999) = true := hd
      simp only [Bool.and_eq_true] at hd
      obtain ⟨⟨⟨⟨⟨na, nb⟩, _⟩, hl⟩, _⟩, hn⟩ := hd
      obtain ⟨s, hs, rfl⟩ := strIn_str hl
      have ns : nameS s = true := by
        unfold linesOf at hs
        obtain ⟨y, hy, rfl⟩ := List.mem_map.mp hs
        cases c : lkF es (nmOf a) with
        | none => rw [c] at hy; cases hy
        | some l' =>
          rw [c] at hy
          exact nm_name (lks _ _ c y hy)
      cases n with
      | int i =>
        have hn : (decide ((1 : Int) ≤ i) && decide (i ≤ 9999)) = true := hn
        simp only [Bool.and_eq_true, decide_eq_true_eq] at hn
        exact ⟨(a, b, s, i), rfl, na, nb, ns, hn.1, hn.2⟩
      | _ => cases hn
    rw [List.length_map] at l16 l12 l40
    exact ⟨namesD dl, sts, jns, tis, by unfold netD; rw [← en], ⟨by rw [names_len al]; exact l8, l16, l12, by omega, fun x hx => (pjns x hx).2, nmL, psts, fun x hx => (pjns x hx).1, ptis⟩⟩
  · cases h
def sPrD : PyData → Str × Str
  | .tuple [.str a, .str b] => (a, b)
  | _ => ("", "")
def jPrD : PyData → Str × List Str
  | .tuple [.str a, .tuple bs] => (a, namesD bs)
  | _ => ("", [])
def tPrD : PyData → Str × Str × Str × Int
  | .tuple [.str a, .str b, .str c, .int n] => (a, b, c, n)
  | _ => ("", "", "", 0)
def netX (d : PyData) : Str := match d with
  | .tuple [ls, ss, js, ts] => netT (rowsV (linesS ls) ((itemsD ss).map sPrD) ((itemsD js).map jPrD) ((itemsD ts).map tPrD))
  | _ => ""
theorem netX_of (ls : List Str) (sts : List (Str × Str)) (jns : List (Str × List Str)) (tis : List (Str × Str × Str × Int)) : netX (netD ls sts jns tis) = netT (rowsV ls sts jns tis) := by
  show netT (rowsV (namesD (ls.map PyData.str)) ((sts.map fun x => PyData.tuple [.str x.1, .str x.2]).map sPrD) ((jns.map fun x => PyData.tuple [.str x.1, .tuple (x.2.map PyData.str)]).map jPrD) ((tis.map fun x => PyData.tuple [.str x.1, .str x.2.1, .str x.2.2.1, .int x.2.2.2]).map tPrD)) = _
  rw [names_strs, List.map_map, List.map_map, List.map_map]
  have e1 : sts.map (sPrD ∘ fun x : Str × Str => PyData.tuple [.str x.1, .str x.2]) = sts := (List.map_congr_left fun x _ => rfl).trans (List.map_id' sts)
  have e2 : jns.map (jPrD ∘ fun x : Str × List Str => PyData.tuple [.str x.1, .tuple (x.2.map PyData.str)]) = jns := (List.map_congr_left fun x _ => by show (x.1, namesD (x.2.map PyData.str)) = x; rw [names_strs]).trans (List.map_id' jns)
  have e3 : tis.map (tPrD ∘ fun x : Str × Str × Str × Int => PyData.tuple [.str x.1, .str x.2.1, .str x.2.2.1, .int x.2.2.2]) = tis := (List.map_congr_left fun x _ => rfl).trans (List.map_id' tis)
  rw [e1, e2, e3]
theorem name_len {z : Str} (h : nameS z = true) : z.length ≤ 8 := by
  unfold nameS at h
  simp only [Bool.and_eq_true, decide_eq_true_eq] at h
  exact h.1.2
theorem sum_le {l : List Nat} {m : Nat} (h : ∀ x ∈ l, x ≤ m) : l.sum ≤ m * l.length := by
  induction l with
  | nil => exact Nat.zero_le _
  | cons a l ih =>
    rw [List.sum_cons, List.length_cons, Nat.mul_succ]
    have := h a List.mem_cons_self
    have := ih fun x hx => h x (List.mem_cons_of_mem _ hx)
    omega
structure RowB (r : List V) : Prop where
  v : ∀ v ∈ r, TxOk v ∧ (txV v).length ≤ 10
  n : r.length ≤ 10
theorem RowB.sum {r : List V} (h : RowB r) : ((r.map txV).map (·.length)).sum + r.length ≤ 110 := by
  have := sum_le (l := (r.map txV).map (·.length)) (m := 10) fun x hx => by
    obtain ⟨s, hs, rfl⟩ := List.mem_map.mp hx
    obtain ⟨v, hv, rfl⟩ := List.mem_map.mp hs
    exact (h.v v hv).2
  rw [List.length_map, List.length_map] at this
  have := h.n
  omega
theorem RowB.len {r : List V} (h : RowB r) : (rowT r).length ≤ 110 := by
  have e : rowT r = SX.S (TL.joinL [32] ((r.map txV).map fun w => w.cps.toList)) := by
    unfold rowT
    rw [sp_S, join_L]
  have hs := h.sum
  have rl : (r.map txV).length = r.length := List.length_map _
  rw [← rl] at hs
  rw [e]
  generalize r.map txV = ts at hs
  have e2 : (SX.S (TL.joinL [32] (ts.map fun w => w.cps.toList))).length = (TL.joinL [32] (ts.map fun w => w.cps.toList)).length := List.size_toArray
  have := (jl_len 32 (ts.map fun w => w.cps.toList)).1
  rw [List.map_map, List.length_map] at this
  have e1 : (ts.map (List.length ∘ fun w : Str => w.cps.toList)).sum = (ts.map (·.length)).sum := rfl
  rw [e2]
  omega
theorem tx_str {s : Str} (h : s.length ≤ 10) : TxOk (.str s) ∧ (txV (.str s)).length ≤ 10 := ⟨.inr ⟨s, rfl⟩, h⟩
theorem tx_name {s : Str} (h : nameS s = true) : TxOk (.str s) ∧ (txV (.str s)).length ≤ 10 := tx_str (by have := name_len h; omega)
theorem tx_num {n : Int} (h0 : 0 ≤ n) (h1 : n ≤ 9999) : TxOk (.int n) ∧ (txV (.int n)).length ≤ 10 := by
  refine ⟨.inl ⟨n, rfl, ?_⟩, ?_⟩
  · by_cases z : n.natAbs = 0
    · rw [z]; decide
    · exact Nat.lt_of_lt_of_le ((Nat.log2_lt z).mpr (show n.natAbs < 2 ^ 14 by omega)) (show 14 ≤ 1920 by decide)
  · have := num_plain h0 (show n < 10 ^ 10 by omega)
    unfold plainS at this
    simp only [Bool.and_eq_true, decide_eq_true_eq] at this
    exact this.1.1.2
theorem row_all {r : List V} (h : ∀ v ∈ r, TxOk v ∧ (txV v).length ≤ 10) (n : r.length ≤ 10) : RowB r := ⟨h, n⟩
theorem all_cons {v : V} {r : List V} (a : TxOk v ∧ (txV v).length ≤ 10) (h : ∀ v ∈ r, TxOk v ∧ (txV v).length ≤ 10) : ∀ u ∈ v :: r, TxOk u ∧ (txV u).length ≤ 10 := fun u hu => (List.mem_cons.mp hu).elim (fun e => by rw [e]; exact a) (h u)
theorem all_nil : ∀ u ∈ ([] : List V), TxOk u ∧ (txV u).length ≤ 10 := fun _ h => (by cases h)
theorem NsOk.rows {ls : List Str} {sts : List (Str × Str)} {jns : List (Str × List Str)} {tis : List (Str × Str × Str × Int)} (h : NsOk ls sts jns tis) : ∀ r ∈ rowsV ls sts jns tis, RowB r := fun r hr => by
  unfold rowsV at hr
  rcases List.mem_append.mp hr with hr | hr
  · rcases List.mem_append.mp hr with hr | hr
    · rcases List.mem_append.mp hr with hr | hr
      · obtain ⟨z, hz, rfl⟩ := List.mem_map.mp hr
        exact row_all (all_cons (tx_str (by decide +kernel)) (all_cons (tx_name (h.ln z hz)) all_nil)) (Nat.le_of_ble_eq_true rfl)
      · obtain ⟨x, hx, rfl⟩ := List.mem_map.mp hr
        obtain ⟨a, b⟩ := h.sn x hx
        exact row_all (all_cons (tx_str (by decide +kernel)) (all_cons (tx_name a) (all_cons (tx_name b) all_nil))) (Nat.le_of_ble_eq_true rfl)
    · obtain ⟨x, hx, rfl⟩ := List.mem_map.mp hr
      obtain ⟨a, b⟩ := h.jn x hx
      refine row_all (all_cons (tx_str (by decide +kernel)) (all_cons (tx_name a) fun v hv => ?_)) (by have := (h.jl x hx).1; simp only [List.length_cons, List.length_map]; omega)
      obtain ⟨z, hz, rfl⟩ := List.mem_map.mp hv
      exact tx_name (b z hz)
  · obtain ⟨x, hx, rfl⟩ := List.mem_map.mp hr
    obtain ⟨a, b, c, d, e⟩ := h.tn x hx
    exact row_all (all_cons (tx_str (by decide +kernel)) (all_cons (tx_name a) (all_cons (tx_name b) (all_cons (tx_name c) (all_cons (tx_num (by omega) e) all_nil))))) (Nat.le_of_ble_eq_true rfl)
theorem NsOk.many {ls : List Str} {sts : List (Str × Str)} {jns : List (Str × List Str)} {tis : List (Str × Str × Str × Int)} (h : NsOk ls sts jns tis) : (rowsV ls sts jns tis).length ≤ 76 := by
  unfold rowsV
  simp only [List.length_append, List.length_map]
  have := h.l8
  have := h.l16
  have := h.l12
  have := h.l40
  omega
theorem NsOk.all {ls : List Str} {sts : List (Str × Str)} {jns : List (Str × List Str)} {tis : List (Str × Str × Str × Int)} (h : NsOk ls sts jns tis) : (((rowsV ls sts jns tis).map rowT).map (·.length)).sum + ((rowsV ls sts jns tis).map rowT).length ≤ 16777216 := by
  have := sum_le (l := ((rowsV ls sts jns tis).map rowT).map (·.length)) (m := 110) fun x hx => by
    obtain ⟨s, hs, rfl⟩ := List.mem_map.mp hx
    obtain ⟨r, hr, rfl⟩ := List.mem_map.mp hs
    exact (h.rows r hr).len
  rw [List.length_map, List.length_map] at this
  have := h.many
  rw [List.length_map]
  omega
end Th
namespace Th
open PySem PySem.Spec PyProof.Rows L2
theorem dtAll_app {S : Addr → Prop} {H : Hp} : ∀ {xs ys : List V} {ds es : List PyData}, DtAll S H xs ds → DtAll S H ys es → DtAll S H (xs ++ ys) (ds ++ es)
  | _, _, _, _, .nil, h => h
  | _, _, _, _, .cons a r, h => .cons a (dtAll_app r h)
theorem cut_dropH (xs : List V) (m : Nat) : cutV xs (some (m : Int)) none = xs.drop m := by
  unfold cutV
  rw [HT.sIx_none, HT.sIx_nat]
  by_cases h : m ≤ xs.length
  · rw [Nat.min_eq_left h]
    exact List.take_of_length_le (by rw [List.length_drop]; omega)
  · rw [Nat.min_eq_right (by omega), Nat.sub_self, List.take_zero, List.drop_eq_nil_of_le (by omega)]
def thD : Slot → Str → PyData
  | .num, z => .int (numS z)
  | _, z => .str z
theorem dtAll_things {S : Addr → Prop} {H : Hp} : ∀ (slots : List Slot) (ws : List Str), DtAll S H (List.zipWith thV slots ws) (List.zipWith thD slots ws)
  | [], _ => .nil
  | _ :: _, [] => .nil
  | s :: slots, z :: ws => .cons (by cases s; exact .str _; exact .int _; exact .str _) (dtAll_things slots ws)
theorem dtAll_strs {S : Addr → Prop} {H : Hp} : ∀ ws : List Str, DtAll S H (ws.map V.str) (ws.map PyData.str)
  | [] => .nil
  | z :: ws => .cons (.str z) (dtAll_strs ws)
def NETK : List Str := ["line", "station", "junction", "tie"]
def rowN (kd : Str) : List Slot := if kd = ("line" : Str) then [.nm] else if kd = ("station" : Str) then [.nm, .nm] else if kd = ("junction" : Str) then [.nm, .nm] else [.nm, .nm, .nm, .num]
def moreN (kd : Str) : Bool := decide (kd = ("junction" : Str))
def slN (kd : Str) (m : Nat) : List Slot := slotsOf (moreN kd) (rowN kd) m
/-- what the things of a row come to -/
def foldN (kd : Str) (ds : List PyData) : PyData := if kd = ("line" : Str) then ds.headD .none else if kd = ("junction" : Str) then .tuple [ds.headD .none, .tuple (ds.drop 1)] else .tuple ds
def houseW : List Str → Option (Str × PyData)
  | [] => none
  | kd :: rest => if kd ∈ NETK ∧ fitsB (slN kd rest.length) rest = true then some (kd, foldN kd (List.zipWith thD (slN kd rest.length) rest)) else none
def leastN (kd : Str) : Nat := if kd = ("line" : Str) then 1 else if kd = ("tie" : Str) then 4 else 2
theorem leastL : leastN "line" = 1 := by decide +kernel
theorem leastS : leastN "station" = 2 := by decide +kernel
theorem leastT : leastN "tie" = 4 := by decide +kernel
def plD (z : Str) : PyData := if plainS z = true then .int (numS z) else .none
def lawD (kd : Str) (rest : List Str) : PyData := if kd = ("line" : Str) then .str (rest.headD "") else if kd = ("tie" : Str) then .tuple ((rest.take 3).map PyData.str ++ [plD ((rest.drop 3).headD "")]) else if kd = ("station" : Str) then .tuple (rest.map PyData.str) else .tuple [.str (rest.headD ""), .tuple ((rest.drop 1).map PyData.str)]
def lawW : List Str → Option (Str × PyData)
  | [] => none
  | kd :: rest => if kd ∈ NETK ∧ leastN kd ≤ rest.length ∧ (kd = ("junction" : Str) ∨ rest.length = leastN kd) then some (kd, lawD kd rest) else none
structure Fo where
  l : List PyData
  s : List PyData
  j : List PyData
  t : List PyData
def Fo.add (f : Fo) (kd : Str) (d : PyData) : Fo := if kd = ("line" : Str) then { f with l := f.l ++ [d] } else if kd = ("station" : Str) then { f with s := f.s ++ [d] } else if kd = ("junction" : Str) then { f with j := f.j ++ [d] } else { f with t := f.t ++ [d] }
def Fo.d (f : Fo) : PyData := .tuple [.tuple f.l, .tuple f.s, .tuple f.j, .tuple f.t]
def Fo.nil : Fo := ⟨[], [], [], []⟩
def runR (row : Str → Option (Str × PyData)) : List Str → Fo → Option Fo
  | [], f => some f
  | r :: rs, f => match row r with
    | none => none
    | some (k, d) => runR row rs (f.add k d)
def rowP (r : Str) : Option (Str × PyData) := houseW (wordsS r)
def rowLw (r : Str) : Option (Str × PyData) := lawW (Txt.split r " ")
def netP (z : Str) : Option PyData := (runR rowP (Txt.split z "\n") Fo.nil).map Fo.d
def netL (z : Str) : Option PyData := (runR rowLw (Txt.split z "\n") Fo.nil).map Fo.d
def keepN (z : Str) (o : Option PyData) : Option PyData := match o with
  | some d => if netB d = true ∧ netX d = z then some d else none
  | none => none
mutual
def goodD : PyData → Bool
  | .str s => nameS s
  | .int _ => true
  | .tuple ds => goodAll ds
  | _ => false
def goodAll : List PyData → Bool
  | [] => true
  | d :: ds => goodD d && goodAll ds
end
theorem goodAll_iff : ∀ {ds : List PyData}, goodAll ds = true ↔ ∀ d ∈ ds, goodD d = true
  | [] => ⟨fun _ _ h => (by cases h), fun _ => rfl⟩
  | d :: ds => by
    show (goodD d && goodAll ds) = true ↔ _
    rw [Bool.and_eq_true, goodAll_iff (ds := ds)]
    simp
theorem net_good {d : PyData} (h : netB d = true) : goodD d = true := by
  obtain ⟨ls, sts, jns, tis, rfl, ok⟩ := net_inv h
  have t_ : ∀ {ds : List PyData}, (∀ d ∈ ds, goodD d = true) → goodD (.tuple ds) = true := fun h => goodAll_iff.mpr h
  have m2 : ∀ {a : PyData} {l : List PyData}, goodD a = true → (∀ d ∈ l, goodD d = true) → ∀ d ∈ a :: l, goodD d = true := fun ha hl d hd => (List.mem_cons.mp hd).elim (fun e => by rw [e]; exact ha) (hl d)
  have m0 : ∀ d ∈ ([] : List PyData), goodD d = true := fun _ h => (by cases h)
  refine t_ (m2 (t_ fun d hd => ?_) (m2 (t_ fun d hd => ?_) (m2 (t_ fun d hd => ?_) (m2 (t_ fun d hd => ?_) m0))))
  · obtain ⟨z, hz, rfl⟩ := List.mem_map.mp hd
    exact ok.ln z hz
  · obtain ⟨x, hx, rfl⟩ := List.mem_map.mp hd
    exact t_ (m2 (ok.sn x hx).1 (m2 (ok.sn x hx).2 m0))
  · obtain ⟨x, hx, rfl⟩ := List.mem_map.mp hd
    refine t_ (m2 (ok.jn x hx).1 (m2 (t_ fun d hd => ?_) m0))
    obtain ⟨z, hz, rfl⟩ := List.mem_map.mp hd
    exact (ok.jn x hx).2 z hz
  · obtain ⟨x, hx, rfl⟩ := List.mem_map.mp hd
    obtain ⟨a, b, c, _⟩ := ok.tn x hx
    exact t_ (m2 a (m2 b (m2 c (m2 (a := .int x.2.2.2) rfl m0))))
theorem fits_inv {s : Slot} {z : Str} {sl : List Slot} {ws : List Str} (h : fitsB (s :: sl) (z :: ws) = true) : fitS s z = true ∧ fitsB sl ws = true := by
  unfold fitsB at h ⊢
  simp only [Bool.and_eq_true, decide_eq_true_eq, List.length_cons, List.zipWith_cons_cons, List.all_cons] at h ⊢
  exact ⟨h.2.1, by omega, h.2.2⟩
theorem fits_len {sl : List Slot} {ws : List Str} (h : fitsB sl ws = true) : ws.length = sl.length := by
  unfold fitsB at h
  simp only [Bool.and_eq_true, decide_eq_true_eq] at h
  exact h.1
theorem fits_cons {s : Slot} {z : Str} {sl : List Slot} {ws : List Str} (a : fitS s z = true) (b : fitsB sl ws = true) : fitsB (s :: sl) (z :: ws) = true := by
  unfold fitsB at b ⊢
  simp only [Bool.and_eq_true, decide_eq_true_eq, List.length_cons, List.zipWith_cons_cons, List.all_cons] at b ⊢
  exact ⟨by omega, a, b.2⟩
theorem fits_names : ∀ {n : Nat} {ws : List Str}, fitsB (List.replicate n .nm) ws = true ↔ ws.length = n ∧ ∀ z ∈ ws, nameS z = true
  | 0, [] => ⟨fun _ => ⟨rfl, fun _ h => (by cases h)⟩, fun _ => rfl⟩
  | 0, _ :: _ => ⟨fun h => absurd (fits_len h) (by simp), fun h => absurd h.1 (by simp)⟩
  | _ + 1, [] => ⟨fun h => absurd (fits_len h) (by simp), fun h => absurd h.1 (by simp)⟩
  | n + 1, z :: ws => by
    rw [List.replicate_succ]
    constructor
    · intro h
      obtain ⟨a, b⟩ := fits_inv h
      obtain ⟨c, d⟩ := fits_names.mp b
      exact ⟨by rw [List.length_cons, c], fun y hy => (List.mem_cons.mp hy).elim (fun e => by rw [e]; exact a) (d y)⟩
    · intro h
      exact fits_cons (h.2 z List.mem_cons_self) (fits_names.mpr ⟨by have := h.1; rw [List.length_cons] at this; omega, fun y hy => h.2 y (List.mem_cons_of_mem _ hy)⟩)
theorem zip_names : ∀ {n : Nat} {ws : List Str}, ws.length = n → List.zipWith thD (List.replicate n .nm) ws = ws.map PyData.str
  | 0, [], _ => rfl
  | n + 1, z :: ws, h => by
    rw [List.replicate_succ, List.zipWith_cons_cons, zip_names (by rw [List.length_cons] at h; omega)]
    rfl
theorem slN_junction (m : Nat) : slN "junction" m = List.replicate (2 + (m - 2)) .nm := by
  have e : slN "junction" m = [Slot.nm, .nm] ++ (List.replicate (m - 2) [Slot.nm]).flatten := rfl
  rw [e]
  have e2 : ∀ k : Nat, (List.replicate k [Slot.nm]).flatten = List.replicate k .nm := fun k => by
    induction k with
    | zero => rfl
    | succ k ih => rw [List.replicate_succ, List.flatten_cons, ih, List.replicate_succ]; rfl
  rw [e2, Nat.add_comm 2]
  rfl
theorem netk_cases {kd : Str} (h : kd ∈ NETK) : kd = "line" ∨ kd = "station" ∨ kd = "junction" ∨ kd = "tie" := by
  simpa [NETK] using h
theorem tie_fits {rest : List Str} : fitsB [.nm, .nm, .nm, .num] rest = true ↔ ∃ a b c n, rest = [a, b, c, n] ∧ nameS a = true ∧ nameS b = true ∧ nameS c = true ∧ plainS n = true := by
  constructor
  · intro h
    have l := fits_len h
    match rest, l with
    | [a, b, c, n], _ =>
      obtain ⟨h1, h⟩ := fits_inv h
      obtain ⟨h2, h⟩ := fits_inv h
      obtain ⟨h3, h⟩ := fits_inv h
      obtain ⟨h4, h⟩ := fits_inv h
      exact ⟨a, b, c, n, rfl, h1, h2, h3, h4⟩
  · rintro ⟨a, b, c, n, rfl, h1, h2, h3, h4⟩
    exact fits_cons h1 (fits_cons h2 (fits_cons h3 (fits_cons h4 rfl)))
/-- what the program reads in a row, the law reads in it -/
theorem house_law {ws : List Str} {x : Str × PyData} (h : houseW ws = some x) : lawW ws = some x := by
  cases ws with
  | nil => cases h
  | cons kd rest =>
    have h : (if kd ∈ NETK ∧ fitsB (slN kd rest.length) rest = true then some (kd, foldN kd (List.zipWith thD (slN kd rest.length) rest)) else none) = some x := h
    split at h
    · rename_i c
      obtain ⟨hk, fb⟩ := c
      have h := (Option.some.inj h).symm
      subst h
      show (if kd ∈ NETK ∧ leastN kd ≤ rest.length ∧ (kd = ("junction" : Str) ∨ rest.length = leastN kd) then some (kd, lawD kd rest) else none) = _
      rcases netk_cases hk with rfl | rfl | rfl | rfl
      · have fb : fitsB (List.replicate 1 .nm) rest = true := fb
        obtain ⟨l, _⟩ := fits_names.mp fb
        match rest, l with
        | [a], _ => rw [if_pos ⟨hk, by rw [leastL]; exact Nat.le_refl _, .inr leastL.symm⟩]; rfl
      · have fb : fitsB (List.replicate 2 .nm) rest = true := fb
        obtain ⟨l, _⟩ := fits_names.mp fb
        match rest, l with
        | [a, b], _ => rw [if_pos ⟨hk, by rw [leastS]; exact Nat.le_refl _, .inr leastS.symm⟩]; rfl
      · rw [slN_junction] at fb ⊢
        obtain ⟨l, _⟩ := fits_names.mp fb
        rw [zip_names l]
        rw [if_pos ⟨hk, by show 2 ≤ rest.length; omega, .inl rfl⟩]
        match rest, l with
        | a :: r, _ => rfl
      · have fb : fitsB [.nm, .nm, .nm, .num] rest = true := fb
        obtain ⟨a, b, c, n, rfl, _, _, _, h4⟩ := tie_fits.mp fb
        rw [if_pos ⟨hk, by rw [leastT]; exact Nat.le_refl _, .inr leastT.symm⟩]
        have e : lawD "tie" [a, b, c, n] = .tuple [.str a, .str b, .str c, plD n] := rfl
        rw [e]
        unfold plD
        rw [if_pos h4]
        rfl
    · cases h
/-- what the law reads in a row, the program reads in it, where all of it are names and numbers -/
theorem law_house {ws : List Str} {kd : Str} {d : PyData} (h : lawW ws = some (kd, d)) (g : goodD d = true) : houseW ws = some (kd, d) ∧ ("" : Str) ∉ ws := by
  cases ws with
  | nil => cases h
  | cons kd' rest =>
    have h : (if kd' ∈ NETK ∧ leastN kd' ≤ rest.length ∧ (kd' = ("junction" : Str) ∨ rest.length = leastN kd') then some (kd', lawD kd' rest) else none) = some (kd, d) := h
    split at h
    · rename_i c
      obtain ⟨hk, l1, l2⟩ := c
      have h := Option.some.inj h
      injection h with e1 e2
      subst e1 e2
      have ne : ∀ {z : Str}, nameS z = true → z ≠ "" := fun {z} h e => by rw [e] at h; exact absurd h (by decide +kernel)
      have nes : ∀ {l : List Str}, (∀ z ∈ l, nameS z = true) → ("" : Str) ∉ l := fun h m => ne (h _ m) rfl
      have kne : kd' ≠ ("" : Str) := fun e => by rw [e] at hk; exact absurd hk (by decide +kernel)
      have fin : ∀ {w : List Str}, ("" : Str) ∉ w → ("" : Str) ∉ kd' :: w := fun h m => (List.mem_cons.mp m).elim (fun e => kne e.symm) h
      have go : fitsB (slN kd' rest.length) rest = true → foldN kd' (List.zipWith thD (slN kd' rest.length) rest) = lawD kd' rest → houseW (kd' :: rest) = some (kd', lawD kd' rest) := fun fb e => by
        show (if kd' ∈ NETK ∧ fitsB (slN kd' rest.length) rest = true then some (kd', foldN kd' (List.zipWith thD (slN kd' rest.length) rest)) else none) = _
        rw [if_pos ⟨hk, fb⟩, e]
      have strsN : ∀ {l : List Str}, goodAll (l.map PyData.str) = true → ∀ z ∈ l, nameS z = true := fun h z hz => goodAll_iff.mp h (.str z) (List.mem_map_of_mem hz)
      rcases netk_cases hk with rfl | rfl | rfl | rfl
      · have l2 : rest.length = 1 := l2.resolve_left (by decide +kernel)
        match rest, l2 with
        | [a], _ =>
          have g : nameS a = true := g
          exact ⟨go (fits_names (n := 1).mpr ⟨rfl, fun z hz => by rw [List.mem_singleton.mp hz]; exact g⟩) rfl, fin (nes fun z hz => by rw [List.mem_singleton.mp hz]; exact g)⟩
      · have l2 : rest.length = 2 := l2.resolve_left (by decide +kernel)
        have g : goodAll (rest.map PyData.str) = true := g
        have gs := strsN g
        match rest, l2, gs with
        | [a, b], _, gs => exact ⟨go (fits_names (n := 2).mpr ⟨rfl, gs⟩) rfl, fin (nes gs)⟩
      · have l1 : 2 ≤ rest.length := l1
        match rest, l1, g with
        | a :: r, l1, g =>
          have g : (nameS a && (goodAll (r.map PyData.str) && true)) = true := g
          rw [Bool.and_true] at g
          obtain ⟨g1, g2⟩ := Bool.and_eq_true_iff.mp g
          have gs : ∀ z ∈ a :: r, nameS z = true := fun z hz => (List.mem_cons.mp hz).elim (fun e => by rw [e]; exact g1) (strsN g2 z)
          have ll : (a :: r).length = 2 + ((a :: r).length - 2) := by omega
          refine ⟨go ?_ ?_, fin (nes gs)⟩
          · rw [slN_junction]
            exact fits_names.mpr ⟨ll, gs⟩
          · rw [slN_junction, zip_names ll]
            rfl
      · have l2 : rest.length = 4 := l2.resolve_left (by decide +kernel)
        match rest, l2 with
        | [a, b, c, n], _ =>
          have g : (nameS a && (nameS b && (nameS c && (goodD (plD n) && true)))) = true := g
          simp only [Bool.and_eq_true] at g
          obtain ⟨ga, gb, gc, gn, _⟩ := g
          have pn : plainS n = true := by
            unfold plD at gn
            split at gn
            · assumption
            · cases gn
          refine ⟨go (tie_fits.mpr ⟨a, b, c, n, rfl, ga, gb, gc, pn⟩) ?_, fin fun m => ?_⟩
          · have e : lawD "tie" [a, b, c, n] = .tuple [.str a, .str b, .str c, plD n] := rfl
            rw [e]
            unfold plD
            rw [if_pos pn]
            rfl
          · simp only [List.mem_cons, List.not_mem_nil, or_false] at m
            rcases m with e | e | e | e
            · exact ne ga e.symm
            · exact ne gb e.symm
            · exact ne gc e.symm
            · rw [← e] at pn
              exact absurd pn (by decide +kernel)
    · cases h
theorem words_of_split {r : Str} (h : ("" : Str) ∉ Txt.split r " ") : wordsS r = Txt.split r " " := by
  unfold wordsS
  rw [if_neg]
  intro e
  unfold inV at e
  obtain ⟨v, hv, e⟩ := List.any_eq_true.mp e
  obtain ⟨w, hw, rfl⟩ := List.mem_map.mp hv
  have e : w = "" := by simpa [eqV] using e
  exact h (by rw [← e]; exact hw)
theorem row_pl {r : Str} {x : Str × PyData} (h : rowP r = some x) : rowLw r = some x := by
  unfold rowP wordsS at h
  split at h
  · cases h
  · exact house_law h
theorem row_lp {r : Str} {kd : Str} {d : PyData} (h : rowLw r = some (kd, d)) (g : goodD d = true) : rowP r = some (kd, d) := by
  obtain ⟨a, b⟩ := law_house h g
  unfold rowP
  rw [words_of_split b]
  exact a
theorem run_pl : ∀ {rs : List Str} {f g : Fo}, runR rowP rs f = some g → runR rowLw rs f = some g
  | [], _, _, h => h
  | r :: rs, f, g, h => by
    have h : (match rowP r with | none => none | some (k, d) => runR rowP rs (f.add k d)) = some g := h
    show (match rowLw r with | none => none | some (k, d) => runR rowLw rs (f.add k d)) = some g
    cases c : rowP r with
    | none => rw [c] at h; cases h
    | some x =>
      rw [c] at h
      rw [row_pl c]
      exact run_pl h
def Fo.all (f : Fo) : List PyData := f.l ++ f.s ++ f.j ++ f.t
theorem fo_all (f : Fo) (d : PyData) : d ∈ f.all ↔ d ∈ f.l ∨ d ∈ f.s ∨ d ∈ f.j ∨ d ∈ f.t := by
  unfold Fo.all
  simp only [List.mem_append, or_assoc]
theorem add_all (f : Fo) (k : Str) (d : PyData) : d ∈ (f.add k d).all ∧ ∀ x ∈ f.all, x ∈ (f.add k d).all := by
  unfold Fo.add
  split
  · exact ⟨(fo_all _ _).mpr (.inl (List.mem_append_right _ List.mem_cons_self)), fun x hx => (fo_all _ _).mpr (((fo_all _ _).mp hx).imp (List.mem_append_left _) id)⟩
  · split
    · exact ⟨(fo_all _ _).mpr (.inr (.inl (List.mem_append_right _ List.mem_cons_self))), fun x hx => (fo_all _ _).mpr (((fo_all _ _).mp hx).imp id (Or.imp (List.mem_append_left _) id))⟩
    · split
      · exact ⟨(fo_all _ _).mpr (.inr (.inr (.inl (List.mem_append_right _ List.mem_cons_self)))), fun x hx => (fo_all _ _).mpr (((fo_all _ _).mp hx).imp id (Or.imp id (Or.imp (List.mem_append_left _) id)))⟩
      · exact ⟨(fo_all _ _).mpr (.inr (.inr (.inr (List.mem_append_right _ List.mem_cons_self)))), fun x hx => (fo_all _ _).mpr (((fo_all _ _).mp hx).imp id (Or.imp id (Or.imp id (List.mem_append_left _))))⟩
theorem run_all {row : Str → Option (Str × PyData)} : ∀ {rs : List Str} {f g : Fo}, runR row rs f = some g → ∀ x ∈ f.all, x ∈ g.all
  | [], _, _, h, x, hx => by rw [← Option.some.inj h]; exact hx
  | r :: rs, f, g, h, x, hx => by
    have h : (match row r with | none => none | some (k, d) => runR row rs (f.add k d)) = some g := h
    cases c : row r with
    | none => rw [c] at h; cases h
    | some y =>
      rw [c] at h
      exact run_all h x ((add_all f y.1 y.2).2 x hx)
theorem run_lp : ∀ {rs : List Str} {f g : Fo}, runR rowLw rs f = some g → (∀ x ∈ g.all, goodD x = true) → runR rowP rs f = some g
  | [], _, _, h, _ => h
  | r :: rs, f, g, h, hg => by
    have h : (match rowLw r with | none => none | some (k, d) => runR rowLw rs (f.add k d)) = some g := h
    show (match rowP r with | none => none | some (k, d) => runR rowP rs (f.add k d)) = some g
    cases c : rowLw r with
    | none => rw [c] at h; cases h
    | some x =>
      rw [c] at h
      have h : runR rowLw rs (f.add x.1 x.2) = some g := h
      rw [row_lp (kd := x.1) (d := x.2) c (hg _ (run_all h _ (add_all f x.1 x.2).1))]
      exact run_lp h hg
theorem net_all {g : Fo} (h : goodD g.d = true) : ∀ x ∈ g.all, goodD x = true := fun x hx => by
  have h : (goodAll g.l && (goodAll g.s && (goodAll g.j && (goodAll g.t && true)))) = true := h
  simp only [Bool.and_eq_true] at h
  obtain ⟨h1, h2, h3, h4, _⟩ := h
  rcases (fo_all _ _).mp hx with z | z | z | z
  · exact goodAll_iff.mp h1 x z
  · exact goodAll_iff.mp h2 x z
  · exact goodAll_iff.mp h3 x z
  · exact goodAll_iff.mp h4 x z
/-- both read the same -/
theorem read_eq (z : Str) : keepN z (netP z) = keepN z (netL z) := by
  unfold netP netL
  cases c : runR rowP (Txt.split z "\n") Fo.nil with
  | some g => rw [run_pl c]
  | none =>
    cases c2 : runR rowLw (Txt.split z "\n") Fo.nil with
    | none => rfl
    | some g =>
      show none = if netB g.d = true ∧ netX g.d = z then some g.d else none
      rw [if_neg fun h => ?_]
      rw [run_lp c2 (net_all (net_good h.1))] at c
      cases c
def rowTx (kd : Str) : List Str := if kd = ("line" : Str) then ["name"] else if kd = ("station" : Str) then ["name", "name"] else if kd = ("junction" : Str) then ["name", "name", ".."] else ["name", "name", "name", "number"]
theorem rowTx_data {kd : Str} (h : kd ∈ NETK) : (rowTx kd).map PyData.str = rowsD (moreN kd) (rowN kd) := by
  rcases netk_cases h with rfl | rfl | rfl | rfl <;> rfl
theorem hrow_at {w : World} {K : PySem.W.Frag} {mg : Str → Option Value} (T : Defs K mg) (DT : DicT w T) {kd : Str} (h : kd ∈ NETK) : ∃ t, KDct K w T.a_HOUSE_ROWS kd (.ref t) ∧ ∀ H : Hp, SqT K H t ((rowTx kd).map V.str) := by
  rcases netk_cases h with rfl | rfl | rfl | rfl
  · exact ⟨_, DT.d_HOUSE_ROWS_0, fun H => DicK.sqT T.k_HOUSE_ROWS_0 T.u_HOUSE_ROWS_0 (by decide)⟩
  · exact ⟨_, DT.d_HOUSE_ROWS_1, fun H => DicK.sqT T.k_HOUSE_ROWS_1 T.u_HOUSE_ROWS_1 (by decide)⟩
  · exact ⟨_, DT.d_HOUSE_ROWS_2, fun H => DicK.sqT T.k_HOUSE_ROWS_2 T.u_HOUSE_ROWS_2 (by decide)⟩
  · exact ⟨_, DT.d_HOUSE_ROWS_3, fun H => DicK.sqT T.k_HOUSE_ROWS_3 T.u_HOUSE_ROWS_3 (by decide)⟩
theorem rowN_ok (kd : Str) : (∀ s ∈ rowN kd, SlotOk s) ∧ 1 ≤ (rowN kd).length ∧ (rowN kd).length ≤ 4 := by
  have c : ∀ s ∈ rowN kd, s = .nm ∨ s = .num := by
    unfold rowN
    split
    · simp
    · split
      · simp
      · split <;> simp
  refine ⟨fun s hs => ⟨fun l e => ?_⟩, ?_, ?_⟩
  · rcases c s hs with rfl | rfl <;> cases e
  all_goals
    unfold rowN
    split
    · decide
    · split
      · decide
      · split <;> decide
section
variable {P : Program} {w : World} {K : PySem.W.Frag} {mg : Str → Option Value} {base : Heap} {k : Nat}
def sp_house_in (K : PySem.W.Frag) : Sp := fun vs H Q _ => ∃ (wl : Addr) (kd : Str) (rest : List Str), vs = [.ref wl] ∧ SqL K H wl ((kd :: rest).map V.str) ∧ kd ∈ NETK ∧ rest.length ≤ 4000 ∧ (∀ z ∈ rest, z.length ≤ 5000) ∧
  (∀ x, houseW (kd :: rest) = some x → ∀ H' v, Same H H' → Dt SA H' v x.2 → Q v H') ∧ (houseW (kd :: rest) = none → ∀ H', Same H H' → Q .non H')
set_option maxHeartbeats 8000000 in
theorem ok_house_in (T : Defs K mg) (DT : DicT w T) : FnOk P w K mg base CX0 (k + 4) T.a_house_in T.d_house_in ["words"] (sp_house_in K) := by
  have G_things_in : FnOk P w K mg base CX0 (k + 3) _ _ _ _ := ok_things_inM (k := k) T
  refine T.F_house_in.ok sc_house_in (fun vs H Q E h => ?_) (fun cdv A outer s H vs Q E hr h => ?_)
  · obtain ⟨wl, kd, rest, rfl, _⟩ := h
    rfl
  · obtain ⟨wl, kd, rest, rfl, hwl, hk, r4, hz, qy, qn⟩ := h
    refine ⟨_, PSs.nox
(pss_cons (ps_set (i := 1) sc_house_in.nd rfl (.inl rfl) (pe_ix (r := rIxL K) ix_list (pv 0) (pe_int) (fun _ _ => rfl)))
    (Evl.pss_cut (ps_set (i := 2) sc_house_in.nd rfl (.inl rfl) (pe_ifExp (pt_cmpR (r := WrK.rInK K w false) WrK.op_inK (pv 1) (pe_glob (v := .ref T.a_HOUSE_ROWS) (by rfl) T.g_HOUSE_ROWS rfl) (by rfl)) (pe_call G_things_in hr (by rfl) T.g_things_in T.F_things_in.kp T.b_things_in .nil pass0 (pa_cons (pe_ix (r := rIxD K w) ix_kdict (pe_glob (v := .ref T.a_HOUSE_ROWS) (by rfl) T.g_HOUSE_ROWS rfl) (pv 1) (fun _ _ => rfl)) (pa_cons (pe_slice sl_list (pv 0) (po_some (pe_int)) po_none) pa_nil))) (pe_non)))
    (pss_cons (ps_if (pt_cmpR op_isN (pv 2) (pe_non) (nomark _))
      (pss_one (ps_ret (pe_non)))
      pss_nil)
    (pss_cons (ps_if (pt_cmpR op_eq (pv 1) (pe_str) (nomark _))
      (pss_one (ps_ret (pe_ix (r := rIxL K) ix_list (pv 2) (pe_int) (fun _ _ => rfl))))
      pss_nil)
    (pss_cons (ps_if (pt_cmpR op_eq (pv 1) (pe_str) (nomark _))
      (pss_one (ps_ret (pe_tup (pa_cons (pe_ix (r := rIxL K) ix_list (pv 2) (pe_int) (fun _ _ => rfl)) (pa_cons (pe_callTy call_tuple_of (by rfl) T.z_tuple (by decide +kernel) (pa_cons (pe_slice sl_list (pv 2) (po_some (pe_int)) po_none) pa_nil)) pa_nil)))))
      pss_nil)
    (pss_cons (ps_if (pt_cmpR op_eq (pv 1) (pe_str) (nomark _))
      (pss_one (ps_ret (pe_op op_catT (pe_callTy call_tuple_of (by rfl) T.z_tuple (by decide +kernel) (pa_cons (pe_slice sl_list (pv 2) po_none (po_some (pe_int))) pa_nil)) (pe_tup (pa_cons (pe_callTy call_tuple_of (by rfl) T.z_tuple (by decide +kernel) (pa_cons (pe_slice sl_list (pv 2) (po_some (pe_int)) po_none) pa_nil)) pa_nil)))))
      pss_nil)
    (pss_one (ps_ret (pe_callTy call_tuple_of (by rfl) T.z_tuple (by decide +kernel) (pa_cons (pv 2) pa_nil))))))))))
      , ?_⟩
    refine ⟨.ref wl, rfl, wl, _, 0, .str kd, rfl, rfl, hwl, atI_nat (j := 0) rfl, ?_⟩
    obtain ⟨ra, kdc, hra⟩ := hrow_at T DT hk
    obtain ⟨rok, r1, rn4⟩ := rowN_ok kd
    have hw : houseW (kd :: rest) = if fitsB (slN kd rest.length) rest = true then some (kd, foldN kd (List.zipWith thD (slN kd rest.length) rest)) else none := by
      show (if kd ∈ NETK ∧ fitsB (slN kd rest.length) rest = true then _ else none) = _
      by_cases c : fitsB (slN kd rest.length) rest = true
      · rw [if_pos ⟨hk, c⟩, if_pos c]
      · rw [if_neg fun z => c z.2, if_neg c]
    refine ⟨fun σ Hz => ∃ v : V, σ = [some (.ref wl), some (.str kd), some v] ∧ Same H Hz ∧ ((v = .non ∧ fitsB (slN kd rest.length) rest = false) ∨ ∃ p, v = .ref p ∧ H p = none ∧ fitsB (slN kd rest.length) rest = true ∧ Hz p = some (.lst (List.zipWith thV (slN kd rest.length) rest))), ?_, fun σ H1 mid => ?_⟩
    · refine ⟨.str kd, rfl, T.a_HOUSE_ROWS, kd, true, rfl, rfl, DT.l_HOUSE_ROWS, fun _ => ⟨_, kdc⟩, fun z => (nomatch z), _, rfl, iteT ?_⟩
      refine ⟨.str kd, rfl, _, _, _, rfl, rfl, kdc, ?_⟩
      refine ⟨.ref wl, rfl, 1, rfl, wl, _, rfl, hwl, fun p2 np2 => ?_⟩
      rw [show cutV ((kd :: rest).map V.str) (some (1 : Int)) none = rest.map V.str from cut_dropH _ 1]
      have s2 := same_upd (o := .lst (rest.map V.str)) np2
      refine ⟨ra, p2, _, moreN kd, rowN kd, rest, rfl, hra, fun Hx => by rw [← rowTx_data hk]; exact dpAll_strs _, rok, r1, by omega, SqL.of upd_same, by omega, hz, fun fb H3 p3 s3 n3 e3 => ?_, fun fb H3 s3 => ?_⟩
      · exact ⟨_, rfl, s2.trans s3, .inr ⟨p3, rfl, up0 s2 n3, fb, e3⟩⟩
      · exact ⟨_, rfl, s2.trans s3, .inl ⟨rfl, fb⟩⟩
    obtain ⟨v, rfl, s1, mid⟩ := mid
    rcases mid with ⟨rfl, fb⟩ | ⟨p, rfl, n0, fb, ep⟩
    · refine ⟨.non, rfl, rfl, _, rfl, iteT (qn ?_ _ s1)⟩
      rw [hw, if_neg (by rw [fb]; exact Bool.false_ne_true)]
    · rw [if_pos fb] at hw
      have q := qy _ hw
      have dt := dtAll_things (S := SA) (H := H1) (slN kd rest.length) rest
      have fl := fits_len fb
      have zl : (List.zipWith thV (slN kd rest.length) rest).length = rest.length := by rw [List.length_zipWith]; omega
      have lD : (List.zipWith thD (slN kd rest.length) rest).length = rest.length := by rw [List.length_zipWith]; omega
      have l1 : leastN kd ≤ rest.length := by
        rw [fl]
        rcases netk_cases hk with rfl | rfl | rfl | rfl
        · rw [leastL]; exact Nat.le_refl 1
        · rw [leastS]; exact Nat.le_refl 2
        · rw [slN_junction, List.length_replicate]; show 2 ≤ _; omega
        · rw [leastT]; exact Nat.le_refl 4
      clear hw
      generalize List.zipWith thV (slN kd rest.length) rest = xs at ep dt zl
      generalize List.zipWith thD (slN kd rest.length) rest = ds at dt q lD
      refine ⟨.ref p, rfl, rfl, _, rfl, ite2 (fun c => absurd (of_decide_eq_true c) (by simp)) fun _ => ?_⟩
      have rest1 : 1 ≤ rest.length := by
        have : 1 ≤ leastN kd := by
          rcases netk_cases hk with rfl | rfl | rfl | rfl <;> decide +kernel
        omega
      obtain ⟨x, xs', rfl⟩ : ∃ x xs', xs = x :: xs' := by
        cases xs with
        | nil => simp at zl; omega
        | cons a b => exact ⟨a, b, rfl⟩
      obtain ⟨d, ds', rfl⟩ : ∃ d ds', ds = d :: ds' := by
        cases ds with
        | nil => simp at lD; omega
        | cons a b => exact ⟨a, b, rfl⟩
      have hxd : Dt SA H1 x d := by cases dt with | cons a _ => exact a
      have hxs : DtAll SA H1 xs' ds' := by cases dt with | cons _ r => exact r
      refine ⟨.str kd, rfl, rfl, _, rfl, ite2 (fun c => ?_) fun c => ?_⟩
      · have er : kd = ("line" : Str) := by injection of_decide_eq_true c
        refine ⟨.ref p, rfl, p, _, 0, x, rfl, rfl, SqL.of ep, atI_nat (j := 0) rfl, q _ _ s1 ?_⟩
        show Dt SA H1 x (foldN kd (d :: ds'))
        unfold foldN
        rw [if_pos er]
        exact hxd
      · have n1 : kd ≠ ("line" : Str) := fun z => c (decide_eq_true (by rw [z]))
        refine ⟨.str kd, rfl, rfl, _, rfl, ite2 (fun c => ?_) fun c => ?_⟩
        · have er : kd = ("junction" : Str) := by injection of_decide_eq_true c
          refine ⟨.ref p, rfl, p, _, 0, x, rfl, rfl, SqL.of ep, atI_nat (j := 0) rfl, ?_⟩
          refine ⟨.ref p, rfl, 1, rfl, p, _, rfl, SqL.of ep, fun a na => ?_⟩
          rw [show cutV (x :: xs') (some (1 : Int)) none = xs' from cut_dropH _ 1]
          have sa := same_upd (o := .lst xs') na
          refine ⟨a, _, rfl, .inl ⟨SqL.of upd_same, fun u nu => ⟨two_sz, fun t nt => ?_⟩⟩⟩
          have su := sa.trans (same_upd (o := .tup xs') nu)
          have st := same_upd (o := .tup [x, V.ref u]) nt
          refine q _ _ ((s1.trans su).trans st) ?_
          show Dt SA _ _ (foldN kd (d :: ds'))
          unfold foldN
          rw [if_neg n1, if_pos er]
          have sut := su.trans st
          exact .tup trivial upd_same (by show 2 ≤ 5000; decide) (.cons (hxd.same sut) (.cons (.tup trivial (st _ _ upd_same) (by rw [List.length_cons] at zl; omega) (hxs.same sut)) .nil))
        · have n2 : kd ≠ ("junction" : Str) := fun z => c (decide_eq_true (by rw [z]))
          have n3 : kd ≠ ("rules" : Str) := fun z => by rw [z] at hk; exact absurd hk (by decide +kernel)
          refine ⟨.str kd, rfl, rfl, _, rfl, ite2 (fun c => absurd (by injection of_decide_eq_true c) n3) fun _ => ?_⟩
          refine ⟨.ref p, rfl, p, _, rfl, .inl ⟨SqL.of ep, fun u nu => ?_⟩⟩
          have su := same_upd (o := .tup (x :: xs')) nu
          refine q _ _ (s1.trans su) ?_
          show Dt SA _ _ (foldN kd (d :: ds'))
          unfold foldN
          rw [if_neg n1, if_neg n2]
          exact .tup trivial upd_same (by rw [zl]; omega) (.cons (hxd.same su) (hxs.same su))
end
end Th
namespace Th
open PySem PySem.Spec PyProof.Rows L2
mutual
def tuD : PyData → Bool
  | .list _ => false
  | .dict _ => false
  | .tuple ds => tuAll ds
  | _ => true
def tuAll : List PyData → Bool
  | [] => true
  | d :: ds => tuD d && tuAll ds
end
mutual
theorem Dt.tu {H H' : Hp} (k : ∀ a xs, H a = some (.tup xs) → H' a = some (.tup xs)) : ∀ {v : V} {d : PyData}, Dt SA H v d → tuD d = true → Dt SA H' v d
  | _, _, .non, _ => .non
  | _, _, .bl b, _ => .bl b
  | _, _, .int b, _ => .int b
  | _, _, .str b, _ => .str b
  | _, _, .lst _ _ _ _, h => by simp [tuD] at h
  | _, _, .tup s e l r, h => .tup s (k _ _ e) l (DtAll.tu k r (by simpa [tuD] using h))
theorem DtAll.tu {H H' : Hp} (k : ∀ a xs, H a = some (.tup xs) → H' a = some (.tup xs)) : ∀ {v : List V} {d : List PyData}, DtAll SA H v d → tuAll d = true → DtAll SA H' v d
  | _, _, .nil, _ => .nil
  | _, _, .cons a r, h => by
    simp only [tuAll, Bool.and_eq_true] at h
    exact .cons (Dt.tu k a h.1) (DtAll.tu k r h.2)
end
theorem tup_upd {H : Hp} {C : Addr} {ys : List V} {o : HO} (e : H C = some (.lst ys)) : ∀ a xs, H a = some (.tup xs) → upd H C o a = some (.tup xs) := fun a xs h => by
  rw [upd_ne fun z => by rw [z, e] at h; cases h]
  exact h
theorem tuAll_iff : ∀ {ds : List PyData}, tuAll ds = true ↔ ∀ d ∈ ds, tuD d = true
  | [] => ⟨fun _ _ h => (by cases h), fun _ => rfl⟩
  | d :: ds => by
    show (tuD d && tuAll ds) = true ↔ _
    rw [Bool.and_eq_true, tuAll_iff (ds := ds)]
    simp
/-- what a row tells -/
structure LwD (n : Nat) (d : PyData) : Prop where
  lay : PyData.canLay0 d = true
  dep : PyData.depth d ≤ n
  tu : tuD d = true
  tb : Tb d
theorem lay_all : ∀ {ds : List PyData}, (∀ x ∈ ds, PyData.canLay0 x = true) → PyData.canLayAll0 ds = true
  | [], _ => rfl
  | d :: ds, h => by
    show (PyData.canLay0 d && PyData.canLayAll0 ds) = true
    rw [h d List.mem_cons_self, lay_all fun x hx => h x (List.mem_cons_of_mem _ hx)]
    rfl
theorem dep_all : ∀ {ds : List PyData} {n : Nat}, (∀ x ∈ ds, PyData.depth x ≤ n) → PyData.depthAll ds ≤ n
  | [], _, _ => Nat.zero_le _
  | d :: ds, n, h => by
    show max (PyData.depth d) (PyData.depthAll ds) ≤ n
    have := h d List.mem_cons_self
    have := dep_all (ds := ds) (n := n) fun x hx => h x (List.mem_cons_of_mem _ hx)
    omega
theorem LwD.tup {n : Nat} {ds : List PyData} (h : ∀ x ∈ ds, LwD n x) : LwD (n + 1) (.tuple ds) :=
  ⟨lay_all fun x hx => (h x hx).lay, by show PyData.depthAll ds + 1 ≤ n + 1; have := dep_all fun x hx => (h x hx).dep; omega, tuAll_iff.mpr fun x hx => (h x hx).tu, .tup fun x hx => (h x hx).tb⟩
theorem LwD.str {n : Nat} {z : Str} (h : PyData.strOk z = true) (l : z.length ≤ 5000) : LwD n (.str z) := ⟨h, Nat.zero_le _, rfl, .str l⟩
theorem LwD.int {n : Nat} {i : Int} : LwD n (.int i) := ⟨rfl, Nat.zero_le _, rfl, .int i⟩
theorem LwD.non {n : Nat} : LwD n .none := ⟨rfl, Nat.zero_le _, rfl, .non⟩
theorem LwD.mono {n m : Nat} {d : PyData} (h : LwD n d) (l : n ≤ m) : LwD m d := ⟨h.lay, Nat.le_trans h.dep l, h.tu, h.tb⟩
theorem LwD.shaped {n : Nat} {d : PyData} (h : LwD n d) (l : n ≤ 64) : SeqAt.shaped d = true := Bool.and_eq_true_iff.mpr ⟨h.lay, decide_eq_true (Nat.le_trans h.dep l)⟩
def StrsOk (ws : List Str) : Prop := ∀ z ∈ ws, PyData.strOk z = true ∧ z.length ≤ 5000
theorem lw_strs {n : Nat} {ws : List Str} (h : StrsOk ws) : ∀ d ∈ ws.map PyData.str, LwD n d := fun d hd => by
  obtain ⟨z, hz, rfl⟩ := List.mem_map.mp hd
  exact .str (h z hz).1 (h z hz).2
theorem lw_things {n : Nat} : ∀ {sl : List Slot} {ws : List Str}, StrsOk ws → ∀ d ∈ List.zipWith thD sl ws, LwD n d
  | [], _, _, _, h => by cases h
  | _ :: _, [], _, _, h => by cases h
  | s :: sl, z :: ws, ok, d, h => by
    rcases List.mem_cons.mp h with e | h
    · rw [e]
      have := ok z List.mem_cons_self
      cases s with
      | num => exact .int
      | nm => exact .str this.1 this.2
      | ws l => exact .str this.1 this.2
    · exact lw_things (fun x hx => ok x (List.mem_cons_of_mem _ hx)) d h
theorem lw_head {n : Nat} {ds : List PyData} (h : ∀ d ∈ ds, LwD n d) : LwD n (ds.headD .none) := by
  cases ds with
  | nil => exact .non
  | cons a b => exact h a List.mem_cons_self
theorem lw_fold {kd : Str} {ds : List PyData} (h : ∀ d ∈ ds, LwD 0 d) : LwD 2 (foldN kd ds) := by
  unfold foldN
  split
  · exact (lw_head h).mono (by decide)
  · split
    · refine .tup fun x hx => ?_
      rcases List.mem_cons.mp hx with e | hx
      · rw [e]; exact (lw_head h).mono (by decide)
      · rw [List.mem_singleton.mp hx]
        exact .tup fun x hx => h x (List.mem_of_mem_drop hx)
    · exact (LwD.tup h).mono (by decide)
theorem lw_house {ws : List Str} {x : Str × PyData} (ok : StrsOk ws) (h : houseW ws = some x) : LwD 2 x.2 := by
  cases ws with
  | nil => cases h
  | cons kd rest =>
    have h : (if kd ∈ NETK ∧ fitsB (slN kd rest.length) rest = true then some (kd, foldN kd (List.zipWith thD (slN kd rest.length) rest)) else none) = some x := h
    split at h
    · rw [← Option.some.inj h]
      exact lw_fold (lw_things fun z hz => ok z (List.mem_cons_of_mem _ hz))
    · cases h
theorem strs_head {ws : List Str} (h : StrsOk ws) : PyData.strOk (ws.headD "") = true ∧ (ws.headD "").length ≤ 5000 := by
  cases ws with
  | nil => decide +kernel
  | cons a b => exact h a List.mem_cons_self
theorem StrsOk.drop {ws : List Str} (h : StrsOk ws) (i : Nat) : StrsOk (ws.drop i) := fun z hz => h z (List.mem_of_mem_drop hz)
theorem StrsOk.take {ws : List Str} (h : StrsOk ws) (i : Nat) : StrsOk (ws.take i) := fun z hz => h z (List.mem_of_mem_take hz)
theorem lw_pl {n : Nat} {z : Str} : LwD n (plD z) := by
  unfold plD
  split
  · exact .int
  · exact .non
theorem lw_lawD {kd : Str} {rest : List Str} (ok : StrsOk rest) : LwD 2 (lawD kd rest) := by
  unfold lawD
  split
  · exact .str (strs_head ok).1 (strs_head ok).2
  · split
    · refine (LwD.tup (n := 0) fun x hx => ?_).mono (by decide)
      rcases List.mem_append.mp hx with hx | hx
      · exact lw_strs (ok.take 3) x hx
      · rw [List.mem_singleton.mp hx]; exact lw_pl
    · split
      · exact (LwD.tup (n := 0) (lw_strs ok)).mono (by decide)
      · refine .tup fun x hx => ?_
        rcases List.mem_cons.mp hx with e | hx
        · rw [e]; exact .str (strs_head ok).1 (strs_head ok).2
        · rw [List.mem_singleton.mp hx]
          exact .tup (lw_strs (ok.drop 1))
def Fo.get (f : Fo) (kd : Str) : List PyData := if kd = ("line" : Str) then f.l else if kd = ("station" : Str) then f.s else if kd = ("junction" : Str) then f.j else f.t
theorem get_add (f : Fo) {z y : Str} (d : PyData) (hz : z ∈ NETK) (hy : y ∈ NETK) : (f.add z d).get y = if y = z then f.get y ++ [d] else f.get y := by
  have n1 : ("station" : Str) ≠ "line" := by decide +kernel
  have n2 : ("junction" : Str) ≠ "line" := by decide +kernel
  have n3 : ("tie" : Str) ≠ "line" := by decide +kernel
  have n4 : ("junction" : Str) ≠ "station" := by decide +kernel
  have n5 : ("tie" : Str) ≠ "station" := by decide +kernel
  have n6 : ("tie" : Str) ≠ "junction" := by decide +kernel
  rcases netk_cases hz with rfl | rfl | rfl | rfl <;> rcases netk_cases hy with rfl | rfl | rfl | rfl <;> simp [Fo.add, Fo.get, n1, n2, n3, n4, n5, n6, n1.symm, n2.symm, n3.symm, n4.symm, n5.symm, n6.symm]
theorem fo_d (f : Fo) : f.d = .tuple (NETK.map fun z => .tuple (f.get z)) := by
  have n1 : ("station" : Str) ≠ "line" := by decide +kernel
  have n2 : ("junction" : Str) ≠ "line" := by decide +kernel
  have n3 : ("tie" : Str) ≠ "line" := by decide +kernel
  have n4 : ("junction" : Str) ≠ "station" := by decide +kernel
  have n5 : ("tie" : Str) ≠ "station" := by decide +kernel
  have n6 : ("tie" : Str) ≠ "junction" := by decide +kernel
  simp [Fo.d, NETK, Fo.get, n1, n2, n3, n4, n5, n6]
structure FoOk (f : Fo) (n : Nat) : Prop where
  lw : ∀ z ∈ NETK, ∀ d ∈ f.get z, LwD 2 d
  n : ∀ z ∈ NETK, (f.get z).length ≤ n
theorem FoOk.nil : FoOk Fo.nil 0 := by
  have e : ∀ z, Fo.nil.get z = [] := fun z => by
    unfold Fo.get
    split
    · rfl
    · split
      · rfl
      · split <;> rfl
  exact ⟨fun z _ d h => (by rw [e] at h; cases h), fun z _ => by rw [e]; exact Nat.le_refl _⟩
theorem FoOk.add {f : Fo} {n : Nat} {z : Str} {d : PyData} (h : FoOk f n) (hz : z ∈ NETK) (hd : LwD 2 d) : FoOk (f.add z d) (n + 1) := by
  refine ⟨fun y hy x hx => ?_, fun y hy => ?_⟩
  · rw [get_add f d hz hy] at hx
    split at hx
    · rcases List.mem_append.mp hx with hx | hx
      · exact h.lw y hy x hx
      · rw [List.mem_singleton.mp hx]; exact hd
    · exact h.lw y hy x hx
  · rw [get_add f d hz hy]
    have := h.n y hy
    split
    · rw [List.length_append]; show _ + 1 ≤ _; omega
    · omega
theorem FoOk.d {f : Fo} {n : Nat} (h : FoOk f n) : LwD 4 f.d := by
  rw [fo_d]
  refine .tup fun x hx => ?_
  obtain ⟨z, hz, rfl⟩ := List.mem_map.mp hx
  exact .tup (h.lw z hz)
structure FoAt (H0 H : Hp) (D : Addr) (f : Fo) : Prop where
  ex : ∃ (kvs : List (Key × V)) (A : Str → Addr), H D = some (.dK kvs) ∧ (∀ z ∈ NETK, valV kvs (Sum.inr z) = some (.ref (A z)) ∧ H0 (A z) = none ∧ ∃ xs, H (A z) = some (.lst xs) ∧ DtAll SA H xs (f.get z)) ∧ (∀ z ∈ NETK, ∀ y ∈ NETK, A z = A y → z = y) ∧ ∀ z, z ∉ NETK → valV kvs (Sum.inr z) = none
theorem FoAt.same {H0 H H' : Hp} {D : Addr} {f : Fo} (h : FoAt H0 H D f) (s : Same H H') : FoAt H0 H' D f := by
  obtain ⟨kvs, A, e, ha, inj, no⟩ := h.ex
  exact ⟨kvs, A, s _ _ e, fun z hz => let ⟨a, b, xs, c, d⟩ := ha z hz; ⟨a, b, xs, s _ _ c, d.same s⟩, inj, no⟩
theorem FoAt.no {H0 H : Hp} {D : Addr} {f : Fo} (h : FoAt H0 H D f) {z : Str} (hz : z ∉ NETK) : DGet H D (.str z) none := by
  obtain ⟨kvs, A, e, ha, inj, no⟩ := h.ex
  have := DGet.k (k := Sum.inr z) e
  rw [no z hz] at this
  exact this
theorem FoAt.yes {H0 H : Hp} {D : Addr} {f : Fo} (h : FoAt H0 H D f) {z : Str} (hz : z ∈ NETK) : ∃ a xs, DGet H D (.str z) (some (.ref a)) ∧ H a = some (.lst xs) ∧ DtAll SA H xs (f.get z) := by
  obtain ⟨kvs, A, e, ha, inj, no⟩ := h.ex
  obtain ⟨a, b, xs, c, d⟩ := ha z hz
  have := DGet.k (k := Sum.inr z) e
  rw [a] at this
  exact ⟨_, xs, this, c, d⟩
theorem FoAt.put {H0 H : Hp} {D : Addr} {f : Fo} {n : Nat} (h : FoAt H0 H D f) (ok : FoOk f n) {z : Str} (hz : z ∈ NETK) : ∃ a, DGet H D (.str z) (some (.ref a)) ∧ H0 a = none ∧ ∀ H', Same H H' → ∃ xs, H' a = some (.lst xs) ∧ xs.length ≤ n ∧
    ∀ v d, Dt SA H' v d → LwD 2 d → FoAt H0 (upd H' a (.lst (xs ++ [v]))) D (f.add z d) := by
  obtain ⟨kvs, A, e, ha, inj, no⟩ := h.ex
  obtain ⟨hv, h0, xs, c, dx⟩ := ha z hz
  have dg := DGet.k (k := Sum.inr z) e
  rw [hv] at dg
  refine ⟨A z, dg, h0, fun H' s => ⟨xs, s _ _ c, ?_, fun v d hvd lw => ⟨kvs, A, ?_, fun y hy => ?_, inj, no⟩⟩⟩
  · have := dpAll_len (dx.dp (K := []))
    rw [this]
    exact ok.n z hz
  · rw [upd_ne fun q => by rw [← q, e] at c; cases c]
    exact s _ _ e
  · obtain ⟨gv, g0, ys, gc, gd⟩ := ha y hy
    have k := tup_upd (o := .lst (xs ++ [v])) (s _ _ c)
    have tu : ∀ y ∈ NETK, tuAll (f.get y) = true := fun y hy => tuAll_iff.mpr fun d hd => (ok.lw y hy d hd).tu
    rw [get_add f d hz hy]
    refine ⟨gv, g0, ?_⟩
    by_cases q : y = z
    · rw [if_pos q]
      subst q
      rw [c] at gc
      have gc := Option.some.inj gc
      injection gc with gc
      subst gc
      exact ⟨_, upd_same, dtAll_app ((dx.same s).tu k (tu y hy)) (.cons (hvd.tu k lw.tu) .nil)⟩
    · rw [if_neg q]
      refine ⟨ys, ?_, (gd.same s).tu k (tu y hy)⟩
      rw [upd_ne fun r => q (inj y hy z hz r)]
      exact s _ _ gc
theorem FoAt.off {H0 H : Hp} {D : Addr} {f : Fo} (h : FoAt H0 H D f) {R : Addr} (n : H R = none) (o : HO) : FoAt (upd H0 R o) H D f := by
  obtain ⟨kvs, A, e, ha, inj, no⟩ := h.ex
  exact ⟨kvs, A, e, fun z hz => let ⟨a, b, xs, c, d⟩ := ha z hz; ⟨a, by rw [upd_ne fun q => by rw [q, n] at c; cases c]; exact b, xs, c, d⟩, inj, no⟩
theorem off_none {H : Hp} {R a : Addr} {o : HO} (h : upd H R o a = none) : a ≠ R ∧ H a = none := by
  have n : a ≠ R := fun e => by rw [e, upd_same] at h; cases h
  rw [upd_ne n] at h
  exact ⟨n, h⟩
section
variable {P : Program} {w : World} {K : PySem.W.Frag} {mg : Str → Option Value} {base : Heap} {k : Nat}
def sp_net_of_rows : Sp := fun vs H Q _ => ∃ (H0 : Hp) (D : Addr) (f : Fo) (n : Nat), vs = [.ref D] ∧ FoAt H0 H D f ∧ FoOk f n ∧ n ≤ 5000 ∧ ∀ H' v, Same H H' → Dt SA H' v f.d → Q v H'
set_option maxHeartbeats 8000000 in
theorem ok_net_of_rows (T : Defs K mg) : FnOk P w K mg base CX0 (k + 1) T.a_net_of_rows T.d_net_of_rows ["house"] sp_net_of_rows := by
  refine T.F_net_of_rows.ok sc_net_of_rows (fun vs H Q E h => ?_) (fun cdv A outer s H vs Q E hr h => ?_)
  · obtain ⟨H0, D, f, n, rfl, _⟩ := h
    rfl
  · obtain ⟨H0, D, f, n, rfl, hf, ok, n5, q⟩ := h
    refine ⟨_, PSs.nox
(pss_one (ps_ret (pe_callTy (r := rTupOf K) call_tuple_of (by rfl) T.z_tuple (by decide +kernel) (pa_cons (pe_lc (own := [("kind", 1)]) (g := gName 1) rfl sc_net_of_rows.nd (pi_tup (pe_glob (v := .ref T.a_NET_ROWS) (by rfl) T.g_NET_ROWS rfl)) (blkOk_by (N := N_net_of_rows) (sc := defScope s_net_of_rows) (by decide +kernel)) (fun _ _ _ _ _ => (pg_name (i := 1) sc_net_of_rows.nd rfl (.inl rfl))) (fun _ _ _ _ _ => pts_nil) (fun _ _ _ _ _ => (pe_callTy (r := rTupOf K) call_tuple_of (by rfl) T.z_tuple (by decide +kernel) (pa_cons (pe_dget (hu_of hr) (pv 0) (pv 1) (fun _ _ => rfl)) pa_nil)))) pa_nil))))
      , ?_⟩
    have hN : ∀ H : Hp, SqT K H T.a_NET_ROWS (NETK.map V.str) := fun H => DicK.sqT T.k_NET_ROWS T.u_NET_ROWS (by decide)
    refine ⟨T.a_NET_ROWS, rfl, ⟨_, hN _⟩, fun C nC => ?_⟩
    have tu : ∀ i, tuAll ((NETK.take i).map fun z => PyData.tuple (f.get z)) = true := fun i => tuAll_iff.mpr fun d hd => by
      obtain ⟨z, hz, rfl⟩ := List.mem_map.mp hd
      exact (LwD.tup (ok.lw z (List.mem_of_mem_take hz))).tu
    refine lc_it (walk_tup (xs := NETK.map V.str)) (fun i Hx => Same H Hx ∧ ∃ xs, Hx C = some (.lst xs) ∧ xs.length ≤ i ∧ DtAll SA Hx xs ((NETK.take i).map fun z => .tuple (f.get z))) ⟨same_upd nC, [], upd_same, Nat.le_refl _, .nil⟩ (fun i Hx _ pv => hN _) (fun i v Hx₀ Hx hi pv yy => ?_) (fun Hx pv => ?_)
    · obtain ⟨rfl, ex⟩ := yy
      obtain ⟨sx, xs, eC, xl, hx⟩ := pv
      rw [List.getElem?_map] at ex
      obtain ⟨z, ez, rfl⟩ := Option.map_eq_some_iff.mp ex
      have hz : z ∈ NETK := List.mem_of_getElem? ez
      have tk1 : NETK.take (i + 1) = NETK.take i ++ [z] := by rw [List.take_add_one, ez]; rfl
      have hi : i < 4 := hi
      obtain ⟨a, ys, dg, ea, ha⟩ := (hf.same sx).yes hz
      refine ⟨rfl, yes_ ⟨.ref D, rfl, .str z, rfl, D, .ref a, rfl, dg, a, ys, rfl, .inl ⟨SqL.of ea, fun u nu => ?_⟩⟩⟩
      have su := same_upd (o := .tup ys) nu
      have eC2 := su _ _ eC
      have yl : ys.length ≤ 5000 := by
        have := dpAll_len (ha.dp (K := []))
        have := ok.n z hz
        omega
      refine ⟨xs, eC2, small5000 (by omega), same_set (sx.trans su) nC, _, upd_same, by rw [List.length_append]; show _ + 1 ≤ _; omega, ?_⟩
      have k := tup_upd (o := .lst (xs ++ [V.ref u])) eC2
      rw [tk1, List.map_append]
      exact dtAll_app ((hx.same su).tu k (tu i)) (.cons (.tup trivial (k _ _ upd_same) yl ((ha.same su).tu k (tuAll_iff.mpr fun d hd => (ok.lw z hz d hd).tu))) .nil)
    · obtain ⟨sx, xs, eC, xl, hx⟩ := pv
      rw [List.length_map, List.take_length] at hx
      have xl : xs.length ≤ 4 := xl
      refine ⟨C, xs, rfl, .inl ⟨SqL.of eC, fun u nu => ?_⟩⟩
      have su := same_upd (o := .tup xs) nu
      refine q _ _ (sx.trans su) ?_
      rw [fo_d]
      exact .tup trivial upd_same (by omega) (hx.same su)
/-- what a thing reads as -/
def netInD : PyData → Option PyData
  | .str z => netP z
  | _ => none
def sp_net_in : Sp := fun vs H Q _ => ∃ (v : V) (d : PyData), vs = [v] ∧ Df H v d ∧ (∀ z, d = .str z → TxR z 4999 4000) ∧ (∀ nd, netInD d = some nd → ∀ H' v', Same H H' → Dt SA H' v' nd → LwD 4 nd → Q v' H') ∧ (netInD d = none → ∀ H', Same H H' → Q .non H')
theorem house_kd {kd : Str} {rest : List Str} {x : Str × PyData} (h : houseW (kd :: rest) = some x) : x.1 = kd ∧ x.2 ≠ .none := by
  have h : (if kd ∈ NETK ∧ leastN kd ≤ rest.length ∧ (kd = ("junction" : Str) ∨ rest.length = leastN kd) then some (kd, lawD kd rest) else none) = some x := house_law h
  split at h
  · rw [← Option.some.inj h]
    refine ⟨rfl, ?_⟩
    show lawD kd rest ≠ .none
    unfold lawD
    split
    · exact fun e => (by cases e)
    · split
      · exact fun e => (by cases e)
      · split <;> exact fun e => (by cases e)
  · cases h
theorem words_row {r : Str} (h : TxB r 4000) : StrsOk (wordsS r) ∧ (wordsS r).length ≤ 4001 := by
  unfold wordsS
  split
  · exact ⟨fun z h => (by cases h), Nat.zero_le _⟩
  · have p := part_of 32 r
    rw [← sp_S] at p
    have w := p.wsb h
    exact ⟨fun z hz => ⟨w.ok z hz, by have := (w.mem hz).len; omega⟩, w.len⟩
set_option maxHeartbeats 16000000 in
theorem ok_net_in (T : Defs K mg) (DT : DicT w T) : FnOk P w K mg base CX0 (k + 5) T.a_net_in T.d_net_in ["thing"] sp_net_in := by
  have G_words_of : FnOk P w K mg base CX0 (k + 4) _ _ _ _ := ok_words_of (k := k + 3) T
  have G_house_in : FnOk P w K mg base CX0 (k + 4) _ _ _ _ := ok_house_in (k := k) T DT
  have G_net_of_rows : FnOk P w K mg base CX0 (k + 4) _ _ _ _ := ok_net_of_rows (k := k + 3) T
  refine T.F_net_in.ok sc_net_in (fun vs H Q E h => ?_) (fun cdv A outer s H vs Q E hr h => ?_)
  · obtain ⟨v, d, rfl, _⟩ := h
    rfl
  · obtain ⟨v, d, rfl, hv, hd, qy, qn⟩ := h
    refine ⟨_, PSs.nox
(pss_cons (ps_if (pt_not (pt_val (pe_callB call_isi (by rfl) T.z_isinstance (by decide +kernel) (pa_cons (pv 0) (pa_cons (pe_bltn (v := .ty "str") (by rfl) T.z_str (by decide +kernel) rfl) pa_nil)))))
      (pss_one (ps_ret (pe_non)))
      pss_nil)
    (pss_cons (Ds.ps_setDc (i := 1) (own := [("kind", 5)]) (g := gName 5) rfl sc_net_in.nd rfl rfl (Ds.sw_trueD rfl rfl rfl (by decide +kernel)) (pi_tup (pe_glob (v := .ref T.a_NET_ROWS) (by rfl) T.g_NET_ROWS rfl)) (blkOk_by (N := N_net_in) (sc := defScope s_net_in) (by decide +kernel)) (fun _ _ _ _ _ => (pg_name (i := 5) sc_net_in.nd rfl (.inl rfl))) (fun _ _ _ _ _ => pts_nil) (fun _ _ _ _ _ => (pv 5)) (fun _ _ _ _ _ => (pe_lst pa_nil)))
    (pss_cons (ps_for PassesOwn.never rfl (pi_list (pe_bm PySem.F.plainAttrs_str PySem.F.slot_str_split PySem.F.type_str_split mt_split (pv 0) (pa_cons (pe_str) pa_nil))) (pg_name (i := 2) sc_net_in.nd rfl (.inl rfl))
      (pss_cons (ps_set (i := 3) sc_net_in.nd rfl (.inl rfl) (pe_call G_words_of hr (by rfl) T.g_words_of T.F_words_of.kp T.b_words_of .nil pass0 (pa_cons (pv 2) pa_nil)))
      (Evl.pss_cut (ps_set (i := 4) sc_net_in.nd rfl (.inl rfl) (pe_ifExp (PW.pt (pw_and (pt_truth (pv 3) (by intro _; rfl)) (pw_and1 (pt_cmp (pc_din (hu_of hr) (pe_ix (r := rIxL K) ix_list (pv 3) (pe_int) (fun _ _ => rfl)) (pv 1)))))) (pe_call G_house_in hr (by rfl) T.g_house_in T.F_house_in.kp T.b_house_in .nil pass0 (pa_cons (pv 3) pa_nil)) (pe_non)))
      (pss_cons (ps_if (pt_cmpR op_isN (pv 4) (pe_non) (nomark _))
        (pss_one (ps_ret (pe_non)))
        pss_nil)
      (pss_one (ps_expr (pe_bm PySem.F.plainAttrs_list PySem.F.slot_list_append PySem.F.type_list_append mt_append (pe_dget (hu_of hr) (pv 1) (pe_ix (r := rIxL K) ix_list (pv 3) (pe_int) (fun _ _ => rfl)) (fun _ _ => rfl)) (pa_cons (pv 4) pa_nil))))))))
    (pss_one (ps_ret (pe_call G_net_of_rows hr (by rfl) T.g_net_of_rows T.F_net_of_rows.kp T.b_net_of_rows .nil pass0 (pa_cons (pv 1) pa_nil)))))))
      , ?_⟩
    refine ⟨v, rfl, v, .ty "str", _, _, _, rfl, .ty _, hv.ty, kit_S d, isiS d, rfl, ?_⟩
    have q0 : netInD d = none → Q .non H := fun e => qn e _ fun _ _ z => z
    cases d with
    | int i => exact iteT (q0 rfl)
    | bool b => exact iteT (q0 rfl)
    | none => exact iteT (q0 rfl)
    | list _ => exact iteT (q0 rfl)
    | tuple _ => exact iteT (q0 rfl)
    | dict _ => exact iteT (q0 rfl)
    | str z =>
      cases hv
      have hz := hd z rfl
      have zs : z.length + 2 ≤ sizeLine := by have := hz.b.len; rw [sizeLine_eq]; omega
      refine iteF ?_
      have hN : ∀ H : Hp, SqT K H T.a_NET_ROWS (NETK.map V.str) := fun H => DicK.sqT T.k_NET_ROWS T.u_NET_ROWS (by decide)
      -- the dict
      refine ⟨T.a_NET_ROWS, rfl, ⟨_, hN _⟩, fun D nD => ?_⟩
      refine dc_tup (xs := NETK.map V.str) (fun i H3 => Same H H3 ∧ ∃ (kvs : List (Key × V)) (A : Str → Addr), H3 D = some (.dK kvs) ∧ kvs.length ≤ i ∧ (∀ y ∈ NETK.take i, valV kvs (Sum.inr y) = some (.ref (A y)) ∧ H (A y) = none ∧ A y ≠ D ∧ H3 (A y) = some (.lst [])) ∧ (∀ y ∈ NETK.take i, ∀ y' ∈ NETK.take i, A y = A y' → y = y') ∧ ∀ y, y ∉ NETK.take i → valV kvs (Sum.inr y) = none) ⟨same_upd nD, [], fun _ => 0, upd_same, Nat.le_refl _, fun x hx => (by cases hx), fun x hx => (by cases hx), fun _ _ => rfl⟩ (fun i H3 _ pv => hN _) (fun i v H3 ex pv => ?_) (fun H3 pv => ?_)
      · obtain ⟨s3, kvs, A, eD, kl, hA, inj, no⟩ := pv
        rw [List.getElem?_map] at ex
        obtain ⟨y, ey, rfl⟩ := Option.map_eq_some_iff.mp ex
        have tk1 : NETK.take (i + 1) = NETK.take i ++ [y] := by rw [List.take_add_one, ey]; rfl
        have hi : i < 4 := (List.getElem?_eq_some_iff.mp ey).1
        refine ⟨rfl, yes_ ⟨.str y, rfl, Nat.zero_le _, fun p np => ?_⟩⟩
        have sp := same_upd (o := .lst []) np
        have npD : p ≠ D := fun e => by rw [e, eD] at np; cases np
        have n0 := up0 s3 np
        refine ⟨kvs, Sum.inr y, rfl, sp _ _ eD, small5000 (by omega), same_set (s3.trans sp) nD, _, fun x => if x = y then p else A x, upd_same, ?_, ?_, ?_, ?_⟩
        · have := length_putK kvs (Sum.inr y) (V.ref p)
          omega
        · intro x hx
          rw [valV_put]
          dsimp only
          by_cases c : x = y
          · rw [if_pos (by rw [c]), if_pos c]
            exact ⟨rfl, n0, npD, by rw [upd_ne npD]; exact upd_same⟩
          · rw [if_neg (fun q => c (Sum.inr.inj q)), if_neg c]
            rw [tk1] at hx
            have hx := (List.mem_append.mp hx).resolve_right fun m => c (List.mem_singleton.mp m)
            obtain ⟨a1, a2, a3, a4⟩ := hA x hx
            exact ⟨a1, a2, a3, by rw [upd_ne a3]; exact sp _ _ a4⟩
        · intro x hx x' hx' e
          have old : ∀ u ∈ NETK.take (i + 1), u ≠ y → A u ≠ p := fun u hu n z => by
            rw [tk1] at hu
            have hu := (List.mem_append.mp hu).resolve_right fun m => n (List.mem_singleton.mp m)
            have := (hA u hu).2.2.2
            rw [z, np] at this
            cases this
          dsimp only at e
          by_cases c : x = y
          · by_cases c' : x' = y
            · rw [c, c']
            · rw [if_pos c, if_neg c'] at e
              exact absurd e.symm (old x' hx' c')
          · by_cases c' : x' = y
            · rw [if_neg c, if_pos c'] at e
              exact absurd e (old x hx c)
            · rw [if_neg c, if_neg c'] at e
              rw [tk1] at hx hx'
              exact inj x ((List.mem_append.mp hx).resolve_right fun m => c (List.mem_singleton.mp m)) x' ((List.mem_append.mp hx').resolve_right fun m => c' (List.mem_singleton.mp m)) e
        · intro x hx
          rw [tk1] at hx
          rw [valV_put, if_neg fun q => hx (List.mem_append_right _ (List.mem_singleton.mpr (Sum.inr.inj q)))]
          exact no x fun m => hx (List.mem_append_left _ m)
      obtain ⟨s3, kvs, A, eD, kl, hA, inj, no⟩ := pv
      have fa : FoAt H H3 D Fo.nil := ⟨kvs, A, eD, fun y hy => let ⟨a1, a2, a3, a4⟩ := hA y hy; ⟨a1, a2, [], a4, by
        have e : Fo.nil.get y = [] := by
          unfold Fo.get
          split
          · rfl
          · split
            · rfl
            · split <;> rfl
        rw [e]
        exact .nil⟩, inj, no⟩
      clear eD kl hA inj no
      -- the rows
      refine ⟨.str z, rfl, rfl, z, "\n", rfl, rfl, by decide +kernel, zs, fun R nR => ?_⟩
      have pt := part_of 10 z
      rw [← nl_S] at pt
      have sR := same_upd (o := .lst ((Txt.split z "\n").map V.str)) nR
      have eR : upd H3 R (.lst ((Txt.split z "\n").map V.str)) R = some (.lst ((Txt.split z "\n").map V.str)) := upd_same
      have sH := s3.trans sR
      have fb := (fa.off nR (.lst [])).same sR
      have q1 : ∀ f, runR rowP (Txt.split z "\n") Fo.nil = some f → netInD (.str z) = some f.d := fun f e => by
        show (runR rowP (Txt.split z "\n") Fo.nil).map Fo.d = _
        rw [e]
        rfl
      have q2 : runR rowP (Txt.split z "\n") Fo.nil = none → netInD (.str z) = none := fun e => by
        show (runR rowP (Txt.split z "\n") Fo.nil).map Fo.d = _
        rw [e]
        rfl
      have rl := (pt.wsb hz.b).len
      have rows : ∀ r ∈ Txt.split z "\n", TxB r 4000 := fun r hr => (hz.row pt hr).1
      clear zs fa s3
      generalize upd H3 R (.lst ((Txt.split z "\n").map V.str)) = H4 at eR sH fb
      generalize Txt.split z "\n" = rs at eR q1 q2 rl rows
      have rlen : (rs.map V.str).length = rs.length := List.length_map _
      refine ⟨R, rfl, ⟨_, SqL.of eR⟩, ?_⟩
      refine for_it (walk_list (xs := rs.map V.str)) (fun i σ Hx => ∃ (y2 y3 y4 : Option V) (f : Fo), σ = [some (.str z), some (.ref D), y2, y3, y4, none] ∧ Same H Hx ∧ Hx R = some (.lst (rs.map V.str)) ∧ FoAt (upd H R (.lst [])) Hx D f ∧ FoOk f i ∧ runR rowP (rs.drop i) f = runR rowP rs Fo.nil) ⟨none, none, none, Fo.nil, rfl, sH, eR, fb, .nil, rfl⟩ (fun i σ Hx _ hp => ?_) (fun i v σ Hx₀ Hx hi hp yy => ?_) (fun σ Hx hp => ?_)
      · obtain ⟨_, _, _, _, _, _, e, _⟩ := hp
        exact SqL.of e
      · obtain ⟨rfl, ex⟩ := yy
        obtain ⟨y2, y3, y4, f, rfl, sx, eRx, hf, ok, run⟩ := hp
        rw [List.getElem?_map] at ex
        obtain ⟨r, er, rfl⟩ := Option.map_eq_some_iff.mp ex
        have hr' := rows r (List.mem_of_getElem? er)
        have hi : i < rs.length := (List.getElem?_eq_some_iff.mp er).1
        have dr : rs.drop i = r :: rs.drop (i + 1) := by rw [List.drop_eq_getElem_cons hi, (List.getElem?_eq_some_iff.mp er).2]
        rw [dr] at run
        have run : (match rowP r with | none => none | some (k, d) => runR rowP (rs.drop (i + 1)) (f.add k d)) = runR rowP rs Fo.nil := run
        obtain ⟨wok, wlen⟩ := words_row hr'
        refine ⟨.str r, rfl, .str r, .str r, rfl, .str r, fun s e => (by cases e; have := hr'.len; omega), fun H1 p s1 n1 e1 => ?_⟩
        have e1 : H1 p = some (.lst ((wordsS r).map V.str)) := e1
        have sx1 := sx.trans s1
        have eR1 := s1 _ _ eRx
        have hf1 := hf.same s1
        have erow : rowP r = houseW (wordsS r) := rfl
        rw [erow] at run
        generalize wordsS r = ws at e1 run wok wlen
        refine ⟨fun σ Hz => ∃ t : V, σ = [some (.str z), some (.ref D), some (.str r), some (.ref p), some t, none] ∧ Same H1 Hz ∧ ((houseW ws = none ∧ t = .non) ∨ ∃ kd rest d, ws = kd :: rest ∧ kd ∈ NETK ∧ houseW ws = some (kd, d) ∧ Dt SA Hz t d ∧ t ≠ .non), ?_, fun σ H2 mid => ?_⟩
        · refine ⟨.ref p, rfl, !(ws.map V.str).isEmpty, .inl ⟨_, SqL.of e1, rfl⟩, ?_⟩
          cases ws with
          | nil => exact iteF ⟨_, rfl, fun _ _ e => e, .inl ⟨rfl, rfl⟩⟩
          | cons kd rest =>
            refine iteT ⟨.ref p, rfl, p, _, 0, .str kd, rfl, rfl, SqL.of e1, atI_nat (j := 0) rfl, .ref D, rfl, D, ?_⟩
            by_cases hk : kd ∈ NETK
            · obtain ⟨a, xs, dg, _⟩ := hf1.yes hk
              refine ⟨some (.ref a), rfl, dg, true, rfl, iteT ⟨.ref p, rfl, p, kd, rest, rfl, SqL.of e1, hk, by rw [List.length_cons] at wlen; omega, fun z hz => (wok z (List.mem_cons_of_mem _ hz)).2, fun x ex H3 v3 s3 hv3 => ?_, fun ex H3 s3 => ?_⟩⟩
              · obtain ⟨ek, nn⟩ := house_kd ex
                refine ⟨_, rfl, s3, .inr ⟨kd, rest, x.2, rfl, hk, by rw [ex, ← ek], hv3, fun z => ?_⟩⟩
                subst z
                obtain ⟨x1, x2⟩ := x
                have hv3 : Dt SA H3 .non x2 := hv3
                cases hv3
                exact nn rfl
              · exact ⟨_, rfl, s3, .inl ⟨ex, rfl⟩⟩
            · refine ⟨none, rfl, hf1.no hk, false, rfl, iteF ⟨_, rfl, fun _ _ e => e, .inl ⟨?_, rfl⟩⟩⟩
              show (if kd ∈ NETK ∧ fitsB (slN kd rest.length) rest = true then _ else none) = _
              rw [if_neg fun z => hk z.1]
        · obtain ⟨t, rfl, s2, mid⟩ := mid
          rcases mid with ⟨hn, rfl⟩ | ⟨kd, rest, d, rfl, hk, hs, ht, nn⟩
          · rw [hn] at run
            exact ⟨.non, rfl, rfl, _, rfl, iteT (qn (q2 run.symm) _ (sx1.trans s2))⟩
          · rw [hs] at run
            obtain ⟨a, dg, a0, put⟩ := (hf1.same s2).put ok hk
            obtain ⟨xs, ea, xl, put⟩ := put H2 fun _ _ z => z
            refine ⟨t, rfl, rfl, _, rfl, ite2 (fun c => absurd (of_decide_eq_true c) nn) fun _ => ?_⟩
            refine ⟨.ref D, rfl, .ref p, rfl, p, _, 0, .str kd, rfl, rfl, SqL.of (s2 _ _ e1), atI_nat (j := 0) rfl, D, .ref a, rfl, dg, ?_⟩
            obtain ⟨naR, na⟩ := off_none a0
            have s0 := sx1.trans s2
            have lw := lw_house wok hs
            refine ⟨.inl ⟨rfl, xs, SqL.of ea⟩, t, rfl, a, xs, _, rfl, rfl, ea, small5000 (by omega), ?_⟩
            exact ⟨_, _, _, f.add kd d, rfl, same_set s0 na, by rw [upd_ne naR.symm]; exact s2 _ _ eR1, put _ _ ht lw, ok.add hk lw, run⟩
      · obtain ⟨y2, y3, y4, f, rfl, sx, eRx, hf, ok, run⟩ := hp
        rw [rlen, List.drop_length] at run
        have run : some f = runR rowP rs Fo.nil := run
        rw [rlen] at ok
        exact ⟨.ref D, rfl, _, D, f, _, rfl, hf, ok, by omega, fun H' v' s' hv' => qy _ (q1 f run.symm) _ _ (sx.trans s') hv' ok.d⟩
end
end Th
namespace Th
open PySem PySem.Spec PyProof.Rows L2
theorem dfAll_tups {α : Type} {H : Hp} {f : α → PyData} {p : Addr → α → Prop} (h : ∀ x v, Df H v (f x) → ∃ a, v = .ref a ∧ p a x) : ∀ {l : List α} {xs : List V}, DfAll H xs (l.map f) → ∃ sa : List Addr, xs = sa.map V.ref ∧ Paired p sa l
  | [], _, .nil => ⟨[], rfl, .nil⟩
  | x :: l, _, .cons a r => by
    obtain ⟨u, rfl, pu⟩ := h x _ a
    obtain ⟨sa, rfl, ps⟩ := dfAll_tups h r
    exact ⟨u :: sa, rfl, .cons pu ps⟩
theorem df_ntf {H : Hp} {v : V} {ls : List Str} {sts : List (Str × Str)} {jns : List (Str × List Str)} {tis : List (Str × Str × Str × Int)} (h : Df H v (netD ls sts jns tis)) : ∃ r, v = .ref r ∧ NtF H r ls sts jns tis := by
  unfold netD at h
  obtain ⟨r, xs, rfl, er, hx, _⟩ := tup_inv h
  cases hx with
  | cons h1 hx =>
    cases hx with
    | cons h2 hx =>
      cases hx with
      | cons h3 hx =>
        cases hx with
        | cons h4 hx =>
          cases hx
          obtain ⟨lt, l1, rfl, e1, g1, _⟩ := tup_inv h1
          obtain ⟨st, l2, rfl, e2, g2, _⟩ := tup_inv h2
          obtain ⟨jt, l3, rfl, e3, g3, _⟩ := tup_inv h3
          obtain ⟨tt, l4, rfl, e4, g4, _⟩ := tup_inv h4
          rw [dfAll_vs g1] at e1
          obtain ⟨sa, rfl, p2⟩ := dfAll_tups (p := fun a (x : Str × Str) => TPl H a [.str x.1, .str x.2]) (fun x v hv => by
            obtain ⟨a, ys, rfl, ea, hy, _⟩ := tup_inv hv
            cases hy with
            | cons y1 hy =>
              cases hy with
              | cons y2 hy => cases hy; cases y1; cases y2; exact ⟨a, rfl, ea⟩) g2
          obtain ⟨ja, rfl, p3⟩ := dfAll_tups (p := fun a (x : Str × List Str) => ∃ b, TPl H a [.str x.1, .ref b] ∧ TPl H b (x.2.map V.str)) (fun x v hv => by
            obtain ⟨a, ys, rfl, ea, hy, _⟩ := tup_inv hv
            cases hy with
            | cons y1 hy =>
              cases hy with
              | cons y2 hy =>
                cases hy
                cases y1
                obtain ⟨b, zs, rfl, eb, hz, _⟩ := tup_inv y2
                rw [dfAll_vs hz] at eb
                exact ⟨a, rfl, b, ea, eb⟩) g3
          obtain ⟨ta, rfl, p4⟩ := dfAll_tups (p := fun a (x : Str × Str × Str × Int) => TPl H a [.str x.1, .str x.2.1, .str x.2.2.1, .int x.2.2.2]) (fun x v hv => by
            obtain ⟨a, ys, rfl, ea, hy, _⟩ := tup_inv hv
            cases hy with
            | cons y1 hy =>
              cases hy with
              | cons y2 hy =>
                cases hy with
                | cons y3 hy =>
                  cases hy with
                  | cons y4 hy => cases hy; cases y1; cases y2; cases y3; cases y4; exact ⟨a, rfl, ea⟩) g4
          exact ⟨r, rfl, ⟨lt, st, jt, tt, sa, ja, ta, er, e1, e2, p2, e3, p3, e4, p4⟩⟩
def readND : PyData → Option PyData
  | .str z => keepN z (netP z)
  | _ => none
theorem show_pre {ls : List Str} {sts : List (Str × Str)} {jns : List (Str × List Str)} {tis : List (Str × Str × Str × Int)} (h : NsOk ls sts jns tis) : ∀ r ∈ rowsV ls sts jns tis, (∀ v ∈ r, TxOk v) ∧ r.length ≤ 100 ∧ ((r.map txV).map (·.length)).sum + r.length ≤ 5000 := fun r hr => by
  have b := h.rows r hr
  have := b.sum
  have := b.n
  exact ⟨fun v hv => (b.v v hv).1, by omega, by omega⟩
section
variable {P : Program} {w : World} {K : PySem.W.Frag} {mg : Str → Option Value} {base : Heap} {k : Nat}
def sp_read_net (T : Defs K mg) : Sp := fun vs H Q E => ∃ (v : V) (d : PyData), vs = [v] ∧ Df H v d ∧ (∀ z, d = .str z → TxR z 4999 4000) ∧ (∀ nd, readND d = some nd → ∀ H' v', Same H H' → Dt SA H' v' nd → LwD 4 nd → Q v' H') ∧ (readND d = none → ∀ H', Same H H' → E (.ref T.a_NoText) none H')
set_option maxHeartbeats 8000000 in
theorem ok_read_net (T : Defs K mg) (DT : DicT w T) : FnOk P w K mg base (L2.CX P w) (k + 6) T.a_read_net T.d_read_net ["thing"] (sp_read_net T) := by
  have G_net_in : FnOk P w K mg base CX0 (k + 5) _ _ _ _ := ok_net_in (k := k) T DT
  have G_is_net : FnOk P w K mg base CX0 (k + 5) _ _ _ _ := ok_is_net (k := k) T
  have G_show_net : FnOk P w K mg base CX0 (k + 5) _ _ _ _ := ok_show_net (k := k + 3) T
  refine T.F_read_net.ok sc_read_net (fun vs H Q E h => ?_) (fun cdv A outer s H vs Q E hr h => ?_)
  · obtain ⟨v, d, rfl, _⟩ := h
    rfl
  · obtain ⟨v, d, rfl, hv, hd, qy, qn⟩ := h
    refine ⟨_,
(pss_cons (ps_set (i := 1) sc_read_net.nd rfl (.inl rfl) (pe_call G_net_in hr (by rfl) T.g_net_in T.F_net_in.kp T.b_net_in .nil pass0 (pa_cons (pv 0) pa_nil)))
    (pss_cons (ps_if (PW.pt (pw_or (pt_cmpR op_isN (pv 1) (pe_non) (nomark _)) (pw_or (pt_not (pt_val (pe_call G_is_net hr (by rfl) T.g_is_net T.F_is_net.kp T.b_is_net .nil pass0 (pa_cons (pv 1) pa_nil)))) (pw_or1 (pt_cmpR op_ne (pe_call G_show_net hr (by rfl) T.g_show_net T.F_show_net.kp T.b_show_net .nil pass0 (pa_cons (pv 1) pa_nil)) (pv 0) (nomark _))))))
      (pss_one (ps_raise rfl (takes_of rfl rfl rfl rfl) (PlE.pmk T.p_NoText T.g_NoText (by rfl))))
      pss_nil)
    (pss_one (ps_ret (pv 1)))))
      , ?_⟩
    refine ⟨v, rfl, v, d, rfl, hv, hd, fun nd end_ H1 v1 s1 hv1 lw => ?_, fun en H1 s1 => ?_⟩
    rotate_left
    · refine ⟨.non, rfl, rfl, _, rfl, iteT (qn ?_ _ s1)⟩
      cases d with
      | str z =>
        have en : netP z = none := en
        show keepN z (netP z) = none
        rw [en]
        rfl
      | _ => rfl
    · cases d with
      | str z =>
        cases hv
        have end_ : netP z = some nd := end_
        have rd : readND (.str z) = if netB nd = true ∧ netX nd = z then some nd else none := by
          show keepN z (netP z) = _
          rw [end_]
          rfl
        have nn : v1 ≠ .non := fun e => by
          subst e
          cases hv1
          have : (runR rowP (Txt.split z "\n") Fo.nil).map Fo.d = some .none := end_
          cases h : runR rowP (Txt.split z "\n") Fo.nil with
          | none => rw [h] at this; cases this
          | some f => rw [h] at this; injection this with this; cases this
        refine ⟨v1, rfl, rfl, _, rfl, ite2 (fun c => absurd (of_decide_eq_true c) nn) fun _ => ?_⟩
        refine ⟨v1, rfl, v1, nd, rfl, hv1.df, lw.tb, lw.shaped (by decide), fun H2 s2 => ⟨_, rfl, ?_⟩⟩
        cases cb : netB nd with
        | false =>
          refine iteT (qn ?_ _ (s1.trans s2))
          rw [rd, if_neg fun h => ?_]
          rw [cb] at h
          cases h.1
        | true =>
          refine iteF ?_
          obtain ⟨ls, sts, jns, tis, rfl, ok⟩ := net_inv cb
          obtain ⟨r, rfl, nt⟩ := df_ntf (hv1.df.same s2)
          refine ⟨.ref r, rfl, r, ls, sts, jns, tis, rfl, nt, ok.l8, ok.l16, ok.l12, ok.l40, fun x hx => (ok.jl x hx).1, show_pre ok, ok.all, fun H3 s3 => ?_⟩
          have s13 := (s1.trans s2).trans s3
          refine ⟨.str z, rfl, rfl, _, rfl, ite2 (fun c => ?_) fun c => ?_⟩
          · refine qn ?_ _ s13
            rw [rd, if_neg fun h => ?_]
            rw [netX_of] at h
            rw [h.2] at c
            simp at c
          · have e : netT (rowsV ls sts jns tis) = z := by
              have c : (!decide (V.str (netT (rowsV ls sts jns tis)) = V.str z)) = false := by simpa using c
              have c : V.str (netT (rowsV ls sts jns tis)) = V.str z := by simpa using c
              injection c
            exact ⟨.ref r, rfl, qy _ (by rw [rd, if_pos ⟨cb, by rw [netX_of]; exact e⟩]) _ _ s13 (hv1.same (s2.trans s3)) lw⟩
      | _ => cases (show none = some nd from end_)
end
end Th
namespace Th
open PySem PySem.Spec PyProof.Rows L2
theorem jl_app (c : Nat) : ∀ {as bs : List (List Nat)}, as ≠ [] → bs ≠ [] → TL.joinL [c] (as ++ bs) = TL.joinL [c] as ++ (c :: TL.joinL [c] bs)
  | [], _, h, _ => absurd rfl h
  | [a], [], _, h => absurd rfl h
  | [a], b :: bs, _, _ => rfl
  | a :: a' :: as, bs, _, hb => by
    show a ++ (c :: TL.joinL [c] ((a' :: as) ++ bs)) = (a ++ (c :: TL.joinL [c] (a' :: as))) ++ _
    rw [jl_app c (as := a' :: as) (by simp) hb]
    simp
theorem join_app {as bs : List Str} (a : as ≠ []) (b : bs ≠ []) : Txt.join " " (as ++ bs) = Txt.join " " as ++ " " ++ Txt.join " " bs := by
  refine str_ext ?_
  rw [sp_S, str_app, str_app, join_L, join_L, join_L, List.map_append]
  show TL.joinL [32] _ = TL.joinL [32] _ ++ [32] ++ TL.joinL [32] _
  rw [jl_app 32 (by simpa using a) (by simpa using b)]
  simp
theorem join_one (a : Str) : Txt.join " " [a] = a := by
  refine str_ext ?_
  rw [sp_S, join_L]
  rfl
theorem app_assoc (a b c : Str) : a ++ b ++ c = a ++ (b ++ c) := by
  refine str_ext ?_
  rw [str_app, str_app, str_app, str_app, List.append_assoc]
theorem lineT (l : Str) : ("line " : Str) ++ l = rowT [.str "line", .str l] := by
  show _ = Txt.join " " ([("line" : Str)] ++ [l])
  rw [join_app (by simp) (by simp), join_one, join_one, show ("line " : Str) = "line" ++ " " by decide +kernel]
theorem stT (a b : Str) : ("station " : Str) ++ Txt.join " " [a, b] = rowT [.str "station", .str a, .str b] := by
  show _ = Txt.join " " ([("station" : Str)] ++ [a, b])
  rw [join_app (by simp) (by simp), join_one, show ("station " : Str) = "station" ++ " " by decide +kernel]
theorem map_tx (bs : List Str) : (bs.map V.str).map txV = bs := by
  rw [List.map_map]
  exact (List.map_congr_left fun _ _ => rfl).trans (List.map_id' bs)
theorem jnT (a : Str) {bs : List Str} (h : bs ≠ []) : ("junction " : Str) ++ a ++ " " ++ Txt.join " " bs = rowT (.str "junction" :: .str a :: bs.map V.str) := by
  show _ = Txt.join " " ("junction" :: a :: (bs.map V.str).map txV)
  rw [map_tx]
  show _ = Txt.join " " ([("junction" : Str)] ++ ([a] ++ bs))
  rw [join_app (by simp) (by simp), join_app (by simp) h, join_one, join_one, show ("junction " : Str) = "junction" ++ " " by decide +kernel]
  simp only [app_assoc]
theorem tiT (a b c : Str) (n : Int) : ("tie " : Str) ++ Txt.join " " [a, b, c] ++ " " ++ (toString n : String) = rowT [.str "tie", .str a, .str b, .str c, .int n] := by
  show _ = Txt.join " " ([("tie" : Str)] ++ ([a, b, c] ++ [((toString n : String) : Str)]))
  rw [join_app (by simp) (by simp), join_app (by simp) (by simp), join_one, join_one, show ("tie " : Str) = "tie" ++ " " by decide +kernel]
  simp only [app_assoc]
theorem one_sp : (" " : Str).length = 1 := by decide +kernel
theorem str_len (a b : Str) : (a ++ b).length = a.length + b.length := by
  have : (a ++ b).cps.toList.length = a.cps.toList.length + b.cps.toList.length := by rw [str_app, List.length_append]
  exact this
theorem row_sz {a b : Str} (l : (a ++ b).length ≤ 110) : a.length + b.length ≤ sizeLine := by
  rw [str_len] at l
  rw [sizeLine_eq]
  omega
theorem st_in {ls : List Str} {sts : List (Str × Str)} {jns : List (Str × List Str)} {tis : List (Str × Str × Str × Int)} {z : Str × Str} (h : z ∈ sts) : [V.str "station", .str z.1, .str z.2] ∈ rowsV ls sts jns tis :=
  List.mem_append_left _ (List.mem_append_left _ (List.mem_append_right _ (List.mem_map_of_mem (f := fun x : Str × Str => [V.str "station", .str x.1, .str x.2]) h)))
theorem jn_in {ls : List Str} {sts : List (Str × Str)} {jns : List (Str × List Str)} {tis : List (Str × Str × Str × Int)} {z : Str × List Str} (h : z ∈ jns) : (V.str "junction" :: .str z.1 :: z.2.map V.str) ∈ rowsV ls sts jns tis :=
  List.mem_append_left _ (List.mem_append_right _ (List.mem_map_of_mem (f := fun x : Str × List Str => V.str "junction" :: .str x.1 :: x.2.map V.str) h))
theorem ti_in {ls : List Str} {sts : List (Str × Str)} {jns : List (Str × List Str)} {tis : List (Str × Str × Str × Int)} {z : Str × Str × Str × Int} (h : z ∈ tis) : [V.str "tie", .str z.1, .str z.2.1, .str z.2.2.1, .int z.2.2.2] ∈ rowsV ls sts jns tis :=
  List.mem_append_right _ (List.mem_map_of_mem (f := fun x : Str × Str × Str × Int => [V.str "tie", .str x.1, .str x.2.1, .str x.2.2.1, .int x.2.2.2]) h)
section
variable {P : Program} {w : World} {K : PySem.W.Frag} {mg : Str → Option Value} {base : Heap} {k : Nat}
def sp_l_net_text : Sp := fun vs H Q _ => ∃ (r : Addr) (ls : List Str) (sts : List (Str × Str)) (jns : List (Str × List Str)) (tis : List (Str × Str × Str × Int)), vs = [.ref r] ∧ NtF H r ls sts jns tis ∧ NsOk ls sts jns tis ∧ ∀ H', Same H H' → Q (.str (netT (rowsV ls sts jns tis))) H'
set_option maxHeartbeats 16000000 in
theorem ok_l_net_text (T : Defs K mg) : FnOk P w K mg base CX0 (k + 1) T.a_l_net_text T.d_l_net_text ["_law_net_here"] sp_l_net_text := by
  refine T.F_l_net_text.ok sc_l_net_text (fun vs H Q E h => ?_) (fun cdv A outer s H vs Q E hr h => ?_)
  · obtain ⟨r, ls, sts, jns, tis, rfl, _⟩ := h
    rfl
  · obtain ⟨r, ls, sts, jns, tis, rfl, hN, ok, q⟩ := h
    obtain ⟨lt, st, jt, tt, sa, ja, ta, er, el, es, hs, ej, hj, et, ht⟩ := hN.ex
    refine ⟨_, PSs.nox
(pss_cons (ps_asg (pv 0) (pg_tup rfl (pgs_cons (pg_name (i := 1) sc_l_net_text.nd rfl (.inl rfl)) (pgs_cons (pg_name (i := 2) sc_l_net_text.nd rfl (.inl rfl)) (pgs_cons (pg_name (i := 3) sc_l_net_text.nd rfl (.inl rfl)) (pgs_cons (pg_name (i := 4) sc_l_net_text.nd rfl (.inl rfl)) pgs_nil))))))
    (pss_cons (ps_set (i := 5) sc_l_net_text.nd rfl (.inl rfl) (pe_op op_cat (pe_lc (own := [("_law_line", 6)]) (g := gName 6) rfl sc_l_net_text.nd (pi_tup (pv 1)) (blkOk_by (N := N_l_net_text) (sc := defScope s_l_net_text) (by decide +kernel)) (fun _ _ _ _ _ => (pg_name (i := 6) sc_l_net_text.nd rfl (.inl rfl))) (fun _ _ _ _ _ => pts_nil) (fun _ _ _ _ _ => (pe_op op_add_str (pe_str) (pv 6)))) (pe_lc (own := [("_law_one", 7)]) (g := gName 7) rfl sc_l_net_text.nd (pi_tup (pv 2)) (blkOk_by (N := N_l_net_text) (sc := defScope s_l_net_text) (by decide +kernel)) (fun _ _ _ _ _ => (pg_name (i := 7) sc_l_net_text.nd rfl (.inl rfl))) (fun _ _ _ _ _ => pts_nil) (fun _ _ _ _ _ => (pe_op op_add_str (pe_str) (Jc.pe_joinC (K := K) (by rfl) (pe_str) (pv 7)))))))
    (pss_cons (ps_set (i := 5) sc_l_net_text.nd rfl (.inl rfl) (pe_op op_cat (pv 5) (pe_lc (own := [("_law_name", 8), ("_law_own", 9)]) (g := gTup K 2 (gCons (gName 8) (gCons (gName 9) gNil))) rfl sc_l_net_text.nd (pi_tup (pv 3)) (blkOk_by (N := N_l_net_text) (sc := defScope s_l_net_text) (by decide +kernel)) (fun _ _ _ _ _ => (pg_tup rfl (pgs_cons (pg_name (i := 8) sc_l_net_text.nd rfl (.inl rfl)) (pgs_cons (pg_name (i := 9) sc_l_net_text.nd rfl (.inl rfl)) pgs_nil)))) (fun _ _ _ _ _ => pts_nil) (fun _ _ _ _ _ => (pe_op op_add_str (pe_op op_add_str (pe_op op_add_str (pe_str) (pv 8)) (pe_str)) (Jc.pe_joinC (K := K) (by rfl) (pe_str) (pv 9)))))))
    (pss_cons (ps_set (i := 5) sc_l_net_text.nd rfl (.inl rfl) (pe_op op_cat (pv 5) (pe_lc (own := [("_law_one", 7)]) (g := gName 7) rfl sc_l_net_text.nd (pi_tup (pv 4)) (blkOk_by (N := N_l_net_text) (sc := defScope s_l_net_text) (by decide +kernel)) (fun _ _ _ _ _ => (pg_name (i := 7) sc_l_net_text.nd rfl (.inl rfl))) (fun _ _ _ _ _ => pts_nil) (fun _ _ _ _ _ => (pe_op op_add_str (pe_op op_add_str (pe_op op_add_str (pe_str) (Jc.pe_joinC (K := K) (by rfl) (pe_str) (pe_slice (r := rSlA K) sl_tupA (pv 7) po_none (po_some (pe_int))))) (pe_str)) (pe_callTy call_str_int (by rfl) T.z_str (by decide +kernel) (pa_cons (pe_ix (r := rIxT K) ix_tup (pv 7) (pe_int) (fun _ _ => rfl)) pa_nil)))))))
    (pss_one (ps_ret (pe_join (pe_str) (pv 5))))))))
      , ?_⟩
    have sz : ∀ {a : Nat}, a ≤ 5000 → a ≤ sizeLine := fun h => Nat.le_of_lt (small5000 h)
    have l8 := ok.l8
    have l16 := ok.l16
    have l12 := ok.l12
    have l40 := ok.l40
    refine ⟨.ref r, rfl, r, _, rfl, er.sq, rfl, _, _, rfl, _, _, rfl, _, _, rfl, _, [], rfl, rfl, ?_⟩
    -- the lines
    refine ⟨.ref lt, rfl, lt, rfl, ⟨_, el.sq⟩, fun R nR => ?_⟩
    refine lc_it (walk_tup (xs := ls.map V.str)) (fun i Hx => Same H Hx ∧ Hx R = some (.lst (((ls.take i).map fun l => rowT [V.str "line", .str l]).map V.str))) ⟨same_upd nR, upd_same⟩ (fun i Hx _ pv => (el.same pv.1).sq) (fun i x Hx₀ Hx hi pv yy => ?_) (fun Hx pv => ?_)
    · obtain ⟨rfl, ex⟩ := yy
      obtain ⟨sx, eR⟩ := pv
      rw [List.getElem?_map] at ex
      obtain ⟨z, ez, rfl⟩ := Option.map_eq_some_iff.mp ex
      have tk1 : ls.take (i + 1) = ls.take i ++ [z] := by rw [List.take_add_one, ez]; rfl
      have zn := name_len (ok.ln z (List.mem_of_getElem? ez))
      refine ⟨rfl, yes_ ⟨.str z, rfl, _, _, rfl, rfl, sz (by rw [show ("line " : Str).length = 5 by decide +kernel]; omega), ?_⟩⟩
      refine ⟨_, eR, small5000 (by rw [List.length_map, List.length_map, List.length_take]; omega), same_set sx nR, ?_⟩
      rw [upd_same, tk1, lineT, List.map_append, List.map_append]
      rfl
    obtain ⟨s1, eR1⟩ := pv
    rw [List.length_map, List.take_length] at eR1
    -- the stations
    have sal := paired_len hs
    refine ⟨.ref st, rfl, st, rfl, ⟨_, (es.same s1).sq⟩, fun C nC => ?_⟩
    refine lc_it (walk_tup (xs := sa.map V.ref)) (fun i Hy => Same Hx Hy ∧ Hy C = some (.lst (((sts.take i).map fun x => rowT [V.str "station", .str x.1, .str x.2]).map V.str))) ⟨same_upd nC, upd_same⟩ (fun i Hy _ pv => (es.same (s1.trans pv.1)).sq) (fun i x Hy₀ Hy hi pv yy => ?_) (fun Hy pv => ?_)
    · obtain ⟨rfl, ex⟩ := yy
      obtain ⟨sy, eC⟩ := pv
      rw [List.getElem?_map] at ex
      obtain ⟨u, eu, rfl⟩ := Option.map_eq_some_iff.mp ex
      obtain ⟨z, ez, hz⟩ := paired_get hs eu
      have tk1 : sts.take (i + 1) = sts.take i ++ [z] := by rw [List.take_add_one, ez]; rfl
      obtain ⟨n1, n2⟩ := ok.sn z (List.mem_of_getElem? ez)
      have n1 := name_len n1
      have n2 := name_len n2
      refine ⟨rfl, yes_ ⟨⟨_, rfl⟩, .ref u, rfl, " ", u, [z.1, z.2], rfl, rfl, .inr (hz.same (s1.trans sy)).sq, by show z.1.length + (z.2.length + 0) + 2 * (" " : Str).length ≤ _; rw [one_sp]; omega, _, _, rfl, rfl, ?_, ?_⟩⟩
      · exact row_sz (by rw [stT]; exact (ok.rows _ (st_in (List.mem_of_getElem? ez))).len)
      refine ⟨_, eC, small5000 (by rw [List.length_map, List.length_map, List.length_take]; omega), same_set sy nC, ?_⟩
      rw [upd_same, tk1, stT, List.map_append, List.map_append]
      rfl
    obtain ⟨s2, eC2⟩ := pv
    rw [List.length_map, sal, List.take_length] at eC2
    have eR2 := s2 _ _ eR1
    refine ⟨R, C, _, _, rfl, rfl, eR2, eC2, sz (by rw [List.length_map, List.length_map, List.length_map, List.length_map]; omega), fun G nG => ?_⟩
    have s3 := (s1.trans s2).trans (same_upd (o := .lst ((ls.map fun l => rowT [V.str "line", .str l]).map V.str ++ (sts.map fun x => rowT [V.str "station", .str x.1, .str x.2]).map V.str)) nG)
    have eG : (upd Hy G (.lst ((ls.map fun l => rowT [V.str "line", .str l]).map V.str ++ (sts.map fun x => rowT [V.str "station", .str x.1, .str x.2]).map V.str))) G = some (.lst (((ls.map fun l => rowT [V.str "line", .str l]) ++ sts.map fun x => rowT [V.str "station", .str x.1, .str x.2]).map V.str)) := by rw [upd_same, List.map_append]
    have tl1 : ((ls.map fun l => rowT [V.str "line", .str l]) ++ sts.map fun x => rowT [V.str "station", .str x.1, .str x.2]).length ≤ 24 := by rw [List.length_append, List.length_map, List.length_map]; omega
    have et1 : ((ls.map fun l => rowT [V.str "line", .str l]) ++ sts.map fun x => rowT [V.str "station", .str x.1, .str x.2]) = (ls.map (fun l => [V.str "line", .str l]) ++ sts.map fun x => [V.str "station", .str x.1, .str x.2]).map rowT := by rw [List.map_append, List.map_map, List.map_map]; rfl
    generalize upd Hy G (.lst ((ls.map fun l => rowT [V.str "line", .str l]).map V.str ++ (sts.map fun x => rowT [V.str "station", .str x.1, .str x.2]).map V.str)) = H3 at s3 eG ⊢
    generalize ((ls.map fun l => rowT [V.str "line", .str l]) ++ sts.map fun x => rowT [V.str "station", .str x.1, .str x.2]) = t1 at eG tl1 et1
    clear s1 s2 eR1 eR2 eC2 nC nR
    -- the junctions
    have jal := paired_len hj
    refine ⟨.ref G, rfl, .ref jt, rfl, jt, rfl, ⟨_, (ej.same s3).sq⟩, fun C nC => ?_⟩
    refine lc_it (walk_tup (xs := ja.map V.ref)) (fun i Hy => Same H3 Hy ∧ Hy C = some (.lst (((jns.take i).map fun x => rowT (V.str "junction" :: .str x.1 :: x.2.map V.str)).map V.str))) ⟨same_upd nC, upd_same⟩ (fun i Hy _ pv => (ej.same (s3.trans pv.1)).sq) (fun i x Hy₀ Hy hi pv yy => ?_) (fun Hy pv => ?_)
    · obtain ⟨rfl, ex⟩ := yy
      obtain ⟨sy, eC⟩ := pv
      rw [List.getElem?_map] at ex
      obtain ⟨u, eu, rfl⟩ := Option.map_eq_some_iff.mp ex
      obtain ⟨z, ez, jb, hz, hjb⟩ := paired_get hj eu
      have zm := List.mem_of_getElem? ez
      have tk1 : jns.take (i + 1) = jns.take i ++ [z] := by rw [List.take_add_one, ez]; rfl
      obtain ⟨z8, zne⟩ := ok.jl z zm
      obtain ⟨n1, n2⟩ := ok.jn z zm
      have n1 := name_len n1
      have s0y := s3.trans sy
      refine ⟨u, _, rfl, (hz.same s0y).sq, rfl, _, _, rfl, _, [], rfl, rfl, ?_⟩
      have sum8 := sum_le (l := z.2.map (·.length)) (m := 8) fun x hx => by
        obtain ⟨y, hy, rfl⟩ := List.mem_map.mp hx
        exact name_len (n2 y hy)
      rw [List.length_map] at sum8
      refine ⟨rfl, yes_ ⟨.str z.1, rfl, _, _, rfl, rfl, ?_, _, _, rfl, rfl, ?_, ⟨_, rfl⟩, .ref jb, rfl, " ", jb, z.2, rfl, rfl, .inr (hjb.same s0y).sq, by rw [one_sp]; omega, _, _, rfl, rfl, ?_, ?_⟩⟩
      · exact sz (by rw [show ("junction " : Str).length = 9 by decide +kernel]; omega)
      · exact sz (by rw [str_len, one_sp, show ("junction " : Str).length = 9 by decide +kernel]; omega)
      · exact row_sz (by rw [jnT z.1 zne]; exact (ok.rows _ (jn_in zm)).len)
      refine ⟨_, eC, small5000 (by rw [List.length_map, List.length_map, List.length_take]; omega), same_set sy nC, ?_⟩
      rw [upd_same, tk1, jnT z.1 zne, List.map_append, List.map_append]
      rfl
    obtain ⟨s4, eC4⟩ := pv
    rw [List.length_map, jal, List.take_length] at eC4
    refine ⟨G, C, _, _, rfl, rfl, s4 _ _ eG, eC4, sz (by rw [List.length_map, List.length_map, List.length_map]; omega), fun F nF => ?_⟩
    have s5 := (s3.trans s4).trans (same_upd (o := .lst (t1.map V.str ++ (jns.map fun x => rowT (V.str "junction" :: .str x.1 :: x.2.map V.str)).map V.str)) nF)
    have eF : (upd Hy F (.lst (t1.map V.str ++ (jns.map fun x => rowT (V.str "junction" :: .str x.1 :: x.2.map V.str)).map V.str))) F = some (.lst ((t1 ++ jns.map fun x => rowT (V.str "junction" :: .str x.1 :: x.2.map V.str)).map V.str)) := by rw [upd_same, List.map_append]
    have tl2 : (t1 ++ jns.map fun x => rowT (V.str "junction" :: .str x.1 :: x.2.map V.str)).length ≤ 36 := by rw [List.length_append, List.length_map]; omega
    have et2 : (t1 ++ jns.map fun x => rowT (V.str "junction" :: .str x.1 :: x.2.map V.str)) = (ls.map (fun l => [V.str "line", .str l]) ++ sts.map (fun x => [V.str "station", .str x.1, .str x.2]) ++ jns.map fun x => V.str "junction" :: .str x.1 :: x.2.map V.str).map rowT := by rw [List.map_append, ← et1, List.map_map]; rfl
    generalize upd Hy F (.lst (t1.map V.str ++ (jns.map fun x => rowT (V.str "junction" :: .str x.1 :: x.2.map V.str)).map V.str)) = H5 at s5 eF ⊢
    generalize (t1 ++ jns.map fun x => rowT (V.str "junction" :: .str x.1 :: x.2.map V.str)) = t2 at eF tl2 et2
    clear s3 s4 eC4 eG nC
    -- the ties
    have tal := paired_len ht
    refine ⟨.ref F, rfl, .ref tt, rfl, tt, rfl, ⟨_, (et.same s5).sq⟩, fun C nC => ?_⟩
    refine lc_it (walk_tup (xs := ta.map V.ref)) (fun i Hy => Same H5 Hy ∧ Hy C = some (.lst (((tis.take i).map fun x => rowT [V.str "tie", .str x.1, .str x.2.1, .str x.2.2.1, .int x.2.2.2]).map V.str))) ⟨same_upd nC, upd_same⟩ (fun i Hy _ pv => (et.same (s5.trans pv.1)).sq) (fun i x Hy₀ Hy hi pv yy => ?_) (fun Hy pv => ?_)
    · obtain ⟨rfl, ex⟩ := yy
      obtain ⟨sy, eC⟩ := pv
      rw [List.getElem?_map] at ex
      obtain ⟨u, eu, rfl⟩ := Option.map_eq_some_iff.mp ex
      obtain ⟨z, ez, hz⟩ := paired_get ht eu
      have zm := List.mem_of_getElem? ez
      have tk1 : tis.take (i + 1) = tis.take i ++ [z] := by rw [List.take_add_one, ez]; rfl
      obtain ⟨n1, n2, n3, n4, n5⟩ := ok.tn z zm
      have n1 := name_len n1
      have n2 := name_len n2
      have n3 := name_len n3
      have s0y := s5.trans sy
      refine ⟨rfl, yes_ ⟨⟨_, rfl⟩, .ref u, rfl, 3, rfl, ?_⟩⟩
      show rSlA K (.ref u) none (some (3 : Int)) _ _
      refine slA_of (hz.same s0y).sq fun c1 H1 sc hc1 => ?_
      rw [show cutV [V.str z.1, .str z.2.1, .str z.2.2.1, .int z.2.2.2] none (some (3 : Int)) = [z.1, z.2.1, z.2.2.1].map V.str from rfl] at hc1
      have z9 : z.2.2.2.natAbs.log2 < 1920 := by
        by_cases z0 : z.2.2.2.natAbs = 0
        · rw [z0]; decide
        · exact Nat.lt_of_lt_of_le ((Nat.log2_lt z0).mpr (show z.2.2.2.natAbs < 2 ^ 14 by omega)) (show 14 ≤ 1920 by decide)
      have all := (ok.rows _ (ti_in (ls := ls) (sts := sts) (jns := jns) zm)).len
      rw [← tiT] at all
      have all2 := all
      rw [str_len] at all2
      refine ⟨" ", c1, [z.1, z.2.1, z.2.2.1], rfl, rfl, .inr hc1, by show z.1.length + (z.2.1.length + (z.2.2.1.length + 0)) + 3 * (" " : Str).length ≤ _; rw [one_sp]; omega, _, _, rfl, rfl, ?_, _, _, rfl, rfl, ?_, .ref u, rfl, u, _, 3, .int z.2.2.2, rfl, rfl, (hz.same (s0y.trans sc)).sq, atI_nat (j := 3) rfl, z.2.2.2, rfl, z9, _, _, rfl, rfl, row_sz all, ?_⟩
      · exact row_sz (by rw [str_len] at all2; omega)
      · exact row_sz (by omega)
      rw [tiT]
      have eC2 := sc _ _ eC
      refine ⟨_, eC2, small5000 (by rw [List.length_map, List.length_map, List.length_take]; omega), same_set (sy.trans sc) nC, ?_⟩
      rw [upd_same, tk1, List.map_append, List.map_append]
      rfl
    obtain ⟨s6, eC6⟩ := pv
    rw [List.length_map, tal, List.take_length] at eC6
    refine ⟨F, C, _, _, rfl, rfl, s6 _ _ eF, eC6, sz (by rw [List.length_map, List.length_map, List.length_map]; omega), fun G nG => ?_⟩
    have s7 := (s5.trans s6).trans (same_upd (o := .lst (t2.map V.str ++ (tis.map fun x => rowT [V.str "tie", .str x.1, .str x.2.1, .str x.2.2.1, .int x.2.2.2]).map V.str)) nG)
    have e3 : (t2 ++ tis.map fun x => rowT [V.str "tie", .str x.1, .str x.2.1, .str x.2.2.1, .int x.2.2.2]) = (rowsV ls sts jns tis).map rowT := by
      rw [et2]
      unfold rowsV
      rw [List.map_append (l₂ := tis.map _), List.map_map]
      rfl
    refine ⟨⟨_, rfl⟩, .ref G, rfl, "\n", G, (rowsV ls sts jns tis).map rowT, rfl, rfl, .inl (SqL.of (by rw [upd_same, ← e3, List.map_append])), ?_, q _ s7⟩
    have := ok.all
    rw [show ("\n" : Str).length = 1 by decide +kernel]
    omega
end
end Th
namespace Th
open PySem PySem.Spec PyProof.Rows L2
theorem val_no {kvs : List (Key × V)} {z : Str} (h : ∀ kv ∈ kvs, kv.1 ≠ Sum.inr z) : valV kvs (Sum.inr z) = none := by
  unfold valV
  rw [List.find?_eq_none.mpr fun kv hkv => by simpa using h kv hkv]
  rfl
def disK (v1 v2 v3 v4 : V) : List (Key × V) := [(Sum.inr "line", v1), (Sum.inr "station", v2), (Sum.inr "junction", v3), (Sum.inr "tie", v4)]
theorem disK_no {v1 v2 v3 v4 : V} {z : Str} (h : z ∉ NETK) : valV (disK v1 v2 v3 v4) (Sum.inr z) = none := val_no fun kv hkv e => by
  unfold disK at hkv
  simp only [List.mem_cons, List.not_mem_nil, or_false] at hkv
  refine h ?_
  unfold NETK
  simp only [List.mem_cons, List.not_mem_nil, or_false]
  rcases hkv with rfl | rfl | rfl | rfl
  · exact .inl (Sum.inr.inj e).symm
  · exact .inr (.inl (Sum.inr.inj e).symm)
  · exact .inr (.inr (.inl (Sum.inr.inj e).symm))
  · exact .inr (.inr (.inr (Sum.inr.inj e).symm))
def pick4 {α : Type} (z : Str) (a b c d : α) : α := if z = ("line" : Str) then a else if z = ("station" : Str) then b else if z = ("junction" : Str) then c else d
theorem pick_l {α : Type} (a b c d : α) : pick4 "line" a b c d = a := if_pos rfl
theorem pick_s {α : Type} (a b c d : α) : pick4 "station" a b c d = b := by unfold pick4; rw [if_neg (by decide +kernel), if_pos rfl]
theorem pick_j {α : Type} (a b c d : α) : pick4 "junction" a b c d = c := by unfold pick4; rw [if_neg (by decide +kernel), if_neg (by decide +kernel), if_pos rfl]
theorem pick_t {α : Type} (a b c d : α) : pick4 "tie" a b c d = d := by unfold pick4; rw [if_neg (by decide +kernel), if_neg (by decide +kernel), if_neg (by decide +kernel)]
theorem disK_at {v1 v2 v3 v4 : V} {z : Str} (h : z ∈ NETK) : valV (disK v1 v2 v3 v4) (Sum.inr z) = some (pick4 z v1 v2 v3 v4) := by
  rcases netk_cases h with rfl | rfl | rfl | rfl
  · rw [pick_l]; rfl
  · rw [pick_s]; rfl
  · rw [pick_j]; rfl
  · rw [pick_t]; rfl
theorem nil_get (z : Str) : Fo.nil.get z = [] := by
  unfold Fo.get
  split
  · rfl
  · split
    · rfl
    · split <;> rfl
theorem fo_start {H0 H : Hp} {D a b c d : Addr} (e : H D = some (.dK (disK (.ref a) (.ref b) (.ref c) (.ref d)))) (h1 : H a = some (.lst [])) (h2 : H b = some (.lst [])) (h3 : H c = some (.lst [])) (h4 : H d = some (.lst [])) (n1 : H0 a = none) (n2 : H0 b = none) (n3 : H0 c = none) (n4 : H0 d = none)
    (x1 : a ≠ b) (x2 : a ≠ c) (x3 : a ≠ d) (x4 : b ≠ c) (x5 : b ≠ d) (x6 : c ≠ d) : FoAt H0 H D Fo.nil := by
  refine ⟨_, fun z => pick4 z a b c d, e, fun z hz => ?_, fun z hz y hy => ?_, fun z hz => disK_no hz⟩
  · rw [disK_at hz, nil_get]
    rcases netk_cases hz with rfl | rfl | rfl | rfl
    · simp only [pick_l]; exact ⟨trivial, n1, [], h1, .nil⟩
    · simp only [pick_s]; exact ⟨trivial, n2, [], h2, .nil⟩
    · simp only [pick_j]; exact ⟨trivial, n3, [], h3, .nil⟩
    · simp only [pick_t]; exact ⟨trivial, n4, [], h4, .nil⟩
  · rcases netk_cases hz with rfl | rfl | rfl | rfl <;> rcases netk_cases hy with rfl | rfl | rfl | rfl <;> simp only [pick_l, pick_s, pick_j, pick_t] <;> intro e <;> first | trivial | rfl | exact absurd e (by assumption) | exact absurd e.symm (by assumption)
def leastK : List (Key × V) := disK (.int 2) (.int 3) (.int 3) (.int 5)
theorem leastK_at {z : Str} (h : z ∈ NETK) : valV leastK (Sum.inr z) = some (.int ((leastN z + 1 : Nat) : Int)) := by
  unfold leastK
  rw [disK_at h]
  rcases netk_cases h with rfl | rfl | rfl | rfl
  · rw [pick_l]; decide +kernel
  · rw [pick_s]; decide +kernel
  · rw [pick_j]; decide +kernel
  · rw [pick_t]; decide +kernel
section
variable {P : Program} {w : World} {K : PySem.W.Frag} {mg : Str → Option Value} {base : Heap} {k : Nat}
def sp_l_read : Sp := fun vs H Q _ => ∃ z : Str, vs = [.str z] ∧ TxR z 4999 4000 ∧ ∀ H' v, Same H H' → Dt SA H' v ((keepN z (netL z)).getD .none) → LwD 4 ((keepN z (netL z)).getD .none) → Q v H'
set_option maxHeartbeats 16000000 in
theorem ok_l_read (T : Defs K mg) : FnOk P w K mg base CX0 (k + 6) T.a_l_read T.d_l_read ["_law_text"] sp_l_read := by
  have G_l_plain : FnOk P w K mg base CX0 (k + 5) _ _ _ _ := ok_l_plain (k := k + 4) T
  have G_is_net : FnOk P w K mg base CX0 (k + 5) _ _ _ _ := ok_is_net (k := k) T
  have G_l_net_text : FnOk P w K mg base CX0 (k + 5) _ _ _ _ := ok_l_net_text (k := k + 4) T
  refine T.F_l_read.ok sc_l_read (fun vs H Q E h => ?_) (fun cdv A outer s H vs Q E hr h => ?_)
  · obtain ⟨z, rfl, _⟩ := h
    rfl
  · obtain ⟨z, rfl, hz, q⟩ := h
    refine ⟨_, PSs.nox
(pss_cons (ps_set (i := 1) sc_l_read.nd rfl (.inr rfl) (pe_disp (pps_cons (pe_str) (pe_lst pa_nil) (pps_cons (pe_str) (pe_lst pa_nil) (pps_cons (pe_str) (pe_lst pa_nil) (pps_cons (pe_str) (pe_lst pa_nil) pps_nil)))) rfl rfl (by simp) (by decide)))
    (pss_cons (ps_set (i := 2) sc_l_read.nd rfl (.inl rfl) (pe_disp (pps_cons (pe_str) (pe_int) (pps_cons (pe_str) (pe_int) (pps_cons (pe_str) (pe_int) (pps_cons (pe_str) (pe_int) pps_nil)))) rfl rfl (by simp) (by decide)))
    (pss_cons (ps_for PassesOwn.never rfl (pi_list (pe_bm PySem.F.plainAttrs_str PySem.F.slot_str_split PySem.F.type_str_split mt_split (pv 0) (pa_cons (pe_str) pa_nil))) (pg_name (i := 3) sc_l_read.nd rfl (.inl rfl))
      (pss_cons (ps_set (i := 4) sc_l_read.nd rfl (.inl rfl) (pe_bm PySem.F.plainAttrs_str PySem.F.slot_str_split PySem.F.type_str_split mt_split (pv 3) (pa_cons (pe_str) pa_nil)))
      (pss_cons (ps_if (PW.pt (pw_or (pt_cmp (pc_dnotin (hu_of hr) (pe_ix (r := rIxL K) ix_list (pv 4) (pe_int) (fun _ _ => rfl)) (pv 1))) (pw_or1 (pt_cmpR op_lt (pe_callB (r := rLenS K) call_lenS (by rfl) T.z_len (by decide +kernel) (pa_cons (pv 4) pa_nil)) (pe_dget (hu_of hr) (pv 2) (pe_ix (r := rIxL K) ix_list (pv 4) (pe_int) (fun _ _ => rfl)) (fun _ _ => rfl)) (nomark _)))))
        (pss_one (ps_ret (pe_non)))
        pss_nil)
      (pss_cons (ps_if (PW.pt (pw_and (pt_cmpR op_ne (pe_ix (r := rIxL K) ix_list (pv 4) (pe_int) (fun _ _ => rfl)) (pe_str) (nomark _)) (pw_and1 (pt_cmpR op_ne (pe_callB (r := rLenS K) call_lenS (by rfl) T.z_len (by decide +kernel) (pa_cons (pv 4) pa_nil)) (pe_dget (hu_of hr) (pv 2) (pe_ix (r := rIxL K) ix_list (pv 4) (pe_int) (fun _ _ => rfl)) (fun _ _ => rfl)) (nomark _)))))
        (pss_one (ps_ret (pe_non)))
        pss_nil)
      (pss_one (ps_if (pt_cmpR op_eq (pe_ix (r := rIxL K) ix_list (pv 4) (pe_int) (fun _ _ => rfl)) (pe_str) (nomark _))
        (pss_one (ps_expr (pe_bm PySem.F.plainAttrs_list PySem.F.slot_list_append PySem.F.type_list_append mt_append (pe_dget (hu_of hr) (pv 1) (pe_str) (fun _ _ => rfl)) (pa_cons (pe_ix (r := rIxL K) ix_list (pv 4) (pe_int) (fun _ _ => rfl)) pa_nil))))
        (pss_one (ps_if (pt_cmpR op_eq (pe_ix (r := rIxL K) ix_list (pv 4) (pe_int) (fun _ _ => rfl)) (pe_str) (nomark _))
          (pss_one (ps_expr (pe_bm PySem.F.plainAttrs_list PySem.F.slot_list_append PySem.F.type_list_append mt_append (pe_dget (hu_of hr) (pv 1) (pe_str) (fun _ _ => rfl)) (pa_cons (pe_op op_catT (pe_callTy (r := rTupOf K) call_tuple_of (by rfl) T.z_tuple (by decide +kernel) (pa_cons (pe_slice sl_list (pv 4) (po_some (pe_int)) (po_some (pe_int))) pa_nil)) (pe_tup (pa_cons (pe_call G_l_plain hr (by rfl) T.g_l_plain T.F_l_plain.kp T.b_l_plain .nil pass0 (pa_cons (pe_ix (r := rIxL K) ix_list (pv 4) (pe_int) (fun _ _ => rfl)) pa_nil)) pa_nil))) pa_nil))))
          (pss_one (ps_if (pt_cmpR op_eq (pe_ix (r := rIxL K) ix_list (pv 4) (pe_int) (fun _ _ => rfl)) (pe_str) (nomark _))
            (pss_one (ps_expr (pe_bm PySem.F.plainAttrs_list PySem.F.slot_list_append PySem.F.type_list_append mt_append (pe_dget (hu_of hr) (pv 1) (pe_str) (fun _ _ => rfl)) (pa_cons (pe_callTy (r := rTupOf K) call_tuple_of (by rfl) T.z_tuple (by decide +kernel) (pa_cons (pe_slice sl_list (pv 4) (po_some (pe_int)) po_none) pa_nil)) pa_nil))))
            (pss_one (ps_expr (pe_bm PySem.F.plainAttrs_list PySem.F.slot_list_append PySem.F.type_list_append mt_append (pe_dget (hu_of hr) (pv 1) (pe_str) (fun _ _ => rfl)) (pa_cons (pe_tup (pa_cons (pe_ix (r := rIxL K) ix_list (pv 4) (pe_int) (fun _ _ => rfl)) (pa_cons (pe_callTy (r := rTupOf K) call_tuple_of (by rfl) T.z_tuple (by decide +kernel) (pa_cons (pe_slice sl_list (pv 4) (po_some (pe_int)) po_none) pa_nil)) pa_nil))) pa_nil))))))))))))))
    (pss_cons (ps_set (i := 5) sc_l_read.nd rfl (.inl rfl) (pe_callTy (r := rTupOf K) call_tuple_of (by rfl) T.z_tuple (by decide +kernel) (pa_cons (pe_lc (own := [("_law_kind", 6)]) (g := gName 6) rfl sc_l_read.nd (pi_tup (pe_tup (pa_cons (pe_str) (pa_cons (pe_str) (pa_cons (pe_str) (pa_cons (pe_str) pa_nil)))))) (blkOk_by (N := N_l_read) (sc := defScope s_l_read) (by decide +kernel)) (fun _ _ _ _ _ => (pg_name (i := 6) sc_l_read.nd rfl (.inl rfl))) (fun _ _ _ _ _ => pts_nil) (fun _ _ _ _ _ => (pe_callTy (r := rTupOf K) call_tuple_of (by rfl) T.z_tuple (by decide +kernel) (pa_cons (pe_dget (hu_of hr) (pv 1) (pv 6) (fun _ _ => rfl)) pa_nil)))) pa_nil)))
    (pss_one (ps_ret (pe_ifExp (PW.pt (pw_and (pt_val (pe_call G_is_net hr (by rfl) T.g_is_net T.F_is_net.kp T.b_is_net .nil pass0 (pa_cons (pv 5) pa_nil))) (pw_and1 (pt_cmpR op_eq (pe_call G_l_net_text hr (by rfl) T.g_l_net_text T.F_l_net_text.kp T.b_l_net_text .nil pass0 (pa_cons (pv 5) pa_nil)) (pv 0) (nomark _))))) (pv 5) (pe_non))))))))
      , ?_⟩
    have zs : z.length + 2 ≤ sizeLine := by have := hz.b.len; rw [sizeLine_eq]; omega
    -- the lists
    refine fun D nD => ⟨Nat.zero_le _, fun a na => ⟨Nat.zero_le _, fun b nb => ⟨Nat.zero_le _, fun c nc => ⟨Nat.zero_le _, fun d nd => ?_⟩⟩⟩⟩
    have sa := same_upd (o := .lst []) na
    have sb := same_upd (o := .lst []) nb
    have sc := same_upd (o := .lst []) nc
    have sd := same_upd (o := .lst []) nd
    have sD := same_upd (o := .dK []) nD
    have eD := (((sa.trans sb).trans sc).trans sd) D _ (upd_same : (upd H D (.dK [])) D = _)
    have ea := ((sb.trans sc).trans sd) a _ (upd_same : (upd (upd H D (.dK [])) a (.lst [])) a = _)
    have eb := (sc.trans sd) b _ (upd_same : (upd (upd (upd H D (.dK [])) a (.lst [])) b (.lst [])) b = _)
    have ec := sd c _ (upd_same : (upd (upd (upd (upd H D (.dK [])) a (.lst [])) b (.lst [])) c (.lst [])) c = _)
    have ed : (upd (upd (upd (upd (upd H D (.dK [])) a (.lst [])) b (.lst [])) c (.lst [])) d (.lst [])) d = some (.lst []) := upd_same
    have na0 := up0 sD na
    have nb0 := up0 (sD.trans sa) nb
    have nc0 := up0 ((sD.trans sa).trans sb) nc
    have nd0 := up0 (((sD.trans sa).trans sb).trans sc) nd
    have xab : a ≠ b := fun e => by rw [← e] at nb; exact absurd ((upd_same : (upd (upd H D (.dK [])) a (.lst [])) a = _).symm.trans nb) (by simp)
    have xac : a ≠ c := fun e => by rw [← e] at nc; exact absurd ((sb a _ upd_same).symm.trans nc) (by simp)
    have xad : a ≠ d := fun e => by rw [← e] at nd; exact absurd (((sb.trans sc) a _ upd_same).symm.trans nd) (by simp)
    have xbc : b ≠ c := fun e => by rw [← e] at nc; exact absurd ((upd_same : (upd (upd (upd H D (.dK [])) a (.lst [])) b (.lst [])) b = _).symm.trans nc) (by simp)
    have xbd : b ≠ d := fun e => by rw [← e] at nd; exact absurd ((sc b _ upd_same).symm.trans nd) (by simp)
    have xcd : c ≠ d := fun e => by rw [← e] at nd; exact absurd ((upd_same : (upd (upd (upd (upd H D (.dK [])) a (.lst [])) b (.lst [])) c (.lst [])) c = _).symm.trans nd) (by simp)
    have s5 := (((sD.trans sa).trans sb).trans sc).trans sd
    generalize upd (upd (upd (upd (upd H D (.dK [])) a (.lst [])) b (.lst [])) c (.lst [])) d (.lst []) = H5 at eD ea eb ec ed s5 ⊢
    clear sa sb sc sd sD na nb nc nd
    refine ⟨eD, disK (.ref a) (.ref b) (.ref c) (.ref d), rfl, by show 4 ≤ 15; decide, ?_⟩
    have xl : ∀ {y : Addr} {xs : List V}, H5 y = some (.lst xs) → y ≠ D := fun e z => by rw [z, eD] at e; cases e
    have fa : FoAt H (upd H5 D (.dK (disK (.ref a) (.ref b) (.ref c) (.ref d)))) D Fo.nil := fo_start upd_same (by rw [upd_ne (xl ea)]; exact ea) (by rw [upd_ne (xl eb)]; exact eb) (by rw [upd_ne (xl ec)]; exact ec) (by rw [upd_ne (xl ed)]; exact ed) na0 nb0 nc0 nd0 xab xac xad xbc xbd xcd
    have s6 : Same H (upd H5 D (.dK (disK (.ref a) (.ref b) (.ref c) (.ref d)))) := same_set s5 nD
    show gName 1 _ _ (upd H5 D (.dK (disK (.ref a) (.ref b) (.ref c) (.ref d)))) _
    generalize upd H5 D (.dK (disK (.ref a) (.ref b) (.ref c) (.ref d))) = H6 at fa s6 ⊢
    clear eD ea eb ec ed xl na0 nb0 nc0 nd0 xab xac xad xbc xbd xcd s5
    -- the least lengths
    refine fun L nL => ⟨upd_same, leastK, rfl, by show 4 ≤ 15; decide, ?_⟩
    show gName 2 _ _ (upd (upd H6 L (.dK [])) L (.dK leastK)) _
    have s7 : Same H6 (upd (upd H6 L (.dK [])) L (.dK leastK)) := same_set (same_upd nL) nL
    have eL : (upd (upd H6 L (.dK [])) L (.dK leastK)) L = some (.dK leastK) := upd_same
    have fb : FoAt (upd H L (.dK [])) (upd (upd H6 L (.dK [])) L (.dK leastK)) D Fo.nil := (fa.off nL (.dK [])).same s7
    have sH := s6.trans s7
    generalize upd (upd H6 L (.dK [])) L (.dK leastK) = H7 at s7 eL fb sH ⊢
    clear fa s6 s7 nL
    -- the rows
    refine ⟨.str z, rfl, rfl, z, "\n", rfl, rfl, by decide +kernel, zs, fun R nR => ?_⟩
    have pt := part_of 10 z
    rw [← nl_S] at pt
    have sR := same_upd (o := .lst ((Txt.split z "\n").map V.str)) nR
    have eR : upd H7 R (.lst ((Txt.split z "\n").map V.str)) R = some (.lst ((Txt.split z "\n").map V.str)) := upd_same
    have s8 := sH.trans sR
    have fc := (fb.off nR (.lst [])).same sR
    have eL8 := sR _ _ eL
    have q1 : ∀ f, runR rowLw (Txt.split z "\n") Fo.nil = some f → netL z = some f.d := fun f e => by
      show (runR rowLw (Txt.split z "\n") Fo.nil).map Fo.d = _
      rw [e]
      rfl
    have q2 : runR rowLw (Txt.split z "\n") Fo.nil = none → netL z = none := fun e => by
      show (runR rowLw (Txt.split z "\n") Fo.nil).map Fo.d = _
      rw [e]
      rfl
    have rl := (pt.wsb hz.b).len
    have rows : ∀ r ∈ Txt.split z "\n", TxB r 4000 := fun r hr => (hz.row pt hr).1
    clear zs fb sH eL
    generalize upd H7 R (.lst ((Txt.split z "\n").map V.str)) = H8 at eR s8 fc eL8
    generalize Txt.split z "\n" = rs at eR q1 q2 rl rows
    have rlen : (rs.map V.str).length = rs.length := List.length_map _
    refine ⟨R, rfl, ⟨_, SqL.of eR⟩, ?_⟩
    refine for_it (walk_list (xs := rs.map V.str)) (fun i σ Hx => ∃ (y3 y4 : Option V) (f : Fo), σ = [some (.str z), some (.ref D), some (.ref L), y3, y4, none, none] ∧ Same H Hx ∧ Hx R = some (.lst (rs.map V.str)) ∧ Hx L = some (.dK leastK) ∧ FoAt (upd (upd H L (.dK [])) R (.lst [])) Hx D f ∧ FoOk f i ∧ runR rowLw (rs.drop i) f = runR rowLw rs Fo.nil) ⟨none, none, Fo.nil, rfl, s8, eR, eL8, fc, .nil, rfl⟩ (fun i σ Hx _ hp => ?_) (fun i v σ Hx₀ Hx hi hp yy => ?_) (fun σ Hx hp => ?_)
    · obtain ⟨_, _, _, _, _, e, _⟩ := hp
      exact SqL.of e
    · obtain ⟨rfl, ex⟩ := yy
      obtain ⟨y3, y4, f, rfl, sx, eRx, eLx, hf, ok, run⟩ := hp
      rw [List.getElem?_map] at ex
      obtain ⟨r, er, rfl⟩ := Option.map_eq_some_iff.mp ex
      have hr' := rows r (List.mem_of_getElem? er)
      have hi : i < rs.length := (List.getElem?_eq_some_iff.mp er).1
      have dr : rs.drop i = r :: rs.drop (i + 1) := by rw [List.drop_eq_getElem_cons hi, (List.getElem?_eq_some_iff.mp er).2]
      rw [dr] at run
      have run : (match rowLw r with | none => none | some (k, d) => runR rowLw (rs.drop (i + 1)) (f.add k d)) = runR rowLw rs Fo.nil := run
      refine ⟨.str r, rfl, rfl, r, " ", rfl, rfl, by decide +kernel, by have := hr'.len; rw [sizeLine_eq]; omega, fun p np => ?_⟩
      have pw := part_of 32 r
      rw [← sp_S] at pw
      have sp := same_upd (o := .lst ((Txt.split r " ").map V.str)) np
      have e1 : upd Hx p (.lst ((Txt.split r " ").map V.str)) p = some (.lst ((Txt.split r " ").map V.str)) := upd_same
      have wb := pw.wsb hr'
      have wne := pw.ne
      have erow : rowLw r = lawW (Txt.split r " ") := rfl
      rw [erow] at run
      have sx1 := sx.trans sp
      have eR1 := sp _ _ eRx
      have eL1 := sp _ _ eLx
      have hf1 := hf.same sp
      clear pw erow hf sx eRx eLx
      generalize upd Hx p (.lst ((Txt.split r " ").map V.str)) = H1 at e1 sp sx1 eR1 eL1 hf1 ⊢
      generalize Txt.split r " " = ws at e1 run wb wne
      obtain ⟨kd, rest, rfl⟩ : ∃ kd rest, ws = kd :: rest := by
        cases ws with
        | nil => exact absurd rfl wne
        | cons a b => exact ⟨a, b, rfl⟩
      have qn : lawW (kd :: rest) = none → ∀ Hy, Same H1 Hy → Q .non Hy := fun e Hy sy => by
        rw [e] at run
        have := q Hy .non (sx1.trans sy)
        rw [q2 run.symm] at this
        exact this .non .non
      have hl : lawW (kd :: rest) = if kd ∈ NETK ∧ leastN kd ≤ rest.length ∧ (kd = ("junction" : Str) ∨ rest.length = leastN kd) then some (kd, lawD kd rest) else none := rfl
      have w0 : SqL K H1 p ((kd :: rest).map V.str) := SqL.of e1
      have at0 : atI ((kd :: rest).map V.str) 0 = some (.str kd) := atI_nat (j := 0) rfl
      have ssz : (((kd :: rest).map V.str).length : Int) = ((rest.length + 1 : Nat) : Int) := by rw [List.length_map]; rfl
      refine ⟨.ref p, rfl, p, _, 0, .str kd, rfl, rfl, w0, at0, .ref D, rfl, D, ?_⟩
      by_cases hk : kd ∈ NETK
      rotate_left
      · exact ⟨none, rfl, hf1.no hk, true, rfl, iteT (qn (by rw [hl, if_neg fun z => hk z.1]) _ fun _ _ e => e)⟩
      obtain ⟨a, dg, a0, put⟩ := hf1.put ok hk
      have dl : DGet H1 L (.str kd) (some (.int ((leastN kd + 1 : Nat) : Int))) := by
        have := DGet.k (k := Sum.inr kd) eL1
        rw [leastK_at hk] at this
        exact this
      refine ⟨some (.ref a), rfl, dg, false, rfl, iteF ?_⟩
      have ln0 : ((kd :: rest).map V.str).length = rest.length + 1 := List.length_map _
      refine ⟨.ref p, rfl, p, _, rfl, .inl w0, .ref L, rfl, .ref p, rfl, p, _, 0, .str kd, rfl, rfl, w0, at0, L, _, rfl, dl, _, _, rfl, rfl, _, rfl, ite2 (fun c => ?_) fun c => ?_⟩
      · have c := of_decide_eq_true c
        rw [ln0] at c
        exact qn (by rw [hl, if_neg fun z => by omega]) _ fun _ _ e => e
      have c1 : leastN kd ≤ rest.length := by
        rw [ln0] at c
        exact Decidable.byContradiction fun n => c (decide_eq_true (by omega))
      clear c
      have stp : rest.length ≤ 4000 := by
        have := wb.len
        rw [List.length_cons] at this
        omega
      have sok : StrsOk rest := fun x hx => ⟨wb.ok x (List.mem_cons_of_mem _ hx), by have := (wb.mem (List.mem_cons_of_mem _ hx)).len; omega⟩
      have lw := lw_lawD (kd := kd) sok
      have go : (kd = ("junction" : Str) ∨ rest.length = leastN kd) → (lawW (kd :: rest) = some (kd, lawD kd rest)) ∧ ∀ {Hy : Hp} {t : V}, Same H1 Hy → Dt SA Hy t (lawD kd rest) → ∃ xs, Hy a = some (.lst xs) ∧ xs.length < sizeLine ∧ ∃ (y3 y4 : Option V) (f : Fo), [some (.str z), some (.ref D), some (.ref L), some (.str r), some (.ref p), none, none] = [some (.str z), some (.ref D), some (.ref L), y3, y4, none, none] ∧ Same H (upd Hy a (.lst (xs ++ [t]))) ∧ (upd Hy a (.lst (xs ++ [t]))) R = some (.lst (rs.map V.str)) ∧ (upd Hy a (.lst (xs ++ [t]))) L = some (.dK leastK) ∧ FoAt (upd (upd H L (.dK [])) R (.lst [])) (upd Hy a (.lst (xs ++ [t]))) D f ∧ FoOk f (i + 1) ∧ runR rowLw (rs.drop (i + 1)) f = runR rowLw rs Fo.nil := fun c2 => by
        have e : lawW (kd :: rest) = some (kd, lawD kd rest) := by rw [hl, if_pos ⟨hk, c1, c2⟩]
        rw [e] at run
        refine ⟨e, fun {Hy t} sy ht => ?_⟩
        obtain ⟨xs, exs, xl, hput⟩ := put Hy sy
        obtain ⟨naR, a1⟩ := off_none a0
        obtain ⟨naL, a2⟩ := off_none a1
        exact ⟨xs, exs, small5000 (by omega), _, _, f.add kd (lawD kd rest), rfl, same_set (sx1.trans sy) a2, by rw [upd_ne naR.symm]; exact sy _ _ eR1, by rw [upd_ne naL.symm]; exact sy _ _ eL1, hput _ _ ht lw, ok.add hk lw, run⟩
      obtain ⟨xs0, exs0, _⟩ := put H1 fun _ _ e => e
      have tyA : tyV K "list" (.ref a) H1 := .inl ⟨rfl, xs0, SqL.of exs0⟩
      -- the length
      refine ⟨.ref p, rfl, p, _, 0, .str kd, rfl, rfl, w0, at0, rfl, _, rfl, ite2 (fun c => ?_) fun c => ?_⟩
      · have nj : kd ≠ ("junction" : Str) := fun z => by rw [z] at c; exact absurd c (by decide +kernel)
        refine ⟨.ref p, rfl, p, _, rfl, .inl w0, .ref L, rfl, .ref p, rfl, p, _, 0, .str kd, rfl, rfl, w0, at0, L, _, rfl, dl, rfl, _, rfl, ite2 (fun c => ?_) fun c => ?_⟩
        · have c : (!decide (V.int (((kd :: rest).map V.str).length : Int) = V.int ((leastN kd + 1 : Nat) : Int))) = true := c
          refine qn ?_ _ fun _ _ e => e
          rw [hl, if_neg]
          rintro ⟨_, _, z⟩
          rw [ln0, z.resolve_left nj] at c
          simp at c
        · have c2 : rest.length = leastN kd := by
            have c : (!decide (V.int (((kd :: rest).map V.str).length : Int) = V.int ((leastN kd + 1 : Nat) : Int))) = false := by simpa using c
            have c : V.int (((kd :: rest).map V.str).length : Int) = V.int ((leastN kd + 1 : Nat) : Int) := by simpa using c
            injection c with c
            rw [ln0] at c
            omega
          obtain ⟨_, fin⟩ := go (.inr c2)
          clear go put
          have nine : ∀ {c : Str}, (¬ decide (V.str kd = V.str c) = true) → kd ≠ c := fun h z => h (decide_eq_true (by rw [z]))
          refine ⟨.ref p, rfl, p, _, 0, .str kd, rfl, rfl, w0, at0, rfl, _, rfl, ite2 (fun c => ?_) fun c => ?_⟩
          · have er : kd = ("line" : Str) := by injection of_decide_eq_true c
            subst er
            rw [leastL] at c2
            match rest, c2 with
            | [x], _ =>
              obtain ⟨xs, exs, xsz, st⟩ := fin (t := .str x) (fun _ _ e => e) (.str x)
              exact ⟨.ref D, rfl, D, .ref a, rfl, dg, .inl ⟨rfl, xs, SqL.of exs⟩, .ref p, rfl, p, _, 1, .str x, rfl, rfl, w0, atI_nat (j := 1) rfl, a, xs, _, rfl, rfl, exs, xsz, st⟩
          have n1 := nine c
          refine ⟨.ref p, rfl, p, _, 0, .str kd, rfl, rfl, w0, at0, rfl, _, rfl, ite2 (fun c => ?_) fun c => ?_⟩
          · have er : kd = ("tie" : Str) := by injection of_decide_eq_true c
            subst er
            rw [leastT] at c2
            match rest, c2 with
            | [x1, x2, x3, n], _ =>
              refine ⟨.ref D, rfl, D, .ref a, rfl, dg, tyA, .ref p, rfl, 1, rfl, 4, rfl, p, _, rfl, w0, fun l1 nl1 => ?_⟩
              rw [show cutV ((("tie" : Str) :: [x1, x2, x3, n]).map V.str) (some (1 : Int)) (some (4 : Int)) = [V.str x1, .str x2, .str x3] from rfl]
              have s1 := same_upd (o := .lst [V.str x1, .str x2, .str x3]) nl1
              refine ⟨l1, _, rfl, .inl ⟨SqL.of upd_same, fun u nu => ?_⟩⟩
              have su := s1.trans (same_upd (o := .tup [V.str x1, .str x2, .str x3]) nu)
              have eu : upd (upd H1 l1 (.lst [V.str x1, .str x2, .str x3])) u (.tup [V.str x1, .str x2, .str x3]) u = some (.tup [V.str x1, .str x2, .str x3]) := upd_same
              generalize upd (upd H1 l1 (.lst [V.str x1, .str x2, .str x3])) u (.tup [V.str x1, .str x2, .str x3]) = H2 at su eu ⊢
              refine ⟨.ref p, rfl, p, _, 4, .str n, rfl, rfl, SqL.of (su _ _ e1), atI_nat (j := 4) rfl, n, rfl, (sok n (by simp)).2, fun H3 s3 => ⟨one_sz, fun v nv => ?_⟩⟩
              have sv := same_upd (o := .tup [plV n]) nv
              refine ⟨u, v, _, _, rfl, rfl, SqT.of (sv _ _ (s3 _ _ eu)), SqT.of upd_same, by simp, by show 3 + 1 ≤ sizeLine; rw [sizeLine_eq]; decide, fun e => (by cases e), fun _ w' nw => ?_⟩
              have sw := same_upd (o := .tup ([V.str x1, .str x2, .str x3] ++ [plV n])) nw
              have s1w := ((su.trans s3).trans sv).trans sw
              have dn : Dt SA (upd (upd H3 v (.tup [plV n])) w' (.tup ([V.str x1, .str x2, .str x3] ++ [plV n]))) (plV n) (plD n) := by
                unfold plV plD
                split
                · exact .int _
                · exact .non
              obtain ⟨xs, exs, xsz, st⟩ := fin (t := .ref w') s1w (.tup trivial upd_same (by show 4 ≤ 5000; decide) (.cons (.str _) (.cons (.str _) (.cons (.str _) (.cons dn .nil)))))
              exact ⟨a, xs, _, rfl, rfl, exs, xsz, st⟩
          have n2 := nine c
          refine ⟨.ref p, rfl, p, _, 0, .str kd, rfl, rfl, w0, at0, rfl, _, rfl, ite2 (fun c => ?_) fun c => ?_⟩
          · have er : kd = ("station" : Str) := by injection of_decide_eq_true c
            subst er
            refine ⟨.ref D, rfl, D, .ref a, rfl, dg, tyA, .ref p, rfl, 1, rfl, p, _, rfl, w0, fun l1 nl1 => ?_⟩
            rw [show cutV ((("station" : Str) :: rest).map V.str) (some (1 : Int)) none = rest.map V.str from cut_dropH _ 1]
            have s1 := same_upd (o := .lst (rest.map V.str)) nl1
            refine ⟨l1, _, rfl, .inl ⟨SqL.of upd_same, fun u nu => ?_⟩⟩
            have su := s1.trans (same_upd (o := .tup (rest.map V.str)) nu)
            obtain ⟨xs, exs, xsz, st⟩ := fin (t := .ref u) su (.tup trivial upd_same (by rw [List.length_map]; omega) (dtAll_strs _))
            exact ⟨a, xs, _, rfl, rfl, exs, xsz, st⟩
          have n3 := nine c
          rcases netk_cases hk with e | e | e | e
          · exact absurd e n1
          · exact absurd e n3
          · exact absurd e nj
          · exact absurd e n2
      · have ej : kd = ("junction" : Str) := by
          have c : (!decide (V.str kd = V.str ("junction" : Str))) = false := by simpa using c
          have c : V.str kd = V.str ("junction" : Str) := by simpa using c
          injection c
        obtain ⟨_, fin⟩ := go (.inl ej)
        clear go put
        subst ej
        refine ⟨.ref p, rfl, p, _, 0, .str "junction", rfl, rfl, w0, at0, rfl, _, rfl, ite2 (fun c => absurd c (by decide +kernel)) fun _ => ?_⟩
        refine ⟨.ref p, rfl, p, _, 0, .str "junction", rfl, rfl, w0, at0, rfl, _, rfl, ite2 (fun c => absurd c (by decide +kernel)) fun _ => ?_⟩
        refine ⟨.ref p, rfl, p, _, 0, .str "junction", rfl, rfl, w0, at0, rfl, _, rfl, ite2 (fun c => absurd c (by decide +kernel)) fun _ => ?_⟩
        have c1 : 2 ≤ rest.length := c1
        obtain ⟨x, r2, rfl⟩ : ∃ x r2, rest = x :: r2 := by
          cases rest with
          | nil => simp at c1
          | cons a b => exact ⟨a, b, rfl⟩
        refine ⟨.ref D, rfl, D, .ref a, rfl, dg, tyA, .ref p, rfl, p, _, 1, .str x, rfl, rfl, w0, atI_nat (j := 1) rfl, .ref p, rfl, 2, rfl, p, _, rfl, w0, fun l1 nl1 => ?_⟩
        rw [show cutV ((("junction" : Str) :: x :: r2).map V.str) (some (2 : Int)) none = r2.map V.str from cut_dropH _ 2]
        have s1 := same_upd (o := .lst (r2.map V.str)) nl1
        refine ⟨l1, _, rfl, .inl ⟨SqL.of upd_same, fun u nu => ⟨two_sz, fun t nt => ?_⟩⟩⟩
        have su := s1.trans (same_upd (o := .tup (r2.map V.str)) nu)
        have st := same_upd (o := .tup [V.str x, V.ref u]) nt
        obtain ⟨xs, exs, xsz, stt⟩ := fin (t := .ref t) (su.trans st) (.tup trivial upd_same (by show 2 ≤ 5000; decide) (.cons (.str _) (.cons (.tup trivial (st _ _ upd_same) (by rw [List.length_map]; rw [List.length_cons] at stp; omega) (dtAll_strs _)) .nil)))
        exact ⟨a, xs, _, rfl, rfl, exs, xsz, stt⟩
    · obtain ⟨y3, y4, f, rfl, sx, eRx, eLx, hf, ok, run⟩ := hp
      rw [rlen, List.drop_length] at run
      have run : some f = runR rowLw rs Fo.nil := run
      rw [rlen] at ok
      have n5 : rs.length ≤ 5000 := by omega
      have tu : ∀ i, tuAll ((NETK.take i).map fun z => PyData.tuple (f.get z)) = true := fun i => tuAll_iff.mpr fun d hd => by
        obtain ⟨z, hz, rfl⟩ := List.mem_map.mp hd
        exact (LwD.tup (ok.lw z (List.mem_of_mem_take hz))).tu
      refine ⟨by show 4 ≤ sizeLine; rw [sizeLine_eq]; decide, fun t0 nt0 => ?_⟩
      have s0 := same_upd (o := .tup [V.str "line", .str "station", .str "junction", .str "tie"]) nt0
      have e0 : upd Hx t0 (.tup [V.str "line", .str "station", .str "junction", .str "tie"]) t0 = some (.tup (NETK.map V.str)) := upd_same
      have hf0 := hf.same s0
      have sx0 := sx.trans s0
      generalize upd Hx t0 (.tup [V.str "line", .str "station", .str "junction", .str "tie"]) = H1 at s0 e0 hf0 sx0 ⊢
      refine ⟨t0, rfl, ⟨_, SqT.of e0⟩, fun C nC => ?_⟩
      refine lc_it (walk_tup (xs := NETK.map V.str)) (fun i Hy => Same H1 Hy ∧ ∃ xs, Hy C = some (.lst xs) ∧ xs.length ≤ i ∧ DtAll SA Hy xs ((NETK.take i).map fun z => .tuple (f.get z))) ⟨same_upd nC, [], upd_same, Nat.le_refl _, .nil⟩ (fun i Hy _ pv => SqT.of (pv.1 _ _ e0)) (fun i v Hy₀ Hy hi pv yy => ?_) (fun Hy pv => ?_)
      · obtain ⟨rfl, ex⟩ := yy
        obtain ⟨sy, xs, eC, xl, hx⟩ := pv
        rw [List.getElem?_map] at ex
        obtain ⟨y, ey, rfl⟩ := Option.map_eq_some_iff.mp ex
        have hy : y ∈ NETK := List.mem_of_getElem? ey
        have tk1 : NETK.take (i + 1) = NETK.take i ++ [y] := by rw [List.take_add_one, ey]; rfl
        have hi : i < 4 := hi
        obtain ⟨a, ys, dg, ea, ha⟩ := (hf0.same sy).yes hy
        refine ⟨rfl, yes_ ⟨.ref D, rfl, .str y, rfl, D, .ref a, rfl, dg, a, ys, rfl, .inl ⟨SqL.of ea, fun u nu => ?_⟩⟩⟩
        have su := same_upd (o := .tup ys) nu
        have eC2 := su _ _ eC
        have yl : ys.length ≤ 5000 := by
          have := dpAll_len (ha.dp (K := []))
          have := ok.n y hy
          omega
        refine ⟨xs, eC2, small5000 (by omega), same_set (sy.trans su) nC, _, upd_same, by rw [List.length_append]; show _ + 1 ≤ _; omega, ?_⟩
        have k := tup_upd (o := .lst (xs ++ [V.ref u])) eC2
        rw [tk1, List.map_append]
        exact dtAll_app ((hx.same su).tu k (tu i)) (.cons (.tup trivial (k _ _ upd_same) yl ((ha.same su).tu k (tuAll_iff.mpr fun d hd => (ok.lw y hy d hd).tu))) .nil)
      obtain ⟨sy, xs, eC, xl, hx⟩ := pv
      rw [List.length_map, List.take_length] at hx
      have xl : xs.length ≤ 4 := xl
      refine ⟨C, xs, rfl, .inl ⟨SqL.of eC, fun u nu => ?_⟩⟩
      have su := same_upd (o := .tup xs) nu
      have hv : Dt SA (upd Hy u (.tup xs)) (.ref u) f.d := by
        rw [fo_d]
        exact .tup trivial upd_same (by omega) (hx.same su)
      have s2 := (sx0.trans sy).trans su
      have lw := ok.d
      have hn := q1 f run.symm
      have rd : keepN z (netL z) = if netB f.d = true ∧ netX f.d = z then some f.d else none := by rw [hn]; rfl
      clear hx eC xl run q1 q2
      generalize upd Hy u (.tup xs) = H2 at hv s2 ⊢
      generalize f.d = nd at hv lw rd
      refine ⟨.ref u, rfl, .ref u, nd, rfl, hv.df, lw.tb, lw.shaped (by decide), fun H3 s3 => ⟨_, rfl, ?_⟩⟩
      have qN : ¬ (netB nd = true ∧ netX nd = z) → ∀ H', Same H H' → Q .non H' := fun h H' s' => by
        have := q H' .non s'
        rw [rd, if_neg h] at this
        exact this .non .non
      cases cb : netB nd with
      | false => exact iteF (qN (fun h => by rw [cb] at h; cases h.1) _ (s2.trans s3))
      | true =>
        obtain ⟨ls, sts, jns, tis, rfl, nok⟩ := net_inv cb
        obtain ⟨r, er, nt⟩ := df_ntf (hv.df.same s3)
        refine iteT ⟨.ref u, rfl, r, ls, sts, jns, tis, by rw [← er]; rfl, nt, nok, fun H4 s4 => ?_⟩
        have s24 := (s2.trans s3).trans s4
        refine ⟨.str z, rfl, rfl, _, rfl, ite2 (fun c => ?_) fun c => ?_⟩
        · have e : netT (rowsV ls sts jns tis) = z := by injection of_decide_eq_true c
          have rd : (keepN z (netL z)).getD .none = netD ls sts jns tis := by rw [rd, if_pos ⟨cb, by rw [netX_of]; exact e⟩]; rfl
          rw [rd] at q
          exact ⟨.ref u, rfl, q _ _ s24 (hv.same (s3.trans s4)) lw⟩
        · exact qN (fun h => c (decide_eq_true (by rw [← netX_of, h.2]))) _ s24
end
end Th
namespace Th
open PySem PySem.Spec PyProof.Rows L2
theorem cut_pre (z : Str) (a : Nat) : (cutS z none (some (a : Int))).cps.toList = z.cps.toList.take a := by
  show (z.cps.toList.drop (HT.sIx z.length 0 none)).take (HT.sIx z.length z.length (some (a : Int)) - HT.sIx z.length 0 none) = _
  rw [HT.sIx_none, HT.sIx_nat, List.drop_zero, Nat.sub_zero]
  have zl : z.cps.toList.length = z.length := rfl
  by_cases h : a ≤ z.length
  · rw [Nat.min_eq_left h]
  · rw [Nat.min_eq_right (by omega), List.take_of_length_le (by omega), List.take_of_length_le (by omega)]
theorem cut_suf (z : Str) (a : Nat) : (cutS z (some (a : Int)) none).cps.toList = z.cps.toList.drop a := by
  show (z.cps.toList.drop (HT.sIx z.length 0 (some (a : Int)))).take (HT.sIx z.length z.length none - HT.sIx z.length 0 (some (a : Int))) = _
  have zl : z.cps.toList.length = z.length := rfl
  rw [HT.sIx_none, HT.sIx_nat]
  by_cases h : a ≤ z.length
  · rw [Nat.min_eq_left h, List.take_of_length_le (by rw [List.length_drop]; omega)]
  · rw [Nat.min_eq_right (by omega), List.drop_eq_nil_of_le (by omega), List.drop_eq_nil_of_le (show z.cps.toList.length ≤ a by omega), List.take_nil]
theorem TxR.pre {z : Str} {n m : Nat} (h : TxR z n m) (a : Nat) : RunB 10 (cutS z none (some (a : Int))).cps.toList m := h.r.part (x := []) (y := z.cps.toList.drop a) (by rw [cut_pre, List.nil_append, List.take_append_drop])
theorem TxR.suf {z : Str} {n m : Nat} (h : TxR z n m) (a : Nat) : RunB 10 (cutS z (some (a : Int)) none).cps.toList m := h.r.part (x := z.cps.toList.take a) (y := []) (by rw [cut_suf, List.append_nil, List.take_append_drop])
theorem cut_len {z : Str} {a b : Nat} (l : a ≤ b) : (cutS z none (some (a : Int))).length + (cutS z (some (b : Int)) none).length ≤ z.length := by
  have e1 : (cutS z none (some (a : Int))).length = (z.cps.toList.take a).length := congrArg List.length (cut_pre z a)
  have e2 : (cutS z (some (b : Int)) none).length = (z.cps.toList.drop b).length := congrArg List.length (cut_suf z b)
  have zl : z.cps.toList.length = z.length := rfl
  rw [e1, e2, List.length_take, List.length_drop, zl]
  omega
theorem near_cut {z : Str} {n m : Nat} (h : TxR z n m) {a b : Nat} (l : a ≤ b) : TxR (cutS z none (some (a : Int)) ++ cutS z (some (b : Int)) none) n (2 * m) := by
  have c := cut_len (z := z) l
  have hl := h.b.len
  refine ⟨⟨by rw [str_len]; omega, ((h.b.cut none (some (a : Int))).add (h.b.cut (some (b : Int)) none)).ok⟩, ?_⟩
  rw [str_app]
  exact ((h.pre a).app (h.suf b)).mono (by omega)
theorem near_ins {z : Str} {n m c : Nat} (h : TxR z n m) (hc : TxB ⟨#[c]⟩ 1) {a b : Nat} (l : a ≤ b) : TxR (cutS z none (some (a : Int)) ++ (⟨#[c]⟩ : Str) ++ cutS z (some (b : Int)) none) (n + 1) (2 * m + 1) := by
  have cl := cut_len (z := z) l
  have hl := h.b.len
  have c1 : (⟨#[c]⟩ : Str).length = 1 := rfl
  refine ⟨⟨by rw [str_len, str_len, c1]; omega, (((h.b.cut none (some (a : Int))).add hc).add (h.b.cut (some (b : Int)) none)).ok⟩, ?_⟩
  rw [str_app, str_app]
  exact (((h.pre a).app (RunB.len (l := [c]) (Nat.le_refl 1))).app (h.suf b)).mono (by omega)
theorem wsum_setE (z : Str) : ∀ (a : List Str) (i : Nat) {x : Str}, a[i]? = some x → wsum (a.set i z) + x.length = wsum a + z.length
  | [], _, _, h => by cases h
  | y :: a, 0, x, h => by
    have h := Option.some.inj h
    subst h
    rw [List.set_cons_zero, wsum_cons, wsum_cons]
    omega
  | y :: a, i + 1, x, h => by
    rw [List.set_cons_succ, wsum_cons, wsum_cons]
    have := wsum_setE z a i (x := x) h
    omega
theorem wsum_swap {a : List Str} {i j : Nat} {x y : Str} (hi : a[i]? = some x) (hj : a[j]? = some y) : wsum ((a.set i y).set j x) = wsum a := by
  have h1 := wsum_setE y a i hi
  have e : (a.set i y)[j]? = some y := by
    rw [List.getElem?_set]
    split
    · rename_i q
      rw [if_pos (by have := (List.getElem?_eq_some_iff.mp hi).1; omega)]
    · exact hj
  have h2 := wsum_setE x (a.set i y) j e
  omega
theorem wsum_cut (a : List Str) {i j : Nat} (l : i ≤ j) : wsum (a.take i) + wsum (a.drop j) ≤ wsum a := by
  have e := wsum_app (a.take i) (a.drop i)
  rw [List.take_append_drop] at e
  have e2 := wsum_app ((a.drop i).take (j - i)) ((a.drop i).drop (j - i))
  rw [List.take_append_drop, List.drop_drop, show i + (j - i) = j by omega] at e2
  omega
theorem cut_preV (ws : List Str) (a : Nat) : cutV (ws.map V.str) none (some (a : Int)) = (ws.take a).map V.str := by
  unfold cutV
  rw [HT.sIx_none, HT.sIx_nat, List.drop_zero, Nat.sub_zero, List.map_take, List.length_map]
  by_cases h : a ≤ ws.length
  · rw [Nat.min_eq_left h]
  · rw [Nat.min_eq_right (by omega), List.take_of_length_le (by rw [List.length_map]; omega), List.take_of_length_le (by rw [List.length_map]; omega)]
theorem cut_sufV (ws : List Str) (a : Nat) : cutV (ws.map V.str) (some (a : Int)) none = (ws.drop a).map V.str := by
  rw [cut_dropH, List.map_drop]
theorem cut_oneV {ws : List Str} {a : Nat} {x : Str} (h : ws[a]? = some x) : cutV (ws.map V.str) (some (a : Int)) (some ((a : Int) + 1)) = [x].map V.str := by
  have l := (List.getElem?_eq_some_iff.mp h).1
  unfold cutV
  rw [show ((a : Int) + 1) = ((a + 1 : Nat) : Int) by omega, HT.sIx_nat, HT.sIx_nat, List.length_map, Nat.min_eq_left (by omega), Nat.min_eq_left (by omega), show a + 1 - a = 1 by omega, ← List.map_drop, ← List.map_take]
  rw [List.drop_eq_getElem_cons l, (List.getElem?_eq_some_iff.mp h).2]
  rfl
def nearW : List Str := ["line", "tie", "00", "07", "10000", "9999", "a", ""]
def nearV : List Str := ["1_0", "+1"]
theorem near_tx {x : Str} {m : Nat} (hm : 10 ≤ m) (hx : TxB x m) : ∀ z ∈ nearW ++ [x] ++ nearV, TxB z m := fun z h => by
  have c : ∀ z ∈ nearW ++ nearV, z.length ≤ 10 ∧ PyData.strOk z = true := by decide +kernel
  rcases List.mem_append.mp h with h | h
  · rcases List.mem_append.mp h with h | h
    · obtain ⟨a, b⟩ := c z (List.mem_append_left _ h)
      exact ⟨by omega, b⟩
    · rw [List.mem_singleton.mp h]; exact hx
  · obtain ⟨a, b⟩ := c z (List.mem_append_right _ h)
    exact ⟨by omega, b⟩
section
variable {P : Program} {w : World} {K : PySem.W.Frag} {mg : Str → Option Value} {base : Heap} {k : Nat}
def sp_l_near : Sp := fun vs H Q _ => ∃ (p : Addr) (z : Str) (n m : Nat), vs = [.ref p, .str z] ∧ Bag H p ∧ TxR z n m ∧ n ≤ 5000 ∧ m ≤ 5000 ∧ 10 ≤ m ∧ ∀ H' z', Keep p H H' → Bag H' p → TxR z' (n + m + 2) (2 * m + 1) → Q (.str z') H'
set_option maxHeartbeats 8000000 in
theorem ok_l_near (T : Defs K mg) : FnOk P w K mg base CX0 (k + 2) T.a_l_near T.d_l_near ["_law_bag_here", "_law_text"] sp_l_near := by
  have G_l_take : FnOk P w K mg base CX0 (k + 1) _ _ _ _ := ok_l_take (k := k) T
  refine T.F_l_near.ok sc_l_near (fun vs H Q E h => ?_) (fun cdv A outer s H vs Q E hr h => ?_)
  · obtain ⟨p, z, n, m, rfl, _⟩ := h
    rfl
  · obtain ⟨p, z, n, m, rfl, b, hz, n5, m5, m10, q⟩ := h
    refine ⟨_, PSs.nox
(pss_cons (ps_set (i := 2) sc_l_near.nd rfl (.inl rfl) (pe_str))
    (pss_cons (ps_set (i := 2) sc_l_near.nd rfl (.inl rfl) (pe_op op_add_str (pv 2) (pe_str)))
    (pss_cons (ps_par (i := 3) (j := 4) (by rfl) sc_l_near.nd rfl rfl (by decide) rfl rfl (pa_cons (pe_call G_l_take hr (by rfl) T.g_l_take T.F_l_take.kp T.b_l_take .nil pass0 (pa_cons (pv 0) (pa_cons (pe_int) pa_nil))) (pa_cons (pe_call G_l_take hr (by rfl) T.g_l_take T.F_l_take.kp T.b_l_take .nil pass0 (pa_cons (pv 0) (pa_cons (pe_op op_add (pe_callB call_len_str (by rfl) T.z_len (by decide +kernel) (pa_cons (pv 1) pa_nil)) (pe_int)) pa_nil))) pa_nil)) (by rfl))
    (pss_cons (ps_set (i := 5) sc_l_near.nd rfl (.inl rfl) (pe_ix ix_str (pv 2) (pe_call G_l_take hr (by rfl) T.g_l_take T.F_l_take.kp T.b_l_take .nil pass0 (pa_cons (pv 0) (pa_cons (pe_callB call_len_str (by rfl) T.z_len (by decide +kernel) (pa_cons (pv 2) pa_nil)) pa_nil))) (fun _ _ => rfl)))
    (pss_cons (ps_set (i := 6) sc_l_near.nd rfl (.inl rfl) (pe_bm PySem.F.plainAttrs_str PySem.F.slot_str_split PySem.F.type_str_split mt_split (pv 1) (pa_cons (pe_str) pa_nil)))
    (pss_cons (ps_par (i := 7) (j := 8) (by rfl) sc_l_near.nd rfl rfl (by decide) rfl rfl (pa_cons (pe_call G_l_take hr (by rfl) T.g_l_take T.F_l_take.kp T.b_l_take .nil pass0 (pa_cons (pv 0) (pa_cons (pe_callB (r := rLenS K) call_lenS (by rfl) T.z_len (by decide +kernel) (pa_cons (pv 6) pa_nil)) pa_nil))) (pa_cons (pe_call G_l_take hr (by rfl) T.g_l_take T.F_l_take.kp T.b_l_take .nil pass0 (pa_cons (pv 0) (pa_cons (pe_callB (r := rLenS K) call_lenS (by rfl) T.z_len (by decide +kernel) (pa_cons (pv 6) pa_nil)) pa_nil))) pa_nil)) (by rfl))
    (pss_cons (ps_if (pt_cmpR op_eq (pv 3) (pe_int) (nomark _))
      (pss_one (ps_ret (pe_op op_add_str (pe_op op_add_str (pe_slice sl_str (pv 1) po_none (po_some (pv 4))) (pv 5)) (pe_slice sl_str (pv 1) (po_some (pv 4)) po_none))))
      pss_nil)
    (pss_cons (ps_if (pt_cmpR op_eq (pv 3) (pe_int) (nomark _))
      (pss_one (ps_ret (pe_op op_add_str (pe_slice sl_str (pv 1) po_none (po_some (pv 4))) (pe_slice sl_str (pv 1) (po_some (pe_op op_add (pv 4) (pe_int))) po_none))))
      pss_nil)
    (pss_cons (ps_if (pt_cmpR op_eq (pv 3) (pe_int) (nomark _))
      (pss_one (ps_ret (pe_op op_add_str (pe_op op_add_str (pe_slice sl_str (pv 1) po_none (po_some (pv 4))) (pv 5)) (pe_slice sl_str (pv 1) (po_some (pe_op op_add (pv 4) (pe_int))) po_none))))
      pss_nil)
    (pss_cons (ps_if (pt_cmpR op_eq (pv 3) (pe_int) (nomark _))
      (pss_one (ps_ret (pe_join (pe_str) (pe_op op_cat (pe_slice sl_list (pv 6) po_none (po_some (pv 7))) (pe_slice sl_list (pv 6) (po_some (pe_op op_add (pv 7) (pe_int))) po_none)))))
      pss_nil)
    (pss_cons (ps_if (pt_cmpR op_eq (pv 3) (pe_int) (nomark _))
      (pss_one (ps_ret (pe_join (pe_str) (pe_op op_cat (pe_op op_cat (pe_slice sl_list (pv 6) po_none (po_some (pv 7))) (pe_slice sl_list (pv 6) (po_some (pv 7)) (po_some (pe_op op_add (pv 7) (pe_int))))) (pe_slice sl_list (pv 6) (po_some (pv 7)) po_none)))))
      pss_nil)
    (pss_cons (ps_if (pt_cmpR op_eq (pv 3) (pe_int) (nomark _))
      (pss_cons (ps_asg (pe_tup (pa_cons (pe_ix (r := rIxL K) ix_list (pv 6) (pv 8) (fun _ _ => rfl)) (pa_cons (pe_ix (r := rIxL K) ix_list (pv 6) (pv 7) (fun _ _ => rfl)) pa_nil))) (pg_tup rfl (pgs_cons (pg_sub (pv 6) (pv 7) set_list) (pgs_cons (pg_sub (pv 6) (pv 8) set_list) pgs_nil))))
      (pss_one (ps_ret (pe_join (pe_str) (pv 6)))))
      pss_nil)
    (pss_cons (ps_set (i := 9) sc_l_near.nd rfl (.inl rfl) (pe_bm PySem.F.plainAttrs_str PySem.F.slot_str_split PySem.F.type_str_split mt_split (pe_ix (r := rIxL K) ix_list (pv 6) (pv 7) (fun _ _ => rfl)) (pa_cons (pe_str) pa_nil)))
    (pss_cons (ps_set (i := 4) sc_l_near.nd rfl (.inl rfl) (pe_call G_l_take hr (by rfl) T.g_l_take T.F_l_take.kp T.b_l_take .nil pass0 (pa_cons (pv 0) (pa_cons (pe_callB (r := rLenS K) call_lenS (by rfl) T.z_len (by decide +kernel) (pa_cons (pv 9) pa_nil)) pa_nil))))
    (pss_cons (ps_asg (pe_ix (r := rIxL K) ix_list (pe_lst (pa_cons (pe_str) (pa_cons (pe_str) (pa_cons (pe_str) (pa_cons (pe_str) (pa_cons (pe_str) (pa_cons (pe_str) (pa_cons (pe_str) (pa_cons (pe_str) (pa_cons (pe_ix (r := rIxL K) ix_list (pv 9) (pe_un un_neg (pe_int)) (fun _ _ => rfl)) (pa_cons (pe_str) (pa_cons (pe_str) pa_nil)))))))))))) (pe_call G_l_take hr (by rfl) T.g_l_take T.F_l_take.kp T.b_l_take .nil pass0 (pa_cons (pv 0) (pa_cons (pe_int) pa_nil))) (fun _ _ => rfl)) (pg_sub (pv 9) (pv 4) set_list))
    (pss_cons (ps_asg (pe_join (pe_str) (pv 9)) (pg_sub (pv 6) (pv 7) set_list))
    (pss_one (ps_ret (pe_join (pe_str) (pv 6))))))))))))))))))))
      , ?_⟩
    have zl := hz.b.len
    have zs : z.length ≤ sizeLine := by rw [sizeLine_eq]; omega
    refine ⟨_, rfl, _, _, rfl, rfl, by rw [sizeLine_eq]; decide +kernel, ?_⟩
    have hsg : TxB ((" !\"#$&'()*+,-./0123456789:;<=>?@ABCDEFGHIJKLMNOPQRSTUVWXYZ" : Str) ++ ("[\\]^_`abcdefghijklmnopqrstuvwxyz{|}~\n" : Str)) 100 ∧ 0 < ((" !\"#$&'()*+,-./0123456789:;<=>?@ABCDEFGHIJKLMNOPQRSTUVWXYZ" : Str) ++ ("[\\]^_`abcdefghijklmnopqrstuvwxyz{|}~\n" : Str)).length := ⟨⟨by decide +kernel, by decide +kernel⟩, by decide +kernel⟩
    generalize (" !\"#$&'()*+,-./0123456789:;<=>?@ABCDEFGHIJKLMNOPQRSTUVWXYZ" : Str) ++ ("[\\]^_`abcdefghijklmnopqrstuvwxyz{|}~\n" : Str) = sg at hsg ⊢
    obtain ⟨hsg, sg0⟩ := hsg
    have sgs : sg.length ≤ sizeLine := by have := hsg.len; rw [sizeLine_eq]; omega
    refine ⟨.ref p, rfl, p, 7, rfl, b, by decide, by decide, fun H1 wy k1 b1 w0 w1 => ?_⟩
    refine ⟨.ref p, rfl, .str z, rfl, z, rfl, zs, _, _, rfl, rfl, p, _, rfl, b1, by omega, by omega, fun H2 at_ k2 b2 a0 a1 => ⟨_, _, rfl, ?_⟩⟩
    refine ⟨.str sg, rfl, .ref p, rfl, .str sg, rfl, sg, rfl, sgs, p, _, rfl, b2, by omega, by have := hsg.len; omega, fun H3 si k3 b3 s0 s1 => ?_⟩
    obtain ⟨si, rfl⟩ : ∃ xn : Nat, si = (xn : Int) := ⟨si.toNat, by omega⟩
    obtain ⟨at_, rfl⟩ : ∃ xn : Nat, at_ = (xn : Int) := ⟨at_.toNat, by omega⟩
    have sil : si < sg.cps.toList.length := by have : sg.cps.toList.length = sg.length := rfl; omega
    obtain ⟨c, ec⟩ : ∃ c, sg.cps.toList[si]? = some c := ⟨_, List.getElem?_eq_getElem sil⟩
    have hc : TxB ⟨#[c]⟩ 1 := ⟨Nat.le_refl _, ok_all.mp hsg.ok c (List.mem_of_getElem? ec)⟩
    refine ⟨sg, si, c, rfl, rfl, sgs, atI_nat ec, ?_⟩
    have k03 := (k1.trans k2).trans k3
    refine ⟨.str z, rfl, rfl, z, "\n", rfl, rfl, by decide +kernel, by rw [sizeLine_eq]; omega, fun wl nwl => ?_⟩
    have sp := same_upd (o := .lst ((Txt.split z "\n").map V.str)) nwl
    have pt := part_of 10 z
    rw [← nl_S] at pt
    have hws := pt.wsb hz.b
    have hrow := fun r hr => (hz.row pt (p := r) hr).1
    have wne := pt.ne
    clear pt
    generalize Txt.split z "\n" = ws at sp hws wne hrow ⊢
    have wl0 : 1 ≤ ws.length := by
      cases ws with
      | nil => exact absurd rfl wne
      | cons => simp
    have ewl : upd H3 wl (.lst (ws.map V.str)) wl = some (.lst (ws.map V.str)) := upd_same
    have nw0 : H wl = none := k03.free b nwl b3
    have nwp : wl ≠ p := fun e => by rw [e] at nwl; obtain ⟨_, _, e, _⟩ := b3; rw [e] at nwl; cases nwl
    have k04 := k03.trans (.of sp)
    have b4 := b3.keep sp
    generalize upd H3 wl (.lst (ws.map V.str)) = H4 at ewl k04 b4 ⊢
    have wlen : (ws.map V.str).length = ws.length := List.length_map _
    have w1k := hws.len
    refine ⟨.ref p, rfl, .ref wl, rfl, wl, _, rfl, .inl (SqL.of ewl), p, _, rfl, b4, by rw [wlen]; omega, by rw [wlen]; omega, fun H5 kk k5 b5 x0 x1 => ?_⟩
    rw [wlen] at x1
    have ewl5 := k5 _ _ nwp ewl
    refine ⟨.ref p, rfl, .ref wl, rfl, wl, _, rfl, .inl (SqL.of ewl5), p, _, rfl, b5, by rw [wlen]; omega, by rw [wlen]; omega, fun H6 oo k6 b6 y0 y1 => ⟨_, _, rfl, ?_⟩⟩
    rw [wlen] at y1
    have ewl6 := k6 _ _ nwp ewl5
    have k06 := (k04.trans k5).trans k6
    clear ewl ewl5 k5 k6 k04 b4 b5 k1 k2 k3 b1 b2 b3 sp nwl
    have qT : ∀ {z' : Str} {n' m' : Nat}, TxR z' n' m' → n' ≤ n + m + 2 → m' ≤ 2 * m + 1 → ∀ H', Keep p H6 H' → Bag H' p → Q (.str z') H' := fun h l l' H' kx bx => q _ _ (k06.trans kx) bx (h.mono l l')
    have ad : ∀ {x y : Str}, (x ++ y).length ≤ 15000 → x.length + y.length ≤ sizeLine := fun h => by rw [str_len] at h; rw [sizeLine_eq]; omega
    obtain ⟨kn, rfl⟩ : ∃ xn : Nat, kk = (xn : Int) := ⟨kk.toNat, by omega⟩
    obtain ⟨on, rfl⟩ : ∃ xn : Nat, oo = (xn : Int) := ⟨oo.toNat, by omega⟩
    -- put in
    refine ⟨.int wy, rfl, rfl, _, rfl, ite2 (fun _ => ?_) fun _ => ?_⟩
    · have t := near_ins hz hc (Nat.le_refl at_)
      have tl := t.b.len
      have tl2 := tl
      rw [str_len] at tl2
      exact ⟨.str z, rfl, .int at_, rfl, at_, rfl, z, rfl, zs, .str ⟨#[c]⟩, rfl, _, _, rfl, rfl, ad (by omega), .str z, rfl, .int at_, rfl, at_, rfl, z, rfl, zs, _, _, rfl, rfl, ad (by omega), qT t (by omega) (by omega) _ (.refl _ _) b6⟩
    -- left out
    refine ⟨.int wy, rfl, rfl, _, rfl, ite2 (fun _ => ?_) fun _ => ?_⟩
    · have t := near_cut hz (show at_ ≤ at_ + 1 by omega)
      have tl := t.b.len
      exact ⟨.str z, rfl, .int at_, rfl, at_, rfl, z, rfl, zs, .str z, rfl, .int at_, rfl, at_, 1, rfl, rfl, _, rfl, z, rfl, zs, _, _, rfl, rfl, ad (by show (_ ++ cutS z (some ((at_ : Int) + 1)) none).length ≤ _; exact Nat.le_trans tl (by omega)), qT t (by omega) (by omega) _ (.refl _ _) b6⟩
    -- put otherwise
    refine ⟨.int wy, rfl, rfl, _, rfl, ite2 (fun _ => ?_) fun _ => ?_⟩
    · have t := near_ins hz hc (show at_ ≤ at_ + 1 by omega)
      have tl := t.b.len
      have tl2 := tl
      rw [str_len] at tl2
      exact ⟨.str z, rfl, .int at_, rfl, at_, rfl, z, rfl, zs, .str ⟨#[c]⟩, rfl, _, _, rfl, rfl, ad (by omega), .str z, rfl, .int at_, rfl, at_, 1, rfl, rfl, _, rfl, z, rfl, zs, _, _, rfl, rfl, ad (Nat.le_trans tl (by omega)), qT t (by omega) (by omega) _ (.refl _ _) b6⟩
    have nl1 : ("\n" : Str).length = 1 := by decide +kernel
    have few : ∀ {a : List Str} {m : Nat}, WsB a m → m ≤ 30000 → (a.map (·.length)).sum + a.length * ("\n" : Str).length ≤ 16777216 := fun h l => by
      have := h.le
      unfold wsum at this
      rw [nl1]
      omega
    have szl : ∀ {x y : List Str} {m : Nat}, wsum (x ++ y) ≤ m → m ≤ 30000 → (x.map V.str).length + (y.map V.str).length ≤ sizeLine := fun {x y m} h l => by
      unfold wsum at h
      rw [List.length_append] at h
      rw [List.length_map, List.length_map, sizeLine_eq]
      omega
    have kl : kn < ws.length := by omega
    have ol : on < ws.length := by omega
    have ek := List.getElem?_eq_getElem kl
    have eo := List.getElem?_eq_getElem ol
    have gk := hrow _ (List.getElem_mem kl)
    have go := hrow _ (List.getElem_mem ol)
    generalize ws[kn] = wk at ek gk
    generalize ws[on] = wo at eo go
    have hle := hws.le
    have rown : ∀ {us : List Str} {n' m' : Nat}, wsum us ≤ n' → (∀ r ∈ us, TxB r m') → TxR (Txt.join "\n" us) n' m' := fun {us n' m'} h g => by
      rw [nl_S]
      exact TxR.join ⟨h, fun r hr => (g r hr).ok⟩ fun r hr => (g r hr).len
    -- a row left out
    refine ⟨.int wy, rfl, rfl, _, rfl, ite2 (fun _ => ?_) fun _ => ?_⟩
    · have ws3 := wsum_cut ws (show kn ≤ kn + 1 by omega)
      rw [← wsum_app] at ws3
      refine ⟨⟨_, rfl⟩, .ref wl, rfl, .int kn, rfl, kn, rfl, wl, _, rfl, SqL.of ewl6, fun l1 n1 => ?_⟩
      rw [cut_preV]
      have s1 := same_upd (o := .lst ((ws.take kn).map V.str)) n1
      refine ⟨.ref wl, rfl, .int kn, rfl, kn, 1, rfl, rfl, _, rfl, wl, _, rfl, SqL.of (s1 _ _ ewl6), fun l2 n2 => ?_⟩
      rw [show cutV (ws.map V.str) (some ((kn : Int) + 1)) none = (ws.drop (kn + 1)).map V.str from cut_sufV ws (kn + 1)]
      have s2 := same_upd (o := .lst ((ws.drop (kn + 1)).map V.str)) n2
      refine ⟨l1, l2, _, _, rfl, rfl, s2 _ _ upd_same, upd_same, szl (Nat.le_trans ws3 hle) (by omega), fun l3 n3 => ?_⟩
      have s3 := same_upd (o := .lst ((ws.take kn).map V.str ++ (ws.drop (kn + 1)).map V.str)) n3
      have t := rown (us := ws.take kn ++ ws.drop (kn + 1)) (Nat.le_trans ws3 hle) (m' := m) fun r hr => hrow r ((List.mem_append.mp hr).elim List.mem_of_mem_take List.mem_of_mem_drop)
      exact ⟨"\n", l3, ws.take kn ++ ws.drop (kn + 1), rfl, rfl, .inl (SqL.of (by rw [List.map_append]; exact upd_same)), few ⟨Nat.le_trans ws3 hle, fun r hr => (hrow r ((List.mem_append.mp hr).elim List.mem_of_mem_take List.mem_of_mem_drop)).ok⟩ (by omega), qT t (by omega) (by omega) _ (.of ((s1.trans s2).trans s3)) (b6.keep ((s1.trans s2).trans s3))⟩
    -- a row twice
    refine ⟨.int wy, rfl, rfl, _, rfl, ite2 (fun _ => ?_) fun _ => ?_⟩
    · have ws3 := wsum_cut ws (Nat.le_refl kn)
      have w1 : wsum [wk] = wk.length + 1 := by rw [wsum_cons]; rfl
      have gl := gk.len
      have ws4 : wsum (ws.take kn ++ [wk] ++ ws.drop kn) ≤ n + m + 2 := by rw [wsum_app, wsum_app, w1]; omega
      have ws5 : wsum (ws.take kn ++ [wk]) ≤ n + m + 2 := by rw [wsum_app] at ws4; omega
      have mem : ∀ r ∈ ws.take kn ++ [wk] ++ ws.drop kn, TxB r m := fun r hr => by
        rcases List.mem_append.mp hr with hr | hr
        · rcases List.mem_append.mp hr with hr | hr
          · exact hrow r (List.mem_of_mem_take hr)
          · rw [List.mem_singleton.mp hr]; exact gk
        · exact hrow r (List.mem_of_mem_drop hr)
      refine ⟨⟨_, rfl⟩, .ref wl, rfl, .int kn, rfl, kn, rfl, wl, _, rfl, SqL.of ewl6, fun l1 n1 => ?_⟩
      rw [cut_preV]
      have s1 := same_upd (o := .lst ((ws.take kn).map V.str)) n1
      refine ⟨.ref wl, rfl, .int kn, rfl, kn, rfl, .int kn, rfl, kn, 1, rfl, rfl, _, rfl, wl, _, rfl, SqL.of (s1 _ _ ewl6), fun l2 n2 => ?_⟩
      rw [cut_oneV ek]
      have s2 := same_upd (o := .lst ([wk].map V.str)) n2
      refine ⟨l1, l2, _, _, rfl, rfl, s2 _ _ upd_same, upd_same, szl ws5 (by omega), fun l3 n3 => ?_⟩
      have s3 := same_upd (o := .lst ((ws.take kn).map V.str ++ [wk].map V.str)) n3
      have s03 := (s1.trans s2).trans s3
      refine ⟨.ref wl, rfl, .int kn, rfl, kn, rfl, wl, _, rfl, SqL.of (s03 _ _ ewl6), fun l4 n4 => ?_⟩
      rw [cut_sufV]
      have s4 := same_upd (o := .lst ((ws.drop kn).map V.str)) n4
      refine ⟨l3, l4, _, _, rfl, rfl, s4 _ _ upd_same, upd_same, by have := szl ws4 (by omega); rw [List.map_append] at this; exact this, fun l5 n5 => ?_⟩
      have s5 := same_upd (o := .lst ((ws.take kn).map V.str ++ [wk].map V.str ++ (ws.drop kn).map V.str)) n5
      exact ⟨"\n", l5, ws.take kn ++ [wk] ++ ws.drop kn, rfl, rfl, .inl (SqL.of (by rw [List.map_append, List.map_append]; exact upd_same)), few ⟨ws4, fun r hr => (mem r hr).ok⟩ (by omega), qT (rown ws4 mem) (Nat.le_refl _) (by omega) _ (.of (s03.trans (s4.trans s5))) (b6.keep (s03.trans (s4.trans s5)))⟩
    have ikn : ∀ {m : Nat}, ws.length = m → ixN m (kn : Int) = some kn := fun e => by rw [← e]; unfold ixN; rw [if_pos (by omega), if_pos (by omega)]; rfl
    have ion : ∀ {m : Nat}, ws.length = m → ixN m (on : Int) = some on := fun e => by rw [← e]; unfold ixN; rw [if_pos (by omega), if_pos (by omega)]; rfl
    have bset : ∀ {Hx : Hp} {o : HO}, Bag Hx p → Bag (upd Hx wl o) p := fun ⟨g, r, e, h⟩ => ⟨g, r, by rw [upd_ne (Ne.symm nwp)]; exact e, h⟩
    have sz5 : ∀ {a : Nat}, Nat.ble a 5000 = true → a ≤ sizeLine := fun h => Nat.le_of_lt (small5000 (Nat.le_of_ble_eq_true h))
    -- two exchanged
    refine ⟨.int wy, rfl, rfl, _, rfl, ite2 (fun _ => ?_) fun _ => ?_⟩
    · refine ⟨.ref wl, rfl, .int on, rfl, wl, _, on, .str wo, rfl, rfl, SqL.of ewl6, atI_nat (j := on) (by rw [List.getElem?_map, eo]; rfl), .ref wl, rfl, .int kn, rfl, wl, _, kn, .str wk, rfl, rfl, SqL.of ewl6, atI_nat (j := kn) (by rw [List.getElem?_map, ek]; rfl), sz5 rfl, fun t nt => ?_⟩
      have st := same_upd (o := .tup [V.str wo, V.str wk]) nt
      have ewt := st _ _ ewl6
      have k7 := (k06.trans (.of st)).set nw0 (o := .lst ((ws.map V.str).set kn (.str wo)))
      have k8 := k7.set nw0 (o := .lst (((ws.map V.str).set kn (.str wo)).set on (.str wk)))
      have b8 := bset (o := .lst (((ws.map V.str).set kn (.str wo)).set on (.str wk))) (bset (o := .lst ((ws.map V.str).set kn (.str wo))) (b6.keep st))
      refine ⟨t, _, rfl, SqT.of upd_same, rfl, _, _, rfl, .ref wl, rfl, .int kn, rfl, wl, _, kn, kn, rfl, rfl, ewt, ikn wlen.symm, _, [], rfl, .ref wl, rfl, .int on, rfl, wl, _, on, on, rfl, rfl, upd_same, ion (by rw [List.length_set]; exact wlen.symm), ?_⟩
      have ew : wsum ((ws.set kn wo).set on wk) ≤ n + 1 := by rw [wsum_swap ek eo]; exact hle
      have mem : ∀ r ∈ (ws.set kn wo).set on wk, TxB r m := fun r hr => (List.mem_or_eq_of_mem_set hr).elim (fun h => (List.mem_or_eq_of_mem_set h).elim (hrow r) fun e => by rw [e]; exact go) fun e => by rw [e]; exact gk
      exact ⟨rfl, ⟨_, rfl⟩, .ref wl, rfl, "\n", wl, (ws.set kn wo).set on wk, rfl, rfl, .inl (SqL.of (by rw [List.map_set, List.map_set]; exact upd_same)), few ⟨ew, fun r hr => (mem r hr).ok⟩ (by omega), q _ _ k8 b8 ((rown ew mem).mono (by omega) (by omega))⟩
    -- a word put otherwise
    refine ⟨.ref wl, rfl, .int kn, rfl, wl, _, kn, .str wk, rfl, rfl, SqL.of ewl6, atI_nat (j := kn) (by rw [List.getElem?_map, ek]; rfl), ?_⟩
    refine ⟨rfl, wk, " ", rfl, rfl, by decide +kernel, by have := gk.len; rw [sizeLine_eq]; omega, fun vl nvl => ?_⟩
    have pv := part_of 32 wk
    rw [← sp_S] at pv
    have vws := pv.wsb (n := wk.length) ⟨Nat.le_refl _, gk.ok⟩
    have vne := pv.ne
    clear pv
    have sv := same_upd (o := .lst ((Txt.split wk " ").map V.str)) nvl
    have evl : upd H6 vl (.lst ((Txt.split wk " ").map V.str)) vl = some (.lst ((Txt.split wk " ").map V.str)) := upd_same
    generalize Txt.split wk " " = vs at sv evl vws vne ⊢
    have gkl := gk.len
    have nvp : vl ≠ p := fun e => by rw [e] at nvl; obtain ⟨_, _, e', _⟩ := b6; rw [e'] at nvl; cases nvl
    have nvw : vl ≠ wl := fun e => by rw [e, ewl6] at nvl; cases nvl
    have nv0 : H vl = none := k06.free b nvl b6
    have k7 := k06.trans (.of sv)
    have b7 := b6.keep sv
    have ewl7 := sv _ _ ewl6
    generalize upd H6 vl (.lst (vs.map V.str)) = H7 at evl k7 b7 ewl7 ⊢
    clear sv nvl
    have vlen : (vs.map V.str).length = vs.length := List.length_map _
    have vl1 := vws.len
    have vl0 : 1 ≤ vs.length := by
      cases vs with
      | nil => exact absurd rfl vne
      | cons => simp
    refine ⟨.ref p, rfl, .ref vl, rfl, vl, _, rfl, .inl (SqL.of evl), p, _, rfl, b7, by rw [vlen]; omega, by rw [vlen]; omega, fun H8 aa k8 b8 x0 x1 => ?_⟩
    rw [vlen] at x1
    obtain ⟨an, rfl⟩ : ∃ xn : Nat, aa = (xn : Int) := ⟨aa.toNat, by omega⟩
    have evl8 := k8 _ _ nvp evl
    have ewl8 := k8 _ _ nwp ewl7
    have elast := List.getElem?_eq_getElem (show vs.length - 1 < vs.length by omega)
    have glast := (vws.mem (List.getElem_mem (show vs.length - 1 < vs.length by omega)))
    have llast : vs[vs.length - 1].length ≤ m := by
      have := glast.len
      have : (vs[vs.length - 1]).length + 1 ≤ wsum vs := by
        obtain ⟨x, y, e⟩ := List.append_of_mem (List.getElem_mem (show vs.length - 1 < vs.length by omega))
        have e2 := congrArg wsum e
        rw [wsum_app, wsum_cons] at e2
        omega
      have := vws.le
      omega
    have glast' : TxB vs[vs.length - 1] m := ⟨llast, glast.ok⟩
    generalize vs[vs.length - 1] = wz at elast glast'
    have atz : atI (vs.map V.str) (-1) = some (.str wz) := by
      unfold atI ixN
      rw [if_neg (by omega), List.length_map, if_pos (by omega), show (-1 + (vs.length : Int)).toNat = vs.length - 1 by omega]
      show (vs.map V.str)[vs.length - 1]? = _
      rw [List.getElem?_map, elast]
      rfl
    refine ⟨.ref vl, rfl, 1, rfl, vl, _, -1, .str wz, rfl, rfl, SqL.of evl8, atz, sz5 rfl, fun l1 n1 => ?_⟩
    have s1 := same_upd (o := .lst ((nearW ++ [wz] ++ nearV).map V.str)) n1
    have e1 : upd H8 l1 (.lst ((nearW ++ [wz] ++ nearV).map V.str)) l1 = some (.lst ((nearW ++ [wz] ++ nearV).map V.str)) := upd_same
    show tCall _ _ _ _ _ (upd H8 l1 (.lst ((nearW ++ [wz] ++ nearV).map V.str))) _
    have b9 := b8.keep s1
    have evl9 := s1 _ _ evl8
    have ewl9 := s1 _ _ ewl8
    have k9 := (k7.trans k8).trans (.of s1)
    have nlp : l1 ≠ p := fun e => by rw [e] at n1; obtain ⟨_, _, e', _⟩ := b8; rw [e'] at n1; cases n1
    generalize upd H8 l1 (.lst ((nearW ++ [wz] ++ nearV).map V.str)) = H9 at e1 b9 evl9 ewl9 k9 ⊢
    refine ⟨.ref p, rfl, p, 11, rfl, b9, by decide, by decide, fun H10 x k10 b10 x2 x3 => ?_⟩
    obtain ⟨xn, rfl⟩ : ∃ xn : Nat, x = (xn : Int) := ⟨x.toNat, by omega⟩
    have wl11 : (nearW ++ [wz] ++ nearV).length = 11 := by simp [nearW, nearV]
    have xl : xn < (nearW ++ [wz] ++ nearV).length := by omega
    have tw := near_tx m10 glast' _ (List.getElem_mem xl)
    have ex := List.getElem?_eq_getElem xl
    generalize (nearW ++ [wz] ++ nearV)[xn] = wx at tw ex
    have evl10 := k10 _ _ nvp evl9
    have ewl10 := k10 _ _ nwp ewl9
    refine ⟨l1, _, xn, .str wx, rfl, rfl, SqL.of (k10 _ _ nlp e1), atI_nat (j := xn) (by rw [List.getElem?_map, ex]; rfl), ?_⟩
    have ian : ixN (vs.map V.str).length (an : Int) = some an := by
      unfold ixN
      rw [vlen, if_pos (by omega), if_pos (by omega)]
      rfl
    refine ⟨.ref vl, rfl, .int an, rfl, vl, _, an, an, rfl, rfl, evl10, ian, ?_⟩
    have k11 := (k9.trans k10).set nv0 (o := .lst ((vs.map V.str).set an (.str wx)))
    have b11 : Bag (upd H10 vl (.lst ((vs.map V.str).set an (.str wx)))) p := let ⟨g, r, e, h⟩ := b10; ⟨g, r, by rw [upd_ne (Ne.symm nvp)]; exact e, h⟩
    have evl11 : upd H10 vl (.lst ((vs.map V.str).set an (.str wx))) vl = some (.lst ((vs.set an wx).map V.str)) := by rw [upd_same, List.map_set]
    have ewl11 : upd H10 vl (.lst ((vs.map V.str).set an (.str wx))) wl = some (.lst (ws.map V.str)) := by rw [upd_ne nvw.symm]; exact ewl10
    generalize upd H10 vl (.lst ((vs.map V.str).set an (.str wx))) = H11 at k11 b11 evl11 ewl11 ⊢
    -- the row again
    have vset := vws.set tw an
    have vj := WsB.joinC (c := 32) (by decide +kernel) vset
    rw [← sp_S] at vj
    have one1 : (" " : Str).length = 1 := one_sp
    have fewv : ((vs.set an wx).map (·.length)).sum + (vs.set an wx).length * (" " : Str).length ≤ 16777216 := by
      have := vset.le
      unfold wsum at this
      rw [one1]
      omega
    refine ⟨⟨_, rfl⟩, .ref vl, rfl, " ", vl, vs.set an wx, rfl, rfl, .inl (SqL.of evl11), fewv, .ref wl, rfl, .int kn, rfl, wl, _, kn, kn, rfl, rfl, ewl11, ikn wlen.symm, ?_⟩
    have k12 := k11.set nw0 (o := .lst ((ws.map V.str).set kn (.str (Txt.join " " (vs.set an wx)))))
    have b12 := bset (o := .lst ((ws.map V.str).set kn (.str (Txt.join " " (vs.set an wx))))) b11
    have ewe := wsum_setE (Txt.join " " (vs.set an wx)) ws kn ek
    have vjl := vj.len
    have ew : wsum (ws.set kn (Txt.join " " (vs.set an wx))) ≤ n + m + 2 := by omega
    have mem : ∀ r ∈ ws.set kn (Txt.join " " (vs.set an wx)), TxB r (2 * m + 1) := fun r hr => (List.mem_or_eq_of_mem_set hr).elim (fun h => (hrow r h).mono (by omega)) fun e => by rw [e]; exact vj.mono (by omega)
    exact ⟨⟨_, rfl⟩, .ref wl, rfl, "\n", wl, ws.set kn (Txt.join " " (vs.set an wx)), rfl, rfl, .inl (SqL.of (by rw [List.map_set]; exact upd_same)), few ⟨ew, fun r hr => (mem r hr).ok⟩ (by omega), q _ _ k12 b12 (rown ew mem)⟩
end
end Th
namespace Th
open PySem PySem.Spec PyProof.Rows L2
theorem sgn_ne {sd : Nat} {c c' : Nat} {f b f' b' : Nm} {d d' i j : Nat} (h : HN (hdS sd [c]) (tlS sd [c]) f b) (h' : HN (hdS sd [c']) (tlS sd [c']) f' b') (n : c ≠ c') : hNm f d b i ≠ hNm f' d' b' j := fun e => by
  obtain ⟨g, eg⟩ := h.hf
  obtain ⟨g', eg'⟩ := h'.hf
  obtain ⟨q, eq⟩ := h.hb
  obtain ⟨q', eq'⟩ := h'.hb
  by_cases s : sd = 1
  · have e1 : hdS sd [c] = [c] := if_pos s
    have e2 : hdS sd [c'] = [c'] := if_pos s
    rw [e1] at eg
    rw [e2] at eg'
    have := congrArg List.head? e
    unfold hNm at this
    rw [eg, eg'] at this
    exact n (Option.some.inj this)
  · have e1 : tlS sd [c] = [c] := if_neg s
    have e2 : tlS sd [c'] = [c'] := if_neg s
    rw [e1] at eq
    rw [e2] at eq'
    have := congrArg List.getLast? e
    unfold hNm at this
    rw [eq, eq', ← List.append_assoc, ← List.append_assoc, List.getLast?_concat, List.getLast?_concat] at this
    exact n (Option.some.inj this)
/-- the three sorts of names differ -/
theorem sorts_ne {kk sd : Nat} {f0 b0 f1 b1 f2 b2 f3 b3 : Nm} (hn : HNs kk sd f0 b0 f1 b1 f2 b2 f3 b3) (d1 d2 d3 : Nat) : (∀ i j, hNm f1 d1 b1 i ≠ hNm f3 d3 b3 j) ∧ (∀ i j, hNm f2 d2 b2 i ≠ hNm f1 d1 b1 j) ∧ ∀ i j, hNm f2 d2 b2 i ≠ hNm f3 d3 b3 j := by
  have h1 := hn.h1
  have h2 := hn.h2
  have h3 := hn.h3
  by_cases k0 : kk = 0
  · have e : sgL kk = [[115], [116], [106]] := if_pos k0
    rw [e] at h1 h2 h3
    exact ⟨fun i j => sgn_ne h1 h3 (by decide), fun i j => sgn_ne h2 h1 (by decide), fun i j => sgn_ne h2 h3 (by decide)⟩
  · have e : sgL kk = [[107], [113], [122]] := if_neg k0
    rw [e] at h1 h2 h3
    exact ⟨fun i j => sgn_ne h1 h3 (by decide), fun i j => sgn_ne h2 h1 (by decide), fun i j => sgn_ne h2 h3 (by decide)⟩
theorem sg_len {kk sd : Nat} (m : Nat) : (hdS sd ((sgL kk).getD m [])).length + (tlS sd ((sgL kk).getD m [])).length ≤ 2 := by
  have : ((sgL kk).getD m []).length ≤ 1 := by
    unfold sgL
    split <;> (match m with
      | 0 => exact Nat.le_refl _
      | 1 => exact Nat.le_refl _
      | 2 => exact Nat.le_refl _
      | m + 3 => exact Nat.zero_le _)
  unfold hdS tlS
  split
  · show _ + 0 ≤ 2; omega
  · show 0 + _ ≤ 2; omega
section
variable {H : Hp} {r : Addr} {n m2 kk sd : Nat} {f0 b0 f1 b1 f2 b2 f3 b3 : Nm} {d0 d1 d2 d3 : Nat} {jx : List (Nm × List Nm)} {tis : List Ti}
/-- a tie's names -/
theorem netH_ti (net : NetH H r n m2 kk sd f0 b0 f1 b1 f2 b2 f3 b3 d0 d1 d2 d3 jx tis) : (∀ t ∈ tis, IsNm t.a ∧ IsNm t.b ∧ IsNm t.ln ∧ t.a ≠ t.b ∧ t.ch ≤ 9999) ∧ (∀ t ∈ tis, t.ln ∈ hNms f0 d0 b0 n) ∧ (∀ t ∈ tis, 1 ≤ t.ch) ∧ tis.length ≤ 40 := by
  obtain ⟨nat, n1, n8, m1, m2n, sd1, hns, jl3, jnd, hjx, ek, hch⟩ := net
  have hL := fun k => hns.h0.nm (by decide) d0 k
  have hS := fun k => hns.h1.nm (sg_len 0) d1 k
  have hT := fun k => hns.h2.nm (sg_len 1) d2 k
  have hJ := fun k => hns.h3.nm (sg_len 2) d3 k
  obtain ⟨sj, ts, tj⟩ := sorts_ne hns d1 d2 d3
  have inL : ∀ k, k < n → hNm f0 d0 b0 k ∈ hNms f0 d0 b0 n := fun k hk => List.mem_map.mpr ⟨k, List.mem_range.mpr hk, rfl⟩
  have key : ∀ x ∈ tis.map tiK, (IsNm x.1 ∧ IsNm x.2.1 ∧ IsNm x.2.2 ∧ x.1 ≠ x.2.1) ∧ x.2.2 ∈ hNms f0 d0 b0 n := fun x hx => by
    rw [ek] at hx
    rcases List.mem_append.mp hx with hx | hx
    · rcases List.mem_append.mp hx with hx | hx
      · obtain ⟨l, hl, hx⟩ := List.mem_flatten.mp hx
        obtain ⟨k, hk, rfl⟩ := List.mem_map.mp hl
        have hk := List.mem_range.mp hk
        rcases List.mem_cons.mp hx with e | e
        · rw [e]; exact ⟨⟨hS _, hJ _, hL _, sj _ _⟩, inL _ (by omega)⟩
        · rw [List.mem_singleton.mp e]; exact ⟨⟨hJ _, hS _, hL _, fun z => sj _ _ z.symm⟩, inL _ (by omega)⟩
      · obtain ⟨k, hk, rfl⟩ := List.mem_map.mp hx
        have hk := List.mem_range.mp hk
        refine ⟨⟨hJ _, hJ _, hL _, fun z => ?_⟩, inL _ (by omega)⟩
        have := hNm_inj (by omega) (by omega) z
        omega
    · obtain ⟨k, hk, rfl⟩ := List.mem_map.mp hx
      have hk := List.mem_range.mp hk
      exact ⟨⟨hT _, hS _, hL _, ts _ _⟩, inL _ (by omega)⟩
  refine ⟨fun t ht => ?_, fun t ht => (key _ (List.mem_map_of_mem ht)).2, fun t ht => (hch t ht).1, ?_⟩
  · obtain ⟨⟨h1, h2, h3, h4⟩, _⟩ := key _ (List.mem_map_of_mem ht)
    exact ⟨h1, h2, h3, h4, (hch t ht).2⟩
  · have := congrArg List.length ek
    rw [List.length_map] at this
    rw [this]
    unfold hT1 hT2 hT3
    rw [List.length_append, List.length_append, List.length_map, List.length_map, List.length_range, List.length_range]
    have fl : ∀ m : Nat, (((List.range m).map fun k => [(hNm f1 d1 b1 k, hNm f3 d3 b3 k, hNm f0 d0 b0 k), (hNm f3 d3 b3 k, hNm f1 d1 b1 (k + 1), hNm f0 d0 b0 (k + 1))]).flatten).length = 2 * m := fun m => by
      induction m with
      | zero => rfl
      | succ m ih =>
        rw [List.range_succ, List.map_append, List.flatten_append, List.length_append, ih]
        show 2 * m + 2 = _
        omega
    rw [fl]
    omega
end
section
variable {H : Hp} {r : Addr} {n m2 kk sd : Nat} {f0 b0 f1 b1 f2 b2 f3 b3 : Nm} {d0 d1 d2 d3 : Nat} {jx : List (Nm × List Nm)} {tis : List Ti}
theorem netH_jd (net : NetH H r n m2 kk sd f0 b0 f1 b1 f2 b2 f3 b3 d0 d1 d2 d3 jx tis) : ((hJns n (hNm f0 d0 b0) (hNm f3 d3 b3) ++ jx).map (·.1)).Nodup ∧ ∀ z ∈ hNms f0 d0 b0 n, IsNm z := by
  obtain ⟨nat, n1, n8, m1, m2n, sd1, hns, jl3, jnd, hjx, _⟩ := net
  refine ⟨?_, hns.h0.nms (by decide) d0 n⟩
  · have e1 : (hJns n (hNm f0 d0 b0) (hNm f3 d3 b3)).map (·.1) = hNms f3 d3 b3 (n - 1) := by
      unfold hJns hNms
      rw [List.map_map]
      rfl
    rw [List.map_append, e1]
    refine List.nodup_append.mpr ⟨hNms_nd (by omega), jnd, fun a ha b hb e => ?_⟩
    obtain ⟨i, hi, rfl⟩ := List.mem_map.mp ha
    obtain ⟨x, hx, rfl⟩ := List.mem_map.mp hb
    obtain ⟨k, k3, _, ek⟩ := (hjx x hx).at_
    have hi := List.mem_range.mp hi
    rw [ek] at e
    have := hNm_inj (by omega) (by omega) e
    omega
end
def sOf (x : Nm × Nm) : Str × Str := (SX.S x.1, SX.S x.2)
def jOf (x : Nm × List Nm) : Str × List Str := (SX.S x.1, x.2.map SX.S)
def tOf (t : Ti) : Str × Str × Str × Int := (SX.S t.a, SX.S t.b, SX.S t.ln, (t.ch : Int))
theorem TpF.pl {H : Hp} {a : Addr} {xs : List V} (h : TpF H a xs) : TPl H a xs := let ⟨o, e, _⟩ := h; .inr ⟨o, e⟩
theorem paired_map {α β γ : Type} {f : β → γ} {p : α → γ → Prop} : ∀ {as : List α} {bs : List β}, Paired (fun a b => p a (f b)) as bs → Paired p as (bs.map f)
  | _, _, .nil => .nil
  | _, _, .cons a r => .cons a (paired_map r)
theorem netAt_ntf {H : Hp} {r : Addr} {ls : List Nm} {sts : List (Nm × Nm)} {jns : List (Nm × List Nm)} {tis : List Ti} (h : NetAt H r ls sts jns tis) : NtF H r (ls.map SX.S) (sts.map sOf) (jns.map jOf) (tis.map tOf) := by
  obtain ⟨a, b, c, d, sa, ja, ta, e1, e2, e3, e4, e5, e6, e7, e8⟩ := h
  refine ⟨a, b, c, d, sa, ja, ta, .inl e1, ?_, e3.pl, paired_map (paired_imp e4 fun x _ y e => .inl e), e5.pl, paired_map (paired_imp e6 fun x _ y e => ?_), e7.pl, paired_map (paired_imp e8 fun x _ y e => .inl e)⟩
  · rw [List.map_map]
    exact e2.pl
  · obtain ⟨z, h1, h2⟩ := e
    refine ⟨z, .inl h1, ?_⟩
    show TPl H z ((y.2.map SX.S).map V.str)
    rw [List.map_map]
    exact .inl h2
theorem dfAll_paired {α : Type} {H : Hp} {f : α → PyData} {p : Addr → α → Prop} (h : ∀ a x, p a x → Df H (.ref a) (f x)) : ∀ {sa : List Addr} {l : List α}, Paired p sa l → DfAll H (sa.map V.ref) (l.map f)
  | _, _, .nil => .nil
  | _, _, .cons a r => .cons (h _ _ a) (dfAll_paired h r)
theorem dfAll_strs {H : Hp} : ∀ ws : List Str, DfAll H (ws.map V.str) (ws.map PyData.str)
  | [] => .nil
  | z :: ws => .cons (.str z) (dfAll_strs ws)
theorem ntf_df {H : Hp} {r : Addr} {ls : List Str} {sts : List (Str × Str)} {jns : List (Str × List Str)} {tis : List (Str × Str × Str × Int)} (h : NtF H r ls sts jns tis) : Df H (.ref r) (netD ls sts jns tis) := by
  obtain ⟨lt, st, jt, tt, sa, ja, ta, er, el, es, hs, ej, hj, et, ht⟩ := h.ex
  exact .tup er (.cons (.tup el (dfAll_strs _)) (.cons (.tup es (dfAll_paired (f := fun x : Str × Str => PyData.tuple [.str x.1, .str x.2]) (fun a x p => .tup p (.cons (.str _) (.cons (.str _) .nil))) hs)) (.cons (.tup ej (dfAll_paired (f := fun x : Str × List Str => PyData.tuple [.str x.1, .tuple (x.2.map PyData.str)]) (fun a x p => let ⟨b, h1, h2⟩ := p; .tup h1 (.cons (.str _) (.cons (.tup h2 (dfAll_strs _)) .nil))) hj)) (.cons (.tup et (dfAll_paired (f := fun x : Str × Str × Str × Int => PyData.tuple [.str x.1, .str x.2.1, .str x.2.2.1, .int x.2.2.2]) (fun a x p => .tup p (.cons (.str _) (.cons (.str _) (.cons (.str _) (.cons (.int _) .nil))))) ht)) .nil))))
theorem inc_eq : ∀ {a b : List Nat}, a.Pairwise (· < ·) → b.Pairwise (· < ·) → (∀ x, x ∈ a ↔ x ∈ b) → a = b
  | [], [], _, _, _ => rfl
  | [], y :: b, _, _, h => absurd ((h y).mpr List.mem_cons_self) (by simp)
  | x :: a, [], _, _, h => absurd ((h x).mp List.mem_cons_self) (by simp)
  | x :: a, y :: b, ha, hb, h => by
    obtain ⟨ha1, ha2⟩ := List.pairwise_cons.mp ha
    obtain ⟨hb1, hb2⟩ := List.pairwise_cons.mp hb
    have e : x = y := by
      rcases List.mem_cons.mp ((h x).mp List.mem_cons_self) with e | m
      · exact e
      · have h1 := hb1 x m
        rcases List.mem_cons.mp ((h y).mpr List.mem_cons_self) with e | m2
        · exact e.symm
        · have h2 := ha1 y m2
          omega
    subst e
    rw [inc_eq ha2 hb2 fun z => ⟨fun m => ?_, fun m => ?_⟩]
    · rcases List.mem_cons.mp ((h z).mp (List.mem_cons_of_mem _ m)) with e | m2
      · have := ha1 z m; omega
      · exact m2
    · rcases List.mem_cons.mp ((h z).mpr (List.mem_cons_of_mem _ m)) with e | m2
      · have := hb1 z m; omega
      · exact m2
theorem nd_lenD {α : Type} [DecidableEq α] : ∀ {l d : List α}, l.Nodup → (∀ x ∈ l, x ∈ d) → l.length ≤ d.length
  | [], _, _, _ => Nat.zero_le _
  | x :: l, d, h, s => by
    obtain ⟨h1, h2⟩ := List.nodup_cons.mp h
    have z := nd_lenD (l := l) (d := d.erase x) h2 fun y hy => (List.mem_erase_of_ne (fun e => h1 (by rw [← e]; exact hy))).mpr (s y (List.mem_cons_of_mem _ hy))
    have m := s x List.mem_cons_self
    rw [List.length_erase_of_mem m] at z
    have := List.length_pos_of_mem m
    rw [List.length_cons]
    omega
theorem eqv_strsR : ∀ ss : List Str, PyData.eqv (.tuple (ss.map PyData.str)) (.tuple (ss.map PyData.str)) = true
  | [] => rfl
  | s :: ss => by
    show (PyData.eqv (.str s) (.str s) && PyData.eqv (.tuple (ss.map PyData.str)) (.tuple (ss.map PyData.str))) = true
    rw [eqv_strsR ss, Bool.and_true]
    simp [PyData.eqv]
theorem eqv_strE (a b : Str) : PyData.eqv (.str a) (.str b) = decide (a = b) := by
  rw [Bool.eq_iff_iff]
  simp [PyData.eqv]
theorem strIn_of {ss : List Str} {z : Str} (h : z ∈ ss) : strIn ss (.str z) = true := by
  unfold strIn
  exact List.any_eq_true.mpr ⟨.str z, List.mem_map_of_mem h, by rw [eqv_strE]; exact decide_eq_true rfl⟩
theorem inD_strs (ss : List Str) (z : Str) : inD (ss.map PyData.str) z = decide (z ∈ ss) := by
  unfold inD
  induction ss with
  | nil => rfl
  | cons s ss ih =>
    rw [List.map_cons, List.any_cons, ih, eqv_strE]
    by_cases h : s = z
    · subst h; simp
    · have h' : ¬ z = s := fun e => h e.symm
      simp [h, h']
theorem nmOf_SX (z : Nm) : nmOf (SX.S z) = z := rfl
theorem lkF_of : ∀ {es : List (Nm × List Nm)} {y : Nm} {l : List Nm}, (es.map (·.1)).Nodup → (y, l) ∈ es → lkF es y = some l := fun {es} => by
  refine rev_ind' (p := fun es => ∀ {y : Nm} {l : List Nm}, (es.map (·.1)).Nodup → (y, l) ∈ es → lkF es y = some l) (fun {y l} _ h => (by cases h)) (fun es e ih {y l} nd h => ?_) es
  rw [lkF_snoc]
  rw [List.map_append] at nd
  obtain ⟨n1, _, n3⟩ := List.nodup_append.mp nd
  rcases List.mem_append.mp h with m | m
  · rw [if_neg fun q => n3 _ (List.mem_map_of_mem (f := fun x : Nm × List Nm => x.1) m) _ List.mem_cons_self q]
    exact ih n1 m
  · have e' := List.mem_singleton.mp m
    rw [← e', if_pos rfl]
def Unl (x y : Nm × Nm × Nm) : Prop := ¬ ((x.1 = y.1 ∧ x.2.1 = y.2.1) ∨ (x.1 = y.2.1 ∧ x.2.1 = y.1))
theorem srt2_unl {x y : Nm × Nm × Nm} (h : Unl x y) : srt2 (SX.S x.1) (SX.S x.2.1) ≠ srt2 (SX.S y.1) (SX.S y.2.1) := fun e => h (by
  have c : ∀ {a b c d : Str}, [a, b] = [c, d] → a = c ∧ b = d := fun e => by injection e with e1 e2; injection e2 with e2; exact ⟨e1, e2⟩
  unfold srt2 at e
  split at e <;> split at e <;> obtain ⟨e1, e2⟩ := c e
  · exact .inl ⟨SX.S_inj e2, SX.S_inj e1⟩
  · exact .inr ⟨SX.S_inj e2, SX.S_inj e1⟩
  · exact .inr ⟨SX.S_inj e1, SX.S_inj e2⟩
  · exact .inl ⟨SX.S_inj e1, SX.S_inj e2⟩)
theorem ties_unl {n m2 : Nat} {L S T J : Nat → Nm} (n8 : n ≤ 8) (m8 : m2 ≤ 8) (iS : ∀ i j, i < 26 → j < 26 → S i = S j → i = j) (iT : ∀ i j, i < 26 → j < 26 → T i = T j → i = j) (iJ : ∀ i j, i < 26 → j < 26 → J i = J j → i = j) (sj : ∀ i j, S i ≠ J j) (ts : ∀ i j, T i ≠ S j) (tj : ∀ i j, T i ≠ J j) :
    (hT1 (n - 1) L S J ++ hT2 (n - 2) L J ++ hT3 m2 L S T).Pairwise Unl := by
  have r1 : ∀ m, (List.range m).Pairwise fun i j => i < j ∧ i < m ∧ j < m := fun m => (List.pairwise_lt_range).imp_of_mem fun {a b} ha hb h => ⟨h, List.mem_range.mp ha, List.mem_range.mp hb⟩
  have p1 : (hT1 (n - 1) L S J).Pairwise Unl := by
    unfold hT1
    rw [List.pairwise_flatten]
    refine ⟨fun l hl => ?_, ?_⟩
    · obtain ⟨k, hk, rfl⟩ := List.mem_map.mp hl
      have hk := List.mem_range.mp hk
      refine List.pairwise_cons.mpr ⟨fun y hy => ?_, List.pairwise_singleton _ _⟩
      rw [List.mem_singleton.mp hy]
      rintro (⟨e, _⟩ | ⟨e, _⟩)
      · exact sj _ _ e
      · have := iS _ _ (by omega) (by omega) e
        omega
    · rw [List.pairwise_map]
      refine (r1 (n - 1)).imp fun {i j} h x hx y hy => ?_
      obtain ⟨h1, h2, h3⟩ := h
      simp only [List.mem_cons, List.not_mem_nil, or_false] at hx hy
      rcases hx with rfl | rfl <;> rcases hy with rfl | rfl <;> rintro (⟨e, e'⟩ | ⟨e, e'⟩)
      · have := iS _ _ (by omega) (by omega) e; omega
      · exact sj _ _ e
      · exact sj _ _ e
      · have := iS _ _ (by omega) (by omega) e; omega
      · exact sj _ _ e.symm
      · have := iJ _ _ (by omega) (by omega) e; omega
      · have := iJ _ _ (by omega) (by omega) e; omega
      · exact sj _ _ e.symm
  have p2 : (hT2 (n - 2) L J).Pairwise Unl := by
    unfold hT2
    rw [List.pairwise_map]
    refine (r1 (n - 2)).imp fun {i j} h => ?_
    obtain ⟨h1, h2, h3⟩ := h
    rintro (⟨e, e'⟩ | ⟨e, e'⟩)
    · have := iJ _ _ (by omega) (by omega) e; omega
    · have := iJ _ _ (by omega) (by omega) e; omega
  have p3 : (hT3 m2 L S T).Pairwise Unl := by
    unfold hT3
    rw [List.pairwise_map]
    refine (r1 m2).imp fun {i j} h => ?_
    obtain ⟨h1, h2, h3⟩ := h
    rintro (⟨e, e'⟩ | ⟨e, e'⟩)
    · have := iT _ _ (by omega) (by omega) e; omega
    · exact ts _ _ e
  rw [List.pairwise_append, List.pairwise_append]
  refine ⟨⟨p1, p2, fun x hx y hy => ?_⟩, p3, fun x hx y hy => ?_⟩
  · obtain ⟨l, hl, hx⟩ := List.mem_flatten.mp hx
    obtain ⟨k, _, rfl⟩ := List.mem_map.mp hl
    obtain ⟨j, _, rfl⟩ := List.mem_map.mp hy
    simp only [List.mem_cons, List.not_mem_nil, or_false] at hx
    rcases hx with rfl | rfl <;> rintro (⟨e, e'⟩ | ⟨e, e'⟩)
    · exact sj _ _ e
    · exact sj _ _ e
    · exact sj _ _ e'
    · exact sj _ _ e'
  · obtain ⟨j, _, rfl⟩ := List.mem_map.mp hy
    rcases List.mem_append.mp hx with hx | hx
    · obtain ⟨l, hl, hx⟩ := List.mem_flatten.mp hx
      obtain ⟨k, _, rfl⟩ := List.mem_map.mp hl
      simp only [List.mem_cons, List.not_mem_nil, or_false] at hx
      rcases hx with rfl | rfl <;> rintro (⟨e, e'⟩ | ⟨e, e'⟩)
      · exact ts _ _ e.symm
      · exact tj _ _ e'.symm
      · exact tj _ _ e.symm
      · exact ts _ _ e'.symm
    · obtain ⟨k, _, rfl⟩ := List.mem_map.mp hx
      rintro (⟨e, e'⟩ | ⟨e, e'⟩)
      · exact tj _ _ e.symm
      · exact tj _ _ e'.symm
section
variable {H : Hp} {r : Addr} {n m2 kk sd : Nat} {f0 b0 f1 b1 f2 b2 f3 b3 : Nm} {d0 d1 d2 d3 : Nat} {jx : List (Nm × List Nm)} {tis : List Ti}
/-- the drawn net as data -/
def dnet (n m2 : Nat) (f0 b0 f1 b1 f2 b2 f3 b3 : Nm) (d0 d1 d2 d3 : Nat) (jx : List (Nm × List Nm)) (tis : List Ti) : PyData :=
  netD ((hNms f0 d0 b0 n).map SX.S) ((hSts n m2 (hNm f0 d0 b0) (hNm f1 d1 b1) (hNm f2 d2 b2)).map sOf) ((hJns n (hNm f0 d0 b0) (hNm f3 d3 b3) ++ jx).map jOf) (tis.map tOf)
theorem netH_ns (net : NetH H r n m2 kk sd f0 b0 f1 b1 f2 b2 f3 b3 d0 d1 d2 d3 jx tis) : NsOk ((hNms f0 d0 b0 n).map SX.S) ((hSts n m2 (hNm f0 d0 b0) (hNm f1 d1 b1) (hNm f2 d2 b2)).map sOf) ((hJns n (hNm f0 d0 b0) (hNm f3 d3 b3) ++ jx).map jOf) (tis.map tOf) ∧ (∀ x ∈ (hJns n (hNm f0 d0 b0) (hNm f3 d3 b3) ++ jx).map jOf, 2 ≤ x.2.length ∧ x.2.length ≤ 3) ∧ ((hJns n (hNm f0 d0 b0) (hNm f3 d3 b3) ++ jx).map jOf).length ≤ 10 ∧ (tis.map tOf).length ≤ 28 := by
  obtain ⟨jnd, hL0⟩ := netH_jd net
  obtain ⟨ti1, ti2, ti3, ti4⟩ := netH_ti net
  obtain ⟨nat, n1, n8, m1, m2n, sd1, hns, jl3, jxnd, hjx, ek, hch⟩ := net
  have hL := fun k => hns.h0.nm (by decide) d0 k
  have hS := fun k => hns.h1.nm (sg_len 0) d1 k
  have hT := fun k => hns.h2.nm (sg_len 1) d2 k
  have hJ := fun k => hns.h3.nm (sg_len 2) d3 k
  have nj : ∀ x ∈ hJns n (hNm f0 d0 b0) (hNm f3 d3 b3) ++ jx, IsNm x.1 ∧ 2 ≤ x.2.length ∧ x.2.length ≤ 3 ∧ ∀ z ∈ x.2, IsNm z := fun x hx => by
    rcases List.mem_append.mp hx with h | h
    · obtain ⟨k, _, rfl⟩ := List.mem_map.mp h
      refine ⟨hJ k, Nat.le_refl 2, show 2 ≤ 3 by decide, fun z hz => ?_⟩
      rcases List.mem_cons.mp hz with e | e
      · rw [e]; exact hL k
      · rw [List.mem_singleton.mp e]; exact hL (k + 1)
    · have hh := hjx x h
      obtain ⟨k, _, _, e⟩ := hh.at_
      obtain ⟨js, j1, j2, j3, j4⟩ := hh.ls
      refine ⟨by rw [e]; exact hJ _, by rw [j4, List.length_map]; exact j3, hh.l3, fun z hz => ?_⟩
      rw [j4] at hz
      obtain ⟨i, _, rfl⟩ := List.mem_map.mp hz
      exact hL i
  have jlen : (hJns n (hNm f0 d0 b0) (hNm f3 d3 b3) ++ jx).length ≤ 10 := by
    unfold hJns
    rw [List.length_append, List.length_map, List.length_range]
    omega
  have tlen : tis.length ≤ 28 := by
    have := congrArg List.length ek
    rw [List.length_map] at this
    rw [this]
    unfold hT1 hT2 hT3
    rw [List.length_append, List.length_append, List.length_map, List.length_map, List.length_range, List.length_range]
    have fl : ∀ m : Nat, (((List.range m).map fun k => [(hNm f1 d1 b1 k, hNm f3 d3 b3 k, hNm f0 d0 b0 k), (hNm f3 d3 b3 k, hNm f1 d1 b1 (k + 1), hNm f0 d0 b0 (k + 1))]).flatten).length = 2 * m := fun m => by
      induction m with
      | zero => rfl
      | succ m ih =>
        rw [List.range_succ, List.map_append, List.flatten_append, List.length_append, ih]
        show 2 * m + 2 = _
        omega
    rw [fl]
    omega
  refine ⟨⟨?_, ?_, ?_, ?_, ?_, ?_, ?_, ?_, ?_⟩, fun x hx => ?_, by rw [List.length_map]; exact jlen, by rw [List.length_map]; exact tlen⟩
  · rw [List.length_map, hNms_len]; exact n8
  · unfold hSts
    rw [List.length_map, List.length_append, List.length_map, List.length_map, List.length_range, List.length_range]
    omega
  · rw [List.length_map]; omega
  · rw [List.length_map]; omega
  · intro x hx
    obtain ⟨y, hy, rfl⟩ := List.mem_map.mp hx
    obtain ⟨_, a, b, _⟩ := nj y hy
    refine ⟨by show (y.2.map SX.S).length ≤ 8; rw [List.length_map]; omega, fun e => ?_⟩
    have e : y.2.map SX.S = [] := e
    have := congrArg List.length e
    rw [List.length_map, List.length_nil] at this
    omega
  · intro z hz
    obtain ⟨y, hy, rfl⟩ := List.mem_map.mp hz
    exact nm_name (hL0 y hy)
  · intro x hx
    obtain ⟨y, hy, rfl⟩ := List.mem_map.mp hx
    rcases List.mem_append.mp hy with h | h
    · obtain ⟨k, _, rfl⟩ := List.mem_map.mp h
      exact ⟨nm_name (hS k), nm_name (hL k)⟩
    · obtain ⟨k, _, rfl⟩ := List.mem_map.mp h
      exact ⟨nm_name (hT k), nm_name (hL k)⟩
  · intro x hx
    obtain ⟨y, hy, rfl⟩ := List.mem_map.mp hx
    obtain ⟨a, _, _, b⟩ := nj y hy
    refine ⟨nm_name a, fun z hz => ?_⟩
    obtain ⟨u, hu, rfl⟩ := List.mem_map.mp (show z ∈ y.2.map SX.S from hz)
    exact nm_name (b u hu)
  · intro x hx
    obtain ⟨t, ht, rfl⟩ := List.mem_map.mp hx
    obtain ⟨a, b, c, _, e⟩ := ti1 t ht
    have := ti3 t ht
    exact ⟨nm_name a, nm_name b, nm_name c, by show (1 : Int) ≤ (t.ch : Int); omega, by show (t.ch : Int) ≤ 9999; omega⟩
  · obtain ⟨y, hy, rfl⟩ := List.mem_map.mp hx
    obtain ⟨_, a, b, _⟩ := nj y hy
    show 2 ≤ (y.2.map SX.S).length ∧ (y.2.map SX.S).length ≤ 3
    rw [List.length_map]
    exact ⟨a, b⟩
theorem tupD_of {ds : List PyData} {a b : Int} (h1 : a ≤ (ds.length : Int)) (h2 : (ds.length : Int) ≤ b) : tupD (.tuple ds) a b = true := Bool.and_eq_true_iff.mpr ⟨decide_eq_true h1, decide_eq_true h2⟩
theorem all_map {α : Type} {f : α → PyData} {p : PyData → Bool} {l : List α} (h : ∀ x ∈ l, p (f x) = true) : (l.map f).all p = true := List.all_eq_true.mpr fun d hd => by
  obtain ⟨x, hx, rfl⟩ := List.mem_map.mp hd
  exact h x hx
theorem nd_map {α β : Type} {f : α → β} (inj : ∀ x y, f x = f y → x = y) {l : List α} (h : l.Nodup) : (l.map f).Nodup := by
  rw [List.nodup_iff_pairwise_ne] at h ⊢
  rw [List.pairwise_map]
  exact h.imp fun {a b} n e => n (inj a b e)
theorem joined_of {n : Nat} {L : Nat → Nm} (iL : ∀ i j, i < n → j < n → L i = L j → i = j) {js : List Nat} (h1 : js.Pairwise (· < ·)) (h2 : ∀ j ∈ js, j < n) : (((List.range n).map L).map SX.S).filter (inD (((js.map L).map SX.S).map PyData.str)) = (js.map L).map SX.S := by
  have e : (List.range n).filter (fun i => decide (i ∈ js)) = js := inc_eq ((List.pairwise_lt_range).filter _) h1 fun x => by
    rw [List.mem_filter, List.mem_range, decide_eq_true_iff]
    exact ⟨fun h => h.2, fun h => ⟨h2 x h, h⟩⟩
  have e2 : (List.range n).filter (inD (((js.map L).map SX.S).map PyData.str) ∘ (SX.S ∘ L)) = (List.range n).filter fun i => decide (i ∈ js) := by
    refine List.filter_congr fun i hi => ?_
    have hi := List.mem_range.mp hi
    show inD (((js.map L).map SX.S).map PyData.str) (SX.S (L i)) = _
    rw [inD_strs, List.map_map, decide_eq_decide]
    constructor
    · intro h
      obtain ⟨j, hj, ej⟩ := List.mem_map.mp h
      have := iL j i (h2 j hj) hi (SX.S_inj ej)
      rw [← this]
      exact hj
    · exact fun h => List.mem_map_of_mem (f := SX.S ∘ L) h
  rw [List.map_map (l := List.range n), List.filter_map, e2, e, List.map_map (l := js)]
/-- the drawn net is one -/
theorem dnet_ok (net : NetH H r n m2 kk sd f0 b0 f1 b1 f2 b2 f3 b3 d0 d1 d2 d3 jx tis) : netB (dnet n m2 f0 b0 f1 b1 f2 b2 f3 b3 d0 d1 d2 d3 jx tis) = true := by
  obtain ⟨ok, j23, j10, t28⟩ := netH_ns net
  obtain ⟨jnd, hL0⟩ := netH_jd net
  obtain ⟨ti1, ti2, ti3, ti4⟩ := netH_ti net
  obtain ⟨nat, n1, n8, m1, m2n, sd1, hns, jl3, jxnd, hjx, ek, hch⟩ := net
  have hS := fun k => hns.h1.nm (sg_len 0) d1 k
  have hT := fun k => hns.h2.nm (sg_len 1) d2 k
  have hJ := fun k => hns.h3.nm (sg_len 2) d3 k
  obtain ⟨sj, ts, tj⟩ := sorts_ne hns d1 d2 d3
  have iL : ∀ i j, i < 26 → j < 26 → hNm f0 d0 b0 i = hNm f0 d0 b0 j → i = j := fun i j hi hj e => hNm_inj hi hj e
  have iS : ∀ i j, i < 26 → j < 26 → hNm f1 d1 b1 i = hNm f1 d1 b1 j → i = j := fun i j hi hj e => hNm_inj hi hj e
  have iT : ∀ i j, i < 26 → j < 26 → hNm f2 d2 b2 i = hNm f2 d2 b2 j → i = j := fun i j hi hj e => hNm_inj hi hj e
  have iJ : ∀ i j, i < 26 → j < 26 → hNm f3 d3 b3 i = hNm f3 d3 b3 j → i = j := fun i j hi hj e => hNm_inj hi hj e
  have Lr : hNms f0 d0 b0 n = (List.range n).map (hNm f0 d0 b0) := rfl
  have Lnd : (hNms f0 d0 b0 n).Nodup := hNms_nd (by omega)
  have Llen : (hNms f0 d0 b0 n).length = n := hNms_len _ _ _ _
  have inL : ∀ k, k < n → hNm f0 d0 b0 k ∈ hNms f0 d0 b0 n := fun k hk => List.mem_map.mpr ⟨k, List.mem_range.mpr hk, rfl⟩
  have each : ∀ j ∈ hJns n (hNm f0 d0 b0) (hNm f3 d3 b3) ++ jx, ∃ js : List Nat, js.Pairwise (· < ·) ∧ (∀ i ∈ js, i < n) ∧ j.2 = js.map (hNm f0 d0 b0) := fun j hj => by
    rcases List.mem_append.mp hj with z | z
    · obtain ⟨k, hk, rfl⟩ := List.mem_map.mp z
      have hk := List.mem_range.mp hk
      refine ⟨[k, k + 1], List.pairwise_cons.mpr ⟨fun a ha => by rw [List.mem_singleton.mp ha]; omega, List.pairwise_singleton _ _⟩, fun i hi => ?_, rfl⟩
      rcases List.mem_cons.mp hi with e | e
      · rw [e]; omega
      · rw [List.mem_singleton.mp e]; omega
    · obtain ⟨js, h1, h2, _, h3⟩ := (hjx j z).ls
      exact ⟨js, h1, h2, h3⟩
  have hunl : (tis.map tiK).Pairwise Unl := by
    rw [ek]
    exact ties_unl n8 (by omega) iS iT iJ sj ts tj
  have stsK : ∀ x ∈ hSts n m2 (hNm f0 d0 b0) (hNm f1 d1 b1) (hNm f2 d2 b2), ∃ k, k < n ∧ (x = (hNm f1 d1 b1 k, hNm f0 d0 b0 k) ∨ x = (hNm f2 d2 b2 k, hNm f0 d0 b0 k)) := fun x hx => by
    rcases List.mem_append.mp hx with h | h
    · obtain ⟨k, hk, rfl⟩ := List.mem_map.mp h
      exact ⟨k, List.mem_range.mp hk, .inl rfl⟩
    · obtain ⟨k, hk, rfl⟩ := List.mem_map.mp h
      exact ⟨k, by have := List.mem_range.mp hk; omega, .inr rfl⟩
  have stNd : ((hSts n m2 (hNm f0 d0 b0) (hNm f1 d1 b1) (hNm f2 d2 b2)).map (·.1)).Nodup := by
    have e : (hSts n m2 (hNm f0 d0 b0) (hNm f1 d1 b1) (hNm f2 d2 b2)).map (·.1) = hNms f1 d1 b1 n ++ hNms f2 d2 b2 m2 := by
      unfold hSts hNms
      rw [List.map_append, List.map_map, List.map_map]
      rfl
    rw [e]
    refine List.nodup_append.mpr ⟨hNms_nd (by omega), hNms_nd (by omega), fun a ha b hb q => ?_⟩
    obtain ⟨i, _, rfl⟩ := List.mem_map.mp ha
    obtain ⟨j, _, rfl⟩ := List.mem_map.mp hb
    exact ts _ _ q.symm
  have jK : ∀ x ∈ hJns n (hNm f0 d0 b0) (hNm f3 d3 b3) ++ jx, ∃ k, x.1 = hNm f3 d3 b3 k := fun x hx => by
    rcases List.mem_append.mp hx with h | h
    · obtain ⟨k, _, rfl⟩ := List.mem_map.mp h
      exact ⟨k, rfl⟩
    · obtain ⟨k, _, _, e⟩ := (hjx x h).at_
      exact ⟨_, e⟩
  have allNd : ((hSts n m2 (hNm f0 d0 b0) (hNm f1 d1 b1) (hNm f2 d2 b2)).map (·.1) ++ (hJns n (hNm f0 d0 b0) (hNm f3 d3 b3) ++ jx).map (·.1)).Nodup := by
    refine List.nodup_append.mpr ⟨stNd, jnd, fun a ha b hb q => ?_⟩
    obtain ⟨x, hx, rfl⟩ := List.mem_map.mp ha
    obtain ⟨y, hy, rfl⟩ := List.mem_map.mp hb
    obtain ⟨k, _, h⟩ := stsK x hx
    obtain ⟨j, ej⟩ := jK y hy
    rw [ej] at q
    rcases h with rfl | rfl
    · exact sj _ _ q
    · exact tj _ _ q
  have jmem : ∀ k, k < n - 1 → (hNm f3 d3 b3 k, [hNm f0 d0 b0 k, hNm f0 d0 b0 (k + 1)]) ∈ hJns n (hNm f0 d0 b0) (hNm f3 d3 b3) ++ jx := fun k hk => List.mem_append_left _ (List.mem_map.mpr ⟨k, List.mem_range.mpr hk, rfl⟩)
  have smem : ∀ k, k < n → (hNm f1 d1 b1 k, hNm f0 d0 b0 k) ∈ hSts n m2 (hNm f0 d0 b0) (hNm f1 d1 b1) (hNm f2 d2 b2) := fun k hk => List.mem_append_left _ (List.mem_map.mpr ⟨k, List.mem_range.mpr hk, rfl⟩)
  have tmem : ∀ k, k < m2 → (hNm f2 d2 b2 k, hNm f0 d0 b0 k) ∈ hSts n m2 (hNm f0 d0 b0) (hNm f1 d1 b1) (hNm f2 d2 b2) := fun k hk => List.mem_append_right _ (List.mem_map.mpr ⟨k, List.mem_range.mpr hk, rfl⟩)
  have n0 : 1 ≤ n := n1
  unfold dnet
  generalize hLs : hNms f0 d0 b0 n = Ls at *
  generalize hSs : hSts n m2 (hNm f0 d0 b0) (hNm f1 d1 b1) (hNm f2 d2 b2) = Ss at *
  generalize hJs : hJns n (hNm f0 d0 b0) (hNm f3 d3 b3) ++ jx = Js at *
  have ent_e : entD (.tuple ((Ss.map sOf).map fun x => PyData.tuple [.str x.1, .str x.2])) (.tuple ((Js.map jOf).map fun x => PyData.tuple [.str x.1, .tuple (x.2.map PyData.str)])) = ent Ss Js := by
    show ent (((Ss.map sOf).map fun x => PyData.tuple [.str x.1, .str x.2]).map stD) (((Js.map jOf).map fun x => PyData.tuple [.str x.1, .tuple (x.2.map PyData.str)]).map jnD') = _
    rw [List.map_map, List.map_map, List.map_map, List.map_map]
    have a1 : Ss.map ((stD ∘ fun x : Str × Str => PyData.tuple [.str x.1, .str x.2]) ∘ sOf) = Ss := (List.map_congr_left fun x _ => rfl).trans (List.map_id' Ss)
    have a2 : Js.map ((jnD' ∘ fun x : Str × List Str => PyData.tuple [.str x.1, .tuple (x.2.map PyData.str)]) ∘ jOf) = Js := (List.map_congr_left fun x _ => by
      show (x.1, (namesD ((x.2.map SX.S).map PyData.str)).map nmOf) = x
      rw [names_strs, List.map_map]
      have : x.2.map (nmOf ∘ SX.S) = x.2 := (List.map_congr_left fun _ _ => rfl).trans (List.map_id' _)
      rw [this]).trans (List.map_id' Js)
    rw [a1, a2]
  have esNd : ((ent Ss Js).map (·.1)).Nodup := by
    unfold ent
    rw [List.map_append, List.map_map]
    exact allNd
  have lkS : ∀ {x : Nm × Nm}, x ∈ Ss → linesOf (ent Ss Js) (SX.S x.1) = [SX.S x.2] := fun {x} hx => by
    unfold linesOf
    rw [nmOf_SX, lkF_of esNd (List.mem_append_left _ (List.mem_map_of_mem (f := fun s : Nm × Nm => (s.1, [s.2])) hx))]
    rfl
  have lkJ : ∀ {x : Nm × List Nm}, x ∈ Js → linesOf (ent Ss Js) (SX.S x.1) = x.2.map SX.S := fun {x} hx => by
    unfold linesOf
    rw [nmOf_SX, lkF_of esNd (List.mem_append_right _ hx)]
    rfl
  show (linesB (.tuple ((Ls.map SX.S).map PyData.str)) && stationsB (namesD ((Ls.map SX.S).map PyData.str)) (.tuple ((Ss.map sOf).map fun x => PyData.tuple [.str x.1, .str x.2])) && junctionsB (namesD ((Ls.map SX.S).map PyData.str)) (.tuple ((Js.map jOf).map fun x => PyData.tuple [.str x.1, .tuple (x.2.map PyData.str)])) && decide ((((Ss.map sOf).map fun x => PyData.tuple [.str x.1, .str x.2]) ++ ((Js.map jOf).map fun x => PyData.tuple [.str x.1, .tuple (x.2.map PyData.str)])).map firstS).Nodup && tiesB (entD (.tuple ((Ss.map sOf).map fun x => PyData.tuple [.str x.1, .str x.2])) (.tuple ((Js.map jOf).map fun x => PyData.tuple [.str x.1, .tuple (x.2.map PyData.str)]))) (.tuple ((tis.map tOf).map fun x => PyData.tuple [.str x.1, .str x.2.1, .str x.2.2.1, .int x.2.2.2]))) = true
  rw [ent_e, names_strs]
  simp only [Bool.and_eq_true]
  refine ⟨⟨⟨⟨?_, ?_⟩, ?_⟩, ?_⟩, ?_⟩
  · refine Bool.and_eq_true_iff.mpr ⟨tupD_of (by rw [List.length_map, List.length_map, Llen]; omega) (by rw [List.length_map, List.length_map, Llen]; omega), ?_⟩
    refine Bool.and_eq_true_iff.mpr ⟨all_map fun z hz => ok.ln z hz, ?_⟩
    rw [names_strs]
    exact decide_eq_true (nd_map (fun x y e => SX.S_inj e) Lnd)
  · refine Bool.and_eq_true_iff.mpr ⟨tupD_of (by omega) (by have := ok.l16; rw [List.length_map]; omega), ?_⟩
    refine all_map fun x hx => ?_
    obtain ⟨y, hy, rfl⟩ := List.mem_map.mp hx
    refine Bool.and_eq_true_iff.mpr ⟨(ok.sn _ hx).1, strIn_of ?_⟩
    obtain ⟨k, hk, h⟩ := stsK y hy
    refine List.mem_map_of_mem ?_
    rcases h with rfl | rfl <;> exact inL k hk
  · refine Bool.and_eq_true_iff.mpr ⟨tupD_of (by omega) (by rw [List.length_map]; omega), ?_⟩
    refine all_map fun x hx => ?_
    obtain ⟨y, hy, rfl⟩ := List.mem_map.mp hx
    refine Bool.and_eq_true_iff.mpr ⟨(ok.jn _ hx).1, ?_⟩
    obtain ⟨js, h1, h2, h3⟩ := each y hy
    have hb := j23 _ hx
    have el : (jOf y).2 = (js.map (hNm f0 d0 b0)).map SX.S := by show y.2.map SX.S = _; rw [h3]
    rw [el] at hb ⊢
    have jn_ : js.length ≤ n := by
      have := nd_lenD (d := List.range n) (h1.imp fun h e => by omega) fun x hx => List.mem_range.mpr (h2 x hx)
      rw [List.length_range] at this
      exact this
    have hl : (((js.map (hNm f0 d0 b0)).map SX.S).map PyData.str).length = js.length := by rw [List.length_map, List.length_map, List.length_map]
    rw [List.length_map, List.length_map] at hb
    refine Bool.and_eq_true_iff.mpr ⟨tupD_of (by rw [hl]; omega) (by rw [hl, List.length_map, Llen]; omega), ?_⟩
    show PyData.eqv (.tuple (((js.map (hNm f0 d0 b0)).map SX.S).map PyData.str)) (.tuple (((Ls.map SX.S).filter (inD (((js.map (hNm f0 d0 b0)).map SX.S).map PyData.str))).map PyData.str)) = true
    rw [Lr, joined_of (fun i j hi hj e => iL i j (by omega) (by omega) e) h1 h2]
    exact eqv_strsR _
  · refine decide_eq_true ?_
    rw [List.map_append, List.map_map, List.map_map, List.map_map, List.map_map]
    have a1 : Ss.map ((firstS ∘ fun x : Str × Str => PyData.tuple [.str x.1, .str x.2]) ∘ sOf) = (Ss.map (·.1)).map SX.S := by rw [List.map_map]; exact List.map_congr_left fun _ _ => rfl
    have a2 : Js.map ((firstS ∘ fun x : Str × List Str => PyData.tuple [.str x.1, .tuple (x.2.map PyData.str)]) ∘ jOf) = (Js.map (·.1)).map SX.S := by rw [List.map_map]; exact List.map_congr_left fun _ _ => rfl
    rw [a1, a2, ← List.map_append]
    exact nd_map (fun x y e => SX.S_inj e) allNd
  · refine Bool.and_eq_true_iff.mpr ⟨tupD_of (by omega) (by rw [List.length_map]; omega), ?_⟩
    refine Bool.and_eq_true_iff.mpr ⟨?_, decide_eq_true ?_⟩
    · refine all_map fun x hx => ?_
      obtain ⟨t, ht, rfl⟩ := List.mem_map.mp hx
      obtain ⟨o1, o2, o3, o4, o5⟩ := ok.tn _ hx
      obtain ⟨_, _, _, ne, _⟩ := ti1 t ht
      have key : tiK t ∈ tis.map tiK := List.mem_map_of_mem ht
      rw [ek] at key
      have lnA : SX.S t.ln ∈ linesOf (ent Ss Js) (SX.S t.a) ∧ SX.S t.ln ∈ linesOf (ent Ss Js) (SX.S t.b) := by
        have go : ∀ {a b l : Nm}, tiK t = (a, b, l) → (SX.S l ∈ linesOf (ent Ss Js) (SX.S a) ∧ SX.S l ∈ linesOf (ent Ss Js) (SX.S b)) → SX.S t.ln ∈ linesOf (ent Ss Js) (SX.S t.a) ∧ SX.S t.ln ∈ linesOf (ent Ss Js) (SX.S t.b) := fun e h => by
          have e1 : t.a = _ := congrArg (fun x : Nm × Nm × Nm => x.1) e
          have e2 : t.b = _ := congrArg (fun x : Nm × Nm × Nm => x.2.1) e
          have e3 : t.ln = _ := congrArg (fun x : Nm × Nm × Nm => x.2.2) e
          rw [e1, e2, e3]
          exact h
        rcases List.mem_append.mp key with key | key
        · rcases List.mem_append.mp key with key | key
          · obtain ⟨l, hl, hx2⟩ := List.mem_flatten.mp key
            obtain ⟨k, hk, rfl⟩ := List.mem_map.mp hl
            have hk := List.mem_range.mp hk
            rcases List.mem_cons.mp hx2 with e | e
            · exact go e ⟨by rw [lkS (smem k (by omega))]; exact List.mem_cons_self, by rw [lkJ (jmem k hk)]; exact List.mem_cons_self⟩
            · exact go (List.mem_singleton.mp e) ⟨by rw [lkJ (jmem k hk)]; exact List.mem_cons_of_mem _ List.mem_cons_self, by rw [lkS (smem (k + 1) (by omega))]; exact List.mem_cons_self⟩
          · obtain ⟨k, hk, e⟩ := List.mem_map.mp key
            have hk := List.mem_range.mp hk
            exact go e.symm ⟨by rw [lkJ (jmem k (by omega))]; exact List.mem_cons_of_mem _ List.mem_cons_self, by rw [lkJ (jmem (k + 1) (by omega))]; exact List.mem_cons_self⟩
        · obtain ⟨k, hk, e⟩ := List.mem_map.mp key
          have hk := List.mem_range.mp hk
          exact go e.symm ⟨by rw [lkS (tmem k hk)]; exact List.mem_cons_self, by rw [lkS (smem k (by omega))]; exact List.mem_cons_self⟩
      show (nameS (SX.S t.a) && nameS (SX.S t.b) && !decide (SX.S t.a = SX.S t.b) && strIn (linesOf (ent Ss Js) (SX.S t.a)) (.str (SX.S t.ln)) && strIn (linesOf (ent Ss Js) (SX.S t.b)) (.str (SX.S t.ln)) && (decide ((1 : Int) ≤ (t.ch : Int)) && decide ((t.ch : Int) ≤ 9999))) = true
      have o1 : nameS (SX.S t.a) = true := o1
      have o2 : nameS (SX.S t.b) = true := o2
      rw [o1, o2, decide_eq_false (fun e => ne (SX.S_inj e)), strIn_of lnA.1, strIn_of lnA.2, decide_eq_true (show (1 : Int) ≤ (t.ch : Int) from o4), decide_eq_true (show (t.ch : Int) ≤ 9999 from o5)]
      rfl
    · rw [List.map_map, List.map_map]
      have a1 : tis.map ((pairD ∘ fun x : Str × Str × Str × Int => PyData.tuple [.str x.1, .str x.2.1, .str x.2.2.1, .int x.2.2.2]) ∘ tOf) = (tis.map tiK).map fun x => srt2 (SX.S x.1) (SX.S x.2.1) := by rw [List.map_map]; exact List.map_congr_left fun _ _ => rfl
      rw [a1, List.nodup_iff_pairwise_ne, List.pairwise_map]
      exact hunl.imp fun {a b} h => srt2_unl h
end
end Th
namespace Th
open PySem PySem.Spec PyProof.Rows L2
open LamX in
theorem ExtN.seq {K : PySem.W.Frag} {H H' : Hp} {a : Addr} {xs : List V} (e : ExtN H H') (h : SqL K H a xs) : SqL K H' a xs := by
  rcases h with (h | ⟨o, h⟩) | h
  · exact .inl (.inl (e _ _ h fun _ z => nomatch z))
  · exact .inl (.inr ⟨o, e _ _ h fun _ z => nomatch z⟩)
  · exact .inr h
theorem ExtN.free {H H' : Hp} (e : LamX.ExtN H H') {l : Addr} (h : H' l = none) (ht : ∀ ps, H l ≠ some (.tbl ps)) : H l = none := by
  cases q : H l with
  | none => rfl
  | some o =>
    rw [e l o q (fun ps z => ht ps (by rw [q, z]))] at h
    cases h
theorem ExtN.lst {H H' : Hp} (e : LamX.ExtN H H') {l : Addr} {xs : List V} (h : H l = some (.lst xs)) : H' l = some (.lst xs) := e _ _ h fun _ z => nomatch z
theorem ExtN.tup {H H' : Hp} (e : LamX.ExtN H H') {l : Addr} {xs : List V} (h : H l = some (.tup xs)) : H' l = some (.tup xs) := e _ _ h fun _ z => nomatch z
theorem lst_ne_code {xs : List V} (c : Addr) (q : Str) : HO.lst xs ≠ LamX.CodeO c q := fun z => by unfold LamX.CodeO at z; cases z
section
variable {P : Program} {w : World} {K : PySem.W.Frag} {mg : Str → Option Value} {base : Heap} {k : Nat}
/-- the rule for a def whose code object is known -/
theorem okC {x : Str} {st : Stmt} {f : Addr} {fd : FuncData} {N ps : List Str} {sp : Sp} (F : FnP K x st f fd) (S : FnScope N ps (defScope st)) (len : ∀ vs H Q E, sp vs H Q E → vs.length = ps.length)
    (hb : ∀ (A : Around) (outer : List Env) (s : Shared) (H : Hp) (vs : List V) (Q : VK) (E : XK), Room k (A.deeper (envOfC x (defScope st) s.heap.objs.size f fd.code)) → sp vs H Q E →
      ∃ t, PSs (cxOf CX0 P w K mg base N x (defScope st) f fd.code A outer s H E) (defBody st) t ∧ t { nx := fun _ H' => Q .non H', rt := Q } (start N vs) H) : FnOk P w K mg base CX0 (k + 1) f fd ps sp := by
  obtain ⟨oc, od, dV, kV, doc, pm, an, cdv, ct, osl, rfl, lk, hcd, _, _⟩ := F.ex
  exact fn_of lk hcd S len fun A outer s H vs Q E hr hsp => hb A outer s H vs Q E hr hsp
end
theorem tab_keep {H H' : Hp} {P p : Addr} {q : Str} (t : LamX.TabS H P q) (k : Keep p H H') (b : Bag H p) : LamX.TabS H' P q := by
  obtain ⟨ps, h1, h2, h3⟩ := t
  obtain ⟨g, r, eb, _⟩ := b
  refine ⟨ps, k _ _ (fun z => by rw [z, eb] at h1; cases h1) h1, h2, fun pos cv hc => ?_⟩
  obtain ⟨c, e1, e2⟩ := h3 pos cv hc
  refine ⟨c, e1, k _ _ (fun z => ?_) e2⟩
  rw [z, eb] at e2
  exact lst_ne_code _ q (Option.some.inj e2)
/-- p is none of what stood, tables aside -/
def NewN (H : Hp) (p : Addr) : Prop := ∀ b o, H b = some o → (∀ ps, o ≠ .tbl ps) → b ≠ p
theorem NewN.of {H : Hp} {p : Addr} (h : H p = none) : NewN H p := fun b o hb _ => ne_of_none hb h
theorem NewN.back {H H1 : Hp} {p : Addr} (e : LamX.ExtN H H1) (h : H1 p = none) : NewN H p := fun b o hb nt => ne_of_none (e b o hb nt) h
theorem NewN.lst {H : Hp} {p b : Addr} {xs : List V} (n : NewN H p) (h : H b = some (.lst xs)) : b ≠ p := n b _ h fun _ z => nomatch z
theorem tkf_ext {H H' : Hp} (e : LamX.ExtN H H') : TKF H H' := ⟨fun a xs h => e a _ h (fun _ z => nomatch z), fun a o xs h => e a _ h (fun _ z => nomatch z)⟩
theorem ext_keepN {H H1 H2 : Hp} {p : Addr} (e : LamX.ExtN H H1) (k : Keep p H1 H2) (n : NewN H p) : LamX.ExtN H H2 := fun b o h nt => k b o (n b o h nt) (e b o h nt)
theorem pass_no {X : Cx} (σ : L2.St) : PassesAt (L2.CX X.prog X.w) X σ (fun _ _ _ => False) := fun _ _ _ _ _ _ c => by
  obtain ⟨_, _, _, _, _, _, _, _, _, _, _, _, h⟩ := c
  exact h.elim
theorem ok128 : ∀ c ∈ List.range 128, PyData.strOk ⟨#[c]⟩ = true := by decide +kernel
theorem ok_low {z : Str} (h : ∀ c ∈ z.cps.toList, c < 128) : PyData.strOk z = true := ok_all.mpr fun c hc => ok128 c (List.mem_range.mpr (h c hc))
theorem name_chars {z : Str} (h : nameS z = true) : ∀ c ∈ z.cps.toList, 97 ≤ c ∧ c ≤ 122 := (nm_is h).2.2
theorem name_sok {z : Str} (h : nameS z = true) : PyData.strOk z = true := ok_low fun c hc => by have := name_chars h c hc; omega
theorem num_sok {n : Int} (h0 : 0 ≤ n) (h1 : n < 10 ^ 10) : PyData.strOk ((toString n : String) : Str) = true := by
  have h := num_plain h0 h1
  unfold plainS at h
  simp only [Bool.and_eq_true] at h
  refine ok_low fun c hc => ?_
  have a := List.all_eq_true.mp h.2 c hc
  simp only [Bool.and_eq_true, Bool.not_eq_true', decide_eq_false_iff_not] at a
  have t2 : ¬ ([57] : List Nat) < [c] := a.2
  exact Decidable.byContradiction fun n => t2 (.rel (by omega))
theorem jl_eq (c : Nat) : ∀ {as : List (List Nat)}, as ≠ [] → (TL.joinL [c] as).length + 1 = (as.map List.length).sum + as.length
  | [], h => absurd rfl h
  | [a], _ => by show a.length + 1 = a.length + 0 + 1; omega
  | a :: b :: t, _ => by
    have e : TL.joinL [c] (a :: b :: t) = a ++ (c :: TL.joinL [c] (b :: t)) := rfl
    have ih := jl_eq c (as := b :: t) (by simp)
    rw [e]
    simp only [List.length_append, List.length_cons, List.map_cons, List.sum_cons] at ih ⊢
    omega
theorem join_le {ws : List Str} (ne : ws ≠ []) {m : Nat} (h : ∀ z ∈ ws, z.length ≤ m) : (Txt.join " " ws).length + 1 ≤ (m + 1) * ws.length := by
  rw [sp_S, join_L]
  have e2 : (SX.S (TL.joinL [32] (ws.map fun w => w.cps.toList))).length = (TL.joinL [32] (ws.map fun w => w.cps.toList)).length := List.size_toArray
  have := jl_eq 32 (as := ws.map fun w => w.cps.toList) (by simpa using ne)
  rw [List.map_map, List.length_map] at this
  have e1 : (ws.map (List.length ∘ fun w : Str => w.cps.toList)).sum = (ws.map (·.length)).sum := rfl
  have sm := sum_le (l := ws.map (·.length)) (m := m) fun x hx => by obtain ⟨z, hz, rfl⟩ := List.mem_map.mp hx; exact h z hz
  rw [List.length_map] at sm
  rw [e2, Nat.succ_mul]
  omega
theorem join_sok {ws : List Str} (h : ∀ z ∈ ws, PyData.strOk z = true) : PyData.strOk (Txt.join " " ws) = true := by
  rw [sp_S]
  exact (WsB.joinC (c := 32) (a := ws) (n := wsum ws) (by decide +kernel) ⟨Nat.le_refl _, h⟩).ok
theorem wsum_le {ws : List Str} {b : Nat} (h : ∀ r ∈ ws, r.length ≤ b) : wsum ws ≤ (b + 1) * ws.length := by
  have sm := sum_le (l := ws.map (·.length)) (m := b) fun x hx => by obtain ⟨z, hz, rfl⟩ := List.mem_map.mp hx; exact h z hz
  rw [List.length_map] at sm
  unfold wsum
  rw [Nat.succ_mul]
  omega
theorem net_txr {ls : List Str} {sts : List (Str × Str)} {jns : List (Str × List Str)} {tis : List (Str × Str × Str × Int)} (ok : NsOk ls sts jns tis) (j3 : ∀ x ∈ jns, 2 ≤ x.2.length ∧ x.2.length ≤ 3) (j10 : jns.length ≤ 10) (t28 : tis.length ≤ 28) : TxR (netT (rowsV ls sts jns tis)) 2154 44 := by
  have l8 := ok.l8
  have l16 := ok.l16
  -- rows
  have r1 : ∀ z ∈ ls, (rowT [.str "line", .str z]).length ≤ 13 := fun z hz => by
    rw [← lineT, str_len, show ("line " : Str).length = 5 by decide +kernel]
    have := name_len (ok.ln z hz)
    omega
  have r2 : ∀ x ∈ sts, (rowT [.str "station", .str x.1, .str x.2]).length ≤ 25 := fun x hx => by
    rw [← stT, str_len, show ("station " : Str).length = 8 by decide +kernel]
    have := join_le (ws := [x.1, x.2]) (by simp) (m := 8) fun z hz => by
      simp only [List.mem_cons, List.not_mem_nil, or_false] at hz
      rcases hz with rfl | rfl
      · exact name_len (ok.sn x hx).1
      · exact name_len (ok.sn x hx).2
    have : [x.1, x.2].length = 2 := rfl
    omega
  have r3 : ∀ x ∈ jns, (rowT (.str "junction" :: .str x.1 :: x.2.map V.str)).length ≤ 44 := fun x hx => by
    rw [← jnT x.1 (ok.jl x hx).2, str_len, str_len, str_len, show ("junction " : Str).length = 9 by decide +kernel, one_sp]
    have := join_le (ws := x.2) (ok.jl x hx).2 (m := 8) fun z hz => name_len ((ok.jn x hx).2 z hz)
    have := name_len (ok.jn x hx).1
    have := (j3 x hx).2
    omega
  have r4 : ∀ x ∈ tis, (rowT [.str "tie", .str x.1, .str x.2.1, .str x.2.2.1, .int x.2.2.2]).length ≤ 41 := fun x hx => by
    obtain ⟨a, b, c, d, e⟩ := ok.tn x hx
    rw [← tiT, str_len, str_len, str_len, show ("tie " : Str).length = 4 by decide +kernel, one_sp]
    have := join_le (ws := [x.1, x.2.1, x.2.2.1]) (by simp) (m := 8) fun z hz => by
      simp only [List.mem_cons, List.not_mem_nil, or_false] at hz
      rcases hz with rfl | rfl | rfl
      · exact name_len a
      · exact name_len b
      · exact name_len c
    have : [x.1, x.2.1, x.2.2.1].length = 3 := rfl
    have := (tx_num (show 0 ≤ x.2.2.2 by omega) e).2
    have : ((toString x.2.2.2 : String) : Str).length ≤ 10 := this
    omega
  -- all
  have e : (rowsV ls sts jns tis).map rowT = (((ls.map fun l => rowT [.str "line", .str l]) ++ sts.map fun x => rowT [.str "station", .str x.1, .str x.2]) ++ jns.map fun x => rowT (.str "junction" :: .str x.1 :: x.2.map V.str)) ++ tis.map fun x => rowT [.str "tie", .str x.1, .str x.2.1, .str x.2.2.1, .int x.2.2.2] := by
    unfold rowsV
    rw [List.map_append, List.map_append, List.map_append, List.map_map, List.map_map, List.map_map, List.map_map]
    rfl
  have w1 := wsum_le (ws := ls.map fun l => rowT [.str "line", .str l]) (b := 13) fun r hr => by obtain ⟨x, hx, rfl⟩ := List.mem_map.mp hr; exact r1 x hx
  have w2 := wsum_le (ws := sts.map fun x => rowT [.str "station", .str x.1, .str x.2]) (b := 25) fun r hr => by obtain ⟨x, hx, rfl⟩ := List.mem_map.mp hr; exact r2 x hx
  have w3 := wsum_le (ws := jns.map fun x => rowT (.str "junction" :: .str x.1 :: x.2.map V.str)) (b := 44) fun r hr => by obtain ⟨x, hx, rfl⟩ := List.mem_map.mp hr; exact r3 x hx
  have w4 := wsum_le (ws := tis.map fun x => rowT [.str "tie", .str x.1, .str x.2.1, .str x.2.2.1, .int x.2.2.2]) (b := 41) fun r hr => by obtain ⟨x, hx, rfl⟩ := List.mem_map.mp hr; exact r4 x hx
  rw [List.length_map] at w1 w2 w3 w4
  have ws : wsum ((rowsV ls sts jns tis).map rowT) ≤ 2154 := by
    rw [e, wsum_app, wsum_app, wsum_app]
    omega
  have sok : ∀ r ∈ (rowsV ls sts jns tis).map rowT, PyData.strOk r = true := fun r hr => by
    obtain ⟨v, hv, rfl⟩ := List.mem_map.mp hr
    refine join_sok fun z hz => ?_
    obtain ⟨u, hu, rfl⟩ := List.mem_map.mp hz
    unfold rowsV at hv
    rcases List.mem_append.mp hv with hv | hv
    · rcases List.mem_append.mp hv with hv | hv
      · rcases List.mem_append.mp hv with hv | hv
        · obtain ⟨x, hx, rfl⟩ := List.mem_map.mp hv
          simp only [List.mem_cons, List.not_mem_nil, or_false] at hu
          rcases hu with rfl | rfl
          · decide +kernel
          · exact name_sok (ok.ln x hx)
        · obtain ⟨x, hx, rfl⟩ := List.mem_map.mp hv
          simp only [List.mem_cons, List.not_mem_nil, or_false] at hu
          rcases hu with rfl | rfl | rfl
          · decide +kernel
          · exact name_sok (ok.sn x hx).1
          · exact name_sok (ok.sn x hx).2
      · obtain ⟨x, hx, rfl⟩ := List.mem_map.mp hv
        simp only [List.mem_cons] at hu
        rcases hu with rfl | rfl | hu
        · decide +kernel
        · exact name_sok (ok.jn x hx).1
        · obtain ⟨y, hy, rfl⟩ := List.mem_map.mp hu
          exact name_sok ((ok.jn x hx).2 y hy)
    · obtain ⟨x, hx, rfl⟩ := List.mem_map.mp hv
      obtain ⟨a, b, c, d, e⟩ := ok.tn x hx
      simp only [List.mem_cons, List.not_mem_nil, or_false] at hu
      rcases hu with rfl | rfl | rfl | rfl | rfl
      · decide +kernel
      · exact name_sok a
      · exact name_sok b
      · exact name_sok c
      · exact num_sok (by omega) (by omega)
  show TxR (Txt.join "\n" ((rowsV ls sts jns tis).map rowT)) 2154 44
  rw [nl_S]
  refine TxR.join ⟨ws, sok⟩ fun r hr => ?_
  rw [e] at hr
  rcases List.mem_append.mp hr with hr | hr
  · rcases List.mem_append.mp hr with hr | hr
    · rcases List.mem_append.mp hr with hr | hr
      · obtain ⟨x, hx, rfl⟩ := List.mem_map.mp hr
        exact Nat.le_trans (r1 x hx) (by decide)
      · obtain ⟨x, hx, rfl⟩ := List.mem_map.mp hr
        exact Nat.le_trans (r2 x hx) (by decide)
    · obtain ⟨x, hx, rfl⟩ := List.mem_map.mp hr
      exact r3 x hx
  · obtain ⟨x, hx, rfl⟩ := List.mem_map.mp hr
    exact Nat.le_trans (r4 x hx) (by decide)
theorem row_read {ws : List Str} {kd : Str} {d : PyData} (ne : ws ≠ []) (sp : ∀ w ∈ ws, 32 ∉ w.cps.toList) (h : lawW ws = some (kd, d)) (g : goodD d = true) : rowP (Txt.join " " ws) = some (kd, d) := by
  have e := split_join ne sp
  obtain ⟨a, b⟩ := law_house h g
  show houseW (wordsS (Txt.join " " ws)) = _
  rw [words_of_split (by rw [e]; exact b), e]
  exact a
theorem name_nosp {z : Str} (h : nameS z = true) : 32 ∉ z.cps.toList := fun m => by have := name_chars h 32 m; omega
theorem name_nonl {z : Str} (h : nameS z = true) : 10 ∉ z.cps.toList := fun m => by have := name_chars h 10 m; omega
theorem nosp_cons {a : Str} {l : List Str} (h : 32 ∉ a.cps.toList) (g : ∀ w ∈ l, 32 ∉ w.cps.toList) : ∀ w ∈ a :: l, 32 ∉ w.cps.toList := fun w hw => (List.mem_cons.mp hw).elim (fun e => by rw [e]; exact h) (g w)
theorem nosp_nil : ∀ w ∈ ([] : List Str), 32 ∉ w.cps.toList := fun _ h => (by cases h)
theorem run_app {row : Str → Option (Str × PyData)} : ∀ {a b : List Str} {f g : Fo}, runR row a f = some g → runR row (a ++ b) f = runR row b g
  | [], _, _, _, h => by rw [← Option.some.inj h]; rfl
  | r :: a, b, f, g, h => by
    have h : (match row r with | none => none | some (k, d) => runR row a (f.add k d)) = some g := h
    show (match row r with | none => none | some (k, d) => runR row (a ++ b) (f.add k d)) = _
    cases c : row r with
    | none => rw [c] at h; cases h
    | some x =>
      rw [c] at h
      exact run_app h
theorem run_kind {α : Type} {row : Str → Option (Str × PyData)} {kd : Str} {t : α → Str} {v : α → PyData} {put : Fo → List PyData → Fo} (p0 : ∀ f, put f [] = f) (p1 : ∀ f x l, put (f.add kd x) l = put f (x :: l)) : ∀ {l : List α} (_ : ∀ x ∈ l, row (t x) = some (kd, v x)) (f : Fo), runR row (l.map t) f = some (put f (l.map v))
  | [], _, f => by rw [List.map_nil, List.map_nil, p0]; rfl
  | x :: l, h, f => by
    rw [List.map_cons, List.map_cons, ← p1, ← run_kind p0 p1 (l := l) (fun y hy => h y (List.mem_cons_of_mem _ hy)) (f.add kd (v x))]
    show (match row (t x) with | none => none | some (k, d) => runR row (l.map t) (f.add k d)) = _
    rw [h x List.mem_cons_self]
theorem add_line (f : Fo) (d : PyData) : f.add "line" d = { f with l := f.l ++ [d] } := if_pos rfl
theorem add_st (f : Fo) (d : PyData) : f.add "station" d = { f with s := f.s ++ [d] } := by unfold Fo.add; rw [if_neg (by decide +kernel), if_pos rfl]
theorem add_jn (f : Fo) (d : PyData) : f.add "junction" d = { f with j := f.j ++ [d] } := by unfold Fo.add; rw [if_neg (by decide +kernel), if_neg (by decide +kernel), if_pos rfl]
theorem add_ti (f : Fo) (d : PyData) : f.add "tie" d = { f with t := f.t ++ [d] } := by unfold Fo.add; rw [if_neg (by decide +kernel), if_neg (by decide +kernel), if_neg (by decide +kernel)]
theorem drawn_rows {ls : List Str} {sts : List (Str × Str)} {jns : List (Str × List Str)} {tis : List (Str × Str × Str × Int)} (ok : NsOk ls sts jns tis) : runR rowP ((rowsV ls sts jns tis).map rowT) Fo.nil = some ⟨ls.map PyData.str, sts.map fun x => .tuple [.str x.1, .str x.2], jns.map fun x => .tuple [.str x.1, .tuple (x.2.map PyData.str)], tis.map fun x => .tuple [.str x.1, .str x.2.1, .str x.2.2.1, .int x.2.2.2]⟩ := by
  have e : (rowsV ls sts jns tis).map rowT = (((ls.map fun l => rowT [.str "line", .str l]) ++ sts.map fun x => rowT [.str "station", .str x.1, .str x.2]) ++ jns.map fun x => rowT (.str "junction" :: .str x.1 :: x.2.map V.str)) ++ tis.map fun x => rowT [.str "tie", .str x.1, .str x.2.1, .str x.2.2.1, .int x.2.2.2] := by
    unfold rowsV
    rw [List.map_append, List.map_append, List.map_append, List.map_map, List.map_map, List.map_map, List.map_map]
    rfl
  rw [e]
  have g2 : ∀ {a : PyData} {l : List PyData}, goodD a = true → goodAll l = true → goodAll (a :: l) = true := fun h g => Bool.and_eq_true_iff.mpr ⟨h, g⟩
  have h1 : ∀ z ∈ ls, rowP (rowT [.str "line", .str z]) = some (("line" : Str), PyData.str z) := fun z hz => by
    have n := ok.ln z hz
    refine row_read (ws := ["line", z]) (by simp) (nosp_cons (by decide +kernel) (nosp_cons (name_nosp n) nosp_nil)) ?_ (d := .str z) n
    show (if ("line" : Str) ∈ NETK ∧ leastN "line" ≤ 1 ∧ (("line" : Str) = ("junction" : Str) ∨ 1 = leastN "line") then some (("line" : Str), lawD "line" [z]) else none) = _
    rw [if_pos ⟨by decide +kernel, by decide +kernel, .inr (by decide +kernel)⟩]
    rfl
  have h2 : ∀ x ∈ sts, rowP (rowT [.str "station", .str x.1, .str x.2]) = some (("station" : Str), PyData.tuple [.str x.1, .str x.2]) := fun x hx => by
    obtain ⟨n1, n2⟩ := ok.sn x hx
    refine row_read (ws := ["station", x.1, x.2]) (by simp) (nosp_cons (by decide +kernel) (nosp_cons (name_nosp n1) (nosp_cons (name_nosp n2) nosp_nil))) ?_ (g2 (a := .str x.1) n1 (g2 (a := .str x.2) n2 rfl))
    show (if ("station" : Str) ∈ NETK ∧ leastN "station" ≤ 2 ∧ (("station" : Str) = ("junction" : Str) ∨ 2 = leastN "station") then some (("station" : Str), lawD "station" [x.1, x.2]) else none) = _
    rw [if_pos ⟨by decide +kernel, by decide +kernel, .inr (by decide +kernel)⟩]
    rfl
  have h3 : ∀ x ∈ jns, rowP (rowT (.str "junction" :: .str x.1 :: x.2.map V.str)) = some (("junction" : Str), PyData.tuple [.str x.1, .tuple (x.2.map PyData.str)]) := fun x hx => by
    obtain ⟨n1, n2⟩ := ok.jn x hx
    have ne := (ok.jl x hx).2
    have e : rowT (.str "junction" :: .str x.1 :: x.2.map V.str) = Txt.join " " ("junction" :: x.1 :: x.2) := by
      show Txt.join " " ("junction" :: x.1 :: (x.2.map V.str).map txV) = _
      rw [map_tx]
    rw [e]
    refine row_read (by simp) (nosp_cons (by decide +kernel) (nosp_cons (name_nosp n1) fun w hw => name_nosp (n2 w hw))) ?_ (g2 (a := .str x.1) n1 (g2 (a := .tuple (x.2.map PyData.str)) (goodAll_iff.mpr fun d hd => by obtain ⟨z, hz, rfl⟩ := List.mem_map.mp hd; exact n2 z hz) rfl))
    show (if ("junction" : Str) ∈ NETK ∧ leastN "junction" ≤ x.2.length + 1 ∧ (("junction" : Str) = ("junction" : Str) ∨ x.2.length + 1 = leastN "junction") then some (("junction" : Str), lawD "junction" (x.1 :: x.2)) else none) = _
    have l1 : 1 ≤ x.2.length := by
      cases h : x.2 with
      | nil => exact absurd h ne
      | cons a b => simp
    rw [if_pos ⟨by decide +kernel, by show 2 ≤ _; omega, .inl rfl⟩]
    rfl
  have h4 : ∀ x ∈ tis, rowP (rowT [.str "tie", .str x.1, .str x.2.1, .str x.2.2.1, .int x.2.2.2]) = some (("tie" : Str), PyData.tuple [.str x.1, .str x.2.1, .str x.2.2.1, .int x.2.2.2]) := fun x hx => by
    obtain ⟨n1, n2, n3, n4, n5⟩ := ok.tn x hx
    have np := num_plain (n := x.2.2.2) (by omega) (by omega)
    have nb := num_back (n := x.2.2.2) (by omega) (by omega)
    have nn := num_nosp (n := x.2.2.2) (by omega)
    refine row_read (ws := ["tie", x.1, x.2.1, x.2.2.1, ((toString x.2.2.2 : String) : Str)]) (by simp) (nosp_cons (by decide +kernel) (nosp_cons (name_nosp n1) (nosp_cons (name_nosp n2) (nosp_cons (name_nosp n3) (nosp_cons nn nosp_nil))))) ?_ (g2 (a := .str x.1) n1 (g2 (a := .str x.2.1) n2 (g2 (a := .str x.2.2.1) n3 (g2 (a := .int x.2.2.2) rfl rfl))))
    show (if ("tie" : Str) ∈ NETK ∧ leastN "tie" ≤ 4 ∧ (("tie" : Str) = ("junction" : Str) ∨ 4 = leastN "tie") then some (("tie" : Str), lawD "tie" [x.1, x.2.1, x.2.2.1, ((toString x.2.2.2 : String) : Str)]) else none) = _
    rw [if_pos ⟨by decide +kernel, by decide +kernel, .inr (by decide +kernel)⟩]
    have e : lawD "tie" [x.1, x.2.1, x.2.2.1, ((toString x.2.2.2 : String) : Str)] = .tuple [.str x.1, .str x.2.1, .str x.2.2.1, plD ((toString x.2.2.2 : String) : Str)] := rfl
    rw [e]
    unfold plD
    rw [if_pos np, nb]
  have r1 := run_kind (row := rowP) (t := fun l : Str => rowT [.str "line", .str l]) (v := PyData.str) (put := fun f l => { f with l := f.l ++ l }) (fun f => by simp) (fun f x l => by rw [add_line]; simp) h1 Fo.nil
  rw [List.append_assoc, List.append_assoc, run_app r1]
  have r2 := run_kind (row := rowP) (t := fun x : Str × Str => rowT [.str "station", .str x.1, .str x.2]) (v := fun x => .tuple [.str x.1, .str x.2]) (put := fun f l => { f with s := f.s ++ l }) (fun f => by simp) (fun f x l => by rw [add_st]; simp) h2 ⟨[] ++ ls.map PyData.str, [], [], []⟩
  rw [show (⟨Fo.nil.l ++ ls.map PyData.str, Fo.nil.s, Fo.nil.j, Fo.nil.t⟩ : Fo) = ⟨[] ++ ls.map PyData.str, [], [], []⟩ from rfl, run_app r2]
  have r3 := run_kind (row := rowP) (t := fun x : Str × List Str => rowT (.str "junction" :: .str x.1 :: x.2.map V.str)) (v := fun x => .tuple [.str x.1, .tuple (x.2.map PyData.str)]) (put := fun f l => { f with j := f.j ++ l }) (fun f => by simp) (fun f x l => by rw [add_jn]; simp) h3 ⟨[] ++ ls.map PyData.str, [] ++ sts.map fun x => .tuple [.str x.1, .str x.2], [], []⟩
  rw [run_app r3]
  rw [run_kind (row := rowP) (t := fun x : Str × Str × Str × Int => rowT [.str "tie", .str x.1, .str x.2.1, .str x.2.2.1, .int x.2.2.2]) (v := fun x => .tuple [.str x.1, .str x.2.1, .str x.2.2.1, .int x.2.2.2]) (put := fun f l => { f with t := f.t ++ l }) (fun f => by simp) (fun f x l => by rw [add_ti]; simp) h4]
  simp
theorem join_nonl {ws : List Str} (h : ∀ z ∈ ws, 10 ∉ z.cps.toList) : 10 ∉ (Txt.join " " ws).cps.toList := fun m => by
  rw [sp_S, join_L] at m
  have m : 10 ∈ TL.joinL [32] (ws.map fun w => w.cps.toList) := m
  rcases jl_in 32 m with e | ⟨a, ha, m⟩
  · exact absurd e (by decide)
  · obtain ⟨z, hz, rfl⟩ := List.mem_map.mp ha
    exact h z hz m
theorem drawn_split {ls : List Str} {sts : List (Str × Str)} {jns : List (Str × List Str)} {tis : List (Str × Str × Str × Int)} (ok : NsOk ls sts jns tis) (ne : ls ≠ []) : Txt.split (netT (rowsV ls sts jns tis)) "\n" = (rowsV ls sts jns tis).map rowT := by
  show Txt.split (Txt.join "\n" ((rowsV ls sts jns tis).map rowT)) "\n" = _
  rw [nl_S]
  refine split_of (PtOf.of (fun e => ?_) fun p hp => ?_)
  · have : rowsV ls sts jns tis = [] := by simpa using e
    unfold rowsV at this
    simp at this
    exact ne this.1
  · obtain ⟨v, hv, rfl⟩ := List.mem_map.mp hp
    refine join_nonl fun z hz => ?_
    obtain ⟨u, hu, rfl⟩ := List.mem_map.mp hz
    unfold rowsV at hv
    rcases List.mem_append.mp hv with hv | hv
    · rcases List.mem_append.mp hv with hv | hv
      · rcases List.mem_append.mp hv with hv | hv
        · obtain ⟨x, hx, rfl⟩ := List.mem_map.mp hv
          simp only [List.mem_cons, List.not_mem_nil, or_false] at hu
          rcases hu with rfl | rfl
          · decide +kernel
          · exact name_nonl (ok.ln x hx)
        · obtain ⟨x, hx, rfl⟩ := List.mem_map.mp hv
          simp only [List.mem_cons, List.not_mem_nil, or_false] at hu
          rcases hu with rfl | rfl | rfl
          · decide +kernel
          · exact name_nonl (ok.sn x hx).1
          · exact name_nonl (ok.sn x hx).2
      · obtain ⟨x, hx, rfl⟩ := List.mem_map.mp hv
        simp only [List.mem_cons] at hu
        rcases hu with rfl | rfl | hu
        · decide +kernel
        · exact name_nonl (ok.jn x hx).1
        · obtain ⟨y, hy, rfl⟩ := List.mem_map.mp hu
          exact name_nonl ((ok.jn x hx).2 y hy)
    · obtain ⟨x, hx, rfl⟩ := List.mem_map.mp hv
      obtain ⟨a, b, c, d, e⟩ := ok.tn x hx
      simp only [List.mem_cons, List.not_mem_nil, or_false] at hu
      rcases hu with rfl | rfl | rfl | rfl | rfl
      · decide +kernel
      · exact name_nonl a
      · exact name_nonl b
      · exact name_nonl c
      · intro m
        have np := num_plain (n := x.2.2.2) (by omega) (by omega)
        unfold plainS at np
        simp only [Bool.and_eq_true] at np
        have a := List.all_eq_true.mp np.2 10 m
        exact absurd a (by decide +kernel)
theorem drawn_read {ls : List Str} {sts : List (Str × Str)} {jns : List (Str × List Str)} {tis : List (Str × Str × Str × Int)} (ok : NsOk ls sts jns tis) (ne : ls ≠ []) (h : netB (netD ls sts jns tis) = true) : keepN (netT (rowsV ls sts jns tis)) (netP (netT (rowsV ls sts jns tis))) = some (netD ls sts jns tis) := by
  have e : netP (netT (rowsV ls sts jns tis)) = some (netD ls sts jns tis) := by
    unfold netP
    rw [drawn_split ok ne, drawn_rows ok]
    rfl
  rw [e]
  show (if netB (netD ls sts jns tis) = true ∧ netX (netD ls sts jns tis) = netT (rowsV ls sts jns tis) then some (netD ls sts jns tis) else none) = _
  rw [if_pos ⟨h, netX_of _ _ _ _⟩]
end Th
namespace Th
open PySem PySem.Spec PyProof.Rows L2
abbrev lamQ : Str := ("law" ++ ".<locals>.") ++ "<lambda>"
def refD : PyData := .tuple [.str "refused", .str "NoText"]
theorem shB : SeqAt.shaped (.tuple [.str "refused", .str "NoText"]) = true := by decide +kernel
mutual
theorem Df.ext {H H' : Hp} (e : LamX.ExtN H H') : ∀ {v : V} {d : PyData}, Df H v d → Df H' v d
  | _, _, .non => .non
  | _, _, .bl b => .bl b
  | _, _, .int b => .int b
  | _, _, .str b => .str b
  | _, _, .lst h r => .lst (e _ _ h fun _ z => nomatch z) (DfAll.ext e r)
  | _, _, .tup h r => .tup (h.tk (tkf_ext e)) (DfAll.ext e r)
theorem DfAll.ext {H H' : Hp} (e : LamX.ExtN H H') : ∀ {v : List V} {d : List PyData}, DfAll H v d → DfAll H' v d
  | _, _, .nil => .nil
  | _, _, .cons a r => .cons (Df.ext e a) (DfAll.ext e r)
end
theorem Dt.tkf' {H H' : Hp} (e : LamX.ExtN H H') {v : V} {d : PyData} (h : Dt SA H v d) (t : tuD d = true) : Dt SA H' v d := h.tu (fun a xs z => e a _ z fun _ z => nomatch z) t
theorem NtF.tk {H H' : Hp} {r : Addr} {ls : List Str} {sts : List (Str × Str)} {jns : List (Str × List Str)} {tis : List (Str × Str × Str × Int)} (h : NtF H r ls sts jns tis) (k : TKF H H') : NtF H' r ls sts jns tis := by
  obtain ⟨a, b, c, d, sa, ja, ta, e1, e2, e3, e4, e5, e6, e7, e8⟩ := h.ex
  exact ⟨a, b, c, d, sa, ja, ta, e1.tk k, e2.tk k, e3.tk k, paired_imp e4 fun x _ y e => e.tk k, e5.tk k, paired_imp e6 (fun x _ y ⟨z, f1, f2⟩ => ⟨z, f1.tk k, f2.tk k⟩), e7.tk k, paired_imp e8 fun x _ y e => e.tk k⟩
/-- what is no written net -/
structure ThAt (H : Hp) (v : V) : Prop where
  ex : ∃ d, Df H v d ∧ readND d = none ∧ ∀ z, d = .str z → TxR z 4999 4000
theorem ThAt.ext {H H' : Hp} {v : V} (h : ThAt H v) (e : LamX.ExtN H H') : ThAt H' v := let ⟨d, a, b, c⟩ := h.ex; ⟨d, a.ext e, b, c⟩
theorem lw_net {ls : List Str} {sts : List (Str × Str)} {jns : List (Str × List Str)} {tis : List (Str × Str × Str × Int)} (ok : NsOk ls sts jns tis) : LwD 4 (netD ls sts jns tis) := by
  have nm : ∀ {n : Nat} {z : Str}, nameS z = true → LwD n (.str z) := fun h => .str (name_sok h) (by have := name_len h; omega)
  have c2 : ∀ {n : Nat} {a : PyData} {l : List PyData}, LwD n a → (∀ d ∈ l, LwD n d) → ∀ d ∈ a :: l, LwD n d := fun ha hl d hd => (List.mem_cons.mp hd).elim (fun e => by rw [e]; exact ha) (hl d)
  have c0 : ∀ {n : Nat}, ∀ d ∈ ([] : List PyData), LwD n d := fun _ h => (by cases h)
  refine .tup (c2 (.tup fun d hd => ?_) (c2 (.tup fun d hd => ?_) (c2 (.tup fun d hd => ?_) (c2 (.tup fun d hd => ?_) c0))))
  · obtain ⟨z, hz, rfl⟩ := List.mem_map.mp hd
    exact nm (ok.ln z hz)
  · obtain ⟨x, hx, rfl⟩ := List.mem_map.mp hd
    exact .tup (c2 (nm (ok.sn x hx).1) (c2 (nm (ok.sn x hx).2) c0))
  · obtain ⟨x, hx, rfl⟩ := List.mem_map.mp hd
    refine .tup (c2 (nm (ok.jn x hx).1) (c2 (.tup fun d hd => ?_) c0))
    obtain ⟨z, hz, rfl⟩ := List.mem_map.mp hd
    exact nm ((ok.jn x hx).2 z hz)
  · obtain ⟨x, hx, rfl⟩ := List.mem_map.mp hd
    obtain ⟨a, b, c, _⟩ := ok.tn x hx
    exact .tup (c2 (nm a) (c2 (nm b) (c2 (nm c) (c2 .int c0))))
theorem tx_few {z : Str} (h : z.length ≤ 4000) (ok : PyData.strOk z = true) : TxR z 4999 4000 := ⟨⟨by omega, ok⟩, RunB.len h⟩
theorem tx_none : TxR "" 4999 4000 := tx_few (by decide +kernel) (by decide +kernel)
theorem tx_line : TxR "line" 4999 4000 := tx_few (by decide +kernel) (by decide +kernel)
theorem tx_linea : TxR "line a" 4999 4000 := tx_few (by decide +kernel) (by decide +kernel)
theorem read_none : readND (.str "") = none := by
  show keepN "" ((runR rowP (Txt.split "" "\n") Fo.nil).map Fo.d) = none
  rw [show Txt.split "" "\n" = [("" : Str)] by decide +kernel]
  have h : rowP "" = none := by
    show houseW (wordsS "") = none
    rw [show wordsS "" = [] by decide +kernel]
    rfl
  show keepN "" ((match rowP "" with | none => none | some (k, d) => runR rowP [] (Fo.nil.add k d)).map Fo.d) = none
  rw [h]
  rfl
theorem read_line : readND (.str "line") = none := by
  show keepN "line" ((runR rowP (Txt.split "line" "\n") Fo.nil).map Fo.d) = none
  rw [show Txt.split "line" "\n" = [("line" : Str)] by decide +kernel]
  have h : rowP "line" = none := by
    show houseW (wordsS "line") = none
    rw [show wordsS "line" = [("line" : Str)] by decide +kernel]
    show (if ("line" : Str) ∈ NETK ∧ fitsB (slN "line" 0) [] = true then some (("line" : Str), foldN "line" (List.zipWith thD (slN "line" 0) [])) else none) = none
    rw [if_neg fun z => absurd z.2 (by decide +kernel)]
  show keepN "line" ((match rowP "line" with | none => none | some (k, d) => runR rowP [] (Fo.nil.add k d)).map Fo.d) = none
  rw [h]
  rfl
theorem ns_a : NsOk ["a"] [] [] [] := ⟨by decide, by decide, by decide, by decide, fun x h => (by cases h), fun z h => by rw [List.mem_singleton.mp h]; decide +kernel, fun x h => (by cases h), fun x h => (by cases h), fun x h => (by cases h)⟩
theorem text_a : netT (rowsV ["a"] [] [] []) = "line a" := by decide +kernel
theorem read_a : readND (.str "line a") = some (netD ["a"] [] [] []) := by
  have h := drawn_read ns_a (by simp) (by decide +kernel)
  rw [text_a] at h
  exact h
theorem lit_same {H : Hp} {u1 u2 u3 u4 t : Addr} {o1 o2 o3 o4 o5 : HO} (n1 : H u1 = none) (n2 : upd H u1 o1 u2 = none) (n3 : upd (upd H u1 o1) u2 o2 u3 = none) (n4 : upd (upd (upd H u1 o1) u2 o2) u3 o3 u4 = none) (n5 : upd (upd (upd (upd H u1 o1) u2 o2) u3 o3) u4 o4 t = none) : Same H (upd (upd (upd (upd (upd H u1 o1) u2 o2) u3 o3) u4 o4) t o5) :=
  (((same_upd n1).trans (same_upd n2)).trans (same_upd n3)).trans ((same_upd n4).trans (same_upd n5))
theorem lit_ntf {H : Hp} {u1 u2 u3 u4 t : Addr} (n1 : H u1 = none) (n2 : upd H u1 (.tup [V.str "a"]) u2 = none) (n3 : upd (upd H u1 (.tup [V.str "a"])) u2 (.tup []) u3 = none) (n4 : upd (upd (upd H u1 (.tup [V.str "a"])) u2 (.tup [])) u3 (.tup []) u4 = none) (n5 : upd (upd (upd (upd H u1 (.tup [V.str "a"])) u2 (.tup [])) u3 (.tup [])) u4 (.tup []) t = none) :
    NtF (upd (upd (upd (upd (upd H u1 (.tup [V.str "a"])) u2 (.tup [])) u3 (.tup [])) u4 (.tup [])) t (.tup [V.ref u1, .ref u2, .ref u3, .ref u4])) t ["a"] [] [] [] := by
  have s2 := same_upd (o := .tup []) n2
  have s3 := same_upd (o := .tup []) n3
  have s4 := same_upd (o := .tup []) n4
  have s5 := same_upd (o := .tup [V.ref u1, .ref u2, .ref u3, .ref u4]) n5
  exact ⟨u1, u2, u3, u4, [], [], [], .inl upd_same, .inl ((((s2.trans s3).trans s4).trans s5) _ _ upd_same), .inl (((s3.trans s4).trans s5) _ _ upd_same), .nil, .inl ((s4.trans s5) _ _ upd_same), .nil, .inl (s5 _ _ upd_same), .nil⟩
def bn (j : Nat) : Nat := (2154 + 45 * (2 ^ j - 1)) + j
def bm (j : Nat) : Nat := 45 * 2 ^ j - 1
theorem bnd_at : ∀ j, j < 6 → bn j + bm j + 2 ≤ bn (j + 1) ∧ 2 * bm j + 1 ≤ bm (j + 1) ∧ bn (j + 1) ≤ 4999 ∧ bm (j + 1) ≤ 4000 ∧ bn j ≤ 4999 ∧ bm j ≤ 4000 ∧ 10 ≤ bm j ∧ bn j ≤ bn (j + 1) ∧ bm j ≤ bm (j + 1) := by decide
section
variable {P : Program} {w : World} {K : PySem.W.Frag} {mg : Str → Option Value} {base : Heap} {k : Nat}
def sp_law (T : Defs K mg) (tp : Addr) : Sp := fun vs H Q _ => ∃ (a : Addr) (ns : List Int), vs = [.ref a] ∧ SqL K H a (ns.map V.int) ∧ ns.length ≤ 63 ∧ LamX.TabS H tp lamQ ∧ ∀ H', Q (.bl true) H'
set_option maxHeartbeats 16000000 in
theorem ok_law {f : Addr} {fd : FuncData} (F : FnP K "law" s_law f fd) (T : Defs K mg) {cc tp : Addr} (TB : LamX.TabB base mg cc tp) (hcd : fd.code = .ref cc) (DT : DicT w T) : FnOk P w K mg base CX0 9 f fd ["_law_script"] (sp_law T tp) := by
  have G_l_bag : FnOk P w K mg base CX0 8 _ _ _ _ := ok_l_bag (k := 7) T
  have G_l_take : FnOk P w K mg base CX0 8 _ _ _ _ := ok_l_take (k := 7) T
  have G_l_net : FnOk P w K mg base CX0 8 _ _ _ _ := ok_l_net (k := 5) T
  have G_l_net_text : FnOk P w K mg base CX0 8 _ _ _ _ := ok_l_net_text (k := 7) T
  have G_show_net : FnOk P w K mg base CX0 8 _ _ _ _ := ok_show_net (k := 6) T
  have G_l_near : FnOk P w K mg base CX0 8 _ _ _ _ := ok_l_near (k := 6) T
  have G_l_read : FnOk P w K mg base CX0 8 _ _ _ _ := ok_l_read (k := 2) T
  have G_read_net : FnOk P w K mg base (L2.CX P w) 6 _ _ _ _ := ok_read_net (k := 0) T DT
  have G_which : TryAs.FnP P w K mg base 7 _ _ _ _ := ok_l_which (k := 6) T
  refine okC F sc_law (fun vs H Q E h => ?_) (fun A outer s H vs Q E hr h => ?_)
  · obtain ⟨a, ns, rfl, _⟩ := h
    rfl
  · obtain ⟨a, ns, rfl, hS, hlen, htb, q⟩ := h
    refine ⟨_, PSs.nox
(pss_cons (ps_for PassesOwn.never rfl (pi_range1 (by rfl) T.z_range (pa_cons (pe_callB (call_max2 rfl) (by rfl) T.z_max (by decide +kernel) (pa_cons (pe_int) (pa_cons (pe_callB (call_min2 rfl) (by rfl) T.z_min (by decide +kernel) (pa_cons (pe_int) (pa_cons (pe_callB (r := rLenS K) call_lenS (by rfl) T.z_len (by decide +kernel) (pa_cons (pv 0) pa_nil)) pa_nil))) pa_nil))) pa_nil)) (pg_name (i := 1) sc_law.nd rfl (.inl rfl))
      (pss_cons (ps_set (i := 2) sc_law.nd rfl (.inl rfl) (pe_call G_l_bag hr (by rfl) T.g_l_bag T.F_l_bag.kp T.b_l_bag .nil pass0 (pa_cons (pv 0) (pa_cons (pv 1) pa_nil))))
      (pss_cons (ps_set (i := 3) sc_law.nd rfl (.inl rfl) (pe_call G_l_net hr (by rfl) T.g_l_net T.F_l_net.kp T.b_l_net .nil pass0 (pa_cons (pv 2) pa_nil)))
      (pss_cons (ps_set (i := 4) sc_law.nd rfl (.inl rfl) (pe_call G_l_net_text hr (by rfl) T.g_l_net_text T.F_l_net_text.kp T.b_l_net_text .nil pass0 (pa_cons (pv 3) pa_nil)))
      (Evl.pss_cut (ps_set (i := 5) sc_law.nd rfl (.inl rfl) (pe_call G_show_net hr (by rfl) T.g_show_net T.F_show_net.kp T.b_show_net .nil pass0 (pa_cons (pv 3) pa_nil)))
      (pss_cons (ps_if (PW.pt (pw_or (pt_not (pt_val (pe_callB call_isi (by rfl) T.z_isinstance (by decide +kernel) (pa_cons (pv 5) (pa_cons (pe_bltn (v := .ty "str") (by rfl) T.z_str (by decide +kernel) rfl) pa_nil))))) (pw_or1 (pt_cmpR (r := rNeD K) (op_neD hr.units) (pv 5) (pv 4) (nomark _)))))
        (pss_one (ps_ret (pe_bl)))
        pss_nil)
      (pss_cons (ps_for PassesOwn.never rfl (pi_range1 (by rfl) T.z_range (pa_cons (pe_int) pa_nil)) (pg_name (i := 6) sc_law.nd rfl (.inl rfl))
        (pss_one (ps_if (PW.pt (pw_or (pt_cmpR (r := rNeD K) (op_neD hr.units) (pe_callS G_read_net (hr.mono (by decide)) (by rfl) T.g_read_net T.F_read_net.kp T.b_read_net (fun σ => pass_no σ) (pa_cons (pv 4) pa_nil)) (pv 3) (nomark _)) (pw_or1 (pt_not (pt_val (pe_callB call_isi (by rfl) T.z_isinstance (by decide +kernel) (pa_cons (pe_callS G_read_net (hr.mono (by decide)) (by rfl) T.g_read_net T.F_read_net.kp T.b_read_net (fun σ => pass_no σ) (pa_cons (pv 4) pa_nil)) (pa_cons (pe_bltn (v := .ty "tuple") (by rfl) T.z_tuple (by decide +kernel) rfl) pa_nil))))))))
          (pss_one (ps_ret (pe_bl)))
          pss_nil)))
      (pss_cons (ps_for PassesOwn.never rfl (pi_range1 (by rfl) T.z_range (pa_cons (pe_int) pa_nil)) (pg_name (i := 6) sc_law.nd rfl (.inl rfl))
        (pss_cons (ps_set (i := 7) sc_law.nd rfl (.inr rfl) (pe_call G_l_near hr (by rfl) T.g_l_near T.F_l_near.kp T.b_l_near .nil pass0 (pa_cons (pv 2) (pa_cons (pv 4) pa_nil))))
        (pss_cons (ps_set (i := 8) sc_law.nd rfl (.inl rfl) (pe_call G_l_read hr (by rfl) T.g_l_read T.F_l_read.kp T.b_l_read .nil pass0 (pa_cons (pv 7) pa_nil)))
        (Evl.pss_cut (ps_set (i := 5) sc_law.nd rfl (.inl rfl) (pe_try (X := (cxOf CX0 P w K mg base N_law "law" (defScope s_law) f fd.code A outer s H E).nox) T G_which (by rfl) TB hcd hr (LamX.lamS_by (sc := defScope s_law) (by decide +kernel)) rfl (fun _ _ _ _ _ => rfl) (fun A outer s H E f c' hr2 => (pe_callS G_read_net hr2 (by rfl) T.g_read_net T.F_read_net.kp T.b_read_net (fun σ => passAt (takes_of rfl rfl rfl rfl) σ) (pa_cons (pv 7) pa_nil)))))
        (pss_cons (ps_if (pt_cmpR (r := rNeD K) (op_neD hr.units) (pv 5) (pe_ifExp (pt_cmpR op_isN (pv 8) (pe_non) (nomark _)) (pe_tup (pa_cons (pe_str) (pa_cons (pe_str) pa_nil))) (pv 8)) (nomark _))
          (pss_one (ps_ret (pe_bl)))
          pss_nil)
        (pss_one (ps_if (pt_cmpR op_eq (pe_call G_l_take hr (by rfl) T.g_l_take T.F_l_take.kp T.b_l_take .nil pass0 (pa_cons (pv 2) (pa_cons (pe_int) pa_nil))) (pe_int) (nomark _))
          (pss_one (ps_set (i := 4) sc_law.nd rfl (.inl rfl) (pv 7)))
          pss_nil)))))))
      (Evl.pss_cut (ps_set (i := 9) sc_law.nd rfl (.inr rfl) (pe_ix (r := rIxL K) ix_list (pe_lst (pa_cons (pe_non) (pa_cons (pe_int) (pa_cons (pe_bl) (pa_cons (pe_lst (pa_cons (pv 4) pa_nil)) (pa_cons (pe_tup (pa_cons (pv 4) pa_nil)) (pa_cons (pv 3) (pa_cons (pe_str) (pa_cons (pe_str) pa_nil))))))))) (pe_call G_l_take hr (by rfl) T.g_l_take T.F_l_take.kp T.b_l_take .nil pass0 (pa_cons (pv 2) (pa_cons (pe_int) pa_nil))) (fun _ _ => rfl)))
      (pss_one (ps_if (pt_cmpR (r := rNeD K) (op_neD hr.units) (pe_try (X := (cxOf CX0 P w K mg base N_law "law" (defScope s_law) f fd.code A outer s H E).nox) T G_which (by rfl) TB hcd hr (LamX.lamS_by (sc := defScope s_law) (by decide +kernel)) rfl (fun _ _ _ _ _ => rfl) (fun A outer s H E f c' hr2 => (pe_callS G_read_net hr2 (by rfl) T.g_read_net T.F_read_net.kp T.b_read_net (fun σ => passAt (takes_of rfl rfl rfl rfl) σ) (pa_cons (pv 9) pa_nil)))) (pe_tup (pa_cons (pe_str) (pa_cons (pe_str) pa_nil))) (nomark _))
        (pss_one (ps_ret (pe_bl)))
        pss_nil)))))))))))
    (pss_one (ps_ret (pe_and (pe_cmpR (r := rEqD K) (op_eqD hr.units) (pe_callS G_read_net (hr.mono (by decide)) (by rfl) T.g_read_net T.F_read_net.kp T.b_read_net (fun σ => pass_no σ) (pa_cons (pe_str) pa_nil)) (pe_tup (pa_cons (pe_tup (pa_cons (pe_str) pa_nil)) (pa_cons (pe_tup pa_nil) (pa_cons (pe_tup pa_nil) (pa_cons (pe_tup pa_nil) pa_nil))))) (nomark _)) (pe_one (pe_cmpR op_eq (pe_call G_show_net hr (by rfl) T.g_show_net T.F_show_net.kp T.b_show_net .nil pass0 (pa_cons (pe_tup (pa_cons (pe_tup (pa_cons (pe_str) pa_nil)) (pa_cons (pe_tup pa_nil) (pa_cons (pe_tup pa_nil) (pa_cons (pe_tup pa_nil) pa_nil))))) pa_nil)) (pe_str) (nomark _)))))))
      , ?_⟩
    have em0 : ∀ lc : Int, lc ≤ 63 → ∃ m : Nat, m < 64 ∧ (if (if lc < 12 then lc else 12) > 3 then (if lc < 12 then lc else 12) else 3) = (m : Int) := fun lc hl => by
      refine ⟨(if (if lc < 12 then lc else 12) > 3 then (if lc < 12 then lc else 12) else 3).toNat, ?_, ?_⟩
      · split <;> split <;> omega
      · split <;> split <;> omega
    obtain ⟨m, hm, em⟩ := em0 ((ns.map V.int).length : Int) (by rw [List.length_map]; omega)
    refine ⟨.ref a, rfl, a, _, rfl, .inl hS, 12, _, rfl, 3, _, rfl, m, by show [V.int _] = _; rw [em], ?_, ?_, ?_⟩
    · exact Int.le_trans (by decide) (Int.natCast_nonneg _)
    · omega
    rw [Int.toNat_natCast]
    refine for_range (lo := 0) (n := m) (fun i σ Hx => ∃ y2 y3 y4 y5 y6 y7 y8 y9 : Option V, (∃ y1 : Option V, σ = [some (.ref a), y1, y2, y3, y4, y5, y6, y7, y8, y9]) ∧ LamX.ExtN H Hx ∧ LamX.TabS Hx tp lamQ)
      ⟨_, _, _, _, _, _, _, _, ⟨_, rfl⟩, LamX.ExtN.refl _, htb⟩ (fun i σ Hy hi hp => ?_) (fun σ Hx hp => ?_)
    · obtain ⟨y2, y3, y4, y5, y6, y7, y8, y9, ⟨y1, rfl⟩, ey, ty⟩ := hp
      rw [Int.zero_add]
      refine ⟨.ref a, rfl, .int i, rfl, a, ns, i, rfl, ExtN.seq ey hS, by omega, fun H1 p s1 np b1 => ?_⟩
      have new1 : NewN H p := NewN.back ey np
      have newy : NewN Hy p := NewN.back (LamX.ExtN.refl _) np
      have e1 : LamX.ExtN H H1 := ey.trans (.of s1)
      have t1 := ty.ext s1
      -- the net
      refine ⟨.ref p, rfl, p, rfl, b1, fun H2 r n m2 kk sd f0 b0 f1 b1' f2 b2' f3 b3' d0 d1 d2 d3 jx tis k2 b2 net => ?_⟩
      have e2 := ext_keepN e1 k2 new1
      have t2 := tab_keep t1 k2 b1
      have nt := netAt_ntf net.1
      obtain ⟨ok, j3, j10, t28⟩ := netH_ns net
      have nok := dnet_ok net
      have lne : (hNms f0 d0 b0 n).map SX.S ≠ [] := fun e => by
        have e1 := congrArg List.length e
        rw [List.length_map, hNms_len, List.length_nil] at e1
        have := net.2.1
        omega
      have dnt := ntf_df nt
      unfold dnet at nok
      clear net e1 t1 b1 s1 np
      generalize (hNms f0 d0 b0 n).map SX.S = ls at *
      generalize (hSts n m2 (hNm f0 d0 b0) (hNm f1 d1 b1') (hNm f2 d2 b2')).map sOf = sts at *
      generalize (hJns n (hNm f0 d0 b0) (hNm f3 d3 b3') ++ jx).map jOf = jns at *
      generalize tis.map tOf = ts at *
      have txr := net_txr ok j3 j10 t28
      have rd := drawn_read ok lne nok
      -- its text
      refine ⟨.ref r, rfl, r, ls, sts, jns, ts, rfl, nt, ok, fun H3 s3 => ?_⟩
      generalize hz0 : netT (rowsV ls sts jns ts) = z0 at txr rd ⊢
      have e3 := e2.trans (.of s3)
      have t3 := t2.ext s3
      have b3 := b2.keep s3
      have dn3 := dnt.same s3
      have nt3 : NtF H3 r ls sts jns ts := by
        obtain ⟨r', er, h⟩ := df_ntf dn3
        injection er with er
        rw [er]
        exact h
      have shz : SeqAt.shaped (.str z0) = true := str_shp txr.b.ok
      have shn : SeqAt.shaped (netD ls sts jns ts) = true := (lw_net ok).shaped (by decide)
      refine ⟨fun σ Hz => σ = [some (.ref a), some (.int i), some (.ref p), some (.ref r), some (.str z0), some (.str z0), y6, y7, y8, y9] ∧ Same H3 Hz, ?_, fun σ H4 mid => ?_⟩
      · exact ⟨.ref r, rfl, r, ls, sts, jns, ts, rfl, nt3, ok.l8, ok.l16, ok.l12, ok.l40, fun x hx => (ok.jl x hx).1, show_pre ok, ok.all, fun H4 s4 => ⟨by rw [hz0]; rfl, s4⟩⟩
      obtain ⟨rfl, s4⟩ := mid
      have e4 := e3.trans (.of s4)
      have t4 := t3.ext s4
      have b4 := b3.keep s4
      have dn4 := dn3.same s4
      clear e3 t3 b3 dn3 nt3 e2 t2 b2 dnt nt s3 s4
      refine ⟨.str z0, rfl, .str z0, .ty "str", _, _, _, rfl, .ty _, (Df.str z0).ty, kit_S (.str z0), isiS (.str z0), rfl, iteF ?_⟩
      refine ⟨.str z0, rfl, .str z0, rfl, .str z0, .str z0, .str _, .str _, shz, shz, _, rfl, ?_⟩
      rw [SeqAt.eqv_refl _ (SeqAt.canLay_of_shaped shz)]
      refine iteF ?_
      have tb0 : ∀ z, PyData.str z0 = .str z → TxR z 4999 4000 := fun z e => by
        injection e with e
        rw [← e]
        exact txr.mono (by decide) (by decide)
      have rdn : ∀ {nd : PyData}, readND (.str z0) = some nd → nd = netD ls sts jns ts := fun {nd} e => by
        have e : keepN z0 (netP z0) = some nd := e
        rw [rd] at e
        exact (Option.some.inj e).symm
      have rno : readND (.str z0) ≠ none := fun e => by
        have e : keepN z0 (netP z0) = none := e
        rw [rd] at e
        cases e
      -- twice
      refine ⟨2, rfl, by decide, by decide, ?_⟩
      refine for_range (lo := 0) (n := 2) (fun g σ Hz => ∃ y6 : Option V, σ = [some (.ref a), some (.int i), some (.ref p), some (.ref r), some (.str z0), some (.str z0), y6, y7, y8, y9] ∧ Same H4 Hz)
        ⟨_, rfl, fun _ _ z => z⟩ (fun g σ Hz hg hp => ?_) (fun σ H5 hp => ?_)
      · obtain ⟨y6, rfl, sz⟩ := hp
        refine ⟨.str z0, rfl, .str z0, .str z0, rfl, .str _, tb0, fun nd end_ H5 v5 s5 dv lw => ?_, fun en => absurd en rno⟩
        have e := rdn end_
        subst e
        have s45 := sz.trans s5
        refine ⟨.ref r, rfl, _, _, dv.dp, (dn4.same s45).dp, shn, shn, _, rfl, ?_⟩
        rw [SeqAt.eqv_refl _ (SeqAt.canLay_of_shaped shn)]
        refine iteF ?_
        refine ⟨.str z0, rfl, .str z0, .str z0, rfl, .str _, tb0, fun nd end2 H6 v6 s6 dv6 lw6 => ?_, fun en => absurd en rno⟩
        have e := rdn end2
        subst e
        exact ⟨v6, .ty "tuple", _, _, _, rfl, .ty _, dv6.df.ty, kit_T _, isiT _, rfl, iteF ⟨_, rfl, s45.trans s6⟩⟩
      · obtain ⟨y6, rfl, sz⟩ := hp
        have e5 := e4.trans (.of sz)
        have t5 := t4.ext sz
        have b5 := b4.keep sz
        have nt5 : NtF H5 r ls sts jns ts := by
          obtain ⟨r', er, h⟩ := df_ntf (dn4.same sz)
          injection er with er
          rw [er]
          exact h
        clear e4 t4 b4 dn4 sz tb0 rdn rno rd nok
        -- six near texts
        refine ⟨6, rfl, by decide, by decide, ?_⟩
        refine for_range (lo := 0) (n := 6) (fun j σ Hx => ∃ (zt : Str) (y5 y6 y7 y8 : Option V), σ = [some (.ref a), some (.int i), some (.ref p), some (.ref r), some (.str zt), y5, y6, y7, y8, y9] ∧ LamX.ExtN H Hx ∧ LamX.TabS Hx tp lamQ ∧ Bag Hx p ∧ NtF Hx r ls sts jns ts ∧ TxR zt (bn j) (bm j))
          ⟨_, _, _, _, _, rfl, e5, t5, b5, nt5, txr⟩ (fun j σ H6 hj hp => ?_) (fun σ H6 hp => ?_)
        · obtain ⟨zt, y5, y6', y7', y8', rfl, e6, t6, b6, nt6, tx6⟩ := hp
          rw [Int.zero_add]
          obtain ⟨g1, g2, g3, g4, g5, g6, g7, g8, g9⟩ := bnd_at j hj
          refine ⟨.ref p, rfl, .str zt, rfl, p, zt, bn j, bm j, rfl, b6, tx6, by omega, by omega, g7, fun H7 zn k7 b7 tx7 => ?_⟩
          have tx7 := tx7.mono g1 g2
          have tx7' : TxR zn 4999 4000 := tx7.mono g3 g4
          have e7 := ext_keepN e6 k7 new1
          have t7 := tab_keep t6 k7 b6
          have nt7 := nt6.tk (TKF.keep k7 b6)
          clear e6 t6 nt6 k7 b6
          refine ⟨.str zn, rfl, zn, rfl, tx7', fun H8 vd s8 dvd lwd => ?_⟩
          have e8 := e7.trans (.of s8)
          have t8 := t7.ext s8
          have b8 := b7.keep s8
          have nt8 := nt7.tk (.of s8)
          clear e7 t7 b7 nt7 s8
          have ezn : ∀ z, PyData.str zn = .str z → TxR z 4999 4000 := fun z e => by injection e with e; rw [← e]; exact tx7'
          -- tried
          refine ⟨fun σ Hb => ∃ (v : V), σ = [some (.ref a), some (.int i), some (.ref p), some (.ref r), some (.str zt), some v, some (.int j), some (.str zn), some vd, y9] ∧ LamX.ExtN H8 Hb ∧ LamX.TabS Hb tp lamQ ∧ Dt SA Hb v ((keepN zn (netL zn)).getD refD) ∧ LwD 4 ((keepN zn (netL zn)).getD refD), ?_, fun σ Hb mid => ?_⟩
          · refine ⟨fun pp hp => by rw [List.mem_singleton.mp hp]; exact t8, fun Hl el tl => ?_⟩
            have tl' : LamX.TabS Hl tp lamQ := tl _ List.mem_cons_self
            refine ⟨.str zn, rfl, .str zn, .str zn, rfl, .str _, ezn, fun nd end_ H9 v9 s9 dv lw => ?_, fun en H9 s9 => ?_⟩
            · have end_ : keepN zn (netP zn) = some nd := end_
              rw [read_eq] at end_
              refine ⟨v9, rfl, el.trans (.of s9), tl'.ext s9, ?_⟩
              rw [end_]
              exact ⟨dv, lw⟩
            · have en : keepN zn (netP zn) = none := en
              rw [read_eq] at en
              refine ⟨T.a_NoText, 13, ⟨rfl, T.p_NoText.is_, T.w_NoText⟩, .inl ⟨T.y_NoText, .inl rfl, fun Ha ta sa na ea => ?_⟩⟩
              refine ⟨.ref ta, rfl, (el.trans (.of s9)).trans (.of sa), (tl'.ext s9).ext sa, ?_⟩
              rw [en]
              exact ⟨.tup trivial ea (by show 2 ≤ 5000; decide) (.cons (.str _) (.cons (.str _) .nil)), LwD.mono (n := 1) (.tup fun x hx => by
                simp only [List.mem_cons, List.not_mem_nil, or_false] at hx
                rcases hx with rfl | rfl
                · exact .str (by decide +kernel) (by decide +kernel)
                · exact .str (by decide +kernel) (by decide +kernel)) (by decide)⟩
          obtain ⟨v, rfl, eb, tb, dv, lwv⟩ := mid
          have dvb : Dt SA Hb vd ((keepN zn (netL zn)).getD .none) := dvd.tkf' eb lwd.tu
          have e9 := e8.trans eb
          have b9 : Bag Hb p := let ⟨g0, r0, eb0, gr⟩ := b8; ⟨g0, r0, eb _ _ eb0 (fun _ z => nomatch z), gr⟩
          have nt9 := nt8.tk (tkf_ext eb)
          clear dvd e8 t8 b8 nt8 eb
          cases hrd : keepN zn (netL zn)
          all_goals rw [hrd] at dv dvb lwv lwd
          all_goals first
            | (have dv : Dt SA Hb v refD := dv
               have dvb : Dt SA Hb vd .none := dvb
               cases dvb
               refine ⟨v, rfl, .non, rfl, rfl, _, rfl, iteT ⟨by show 2 ≤ sizeLine; decide, fun u nu => ?_⟩⟩
               have sn := same_upd (o := .tup [V.str "refused", .str "NoText"]) nu
               refine ⟨refD, refD, (dv.same sn).dp, .tup (SqT.of upd_same) (.cons (.str _) (.cons (.str _) .nil)), shB, shB, _, rfl, ?_⟩
               rw [SeqAt.eqv_refl _ (SeqAt.canLay_of_shaped (show SeqAt.shaped refD = true from shB))]
               refine iteF ?_
               generalize upd Hb u (.tup [V.str "refused", .str "NoText"]) = Hn at sn ⊢)
            | (rename_i pd
               have dv : Dt SA Hb v pd := dv
               have dvb : Dt SA Hb vd pd := dvb
               have shp : SeqAt.shaped pd = true := lwd.shaped (by decide)
               have nn : decide (vd = V.non) = false := by
                 have e : pd ≠ .none := fun e => by
                   subst e
                   unfold keepN at hrd
                   split at hrd
                   · rename_i d0 h0
                     split at hrd
                     · injection hrd with hrd
                       subst hrd
                       rename_i c0
                       cases c0.1
                     · cases hrd
                   · cases hrd
                 refine decide_eq_false fun z => ?_
                 rw [z] at dvb
                 cases dvb
                 exact e rfl
               refine ⟨v, rfl, vd, rfl, rfl, _, rfl, ?_⟩
               rw [nn]
               refine iteF ⟨vd, rfl, pd, pd, dv.dp, dvb.dp, shp, shp, _, rfl, ?_⟩
               rw [SeqAt.eqv_refl _ (SeqAt.canLay_of_shaped shp)]
               refine iteF ?_
               clear nn
               obtain ⟨Hn, eHn⟩ : ∃ Hn, Hn = Hb := ⟨_, rfl⟩
               rw [← eHn]
               have sn : Same Hb Hn := by rw [eHn]; exact fun _ _ z => z
               clear eHn)
          all_goals
            have en := e9.trans (.of sn)
            have tn := tb.ext sn
            have bnn := b9.keep sn
            have ntn := nt9.tk (.of sn)
            refine ⟨.ref p, rfl, p, 3, rfl, bnn, by decide, by decide, fun Hc c kc bc c0 c1 => ⟨rfl, _, rfl, ite2 (fun _ => ?_) fun _ => ?_⟩⟩
            · exact ⟨.str zn, rfl, zn, _, _, _, _, rfl, ext_keepN en kc new1, tab_keep tn kc bnn, bc, ntn.tk (TKF.keep kc bnn), tx7⟩
            · exact ⟨zt, _, _, _, _, rfl, ext_keepN en kc new1, tab_keep tn kc bnn, bc, ntn.tk (TKF.keep kc bnn), tx6.mono g8 g9⟩
        · obtain ⟨zt, y5, y6', y7', y8', rfl, e6, t6, b6, nt6, tx6⟩ := hp
          -- the thing
          refine ⟨fun σ Hz => ∃ v : V, σ = [some (.ref a), some (.int i), some (.ref p), some (.ref r), some (.str zt), y5, y6', y7', y8', some v] ∧ LamX.ExtN H Hz ∧ LamX.TabS Hz tp lamQ ∧ ThAt Hz v, ?_, fun σ H7 mid => ?_⟩
          · have np4 : ∀ {Hx : Hp} {b : Addr}, Bag Hx p → Hx b = none → b ≠ p := fun bx nb e => by
              obtain ⟨g, r, e', _⟩ := bx
              rw [e, e'] at nb
              cases nb
            refine ⟨.str zt, rfl, one_sz, fun l1 nl1 => ?_⟩
            have sl := same_upd (o := .lst [V.str zt]) nl1
            have bl := b6.keep sl
            have e1 : upd H6 l1 (.lst [V.str zt]) l1 = some (.lst [V.str zt]) := upd_same
            have n1' := np4 b6 nl1
            refine ⟨.str zt, rfl, one_sz, fun t1 nt1 => ?_⟩
            have st := same_upd (o := .tup [V.str zt]) nt1
            have bt := bl.keep st
            have n2' := np4 bl nt1
            have e2 : upd (upd H6 l1 (.lst [V.str zt])) t1 (.tup [V.str zt]) t1 = some (.tup [V.str zt]) := upd_same
            refine ⟨.ref r, rfl, by show 8 ≤ sizeLine; rw [sizeLine_eq]; decide, fun L nL => ?_⟩
            have sL := same_upd (o := .lst [V.non, .int 0, .bl true, .ref l1, .ref t1, .ref r, .str "", .str "line"]) nL
            have bL := bt.keep sL
            have n3' := np4 bt nL
            have e3 : upd (upd (upd H6 l1 (.lst [V.str zt])) t1 (.tup [V.str zt])) L (.lst [V.non, .int 0, .bl true, .ref l1, .ref t1, .ref r, .str "", .str "line"]) L = some (.lst [V.non, .int 0, .bl true, .ref l1, .ref t1, .ref r, .str "", .str "line"]) := upd_same
            have s4L := (sl.trans st).trans sL
            have e1 := (st.trans sL) _ _ e1
            have e2 := sL _ _ e2
            show tCall _ _ _ _ _ (upd (upd (upd H6 l1 (.lst [V.str zt])) t1 (.tup [V.str zt])) L (.lst [V.non, .int 0, .bl true, .ref l1, .ref t1, .ref r, .str "", .str "line"])) _
            generalize upd (upd (upd H6 l1 (.lst [V.str zt])) t1 (.tup [V.str zt])) L (.lst [V.non, .int 0, .bl true, .ref l1, .ref t1, .ref r, .str "", .str "line"]) = H7 at bL e1 e2 e3 s4L ⊢
            have nt7 := nt6.tk (.of s4L)
            refine ⟨.ref p, rfl, p, 8, rfl, bL, by decide, by decide, fun H8 c k8 b8 c0 c1 => ?_⟩
            have e1 := k8 _ _ n1' e1
            have e2 := k8 _ _ n2' e2
            have e3 := k8 _ _ n3' e3
            have fx := ext_keepN (e6.trans (.of s4L)) k8 new1
            have ft := tab_keep (t6.ext s4L) k8 bL
            have nt8 := nt7.tk (TKF.keep k8 bL)
            have hc : c = 0 ∨ c = 1 ∨ c = 2 ∨ c = 3 ∨ c = 4 ∨ c = 5 ∨ c = 6 ∨ c = 7 := by omega
            have nos : ∀ {d : PyData}, (∀ z, d ≠ .str z) → ∀ z, d = .str z → TxR z 4999 4000 := fun h z e => absurd e (h z)
            rcases hc with rfl | rfl | rfl | rfl | rfl | rfl | rfl | rfl
            · exact ⟨L, _, 0, .non, rfl, rfl, SqL.of e3, atI_nat (j := 0) rfl, _, rfl, fx, ft, ⟨.none, .non, rfl, nos fun z => nofun⟩⟩
            · exact ⟨L, _, 1, .int 0, rfl, rfl, SqL.of e3, atI_nat (j := 1) rfl, _, rfl, fx, ft, ⟨.int 0, .int 0, rfl, nos fun z => nofun⟩⟩
            · exact ⟨L, _, 2, .bl true, rfl, rfl, SqL.of e3, atI_nat (j := 2) rfl, _, rfl, fx, ft, ⟨.bool true, .bl true, rfl, nos fun z => nofun⟩⟩
            · exact ⟨L, _, 3, .ref l1, rfl, rfl, SqL.of e3, atI_nat (j := 3) rfl, _, rfl, fx, ft, ⟨.list [.str zt], .lst e1 (.cons (.str _) .nil), rfl, nos fun z => nofun⟩⟩
            · exact ⟨L, _, 4, .ref t1, rfl, rfl, SqL.of e3, atI_nat (j := 4) rfl, _, rfl, fx, ft, ⟨.tuple [.str zt], .tup (.inl e2) (.cons (.str _) .nil), rfl, nos fun z => nofun⟩⟩
            · exact ⟨L, _, 5, .ref r, rfl, rfl, SqL.of e3, atI_nat (j := 5) rfl, _, rfl, fx, ft, ⟨netD ls sts jns ts, ntf_df nt8, rfl, nos fun z => nofun⟩⟩
            · exact ⟨L, _, 6, .str "", rfl, rfl, SqL.of e3, atI_nat (j := 6) rfl, _, rfl, fx, ft, ⟨.str "", .str _, read_none, fun z e => by injection e with e; rw [← e]; exact tx_none⟩⟩
            · exact ⟨L, _, 7, .str "line", rfl, rfl, SqL.of e3, atI_nat (j := 7) rfl, _, rfl, fx, ft, ⟨.str "line", .str _, read_line, fun z e => by injection e with e; rw [← e]; exact tx_line⟩⟩
          obtain ⟨v, rfl, e7, t7, hv⟩ := mid
          clear e6 t6 b6 nt6
          refine ⟨fun pp hp => by rw [List.mem_singleton.mp hp]; exact t7, fun Hl el tl => ?_⟩
          have tl' : LamX.TabS Hl tp lamQ := tl _ List.mem_cons_self
          obtain ⟨d, hd, rdd, zd⟩ := (hv.ext el).ex
          refine ⟨v, rfl, v, d, rfl, hd, zd, fun nd end_ => absurd (end_.symm.trans rdd) (by simp), fun en H8 s8 => ?_⟩
          refine ⟨T.a_NoText, 13, ⟨rfl, T.p_NoText.is_, T.w_NoText⟩, .inl ⟨T.y_NoText, .inl rfl, fun H9 t9 s9 n9 e9 => ?_⟩⟩
          refine ⟨by show 2 ≤ sizeLine; decide, fun u nu => ?_⟩
          have su := same_upd (o := .tup [V.str "refused", .str "NoText"]) nu
          refine ⟨refD, refD, .tup (SqT.of (su _ _ e9)) (.cons (.str _) (.cons (.str _) .nil)), .tup (SqT.of upd_same) (.cons (.str _) (.cons (.str _) .nil)), shB, shB, _, rfl, ?_⟩
          rw [SeqAt.eqv_refl _ (SeqAt.canLay_of_shaped (show SeqAt.shaped refD = true from shB))]
          have sall := (s8.trans s9).trans su
          exact iteF ⟨_, _, _, _, _, _, _, _, ⟨_, rfl⟩, (e7.trans el).trans (.of sall), tl'.ext sall⟩
    · obtain ⟨y2, y3, y4, y5, y6, y7, y8, y9, ⟨y1, rfl⟩, ey, ty⟩ := hp
      refine ⟨.str "line a", .str "line a", rfl, .str _, fun z e => by injection e with e; rw [← e]; exact tx_linea, fun nd end_ H1 v1 s1 dv lw => ?_, fun en => by rw [read_a] at en; cases en⟩
      rw [read_a] at end_
      have end_ := Option.some.inj end_
      subst end_
      refine ⟨one_sz, fun u1 n1 => ⟨Nat.zero_le _, fun u2 n2 => ⟨Nat.zero_le _, fun u3 n3 => ⟨Nat.zero_le _, fun u4 n4 => ⟨by show 4 ≤ sizeLine; rw [sizeLine_eq]; decide, fun t nt => ?_⟩⟩⟩⟩⟩
      have lit := lit_ntf n1 n2 n3 n4 nt
      have s2 := lit_same (o5 := .tup [V.ref u1, .ref u2, .ref u3, .ref u4]) n1 n2 n3 n4 nt
      generalize upd (upd (upd (upd (upd H1 u1 (.tup [V.str "a"])) u2 (.tup [])) u3 (.tup [])) u4 (.tup [])) t (.tup [V.ref u1, .ref u2, .ref u3, .ref u4]) = H2 at lit s2 ⊢
      have sha : SeqAt.shaped (netD ["a"] [] [] []) = true := (lw_net ns_a).shaped (by decide)
      refine ⟨netD ["a"] [] [] [], netD ["a"] [] [] [], (dv.same s2).dp, (ntf_df lit).dp, sha, sha, ?_⟩
      rw [SeqAt.eqv_refl _ (SeqAt.canLay_of_shaped sha)]
      refine ⟨true, rfl, iteT ?_⟩
      refine ⟨one_sz, fun u1 n1 => ⟨Nat.zero_le _, fun u2 n2 => ⟨Nat.zero_le _, fun u3 n3 => ⟨Nat.zero_le _, fun u4 n4 => ⟨by show 4 ≤ sizeLine; rw [sizeLine_eq]; decide, fun t nt => ?_⟩⟩⟩⟩⟩
      have lit := lit_ntf n1 n2 n3 n4 nt
      refine ⟨t, ["a"], [], [], [], rfl, lit, ns_a.l8, ns_a.l16, ns_a.l12, ns_a.l40, fun x hx => (ns_a.jl x hx).1, show_pre ns_a, ns_a.all, fun H3 s3 => ?_⟩
      rw [text_a]
      exact ⟨rfl, by rw [show decide (V.str "line a" = V.str "line a") = true from decide_eq_true rfl]; exact q _⟩
end
end Th
namespace Th
open PySem PySem.Spec PyProof.Rows L2
/-- a def's code object, by its function's data -/
theorem code_ref {K : PySem.W.Frag} {x : Str} {st : Stmt} {p : He.Defn} {fd : FuncData} (F : FnP K x st (He.fAd K p) fd) : fd.code = .ref (He.cT K p).1 := by
  obtain ⟨oc, od, dV, kV, doc, pm, an, cdv, ct, osl, rfl, lk, hcd, _, _⟩ := F.ex
  obtain ⟨c, e⟩ := He.codeIn_ref hcd
  have h := He.codeOf_eq lk (show _ = Value.ref c from e)
  show cdv = _
  rw [e]
  show Value.ref c = Value.ref (He.codeOf K p)
  rw [h]
theorem facts {w : World} {K : PySem.W.Frag} {h : Heap} {mg : Str → Option Value} {f : Addr} (X : K.In h) (G : h.Ns mainGlobals mg) (hfa : mg ("law" : Str) = some (.ref f)) (c' : He.SaysX fa fn ts tf exb w h K) :
    LamX.LawAtS PySem.Challenge.rw_throughlines_k80_nets_written w K CX0 9 63 "_law_script" mg f h := by
  have c := c'.t.d
  obtain ⟨d_is_whole, F_is_whole⟩ := c.def_ 0 (d := dd_is_whole) rfl
  have b_is_whole : Binds K d_is_whole ["thing"] [] := FunD.bindsN F_is_whole fun _ _ _ _ _ _ us hl => match us, hl with | [_], _ => rfl
  obtain ⟨d_is_whole_between, F_is_whole_between⟩ := c.def_ 1 (d := dd_is_whole_between) rfl
  have b_is_whole_between : Binds K d_is_whole_between ["thing", "least", "most"] [] := FunD.bindsN F_is_whole_between fun _ _ _ _ _ _ us hl => match us, hl with | [_, _, _], _ => rfl
  obtain ⟨d_is_name, F_is_name⟩ := c.def_ 2 (d := dd_is_name) rfl
  have b_is_name : Binds K d_is_name ["thing"] [] := FunD.bindsN F_is_name fun _ _ _ _ _ _ us hl => match us, hl with | [_], _ => rfl
  obtain ⟨d_is_tuple, F_is_tuple⟩ := c.def_ 3 (d := dd_is_tuple) rfl
  have b_is_tuple : Binds K d_is_tuple ["thing", "fewest", "most"] [] := FunD.bindsN F_is_tuple fun _ _ _ _ _ _ us hl => match us, hl with | [_, _, _], _ => rfl
  obtain ⟨d_all_unlike, F_all_unlike⟩ := c.def_ 4 (d := dd_all_unlike) rfl
  have b_all_unlike : Binds K d_all_unlike ["things"] [] := FunD.bindsN F_all_unlike fun _ _ _ _ _ _ us hl => match us, hl with | [_], _ => rfl
  obtain ⟨d_is_net, F_is_net⟩ := c.def_ 5 (d := dd_is_net) rfl
  have b_is_net : Binds K d_is_net ["thing"] [] := FunD.bindsN F_is_net fun _ _ _ _ _ _ us hl => match us, hl with | [_], _ => rfl
  obtain ⟨d_are_lines, F_are_lines⟩ := c.def_ 6 (d := dd_are_lines) rfl
  have b_are_lines : Binds K d_are_lines ["thing"] [] := FunD.bindsN F_are_lines fun _ _ _ _ _ _ us hl => match us, hl with | [_], _ => rfl
  obtain ⟨d_are_stations, F_are_stations⟩ := c.def_ 7 (d := dd_are_stations) rfl
  have b_are_stations : Binds K d_are_stations ["lines", "thing"] [] := FunD.bindsN F_are_stations fun _ _ _ _ _ _ us hl => match us, hl with | [_, _], _ => rfl
  obtain ⟨d_is_station, F_is_station⟩ := c.def_ 8 (d := dd_is_station) rfl
  have b_is_station : Binds K d_is_station ["lines", "thing"] [] := FunD.bindsN F_is_station fun _ _ _ _ _ _ us hl => match us, hl with | [_, _], _ => rfl
  obtain ⟨d_are_junctions, F_are_junctions⟩ := c.def_ 9 (d := dd_are_junctions) rfl
  have b_are_junctions : Binds K d_are_junctions ["lines", "thing"] [] := FunD.bindsN F_are_junctions fun _ _ _ _ _ _ us hl => match us, hl with | [_, _], _ => rfl
  obtain ⟨d_is_junction, F_is_junction⟩ := c.def_ 10 (d := dd_is_junction) rfl
  have b_is_junction : Binds K d_is_junction ["lines", "thing"] [] := FunD.bindsN F_is_junction fun _ _ _ _ _ _ us hl => match us, hl with | [_, _], _ => rfl
  obtain ⟨d_are_joined, F_are_joined⟩ := c.def_ 11 (d := dd_are_joined) rfl
  have b_are_joined : Binds K d_are_joined ["lines", "thing"] [] := FunD.bindsN F_are_joined fun _ _ _ _ _ _ us hl => match us, hl with | [_, _], _ => rfl
  obtain ⟨d_lines_by_place, F_lines_by_place⟩ := c.def_ 12 (d := dd_lines_by_place) rfl
  have b_lines_by_place : Binds K d_lines_by_place ["stations", "junctions"] [] := FunD.bindsN F_lines_by_place fun _ _ _ _ _ _ us hl => match us, hl with | [_, _], _ => rfl
  obtain ⟨d_are_ties, F_are_ties⟩ := c.def_ 13 (d := dd_are_ties) rfl
  have b_are_ties : Binds K d_are_ties ["places", "thing"] [] := FunD.bindsN F_are_ties fun _ _ _ _ _ _ us hl => match us, hl with | [_, _], _ => rfl
  obtain ⟨d_is_tie, F_is_tie⟩ := c.def_ 14 (d := dd_is_tie) rfl
  have b_is_tie : Binds K d_is_tie ["places", "thing"] [] := FunD.bindsN F_is_tie fun _ _ _ _ _ _ us hl => match us, hl with | [_, _], _ => rfl
  obtain ⟨d_words_of, F_words_of⟩ := c.def_ 15 (d := dd_words_of) rfl
  have b_words_of : Binds K d_words_of ["thing"] [] := FunD.bindsN F_words_of fun _ _ _ _ _ _ us hl => match us, hl with | [_], _ => rfl
  obtain ⟨d_is_plain, F_is_plain⟩ := c.def_ 16 (d := dd_is_plain) rfl
  have b_is_plain : Binds K d_is_plain ["word"] [] := FunD.bindsN F_is_plain fun _ _ _ _ _ _ us hl => match us, hl with | [_], _ => rfl
  obtain ⟨d_fits, F_fits⟩ := c.def_ 17 (d := dd_fits) rfl
  have b_fits : Binds K d_fits ["slot", "word"] [] := FunD.bindsN F_fits fun _ _ _ _ _ _ us hl => match us, hl with | [_, _], _ => rfl
  obtain ⟨d_things_in, F_things_in⟩ := c.def_ 18 (d := dd_things_in) rfl
  have b_things_in : Binds K d_things_in ["slots", "words"] [] := FunD.bindsN F_things_in fun _ _ _ _ _ _ us hl => match us, hl with | [_, _], _ => rfl
  obtain ⟨d_house_in, F_house_in⟩ := c.def_ 19 (d := dd_house_in) rfl
  have b_house_in : Binds K d_house_in ["words"] [] := FunD.bindsN F_house_in fun _ _ _ _ _ _ us hl => match us, hl with | [_], _ => rfl
  obtain ⟨d_net_of_rows, F_net_of_rows⟩ := c.def_ 20 (d := dd_net_of_rows) rfl
  have b_net_of_rows : Binds K d_net_of_rows ["house"] [] := FunD.bindsN F_net_of_rows fun _ _ _ _ _ _ us hl => match us, hl with | [_], _ => rfl
  obtain ⟨d_show_row, F_show_row⟩ := c.def_ 21 (d := dd_show_row) rfl
  have b_show_row : Binds K d_show_row ["things"] [] := FunD.bindsN F_show_row fun _ _ _ _ _ _ us hl => match us, hl with | [_], _ => rfl
  obtain ⟨d_show_net, F_show_net⟩ := c.def_ 22 (d := dd_show_net) rfl
  have b_show_net : Binds K d_show_net ["net"] [] := FunD.bindsN F_show_net fun _ _ _ _ _ _ us hl => match us, hl with | [_], _ => rfl
  obtain ⟨d_read_net, F_read_net⟩ := c.def_ 23 (d := dd_read_net) rfl
  have b_read_net : Binds K d_read_net ["thing"] [] := FunD.bindsN F_read_net fun _ _ _ _ _ _ us hl => match us, hl with | [_], _ => rfl
  obtain ⟨d_net_in, F_net_in⟩ := c.def_ 24 (d := dd_net_in) rfl
  have b_net_in : Binds K d_net_in ["thing"] [] := FunD.bindsN F_net_in fun _ _ _ _ _ _ us hl => match us, hl with | [_], _ => rfl
  obtain ⟨d_l_bag, F_l_bag⟩ := c.def_ 25 (d := dd_l_bag) rfl
  have b_l_bag : Binds K d_l_bag ["_law_script", "_law_at"] [] := FunD.bindsN F_l_bag fun _ _ _ _ _ _ us hl => match us, hl with | [_, _], _ => rfl
  obtain ⟨d_l_take, F_l_take⟩ := c.def_ 26 (d := dd_l_take) rfl
  have b_l_take : Binds K d_l_take ["_law_bag_here", "_law_many"] [] := FunD.bindsN F_l_take fun _ _ _ _ _ _ us hl => match us, hl with | [_, _], _ => rfl
  obtain ⟨d_l_names, F_l_names⟩ := c.def_ 27 (d := dd_l_names) rfl
  have b_l_names : Binds K d_l_names ["_law_bag_here", "_law_many", "_law_head", "_law_tail"] [] := FunD.bindsN F_l_names fun _ _ _ _ _ _ us hl => match us, hl with | [_, _, _, _], _ => rfl
  obtain ⟨d_l_net, F_l_net⟩ := c.def_ 28 (d := dd_l_net) rfl
  have b_l_net : Binds K d_l_net ["_law_bag_here"] [] := FunD.bindsN F_l_net fun _ _ _ _ _ _ us hl => match us, hl with | [_], _ => rfl
  obtain ⟨d_l_which, F_l_which⟩ := c.def_ 29 (d := dd_l_which) rfl
  have b_l_which : Binds K d_l_which ["_law_e"] [] := FunD.bindsN F_l_which fun _ _ _ _ _ _ us hl => match us, hl with | [_], _ => rfl
  obtain ⟨d_l_try, F_l_try⟩ := c.def_ 30 (d := dd_l_try) rfl
  have b_l_try : Binds K d_l_try ["_law_deed"] [] := FunD.bindsN F_l_try fun _ _ _ _ _ _ us hl => match us, hl with | [_], _ => rfl
  obtain ⟨d_l_net_text, F_l_net_text⟩ := c.def_ 31 (d := dd_l_net_text) rfl
  have b_l_net_text : Binds K d_l_net_text ["_law_net_here"] [] := FunD.bindsN F_l_net_text fun _ _ _ _ _ _ us hl => match us, hl with | [_], _ => rfl
  obtain ⟨d_l_plain, F_l_plain⟩ := c.def_ 32 (d := dd_l_plain) rfl
  have b_l_plain : Binds K d_l_plain ["_law_word"] [] := FunD.bindsN F_l_plain fun _ _ _ _ _ _ us hl => match us, hl with | [_], _ => rfl
  obtain ⟨d_l_read, F_l_read⟩ := c.def_ 33 (d := dd_l_read) rfl
  have b_l_read : Binds K d_l_read ["_law_text"] [] := FunD.bindsN F_l_read fun _ _ _ _ _ _ us hl => match us, hl with | [_], _ => rfl
  obtain ⟨d_l_near, F_l_near⟩ := c.def_ 34 (d := dd_l_near) rfl
  have b_l_near : Binds K d_l_near ["_law_bag_here", "_law_text"] [] := FunD.bindsN F_l_near fun _ _ _ _ _ _ us hl => match us, hl with | [_, _], _ => rfl
  obtain ⟨d_law, F_law⟩ := c.def_ 35 (d := dd_law) rfl
  obtain ⟨t_LONGEST_NAME, c_LONGEST_NAME⟩ := He.int_ok X G (c.fact 36 (f := .int "LONGEST_NAME" 8) rfl)
  obtain ⟨t_MOST_LINES, c_MOST_LINES⟩ := He.int_ok X G (c.fact 37 (f := .int "MOST_LINES" 8) rfl)
  obtain ⟨t_MOST_STATIONS, c_MOST_STATIONS⟩ := He.int_ok X G (c.fact 38 (f := .int "MOST_STATIONS" 16) rfl)
  obtain ⟨t_MOST_JUNCTIONS, c_MOST_JUNCTIONS⟩ := He.int_ok X G (c.fact 39 (f := .int "MOST_JUNCTIONS" 12) rfl)
  obtain ⟨t_MOST_TIES, c_MOST_TIES⟩ := He.int_ok X G (c.fact 40 (f := .int "MOST_TIES" 40) rfl)
  obtain ⟨t_MOST_CHAINS, c_MOST_CHAINS⟩ := He.int_ok X G (c.fact 41 (f := .int "MOST_CHAINS" 9999) rfl)
  obtain ⟨t_MOST_FIGURES, c_MOST_FIGURES⟩ := He.int_ok X G (c.fact 42 (f := .int "MOST_FIGURES" 10) rfl)
  obtain ⟨o_NET_ROWS, k_NET_ROWS, u_NET_ROWS⟩ := Lka.tup_ok (He.ba (He.ba (He.ba (He.ba c'.more).2).2).2).1
  obtain ⟨es_HOUSE_ROWS, n_HOUSE_ROWS, D_HOUSE_ROWS⟩ := c'.t.tab 0
  have kn_HOUSE_ROWS := WrK.keys_of c'.t 0 (t := (fun K => He.ga K "HOUSE_ROWS", ["line", "station", "junction", "tie", "way", "wagon", "rules"])) rfl
  obtain ⟨o_HOUSE_ROWS_0, k_HOUSE_ROWS_0, u_HOUSE_ROWS_0⟩ := Lka.tup_ok (He.ba (He.ba (He.ba (He.ba (He.ba (He.ba (He.ba (He.ba (He.ba (He.ba (He.ba (He.ba c'.more).2).2).2).2).2).2).2).2).2).2).2).1
  obtain ⟨o_HOUSE_ROWS_1, k_HOUSE_ROWS_1, u_HOUSE_ROWS_1⟩ := Lka.tup_ok (He.ba (He.ba (He.ba (He.ba (He.ba (He.ba (He.ba (He.ba (He.ba (He.ba (He.ba (He.ba (He.ba c'.more).2).2).2).2).2).2).2).2).2).2).2).2).1
  obtain ⟨o_HOUSE_ROWS_2, k_HOUSE_ROWS_2, u_HOUSE_ROWS_2⟩ := Lka.tup_ok (He.ba (He.ba (He.ba (He.ba (He.ba (He.ba (He.ba (He.ba (He.ba (He.ba (He.ba (He.ba (He.ba (He.ba c'.more).2).2).2).2).2).2).2).2).2).2).2).2).2).1
  obtain ⟨o_HOUSE_ROWS_3, k_HOUSE_ROWS_3, u_HOUSE_ROWS_3⟩ := Lka.tup_ok (He.ba (He.ba (He.ba (He.ba (He.ba (He.ba (He.ba (He.ba (He.ba (He.ba (He.ba (He.ba (He.ba (He.ba (He.ba c'.more).2).2).2).2).2).2).2).2).2).2).2).2).2).2).1
  obtain ⟨o_HOUSE_ROWS_4, k_HOUSE_ROWS_4, u_HOUSE_ROWS_4⟩ := Lka.tup_ok (He.ba (He.ba (He.ba (He.ba (He.ba (He.ba (He.ba (He.ba (He.ba (He.ba (He.ba (He.ba (He.ba (He.ba (He.ba (He.ba c'.more).2).2).2).2).2).2).2).2).2).2).2).2).2).2).2).1
  obtain ⟨o_HOUSE_ROWS_5, k_HOUSE_ROWS_5, u_HOUSE_ROWS_5⟩ := Lka.tup_ok (He.ba (He.ba (He.ba (He.ba (He.ba (He.ba (He.ba (He.ba (He.ba (He.ba (He.ba (He.ba (He.ba (He.ba (He.ba (He.ba (He.ba c'.more).2).2).2).2).2).2).2).2).2).2).2).2).2).2).2).2).1
  obtain ⟨o_HOUSE_ROWS_6, k_HOUSE_ROWS_6, u_HOUSE_ROWS_6⟩ := Lka.tup_ok (He.ba (He.ba (He.ba (He.ba (He.ba (He.ba (He.ba (He.ba (He.ba (He.ba (He.ba (He.ba (He.ba (He.ba (He.ba (He.ba (He.ba c'.more).2).2).2).2).2).2).2).2).2).2).2).2).2).2).2).2).2
  let T : Defs K mg := {
    a_is_whole := _,
    d_is_whole := d_is_whole,
    F_is_whole := F_is_whole,
    g_is_whole := He.glo_ok X G (c.fact 0 (f := .glo "is_whole") rfl),
    b_is_whole := b_is_whole,
    a_is_whole_between := _,
    d_is_whole_between := d_is_whole_between,
    F_is_whole_between := F_is_whole_between,
    g_is_whole_between := He.glo_ok X G (c.fact 1 (f := .glo "is_whole_between") rfl),
    b_is_whole_between := b_is_whole_between,
    a_is_name := _,
    d_is_name := d_is_name,
    F_is_name := F_is_name,
    g_is_name := He.glo_ok X G (c.fact 2 (f := .glo "is_name") rfl),
    b_is_name := b_is_name,
    a_is_tuple := _,
    d_is_tuple := d_is_tuple,
    F_is_tuple := F_is_tuple,
    g_is_tuple := He.glo_ok X G (c.fact 3 (f := .glo "is_tuple") rfl),
    b_is_tuple := b_is_tuple,
    a_all_unlike := _,
    d_all_unlike := d_all_unlike,
    F_all_unlike := F_all_unlike,
    g_all_unlike := He.glo_ok X G (c.fact 4 (f := .glo "all_unlike") rfl),
    b_all_unlike := b_all_unlike,
    a_is_net := _,
    d_is_net := d_is_net,
    F_is_net := F_is_net,
    g_is_net := He.glo_ok X G (c.fact 5 (f := .glo "is_net") rfl),
    b_is_net := b_is_net,
    a_are_lines := _,
    d_are_lines := d_are_lines,
    F_are_lines := F_are_lines,
    g_are_lines := He.glo_ok X G (c.fact 6 (f := .glo "are_lines") rfl),
    b_are_lines := b_are_lines,
    a_are_stations := _,
    d_are_stations := d_are_stations,
    F_are_stations := F_are_stations,
    g_are_stations := He.glo_ok X G (c.fact 7 (f := .glo "are_stations") rfl),
    b_are_stations := b_are_stations,
    a_is_station := _,
    d_is_station := d_is_station,
    F_is_station := F_is_station,
    g_is_station := He.glo_ok X G (c.fact 8 (f := .glo "is_station") rfl),
    b_is_station := b_is_station,
    a_are_junctions := _,
    d_are_junctions := d_are_junctions,
    F_are_junctions := F_are_junctions,
    g_are_junctions := He.glo_ok X G (c.fact 9 (f := .glo "are_junctions") rfl),
    b_are_junctions := b_are_junctions,
    a_is_junction := _,
    d_is_junction := d_is_junction,
    F_is_junction := F_is_junction,
    g_is_junction := He.glo_ok X G (c.fact 10 (f := .glo "is_junction") rfl),
    b_is_junction := b_is_junction,
    a_are_joined := _,
    d_are_joined := d_are_joined,
    F_are_joined := F_are_joined,
    g_are_joined := He.glo_ok X G (c.fact 11 (f := .glo "are_joined") rfl),
    b_are_joined := b_are_joined,
    a_lines_by_place := _,
    d_lines_by_place := d_lines_by_place,
    F_lines_by_place := F_lines_by_place,
    g_lines_by_place := He.glo_ok X G (c.fact 12 (f := .glo "lines_by_place") rfl),
    b_lines_by_place := b_lines_by_place,
    a_are_ties := _,
    d_are_ties := d_are_ties,
    F_are_ties := F_are_ties,
    g_are_ties := He.glo_ok X G (c.fact 13 (f := .glo "are_ties") rfl),
    b_are_ties := b_are_ties,
    a_is_tie := _,
    d_is_tie := d_is_tie,
    F_is_tie := F_is_tie,
    g_is_tie := He.glo_ok X G (c.fact 14 (f := .glo "is_tie") rfl),
    b_is_tie := b_is_tie,
    a_words_of := _,
    d_words_of := d_words_of,
    F_words_of := F_words_of,
    g_words_of := He.glo_ok X G (c.fact 15 (f := .glo "words_of") rfl),
    b_words_of := b_words_of,
    a_is_plain := _,
    d_is_plain := d_is_plain,
    F_is_plain := F_is_plain,
    g_is_plain := He.glo_ok X G (c.fact 16 (f := .glo "is_plain") rfl),
    b_is_plain := b_is_plain,
    a_fits := _,
    d_fits := d_fits,
    F_fits := F_fits,
    g_fits := He.glo_ok X G (c.fact 17 (f := .glo "fits") rfl),
    b_fits := b_fits,
    a_things_in := _,
    d_things_in := d_things_in,
    F_things_in := F_things_in,
    g_things_in := He.glo_ok X G (c.fact 18 (f := .glo "things_in") rfl),
    b_things_in := b_things_in,
    a_house_in := _,
    d_house_in := d_house_in,
    F_house_in := F_house_in,
    g_house_in := He.glo_ok X G (c.fact 19 (f := .glo "house_in") rfl),
    b_house_in := b_house_in,
    a_net_of_rows := _,
    d_net_of_rows := d_net_of_rows,
    F_net_of_rows := F_net_of_rows,
    g_net_of_rows := He.glo_ok X G (c.fact 20 (f := .glo "net_of_rows") rfl),
    b_net_of_rows := b_net_of_rows,
    a_show_row := _,
    d_show_row := d_show_row,
    F_show_row := F_show_row,
    g_show_row := He.glo_ok X G (c.fact 21 (f := .glo "show_row") rfl),
    b_show_row := b_show_row,
    a_show_net := _,
    d_show_net := d_show_net,
    F_show_net := F_show_net,
    g_show_net := He.glo_ok X G (c.fact 22 (f := .glo "show_net") rfl),
    b_show_net := b_show_net,
    a_read_net := _,
    d_read_net := d_read_net,
    F_read_net := F_read_net,
    g_read_net := He.glo_ok X G (c.fact 23 (f := .glo "read_net") rfl),
    b_read_net := b_read_net,
    a_net_in := _,
    d_net_in := d_net_in,
    F_net_in := F_net_in,
    g_net_in := He.glo_ok X G (c.fact 24 (f := .glo "net_in") rfl),
    b_net_in := b_net_in,
    a_l_bag := _,
    d_l_bag := d_l_bag,
    F_l_bag := F_l_bag,
    g_l_bag := He.glo_ok X G (c.fact 25 (f := .glo "_law_bag") rfl),
    b_l_bag := b_l_bag,
    a_l_take := _,
    d_l_take := d_l_take,
    F_l_take := F_l_take,
    g_l_take := He.glo_ok X G (c.fact 26 (f := .glo "_law_take") rfl),
    b_l_take := b_l_take,
    a_l_names := _,
    d_l_names := d_l_names,
    F_l_names := F_l_names,
    g_l_names := He.glo_ok X G (c.fact 27 (f := .glo "_law_names") rfl),
    b_l_names := b_l_names,
    a_l_net := _,
    d_l_net := d_l_net,
    F_l_net := F_l_net,
    g_l_net := He.glo_ok X G (c.fact 28 (f := .glo "_law_net") rfl),
    b_l_net := b_l_net,
    a_l_which := _,
    d_l_which := d_l_which,
    F_l_which := F_l_which,
    g_l_which := He.glo_ok X G (c.fact 29 (f := .glo "_law_which") rfl),
    b_l_which := b_l_which,
    a_l_try := _,
    d_l_try := d_l_try,
    F_l_try := F_l_try,
    g_l_try := He.glo_ok X G (c.fact 30 (f := .glo "_law_try") rfl),
    b_l_try := b_l_try,
    a_l_net_text := _,
    d_l_net_text := d_l_net_text,
    F_l_net_text := F_l_net_text,
    g_l_net_text := He.glo_ok X G (c.fact 31 (f := .glo "_law_net_text") rfl),
    b_l_net_text := b_l_net_text,
    a_l_plain := _,
    d_l_plain := d_l_plain,
    F_l_plain := F_l_plain,
    g_l_plain := He.glo_ok X G (c.fact 32 (f := .glo "_law_plain") rfl),
    b_l_plain := b_l_plain,
    a_l_read := _,
    d_l_read := d_l_read,
    F_l_read := F_l_read,
    g_l_read := He.glo_ok X G (c.fact 33 (f := .glo "_law_read") rfl),
    b_l_read := b_l_read,
    a_l_near := _,
    d_l_near := d_l_near,
    F_l_near := F_l_near,
    g_l_near := He.glo_ok X G (c.fact 34 (f := .glo "_law_near") rfl),
    b_l_near := b_l_near,
    t_LONGEST_NAME := t_LONGEST_NAME,
    c_LONGEST_NAME := c_LONGEST_NAME,
    t_MOST_LINES := t_MOST_LINES,
    c_MOST_LINES := c_MOST_LINES,
    t_MOST_STATIONS := t_MOST_STATIONS,
    c_MOST_STATIONS := c_MOST_STATIONS,
    t_MOST_JUNCTIONS := t_MOST_JUNCTIONS,
    c_MOST_JUNCTIONS := c_MOST_JUNCTIONS,
    t_MOST_TIES := t_MOST_TIES,
    c_MOST_TIES := c_MOST_TIES,
    t_MOST_CHAINS := t_MOST_CHAINS,
    c_MOST_CHAINS := c_MOST_CHAINS,
    t_MOST_FIGURES := t_MOST_FIGURES,
    c_MOST_FIGURES := c_MOST_FIGURES,
    z_ValueError := He.free_ok X G (c.fact 43 (f := .free "ValueError") rfl),
    z_abs := He.free_ok X G (c.fact 44 (f := .free "abs") rfl),
    z_all := He.free_ok X G (c.fact 45 (f := .free "all") rfl),
    z_bool := He.free_ok X G (c.fact 46 (f := .free "bool") rfl),
    z_int := He.free_ok X G (c.fact 47 (f := .free "int") rfl),
    z_isinstance := He.free_ok X G (c.fact 48 (f := .free "isinstance") rfl),
    z_len := He.free_ok X G (c.fact 49 (f := .free "len") rfl),
    z_max := He.free_ok X G (c.fact 50 (f := .free "max") rfl),
    z_min := He.free_ok X G (c.fact 51 (f := .free "min") rfl),
    z_range := He.free_ok X G (c.fact 52 (f := .free "range") rfl),
    z_set := He.free_ok X G (c.fact 53 (f := .free "set") rfl),
    z_sorted := He.free_ok X G (c.fact 54 (f := .free "sorted") rfl),
    z_str := He.free_ok X G (c.fact 55 (f := .free "str") rfl),
    z_super := He.free_ok X G (c.fact 56 (f := .free "super") rfl),
    z_tuple := He.free_ok X G (c.fact 57 (f := .free "tuple") rfl),
    z_zip := He.free_ok X G (c.fact 58 (f := .free "zip") rfl),
    a_HouseError := _,
    g_HouseError := He.glo_ok X G (c.fact 59 (f := .glo "HouseError") rfl),
    a_NoNet := _,
    g_NoNet := He.glo_ok X G (c.fact 60 (f := .glo "NoNet") rfl),
    a_NoWay := _,
    g_NoWay := He.glo_ok X G (c.fact 61 (f := .glo "NoWay") rfl),
    a_NoWagon := _,
    g_NoWagon := He.glo_ok X G (c.fact 62 (f := .glo "NoWagon") rfl),
    a_NoRules := _,
    g_NoRules := He.glo_ok X G (c.fact 63 (f := .glo "NoRules") rfl),
    a_NoPaper := _,
    g_NoPaper := He.glo_ok X G (c.fact 64 (f := .glo "NoPaper") rfl),
    a_NoProof := _,
    g_NoProof := He.glo_ok X G (c.fact 65 (f := .glo "NoProof") rfl),
    a_NotYet := _,
    g_NotYet := He.glo_ok X G (c.fact 66 (f := .glo "NotYet") rfl),
    a_TooMany := _,
    g_TooMany := He.glo_ok X G (c.fact 67 (f := .glo "TooMany") rfl),
    a_TooLate := _,
    g_TooLate := He.glo_ok X G (c.fact 68 (f := .glo "TooLate") rfl),
    a_NoLine := _,
    g_NoLine := He.glo_ok X G (c.fact 69 (f := .glo "NoLine") rfl),
    a_Stopped := _,
    g_Stopped := He.glo_ok X G (c.fact 70 (f := .glo "Stopped") rfl),
    a_NoMonth := _,
    g_NoMonth := He.glo_ok X G (c.fact 71 (f := .glo "NoMonth") rfl),
    a_NoBill := _,
    g_NoBill := He.glo_ok X G (c.fact 72 (f := .glo "NoBill") rfl),
    a_NoText := _,
    g_NoText := He.glo_ok X G (c.fact 73 (f := .glo "NoText") rfl),
    a_NoSaying := _,
    g_NoSaying := He.glo_ok X G (c.fact 74 (f := .glo "NoSaying") rfl),
    p_NoText := PlE.plain_ok (He.ba c'.more).1,
    w_NoText := PlE.wch_ok (He.ba (He.ba c'.more).2).1,
    y_NoText := of_decide_eq_true (He.ba (He.ba (He.ba c'.more).2).2).1,
    a_NET_ROWS := _,
    o_NET_ROWS := o_NET_ROWS,
    g_NET_ROWS := He.glo_ok X G (c.fact 75 (f := .glo "NET_ROWS") rfl),
    k_NET_ROWS := k_NET_ROWS,
    u_NET_ROWS := u_NET_ROWS,
    a_HOUSE_ROWS := _,
    g_HOUSE_ROWS := He.glo_ok X G (c.fact 76 (f := .glo "HOUSE_ROWS") rfl),
    a_HOUSE_ROWS_0 := _,
    o_HOUSE_ROWS_0 := o_HOUSE_ROWS_0,
    k_HOUSE_ROWS_0 := k_HOUSE_ROWS_0,
    u_HOUSE_ROWS_0 := u_HOUSE_ROWS_0,
    a_HOUSE_ROWS_1 := _,
    o_HOUSE_ROWS_1 := o_HOUSE_ROWS_1,
    k_HOUSE_ROWS_1 := k_HOUSE_ROWS_1,
    u_HOUSE_ROWS_1 := u_HOUSE_ROWS_1,
    a_HOUSE_ROWS_2 := _,
    o_HOUSE_ROWS_2 := o_HOUSE_ROWS_2,
    k_HOUSE_ROWS_2 := k_HOUSE_ROWS_2,
    u_HOUSE_ROWS_2 := u_HOUSE_ROWS_2,
    a_HOUSE_ROWS_3 := _,
    o_HOUSE_ROWS_3 := o_HOUSE_ROWS_3,
    k_HOUSE_ROWS_3 := k_HOUSE_ROWS_3,
    u_HOUSE_ROWS_3 := u_HOUSE_ROWS_3,
    a_HOUSE_ROWS_4 := _,
    o_HOUSE_ROWS_4 := o_HOUSE_ROWS_4,
    k_HOUSE_ROWS_4 := k_HOUSE_ROWS_4,
    u_HOUSE_ROWS_4 := u_HOUSE_ROWS_4,
    a_HOUSE_ROWS_5 := _,
    o_HOUSE_ROWS_5 := o_HOUSE_ROWS_5,
    k_HOUSE_ROWS_5 := k_HOUSE_ROWS_5,
    u_HOUSE_ROWS_5 := u_HOUSE_ROWS_5,
    a_HOUSE_ROWS_6 := _,
    o_HOUSE_ROWS_6 := o_HOUSE_ROWS_6,
    k_HOUSE_ROWS_6 := k_HOUSE_ROWS_6,
    u_HOUSE_ROWS_6 := u_HOUSE_ROWS_6 }
  have DT : DicT w T := {
    d_HOUSE_ROWS_0 := ⟨_, _, _, D_HOUSE_ROWS.at_, D_HOUSE_ROWS.lit, He.eqO_ok (He.ba (He.ba (He.ba (He.ba (He.ba c'.more).2).2).2).2).1, rfl⟩,
    d_HOUSE_ROWS_1 := ⟨_, _, _, D_HOUSE_ROWS.at_, D_HOUSE_ROWS.lit, He.eqO_ok (He.ba (He.ba (He.ba (He.ba (He.ba (He.ba c'.more).2).2).2).2).2).1, rfl⟩,
    d_HOUSE_ROWS_2 := ⟨_, _, _, D_HOUSE_ROWS.at_, D_HOUSE_ROWS.lit, He.eqO_ok (He.ba (He.ba (He.ba (He.ba (He.ba (He.ba (He.ba c'.more).2).2).2).2).2).2).1, rfl⟩,
    d_HOUSE_ROWS_3 := ⟨_, _, _, D_HOUSE_ROWS.at_, D_HOUSE_ROWS.lit, He.eqO_ok (He.ba (He.ba (He.ba (He.ba (He.ba (He.ba (He.ba (He.ba c'.more).2).2).2).2).2).2).2).1, rfl⟩,
    d_HOUSE_ROWS_4 := ⟨_, _, _, D_HOUSE_ROWS.at_, D_HOUSE_ROWS.lit, He.eqO_ok (He.ba (He.ba (He.ba (He.ba (He.ba (He.ba (He.ba (He.ba (He.ba c'.more).2).2).2).2).2).2).2).2).1, rfl⟩,
    d_HOUSE_ROWS_5 := ⟨_, _, _, D_HOUSE_ROWS.at_, D_HOUSE_ROWS.lit, He.eqO_ok (He.ba (He.ba (He.ba (He.ba (He.ba (He.ba (He.ba (He.ba (He.ba (He.ba c'.more).2).2).2).2).2).2).2).2).2).1, rfl⟩,
    d_HOUSE_ROWS_6 := ⟨_, _, _, D_HOUSE_ROWS.at_, D_HOUSE_ROWS.lit, He.eqO_ok (He.ba (He.ba (He.ba (He.ba (He.ba (He.ba (He.ba (He.ba (He.ba (He.ba (He.ba c'.more).2).2).2).2).2).2).2).2).2).2).1, rfl⟩,
    n_HOUSE_ROWS := fun z hz => WrK.keys_at kn_HOUSE_ROWS hz,
    l_HOUSE_ROWS := D_HOUSE_ROWS.low }
  have e := hfa.symm.trans (He.glo_ok X G (c.fact 35 (f := .glo "law") rfl))
  cases e
  have b := FunD.bindsA (ps := ["_law_script"]) F_law fun _ _ _ _ _ _ us hl => match us, hl with | [_], _ => rfl
  refine ⟨d_law, tf.map (He.cT K), sp_law T (He.cT K ("law", none)).2, fun p hp => ?_, fun p hp => ?_, fun p hp => ?_, fun s v => b s [v] rfl, fun H a ns hl _ hH hS => ⟨a, ns, rfl, hS, hl, LamX.TabS.nil (hH (He.cT K ("law", none)) (List.mem_map_of_mem (f := He.cT K) (List.mem_of_getElem? (l := tf) (i := 0) rfl))), fun _ => rfl⟩, fun base _ _ hTB => ok_law F_law T (hTB (He.cT K ("law", none)) (List.mem_map_of_mem (f := He.cT K) (List.mem_of_getElem? (l := tf) (i := 0) rfl))) (code_ref (x := "law") (st := s_law) (p := ("law", none)) F_law) DT⟩
  · obtain ⟨q, hq, rfl⟩ := List.mem_map.mp hp
    exact c'.empty q hq
  · obtain ⟨q, hq, rfl⟩ := List.mem_map.mp hp
    exact c'.out q hq
  · obtain ⟨q, hq, rfl⟩ := List.mem_map.mp hp
    exact PySem.W.codeHd_of_K X (c'.hd q hq)
end Th
open PySem PySem.W PySem.Calls PyProof.Rows
set_option maxHeartbeats 0 in
theorem PySem.Challenge.cw_throughlines_k80_nets_written_holds : PySem.Challenge.rw_throughlines_k80_nets_written.Holds := by
  w_on; o_law
  refine HandSHeadRun.head_any (r := OpenLaw.row PySem.Challenge.rw_throughlines_k80_nets_written) (q := view (OpenLaw.row PySem.Challenge.rw_throughlines_k80_nets_written).prog [66]) (H := Th.hk) (ob := Th.ob) (M := 8000) (loose := Th.loose) (d := HandSHeadRun.topDef (OpenLaw.row PySem.Challenge.rw_throughlines_k80_nets_written).prog 66) (kwd := []) Th.ob_eq
    (by kernel_rfl) (fun s => by kernel_rfl) Th.run (by kernel_rfl) (by kernel_rfl) (by kernel_rfl) (by rfl) (by first | assumption | decide +kernel) (by decide +kernel) ⟨rfl, rfl, rfl, rfl, rfl, by decide +kernel⟩ ?hw ?hc
  case hw => w_witness2
  case hc =>
    refine LamX.walk_ofTsE (l := PySem.Challenge.rw_throughlines_k80_nets_written) (n := 63) (k := 9) (x := "_law_script") (CX := fun _ => L2.CX0) rfl (by decide) (by kernel_rfl) ⟨rfl, by decide, by decide⟩ ?F (fun _ _ _ _ _ z => z)
    intro w mg fa h Y G hmg0
    obtain ⟨K, KX, c⟩ := Y
    have hmg : mg ("law" : PySem.Str) = some (.ref fa) := by
      have e : (HandSHeadRun.topDef (OpenLaw.row PySem.Challenge.rw_throughlines_k80_nets_written).prog 66).name = ("law" : PySem.Str) := by kernel_rfl
      rw [← e]
      exact hmg0
    exact ⟨K, KX, Th.facts KX G hmg c⟩
