import PyProof.Rows.All
import Wide.All
import OpenK.AllK
import Wide.FinOn
import KE.KStateDown
import Lean
import HandS.ForMost
import HandS.More
import HandS.WordsExc
import HandS.Defaults
import HandS.IsInst
import HandS.Zip
import HandS.Walk
import HandS.Wide
import HandS.Flow
import HandS.Evl
import HandS.Strs
import HandS.SetFor
import KE.KDictZip
import KE.KItemsList
import HandS.DictComp
import HandS.Style
import HandS.Set
import HandS.SetBool
import KE.DatumOrd
import HandS.TupAny
import HandS.Codes
import KE.KDictPairs
import KE.SortData
import HandS.ReCall
import KE.KRevSl
import KE.GoesZip
import KE.GoesMore
import KE.GoesEnum
import KE.SortKeyHeap
import KE.KLam
import HandS.Conv
import HandS.Lambda
import HandS.EndTab
import HandS.HeadWalk
import HandS.HeadHook4
import KE.KIndexOf
import KE.GoesEnumKw
import HandS.Deep
import HandS.Text
import PyProof.Rows.IntBool
import KE.DataFind
import HandS.TupSets
import HandS.List
import PyProof.Rows.SortStr
import HandS.TupMul
import HandS.DictTup
import HandS.ListItems
import HandS.TupLe
import HandS.Head0
import HandS.Head1
import HandS.Head2
import HandS.HeadEnd
import HandS.HeadHook1
import HandS.HeadHook2
import PySem.Challenge.RW_throughlines_k05_what_is_a_net
set_option Elab.async false
set_option linter.all false
set_option maxRecDepth 100000
set_option maxHeartbeats 4000000
namespace Th
open PySem PySem.Spec PyProof.Rows L2
theorem same_upd {H : Hp} {p : Addr} {o : HO} (h : H p = none) : Same H (upd H p o) := fun b x e => by
  rw [upd_ne (ne_of_none e h)]
  exact e
/-- all but p stays -/
def Keep (p : Addr) (H H' : Hp) : Prop := ∀ b o, b ≠ p → H b = some o → H' b = some o
theorem Keep.refl (p : Addr) (H : Hp) : Keep p H H := fun _ _ _ h => h
theorem Keep.trans {p : Addr} {H H1 H2 : Hp} (a : Keep p H H1) (b : Keep p H1 H2) : Keep p H H2 := fun c o n h => b c o n (a c o n h)
theorem Keep.of {p : Addr} {H H1 : Hp} (a : Same H H1) : Keep p H H1 := fun c o _ h => a c o h
theorem Keep.upd {p : Addr} {H : Hp} {o : HO} : Keep p H (upd H p o) := fun c o n h => by rw [upd_ne n]; exact h
/-- the bag of draws at p -/
def Bag (H : Hp) (p : Addr) : Prop := ∃ g r : Int, H p = some (.lst [.int g, .int r]) ∧ 0 ≤ g ∧ 0 ≤ r ∧ r < 2147483648
theorem Bag.keep {H H' : Hp} {p : Addr} (b : Bag H p) (s : Same H H') : Bag H' p := by
  obtain ⟨g, r, e, h⟩ := b
  exact ⟨g, r, s _ _ e, h⟩
theorem Bag.some {H : Hp} {p : Addr} (b : Bag H p) : ∃ o, H p = Option.some o := by
  obtain ⟨g, r, e, _⟩ := b
  exact ⟨_, e⟩
theorem Bag.ne {H : Hp} {p q : Addr} (b : Bag H p) (h : H q = none) : q ≠ p := by
  obtain ⟨g, r, e, _⟩ := b
  exact (ne_of_none e h).symm
theorem p8 : (0 : Int) < 8 := by decide
theorem pA : (0 : Int) < 2147483647 := by decide
theorem pB : (0 : Int) < 2147483629 := by decide
theorem primes_at (i : Nat) : ∃ pr : Int, atI [V.int 2147483629, .int 2147483587, .int 2147483579, .int 2147483563, .int 2147483549, .int 2147483543, .int 2147483497, .int 2147483489] ((i : Int) % 8) = some (.int pr) ∧ 0 < pr ∧ pr < 2147483648 := by
  have e : ((i : Int) % 8) = ((i % 8 : Nat) : Int) := by omega
  rw [e]
  have h : i % 8 < 8 := Nat.mod_lt _ (by decide)
  generalize i % 8 = j at h
  have c : j = 0 ∨ j = 1 ∨ j = 2 ∨ j = 3 ∨ j = 4 ∨ j = 5 ∨ j = 6 ∨ j = 7 := by omega
  rcases c with rfl | rfl | rfl | rfl | rfl | rfl | rfl | rfl
  all_goals exact ⟨_, atI_nat rfl, by decide, by decide⟩
def sp_bag (K : PySem.W.Frag) : Sp := fun vs H Q _ => ∃ (a : Addr) (ns : List Int) (i : Nat), vs = [.ref a, .int i] ∧ SqL K H a (ns.map V.int) ∧ i < 1000000 ∧ ∀ H' p, Same H H' → H p = none → Bag H' p → Q (.ref p) H'
def sp_take : Sp := fun vs H Q _ => ∃ (p : Addr) (m : Int), vs = [.ref p, .int m] ∧ Bag H p ∧ 0 < m ∧ m < 1073741824 ∧ ∀ H' d, Keep p H H' → Bag H' p → 0 ≤ d → d < m → Q (.int d) H'
mutual
inductive Dt (S : Addr → Prop) (H : Hp) : V → PyData → Prop
  | non : Dt S H .non .none
  | bl (b : Bool) : Dt S H (.bl b) (.bool b)
  | int (i : Int) : Dt S H (.int i) (.int i)
  | str (x : Str) : Dt S H (.str x) (.str x)
  | lst {a : Addr} {xs : List V} {ds : List PyData} : S a → H a = some (.lst xs) → xs.length ≤ 5000 → DtAll S H xs ds → Dt S H (.ref a) (.list ds)
  | tup {a : Addr} {xs : List V} {ds : List PyData} : S a → H a = some (.tup xs) → xs.length ≤ 5000 → DtAll S H xs ds → Dt S H (.ref a) (.tuple ds)
inductive DtAll (S : Addr → Prop) (H : Hp) : List V → List PyData → Prop
  | nil : DtAll S H [] []
  | cons {v : V} {vs : List V} {d : PyData} {ds : List PyData} : Dt S H v d → DtAll S H vs ds → DtAll S H (v :: vs) (d :: ds)
end
mutual
theorem Dt.mono {S S' : Addr → Prop} {H H' : Hp} (hS : ∀ a, S a → S' a) (hh : ∀ a o, S a → H a = some o → H' a = some o) : ∀ {v : V} {d : PyData}, Dt S H v d → Dt S' H' v d
  | _, _, .non => .non
  | _, _, .bl b => .bl b
  | _, _, .int b => .int b
  | _, _, .str b => .str b
  | _, _, .lst s e l r => .lst (hS _ s) (hh _ _ s e) l (DtAll.mono hS hh r)
  | _, _, .tup s e l r => .tup (hS _ s) (hh _ _ s e) l (DtAll.mono hS hh r)
theorem DtAll.mono {S S' : Addr → Prop} {H H' : Hp} (hS : ∀ a, S a → S' a) (hh : ∀ a o, S a → H a = some o → H' a = some o) : ∀ {v : List V} {d : List PyData}, DtAll S H v d → DtAll S' H' v d
  | _, _, .nil => .nil
  | _, _, .cons a r => .cons (Dt.mono hS hh a) (DtAll.mono hS hh r)
end
mutual
theorem Dt.dp {K : PySem.W.Frag} {S : Addr → Prop} {H : Hp} : ∀ {v : V} {d : PyData}, Dt S H v d → Dp K H v d
  | _, _, .non => .non
  | _, _, .bl b => .bl b
  | _, _, .int b => .int b
  | _, _, .str b => .str b
  | _, _, .lst s e l r => .lst (SqL.of e) (DtAll.dp r)
  | _, _, .tup s e l r => .tup (SqT.of e) (DtAll.dp r)
theorem DtAll.dp {K : PySem.W.Frag} {S : Addr → Prop} {H : Hp} : ∀ {v : List V} {d : List PyData}, DtAll S H v d → DpAll K H v d
  | _, _, .nil => .nil
  | _, _, .cons a r => .cons (Dt.dp a) (DtAll.dp r)
end
abbrev SA : Addr → Prop := fun _ => True
theorem Dt.same {H H' : Hp} {v : V} {d : PyData} (s : Same H H') (h : Dt SA H v d) : Dt SA H' v d := h.mono (fun _ x => x) fun a o _ e => s a o e
theorem DtAll.same {H H' : Hp} {v : List V} {d : List PyData} (s : Same H H') (h : DtAll SA H v d) : DtAll SA H' v d := h.mono (fun _ x => x) fun a o _ e => s a o e
theorem DtAll.len {S : Addr → Prop} {H : Hp} : ∀ {v : List V} {d : List PyData}, DtAll S H v d → v.length = d.length
  | _, _, .nil => rfl
  | _, _, .cons _ r => congrArg Nat.succ r.len
theorem DtAll.get {S : Addr → Prop} {H : Hp} : ∀ {v : List V} {d : List PyData} {i : Nat} {x : V}, DtAll S H v d → v[i]? = some x → ∃ e, d[i]? = some e ∧ Dt S H x e
  | _, _, _, _, .nil, h => by simp at h
  | _, _, 0, _, .cons a r, h => by
    have e := Option.some.inj h
    subst e
    exact ⟨_, rfl, a⟩
  | _, _, i + 1, _, .cons a r, h => r.get (i := i) h
def tyN : PyData → String
  | .none => "NoneType"
  | .bool _ => "bool"
  | .int _ => "int"
  | .str _ => "str"
  | .list _ => "list"
  | .tuple _ => "tuple"
  | .dict _ => "dict"
theorem Dt.ty {K : PySem.W.Frag} {S : Addr → Prop} {H : Hp} {v : V} {d : PyData} (h : Dt S H v d) : TyX K H v (.type (tyN d)) := by
  cases h with
  | non => exact .base .non
  | bl b => exact .base (.bl b)
  | int b => exact .base (.int b)
  | str b => exact .base (.str b)
  | lst s e l r => exact .base (.lst e)
  | tup s e l r => exact .base (.tup e)
theorem yes_ {σ : L2.St} {H : Hp} {A B : Hp → Prop} (h : A H) : tYes σ H fun b H3 => if b = true then A H3 else B H3 := by
  show if true = true then A H else B H
  exact iteT h
theorem small5000 {n : Nat} (h : n ≤ 5000) : n < sizeLine := Nat.lt_of_le_of_lt h (by decide)
/-- the d-th of some whole numbers -/
theorem pick {ms : List Int} {d : Int} (h0 : 0 ≤ d) (h1 : d < ms.length) : ∃ m ∈ ms, atI (ms.map V.int) d = some (.int m) := by
  obtain ⟨j, rfl⟩ : ∃ j : Nat, d = (j : Int) := ⟨d.toNat, by omega⟩
  have hj : j < ms.length := by omega
  refine ⟨ms[j], List.getElem_mem hj, atI_nat ?_⟩
  rw [List.getElem?_map, List.getElem?_eq_getElem hj]
  rfl
theorem Bag.at {H H' : Hp} {p : Addr} (b : Bag H p) (e : H' p = H p) : Bag H' p := by
  obtain ⟨g, r, h, k⟩ := b
  exact ⟨g, r, e.trans h, k⟩
theorem Keep.new {p q : Addr} {H H' : Hp} {o : HO} (k : Keep p H H') (n : H' q = none) : Keep p H (L2.upd H' q o) := k.trans (.of (same_upd n))
theorem Keep.free {p q : Addr} {H H' : Hp} (k : Keep p H H') (b : Bag H p) (h : H' q = none) (b' : Bag H' p) : H q = none := by
  cases e : H q with
  | none => rfl
  | some o =>
    by_cases z : q = p
    · rw [z] at h
      obtain ⟨g, r, e', _⟩ := b'
      rw [e'] at h
      cases h
    · rw [k q o z e] at h
      cases h
abbrev dI (zs : List Int) : PyData := .list (zs.map PyData.int)
theorem dtAll_ints {S : Addr → Prop} {H : Hp} : ∀ zs : List Int, DtAll S H (zs.map V.int) (zs.map PyData.int)
  | [] => .nil
  | z :: zs => .cons (.int z) (dtAll_ints zs)
theorem dt_ints {H : Hp} {x : Addr} {zs : List Int} (h : H x = some (.lst (zs.map V.int))) (hl : zs.length ≤ 5000) : Dt SA H (.ref x) (dI zs) := .lst trivial h (by rw [List.length_map]; exact hl) (dtAll_ints zs)
theorem layAll_ints : ∀ zs : List Int, PyData.canLayAll0 (zs.map PyData.int) = true
  | [] => rfl
  | z :: zs => by rw [List.map_cons, PyData.canLayAll0, layAll_ints zs]; rfl
theorem lay_ints (zs : List Int) : (dI zs).canLay0 = true := layAll_ints zs
theorem depthAll_ints : ∀ zs : List Int, PyData.depthAll (zs.map PyData.int) = 0
  | [] => rfl
  | z :: zs => by rw [List.map_cons, PyData.depthAll, depthAll_ints zs]; rfl
theorem depth_ints (zs : List Int) : (dI zs).depth = 1 := by
  show PyData.depthAll (zs.map PyData.int) + 1 = 1
  rw [depthAll_ints]
theorem shaped_ints (zs : List Int) : SeqAt.shaped (dI zs) = true := Bool.and_eq_true_iff.mpr ⟨lay_ints zs, decide_eq_true (by rw [depth_ints]; decide)⟩
def rLenS (K : PySem.W.Frag) : List V → Hp → VK → Prop := fun xs H Q => ∃ (p : Addr) (ys : List V), xs = [.ref p] ∧ (SqL K H p ys ∨ SqT K H p ys) ∧ Q (.int ys.length) H
theorem call_lenS {X : Cx} : CallR X (.builtin "len") (rLenS X.K) := call_len_seq
end Th
namespace Sl
open PySem PySem.Spec PyProof.Rows L2
/-- the object of a set just made -/
abbrev set0 (w : World) : Obj := { cls := .type "set", dict := none, data := .set #[] 0 (.fresh 0 0 (!w.params.followText "set-order")) }
section
variable {P : Program} {w : World} {A : Around} {E : Value → Shared → Prop} {s : Shared}
set_option maxHeartbeats 8000000 in
/-- set(xs) of a list of whole numbers -/
theorem set_of_ints {l : Addr} {its : Array Value} (ns : List Int) {Q : Value → Shared → Prop} (nh : A.handled = none) (il : s.heap.IsList l its) (ii : IntsAre its.toList ns) (nb : ns.length + 1 < scanBound)
    (fin : ∀ (g : Heap) (tk c : Nat), SetR w g s.heap.objs.size (fun j => decide (j ∈ ns)) c → c ≤ ns.length → (∀ b o, s.heap.get? b = some o → g.get? b = some o) → Q (.ref s.heap.objs.size) { s with heap := g, toks := tk }) :
    wpAny (model P w) A (call (.type "set") [.ref l]) Q E s := by
  have isz : its.size = ns.length := by
    have z := IntsAre.length ii
    rwa [Array.length_toList] at z
  obtain ⟨_, _, mro⟩ := F.called_set.mro
  have m1 := F.called_set.made
  have m2 := F.called_set.sub
  have m3 := F.called_set.notType
  have m4 := F.called_set.canCreate
  have m5 := F.typeCall_set_1 (.ref l)
  refine wpAny_call (codeAny_of_tree (?_ : wpAny _ _ (callAny (.type "set") _) _ _ _))
  refine wpAny_pure ⟨Code.quiet_builtin _ (by decide +kernel), codeAny_builtin F.entry_type_call ?_⟩
  rw [Around.under_plain (weight_type_call_type "set" [.ref l] []) rfl]
  repeat (any_goals (first | assumption | wp_step))
  refine codeAny_mono (code_set_led1 (.ref l) (E := E) (Q₁ := fun ob z => ob = .ref s.heap.objs.size ∧ z = { s with heap := s.heap.push (set0 w) }) ⟨rfl, rfl⟩) fun r z hz => ?_
  cases r with
  | error e => exact hz
  | ok fl =>
    cases fl with
    | ret ob =>
      obtain ⟨rfl, rfl⟩ := hz
      have zS : (s.heap.push (set0 w)).get? s.heap.objs.size = some (set0 w) := Heap.get?_push_size _ rfl
      have zT : Shared.TypeIs { s with heap := s.heap.push (set0 w) } (.ref s.heap.objs.size) "set" := ⟨_, zS, rfl⟩
      have n1 := F.called_set.init.lookup
      have n2 := F.called_set.init.bind (.ref s.heap.objs.size)
      repeat (any_goals (first | assumption | wp_step))
      refine codeAny_mono (codeAny_call_builtin (R := wants (fun r z => r = .none ∧ ∃ g tk c, z = { s with heap := g, toks := tk } ∧ SetR w g s.heap.objs.size (fun j => decide (j ∈ ns)) c ∧ c ≤ ns.length ∧ ∀ b o, s.heap.get? b = some o → g.get? b = some o) E)
        F.called_set.init.plain F.entry_set_init (check_set_init_1 zT ?_)) fun r2 z2 hz2 => ?_
      · obtain ⟨⟨oc, od, odt, osl⟩, ol, c1, nl, c2⟩ := il
        simp only at c1 c2
        subst c1 c2
        have ol2 : (s.heap.push (set0 w)).get? l = some { cls := .type "list", dict := od, data := .seq its nl, slots := osl } := Heap.get?_push_of_some _ ol
        have k1 := F.sub_list_set
        have k2 := F.sub_list_frozenset
        have k3 : (Value.type "list" == Value.type "dict") = false := by decide
        have il2 : (s.heap.push (set0 w)).IsList l its := ⟨_, ol2, rfl, nl, rfl⟩
        unfold Builtin.«set.__init__» noKeywords Builtin.Frozenset.updateFrom
        generalize ePI : pyIter = PI
        wp_walk
        subst ePI
        refine wpAny_pyIter_list il2 (wpAny_bind (wpAny_runValue ?_))
        have lS : l < s.heap.objs.size := Heap.lt_size ol
        have h3 : A.in1.in1.in1.handled = none := by simp [nh]
        have nI : l ≠ (s.heap.push (set0 w)).objs.size := by
          rw [Heap.size_push]
          exact Nat.ne_of_lt (Nat.lt_succ_of_lt lS)
        have nf : s.heap.objs.size ∉ [(s.heap.push (set0 w)).objs.size, l] := by
          rw [Heap.size_push]
          simp only [List.mem_cons, List.not_mem_nil, or_false, not_or]
          exact ⟨Nat.ne_of_lt (Nat.lt_succ_self _), Nat.ne_of_gt lS⟩
        have vl : ∀ (i : Nat) (v : Value), its[i]? = some v → ∃ k t, ns[i]? = some k ∧ v = .int k t := fun i v hv => by
          have hi : i < ns.length := by rw [← isz]; exact (Array.getElem?_eq_some_iff.mp hv).1
          obtain ⟨t, e⟩ := IntsAre.int_at ii i v (by rw [Array.getElem?_toList]; exact hv)
          refine ⟨ns[i], t, List.getElem?_eq_getElem hi, ?_⟩
          rw [e, List.getD_eq_getElem?_getD, List.getElem?_eq_getElem hi] <;> rfl
        refine set_update_ints ((Walks.list h3 _ l nI its).toS) s.heap.objs.size nf ns isz nb vl (its.size - 0) 0 _ (by omega) (Nat.zero_le _) ⟨⟨_, Heap.get?_push_size _ rfl, rfl, rfl⟩, il2.push _⟩ ?zStart ?zEnd
        case zStart => exact ⟨0, Nat.le_refl 0, setR_new_at (Heap.get?_push_of_some _ zS)⟩
        case zEnd =>
          intro z c hm hc hS
          obtain ⟨g, gg, dd, tk, os⟩ := z
          have e1 : gg = s.gens := hm.gens
          have e2 : dd = s.drawn := hm.drawn
          have e3 : os = s.os := hm.os
          subst e1 e2 e3
          refine wpAny_pure (?_ : wpAny _ _ (ret Value.none) _ _ _)
          rw [isz] at hc
          refine wpAny_pure ⟨rfl, g, tk, c, rfl, hS, hc, fun b o e => ?_⟩
          have b0 : b < s.heap.objs.size := Heap.lt_size e
          refine hm.heap b o ?_ (Heap.get?_push_of_some _ (Heap.get?_push_of_some _ e))
          rw [Heap.size_push]
          simp only [List.mem_cons, List.not_mem_nil, or_false, not_or]
          exact ⟨Nat.ne_of_lt b0, Nat.ne_of_lt (Nat.lt_succ_of_lt b0)⟩
      · cases r2 with
        | error e => exact hz2
        | ok f2 =>
          cases f2 with
          | ret r =>
            obtain ⟨rfl, g, tk, c, rfl, q1, q2, q3⟩ := hz2
            repeat (any_goals (first | assumption | wp_step))
            exact fin _ _ _ q1 q2 q3
          | _ => exact hz2.elim
    | _ => exact hz.elim
end
def rSetI (K : PySem.W.Frag) (w : World) : List V → Hp → VK → Prop := fun xs H Q => ∃ (l : Addr) (ns : List Int), xs = [.ref l] ∧ SqL K H l (ns.map V.int) ∧ ns.length ≤ 1000 ∧ ∀ p c, H p = none → c ≤ ns.length → Q (.ref p) (upd H p (SetO w p (fun j => decide (j ∈ ns)) c))
theorem call_setI {X : Cx} (hc : X.calm = true) : CallR X (.type "set") (rSetI X.K X.w) := by
  intro pins s σ H xs us Q I r h
  obtain ⟨l, ns, rfl, hs, hl, q⟩ := h
  rw [Vals.ref1 r]
  obtain ⟨its, rv, pl, hz⟩ := I.list hs
  refine set_of_ints ns (I.ok.hd hc) pl.isList (ints_of_vals rv) (by unfold scanBound; omega) fun g tk c R hcn k => ?_
  exact ⟨.ref _, _, I.laid (t' := tk) k (Nat.le_refl _) (setO_new R), rfl, q _ c (I.hok.fresh (Nat.le_refl _)) hcn⟩
end Sl
namespace Lz
open PySem PySem.Spec PyProof.Rows L2
theorem no_len : typeLookup (.type "zip") "__len__" = pure none := am_miss_of_fast (by decide +kernel)
theorem no_hint : typeLookup (.type "zip") "__length_hint__" = pure none := am_miss_of_fast (by decide +kernel)
structure ZS (z TI TO i1 i2 l1 l2 S : Addr) (xs ys : Array Value) (i : Nat) (h : Heap) : Prop where
  ti : IsPair h TI (.ref i1) (.ref i2)
  a1 : h.IsListIter i1 l1 i
  a2 : h.IsListIter i2 l2 i
  b1 : h.IsList l1 xs
  b2 : h.IsList l2 ys
  zz : (IsZip h z TI TO .none ∧ ∃ a b, IsPair h TO a b) ∨ ∃ T f oT, IsZipHeld h z TI TO T f ∧ h.get? T = some oT ∧ T ≠ z ∧ T ≠ i1 ∧ T ≠ i2 ∧ T ≠ S
structure Off (z TI TO i1 i2 l1 l2 S : Addr) : Prop where
  z : z ≠ S
  ti : TI ≠ S
  to' : TO ≠ S
  i1 : i1 ≠ S
  i2 : i2 ≠ S
  l1 : l1 ≠ S
  l2 : l2 ≠ S
theorem ZS.frame {z TI TO i1 i2 l1 l2 S : Addr} {xs ys : Array Value} {i : Nat} {h h' : Heap} (O : Off z TI TO i1 i2 l1 l2 S) (st : ZS z TI TO i1 i2 l1 l2 S xs ys i h) (hk : ∀ b o, b ≠ S → h.get? b = some o → h'.get? b = some o) : ZS z TI TO i1 i2 l1 l2 S xs ys i h' := by
  refine ⟨hk _ _ O.ti st.ti, st.a1.at fun o e => hk _ o O.i1 e, st.a2.at fun o e => hk _ o O.i2 e, st.b1.at fun o e => hk _ o O.l1 e, st.b2.at fun o e => hk _ o O.l2 e, ?_⟩
  rcases st.zz with ⟨hz, a, b, hTO⟩ | ⟨T, f, oT, hz, hT, r1, r2, r3, r4⟩
  · exact .inl ⟨hk _ _ O.z hz, a, b, hk _ _ O.to' hTO⟩
  · exact .inr ⟨T, f, oT, hk _ _ O.z hz, hk _ _ r4 hT, r1, r2, r3, r4⟩
structure ZG (xs ys : Array Value) (lo : Addr) (h : Heap) (as : List Addr) : Prop where
  rise : as.Pairwise (· < ·)
  above : ∀ a ∈ as, lo < a
  pairs : ∀ (j : Nat) (a : Addr), as[j]? = some a → ∃ x y, xs[j]? = some x ∧ ys[j]? = some y ∧ h.get? a = some { cls := .type "tuple", data := .seq #[x, y] }
theorem ZG.there {xs ys : Array Value} {lo : Addr} {h : Heap} {as : List Addr} (g : ZG xs ys lo h as) {a : Addr} (ha : a ∈ as) : a < h.objs.size := by
  obtain ⟨j, hj⟩ := List.mem_iff_getElem?.mp ha
  obtain ⟨_, _, _, _, e⟩ := g.pairs j a hj
  exact Heap.lt_size e
section
variable {prog : Program} {w : World} {A : Around} {E : Value → Shared → Prop} {s : Shared} {z TI TO i1 i2 l1 l2 S : Addr} {xs ys : Array Value} {i : Nat}
theorem z_item {x y : Value} {Q : Option Value → Shared → Prop} (D : ZipApart z TI TO i1 i2 l1 l2) (st : ZS z TI TO i1 i2 l1 l2 S xs ys i s.heap) (hS : S < s.heap.objs.size) (ex : xs[i]? = some x) (ey : ys[i]? = some y)
    (hQ : ∀ h', ZS z TI TO i1 i2 l1 l2 S xs ys (i + 1) h' → IsPair h' s.heap.objs.size x y → (∀ c o, c ≠ z → c ≠ TO → c ≠ i1 → c ≠ i2 → s.heap.get? c = some o → h'.get? c = some o) → Q (some (.ref s.heap.objs.size)) { s with heap := h' }) :
    wpAny (model prog w) A (pyNext (.ref z)) Q E s := by
  obtain ⟨hTI, h1, h2, hl1, hl2, hz⟩ := st
  have lt : ∀ {c o}, s.heap.get? c = some o → s.heap.objs.size ≠ c := fun e => Nat.ne_of_gt (Heap.lt_size e)
  have n1 : s.heap.objs.size ≠ i1 := let ⟨_, e, _⟩ := h1; lt e
  have n2 : s.heap.objs.size ≠ i2 := let ⟨_, e, _⟩ := h2; lt e
  rcases hz with ⟨hz, a, b, hTO⟩ | ⟨T, f, oT, hz, hT, r1, r2, r3, r4⟩
  · refine wpAny_pyNext_zip_item D hz hTI hTO h1 h2 hl1 hl2 ex ey fun h' a1 a2 a3 a4 a5 a6 hk => ?_
    exact hQ h' ⟨hk _ _ D.TIz D.TITO D.TIi1 D.TIi2 hTI, a3, a4, hl1.at fun o e => hk _ o D.l1z D.l1TO D.l1i1 D.l1i2 e, hl2.at fun o e => hk _ o D.l2z D.l2TO D.l2i1 D.l2i2 e, .inr ⟨s.heap.objs.size, false, _, a1, a5, lt hz, n1, n2, Nat.ne_of_gt hS⟩⟩ a5 hk
  · refine wpAny_pyNext_zip_item_held D hz hT hTI h1 h2 hl1 hl2 ex ey fun h' a1 a3 a4 a5 a6 hk => ?_
    exact hQ h' ⟨hk _ _ D.TIz D.TIi1 D.TIi2 hTI, a3, a4, hl1.at fun o e => hk _ o D.l1z D.l1i1 D.l1i2 e, hl2.at fun o e => hk _ o D.l2z D.l2i1 D.l2i2 e, .inr ⟨T, true, oT, a1, hk _ _ r1 r2 r3 hT, r1, r2, r3, r4⟩⟩ a5 fun c o c1 _ c3 c4 e => hk c o c1 c3 c4 e
theorem z_done {Q : Option Value → Shared → Prop} (hA : A.handled = none) (D : ZipApart z TI TO i1 i2 l1 l2) (st : ZS z TI TO i1 i2 l1 l2 S xs ys i s.heap) (hend : xs[i]? = none ∨ ys[i]? = none)
    (hQ : ∀ h', (∀ c o, c ≠ z → c ≠ TO → c ≠ i1 → c ≠ i2 → s.heap.get? c = some o → h'.get? c = some o) → Q none { s with heap := h' }) : wpAny (model prog w) A (pyNext (.ref z)) Q E s := by
  obtain ⟨hTI, h1, h2, hl1, hl2, hz⟩ := st
  rcases hz with ⟨hz, a, b, hTO⟩ | ⟨T, f, oT, hz, hT, r1, r2, r3, r4⟩
  · exact wpAny_pyNext_zip_end hA D hz hTI hTO h1 h2 hl1 hl2 hend fun h' hk => hQ h' hk
  · exact wpAny_pyNext_zip_end_held hA D hz hT hTI h1 h2 hl1 hl2 hend fun h' hk => hQ h' fun c o c1 _ c3 c4 e => hk c o c1 c3 c4 e
theorem z_loop {R : Result → Shared → Prop} (hh : A.handled = none) (D : ZipApart z TI TO i1 i2 l1 l2) (O : Off z TI TO i1 i2 l1 l2 S) (lz : z < S) (lt : TO < S) (li1 : i1 < S) (li2 : i2 < S) {n : Nat} (hx : xs.size = n) (hy : ys.size = n) (hn : n ≤ sizeLine) (res : Value) {h₁ : Heap}
    (hR : ∀ h' tk acc c as, (∀ b o, b ≠ S → b ≠ z → b ≠ TO → b ≠ i1 → b ≠ i2 → h₁.get? b = some o → h'.get? b = some o) → h'.get? S = some { cls := .type "list", dict := none, data := .seq acc c, slots := #[] } → as.length = n → ZG xs ys S h' as →
      acc.toList = as.map Value.ref → R (.ok (.ret res)) { s with heap := h', toks := tk }) :
    ∀ (k i : Nat) (h : Heap) (tk c : Nat) (acc : Array Value) (as : List Addr), n - i = k → i ≤ n → ZS z TI TO i1 i2 l1 l2 S xs ys i h → (∀ b o, b ≠ S → b ≠ z → b ≠ TO → b ≠ i1 → b ≠ i2 → h₁.get? b = some o → h.get? b = some o) →
      h.get? S = some { cls := .type "list", dict := none, data := .seq acc c, slots := #[] } → acc.toList = as.map Value.ref → as.length = i → ZG xs ys S h as →
      codeAny (model prog w) A (.builtin "list.extend.loop" ⟨[.ref S, .ref z, res], []⟩) R { s with heap := h, toks := tk } := by
  intro k
  induction k with
  | zero =>
    intro i h tk c acc as hk hi hst hkeep hS hacc hal hG
    refine codeAny_builtin PySem.F.entry_extend_loop ?_
    rw [Around.under_plainId PySem.F.plain_extend_loop _]
    show wpAny _ A.in1 (pyNext (.ref z) >>= _) _ _ _
    refine wpAny_bind (z_done (s := { s with heap := h, toks := tk }) (A := A.in1) hh D hst (.inl (Array.getElem?_eq_none (by omega))) fun h' he => ?_)
    refine wpAny_pure (hR h' tk acc c as (fun b o h1 h2 h3 h4 h5 e => he b o h2 h3 h4 h5 (hkeep b o h1 h2 h3 h4 h5 e)) (he S _ O.z.symm O.to'.symm O.i1.symm O.i2.symm hS) (by omega) ⟨hG.rise, hG.above, fun j a hj => ?_⟩ hacc)
    obtain ⟨x, y, e1, e2, e3⟩ := hG.pairs j a hj
    have ab := hG.above a (List.mem_of_getElem? hj)
    exact ⟨x, y, e1, e2, he a _ (Nat.ne_of_gt (Nat.lt_trans lz ab)) (Nat.ne_of_gt (Nat.lt_trans lt ab)) (Nat.ne_of_gt (Nat.lt_trans li1 ab)) (Nat.ne_of_gt (Nat.lt_trans li2 ab)) e3⟩
  | succ k ih =>
    intro i h tk c acc as hk hi hst hkeep hS hacc hal hG
    have hlt : i < n := by omega
    obtain ⟨x, ex⟩ : ∃ p, xs[i]? = some p := ⟨xs[i], Array.getElem?_eq_getElem (by omega)⟩
    obtain ⟨y, ey⟩ : ∃ p, ys[i]? = some p := ⟨ys[i], Array.getElem?_eq_getElem (by omega)⟩
    have hsz : acc.size = i := by rw [← Array.length_toList, hacc, List.length_map, hal]
    have hSl : S < h.objs.size := Heap.lt_size hS
    refine codeAny_builtin PySem.F.entry_extend_loop ?_
    rw [Around.under_plainId PySem.F.plain_extend_loop _]
    show wpAny _ A.in1 (pyNext (.ref z) >>= _) _ _ _
    refine wpAny_bind (z_item (s := { s with heap := h, toks := tk }) (S := S) D hst hSl ex ey fun h' hst' ht hkp => ?_)
    dsimp only at ht hkp ⊢
    have hS' := hkp S _ O.z.symm O.to'.symm O.i1.symm O.i2.symm hS
    have up : ∀ b o, b ≠ S → h'.get? b = some o → (h'.update S (Obj.mapSeq (·.push (Value.ref h.objs.size)))).get? b = some o := fun b o hb e => (Heap.get?_update_other _ _ (Ne.symm hb)).trans e
    show wpAny _ A.in1 (updateSeq S (·.push (Value.ref h.objs.size)) >>= _) _ _ _
    refine wpAny_bind ?_
    refine wpAny_updateSeq hS' rfl (wpAny_pure ⟨plainId_quiet PySem.F.plain_extend_loop _, ih (i + 1) _ tk _ (acc.push (Value.ref h.objs.size)) (as ++ [h.objs.size]) (by omega) hlt (hst'.frame O up)
      (fun b o h1 h2 h3 h4 h5 e => up b o h1 (hkp b o h2 h3 h4 h5 (hkeep b o h1 h2 h3 h4 h5 e))) (Heap.get?_update_self _ hS' rfl) (by rw [Array.toList_push, hacc, List.map_append]; rfl) (by rw [List.length_append, hal]; rfl) ⟨?_, ?_, ?_⟩⟩) (by rw [hsz]; omega) (by show (acc.push (Value.ref h.objs.size)).size ≤ sizeLine + 1; rw [Array.size_push, hsz]; omega)
    · refine List.pairwise_append.mpr ⟨hG.rise, List.pairwise_singleton _ _, fun a ha b hb => ?_⟩
      rw [List.mem_singleton.mp hb]
      exact hG.there ha
    · intro a ha
      rcases List.mem_append.mp ha with ha | ha
      · exact hG.above a ha
      · rw [List.mem_singleton.mp ha]
        exact hSl
    · intro j b hj
      rcases Nat.lt_trichotomy j as.length with h1 | h1 | h1
      · rw [List.getElem?_append_left h1] at hj
        obtain ⟨x', y', e1, e2, e3⟩ := hG.pairs j b hj
        have ab := hG.above b (List.mem_of_getElem? hj)
        exact ⟨x', y', e1, e2, up b _ (Nat.ne_of_gt ab) (hkp b _ (Nat.ne_of_gt (Nat.lt_trans lz ab)) (Nat.ne_of_gt (Nat.lt_trans lt ab)) (Nat.ne_of_gt (Nat.lt_trans li1 ab)) (Nat.ne_of_gt (Nat.lt_trans li2 ab)) e3)⟩
      · subst h1
        have hb : h.objs.size = b := by simpa using hj
        subst hb
        exact ⟨x, y, by rw [hal]; exact ex, by rw [hal]; exact ey, up _ _ (Nat.ne_of_gt hSl) ht⟩
      · have hnone : (as ++ [h.objs.size])[j]? = none := List.getElem?_eq_none (by rw [List.length_append, List.length_singleton]; omega)
        rw [hnone] at hj
        cases hj
theorem z_hint (hT : s.TypeIs (.ref z) "zip") {Q : Bool → Shared → Prop} (h : Q true s) : wpAny (model prog w) A (Builtin.List.listLengthHint (.ref z)) Q E s := by
  unfold Builtin.List.listLengthHint
  refine wpAny_bind (wpAny_specialOf hT no_len ?_)
  show wpAny _ _ (specialOf (Value.ref z) (Str.ofString "__length_hint__") >>= _) _ _ _
  refine wpAny_bind (wpAny_specialOf hT no_hint ?_)
  exact wpAny_pure h
theorem z_extend {R : Result → Shared → Prop} (hh : A.handled = none) (D : ZipApart z TI TO i1 i2 l1 l2) (O : Off z TI TO i1 i2 l1 l2 S) (lz : z < S) (lt : TO < S) (li1 : i1 < S) (li2 : i2 < S) {n : Nat} (hx : xs.size = n) (hy : ys.size = n) (hn : n ≤ sizeLine) (res : Value) (c₀ : Nat)
    (hz : IsZip s.heap z TI TO .none) (st : ZS z TI TO i1 i2 l1 l2 S xs ys 0 s.heap) (hS : s.heap.get? S = some { cls := .type "list", data := .seq #[] c₀ })
    (hR : ∀ h' tk acc c as, (∀ b o, b ≠ S → b ≠ z → b ≠ TO → b ≠ i1 → b ≠ i2 → s.heap.get? b = some o → h'.get? b = some o) → h'.get? S = some { cls := .type "list", dict := none, data := .seq acc c, slots := #[] } → as.length = n → ZG xs ys S h' as →
      acc.toList = as.map Value.ref → R (.ok (.ret res)) { s with heap := h', toks := tk }) :
    wpAny (model prog w) A.in1 (Builtin.List.listExtendWith (.ref S) (.ref z) res)
      (fun fin s' => match fin with | .done f => R (.ok f) s' | .again c' => c'.quiet = true ∧ codeAny (model prog w) A c' R s') (fun e s' => R (.error e) s') s := by
  have hT : s.TypeIs (.ref z) "zip" := ⟨_, hz, rfl⟩
  have key : ∀ (h : Heap) (c₁ tk : Nat), (∀ b o, b ≠ S → s.heap.get? b = some o → h.get? b = some o) → h.get? S = some { cls := .type "list", data := .seq #[] c₁ } → codeAny (model prog w) A (.builtin "list.extend.loop" ⟨[.ref S, .ref z, res], []⟩) R { s with heap := h, toks := tk } := by
    intro h c₁ tk hk hS₁
    exact z_loop (s := s) (h₁ := s.heap) hh D O lz lt li1 li2 hx hy hn res hR n 0 h tk c₁ #[] [] (Nat.sub_zero _) (Nat.zero_le _) (st.frame O hk) (fun b o hb _ _ _ _ e => hk b o hb e) hS₁ rfl rfl ⟨List.Pairwise.nil, (fun _ ha => nomatch ha), (fun j a hj => by simp at hj)⟩
  unfold Builtin.List.listExtendWith
  refine wpAny_bind (wpAny_typeOf (T := "zip") hT ?_)
  have h1 : Builtin.List.listSameRef (.ref S) (.ref z) = false := by simp [Builtin.List.listSameRef, O.z.symm]
  have h2 : (Value.type "zip" == Value.type "list") = false := by decide
  have h3 : (Value.type "zip" == Value.type "tuple") = false := by decide
  simp only [h1, h2, h3, Bool.or_false, Bool.false_eq_true, if_false]
  refine wpAny_bind (wpAny_pyIter_zip hz ?_)
  refine wpAny_bind (wpAny_holding (z_hint hT ?_))
  refine wpAny_ite_split (fun _ => ?_) (fun _ => wpAny_pure ⟨plainId_quiet PySem.F.plain_extend_loop _, key _ c₀ _ (fun b o _ e => e) hS⟩)
  refine wpAny_bind (wpAny_rule ?_)
  refine wpAny_bind ?_
  show wpAny _ _ (updateSeq S (·.push .none) >>= fun _ => updateSeq S (·.pop)) _ _ _
  refine wpAny_bind (wpAny_updateSeq hS rfl ?_)
  have hS₂ := Heap.get?_update_self (Obj.mapSeq (·.push Value.none)) hS rfl
  refine wpAny_updateSeq (hz := by seq_fits) hS₂ rfl ?_
  have hS₃ := Heap.get?_update_self (Obj.mapSeq (·.pop)) hS₂ rfl
  refine wpAny_pure ⟨plainId_quiet PySem.F.plain_extend_loop _, key _ _ _ (fun b o hb e => ?_) hS₃⟩
  exact (Heap.get?_update_other _ _ (Ne.symm hb)).trans ((Heap.get?_update_other _ _ (Ne.symm hb)).trans e)
theorem z_init {R : Result → Shared → Prop} (hh : A.handled = none) (D : ZipApart z TI TO i1 i2 l1 l2) (O : Off z TI TO i1 i2 l1 l2 S) (lz : z < S) (lt : TO < S) (li1 : i1 < S) (li2 : i2 < S) {n : Nat} (hx : xs.size = n) (hy : ys.size = n) (hn : n ≤ sizeLine)
    (hz : IsZip s.heap z TI TO .none) (st : ZS z TI TO i1 i2 l1 l2 S xs ys 0 s.heap) (hS : s.heap.get? S = some { cls := .type "list", data := .seq #[] })
    (hR : ∀ h' tk acc c as, (∀ b o, b ≠ S → b ≠ z → b ≠ TO → b ≠ i1 → b ≠ i2 → s.heap.get? b = some o → h'.get? b = some o) → h'.get? S = some { cls := .type "list", dict := none, data := .seq acc c, slots := #[] } → as.length = n → ZG xs ys S h' as →
      acc.toList = as.map Value.ref → R (.ok (.ret .none)) { s with heap := h', toks := tk }) :
    wpAny (model prog w) A.in1 (Builtin.«list.__init__» ⟨[.ref S, .ref z], []⟩)
      (fun fin s' => match fin with | .done f => R (.ok f) s' | .again c' => c'.quiet = true ∧ codeAny (model prog w) A c' R s') (fun e s' => R (.error e) s') s := by
  show wpAny _ _ (do let old ← Builtin.List.listItems (.ref S); Builtin.List.listUpdate (.ref S) (fun _ => #[]); letGo old.toList.reverse; Builtin.List.listExtendWith (.ref S) (.ref z) .none) _ _ s
  refine wpAny_bind ?_
  unfold Builtin.List.listItems
  refine wpAny_bind (wpAny_seqItems hS rfl (wpAny_pure ?_))
  show wpAny _ _ (updateSeq S (fun _ => #[]) >>= fun _ => letGo (#[] : Array Value).toList.reverse >>= fun _ => Builtin.List.listExtendWith (.ref S) (.ref z) .none) _ _ s
  refine wpAny_bind (wpAny_updateSeq hS rfl ?_)
  have hS₂ := Heap.get?_update_self (Obj.mapSeq (fun _ => (#[] : Array Value))) hS rfl
  have oth : ∀ b o, b ≠ S → s.heap.get? b = some o → (s.heap.update S (Obj.mapSeq (fun _ => (#[] : Array Value)))).get? b = some o :=
    fun b o hb e => (Heap.get?_update_other _ _ (Ne.symm hb)).trans e
  refine wpAny_bind (wpAny_letGo ?_)
  refine z_extend hh D O lz lt li1 li2 hx hy hn .none _ (oth _ _ O.z hz) (st.frame O oth) hS₂ (fun h' tk acc c as hk hS' hl hG hacc => ?_)
  exact hR h' tk acc c as (fun b o hb h2 h3 h4 h5 e => hk b o hb h2 h3 h4 h5 (oth b o hb e)) hS' hl hG hacc
theorem z_call {Q : Value → Shared → Prop} (hh : A.handled = none) (D : ZipApart z TI TO i1 i2 l1 l2) {n : Nat} (hx : xs.size = n) (hy : ys.size = n) (hn : n ≤ sizeLine)
    (hz : IsZip s.heap z TI TO .none) (hTI : IsPair s.heap TI (.ref i1) (.ref i2)) {va vb : Value} (hTO : IsPair s.heap TO va vb) (h1 : s.heap.IsListIter i1 l1 0) (h2 : s.heap.IsListIter i2 l2 0) (hl1 : s.heap.IsList l1 xs) (hl2 : s.heap.IsList l2 ys)
    (hQ : ∀ h' tk acc c as, (∀ b o, b ≠ z → b ≠ TO → b ≠ i1 → b ≠ i2 → s.heap.get? b = some o → h'.get? b = some o) → h'.get? s.heap.objs.size = some { cls := .type "list", dict := none, data := .seq acc c, slots := #[] } → as.length = n → ZG xs ys s.heap.objs.size h' as →
      acc.toList = as.map Value.ref → Q (.ref s.heap.objs.size) { s with heap := h', toks := tk }) :
    wpAny (model prog w) A (call (.type "list") [.ref z]) Q E s := by
  refine callType_codes (Q₁ := fun obj s₁ => obj = .ref s.heap.objs.size ∧ s₁ = { s with heap := s.heap.push { cls := .type "list", data := .seq #[] } }) PySem.F.called_list (PySem.F.typeCall_list_1 _) PySem.F.entry_list_init
    (code_list_new _ ⟨rfl, rfl⟩) fun obj s₁ h₁ => ?_
  obtain ⟨rfl, rfl⟩ := h₁
  have hS : (s.heap.push { cls := .type "list", data := .seq #[] }).get? s.heap.objs.size = some { cls := .type "list", data := .seq #[] } := Heap.get?_push_size _ rfl
  have lz := Heap.lt_size hz
  have lti := Heap.lt_size hTI
  have lt := Heap.lt_size hTO
  obtain ⟨_, e1, _⟩ := id h1
  obtain ⟨_, e2, _⟩ := id h2
  obtain ⟨_, e3, _⟩ := id hl1
  obtain ⟨_, e4, _⟩ := id hl2
  have li1 := Heap.lt_size e1
  have li2 := Heap.lt_size e2
  have ll1 := Heap.lt_size e3
  have ll2 := Heap.lt_size e4
  have O : Off z TI TO i1 i2 l1 l2 s.heap.objs.size := ⟨Nat.ne_of_lt lz, Nat.ne_of_lt lti, Nat.ne_of_lt lt, Nat.ne_of_lt li1, Nat.ne_of_lt li2, Nat.ne_of_lt ll1, Nat.ne_of_lt ll2⟩
  refine ⟨⟨_, hS, rfl⟩, PySem.F.args_list_init_2 _ _, z_init (A := A.in1) hh D O lz lt li1 li2 hx hy hn (Heap.get?_push_of_some _ hz) ⟨Heap.get?_push_of_some _ hTI, h1.at fun o e => Heap.get?_push_of_some _ e, h2.at fun o e => Heap.get?_push_of_some _ e, hl1.at fun o e => Heap.get?_push_of_some _ e, hl2.at fun o e => Heap.get?_push_of_some _ e, .inl ⟨Heap.get?_push_of_some _ hz, _, _, Heap.get?_push_of_some _ hTO⟩⟩ hS (fun h' tk acc c as hk hS' hl hG hacc => ?_)⟩
  exact ⟨rfl, hQ h' tk acc c as (fun b o b1 b2 b3 b4 e => hk b o (Nat.ne_of_lt (Heap.lt_size e)) b1 b2 b3 b4 (Heap.get?_push_of_some _ e)) hS' hl hG hacc⟩
end
/-- the tuples at their addresses -/
def putP : Hp → List Addr → List (V × V) → Hp
  | H, a :: as, p :: ps => putP (upd H a (.tup [p.1, p.2])) as ps
  | H, _, _ => H
theorem putP_off {b : Addr} : ∀ (as : List Addr) (ps : List (V × V)) (H : Hp), b ∉ as → putP H as ps b = H b
  | [], _, _, _ => rfl
  | _ :: _, [], _, _ => rfl
  | a :: as, p :: ps, H, h => by
    show putP (upd H a (.tup [p.1, p.2])) as ps b = H b
    rw [putP_off as ps _ (fun z => h (List.mem_cons_of_mem _ z)), upd_ne (fun z => h (by rw [z]; exact List.mem_cons_self))]
/-- as many tuples as pairs, each its pair -/
abbrev Tups (H : Hp) : List Addr → List (V × V) → Prop := Paired fun t q => H t = some (.tup [q.1, q.2])
theorem putP_at : ∀ (as : List Addr) (ps : List (V × V)) (H : Hp), as.length = ps.length → as.Nodup → Tups (putP H as ps) as ps
  | [], [], _, _, _ => .nil
  | [], _ :: _, _, h, _ => by cases h
  | _ :: _, [], _, h, _ => by cases h
  | a :: as, p :: ps, H, h, hn => by
    have hn' := List.nodup_cons.mp hn
    refine .cons ?_ (putP_at as ps (upd H a (.tup [p.1, p.2])) (Nat.succ.inj h) hn'.2)
    show putP (upd H a (.tup [p.1, p.2])) as ps a = some (.tup [p.1, p.2])
    rw [putP_off as ps _ hn'.1, upd_same]
theorem paired_ix {α β : Type} {F : α → β → Prop} : ∀ {xs : List α} {ys : List β}, Paired F xs ys → ∀ {x : α}, x ∈ xs → ∃ (j : Nat) (y : β), xs[j]? = some x ∧ ys[j]? = some y ∧ F x y
  | _, _, .cons h t, x, hx => by
    rcases List.mem_cons.mp hx with e | hx
    · rw [e]
      exact ⟨0, _, rfl, rfl, h⟩
    · obtain ⟨j, y, e1, e2, e3⟩ := paired_ix t hx
      exact ⟨j + 1, y, e1, e2, e3⟩
theorem refs_vals : ∀ as : List Addr, Vals (as.map V.ref) (as.map Value.ref)
  | [] => .nil
  | _ :: as => .cons rfl (refs_vals as)
section
variable {X : Cx}
theorem z_laid {pins : List (Addr × Obj)} {σ : L2.St} {H : Hp} {s : Shared} {h' : Heap} {tk : Nat} {S : Addr} {vs us : List V} {xs ys : List Value} {acc : Array Value} {c : Nat} {as : List Addr} (I : Inv X pins σ H s) (hS0 : s.heap.objs.size ≤ S) (rx : Vals vs xs) (ry : Vals us ys) (hlen : vs.length = us.length) (hz : vs.length ≤ sizeLine)
    (hk : ∀ b o, s.heap.get? b = some o → h'.get? b = some o) (hS : h'.get? S = some { cls := .type "list", dict := none, data := .seq acc c, slots := #[] }) (hl : as.length = vs.length) (hG : ZG xs.toArray ys.toArray S h' as) (hacc : acc.toList = as.map Value.ref) :
    ∃ H' : Hp, Same H H' ∧ H S = none ∧ (∀ t ∈ as, H t = none) ∧ S ∉ as ∧ as.Nodup ∧ H' S = some (.lst (as.map V.ref)) ∧ Tups H' as (vs.zip us) ∧ Inv X pins σ H' { s with heap := h', toks := tk } := by
  have hSn : S ∉ as := fun z => Nat.lt_irrefl _ (hG.above _ z)
  have nd : as.Nodup := List.Pairwise.imp (fun {a b} (h : a < b) => Nat.ne_of_lt h) hG.rise
  have new : ∀ t ∈ as, H t = none := fun t ht => I.hok.fresh (Nat.le_trans hS0 (Nat.le_of_lt (hG.above t ht)))
  have newS : H S = none := I.hok.fresh hS0
  have lz : (vs.zip us).length = vs.length := by rw [List.length_zip]; omega
  have atP := putP_at as (vs.zip us) (upd H S (.lst (as.map V.ref))) (by omega) nd
  have off : ∀ b, b ∉ as → b ≠ S → putP (upd H S (.lst (as.map V.ref))) as (vs.zip us) b = H b := fun b h1 h2 => by rw [putP_off as _ _ h1, upd_ne h2]
  have low : ∀ b o, s.heap.get? b = some o → b ∉ as ∧ b ≠ S := fun b o e => ⟨fun z => absurd (Heap.lt_size e) (Nat.not_lt.mpr (Nat.le_trans hS0 (Nat.le_of_lt (hG.above b z)))), Nat.ne_of_lt (Nat.lt_of_lt_of_le (Heap.lt_size e) hS0)⟩
  have kp : ∀ b u, H b = some u → (putP (upd H S (.lst (as.map V.ref))) as (vs.zip us)) b = some u := fun b u e => by
    rw [off b (fun z => by rw [new b z] at e; cases e) (fun z => by rw [z, newS] at e; cases e)]
    exact e
  have eS : putP (upd H S (.lst (as.map V.ref))) as (vs.zip us) S = some (.lst (as.map V.ref)) := by rw [putP_off as _ _ hSn, upd_same]
  refine ⟨putP (upd H S (.lst (as.map V.ref))) as (vs.zip us), kp, newS, new, hSn, nd, eS, atP, ?_⟩
  refine I.call' (ch := []) rfl ⟨fun b o q _ _ _ => hk b o q, fun b o q _ _ _ => ⟨o.slots, hk b o q⟩, fun b o q n _ => ?_, fun b o q _ => ⟨o, hk b o q⟩, fun b xs q => kp b _ q, fun b o u q => kp b _ q, fun b ps q => ⟨#[], by rw [kp b _ q]; simp⟩⟩ (fun b u q => ?_) I.bare fun b z => by simp at z
  · obtain ⟨z1, z2⟩ := low b o q
    rw [off b z1 z2]
    exact n
  · by_cases hb : b ∈ as
    · obtain ⟨j, pk, e1, e2, e3⟩ := paired_ix atP hb
      rw [e3] at q
      cases q
      obtain ⟨x, y, f1, f2, f3⟩ := hG.pairs j b e1
      rw [List.getElem?_zip_eq_some] at e2
      obtain ⟨x', g1, r1⟩ := rx.get e2.1
      obtain ⟨y', g2, r2⟩ := ry.get e2.2
      have f1 : xs[j]? = some x := by simpa using f1
      have f2 : ys[j]? = some y := by simpa using f2
      rw [f1] at g1
      rw [f2] at g2
      cases g1
      cases g2
      exact ⟨by show 2 ≤ sizeLine; decide, [x, y], .cons r1 (.cons r2 .nil), ⟨_, f3, rfl, _, rfl⟩⟩
    · by_cases hb2 : b = S
      · rw [hb2] at q ⊢
        rw [eS] at q
        cases q
        refine ⟨by rw [List.length_map]; omega, acc.toList, c, by rw [hacc]; exact refs_vals as, ?_⟩
        rw [Array.toArray_toList]
        exact hS
      · rw [off b hb hb2] at q
        exact (I.hok b u q).stay (fun d v _ y => hk d v y) (fun d y => kp d _ y) fun d xs y => kp d _ y
/-- list(zip(xs, ys)) -/
def tListZip (K : PySem.W.Frag) (ta : TA) : TE := fun σ H Q => ta σ H fun vs H1 => ∃ (a b : Addr) (xs ys : List V), vs = [.ref a, .ref b] ∧ SqL K H1 a xs ∧ SqL K H1 b ys ∧ xs.length = ys.length ∧ xs.length ≤ 5000 ∧
  ∀ (H' : Hp) (p : Addr) (ts : List Addr), Same H1 H' → H1 p = none → (∀ t ∈ ts, H1 t = none) → p ∉ ts → ts.Nodup → H' p = some (.lst (ts.map V.ref)) → Tups H' ts (xs.zip ys) → Q (.ref p) H'
theorem pe_listZip {e1 e2 : Expr} {ta : TA} {p p2 pos pos2 : Pos} (hcalm : X.calm = true) (hg : Gl X "list") (hm : X.mg "list" = none) (hgz : Gl X "zip") (hmz : X.mg "zip" = none) (ha : PA X [e1, e2] ta)
    (hs : starEach [e1, e2] X.env = (false, eval e1 X.env) :: starEach [e2] X.env := by rfl) (hpl : (backTo pos2 (starEach [e2] X.env)).any (·.1) = false := by rfl) :
    PE X (.Call (.Name "list" p) [.Call (.Name "zip" p2) [e1, e2] [] pos2] [] pos) (tListZip X.K ta) := by
  refine ⟨fun pins s σ H Q I h => ?_⟩
  refine Call_ (ld_blt I hg hm PyProof.Rows.boot_list (PyProof.Rows.callWith_type1 (args_cons (Call_ (ld_blt I hgz hmz PyProof.Rows.boot_zip (PyProof.Rows.callWith_type1 (thn (ha.run pos2 pins s σ H _ I h) fun us s1 ⟨vs, H1, I1, r1, q1⟩ => ?_) hs hpl))) (by rfl)) (by rfl)))
  obtain ⟨a, b, xs, ys, rfl, sa, sb, hl, hk, q⟩ := q1
  obtain ⟨u1, u2, rfl, ra, rb⟩ := vals2 r1
  cases (show u1 = Value.ref a from ra)
  cases (show u2 = Value.ref b from rb)
  obtain ⟨its, rv, p1, _⟩ := I1.list sa
  obtain ⟨its2, rv2, p2', _⟩ := I1.list sb
  have n1 := rv.length
  have n2 := rv2.length
  refine call_zip_2 p1.isList p2'.isList fun h1 hz hTI hTO i1 i2 hsz hk1 => args_nil ?_
  have D := PySem.W.ktu_apart s1.heap.objs.size a b p1.lt p2'.lt
  refine z_call (s := { s1 with heap := h1 }) (n := xs.length) (I1.ok.hd hcalm) D (by rw [List.size_toArray]; omega) (by rw [List.size_toArray]; omega) (Nat.le_trans hk (by decide)) hz hTI hTO i1 i2 (p1.isList.at fun o e => hk1 _ o e) (p2'.isList.at fun o e => hk1 _ o e) fun h' tk acc c as hkp hS hla hG hacc => ?_
  have k : ∀ c o, s1.heap.get? c = some o → h'.get? c = some o := fun c o e => by
    have lt := Heap.lt_size e
    exact hkp c o (Nat.ne_of_lt (Nat.lt_of_lt_of_le lt (Nat.le_add_right _ _))) (Nat.ne_of_lt (Nat.lt_of_lt_of_le lt (Nat.le_add_right _ _))) (Nat.ne_of_lt lt) (Nat.ne_of_lt (Nat.lt_of_lt_of_le lt (Nat.le_add_right _ _))) (hk1 c o e)
  obtain ⟨H', t1, t2, t3, t4, t5, t6, t7, J⟩ := z_laid (tk := tk) I1 (S := h1.objs.size) (by omega) rv rv2 hl (Nat.le_trans hk (by decide)) k hS hla hG hacc
  exact ⟨.ref _, H', J, rfl, q H' _ as t1 t2 t3 t4 t5 t6 t7⟩
end
end Lz
namespace Ds
open PySem PySem.Spec PyProof.Rows L2
section
variable {X : Cx}
theorem ps_setDc {i : Nat} {y : Str} {py : Pos} {kx vx tg iter : Expr} {ifs : List Expr} {scope : Scope} {own : List (Str × Nat)} {pos spos : Pos} {wi : TI} {g : TG} {tt : TT} {tk tv : TE} (hc : X.calm = true) (hN : X.N.Nodup) (hy : X.N[i]? = some y) (hyl : X.env.scope.names.lookup y = some .local)
    (hsw : swapsWith (.DictComp kx vx [⟨tg, iter, ifs, 0⟩] scope pos) (some (.Name y py)) spos.line X.env = pure true) (hi : PI X tg iter wi) (ok : BlkOk X.N X.env.scope scope own)
    (hg : ∀ (s : Shared) (H : Hp) (C : Addr) (cl : List (Str × Addr)) (fp : List Addr), PG (X.blk s H scope (compEnvC scope cl C X.env) fp) tg g) (ht : ∀ (s : Shared) (H : Hp) (C : Addr) (cl : List (Str × Addr)) (fp : List Addr), PTs (X.blk s H scope (compEnvC scope cl C X.env) fp) ifs tt)
    (hk : ∀ (s : Shared) (H : Hp) (C : Addr) (cl : List (Str × Addr)) (fp : List Addr), PE (X.blk s H scope (compEnvC scope cl C X.env) fp) kx tk)
    (he : ∀ (s : Shared) (H : Hp) (C : Addr) (cl : List (Str × Addr)) (fp : List Addr), PE (X.blk s H scope (compEnvC scope cl C X.env) fp) vx tv) (hs : ∀ x, foldedSetIterable iter X.env x = pure x := by intro _; rfl) :
    PS X (.Assign [.Name y py] (.DictComp kx vx [⟨tg, iter, ifs, 0⟩] scope pos) spos) (tAsg (tDc wi g tt tk tv (own.map (·.2))) (gName i)) := by
  refine ⟨fun pins s σ H D I h => ?_⟩
  rw [exec_Assign_Name_used _ _ _ _ hsw]
  refine wpAny_bind (wpAny_standAt (wpAny_bind ?_))
  show wpAny _ X.A (do let _ ← comprehension (.DictComp kx vx [⟨tg, iter, ifs, 0⟩] scope pos) scope X.env (firstIterPos [⟨tg, iter, ifs, 0⟩] pos) newDict false (eval iter X.env) (some (assign (.Name y py) X.env))) _ _ s
  have h : tDc wi g tt tk tv (own.map (·.2)) σ H (fun x H1 => gName i x σ H1 D.nx) := h
  refine wpAny_bind (thn (dc_core (Qf := fun _ s' => SP X pins D .next s') hc hN I hi ok hg ht hk he hs h fun L C s' m H' I' q hn f => ?_) fun _ s' hq => wpAny_pure (wpAny_pure hq))
  show wpAny _ _ (assign (.Name y py) X.env (.ref L)) _ _ _
  refine wpAny_assign_Name (store_ok2 (v := V.ref L) I' hN hy (.inl hyl) rfl (fun s2 I2 ⟨a, sb, ha⟩ => ?_) (.inr hyl))
  obtain ⟨f0, f1, f2, f3, f4, f5⟩ := f
  have haC : C ≠ a := by
    rcases ha with z | z
    · rw [z]; exact f1
    · exact fun e => f4 y a z e.symm
  refine ⟨m, hn.sameBut sb haC, fun h3 sb3 => ?_⟩
  exact ⟨_, H', I2.turned (t' := s2.toks) (fun b o hb e => (sb3.2 b hb).trans e) f0 f1 f3 f4 f5, q⟩
theorem sw_trueD {kx vx : Expr} {gs : List Comprehension} {scope : Scope} {pos py : Pos} {y : Str} {l : Nat} {env : Env} (hk : env.scope.kind = .function) (hy : env.scope.names.lookup y = some .local) (hl : (py.line == pos.line) = true)
    (ha : (scope.names.any fun (n, k) => n == y && (k == .local || k == .cell)) = false) : swapsWith (.DictComp kx vx gs scope pos) (some (.Name y py)) l env = pure true := by
  have ky : env.kindOf y = some .local := hy
  have hb : env.blockKind = .function := by unfold Env.blockKind; rw [hk]; rfl
  unfold swapsWith
  simp only [hb, ky, ha, Expr.pos, hl]
  rfl
end
end Ds
namespace Rt
open PySem PySem.Spec PyProof.Rows L2 HT
section
variable {prog : Program} {w : World} {A : Around} {E : Value → Shared → Prop} {s : Shared}
theorem applied {sl : Addr} {vl vu vs : Value} {Q : Int × Int × Nat → Shared → Prop} (hs : s.heap.IsSliceOf sl vl vu vs) (pl : IsPart vl (some 1)) (pu : IsPart vu none) (ps : IsPart vs (some (-1)))
    (h : Q (1, -1, 2) s) : wpAny (model prog w) A (Builtin.Slice.sliceApplied (.ref sl) (pure 4)) Q E s := by
  obtain ⟨os, hos, hcs, hds⟩ := id hs
  unfold Builtin.Slice.sliceApplied Builtin.Slice.sliceFields
  refine wpAny_bind (wpAny_bind (wpAny_field hos hds (x := vl) rfl (wpAny_bind (wpAny_field hos hds (x := vu) rfl (wpAny_bind (wpAny_field hos hds (x := vs) rfl (wpAny_pure ?_)))))))
  refine wpAny_bind (slicePart_ ps ?_)
  show wpAny _ _ (if ((-1 : Int) == 0) = true then _ else _) _ _ s
  rw [if_neg (by decide)]
  refine wpAny_bind (slicePart_ pl (wpAny_bind (slicePart_ pu (wpAny_bind (wpAny_pure ?_)))))
  exact wpAny_pure h
end
section
variable {X : Cx}
end
end Rt
namespace Ss
open PySem PySem.Spec PyProof.Rows L2
def kOf (e : Int × Value) : Str := match e.2 with
  | .str k _ => k
  | _ => ⟨#[]⟩
def Gd (w : World) (e : Int × Value) : Prop := ∃ k tk, e.2 = Value.str k tk ∧ e.1 = hashStr w k
abbrev Led (w : World) (t : SetTable) : Prop := w.params.followText "set-order" = true ∨ t.led = true
/-- the set of texts at a, its members the list L -/
def SetS (w : World) (h : Heap) (a : Addr) (L : List Str) : Prop := ∃ o es ep t, h.get? a = some o ∧ o.ExactSet ∧ o.data = .set es ep t ∧ (∀ e ∈ es.toList, Gd w e) ∧ (es.toList.map kOf).Perm L ∧ L.Nodup ∧ es.size < scanBound ∧ t.fits es.size = true ∧ Ris t.place.toList ∧ Led w t
section
variable {P : Program} {w : World} {A : Around} {E : Value → Shared → Prop} {s : Shared} {a : Addr} {L : List Str} {h h' : Heap}
theorem isS (k : Str) (u : Tok) : (PySem.strKind P w).is k (.str k u) = true := by show Value.isStrOf k (.str k u) = true; simp [Value.isStrOf]
theorem SetS.at (R : SetS w h a L) (k : ∀ o, h.get? a = some o → h'.get? a = some o) : SetS w h' a L := let ⟨o, es, ep, t, ho, r⟩ := R; ⟨o, es, ep, t, k o ho, r⟩
theorem gd_elems {l : List (Int × Value)} (g : ∀ e ∈ l, Gd w e) : ElemsOf (PySem.strKind P w) l := fun e he => let ⟨k, tk, h1, h2⟩ := g e he; ⟨⟨k, h1 ▸ isS k tk, h2⟩, by rw [h1]; rfl⟩
theorem gd_is {e : Int × Value} (g : Gd w e) (k : Str) : (PySem.strKind P w).is k e.2 = true ↔ kOf e = k := by
  obtain ⟨k0, tk, h1, -⟩ := g
  have ek : kOf e = k0 := by unfold kOf; rw [h1]
  rw [ek, h1]
  constructor
  · intro z
    obtain ⟨t, et⟩ := Value.isStrOf_shape (x := k) (v := .str k0 tk) z
    injection et
  · intro z
    rw [z]
    exact isS k tk
theorem gd_mem {l : List (Int × Value)} (g : ∀ e ∈ l, Gd w e) (k : Str) : k ∈ l.map kOf ↔ ∃ e ∈ l, (PySem.strKind P w).is k e.2 = true :=
  ⟨fun z => let ⟨e, he, q⟩ := List.mem_map.mp z; ⟨e, he, (gd_is (g e he) k).2 q⟩, fun ⟨e, he, q⟩ => List.mem_map.mpr ⟨e, he, (gd_is (g e he) k).1 q⟩⟩
theorem SetS.len (R : SetS w h a L) : ∀ {o es ep t}, h.get? a = some o → o.data = .set es ep t → es.size = L.length := by
  obtain ⟨o', es', ep', t', ho', _, hd', _, pm, _⟩ := R
  intro o es ep t ho hd
  rw [ho'] at ho
  cases ho
  rw [hd'] at hd
  cases hd
  have z := pm.length_eq
  rw [List.length_map, Array.length_toList] at z
  exact z
theorem SetS.setOf (R : SetS w h a L) : h.SetOf (PySem.strKind P w) a (fun k => decide (k ∈ L)) L.length := by
  have hlen := @SetS.len _ _ _ _ R
  obtain ⟨o, es, ep, t, ho, hx, hd, g, pm, nd, hb, hf, -⟩ := R
  exact ⟨o, es, ep, t, ho, hx, hd, gd_elems g, fun k => by rw [decide_eq_true_eq, ← pm.mem_iff]; exact gd_mem g k, hb, hf, hlen ho hd⟩
end
section
variable {prog : Program} {w : World} {A : Around} {R : Result → Shared → Prop} {s : Shared} {elt t0 i0 t1 i1 : Expr} {f0 f1 : List Expr} {sc : Scope} {pos : Pos} {it acc : Value} {env : Env}
end
section
variable {X : Cx}
end
end Ss
namespace Md
open PySem PySem.Spec PyProof.Rows L2
open PySem.W (DatumOrd Datum minOf AlikeAll readsAll_len readsAll_atA cmpIn_lt iter_listW moved_old argBest_fold dataLt)
section
variable {α : Type} [DecidableEq α] [DatumOrd α]
end
end Md
namespace Rm
abbrev Nd := List Nat
section
variable (R : Nd → Nd → Prop) (F : Nd → Prop)
/-- a walk of n steps to a goal -/
def Wk : Nat → Nd → Prop
  | 0, x => F x
  | n + 1, x => ∃ y, R x y ∧ Wk n y
/-- it is n steps away -/
def Ds (n : Nat) (x : Nd) : Prop := Wk R F n x ∧ ∀ m, m < n → ¬ Wk R F m x
variable {R F}
theorem Ds.eq {n m : Nat} {x : Nd} (h : Ds R F n x) (k : Ds R F m x) : n = m := by
  rcases Nat.lt_trichotomy n m with c | c | c
  · exact absurd h.1 (k.2 n c)
  · exact c
  · exact absurd k.1 (h.2 m c)
theorem Ds.next {n : Nat} {x y : Nd} (h : Ds R F (n + 1) x) (r : R x y) (w : Wk R F n y) : Ds R F n y := ⟨w, fun m hm hw => h.2 (m + 1) (by omega) ⟨y, r, hw⟩⟩
/-- the least of those with a property -/
def Lst (P : Nd → Prop) (y : Nd) : Prop := P y ∧ ∀ z, P z → ¬ z < y
theorem Lst.eq {P : Nd → Prop} {y z : Nd} (a : Lst P y) (b : Lst P z) : y = z := List.le_antisymm (List.not_lt.mp (a.2 z b.1)) (List.not_lt.mp (b.2 y a.1))
variable (R F)
/-- the least of the shortest roads -/
def Gr : Nat → Nd → List Nd → Prop
  | 0, x, r => F x ∧ r = [x]
  | n + 1, x, r => ∃ y t, Lst (fun y => R x y ∧ Ds R F n y) y ∧ Gr n y t ∧ r = x :: t
variable {R F}
theorem Gr.eq : ∀ {n : Nat} {x : Nd} {r t : List Nd}, Gr R F n x r → Gr R F n x t → r = t
  | 0, _, _, _, h, k => h.2.trans k.2.symm
  | n + 1, x, _, _, ⟨y, r, h1, h2, h3⟩, ⟨z, t, k1, k2, k3⟩ => by
    have := h1.eq k1
    subst this
    rw [h3, k3, h2.eq k2]
theorem Gr.len : ∀ {n : Nat} {x : Nd} {r : List Nd}, Gr R F n x r → r.length = n + 1
  | 0, _, _, h => by rw [h.2]; rfl
  | n + 1, _, _, ⟨y, t, _, h2, h3⟩ => by rw [h3, List.length_cons, h2.len]
theorem Gr.head : ∀ {n : Nat} {x : Nd} {r : List Nd}, Gr R F n x r → r.head? = some x
  | 0, _, _, h => by rw [h.2]; rfl
  | n + 1, _, _, ⟨y, t, _, h2, h3⟩ => by rw [h3]; rfl
/-- a walk, its places told: p begins with x and its neighbours are related -/
def Pth (R : Nd → Nd → Prop) : Nd → List Nd → Prop
  | x, [] => False
  | x, [y] => x = y
  | x, y :: z :: t => x = y ∧ R x z ∧ Pth R z (z :: t)
end
/-- roads of unlike places, t steps long -/
def SP (R : Nd → Nd → Prop) (x : Nd) (t : Nat) (p : List Nd) : Prop := Pth R x p ∧ p.length = t + 1 ∧ p.Nodup
theorem SP.ne {R : Nd → Nd → Prop} {x : Nd} {t : Nat} {p : List Nd} (h : SP R x t p) : p ≠ [] := fun e => by
  have := h.2.1
  rw [e] at this
  cases this
end Rm
namespace Th
open PySem PySem.Spec PyProof.Rows L2
end Th
namespace Th
open PySem PySem.Spec PyProof.Rows L2
abbrev nS (l : List Nat) : V := .str (SX.S l)
def Lower (l : List Nat) : Prop := ∀ c ∈ l, 97 ≤ c ∧ c ≤ 122
/-- a name: one to eight letters -/
def IsNm (l : List Nat) : Prop := 1 ≤ l.length ∧ l.length ≤ 8 ∧ Lower l
abbrev abc : Str := Str.ofString "abcdefghijklmnopqrstuvwxyz"
theorem abc_list : abc.cps.toList = (List.range 26).map (97 + ·) := by decide +kernel
theorem abc_at {d : Int} (h0 : 0 ≤ d) (h1 : d < 26) : atI abc.cps.toList d = some (97 + d.toNat) := by
  obtain ⟨j, rfl⟩ : ∃ j : Nat, d = (j : Int) := ⟨d.toNat, by omega⟩
  refine atI_nat ?_
  rw [abc_list, List.getElem?_map, List.getElem?_range (by omega)]
  rfl
theorem joinL_one : ∀ cs : List Nat, TL.joinL [] (cs.map fun c => [c]) = cs
  | [] => rfl
  | [_] => rfl
  | c :: d :: cs => by
    show [c] ++ ([] ++ TL.joinL [] ((d :: cs).map fun c => [c])) = _
    rw [joinL_one (d :: cs)]
    rfl
theorem join_signs (cs : List Nat) : Txt.join (SX.S []) ((cs.map fun c => [c]).map SX.S) = SX.S cs := by rw [SX.join_S, joinL_one]
theorem p26 : (0 : Int) < 26 := by decide
theorem paired_snoc {α β : Type} {R : α → β → Prop} : ∀ {as : List α} {bs : List β} {a : α} {b : β}, Paired R as bs → R a b → Paired R (as ++ [a]) (bs ++ [b])
  | _, _, _, _, .nil, r => .cons r .nil
  | _, _, _, _, .cons q t, r => .cons q (paired_snoc t r)
theorem paired_imp {α β : Type} {R S : α → β → Prop} : ∀ {as : List α} {bs : List β}, Paired R as bs → (∀ a ∈ as, ∀ b, R a b → S a b) → Paired S as bs
  | _, _, .nil, _ => .nil
  | _, _, .cons q t, f => .cons (f _ (List.mem_cons_self ..) _ q) (paired_imp t fun a ha b r => f a (List.mem_cons_of_mem _ ha) b r)
theorem paired_get {α β : Type} {R : α → β → Prop} : ∀ {as : List α} {bs : List β} {i : Nat} {a : α}, Paired R as bs → as[i]? = some a → ∃ b, bs[i]? = some b ∧ R a b
  | _, _, _, _, .nil, h => by simp at h
  | _, _, 0, _, .cons q t, h => by
    have e := Option.some.inj h
    subst e
    exact ⟨_, rfl, q⟩
  | _, _, i + 1, _, .cons q t, h => paired_get (i := i) t h
theorem paired_len {α β : Type} {R : α → β → Prop} : ∀ {as : List α} {bs : List β}, Paired R as bs → as.length = bs.length
  | _, _, .nil => rfl
  | _, _, .cons _ t => congrArg Nat.succ (paired_len t)
theorem one_sz {x : V} : [x].length ≤ sizeLine := by show 1 ≤ sizeLine; decide
theorem paired_append {α β : Type} {R : α → β → Prop} : ∀ {as cs : List α} {bs ds : List β}, Paired R as bs → Paired R cs ds → Paired R (as ++ cs) (bs ++ ds)
  | _, _, _, _, .nil, h => h
  | _, _, _, _, .cons q t, h => .cons q (paired_append t h)
theorem paired_take {α β : Type} {R : α → β → Prop} : ∀ {as : List α} {bs : List β} (n : Nat), Paired R as bs → Paired R (as.take n) (bs.take n)
  | _, _, 0, _ => by rw [List.take_zero, List.take_zero]; exact .nil
  | _, _, n + 1, .nil => .nil
  | _, _, n + 1, .cons q t => .cons q (paired_take n t)
theorem cut_to (xs : List V) (j : Nat) : cutV xs none (some (j : Int)) = xs.take j := by
  unfold cutV
  rw [HT.sIx_none, HT.sIx_nat, List.drop_zero, Nat.sub_zero]
  by_cases h : j ≤ xs.length
  · rw [Nat.min_eq_left h]
  · rw [Nat.min_eq_right (by omega), List.take_of_length_le (Nat.le_refl _), List.take_of_length_le (by omega)]
abbrev Nm := List Nat
def TK (H H' : Hp) : Prop := ∀ a xs, H a = some (.tup xs) → H' a = some (.tup xs)
theorem TK.of {H H' : Hp} (s : Same H H') : TK H H' := fun a xs e => s a _ e
theorem TK.trans {H H' H2 : Hp} (a : TK H H') (b : TK H' H2) : TK H H2 := fun c xs e => b c xs (a c xs e)
theorem TK.keep {p : Addr} {H H' : Hp} (k : Keep p H H') (b : Bag H p) : TK H H' := fun a xs e => k a _ (fun z => by
  obtain ⟨g, r, e', _⟩ := b
  rw [z, e'] at e
  cases e) e
theorem TK.upd {c : Addr} {H : Hp} {o : HO} (h : ∀ xs, H c ≠ some (.tup xs)) : TK H (upd H c o) := fun a xs e => by
  rw [upd_ne (fun z => h xs (by rw [← z]; exact e))]
  exact e
theorem Keep.set {p S : Addr} {H H' : Hp} {o : HO} (k : Keep p H H') (n : H S = none) : Keep p H (L2.upd H' S o) := fun c o nc ec => by
  rw [upd_ne (ne_of_none ec n)]
  exact k c o nc ec
theorem same_set {S : Addr} {H H' : Hp} {o : HO} (k : Same H H') (n : H S = none) : Same H (upd H' S o) := fun c o ec => by
  rw [upd_ne (ne_of_none ec n)]
  exact k c o ec
theorem two_sz {x y : V} : [x, y].length ≤ sizeLine := by show 2 ≤ sizeLine; decide
theorem four_sz {x y z u : V} : [x, y, z, u].length ≤ sizeLine := by show 4 ≤ sizeLine; decide
theorem paired_drop {α β : Type} {R : α → β → Prop} : ∀ {as : List α} {bs : List β} (n : Nat), Paired R as bs → Paired R (as.drop n) (bs.drop n)
  | _, _, 0, h => h
  | _, _, n + 1, .nil => .nil
  | _, _, n + 1, .cons q t => paired_drop n t
theorem paired_ins {α β : Type} {R : α → β → Prop} {as : List α} {bs : List β} (n : Nat) {a : α} {b : β} (h : Paired R as bs) (r : R a b) : Paired R (as.take n ++ [a] ++ as.drop n) (bs.take n ++ [b] ++ bs.drop n) :=
  paired_append (paired_append (paired_take n h) (.cons r .nil)) (paired_drop n h)
theorem perm_ins {α : Type} (xs : List α) (n : Nat) (x : α) : (xs.take n ++ [x] ++ xs.drop n).Perm (xs ++ [x]) := by
  have h1 : (xs.take n ++ [x] ++ xs.drop n).Perm (x :: (xs.take n ++ xs.drop n)) := by
    rw [List.append_assoc]
    exact List.perm_middle
  rw [List.take_append_drop] at h1
  exact h1.trans (List.perm_append_comm (l₁ := [x]) (l₂ := xs))
theorem ins_map {xs : List Addr} {n : Nat} {x : Addr} : (xs.map V.ref).take n ++ [V.ref x] ++ (xs.map V.ref).drop n = (xs.take n ++ [x] ++ xs.drop n).map V.ref := by
  simp only [List.map_append, List.map_take, List.map_drop, List.map_cons, List.map_nil]
theorem nodup_inj {α : Type} {zs : List α} (h : zs.Nodup) {x y : Nat} {z : α} (h1 : zs[x]? = some z) (h2 : zs[y]? = some z) : x = y := by
  rw [List.nodup_iff_pairwise_ne, List.pairwise_iff_getElem] at h
  obtain ⟨l1, g1⟩ := List.getElem?_eq_some_iff.mp h1
  obtain ⟨l2, g2⟩ := List.getElem?_eq_some_iff.mp h2
  rcases Nat.lt_trichotomy x y with c | c | c
  · exact absurd (g1.trans g2.symm) (h x y l1 l2 c)
  · exact c
  · exact absurd (g2.trans g1.symm) (h y x l2 l1 c)
theorem nm_ok {z : Nm} (h : IsNm z) : PyData.strOk (SX.S z) = true := by
  unfold PyData.strOk
  rw [Array.all_eq_true']
  intro c hc
  have hc : c ∈ z := by simpa [SX.S] using hc
  have := h.2.2 c hc
  exact decide_eq_true (by omega)
end Th
namespace Th
open PySem PySem.Spec PyProof.Rows L2
/-- the tuple xs at a, its object known to be plain -/
def TpF (H : Hp) (a : Addr) (xs : List V) : Prop := ∃ o : Obj, H a = some (.frz o (.tup xs)) ∧ o.dict = none
theorem TpF.sq {K : PySem.W.Frag} {H : Hp} {a : Addr} {xs : List V} (h : TpF H a xs) : SqT K H a xs := let ⟨o, e, _⟩ := h; .inl (.inr ⟨o, e⟩)
theorem TpF.same {H H' : Hp} {a : Addr} {xs : List V} (h : TpF H a xs) (s : Same H H') : TpF H' a xs := let ⟨o, e, d⟩ := h; ⟨o, s _ _ e, d⟩
theorem TpF.keep {p : Addr} {H H' : Hp} {a : Addr} {xs : List V} (h : TpF H a xs) (k : Keep p H H') (b : Bag H p) : TpF H' a xs := by
  obtain ⟨o, e, d⟩ := h
  refine ⟨o, k _ _ (fun z => ?_) e, d⟩
  obtain ⟨g, r, e', _⟩ := b
  rw [z, e'] at e
  cases e
def rTupF (K : PySem.W.Frag) : List V → Hp → VK → Prop := fun xs H Q => ∃ (p : Addr) (ys : List V), xs = [.ref p] ∧ SqL K H p ys ∧ ∀ (l : Addr) (H' : Hp), H l = none → Same H H' → TpF H' l ys → (∀ q, q ≠ l → H' q = H q) → Q (.ref l) H'
theorem call_tuple_ofF {X : Cx} : CallR X (.type "tuple") (rTupF X.K) := by
  intro pins s σ H xs us Q I r h
  obtain ⟨p, ys, rfl, hq, q⟩ := h
  obtain ⟨u, rfl, rx⟩ := vals1 r
  cases rx
  obtain ⟨its, r', pl, hz⟩ := I.list hq
  have hlen := r'.length
  refine call_tuple_list pl.isList (fun h' kp => ?_) (by simp only [List.size_toArray] <;> omega)
  have I1 : Inv X pins σ H { s with heap := h' } := I.kept (t' := s.toks) kp
  have I2 : Inv X pins σ (upd H h'.objs.size (.frz { cls := .type "tuple", data := .seq its.toArray } (.tup ys))) { s with heap := h'.push { cls := .type "tuple", data := .seq its.toArray } } :=
    I1.laid (t' := s.toks) (fun b o e => Heap.get?_push_of_some _ e) (Nat.le_refl _) (show ObjOk X.prog X.w _ _ _ (.frz _ (.tup ys)) from ⟨Heap.get?_push_size _ rfl, hz, its, r', IsTup.new _ _⟩)
  have nl := I1.hok.fresh (Nat.le_refl h'.objs.size)
  exact ⟨.ref h'.objs.size, _, I2, rfl, q _ _ nl (same_upd nl) ⟨_, upd_same, rfl⟩ fun q hq => upd_ne hq⟩
end Th
namespace Tw
open PySem PySem.Spec PyProof.Rows L2 HT Th
section
variable {X : Cx}
end
section
variable {prog : Program} {w : World} {A : Around} {E : Value → Shared → Prop} {s : Shared}
theorem places (n : Nat) : Builtin.Slice.slicePlaces ((n : Int) - 1) (-1) (-1) = n := by
  unfold Builtin.Slice.slicePlaces
  rw [if_neg (by decide)]
  by_cases h : (n : Int) - 1 > -1
  · rw [if_pos h]
    have e : ((n : Int) - 1 - -1 - 1) / (- -1) + 1 = (n : Int) := by
      rw [show (- -1 : Int) = 1 by decide, Int.ediv_one]
      omega
    rw [e]
    rfl
  · rw [if_neg h]
    have : n = 0 := by omega
    subst this
    rfl
theorem applied {sl : Addr} {n : Nat} {vl vu vs : Value} {Q : Int × Int × Nat → Shared → Prop} (hs : s.heap.IsSliceOf sl vl vu vs) (pl : IsPart vl none) (pu : IsPart vu none) (ps : IsPart vs (some (-1)))
    (h : Q ((n : Int) - 1, -1, n) s) : wpAny (model prog w) A (Builtin.Slice.sliceApplied (.ref sl) (pure (n : Int))) Q E s := by
  obtain ⟨os, hos, hcs, hds⟩ := id hs
  unfold Builtin.Slice.sliceApplied Builtin.Slice.sliceFields
  refine wpAny_bind (wpAny_bind (wpAny_field hos hds (x := vl) rfl (wpAny_bind (wpAny_field hos hds (x := vu) rfl (wpAny_bind (wpAny_field hos hds (x := vs) rfl (wpAny_pure ?_)))))))
  refine wpAny_bind (slicePart_ ps ?_)
  show wpAny _ _ (if ((-1 : Int) == 0) = true then _ else _) _ _ s
  rw [if_neg (by decide)]
  refine wpAny_bind (slicePart_ pl (wpAny_bind (slicePart_ pu (wpAny_bind (wpAny_pure ?_)))))
  have e : Builtin.Slice.sliceAdjust none none (-1) (n : Int) = ((n : Int) - 1, -1) := by
    unfold Builtin.Slice.sliceAdjust
    simp
  show wpAny _ _ (match Builtin.Slice.sliceAdjust none none (-1) (n : Int) with | (lo, hi) => pure (lo, (-1 : Int), Builtin.Slice.slicePlaces lo hi (-1))) Q E s
  rw [e]
  refine wpAny_pure ?_
  show Q (_, _, Builtin.Slice.slicePlaces ((n : Int) - 1) (-1) (-1)) s
  rw [places]
  exact h
theorem fm_congr {α β : Type} {f g : α → Option β} : ∀ {l : List α}, (∀ x ∈ l, f x = g x) → l.filterMap f = l.filterMap g
  | [], _ => rfl
  | x :: l, h => by
    rw [List.filterMap_cons, List.filterMap_cons, h x List.mem_cons_self, fm_congr fun y hy => h y (List.mem_cons_of_mem _ hy)]
theorem back (xs : Array Value) : ((List.range xs.size).filterMap fun (k : Nat) => xs[(((xs.size : Int) - 1) + (k : Int) * (-1)).toNat]?) = xs.toList.reverse := by
  have e : ((List.range xs.size).filterMap fun (k : Nat) => xs[(((xs.size : Int) - 1) + (k : Int) * (-1)).toNat]?) = ((List.range xs.size).map fun k => xs.size - 1 - k).filterMap (xs[·]?) := by
    rw [List.filterMap_map]
    refine fm_congr fun k hk => ?_
    have := List.mem_range.mp hk
    show _ = xs[xs.size - 1 - k]?
    congr 1
    omega
  rw [e, PySem.W.krv_range, List.filterMap_reverse, PySem.W.krv_all]
theorem item_rev {t sl : Addr} {items : Array Value} {vl vu vs : Value} {Q : Value → Shared → Prop} (ht : IsTup s.heap t items) (hs : s.heap.IsSliceOf sl vl vu vs) (pl : IsPart vl none) (pu : IsPart vu none) (ps : IsPart vs (some (-1))) (hz : items.size ≤ sizeLine)
    (h : Q (.ref s.heap.objs.size) { s with heap := s.heap.push { cls := .type "tuple", data := .seq items.toList.reverse.toArray } }) : wpAny (model prog w) A (getItem (.ref t) (.ref sl)) Q E s := by
  have htake : sizeOk (.seq items.toList.reverse.toArray) := by
    show items.toList.reverse.toArray.size ≤ sizeLine
    simpa using hz
  obtain ⟨os, hos, hcs, hds⟩ := id hs
  have hTs : s.TypeIs (.ref sl) "slice" := ⟨os, hos, hcs⟩
  unfold getItem
  try with_reducible refine wpAny_holding ?_
  first | refine wpAny_bind (wpAny_pure ?_) | skip
  refine wpAny_bind (wpAny_sequenceKey ht.typeIs (by decide) ?_)
  refine wpAny_bind (wpAny_callSpecial?_slot (name := Str.ofString "__getitem__") ht.typeIs PyProof.Rows.slot_tuple_getitem
    (wpAny_call_entry PyProof.Rows.slot_tuple_getitem ht.typeIs entry_tuple_getitem ?_ (args_tuple_getitem _ _)))
  show wpAny _ _ (Builtin.Tuple.tupleItemsOf (.ref t) >>= _) _ _ s
  refine wpAny_bind (tupleItemsOf_ ht ?_)
  refine wpAny_bind (wpAny_typeOf hTs ?_)
  rw [if_pos (by decide)]
  refine wpAny_bind (applied hs pl pu ps ?_)
  show wpAny _ _ (if (((items.size : Int) - 1) == 0 && (-1 : Int) == 1 && items.size == items.size) = true then _ else _) _ _ s
  rw [if_neg (by simp)]
  show wpAny _ _ (Builtin.Tuple.tupleExact ((List.range items.size).filterMap fun (k : Nat) => items[(((items.size : Int) - 1) + (k : Int) * (-1)).toNat]?).toArray >>= _) _ _ s
  rw [back]
  first
    | exact wpAny_bind (m := Builtin.Tuple.tupleExact _) (wpAny_newObj_type (wpAny_pure ⟨_, rfl, wpAny_pure h⟩) htake)
    | exact wpAny_bind (m := Builtin.Tuple.tupleExact _) (wpAny_newObj_type (wpAny_bind (wpAny_pure (wpAny_pure ⟨_, rfl, wpAny_pure h⟩))) htake)
    | exact wpAny_bind (wpAny_bind (m := Builtin.Tuple.tupleExact _) (wpAny_newObj_type (wpAny_pure (wpAny_pure ⟨_, rfl, wpAny_pure h⟩)) htake))
    | exact wpAny_bind (wpAny_bind (m := Builtin.Tuple.tupleExact _) (wpAny_newObj_type (wpAny_pure ⟨_, rfl, wpAny_pure h⟩) htake))
end
section
variable {X : Cx}
def tRevT (K : PySem.W.Frag) (te : TE) : TE := fun σ H Q => te σ H fun x H1 => ∃ a xs, x = .ref a ∧ SqT K H1 a xs ∧ ∀ p, H1 p = none → Q (.ref p) (upd H1 p (.tup xs.reverse))
theorem pe_revT {K : PySem.W.Frag} {e : Expr} {te : TE} {k : Nat} {p1 p2 p3 pos : Pos} (he : PE X e te) (hK : X.K = K := by rfl) : PE X (.Subscript e (.Slice none none (some (.UnaryOp .USub (.Constant (.int 1) k p1) p2)) p3) pos) (tRevT K te) := by
  subst hK
  refine ⟨fun pins s σ H Q I h => ?_⟩
  refine Subscript_ (thn (he.run pins s σ H _ I h) fun v s1 ⟨x, H1, I1, r1, q1⟩ => ?_)
  obtain ⟨a, xs, ex, hx, q⟩ := q1
  subst ex
  cases r1
  have hst : PO X (some (.UnaryOp .USub (.Constant (.int 1) k p1) p2)) (tPart (tUn (rU fun i => .int (-i)) (tC (.int 1)))) := po_some (pe_un un_neg pe_int)
  refine wpAny_Slice (thn (po_none.run pins s1 σ H1 (fun o H2 => o = none ∧ H2 = H1) I1 ⟨rfl, rfl⟩) fun vl s2 ⟨l, H2, I2, pl, el, e2⟩ => ?_)
  subst el e2
  refine thn (po_none.run pins s2 σ H2 (fun o H3 => o = none ∧ H3 = H2) I2 ⟨rfl, rfl⟩) fun vu s3 ⟨u, H3, I3, pu, eu, e3⟩ => ?_
  subst eu e3
  refine thn (hst.run pins s3 σ H3 (fun o H4 => o = some (-1) ∧ H4 = H3) I3 ⟨1, rfl, -1, rfl, rfl, rfl⟩) fun vs s4 ⟨o, H4, I4, ps, eo, e4⟩ => ?_
  subst eo e4
  have I5 : Inv X pins σ H4 { s4 with heap := s4.heap.push { cls := .type "slice", data := .fields #[vl, vu, vs] } } := I4.kept (t' := s4.toks) fun b ob q => Heap.get?_push_of_some _ q
  obtain ⟨its, r, ht, hz⟩ := I5.tuple hx
  have hlen := r.length
  show wpAny (model X.prog X.w) X.A (subscriptTail e (.Slice none none (some (.UnaryOp .USub (.Constant (.int 1) k p1) p2)) p3) (.ref a) (.ref s4.heap.objs.size)) (EP X pins σ Q) X.xe { s4 with heap := s4.heap.push { cls := .type "slice", data := .fields #[vl, vu, vs] } }
  refine tail_any (ops := [.ref a, .ref s4.heap.objs.size]) ht.typeIs (PyProof.Rows.slot_tuple_getitem.lookup) ?_ (by with_unfolding_all rfl)
  refine item_rev ht (Heap.IsSliceOf.new _ vl vu vs) pl pu ps (by rw [List.size_toArray]; omega) ?_
  refine ⟨.ref _, _, I5.laid (t' := s4.toks) (o := .tup xs.reverse) (fun b ob q => Heap.get?_push_of_some _ q) (Nat.le_refl _) ?_, rfl, q _ (I5.hok.fresh (Nat.le_refl _))⟩
  exact ⟨by rw [List.length_reverse]; exact hz, _, r.reverse, IsTup.new _ _⟩
end
end Tw
namespace Z3
open PySem PySem.Spec PyProof.Rows L2
end Z3
namespace Dz
open PySem PySem.Spec PyProof.Rows L2
section
variable {X : Cx}
end
end Dz
namespace Sr
open PySem PySem.Spec PyProof.Rows L2 HT Th
section
variable {X : Cx}
end
section
variable {prog : Program} {w : World} {A : Around} {E : Value → Shared → Prop} {s : Shared}
end
section
variable {X : Cx}
end
end Sr
namespace Lr
open PySem PySem.Spec PyProof.Rows L2 LamX
section
variable {prog : Program} {w : World} {A : Around} {E : Value → Shared → Prop} {s : Shared}
end
section
variable {X : Cx}
end
end Lr
namespace Lka
open PySem PySem.Spec PyProof.Rows L2 LamX
section
variable {prog : Program} {w : World} {A : Around} {E : Value → Shared → Prop} {s : Shared}
end
section
variable {X : Cx}
end
end Lka
namespace DicK
open PySem PySem.Spec PyProof.Rows L2
end DicK
namespace Es
open PySem PySem.Spec PyProof.Rows L2
section
variable {M : Model} {A : Around} {E : Value → Shared → Prop} {s : Shared} {env : Env}
theorem callWith_type_kwB {pos : Pos} {T : String} {first : List Value} {args : List (Bool × Sem Value)} {keywords : List (Option Str × Sem Value)} {Q : Value → Shared → Prop}
    (hplain : args.any (·.1) = false) (hkw : keywords.any (·.1.isNone) = false)
    (h : wpAny M A (evalArgs (.type T) true args keywords) (fun a s₁ => wpAny M A (call (.type T) (first ++ a.pos) a.kw) Q E s₁) E s) :
    wpAny M A (callWith pos (.type T) first args keywords) Q E s := by
  unfold callWith
  refine wpAny_bind (wpAny_holding (wpAny_mono h (fun a s₁ h₁ => wpAny_bind (wpAny_standAt ?_)) fun _ _ x => x))
  simp only [hplain, hkw, Bool.or_false]
  refine wpAny_bind (wpAny_pure ?_)
  exact wpAny_bind (wpAny_mono h₁ (fun r s₂ hr => wpAny_bind (wpAny_holding (wpAny_point (wpAny_pure hr)))) fun _ _ x => x)
theorem callWith_kwT {pos : Pos} {T : String} {e : Expr} {rest : List Expr} {kws : List Keyword} {Q : Value → Shared → Prop}
    (h : wpAny M A (spliced (backTo pos (starEach (e :: rest) env))) (fun vs s₁ => wpAny M A (evalAll ((backToKw pos (keywordEach kws env)).map (·.2)))
      (fun kvs s₂ => wpAny M A (call (.type T) vs (((backToKw pos (keywordEach kws env)).filterMap (·.1)).zip kvs)) Q E s₂) E s₁) E s)
    (he : backTo pos (starEach (e :: rest) env) = (false, eval e env) :: backTo pos (starEach rest env) := by rfl)
    (hplain : (backTo pos (starEach (e :: rest) env)).any (·.1) = false := by rfl)
    (hall : (backToKw pos (keywordEach kws env)).all (·.1.isSome) = true := by rfl)
    (hkw : (backToKw pos (keywordEach kws env)).any (·.1.isNone) = false := by rfl) :
    wpAny M A (callWith pos (.type T) [] (backTo pos (starEach (e :: rest) env)) (backToKw pos (keywordEach kws env))) Q E s := by
  refine callWith_type_kwB hplain hkw ?_
  rw [he] at h ⊢
  exact evalArgs_kwB hall h
end
end Es
namespace Et
open Es (callWith_type_kwB callWith_kwT)
open PySem PySem.Spec PyProof.Rows L2
end Et
namespace InT
open PySem PySem.Spec PyProof.Rows L2
section
variable {X : Cx}
def rInT (K : PySem.W.Frag) : R2 := fun x y H Q => ∃ d ds, Dp K H x d ∧ Dp K H y (.tuple ds) ∧ SeqAt.shaped d = true ∧ SeqAt.shaped (.tuple ds) = true ∧ Q (.bl (ds.any fun z => PyData.eqv z d)) H
def rNotInT (K : PySem.W.Frag) : R2 := fun x y H Q => ∃ d ds, Dp K H x d ∧ Dp K H y (.tuple ds) ∧ SeqAt.shaped d = true ∧ SeqAt.shaped (.tuple ds) = true ∧ Q (.bl (!ds.any fun z => PyData.eqv z d)) H
theorem op_inT (hu : X.A.units + 65 < cLine) : OpR X (compareOp .In) (rInT X.K) := by
  intro pins s σ H x y v u Q I rx ry h
  obtain ⟨d, ds, hd, he, sd, se, q⟩ := h
  obtain ⟨as, r1⟩ := Dp.reads I d x v hd rx
  obtain ⟨bs, r2⟩ := Dp.reads I (.tuple ds) y u he ry
  exact SeqAt.in_tuple_reads r2 r1 (SeqAt.canLay_of_shaped se) (SeqAt.canLay_of_shaped sd) (room_in_shaped sd hu) ⟨.bl _, H, I, rfl, q⟩
theorem op_notInT (hu : X.A.units + 65 < cLine) : OpR X (compareOp .NotIn) (rNotInT X.K) := by
  intro pins s σ H x y v u Q I rx ry h
  obtain ⟨d, ds, hd, he, sd, se, q⟩ := h
  obtain ⟨as, r1⟩ := Dp.reads I d x v hd rx
  obtain ⟨bs, r2⟩ := Dp.reads I (.tuple ds) y u he ry
  exact SeqAt.notIn_tuple_reads r2 r1 (SeqAt.canLay_of_shaped se) (SeqAt.canLay_of_shaped sd) (room_in_shaped sd hu) ⟨.bl _, H, I, rfl, q⟩
end
end InT
namespace Mx2
open PySem PySem.Spec PyProof.Rows L2
section
variable {X : Cx}
end
end Mx2
namespace Sls
open PySem PySem.Spec PyProof.Rows L2
end Sls
namespace Zs
open PySem PySem.Spec PyProof.Rows L2
end Zs
namespace Zt
open PySem PySem.Spec PyProof.Rows L2
end Zt
namespace Sls
open PySem PySem.Spec PyProof.Rows L2
section
variable {prog : Program} {w : World} {A : Around} {E : Value → Shared → Prop} {s : Shared}
end
section
variable {X : Cx}
end
end Sls
namespace Nv
open PySem PySem.Spec PyProof.Rows L2
end Nv
namespace Tk
open PySem PySem.Spec PyProof.Rows L2 HT Th
section
variable {X : Cx}
end
end Tk
namespace SetBy
open PySem PySem.Spec PyProof.Rows L2
/-- a set that fills: S where it lies, h0 the heap ahead of the call -/
structure Under (P : Program) (w : World) (A : Around) (h0 : Heap) (S : Addr) (items : Array Value) (SS : Nat → Heap → Prop) : Prop where
  keep : ∀ i h h', SS i h → (∀ o, h.get? S = some o → h'.get? S = some o) → (∀ b o, h0.get? b = some o → h'.get? b = some o) → SS i h'
  add : ∀ (i : Nat) (v : Value) (s : Shared) (E : Value → Shared → Prop) (Q : Bool → Shared → Prop), items[i]? = some v → SS i s.heap → (∀ b o, h0.get? b = some o → s.heap.get? b = some o) →
    (∀ (b : Bool) (h' : Heap) (tk : Nat), s.toks ≤ tk → Heap.SameBut S s.heap h' → SS (i + 1) h' → Q b { s with heap := h', toks := tk }) → wpAny (model P w) A (setAdd S v) Q E s
abbrev freshSet (w : World) : Obj := { cls := .type "set", dict := none, data := .set #[] 0 (.fresh 0 0 (!w.params.followText "set-order")) }
section
variable {P : Program} {w : World} {A : Around} {E : Value → Shared → Prop} {s : Shared}
theorem fills {I : Addr} {fp wr : List Addr} {G : Array GenState → Array GenState → Prop} {n : Nat} {Pv : Nat → Value → Prop} {St : Nat → Shared → Prop} {R : Result → Shared → Prop} {h0 : Heap} {S : Addr} {items : Array Value} {SS : Nat → Heap → Prop}
    (W : WalksS P w A.in1 I fp wr G n Pv St) (U : Under P w A.in1 h0 S items SS) (hSf : S ∉ fp) (hPv : ∀ i v, Pv i v → items[i]? = some v) (hS0 : h0.get? S = none) (hw0 : ∀ b ∈ wr, h0.get? b = none) (k : Nat) :
    ∀ (i : Nat) (s : Shared), n - i = k → i ≤ n → St i s → (∀ b o, h0.get? b = some o → s.heap.get? b = some o) → SS i s.heap →
      (∀ s', Moved (S :: wr) G s s' → SS n s'.heap → (∀ b o, h0.get? b = some o → s'.heap.get? b = some o) → R (.ok (.ret .none)) s') →
      codeAny (model P w) A (.builtin "set.update.loop" ⟨[.ref S, .ref I], []⟩) R s := by
  have nin : S ∉ wr := fun h => hSf (W.sub _ h)
  have wider : ∀ b ∈ wr, b ∈ S :: wr := fun b hb => .tail _ hb
  have old : ∀ {s s' : Shared}, Moved wr G s s' → (∀ b o, h0.get? b = some o → s.heap.get? b = some o) → ∀ b o, h0.get? b = some o → s'.heap.get? b = some o := fun m hk b o e =>
    m.heap b o (fun hb => by have := hw0 b hb; rw [this] at e; cases e) (hk b o e)
  induction k with
  | zero =>
    intro i s hk le hst ho hs hR
    obtain rfl : i = n := by omega
    refine codeAny_builtin F.entry_set_update_loop ?_
    rw [Around.under_plainId F.plain_set_update_loop _]
    refine wpAny_bind (W.done s _ _ hst fun s' m => wpAny_pure ?_)
    exact hR s' (m.mono wider) (U.keep _ _ _ hs (fun o e => m.heap S o nin e) (old m ho)) (old m ho)
  | succ k ih =>
    intro i s hk le hst ho hs hR
    have lt : i < n := by omega
    refine codeAny_builtin F.entry_set_update_loop ?_
    rw [Around.under_plainId F.plain_set_update_loop _]
    refine wpAny_bind (W.item i s _ _ lt hst fun v s' hv hst' m => ?_)
    have ho' := old m ho
    have hs' := U.keep _ _ _ hs (fun o e => m.heap S o nin e) ho'
    show wpAny _ A.in1 (holding [v] (setAdd S v) >>= _) _ _ s'
    refine wpAny_bind (wpAny_holding (U.add i v s' _ _ (hPv i v hv) hs' ho' fun b h' tk le' sb hs2 => ?_))
    have ho2 : ∀ b o, h0.get? b = some o → h'.get? b = some o := fun b o e => (sb.2 b fun z => by rw [z, hS0] at e; cases e).trans (ho' b o e)
    have st2 : St (i + 1) { s' with heap := h', toks := tk } := W.frame _ s' _ _ hst' le' fun b hb o e => (sb.2 b fun z => hSf (by rw [← z]; exact hb)).trans e
    refine wpAny_pure ⟨plainId_quiet F.plain_set_update_loop _, ih (i + 1) _ (by omega) lt st2 ho2 hs2 fun s2 m2 hs3 ho3 => hR s2 (Moved.trans W.gtrans ((m.mono wider).then_heap le' fun b o hb e => ?_) m2) hs3 ho3⟩
    exact (sb.2 b fun z => hb (by rw [z]; exact .head _)).trans e
set_option maxHeartbeats 8000000 in
/-- set(xs), xs a tuple -/
theorem call_tup {l : Addr} {items : Array Value} {SS : Nat → Heap → Prop} {Q : Value → Shared → Prop} (hh : A.handled = none) (hl : s.heap.IsTuple l items) (U : Under P w A.in1.in1.in1 s.heap s.heap.objs.size items SS)
    (fresh : ∀ h, h.get? s.heap.objs.size = some (freshSet w) → (∀ b o, s.heap.get? b = some o → h.get? b = some o) → SS 0 h)
    (h : ∀ (h' : Heap) (tk : Nat), SS items.size h' → (∀ b o, s.heap.get? b = some o → h'.get? b = some o) → Q (.ref s.heap.objs.size) { s with heap := h', toks := tk }) :
    wpAny (model P w) A (call (.type "set") [.ref l]) Q E s := by
  have F1 := F.called_set.notType
  have F2 := F.called_set.canCreate
  have F3 := F.typeCall_set_1 (.ref l)
  have F4 := F.called_set.made
  have F5 := F.called_set.sub
  obtain ⟨c, tl, F6⟩ := F.called_set.mro
  have lS : l < s.heap.objs.size := Heap.lt_size (show ∃ o, s.heap.get? l = some o from hl.elim fun o x => ⟨o, x.1⟩).choose_spec
  -- the class is called: its __new__, its __init__
  refine wpAny_call (codeAny_of_tree ?_)
  show wpAny _ _ (callAny (.type "set") _) _ _ _
  refine wpAny_pure ⟨Code.quiet_builtin _ (by decide +kernel), codeAny_builtin F.entry_type_call ?_⟩
  rw [Around.under_plain (weight_type_call_type "set" [.ref l] []) rfl]
  repeat (any_goals (first | assumption | wp_step))
  refine codeAny_mono (code_set_led1 (.ref l) (E := E) (Q₁ := fun r s₁ => r = .ref s.heap.objs.size ∧ s₁ = { s with heap := s.heap.push (freshSet w) }) ⟨rfl, rfl⟩) fun r s₁ hr => ?_
  match r, hr with
  | .error e, hr => exact hr
  | .ok (.ret obj), hr =>
    obtain ⟨rfl, rfl⟩ := hr
    have there : (s.heap.push (freshSet w)).get? s.heap.objs.size = some (freshSet w) := Heap.get?_push_size _ rfl
    have F7 := F.called_set.init.lookup
    have F8 := F.called_set.init.bind (.ref s.heap.objs.size)
    have isSet : Shared.TypeIs { s with heap := s.heap.push (freshSet w) } (.ref s.heap.objs.size) "set" := ⟨_, there, rfl⟩
    repeat (any_goals (first | assumption | wp_step))
    refine codeAny_mono (codeAny_call_builtin (R := wants (fun r s₂ => r = .none ∧ ∃ h' tk, s₂ = { s with heap := h', toks := tk } ∧ SS items.size h' ∧ ∀ b o, s.heap.get? b = some o → h'.get? b = some o) E) F.called_set.init.plain F.entry_set_init (check_set_init_1 isSet ?_)) fun r₂ s₂ hr₂ => ?_
    · obtain ⟨⟨ocls, odict, odata, oslots⟩, ho, hc, nl, hd⟩ := hl
      dsimp only at hc hd
      subst hc hd
      have hl1 : (s.heap.push (freshSet w)).IsTuple l items := ⟨_, Heap.get?_push_of_some _ ho, rfl, nl, rfl⟩
      have ho1 : (s.heap.push (freshSet w)).get? l = some { cls := .type "tuple", dict := odict, data := .seq items nl, slots := oslots } := Heap.get?_push_of_some _ ho
      have N1 := F.sub_tuple_set
      have N2 := F.sub_tuple_frozenset
      have N3 : (Value.type "tuple" == Value.type "dict") = false := by decide
      unfold Builtin.«set.__init__» noKeywords Builtin.Frozenset.updateFrom
      generalize hPI : pyIter = PI
      wp_walk
      subst hPI
      refine wpAny_pyIter_tuple hl1 ?_
      refine wpAny_bind (wpAny_runValue ?_)
      have hh3 : A.in1.in1.in1.handled = none := hh
      have sz1 : (s.heap.push (freshSet w)).objs.size = s.heap.objs.size + 1 := Heap.size_push ..
      have new1 : s.heap.get? s.heap.objs.size = none := by
        cases e : s.heap.get? s.heap.objs.size with
        | none => rfl
        | some o => exact absurd (Heap.lt_size e) (Nat.lt_irrefl _)
      have new2 : s.heap.get? (s.heap.push (freshSet w)).objs.size = none := by
        cases e : s.heap.get? (s.heap.push (freshSet w)).objs.size with
        | none => rfl
        | some o => exact absurd (Nat.lt_trans (Nat.lt_of_lt_of_eq (Nat.lt_succ_self _) sz1.symm) (Heap.lt_size e)) (Nat.lt_irrefl _)
      have d1 : l ≠ (s.heap.push (freshSet w)).objs.size := fun z => absurd (z ▸ sz1 : l = s.heap.objs.size + 1) (Nat.ne_of_lt (Nat.lt_succ_of_lt lS))
      have d2 : s.heap.objs.size ∉ [(s.heap.push (freshSet w)).objs.size, l] := fun z => by
        rcases List.mem_cons.mp z with z | z
        · exact absurd (z.trans sz1) (Nat.ne_of_lt (Nat.lt_succ_self _))
        · exact absurd (List.mem_singleton.mp z) (Nat.ne_of_gt lS)
      refine fills ((Walks.tuple hh3 _ l d1 items).toS) U d2 (fun _ _ z => z) new1 (fun b hb => by rw [List.mem_singleton.mp hb]; exact new2) (items.size - 0) 0 _ rfl (Nat.zero_le _) ⟨⟨_, Heap.get?_push_size _ rfl, rfl, rfl⟩, hl1.push _⟩ (fun b o e => Heap.get?_push_of_some _ (Heap.get?_push_of_some _ e)) (fresh _ (Heap.get?_push_of_some _ there) fun b o e => Heap.get?_push_of_some _ (Heap.get?_push_of_some _ e)) fun s' m hs ho' => ?_
      obtain ⟨h', g', d', tk', os'⟩ := s'
      obtain rfl : g' = s.gens := m.gens
      obtain rfl : d' = s.drawn := m.drawn
      obtain rfl : os' = s.os := m.os
      exact wpAny_pure (wpAny_pure ⟨rfl, h', tk', rfl, hs, ho'⟩)
    · match r₂, hr₂ with
      | .error e, hr₂ => exact hr₂
      | .ok (.ret r), hr₂ =>
        obtain ⟨rfl, h', tk, rfl, hs, ho'⟩ := hr₂
        repeat (any_goals (first | assumption | wp_step))
        exact h _ _ hs ho'
      | .ok .next, hr₂ => exact hr₂.elim
      | .ok .brk, hr₂ => exact hr₂.elim
      | .ok .cont, hr₂ => exact hr₂.elim
  | .ok .next, hr => exact hr.elim
  | .ok .brk, hr => exact hr.elim
  | .ok .cont, hr => exact hr.elim
set_option maxHeartbeats 8000000 in
/-- set(xs), xs a list -/
theorem call_lst {l : Addr} {items : Array Value} {SS : Nat → Heap → Prop} {Q : Value → Shared → Prop} (hh : A.handled = none) (hl : s.heap.IsList l items) (U : Under P w A.in1.in1.in1 s.heap s.heap.objs.size items SS)
    (fresh : ∀ h, h.get? s.heap.objs.size = some (freshSet w) → (∀ b o, s.heap.get? b = some o → h.get? b = some o) → SS 0 h)
    (h : ∀ (h' : Heap) (tk : Nat), SS items.size h' → (∀ b o, s.heap.get? b = some o → h'.get? b = some o) → Q (.ref s.heap.objs.size) { s with heap := h', toks := tk }) :
    wpAny (model P w) A (call (.type "set") [.ref l]) Q E s := by
  have F1 := F.called_set.notType
  have F2 := F.called_set.canCreate
  have F3 := F.typeCall_set_1 (.ref l)
  have F4 := F.called_set.made
  have F5 := F.called_set.sub
  obtain ⟨c, tl, F6⟩ := F.called_set.mro
  have lS : l < s.heap.objs.size := Heap.lt_size (show ∃ o, s.heap.get? l = some o from hl.elim fun o x => ⟨o, x.1⟩).choose_spec
  -- the class is called: its __new__, its __init__
  refine wpAny_call (codeAny_of_tree ?_)
  show wpAny _ _ (callAny (.type "set") _) _ _ _
  refine wpAny_pure ⟨Code.quiet_builtin _ (by decide +kernel), codeAny_builtin F.entry_type_call ?_⟩
  rw [Around.under_plain (weight_type_call_type "set" [.ref l] []) rfl]
  repeat (any_goals (first | assumption | wp_step))
  refine codeAny_mono (code_set_led1 (.ref l) (E := E) (Q₁ := fun r s₁ => r = .ref s.heap.objs.size ∧ s₁ = { s with heap := s.heap.push (freshSet w) }) ⟨rfl, rfl⟩) fun r s₁ hr => ?_
  match r, hr with
  | .error e, hr => exact hr
  | .ok (.ret obj), hr =>
    obtain ⟨rfl, rfl⟩ := hr
    have there : (s.heap.push (freshSet w)).get? s.heap.objs.size = some (freshSet w) := Heap.get?_push_size _ rfl
    have F7 := F.called_set.init.lookup
    have F8 := F.called_set.init.bind (.ref s.heap.objs.size)
    have isSet : Shared.TypeIs { s with heap := s.heap.push (freshSet w) } (.ref s.heap.objs.size) "set" := ⟨_, there, rfl⟩
    repeat (any_goals (first | assumption | wp_step))
    refine codeAny_mono (codeAny_call_builtin (R := wants (fun r s₂ => r = .none ∧ ∃ h' tk, s₂ = { s with heap := h', toks := tk } ∧ SS items.size h' ∧ ∀ b o, s.heap.get? b = some o → h'.get? b = some o) E) F.called_set.init.plain F.entry_set_init (check_set_init_1 isSet ?_)) fun r₂ s₂ hr₂ => ?_
    · obtain ⟨⟨ocls, odict, odata, oslots⟩, ho, hc, nl, hd⟩ := hl
      dsimp only at hc hd
      subst hc hd
      have hl1 : (s.heap.push (freshSet w)).IsList l items := ⟨_, Heap.get?_push_of_some _ ho, rfl, nl, rfl⟩
      have ho1 : (s.heap.push (freshSet w)).get? l = some { cls := .type "list", dict := odict, data := .seq items nl, slots := oslots } := Heap.get?_push_of_some _ ho
      have N1 := F.sub_list_set
      have N2 := F.sub_list_frozenset
      have N3 : (Value.type "list" == Value.type "dict") = false := by decide
      unfold Builtin.«set.__init__» noKeywords Builtin.Frozenset.updateFrom
      generalize hPI : pyIter = PI
      wp_walk
      subst hPI
      refine wpAny_pyIter_list hl1 ?_
      refine wpAny_bind (wpAny_runValue ?_)
      have hh3 : A.in1.in1.in1.handled = none := hh
      have sz1 : (s.heap.push (freshSet w)).objs.size = s.heap.objs.size + 1 := Heap.size_push ..
      have new1 : s.heap.get? s.heap.objs.size = none := by
        cases e : s.heap.get? s.heap.objs.size with
        | none => rfl
        | some o => exact absurd (Heap.lt_size e) (Nat.lt_irrefl _)
      have new2 : s.heap.get? (s.heap.push (freshSet w)).objs.size = none := by
        cases e : s.heap.get? (s.heap.push (freshSet w)).objs.size with
        | none => rfl
        | some o => exact absurd (Nat.lt_trans (Nat.lt_of_lt_of_eq (Nat.lt_succ_self _) sz1.symm) (Heap.lt_size e)) (Nat.lt_irrefl _)
      have d1 : l ≠ (s.heap.push (freshSet w)).objs.size := fun z => absurd (z ▸ sz1 : l = s.heap.objs.size + 1) (Nat.ne_of_lt (Nat.lt_succ_of_lt lS))
      have d2 : s.heap.objs.size ∉ [(s.heap.push (freshSet w)).objs.size, l] := fun z => by
        rcases List.mem_cons.mp z with z | z
        · exact absurd (z.trans sz1) (Nat.ne_of_lt (Nat.lt_succ_self _))
        · exact absurd (List.mem_singleton.mp z) (Nat.ne_of_gt lS)
      refine fills ((Walks.list hh3 _ l d1 items).toS) U d2 (fun _ _ z => z) new1 (fun b hb => by rw [List.mem_singleton.mp hb]; exact new2) (items.size - 0) 0 _ rfl (Nat.zero_le _) ⟨⟨_, Heap.get?_push_size _ rfl, rfl, rfl⟩, hl1.push _⟩ (fun b o e => Heap.get?_push_of_some _ (Heap.get?_push_of_some _ e)) (fresh _ (Heap.get?_push_of_some _ there) fun b o e => Heap.get?_push_of_some _ (Heap.get?_push_of_some _ e)) fun s' m hs ho' => ?_
      obtain ⟨h', g', d', tk', os'⟩ := s'
      obtain rfl : g' = s.gens := m.gens
      obtain rfl : d' = s.drawn := m.drawn
      obtain rfl : os' = s.os := m.os
      exact wpAny_pure (wpAny_pure ⟨rfl, h', tk', rfl, hs, ho'⟩)
    · match r₂, hr₂ with
      | .error e, hr₂ => exact hr₂
      | .ok (.ret r), hr₂ =>
        obtain ⟨rfl, h', tk, rfl, hs, ho'⟩ := hr₂
        repeat (any_goals (first | assumption | wp_step))
        exact h _ _ hs ho'
      | .ok .next, hr₂ => exact hr₂.elim
      | .ok .brk, hr₂ => exact hr₂.elim
      | .ok .cont, hr₂ => exact hr₂.elim
  | .ok .next, hr => exact hr.elim
  | .ok .brk, hr => exact hr.elim
  | .ok .cont, hr => exact hr.elim
end
end SetBy
namespace Stx
open PySem PySem.Spec PyProof.Rows L2
/-- c of the texts are unlike: all of them just where the list has none twice -/
def Held (P : Program) (w : World) (a : Addr) (ss : List Str) (h : Heap) : Prop := ∃ c, h.SetOf (PySem.strKind P w) a (fun k => decide (k ∈ ss)) c ∧ c ≤ ss.length ∧ (c = ss.length ↔ ss.Nodup)
theorem Held.at {P : Program} {w : World} {a : Addr} {ss : List Str} {h h' : Heap} (x : Held P w a ss h) (k : ∀ o, h.get? a = some o → h'.get? a = some o) : Held P w a ss h' := by
  obtain ⟨c, ⟨o, es, ep, t, ho, r⟩, q⟩ := x
  exact ⟨c, ⟨o, es, ep, t, k o ho, r⟩, q⟩
theorem nd_snoc {α : Type} {l : List α} {x : α} : (l ++ [x]).Nodup ↔ l.Nodup ∧ x ∉ l := by
  rw [List.nodup_append]
  constructor
  · rintro ⟨a, _, d⟩
    exact ⟨a, fun m => d x m x (List.mem_singleton.mpr rfl) rfl⟩
  · rintro ⟨a, d⟩
    exact ⟨a, by simp, fun y hy z hz e => d (by rw [← List.mem_singleton.mp hz, ← e]; exact hy)⟩
theorem str_at : ∀ {vs : List Value} {ss : List Str} {i : Nat} {v : Value}, StrsAre vs ss → vs[i]? = some v → ∃ x t, ss[i]? = some x ∧ v = .str x t
  | _, _, _, _, .nil, h => by simp at h
  | _, _, 0, _, .cons x t _, h => ⟨x, t, rfl, (Option.some.inj h).symm⟩
  | _, _, i + 1, _, .cons _ _ r, h => str_at (i := i) r h
section
variable {P : Program} {w : World} {A : Around} {h0 : Heap} {S : Addr} {items : Array Value} {ss : List Str}
theorem under (hit : StrsAre items.toList ss) (few : ss.length < 4000) : SetBy.Under P w A h0 S items (fun i => Held P w S (ss.take i)) where
  keep := fun i h h' x k _ => x.at k
  add := fun i v s E Q hv hs _ q => by
    obtain ⟨x, t, ex, rfl⟩ := str_at hit (by rw [Array.getElem?_toList]; exact hv)
    have il : i < ss.length := (List.getElem?_eq_some_iff.mp ex).1
    have tk : ss.take (i + 1) = ss.take i ++ [x] := by rw [List.take_add_one, ex]; rfl
    have tl : (ss.take i).length = i := by rw [List.length_take]; omega
    obtain ⟨c, hc, le, nd⟩ := hs
    rw [tl] at le nd
    unfold setAdd
    refine wpAny_holding (wpAny_bind ((PySem.strKind P w).pyHash (k := x) (strKind_is _ _ _ _) ?_))
    refine wpAny_setAddHashed_of (knd := PySem.strKind P w) (s := { s with toks := s.toks + 1 }) (strKind_is _ _ _ _) rfl hc (by unfold scanBound; omega) fun h' sb h2 => ?_
    refine q _ h' (s.toks + 1) (Nat.le_succ _) sb ⟨_, SetOf_congr h2 (fun k => ?_) rfl, ?_, ?_⟩
    · rw [tk]
      by_cases m : k ∈ ss.take i <;> by_cases e : k = x <;> simp [m, e]
    · rw [tk, List.length_append, tl]
      show (if decide (x ∈ ss.take i) = true then c else c + 1) ≤ i + 1
      split <;> omega
    · rw [tk, List.length_append, tl, nd_snoc, ← nd]
      show (if decide (x ∈ ss.take i) = true then c else c + 1) = i + 1 ↔ _
      by_cases m : x ∈ ss.take i
      · rw [if_pos (decide_eq_true m)]
        exact ⟨fun z => by omega, fun z => absurd m z.2⟩
      · rw [if_neg (by rw [decide_eq_false m]; exact Bool.false_ne_true)]
        exact ⟨fun z => ⟨by omega, m⟩, fun z => by omega⟩
theorem fresh0 {h : Heap} (e : h.get? S = some (SetBy.freshSet w)) : Held P w S (ss.take 0) h :=
  ⟨0, SetOf_congr ((setObjOf_fresh (knd := PySem.strKind P w) (!w.params.followText "set-order")).setOf e (by unfold scanBound; omega)) (fun k => by simp) rfl, Nat.le_refl _, by simp⟩
end
def SetTxO (P : Program) (w : World) (a : Addr) (ss : List Str) : HO := .ext (Held P w a ss)
theorem new {P : Program} {w : World} {H : Hp} {h : Heap} {a : Addr} {ss : List Str} (x : Held P w a ss h) : ObjOk P w H h a (SetTxO P w a ss) := by
  have ⟨c, ⟨o, es, ep, t, ho, r⟩, q⟩ := x
  exact ⟨x, ⟨o, ho⟩, fun h1 h2 y k => Held.at y k⟩
theorem strs_of_vals : ∀ {ss : List Str} {us : List Value}, Vals (ss.map V.str) us → StrsAre us ss
  | [], _, .nil => .nil
  | s :: ss, _, .cons r t => by
    obtain ⟨tk, rfl⟩ := r
    exact .cons s tk (strs_of_vals t)
section
variable {X : Cx}
def rSetTx (K : PySem.W.Frag) (P : Program) (w : World) : List V → Hp → VK → Prop := fun xs H Q => ∃ (l : Addr) (ss : List Str), xs = [V.ref l] ∧ (SqL K H l (ss.map V.str) ∨ SqT K H l (ss.map V.str)) ∧ ss.length < 4000 ∧ ∀ a, H a = none → Q (.ref a) (upd H a (SetTxO P w a ss))
theorem cr_setTx (hc : X.calm = true) : CallR X (.type "set") (rSetTx X.K X.prog X.w) := by
  intro pins s σ H xs us Q I r h
  obtain ⟨l, ss, rfl, hl, few, q⟩ := h
  rw [Vals.ref1 r]
  have hn : H s.heap.objs.size = none := I.hok.fresh (Nat.le_refl _)
  have fin : ∀ {items : Array Value} (h' : Heap) (tk : Nat), StrsAre items.toList ss → Held X.prog X.w s.heap.objs.size (ss.take items.size) h' → (∀ b o, s.heap.get? b = some o → h'.get? b = some o) → EP X pins σ Q (.ref s.heap.objs.size) { s with heap := h', toks := tk } := fun {items} h' tk hit x k => by
    have e : items.size = ss.length := by rw [← StrsAre.len_eq hit, Array.length_toList]
    rw [e, List.take_length] at x
    exact ⟨.ref s.heap.objs.size, upd H s.heap.objs.size (SetTxO X.prog X.w s.heap.objs.size ss), I.laid (t' := tk) k (Nat.le_refl _) (new x), rfl, q _ hn⟩
  rcases hl with hl | hl
  · obtain ⟨its, rv, pl, hz⟩ := I.list hl
    have hit : StrsAre its.toArray.toList ss := by simpa using strs_of_vals rv
    exact SetBy.call_lst (I.ok.hd hc) pl.isList (under hit few) (fun h e _ => fresh0 e) fun h' tk x k => fin h' tk hit x k
  · obtain ⟨its, rv, pl, hz⟩ := I.tuple hl
    have hit : StrsAre its.toArray.toList ss := by simpa using strs_of_vals rv
    exact SetBy.call_tup (I.ok.hd hc) pl (under hit few) (fun h e _ => fresh0 e) fun h' tk x k => fin h' tk hit x k
def rLenTx (P : Program) (w : World) : List V → Hp → VK → Prop := fun xs H Q => ∃ (a : Addr) (ss : List Str), xs = [.ref a] ∧ H a = some (SetTxO P w a ss) ∧ ∀ c : Nat, c ≤ ss.length → (c = ss.length ↔ ss.Nodup) → Q (.int c) H
theorem call_lenTx : CallR X (.builtin "len") (rLenTx X.prog X.w) := by
  intro pins s σ H xs us Q I r h
  obtain ⟨a, ss, rfl, ha, q⟩ := h
  rw [Vals.ref1 r]
  obtain ⟨c, ⟨o, es, ep, t, ho, hex, hd, hel, hmem, hb, hf, hn⟩, le, nd⟩ := (show Held X.prog X.w a ss s.heap from (I.hok a _ ha).1)
  refine call_len_set ho hex hd hf (by unfold scanBound at hb; omega) ?_
  rw [hn]
  exact ⟨.int (c : Nat), H, I.tok _, ⟨_, rfl⟩, q c le nd⟩
end
end Stx
namespace Stt
open PySem PySem.Spec PyProof.Rows L2
section
variable {P : Program} {w : World} {κ : Type} [DecidableEq κ]
/-- members that the model asks nothing about -/
structure Plain (D : KeyKind P w κ) : Prop where
  cls : ∀ n k v, D.is k v = true → ofAClassStatement n v = pure false
  val : ∀ n k v, D.is k v = true → hashByValue n v = pure false
theorem plain_str : Plain (PySem.strKind P w) where
  cls := fun n k v h => by
    obtain ⟨t, rfl⟩ := Value.isStrOf_shape h
    cases n <;> rfl
  val := fun n k v h => by
    obtain ⟨t, rfl⟩ := Value.isStrOf_shape h
    cases n <;> rfl
variable {D : KeyKind P w κ}
theorem members {ks : List κ} {vs : List Value} (h : ItemsAre D ks vs) : ∀ v ∈ vs, ∃ k, D.is k v = true := by
  induction h with
  | nil => exact fun v hv => (by cases hv)
  | cons a _ ih => exact fun v hv => (List.mem_cons.mp hv).elim (fun e => ⟨_, e ▸ a⟩) (ih v)
abbrev kh (D : KeyKind P w κ) (k : List κ) : Int := tupleKeyHash D k
abbrev Tk (D : KeyKind P w κ) (h : Heap) (k : List κ) (b : Addr) : Prop := IsTupleKey D h k b
theorem Tk.kept {h h' : Heap} {k : List κ} {b : Addr} (x : Tk D h k b) (hk : ∀ c o, h.get? c = some o → h'.get? c = some o) : Tk D h' k b := by
  obtain ⟨o, its, n, ho, q⟩ := x
  exact ⟨o, its, n, hk _ _ ho, q⟩
theorem Tk.beside {h h' : Heap} {k : List κ} {a b : Addr} {o : Obj} {es : Array (Int × Value)} {ep : Nat} {t : SetTable} (x : Tk D h k b) (ho : h.get? a = some o) (hd : o.data = .set es ep t) (sb : Heap.SameBut a h h') : Tk D h' k b := by
  obtain ⟨o', its, n, ho', hc, hd', q⟩ := x
  refine ⟨o', its, n, (sb.2 b fun e => ?_).trans ho', hc, hd', q⟩
  rw [e, ho] at ho'
  cases ho'
  rw [hd] at hd'
  cases hd'
variable {A : Around} {E : Value → Shared → Prop} {s : Shared}
theorem no_cls (pl : Plain D) {k : List κ} {b : Addr} {Q : Bool → Shared → Prop} (hk : Tk D s.heap k b) (h : Q false s) : wpAny (model P w) A (ofAClassStatement 8 (.ref b)) Q E s := by
  have hT := hk.typeIs
  obtain ⟨o, its, n, ho, _, hd, hi⟩ := hk
  unfold ofAClassStatement
  refine wpAny_bind (wpAny_typeOf hT ?_)
  dsimp only
  simp only [show (("tuple" : String) == "tuple") = true by decide, if_true, Bool.not_true, Bool.false_eq_true, if_false]
  try refine wpAny_bind (wpAny_pure ?_)
  show wpAny _ _ (seqItems? (.ref b) >>= _) _ _ s
  refine wpAny_bind (wpAny_seqItems ho hd ?_)
  dsimp only
  refine wpAny_bind ?_
  show wpAny _ _ (forIn its _ _) _ _ s
  rw [← Array.forIn_toList]
  refine wpAny_forIn_list _ (fun rest r s' => r.1 = none ∧ s' = s ∧ ∀ v ∈ rest, ∃ k, D.is k v = true) _ ?_ ?_ _ _ ⟨rfl, rfl, members hi⟩
  · rintro v rest r s' ⟨hr, rfl, all⟩
    obtain ⟨k', hv⟩ := all v (.head _)
    rw [pl.cls _ k' v hv]
    refine wpAny_bind (wpAny_pure ?_)
    simp only [Bool.false_eq_true, if_false]
    exact wpAny_pure ⟨rfl, rfl, fun u hu => all u (.tail _ hu)⟩
  · rintro ⟨r1, r2⟩ s' ⟨hr, rfl, _⟩
    dsimp only at hr
    subst hr
    exact wpAny_pure h
theorem by_val (pl : Plain D) {k : List κ} {b : Addr} {Q : Bool → Shared → Prop} (hk : Tk D s.heap k b) (h : ∀ c, Q c s) : wpAny (model P w) A (hashByValue 8 (.ref b)) Q E s := by
  have hT := hk.typeIs
  obtain ⟨o, its, n, ho, _, hd, hi⟩ := hk
  unfold hashByValue
  refine wpAny_bind (wpAny_specialOf hT F.slot_tuple_hash.lookup ?_)
  show wpAny _ _ (seqItems? (.ref b) >>= _) _ _ s
  refine wpAny_bind (wpAny_seqItems ho hd (wpAny_bind ?_))
  show wpAny _ _ (forIn its _ _) _ _ s
  rw [← Array.forIn_toList]
  refine wpAny_forIn_list _ (fun rest r s' => (r.1 = none ∨ r.1 = some false) ∧ s' = s ∧ ∀ v ∈ rest, ∃ k, D.is k v = true) _ ?_ ?_ _ _ ⟨.inl rfl, rfl, members hi⟩
  · rintro v rest r s' ⟨hr, rfl, all⟩
    obtain ⟨k', hv⟩ := all v (.head _)
    rw [pl.val _ k' v hv]
    refine wpAny_bind (wpAny_pure ?_)
    simp only [Bool.not_false, if_true]
    exact wpAny_pure (wpAny_pure (h _))
  · rintro ⟨r1, r2⟩ s' ⟨hr, rfl, _⟩
    dsimp only at hr
    rcases hr with rfl | rfl
    · exact wpAny_pure (h _)
    · exact wpAny_pure (h _)
theorem unseen (pl : Plain D) {k : List κ} {b : Addr} {ys : List Value} {Q : Bool → Shared → Prop} (hk : Tk D s.heap k b) (hy : ∀ y ∈ ys, ∃ k' c, y = Value.ref c ∧ Tk D s.heap k' c) (h : Q false s) : wpAny (model P w) A (searchCouldBeSeen (.ref b) ys) Q E s := by
  unfold searchCouldBeSeen
  refine wpAny_bind (wpAny_forIn_list _ (fun rest r s' => r.1 = none ∧ s' = s ∧ ∀ y ∈ rest, ∃ k' c, y = Value.ref c ∧ Tk D s.heap k' c) _ ?_ ?_ _ _ ⟨rfl, rfl, hy⟩)
  · rintro v rest r s' ⟨hr, rfl, all⟩
    obtain ⟨k', c, rfl, hc⟩ := all v (.head _)
    have on : ∀ y ∈ rest, ∃ k' c, y = Value.ref c ∧ Tk D s'.heap k' c := fun u hu => all u (.tail _ hu)
    dsimp only
    by_cases hv : (b == c || (carriedByValue (.ref b) && carriedByValue (.ref c))) = true
    · exact wp_if_pos hv (wpAny_pure ⟨rfl, rfl, on⟩)
    · refine wp_if_neg hv (wpAny_bind (wpAny_eqIsQuiet_tuple hk ?_))
      simp only [Bool.not_true, Bool.false_eq_true, if_false]
      refine wpAny_bind (wpAny_eqIsQuiet_tuple hc ?_)
      simp only [Bool.not_true, Bool.false_eq_true, if_false]
      refine wpAny_bind (no_cls pl hk ?_)
      simp only [Bool.false_eq_true, if_false]
      refine wpAny_bind (no_cls pl hc ?_)
      simp only [Bool.false_eq_true, if_false]
      exact wpAny_pure ⟨rfl, rfl, on⟩
  · rintro ⟨r1, r2⟩ s' ⟨hr, rfl, _⟩
    dsimp only at hr
    subst hr
    exact wpAny_pure h
/-- the rows of a set whose tuples are L, by their place in the table -/
def rows (D : KeyKind P w κ) (L : List (Addr × List κ)) : Array (Int × Value) := (L.map fun p => (kh D p.2, Value.ref p.1)).toArray
def hs (D : KeyKind P w κ) (L : List (Addr × List κ)) : List Int := L.map fun p => kh D p.2
theorem rows_size (L : List (Addr × List κ)) : (rows D L).size = L.length := by simp [rows]
theorem hs_len (L : List (Addr × List κ)) : (hs D L).length = L.length := List.length_map _
theorem rows_at {L : List (Addr × List κ)} {i : Nat} {p : Addr × List κ} (h : L[i]? = some p) : (rows D L)[i]? = some (kh D p.2, Value.ref p.1) := by
  unfold rows
  rw [List.getElem?_toArray, List.getElem?_map, h]
  rfl
structure Has (D : KeyKind P w κ) (h : Heap) (a : Addr) (L : List (Addr × List κ)) (t : SetTable) : Prop where
  ob : ∃ o ep, h.get? a = some o ∧ o.ExactSet ∧ o.data = .set (rows D L) ep t
  tab : TabOk t (hs D L)
  nd : (L.map (·.2)).Nodup
  tk : ∀ p ∈ L, Tk D h p.2 p.1
  room : L.length * 5 < t.mask * 3
  few : L.length < 64
variable {a : Addr} {L : List (Addr × List κ)} {t : SetTable}
theorem fits_of (T : TabOk t (hs D L)) (l : L.length ≤ t.mask) : t.fits (rows D L).size = true := by
  have e := T.sz
  rw [hs_len] at e
  unfold SetTable.fits SetTable.fill
  rw [T.dm, rows_size, Bool.and_eq_true, beq_iff_eq, decide_eq_true_eq]
  exact ⟨e, by show t.place.size + 0 ≤ t.mask; omega⟩
theorem not_gave (T : TabOk t (hs D L)) : ¬ t.gaveWay = true := by
  unfold SetTable.gaveWay
  rw [mask_odd T.mok]
  decide
abbrev stop (t : SetTable) (h : Int) (c : Nat) : SetTable.Probe := nth t.mask (runAt t.mask (SetTable.bits h % (t.mask + 1)) (SetTable.bits h)) c
theorem stop_add (t : SetTable) (h : Int) (c q : Nat) : nth t.mask (stop t h c) q = stop t h (c + q) := (nth_add t.mask c _ q).symm
theorem stop_clean (t : SetTable) (h : Int) (c : Nat) : (stop t h c).dummy = none := by
  have go : ∀ (n : Nat) (p : SetTable.Probe), p.dummy = none → (nth t.mask p n).dummy = none := fun n => by
    induction n with
    | zero => exact fun p h => h
    | succ n ih =>
      intro p h
      refine ih (adv t.mask p) ?_
      unfold adv
      split <;> exact h
  exact go c _ rfl
/-- the search from its c-th stop on: K is the first free one -/
theorem seek (pl : Plain D) (R : Has D s.heap a L t) {x : Addr} {k : List κ} (hx : Tk D s.heap k x) (hu : A.units < cLine) {K : Nat} (Kf : K < 10 * SetTable.turns t.mask)
    (free : (stop t (kh D k) K).j ∉ t.place.toList) (full : ∀ c, c < K → (stop t (kh D k) c).j ∈ t.place.toList) {Q : SetFound → Shared → Prop}
    (yes : k ∈ L.map (·.2) → Q (.there none) s) (no : k ∉ L.map (·.2) → Q (.free (stop t (kh D k) K).j false) s) :
    ∀ (f c : Nat) (stand : Option SetTable.Probe), stand.getD (t.probeStart (kh D k)) = stop t (kh D k) c → c ≤ K → K - c < f →
      (∀ (i : Nat) p, L[i]? = some p → p.2 = k → ∃ c', c ≤ c' ∧ c' < K ∧ t.place.toList[i]? = some (stop t (kh D k) c').j) →
      wpAny (model P w) A (setSearchFrom a (.ref x) (kh D k) true f stand) Q E s := by
  obtain ⟨o, ep, ho, hex, hd⟩ := R.ob
  have Lm : L.length ≤ t.mask := by have := R.room; omega
  have fit := fits_of R.tab Lm
  have hat : ∀ {i : Nat} {p : Addr × List κ}, L[i]? = some p → ((rows D L)[i]?.map (·.1)).getD 0 = kh D p.2 := fun h => by rw [rows_at h]; rfl
  intro f
  induction f with
  | zero => intro c stand _ _ l _; omega
  | succ f ih =>
    intro c stand est cK l reach
    rw [setSearchFrom_succ]
    refine wpAny_bind (wpAny_setState_of ho hd fit ?_)
    dsimp only
    refine wp_if_neg (not_gave R.tab) ?_
    try refine wpAny_bind (wpAny_pure ?_)
    have at_ : ∀ q, (nth t.mask (stop t (kh D k) c) q).j = (stop t (kh D k) (c + q)).j := fun q => congrArg SetTable.Probe.j (stop_add t _ c q)
    have spec := go_spec t R.tab.ris R.tab.dm (fun i => ((rows D L)[i]?.map (·.1)).getD 0) (kh D k) (10 * SetTable.turns t.mask) (K - c) (stop t (kh D k) c) (stop_clean t _ c) (by omega)
      (fun q hq => by rw [at_]; exact full _ (by omega)) (by rw [at_, show c + (K - c) = K by omega]; exact free)
    rcases spec with ⟨q, i, hq, hi, hh, first, got⟩ | ⟨first, got⟩
    · have pr : t.probe (fun i => ((rows D L)[i]?.map (·.1)).getD 0) (kh D k) (stand.getD (t.probeStart (kh D k))) = some (.candidate (stop t (kh D k) (c + q)).j i (stop t (kh D k) (c + (q + 1)))) := by
        rw [est, ← at_, ← stop_add]
        exact got
      rw [pr]
      dsimp only
      rw [at_] at hi
      have il : i < L.length := by
        have h1 := (List.getElem?_eq_some_iff.mp hi).1
        have h2 := R.tab.sz
        rw [hs_len] at h2
        rw [Array.length_toList] at h1
        omega
      obtain ⟨p, hp⟩ : ∃ p, L[i]? = some p := ⟨_, List.getElem?_eq_getElem il⟩
      have hm := List.mem_of_getElem? hp
      have here := slot_live R.tab.ris hi
      have on : wpAny (model P w) A (searchRest a (.ref x) (kh D k) true f (rows D L) t (stop t (kh D k) (c + q)).j i (stop t (kh D k) (c + (q + 1)))) Q E s := by
        unfold searchRest
        rw [rows_at hp]
        dsimp only
        refine wpAny_bind (wpAny_holding (wpAny_eqBool_tuple hu (R.tk p hm) hx ?_))
        refine wpAny_bind (wpAny_setState_of ho hd fit ?_)
        dsimp only
        by_cases e : p.2 = k
        · exact wp_if_pos (by simp [e]) (wpAny_pure (yes (List.mem_map.mpr ⟨p, hm, e⟩)))
        · refine wp_if_neg (by simp [e]) ?_
          try refine wpAny_bind (wpAny_pure ?_)
          rw [sameMem]
          dsimp only
          simp only [if_true, here, rows_at hp]
          refine wpAny_bind (wpAny_isSame_ref_self (wpAny_bind (wpAny_pure ?_)))
          simp only [if_true]
          refine wp_if_neg (by simp [e]) (ih (c + (q + 1)) _ rfl (by omega) (by omega) fun i0 p0 h0 e0 => ?_)
          obtain ⟨c', r1, r2, r3⟩ := reach i0 p0 h0 e0
          refine ⟨c', ?_, r2, r3⟩
          rcases Nat.lt_trichotomy c' (c + q) with z | z | z
          · exact absurd ((hat h0).trans (congrArg (kh D) e0)) (first (c' - c) i0 (by omega) (by rw [at_, show c + (c' - c) = c' by omega]; exact r3))
          · subst z
            have s0 := slot_live R.tab.ris r3
            rw [here] at s0
            injection s0 with s0
            rw [← s0, hp] at h0
            injection h0 with h0
            exact absurd (by rw [h0]; exact e0) e
          · omega
      by_cases ld : t.led = true
      · refine wp_if_neg (by simp [ld]) ?_
        try refine wpAny_bind (wpAny_pure ?_)
        exact on
      · refine wp_if_pos (by simp [ld]) (wpAny_bind (unseen pl hx (fun y hy => ?_) ?_))
        · obtain ⟨e, he, rfl⟩ := List.mem_map.mp hy
          have he1 : e ∈ (rows D L) ∧ e.1 = kh D k := by simpa using he
          have he2 : e ∈ L.map fun p => (kh D p.2, Value.ref p.1) := by simpa [rows] using he1.1
          obtain ⟨p2, hp2, rfl⟩ := List.mem_map.mp he2
          exact ⟨p2.2, p2.1, rfl, R.tk p2 hp2⟩
        · refine wp_if_neg (by decide) ?_
          try refine wpAny_bind (wpAny_pure ?_)
          exact on
    · have pr : t.probe (fun i => ((rows D L)[i]?.map (·.1)).getD 0) (kh D k) (stand.getD (t.probeStart (kh D k))) = some (.empty (stop t (kh D k) K).j none) := by
        have e2 : (stop t (kh D k) K).j = (nth t.mask (stop t (kh D k) c) (K - c)).j := by rw [at_, show c + (K - c) = K by omega]
        rw [est, e2]
        exact got
      rw [pr]
      dsimp only
      refine wpAny_pure (no fun hm => ?_)
      obtain ⟨p0, h0, e0⟩ := List.mem_map.mp hm
      obtain ⟨i0, hi0⟩ := List.getElem?_of_mem h0
      obtain ⟨c', r1, r2, r3⟩ := reach i0 p0 hi0 e0
      exact absurd ((hat hi0).trans (congrArg (kh D) e0)) (first (c' - c) i0 (by omega) (by rw [at_, show c + (c' - c) = c' by omega]; exact r3))
theorem seek_all (pl : Plain D) (R : Has D s.heap a L t) {x : Addr} {k : List κ} (hx : Tk D s.heap k x) (hu : A.units < cLine) {Q : SetFound → Shared → Prop} (yes : k ∈ L.map (·.2) → Q (.there none) s)
    (no : ∀ K, k ∉ L.map (·.2) → way t.mask (kh D k) K ∉ t.place.toList → (∀ c, c < K → way t.mask (kh D k) c ∈ t.place.toList) → Q (.free (way t.mask (kh D k) K) false) s) :
    wpAny (model P w) A (setSearch a (.ref x) (kh D k) true) Q E s := by
  have rm := R.room
  obtain ⟨K, Kf, free, full⟩ := R.tab.first (by rw [hs_len]; omega) (kh D k)
  have big : 10 * SetTable.turns t.mask ≤ 1420 := by
    unfold SetTable.turns
    rcases R.tab.mok with e | e | e <;> omega
  unfold setSearch
  refine seek pl R hx hu Kf free full yes (fun n => no K n free full) 100000 0 none rfl (Nat.zero_le _) (by omega) fun i p hp e => ?_
  have h1 : (hs D L)[i]? = some (kh D k) := by unfold hs; rw [List.getElem?_map, hp, ← e]; rfl
  have il : i < t.place.toList.length := by
    have h3 := (List.getElem?_eq_some_iff.mp hp).1
    have h2 := R.tab.sz
    rw [hs_len] at h2
    rw [Array.length_toList]
    omega
  have hj := List.getElem?_eq_getElem il
  obtain ⟨c, hc, e⟩ := R.tab.before free h1 hj
  exact ⟨c, Nat.zero_le _, hc, by rw [hj, ← e]⟩
/-- the tuples by another order of their places -/
theorem all_of {α : Type} (L : List α) : ∀ n, n ≤ L.length → (List.range n).filterMap (fun i => L[i]?) = L.take n := fun n => by
  induction n with
  | zero => exact fun _ => rfl
  | succ n ih =>
    intro h
    obtain ⟨x, hx⟩ : ∃ x, L[n]? = some x := ⟨_, List.getElem?_eq_getElem h⟩
    rw [List.range_succ, List.filterMap_append, ih (Nat.le_of_lt h), List.take_add_one, List.filterMap_cons_some hx, hx]
    rfl
theorem ordered (L : List (Addr × List κ)) (order : Array Nat) (hp : order.toList.Perm (List.range L.length)) :
    ∃ L2, order.filterMap ((rows D L)[·]?) = rows D L2 ∧ L2.Perm L ∧ hs D L2 = order.toList.map fun i => ((rows D L).map (·.1)).getD i 0 := by
  have row : ∀ i : Nat, (rows D L)[i]? = (L[i]?).map fun p => (kh D p.2, Value.ref p.1) := fun i => by
    unfold rows
    rw [List.getElem?_toArray, List.getElem?_map]
  refine ⟨order.toList.filterMap fun i => L[i]?, ?_, ?_, ?_⟩
  · refine Array.toList_inj.mp ?_
    rw [Array.toList_filterMap]
    show order.toList.filterMap (fun i => (rows D L)[i]?) = (order.toList.filterMap fun i => L[i]?).map _
    rw [List.map_filterMap]
    congr 1
    exact funext row
  · have h := hp.filterMap fun i => L[i]?
    rwa [all_of L L.length (Nat.le_refl _), List.take_length] at h
  · have lt : ∀ i ∈ order.toList, i < L.length := fun i hi => List.mem_range.mp (hp.mem_iff.mp hi)
    unfold hs
    generalize order.toList = l at lt
    clear hp
    induction l with
    | nil => rfl
    | cons i l ih =>
      obtain ⟨p, ep⟩ : ∃ p, L[i]? = some p := ⟨_, List.getElem?_eq_getElem (lt i (.head _))⟩
      rw [List.filterMap_cons_some ep, List.map_cons, List.map_cons, ih fun j hj => lt j (.tail _ hj)]
      have e : ((rows D L).map (·.1)).getD i 0 = kh D p.2 := by
        have e2 : ((rows D L).map (·.1))[i]? = some (kh D p.2) := by rw [Array.getElem?_map, rows_at ep]; rfl
        rw [Array.getD_eq_getD_getElem?, e2]
        rfl
      rw [e]
/-- laid anew, larger -/
theorem relaid {o : Obj} {ep : Nat} (ho : s.heap.get? a = some o) (hex : o.ExactSet) (hd : o.data = .set (rows D L) ep t) (T : TabOk t (hs D L)) (Lm : L.length ≤ t.mask) (nd : (L.map (·.2)).Nodup) (tk : ∀ p ∈ L, Tk D s.heap p.2 p.1) (few : L.length < 64)
    {wanted M : Nat} (hw : SetTable.sizeAbove wanted - 1 = M) (hM : MaskOk M) (hw2 : SetTable.sizeAbove wanted ≤ 128) (hn : L.length * 5 < M * 3) {Q : Unit → Shared → Prop}
    (hQ : ∀ h' L' t', Heap.SameBut a s.heap h' → Has D h' a L' t' → L'.Perm L → Q () { s with heap := h' }) : wpAny (model P w) A (setRelay a wanted) Q E s := by
  obtain ⟨t', order, e, hp, T', em, _, _, _⟩ := relaid_ok t (hs := (rows D L).map (·.1)) (wanted := wanted) hw hM (by rw [Array.size_map, rows_size]; omega)
  rw [Array.size_map, rows_size] at hp
  obtain ⟨L2, r1, r2, r3⟩ := ordered (D := D) L order hp
  rw [← r3] at T'
  have l2 := r2.length_eq
  rw [setRelay_eq]
  refine wpAny_bind (wpAny_setState_of ho hd (fits_of T Lm) ?_)
  dsimp only
  refine wp_if_neg (by rw [sizeLine_eq]; omega) ?_
  try refine wpAny_bind (wpAny_pure ?_)
  rw [e]
  dsimp only
  rw [r1]
  refine wpAny_bind ?_
  refine wp_if_neg (by rw [rows_size, rows_size, l2]; simp) ?_
  try refine wpAny_bind (wpAny_pure ?_)
  refine wpAny_pure ?_
  dsimp only
  refine wpAny_storeSet_of ho hd ?_ (by rw [rows_size, l2, sizeLine_eq]; omega)
  have sb : Heap.SameBut a s.heap (s.heap.update a (Obj.putSet (rows D L2) t')) := Heap.SameBut.update ..
  exact hQ _ L2 t' sb ⟨⟨_, ep + 1, store_at ho hd, ⟨hex.1, hex.2.1, hex.2.2⟩, rfl⟩, T', (r2.map (·.2)).nodup_iff.mpr nd, fun p hp => (tk p (r2.mem_iff.mp hp)).beside ho hd sb, by rw [l2, em]; exact hn, by rw [l2]; exact few⟩ r2
/-- one put in -/
theorem adds (pl : Plain D) (R : Has D s.heap a L t) {x : Addr} {k : List κ} (hx : Tk D s.heap k x) (hu : A.units < cLine) (few : L.length + 1 < 64) {Q : Bool → Shared → Prop}
    (hQ : ∀ b h' L' t', Heap.SameBut a s.heap h' → Has D h' a L' t' → (k ∈ L.map (·.2) → L' = L) → (k ∉ L.map (·.2) → L'.Perm ((x, k) :: L)) → Q b { s with heap := h' }) :
    wpAny (model P w) A (setAddHashed a (.ref x) (kh D k)) Q E s := by
  obtain ⟨o, ep, ho, hex, hd⟩ := R.ob
  have rm := R.room
  have fit := fits_of R.tab (by omega)
  unfold setAddHashed
  refine wpAny_holding ?_
  rw [show (100000 : Nat) = 99999 + 1 from rfl, setAddHashedIn_succ]
  refine wpAny_bind (wpAny_setState_of ho hd fit ?_)
  dsimp only
  refine wp_if_neg (by simp [byScan, Value.scannable]) ?_
  try refine wpAny_bind (wpAny_pure ?_)
  refine wpAny_bind (seek_all pl R hx hu (fun m => ?_) fun K m free full => ?_)
  · exact wpAny_pure (hQ false s.heap L t (Heap.SameBut.refl a s.heap) R (fun _ => rfl) fun z => absurd m z)
  dsimp only
  refine wpAny_bind (wpAny_setState_of ho hd fit ?_)
  dsimp only
  obtain ⟨q1, q2, q3, q4, _, _, _, _, q9⟩ := R.tab.put free full
  rw [hs_len] at q2 q9
  generalize hj : SetTable.below t.place (way t.mask (kh D k) K) = j at q1 q2 q3
  have pm : (L.take j ++ (x, k) :: L.drop j).Perm ((x, k) :: L) := by
    have := List.perm_middle (a := (x, k)) (l₁ := L.take j) (l₂ := L.drop j)
    rwa [List.take_append_drop] at this
  have ein : SetTable.insertAt (rows D L) j (kh D k, Value.ref x) = rows D (L.take j ++ (x, k) :: L.drop j) := by
    refine Array.toList_inj.mp ?_
    rw [SetTable.toList_insertAt]
    unfold rows
    simp [List.map_take, List.map_drop]
  have ehs : hs D (L.take j ++ (x, k) :: L.drop j) = (hs D L).take j ++ kh D k :: (hs D L).drop j := by
    unfold hs
    rw [List.map_append, List.map_cons, List.map_take, List.map_drop]
  rw [← ehs] at q3
  have nd1 : ((L.take j ++ (x, k) :: L.drop j).map (·.2)).Nodup := (pm.map (·.2)).nodup_iff.mpr (by rw [List.map_cons]; exact List.nodup_cons.mpr ⟨m, R.nd⟩)
  have l1 : (L.take j ++ (x, k) :: L.drop j).length = L.length + 1 := pm.length_eq
  generalize hpt : t.put (way t.mask (kh D k) K) = pt at q1 q3 q4 q9 ⊢
  obtain ⟨t1, j1⟩ := pt
  dsimp only at q1 q3 q4 q9 ⊢
  subst q1
  -- plain or not, the places are the same
  have put : ∀ t2 : SetTable, t2.place = t1.place → t2.dummies = t1.dummies → t2.mask = t1.mask → TabOk t2 (hs D (L.take j1 ++ (x, k) :: L.drop j1)) ∧ t2.fill = t1.fill := fun t2 e1 e2 e3 => by
    refine ⟨⟨by rw [e1]; exact q3.ris, by rw [e2]; exact q3.dm, by rw [e1]; exact q3.sz, by rw [e3]; exact q3.mok, by rw [e1, e3]; exact q3.bd, by rw [e1, e3]; exact q3.reach⟩, ?_⟩
    unfold SetTable.fill
    rw [e1, e2]
  have on : ∀ t2 : SetTable, t2.place = t1.place → t2.dummies = t1.dummies → t2.mask = t1.mask → wpAny (model P w) A (do
      storeSet a (SetTable.insertAt (rows D L) j1 (kh D k, Value.ref x)) t2
      if !false && t2.tooFull then setRelay a (SetTable.grown ((rows D L).size + 1))
      return true) Q E s := fun t2 e1 e2 e3 => by
    obtain ⟨T2, f2⟩ := put t2 e1 e2 e3
    rw [ein]
    generalize L.take j1 ++ (x, k) :: L.drop j1 = L1 at pm nd1 l1 T2
    refine wpAny_bind (wpAny_storeSet_of ho hd ?_ (by rw [rows_size, l1, sizeLine_eq]; omega))
    have sb : Heap.SameBut a s.heap (s.heap.update a (Obj.putSet (rows D L1) t2)) := Heap.SameBut.update ..
    have ho1 := store_at (es' := rows D L1) (t' := t2) ho hd
    generalize s.heap.update a (Obj.putSet (rows D L1) t2) = h1 at sb ho1 ⊢
    have tk1 : ∀ p ∈ L1, Tk D h1 p.2 p.1 := fun p hp => by
      rcases List.mem_cons.mp (pm.mem_iff.mp hp) with e | hp
      · rw [e]; exact hx.beside ho hd sb
      · exact (R.tk p hp).beside ho hd sb
    have m2 : t2.mask = t.mask := e3.trans q4
    by_cases full2 : t2.tooFull = true
    · have hf : (L.length + 1) * 5 ≥ t2.mask * 3 := by
        have h := full2
        unfold SetTable.tooFull at h
        rw [decide_eq_true_eq, f2, q9] at h
        exact h
      have which : (t.mask = 7 ∧ L.length = 4) ∨ (t.mask = 31 ∧ L.length = 18) := by
        rw [m2] at hf
        rcases R.tab.mok with e | e | e <;> rw [e] at hf rm
        · exact .inl ⟨e, by omega⟩
        · exact .inr ⟨e, by omega⟩
        · omega
      have go : ∀ M, SetTable.sizeAbove (SetTable.grown (L.length + 1)) - 1 = M → MaskOk M → SetTable.sizeAbove (SetTable.grown (L.length + 1)) ≤ 128 → (L.length + 1) * 5 < M * 3 →
          wpAny (model P w) A (setRelay a (SetTable.grown (L.length + 1))) (fun _ s' => wpAny (model P w) A (pure true) Q E s') E { s with heap := h1 } := fun M g1 g2 g3 g4 =>
        relaid (s := { s with heap := h1 }) ho1 ⟨hex.1, hex.2.1, hex.2.2⟩ rfl T2 (by rw [l1, m2]; rcases which with ⟨e, e'⟩ | ⟨e, e'⟩ <;> omega) nd1 tk1 (by rw [l1]; exact few) g1 g2 g3 (by rw [l1]; exact g4) fun h2 L2 t3 sb2 R2 pm2 =>
          wpAny_pure (hQ true h2 L2 t3 (sb.trans sb2) R2 (fun z => absurd z m) fun _ => pm2.trans pm)
      rw [rows_size]
      first
        | (refine wpAny_bind ?_; refine wp_if_pos (by simp [full2]) ?_)
        | (refine wp_if_pos (by simp [full2]) ?_; refine wpAny_bind ?_)
      rcases which with ⟨_, e⟩ | ⟨_, e⟩
      · exact go 31 (by rw [e, size_20]) (.inr (.inl rfl)) (by rw [e, size_20]; decide) (by omega)
      · exact go 127 (by rw [e, size_76]) (.inr (.inr rfl)) (by rw [e, size_76]; decide) (by omega)
    · have hr : (L.length + 1) * 5 < t2.mask * 3 := by
        have h := full2
        unfold SetTable.tooFull at h
        rw [decide_eq_true_eq, f2, q9] at h
        omega
      have done := hQ true h1 L1 t2 sb ⟨⟨_, ep + 1, ho1, ⟨hex.1, hex.2.1, hex.2.2⟩, rfl⟩, T2, nd1, tk1, by rw [l1]; exact hr, by rw [l1]; exact few⟩ (fun z => absurd z m) fun _ => pm
      first
        | exact wp_if_neg (by simp [full2]) (wpAny_pure done)
        | (refine wpAny_bind ?_; exact wp_if_neg (by simp [full2]) (wpAny_pure (wpAny_pure done)))
  by_cases pn : t1.plain = true
  · refine wp_if_pos pn (wpAny_bind (by_val pl hx fun c => ?_))
    cases c with
    | true => exact on t1 rfl rfl rfl
    | false => exact on { t1 with plain := false } rfl rfl rfl
  · refine wp_if_neg pn ?_
    first
      | exact on t1 rfl rfl rfl
      | exact wpAny_bind (wpAny_pure (on t1 rfl rfl rfl))
end
end Stt
namespace Spr
open PySem PySem.Spec PyProof.Rows L2
section
variable {P : Program} {w : World} {A : Around} {h0 : Heap} {S : Addr} {ks : List (Addr × List Str)}
abbrev DS (P : Program) (w : World) : KeyKind P w Str := PySem.strKind P w
structure Got (P : Program) (w : World) (S : Addr) (ks : List (Addr × List Str)) (i : Nat) (h : Heap) : Prop where
  ex : ∃ L t, Stt.Has (DS P w) h S L t ∧ (∀ p ∈ L, p ∈ ks) ∧ (∀ k, k ∈ L.map (·.2) ↔ k ∈ (ks.take i).map (·.2)) ∧ L.length ≤ i ∧ (L.length = i ↔ ((ks.take i).map (·.2)).Nodup)
theorem under {items : Array Value} (hit : items.toList = ks.map fun p => Value.ref p.1) (tk : ∀ p ∈ ks, Stt.Tk (DS P w) h0 p.2 p.1) (few : ks.length < 64) (hu : A.units < cLine) : SetBy.Under P w A h0 S items (fun i => Got P w S ks i) where
  keep := fun i h h' x k old => by
    obtain ⟨L, t, ⟨⟨o, ep, ho, q⟩, r1, r2, r3, r4, r5⟩, sub, g⟩ := x.ex
    exact ⟨L, t, ⟨⟨o, ep, k o ho, q⟩, r1, r2, fun p hp => (tk p (sub p hp)).kept old, r4, r5⟩, sub, g⟩
  add := fun i v s E Q hv hs old q => by
    have hv' : (ks.map fun p => Value.ref p.1)[i]? = some v := by rw [← hit, Array.getElem?_toList]; exact hv
    rw [List.getElem?_map] at hv'
    obtain ⟨⟨x, k⟩, ex, rfl⟩ := Option.map_eq_some_iff.mp hv'
    have il : i < ks.length := (List.getElem?_eq_some_iff.mp ex).1
    have hx := (tk _ (List.mem_of_getElem? ex)).kept old
    obtain ⟨L, t, R, sub, mem, le, nd⟩ := hs.ex
    have tk1 : (ks.take (i + 1)).map (·.2) = (ks.take i).map (·.2) ++ [k] := by rw [List.take_add_one, ex, List.map_append]; rfl
    unfold setAdd
    refine wpAny_holding (wpAny_bind (wpAny_pyHash_tuple hu hx ?_))
    refine Stt.adds (s := { s with toks := s.toks + (k.length + 1) }) Stt.plain_str R hx hu (by omega) fun b h' L' t' sb R' same more => ?_
    refine q b h' (s.toks + (k.length + 1)) (Nat.le_add_right _ _) sb ⟨L', t', R', ?_⟩
    by_cases m : k ∈ L.map (·.2)
    · rw [same m]
      refine ⟨sub, fun z => ?_, by omega, ?_⟩
      · rw [tk1, mem z, List.mem_append, List.mem_singleton]
        exact ⟨.inl, fun y => y.elim id fun e => by rw [e]; exact (mem k).mp m⟩
      · rw [tk1, Stx.nd_snoc]
        exact ⟨fun z => by omega, fun z => absurd ((mem k).mp m) z.2⟩
    · have pm := more m
      have pl := pm.length_eq
      rw [List.length_cons] at pl
      refine ⟨fun p hp => ?_, fun z => ?_, by omega, ?_⟩
      · rcases List.mem_cons.mp (pm.mem_iff.mp hp) with e | e
        · rw [e]; exact List.mem_of_getElem? ex
        · exact sub p e
      · rw [tk1, (pm.map (·.2)).mem_iff, List.map_cons, List.mem_cons, List.mem_append, List.mem_singleton, mem z]
        exact or_comm
      · rw [tk1, Stx.nd_snoc, ← nd, ← mem k, pl]
        exact ⟨fun z => ⟨by omega, m⟩, fun z => by omega⟩
theorem fresh0 {h : Heap} (e : h.get? S = some (SetBy.freshSet w)) : Got P w S ks 0 h := by
  refine ⟨[], .fresh 0 0 (!w.params.followText "set-order"), ⟨⟨_, 0, e, ⟨rfl, rfl, rfl⟩, rfl⟩, ?_, List.nodup_nil, fun p hp => (by cases hp), (by show 0 * 5 < 7 * 3; decide), by decide⟩, fun p hp => (by cases hp), fun k => by simp, Nat.le_refl _, by simp⟩
  have x := (setTR_fresh (P := P) (w := w) e).tab
  exact x
/-- the set by its size -/
def Held (a : Addr) (ks : List (List Str)) (h : Heap) : Prop := ∃ c, (∃ (o : Obj) (es : Array (Int × Value)) (ep : Nat) (t : SetTable), h.get? a = some o ∧ o.ExactSet ∧ o.data = .set es ep t ∧ t.fits es.size = true ∧ es.size = c ∧ c < 64) ∧ c ≤ ks.length ∧ (c = ks.length ↔ ks.Nodup)
theorem Held.at {a : Addr} {ks : List (List Str)} {h h' : Heap} (x : Held a ks h) (k : ∀ o, h.get? a = some o → h'.get? a = some o) : Held a ks h' := by
  obtain ⟨c, ⟨o, es, ep, t, ho, r⟩, q⟩ := x
  exact ⟨c, ⟨o, es, ep, t, k o ho, r⟩, q⟩
theorem Got.held {h : Heap} (x : Got P w S ks ks.length h) : Held S (ks.map (·.2)) h := by
  obtain ⟨L, t, R, _, _, le, nd⟩ := x.ex
  obtain ⟨o, ep, ho, hex, hd⟩ := R.ob
  rw [List.take_length] at nd
  exact ⟨L.length, ⟨o, _, ep, t, ho, hex, hd, Stt.fits_of R.tab (by have := R.room; omega), Stt.rows_size L, R.few⟩, by rw [List.length_map]; exact le, by rw [List.length_map]; exact nd⟩
end
def SetPrO (a : Addr) (ks : List (List Str)) : HO := .ext (Held a ks)
theorem new {P : Program} {w : World} {H : Hp} {h : Heap} {a : Addr} {ks : List (List Str)} (x : Held a ks h) : ObjOk P w H h a (SetPrO a ks) := by
  have ⟨c, ⟨o, es, ep, t, ho, r⟩, q⟩ := x
  exact ⟨x, ⟨o, ho⟩, fun h1 h2 y k => Held.at y k⟩
theorem items_of {P : Program} {w : World} : ∀ {k : List Str} {us : List Value}, Vals (k.map V.str) us → ItemsAre (DS P w) k us
  | [], _, .nil => .nil
  | n :: k, _, .cons r t => by
    obtain ⟨tk, rfl⟩ := r
    exact .cons (strKind_is P w n tk) (items_of t)
theorem refs_of : ∀ {ks : List (Addr × List Str)} {us : List Value}, Vals (ks.map fun p => V.ref p.1) us → us = ks.map fun p => Value.ref p.1
  | [], _, .nil => rfl
  | p :: ks, _, .cons r t => by
    cases r
    rw [refs_of t] <;> rfl
section
variable {X : Cx}
def rSetPr (K : PySem.W.Frag) : List V → Hp → VK → Prop := fun xs H Q => ∃ (l : Addr) (ks : List (Addr × List Str)), xs = [V.ref l] ∧ SqL K H l (ks.map fun p => V.ref p.1) ∧ (∀ p ∈ ks, SqT K H p.1 (p.2.map V.str)) ∧ ks.length < 64 ∧ ∀ a, H a = none → Q (.ref a) (upd H a (SetPrO a (ks.map (·.2))))
theorem cr_setPr (hc : X.calm = true) (hu : X.A.units + 64 < cLine) : CallR X (.type "set") (rSetPr X.K) := by
  intro pins s σ H xs us Q I r h
  obtain ⟨l, ks, rfl, hl, hk, few, q⟩ := h
  rw [Vals.ref1 r]
  obtain ⟨its, rv, pl, hz⟩ := I.list hl
  have hn : H s.heap.objs.size = none := I.hok.fresh (Nat.le_refl _)
  have hit : its.toArray.toList = ks.map fun p => Value.ref p.1 := by simpa using refs_of rv
  have sz : its.toArray.size = ks.length := by
    have := congrArg List.length hit
    rw [List.length_map, Array.length_toList] at this
    exact this
  have tk : ∀ p ∈ ks, Stt.Tk (DS X.prog X.w) s.heap p.2 p.1 := fun p hp => by
    obtain ⟨us, ru, ⟨o, ho, hc, n, hd⟩, _⟩ := I.tuple (hk p hp)
    exact ⟨o, us.toArray, n, ho, hc, hd, by simpa using items_of ru⟩
  refine SetBy.call_lst (I.ok.hd hc) pl.isList (under hit tk few (by show X.A.units + 1 + 1 + 1 < cLine; omega)) (fun h e _ => fresh0 e) fun h' t x k => ?_
  rw [sz] at x
  exact ⟨.ref s.heap.objs.size, upd H s.heap.objs.size (SetPrO s.heap.objs.size (ks.map (·.2))), I.laid (t' := t) k (Nat.le_refl _) (new x.held), rfl, q _ hn⟩
def rLenPr : List V → Hp → VK → Prop := fun xs H Q => ∃ (a : Addr) (ks : List (List Str)), xs = [.ref a] ∧ H a = some (SetPrO a ks) ∧ ∀ c : Nat, c ≤ ks.length → (c = ks.length ↔ ks.Nodup) → Q (.int c) H
theorem call_lenPr : CallR X (.builtin "len") rLenPr := by
  intro pins s σ H xs us Q I r h
  obtain ⟨a, ks, rfl, ha, q⟩ := h
  rw [Vals.ref1 r]
  obtain ⟨c, ⟨o, es, ep, t, ho, hex, hd, hf, hn, hb⟩, le, nd⟩ := (show Held a ks s.heap from (I.hok a _ ha).1)
  refine call_len_set ho hex hd hf (by omega) ?_
  rw [hn]
  exact ⟨.int (c : Nat), H, I.tok _, ⟨_, rfl⟩, q c le nd⟩
/-- either: texts of a list or a tuple, tuples of texts of a list -/
def rSetU (K : PySem.W.Frag) (P : Program) (w : World) : List V → Hp → VK → Prop := fun xs H Q => Stx.rSetTx K P w xs H Q ∨ rSetPr K xs H Q
theorem cr_setU (hc : X.calm = true) (hu : X.A.units + 64 < cLine) : CallR X (.type "set") (rSetU X.K X.prog X.w) := CallR.or (Stx.cr_setTx hc) (cr_setPr hc hu)
def rLenU (P : Program) (w : World) : List V → Hp → VK → Prop := fun xs H Q => Stx.rLenTx P w xs H Q ∨ rLenPr xs H Q
theorem call_lenU : CallR X (.builtin "len") (rLenU X.prog X.w) := CallR.or Stx.call_lenTx call_lenPr
end
end Spr
namespace Stp
open PySem PySem.Spec PyProof.Rows L2
section
variable {P : Program} {w : World} {A : Around} {E : Value → Shared → Prop} {s : Shared}
theorem collected {l : Addr} {vs : List Value} {Q : List Value → Shared → Prop} (hl : s.heap.IsTuple l vs.toArray) (sz : vs.length ≤ sizeLine)
    (h : Q vs { s with heap := (s.heap.push (seqObj "list" #[] 0)).update s.heap.objs.size (Obj.mapSeq (· ++ vs.toArray)) }) : wpAny (model P w) A (collect (.ref l)) Q E s := by
  obtain ⟨o, ho, hc, n, hd⟩ := hl
  have ho1 : (s.heap.push (seqObj "list" #[] 0)).get? l = some o := Heap.get?_push_of_some _ ho
  have new : (s.heap.push (seqObj "list" #[] 0)).get? s.heap.objs.size = some (seqObj "list" #[] 0) := Heap.get?_push_size _ rfl
  have all : (#[] : Array Value) ++ vs.toArray = vs.toArray := by simp
  unfold collect
  refine wpAny_bind (wpAny_runValue (codeAny_builtin entry_proto_collect' ?_))
  show wpAny _ _ (do again (.builtin "list.__iadd__" ⟨[← newList [], .ref l], []⟩)) _ _ s
  refine wpAny_bind (wpAny_newList (wpAny_pure ⟨Code.quiet_builtin _ (by decide +kernel), codeAny_builtin entry_list_iadd' ?_⟩))
  show wpAny _ _ (Builtin.List.listExtendWith (.ref s.heap.objs.size) (.ref l) (.ref s.heap.objs.size)) _ _ { s with heap := s.heap.push (seqObj "list" #[] 0) }
  unfold Builtin.List.listExtendWith
  refine wpAny_bind (wpAny_typeOf (T := "tuple") ⟨o, ho1, hc⟩ ?_)
  rw [if_pos (by rw [show (Value.type "tuple" == Value.type "tuple") = true by decide, Bool.or_true])]
  refine wpAny_bind (listItems_at ho1 hd (wpAny_bind (listItems_at (xs := #[]) (n := 0) new rfl ?_)))
  rw [if_neg (by simp)]
  refine wpAny_bind (listUpdate_at (xs := #[]) (n := 0) new rfl ?_ (Nat.zero_le _) (by show (#[] ++ vs.toArray).size ≤ sizeLine + 1; rw [all]; simp only [List.size_toArray]; omega))
  refine wpAny_pure ?_
  refine wpAny_bind (wpAny_load (get?_update_seq new _) ?_)
  show wpAny _ _ (pure ((#[] : Array Value) ++ vs.toArray).toList) Q E _
  rw [all]
  exact wpAny_pure h
theorem sorted_tup {l : Addr} {vs : List Value} {ss : List Str} {Q : Value → Shared → Prop} (hl : s.heap.IsTuple l vs.toArray) (hS : StrsAre vs ss) (few : vs.length < 64)
    (h : ∀ (out : Array Value) (ss' : List Str), StrsAre out.toList ss' → ss'.Perm ss → sortedS ss' = true → Q (.ref (s.heap.objs.size + 1)) { s with heap := sortedAll s.heap vs out }) :
    wpAny (model P w) A (call (.builtin "sorted") [.ref l]) Q E s := by
  refine Calls.call_function_entry kind_sorted plain_sorted entry_sorted (args_sorted1 _) ?_
  unfold Builtin.«sorted»
  refine wpAny_bind (m := checkCount "sorted" 1 1 _) (wpAny_pure (wpAny_bind (collected hl (by rw [sizeLine_eq]; omega) (wpAny_bind (wpAny_newList ?_)))))
  have sz : ((s.heap.push (seqObj "list" #[] 0)).update s.heap.objs.size (Obj.mapSeq (· ++ vs.toArray))).objs.size = s.heap.objs.size + 1 := by rw [Heap.size_update, size_push']
  have there : (((s.heap.push (seqObj "list" #[] 0)).update s.heap.objs.size (Obj.mapSeq (· ++ vs.toArray))).push (seqObj "list" vs.toArray 0)).get? (s.heap.objs.size + 1) = some (seqObj "list" vs.toArray 0) := by
    rw [← sz]
    exact Heap.get?_push_size _ rfl
  show wpAny _ _ _ _ _ { s with heap := ((s.heap.push (seqObj "list" #[] 0)).update s.heap.objs.size (Obj.mapSeq (· ++ vs.toArray))).push (seqObj "list" vs.toArray 0) }
  rw [sz]
  refine wpAny_bind (wpAny_holding (wpAny_call_entry slot_list_sort ⟨_, there, rfl⟩ entry_list_sort (list_sort_treeK PyProof.Rows.strKind_oneLt there hS.keysOf (fun v₁ v₂ rest e => keyKind_strs (by rw [← e]; exact hS)) few fun st hp hs => ⟨_, rfl, ?_⟩) (args_list_sort _)))
  obtain ⟨ss', h1, h2, h3⟩ := sorted_out_str hS hp hs
  exact wpAny_pure ⟨_, rfl, h _ ss' h1 h2 h3⟩
end
section
variable {X : Cx}
def rSortTp (K : PySem.W.Frag) : List V → Hp → VK → Prop := fun vs H Q => ∃ (a : Addr) (xs : List Str), vs = [V.ref a] ∧ SqT K H a (xs.map V.str) ∧ xs.length < 64 ∧ ∀ (ys : List Str) (p : Addr), ys.Perm xs → sortedS ys = true → H p = none → Q (.ref p) (upd H p (.lst (ys.map V.str)))
theorem cr_sortTp : CallR X (.builtin "sorted") (rSortTp X.K) := by
  intro pins s σ H vs us Q I r h
  obtain ⟨a, xs, rfl, hs, few, q⟩ := h
  obtain ⟨its, rv, hl, _⟩ := I.tuple hs
  rw [Vals.ref1 r]
  have len := rv.length
  rw [List.length_map] at len
  refine sorted_tup hl rv.strs (by rw [← len]; exact few) fun out ys h1 h2 h3 => ?_
  obtain ⟨ep, he⟩ := sortedAll_at s.heap its out
  have sz : (ys.map V.str).length ≤ sizeLine := by rw [List.length_map, h2.length_eq]; exact small64 few
  exact ⟨.ref _, upd H (s.heap.objs.size + 1) (.lst (ys.map V.str)), I.laid (t' := s.toks) (fun _ _ => sortedAll_old) (Nat.le_succ _) ⟨sz, out.toList, ep, vals_of_strs h1, he⟩, rfl, q ys _ h2 h3 (I.hok.fresh (Nat.le_succ _))⟩
end
end Stp
namespace Tma
open PySem PySem.Spec PyProof.Rows L2
end Tma
namespace Jc
open PySem PySem.Spec PyProof.Rows L2
end Jc
namespace Tyv
open PySem PySem.Spec PyProof.Rows L2
end Tyv
namespace Th
open PySem PySem.Spec PyProof.Rows L2
def topS (i : Nat) : Stmt := PySem.Challenge.pw_throughlines_k05_what_is_a_net.main.body.getD i (.Pass ⟨0, 0, 0, 0⟩)
abbrev FnP (K : PySem.W.Frag) (x : Str) (st : Stmt) (f : Addr) (fd : FuncData) : Prop := FunD K x x (defArgs st) (defBody st) (defScope st) [] [] f fd
abbrev s_is_whole : Stmt := topS 2
abbrev N_is_whole : List Str := ["thing"]
theorem sc_is_whole : FnScope N_is_whole ["thing"] (defScope s_is_whole) := ⟨rfl, rfl, rfl, by decide +kernel, rfl, by decide +kernel, by decide +kernel⟩
abbrev s_is_whole_between : Stmt := topS 3
abbrev N_is_whole_between : List Str := ["thing", "least", "most"]
theorem sc_is_whole_between : FnScope N_is_whole_between ["thing", "least", "most"] (defScope s_is_whole_between) := ⟨rfl, rfl, rfl, by decide +kernel, rfl, by decide +kernel, by decide +kernel⟩
abbrev s_is_name : Stmt := topS 4
abbrev N_is_name : List Str := ["thing", "letter"]
theorem sc_is_name : FnScope N_is_name ["thing"] (defScope s_is_name) := ⟨rfl, rfl, rfl, by decide +kernel, rfl, by decide +kernel, by decide +kernel⟩
abbrev s_is_tuple : Stmt := topS 5
abbrev N_is_tuple : List Str := ["thing", "fewest", "most"]
theorem sc_is_tuple : FnScope N_is_tuple ["thing", "fewest", "most"] (defScope s_is_tuple) := ⟨rfl, rfl, rfl, by decide +kernel, rfl, by decide +kernel, by decide +kernel⟩
abbrev s_all_unlike : Stmt := topS 6
abbrev N_all_unlike : List Str := ["things"]
theorem sc_all_unlike : FnScope N_all_unlike ["things"] (defScope s_all_unlike) := ⟨rfl, rfl, rfl, by decide +kernel, rfl, by decide +kernel, by decide +kernel⟩
abbrev s_is_net : Stmt := topS 13
abbrev N_is_net : List Str := ["thing", "lines", "stations", "junctions", "ties", "place"]
theorem sc_is_net : FnScope N_is_net ["thing"] (defScope s_is_net) := ⟨rfl, rfl, rfl, by decide +kernel, rfl, by decide +kernel, by decide +kernel⟩
abbrev s_are_lines : Stmt := topS 14
abbrev N_are_lines : List Str := ["thing", "line"]
theorem sc_are_lines : FnScope N_are_lines ["thing"] (defScope s_are_lines) := ⟨rfl, rfl, rfl, by decide +kernel, rfl, by decide +kernel, by decide +kernel⟩
abbrev s_are_stations : Stmt := topS 15
abbrev N_are_stations : List Str := ["lines", "thing", "station"]
theorem sc_are_stations : FnScope N_are_stations ["lines", "thing"] (defScope s_are_stations) := ⟨rfl, rfl, rfl, by decide +kernel, rfl, by decide +kernel, by decide +kernel⟩
abbrev s_is_station : Stmt := topS 16
abbrev N_is_station : List Str := ["lines", "thing"]
theorem sc_is_station : FnScope N_is_station ["lines", "thing"] (defScope s_is_station) := ⟨rfl, rfl, rfl, by decide +kernel, rfl, by decide +kernel, by decide +kernel⟩
abbrev s_are_junctions : Stmt := topS 17
abbrev N_are_junctions : List Str := ["lines", "thing", "junction"]
theorem sc_are_junctions : FnScope N_are_junctions ["lines", "thing"] (defScope s_are_junctions) := ⟨rfl, rfl, rfl, by decide +kernel, rfl, by decide +kernel, by decide +kernel⟩
abbrev s_is_junction : Stmt := topS 18
abbrev N_is_junction : List Str := ["lines", "thing"]
theorem sc_is_junction : FnScope N_is_junction ["lines", "thing"] (defScope s_is_junction) := ⟨rfl, rfl, rfl, by decide +kernel, rfl, by decide +kernel, by decide +kernel⟩
abbrev s_are_joined : Stmt := topS 19
abbrev N_are_joined : List Str := ["lines", "thing", "line"]
theorem sc_are_joined : FnScope N_are_joined ["lines", "thing"] (defScope s_are_joined) := ⟨rfl, rfl, rfl, by decide +kernel, rfl, by decide +kernel, by decide +kernel⟩
abbrev s_lines_by_place : Stmt := topS 20
abbrev N_lines_by_place : List Str := ["stations", "junctions", "found", "name", "joined", "line"]
theorem sc_lines_by_place : FnScope N_lines_by_place ["stations", "junctions"] (defScope s_lines_by_place) := ⟨rfl, rfl, rfl, by decide +kernel, rfl, by decide +kernel, by decide +kernel⟩
abbrev s_are_ties : Stmt := topS 21
abbrev N_are_ties : List Str := ["places", "thing", "tie"]
theorem sc_are_ties : FnScope N_are_ties ["places", "thing"] (defScope s_are_ties) := ⟨rfl, rfl, rfl, by decide +kernel, rfl, by decide +kernel, by decide +kernel⟩
abbrev s_is_tie : Stmt := topS 22
abbrev N_is_tie : List Str := ["places", "thing", "place", "far", "line", "chains"]
theorem sc_is_tie : FnScope N_is_tie ["places", "thing"] (defScope s_is_tie) := ⟨rfl, rfl, rfl, by decide +kernel, rfl, by decide +kernel, by decide +kernel⟩
abbrev s_l_bag : Stmt := topS 24
abbrev N_l_bag : List Str := ["_law_script", "_law_at", "_law_cell", "_law_great", "_law_primes"]
theorem sc_l_bag : FnScope N_l_bag ["_law_script", "_law_at"] (defScope s_l_bag) := ⟨rfl, rfl, rfl, by decide +kernel, rfl, by decide +kernel, by decide +kernel⟩
abbrev s_l_take : Stmt := topS 25
abbrev N_l_take : List Str := ["_law_bag_here", "_law_many", "_law_digit"]
theorem sc_l_take : FnScope N_l_take ["_law_bag_here", "_law_many"] (defScope s_l_take) := ⟨rfl, rfl, rfl, by decide +kernel, rfl, by decide +kernel, by decide +kernel⟩
abbrev s_l_whole : Stmt := topS 26
abbrev N_l_whole : List Str := ["_law_thing"]
theorem sc_l_whole : FnScope N_l_whole ["_law_thing"] (defScope s_l_whole) := ⟨rfl, rfl, rfl, by decide +kernel, rfl, by decide +kernel, by decide +kernel⟩
abbrev s_l_names : Stmt := topS 27
abbrev N_l_names : List Str := ["_law_bag_here", "_law_many", "_law_letters", "_law_found", "_law_k", "_law_size", "_law_stem", "_law_turn"]
theorem sc_l_names : FnScope N_l_names ["_law_bag_here", "_law_many"] (defScope s_l_names) := ⟨rfl, rfl, rfl, by decide +kernel, rfl, by decide +kernel, by decide +kernel⟩
abbrev s_l_spots : Stmt := topS 28
abbrev N_l_spots : List Str := ["_law_bag_here", "_law_many", "_law_junctions", "_law_found", "_law_here", "_law_k", "_law_some", "_law_turn"]
theorem sc_l_spots : FnScope N_l_spots ["_law_bag_here", "_law_many", "_law_junctions"] (defScope s_l_spots) := ⟨rfl, rfl, rfl, by decide +kernel, rfl, by decide +kernel, by decide +kernel⟩
abbrev s_l_places : Stmt := topS 29
abbrev N_l_places : List Str := ["_law_bag_here", "_law_many", "_law_junctions", "_law_more", "_law_names_here", "_law_spots_here", "_law_first", "_law_last", "_law_towns", "_law_k"]
theorem sc_l_places : FnScope N_l_places ["_law_bag_here", "_law_many"] (defScope s_l_places) := ⟨rfl, rfl, rfl, by decide +kernel, rfl, by decide +kernel, by decide +kernel⟩
abbrev s_l_net : Stmt := topS 30
abbrev N_l_net : List Str := ["_law_bag_here", "_law_many", "_law_lines", "_law_places_here", "_law_row", "_law_ties", "_law_k", "_law_one", "_law_other", "_law_common", "_law_chains", "_law_near", "_law_line"]
theorem sc_l_net : FnScope N_l_net ["_law_bag_here"] (defScope s_l_net) := ⟨rfl, rfl, rfl, by decide +kernel, rfl, by decide +kernel, by decide +kernel⟩
abbrev s_l_laid : Stmt := topS 31
abbrev N_l_laid : List Str := ["_law_bag_here", "_law_lines", "_law_places_here", "_law_ties", "_law_stations", "_law_junctions", "_law_rows", "_law_name", "_law_some", "_law_one", "_law_other", "_law_tie", "_law_line"]
theorem sc_l_laid : FnScope N_l_laid ["_law_bag_here", "_law_lines", "_law_places_here", "_law_ties"] (defScope s_l_laid) := ⟨rfl, rfl, rfl, by decide +kernel, rfl, by decide +kernel, by decide +kernel⟩
abbrev s_l_is_name : Stmt := topS 32
abbrev N_l_is_name : List Str := ["_law_thing", "_law_sign"]
theorem sc_l_is_name : FnScope N_l_is_name ["_law_thing"] (defScope s_l_is_name) := ⟨rfl, rfl, rfl, by decide +kernel, rfl, by decide +kernel, by decide +kernel⟩
abbrev s_l_are_ties : Stmt := topS 33
abbrev N_l_are_ties : List Str := ["_law_places_here", "_law_lines", "_law_ties", "_law_pairs", "_law_one", "_law_place", "_law_far", "_law_line", "_law_some"]
theorem sc_l_are_ties : FnScope N_l_are_ties ["_law_places_here", "_law_lines", "_law_ties"] (defScope s_l_are_ties) := ⟨rfl, rfl, rfl, by decide +kernel, rfl, by decide +kernel, by decide +kernel⟩
abbrev s_l_is_net : Stmt := topS 34
abbrev N_l_is_net : List Str := ["_law_thing", "_law_lines", "_law_stations", "_law_junctions", "_law_ties", "_law_places_here", "_law_one", "_law_place", "_law_line", "_law_some"]
theorem sc_l_is_net : FnScope N_l_is_net ["_law_thing"] (defScope s_l_is_net) := ⟨rfl, rfl, rfl, by decide +kernel, rfl, by decide +kernel, by decide +kernel⟩
abbrev s_l_odd : Stmt := topS 35
abbrev N_l_odd : List Str := ["_law_bag_here", "_law_some"]
theorem sc_l_odd : FnScope N_l_odd ["_law_bag_here"] (defScope s_l_odd) := ⟨rfl, rfl, rfl, by decide +kernel, rfl, by decide +kernel, by decide +kernel⟩
abbrev s_l_turned : Stmt := topS 36
abbrev N_l_turned : List Str := ["_law_bag_here", "_law_row", "_law_names_here", "_law_way", "_law_at"]
theorem sc_l_turned : FnScope N_l_turned ["_law_bag_here", "_law_row", "_law_names_here"] (defScope s_l_turned) := ⟨rfl, rfl, rfl, by decide +kernel, rfl, by decide +kernel, by decide +kernel⟩
abbrev s_l_bent : Stmt := topS 37
abbrev N_l_bent : List Str := ["_law_bag_here", "_law_net_here", "_law_way", "_law_which", "_law_rows", "_law_names_here", "_law_at", "_law_row", "_law_one"]
theorem sc_l_bent : FnScope N_l_bent ["_law_bag_here", "_law_net_here"] (defScope s_l_bent) := ⟨rfl, rfl, rfl, by decide +kernel, rfl, by decide +kernel, by decide +kernel⟩
abbrev s_l_twice : Stmt := topS 38
abbrev N_l_twice : List Str := ["_law_bag_here", "_law_net_here", "_law_lines", "_law_stations", "_law_junctions", "_law_ties", "_law_places_here", "_law_name", "_law_one"]
theorem sc_l_twice : FnScope N_l_twice ["_law_bag_here", "_law_net_here"] (defScope s_l_twice) := ⟨rfl, rfl, rfl, by decide +kernel, rfl, by decide +kernel, by decide +kernel⟩
abbrev s_l_full : Stmt := topS 39
abbrev N_l_full : List Str := ["_law_bag_here", "_law_more", "_law_letters", "_law_lines", "_law_stations", "_law_junctions", "_law_ties", "_law_k", "_law_other"]
theorem sc_l_full : FnScope N_l_full ["_law_bag_here"] (defScope s_l_full) := ⟨rfl, rfl, rfl, by decide +kernel, rfl, by decide +kernel, by decide +kernel⟩
abbrev s_law : Stmt := topS 40
abbrev N_law : List Str := ["_law_script", "_law_at", "_law_bag_here", "_law_net_here", "_law_things", "_law_thing", "_law_due", "_law_told", "_law_turn"]
theorem sc_law : FnScope N_law ["_law_script"] (defScope s_law) := ⟨rfl, rfl, rfl, by decide +kernel, rfl, by decide +kernel, by decide +kernel⟩
structure Defs (K : PySem.W.Frag) (mg : Str → Option Value) where
  a_is_whole : Addr
  d_is_whole : FuncData
  F_is_whole : FnP K "is_whole" s_is_whole a_is_whole d_is_whole
  g_is_whole : mg "is_whole" = some (.ref a_is_whole)
  b_is_whole : Binds K d_is_whole ["thing"] []
  a_is_whole_between : Addr
  d_is_whole_between : FuncData
  F_is_whole_between : FnP K "is_whole_between" s_is_whole_between a_is_whole_between d_is_whole_between
  g_is_whole_between : mg "is_whole_between" = some (.ref a_is_whole_between)
  b_is_whole_between : Binds K d_is_whole_between ["thing", "least", "most"] []
  a_is_name : Addr
  d_is_name : FuncData
  F_is_name : FnP K "is_name" s_is_name a_is_name d_is_name
  g_is_name : mg "is_name" = some (.ref a_is_name)
  b_is_name : Binds K d_is_name ["thing"] []
  a_is_tuple : Addr
  d_is_tuple : FuncData
  F_is_tuple : FnP K "is_tuple" s_is_tuple a_is_tuple d_is_tuple
  g_is_tuple : mg "is_tuple" = some (.ref a_is_tuple)
  b_is_tuple : Binds K d_is_tuple ["thing", "fewest", "most"] []
  a_all_unlike : Addr
  d_all_unlike : FuncData
  F_all_unlike : FnP K "all_unlike" s_all_unlike a_all_unlike d_all_unlike
  g_all_unlike : mg "all_unlike" = some (.ref a_all_unlike)
  b_all_unlike : Binds K d_all_unlike ["things"] []
  a_is_net : Addr
  d_is_net : FuncData
  F_is_net : FnP K "is_net" s_is_net a_is_net d_is_net
  g_is_net : mg "is_net" = some (.ref a_is_net)
  b_is_net : Binds K d_is_net ["thing"] []
  a_are_lines : Addr
  d_are_lines : FuncData
  F_are_lines : FnP K "are_lines" s_are_lines a_are_lines d_are_lines
  g_are_lines : mg "are_lines" = some (.ref a_are_lines)
  b_are_lines : Binds K d_are_lines ["thing"] []
  a_are_stations : Addr
  d_are_stations : FuncData
  F_are_stations : FnP K "are_stations" s_are_stations a_are_stations d_are_stations
  g_are_stations : mg "are_stations" = some (.ref a_are_stations)
  b_are_stations : Binds K d_are_stations ["lines", "thing"] []
  a_is_station : Addr
  d_is_station : FuncData
  F_is_station : FnP K "is_station" s_is_station a_is_station d_is_station
  g_is_station : mg "is_station" = some (.ref a_is_station)
  b_is_station : Binds K d_is_station ["lines", "thing"] []
  a_are_junctions : Addr
  d_are_junctions : FuncData
  F_are_junctions : FnP K "are_junctions" s_are_junctions a_are_junctions d_are_junctions
  g_are_junctions : mg "are_junctions" = some (.ref a_are_junctions)
  b_are_junctions : Binds K d_are_junctions ["lines", "thing"] []
  a_is_junction : Addr
  d_is_junction : FuncData
  F_is_junction : FnP K "is_junction" s_is_junction a_is_junction d_is_junction
  g_is_junction : mg "is_junction" = some (.ref a_is_junction)
  b_is_junction : Binds K d_is_junction ["lines", "thing"] []
  a_are_joined : Addr
  d_are_joined : FuncData
  F_are_joined : FnP K "are_joined" s_are_joined a_are_joined d_are_joined
  g_are_joined : mg "are_joined" = some (.ref a_are_joined)
  b_are_joined : Binds K d_are_joined ["lines", "thing"] []
  a_lines_by_place : Addr
  d_lines_by_place : FuncData
  F_lines_by_place : FnP K "lines_by_place" s_lines_by_place a_lines_by_place d_lines_by_place
  g_lines_by_place : mg "lines_by_place" = some (.ref a_lines_by_place)
  b_lines_by_place : Binds K d_lines_by_place ["stations", "junctions"] []
  a_are_ties : Addr
  d_are_ties : FuncData
  F_are_ties : FnP K "are_ties" s_are_ties a_are_ties d_are_ties
  g_are_ties : mg "are_ties" = some (.ref a_are_ties)
  b_are_ties : Binds K d_are_ties ["places", "thing"] []
  a_is_tie : Addr
  d_is_tie : FuncData
  F_is_tie : FnP K "is_tie" s_is_tie a_is_tie d_is_tie
  g_is_tie : mg "is_tie" = some (.ref a_is_tie)
  b_is_tie : Binds K d_is_tie ["places", "thing"] []
  a_l_bag : Addr
  d_l_bag : FuncData
  F_l_bag : FnP K "_law_bag" s_l_bag a_l_bag d_l_bag
  g_l_bag : mg "_law_bag" = some (.ref a_l_bag)
  b_l_bag : Binds K d_l_bag ["_law_script", "_law_at"] []
  a_l_take : Addr
  d_l_take : FuncData
  F_l_take : FnP K "_law_take" s_l_take a_l_take d_l_take
  g_l_take : mg "_law_take" = some (.ref a_l_take)
  b_l_take : Binds K d_l_take ["_law_bag_here", "_law_many"] []
  a_l_whole : Addr
  d_l_whole : FuncData
  F_l_whole : FnP K "_law_whole" s_l_whole a_l_whole d_l_whole
  g_l_whole : mg "_law_whole" = some (.ref a_l_whole)
  b_l_whole : Binds K d_l_whole ["_law_thing"] []
  a_l_names : Addr
  d_l_names : FuncData
  F_l_names : FnP K "_law_names" s_l_names a_l_names d_l_names
  g_l_names : mg "_law_names" = some (.ref a_l_names)
  b_l_names : Binds K d_l_names ["_law_bag_here", "_law_many"] []
  a_l_spots : Addr
  d_l_spots : FuncData
  F_l_spots : FnP K "_law_spots" s_l_spots a_l_spots d_l_spots
  g_l_spots : mg "_law_spots" = some (.ref a_l_spots)
  b_l_spots : Binds K d_l_spots ["_law_bag_here", "_law_many", "_law_junctions"] []
  a_l_places : Addr
  d_l_places : FuncData
  F_l_places : FnP K "_law_places" s_l_places a_l_places d_l_places
  g_l_places : mg "_law_places" = some (.ref a_l_places)
  b_l_places : Binds K d_l_places ["_law_bag_here", "_law_many"] []
  a_l_net : Addr
  d_l_net : FuncData
  F_l_net : FnP K "_law_net" s_l_net a_l_net d_l_net
  g_l_net : mg "_law_net" = some (.ref a_l_net)
  b_l_net : Binds K d_l_net ["_law_bag_here"] []
  a_l_laid : Addr
  d_l_laid : FuncData
  F_l_laid : FnP K "_law_laid" s_l_laid a_l_laid d_l_laid
  g_l_laid : mg "_law_laid" = some (.ref a_l_laid)
  b_l_laid : Binds K d_l_laid ["_law_bag_here", "_law_lines", "_law_places_here", "_law_ties"] []
  a_l_is_name : Addr
  d_l_is_name : FuncData
  F_l_is_name : FnP K "_law_is_name" s_l_is_name a_l_is_name d_l_is_name
  g_l_is_name : mg "_law_is_name" = some (.ref a_l_is_name)
  b_l_is_name : Binds K d_l_is_name ["_law_thing"] []
  a_l_are_ties : Addr
  d_l_are_ties : FuncData
  F_l_are_ties : FnP K "_law_are_ties" s_l_are_ties a_l_are_ties d_l_are_ties
  g_l_are_ties : mg "_law_are_ties" = some (.ref a_l_are_ties)
  b_l_are_ties : Binds K d_l_are_ties ["_law_places_here", "_law_lines", "_law_ties"] []
  a_l_is_net : Addr
  d_l_is_net : FuncData
  F_l_is_net : FnP K "_law_is_net" s_l_is_net a_l_is_net d_l_is_net
  g_l_is_net : mg "_law_is_net" = some (.ref a_l_is_net)
  b_l_is_net : Binds K d_l_is_net ["_law_thing"] []
  a_l_odd : Addr
  d_l_odd : FuncData
  F_l_odd : FnP K "_law_odd" s_l_odd a_l_odd d_l_odd
  g_l_odd : mg "_law_odd" = some (.ref a_l_odd)
  b_l_odd : Binds K d_l_odd ["_law_bag_here"] []
  a_l_turned : Addr
  d_l_turned : FuncData
  F_l_turned : FnP K "_law_turned" s_l_turned a_l_turned d_l_turned
  g_l_turned : mg "_law_turned" = some (.ref a_l_turned)
  b_l_turned : Binds K d_l_turned ["_law_bag_here", "_law_row", "_law_names_here"] []
  a_l_bent : Addr
  d_l_bent : FuncData
  F_l_bent : FnP K "_law_bent" s_l_bent a_l_bent d_l_bent
  g_l_bent : mg "_law_bent" = some (.ref a_l_bent)
  b_l_bent : Binds K d_l_bent ["_law_bag_here", "_law_net_here"] []
  a_l_twice : Addr
  d_l_twice : FuncData
  F_l_twice : FnP K "_law_twice" s_l_twice a_l_twice d_l_twice
  g_l_twice : mg "_law_twice" = some (.ref a_l_twice)
  b_l_twice : Binds K d_l_twice ["_law_bag_here", "_law_net_here"] []
  a_l_full : Addr
  d_l_full : FuncData
  F_l_full : FnP K "_law_full" s_l_full a_l_full d_l_full
  g_l_full : mg "_law_full" = some (.ref a_l_full)
  b_l_full : Binds K d_l_full ["_law_bag_here"] []
  t_LONGEST_NAME : Tok
  c_LONGEST_NAME : mg "LONGEST_NAME" = some (.int 8 t_LONGEST_NAME)
  t_MOST_LINES : Tok
  c_MOST_LINES : mg "MOST_LINES" = some (.int 8 t_MOST_LINES)
  t_MOST_STATIONS : Tok
  c_MOST_STATIONS : mg "MOST_STATIONS" = some (.int 16 t_MOST_STATIONS)
  t_MOST_JUNCTIONS : Tok
  c_MOST_JUNCTIONS : mg "MOST_JUNCTIONS" = some (.int 12 t_MOST_JUNCTIONS)
  t_MOST_TIES : Tok
  c_MOST_TIES : mg "MOST_TIES" = some (.int 40 t_MOST_TIES)
  t_MOST_CHAINS : Tok
  c_MOST_CHAINS : mg "MOST_CHAINS" = some (.int 9999 t_MOST_CHAINS)
  z_abs : mg "abs" = none
  z_all : mg "all" = none
  z_bool : mg "bool" = none
  z_int : mg "int" = none
  z_isinstance : mg "isinstance" = none
  z_len : mg "len" = none
  z_list : mg "list" = none
  z_max : mg "max" = none
  z_min : mg "min" = none
  z_range : mg "range" = none
  z_set : mg "set" = none
  z_sorted : mg "sorted" = none
  z_str : mg "str" = none
  z_tuple : mg "tuple" = none
  z_zip : mg "zip" = none
end Th
namespace Th
open PySem PySem.Spec PyProof.Rows L2
def dd_is_whole : He.DefD := ⟨("is_whole", none), "is_whole", "is_whole", defArgs s_is_whole, defBody s_is_whole, defScope s_is_whole, [], []⟩
def dd_is_whole_between : He.DefD := ⟨("is_whole_between", none), "is_whole_between", "is_whole_between", defArgs s_is_whole_between, defBody s_is_whole_between, defScope s_is_whole_between, [], []⟩
def dd_is_name : He.DefD := ⟨("is_name", none), "is_name", "is_name", defArgs s_is_name, defBody s_is_name, defScope s_is_name, [], []⟩
def dd_is_tuple : He.DefD := ⟨("is_tuple", none), "is_tuple", "is_tuple", defArgs s_is_tuple, defBody s_is_tuple, defScope s_is_tuple, [], []⟩
def dd_all_unlike : He.DefD := ⟨("all_unlike", none), "all_unlike", "all_unlike", defArgs s_all_unlike, defBody s_all_unlike, defScope s_all_unlike, [], []⟩
def dd_is_net : He.DefD := ⟨("is_net", none), "is_net", "is_net", defArgs s_is_net, defBody s_is_net, defScope s_is_net, [], []⟩
def dd_are_lines : He.DefD := ⟨("are_lines", none), "are_lines", "are_lines", defArgs s_are_lines, defBody s_are_lines, defScope s_are_lines, [], []⟩
def dd_are_stations : He.DefD := ⟨("are_stations", none), "are_stations", "are_stations", defArgs s_are_stations, defBody s_are_stations, defScope s_are_stations, [], []⟩
def dd_is_station : He.DefD := ⟨("is_station", none), "is_station", "is_station", defArgs s_is_station, defBody s_is_station, defScope s_is_station, [], []⟩
def dd_are_junctions : He.DefD := ⟨("are_junctions", none), "are_junctions", "are_junctions", defArgs s_are_junctions, defBody s_are_junctions, defScope s_are_junctions, [], []⟩
def dd_is_junction : He.DefD := ⟨("is_junction", none), "is_junction", "is_junction", defArgs s_is_junction, defBody s_is_junction, defScope s_is_junction, [], []⟩
def dd_are_joined : He.DefD := ⟨("are_joined", none), "are_joined", "are_joined", defArgs s_are_joined, defBody s_are_joined, defScope s_are_joined, [], []⟩
def dd_lines_by_place : He.DefD := ⟨("lines_by_place", none), "lines_by_place", "lines_by_place", defArgs s_lines_by_place, defBody s_lines_by_place, defScope s_lines_by_place, [], []⟩
def dd_are_ties : He.DefD := ⟨("are_ties", none), "are_ties", "are_ties", defArgs s_are_ties, defBody s_are_ties, defScope s_are_ties, [], []⟩
def dd_is_tie : He.DefD := ⟨("is_tie", none), "is_tie", "is_tie", defArgs s_is_tie, defBody s_is_tie, defScope s_is_tie, [], []⟩
def dd_l_bag : He.DefD := ⟨("_law_bag", none), "_law_bag", "_law_bag", defArgs s_l_bag, defBody s_l_bag, defScope s_l_bag, [], []⟩
def dd_l_take : He.DefD := ⟨("_law_take", none), "_law_take", "_law_take", defArgs s_l_take, defBody s_l_take, defScope s_l_take, [], []⟩
def dd_l_whole : He.DefD := ⟨("_law_whole", none), "_law_whole", "_law_whole", defArgs s_l_whole, defBody s_l_whole, defScope s_l_whole, [], []⟩
def dd_l_names : He.DefD := ⟨("_law_names", none), "_law_names", "_law_names", defArgs s_l_names, defBody s_l_names, defScope s_l_names, [], []⟩
def dd_l_spots : He.DefD := ⟨("_law_spots", none), "_law_spots", "_law_spots", defArgs s_l_spots, defBody s_l_spots, defScope s_l_spots, [], []⟩
def dd_l_places : He.DefD := ⟨("_law_places", none), "_law_places", "_law_places", defArgs s_l_places, defBody s_l_places, defScope s_l_places, [], []⟩
def dd_l_net : He.DefD := ⟨("_law_net", none), "_law_net", "_law_net", defArgs s_l_net, defBody s_l_net, defScope s_l_net, [], []⟩
def dd_l_laid : He.DefD := ⟨("_law_laid", none), "_law_laid", "_law_laid", defArgs s_l_laid, defBody s_l_laid, defScope s_l_laid, [], []⟩
def dd_l_is_name : He.DefD := ⟨("_law_is_name", none), "_law_is_name", "_law_is_name", defArgs s_l_is_name, defBody s_l_is_name, defScope s_l_is_name, [], []⟩
def dd_l_are_ties : He.DefD := ⟨("_law_are_ties", none), "_law_are_ties", "_law_are_ties", defArgs s_l_are_ties, defBody s_l_are_ties, defScope s_l_are_ties, [], []⟩
def dd_l_is_net : He.DefD := ⟨("_law_is_net", none), "_law_is_net", "_law_is_net", defArgs s_l_is_net, defBody s_l_is_net, defScope s_l_is_net, [], []⟩
def dd_l_odd : He.DefD := ⟨("_law_odd", none), "_law_odd", "_law_odd", defArgs s_l_odd, defBody s_l_odd, defScope s_l_odd, [], []⟩
def dd_l_turned : He.DefD := ⟨("_law_turned", none), "_law_turned", "_law_turned", defArgs s_l_turned, defBody s_l_turned, defScope s_l_turned, [], []⟩
def dd_l_bent : He.DefD := ⟨("_law_bent", none), "_law_bent", "_law_bent", defArgs s_l_bent, defBody s_l_bent, defScope s_l_bent, [], []⟩
def dd_l_twice : He.DefD := ⟨("_law_twice", none), "_law_twice", "_law_twice", defArgs s_l_twice, defBody s_l_twice, defScope s_l_twice, [], []⟩
def dd_l_full : He.DefD := ⟨("_law_full", none), "_law_full", "_law_full", defArgs s_l_full, defBody s_l_full, defScope s_l_full, [], []⟩
def dd_law : He.DefD := ⟨("law", none), "law", "law", defArgs s_law, defBody s_law, defScope s_law, [], []⟩
def fn : List He.DefD := [dd_is_whole, dd_is_whole_between, dd_is_name, dd_is_tuple, dd_all_unlike, dd_is_net, dd_are_lines, dd_are_stations, dd_is_station, dd_are_junctions, dd_is_junction, dd_are_joined, dd_lines_by_place, dd_are_ties, dd_is_tie, dd_l_bag, dd_l_take, dd_l_whole, dd_l_names, dd_l_spots, dd_l_places, dd_l_net, dd_l_laid, dd_l_is_name, dd_l_are_ties, dd_l_is_net, dd_l_odd, dd_l_turned, dd_l_bent, dd_l_twice, dd_l_full, dd_law]
def fa : List He.Fa := .glo "is_whole" :: .glo "is_whole_between" :: .glo "is_name" :: .glo "is_tuple" :: .glo "all_unlike" :: .glo "is_net" :: .glo "are_lines" :: .glo "are_stations" :: .glo "is_station" :: .glo "are_junctions" :: .glo "is_junction" :: .glo "are_joined" :: .glo "lines_by_place" :: .glo "are_ties" :: .glo "is_tie" :: .glo "_law_bag" :: .glo "_law_take" :: .glo "_law_whole" :: .glo "_law_names" :: .glo "_law_spots" :: .glo "_law_places" :: .glo "_law_net" :: .glo "_law_laid" :: .glo "_law_is_name" :: .glo "_law_are_ties" :: .glo "_law_is_net" :: .glo "_law_odd" :: .glo "_law_turned" :: .glo "_law_bent" :: .glo "_law_twice" :: .glo "_law_full" :: .glo "law" :: .int "LONGEST_NAME" 8 :: .int "MOST_LINES" 8 :: .int "MOST_STATIONS" 16 :: .int "MOST_JUNCTIONS" 12 :: .int "MOST_TIES" 40 :: .int "MOST_CHAINS" 9999 :: .free "abs" :: .free "all" :: .free "bool" :: .free "int" :: .free "isinstance" :: .free "len" :: .free "list" :: .free "max" :: .free "min" :: .free "range" :: .free "set" :: .free "sorted" :: .free "str" :: .free "tuple" :: .free "zip" :: []
abbrev R : PySem.W.OpenRow := PySem.W.OpenLaw.row PySem.Challenge.rw_throughlines_k05_what_is_a_net
abbrev hk : PySem.W.Hook := He.hookD 4 fa fn
def ob (s : PySem.W.SharedT) : He.AlD := He.obsDG 4 fa fn (HandSHeadRun.getT s)
theorem ob_eq (s : PySem.W.SharedT) : ob s = hk.obs s.abs := He.obsDG_eq (HandSHeadRun.getT_eq s)
def loose : List PySem.Str := "is_whole" :: "is_whole_between" :: "is_name" :: "is_tuple" :: "all_unlike" :: "is_net" :: "are_lines" :: "are_stations" :: "is_station" :: "are_junctions" :: "is_junction" :: "are_joined" :: "lines_by_place" :: "are_ties" :: "is_tie" :: "_law_bag" :: "_law_take" :: "_law_whole" :: "_law_names" :: "_law_spots" :: "_law_places" :: "_law_net" :: "_law_laid" :: "_law_is_name" :: "_law_are_ties" :: "_law_is_net" :: "_law_odd" :: "_law_turned" :: "_law_bent" :: "_law_twice" :: "_law_full" :: "LONGEST_NAME" :: "MOST_LINES" :: "MOST_STATIONS" :: "MOST_JUNCTIONS" :: "MOST_TIES" :: "MOST_CHAINS" :: []
set_option maxHeartbeats 0 in
theorem run (w : World) : HandSHeadRun.RunEq R (PySem.W.view R.prog [40]) hk ob 2000 loose w := by
  intro os
  kernel_rfl
end Th
namespace Th
open PySem PySem.Spec PyProof.Rows L2
section
variable {P : Program} {w : World} {K : PySem.W.Frag} {mg : Str → Option Value} {base : Heap} {k : Nat}
theorem ok_l_bag (T : Defs K mg) : FnOk P w K mg base CX0 (k + 1) T.a_l_bag T.d_l_bag ["_law_script", "_law_at"] (sp_bag K) := by
  refine T.F_l_bag.ok sc_l_bag (fun vs H Q E h => ?_) (fun cdv A outer s H vs Q E hr h => ?_)
  · obtain ⟨a, ns, i, rfl, _⟩ := h
    rfl
  · obtain ⟨a, ns, i, rfl, hS, hi, q⟩ := h
    refine ⟨_, PSs.nox
(pss_cons (ps_set (i := 2) sc_l_bag.nd rfl (.inl rfl) (pe_int))
    (pss_cons (ps_if (pt_cmpR op_lt (pv 1) (pe_callB (r := rLenS K) call_lenS (by rfl) T.z_len (by decide +kernel) (pa_cons (pv 0) pa_nil)) (nomark _))
      (pss_one (ps_set (i := 2) sc_l_bag.nd rfl (.inl rfl) (pe_ix (r := rIxL K) ix_list (pv 0) (pv 1) (fun _ _ => rfl))))
      pss_nil)
    (pss_cons (ps_set (i := 3) sc_l_bag.nd rfl (.inl rfl) (pe_int))
    (pss_cons (ps_if (pt_cmpR op_ge (pe_callB call_abs (by rfl) T.z_abs (by decide +kernel) (pa_cons (pv 2) pa_nil)) (pe_op op_pow (pe_int) (pe_int)) (nomark _))
      (pss_one (ps_set (i := 3) sc_l_bag.nd rfl (.inl rfl) (pe_callB call_abs (by rfl) T.z_abs (by decide +kernel) (pa_cons (pv 2) pa_nil))))
      pss_nil)
    (pss_cons (ps_set (i := 4) sc_l_bag.nd rfl (.inl rfl) (pe_lst (pa_cons (pe_int) (pa_cons (pe_int) (pa_cons (pe_int) (pa_cons (pe_int) (pa_cons (pe_int) (pa_cons (pe_int) (pa_cons (pe_int) (pa_cons (pe_int) pa_nil))))))))))
    (pss_one (ps_ret (pe_lst (pa_cons (pv 3) (pa_cons (pe_op op_mod (pe_op op_pow (pe_op op_add (pe_op op_add (pe_op op_mod (pv 2) (pe_int)) (pe_op op_mul (pe_int) (pv 1))) (pe_int)) (pe_int)) (pe_ix (r := rIxL K) ix_list (pv 4) (pe_op op_mod (pv 1) (pe_int)) (fun _ _ => rfl))) pa_nil))))))))))
      , ?_⟩
    obtain ⟨pr, hp, hp0, hp1⟩ := primes_at i
    have fin : ∀ (c g : Int), 0 ≤ g → ∀ l, H l = none → ∀ H1, H1 = upd H l (.lst [V.int 2147483629, .int 2147483587, .int 2147483579, .int 2147483563, .int 2147483549, .int 2147483543, .int 2147483497, .int 2147483489]) →
        ∀ p, H1 p = none → Q (.ref p) (upd H1 p (.lst [.int g, .int ((c % 2147483647 + 104729 * (i : Int) + 7) ^ (5 : Int).toNat % pr)])) := by
      intro c g hg l nl H1 e p np
      have s1 : Same H H1 := by rw [e]; exact same_upd nl
      exact q _ p (s1.trans (same_upd np)) (s1.free np) ⟨g, _, upd_same, hg, Int.emod_nonneg _ (by omega), Int.lt_trans (Int.emod_lt_of_pos _ hp0) hp1⟩
    refine ⟨.int i, rfl, .ref a, rfl, a, ns.map V.int, rfl, .inl hS, _, _, rfl, rfl, _, rfl, ite2 (fun e => ?_) (fun e => ?_)⟩
    · have lt : i < ns.length := by
        have := of_decide_eq_true e
        rw [List.length_map] at this
        omega
      have g1 : (ns.map V.int)[i]? = some (.int ns[i]) := by
        rw [List.getElem?_map, List.getElem?_eq_getElem lt]
        rfl
      refine ⟨.ref a, rfl, .int i, rfl, a, _, (i : Int), .int ns[i], rfl, rfl, hS, atI_nat g1, ?_⟩
      refine ⟨.int ns[i], rfl, _, rfl, 10, 18, rfl, rfl, ⟨by decide, by decide, by decide⟩, _, _, rfl, rfl, _, rfl, ite2 (fun e => ?_) (fun e => ?_)⟩
      · refine ⟨.int ns[i], rfl, _, rfl, ?_⟩
        refine ⟨by show 8 ≤ sizeLine; decide, fun l nl => ?_⟩
        refine ⟨_, rfl, .int ns[i], rfl, ns[i], 2147483647, rfl, rfl, pA, .int i, rfl, 104729, i, rfl, rfl, .inl ⟨by decide, by decide⟩, _, _, rfl, rfl, _, 7, rfl, rfl, _, 5, rfl, rfl, ⟨by decide, by decide, ?_⟩, .ref l, rfl, .int i, rfl, i, 8, rfl, rfl, p8, l, _, _, _, rfl, rfl, SqL.of upd_same, hp, _, pr, rfl, rfl, hp0, by show 2 ≤ sizeLine; decide, fin ns[i] _ ?_ l nl _ rfl⟩
        · omega
        · split <;> omega
      · refine ⟨by show 8 ≤ sizeLine; decide, fun l nl => ?_⟩
        refine ⟨_, rfl, .int ns[i], rfl, ns[i], 2147483647, rfl, rfl, pA, .int i, rfl, 104729, i, rfl, rfl, .inl ⟨by decide, by decide⟩, _, _, rfl, rfl, _, 7, rfl, rfl, _, 5, rfl, rfl, ⟨by decide, by decide, ?_⟩, .ref l, rfl, .int i, rfl, i, 8, rfl, rfl, p8, l, _, _, _, rfl, rfl, SqL.of upd_same, hp, _, pr, rfl, rfl, hp0, by show 2 ≤ sizeLine; decide, fin ns[i] 0 (by decide) l nl _ rfl⟩
        omega
    · refine ⟨.int 0, rfl, _, rfl, 10, 18, rfl, rfl, ⟨by decide, by decide, by decide⟩, _, _, rfl, rfl, _, rfl, ite2 (fun e => ?_) (fun e => ?_)⟩
      · exact absurd (of_decide_eq_true e) (by decide)
      · refine ⟨by show 8 ≤ sizeLine; decide, fun l nl => ?_⟩
        refine ⟨_, rfl, .int 0, rfl, 0, 2147483647, rfl, rfl, pA, .int i, rfl, 104729, i, rfl, rfl, .inl ⟨by decide, by decide⟩, _, _, rfl, rfl, _, 7, rfl, rfl, _, 5, rfl, rfl, ⟨by decide, by decide, ?_⟩, .ref l, rfl, .int i, rfl, i, 8, rfl, rfl, p8, l, _, _, _, rfl, rfl, SqL.of upd_same, hp, _, pr, rfl, rfl, hp0, by show 2 ≤ sizeLine; decide, fin 0 0 (by decide) l nl _ rfl⟩
        omega
theorem ok_l_take (T : Defs K mg) : FnOk P w K mg base CX0 (k + 1) T.a_l_take T.d_l_take ["_law_bag_here", "_law_many"] sp_take := by
  refine T.F_l_take.ok sc_l_take (fun vs H Q E h => ?_) (fun cdv A outer s H vs Q E hr h => ?_)
  · obtain ⟨p, m, rfl, _⟩ := h
    rfl
  · obtain ⟨p, m, rfl, ⟨g, r, hp, g0, r0, r1⟩, m0, m1, q⟩ := h
    refine ⟨_, PSs.nox
(pss_cons (ps_if (pt_cmpR op_gt (pe_ix (r := rIxL K) ix_list (pv 0) (pe_int) (fun _ _ => rfl)) (pe_int) (nomark _))
      (pss_cons (ps_set (i := 2) sc_l_take.nd rfl (.inl rfl) (pe_op op_mod (pe_ix (r := rIxL K) ix_list (pv 0) (pe_int) (fun _ _ => rfl)) (pv 1)))
      (pss_cons (ps_asg (pe_op op_fdiv (pe_ix (r := rIxL K) ix_list (pv 0) (pe_int) (fun _ _ => rfl)) (pv 1)) (pg_sub (pv 0) (pe_int) set_list))
      (pss_one (ps_ret (pv 2)))))
      pss_nil)
    (pss_cons (ps_asg (pe_op op_mod (pe_op op_add (pe_op op_mul (pe_ix (r := rIxL K) ix_list (pv 0) (pe_int) (fun _ _ => rfl)) (pe_int)) (pe_int)) (pe_int)) (pg_sub (pv 0) (pe_int) set_list))
    (pss_one (ps_ret (pe_op op_mod (pe_op op_mod (pe_op op_pow (pe_op op_fdiv (pe_ix (r := rIxL K) ix_list (pv 0) (pe_int) (fun _ _ => rfl)) (pe_int)) (pe_int)) (pe_int)) (pv 1))))))
      , ?_⟩
    refine ⟨.ref p, rfl, p, _, 0, .int g, rfl, rfl, SqL.of hp, atI_nat (j := 0) rfl, _, 0, rfl, rfl, _, rfl, ite2 (fun e => ?_) (fun e => ?_)⟩
    · refine ⟨.ref p, rfl, p, _, 0, .int g, rfl, rfl, SqL.of hp, atI_nat (j := 0) rfl, .int m, rfl, g, m, rfl, rfl, m0, ?_⟩
      refine ⟨.ref p, rfl, p, _, 0, .int g, rfl, rfl, SqL.of hp, atI_nat (j := 0) rfl, .int m, rfl, g, m, rfl, rfl, ⟨m0, m1⟩, .ref p, rfl, p, _, 0, 0, rfl, rfl, hp, rfl, ?_⟩
      refine ⟨_, rfl, q _ _ Keep.upd ⟨_, _, upd_same, ?_, r0, r1⟩ (Int.emod_nonneg _ (by omega)) (Int.emod_lt_of_pos _ m0)⟩
      exact Int.ediv_nonneg g0 (by omega)
    · refine ⟨.ref p, rfl, p, _, 1, .int r, rfl, rfl, SqL.of hp, atI_nat (j := 1) rfl, r, 48271, rfl, rfl, .inr ⟨by decide, by decide⟩, _, 11, rfl, rfl, _, 2147483647, rfl, rfl, pA, .ref p, rfl, p, _, 1, 1, rfl, rfl, hp, rfl, ?_⟩
      have hz0 : 0 ≤ (r * 48271 + 11) % 2147483647 := Int.emod_nonneg _ (by decide)
      have hz1 : (r * 48271 + 11) % 2147483647 < 2147483647 := Int.emod_lt_of_pos _ (by decide)
      refine ⟨.ref p, rfl, p, _, 1, _, rfl, rfl, SqL.of upd_same, atI_nat (j := 1) rfl, (r * 48271 + 11) % 2147483647, 8, rfl, rfl, ⟨by decide, by decide⟩, _, 3, rfl, rfl, ⟨by decide, by decide, ?_⟩, _, 2147483629, rfl, rfl, pB, .int m, rfl, _, m, rfl, rfl, m0, ?_⟩
      · omega
      · exact q _ _ Keep.upd ⟨_, _, upd_same, g0, hz0, by omega⟩ (Int.emod_nonneg _ (by omega)) (Int.emod_lt_of_pos _ m0)
end
end Th
namespace Th
open PySem PySem.Spec PyProof.Rows L2
/-- what is known of the k-th name -/
def NmAt (k : Nat) (l : List Nat) : Prop := (∃ st, l = st ++ [97 + k % 26] ∧ Lower st ∧ st.length ≤ 7) ∧ (k ≤ 25 → l.length ≤ 7) ∧ (25 < k → l.length = 8)
theorem NmAt.nm {k : Nat} {l : List Nat} (h : NmAt k l) : IsNm l := by
  obtain ⟨⟨st, rfl, hl, hn⟩, _⟩ := h
  refine ⟨by rw [List.length_append]; simp, by rw [List.length_append]; simp; omega, fun c hc => ?_⟩
  rcases List.mem_append.mp hc with z | z
  · exact hl c z
  · rw [List.mem_singleton.mp z]
    omega
theorem nm_unlike {i j : Nat} {a b : List Nat} (hi : NmAt i a) (hj : NmAt j b) (h : i < j) (hj2 : j < 52) : a ≠ b := fun e => by
  obtain ⟨⟨s1, e1, _⟩, h1, _⟩ := hi
  obtain ⟨⟨s2, e2, _⟩, _, h3⟩ := hj
  have l1 : a.getLast? = some (97 + i % 26) := by rw [e1]; simp
  have l2 : b.getLast? = some (97 + j % 26) := by rw [e2]; simp
  rw [e, l2] at l1
  have := Option.some.inj l1
  have h4 := h1 (by omega)
  have h5 := h3 (by omega)
  rw [e] at h4
  omega
theorem nm_nodup {zs : List (List Nat)} (h : ∀ k l, zs[k]? = some l → NmAt k l) (hn : zs.length ≤ 52) : zs.Nodup := by
  rw [List.nodup_iff_pairwise_ne, List.pairwise_iff_getElem]
  intro i j hi hj hij
  exact nm_unlike (h i _ (List.getElem?_eq_getElem hi)) (h j _ (List.getElem?_eq_getElem hj)) hij (by omega)
section
variable {P : Program} {w : World} {K : PySem.W.Frag} {mg : Str → Option Value} {base : Heap} {k : Nat}
def sp_l_names : Sp := fun vs H Q _ => ∃ (p : Addr) (n : Nat), vs = [.ref p, .int n] ∧ Bag H p ∧ n ≤ 52 ∧ ∀ (H' : Hp) (l : Addr) (zs : List (List Nat)), Keep p H H' → Bag H' p → H l = none → H' l = some (.lst (zs.map nS)) → zs.length = n → zs.Nodup → (∀ z ∈ zs, IsNm z) → (∀ k l, zs[k]? = some l → NmAt k l) → Q (.ref l) H'
set_option maxHeartbeats 8000000 in
theorem ok_l_names (T : Defs K mg) : FnOk P w K mg base CX0 (k + 2) T.a_l_names T.d_l_names ["_law_bag_here", "_law_many"] sp_l_names := by
  have G_l_take : FnOk P w K mg base CX0 (k + 1) _ _ _ _ := ok_l_take T
  refine T.F_l_names.ok sc_l_names (fun vs H Q E h => ?_) (fun cdv A outer s H vs Q E hr h => ?_)
  · obtain ⟨p, n, rfl, _⟩ := h
    rfl
  · obtain ⟨p, n, rfl, b, hn, q⟩ := h
    refine ⟨_, PSs.nox
(pss_cons (ps_set (i := 2) sc_l_names.nd rfl (.inr rfl) (pe_str))
    (pss_cons (ps_set (i := 3) sc_l_names.nd rfl (.inl rfl) (pe_lst pa_nil))
    (pss_cons (ps_for PassesOwn.never rfl (pi_range1 (by rfl) T.z_range (pa_cons (pv 1) pa_nil)) (pg_name (i := 4) sc_l_names.nd rfl (.inl rfl))
      (Evl.pss_cut (ps_set (i := 5) sc_l_names.nd rfl (.inl rfl) (pe_ifExp (pt_cmpR op_gt (pv 4) (pe_int) (nomark _)) (pe_int) (pe_call G_l_take hr (by rfl) T.g_l_take T.F_l_take.kp T.b_l_take .nil pass0 (pa_cons (pv 0) (pa_cons (pe_int) pa_nil)))))
      (pss_cons (ps_set (i := 6) sc_l_names.nd rfl (.inl rfl) (pe_join (pe_str) (pe_lc (own := [("_law_turn", 7)]) (g := gName 7) rfl sc_l_names.nd (pi_range1 (by rfl) T.z_range (pa_cons (pv 5) pa_nil)) (blkOk_by (N := N_l_names) (sc := defScope s_l_names) (by decide +kernel)) (fun _ _ _ _ _ => (pg_name (i := 7) sc_l_names.nd rfl (.inl rfl))) (fun _ _ _ _ _ => pts_nil) (fun _ _ _ _ _ => (pe_ix ix_str (pv 2) (pe_call G_l_take hr (by rfl) T.g_l_take T.F_l_take.kp T.b_l_take .nil pass0 (pa_cons (pv 0) (pa_cons (pe_int) pa_nil))) (fun _ _ => rfl))))))
      (pss_one (ps_expr (pe_bm PySem.F.plainAttrs_list PySem.F.slot_list_append PySem.F.type_list_append mt_append (pv 3) (pa_cons (pe_op op_add_str (pv 6) (pe_ix ix_str (pv 2) (pe_op op_mod (pv 4) (pe_int)) (fun _ _ => rfl))) pa_nil)))))))
    (pss_one (ps_ret (pv 3))))))
      , ?_⟩
    refine ⟨Nat.zero_le _, fun F nF => ?_⟩
    have nFp : F ≠ p := b.ne nF
    refine ⟨.int n, rfl, n, rfl, by omega, by omega, ?_⟩
    rw [Int.toNat_natCast]
    refine for_range (lo := 0) (n := n) (fun i σ H3 => ∃ (y4 y5 y6 : Option V) (zs : List (List Nat)), σ = [some (.ref p), some (.int n), some (.str abc), some (.ref F), y4, y5, y6, none] ∧ Keep p H H3 ∧ Bag H3 p ∧ zs.length = i ∧ (∀ k l, zs[k]? = some l → NmAt k l) ∧ H3 F = some (.lst (zs.map nS)))
      ⟨none, none, none, [], rfl, .of (same_upd nF), b.keep (same_upd nF), rfl, fun k l h => by simp at h, upd_same⟩ (fun i σ H3 hi hp => ?_) (fun σ H3 hp => ?_)
    · obtain ⟨y4, y5, y6, zs, rfl, k3, b3, hl, hz, eF⟩ := hp
      -- size
      refine ⟨fun σ H4 => ∃ sz : Nat, σ = [some (.ref p), some (.int n), some (.str abc), some (.ref F), some (.int (0 + (i : Int))), some (.int sz), y6, none] ∧ Keep p H H4 ∧ Bag H4 p ∧ H4 F = some (.lst (zs.map nS)) ∧ (i ≤ 25 → sz ≤ 6) ∧ (25 < i → sz = 7), ?_, fun σ H4 mid => ?_⟩
      · refine ⟨.int (0 + (i : Int)), rfl, _, _, rfl, rfl, _, rfl, ite2 (fun c => ?_) (fun c => ?_)⟩
        · have c := of_decide_eq_true c
          exact ⟨7, rfl, k3, b3, eF, fun _ => by omega, fun _ => rfl⟩
        · have c : ¬ 25 < 0 + (i : Int) := fun z => c (decide_eq_true z)
          refine ⟨.ref p, rfl, p, 7, rfl, b3, by decide, by decide, fun H4 d k4 b4 d0 d1 => ?_⟩
          obtain ⟨sz, rfl⟩ : ∃ sz : Nat, d = (sz : Int) := ⟨d.toNat, by omega⟩
          exact ⟨sz, rfl, k3.trans k4, b4, k4 _ _ nFp eF, fun _ => by omega, fun _ => by omega⟩
      obtain ⟨sz, rfl, k4, b4, eF, hs1, hs2⟩ := mid
      -- stem
      refine ⟨⟨_, rfl⟩, .int sz, rfl, sz, rfl, by omega, by omega, fun D nD => ?_⟩
      have nDp : D ≠ p := b4.ne nD
      have nFD : F ≠ D := ne_of_none eF nD
      rw [Int.toNat_natCast]
      refine lc_it walk_range (fun j H5 => Keep p H4 H5 ∧ Bag H5 p ∧ ∃ cs : List Nat, cs.length = j ∧ Lower cs ∧ H5 D = some (.lst (((cs.map fun c => [c]).map SX.S).map V.str))) ⟨.of (same_upd nD), b4.keep (same_upd nD), [], rfl, fun c hc => by simp at hc, upd_same⟩ (fun _ _ _ _ => trivial) (fun j x H5 H6 hj pv y => ?_) (fun H5 pv => ?_)
      · obtain ⟨rfl, rfl⟩ := y
        obtain ⟨k5, b5, cs, hcl, hcs, eD⟩ := pv
        refine ⟨rfl, yes_ ?_⟩
        refine ⟨.str abc, rfl, .ref p, rfl, p, 26, rfl, b5, by decide, by decide, fun H7 d k7 b7 d0 d1 => ?_⟩
        refine ⟨abc, d, _, rfl, rfl, by decide +kernel, abc_at d0 d1, _, k7 _ _ nDp eD, by rw [List.length_map, List.length_map, List.length_map]; exact small5000 (by omega), ?_, b7.at (upd_ne nDp.symm), cs ++ [97 + d.toNat], by rw [List.length_append, hcl]; rfl, fun c hc => ?_, by rw [upd_same, List.map_append, List.map_append, List.map_append]; rfl⟩
        · intro c o nc ec
          rw [upd_ne (fun z => by rw [z] at ec; rw [nD] at ec; cases ec)]
          exact k7 _ _ nc (k5 _ _ nc ec)
        · rcases List.mem_append.mp hc with z | z
          · exact hcs c z
          · rw [List.mem_singleton.mp z]
            omega
      obtain ⟨k5, b5, cs, hcl, hcs, eD⟩ := pv
      have eF5 := k5 _ _ nFp eF
      have k5 := k4.trans k5
      refine ⟨_, D, (cs.map fun c => [c]).map SX.S, rfl, rfl, .inl (SqL.of eD), ?_, ?_⟩
      · rw [SX.lens, List.map_map, List.length_map, List.length_map]
        have e1 : (cs.map ((fun x : List Nat => x.length) ∘ fun c => [c])).sum = cs.length := by
          clear eD hcs hcl
          induction cs with
          | nil => rfl
          | cons c cs ih => rw [List.map_cons, List.sum_cons, ih, List.length_cons]; show 1 + _ = _; omega
        rw [e1]
        show cs.length + cs.length * 0 ≤ 16777216
        omega
      have ej : Txt.join (Str.ofString "") ((cs.map fun c => [c]).map SX.S) = SX.S cs := join_signs cs
      rw [ej]
      -- found.append(stem + letters[k % 26])
      have hm0 : 0 ≤ (0 + (i : Int)) % 26 := Int.emod_nonneg _ (by decide)
      have hm1 : (0 + (i : Int)) % 26 < 26 := Int.emod_lt_of_pos _ (by decide)
      refine ⟨.ref F, rfl, .inl ⟨rfl, _, SqL.of eF5⟩, nS cs, rfl, .str abc, rfl, .int (0 + (i : Int)), rfl, _, 26, rfl, rfl, p26, abc, _, _, rfl, rfl, by decide +kernel, abc_at hm0 hm1, _, _, rfl, rfl, ?_, ?_⟩
      · rw [SX.S_len]
        show cs.length + 1 ≤ sizeLine
        exact Nat.le_of_lt (small5000 (by omega))
      have ei : ((0 + (i : Int)) % 26).toNat = i % 26 := by omega
      refine ⟨F, _, _, rfl, rfl, eF5, by rw [List.length_map, hl]; exact small5000 (by omega), ?_⟩
      refine ⟨_, _, _, zs ++ [cs ++ [97 + i % 26]], rfl, fun c o nc ec => ?_, b5.at (upd_ne nFp.symm), by rw [List.length_append, hl]; rfl, fun k l hk => ?_, ?_⟩
      · rw [upd_ne (ne_of_none ec nF)]
        exact k5 _ _ nc ec
      · by_cases hk2 : k < zs.length
        · rw [List.getElem?_append_left hk2] at hk
          exact hz k l hk
        · rw [List.getElem?_append_right (by omega)] at hk
          have ek : k = i := by
            have := (List.getElem?_eq_some_iff.mp hk).1
            simp at this
            omega
          subst ek
          rw [hl, Nat.sub_self] at hk
          have := Option.some.inj hk
          subst this
          refine ⟨⟨cs, rfl, hcs, by omega⟩, fun h => ?_, fun h => ?_⟩
          · have := hs1 h
            rw [List.length_append]
            show cs.length + 1 ≤ 7
            omega
          · have := hs2 h
            rw [List.length_append]
            show cs.length + 1 = 8
            omega
      · rw [upd_same, List.map_append]
        show some (HO.lst (zs.map nS ++ [V.str (SX.S cs ++ SX.S [97 + ((0 + (i : Int)) % 26).toNat])])) = _
        rw [SX.S_cat, ei]
        rfl
    · obtain ⟨y4, y5, y6, zs, rfl, k3, b3, hl, hz, eF⟩ := hp
      refine ⟨.ref F, rfl, q _ F zs k3 b3 nF eF hl (nm_nodup hz (by omega)) (fun z hm => ?_) hz⟩
      obtain ⟨j, hj⟩ := List.getElem?_of_mem hm
      exact (hz j z hj).nm
end
end Th
namespace Th
open PySem PySem.Spec PyProof.Rows L2
abbrev jV (js : List Nat) : List V := js.map fun j => V.int ((j : Nat) : Int)
/-- strictly rising, below n, two at least -/
structure Spot (n : Nat) (js : List Nat) : Prop where
  rise : js.Pairwise (· < ·)
  lt : ∀ j ∈ js, j < n
  two : 2 ≤ js.length
theorem rise_len : ∀ {js : List Nat} {lo n : Nat}, js.Pairwise (· < ·) → (∀ j ∈ js, lo ≤ j ∧ j < n) → js.length + lo ≤ n ∨ js = []
  | [], _, _, _, _ => .inr rfl
  | a :: js, lo, n, h, hb => by
    have h' := List.pairwise_cons.mp h
    have ha := hb a (List.mem_cons_self ..)
    rcases rise_len (lo := a + 1) (n := n) h'.2 (fun j hj => ⟨h'.1 j hj, (hb j (List.mem_cons_of_mem _ hj)).2⟩) with z | z
    · rw [List.length_cons]
      omega
    · rw [z]
      simp only [List.length_cons, List.length_nil]
      omega
theorem Spot.len8 {n : Nat} {js : List Nat} (s : Spot n js) (h : n ≤ 8) : js.length ≤ 8 := by
  rcases rise_len (lo := 0) s.rise (fun j hj => ⟨Nat.zero_le _, s.lt j hj⟩) with z | z
  · omega
  · rw [z]
    exact Nat.zero_le _
theorem two_of {ns : List Int} {x y : Int} (hx : x ∈ ns) (hy : y ∈ ns) (h : x ≠ y) : 2 ≤ ns.length := by
  cases ns with
  | nil => cases hx
  | cons a r =>
    cases r with
    | nil =>
      rw [List.mem_singleton] at hx hy
      exact absurd (hx.trans hy.symm) h
    | cons b r =>
      rw [List.length_cons, List.length_cons]
      omega
theorem nats_of {ns : List Int} (h : ∀ x ∈ ns, 0 ≤ x) : ns = (ns.map Int.toNat).map fun j => ((j : Nat) : Int) := by
  rw [List.map_map]
  conv => lhs; rw [← List.map_id ns]
  refine List.map_congr_left fun x hx => ?_
  have := h x hx
  show x = ((x.toNat : Nat) : Int)
  omega
theorem ints_nats {ns : List Int} (h : ∀ x ∈ ns, 0 ≤ x) : ns.map V.int = jV (ns.map Int.toNat) := by
  conv => lhs; rw [nats_of h]
  rw [List.map_map]
  rfl
/-- neighbours have one in common -/
def Chained : List (List Nat) → Prop
  | a :: b :: r => (∃ x, x ∈ a ∧ x ∈ b) ∧ Chained (b :: r)
  | _ => True
theorem Chained.snoc : ∀ {qs : List (List Nat)} {a b : List Nat}, Chained (qs ++ [a]) → (∃ x, x ∈ a ∧ x ∈ b) → Chained (qs ++ [a] ++ [b])
  | [], a, b, _, h => ⟨h, trivial⟩
  | [c], a, b, h0, h => ⟨h0.1, h, trivial⟩
  | c :: d :: qs, a, b, h0, h => ⟨h0.1, Chained.snoc (qs := d :: qs) h0.2 h⟩
/-- lists of whole numbers at addresses -/
abbrev LLs (H : Hp) : List Addr → List (List Nat) → Prop := Paired fun a js => H a = some (.lst (jV js))
section
variable {P : Program} {w : World} {K : PySem.W.Frag} {mg : Str → Option Value} {base : Heap} {k : Nat}
def sp_l_spots : Sp := fun vs H Q _ => ∃ (p : Addr) (n m : Nat), vs = [.ref p, .int n, .int m] ∧ Bag H p ∧ 2 ≤ n ∧ n ≤ 8 ∧ 1 ≤ m ∧ m ≤ 12 ∧
  ∀ (H' : Hp) (l : Addr) (as : List Addr) (qs : List (List Nat)), Keep p H H' → Bag H' p → H l = none → H' l = some (.lst (as.map V.ref)) → qs.length = m → LLs H' as qs → (∀ a ∈ as, H a = none ∧ a ≠ l ∧ a ≠ p) → (∀ js ∈ qs, Spot n js) → Chained qs → Q (.ref l) H'
set_option maxHeartbeats 8000000 in
theorem ok_l_spots (T : Defs K mg) : FnOk P w K mg base CX0 (k + 2) T.a_l_spots T.d_l_spots ["_law_bag_here", "_law_many", "_law_junctions"] sp_l_spots := by
  have G_l_take : FnOk P w K mg base CX0 (k + 1) _ _ _ _ := ok_l_take T
  refine T.F_l_spots.ok sc_l_spots (fun vs H Q E h => ?_) (fun cdv A outer s H vs Q E hr h => ?_)
  · obtain ⟨p, n, m, rfl, _⟩ := h
    rfl
  · obtain ⟨p, n, m, rfl, b, n2, n8, m1, m12, q⟩ := h
    refine ⟨_, PSs.nox
(pss_cons (ps_set (i := 3) sc_l_spots.nd rfl (.inl rfl) (pe_lst pa_nil))
    (pss_cons (ps_set (i := 4) sc_l_spots.nd rfl (.inl rfl) (pe_call G_l_take hr (by rfl) T.g_l_take T.F_l_take.kp T.b_l_take .nil pass0 (pa_cons (pv 0) (pa_cons (pv 1) pa_nil))))
    (pss_cons (ps_for PassesOwn.never rfl (pi_range1 (by rfl) T.z_range (pa_cons (pv 2) pa_nil)) (pg_name (i := 5) sc_l_spots.nd rfl (.inl rfl))
      (pss_cons (ps_set (i := 6) sc_l_spots.nd rfl (.inl rfl) (pe_lst (pa_cons (pv 4) (pa_cons (pe_op op_mod (pe_op op_add (pe_op op_add (pv 4) (pe_int)) (pe_call G_l_take hr (by rfl) T.g_l_take T.F_l_take.kp T.b_l_take .nil pass0 (pa_cons (pv 0) (pa_cons (pe_op op_sub (pv 1) (pe_int)) pa_nil)))) (pv 1)) pa_nil))))
      (pss_cons (ps_for PassesOwn.never rfl (pi_range1 (by rfl) T.z_range (pa_cons (pe_op op_fdiv (pe_call G_l_take hr (by rfl) T.g_l_take T.F_l_take.kp T.b_l_take .nil pass0 (pa_cons (pv 0) (pa_cons (pe_int) pa_nil))) (pe_int)) pa_nil)) (pg_name (i := 7) sc_l_spots.nd rfl (.inl rfl))
        (pss_one (ps_expr (pe_bm PySem.F.plainAttrs_list PySem.F.slot_list_append PySem.F.type_list_append mt_append (pv 6) (pa_cons (pe_call G_l_take hr (by rfl) T.g_l_take T.F_l_take.kp T.b_l_take .nil pass0 (pa_cons (pv 0) (pa_cons (pv 1) pa_nil))) pa_nil)))))
      (pss_cons (ps_expr (pe_bm PySem.F.plainAttrs_list PySem.F.slot_list_append PySem.F.type_list_append mt_append (pv 3) (pa_cons (pe_callB (cr_sortedSet rfl) (by rfl) T.z_sorted (by decide +kernel) (pa_cons (pe_callTy (Sl.call_setI rfl) (by rfl) T.z_set (by decide +kernel) (pa_cons (pv 6) pa_nil)) pa_nil)) pa_nil)))
      (pss_one (ps_set (i := 4) sc_l_spots.nd rfl (.inl rfl) (pe_ix (r := rIxL K) ix_list (pe_ix (r := rIxL K) ix_list (pv 3) (pe_un un_neg (pe_int)) (fun _ _ => rfl)) (pe_call G_l_take hr (by rfl) T.g_l_take T.F_l_take.kp T.b_l_take .nil pass0 (pa_cons (pv 0) (pa_cons (pe_callB (r := rLenS K) call_lenS (by rfl) T.z_len (by decide +kernel) (pa_cons (pe_ix (r := rIxL K) ix_list (pv 3) (pe_un un_neg (pe_int)) (fun _ _ => rfl)) pa_nil)) pa_nil))) (fun _ _ => rfl))))))))
    (pss_one (ps_ret (pv 3))))))
      , ?_⟩
    refine ⟨Nat.zero_le _, fun F nF => ?_⟩
    have nFp : F ≠ p := b.ne nF
    -- here
    refine ⟨.ref p, rfl, .int n, rfl, p, n, rfl, b.keep (same_upd nF), by omega, by omega, fun H2 h0 k2 b2 h00 h01 => ?_⟩
    have eF2 : H2 F = some (.lst (([] : List Addr).map V.ref)) := k2 _ _ nFp upd_same
    have k2 : Keep p H H2 := (Keep.of (same_upd nF)).trans k2
    refine ⟨.int m, rfl, m, rfl, by omega, by omega, ?_⟩
    rw [Int.toNat_natCast]
    refine for_range (lo := 0) (n := m) (fun i σ H3 => ∃ (hh : Nat) (y5 y6 y7 : Option V) (as : List Addr) (qs : List (List Nat)), σ = [some (.ref p), some (.int n), some (.int m), some (.ref F), some (.int hh), y5, y6, y7] ∧ hh < n ∧ Keep p H H3 ∧ Bag H3 p ∧ H3 F = some (.lst (as.map V.ref)) ∧ qs.length = i ∧ LLs H3 as qs ∧ (∀ a ∈ as, H a = none ∧ a ≠ F ∧ a ≠ p) ∧ (∀ js ∈ qs, Spot n js) ∧ Chained qs ∧ (∀ js, qs.getLast? = some js → hh ∈ js))
      ⟨h0.toNat, none, none, none, [], [], by rw [show ((h0.toNat : Nat) : Int) = h0 by omega]; rfl, by omega, k2, b2, eF2, rfl, .nil, fun a ha => by simp at ha, fun a ha => by simp at ha, trivial, fun js h => by simp at h⟩ (fun i σ H3 hi hp => ?_) (fun σ H3 hp => ?_)
    · obtain ⟨hh, y5, y6, y7, as, qs, rfl, hh1, k3, b3, eF, hq, hL, hfr, hsp, hch, hlast⟩ := hp
      -- some = [here, (here + 1 + take(bag, many - 1)) % many]
      refine ⟨.int hh, rfl, .int hh, rfl, hh, 1, rfl, rfl, .ref p, rfl, .int n, rfl, n, 1, rfl, rfl, p, (n : Int) - 1, rfl, b3, by omega, by omega, fun H4 d k4 b4 d0 d1 => ?_⟩
      refine ⟨_, d, rfl, rfl, .int n, rfl, _, n, rfl, rfl, by omega, by show 2 ≤ sizeLine; decide, fun S nS => ?_⟩
      have nSp : S ≠ p := b4.ne nS
      have r0 : 0 ≤ ((hh : Int) + 1 + d) % (n : Int) := Int.emod_nonneg _ (by omega)
      have r1 : ((hh : Int) + 1 + d) % (n : Int) < n := Int.emod_lt_of_pos _ (by omega)
      have ne2 : (hh : Int) ≠ ((hh : Int) + 1 + d) % (n : Int) := by
        by_cases c : (hh : Int) + 1 + d < n
        · rw [Int.emod_eq_of_lt (by omega) c]
          omega
        · rw [← Int.sub_emod_right, Int.emod_eq_of_lt (by omega) (by omega)]
          omega
      dsimp only
      generalize ((hh : Int) + 1 + d) % (n : Int) = x2 at r0 r1 ne2 ⊢
      have eF4 : (upd H4 S (.lst [.int hh, .int x2])) F = some (.lst (as.map V.ref)) := same_upd nS _ _ (k4 _ _ nFp eF)
      have nFS : F ≠ S := ne_of_none (k4 _ _ nFp eF) nS
      have nHS : H S = none := k3.free b (k4.free b3 nS b4) b3
      -- for turn in range(take(bag, 4) // 2)
      refine ⟨.ref p, rfl, p, 4, rfl, b4.keep (same_upd nS), by decide, by decide, fun H5 d5 k5 b5 d50 d51 => ?_⟩
      have eS5 : H5 S = some (.lst (([(hh : Int), x2] : List Int).map V.int)) := k5 _ _ nSp upd_same
      have eF5 := k5 _ _ nFp eF4
      have k5 : Keep p H3 H5 := k4.trans ((Keep.of (same_upd nS)).trans k5)
      refine ⟨d5, 2, rfl, rfl, ⟨by decide, by decide⟩, _, rfl, by omega, by omega, ?_⟩
      refine for_range (lo := 0) (n := (d5 / 2).toNat) (fun j σ H6 => ∃ (y7 : Option V) (xs : List Int), σ = [some (.ref p), some (.int n), some (.int m), some (.ref F), some (.int hh), some (.int (0 + (i : Int))), some (.ref S), y7] ∧ Keep p H3 H6 ∧ Bag H6 p ∧ H6 F = some (.lst (as.map V.ref)) ∧ xs.length = 2 + j ∧ (∀ x ∈ xs, 0 ≤ x ∧ x < n) ∧ (hh : Int) ∈ xs ∧ x2 ∈ xs ∧ H6 S = some (.lst (xs.map V.int)))
        ⟨_, [(hh : Int), x2], rfl, k5, b5, eF5, rfl, fun x hx => by
          simp only [List.mem_cons, List.not_mem_nil, or_false] at hx
          omega, by simp, by simp, eS5⟩ (fun j σ H6 hj hp => ?_) (fun σ H6 hp => ?_)
      · obtain ⟨y7, xs, rfl, k6, b6, eF6, hxl, hx, hm1, hm2, eS6⟩ := hp
        refine ⟨.ref S, rfl, .inl ⟨rfl, _, SqL.of eS6⟩, .ref p, rfl, .int n, rfl, p, n, rfl, b6, by omega, by omega, fun H7 d7 k7 b7 d70 d71 => ?_⟩
        refine ⟨S, _, _, rfl, rfl, k7 _ _ nSp eS6, by rw [List.length_map, hxl]; exact small5000 (by omega), ?_⟩
        refine ⟨_, xs ++ [d7], rfl, fun c o nc ec => ?_, b7.at (upd_ne nSp.symm), by rw [upd_ne nFS]; exact k7 _ _ nFp eF6, by rw [List.length_append, hxl]; rfl, fun x hx' => ?_, List.mem_append_left _ hm1, List.mem_append_left _ hm2, by rw [upd_same, List.map_append]; rfl⟩
        · have nS3 : H3 S = none := k4.free b3 nS b4
          rw [upd_ne (ne_of_none ec nS3)]
          exact k7 _ _ nc (k6 _ _ nc ec)
        · rcases List.mem_append.mp hx' with z | z
          · exact hx x z
          · rw [List.mem_singleton.mp z]
            exact ⟨d70, d71⟩
      obtain ⟨y7, xs, rfl, k6, b6, eF6, hxl, hx, hm1, hm2, eS6⟩ := hp
      -- found.append(sorted(set(some)))
      refine ⟨.ref F, rfl, .inl ⟨rfl, _, SqL.of eF6⟩, .ref S, rfl, S, xs, rfl, SqL.of eS6, by omega, fun se c nse hc => ?_⟩
      refine ⟨se, _, c, rfl, upd_same, by omega, fun ns so pw mem len nso => ?_⟩
      have s7 : Same H6 (upd (upd H6 se (SetO w se (fun j => decide (j ∈ xs)) c)) so (.lst (ns.map V.int))) := (same_upd nse).trans (same_upd nso)
      have memx : ∀ x, x ∈ ns ↔ x ∈ xs := fun x => (mem x).trans decide_eq_true_iff
      have hns : ∀ x ∈ ns, 0 ≤ x ∧ x < n := fun x h => hx x ((memx x).mp h)
      have h2 : 2 ≤ ns.length := two_of ((memx _).mpr hm1) ((memx _).mpr hm2) ne2
      have eso : (upd (upd H6 se (SetO w se (fun j => decide (j ∈ xs)) c)) so (.lst (ns.map V.int))) so = some (.lst (jV (ns.map Int.toNat))) := by
        rw [upd_same, ints_nats fun x h => (hns x h).1]
      have nso6 : H6 so = none := (same_upd nse).free nso
      have nsop : so ≠ p := b6.ne nso6
      have nsoF : so ≠ F := (ne_of_none eF6 nso6).symm
      have k7 : Keep p H3 _ := k6.trans (.of s7)
      have b7 := b6.keep s7
      have eF7 := s7 _ _ eF6
      refine ⟨F, _, _, rfl, rfl, eF7, by rw [List.length_map, paired_len hL, hq]; exact small5000 (by omega), ?_⟩
      have spot : Spot n (ns.map Int.toNat) := by
        refine ⟨?_, fun j hj => ?_, by rw [List.length_map]; exact h2⟩
        · rw [List.pairwise_map]
          refine List.Pairwise.imp_of_mem ?_ pw
          intro a b ha hb hab
          have := hns a ha
          have := hns b hb
          omega
        · obtain ⟨x, hx', rfl⟩ := List.mem_map.mp hj
          have := hns x hx'
          omega
      have inH : hh ∈ ns.map Int.toNat := List.mem_map.mpr ⟨(hh : Int), (memx _).mpr hm1, by omega⟩
      have hjl : (ns.map Int.toNat).length ≤ 8 := by rw [List.length_map]; omega
      generalize ns.map Int.toNat = js at eso spot inH hjl
      obtain ⟨H7, hH7⟩ : ∃ X, X = upd (upd H6 se (SetO w se (fun j => decide (j ∈ xs)) c)) so (.lst (ns.map V.int)) := ⟨_, rfl⟩
      rw [← hH7] at s7 eso k7 b7 eF7
      -- here = found[-1][take(bag, len(found[-1]))]
      have eF8 : (upd H7 F (.lst (as.map V.ref ++ [.ref so]))) F = some (.lst ((as ++ [so]).map V.ref)) := by
        rw [upd_same, List.map_append]
        rfl
      have eso8 : (upd H7 F (.lst (as.map V.ref ++ [.ref so]))) so = some (.lst (jV js)) := by rw [upd_ne nsoF]; exact eso
      have b8 : Bag (upd H7 F (.lst (as.map V.ref ++ [.ref so]))) p := b7.at (upd_ne nFp.symm)
      have k8 : Keep p H (upd H7 F (.lst (as.map V.ref ++ [.ref so]))) := fun c o nc ec => by
        rw [upd_ne (ne_of_none ec nF)]
        exact k7 _ _ nc (k3 _ _ nc ec)
      have o8 : ∀ a o, a ≠ F → a ≠ p → H3 a = some o → (upd H7 F (.lst (as.map V.ref ++ [.ref so]))) a = some o := fun a o n1 n2 e => by
        rw [upd_ne n1]
        exact k7 _ _ n2 e
      subst hH7
      have lastR : atI ((as ++ [so]).map V.ref) (-1) = some (.ref so) := by
        rw [List.map_append]
        exact atI_last _ _
      refine ⟨.ref F, rfl, 1, rfl, F, _, -1, .ref so, rfl, rfl, SqL.of eF8, lastR, .ref p, rfl, .ref F, rfl, 1, rfl, F, _, -1, .ref so, rfl, rfl, SqL.of eF8, lastR, so, jV js, rfl, .inl (SqL.of eso8), p, js.length, by rw [List.length_map]; rfl, b8, by have := spot.two; omega, by omega, fun H9 d9 k9 b9 d90 d91 => ?_⟩
      obtain ⟨jj, rfl⟩ : ∃ jj : Nat, d9 = (jj : Int) := ⟨d9.toNat, by omega⟩
      have hjj : jj < js.length := by omega
      have gj : (jV js)[jj]? = some (.int (js[jj] : Nat)) := by
        rw [List.getElem?_map, List.getElem?_eq_getElem hjj]
        rfl
      refine ⟨so, _, (jj : Int), _, rfl, rfl, SqL.of (k9 _ _ nsop eso8), atI_nat gj, ?_⟩
      have nFp' := nFp
      refine ⟨js[jj], _, _, _, as ++ [so], qs ++ [js], rfl, spot.lt _ (List.getElem_mem hjj), k8.trans k9, b9, k9 _ _ nFp eF8, by rw [List.length_append, hq]; rfl, ?_, fun a ha => ?_, fun x hx => ?_, ?_, fun x hx => ?_⟩
      · refine paired_snoc (paired_imp hL fun a ha x e => ?_) (k9 _ _ nsop eso8)
        obtain ⟨_, f1, f2⟩ := hfr a ha
        exact k9 _ _ f2 (o8 _ _ f1 f2 e)
      · rcases List.mem_append.mp ha with z | z
        · exact hfr a z
        · rw [List.mem_singleton.mp z]
          exact ⟨k3.free b (k6.free b3 nso6 b6) b3, nsoF, nsop⟩
      · rcases List.mem_append.mp hx with z | z
        · exact hsp x z
        · rw [List.mem_singleton.mp z]
          exact spot
      · cases hqs : qs.getLast? with
        | none =>
          rw [List.getLast?_eq_none_iff] at hqs
          rw [hqs]
          exact trivial
        | some z =>
          obtain ⟨q0, rfl⟩ := List.getLast?_eq_some_iff.mp hqs
          exact Chained.snoc hch ⟨hh, hlast z hqs, inH⟩
      · rw [List.getLast?_concat] at hx
        rw [← Option.some.inj hx]
        exact List.getElem_mem hjj
    · obtain ⟨hh, y5, y6, y7, as, qs, rfl, hh1, k3, b3, eF, hq, hL, hfr, hsp, hch, hlast⟩ := hp
      exact ⟨.ref F, rfl, q _ F as qs k3 b3 nF eF hq hL hfr hsp hch⟩
end
end Th
namespace Th
open PySem PySem.Spec PyProof.Rows L2
theorem Chained.ends {f l : Nat} {ss : List (List Nat)} {a b : List Nat} (hc : Chained ss) (ha : ss.head? = some a) (hb : ss.getLast? = some b) (hf : f ∈ a) (hl : l ∈ b) : Chained (([f] :: ss) ++ [[l]]) := by
  have h1 : Chained ([f] :: ss) := by
    cases ss with
    | nil => cases ha
    | cons c r =>
      have := Option.some.inj ha
      subst this
      exact ⟨⟨f, by simp, hf⟩, hc⟩
  obtain ⟨q0, rfl⟩ := List.getLast?_eq_some_iff.mp hb
  exact Chained.snoc (qs := [f] :: q0) h1 ⟨l, hl, by simp⟩
/-- what is known of the lines by their numbers, place by place -/
structure PlQ (n J : Nat) (qs : List (List Nat)) : Prop where
  form : ∃ (f l : Nat) (ss : List (List Nat)) (tw : List Nat), qs = (([f] :: ss) ++ [[l]]) ++ tw.map (fun x => [x]) ∧ ss.length = J ∧ (∀ js ∈ ss, Spot n js) ∧ f < n ∧ l < n ∧ (∀ x ∈ tw, x < n) ∧ Chained (([f] :: ss) ++ [[l]]) ∧ tw.length ≤ 14
  most : J ≤ 12
theorem PlQ.len {n J : Nat} {qs : List (List Nat)} (h : PlQ n J qs) : J + 2 ≤ qs.length ∧ qs.length ≤ 28 := by
  obtain ⟨f, l, ss, tw, rfl, h1, _, _, _, _, _, h2⟩ := h.form
  have := h.most
  simp only [List.length_append, List.length_cons, List.length_map, List.length_nil]
  omega
/-- a list of pairs of a name and a list of numbers -/
structure PlAt (p : Addr) (H : Hp) (l : Addr) (ts : List Addr) (zs : List (List Nat)) (as : List Addr) (qs : List (List Nat)) : Prop where
  lst : H l = some (.lst (ts.map V.ref))
  tup : Lz.Tups H ts ((zs.map nS).zip (as.map V.ref))
  ll : LLs H as qs
  lz : zs.length = qs.length
  lt : ts.length = qs.length
  np : l ≠ p ∧ (∀ t ∈ ts, t ≠ p) ∧ ∀ a ∈ as, a ≠ p
theorem PlAt.keep {p : Addr} {H H' : Hp} {l : Addr} {ts as : List Addr} {zs qs : List (List Nat)} (h : PlAt p H l ts zs as qs) (k : Keep p H H') : PlAt p H' l ts zs as qs :=
  ⟨k _ _ h.np.1 h.lst, paired_imp h.tup fun t ht q e => k _ _ (h.np.2.1 t ht) e, paired_imp h.ll fun a ha q e => k _ _ (h.np.2.2 a ha) e, h.lz, h.lt, h.np⟩
section
variable {P : Program} {w : World} {K : PySem.W.Frag} {mg : Str → Option Value} {base : Heap} {k : Nat}
def sp_l_places : Sp := fun vs H Q _ => ∃ (p : Addr) (n : Nat), vs = [.ref p, .int n] ∧ Bag H p ∧ 1 ≤ n ∧ n ≤ 8 ∧
  ∀ (H' : Hp) (l : Addr) (ts as : List Addr) (zs qs : List (List Nat)) (J : Nat), Keep p H H' → Bag H' p → PlAt p H' l ts zs as qs → PlQ n J qs → zs.Nodup → (∀ z ∈ zs, IsNm z) → (∀ k l, zs[k]? = some l → NmAt k l) → H l = none → (∀ t ∈ ts, H t = none) → (∀ a ∈ as, H a = none) → Q (.ref l) H'
set_option maxHeartbeats 8000000 in
theorem ok_l_places (T : Defs K mg) : FnOk P w K mg base CX0 (k + 3) T.a_l_places T.d_l_places ["_law_bag_here", "_law_many"] sp_l_places := by
  have G_l_take : FnOk P w K mg base CX0 (k + 2) _ _ _ _ := ok_l_take (k := k + 1) T
  have G_l_names : FnOk P w K mg base CX0 (k + 2) _ _ _ _ := ok_l_names T
  have G_l_spots : FnOk P w K mg base CX0 (k + 2) _ _ _ _ := ok_l_spots T
  refine T.F_l_places.ok sc_l_places (fun vs H Q E h => ?_) (fun cdv A outer s H vs Q E hr h => ?_)
  · obtain ⟨p, n, rfl, _⟩ := h
    rfl
  · obtain ⟨p, n, rfl, b, n1, n8, q⟩ := h
    refine ⟨_, PSs.nox
(pss_cons (ps_set (i := 2) sc_l_places.nd rfl (.inl rfl) (pe_op op_mul (pe_ix (r := rIxT K) ix_tup (pe_tup (pa_cons (pe_int) (pa_cons (pe_int) (pa_cons (pe_int) (pa_cons (pe_int) (pa_cons (pe_int) (pa_cons (pe_int) pa_nil))))))) (pe_call G_l_take hr (by rfl) T.g_l_take T.F_l_take.kp T.b_l_take .nil pass0 (pa_cons (pv 0) (pa_cons (pe_int) pa_nil))) (fun _ _ => rfl)) (pe_callTy call_int1 (by rfl) T.z_int (by decide +kernel) (pa_cons (pe_cmpR op_gt (pv 1) (pe_int) (nomark _)) pa_nil))))
    (pss_cons (ps_set (i := 3) sc_l_places.nd rfl (.inl rfl) (pe_call G_l_take hr (by rfl) T.g_l_take T.F_l_take.kp T.b_l_take .nil pass0 (pa_cons (pv 0) (pa_cons (pe_int) pa_nil))))
    (pss_cons (ps_set (i := 4) sc_l_places.nd rfl (.inl rfl) (pe_call G_l_names hr (by rfl) T.g_l_names T.F_l_names.kp T.b_l_names .nil pass0 (pa_cons (pv 0) (pa_cons (pe_op op_add (pe_op op_add (pv 2) (pe_int)) (pv 3)) pa_nil))))
    (Evl.pss_cut (ps_set (i := 5) sc_l_places.nd rfl (.inl rfl) (pe_ifExp (pt_cmpR op_gt (pv 2) (pe_int) (nomark _)) (pe_call G_l_spots hr (by rfl) T.g_l_spots T.F_l_spots.kp T.b_l_spots .nil pass0 (pa_cons (pv 0) (pa_cons (pv 1) (pa_cons (pv 2) pa_nil)))) (pe_lst (pa_cons (pe_lst (pa_cons (pe_call G_l_take hr (by rfl) T.g_l_take T.F_l_take.kp T.b_l_take .nil pass0 (pa_cons (pv 0) (pa_cons (pv 1) pa_nil))) pa_nil)) pa_nil))))
    (pss_cons (ps_set (i := 6) sc_l_places.nd rfl (.inl rfl) (pe_lst (pa_cons (pe_ix (r := rIxL K) ix_list (pe_ix (r := rIxL K) ix_list (pv 5) (pe_int) (fun _ _ => rfl)) (pe_call G_l_take hr (by rfl) T.g_l_take T.F_l_take.kp T.b_l_take .nil pass0 (pa_cons (pv 0) (pa_cons (pe_callB (r := rLenS K) call_lenS (by rfl) T.z_len (by decide +kernel) (pa_cons (pe_ix (r := rIxL K) ix_list (pv 5) (pe_int) (fun _ _ => rfl)) pa_nil)) pa_nil))) (fun _ _ => rfl)) pa_nil)))
    (pss_cons (ps_set (i := 7) sc_l_places.nd rfl (.inl rfl) (pe_lst (pa_cons (pe_ix (r := rIxL K) ix_list (pe_ix (r := rIxL K) ix_list (pv 5) (pe_un un_neg (pe_int)) (fun _ _ => rfl)) (pe_call G_l_take hr (by rfl) T.g_l_take T.F_l_take.kp T.b_l_take .nil pass0 (pa_cons (pv 0) (pa_cons (pe_callB (r := rLenS K) call_lenS (by rfl) T.z_len (by decide +kernel) (pa_cons (pe_ix (r := rIxL K) ix_list (pv 5) (pe_un un_neg (pe_int)) (fun _ _ => rfl)) pa_nil)) pa_nil))) (fun _ _ => rfl)) pa_nil)))
    (pss_cons (ps_setLc (i := 8) (own := [("_law_k", 9)]) (g := gName 9) rfl sc_l_places.nd rfl rfl (sw_true rfl rfl rfl (by decide +kernel)) (pi_range1 (by rfl) T.z_range (pa_cons (pv 3) pa_nil)) (blkOk_by (N := N_l_places) (sc := defScope s_l_places) (by decide +kernel)) (fun _ _ _ _ _ => (pg_name (i := 9) sc_l_places.nd rfl (.inl rfl))) (fun _ _ _ _ _ => pts_nil) (fun _ _ _ _ _ => (pe_lst (pa_cons (pe_call G_l_take hr (by rfl) T.g_l_take T.F_l_take.kp T.b_l_take .nil pass0 (pa_cons (pv 0) (pa_cons (pv 1) pa_nil))) pa_nil))))
    (pss_one (ps_ret (Lz.pe_listZip rfl (by rfl) T.z_list (by rfl) T.z_zip (pa_cons (pv 4) (pa_cons (pe_op op_cat (pe_op op_cat (pe_op op_cat (pe_lst (pa_cons (pv 6) pa_nil)) (pe_slice sl_list (pv 5) po_none (po_some (pv 2)))) (pe_lst (pa_cons (pv 7) pa_nil))) (pv 8)) pa_nil))))))))))))
      , ?_⟩
    -- junctions
    refine ⟨by decide, fun t nt => ?_⟩
    have ntp : t ≠ p := b.ne nt
    refine ⟨.ref p, rfl, p, 6, rfl, b.keep (same_upd nt), by decide, by decide, fun H1 d k1 b1 d0 d1 => ?_⟩
    obtain ⟨m0, hm0, em0⟩ := pick (ms := [1, 12, 4, 7, 2, 0]) d0 d1
    refine ⟨t, _, d, _, rfl, rfl, SqT.of (k1 _ _ ntp upd_same), em0, ?_⟩
    have k1 : Keep p H H1 := (Keep.of (same_upd nt)).trans k1
    have hm : 0 ≤ m0 ∧ m0 ≤ 12 := by
      simp only [List.mem_cons, List.not_mem_nil, or_false] at hm0
      omega
    refine ⟨.int n, rfl, n, 1, rfl, rfl, .inr ⟨_, rfl, m0, _, rfl, rfl, .inl ⟨by omega, by omega⟩, ?_⟩⟩
    obtain ⟨J, hJ⟩ : ∃ J : Nat, m0 * (if decide ((1 : Int) < (n : Int)) then 1 else 0) = (J : Int) ∧ J ≤ 12 ∧ (0 < J → 2 ≤ n) := by
      by_cases c : (1 : Int) < n
      · rw [if_pos (decide_eq_true c)]
        exact ⟨m0.toNat, by omega, by omega, fun _ => by omega⟩
      · rw [if_neg (fun z => c (of_decide_eq_true z))]
        exact ⟨0, by omega, by omega, fun z => absurd z (Nat.lt_irrefl _)⟩
    obtain ⟨eJ, J12, J2⟩ := hJ
    dsimp only
    rw [eJ]
    -- more
    refine ⟨.ref p, rfl, p, 15, rfl, b1, by decide, by decide, fun H2 mo k2 b2 mo0 mo1 => ?_⟩
    obtain ⟨m, rfl⟩ : ∃ m : Nat, mo = (m : Int) := ⟨mo.toNat, by omega⟩
    have k2 := k1.trans k2
    -- names
    refine ⟨.ref p, rfl, .int J, rfl, J, 2, rfl, rfl, .int m, rfl, _, m, rfl, rfl, p, J + 2 + m, by dsimp only; rw [show ((J : Int) + 2 + (m : Int)) = ((J + 2 + m : Nat) : Int) by omega]; rfl, b2, by omega, fun H3 nl zs k3 b3 nnl enl hzs nd nms nat => ?_⟩
    have nnl0 : H nl = none := k2.free b nnl b2
    have nlp : nl ≠ p := b2.ne nnl
    have k3 := k2.trans k3
    -- spots
    refine ⟨fun σ H4 => ∃ (sp : Addr) (as : List Addr) (qs : List (List Nat)), σ = [some (.ref p), some (.int n), some (.int J), some (.int m), some (.ref nl), some (.ref sp), none, none, none, none] ∧ Keep p H3 H4 ∧ Bag H4 p ∧ H3 sp = none ∧ H4 sp = some (.lst (as.map V.ref)) ∧ LLs H4 as qs ∧ (∀ a ∈ as, H3 a = none ∧ a ≠ sp ∧ a ≠ p) ∧ 1 ≤ qs.length ∧ Chained qs ∧ (∀ js ∈ qs, (∀ j ∈ js, j < n) ∧ 1 ≤ js.length ∧ js.length ≤ 8) ∧ (0 < J → qs.length = J ∧ ∀ js ∈ qs, Spot n js) ∧ (J = 0 → ∃ x, qs = [[x]]), ?_, fun σ H4 mid => ?_⟩
    · refine ⟨.int J, rfl, _, _, rfl, rfl, _, rfl, ite2 (fun c => ?_) (fun c => ?_)⟩
      · have c := of_decide_eq_true c
        refine ⟨.ref p, rfl, .int n, rfl, .int J, rfl, p, n, J, rfl, b3, J2 (by omega), n8, by omega, J12, fun H4 sp as qs k4 b4 nsp esp hql hL hfr hsp hch => ?_⟩
        refine ⟨sp, as, qs, rfl, k4, b4, nsp, esp, hL, hfr, by omega, hch, fun js hj => ?_, fun _ => ⟨hql, hsp⟩, fun z => by omega⟩
        have s := hsp js hj
        exact ⟨s.lt, by have := s.two; omega, Spot.len8 s n8⟩
      · have c : ¬ (0 : Int) < (J : Int) := fun z => c (decide_eq_true z)
        refine ⟨.ref p, rfl, .int n, rfl, p, n, rfl, b3, by omega, by omega, fun H4 x k4 b4 x0 x1 => ?_⟩
        refine ⟨one_sz, fun a na => ⟨one_sz, fun sp nsp => ?_⟩⟩
        obtain ⟨x, rfl⟩ : ∃ j : Nat, x = (j : Int) := ⟨x.toNat, by omega⟩
        have nsp4 : H4 sp = none := (same_upd na).free nsp
        have nap : a ≠ p := b4.ne na
        have nspp : sp ≠ p := b4.ne nsp4
        have nas : a ≠ sp := fun z => by rw [← z, upd_same] at nsp; cases nsp
        refine ⟨sp, [a], [[x]], rfl, k4.trans (.of ((same_upd na).trans (same_upd nsp))), b4.keep ((same_upd na).trans (same_upd nsp)), k4.free b3 nsp4 b4, upd_same, .cons (by rw [upd_ne nas, upd_same]; rfl) .nil, fun c hc => ?_, by simp, trivial, fun js hj => ?_, fun z => by omega, fun _ => ⟨x, rfl⟩⟩
        · rw [List.mem_singleton.mp hc]
          exact ⟨k4.free b3 na b4, nas, nap⟩
        · rw [List.mem_singleton.mp hj]
          exact ⟨fun j hj => by rw [List.mem_singleton.mp hj]; omega, by simp, by simp⟩
    obtain ⟨sp, as, qs, rfl, k4, b4, nsp, esp, hL, hfr, hq1, hch, hqa, hJ0, hJ1⟩ := mid
    have nspp : sp ≠ p := b3.ne nsp
    have hal := paired_len hL
    obtain ⟨a0, qa, ha0, hqa0, ea0, h00⟩ : ∃ a0 qa, as[0]? = some a0 ∧ qs[0]? = some qa ∧ H4 a0 = some (.lst (jV qa)) ∧ qs.head? = some qa := by
      have h : 0 < as.length := by omega
      obtain ⟨qa, e1, e2⟩ := paired_get hL (List.getElem?_eq_getElem h)
      exact ⟨as[0], qa, List.getElem?_eq_getElem h, e1, e2, by rw [List.head?_eq_getElem?]; exact e1⟩
    obtain ⟨az, qz, haz, hqz, eaz, hzz⟩ : ∃ az qz, atI (as.map V.ref) (-1) = some (.ref az) ∧ qz ∈ qs ∧ H4 az = some (.lst (jV qz)) ∧ qs.getLast? = some qz := by
      have h : as.length - 1 < as.length := by omega
      obtain ⟨qz, e1, e2⟩ := paired_get hL (List.getElem?_eq_getElem h)
      have eas : as = as.take (as.length - 1) ++ [as[as.length - 1]] := by
        rw [List.take_append_getElem, List.take_of_length_le (by omega)]
      refine ⟨as[as.length - 1], qz, ?_, List.mem_of_getElem? e1, e2, by rw [List.getLast?_eq_getElem?, ← hal]; exact e1⟩
      conv => lhs; rw [eas]
      rw [List.map_append]
      exact atI_last _ _
    have m0' : a0 ∈ as := List.mem_of_getElem? ha0
    have q0m := hqa qa (List.mem_of_getElem? hqa0)
    have qzm := hqa qz hqz
    have a0p : a0 ≠ p := (hfr a0 m0').2.2
    have azp : az ≠ p := fun z => by
      obtain ⟨g, r, e, _⟩ := b4
      obtain ⟨j, hj⟩ := atI_get haz
      have hj := hj.2.1
      rw [List.getElem?_map] at hj
      cases hx : as[j]? with
      | none => rw [hx] at hj; cases hj
      | some y =>
        rw [hx] at hj
        have ey := V.ref.inj (Option.some.inj hj)
        exact (hfr y (List.mem_of_getElem? hx)).2.2 (ey.trans z)
    -- first
    have i0 : atI (as.map V.ref) 0 = some (.ref a0) := atI_nat (j := 0) (by rw [List.getElem?_map, ha0]; rfl)
    refine ⟨.ref sp, rfl, sp, _, 0, .ref a0, rfl, rfl, SqL.of esp, i0, .ref p, rfl, .ref sp, rfl, sp, _, 0, .ref a0, rfl, rfl, SqL.of esp, i0, a0, jV qa, rfl, .inl (SqL.of ea0), p, qa.length, by rw [List.length_map]; rfl, b4, by have := q0m.2.1; omega, by have := q0m.2.2; omega, fun H5 d5 k5 b5 d50 d51 => ?_⟩
    obtain ⟨j5, rfl⟩ : ∃ jj : Nat, d5 = (jj : Int) := ⟨d5.toNat, by omega⟩
    have hj5 : j5 < qa.length := by omega
    have g5 : (jV qa)[j5]? = some (.int (qa[j5] : Nat)) := by
      rw [List.getElem?_map, List.getElem?_eq_getElem hj5]
      rfl
    refine ⟨a0, _, (j5 : Int), _, rfl, rfl, SqL.of (k5 _ _ a0p ea0), atI_nat g5, one_sz, fun fa nfa => ?_⟩
    have inf : qa[j5] ∈ qa := List.getElem_mem hj5
    generalize qa[j5] = f at inf g5
    have nfap : fa ≠ p := b5.ne nfa
    have k6 : Keep p H4 (upd H5 fa (.lst [.int ((f : Nat) : Int)])) := k5.trans (.of (same_upd nfa))
    have b6 := b5.keep (same_upd (o := .lst [.int ((f : Nat) : Int)]) nfa)
    have efa : (upd H5 fa (.lst [.int ((f : Nat) : Int)])) fa = some (.lst (jV [f])) := upd_same
    have nfa4 : H4 fa = none := k5.free b4 nfa b5
    dsimp only
    generalize upd H5 fa (.lst [.int ((f : Nat) : Int)]) = H6 at k6 b6 efa ⊢
    -- last
    refine ⟨.ref sp, rfl, 1, rfl, sp, _, -1, .ref az, rfl, rfl, SqL.of (k6 _ _ nspp esp), haz, .ref p, rfl, .ref sp, rfl, 1, rfl, sp, _, -1, .ref az, rfl, rfl, SqL.of (k6 _ _ nspp esp), haz, az, jV qz, rfl, .inl (SqL.of (k6 _ _ azp eaz)), p, qz.length, by rw [List.length_map]; rfl, b6, by have := qzm.2.1; omega, by have := qzm.2.2; omega, fun H7 d7 k7 b7 d70 d71 => ?_⟩
    obtain ⟨j7, rfl⟩ : ∃ jj : Nat, d7 = (jj : Int) := ⟨d7.toNat, by omega⟩
    have hj7 : j7 < qz.length := by omega
    have g7 : (jV qz)[j7]? = some (.int (qz[j7] : Nat)) := by
      rw [List.getElem?_map, List.getElem?_eq_getElem hj7]
      rfl
    refine ⟨az, _, (j7 : Int), _, rfl, rfl, SqL.of (k7 _ _ azp (k6 _ _ azp eaz)), atI_nat g7, one_sz, fun la nla => ?_⟩
    have inl : qz[j7] ∈ qz := List.getElem_mem hj7
    generalize qz[j7] = l at inl g7
    have nlap : la ≠ p := b7.ne nla
    have nla4 : H4 la = none := k6.free b4 (k7.free b6 nla b7) b6
    have efa8 : (upd H7 la (.lst [.int ((l : Nat) : Int)])) fa = some (.lst (jV [f])) := same_upd nla _ _ (k7 _ _ nfap efa)
    have k8 : Keep p H4 (upd H7 la (.lst [.int ((l : Nat) : Int)])) := k6.trans (k7.trans (.of (same_upd nla)))
    have b8 := b7.keep (same_upd (o := .lst [.int ((l : Nat) : Int)]) nla)
    have ela8 : (upd H7 la (.lst [.int ((l : Nat) : Int)])) la = some (.lst (jV [l])) := upd_same
    dsimp only
    generalize upd H7 la (.lst [.int ((l : Nat) : Int)]) = H8 at k8 b8 efa8 ela8 ⊢
    -- towns
    refine ⟨.int m, rfl, m, rfl, by omega, by omega, fun D nD => ?_⟩
    have nDp : D ≠ p := b8.ne nD
    rw [Int.toNat_natCast]
    refine lc_it walk_range (fun j H9 => Keep p H8 H9 ∧ Bag H9 p ∧ ∃ (ta : List Addr) (tw : List Nat), tw.length = j ∧ (∀ x ∈ tw, x < n) ∧ H9 D = some (.lst (ta.map V.ref)) ∧ LLs H9 ta (tw.map fun x => [x]) ∧ ∀ a ∈ ta, H8 a = none ∧ a ≠ D ∧ a ≠ p) ⟨.of (same_upd nD), b8.keep (same_upd nD), [], [], rfl, fun c hc => by simp at hc, upd_same, .nil, fun c hc => by simp at hc⟩ (fun _ _ _ _ => trivial) (fun j x H9 H10 hj pv y => ?_) (fun H9 pv => ?_)
    · obtain ⟨rfl, rfl⟩ := y
      obtain ⟨k9, b9, ta, tw, htl, htw, eD, hTL, htf⟩ := pv
      refine ⟨rfl, yes_ ?_⟩
      refine ⟨.ref p, rfl, .int n, rfl, p, n, rfl, b9, by omega, by omega, fun H11 x k11 b11 x0 x1 => ⟨one_sz, fun c nc => ?_⟩⟩
      obtain ⟨x, rfl⟩ : ∃ j : Nat, x = (j : Int) := ⟨x.toNat, by omega⟩
      have ncp : c ≠ p := b11.ne nc
      have eD11 := k11 _ _ nDp eD
      have nDc : D ≠ c := ne_of_none eD11 nc
      have nc8 : H8 c = none := k9.free b8 (k11.free b9 nc b11) b9
      have tl := paired_len hTL
      rw [List.length_map] at tl
      refine ⟨_, same_upd nc _ _ eD11, by rw [List.length_map]; exact small5000 (by omega), fun e o ne ee => ?_, (b11.keep (same_upd nc)).at (upd_ne nDp.symm), ta ++ [c], tw ++ [x], by rw [List.length_append, htl]; rfl, fun y hy => ?_, by rw [upd_same, List.map_append]; rfl, ?_, fun e he => ?_⟩
      · rw [upd_ne (ne_of_none ee nD), upd_ne (ne_of_none (k11 _ _ ne (k9 _ _ ne ee)) nc)]
        exact k11 _ _ ne (k9 _ _ ne ee)
      · rcases List.mem_append.mp hy with z | z
        · exact htw y z
        · rw [List.mem_singleton.mp z]
          omega
      · rw [List.map_append]
        refine paired_snoc (paired_imp hTL fun a ha js e => ?_) (by rw [upd_ne nDc.symm, upd_same]; rfl)
        obtain ⟨_, f1, f2⟩ := htf a ha
        rw [upd_ne f1, upd_ne (ne_of_none (k11 _ _ f2 e) nc)]
        exact k11 _ _ f2 e
      · rcases List.mem_append.mp he with z | z
        · exact htf e z
        · rw [List.mem_singleton.mp z]
          exact ⟨nc8, nDc.symm, ncp⟩
    obtain ⟨k9, b9, ta, tw, htl, htw, eD, hTL, htf⟩ := pv
    have kk9 : Keep p H4 H9 := k8.trans k9
    have esp9 := kk9 _ _ nspp esp
    have enl9 : H9 nl = some (.lst (zs.map nS)) := kk9 _ _ nlp (k4 _ _ nlp enl)
    have efa9 := k9 _ _ nfap efa8
    have ela9 := k9 _ _ nlap ela8
    have hL9 : LLs H9 as qs := paired_imp hL fun a ha js e => kk9 _ _ (hfr a ha).2.2 e
    have tl := paired_len hTL
    rw [List.length_map] at tl
    -- list(zip(names, [first] + spots[:J] + [last] + towns))
    refine ⟨.ref nl, rfl, .ref fa, rfl, one_sz, fun c1 n1' => ?_⟩
    refine ⟨.ref sp, rfl, .int J, rfl, J, rfl, sp, _, rfl, SqL.of (same_upd n1' _ _ esp9), fun c2 n2' => ?_⟩
    rw [cut_to]
    have e2 : (upd (upd H9 c1 (.lst [.ref fa])) c2 (.lst ((as.map V.ref).take J))) c1 = some (.lst [.ref fa]) := same_upd n2' _ _ upd_same
    refine ⟨c1, c2, _, _, rfl, rfl, e2, upd_same, ?_, fun c3 n3' => ?_⟩
    · refine Nat.le_of_lt (small5000 ?_)
      rw [List.length_take, List.length_map]
      show 1 + _ ≤ 5000
      omega
    have s3 : Same H9 (upd (upd (upd H9 c1 (.lst [.ref fa])) c2 (.lst ((as.map V.ref).take J))) c3 (.lst ([.ref fa] ++ (as.map V.ref).take J))) := (same_upd n1').trans ((same_upd n2').trans (same_upd n3'))
    have e3 : (upd (upd (upd H9 c1 (.lst [.ref fa])) c2 (.lst ((as.map V.ref).take J))) c3 (.lst ([.ref fa] ++ (as.map V.ref).take J))) c3 = some (.lst ([.ref fa] ++ (as.map V.ref).take J)) := upd_same
    generalize upd (upd (upd H9 c1 (.lst [.ref fa])) c2 (.lst ((as.map V.ref).take J))) c3 (.lst ([.ref fa] ++ (as.map V.ref).take J)) = G3 at s3 e3 ⊢
    refine ⟨.ref la, rfl, one_sz, fun c4 n4' => ?_⟩
    refine ⟨c3, c4, _, _, rfl, rfl, same_upd n4' _ _ e3, upd_same, ?_, fun c5 n5' => ?_⟩
    · refine Nat.le_of_lt (small5000 ?_)
      rw [List.length_append, List.length_take, List.length_map]
      show 1 + _ + 1 ≤ 5000
      omega
    refine ⟨.ref D, rfl, c5, D, _, _, rfl, rfl, upd_same, same_upd n5' _ _ (same_upd n4' _ _ (s3 _ _ eD)), ?_, fun c6 n6' => ?_⟩
    · refine Nat.le_of_lt (small5000 ?_)
      rw [List.length_append, List.length_append, List.length_take, List.length_map, List.length_map]
      show 1 + _ + 1 + _ ≤ 5000
      omega
    have s6 := s3.trans ((same_upd (o := .lst [.ref la]) n4').trans ((same_upd (o := .lst ([.ref fa] ++ (as.map V.ref).take J ++ [.ref la])) n5').trans (same_upd (o := .lst ([.ref fa] ++ (as.map V.ref).take J ++ [.ref la] ++ ta.map V.ref)) n6')))
    have eLL : ([V.ref fa] ++ (as.map V.ref).take J ++ [.ref la] ++ ta.map V.ref) = ((([fa] ++ as.take J) ++ [la]) ++ ta).map V.ref := by
      simp only [List.map_append, List.map_take, List.map_cons, List.map_nil]
    have lens : ((([fa] ++ as.take J) ++ [la]) ++ ta).length = J + 2 + m := by
      simp only [List.length_append, List.length_take, List.length_cons, List.length_nil]
      by_cases c : 0 < J
      · have := (hJ0 c).1
        omega
      · omega
    refine ⟨nl, c6, zs.map nS, _, rfl, SqL.of (s6 _ _ enl9), SqL.of upd_same, by rw [eLL, List.length_map, List.length_map, lens]; exact hzs, by rw [List.length_map]; omega, fun H' l' ts st nl' nts nlt ndt elt htup => ?_⟩
    have s' := s6.trans st
    have kf : Keep p H H' := k3.trans (k4.trans (kk9.trans (.of s')))
    have fin : ∀ a, H9 a = none → H a = none := fun a h => k3.free b (k4.free b3 (kk9.free b4 h b9) b4) b3
    rw [eLL] at htup
    have tlen : ts.length = J + 2 + m := by
      have := paired_len htup
      rw [this, List.length_zip, List.length_map, List.length_map, lens, hzs, Nat.min_self]
    have pq : PlQ n J ((([f] :: qs.take J) ++ [[l]]) ++ tw.map fun x => [x]) := by
      refine ⟨⟨f, l, qs.take J, tw, rfl, ?_, fun js hj => ?_, q0m.1 f inf, qzm.1 l inl, htw, ?_, by omega⟩, J12⟩
      · rw [List.length_take]
        by_cases c : 0 < J
        · have := (hJ0 c).1
          omega
        · omega
      · by_cases c : 0 < J
        · exact (hJ0 c).2 js (List.mem_of_mem_take hj)
        · rw [show J = 0 by omega, List.take_zero] at hj
          cases hj
      · by_cases c : 0 < J
        · rw [List.take_of_length_le (by have := (hJ0 c).1; omega)]
          exact Chained.ends hch h00 hzz inf inl
        · have c0 : J = 0 := by omega
          obtain ⟨x, rfl⟩ := hJ1 c0
          rw [c0, List.take_zero]
          have e1 := Option.some.inj h00
          have e2 := Option.some.inj hzz
          subst e1
          subst e2
          rw [List.mem_singleton.mp inf, List.mem_singleton.mp inl]
          exact ⟨⟨x, by simp, by simp⟩, trivial⟩
    have n9 : ∀ a, H9 a = none → a ≠ p := fun a h => b9.ne h
    have nl9 : H9 l' = none := s6.free nl'
    have nt9 : ∀ t ∈ ts, H9 t = none := fun t ht => s6.free (nts t ht)
    have npa : ∀ a ∈ (([fa] ++ as.take J) ++ [la]) ++ ta, a ≠ p ∧ H a = none := fun a ha => by
      rcases List.mem_append.mp ha with z | z
      · rcases List.mem_append.mp z with z | z
        · rcases List.mem_append.mp z with z | z
          · rw [List.mem_singleton.mp z]
            exact ⟨nfap, k3.free b (k4.free b3 nfa4 b4) b3⟩
          · have := hfr a (List.mem_of_mem_take z)
            exact ⟨this.2.2, k3.free b this.1 b3⟩
        · rw [List.mem_singleton.mp z]
          exact ⟨nlap, k3.free b (k4.free b3 nla4 b4) b3⟩
      · have := htf a z
        exact ⟨this.2.2, k3.free b (k4.free b3 (k8.free b4 this.1 b8) b4) b3⟩
    refine q H' l' ts ((([fa] ++ as.take J) ++ [la]) ++ ta) zs _ J kf (b9.keep s') ⟨elt, htup, ?_, ?_, ?_, n9 _ nl9, fun t ht => n9 _ (nt9 t ht), fun a ha => (npa a ha).1⟩ pq nd nms nat (fin _ nl9) (fun t ht => fin _ (nt9 t ht)) fun a ha => (npa a ha).2
    · refine paired_append (paired_append (paired_append (as := [fa]) (bs := [[f]]) (.cons (s' _ _ efa9) .nil) (paired_take J (paired_imp hL9 fun a _ js e => s' _ _ e))) (.cons (s' _ _ ela9) .nil)) (paired_imp hTL fun a _ js e => s' _ _ e)
    · rw [hzs]
      simp only [List.length_append, List.length_take, List.length_cons, List.length_nil, List.length_map]
      by_cases c : 0 < J
      · have := (hJ0 c).1
        omega
      · omega
    · rw [tlen]
      simp only [List.length_append, List.length_take, List.length_cons, List.length_nil, List.length_map]
      by_cases c : 0 < J
      · have := (hJ0 c).1
        omega
      · omega
end
end Th
namespace Th
open PySem PySem.Spec PyProof.Rows L2
/-- tuples stay, those whose object is known, too -/
structure TKF (H H' : Hp) : Prop where
  t : ∀ a xs, H a = some (.tup xs) → H' a = some (.tup xs)
  f : ∀ a o xs, H a = some (.frz o (.tup xs)) → H' a = some (.frz o (.tup xs))
instance {H H' : Hp} : CoeFun (TKF H H') fun _ => ∀ a xs, H a = some (.tup xs) → H' a = some (.tup xs) := ⟨TKF.t⟩
theorem TKF.of {H H' : Hp} (s : Same H H') : TKF H H' := ⟨fun a xs e => s a _ e, fun a o xs e => s a _ e⟩
theorem TKF.trans {H H' H2 : Hp} (a : TKF H H') (b : TKF H' H2) : TKF H H2 := ⟨fun c xs e => b.t c xs (a.t c xs e), fun c o xs e => b.f c o xs (a.f c o xs e)⟩
theorem TKF.keep {p : Addr} {H H' : Hp} (k : Keep p H H') (b : Bag H p) : TKF H H' := by
  obtain ⟨g, r, e', _⟩ := b
  exact ⟨fun a xs e => k a _ (fun z => by rw [z, e'] at e; cases e) e, fun a o xs e => k a _ (fun z => by rw [z, e'] at e; cases e) e⟩
theorem TKF.upd {c : Addr} {H : Hp} {o : HO} (h : ∀ xs, H c ≠ some (.tup xs)) (h2 : ∀ o' xs, H c ≠ some (.frz o' (.tup xs)) := by intro o' xs e; simp_all) : TKF H (upd H c o) :=
  ⟨fun a xs e => by rw [upd_ne (fun z => h xs (by rw [← z]; exact e))]; exact e, fun a o' xs e => by rw [upd_ne (fun z => h2 o' xs (by rw [← z]; exact e))]; exact e⟩
theorem TpF.tk {H H' : Hp} {a : Addr} {xs : List V} (h : TpF H a xs) (k : TKF H H') : TpF H' a xs := let ⟨o, e, d⟩ := h; ⟨o, k.f _ _ _ e, d⟩
def StAt (H : Hp) (a : Addr) (st : Nm × Nm) : Prop := H a = some (.tup [nS st.1, nS st.2])
def JnAt (H : Hp) (a : Addr) (jn : Nm × List Nm) : Prop := ∃ b, H a = some (.tup [nS jn.1, .ref b]) ∧ H b = some (.tup (jn.2.map nS))
structure Ti where
  a : Nm
  b : Nm
  ln : Nm
  ch : Nat
def TiAt (H : Hp) (x : Addr) (t : Ti) : Prop := H x = some (.tup [nS t.a, nS t.b, nS t.ln, .int t.ch])
/-- the net at its address -/
def NetAt (H : Hp) (r : Addr) (ls : List Nm) (sts : List (Nm × Nm)) (jns : List (Nm × List Nm)) (tis : List Ti) : Prop :=
  ∃ (a b c d : Addr) (sa ja ta : List Addr), H r = some (.tup [.ref a, .ref b, .ref c, .ref d]) ∧ TpF H a (ls.map nS) ∧ TpF H b (sa.map V.ref) ∧ Paired (StAt H) sa sts ∧
    TpF H c (ja.map V.ref) ∧ Paired (JnAt H) ja jns ∧ TpF H d (ta.map V.ref) ∧ Paired (TiAt H) ta tis
theorem NetAt.tk {H H' : Hp} {r : Addr} {ls : List Nm} {sts : List (Nm × Nm)} {jns : List (Nm × List Nm)} {tis : List Ti} (h : NetAt H r ls sts jns tis) (k : TKF H H') : NetAt H' r ls sts jns tis := by
  obtain ⟨a, b, c, d, sa, ja, ta, e1, e2, e3, e4, e5, e6, e7, e8⟩ := h
  exact ⟨a, b, c, d, sa, ja, ta, k _ _ e1, e2.tk k, e3.tk k, paired_imp e4 fun x _ y e => k _ _ e, e5.tk k, paired_imp e6 (fun x _ y ⟨z, f1, f2⟩ => ⟨z, k _ _ f1, k _ _ f2⟩), e7.tk k, paired_imp e8 fun x _ y e => k _ _ e⟩
def stOf (ls : List Nm) (x : Nm × List Nat) : Option (Nm × Nm) := if x.2.length = 1 then some (x.1, ls.getD (x.2.getD 0 0) []) else none
def jnOf (ls : List Nm) (x : Nm × List Nat) : Option (Nm × List Nm) := if x.2.length = 1 then none else some (x.1, x.2.map fun j => ls.getD j [])
/-- the dict of the ties -/
def TiD (H : Hp) (td : Addr) (tis : List Ti) : Prop := ∃ kvs : List (List Key × V), H td = some (.dT kvs) ∧ (kvs.map (·.1)).Nodup ∧
  Paired (fun kv (t : Ti) => kv.1 = [Sum.inr (SX.S t.a), Sum.inr (SX.S t.b)] ∧ ∃ v, kv.2 = .ref v ∧ H v = some (.tup [nS t.ln, .int t.ch])) kvs tis
theorem val_at : ∀ {kvs : List (List Key × V)} {i : Nat} {k : List Key} {v : V}, (kvs.map (·.1)).Nodup → kvs[i]? = some (k, v) → valV kvs k = some v
  | [], _, _, _, _, h => by simp at h
  | p :: r, 0, k, v, _, h => by
    have := Option.some.inj h
    subst this
    exact valV_pos rfl
  | p :: r, i + 1, k, v, hn, h => by
    have hn' := List.nodup_cons.mp hn
    rw [valV_neg]
    · exact val_at hn'.2 h
    · intro e
      exact hn'.1 (List.mem_map.mpr ⟨(k, v), List.mem_of_getElem? h, e.symm⟩)
section
variable {P : Program} {w : World} {K : PySem.W.Frag} {mg : Str → Option Value} {base : Heap} {k : Nat}
def sp_l_laid : Sp := fun vs H Q _ => ∃ (p ln pl td : Addr) (ts as : List Addr) (ls zs : List Nm) (qs : List (List Nat)) (tis : List Ti), vs = [.ref p, .ref ln, .ref pl, .ref td] ∧ Bag H p ∧ ln ≠ p ∧ H ln = some (.lst (ls.map nS)) ∧ ls.length ≤ 8 ∧
  PlAt p H pl ts zs as qs ∧ qs.length ≤ 28 ∧ (∀ js ∈ qs, 1 ≤ js.length ∧ js.length ≤ 8 ∧ ∀ j ∈ js, j < ls.length) ∧ TiD H td tis ∧ tis.length ≤ 100 ∧
  ∀ (H' : Hp) (r : Addr) (sts : List (Nm × Nm)) (jns : List (Nm × List Nm)) (rws : List Ti), Keep p H H' → Bag H' p → NetAt H' r ls sts jns rws → sts.Perm ((zs.zip qs).filterMap (stOf ls)) → jns.Perm ((zs.zip qs).filterMap (jnOf ls)) → rws.Perm tis → H r = none → Q (.ref r) H'
set_option maxHeartbeats 8000000 in
theorem ok_l_laid (T : Defs K mg) : FnOk P w K mg base CX0 (k + 2) T.a_l_laid T.d_l_laid ["_law_bag_here", "_law_lines", "_law_places_here", "_law_ties"] sp_l_laid := by
  have G_l_take : FnOk P w K mg base CX0 (k + 1) _ _ _ _ := ok_l_take T
  refine T.F_l_laid.ok sc_l_laid (fun vs H Q E h => ?_) (fun cdv A outer s H vs Q E hr h => ?_)
  · obtain ⟨p, ln, pl, td, ts, as, ls, zs, qs, tis, rfl, _⟩ := h
    rfl
  · obtain ⟨p, ln, pl, td, ts, as, ls, zs, qs, tis, rfl, b, nlp, eln, l8, pa, q28, hqs, htd, t100, q⟩ := h
    refine ⟨_, PSs.nox
(pss_cons (ps_par3 (i := 4) (j := 5) (l := 6) rfl sc_l_laid.nd rfl rfl rfl (by decide) (by decide) (by decide) rfl rfl rfl (pa_cons (pe_lst pa_nil) (pa_cons (pe_lst pa_nil) (pa_cons (pe_lst pa_nil) pa_nil))) (by rfl))
    (pss_cons (ps_for PassesOwn.never rfl (pi_list (pv 2)) (pg_tup rfl (pgs_cons (pg_name (i := 7) sc_l_laid.nd rfl (.inl rfl)) (pgs_cons (pg_name (i := 8) sc_l_laid.nd rfl (.inl rfl)) pgs_nil)))
      (pss_one (ps_if (pt_cmpR op_eq (pe_callB (r := rLenS K) call_lenS (by rfl) T.z_len (by decide +kernel) (pa_cons (pv 8) pa_nil)) (pe_int) (nomark _))
        (pss_one (ps_expr (pe_bm PySem.F.plainAttrs_list PySem.F.slot_list_insert PySem.F.type_list_insert mt_insert (pv 4) (pa_cons (pe_call G_l_take hr (by rfl) T.g_l_take T.F_l_take.kp T.b_l_take .nil pass0 (pa_cons (pv 0) (pa_cons (pe_op op_add (pe_callB (r := rLenS K) call_lenS (by rfl) T.z_len (by decide +kernel) (pa_cons (pv 4) pa_nil)) (pe_int)) pa_nil))) (pa_cons (pe_tup (pa_cons (pv 7) (pa_cons (pe_ix (r := rIxL K) ix_list (pv 1) (pe_ix (r := rIxL K) ix_list (pv 8) (pe_int) (fun _ _ => rfl)) (fun _ _ => rfl)) pa_nil))) pa_nil)))))
        (pss_one (ps_expr (pe_bm PySem.F.plainAttrs_list PySem.F.slot_list_insert PySem.F.type_list_insert mt_insert (pv 5) (pa_cons (pe_call G_l_take hr (by rfl) T.g_l_take T.F_l_take.kp T.b_l_take .nil pass0 (pa_cons (pv 0) (pa_cons (pe_op op_add (pe_callB (r := rLenS K) call_lenS (by rfl) T.z_len (by decide +kernel) (pa_cons (pv 5) pa_nil)) (pe_int)) pa_nil))) (pa_cons (pe_tup (pa_cons (pv 7) (pa_cons (pe_callTy call_tuple_of (by rfl) T.z_tuple (by decide +kernel) (pa_cons (pe_lc (own := [("_law_line", 12)]) (g := gName 12) rfl sc_l_laid.nd (pi_list (pv 8)) (blkOk_by (N := N_l_laid) (sc := defScope s_l_laid) (by decide +kernel)) (fun _ _ _ _ _ => (pg_name (i := 12) sc_l_laid.nd rfl (.inl rfl))) (fun _ _ _ _ _ => pts_nil) (fun _ _ _ _ _ => (pe_ix (r := rIxL K) ix_list (pv 1) (pv 12) (fun _ _ => rfl)))) pa_nil)) pa_nil))) pa_nil))))))))
    (pss_cons (ps_lock (ps_for PassesOwn.never rfl (pi_keys (pv 3)) (pg_tup rfl (pgs_cons (pg_name (i := 9) sc_l_laid.nd rfl (.inl rfl)) (pgs_cons (pg_name (i := 10) sc_l_laid.nd rfl (.inl rfl)) pgs_nil)))
      (pss_cons (ps_set (i := 11) sc_l_laid.nd rfl (.inl rfl) (pe_op op_catT (pe_tup (pa_cons (pv 9) (pa_cons (pv 10) pa_nil))) (pe_dget (hu_of hr) (pv 3) (pe_tup (pa_cons (pv 9) (pa_cons (pv 10) pa_nil))) (fun _ _ => rfl))))
      (pss_one (ps_expr (pe_bm PySem.F.plainAttrs_list PySem.F.slot_list_insert PySem.F.type_list_insert mt_insert (pv 6) (pa_cons (pe_call G_l_take hr (by rfl) T.g_l_take T.F_l_take.kp T.b_l_take .nil pass0 (pa_cons (pv 0) (pa_cons (pe_op op_add (pe_callB (r := rLenS K) call_lenS (by rfl) T.z_len (by decide +kernel) (pa_cons (pv 6) pa_nil)) (pe_int)) pa_nil))) (pa_cons (pv 11) pa_nil))))))))
    (pss_one (ps_ret (pe_tup (pa_cons (pe_callTy (r := rTupF K) call_tuple_ofF (by rfl) T.z_tuple (by decide +kernel) (pa_cons (pv 1) pa_nil)) (pa_cons (pe_callTy (r := rTupF K) call_tuple_ofF (by rfl) T.z_tuple (by decide +kernel) (pa_cons (pv 4) pa_nil)) (pa_cons (pe_callTy (r := rTupF K) call_tuple_ofF (by rfl) T.z_tuple (by decide +kernel) (pa_cons (pv 5) pa_nil)) (pa_cons (pe_callTy (r := rTupF K) call_tuple_ofF (by rfl) T.z_tuple (by decide +kernel) (pa_cons (pv 6) pa_nil)) pa_nil))))))))))
      , ?_⟩
    refine ⟨Nat.zero_le _, fun S nS' => ⟨Nat.zero_le _, fun J nJ' => ⟨Nat.zero_le _, fun R nR' => ⟨_, _, _, rfl, ?_⟩⟩⟩⟩
    have nJ0 : H J = none := (same_upd nS').free nJ'
    have nR1 := (same_upd nJ').free nR'
    have nR0 : H R = none := (same_upd nS').free nR1
    have eS0 : (upd (upd (upd H S (.lst [])) J (.lst [])) R (.lst [])) S = some (.lst (([] : List Addr).map V.ref)) := same_upd nR' _ _ (same_upd nJ' _ _ upd_same)
    have eJ0 : (upd (upd (upd H S (.lst [])) J (.lst [])) R (.lst [])) J = some (.lst (([] : List Addr).map V.ref)) := same_upd nR' _ _ upd_same
    have eR0 : (upd (upd (upd H S (.lst [])) J (.lst [])) R (.lst [])) R = some (.lst (([] : List Addr).map V.ref)) := upd_same
    have s0 : Same H (upd (upd (upd H S (.lst [])) J (.lst [])) R (.lst [])) := (same_upd nS').trans ((same_upd nJ').trans (same_upd nR'))
    have nSJ : S ≠ J := fun z => by rw [← z, upd_same] at nJ'; cases nJ'
    have nJR : J ≠ R := fun z => by rw [← z, upd_same] at nR'; cases nR'
    have nSR : S ≠ R := fun z => by rw [← z, upd_ne nSJ, upd_same] at nR'; cases nR'
    have nSp : S ≠ p := b.ne nS'
    have nJp : J ≠ p := b.ne nJ0
    have nRp : R ≠ p := b.ne nR0
    have b0 := b.keep s0
    generalize upd (upd (upd H S (.lst [])) J (.lst [])) R (.lst []) = H1 at eS0 eJ0 eR0 s0 b0 ⊢
    have lts : (ts.map V.ref).length = (zs.zip qs).length := by rw [List.length_map, List.length_zip, pa.lt, pa.lz, Nat.min_self]
    refine ⟨.ref pl, rfl, pl, rfl, ⟨_, SqL.of (s0 _ _ pa.lst)⟩, ?_⟩
    refine for_it (walk_list (xs := ts.map V.ref)) (fun i σ H3 => ∃ (y7 y8 : Option V) (sa ja : List Addr) (sts : List (Nm × Nm)) (jns : List (Nm × List Nm)), σ = [some (.ref p), some (.ref ln), some (.ref pl), some (.ref td), some (.ref S), some (.ref J), some (.ref R), y7, y8, none, none, none, none] ∧ Keep p H H3 ∧ Bag H3 p ∧ H3 S = some (.lst (sa.map V.ref)) ∧ H3 J = some (.lst (ja.map V.ref)) ∧ H3 R = some (.lst (([] : List Addr).map V.ref)) ∧ Paired (StAt H3) sa sts ∧ Paired (JnAt H3) ja jns ∧ sa.length ≤ i ∧ ja.length ≤ i ∧ sts.Perm (((zs.zip qs).take i).filterMap (stOf ls)) ∧ jns.Perm (((zs.zip qs).take i).filterMap (jnOf ls)))
      ⟨none, none, [], [], [], [], rfl, .of s0, b0, eS0, eJ0, eR0, .nil, .nil, Nat.le_refl _, Nat.le_refl _, by rw [List.take_zero]; exact .refl _, by rw [List.take_zero]; exact .refl _⟩ (fun i σ H3 _ hp => ?_) (fun i x σ H3₀ H3 hi hp y => ?_) (fun σ H3 hp => ?_)
    · obtain ⟨y7, y8, sa, ja, sts, jns, rfl, k3, _⟩ := hp
      exact SqL.of (k3 _ _ pa.np.1 pa.lst)
    · obtain ⟨rfl, ex⟩ := y
      obtain ⟨y7, y8, sa, ja, sts, jns, rfl, k3, b3, eS, eJ, eR, hS, hJ, lS, lJ, pS, pJ⟩ := hp
      obtain ⟨t, et, rfl⟩ : ∃ t, ts[i]? = some t ∧ x = .ref t := by
        rw [List.getElem?_map] at ex
        cases h : ts[i]? with
        | none => rw [h] at ex; cases ex
        | some t => rw [h] at ex; exact ⟨t, rfl, (Option.some.inj ex).symm⟩
      obtain ⟨pr, epr, etup⟩ := paired_get pa.tup et
      rw [List.getElem?_zip_eq_some, List.getElem?_map, List.getElem?_map] at epr
      obtain ⟨z, ez, ez1⟩ : ∃ z, zs[i]? = some z ∧ pr.1 = nS z := by
        cases h : zs[i]? with
        | none => rw [h] at epr; cases epr.1
        | some z => rw [h] at epr; exact ⟨z, rfl, (Option.some.inj epr.1).symm⟩
      obtain ⟨a, ea, ea1⟩ : ∃ a, as[i]? = some a ∧ pr.2 = .ref a := by
        cases h : as[i]? with
        | none => rw [h] at epr; cases epr.2
        | some z => rw [h] at epr; exact ⟨z, rfl, (Option.some.inj epr.2).symm⟩
      rw [ez1, ea1] at etup
      obtain ⟨js, ejs, eas⟩ := paired_get pa.ll ea
      have hjs := hqs js (List.mem_of_getElem? ejs)
      have nap := pa.np.2.2 a (List.mem_of_getElem? ea)
      have ntp := pa.np.2.1 t (List.mem_of_getElem? et)
      have e3t := k3 _ _ ntp etup
      have e3a := k3 _ _ nap eas
      have e3l := k3 _ _ nlp eln
      have tk1 : (zs.zip qs).take (i + 1) = (zs.zip qs).take i ++ [(z, js)] := by
        rw [List.take_add_one, (List.getElem?_zip_eq_some (l₁ := zs) (l₂ := qs) (z := (z, js)) (i := i)).mpr ⟨ez, ejs⟩]
        rfl
      have i28 : i < 28 := by
        rw [lts, List.length_zip] at hi
        omega
      refine ⟨t, _, rfl, SqT.of e3t, rfl, _, _, rfl, _, [], rfl, rfl, ?_⟩
      refine ⟨.ref a, rfl, a, jV js, rfl, .inl (SqL.of e3a), rfl, _, rfl, ite2 (fun c => ?_) (fun c => ?_)⟩
      · have c : js.length = 1 := by
          have c := V.int.inj (of_decide_eq_true c)
          rw [List.length_map] at c
          omega
        obtain ⟨j, rfl⟩ := List.length_eq_one_iff.mp c
        have hj : j < ls.length := hjs.2.2 j (by simp)
        have gl : (ls.map nS)[j]? = some (nS (ls.getD j [])) := by
          rw [List.getElem?_map, List.getElem?_eq_getElem hj, List.getD_eq_getElem?_getD, List.getElem?_eq_getElem hj]
          rfl
        refine ⟨.ref S, rfl, .inl ⟨rfl, _, SqL.of eS⟩, .ref p, rfl, .ref S, rfl, S, sa.map V.ref, rfl, .inl (SqL.of eS), _, 1, rfl, rfl, p, (sa.length : Int) + 1, by dsimp only; rw [List.length_map]; rfl, b3, by omega, by omega, fun H4 d k4 b4 d0 d1 => ?_⟩
        refine ⟨nS z, rfl, .ref ln, rfl, .ref a, rfl, a, jV [j], 0, .int (j : Nat), rfl, rfl, SqL.of (k4 _ _ nap e3a), atI_nat (j := 0) rfl, ln, _, (j : Nat), nS (ls.getD j []), rfl, rfl, SqL.of (k4 _ _ nlp e3l), atI_nat gl, two_sz, fun t' nt' => ?_⟩
        have eS4 := same_upd (o := .tup [nS z, nS (ls.getD j [])]) nt' _ _ (k4 _ _ nSp eS)
        refine ⟨S, _, d, .ref t', rfl, rfl, eS4, by rw [List.length_map]; exact small5000 (by omega), d0, by omega, ?_⟩
        have tk : TKF H3 (upd (upd H4 t' (.tup [nS z, nS (ls.getD j [])])) S (.lst ((sa.map V.ref).take d.toNat ++ [.ref t'] ++ (sa.map V.ref).drop d.toNat))) := (TKF.keep k4 b3).trans ((TKF.of (same_upd nt')).trans (.upd fun xs e => by rw [eS4] at e; cases e))
        have ntS : t' ≠ S := fun z => by rw [← z, upd_same] at eS4; cases eS4
        refine ⟨_, _, sa.take d.toNat ++ [t'] ++ sa.drop d.toNat, ja, sts.take d.toNat ++ [(z, ls.getD j [])] ++ sts.drop d.toNat, jns, rfl, (k3.trans (k4.trans (.of (same_upd nt')))).set nS', (b4.keep (same_upd nt')).at (upd_ne nSp.symm), by rw [upd_same, ins_map], ?_, ?_, ?_, paired_imp hJ (fun x _ y ⟨z, f1, f2⟩ => ⟨z, tk _ _ f1, tk _ _ f2⟩), ?_, by omega, ?_, ?_⟩
        · rw [upd_ne nSJ.symm]
          exact same_upd nt' _ _ (k4 _ _ nJp eJ)
        · rw [upd_ne nSR.symm]
          exact same_upd nt' _ _ (k4 _ _ nRp eR)
        · refine paired_ins _ (paired_imp hS fun x _ y e => tk _ _ e) ?_
          show (upd (upd H4 t' _) S _) t' = _
          rw [upd_ne ntS, upd_same]
        · simp only [List.length_append, List.length_take, List.length_drop, List.length_cons, List.length_nil]
          omega
        · rw [tk1, List.filterMap_append]
          exact (perm_ins _ _ _).trans (pS.append_right _)
        · rw [tk1, List.filterMap_append]
          show jns.Perm (_ ++ [])
          rw [List.append_nil]
          exact pJ
      · have c : js.length ≠ 1 := fun z => c (decide_eq_true (by rw [List.length_map, z]; rfl))
        refine ⟨.ref J, rfl, .inl ⟨rfl, _, SqL.of eJ⟩, .ref p, rfl, .ref J, rfl, J, ja.map V.ref, rfl, .inl (SqL.of eJ), _, 1, rfl, rfl, p, (ja.length : Int) + 1, by dsimp only; rw [List.length_map]; rfl, b3, by omega, by omega, fun H4 d k4 b4 d0 d1 => ?_⟩
        refine ⟨nS z, rfl, .ref a, rfl, a, rfl, ⟨_, SqL.of (k4 _ _ nap e3a)⟩, fun M nM => ?_⟩
        refine lc_it (walk_list (xs := jV js)) (fun n H5 => Same H4 H5 ∧ H5 M = some (.lst (((js.take n).map fun j => ls.getD j []).map nS))) ⟨same_upd nM, upd_same⟩ (fun n H5 _ pv => SqL.of (pv.1 _ _ (k4 _ _ nap e3a))) (fun n x H5 H6 hn pv y => ?_) (fun H5 pv => ?_)
        · obtain ⟨rfl, ex⟩ := y
          obtain ⟨s5, eM⟩ := pv
          obtain ⟨j, ej, rfl⟩ : ∃ j, js[n]? = some j ∧ x = .int (j : Nat) := by
            rw [List.getElem?_map] at ex
            cases h : js[n]? with
            | none => rw [h] at ex; cases ex
            | some t => rw [h] at ex; exact ⟨t, rfl, (Option.some.inj ex).symm⟩
          have hj : j < ls.length := hjs.2.2 j (List.mem_of_getElem? ej)
          have gl : (ls.map nS)[j]? = some (nS (ls.getD j [])) := by
            rw [List.getElem?_map, List.getElem?_eq_getElem hj, List.getD_eq_getElem?_getD, List.getElem?_eq_getElem hj]
            rfl
          refine ⟨rfl, yes_ ?_⟩
          refine ⟨.ref ln, rfl, .int (j : Nat), rfl, ln, _, (j : Nat), nS (ls.getD j []), rfl, rfl, SqL.of (s5 _ _ (k4 _ _ nlp e3l)), atI_nat gl, _, eM, ?_, same_set s5 nM, ?_⟩
          · rw [List.length_map, List.length_map, List.length_take]
            exact small5000 (by omega)
          · rw [upd_same, List.take_add_one, ej, List.map_append, List.map_append]
            rfl
        obtain ⟨s5, eM⟩ := pv
        rw [List.length_map, List.take_length] at eM
        refine ⟨M, _, rfl, .inl ⟨SqL.of eM, fun jt njt => ⟨two_sz, fun t' nt' => ?_⟩⟩⟩
        have s6 := s5.trans ((same_upd (o := .tup ((js.map fun j => ls.getD j []).map nS)) njt).trans (same_upd (o := .tup [nS z, .ref jt]) nt'))
        have et' : (upd (upd H5 jt (.tup ((js.map fun j => ls.getD j []).map nS))) t' (.tup [nS z, .ref jt])) t' = some (.tup [nS z, .ref jt]) := upd_same
        have ejt : (upd (upd H5 jt (.tup ((js.map fun j => ls.getD j []).map nS))) t' (.tup [nS z, .ref jt])) jt = some (.tup ((js.map fun j => ls.getD j []).map nS)) := same_upd nt' _ _ upd_same
        generalize upd (upd H5 jt (.tup ((js.map fun j => ls.getD j []).map nS))) t' (.tup [nS z, .ref jt]) = H6 at s6 et' ejt ⊢
        have eJ6 := s6 _ _ (k4 _ _ nJp eJ)
        refine ⟨J, _, d, .ref t', rfl, rfl, eJ6, by rw [List.length_map]; exact small5000 (by omega), d0, by omega, ?_⟩
        have tk6 : TKF H6 (upd H6 J (.lst ((ja.map V.ref).take d.toNat ++ [.ref t'] ++ (ja.map V.ref).drop d.toNat))) := .upd fun xs e => by rw [eJ6] at e; cases e
        have tk : TKF H3 (upd H6 J (.lst ((ja.map V.ref).take d.toNat ++ [.ref t'] ++ (ja.map V.ref).drop d.toNat))) := (TKF.keep k4 b3).trans ((TKF.of s6).trans tk6)
        refine ⟨_, _, sa, ja.take d.toNat ++ [t'] ++ ja.drop d.toNat, sts, jns.take d.toNat ++ [(z, js.map fun j => ls.getD j [])] ++ jns.drop d.toNat, rfl, (k3.trans (k4.trans (.of s6))).set nJ0, (b4.keep s6).at (upd_ne nJp.symm), ?_, by rw [upd_same, ins_map], ?_, paired_imp hS fun x _ y e => tk _ _ e, ?_, by omega, ?_, ?_, ?_⟩
        · rw [upd_ne nSJ]
          exact s6 _ _ (k4 _ _ nSp eS)
        · rw [upd_ne nJR.symm]
          exact s6 _ _ (k4 _ _ nRp eR)
        · exact paired_ins _ (paired_imp hJ (fun x _ y ⟨z, f1, f2⟩ => ⟨z, tk _ _ f1, tk _ _ f2⟩)) ⟨jt, tk6 _ _ et', tk6 _ _ ejt⟩
        · simp only [List.length_append, List.length_take, List.length_drop, List.length_cons, List.length_nil]
          omega
        · rw [tk1, List.filterMap_append]
          show sts.Perm (_ ++ (([(z, js)] : List (Nm × List Nat)).filterMap (stOf ls)))
          rw [show ([(z, js)] : List (Nm × List Nat)).filterMap (stOf ls) = [] by
            rw [List.filterMap_cons]
            unfold stOf
            rw [if_neg c]
            rfl, List.append_nil]
          exact pS
        · rw [tk1, List.filterMap_append]
          rw [show ([(z, js)] : List (Nm × List Nat)).filterMap (jnOf ls) = [(z, js.map fun j => ls.getD j [])] by
            rw [List.filterMap_cons]
            unfold jnOf
            rw [if_neg c]
            rfl]
          exact (perm_ins _ _ _).trans (pJ.append_right _)
    · obtain ⟨y7, y8, sa, ja, sts, jns, rfl, k3, b3, eS, eJ, eR, hS, hJ, lS, lJ, pS, pJ⟩ := hp
      rw [lts, List.take_length] at pS pJ
      obtain ⟨kvs, etd, knd, hkt⟩ := htd
      have ntp : td ≠ p := fun z => by
        obtain ⟨g, r, e, _⟩ := b
        rw [z, e] at etd
        cases etd
      have etd3 := k3 _ _ ntp etd
      refine ⟨td, .dT kvs, etd3, trivial, fun od => ?_⟩
      have tkl : TKF H3 (upd H3 td (.frz od (.dT kvs))) := .upd fun xs e => by rw [etd3] at e; cases e
      have nStd : S ≠ td := fun z => by rw [← z, nS'] at etd; cases etd
      have nJtd : J ≠ td := fun z => by rw [← z, nJ0] at etd; cases etd
      have nRtd : R ≠ td := fun z => by rw [← z, nR0] at etd; cases etd
      refine ⟨.ref td, rfl, td, od, rfl, .inr ⟨kvs, upd_same, ?_⟩⟩
      refine for_it (walk_keysT (kvs := kvs)) (fun i σ H5 => ∃ (y9 y10 y11 : Option V) (ra : List Addr) (rws : List Ti), σ = [some (.ref p), some (.ref ln), some (.ref pl), some (.ref td), some (.ref S), some (.ref J), some (.ref R), y7, y8, y9, y10, y11, none] ∧ Keep p (upd H td (.frz od (.dT kvs))) H5 ∧ Bag H5 p ∧ H5 td = some (.frz od (.dT kvs)) ∧ H5 S = some (.lst (sa.map V.ref)) ∧ H5 J = some (.lst (ja.map V.ref)) ∧ TKF H3 H5 ∧ H5 R = some (.lst (ra.map V.ref)) ∧ Paired (TiAt H5) ra rws ∧ ra.length ≤ i ∧ rws.Perm (tis.take i))
        ⟨none, none, none, [], [], rfl, fun c o nc ec => ?_, b3.at (upd_ne ntp.symm), upd_same, by rw [upd_ne nStd]; exact eS, by rw [upd_ne nJtd]; exact eJ, tkl, by rw [upd_ne nRtd]; exact eR, .nil, Nat.le_refl _, by rw [List.take_zero]⟩ (fun i σ H5 _ hp => ?_) (fun i x σ H5₀ H5 hi hp y => ?_) (fun σ H5 hp => ?_)
      · by_cases z : c = td
        · rw [z, upd_same] at ec ⊢
          exact ec
        · rw [upd_ne z] at ec ⊢
          exact k3 _ _ nc ec
      · obtain ⟨y9, y10, y11, ra, rws, rfl, k5, b5, etd5, _⟩ := hp
        exact etd5
      · obtain ⟨rfl, kk, v, u, ekv, rfl, eu⟩ := y
        obtain ⟨y9, y10, y11, ra, rws, rfl, k5, b5, etd5, eS5, eJ5, tk5, eR5, hR, lR, pR⟩ := hp
        obtain ⟨ti, eti, ekk, v0, ev, ev0⟩ := paired_get hkt ekv
        dsimp only at ekk ev
        subst ekk
        subst ev
        have ev3 := (TKF.keep k3 b) _ _ ev0
        refine ⟨u, _, rfl, SqT.of eu, rfl, _, _, rfl, _, [], rfl, rfl, ?_⟩
        refine ⟨nS ti.a, rfl, nS ti.b, rfl, two_sz, fun u1 n1 => ?_⟩
        refine ⟨.ref td, rfl, nS ti.a, rfl, nS ti.b, rfl, two_sz, fun u2 n2 => ?_⟩
        refine ⟨td, .ref v0, rfl, .inr ⟨kvs, [Sum.inr (SX.S ti.a), Sum.inr (SX.S ti.b)], u2, .inr ⟨od, same_upd n2 _ _ (same_upd n1 _ _ etd5)⟩, rfl, upd_same, (val_at knd ekv).symm⟩, ?_⟩
        refine ⟨u1, v0, [nS ti.a, nS ti.b], [nS ti.ln, .int ti.ch], rfl, rfl, SqT.of (same_upd n2 _ _ upd_same), SqT.of (same_upd n2 _ _ (same_upd n1 _ _ (tk5 _ _ ev3))), by simp, four_sz (x := nS ti.a) (y := nS ti.b) (z := nS ti.ln) (u := .int ti.ch), fun h => (by cases h), fun _ u3 n3 => ?_⟩
        have s6 := (same_upd (o := .tup [nS ti.a, nS ti.b]) n1).trans ((same_upd (o := .tup [nS ti.a, nS ti.b]) n2).trans (same_upd (o := .tup ([nS ti.a, nS ti.b] ++ [nS ti.ln, .int ti.ch])) n3))
        have eu3 : (upd (upd (upd H5 u1 (.tup [nS ti.a, nS ti.b])) u2 (.tup [nS ti.a, nS ti.b])) u3 (.tup ([nS ti.a, nS ti.b] ++ [nS ti.ln, .int ti.ch]))) u3 = some (.tup [nS ti.a, nS ti.b, nS ti.ln, .int ti.ch]) := upd_same
        generalize upd (upd (upd H5 u1 (.tup [nS ti.a, nS ti.b])) u2 (.tup [nS ti.a, nS ti.b])) u3 (.tup ([nS ti.a, nS ti.b] ++ [nS ti.ln, .int ti.ch])) = H6 at s6 eu3 ⊢
        have eR6 := s6 _ _ eR5
        have b6 := b5.keep s6
        have il : i < tis.length := (List.getElem?_eq_some_iff.mp eti).1
        refine ⟨.ref R, rfl, .inl ⟨rfl, _, SqL.of eR6⟩, .ref p, rfl, .ref R, rfl, R, ra.map V.ref, rfl, .inl (SqL.of eR6), _, 1, rfl, rfl, p, (ra.length : Int) + 1, by dsimp only; rw [List.length_map]; rfl, b6, by omega, by omega, fun H7 d k7 b7 d0 d1 => ?_⟩
        have eR7 := k7 _ _ nRp eR6
        refine ⟨.ref u3, rfl, R, _, d, .ref u3, rfl, rfl, eR7, by rw [List.length_map]; exact small5000 (by omega), d0, by omega, ?_⟩
        have tk7 : TKF H6 (upd H7 R (.lst ((ra.map V.ref).take d.toNat ++ [.ref u3] ++ (ra.map V.ref).drop d.toNat))) := (TKF.keep k7 b6).trans (.upd fun xs e => by rw [eR7] at e; cases e)
        have nRf : (upd H td (.frz od (.dT kvs))) R = none := by rw [upd_ne nRtd]; exact nR0
        refine ⟨_, _, _, ra.take d.toNat ++ [u3] ++ ra.drop d.toNat, rws.take d.toNat ++ [ti] ++ rws.drop d.toNat, rfl, (k5.trans ((Keep.of s6).trans k7)).set nRf, b7.at (upd_ne nRp.symm), ?_, ?_, ?_, tk5.trans ((TKF.of s6).trans tk7), by rw [upd_same, ins_map], paired_ins _ (paired_imp hR fun x _ y e => tk7 _ _ (s6 _ _ e)) (tk7 _ _ eu3), ?_, ?_⟩
        · rw [upd_ne nRtd.symm]
          exact k7 _ _ ntp (s6 _ _ etd5)
        · rw [upd_ne nSR]
          exact k7 _ _ nSp (s6 _ _ eS5)
        · rw [upd_ne nJR]
          exact k7 _ _ nJp (s6 _ _ eJ5)
        · simp only [List.length_append, List.length_take, List.length_drop, List.length_cons, List.length_nil]
          omega
        · rw [List.take_add_one, eti]
          exact (perm_ins _ _ _).trans (pR.append_right _)
      · obtain ⟨y9, y10, y11, ra, rws, rfl, k5, b5, etd5, eS5, eJ5, tk5, eR5, hR, lR, pR⟩ := hp
        rw [paired_len hkt, List.take_length] at pR
        refine ⟨etd5, ?_⟩
        have kf : Keep p H (upd H5 td (.dT kvs)) := fun c o nc ec => by
          by_cases z : c = td
          · rw [z] at ec ⊢
            rw [upd_same, ← etd]
            exact ec
          · rw [upd_ne z]
            exact k5 _ _ nc (by rw [upd_ne z]; exact ec)
        have bf : Bag (upd H5 td (.dT kvs)) p := b5.at (upd_ne ntp.symm)
        have tkf : TKF H5 (upd H5 td (.dT kvs)) := .upd fun xs e => by rw [etd5] at e; cases e
        have eSf : (upd H5 td (.dT kvs)) S = some (.lst (sa.map V.ref)) := by rw [upd_ne nStd]; exact eS5
        have eJf : (upd H5 td (.dT kvs)) J = some (.lst (ja.map V.ref)) := by rw [upd_ne nJtd]; exact eJ5
        have eRf : (upd H5 td (.dT kvs)) R = some (.lst (ra.map V.ref)) := by rw [upd_ne nRtd]; exact eR5
        generalize upd H5 td (.dT kvs) = Hf at kf bf tkf eSf eJf eRf ⊢
        have elf := kf _ _ nlp eln
        refine ⟨.ref ln, rfl, ln, _, rfl, SqL.of elf, fun a Ha na sa' ta' ua => ?_⟩
        refine ⟨.ref S, rfl, S, _, rfl, SqL.of (sa' _ _ eSf), fun b' Hb nb sb' tb' ub => ?_⟩
        refine ⟨.ref J, rfl, J, _, rfl, SqL.of (sb' _ _ (sa' _ _ eJf)), fun c Hc nc sc' tc' uc => ?_⟩
        refine ⟨.ref R, rfl, R, _, rfl, SqL.of (sc' _ _ (sb' _ _ (sa' _ _ eRf))), fun d Hd nd sd' td' ud => ?_⟩
        refine ⟨four_sz, fun r nr => ?_⟩
        have sr' := same_upd (o := .tup [.ref a, .ref b', .ref c, .ref d]) nr
        have sf := sa'.trans (sb'.trans (sc'.trans (sd'.trans sr')))
        have tkr : TKF H5 _ := tkf.trans (.of sf)
        have nrf : Hf r = none := sa'.free (sb'.free (sc'.free (sd'.free nr)))
        refine q _ r sts jns rws (kf.trans (.of sf)) (bf.keep sf) ⟨a, b', c, d, sa, ja, ra, upd_same, (((ta'.same sb').same sc').same sd').same sr', ((tb'.same sc').same sd').same sr', paired_imp hS fun x _ y e => tkr _ _ (tk5 _ _ e), (tc'.same sd').same sr', paired_imp hJ (fun x _ y ⟨z, f1, f2⟩ => ⟨z, tkr _ _ (tk5 _ _ f1), tkr _ _ (tk5 _ _ f2)⟩), td'.same sr', paired_imp hR fun x _ y e => tkr _ _ e⟩ pS pJ pR (kf.free b nrf bf)
end
end Th
namespace Th
open PySem PySem.Spec PyProof.Rows L2
def TieOk (zs : List Nm) (qs : List (List Nat)) (ls : List Nm) (t : Ti) : Prop := ∃ (i j x : Nat) (a b : List Nat), i ≠ j ∧ zs[i]? = some t.a ∧ zs[j]? = some t.b ∧ qs[i]? = some a ∧ qs[j]? = some b ∧ x ∈ a ∧ x ∈ b ∧ ls[x]? = some t.ln ∧ 1 ≤ t.ch ∧ t.ch ≤ 9999
def Apart (s t : Ti) : Prop := ¬ (s.a = t.a ∧ s.b = t.b) ∧ ¬ (s.a = t.b ∧ s.b = t.a)
structure NetOk (ls zs : List Nm) (qs : List (List Nat)) (J : Nat) (tis : List Ti) : Prop where
  l1 : 1 ≤ ls.length
  l8 : ls.length ≤ 8
  lnd : ls.Nodup
  lnm : ∀ z ∈ ls, IsNm z
  q : PlQ ls.length J qs
  lz : zs.length = qs.length
  znd : zs.Nodup
  znm : ∀ z ∈ zs, IsNm z
  ok : ∀ t ∈ tis, TieOk zs qs ls t
  ap : tis.Pairwise Apart
  way : ∀ i, i < J + 1 → ∃ t ∈ tis, zs[i]? = some t.a ∧ zs[i + 1]? = some t.b
  t40 : tis.length ≤ 40
theorem nms_of {ls : List Nm} (h : ∀ k l, ls[k]? = some l → NmAt k l) : ∀ z ∈ ls, IsNm z := fun z hz => by
  obtain ⟨k, hk⟩ := List.getElem?_of_mem hz
  exact (h k z hk).nm
theorem PlAt.at {p : Addr} {H : Hp} {l : Addr} {ts as : List Addr} {zs qs : List (List Nat)} (h : PlAt p H l ts zs as qs) {i : Nat} (hi : i < qs.length) :
    ∃ t z a js, ts[i]? = some t ∧ zs[i]? = some z ∧ as[i]? = some a ∧ qs[i]? = some js ∧ H t = some (.tup [nS z, .ref a]) ∧ H a = some (.lst (jV js)) ∧ t ≠ p ∧ a ≠ p := by
  have et : ts[i]? = some (ts[i]'(by rw [h.lt]; exact hi)) := List.getElem?_eq_getElem _
  obtain ⟨pr, epr, etup⟩ := paired_get h.tup et
  rw [List.getElem?_zip_eq_some, List.getElem?_map, List.getElem?_map] at epr
  obtain ⟨z, ez, ez1⟩ : ∃ z, zs[i]? = some z ∧ pr.1 = nS z := by
    cases h : zs[i]? with
    | none => rw [h] at epr; cases epr.1
    | some z => rw [h] at epr; exact ⟨z, rfl, (Option.some.inj epr.1).symm⟩
  obtain ⟨a, ea, ea1⟩ : ∃ a, as[i]? = some a ∧ pr.2 = .ref a := by
    cases h : as[i]? with
    | none => rw [h] at epr; cases epr.2
    | some z => rw [h] at epr; exact ⟨z, rfl, (Option.some.inj epr.2).symm⟩
  rw [ez1, ea1] at etup
  obtain ⟨js, ejs, eas⟩ := paired_get h.ll ea
  exact ⟨_, z, a, js, et, ez, ea, ejs, etup, eas, h.np.2.1 _ (List.mem_of_getElem? et), h.np.2.2 a (List.mem_of_getElem? ea)⟩
theorem PlQ.each {n J : Nat} {qs : List (List Nat)} (h : PlQ n J qs) (n8 : n ≤ 8) : ∀ js ∈ qs, 1 ≤ js.length ∧ js.length ≤ 8 ∧ ∀ j ∈ js, j < n := by
  obtain ⟨f, l, ss, tw, rfl, h1, h2, hf, hl, htw, _, _⟩ := h.form
  have one : ∀ x, x < n → 1 ≤ [x].length ∧ [x].length ≤ 8 ∧ ∀ j ∈ [x], j < n := fun x hx => ⟨by simp, by simp, fun j hj => by rw [List.mem_singleton.mp hj]; exact hx⟩
  intro js hj
  rcases List.mem_append.mp hj with z | z
  · rcases List.mem_append.mp z with z | z
    · rcases List.mem_cons.mp z with z | z
      · rw [z]
        exact one f hf
      · have s := h2 js z
        exact ⟨by have := s.two; omega, s.len8 n8, s.lt⟩
    · rw [List.mem_singleton.mp z]
      exact one l hl
  · obtain ⟨x, hx, rfl⟩ := List.mem_map.mp z
    exact one x (htw x hx)
theorem PlQ.count {n J : Nat} {qs : List (List Nat)} (h : PlQ n J qs) : qs.countP (fun js => decide (1 < js.length)) = J := by
  obtain ⟨f, l, ss, tw, rfl, h1, h2, _⟩ := h.form
  have e1 : ss.countP (fun js => decide (1 < js.length)) = ss.length := List.countP_eq_length.mpr fun js hj => decide_eq_true (by have := (h2 js hj).two; omega)
  have e2 : (tw.map fun x => [x]).countP (fun js : List Nat => decide (1 < js.length)) = 0 := List.countP_eq_zero.mpr fun js hj => by
    obtain ⟨x, _, rfl⟩ := List.mem_map.mp hj
    simp
  rw [List.countP_append, List.countP_append, List.countP_cons, e1, e2, List.countP_singleton, h1]
  simp
theorem tid_none {H : Hp} {kvs : List (List Key × V)} {tis : List Ti} (h : Paired (fun kv (t : Ti) => kv.1 = [Sum.inr (SX.S t.a), Sum.inr (SX.S t.b)] ∧ ∃ v, kv.2 = .ref v ∧ H v = some (.tup [nS t.ln, .int t.ch])) kvs tis) (a b : Nm) :
    valV kvs [Sum.inr (SX.S a), Sum.inr (SX.S b)] = none ↔ ∀ t ∈ tis, ¬ (t.a = a ∧ t.b = b) := by
  induction h with
  | nil => exact ⟨fun _ t ht => (by cases ht), fun _ => rfl⟩
  | @cons kv t kvs tis hk _ ih =>
    by_cases e : t.a = a ∧ t.b = b
    · rw [valV_pos (by rw [hk.1, e.1, e.2])]
      exact ⟨fun z => (by cases z), fun z => absurd e (z t (List.mem_cons_self ..))⟩
    · rw [valV_neg (fun z => e (by
        rw [hk.1] at z
        simp only [List.cons.injEq, Sum.inr.injEq, and_true] at z
        exact ⟨SX.S_inj z.1, SX.S_inj z.2⟩)), ih]
      exact ⟨fun z x hx => (List.mem_cons.mp hx).elim (fun q => by rw [q]; exact e) (z x), fun z x hx => z x (List.mem_cons_of_mem _ hx)⟩
theorem key_none {kvs : List (List Key × V)} {k : List Key} (h : valV kvs k = none) : k ∉ kvs.map (·.1) := fun z => by
  obtain ⟨kv, h1, h2⟩ := List.mem_map.mp z
  have := valV_any k kvs
  rw [h] at this
  have h3 : (kvs.any fun kv => decide (kv.1 = k)) = true := List.any_eq_true.mpr ⟨kv, h1, decide_eq_true h2⟩
  rw [h3] at this
  cases this
theorem jV_app (a b : List Nat) : jV (a ++ b) = jV a ++ jV b := List.map_append
theorem TiD.keep {p td : Addr} {H H' : Hp} {tis : List Ti} (h : TiD H td tis) (k : Keep p H H') (b : Bag H p) : TiD H' td tis := by
  obtain ⟨kvs, e, nd, hp⟩ := h
  have n : td ≠ p := fun z => by
    obtain ⟨g, r, e', _⟩ := b
    rw [z, e'] at e
    cases e
  exact ⟨kvs, k _ _ n e, nd, paired_imp hp fun kv _ t ⟨h1, v, h2, h3⟩ => ⟨h1, v, h2, (TKF.keep k b) _ _ h3⟩⟩
theorem Chained.at : ∀ {l : List (List Nat)} {i : Nat} {a b : List Nat}, Chained l → l[i]? = some a → l[i + 1]? = some b → ∃ x, x ∈ a ∧ x ∈ b
  | [], _, _, _, _, h, _ => by simp at h
  | [_], 0, _, _, _, _, h => by simp at h
  | [_], i + 1, _, _, _, h, _ => by simp at h
  | c :: d :: r, 0, a, b, hc, h1, h2 => by
    have e1 := Option.some.inj h1
    have e2 := Option.some.inj h2
    subst e1
    subst e2
    exact hc.1
  | c :: d :: r, i + 1, a, b, hc, h1, h2 => Chained.at (l := d :: r) (i := i) hc.2 h1 h2
theorem PlQ.chain {n J : Nat} {qs : List (List Nat)} (h : PlQ n J qs) {i : Nat} (hi : i < J + 1) {a b : List Nat} (e1 : qs[i]? = some a) (e2 : qs[i + 1]? = some b) : ∃ x, x ∈ a ∧ x ∈ b := by
  obtain ⟨f, l, ss, tw, rfl, h1, _, _, _, _, hc, _⟩ := h.form
  have hl : (([f] :: ss) ++ [[l]]).length = J + 2 := by simp [h1]
  rw [List.getElem?_append_left (by omega)] at e1 e2
  exact Chained.at hc e1 e2
abbrev jI (js : List Nat) : List Int := js.map fun j => ((j : Nat) : Int)
theorem jV_ints (js : List Nat) : jV js = (jI js).map V.int := by rw [List.map_map]; rfl
/-- a place as data -/
abbrev plD (z : Nm) (js : List Nat) : PyData := .tuple [.str (SX.S z), dI (jI js)]
theorem dt_pl {H : Hp} {t a : Addr} {z : Nm} {js : List Nat} (e : H t = some (.tup [nS z, .ref a])) (ea : H a = some (.lst (jV js))) (h : js.length ≤ 5000) : Dt SA H (.ref t) (plD z js) :=
  .tup trivial e (by show 2 ≤ 5000; decide) (.cons (.str _) (.cons (dt_ints (by rw [ea, jV_ints]) (by rw [List.length_map]; exact h)) .nil))
theorem lay_pl {z : Nm} (hz : IsNm z) (js : List Nat) : (plD z js).canLay0 = true := by
  show (PyData.strOk (SX.S z) && (PyData.canLay0 (dI (jI js)) && true)) = true
  rw [lay_ints, nm_ok hz]
  rfl
theorem shaped_pl {z : Nm} (hz : IsNm z) (js : List Nat) : SeqAt.shaped (plD z js) = true := Bool.and_eq_true_iff.mpr ⟨lay_pl hz js, decide_eq_true (by
  show max 0 (max (PyData.depth (dI (jI js))) 0) + 1 ≤ _
  rw [depth_ints]
  decide)⟩
theorem eqv_pl {z z' : Nm} {js js' : List Nat} (h : PyData.eqv (plD z js) (plD z' js') = true) : z = z' := by
  have h : (PyData.eqv (.str (SX.S z)) (.str (SX.S z')) && (PyData.eqv (dI (jI js)) (dI (jI js')) && true)) = true := h
  exact SX.S_inj (eq_of_beq (Bool.and_eq_true_iff.mp h).1)
theorem in_ints {x : Nat} {js : List Nat} : inV (.int (x : Nat)) (jV js) = decide (x ∈ js) := by
  unfold inV
  rw [List.any_map]
  by_cases h : x ∈ js
  · rw [decide_eq_true h]
    exact List.any_eq_true.mpr ⟨x, h, by show ((x : Int) == (x : Int)) = true; simp⟩
  · rw [decide_eq_false h]
    refine List.any_eq_false.mpr fun y hy z => h ?_
    have z : (((y : Nat) : Int) == ((x : Nat) : Int)) = true := z
    have := eq_of_beq z
    rw [show x = y by omega]
    exact hy
theorem flat_ints (js : List Nat) : (jV js).all flatV = true := List.all_eq_true.mpr fun x hx => by
  obtain ⟨j, _, rfl⟩ := List.mem_map.mp hx
  rfl
section
variable {P : Program} {w : World} {K : PySem.W.Frag} {mg : Str → Option Value} {base : Heap} {k : Nat}
def sp_l_net : Sp := fun vs H Q _ => ∃ p, vs = [.ref p] ∧ Bag H p ∧ ∀ (H' : Hp) (r nt wy : Addr) (ls zs : List Nm) (qs : List (List Nat)) (J : Nat) (tis : List Ti) (sts : List (Nm × Nm)) (jns : List (Nm × List Nm)) (rws : List Ti), Keep p H H' → Bag H' p → H' r = some (.tup [.ref nt, .ref wy]) →
  NetAt H' nt ls sts jns rws → TpF H' wy ((zs.take (J + 2)).map nS) → NetOk ls zs qs J tis → sts.Perm ((zs.zip qs).filterMap (stOf ls)) → jns.Perm ((zs.zip qs).filterMap (jnOf ls)) → rws.Perm tis → Q (.ref r) H'
set_option maxHeartbeats 8000000 in
theorem ok_l_net (T : Defs K mg) : FnOk P w K mg base CX0 (k + 4) T.a_l_net T.d_l_net ["_law_bag_here"] sp_l_net := by
  have G_l_take : FnOk P w K mg base CX0 (k + 3) _ _ _ _ := ok_l_take (k := k + 2) T
  have G_l_names : FnOk P w K mg base CX0 (k + 3) _ _ _ _ := ok_l_names (k := k + 1) T
  have G_l_places : FnOk P w K mg base CX0 (k + 3) _ _ _ _ := ok_l_places T
  have G_l_laid : FnOk P w K mg base CX0 (k + 3) _ _ _ _ := ok_l_laid (k := k + 1) T
  refine T.F_l_net.ok sc_l_net (fun vs H Q E h => ?_) (fun cdv A outer s H vs Q E hr h => ?_)
  · obtain ⟨p, rfl, _⟩ := h
    rfl
  · obtain ⟨p, rfl, b, q⟩ := h
    refine ⟨_, PSs.nox
(pss_cons (ps_set (i := 1) sc_l_net.nd rfl (.inl rfl) (pe_ix (r := rIxT K) ix_tup (pe_tup (pa_cons (pe_int) (pa_cons (pe_int) (pa_cons (pe_int) (pa_cons (pe_int) (pa_cons (pe_int) (pa_cons (pe_int) (pa_cons (pe_int) (pa_cons (pe_int) pa_nil))))))))) (pe_call G_l_take hr (by rfl) T.g_l_take T.F_l_take.kp T.b_l_take .nil pass0 (pa_cons (pv 0) (pa_cons (pe_int) pa_nil))) (fun _ _ => rfl)))
    (pss_cons (ps_set (i := 2) sc_l_net.nd rfl (.inl rfl) (pe_call G_l_names hr (by rfl) T.g_l_names T.F_l_names.kp T.b_l_names .nil pass0 (pa_cons (pv 0) (pa_cons (pv 1) pa_nil))))
    (pss_cons (ps_set (i := 3) sc_l_net.nd rfl (.inl rfl) (pe_call G_l_places hr (by rfl) T.g_l_places T.F_l_places.kp T.b_l_places .nil pass0 (pa_cons (pv 0) (pa_cons (pv 1) pa_nil))))
    (Evl.pss_cut (ps_if (pt_cmpR op_eq (pe_call G_l_take hr (by rfl) T.g_l_take T.F_l_take.kp T.b_l_take .nil pass0 (pa_cons (pv 0) (pa_cons (pe_int) pa_nil))) (pe_int) (nomark _))
      (pss_one (ps_asg (pe_ix (r := rIxT K) ix_tup (pe_ix (r := rIxL K) ix_list (pv 3) (pe_int) (fun _ _ => rfl)) (pe_int) (fun _ _ => rfl)) (pg_sub (pv 2) (pe_int) set_list)))
      pss_nil)
    (pss_cons (ps_set (i := 4) sc_l_net.nd rfl (.inl rfl) (pe_op op_add (pe_int) (pe_callB (r := rLenS K) call_lenS (by rfl) T.z_len (by decide +kernel) (pa_cons (pe_lc (own := [("_law_one", 7)]) (g := gName 7) rfl sc_l_net.nd (pi_list (pv 3)) (blkOk_by (N := N_l_net) (sc := defScope s_l_net) (by decide +kernel)) (fun _ _ _ _ _ => (pg_name (i := 7) sc_l_net.nd rfl (.inl rfl))) (fun _ _ _ _ _ => pts_one (pt_cmpR op_gt (pe_callB (r := rLenS K) call_lenS (by rfl) T.z_len (by decide +kernel) (pa_cons (pe_ix (r := rIxT K) ix_tup (pv 7) (pe_int) (fun _ _ => rfl)) pa_nil)) (pe_int) (nomark _))) (fun _ _ _ _ _ => (pv 7))) pa_nil))))
    (pss_cons (ps_set (i := 5) sc_l_net.nd rfl (.inl rfl) (pe_dnewT))
    (pss_cons (ps_for PassesOwn.never rfl (pi_range1 (by rfl) T.z_range (pa_cons (pe_op op_add (pe_op op_sub (pv 4) (pe_int)) (pe_call G_l_take hr (by rfl) T.g_l_take T.F_l_take.kp T.b_l_take .nil pass0 (pa_cons (pv 0) (pa_cons (pe_int) pa_nil)))) pa_nil)) (pg_name (i := 6) sc_l_net.nd rfl (.inl rfl))
      (pss_cons (ps_set (i := 7) sc_l_net.nd rfl (.inl rfl) (pe_ix (r := rIxL K) ix_list (pv 3) (pe_op op_mod (pv 6) (pe_callB (r := rLenS K) call_lenS (by rfl) T.z_len (by decide +kernel) (pa_cons (pv 3) pa_nil))) (fun _ _ => rfl)))
      (pss_cons (ps_set (i := 8) sc_l_net.nd rfl (.inr rfl) (pe_ix (r := rIxL K) ix_list (pv 3) (pe_op op_mod (pe_op op_add (pv 6) (pe_int)) (pe_callB (r := rLenS K) call_lenS (by rfl) T.z_len (by decide +kernel) (pa_cons (pv 3) pa_nil))) (fun _ _ => rfl)))
      (Evl.pss_cut (ps_if (pt_cmpR op_ge (pv 6) (pe_op op_sub (pv 4) (pe_int)) (nomark _))
        (pss_cons (ps_set (i := 7) sc_l_net.nd rfl (.inl rfl) (pe_ix (r := rIxL K) ix_list (pv 3) (pe_call G_l_take hr (by rfl) T.g_l_take T.F_l_take.kp T.b_l_take .nil pass0 (pa_cons (pv 0) (pa_cons (pe_callB (r := rLenS K) call_lenS (by rfl) T.z_len (by decide +kernel) (pa_cons (pv 3) pa_nil)) pa_nil))) (fun _ _ => rfl)))
        (pss_one (ps_set (i := 8) sc_l_net.nd rfl (.inr rfl) (pe_ix (r := rIxL K) ix_list (pv 3) (pe_call G_l_take hr (by rfl) T.g_l_take T.F_l_take.kp T.b_l_take .nil pass0 (pa_cons (pv 0) (pa_cons (pe_callB (r := rLenS K) call_lenS (by rfl) T.z_len (by decide +kernel) (pa_cons (pv 3) pa_nil)) pa_nil))) (fun _ _ => rfl)))))
        pss_nil)
      (pss_cons (ps_setLc (i := 9) (own := [("_law_line", 12)]) (g := gName 12) rfl sc_l_net.nd rfl rfl (sw_true rfl rfl rfl (by decide +kernel)) (pi_list (pe_ix (r := rIxT K) ix_tup (pv 7) (pe_int) (fun _ _ => rfl))) (blkOk_by (N := N_l_net) (sc := defScope s_l_net) (by decide +kernel)) (fun _ _ _ _ _ => (pg_name (i := 12) sc_l_net.nd rfl (.inl rfl))) (fun _ _ _ _ _ => pts_one (pt_cmpR (r := rIn K false) op_in_seq (pv 12) (pe_ix (r := rIxT K) ix_tup (pv 8) (pe_int) (fun _ _ => rfl)) (by rfl))) (fun _ _ _ _ _ => (pv 12)))
      (pss_cons (ps_set (i := 10) sc_l_net.nd rfl (.inl rfl) (pe_op op_add (pe_int) (pe_call G_l_take hr (by rfl) T.g_l_take T.F_l_take.kp T.b_l_take .nil pass0 (pa_cons (pv 0) (pa_cons (pe_ix (r := rIxT K) ix_tup (pe_tup (pa_cons (pe_int) (pa_cons (pe_int) (pa_cons (pe_int) pa_nil)))) (pe_call G_l_take hr (by rfl) T.g_l_take T.F_l_take.kp T.b_l_take .nil pass0 (pa_cons (pv 0) (pa_cons (pe_int) pa_nil))) (fun _ _ => rfl)) pa_nil)))))
      (Evl.pss_cut (ps_set (i := 11) sc_l_net.nd rfl (.inl rfl) (pe_or (pe_cmp (pc_din (hu_of hr) (pe_tup (pa_cons (pe_ix (r := rIxT K) ix_tup (pv 7) (pe_int) (fun _ _ => rfl)) (pa_cons (pe_ix (r := rIxT K) ix_tup (pv 8) (pe_int) (fun _ _ => rfl)) pa_nil))) (pv 5))) (pe_one (pe_cmp (pc_din (hu_of hr) (pe_tup (pa_cons (pe_ix (r := rIxT K) ix_tup (pv 8) (pe_int) (fun _ _ => rfl)) (pa_cons (pe_ix (r := rIxT K) ix_tup (pv 7) (pe_int) (fun _ _ => rfl)) pa_nil))) (pv 5))))))
      (pss_one (ps_if (PW.pt (pw_and (pt_cmpR (r := rNeD K) (op_neD hr.units) (pv 7) (pv 8) (nomark _)) (pw_and (pt_cmpR (r := rNeD K) (op_neD hr.units) (pv 9) (pe_lst pa_nil) (nomark _)) (pw_and1 (pt_not (pt_val (pv 11)))))))
        (pss_one (ps_dput (hu_of hr) (pv 5) (pe_tup (pa_cons (pe_ix (r := rIxT K) ix_tup (pv 7) (pe_int) (fun _ _ => rfl)) (pa_cons (pe_ix (r := rIxT K) ix_tup (pv 8) (pe_int) (fun _ _ => rfl)) pa_nil))) (pe_tup (pa_cons (pe_ix (r := rIxL K) ix_list (pv 2) (pe_ix (r := rIxL K) ix_list (pv 9) (pe_call G_l_take hr (by rfl) T.g_l_take T.F_l_take.kp T.b_l_take .nil pass0 (pa_cons (pv 0) (pa_cons (pe_callB (r := rLenS K) call_lenS (by rfl) T.z_len (by decide +kernel) (pa_cons (pv 9) pa_nil)) pa_nil))) (fun _ _ => rfl)) (fun _ _ => rfl)) (pa_cons (pv 10) pa_nil))) (by rfl)))
        pss_nil)))))))))
    (pss_one (ps_ret (pe_tup (pa_cons (pe_call G_l_laid hr (by rfl) T.g_l_laid T.F_l_laid.kp T.b_l_laid .nil pass0 (pa_cons (pv 0) (pa_cons (pv 2) (pa_cons (pv 3) (pa_cons (pv 5) pa_nil))))) (pa_cons (pe_callTy (r := rTupF K) call_tuple_ofF (by rfl) T.z_tuple (by decide +kernel) (pa_cons (pe_lc (own := [("_law_one", 7)]) (g := gName 7) rfl sc_l_net.nd (pi_list (pe_slice sl_list (pv 3) po_none (po_some (pv 4)))) (blkOk_by (N := N_l_net) (sc := defScope s_l_net) (by decide +kernel)) (fun _ _ _ _ _ => (pg_name (i := 7) sc_l_net.nd rfl (.inl rfl))) (fun _ _ _ _ _ => pts_nil) (fun _ _ _ _ _ => (pe_ix (r := rIxT K) ix_tup (pv 7) (pe_int) (fun _ _ => rfl)))) pa_nil)) pa_nil))))))))))))
      , ?_⟩
    refine ⟨by decide, fun t nt => ?_⟩
    have ntp : t ≠ p := b.ne nt
    refine ⟨.ref p, rfl, p, 8, rfl, b.keep (same_upd nt), by decide, by decide, fun H1 d k1 b1 d0 d1 => ?_⟩
    obtain ⟨m0, hm0, em0⟩ := pick (ms := [3, 8, 2, 5, 1, 4, 6, 7]) d0 d1
    refine ⟨t, _, d, _, rfl, rfl, SqT.of (k1 _ _ ntp upd_same), em0, ?_⟩
    have k1 : Keep p H H1 := (Keep.of (same_upd nt)).trans k1
    obtain ⟨n, rfl, n1, n8⟩ : ∃ n : Nat, m0 = (n : Int) ∧ 1 ≤ n ∧ n ≤ 8 := by
      simp only [List.mem_cons, List.not_mem_nil, or_false] at hm0
      exact ⟨m0.toNat, by omega, by omega, by omega⟩
    -- lines
    refine ⟨.ref p, rfl, .int n, rfl, p, n, rfl, b1, by omega, fun H2 ln ls0 k2 b2 nln eln hl0 _ _ nat0 => ?_⟩
    have nln0 : H ln = none := k1.free b nln b1
    have nlp : ln ≠ p := b1.ne nln
    have k2 := k1.trans k2
    -- places
    refine ⟨.ref p, rfl, .int n, rfl, p, n, rfl, b2, n1, n8, fun H3 pl ts as zs qs J k3 b3 pa pq znd znm znat npl nts nas => ?_⟩
    have eln3 := k3 _ _ nlp eln
    have k3 := k2.trans k3
    have lnpl : ln ≠ pl := ne_of_none eln npl
    have lnts : ∀ a ∈ ts, ln ≠ a := fun a ha => ne_of_none eln (nts a ha)
    have lnas : ∀ a ∈ as, ln ≠ a := fun a ha => ne_of_none eln (nas a ha)
    have hN := pq.len
    -- a line by a place's name
    refine ⟨fun σ H5 => ∃ ls : List Nm, σ = [some (.ref p), some (.int n), some (.ref ln), some (.ref pl), none, none, none, none, none, none, none, none, none] ∧ Keep p H H5 ∧ Bag H5 p ∧ PlAt p H5 pl ts zs as qs ∧ H5 ln = some (.lst (ls.map nS)) ∧ ls.length = n ∧ ∀ k l, ls[k]? = some l → NmAt k l, ?_, fun σ H5 mid => ?_⟩
    · refine ⟨.ref p, rfl, p, 3, rfl, b3, by decide, by decide, fun H4 d4 k4 b4 d40 d41 => ⟨rfl, _, rfl, ite2 (fun c => ?_) (fun c => ?_)⟩⟩
      · obtain ⟨t0, z0, a0, j0, et0, ez0, _, _, e0, _, nt0, _⟩ := (pa.keep k4).at (i := 0) (by omega)
        refine ⟨.ref pl, rfl, pl, ts.map V.ref, 0, .ref t0, rfl, rfl, SqL.of (pa.keep k4).lst, atI_nat (j := 0) (by rw [List.getElem?_map, et0]; rfl), t0, [nS z0, .ref a0], 0, nS z0, rfl, rfl, SqT.of e0, atI_nat (j := 0) rfl, ?_⟩
        refine ⟨.ref ln, rfl, ln, _, 0, 0, rfl, rfl, k4 _ _ nlp eln3, ?_, ?_⟩
        · rw [List.length_map, hl0]
          exact Evl.ixN_nat n1
        have eset : (ls0.map nS).set 0 (nS z0) = (ls0.set 0 z0).map nS := by rw [List.map_set]
        refine ⟨ls0.set 0 z0, rfl, (k3.trans k4).set nln0, b4.at (upd_ne nlp.symm), ?_, by rw [upd_same, eset], by rw [List.length_set, hl0], fun k l hk => ?_⟩
        · have pk := pa.keep k4
          refine ⟨by rw [upd_ne lnpl.symm]; exact pk.lst, paired_imp pk.tup fun a ha x e => by rw [upd_ne (lnts a ha).symm]; exact e, paired_imp pk.ll fun a ha x e => by rw [upd_ne (lnas a ha).symm]; exact e, pk.lz, pk.lt, pk.np⟩
        · rw [List.getElem?_set] at hk
          split at hk
          · rename_i z
            subst z
            split at hk
            · have := Option.some.inj hk
              subst this
              exact znat 0 _ ez0
            · cases hk
          · exact nat0 k l hk
      · exact ⟨ls0, rfl, k3.trans k4, b4, pa.keep k4, k4 _ _ nlp eln3, hl0, nat0⟩
    obtain ⟨ls, rfl, k5, b5, pa5, eln5, hln, lnat⟩ := mid
    -- row
    refine ⟨.ref pl, rfl, pl, rfl, ⟨_, SqL.of pa5.lst⟩, fun D nD => ?_⟩
    have lts : (ts.map V.ref).length = qs.length := by rw [List.length_map, pa5.lt]
    refine lc_it (walk_list (xs := ts.map V.ref)) (fun i H6 => Same H5 H6 ∧ ∃ xs : List V, H6 D = some (.lst xs) ∧ xs.length = (qs.take i).countP (fun js => decide (1 < js.length))) ⟨same_upd nD, [], upd_same, by rw [List.take_zero]; rfl⟩ (fun i H6 _ pv => SqL.of (pv.1 _ _ pa5.lst)) (fun i x H6₀ H6 hi pv y => ?_) (fun H6 pv => ?_)
    · obtain ⟨rfl, ex⟩ := y
      obtain ⟨s6, xs, eD, hxs⟩ := pv
      rw [lts] at hi
      obtain ⟨t1, z1, a1, js, et1, ez1, ea1, ejs, e1, e2, nt1, na1⟩ := pa5.at hi
      have hx : x = .ref t1 := by
        rw [List.getElem?_map, et1] at ex
        exact (Option.some.inj ex).symm
      subst hx
      have hc1 : (qs.take (i + 1)).countP (fun js => decide (1 < js.length)) = (qs.take i).countP (fun js => decide (1 < js.length)) + if 1 < js.length then 1 else 0 := by
        rw [List.take_add_one, ejs, List.countP_append]
        show _ + List.countP _ [js] = _
        rw [List.countP_singleton]
        simp
      refine ⟨rfl, .ref t1, rfl, t1, [nS z1, .ref a1], 1, .ref a1, rfl, rfl, SqT.of (s6 _ _ e1), atI_nat (j := 1) rfl, a1, jV js, rfl, .inl (SqL.of (s6 _ _ e2)), _, 1, rfl, rfl, _, rfl, ite2 (fun c => ?_) (fun c => ?_)⟩
      · have c := of_decide_eq_true c
        rw [List.length_map] at c
        refine ⟨.ref t1, rfl, xs, eD, ?_, same_set s6 nD, _, upd_same, ?_⟩
        · rw [hxs]
          refine small5000 (Nat.le_trans List.countP_le_length ?_)
          rw [List.length_take]
          omega
        · rw [List.length_append, hxs, hc1, if_pos (by omega)]
          rfl
      · have c : ¬ _ := fun z => c (decide_eq_true z)
        rw [List.length_map] at c
        exact ⟨s6, xs, eD, by rw [hxs, hc1, if_neg (by omega)]; rfl⟩
    obtain ⟨s6, xs, eD, hxs⟩ := pv
    rw [lts, List.take_length, pq.count] at hxs
    refine ⟨D, xs, rfl, .inl (SqL.of eD), 2, J, rfl, by rw [hxs], ?_⟩
    have k6 := k5.trans (.of s6)
    have b6 := b5.keep s6
    have pa6 := pa5.keep (.of s6)
    have eln6 := s6 _ _ eln5
    clear eD hxs
    intro td ntd
    have ntd0 : H td = none := k6.free b ntd b6
    have ntdp : td ≠ p := b6.ne ntd
    have k7 : Keep p H (upd H6 td (.dT [])) := k6.trans (.of (same_upd ntd))
    have b7 := b6.keep (same_upd (o := .dT []) ntd)
    have pa7 := pa6.keep (.of (same_upd (o := .dT []) ntd))
    have eln7 := same_upd (o := .dT []) ntd _ _ eln6
    have etd7 : (upd H6 td (.dT [])) td = some (.dT []) := upd_same
    have hlntd : ln ≠ td := ne_of_none eln6 ntd
    generalize upd H6 td (.dT []) = H7 at k7 b7 pa7 eln7 etd7 ⊢
    dsimp only
    refine ⟨.int (2 + (J : Int)), rfl, _, 1, rfl, rfl, .ref p, rfl, p, 28, rfl, b7, by decide, by decide, fun H8 x k8 b8 x0 x1 => ?_⟩
    obtain ⟨x, rfl⟩ : ∃ xn : Nat, x = (xn : Int) := ⟨x.toNat, by omega⟩
    refine ⟨_, _, rfl, rfl, _, rfl, by omega, by omega, ?_⟩
    rw [show (2 + (J : Int) - 1 + (x : Int)).toNat = J + 1 + x by omega]
    have each := pq.each n8
    refine for_range (lo := 0) (n := J + 1 + x) (fun i σ H9 => ∃ (y6 y7 y8 y9 y10 y11 : Option V) (tis : List Ti), σ = [some (.ref p), some (.int n), some (.ref ln), some (.ref pl), some (.int (2 + (J : Int))), some (.ref td), y6, y7, y8, y9, y10, y11, none] ∧ Keep p H H9 ∧ Bag H9 p ∧ PlAt p H9 pl ts zs as qs ∧ H9 ln = some (.lst (ls.map nS)) ∧ TiD H9 td tis ∧ tis.length ≤ i ∧ (∀ t ∈ tis, TieOk zs qs ls t) ∧ tis.Pairwise Apart ∧ (∀ j, j < i → j < J + 1 → ∃ t ∈ tis, zs[j]? = some t.a ∧ zs[j + 1]? = some t.b) ∧ (i ≤ J + 1 → ∀ t ∈ tis, ∃ j, j < i ∧ zs[j]? = some t.a ∧ zs[j + 1]? = some t.b))
      ⟨_, _, _, _, _, _, [], rfl, k7.trans k8, b8, pa7.keep k8, k8 _ _ nlp eln7, ⟨[], k8 _ _ ntdp etd7, List.nodup_nil, .nil⟩, Nat.le_refl _, fun t ht => (by cases ht), List.Pairwise.nil, fun j hj => absurd hj (Nat.not_lt_zero _), fun _ t ht => (by cases ht)⟩ (fun i σ H9 hi hp => ?_) (fun σ H9 hp => ?_)
    · obtain ⟨y6, y7, y8, y9, y10, y11, tis, rfl, k9, b9, pa9, eln9, htd, tl, tok, tap, tway, tfst⟩ := hp
      have lN : ((ts.map V.ref).length : Int) = (qs.length : Int) := by rw [lts]
      have m1 : i % qs.length < qs.length := Nat.mod_lt _ (by omega)
      have m2 : (i + 1) % qs.length < qs.length := Nat.mod_lt _ (by omega)
      obtain ⟨t1, et1⟩ : ∃ t1, ts[i % qs.length]? = some t1 := ⟨_, List.getElem?_eq_getElem (by rw [pa9.lt]; exact m1)⟩
      obtain ⟨t2, et2⟩ : ∃ t2, ts[(i + 1) % qs.length]? = some t2 := ⟨_, List.getElem?_eq_getElem (by rw [pa9.lt]; exact m2)⟩
      have at1 : atI (ts.map V.ref) ((0 + (i : Int)) % ((ts.map V.ref).length : Int)) = some (.ref t1) := by
        rw [lN, Int.zero_add, ← Int.natCast_emod]
        exact atI_nat (by rw [List.getElem?_map, et1]; rfl)
      have at2 : atI (ts.map V.ref) ((0 + (i : Int) + 1) % ((ts.map V.ref).length : Int)) = some (.ref t2) := by
        rw [lN, Int.zero_add, show ((i : Int) + 1) = ((i + 1 : Nat) : Int) by omega, ← Int.natCast_emod]
        exact atI_nat (by rw [List.getElem?_map, et2]; rfl)
      refine ⟨.ref pl, rfl, .int (0 + (i : Int)), rfl, .ref pl, rfl, pl, ts.map V.ref, rfl, .inl (SqL.of pa9.lst), _, _, rfl, rfl, by omega, pl, ts.map V.ref, _, .ref t1, rfl, rfl, SqL.of pa9.lst, at1, ?_⟩
      refine ⟨.ref pl, rfl, .int (0 + (i : Int)), rfl, _, 1, rfl, rfl, .ref pl, rfl, pl, ts.map V.ref, rfl, .inl (SqL.of pa9.lst), _, _, rfl, rfl, by omega, pl, ts.map V.ref, _, .ref t2, rfl, rfl, SqL.of pa9.lst, at2, ?_⟩
      refine ⟨fun σ H10 => ∃ (io jo : Nat) (t1 t2 : Addr), σ = [some (.ref p), some (.int n), some (.ref ln), some (.ref pl), some (.int (2 + (J : Int))), some (.ref td), some (.int (0 + (i : Int))), some (.ref t1), some (.ref t2), y9, y10, y11, none] ∧ Keep p H9 H10 ∧ Bag H10 p ∧ io < qs.length ∧ jo < qs.length ∧ ts[io]? = some t1 ∧ ts[jo]? = some t2 ∧ (i < J + 1 → io = i ∧ jo = i + 1), ?_, fun σ H10 mid => ?_⟩
      · refine ⟨.int (0 + (i : Int)), rfl, .int (2 + (J : Int)), rfl, _, 1, rfl, rfl, _, _, rfl, rfl, _, rfl, ite2 (fun c => ?_) (fun c => ?_)⟩
        · have c := of_decide_eq_true c
          refine ⟨.ref pl, rfl, .ref p, rfl, .ref pl, rfl, pl, ts.map V.ref, rfl, .inl (SqL.of pa9.lst), p, (qs.length : Int), by rw [lN]; rfl, b9, by omega, by omega, fun H10 d1 k10 b10 d10 d11 => ?_⟩
          obtain ⟨io, rfl⟩ : ∃ xn : Nat, d1 = (xn : Int) := ⟨d1.toNat, by omega⟩
          obtain ⟨t1', et1'⟩ : ∃ t1, ts[io]? = some t1 := ⟨_, List.getElem?_eq_getElem (by rw [pa9.lt]; omega)⟩
          have pa10 := pa9.keep k10
          refine ⟨pl, ts.map V.ref, _, .ref t1', rfl, rfl, SqL.of pa10.lst, atI_nat (by rw [List.getElem?_map, et1']; rfl), ?_⟩
          refine ⟨.ref pl, rfl, .ref p, rfl, .ref pl, rfl, pl, ts.map V.ref, rfl, .inl (SqL.of pa10.lst), p, (qs.length : Int), by rw [lN]; rfl, b10, by omega, by omega, fun H11 d2 k11 b11 d20 d21 => ?_⟩
          obtain ⟨jo, rfl⟩ : ∃ xn : Nat, d2 = (xn : Int) := ⟨d2.toNat, by omega⟩
          obtain ⟨t2', et2'⟩ : ∃ t1, ts[jo]? = some t1 := ⟨_, List.getElem?_eq_getElem (by rw [pa9.lt]; omega)⟩
          refine ⟨pl, ts.map V.ref, _, .ref t2', rfl, rfl, SqL.of (pa10.keep k11).lst, atI_nat (by rw [List.getElem?_map, et2']; rfl), ?_⟩
          exact ⟨io, jo, t1', t2', rfl, k10.trans k11, b11, by omega, by omega, et1', et2', fun z => by omega⟩
        · exact ⟨_, _, t1, t2, rfl, .refl _ _, b9, m1, m2, et1, et2, fun z => ⟨Nat.mod_eq_of_lt (by omega), Nat.mod_eq_of_lt (by omega)⟩⟩
      clear at1 at2 et1 et2 m1 m2 t1 t2
      obtain ⟨io, jo, t1, t2, rfl, k10, b10, hio, hjo, et1, et2, hij⟩ := mid
      have pa10 := pa9.keep k10
      have eln10 := k10 _ _ nlp eln9
      obtain ⟨t1', z1, a1, js1, f1, ez1, _, eq1, e1, e1a, nt1, na1⟩ := pa10.at hio
      rw [et1] at f1
      cases f1
      obtain ⟨t2', z2, a2, js2, f2, ez2, _, eq2, e2, e2a, nt2, na2⟩ := pa10.at hjo
      rw [et2] at f2
      cases f2
      have js1m := each js1 (List.mem_of_getElem? eq1)
      have js2m := each js2 (List.mem_of_getElem? eq2)
      -- common
      refine ⟨.ref t1, rfl, t1, [nS z1, .ref a1], 1, .ref a1, rfl, rfl, SqT.of e1, atI_nat (j := 1) rfl, a1, rfl, ⟨_, SqL.of e1a⟩, fun D nD => ?_⟩
      have nDp : D ≠ p := b10.ne nD
      refine lc_it (walk_list (xs := jV js1)) (fun m H11 => Same H10 H11 ∧ H11 D = some (.lst (jV ((js1.take m).filter fun x => decide (x ∈ js2))))) ⟨same_upd nD, by rw [List.take_zero]; exact upd_same⟩ (fun m H11 _ pv => SqL.of (pv.1 _ _ e1a)) (fun m x H11₀ H11 hm pv y => ?_) (fun H11 pv => ?_)
      · obtain ⟨rfl, ex⟩ := y
        obtain ⟨s11, eD⟩ := pv
        obtain ⟨j, ej, rfl⟩ : ∃ j, js1[m]? = some j ∧ x = .int (j : Nat) := by
          rw [List.getElem?_map] at ex
          cases h : js1[m]? with
          | none => rw [h] at ex; cases ex
          | some t => rw [h] at ex; exact ⟨t, rfl, (Option.some.inj ex).symm⟩
        have hf : ((js1.take (m + 1)).filter fun x => decide (x ∈ js2)) = ((js1.take m).filter fun x => decide (x ∈ js2)) ++ if j ∈ js2 then [j] else [] := by
          rw [List.take_add_one, ej, List.filter_append]
          congr 1
          show List.filter _ [j] = _
          by_cases h : j ∈ js2
          · simp [h]
          · simp [h]
        refine ⟨rfl, .int (j : Nat), rfl, .ref t2, rfl, t2, [nS z2, .ref a2], 1, .ref a2, rfl, rfl, SqT.of (s11 _ _ e2), atI_nat (j := 1) rfl, a2, jV js2, rfl, .inl (SqL.of (s11 _ _ e2a)), rfl, flat_ints js2, _, rfl, ite2 (fun c => ?_) (fun c => ?_)⟩
        · have c : inV (.int (j : Nat)) (jV js2) = true := c
          rw [in_ints] at c
          have c := of_decide_eq_true c
          refine ⟨.int (j : Nat), rfl, _, eD, ?_, same_set s11 nD, ?_⟩
          · rw [List.length_map]
            refine small5000 (Nat.le_trans (List.length_filter_le ..) ?_)
            rw [List.length_take]
            omega
          · rw [upd_same, hf, if_pos c, jV_app]
            rfl
        · have c : ¬ inV (.int (j : Nat)) (jV js2) = true := c
          rw [in_ints] at c
          have c : ¬ j ∈ js2 := fun z => c (decide_eq_true z)
          exact ⟨s11, by rw [hf, if_neg c, List.append_nil]; exact eD⟩
      obtain ⟨s11, eD⟩ := pv
      rw [List.length_map, List.take_length] at eD
      have mcm : ∀ x, x ∈ js1.filter (fun x => decide (x ∈ js2)) ↔ x ∈ js1 ∧ x ∈ js2 := fun x => by rw [List.mem_filter, decide_eq_true_iff]
      have cml : (js1.filter fun x => decide (x ∈ js2)).length ≤ 8 := Nat.le_trans (List.length_filter_le ..) js1m.2.1
      generalize js1.filter (fun x => decide (x ∈ js2)) = cm at eD mcm cml
      have k11 := k10.trans (.of s11)
      have b11 := b10.keep s11
      -- chains
      refine ⟨.ref p, rfl, by decide, fun t nt => ?_⟩
      have ntp : t ≠ p := b11.ne nt
      refine ⟨.ref p, rfl, p, 3, rfl, b11.keep (same_upd nt), by decide, by decide, fun H12 d k12 b12 d0 d1 => ?_⟩
      obtain ⟨mx, hmx, emx⟩ := pick (ms := [9, 400, 9999]) d0 d1
      refine ⟨t, _, d, _, rfl, rfl, SqT.of (k12 _ _ ntp upd_same), emx, p, mx, rfl, b12, ?_, ?_, fun H13 ch k13 b13 ch0 ch1 => ?_⟩
      · simp only [List.mem_cons, List.not_mem_nil, or_false] at hmx
        omega
      · simp only [List.mem_cons, List.not_mem_nil, or_false] at hmx
        omega
      have chb : ch < 9999 := by
        simp only [List.mem_cons, List.not_mem_nil, or_false] at hmx
        omega
      obtain ⟨ch, rfl⟩ : ∃ xn : Nat, ch = (xn : Int) := ⟨ch.toNat, by omega⟩
      refine ⟨1, _, rfl, rfl, ?_⟩
      have eD13 : H13 D = some (.lst (jV cm)) := k13 _ _ nDp (k12 _ _ nDp (same_upd nt _ _ eD))
      have k13 : Keep p H10 H13 := (Keep.of (s11.trans (same_upd nt))).trans (k12.trans k13)
      have k13' : Keep p H9 H13 := k10.trans k13
      have e1' := k13 _ _ nt1 e1
      have e2' := k13 _ _ nt2 e2
      have e1a' := k13 _ _ na1 e1a
      have e2a' := k13 _ _ na2 e2a
      have htd13 : TiD H13 td tis := htd.keep k13' b9
      -- near
      refine ⟨fun σ H14 => ∃ nb : Bool, σ = [some (.ref p), some (.int n), some (.ref ln), some (.ref pl), some (.int (2 + (J : Int))), some (.ref td), some (.int (0 + (i : Int))), some (.ref t1), some (.ref t2), some (.ref D), some (.int (1 + (ch : Int))), some (.bl nb), none] ∧ Same H13 H14 ∧ (nb = false ↔ (∀ t ∈ tis, ¬ (t.a = z1 ∧ t.b = z2)) ∧ ∀ t ∈ tis, ¬ (t.a = z2 ∧ t.b = z1)), ?_, fun σ H14 mid => ?_⟩
      · obtain ⟨kvs, etd, knd, hkt⟩ := htd13
        refine ⟨.ref t1, rfl, t1, [nS z1, .ref a1], 0, nS z1, rfl, rfl, SqT.of e1', atI_nat (j := 0) rfl, .ref t2, rfl, t2, [nS z2, .ref a2], 0, nS z2, rfl, rfl, SqT.of e2', atI_nat (j := 0) rfl, two_sz, fun u nu => ?_⟩
        refine ⟨.ref td, rfl, td, _, rfl, DGet.t (k := [Sum.inr (SX.S z1), Sum.inr (SX.S z2)]) (same_upd nu _ _ etd) upd_same, _, rfl, ite2 (fun c => ?_) (fun c => ?_)⟩
        · refine ⟨true, rfl, same_upd nu, ⟨fun z => (by cases z), fun z => ?_⟩⟩
          rw [(tid_none hkt z1 z2).mpr z.1] at c
          cases c
        · have c1 : valV kvs [Sum.inr (SX.S z1), Sum.inr (SX.S z2)] = none := by
            cases h : valV kvs [Sum.inr (SX.S z1), Sum.inr (SX.S z2)] with
            | none => rfl
            | some x => rw [h] at c; exact absurd rfl c
          refine ⟨.ref t2, rfl, t2, [nS z2, .ref a2], 0, nS z2, rfl, rfl, SqT.of (same_upd nu _ _ e2'), atI_nat (j := 0) rfl, .ref t1, rfl, t1, [nS z1, .ref a1], 0, nS z1, rfl, rfl, SqT.of (same_upd nu _ _ e1'), atI_nat (j := 0) rfl, two_sz, fun u2 nu2 => ?_⟩
          refine ⟨.ref td, rfl, td, _, rfl, DGet.t (k := [Sum.inr (SX.S z2), Sum.inr (SX.S z1)]) (same_upd nu2 _ _ (same_upd nu _ _ etd)) upd_same, ?_⟩
          refine ⟨_, rfl, (same_upd nu).trans (same_upd nu2), ?_⟩
          have c1 := (tid_none hkt z1 z2).mp c1
          have c2 := tid_none hkt z2 z1
          cases h : valV kvs [Sum.inr (SX.S z2), Sum.inr (SX.S z1)] with
          | none => exact ⟨fun _ => ⟨c1, c2.mp h⟩, fun _ => rfl⟩
          | some x => exact ⟨fun z => (by cases z), fun z => (by rw [c2.mpr z.2] at h; cases h)⟩
      obtain ⟨nb, rfl, s14, hnb⟩ := mid
      have k14 : Keep p H9 H14 := k13'.trans (.of s14)
      have b14 := b13.keep s14
      have e1 := s14 _ _ e1'
      have e2 := s14 _ _ e2'
      have e1a := s14 _ _ e1a'
      have e2a := s14 _ _ e2a'
      have eD14 := s14 _ _ eD13
      have stay : ∀ H', Keep p H9 H' → Bag H' p → ¬ i < J + 1 → (Keep p H H' ∧ Bag H' p ∧ PlAt p H' pl ts zs as qs ∧ H' ln = some (.lst (ls.map nS)) ∧ TiD H' td tis ∧ tis.length ≤ i + 1 ∧ (∀ t ∈ tis, TieOk zs qs ls t) ∧ tis.Pairwise Apart ∧ (∀ j, j < i + 1 → j < J + 1 → ∃ t ∈ tis, zs[j]? = some t.a ∧ zs[j + 1]? = some t.b) ∧ (i + 1 ≤ J + 1 → ∀ t ∈ tis, ∃ j, j < i + 1 ∧ zs[j]? = some t.a ∧ zs[j + 1]? = some t.b)) := fun H' k b' c =>
        ⟨k9.trans k, b', pa9.keep k, k _ _ nlp eln9, htd.keep k b9, by omega, tok, tap, fun j h1 h2 => tway j (by omega) h2, fun z => absurd (by omega) c⟩
      have nm1 := znm z1 (List.mem_of_getElem? ez1)
      have nm2 := znm z2 (List.mem_of_getElem? ez2)
      have eln14 := k14 _ _ nlp eln9
      have htd14 := htd.keep k14 b9
      have lj1 : js1.length ≤ 5000 := by omega
      have lj2 : js2.length ≤ 5000 := by omega
      -- if one != other and common != [] and not near
      refine ⟨.ref t1, rfl, .ref t2, rfl, _, _, (dt_pl e1 e1a lj1).dp, (dt_pl e2 e2a lj2).dp, shaped_pl nm1 js1, shaped_pl nm2 js2, _, rfl, ite2 (fun c => ?_) (fun c => ?_)⟩
      rotate_left
      · have c : PyData.eqv (plD z1 js1) (plD z2 js2) = true := by
          cases h : PyData.eqv (plD z1 js1) (plD z2 js2) with
          | true => rfl
          | false => rw [h] at c; exact absurd rfl c
        refine ⟨_, _, _, _, _, _, tis, rfl, stay _ k14 b14 fun z => ?_⟩
        have ez := eqv_pl c
        rw [← ez] at ez2
        have := nodup_inj znd ez1 ez2
        have := hij z
        omega
      have cne : PyData.eqv (plD z1 js1) (plD z2 js2) = false := by
        cases h : PyData.eqv (plD z1 js1) (plD z2 js2) with
        | false => rfl
        | true => rw [h] at c; cases c
      have nij : io ≠ jo := fun z => by
        subst z
        rw [ez1] at ez2
        rw [eq1] at eq2
        cases ez2
        cases eq2
        rw [SeqAt.eqv_refl _ (lay_pl nm1 js1)] at cne
        cases cne
      refine ⟨.ref D, rfl, Nat.zero_le _, fun e ne => ?_⟩
      have s15 := same_upd (o := .lst []) ne
      have dD : Dt SA (upd H14 e (.lst [])) (.ref D) (dI (jI cm)) := dt_ints (by rw [s15 _ _ eD14, jV_ints]) (by rw [List.length_map]; omega)
      have dE : Dt SA (upd H14 e (.lst [])) (.ref e) (dI []) := dt_ints upd_same (Nat.zero_le _)
      refine ⟨_, _, dD.dp, dE.dp, shaped_ints _, shaped_ints _, _, rfl, ite2 (fun c => ?_) (fun c => ?_)⟩
      rotate_left
      · have c : cm = [] := by
          cases h : cm with
          | nil => rfl
          | cons x r => rw [h] at c; exact absurd rfl c
        refine ⟨_, _, _, _, _, _, tis, rfl, stay _ (k14.trans (.of s15)) (b14.keep s15) fun z => ?_⟩
        obtain ⟨r1, r2⟩ := hij z
        subst r1
        subst r2
        obtain ⟨x, x1, x2⟩ := pq.chain z eq1 eq2
        have := (mcm x).mpr ⟨x1, x2⟩
        rw [c] at this
        cases this
      have cm1 : 1 ≤ cm.length := by
        cases h : cm with
        | nil => rw [h] at c; cases c
        | cons x r => rw [List.length_cons]; omega
      refine ⟨.bl nb, rfl, nb, rfl, ite2 (fun c => ?_) (fun c => ?_)⟩
      rotate_left
      · have c : nb = true := by cases nb with
          | true => rfl
          | false => exact absurd rfl c
        refine ⟨_, _, _, _, _, _, tis, rfl, stay _ (k14.trans (.of s15)) (b14.keep s15) fun z => ?_⟩
        obtain ⟨r1, r2⟩ := hij z
        subst r1
        subst r2
        have : nb = false := hnb.mpr ⟨fun t ht e => ?_, fun t ht e => ?_⟩
        · rw [c] at this
          cases this
        · obtain ⟨j, hj, f1, f2⟩ := tfst (by omega) t ht
          rw [e.1] at f1
          have := nodup_inj znd f1 ez1
          omega
        · obtain ⟨j, hj, f1, f2⟩ := tfst (by omega) t ht
          rw [e.1] at f1
          have := nodup_inj znd f1 ez2
          omega
      have c : nb = false := by cases nb with
        | false => rfl
        | true => cases c
      obtain ⟨nn1, nn2⟩ := hnb.mp c
      have k15 : Keep p H9 _ := k14.trans (.of s15)
      have b15 := b14.keep s15
      have eD15 := s15 _ _ eD14
      have e1 := s15 _ _ e1
      have e2 := s15 _ _ e2
      generalize upd H14 e (.lst []) = H15 at k15 b15 eD15 e1 e2 s15 ⊢
      -- ties[(one[0], other[0])] = (lines[..], chains)
      have eln15 := k15 _ _ nlp eln9
      refine ⟨.ref ln, rfl, .ref D, rfl, .ref p, rfl, .ref D, rfl, D, jV cm, rfl, .inl (SqL.of eD15), p, (cm.length : Int), by rw [List.length_map]; rfl, b15, by omega, by omega, fun H16 d k16 b16 d0 d1 => ?_⟩
      obtain ⟨dj, rfl⟩ : ∃ xn : Nat, d = (xn : Int) := ⟨d.toNat, by omega⟩
      have hdj : dj < cm.length := by omega
      have inx := List.getElem_mem hdj
      have gx : (jV cm)[dj]? = some (.int (cm[dj] : Nat)) := by
        rw [List.getElem?_map, List.getElem?_eq_getElem hdj]
        rfl
      generalize cm[dj] = xj at inx gx
      have hx := (mcm xj).mp inx
      have hxl : xj < ls.length := by rw [hln]; exact js1m.2.2 xj hx.1
      obtain ⟨lx, elx⟩ : ∃ lx, ls[xj]? = some lx := ⟨_, List.getElem?_eq_getElem hxl⟩
      refine ⟨D, jV cm, (dj : Int), _, rfl, rfl, SqL.of (k16 _ _ nDp eD15), atI_nat gx, ln, ls.map nS, (xj : Nat), nS lx, rfl, rfl, SqL.of (k16 _ _ nlp eln15), atI_nat (by rw [List.getElem?_map, elx]; rfl), .int (1 + (ch : Int)), rfl, two_sz, fun v nv => ?_⟩
      have sv := same_upd (o := .tup [nS lx, .int (1 + (ch : Int))]) nv
      refine ⟨.ref td, rfl, .ref t1, rfl, t1, [nS z1, .ref a1], 0, nS z1, rfl, rfl, SqT.of (sv _ _ (k16 _ _ nt1 e1)), atI_nat (j := 0) rfl, .ref t2, rfl, t2, [nS z2, .ref a2], 0, nS z2, rfl, rfl, SqT.of (sv _ _ (k16 _ _ nt2 e2)), atI_nat (j := 0) rfl, two_sz, fun u nu => ?_⟩
      have su := same_upd (o := .tup [nS z1, nS z2]) nu
      have k17 : Keep p H9 _ := k15.trans (k16.trans (.of (sv.trans su)))
      have b17 := b16.keep (sv.trans su)
      obtain ⟨kvs, etd, knd, hkt⟩ := htd.keep k17 b9
      have ev : (upd (upd H16 v (.tup [nS lx, .int (1 + (ch : Int))])) u (.tup [nS z1, nS z2])) v = some (.tup [nS lx, .int (1 + (ch : Int))]) := su _ _ upd_same
      have eu : (upd (upd H16 v (.tup [nS lx, .int (1 + (ch : Int))])) u (.tup [nS z1, nS z2])) u = some (.tup [nS z1, nS z2]) := upd_same
      generalize upd (upd H16 v (.tup [nS lx, .int (1 + (ch : Int))])) u (.tup [nS z1, nS z2]) = H17 at k17 b17 etd hkt ev eu ⊢
      have vn := (tid_none hkt z1 z2).mpr nn1
      have kl := paired_len hkt
      refine ⟨td, _, rfl, DPut.t (k := [Sum.inr (SX.S z1), Sum.inr (SX.S z2)]) etd eu (by rw [kl]; exact small5000 (by omega)), ?_⟩
      rw [putK_new _ vn]
      have tk17 : TKF H17 (upd H17 td (.dT (kvs ++ [([Sum.inr (SX.S z1), Sum.inr (SX.S z2)], .ref v)]))) := .upd fun xs e => by rw [etd] at e; cases e
      refine ⟨_, _, _, _, _, _, tis ++ [⟨z1, z2, lx, 1 + ch⟩], rfl, (k9.trans k17).set ntd0, b17.at (upd_ne ntdp.symm), ?_, ?_, ⟨_, upd_same, ?_, ?_⟩, ?_, ?_, ?_, ?_, ?_⟩
      · have pk := pa9.keep k17
        have off : ∀ {a : Addr} {o : HO}, H17 a = some o → (∀ kvs, o ≠ .dT kvs) → (upd H17 td (.dT (kvs ++ [([Sum.inr (SX.S z1), Sum.inr (SX.S z2)], .ref v)]))) a = some o := fun {a o} e h => by
          rw [upd_ne (fun z => by rw [z, etd] at e; exact h _ (Option.some.inj e).symm)]
          exact e
        exact ⟨off pk.lst fun _ z => (by cases z), paired_imp pk.tup fun a _ x e => off e fun _ z => (by cases z), paired_imp pk.ll fun a _ x e => off e fun _ z => (by cases z), pk.lz, pk.lt, pk.np⟩
      · rw [upd_ne hlntd]
        exact k17 _ _ nlp eln9
      · rw [List.map_append]
        refine List.nodup_append.mpr ⟨knd, by simp, fun x hx y hy e => ?_⟩
        rw [List.map_singleton, List.mem_singleton] at hy
        rw [e, hy] at hx
        exact key_none vn hx
      · refine paired_snoc (paired_imp hkt fun kv _ t ⟨h1, v, h2, h3⟩ => ⟨h1, v, h2, tk17 _ _ h3⟩) ⟨rfl, v, rfl, ?_⟩
        rw [tk17 _ _ ev]
        rfl
      · rw [List.length_append]
        show _ + 1 ≤ _
        omega
      · intro t ht
        rcases List.mem_append.mp ht with z | z
        · exact tok t z
        · rw [List.mem_singleton.mp z]
          exact ⟨io, jo, xj, js1, js2, nij, ez1, ez2, eq1, eq2, hx.1, hx.2, elx, by show 1 ≤ 1 + ch; omega, by show 1 + ch ≤ 9999; omega⟩
      · refine List.pairwise_append.mpr ⟨tap, List.pairwise_singleton _ _, fun s hs t ht => ?_⟩
        rw [List.mem_singleton.mp ht]
        exact ⟨nn1 s hs, nn2 s hs⟩
      · intro j h1 h2
        by_cases h3 : j < i
        · obtain ⟨t, ht, r⟩ := tway j h3 h2
          exact ⟨t, List.mem_append_left _ ht, r⟩
        · have h4 : j = i := by omega
          subst h4
          obtain ⟨r1, r2⟩ := hij h2
          subst r1
          subst r2
          exact ⟨_, List.mem_append_right _ (List.mem_singleton.mpr rfl), ez1, ez2⟩
      · intro h t ht
        rcases List.mem_append.mp ht with z | z
        · obtain ⟨j, hj, r⟩ := tfst (by omega) t z
          exact ⟨j, by omega, r⟩
        · rw [List.mem_singleton.mp z]
          obtain ⟨r1, r2⟩ := hij (by omega)
          subst r1
          subst r2
          exact ⟨_, Nat.lt_succ_self _, ez1, ez2⟩
    · obtain ⟨y6, y7, y8, y9, y10, y11, tis, rfl, k9, b9, pa9, eln9, htd, tl, tok, tap, tway, tfst⟩ := hp
      refine ⟨.ref p, rfl, .ref ln, rfl, .ref pl, rfl, .ref td, rfl, p, ln, pl, td, ts, as, ls, zs, qs, tis, rfl, b9, nlp, eln9, by omega, pa9, by omega, by rw [hln]; exact each, htd, by omega, fun H10 r sts jns rws k10 b10 hnet pS pJ pR nr => ?_⟩
      have pa10 := pa9.keep k10
      refine ⟨.ref pl, rfl, .int (2 + (J : Int)), rfl, _, rfl, pl, _, rfl, SqL.of pa10.lst, fun c nc => ?_⟩
      rw [show (2 + (J : Int)) = ((J + 2 : Nat) : Int) by omega, cut_to, ← List.map_take]
      refine ⟨c, rfl, ⟨_, SqL.of upd_same⟩, fun D nD => ?_⟩
      have s11 := same_upd (o := .lst ((ts.take (J + 2)).map V.ref)) nc
      have ec : (upd H10 c (.lst ((ts.take (J + 2)).map V.ref))) c = some (.lst ((ts.take (J + 2)).map V.ref)) := upd_same
      have pa11 := pa10.keep (.of s11)
      have b11 := b10.keep s11
      generalize upd H10 c (.lst ((ts.take (J + 2)).map V.ref)) = H11 at s11 ec pa11 b11 nD ⊢
      refine lc_it (walk_list (xs := (ts.take (J + 2)).map V.ref)) (fun i H12 => Same H11 H12 ∧ H12 D = some (.lst ((zs.take i).map nS))) ⟨same_upd nD, upd_same⟩ (fun i H12 _ pv => SqL.of (pv.1 _ _ ec)) (fun i x H12₀ H12 hi pv y => ?_) (fun H12 pv => ?_)
      · obtain ⟨rfl, ex⟩ := y
        obtain ⟨s12, eD⟩ := pv
        rw [List.length_map, List.length_take] at hi
        obtain ⟨t1, z1, a1, js, et1, ez1, _, _, e1, _, _, _⟩ := pa11.at (i := i) (by omega)
        have hx : x = .ref t1 := by
          rw [List.getElem?_map, List.getElem?_take_of_lt (by omega), et1] at ex
          exact (Option.some.inj ex).symm
        subst hx
        refine ⟨rfl, yes_ ?_⟩
        refine ⟨.ref t1, rfl, t1, [nS z1, .ref a1], 0, nS z1, rfl, rfl, SqT.of (s12 _ _ e1), atI_nat (j := 0) rfl, _, eD, ?_, same_set s12 nD, ?_⟩
        · rw [List.length_map, List.length_take]
          exact small5000 (by omega)
        · rw [upd_same, List.take_add_one, ez1, List.map_append]
          rfl
      obtain ⟨s12, eD⟩ := pv
      rw [List.length_map, List.length_take, Nat.min_eq_left (by rw [pa9.lt]; omega)] at eD
      refine ⟨D, _, rfl, SqL.of eD, fun wy H13 nwy sF tF _ => ⟨two_sz, fun r2 nr2 => ?_⟩⟩
      have s13 := s11.trans (s12.trans (sF.trans (same_upd (o := .tup [.ref r, .ref wy]) nr2)))
      refine q _ r2 r wy ls zs qs J tis sts jns rws (k9.trans (k10.trans (.of s13))) (b10.keep s13) upd_same (hnet.tk (.of s13)) (tF.same (same_upd nr2)) ⟨by omega, by omega, nm_nodup lnat (by omega), nms_of lnat, by rw [hln]; exact pq, pa9.lz, znd, znm, tok, tap, fun j hj => tway j (by omega) hj, by have := pq.most; omega⟩ pS pJ pR
end
end Th
namespace Th
open PySem PySem.Spec PyProof.Rows L2
def isiI : PyData → Bool
  | .int _ => true
  | .bool _ => true
  | _ => false
def isiB : PyData → Bool
  | .bool _ => true
  | _ => false
def isiT : PyData → Bool
  | .tuple _ => true
  | _ => false
def isiS : PyData → Bool
  | .str _ => true
  | _ => false
theorem kit_I {K : PySem.W.Frag} : ∀ d : PyData, PySem.W.kitOne K (.type (tyN d)) (.type "int") = some (isiI d)
  | .none => kit_ty (a := "NoneType") (b := "int") (r := false) (by decide +kernel)
  | .bool _ => kit_ty (a := "bool") (b := "int") (r := true) (by decide +kernel)
  | .int _ => kit_ty (a := "int") (b := "int") (r := true) (by decide +kernel)
  | .str _ => kit_ty (a := "str") (b := "int") (r := false) (by decide +kernel)
  | .list _ => kit_ty (a := "list") (b := "int") (r := false) (by decide +kernel)
  | .tuple _ => kit_ty (a := "tuple") (b := "int") (r := false) (by decide +kernel)
  | .dict _ => kit_ty (a := "dict") (b := "int") (r := false) (by decide +kernel)
theorem kit_B {K : PySem.W.Frag} : ∀ d : PyData, PySem.W.kitOne K (.type (tyN d)) (.type "bool") = some (isiB d)
  | .none => kit_ty (a := "NoneType") (b := "bool") (r := false) (by decide +kernel)
  | .bool _ => kit_ty (a := "bool") (b := "bool") (r := true) (by decide +kernel)
  | .int _ => kit_ty (a := "int") (b := "bool") (r := false) (by decide +kernel)
  | .str _ => kit_ty (a := "str") (b := "bool") (r := false) (by decide +kernel)
  | .list _ => kit_ty (a := "list") (b := "bool") (r := false) (by decide +kernel)
  | .tuple _ => kit_ty (a := "tuple") (b := "bool") (r := false) (by decide +kernel)
  | .dict _ => kit_ty (a := "dict") (b := "bool") (r := false) (by decide +kernel)
theorem kit_T {K : PySem.W.Frag} : ∀ d : PyData, PySem.W.kitOne K (.type (tyN d)) (.type "tuple") = some (isiT d)
  | .none => kit_ty (a := "NoneType") (b := "tuple") (r := false) (by decide +kernel)
  | .bool _ => kit_ty (a := "bool") (b := "tuple") (r := false) (by decide +kernel)
  | .int _ => kit_ty (a := "int") (b := "tuple") (r := false) (by decide +kernel)
  | .str _ => kit_ty (a := "str") (b := "tuple") (r := false) (by decide +kernel)
  | .list _ => kit_ty (a := "list") (b := "tuple") (r := false) (by decide +kernel)
  | .tuple _ => kit_ty (a := "tuple") (b := "tuple") (r := true) (by decide +kernel)
  | .dict _ => kit_ty (a := "dict") (b := "tuple") (r := false) (by decide +kernel)
theorem kit_S {K : PySem.W.Frag} : ∀ d : PyData, PySem.W.kitOne K (.type (tyN d)) (.type "str") = some (isiS d)
  | .none => kit_ty (a := "NoneType") (b := "str") (r := false) (by decide +kernel)
  | .bool _ => kit_ty (a := "bool") (b := "str") (r := false) (by decide +kernel)
  | .int _ => kit_ty (a := "int") (b := "str") (r := false) (by decide +kernel)
  | .str _ => kit_ty (a := "str") (b := "str") (r := true) (by decide +kernel)
  | .list _ => kit_ty (a := "list") (b := "str") (r := false) (by decide +kernel)
  | .tuple _ => kit_ty (a := "tuple") (b := "str") (r := false) (by decide +kernel)
  | .dict _ => kit_ty (a := "dict") (b := "str") (r := false) (by decide +kernel)
def wholeD : PyData → Bool
  | .int _ => true
  | _ => false
def betD (d : PyData) (lo hi : Int) : Bool := match d with
  | .int i => decide (lo ≤ i) && decide (i ≤ hi)
  | _ => false
def tupD (d : PyData) (lo hi : Int) : Bool := match d with
  | .tuple ds => decide (lo ≤ (ds.length : Int)) && decide ((ds.length : Int) ≤ hi)
  | _ => false
section
variable {P : Program} {w : World} {K : PySem.W.Frag} {mg : Str → Option Value} {base : Heap} {k : Nat}
end
end Th
namespace Th
open PySem PySem.Spec PyProof.Rows L2
def alS (lo hi : Str) (s : Str) : Bool := s.cps.toList.all fun c => !decide ([c] < lo.cps.toList) && !decide (hi.cps.toList < [c])
def nameS (s : Str) : Bool := decide (1 ≤ s.length) && decide (s.length ≤ 8) && alS "a" "z" s
def nameD : PyData → Bool
  | .str s => nameS s
  | _ => false
section
variable {P : Program} {w : World} {K : PySem.W.Frag} {mg : Str → Option Value} {base : Heap} {k : Nat}
end
end Th
namespace Th
open PySem PySem.Spec PyProof.Rows L2
theorem sq_same {K : PySem.W.Frag} {H H' : Hp} {a : Addr} {xs : List V} (s : Same H H') (h : SqL K H a xs) : SqL K H' a xs := by
  rcases h with (h | ⟨o, h⟩) | h
  · exact .inl (.inl (s _ _ h))
  · exact .inl (.inr ⟨o, s _ _ h⟩)
  · exact .inr h
def TPl (H : Hp) (a : Addr) (xs : List V) : Prop := H a = some (.tup xs) ∨ ∃ o, H a = some (.frz o (.tup xs))
theorem TPl.same {H H' : Hp} {a : Addr} {xs : List V} (h : TPl H a xs) (s : Same H H') : TPl H' a xs := h.elim (fun e => .inl (s _ _ e)) fun ⟨o, e⟩ => .inr ⟨o, s _ _ e⟩
theorem TPl.sq {K : PySem.W.Frag} {H : Hp} {a : Addr} {xs : List V} (h : TPl H a xs) : SqT K H a xs := .inl h
mutual
inductive Df (H : Hp) : V → PyData → Prop
  | non : Df H .non .none
  | bl (b : Bool) : Df H (.bl b) (.bool b)
  | int (i : Int) : Df H (.int i) (.int i)
  | str (x : Str) : Df H (.str x) (.str x)
  | lst {a : Addr} {xs : List V} {ds : List PyData} : H a = some (.lst xs) → DfAll H xs ds → Df H (.ref a) (.list ds)
  | tup {a : Addr} {xs : List V} {ds : List PyData} : TPl H a xs → DfAll H xs ds → Df H (.ref a) (.tuple ds)
inductive DfAll (H : Hp) : List V → List PyData → Prop
  | nil : DfAll H [] []
  | cons {v : V} {vs : List V} {d : PyData} {ds : List PyData} : Df H v d → DfAll H vs ds → DfAll H (v :: vs) (d :: ds)
end
mutual
theorem Df.same {H H' : Hp} (s : Same H H') : ∀ {v : V} {d : PyData}, Df H v d → Df H' v d
  | _, _, .non => .non
  | _, _, .bl b => .bl b
  | _, _, .int b => .int b
  | _, _, .str b => .str b
  | _, _, .lst e r => .lst (s _ _ e) (DfAll.same s r)
  | _, _, .tup e r => .tup (e.same s) (DfAll.same s r)
theorem DfAll.same {H H' : Hp} (s : Same H H') : ∀ {v : List V} {d : List PyData}, DfAll H v d → DfAll H' v d
  | _, _, .nil => .nil
  | _, _, .cons a r => .cons (Df.same s a) (DfAll.same s r)
end
mutual
theorem Df.dp {K : PySem.W.Frag} {H : Hp} : ∀ {v : V} {d : PyData}, Df H v d → Dp K H v d
  | _, _, .non => .non
  | _, _, .bl b => .bl b
  | _, _, .int b => .int b
  | _, _, .str b => .str b
  | _, _, .lst e r => .lst (SqL.of e) (DfAll.dp r)
  | _, _, .tup e r => .tup e.sq (DfAll.dp r)
theorem DfAll.dp {K : PySem.W.Frag} {H : Hp} : ∀ {v : List V} {d : List PyData}, DfAll H v d → DpAll K H v d
  | _, _, .nil => .nil
  | _, _, .cons a r => .cons (Df.dp a) (DfAll.dp r)
end
mutual
theorem Dt.df {S : Addr → Prop} {H : Hp} : ∀ {v : V} {d : PyData}, Dt S H v d → Df H v d
  | _, _, .non => .non
  | _, _, .bl b => .bl b
  | _, _, .int b => .int b
  | _, _, .str b => .str b
  | _, _, .lst _ e _ r => .lst e (DtAll.df r)
  | _, _, .tup _ e _ r => .tup (.inl e) (DtAll.df r)
theorem DtAll.df {S : Addr → Prop} {H : Hp} : ∀ {v : List V} {d : List PyData}, DtAll S H v d → DfAll H v d
  | _, _, .nil => .nil
  | _, _, .cons a r => .cons (Dt.df a) (DtAll.df r)
end
theorem Df.ty {K : PySem.W.Frag} {H : Hp} {v : V} {d : PyData} (h : Df H v d) : TyX K H v (.type (tyN d)) := by
  cases h with
  | non => exact .base .non
  | bl b => exact .base (.bl b)
  | int b => exact .base (.int b)
  | str b => exact .base (.str b)
  | lst e r => exact .base (.lst e)
  | tup e r =>
    rcases e with e | ⟨o, e⟩
    · exact .base (.tup e)
    · exact .fTuple e
theorem DfAll.len {H : Hp} : ∀ {xs : List V} {ds : List PyData}, DfAll H xs ds → xs.length = ds.length
  | _, _, .nil => rfl
  | _, _, .cons _ r => congrArg Nat.succ (DfAll.len r)
theorem DfAll.get {H : Hp} : ∀ {i : Nat} {xs : List V} {ds : List PyData} {x : V}, DfAll H xs ds → xs[i]? = some x → ∃ d, ds[i]? = some d ∧ Df H x d
  | _, _, _, _, .nil, h => by simp at h
  | 0, _, _, _, .cons a _, h => ⟨_, rfl, by rw [← Option.some.inj h]; exact a⟩
  | i + 1, _, _, _, .cons _ r, h => DfAll.get (i := i) r h
section
variable {P : Program} {w : World} {K : PySem.W.Frag} {mg : Str → Option Value} {base : Heap} {k : Nat}
def sp_is_wholeF : Sp := fun vs H Q _ => ∃ v d, vs = [v] ∧ Df H v d ∧ Q (.bl (wholeD d)) H
theorem ok_is_wholeF (T : Defs K mg) : FnOk P w K mg base CX0 (k + 1) T.a_is_whole T.d_is_whole ["thing"] sp_is_wholeF := by
  refine T.F_is_whole.ok sc_is_whole (fun vs H Q E h => ?_) (fun cdv A outer s H vs Q E hr h => ?_)
  · obtain ⟨v, d, rfl, _⟩ := h
    rfl
  · obtain ⟨v, d, rfl, hv, q⟩ := h
    refine ⟨_, PSs.nox
(pss_one (ps_ret (pe_and (pe_callB call_isi (by rfl) T.z_isinstance (by decide +kernel) (pa_cons (pv 0) (pa_cons (pe_bltn (v := .ty "int") (by rfl) T.z_int (by decide +kernel) rfl) pa_nil))) (pe_one (pe_not (pe_callB call_isi (by rfl) T.z_isinstance (by decide +kernel) (pa_cons (pv 0) (pa_cons (pe_bltn (v := .ty "bool") (by rfl) T.z_bool (by decide +kernel) rfl) pa_nil))))))))
      , ?_⟩
    refine ⟨v, rfl, v, .ty "int", _, _, _, rfl, .ty _, hv.ty, kit_I d, isiI d, rfl, ?_⟩
    cases d with
    | int i => exact iteT ⟨v, rfl, v, .ty "bool", _, _, _, rfl, .ty _, Df.ty (K := K) hv, kit_B (K := K) (.int i), false, rfl, q⟩
    | bool b => exact iteT ⟨v, rfl, v, .ty "bool", _, _, _, rfl, .ty _, Df.ty (K := K) hv, kit_B (K := K) (.bool b), true, rfl, q⟩
    | none => exact iteF q
    | str _ => exact iteF q
    | list _ => exact iteF q
    | tuple _ => exact iteF q
    | dict _ => exact iteF q
def sp_is_betweenF : Sp := fun vs H Q _ => ∃ v d lo hi, vs = [v, .int lo, .int hi] ∧ Df H v d ∧ Q (.bl (betD d lo hi)) H
theorem ok_is_whole_betweenF (T : Defs K mg) : FnOk P w K mg base CX0 (k + 2) T.a_is_whole_between T.d_is_whole_between ["thing", "least", "most"] sp_is_betweenF := by
  have G_is_whole : FnOk P w K mg base CX0 (k + 1) _ _ _ _ := ok_is_wholeF (k := k) T
  refine T.F_is_whole_between.ok sc_is_whole_between (fun vs H Q E h => ?_) (fun cdv A outer s H vs Q E hr h => ?_)
  · obtain ⟨v, d, lo, hi, rfl, _⟩ := h
    rfl
  · obtain ⟨v, d, lo, hi, rfl, hv, q⟩ := h
    refine ⟨_, PSs.nox
(pss_one (ps_ret (pe_and (pe_call G_is_whole hr (by rfl) T.g_is_whole T.F_is_whole.kp T.b_is_whole .nil pass0 (pa_cons (pv 0) pa_nil)) (pe_one (pe_chain op_le op_le (pv 1) (pv 0) (pv 2))))))
      , ?_⟩
    refine ⟨v, rfl, v, d, rfl, hv, wholeD d, rfl, ?_⟩
    cases d with
    | int i =>
      cases hv
      refine iteT ⟨.int lo, rfl, .int i, rfl, lo, i, rfl, rfl, decide (lo ≤ i), rfl, ite2 (fun c => ?_) fun c => ?_⟩
      · refine ⟨.int hi, rfl, i, hi, rfl, rfl, ?_⟩
        have e : betD (.int i) lo hi = decide (i ≤ hi) := by show (decide (lo ≤ i) && decide (i ≤ hi)) = _; rw [c, Bool.true_and]
        rw [e] at q
        exact q
      · have e : betD (.int i) lo hi = false := by show (decide (lo ≤ i) && decide (i ≤ hi)) = _; rw [show decide (lo ≤ i) = false by simpa using c, Bool.false_and]
        rw [e] at q
        exact q
    | bool b => exact iteF q
    | none => exact iteF q
    | str _ => exact iteF q
    | list _ => exact iteF q
    | tuple _ => exact iteF q
    | dict _ => exact iteF q
def sp_is_tupleF : Sp := fun vs H Q _ => ∃ v d lo hi, vs = [v, .int lo, .int hi] ∧ Df H v d ∧ Q (.bl (tupD d lo hi)) H
theorem ok_is_tupleF (T : Defs K mg) : FnOk P w K mg base CX0 (k + 1) T.a_is_tuple T.d_is_tuple ["thing", "fewest", "most"] sp_is_tupleF := by
  refine T.F_is_tuple.ok sc_is_tuple (fun vs H Q E h => ?_) (fun cdv A outer s H vs Q E hr h => ?_)
  · obtain ⟨v, d, lo, hi, rfl, _⟩ := h
    rfl
  · obtain ⟨v, d, lo, hi, rfl, hv, q⟩ := h
    refine ⟨_, PSs.nox
(pss_one (ps_ret (pe_and (pe_callB call_isi (by rfl) T.z_isinstance (by decide +kernel) (pa_cons (pv 0) (pa_cons (pe_bltn (v := .ty "tuple") (by rfl) T.z_tuple (by decide +kernel) rfl) pa_nil))) (pe_one (pe_chain op_le op_le (pv 1) (pe_callB (r := rLenS K) call_lenS (by rfl) T.z_len (by decide +kernel) (pa_cons (pv 0) pa_nil)) (pv 2))))))
      , ?_⟩
    refine ⟨v, rfl, v, .ty "tuple", _, _, _, rfl, .ty _, hv.ty, kit_T d, isiT d, rfl, ?_⟩
    cases d with
    | tuple ds =>
      obtain ⟨a, xs, rfl, e, hxs⟩ : ∃ a xs, v = .ref a ∧ TPl H a xs ∧ DfAll H xs ds := by
        cases hv with
        | tup e r => exact ⟨_, _, rfl, e, r⟩
      have xl := hxs.len
      refine iteT ⟨.int lo, rfl, .ref a, rfl, a, _, rfl, .inr (.inl e), lo, _, rfl, rfl, decide (lo ≤ (xs.length : Int)), rfl, ite2 (fun c => ?_) fun c => ?_⟩
      · refine ⟨.int hi, rfl, _, hi, rfl, rfl, ?_⟩
        have e : tupD (.tuple ds) lo hi = decide ((xs.length : Int) ≤ hi) := by show (decide (lo ≤ (ds.length : Int)) && decide ((ds.length : Int) ≤ hi)) = _; rw [← xl, c, Bool.true_and]
        rw [e] at q
        exact q
      · have e : tupD (.tuple ds) lo hi = false := by show (decide (lo ≤ (ds.length : Int)) && decide ((ds.length : Int) ≤ hi)) = _; rw [← xl, show decide (lo ≤ (xs.length : Int)) = false by simpa using c, Bool.false_and]
        rw [e] at q
        exact q
    | bool b => exact iteF q
    | none => exact iteF q
    | str _ => exact iteF q
    | list _ => exact iteF q
    | int _ => exact iteF q
    | dict _ => exact iteF q
def sp_is_nameF : Sp := fun vs H Q _ => ∃ v d, vs = [v] ∧ Df H v d ∧ (∀ s, d = .str s → s.length ≤ 5000) ∧ ∀ H', Same H H' → Q (.bl (nameD d)) H'
set_option maxHeartbeats 8000000 in
theorem ok_is_nameF (T : Defs K mg) : FnOk P w K mg base CX0 (k + 1) T.a_is_name T.d_is_name ["thing"] sp_is_nameF := by
  refine T.F_is_name.ok sc_is_name (fun vs H Q E h => ?_) (fun cdv A outer s H vs Q E hr h => ?_)
  · obtain ⟨v, d, rfl, _⟩ := h
    rfl
  · obtain ⟨v, d, rfl, hv, hl, q⟩ := h
    refine ⟨_, PSs.nox
(pss_cons (ps_if (PW.pt (pw_or (pt_not (pt_val (pe_callB call_isi (by rfl) T.z_isinstance (by decide +kernel) (pa_cons (pv 0) (pa_cons (pe_bltn (v := .ty "str") (by rfl) T.z_str (by decide +kernel) rfl) pa_nil))))) (pw_or1 (pt_not (pt_chain op_le op_le (pe_int) (pe_callB call_len_str (by rfl) T.z_len (by decide +kernel) (pa_cons (pv 0) pa_nil)) (pe_glob (v := .int 8) (by rfl) T.c_LONGEST_NAME ⟨_, rfl⟩))))))
      (pss_one (ps_ret (pe_bl)))
      pss_nil)
    (pss_one (ps_ret (pe_callB (r := rAll K) (cr_all rfl) (by rfl) T.z_all (by decide +kernel) (pa_cons (pe_lc (own := [("letter", 1)]) (g := gName 1) rfl sc_is_name.nd (pi_str (pv 0)) (blkOk_by (N := N_is_name) (sc := defScope s_is_name) (by decide +kernel)) (fun _ _ _ _ _ => (pg_name (i := 1) sc_is_name.nd rfl (.inl rfl))) (fun _ _ _ _ _ => pts_nil) (fun _ _ _ _ _ => (pe_chain op_le_str op_le_str (pe_str) (pv 1) (pe_str)))) pa_nil)))))
      , ?_⟩
    refine ⟨v, rfl, v, .ty "str", _, _, _, rfl, .ty _, hv.ty, kit_S d, isiS d, rfl, ?_⟩
    have q0 := q H (fun _ _ e => e)
    cases d with
    | int i => exact iteT q0
    | bool b => exact iteT q0
    | none => exact iteT q0
    | list _ => exact iteT q0
    | tuple _ => exact iteT q0
    | dict _ => exact iteT q0
    | str z =>
      cases hv
      have zl := hl z rfl
      have zs : z.length ≤ sizeLine := by rw [sizeLine_eq]; omega
      refine iteF ⟨.str z, rfl, z, rfl, zs, 1, (z.length : Int), rfl, rfl, decide ((1 : Int) ≤ (z.length : Int)), rfl, ite2 (fun c1 => ?_) (fun c1 => ?_)⟩
      · refine ⟨(z.length : Int), 8, rfl, rfl, _, rfl, ite2 (fun c2 => ?_) (fun c2 => ?_)⟩
        · have c2 : ¬ z.length ≤ 8 := fun g => by
            rw [show decide ((z.length : Int) ≤ 8) = true from decide_eq_true (by omega)] at c2
            cases c2
          have e : nameD (.str z) = false := by
            show (decide (1 ≤ z.length) && decide (z.length ≤ 8) && alS "a" "z" z) = false
            rw [decide_eq_false c2, Bool.and_false, Bool.false_and]
          rw [e] at q0
          exact q0
        · have c2 : z.length ≤ 8 := Decidable.byContradiction fun g => c2 (by rw [decide_eq_false (show ¬ (z.length : Int) ≤ 8 by omega)]; rfl)
          have c1 : 1 ≤ z.length := by have := of_decide_eq_true c1; omega
          have e : nameD (.str z) = alS "a" "z" z := by
            show (decide (1 ≤ z.length) && decide (z.length ≤ 8) && alS "a" "z" z) = _
            rw [decide_eq_true c1, decide_eq_true c2]
            rfl
          rw [e] at q
          refine ⟨.str z, rfl, z, rfl, fun C nC => ?_⟩
          refine lc_it (walk_str (z := z)) (fun i Hx => Same H Hx ∧ Hx C = some (.lst (((z.cps.toList.take i).map fun c => !decide ([c] < ("a" : Str).cps.toList) && !decide (("z" : Str).cps.toList < [c])).map V.bl))) ⟨same_upd nC, upd_same⟩ (fun _ _ _ _ => trivial) (fun i v Hx Hx' hi pv yy => ?_) (fun Hx pv => ?_)
          · obtain ⟨rfl, c, ec, rfl⟩ := yy
            obtain ⟨sx, eC⟩ := pv
            have zl2 : z.cps.toList.length = z.length := rfl
            have hlen : ((z.cps.toList.take i).map fun c => !decide ([c] < ("a" : Str).cps.toList) && !decide (("z" : Str).cps.toList < [c])).length ≤ 8 := by rw [List.length_map, List.length_take]; omega
            have tk1 : z.cps.toList.take (i + 1) = z.cps.toList.take i ++ [c] := by rw [List.take_add_one, Array.getElem?_toList, ec]; rfl
            refine ⟨rfl, yes_ ⟨.str ⟨#[c]⟩, rfl, "a", ⟨#[c]⟩, rfl, rfl, _, rfl, ite2 (fun b1 => ?_) (fun b1 => ?_)⟩⟩
            · refine ⟨⟨#[c]⟩, "z", rfl, rfl, _, eC, small5000 (by rw [List.length_map]; omega), same_set sx nC, ?_⟩
              rw [upd_same, tk1, List.map_append, List.map_append]
              have b1 : (!decide ([c] < ("a" : Str).cps.toList)) = true := b1
              show _ = some (HO.lst (_ ++ [V.bl (!decide ([c] < ("a" : Str).cps.toList) && !decide (("z" : Str).cps.toList < [c]))]))
              rw [b1, Bool.true_and]
            · refine ⟨_, eC, small5000 (by rw [List.length_map]; omega), same_set sx nC, ?_⟩
              rw [upd_same, tk1, List.map_append, List.map_append]
              have b1 : (!decide ([c] < ("a" : Str).cps.toList)) = false := Bool.eq_false_iff.mpr b1
              show _ = some (HO.lst (_ ++ [V.bl (!decide ([c] < ("a" : Str).cps.toList) && !decide (("z" : Str).cps.toList < [c]))]))
              rw [b1, Bool.false_and]
          · obtain ⟨sx, eC⟩ := pv
            refine ⟨C, _, rfl, SqL.of eC, ?_⟩
            have ea : (((z.cps.toList.take z.cps.size).map fun c => !decide ([c] < ("a" : Str).cps.toList) && !decide (("z" : Str).cps.toList < [c])).all id) = alS "a" "z" z := by
              rw [List.take_of_length_le (by rw [Array.length_toList]; exact Nat.le_refl _), List.all_map]
              rfl
            rw [ea]
            exact q _ sx
      · have e : nameD (.str z) = false := by
          show (decide (1 ≤ z.length) && decide (z.length ≤ 8) && alS "a" "z" z) = false
          rw [show decide (1 ≤ z.length) = false from decide_eq_false fun g => c1 (decide_eq_true (by omega))]
          rfl
        rw [e] at q0
        exact ⟨_, rfl, q0⟩
end
section
variable {P : Program} {w : World} {K : PySem.W.Frag} {mg : Str → Option Value} {base : Heap} {k : Nat}
def sp_all_unlike (K : PySem.W.Frag) : Sp := fun vs H Q _ => ∃ l : Addr, vs = [.ref l] ∧ ((∃ ss : List Str, (SqL K H l (ss.map V.str) ∨ SqT K H l (ss.map V.str)) ∧ ss.length < 4000 ∧ ∀ H', Same H H' → Q (.bl (decide ss.Nodup)) H') ∨
  ∃ ks : List (Addr × List Str), SqL K H l (ks.map fun p => V.ref p.1) ∧ (∀ p ∈ ks, SqT K H p.1 (p.2.map V.str)) ∧ ks.length < 64 ∧ ∀ H', Same H H' → Q (.bl (decide (ks.map (·.2)).Nodup)) H')
theorem sqT_same {K : PySem.W.Frag} {H H' : Hp} {a : Addr} {xs : List V} (s : Same H H') (h : SqT K H a xs) : SqT K H' a xs := by
  rcases h with (h | ⟨o, h⟩) | h
  · exact .inl (.inl (s _ _ h))
  · exact .inl (.inr ⟨o, s _ _ h⟩)
  · exact .inr h
set_option maxHeartbeats 8000000 in
theorem ok_all_unlike (T : Defs K mg) : FnOk P w K mg base CX0 (k + 1) T.a_all_unlike T.d_all_unlike ["things"] (sp_all_unlike K) := by
  refine T.F_all_unlike.ok sc_all_unlike (fun vs H Q E h => ?_) (fun cdv A outer s H vs Q E hr h => ?_)
  · obtain ⟨l, rfl, _⟩ := h
    rfl
  · obtain ⟨l, rfl, h⟩ := h
    refine ⟨_, PSs.nox
(pss_one (ps_ret (pe_cmpR op_eq (pe_callB (r := Spr.rLenU P w) Spr.call_lenU (by rfl) T.z_len (by decide +kernel) (pa_cons (pe_callTy (r := Spr.rSetU K P w) (Spr.cr_setU rfl hr.units) (by rfl) T.z_set (by decide +kernel) (pa_cons (pv 0) pa_nil)) pa_nil)) (pe_callB (r := rLenS K) call_lenS (by rfl) T.z_len (by decide +kernel) (pa_cons (pv 0) pa_nil)) (nomark _))))
      , ?_⟩
    have eq : ∀ {c n : Nat} {p : Prop} [Decidable p], (c = n ↔ p) → decide (V.int (c : Int) = V.int (n : Int)) = decide p := fun {c n p} _ h => by
      by_cases e : p
      · rw [decide_eq_true e, decide_eq_true (by rw [h.mpr e])]
      · rw [decide_eq_false e, decide_eq_false fun z => e (h.mp (by injection z with z; omega))]
    rcases h with ⟨ss, hl, few, q⟩ | ⟨ks, hl, hk, few, q⟩
    · refine ⟨.ref l, rfl, .inl ⟨l, ss, rfl, hl, few, fun a na => .inl ⟨a, ss, rfl, upd_same, fun c le nd => ?_⟩⟩⟩
      have sa := same_upd (o := Stx.SetTxO P w a ss) na
      refine ⟨.ref l, rfl, l, _, rfl, hl.elim (fun h => .inl (sq_same sa h)) (fun h => .inr (sqT_same sa h)), rfl, ?_⟩
      rw [show ((ss.map V.str).length : Int) = (ss.length : Int) by rw [List.length_map], eq nd]
      exact q _ sa
    · refine ⟨.ref l, rfl, .inr ⟨l, ks, rfl, hl, hk, few, fun a na => .inr ⟨a, ks.map (·.2), rfl, upd_same, fun c le nd => ?_⟩⟩⟩
      have sa := same_upd (o := Spr.SetPrO a (ks.map (·.2))) na
      refine ⟨.ref l, rfl, l, _, rfl, .inl (sq_same sa hl), rfl, ?_⟩
      rw [List.length_map] at nd
      rw [show ((ks.map fun p => V.ref p.1).length : Int) = (ks.length : Int) by rw [List.length_map], eq nd]
      exact q _ sa
end
end Th
namespace Th
open PySem PySem.Spec PyProof.Rows L2
inductive Tb : PyData → Prop
  | non : Tb .none
  | bl (b : Bool) : Tb (.bool b)
  | int (i : Int) : Tb (.int i)
  | str {s : Str} : s.length ≤ 5000 → Tb (.str s)
  | lst (ds : List PyData) : Tb (.list ds)
  | tup {ds : List PyData} : (∀ x ∈ ds, Tb x) → Tb (.tuple ds)
  | dct (ds : List (PyData × PyData)) : Tb (.dict ds)
theorem Tb.len {d : PyData} (h : Tb d) : ∀ s, d = .str s → s.length ≤ 5000 := fun s e => by
  subst e
  cases h
  assumption
theorem Tb.mem {ds : List PyData} (h : Tb (.tuple ds)) : ∀ x ∈ ds, Tb x := by
  cases h
  assumption
def namesD (ds : List PyData) : List Str := ds.filterMap fun d => match d with
  | .str s => some s
  | _ => none
theorem names_all {ds : List PyData} (h : ds.all nameD = true) : ds = (namesD ds).map PyData.str := by
  induction ds with
  | nil => rfl
  | cons d ds ih =>
    rw [List.all_cons, Bool.and_eq_true] at h
    obtain ⟨h1, h2⟩ := h
    cases d with
    | str s =>
      show PyData.str s :: ds = PyData.str s :: (namesD ds).map PyData.str
      rw [← ih h2]
    | _ => cases (show false = true from h1)
def linesB (d : PyData) : Bool := tupD d 1 8 && (match d with
  | .tuple ds => ds.all nameD && decide (namesD ds).Nodup
  | _ => false)
theorem dfAll_vs {H : Hp} : ∀ {xs : List V} {ss : List Str}, DfAll H xs (ss.map PyData.str) → xs = ss.map V.str
  | _, [], h => by cases h; rfl
  | _, s :: ss, h => by
    cases h with
    | cons a r =>
      cases a
      rw [dfAll_vs r]
      rfl
theorem tup_inv {H : Hp} {v : V} {ds : List PyData} (h : Df H v (.tuple ds)) : ∃ a xs, v = .ref a ∧ TPl H a xs ∧ DfAll H xs ds ∧ xs.length = ds.length := by
  cases h with
  | tup e r => exact ⟨_, _, rfl, e, r, r.len⟩
section
variable {P : Program} {w : World} {K : PySem.W.Frag} {mg : Str → Option Value} {base : Heap} {k : Nat}
def sp_are_lines : Sp := fun vs H Q _ => ∃ v d, vs = [v] ∧ Df H v d ∧ Tb d ∧ ∀ H', Same H H' → Q (.bl (linesB d)) H'
set_option maxHeartbeats 8000000 in
theorem ok_are_lines (T : Defs K mg) : FnOk P w K mg base CX0 (k + 2) T.a_are_lines T.d_are_lines ["thing"] sp_are_lines := by
  have G_is_tuple : FnOk P w K mg base CX0 (k + 1) _ _ _ _ := ok_is_tupleF (k := k) T
  have G_is_name : FnOk P w K mg base CX0 (k + 1) _ _ _ _ := ok_is_nameF (k := k) T
  have G_all_unlike : FnOk P w K mg base CX0 (k + 1) _ _ _ _ := ok_all_unlike (k := k) T
  refine T.F_are_lines.ok sc_are_lines (fun vs H Q E h => ?_) (fun cdv A outer s H vs Q E hr h => ?_)
  · obtain ⟨v, d, rfl, _⟩ := h
    rfl
  · obtain ⟨v, d, rfl, hv, tb, q⟩ := h
    refine ⟨_, PSs.nox
(pss_cons (ps_if (pt_not (pt_val (pe_call G_is_tuple hr (by rfl) T.g_is_tuple T.F_is_tuple.kp T.b_is_tuple .nil pass0 (pa_cons (pv 0) (pa_cons (pe_int) (pa_cons (pe_glob (v := .int 8) (by rfl) T.c_MOST_LINES ⟨_, rfl⟩) pa_nil))))))
      (pss_one (ps_ret (pe_bl)))
      pss_nil)
    (pss_one (ps_ret (pe_and (pe_callB (r := rAll K) (cr_all rfl) (by rfl) T.z_all (by decide +kernel) (pa_cons (pe_lc (own := [("line", 1)]) (g := gName 1) rfl sc_are_lines.nd (pi_tup (pv 0)) (blkOk_by (N := N_are_lines) (sc := defScope s_are_lines) (by decide +kernel)) (fun _ _ _ _ _ => (pg_name (i := 1) sc_are_lines.nd rfl (.inl rfl))) (fun _ _ _ _ _ => pts_nil) (fun _ _ _ _ _ => (pe_call G_is_name hr (by rfl) T.g_is_name T.F_is_name.kp T.b_is_name .nil pass0 (pa_cons (pv 1) pa_nil)))) pa_nil)) (pe_one (pe_call G_all_unlike hr (by rfl) T.g_all_unlike T.F_all_unlike.kp T.b_all_unlike .nil pass0 (pa_cons (pv 0) pa_nil)))))))
      , ?_⟩
    refine ⟨v, rfl, v, d, 1, 8, rfl, hv, ?_⟩
    have q0 : linesB d = false → ∀ H', Same H H' → Q (.bl false) H' := fun e H' s => by rw [← e]; exact q H' s
    cases c : tupD d 1 8 with
    | false =>
      refine ⟨_, rfl, iteT (q0 ?_ _ fun _ _ z => z)⟩
      unfold linesB
      rw [c]
      rfl
    | true =>
      refine ⟨_, rfl, iteF ?_⟩
      obtain ⟨ds, rfl⟩ : ∃ ds, d = .tuple ds := by
        cases d with
        | tuple ds => exact ⟨ds, rfl⟩
        | _ => cases c
      obtain ⟨t, xs, rfl, et, hxs, xl⟩ := tup_inv hv
      have l8 : ds.length ≤ 8 := by
        have c : (decide ((1 : Int) ≤ (ds.length : Int)) && decide ((ds.length : Int) ≤ 8)) = true := c
        have := of_decide_eq_true (Bool.and_eq_true_iff.mp c).2
        omega
      have lb : linesB (.tuple ds) = (ds.all nameD && decide (namesD ds).Nodup) := by unfold linesB; rw [c, Bool.true_and]
      refine ⟨.ref t, rfl, t, rfl, ⟨_, .inl et⟩, fun C nC => ?_⟩
      refine lc_it (walk_tup (xs := xs)) (fun i Hx => Same H Hx ∧ Hx C = some (.lst (((ds.take i).map nameD).map V.bl))) ⟨same_upd nC, upd_same⟩ (fun i Hx _ pv => .inl (et.same pv.1)) (fun i x Hx₀ Hx hi pv yy => ?_) (fun Hx pv => ?_)
      · obtain ⟨rfl, ex⟩ := yy
        obtain ⟨sx, eC⟩ := pv
        obtain ⟨y, ey, hy⟩ := hxs.get ex
        have tk1 : ds.take (i + 1) = ds.take i ++ [y] := by rw [List.take_add_one, ey]; rfl
        refine ⟨rfl, yes_ ⟨x, rfl, x, y, rfl, hy.same sx, (tb.mem y (List.mem_of_getElem? ey)).len, fun H3 s3 => ⟨_, s3 _ _ eC, small5000 (by rw [List.length_map, List.length_map, List.length_take]; omega), same_set (sx.trans s3) nC, ?_⟩⟩⟩
        rw [upd_same, tk1, List.map_append, List.map_append]
        rfl
      · obtain ⟨sx, eC⟩ := pv
        rw [xl, List.take_length] at eC
        refine ⟨C, _, rfl, SqL.of eC, ?_⟩
        have ea : ((ds.map nameD).all id) = ds.all nameD := by rw [List.all_map]; rfl
        rw [ea]
        cases ca : ds.all nameD with
        | false => exact ⟨_, rfl, iteF (q0 (by rw [lb, ca, Bool.false_and]) _ sx)⟩
        | true =>
          have en := names_all ca
          rw [en] at hxs
          have ev := dfAll_vs hxs
          refine ⟨_, rfl, iteT ⟨.ref t, rfl, t, rfl, .inl ⟨namesD ds, .inr (.inl (by rw [← ev]; exact et.same sx)), ?_, fun H' s' => ?_⟩⟩⟩
          · have := congrArg List.length en
            rw [List.length_map] at this
            omega
          · have := q H' (sx.trans s')
            rw [lb, ca, Bool.true_and] at this
            exact this
end
end Th
namespace Th
open PySem PySem.Spec PyProof.Rows L2
theorem un65 {k : Nat} {A : Around} (h : Room k A) : A.units + 65 < cLine := by have := h.un; omega
def strIn (ss : List Str) (d : PyData) : Bool := (ss.map PyData.str).any fun z => z.eqv d
theorem strs_lay {ss : List Str} (h : ∀ s ∈ ss, PyData.strOk s = true) : PyData.canLayAll0 (ss.map PyData.str) = true := by
  induction ss with
  | nil => rfl
  | cons s ss ih => exact Bool.and_eq_true_iff.mpr ⟨h s List.mem_cons_self, ih fun z hz => h z (List.mem_cons_of_mem _ hz)⟩
theorem strs_dep (ss : List Str) : PyData.depthAll (ss.map PyData.str) = 0 := by
  induction ss with
  | nil => rfl
  | cons s ss ih => show max 0 (PyData.depthAll (ss.map PyData.str)) = 0; rw [ih]; rfl
theorem strs_tup {ss : List Str} (h : ∀ s ∈ ss, PyData.strOk s = true) : SeqAt.shaped (.tuple (ss.map PyData.str)) = true := Bool.and_eq_true_iff.mpr ⟨strs_lay h, decide_eq_true (by show PyData.depthAll (ss.map PyData.str) + 1 ≤ 64; rw [strs_dep]; decide)⟩
theorem dpAll_strs {K : PySem.W.Frag} {H : Hp} : ∀ ss : List Str, DpAll K H (ss.map V.str) (ss.map PyData.str)
  | [] => .nil
  | s :: ss => .cons (.str s) (dpAll_strs ss)
theorem shm {ds : List PyData} (h : SeqAt.shaped (.tuple ds) = true) : ∀ x ∈ ds, SeqAt.shaped x = true := by
  have h : (PyData.canLayAll0 ds && decide (PyData.depthAll ds + 1 ≤ 64)) = true := h
  obtain ⟨h1, h2⟩ := Bool.and_eq_true_iff.mp h
  have h2 := of_decide_eq_true h2
  have go : ∀ l : List PyData, PyData.canLayAll0 l = true → ∀ x ∈ l, x.canLay0 = true ∧ PyData.depth x ≤ PyData.depthAll l := fun l => by
    induction l with
    | nil => exact fun _ x hx => (by cases hx)
    | cons d l ih =>
      intro h x hx
      obtain ⟨a, b⟩ := Bool.and_eq_true_iff.mp (show (d.canLay0 && PyData.canLayAll0 l) = true from h)
      have e : PyData.depthAll (d :: l) = max (PyData.depth d) (PyData.depthAll l) := rfl
      rw [e]
      rcases List.mem_cons.mp hx with z | z
      · rw [z]; exact ⟨a, Nat.le_max_left _ _⟩
      · obtain ⟨p, q⟩ := ih b x z
        exact ⟨p, Nat.le_trans q (Nat.le_max_right _ _)⟩
  intro x hx
  obtain ⟨a, b⟩ := go ds h1 x hx
  exact Bool.and_eq_true_iff.mpr ⟨a, decide_eq_true (by omega)⟩
theorem tupD_len {d : PyData} {a b : Int} (h : tupD d a b = true) : ∃ ds, d = .tuple ds ∧ a ≤ (ds.length : Int) ∧ (ds.length : Int) ≤ b := by
  cases d with
  | tuple ds =>
    have h : (decide (a ≤ (ds.length : Int)) && decide ((ds.length : Int) ≤ b)) = true := h
    obtain ⟨h1, h2⟩ := Bool.and_eq_true_iff.mp h
    exact ⟨ds, rfl, of_decide_eq_true h1, of_decide_eq_true h2⟩
  | _ => cases h
theorem two_ofN {α : Type} {l : List α} (h : l.length = 2) : ∃ a b, l = [a, b] := by
  match l, h with
  | [a, b], _ => exact ⟨a, b, rfl⟩
def stationB (ls : List Str) (d : PyData) : Bool := match d with
  | .tuple [a, b] => nameD a && strIn ls b
  | _ => false
theorem station_tup {ls : List Str} {d : PyData} (h : tupD d 2 2 = false) : stationB ls d = false := by
  cases d with
  | tuple ds =>
    match ds, h with
    | [], _ => rfl
    | [_], _ => rfl
    | [_, _], h => cases h
    | _ :: _ :: _ :: _, _ => rfl
  | _ => rfl
def stationsB (ls : List Str) (d : PyData) : Bool := tupD d 0 16 && (match d with
  | .tuple ds => ds.all (stationB ls)
  | _ => false)
structure LnOk (ls : List Str) : Prop where
  ok : ∀ z ∈ ls, PyData.strOk z = true
  len : ls.length ≤ 8
section
variable {P : Program} {w : World} {K : PySem.W.Frag} {mg : Str → Option Value} {base : Heap} {k : Nat}
def sp_one (f : List Str → PyData → Bool) : Sp := fun vs H Q _ => ∃ (l : Addr) (ls : List Str) (v : V) (d : PyData), vs = [.ref l, v] ∧ TPl H l (ls.map V.str) ∧ LnOk ls ∧ Df H v d ∧ Tb d ∧ SeqAt.shaped d = true ∧ ∀ H', Same H H' → Q (.bl (f ls d)) H'
set_option maxHeartbeats 8000000 in
theorem ok_is_station (T : Defs K mg) : FnOk P w K mg base CX0 (k + 2) T.a_is_station T.d_is_station ["lines", "thing"] (sp_one stationB) := by
  have G_is_tuple : FnOk P w K mg base CX0 (k + 1) _ _ _ _ := ok_is_tupleF (k := k) T
  have G_is_name : FnOk P w K mg base CX0 (k + 1) _ _ _ _ := ok_is_nameF (k := k) T
  refine T.F_is_station.ok sc_is_station (fun vs H Q E h => ?_) (fun cdv A outer s H vs Q E hr h => ?_)
  · obtain ⟨l, ls, v, d, rfl, _⟩ := h
    rfl
  · obtain ⟨l, ls, v, d, rfl, el, lo, hv, tb, sh, q⟩ := h
    refine ⟨_, PSs.nox
(pss_one (ps_ret (pe_and (pe_call G_is_tuple hr (by rfl) T.g_is_tuple T.F_is_tuple.kp T.b_is_tuple .nil pass0 (pa_cons (pv 1) (pa_cons (pe_int) (pa_cons (pe_int) pa_nil)))) (pe_and (pe_call G_is_name hr (by rfl) T.g_is_name T.F_is_name.kp T.b_is_name .nil pass0 (pa_cons (pe_ix (r := rIxT K) ix_tup (pv 1) (pe_int) (fun _ _ => rfl)) pa_nil)) (pe_one (pe_cmpR (r := InT.rInT K) (InT.op_inT (un65 hr)) (pe_ix (r := rIxT K) ix_tup (pv 1) (pe_int) (fun _ _ => rfl)) (pv 0) (by rfl)))))))
      , ?_⟩
    refine ⟨v, rfl, v, d, 2, 2, rfl, hv, ?_⟩
    cases c : tupD d 2 2 with
    | false =>
      refine ⟨_, rfl, iteF ?_⟩
      have := q H fun _ _ z => z
      rw [station_tup c] at this
      exact this
    | true =>
      refine ⟨_, rfl, iteT ?_⟩
      obtain ⟨ds, rfl, c1, c2⟩ := tupD_len c
      obtain ⟨a, b, rfl⟩ := two_ofN (l := ds) (by omega)
      obtain ⟨t, xs, rfl, et, hxs, xl⟩ := tup_inv hv
      obtain ⟨x, y, rfl, hx, hy⟩ : ∃ x y, xs = [x, y] ∧ Df H x a ∧ Df H y b := by
        cases hxs with
        | cons h1 h2 =>
          cases h2 with
          | cons h2 h3 => cases h3; exact ⟨_, _, rfl, h1, h2⟩
      have e : stationB ls (.tuple [a, b]) = (nameD a && strIn ls b) := rfl
      refine ⟨.ref t, rfl, t, _, 0, x, rfl, rfl, .inl et, atI_nat (j := 0) rfl, x, a, rfl, hx, (tb.mem a (by simp)).len, fun H1 s1 => ⟨_, rfl, ?_⟩⟩
      cases ca : nameD a with
      | false =>
        refine iteF ?_
        have := q H1 s1
        rw [e, ca] at this
        exact this
      | true =>
        refine iteT ⟨.ref t, rfl, t, _, 1, y, rfl, rfl, .inl (et.same s1), atI_nat (j := 1) rfl, .ref l, rfl, b, ls.map PyData.str, (hy.same s1).dp, .tup (.inl (el.same s1)) (dpAll_strs _), shm sh b (by simp), strs_tup lo.ok, ?_⟩
        have := q H1 s1
        rw [e, ca, Bool.true_and] at this
        exact this
set_option maxHeartbeats 8000000 in
theorem ok_are_stations (T : Defs K mg) : FnOk P w K mg base CX0 (k + 3) T.a_are_stations T.d_are_stations ["lines", "thing"] (sp_one stationsB) := by
  have G_is_tuple : FnOk P w K mg base CX0 (k + 2) _ _ _ _ := ok_is_tupleF (k := k + 1) T
  have G_is_station : FnOk P w K mg base CX0 (k + 2) _ _ _ _ := ok_is_station (k := k) T
  refine T.F_are_stations.ok sc_are_stations (fun vs H Q E h => ?_) (fun cdv A outer s H vs Q E hr h => ?_)
  · obtain ⟨l, ls, v, d, rfl, _⟩ := h
    rfl
  · obtain ⟨l, ls, v, d, rfl, el, lo, hv, tb, sh, q⟩ := h
    refine ⟨_, PSs.nox
(pss_cons (ps_if (pt_not (pt_val (pe_call G_is_tuple hr (by rfl) T.g_is_tuple T.F_is_tuple.kp T.b_is_tuple .nil pass0 (pa_cons (pv 1) (pa_cons (pe_int) (pa_cons (pe_glob (v := .int 16) (by rfl) T.c_MOST_STATIONS ⟨_, rfl⟩) pa_nil))))))
      (pss_one (ps_ret (pe_bl)))
      pss_nil)
    (pss_one (ps_ret (pe_callB (r := rAll K) (cr_all rfl) (by rfl) T.z_all (by decide +kernel) (pa_cons (pe_lc (own := [("station", 2)]) (g := gName 2) rfl sc_are_stations.nd (pi_tup (pv 1)) (blkOk_by (N := N_are_stations) (sc := defScope s_are_stations) (by decide +kernel)) (fun _ _ _ _ _ => (pg_name (i := 2) sc_are_stations.nd rfl (.inl rfl))) (fun _ _ _ _ _ => pts_nil) (fun _ _ _ _ _ => (pe_call G_is_station hr (by rfl) T.g_is_station T.F_is_station.kp T.b_is_station .nil pass0 (pa_cons (pv 0) (pa_cons (pv 2) pa_nil))))) pa_nil)))))
      , ?_⟩
    refine ⟨v, rfl, v, d, 0, 16, rfl, hv, ?_⟩
    cases c : tupD d 0 16 with
    | false =>
      refine ⟨_, rfl, iteT ?_⟩
      have := q H fun _ _ z => z
      unfold stationsB at this
      rw [c] at this
      exact this
    | true =>
      refine ⟨_, rfl, iteF ?_⟩
      obtain ⟨ds, rfl, c1, c2⟩ := tupD_len c
      obtain ⟨t, xs, rfl, et, hxs, xl⟩ := tup_inv hv
      refine ⟨.ref t, rfl, t, rfl, ⟨_, .inl et⟩, fun C nC => ?_⟩
      refine lc_it (walk_tup (xs := xs)) (fun i Hx => Same H Hx ∧ Hx C = some (.lst (((ds.take i).map (stationB ls)).map V.bl))) ⟨same_upd nC, upd_same⟩ (fun i Hx _ pv => .inl (et.same pv.1)) (fun i x Hx₀ Hx hi pv yy => ?_) (fun Hx pv => ?_)
      · obtain ⟨rfl, ex⟩ := yy
        obtain ⟨sx, eC⟩ := pv
        obtain ⟨y, ey, hy⟩ := hxs.get ex
        have my := List.mem_of_getElem? ey
        have tk1 : ds.take (i + 1) = ds.take i ++ [y] := by rw [List.take_add_one, ey]; rfl
        refine ⟨rfl, yes_ ⟨.ref l, rfl, x, rfl, l, ls, x, y, rfl, el.same sx, lo, hy.same sx, tb.mem y my, shm sh y my, fun H3 s3 => ⟨_, s3 _ _ eC, small5000 (by rw [List.length_map, List.length_map, List.length_take]; omega), same_set (sx.trans s3) nC, ?_⟩⟩⟩
        rw [upd_same, tk1, List.map_append, List.map_append]
        rfl
      · obtain ⟨sx, eC⟩ := pv
        rw [xl, List.take_length] at eC
        refine ⟨C, _, rfl, SqL.of eC, ?_⟩
        have := q Hx sx
        unfold stationsB at this
        rw [c, Bool.true_and] at this
        rw [List.all_map]
        exact this
end
end Th
namespace Th
open PySem PySem.Spec PyProof.Rows L2
def inD (ds : List PyData) (z : Str) : Bool := ds.any fun x => PyData.eqv x (.str z)
def joinedB (ls : List Str) (d : PyData) : Bool := tupD d 2 (ls.length : Int) && (match d with
  | .tuple ds => PyData.eqv (.tuple ds) (.tuple ((ls.filter (inD ds)).map PyData.str))
  | _ => false)
def junctionB (ls : List Str) (d : PyData) : Bool := match d with
  | .tuple [a, b] => nameD a && joinedB ls b
  | _ => false
theorem junction_tup {ls : List Str} {d : PyData} (h : tupD d 2 2 = false) : junctionB ls d = false := by
  cases d with
  | tuple ds =>
    match ds, h with
    | [], _ => rfl
    | [_], _ => rfl
    | [_, _], h => cases h
    | _ :: _ :: _ :: _, _ => rfl
  | _ => rfl
def junctionsB (ls : List Str) (d : PyData) : Bool := tupD d 0 12 && (match d with
  | .tuple ds => ds.all (junctionB ls)
  | _ => false)
theorem str_shp {z : Str} (h : PyData.strOk z = true) : SeqAt.shaped (.str z) = true := Bool.and_eq_true_iff.mpr ⟨h, decide_eq_true (by show 0 ≤ 64; decide)⟩
section
variable {P : Program} {w : World} {K : PySem.W.Frag} {mg : Str → Option Value} {base : Heap} {k : Nat}
set_option maxHeartbeats 8000000 in
theorem ok_are_joined (T : Defs K mg) : FnOk P w K mg base CX0 (k + 2) T.a_are_joined T.d_are_joined ["lines", "thing"] (sp_one joinedB) := by
  have G_is_tuple : FnOk P w K mg base CX0 (k + 1) _ _ _ _ := ok_is_tupleF (k := k) T
  refine T.F_are_joined.ok sc_are_joined (fun vs H Q E h => ?_) (fun cdv A outer s H vs Q E hr h => ?_)
  · obtain ⟨l, ls, v, d, rfl, _⟩ := h
    rfl
  · obtain ⟨l, ls, v, d, rfl, el, lo, hv, tb, sh, q⟩ := h
    refine ⟨_, PSs.nox
(pss_cons (ps_if (pt_not (pt_val (pe_call G_is_tuple hr (by rfl) T.g_is_tuple T.F_is_tuple.kp T.b_is_tuple .nil pass0 (pa_cons (pv 1) (pa_cons (pe_int) (pa_cons (pe_callB (r := rLenS K) call_lenS (by rfl) T.z_len (by decide +kernel) (pa_cons (pv 0) pa_nil)) pa_nil))))))
      (pss_one (ps_ret (pe_bl)))
      pss_nil)
    (pss_one (ps_ret (pe_cmpR (r := rEqD K) (op_eqD hr.units) (pv 1) (pe_callTy call_tuple_of (by rfl) T.z_tuple (by decide +kernel) (pa_cons (pe_lc (own := [("line", 2)]) (g := gName 2) rfl sc_are_joined.nd (pi_tup (pv 0)) (blkOk_by (N := N_are_joined) (sc := defScope s_are_joined) (by decide +kernel)) (fun _ _ _ _ _ => (pg_name (i := 2) sc_are_joined.nd rfl (.inl rfl))) (fun _ _ _ _ _ => pts_one (pt_cmpR (r := InT.rInT K) (InT.op_inT (un65 hr)) (pv 2) (pv 1) (by rfl))) (fun _ _ _ _ _ => (pv 2))) pa_nil)) (nomark _)))))
      , ?_⟩
    have ll : ((ls.map V.str).length : Int) = (ls.length : Int) := by rw [List.length_map]
    refine ⟨v, rfl, .ref l, rfl, l, _, rfl, .inr (.inl el), v, d, 2, _, rfl, hv, ?_⟩
    rw [ll]
    cases c : tupD d 2 (ls.length : Int) with
    | false =>
      refine ⟨_, rfl, iteT ?_⟩
      have := q H fun _ _ z => z
      unfold joinedB at this
      rw [c] at this
      exact this
    | true =>
      refine ⟨_, rfl, iteF ?_⟩
      obtain ⟨ds, rfl, c1, c2⟩ := tupD_len c
      obtain ⟨t, xs, rfl, et, hxs, xl⟩ := tup_inv hv
      refine ⟨.ref t, rfl, .ref l, rfl, l, rfl, ⟨_, .inl el⟩, fun C nC => ?_⟩
      refine lc_it (walk_tup (xs := ls.map V.str)) (fun i Hx => Same H Hx ∧ Hx C = some (.lst (((ls.take i).filter (inD ds)).map V.str))) ⟨same_upd nC, upd_same⟩ (fun i Hx _ pv => .inl (el.same pv.1)) (fun i x Hx₀ Hx hi pv yy => ?_) (fun Hx pv => ?_)
      · obtain ⟨rfl, ex⟩ := yy
        obtain ⟨sx, eC⟩ := pv
        rw [List.getElem?_map] at ex
        obtain ⟨z, ez, rfl⟩ := Option.map_eq_some_iff.mp ex
        have mz := List.mem_of_getElem? ez
        have tk1 : ls.take (i + 1) = ls.take i ++ [z] := by rw [List.take_add_one, ez]; rfl
        refine ⟨rfl, .str z, rfl, .ref t, rfl, .str z, ds, .str z, (hv.same sx).dp, str_shp (lo.ok z mz), sh, _, rfl, ite2 (fun b => ?_) fun b => ?_⟩
        · have b : inD ds z = true := b
          refine ⟨.str z, rfl, _, eC, ?_, same_set sx nC, ?_⟩
          · rw [List.length_map]
            have := List.length_filter_le (inD ds) (ls.take i)
            rw [List.length_take] at this
            have := lo.len
            exact small5000 (by omega)
          · rw [upd_same, tk1, List.filter_append, List.map_append, List.filter_cons_of_pos b]
            rfl
        · have b : ¬ inD ds z = true := b
          refine ⟨sx, ?_⟩
          rw [eC, tk1, List.filter_append, List.filter_cons_of_neg b, List.filter_nil, List.append_nil]
      · obtain ⟨sx, eC⟩ := pv
        rw [List.length_map, List.take_length] at eC
        refine ⟨C, _, rfl, .inl ⟨SqL.of eC, fun u nu => ?_⟩⟩
        have su := same_upd (o := .tup ((ls.filter (inD ds)).map V.str)) nu
        have sxu := sx.trans su
        refine ⟨.tuple ds, .tuple ((ls.filter (inD ds)).map PyData.str), (hv.same sxu).dp, .tup (SqT.of upd_same) (dpAll_strs _), sh, strs_tup fun z hz => lo.ok z (List.mem_filter.mp hz).1, ?_⟩
        have := q _ sxu
        unfold joinedB at this
        rw [c, Bool.true_and] at this
        exact this
set_option maxHeartbeats 8000000 in
theorem ok_is_junction (T : Defs K mg) : FnOk P w K mg base CX0 (k + 3) T.a_is_junction T.d_is_junction ["lines", "thing"] (sp_one junctionB) := by
  have G_is_tuple : FnOk P w K mg base CX0 (k + 2) _ _ _ _ := ok_is_tupleF (k := k + 1) T
  have G_is_name : FnOk P w K mg base CX0 (k + 2) _ _ _ _ := ok_is_nameF (k := k + 1) T
  have G_are_joined : FnOk P w K mg base CX0 (k + 2) _ _ _ _ := ok_are_joined (k := k) T
  refine T.F_is_junction.ok sc_is_junction (fun vs H Q E h => ?_) (fun cdv A outer s H vs Q E hr h => ?_)
  · obtain ⟨l, ls, v, d, rfl, _⟩ := h
    rfl
  · obtain ⟨l, ls, v, d, rfl, el, lo, hv, tb, sh, q⟩ := h
    refine ⟨_, PSs.nox
(pss_one (ps_ret (pe_and (pe_call G_is_tuple hr (by rfl) T.g_is_tuple T.F_is_tuple.kp T.b_is_tuple .nil pass0 (pa_cons (pv 1) (pa_cons (pe_int) (pa_cons (pe_int) pa_nil)))) (pe_and (pe_call G_is_name hr (by rfl) T.g_is_name T.F_is_name.kp T.b_is_name .nil pass0 (pa_cons (pe_ix (r := rIxT K) ix_tup (pv 1) (pe_int) (fun _ _ => rfl)) pa_nil)) (pe_one (pe_call G_are_joined hr (by rfl) T.g_are_joined T.F_are_joined.kp T.b_are_joined .nil pass0 (pa_cons (pv 0) (pa_cons (pe_ix (r := rIxT K) ix_tup (pv 1) (pe_int) (fun _ _ => rfl)) pa_nil))))))))
      , ?_⟩
    refine ⟨v, rfl, v, d, 2, 2, rfl, hv, ?_⟩
    cases c : tupD d 2 2 with
    | false =>
      refine ⟨_, rfl, iteF ?_⟩
      have := q H fun _ _ z => z
      rw [junction_tup c] at this
      exact this
    | true =>
      refine ⟨_, rfl, iteT ?_⟩
      obtain ⟨ds, rfl, c1, c2⟩ := tupD_len c
      obtain ⟨a, b, rfl⟩ := two_ofN (l := ds) (by omega)
      obtain ⟨t, xs, rfl, et, hxs, xl⟩ := tup_inv hv
      obtain ⟨x, y, rfl, hx, hy⟩ : ∃ x y, xs = [x, y] ∧ Df H x a ∧ Df H y b := by
        cases hxs with
        | cons h1 h2 =>
          cases h2 with
          | cons h2 h3 => cases h3; exact ⟨_, _, rfl, h1, h2⟩
      have e : junctionB ls (.tuple [a, b]) = (nameD a && joinedB ls b) := rfl
      refine ⟨.ref t, rfl, t, _, 0, x, rfl, rfl, .inl et, atI_nat (j := 0) rfl, x, a, rfl, hx, (tb.mem a (by simp)).len, fun H1 s1 => ⟨_, rfl, ?_⟩⟩
      cases ca : nameD a with
      | false =>
        refine iteF ?_
        have := q H1 s1
        rw [e, ca] at this
        exact this
      | true =>
        refine iteT ⟨.ref l, rfl, .ref t, rfl, t, _, 1, y, rfl, rfl, .inl (et.same s1), atI_nat (j := 1) rfl, l, ls, y, b, rfl, el.same s1, lo, hy.same s1, tb.mem b (by simp), shm sh b (by simp), fun H2 s2 => ?_⟩
        have := q H2 (s1.trans s2)
        rw [e, ca, Bool.true_and] at this
        exact this
set_option maxHeartbeats 8000000 in
theorem ok_are_junctions (T : Defs K mg) : FnOk P w K mg base CX0 (k + 4) T.a_are_junctions T.d_are_junctions ["lines", "thing"] (sp_one junctionsB) := by
  have G_is_tuple : FnOk P w K mg base CX0 (k + 3) _ _ _ _ := ok_is_tupleF (k := k + 2) T
  have G_is_junction : FnOk P w K mg base CX0 (k + 3) _ _ _ _ := ok_is_junction (k := k) T
  refine T.F_are_junctions.ok sc_are_junctions (fun vs H Q E h => ?_) (fun cdv A outer s H vs Q E hr h => ?_)
  · obtain ⟨l, ls, v, d, rfl, _⟩ := h
    rfl
  · obtain ⟨l, ls, v, d, rfl, el, lo, hv, tb, sh, q⟩ := h
    refine ⟨_, PSs.nox
(pss_cons (ps_if (pt_not (pt_val (pe_call G_is_tuple hr (by rfl) T.g_is_tuple T.F_is_tuple.kp T.b_is_tuple .nil pass0 (pa_cons (pv 1) (pa_cons (pe_int) (pa_cons (pe_glob (v := .int 12) (by rfl) T.c_MOST_JUNCTIONS ⟨_, rfl⟩) pa_nil))))))
      (pss_one (ps_ret (pe_bl)))
      pss_nil)
    (pss_one (ps_ret (pe_callB (r := rAll K) (cr_all rfl) (by rfl) T.z_all (by decide +kernel) (pa_cons (pe_lc (own := [("junction", 2)]) (g := gName 2) rfl sc_are_junctions.nd (pi_tup (pv 1)) (blkOk_by (N := N_are_junctions) (sc := defScope s_are_junctions) (by decide +kernel)) (fun _ _ _ _ _ => (pg_name (i := 2) sc_are_junctions.nd rfl (.inl rfl))) (fun _ _ _ _ _ => pts_nil) (fun _ _ _ _ _ => (pe_call G_is_junction hr (by rfl) T.g_is_junction T.F_is_junction.kp T.b_is_junction .nil pass0 (pa_cons (pv 0) (pa_cons (pv 2) pa_nil))))) pa_nil)))))
      , ?_⟩
    refine ⟨v, rfl, v, d, 0, 12, rfl, hv, ?_⟩
    cases c : tupD d 0 12 with
    | false =>
      refine ⟨_, rfl, iteT ?_⟩
      have := q H fun _ _ z => z
      unfold junctionsB at this
      rw [c] at this
      exact this
    | true =>
      refine ⟨_, rfl, iteF ?_⟩
      obtain ⟨ds, rfl, c1, c2⟩ := tupD_len c
      obtain ⟨t, xs, rfl, et, hxs, xl⟩ := tup_inv hv
      refine ⟨.ref t, rfl, t, rfl, ⟨_, .inl et⟩, fun C nC => ?_⟩
      refine lc_it (walk_tup (xs := xs)) (fun i Hx => Same H Hx ∧ Hx C = some (.lst (((ds.take i).map (junctionB ls)).map V.bl))) ⟨same_upd nC, upd_same⟩ (fun i Hx _ pv => .inl (et.same pv.1)) (fun i x Hx₀ Hx hi pv yy => ?_) (fun Hx pv => ?_)
      · obtain ⟨rfl, ex⟩ := yy
        obtain ⟨sx, eC⟩ := pv
        obtain ⟨y, ey, hy⟩ := hxs.get ex
        have my := List.mem_of_getElem? ey
        have tk1 : ds.take (i + 1) = ds.take i ++ [y] := by rw [List.take_add_one, ey]; rfl
        refine ⟨rfl, yes_ ⟨.ref l, rfl, x, rfl, l, ls, x, y, rfl, el.same sx, lo, hy.same sx, tb.mem y my, shm sh y my, fun H3 s3 => ⟨_, s3 _ _ eC, small5000 (by rw [List.length_map, List.length_map, List.length_take]; omega), same_set (sx.trans s3) nC, ?_⟩⟩⟩
        rw [upd_same, tk1, List.map_append, List.map_append]
        rfl
      · obtain ⟨sx, eC⟩ := pv
        rw [xl, List.take_length] at eC
        refine ⟨C, _, rfl, SqL.of eC, ?_⟩
        have := q Hx sx
        unfold junctionsB at this
        rw [c, Bool.true_and] at this
        rw [List.all_map]
        exact this
end
end Th
namespace Th
open PySem PySem.Spec PyProof.Rows L2
def ent (sts : List (Nm × Nm)) (jns : List (Nm × List Nm)) : List (Nm × List Nm) := sts.map (fun s => (s.1, [s.2])) ++ jns
def lkF (es : List (Nm × List Nm)) (y : Nm) : Option (List Nm) := es.foldl (fun acc e => if y = e.1 then some e.2 else acc) none
theorem lkF_snoc (es : List (Nm × List Nm)) (e : Nm × List Nm) (y : Nm) : lkF (es ++ [e]) y = if y = e.1 then some e.2 else lkF es y := by
  unfold lkF
  rw [List.foldl_append]
  rfl
theorem TPl.tk {H H' : Hp} {a : Addr} {xs : List V} (h : TPl H a xs) (k : TKF H H') : TPl H' a xs := h.elim (fun e => .inl (k.t _ _ e)) fun ⟨o, e⟩ => .inr ⟨o, k.f _ _ _ e⟩
def StF (H : Hp) (a : Addr) (st : Nm × Nm) : Prop := TPl H a [nS st.1, nS st.2]
def JnF (H : Hp) (a : Addr) (jn : Nm × List Nm) : Prop := ∃ b, TPl H a [nS jn.1, .ref b] ∧ TPl H b (jn.2.map nS)
/-- what a dict tells of the places -/
structure DVF (H : Hp) (kvs : List (Key × V)) (es : List (Nm × List Nm)) : Prop where
  no : ∀ z, lkF es z = none → valV kvs (Sum.inr (SX.S z)) = none
  yes : ∀ z l, lkF es z = some l → ∃ a, valV kvs (Sum.inr (SX.S z)) = some (.ref a) ∧ TPl H a (l.map nS)
  ks : ∃ zs : List Nm, kvs.map (·.1) = (zs.map SX.S).map Sum.inr ∧ zs.length ≤ es.length ∧ (es ≠ [] → zs ≠ []) ∧ ∀ z ∈ zs, (lkF es z).isSome = true
theorem DVF.tk {H H' : Hp} {kvs : List (Key × V)} {es : List (Nm × List Nm)} (h : DVF H kvs es) (k : TKF H H') : DVF H' kvs es :=
  ⟨h.no, fun z l e => let ⟨a, h1, h2⟩ := h.yes z l e; ⟨a, h1, h2.tk k⟩, h.ks⟩
theorem DVF.nil {H : Hp} : DVF H [] [] := ⟨fun _ _ => rfl, fun z l e => (by cases e), [], rfl, Nat.le_refl _, fun h => absurd rfl h, fun z h => (by cases h)⟩
theorem DVF.put {H : Hp} {kvs : List (Key × V)} {es : List (Nm × List Nm)} (h : DVF H kvs es) {z : Nm} {l : List Nm} {a : Addr} (e : TPl H a (l.map nS)) : DVF H (putK kvs (Sum.inr (SX.S z)) (.ref a)) (es ++ [(z, l)]) := by
  refine ⟨fun y hy => ?_, fun y m hy => ?_, ?_⟩
  · rw [lkF_snoc] at hy
    rw [valV_put]
    by_cases c : y = z
    · rw [if_pos c] at hy
      cases hy
    · rw [if_neg c] at hy
      rw [if_neg (fun q => c (SX.S_inj (Sum.inr.inj q)))]
      exact h.no y hy
  · rw [lkF_snoc] at hy
    rw [valV_put]
    by_cases c : y = z
    · rw [if_pos c] at hy
      have := Option.some.inj hy
      subst this
      rw [if_pos (by rw [c])]
      exact ⟨a, rfl, e⟩
    · rw [if_neg c] at hy
      rw [if_neg (fun q => c (SX.S_inj (Sum.inr.inj q)))]
      exact h.yes y m hy
  · obtain ⟨zs, h1, h2, h3, h4⟩ := h.ks
    cases hv : valV kvs (Sum.inr (SX.S z)) with
    | none =>
      rw [putK_new _ hv]
      refine ⟨zs ++ [z], by rw [List.map_append, h1, List.map_append, List.map_append]; rfl, by rw [List.length_append, List.length_append]; show _ + 1 ≤ _ + 1; omega, fun _ => by simp, fun y hy => ?_⟩
      rw [lkF_snoc]
      by_cases c : y = z
      · rw [if_pos c]
        rfl
      · rw [if_neg c]
        rcases List.mem_append.mp hy with q | q
        · exact h4 y q
        · exact absurd (List.mem_singleton.mp q) c
    | some v =>
      refine ⟨zs, ?_, by rw [List.length_append]; omega, fun _ q => ?_, fun y hy => ?_⟩
      · have ha : (kvs.any fun kv => decide (kv.1 = (Sum.inr (SX.S z) : Key))) = true := by
          rw [valV_any, hv]
          rfl
        unfold putK
        rw [if_pos ha, List.map_map, ← h1]
        refine List.map_congr_left fun kv _ => ?_
        show (if kv.1 = Sum.inr (SX.S z) then (kv.1, V.ref a) else kv).1 = kv.1
        split <;> rfl
      · rw [q] at h1
        rw [List.map_eq_nil_iff.mp h1] at hv
        cases hv
      · rw [lkF_snoc]
        by_cases c : y = z
        · rw [if_pos c]
          rfl
        · rw [if_neg c]
          exact h4 y hy
section
variable {P : Program} {w : World} {K : PySem.W.Frag} {mg : Str → Option Value} {base : Heap} {k : Nat}
def sp_lines_by_placeF : Sp := fun vs H Q _ => ∃ (b c : Addr) (sa ja : List Addr) (sts : List (Nm × Nm)) (jns : List (Nm × List Nm)), vs = [.ref b, .ref c] ∧ TPl H b (sa.map V.ref) ∧ Paired (StF H) sa sts ∧ TPl H c (ja.map V.ref) ∧ Paired (JnF H) ja jns ∧ sts.length ≤ 100 ∧ jns.length ≤ 100 ∧
  ∀ H' d kvs, Same H H' → H d = none → H' d = some (.dK kvs) → DVF H' kvs (ent sts jns) → Q (.ref d) H'
theorem DVF.len {H : Hp} {kvs : List (Key × V)} {es : List (Nm × List Nm)} (h : DVF H kvs es) : kvs.length ≤ es.length := by
  obtain ⟨zs, h1, h2, _⟩ := h.ks
  have := congrArg List.length h1
  rw [List.length_map, List.length_map, List.length_map] at this
  omega
set_option maxHeartbeats 8000000 in
theorem ok_lines_by_placeF (T : Defs K mg) : FnOk P w K mg base CX0 (k + 1) T.a_lines_by_place T.d_lines_by_place ["stations", "junctions"] sp_lines_by_placeF := by
  refine T.F_lines_by_place.ok sc_lines_by_place (fun vs H Q E h => ?_) (fun cdv A outer s H vs Q E hr h => ?_)
  · obtain ⟨b, c, sa, ja, sts, jns, rfl, _⟩ := h
    rfl
  · obtain ⟨b, c, sa, ja, sts, jns, rfl, eb, hS, ec, hJ, l1, l2, q⟩ := h
    refine ⟨_, PSs.nox
(pss_cons (Ds.ps_setDc (i := 2) (own := [("name", 3), ("line", 5)]) (g := gTup K 2 (gCons (gName 3) (gCons (gName 5) gNil))) rfl sc_lines_by_place.nd rfl rfl (Ds.sw_trueD rfl rfl rfl (by decide +kernel)) (pi_tup (pv 0)) (blkOk_by (N := N_lines_by_place) (sc := defScope s_lines_by_place) (by decide +kernel)) (fun _ _ _ _ _ => (pg_tup rfl (pgs_cons (pg_name (i := 3) sc_lines_by_place.nd rfl (.inl rfl)) (pgs_cons (pg_name (i := 5) sc_lines_by_place.nd rfl (.inl rfl)) pgs_nil)))) (fun _ _ _ _ _ => pts_nil) (fun _ _ _ _ _ => (pv 3)) (fun _ _ _ _ _ => (pe_tup (pa_cons (pv 5) pa_nil))))
    (pss_cons (ps_for PassesOwn.never rfl (pi_tup (pv 1)) (pg_tup rfl (pgs_cons (pg_name (i := 3) sc_lines_by_place.nd rfl (.inl rfl)) (pgs_cons (pg_name (i := 4) sc_lines_by_place.nd rfl (.inl rfl)) pgs_nil)))
      (pss_one (ps_dput (hu_of hr) (pv 2) (pv 3) (pv 4) (by rfl))))
    (pss_one (ps_ret (pv 2)))))
      , ?_⟩
    have sl := paired_len hS
    have jl := paired_len hJ
    refine ⟨.ref b, rfl, b, rfl, ⟨_, eb.sq⟩, fun D nD => ?_⟩
    have nDt : ∀ {H' : Hp} {o : HO} {kvs : List (Key × V)}, H' D = some (.dK kvs) → TKF H' (upd H' D o) := fun e => .upd fun xs z => by rw [e] at z; cases z
    refine dc_tup (xs := sa.map V.ref) (fun i H3 => Same H H3 ∧ ∃ kvs, H3 D = some (.dK kvs) ∧ DVF H3 kvs ((sts.take i).map fun s => (s.1, [s.2]))) ⟨same_upd nD, [], upd_same, DVF.nil⟩ (fun i H3 _ pv => (eb.same pv.1).sq) (fun i x H3 ex pv => ?_) (fun H3 pv => ?_)
    · obtain ⟨s3, kvs, eD, dv⟩ := pv
      obtain ⟨u, eu, rfl⟩ : ∃ u, sa[i]? = some u ∧ x = .ref u := by
        rw [List.getElem?_map] at ex
        cases h : sa[i]? with
        | none => rw [h] at ex; cases ex
        | some t => rw [h] at ex; exact ⟨t, rfl, (Option.some.inj ex).symm⟩
      obtain ⟨st, est, hu⟩ := paired_get hS eu
      refine ⟨u, _, rfl, (hu.same s3).sq, rfl, _, _, rfl, _, [], rfl, rfl, rfl, yes_ ?_⟩
      refine ⟨nS st.1, rfl, nS st.2, rfl, one_sz, fun u1 n1 => ?_⟩
      have eD1 := same_upd (o := .tup [nS st.2]) n1 _ _ eD
      have ilt : i < sts.length := (List.getElem?_eq_some_iff.mp est).1
      refine ⟨kvs, Sum.inr (SX.S st.1), rfl, eD1, ?_, same_set (s3.trans (same_upd n1)) nD, _, upd_same, ?_⟩
      · refine small5000 (Nat.le_trans dv.len ?_)
        rw [List.length_map, List.length_take]
        omega
      · rw [List.take_add_one, est, List.map_append]
        exact ((dv.tk (.of (same_upd n1))).put (l := [st.2]) (.inl upd_same)).tk (nDt eD1)
    obtain ⟨s3, kvs, eD, dv⟩ := pv
    rw [List.length_map, sl, List.take_length] at dv
    refine ⟨.ref c, rfl, c, rfl, ⟨_, (ec.same s3).sq⟩, ?_⟩
    refine for_it (walk_tup (xs := ja.map V.ref)) (fun i σ H4 => ∃ (y3 y4 y5 : Option V), σ = [some (.ref b), some (.ref c), some (.ref D), y3, y4, y5] ∧ Same H H4 ∧ ∃ kvs, H4 D = some (.dK kvs) ∧ DVF H4 kvs ((sts.map fun s => (s.1, [s.2])) ++ jns.take i))
      ⟨_, _, _, rfl, s3, kvs, eD, by rw [List.take_zero, List.append_nil]; exact dv⟩ (fun i σ H4 _ hp => ?_) (fun i v σ H4₀ H4 hi hp yy => ?_) (fun σ H4 hp => ?_)
    · obtain ⟨_, _, _, _, s4, _⟩ := hp
      exact (ec.same s4).sq
    · obtain ⟨rfl, ex⟩ := yy
      obtain ⟨y3, y4, y5, rfl, s4, kvs, eD, dv⟩ := hp
      obtain ⟨u, eu, rfl⟩ : ∃ u, ja[i]? = some u ∧ v = .ref u := by
        rw [List.getElem?_map] at ex
        cases h : ja[i]? with
        | none => rw [h] at ex; cases ex
        | some t => rw [h] at ex; exact ⟨t, rfl, (Option.some.inj ex).symm⟩
      obtain ⟨jn, ejn, jt, hu, hjt⟩ := paired_get hJ eu
      have ilt : i < jns.length := (List.getElem?_eq_some_iff.mp ejn).1
      refine ⟨u, _, rfl, (hu.same s4).sq, rfl, _, _, rfl, _, [], rfl, rfl, ?_⟩
      refine ⟨.ref jt, rfl, .ref D, rfl, nS jn.1, rfl, D, _, rfl, DPut.k (k := Sum.inr (SX.S jn.1)) eD ?_, ?_⟩
      · refine small5000 (Nat.le_trans dv.len ?_)
        rw [List.length_append, List.length_map, List.length_take]
        omega
      · refine ⟨_, _, _, rfl, same_set s4 nD, _, upd_same, ?_⟩
        rw [List.take_add_one, ejn, ← List.append_assoc]
        exact (dv.put (hjt.same s4)).tk (nDt eD)
    · obtain ⟨y3, y4, y5, rfl, s4, kvs, eD, dv⟩ := hp
      rw [List.length_map, jl, List.take_length] at dv
      exact ⟨.ref D, rfl, q _ D kvs s4 nD eD dv⟩
end
end Th
namespace Th
open PySem PySem.Spec PyProof.Rows L2
def nmOf (z : Str) : Nm := z.cps.toList
theorem nmOf_S (z : Str) : SX.S (nmOf z) = z := by
  obtain ⟨a⟩ := z
  exact congrArg Str.mk (Array.toArray_toList)
def linesOf (es : List (Nm × List Nm)) (z : Str) : List Str := ((lkF es (nmOf z)).getD []).map SX.S
def tieB (es : List (Nm × List Nm)) (d : PyData) : Bool := match d with
  | .tuple [.str a, .str b, l, c] => nameS a && nameS b && !decide (a = b) && strIn (linesOf es a) l && strIn (linesOf es b) l && betD c 1 9999
  | _ => false
theorem four_of {α : Type} {l : List α} (h : l.length = 4) : ∃ a b c d, l = [a, b, c, d] := by
  match l, h with
  | [a, b, c, d], _ => exact ⟨a, b, c, d, rfl⟩
theorem tie_tup {es : List (Nm × List Nm)} {d : PyData} (h : tupD d 4 4 = false) : tieB es d = false := by
  unfold tieB
  split
  · cases h
  · rfl
section
variable {P : Program} {w : World} {K : PySem.W.Frag} {mg : Str → Option Value} {base : Heap} {k : Nat}
def sp_is_tie : Sp := fun vs H Q _ => ∃ (D : Addr) (kvs : List (Key × V)) (es : List (Nm × List Nm)) (v : V) (d : PyData), vs = [.ref D, v] ∧ H D = some (.dK kvs) ∧ DVF H kvs es ∧ (∀ z l, lkF es z = some l → ∀ y ∈ l, IsNm y) ∧ Df H v d ∧ Tb d ∧ SeqAt.shaped d = true ∧ ∀ H', Same H H' → Q (.bl (tieB es d)) H'
set_option maxHeartbeats 8000000 in
theorem ok_is_tie (T : Defs K mg) : FnOk P w K mg base CX0 (k + 3) T.a_is_tie T.d_is_tie ["places", "thing"] sp_is_tie := by
  have G_is_tuple : FnOk P w K mg base CX0 (k + 2) _ _ _ _ := ok_is_tupleF (k := k + 1) T
  have G_is_name : FnOk P w K mg base CX0 (k + 2) _ _ _ _ := ok_is_nameF (k := k + 1) T
  have G_is_whole_between : FnOk P w K mg base CX0 (k + 2) _ _ _ _ := ok_is_whole_betweenF (k := k) T
  refine T.F_is_tie.ok sc_is_tie (fun vs H Q E h => ?_) (fun cdv A outer s H vs Q E hr h => ?_)
  · obtain ⟨D, kvs, es, v, d, rfl, _⟩ := h
    rfl
  · obtain ⟨D, kvs, es, v, d, rfl, eD, dv, lks, hv, tb, sh, q⟩ := h
    refine ⟨_, PSs.nox
(pss_cons (ps_if (pt_not (pt_val (pe_call G_is_tuple hr (by rfl) T.g_is_tuple T.F_is_tuple.kp T.b_is_tuple .nil pass0 (pa_cons (pv 1) (pa_cons (pe_int) (pa_cons (pe_int) pa_nil))))))
      (pss_one (ps_ret (pe_bl)))
      pss_nil)
    (pss_cons (ps_asg (pv 1) (pg_tup rfl (pgs_cons (pg_name (i := 2) sc_is_tie.nd rfl (.inl rfl)) (pgs_cons (pg_name (i := 3) sc_is_tie.nd rfl (.inl rfl)) (pgs_cons (pg_name (i := 4) sc_is_tie.nd rfl (.inl rfl)) (pgs_cons (pg_name (i := 5) sc_is_tie.nd rfl (.inl rfl)) pgs_nil))))))
    (pss_cons (ps_if (PW.pt (pw_or (pt_not (pt_val (pe_call G_is_name hr (by rfl) T.g_is_name T.F_is_name.kp T.b_is_name .nil pass0 (pa_cons (pv 2) pa_nil)))) (pw_or (pt_not (pt_val (pe_call G_is_name hr (by rfl) T.g_is_name T.F_is_name.kp T.b_is_name .nil pass0 (pa_cons (pv 3) pa_nil)))) (pw_or1 (pt_cmpR op_eq (pv 2) (pv 3) (nomark _))))))
      (pss_one (ps_ret (pe_bl)))
      pss_nil)
    (pss_cons (ps_if (PW.pt (pw_or (pt_cmpR (InT.op_notInT (un65 hr)) (pv 4) (pe_dget2 (hu_of hr) (pv 0) (pv 2) (pe_tup pa_nil) ⟨rfl, rfl, rfl, rfl⟩) (by rfl)) (pw_or1 (pt_cmpR (InT.op_notInT (un65 hr)) (pv 4) (pe_dget2 (hu_of hr) (pv 0) (pv 3) (pe_tup pa_nil) ⟨rfl, rfl, rfl, rfl⟩) (by rfl)))))
      (pss_one (ps_ret (pe_bl)))
      pss_nil)
    (pss_one (ps_ret (pe_call G_is_whole_between hr (by rfl) T.g_is_whole_between T.F_is_whole_between.kp T.b_is_whole_between .nil pass0 (pa_cons (pv 5) (pa_cons (pe_int) (pa_cons (pe_glob (v := .int 9999) (by rfl) T.c_MOST_CHAINS ⟨_, rfl⟩) pa_nil))))))))))
      , ?_⟩
    refine ⟨v, rfl, v, d, 4, 4, rfl, hv, ?_⟩
    have q0 : tieB es d = false → ∀ H', Same H H' → Q (.bl false) H' := fun e H' s => by rw [← e]; exact q H' s
    cases c : tupD d 4 4 with
    | false => exact ⟨_, rfl, iteT (q0 (tie_tup c) _ fun _ _ z => z)⟩
    | true =>
      refine ⟨_, rfl, iteF ?_⟩
      obtain ⟨ds, rfl, c1, c2⟩ := tupD_len c
      obtain ⟨a, b, l, n, rfl⟩ := four_of (l := ds) (by omega)
      obtain ⟨t, xs, rfl, et, hxs, xl⟩ := tup_inv hv
      obtain ⟨x1, x2, x3, x4, rfl, h1, h2, h3, h4⟩ : ∃ x1 x2 x3 x4, xs = [x1, x2, x3, x4] ∧ Df H x1 a ∧ Df H x2 b ∧ Df H x3 l ∧ Df H x4 n := by
        cases hxs with
        | cons h1 r =>
          cases r with
          | cons h2 r =>
            cases r with
            | cons h3 r =>
              cases r with
              | cons h4 r => cases r; exact ⟨_, _, _, _, rfl, h1, h2, h3, h4⟩
      refine ⟨.ref t, rfl, t, _, rfl, .inl et, rfl, _, _, rfl, _, _, rfl, _, _, rfl, _, [], rfl, rfl, ?_⟩
      have ta := tb.mem a (by simp)
      have tb2 := tb.mem b (by simp)
      have shl := shm sh l (by simp)
      refine ⟨x1, rfl, x1, a, rfl, h1, ta.len, fun H1 s1 => ⟨_, rfl, ?_⟩⟩
      cases ca : nameD a with
      | false =>
        refine iteT (q0 ?_ _ s1)
        cases a with
        | str z => unfold tieB; cases b <;> first | rfl | (show (nameS z && _ && _ && _ && _ && _) = false; rw [show nameS z = false from ca]; rfl)
        | _ => rfl
      | true =>
        refine iteF ⟨x2, rfl, x2, b, rfl, h2.same s1, tb2.len, fun H2 s2 => ⟨_, rfl, ?_⟩⟩
        obtain ⟨za, rfl⟩ : ∃ z, a = .str z := by
          cases a with
          | str z => exact ⟨z, rfl⟩
          | _ => cases (show false = true from ca)
        cases h1
        have ca : nameS za = true := ca
        have s02 := s1.trans s2
        cases cb : nameD b with
        | false =>
          refine iteT (q0 ?_ _ s02)
          cases b with
          | str z => show (_ && nameS z && _ && _ && _ && _) = false; rw [show nameS z = false from cb, Bool.and_false]; rfl
          | _ => rfl
        | true =>
          obtain ⟨zb, rfl⟩ : ∃ z, b = .str z := by
            cases b with
            | str z => exact ⟨z, rfl⟩
            | _ => cases (show false = true from cb)
          cases h2
          have cb : nameS zb = true := cb
          have e0 : tieB es (.tuple [.str za, .str zb, l, n]) = (!decide (za = zb) && strIn (linesOf es za) l && strIn (linesOf es zb) l && betD n 1 9999) := by
            show (nameS za && nameS zb && _ && _ && _ && _) = _
            rw [ca, cb]
            rfl
          refine iteF ⟨.str za, rfl, .str zb, rfl, rfl, _, rfl, ite2 (fun cc => ?_) fun cc => ?_⟩
          · have cc := of_decide_eq_true cc
            injection cc with cc
            exact q0 (by rw [e0, decide_eq_true cc]; rfl) _ s02
          · have cc : ¬ za = zb := fun z => cc (decide_eq_true (by rw [z]))
            rw [decide_eq_false cc, Bool.not_false, Bool.true_and] at e0
            have got : ∀ {Hx : Hp} (z : Str) (p : Addr), Same H Hx → Hx p = some (.tup []) → Dp K Hx ((valV kvs (Sum.inr z)).getD (.ref p)) (.tuple ((linesOf es z).map PyData.str)) ∧ SeqAt.shaped (.tuple ((linesOf es z).map PyData.str)) = true := fun {Hx} z p sx ep => by
              have ez := nmOf_S z
              unfold linesOf
              cases c : lkF es (nmOf z) with
              | none =>
                have := dv.no _ c
                rw [ez] at this
                rw [this]
                exact ⟨.tup (SqT.of ep) .nil, by decide +kernel⟩
              | some l =>
                obtain ⟨u, e1, e2⟩ := dv.yes _ l c
                rw [ez] at e1
                rw [e1]
                refine ⟨.tup (K := K) (xs := (l.map SX.S).map V.str) ?_ (dpAll_strs _), strs_tup fun y hy => ?_⟩
                · rw [List.map_map]
                  exact (e2.same sx).sq
                · obtain ⟨nm, hn, rfl⟩ := List.mem_map.mp hy
                  exact nm_ok (lks _ l c nm hn)
            refine ⟨x3, rfl, .ref D, rfl, D, rfl, .inl ⟨_, .inl (s02 _ _ eD)⟩, .str za, rfl, Nat.zero_le _, fun p1 n1 => ?_⟩
            have sp1 := same_upd (o := .tup []) n1
            have s03 := s02.trans sp1
            obtain ⟨d1, g1⟩ := got za p1 s03 upd_same
            refine ⟨_, DGet.k (k := Sum.inr za) (s03 _ _ eD), l, _, (h3.same s03).dp, d1, shl, g1, _, rfl, ite2 (fun c1 => ?_) fun c1 => ?_⟩
            · have c1 : (!strIn (linesOf es za) l) = true := c1
              refine q0 ?_ _ s03
              rw [e0, show strIn (linesOf es za) l = false by simpa using c1]
              rfl
            · have c1 : ¬ (!strIn (linesOf es za) l) = true := c1
              rw [show strIn (linesOf es za) l = true by simpa using c1, Bool.true_and] at e0
              refine ⟨x3, rfl, .ref D, rfl, D, rfl, .inl ⟨_, .inl (s03 _ _ eD)⟩, .str zb, rfl, Nat.zero_le _, fun p2 n2 => ?_⟩
              have sp2 := same_upd (o := .tup []) n2
              have s04 := s03.trans sp2
              obtain ⟨d2, g2⟩ := got zb p2 s04 upd_same
              refine ⟨_, DGet.k (k := Sum.inr zb) (s04 _ _ eD), l, _, (h3.same s04).dp, d2, shl, g2, _, rfl, ite2 (fun c2 => ?_) fun c2 => ?_⟩
              · have c2 : (!strIn (linesOf es zb) l) = true := c2
                refine q0 ?_ _ s04
                rw [e0, show strIn (linesOf es zb) l = false by simpa using c2]
                rfl
              · have c2 : ¬ (!strIn (linesOf es zb) l) = true := c2
                rw [show strIn (linesOf es zb) l = true by simpa using c2, Bool.true_and] at e0
                have := q _ s04
                rw [e0] at this
                exact ⟨x4, rfl, x4, n, 1, 9999, rfl, h4.same s04, this⟩
end
end Th
namespace Th
open PySem PySem.Spec PyProof.Rows L2
theorem up0 {H H' : Hp} {p : Addr} (s : Same H H') (n : H' p = none) : H p = none := by
  cases e : H p with
  | none => rfl
  | some o => rw [s _ _ e] at n; cases n
def srt2 (a b : Str) : List Str := if b.cps.toList < a.cps.toList then [b, a] else [a, b]
theorem perm2 {ys : List Str} {a b : Str} (h : ys.Perm [a, b]) : ys = [a, b] ∨ ys = [b, a] := by
  obtain ⟨x, y, rfl⟩ := two_ofN (l := ys) h.length_eq
  have hx : x ∈ [a, b] := h.mem_iff.mp List.mem_cons_self
  rcases List.mem_cons.mp hx with e | e
  · subst e
    have := (List.perm_cons x).mp h
    exact .inl (by rw [List.perm_singleton.mp this])
  · have e := List.mem_singleton.mp e
    subst e
    have := (List.perm_cons x).mp (h.trans (List.Perm.swap x a []))
    exact .inr (by rw [List.perm_singleton.mp this])
theorem cps_ext {a b : Str} (h : a.cps.toList = b.cps.toList) : a = b := by
  obtain ⟨a⟩ := a
  obtain ⟨b⟩ := b
  exact congrArg Str.mk (Array.toList_inj.mp h)
theorem lt_conn {a b : List Nat} (h1 : ¬ a < b) (h2 : ¬ b < a) : a = b := List.le_antisymm (as := a) (bs := b) (List.not_lt.mp h2) (List.not_lt.mp h1)
theorem srt2_of {ys : List Str} {a b : Str} (h : ys.Perm [a, b]) (s : sortedS ys = true) : ys = srt2 a b := by
  have two : ∀ x y : Str, sortedS [x, y] = true → ¬ y.cps.toList < x.cps.toList := fun x y e => by
    have e : (!ltCps y.cps.toList x.cps.toList && true) = true := e
    rw [ltCps_eq, Bool.and_true] at e
    simpa using e
  unfold srt2
  rcases perm2 h with rfl | rfl
  · rw [if_neg (two _ _ s)]
  · split
    · rfl
    · rename_i n
      have e := cps_ext (lt_conn (two _ _ s) n)
      rw [e]
def rTupOf (K : PySem.W.Frag) : List V → Hp → VK → Prop := fun xs H Q => ∃ p ys, xs = [.ref p] ∧ ((SqL K H p ys ∧ ∀ l, H l = none → Q (.ref l) (upd H l (.tup ys))) ∨ (SqT K H p ys ∧ Q (.ref p) H))
def pairD : PyData → List Str
  | .tuple (.str a :: .str b :: _) => srt2 a b
  | _ => []
def tiesB (es : List (Nm × List Nm)) (d : PyData) : Bool := tupD d 0 40 && (match d with
  | .tuple ds => ds.all (tieB es) && decide (ds.map pairD).Nodup
  | _ => false)
theorem tie_inv {es : List (Nm × List Nm)} {d : PyData} (h : tieB es d = true) : ∃ a b l n, d = .tuple [.str a, .str b, l, n] := by
  unfold tieB at h
  split at h
  · exact ⟨_, _, _, _, rfl⟩
  · cases h
section
variable {P : Program} {w : World} {K : PySem.W.Frag} {mg : Str → Option Value} {base : Heap} {k : Nat}
def sp_are_ties : Sp := fun vs H Q _ => ∃ (D : Addr) (kvs : List (Key × V)) (es : List (Nm × List Nm)) (v : V) (d : PyData), vs = [.ref D, v] ∧ H D = some (.dK kvs) ∧ DVF H kvs es ∧ (∀ z l, lkF es z = some l → ∀ y ∈ l, IsNm y) ∧ Df H v d ∧ Tb d ∧ SeqAt.shaped d = true ∧ ∀ H', Same H H' → Q (.bl (tiesB es d)) H'
set_option maxHeartbeats 8000000 in
theorem ok_are_ties (T : Defs K mg) : FnOk P w K mg base CX0 (k + 4) T.a_are_ties T.d_are_ties ["places", "thing"] sp_are_ties := by
  have G_is_tuple : FnOk P w K mg base CX0 (k + 3) _ _ _ _ := ok_is_tupleF (k := k + 2) T
  have G_is_tie : FnOk P w K mg base CX0 (k + 3) _ _ _ _ := ok_is_tie (k := k) T
  have G_all_unlike : FnOk P w K mg base CX0 (k + 3) _ _ _ _ := ok_all_unlike (k := k + 2) T
  refine T.F_are_ties.ok sc_are_ties (fun vs H Q E h => ?_) (fun cdv A outer s H vs Q E hr h => ?_)
  · obtain ⟨D, kvs, es, v, d, rfl, _⟩ := h
    rfl
  · obtain ⟨D, kvs, es, v, d, rfl, eD, dv, lks, hv, tb, sh, q⟩ := h
    refine ⟨_, PSs.nox
(pss_cons (ps_if (pt_not (pt_val (pe_call G_is_tuple hr (by rfl) T.g_is_tuple T.F_is_tuple.kp T.b_is_tuple .nil pass0 (pa_cons (pv 1) (pa_cons (pe_int) (pa_cons (pe_glob (v := .int 40) (by rfl) T.c_MOST_TIES ⟨_, rfl⟩) pa_nil))))))
      (pss_one (ps_ret (pe_bl)))
      pss_nil)
    (pss_cons (ps_if (pt_not (pt_val (pe_callB (r := rAll K) (cr_all rfl) (by rfl) T.z_all (by decide +kernel) (pa_cons (pe_lc (own := [("tie", 2)]) (g := gName 2) rfl sc_are_ties.nd (pi_tup (pv 1)) (blkOk_by (N := N_are_ties) (sc := defScope s_are_ties) (by decide +kernel)) (fun _ _ _ _ _ => (pg_name (i := 2) sc_are_ties.nd rfl (.inl rfl))) (fun _ _ _ _ _ => pts_nil) (fun _ _ _ _ _ => (pe_call G_is_tie hr (by rfl) T.g_is_tie T.F_is_tie.kp T.b_is_tie .nil pass0 (pa_cons (pv 0) (pa_cons (pv 2) pa_nil))))) pa_nil))))
      (pss_one (ps_ret (pe_bl)))
      pss_nil)
    (pss_one (ps_ret (pe_call G_all_unlike hr (by rfl) T.g_all_unlike T.F_all_unlike.kp T.b_all_unlike .nil pass0 (pa_cons (pe_lc (own := [("tie", 2)]) (g := gName 2) rfl sc_are_ties.nd (pi_tup (pv 1)) (blkOk_by (N := N_are_ties) (sc := defScope s_are_ties) (by decide +kernel)) (fun _ _ _ _ _ => (pg_name (i := 2) sc_are_ties.nd rfl (.inl rfl))) (fun _ _ _ _ _ => pts_nil) (fun _ _ _ _ _ => (pe_callTy (r := rTupOf K) call_tuple_of (by rfl) T.z_tuple (by decide +kernel) (pa_cons (pe_callB (r := Stp.rSortTp K) Stp.cr_sortTp (by rfl) T.z_sorted (by decide +kernel) (pa_cons (pe_slice (r := rSlT K) sl_tup (pv 2) po_none (po_some (pe_int))) pa_nil)) pa_nil)))) pa_nil))))))
      , ?_⟩
    refine ⟨v, rfl, v, d, 0, 40, rfl, hv, ?_⟩
    have q0 : tiesB es d = false → ∀ H', Same H H' → Q (.bl false) H' := fun e H' s => by rw [← e]; exact q H' s
    cases c : tupD d 0 40 with
    | false => exact ⟨_, rfl, iteT (q0 (by unfold tiesB; rw [c]; rfl) _ fun _ _ z => z)⟩
    | true =>
      refine ⟨_, rfl, iteF ?_⟩
      obtain ⟨ds, rfl, c1, c2⟩ := tupD_len c
      obtain ⟨t, xs, rfl, et, hxs, xl⟩ := tup_inv hv
      have e0 : tiesB es (.tuple ds) = (ds.all (tieB es) && decide (ds.map pairD).Nodup) := by unfold tiesB; rw [c, Bool.true_and]
      have nDt : ∀ {H' : Hp}, Same H H' → DVF H' kvs es := fun s => dv.tk (.of s)
      refine ⟨.ref t, rfl, t, rfl, ⟨_, et.sq⟩, fun C nC => ?_⟩
      refine lc_it (walk_tup (xs := xs)) (fun i Hx => Same H Hx ∧ Hx C = some (.lst (((ds.take i).map (tieB es)).map V.bl))) ⟨same_upd nC, upd_same⟩ (fun i Hx _ pv => (et.same pv.1).sq) (fun i x Hx₀ Hx hi pv yy => ?_) (fun Hx pv => ?_)
      · obtain ⟨rfl, ex⟩ := yy
        obtain ⟨sx, eC⟩ := pv
        obtain ⟨y, ey, hy⟩ := hxs.get ex
        have my := List.mem_of_getElem? ey
        have tk1 : ds.take (i + 1) = ds.take i ++ [y] := by rw [List.take_add_one, ey]; rfl
        refine ⟨rfl, yes_ ⟨.ref D, rfl, x, rfl, D, kvs, es, x, y, rfl, sx _ _ eD, nDt sx, lks, hy.same sx, tb.mem y my, shm sh y my, fun H3 s3 => ⟨_, s3 _ _ eC, small5000 (by rw [List.length_map, List.length_map, List.length_take]; omega), same_set (sx.trans s3) nC, ?_⟩⟩⟩
        rw [upd_same, tk1, List.map_append, List.map_append]
        rfl
      · obtain ⟨sx, eC⟩ := pv
        rw [xl, List.take_length] at eC
        refine ⟨C, _, rfl, SqL.of eC, ?_⟩
        have ea : ((ds.map (tieB es)).all id) = ds.all (tieB es) := by rw [List.all_map]; rfl
        rw [ea]
        cases ca : ds.all (tieB es) with
        | false => exact ⟨_, rfl, iteT (q0 (by rw [e0, ca, Bool.false_and]) _ sx)⟩
        | true =>
          rw [ca, Bool.true_and] at e0
          refine ⟨_, rfl, iteF ?_⟩
          refine ⟨.ref t, rfl, t, rfl, ⟨_, (et.same sx).sq⟩, fun C2 nC2 => ?_⟩
          have n0 : H C2 = none := up0 sx nC2
          refine lc_it (walk_tup (xs := xs)) (fun i Hy => Same H Hy ∧ ∃ ps : List (Addr × List Str), Hy C2 = some (.lst (ps.map fun p => V.ref p.1)) ∧ (∀ p ∈ ps, p.1 ≠ C2 ∧ Hy p.1 = some (.tup (p.2.map V.str))) ∧ ps.map (·.2) = (ds.take i).map pairD) ⟨sx.trans (same_upd nC2), [], upd_same, fun p hp => (by cases hp), rfl⟩ (fun i Hy _ pv => (et.same pv.1).sq) (fun i x Hy₀ Hy hi pv yy => ?_) (fun Hy pv => ?_)
          · obtain ⟨rfl, ex⟩ := yy
            obtain ⟨sy, ps, eC2, hps, eps⟩ := pv
            obtain ⟨y, ey, hy⟩ := hxs.get ex
            have tk1 : ds.take (i + 1) = ds.take i ++ [y] := by rw [List.take_add_one, ey]; rfl
            obtain ⟨za, zb, l, n, rfl⟩ := tie_inv (List.all_eq_true.mp ca y (List.mem_of_getElem? ey))
            obtain ⟨u, us, rfl, eu, hus, ul⟩ := tup_inv hy
            obtain ⟨x3, x4, rfl⟩ : ∃ x3 x4, us = [.str za, .str zb, x3, x4] := by
              cases hus with
              | cons a r =>
                cases a
                cases r with
                | cons a r =>
                  cases a
                  cases r with
                  | cons a r =>
                    cases r with
                    | cons b r => cases r; exact ⟨_, _, rfl⟩
            have pl : ps.length ≤ 40 := by
              have := congrArg List.length eps
              rw [List.length_map, List.length_map, List.length_take] at this
              omega
            refine ⟨rfl, yes_ ?_⟩
            refine ⟨.ref u, rfl, 2, rfl, u, _, rfl, (eu.same sy).sq, fun z => absurd (show (2 : Nat) = 4 from z.2) (by decide), fun r nr => ?_⟩
            rw [show cutV [V.str za, .str zb, x3, x4] none (some (2 : Int)) = [V.str za, .str zb] from rfl]
            have s1 := same_upd (o := .tup [V.str za, .str zb]) nr
            refine ⟨r, [za, zb], rfl, SqT.of upd_same, (by show 2 < 64; decide), fun ys p perm srt np => ?_⟩
            have s2 := same_upd (o := .lst (ys.map V.str)) np
            refine ⟨p, _, rfl, .inl ⟨SqL.of upd_same, fun r2 nr2 => ?_⟩⟩
            have s3 := same_upd (o := .tup (ys.map V.str)) nr2
            have s13 := (s1.trans s2).trans s3
            have n2 : r2 ≠ C2 := fun z => by
              rw [z, s2 _ _ (s1 _ _ eC2)] at nr2
              cases nr2
            refine ⟨_, s13 _ _ eC2, small5000 (by rw [List.length_map]; omega), same_set (sy.trans s13) n0, ps ++ [(r2, ys)], ?_, fun p' hp => ?_, ?_⟩
            · rw [upd_same, List.map_append]
              rfl
            · rcases List.mem_append.mp hp with h | h
              · obtain ⟨h1, h2⟩ := hps p' h
                exact ⟨h1, (upd_ne h1).trans (s13 _ _ h2)⟩
              · rw [List.mem_singleton.mp h]
                exact ⟨n2, (upd_ne n2).trans upd_same⟩
            · rw [List.map_append, eps, tk1, List.map_append]
              show _ ++ [ys] = _ ++ [srt2 za zb]
              rw [srt2_of perm srt]
          · obtain ⟨sy, ps, eC2, hps, eps⟩ := pv
            rw [xl, List.take_length] at eps
            have pl : ps.length ≤ 40 := by
              have := congrArg List.length eps
              rw [List.length_map, List.length_map] at this
              omega
            refine ⟨C2, rfl, .inr ⟨ps, SqL.of eC2, fun p hp => SqT.of (hps p hp).2, by omega, fun H' s' => ?_⟩⟩
            have := q H' (sy.trans s')
            rw [e0, ← eps] at this
            exact this
end
end Th
namespace Th
open PySem PySem.Spec PyProof.Rows L2
def linesS : PyData → List Str
  | .tuple ds => namesD ds
  | _ => []
def itemsD : PyData → List PyData
  | .tuple ds => ds
  | _ => []
def firstS : PyData → Str
  | .tuple (.str a :: _) => a
  | _ => ""
def stD : PyData → Nm × Nm
  | .tuple [.str a, .str b] => (nmOf a, nmOf b)
  | _ => ([], [])
def jnD' : PyData → Nm × List Nm
  | .tuple [.str a, .tuple bs] => (nmOf a, (namesD bs).map nmOf)
  | _ => ([], [])
def entD (ss js : PyData) : List (Nm × List Nm) := ent ((itemsD ss).map stD) ((itemsD js).map jnD')
def netB (d : PyData) : Bool := match d with
  | .tuple [ls, ss, js, ts] => linesB ls && stationsB (linesS ls) ss && junctionsB (linesS ls) js && decide ((itemsD ss ++ itemsD js).map firstS).Nodup && tiesB (entD ss js) ts
  | _ => false
theorem net_tup {d : PyData} (h : tupD d 4 4 = false) : netB d = false := by
  unfold netB
  split
  · cases h
  · rfl
theorem nm_is {z : Str} (h : nameS z = true) : IsNm (nmOf z) := by
  unfold nameS at h
  simp only [Bool.and_eq_true, decide_eq_true_eq] at h
  obtain ⟨⟨h1, h2⟩, h3⟩ := h
  have zl : (nmOf z).length = z.length := rfl
  refine ⟨by omega, by omega, fun c hc => ?_⟩
  have a := List.all_eq_true.mp h3 c hc
  simp only [Bool.and_eq_true, Bool.not_eq_true', decide_eq_false_iff_not] at a
  have t1 : ¬ ([c] : List Nat) < [97] := a.1
  have t2 : ¬ ([122] : List Nat) < [c] := a.2
  exact ⟨Decidable.byContradiction fun n => t1 (.rel (by omega)), Decidable.byContradiction fun n => t2 (.rel (by omega))⟩
theorem strIn_str {ss : List Str} {d : PyData} (h : strIn ss d = true) : ∃ s ∈ ss, d = .str s := by
  unfold strIn at h
  obtain ⟨v, hv, e⟩ := List.any_eq_true.mp h
  obtain ⟨s, hs, rfl⟩ := List.mem_map.mp hv
  refine ⟨s, hs, ?_⟩
  cases d with
  | str t =>
    have e : (s == t) = true := by simpa [PyData.eqv] using e
    rw [beq_iff_eq.mp e]
  | _ => simp [PyData.eqv] at e
theorem eqv_strs : ∀ {ds : List PyData} {ss : List Str}, PyData.eqv (.tuple ds) (.tuple (ss.map PyData.str)) = true → ds = ss.map PyData.str
  | [], [], _ => rfl
  | [], _ :: _, h => by cases h
  | _ :: _, [], h => by cases h
  | d :: ds, s :: ss, h => by
    have h : (PyData.eqv d (.str s) && PyData.eqv (.tuple ds) (.tuple (ss.map PyData.str))) = true := h
    obtain ⟨h1, h2⟩ := Bool.and_eq_true_iff.mp h
    rw [eqv_strs h2]
    cases d with
    | str t =>
      have e : (t == s) = true := by simpa [PyData.eqv] using h1
      rw [beq_iff_eq.mp e]
      rfl
    | _ => simp [PyData.eqv] at h1
theorem names_strs (ss : List Str) : namesD (ss.map PyData.str) = ss := by
  induction ss with
  | nil => rfl
  | cons s ss ih =>
    show s :: namesD (ss.map PyData.str) = s :: ss
    rw [ih]
/-- a right station -/
theorem station_inv {ls : List Str} {d : PyData} (h : stationB ls d = true) : ∃ a b, d = .tuple [.str a, .str b] ∧ nameS a = true ∧ b ∈ ls := by
  unfold stationB at h
  split at h
  · rename_i a b
    obtain ⟨h1, h2⟩ := Bool.and_eq_true_iff.mp h
    obtain ⟨s, hs, rfl⟩ := strIn_str h2
    cases a with
    | str z => exact ⟨z, s, rfl, h1, hs⟩
    | _ => cases (show false = true from h1)
  · cases h
theorem junction_inv {ls : List Str} {d : PyData} (h : junctionB ls d = true) : ∃ (a : Str) (bs : List Str), d = .tuple [.str a, .tuple (bs.map PyData.str)] ∧ nameS a = true ∧ ∀ b ∈ bs, b ∈ ls := by
  unfold junctionB at h
  split at h
  · rename_i a b
    obtain ⟨h1, h2⟩ := Bool.and_eq_true_iff.mp h
    unfold joinedB at h2
    obtain ⟨h2, h3⟩ := Bool.and_eq_true_iff.mp h2
    obtain ⟨ds, rfl, _, _⟩ := tupD_len h2
    have e := eqv_strs h3
    cases a with
    | str z => exact ⟨z, ls.filter (inD ds), by rw [← e], h1, fun b hb => (List.mem_filter.mp hb).1⟩
    | _ => cases (show false = true from h1)
  · cases h
theorem rev_ind' {α : Type} {p : List α → Prop} (h0 : p []) (hs : ∀ l a, p l → p (l ++ [a])) : ∀ l, p l := fun l => by
  have key : ∀ r : List α, p r.reverse := fun r => by
    induction r with
    | nil => exact h0
    | cons a r ih => rw [List.reverse_cons]; exact hs _ _ ih
  have := key l.reverse
  rw [List.reverse_reverse] at this
  exact this
theorem lkF_mem : ∀ {es : List (Nm × List Nm)} {z : Nm} {l : List Nm}, lkF es z = some l → ∃ e ∈ es, e.2 = l := fun {es} => by
  refine rev_ind' (p := fun es => ∀ {z : Nm} {l : List Nm}, lkF es z = some l → ∃ e ∈ es, e.2 = l) (fun {z l} h => by cases h) (fun es e ih {z l} h => ?_) es
  rw [lkF_snoc] at h
  split at h
  · exact ⟨e, by simp, Option.some.inj h⟩
  · obtain ⟨x, hx, ex⟩ := ih h
    exact ⟨x, by simp [hx], ex⟩
theorem stF_all {H : Hp} {ls : List Str} : ∀ {xs : List V} {ds : List PyData}, DfAll H xs ds → ds.all (stationB ls) = true → ∃ sa : List Addr, xs = sa.map V.ref ∧ Paired (StF H) sa (ds.map stD)
  | _, _, .nil, _ => ⟨[], rfl, .nil⟩
  | _, _, .cons a r, h => by
    rw [List.all_cons, Bool.and_eq_true] at h
    obtain ⟨sa, rfl, p⟩ := stF_all r h.2
    obtain ⟨x, y, rfl, _, _⟩ := station_inv h.1
    obtain ⟨u, us, rfl, eu, hus, _⟩ := tup_inv a
    refine ⟨u :: sa, rfl, .cons ?_ p⟩
    have e : us = [V.str x, .str y] := dfAll_vs (ss := [x, y]) hus
    show TPl H u [.str (SX.S (nmOf x)), .str (SX.S (nmOf y))]
    rw [nmOf_S, nmOf_S, ← e]
    exact eu
theorem jnF_all {H : Hp} {ls : List Str} : ∀ {xs : List V} {ds : List PyData}, DfAll H xs ds → ds.all (junctionB ls) = true → ∃ sa : List Addr, xs = sa.map V.ref ∧ Paired (JnF H) sa (ds.map jnD')
  | _, _, .nil, _ => ⟨[], rfl, .nil⟩
  | _, _, .cons a r, h => by
    rw [List.all_cons, Bool.and_eq_true] at h
    obtain ⟨sa, rfl, p⟩ := jnF_all r h.2
    obtain ⟨x, bs, rfl, _, _⟩ := junction_inv h.1
    obtain ⟨u, us, rfl, eu, hus, _⟩ := tup_inv a
    refine ⟨u :: sa, rfl, .cons ?_ p⟩
    obtain ⟨q, rfl, hq⟩ : ∃ q, us = [V.str x, q] ∧ Df H q (.tuple (bs.map PyData.str)) := by
      cases hus with
      | cons a r =>
        cases a
        cases r with
        | cons b r => cases r; exact ⟨_, rfl, b⟩
    obtain ⟨b2, ys, rfl, eb, hys, _⟩ := tup_inv hq
    have e := dfAll_vs hys
    refine ⟨b2, ?_, ?_⟩
    · show TPl H u [.str (SX.S (nmOf x)), .ref b2]
      rw [nmOf_S]
      exact eu
    · show TPl H b2 (((namesD (bs.map PyData.str)).map nmOf).map nS)
      rw [names_strs, List.map_map]
      have e2 : bs.map (nS ∘ nmOf) = bs.map V.str := List.map_congr_left fun z _ => by show V.str (SX.S (nmOf z)) = _; rw [nmOf_S]
      rw [e2, ← e]
      exact eb
end Th
namespace Th
open PySem PySem.Spec PyProof.Rows L2
section
variable {P : Program} {w : World} {K : PySem.W.Frag} {mg : Str → Option Value} {base : Heap} {k : Nat}
def sp_is_net : Sp := fun vs H Q _ => ∃ v d, vs = [v] ∧ Df H v d ∧ Tb d ∧ SeqAt.shaped d = true ∧ ∀ H', Same H H' → Q (.bl (netB d)) H'
theorem names_len {ds : List PyData} (h : ds.all nameD = true) : (namesD ds).length = ds.length := by
  have := congrArg List.length (names_all h)
  rw [List.length_map] at this
  exact this.symm
theorem lines_inv {d : PyData} (h : linesB d = true) : ∃ ds, d = .tuple ds ∧ ds.all nameD = true ∧ ds.length ≤ 8 := by
  unfold linesB at h
  obtain ⟨h1, h2⟩ := Bool.and_eq_true_iff.mp h
  obtain ⟨ds, rfl, _, c2⟩ := tupD_len h1
  exact ⟨ds, rfl, (Bool.and_eq_true_iff.mp h2).1, by omega⟩
theorem st_inv {ls : List Str} {d : PyData} (h : stationsB ls d = true) : ∃ ds, d = .tuple ds ∧ ds.all (stationB ls) = true ∧ ds.length ≤ 16 := by
  unfold stationsB at h
  obtain ⟨h1, h2⟩ := Bool.and_eq_true_iff.mp h
  obtain ⟨ds, rfl, _, c2⟩ := tupD_len h1
  exact ⟨ds, rfl, h2, by omega⟩
theorem jn_inv {ls : List Str} {d : PyData} (h : junctionsB ls d = true) : ∃ ds, d = .tuple ds ∧ ds.all (junctionB ls) = true ∧ ds.length ≤ 12 := by
  unfold junctionsB at h
  obtain ⟨h1, h2⟩ := Bool.and_eq_true_iff.mp h
  obtain ⟨ds, rfl, _, c2⟩ := tupD_len h1
  exact ⟨ds, rfl, h2, by omega⟩
theorem strs_oks {ds : List PyData} (h : ∀ x ∈ ds, SeqAt.shaped x = true) : ∀ z ∈ namesD ds, PyData.strOk z = true := fun z hz => by
  unfold namesD at hz
  obtain ⟨d, hd, e⟩ := List.mem_filterMap.mp hz
  cases d with
  | str s =>
    injection e with e
    subst e
    exact (Bool.and_eq_true_iff.mp (h _ hd)).1
  | _ => cases e
theorem name_mem {ds : List PyData} (h : ds.all nameD = true) : ∀ z ∈ namesD ds, nameS z = true := fun z hz => by
  unfold namesD at hz
  obtain ⟨d, hd, e⟩ := List.mem_filterMap.mp hz
  have := List.all_eq_true.mp h d hd
  cases d with
  | str s =>
    injection e with e
    subst e
    exact this
  | _ => cases e
theorem DfAll.app {H : Hp} : ∀ {xs ys : List V} {ds es : List PyData}, DfAll H xs ds → DfAll H ys es → DfAll H (xs ++ ys) (ds ++ es)
  | _, _, _, _, .nil, h => h
  | _, _, _, _, .cons a r, h => .cons a (DfAll.app r h)
theorem first_inv {ls : List Str} {d : PyData} (h : stationB ls d = true ∨ junctionB ls d = true) : ∃ (a : Str) (r : List PyData), d = .tuple (.str a :: r) ∧ firstS d = a := by
  rcases h with h | h
  · obtain ⟨a, b, rfl, _⟩ := station_inv h
    exact ⟨a, _, rfl, rfl⟩
  · obtain ⟨a, bs, rfl, _⟩ := junction_inv h
    exact ⟨a, _, rfl, rfl⟩
set_option maxHeartbeats 16000000 in
theorem ok_is_net (T : Defs K mg) : FnOk P w K mg base CX0 (k + 5) T.a_is_net T.d_is_net ["thing"] sp_is_net := by
  have G_is_tuple : FnOk P w K mg base CX0 (k + 4) _ _ _ _ := ok_is_tupleF (k := k + 3) T
  have G_are_lines : FnOk P w K mg base CX0 (k + 4) _ _ _ _ := ok_are_lines (k := k + 2) T
  have G_are_stations : FnOk P w K mg base CX0 (k + 4) _ _ _ _ := ok_are_stations (k := k + 1) T
  have G_are_junctions : FnOk P w K mg base CX0 (k + 4) _ _ _ _ := ok_are_junctions (k := k) T
  have G_all_unlike : FnOk P w K mg base CX0 (k + 4) _ _ _ _ := ok_all_unlike (k := k + 3) T
  have G_lines_by_place : FnOk P w K mg base CX0 (k + 4) _ _ _ _ := ok_lines_by_placeF (k := k + 3) T
  have G_are_ties : FnOk P w K mg base CX0 (k + 4) _ _ _ _ := ok_are_ties (k := k) T
  refine T.F_is_net.ok sc_is_net (fun vs H Q E h => ?_) (fun cdv A outer s H vs Q E hr h => ?_)
  · obtain ⟨v, d, rfl, _⟩ := h
    rfl
  · obtain ⟨v, d, rfl, hv, tb, sh, q⟩ := h
    refine ⟨_, PSs.nox
(pss_cons (ps_if (pt_not (pt_val (pe_call G_is_tuple hr (by rfl) T.g_is_tuple T.F_is_tuple.kp T.b_is_tuple .nil pass0 (pa_cons (pv 0) (pa_cons (pe_int) (pa_cons (pe_int) pa_nil))))))
      (pss_one (ps_ret (pe_bl)))
      pss_nil)
    (pss_cons (ps_asg (pv 0) (pg_tup rfl (pgs_cons (pg_name (i := 1) sc_is_net.nd rfl (.inl rfl)) (pgs_cons (pg_name (i := 2) sc_is_net.nd rfl (.inl rfl)) (pgs_cons (pg_name (i := 3) sc_is_net.nd rfl (.inl rfl)) (pgs_cons (pg_name (i := 4) sc_is_net.nd rfl (.inl rfl)) pgs_nil))))))
    (pss_one (ps_ret (pe_and (pe_call G_are_lines hr (by rfl) T.g_are_lines T.F_are_lines.kp T.b_are_lines .nil pass0 (pa_cons (pv 1) pa_nil)) (pe_and (pe_call G_are_stations hr (by rfl) T.g_are_stations T.F_are_stations.kp T.b_are_stations .nil pass0 (pa_cons (pv 1) (pa_cons (pv 2) pa_nil))) (pe_and (pe_call G_are_junctions hr (by rfl) T.g_are_junctions T.F_are_junctions.kp T.b_are_junctions .nil pass0 (pa_cons (pv 1) (pa_cons (pv 3) pa_nil))) (pe_and (pe_call G_all_unlike hr (by rfl) T.g_all_unlike T.F_all_unlike.kp T.b_all_unlike .nil pass0 (pa_cons (pe_lc (own := [("place", 5)]) (g := gName 5) rfl sc_is_net.nd (pi_tup (pe_op op_catA (pv 2) (pv 3))) (blkOk_by (N := N_is_net) (sc := defScope s_is_net) (by decide +kernel)) (fun _ _ _ _ _ => (pg_name (i := 5) sc_is_net.nd rfl (.inl rfl))) (fun _ _ _ _ _ => pts_nil) (fun _ _ _ _ _ => (pe_ix (r := rIxT K) ix_tup (pv 5) (pe_int) (fun _ _ => rfl)))) pa_nil)) (pe_one (pe_call G_are_ties hr (by rfl) T.g_are_ties T.F_are_ties.kp T.b_are_ties .nil pass0 (pa_cons (pe_call G_lines_by_place hr (by rfl) T.g_lines_by_place T.F_lines_by_place.kp T.b_lines_by_place .nil pass0 (pa_cons (pv 2) (pa_cons (pv 3) pa_nil))) (pa_cons (pv 4) pa_nil))))))))))))
      , ?_⟩
    refine ⟨v, rfl, v, d, 4, 4, rfl, hv, ?_⟩
    have q0 : netB d = false → ∀ H', Same H H' → Q (.bl false) H' := fun e H' s => by rw [← e]; exact q H' s
    cases c : tupD d 4 4 with
    | false => exact ⟨_, rfl, iteT (q0 (net_tup c) _ fun _ _ z => z)⟩
    | true =>
      refine ⟨_, rfl, iteF ?_⟩
      obtain ⟨ds, rfl, c1, c2⟩ := tupD_len c
      obtain ⟨ls, ss, js, ts, rfl⟩ := four_of (l := ds) (by omega)
      obtain ⟨t, xs, rfl, et, hxs, xl⟩ := tup_inv hv
      obtain ⟨x1, x2, x3, x4, rfl, h1, h2, h3, h4⟩ : ∃ x1 x2 x3 x4, xs = [x1, x2, x3, x4] ∧ Df H x1 ls ∧ Df H x2 ss ∧ Df H x3 js ∧ Df H x4 ts := by
        cases hxs with
        | cons h1 r =>
          cases r with
          | cons h2 r =>
            cases r with
            | cons h3 r =>
              cases r with
              | cons h4 r => cases r; exact ⟨_, _, _, _, rfl, h1, h2, h3, h4⟩
      have e0 : netB (.tuple [ls, ss, js, ts]) = (linesB ls && stationsB (linesS ls) ss && junctionsB (linesS ls) js && decide ((itemsD ss ++ itemsD js).map firstS).Nodup && tiesB (entD ss js) ts) := rfl
      refine ⟨.ref t, rfl, t, _, rfl, et.sq, rfl, _, _, rfl, _, _, rfl, _, _, rfl, _, [], rfl, rfl, ?_⟩
      refine ⟨x1, rfl, x1, ls, rfl, h1, tb.mem ls (by simp), fun H1 s1 => ⟨_, rfl, ?_⟩⟩
      cases ca : linesB ls with
      | false => exact iteF (q0 (by rw [e0, ca]; rfl) _ s1)
      | true =>
        obtain ⟨dl, rfl, al, l8⟩ := lines_inv ca
        rw [ca, Bool.true_and] at e0
        obtain ⟨lt, lx, rfl, elt, hlx, _⟩ := tup_inv h1
        have en := names_all al
        rw [en] at hlx
        have ev := dfAll_vs hlx
        rw [ev] at elt
        have lo : LnOk (namesD dl) := ⟨strs_oks (shm (shm sh _ (by simp))), by rw [names_len al]; exact l8⟩
        refine iteT ⟨.ref lt, rfl, x2, rfl, lt, namesD dl, x2, ss, rfl, elt.same s1, lo, h2.same s1, tb.mem ss (by simp), shm sh ss (by simp), fun H2 s2 => ⟨_, rfl, ?_⟩⟩
        have s02 := s1.trans s2
        have e0 : netB (.tuple [.tuple dl, ss, js, ts]) = (stationsB (namesD dl) ss && junctionsB (namesD dl) js && decide ((itemsD ss ++ itemsD js).map firstS).Nodup && tiesB (entD ss js) ts) := e0
        cases cb : stationsB (namesD dl) ss with
        | false => exact iteF (q0 (by rw [e0, cb]; rfl) _ s02)
        | true =>
          rw [cb, Bool.true_and] at e0
          refine iteT ⟨.ref lt, rfl, x3, rfl, lt, namesD dl, x3, js, rfl, elt.same s02, lo, h3.same s02, tb.mem js (by simp), shm sh js (by simp), fun H3 s3 => ⟨_, rfl, ?_⟩⟩
          have s03 := s02.trans s3
          cases cj : junctionsB (namesD dl) js with
          | false => exact iteF (q0 (by rw [e0, cj]; rfl) _ s03)
          | true =>
            rw [cj, Bool.true_and] at e0
            obtain ⟨dss, rfl, ass, l16⟩ := st_inv cb
            obtain ⟨djs, rfl, ajs, l12⟩ := jn_inv cj
            obtain ⟨st, sx, rfl, est, hsx, sxl⟩ := tup_inv (h2.same s03)
            obtain ⟨jt, jx, rfl, ejt, hjx, jxl⟩ := tup_inv (h3.same s03)
            have all2 : ∀ y ∈ dss ++ djs, stationB (namesD dl) y = true ∨ junctionB (namesD dl) y = true := fun y hy => (List.mem_append.mp hy).elim (fun z => .inl (List.all_eq_true.mp ass y z)) fun z => .inr (List.all_eq_true.mp ajs y z)
            have e0 : netB (.tuple [.tuple dl, .tuple dss, .tuple djs, ts]) = (decide ((dss ++ djs).map firstS).Nodup && tiesB (entD (.tuple dss) (.tuple djs)) ts) := e0
            have nmL := name_mem al
            have lks : ∀ z l, lkF (entD (.tuple dss) (.tuple djs)) z = some l → ∀ y ∈ l, IsNm y := fun z l h y hy => by
              obtain ⟨e, he, rfl⟩ := lkF_mem h
              rcases List.mem_append.mp he with he | he
              · obtain ⟨s', hs, rfl⟩ := List.mem_map.mp he
                obtain ⟨d, hd, rfl⟩ := List.mem_map.mp hs
                obtain ⟨a, b, rfl, _, hb⟩ := station_inv (List.all_eq_true.mp ass d hd)
                rw [List.mem_singleton.mp hy]
                exact nm_is (nmL b hb)
              · obtain ⟨d, hd, rfl⟩ := List.mem_map.mp he
                obtain ⟨a, bs, rfl, _, hb⟩ := junction_inv (List.all_eq_true.mp ajs d hd)
                have hy : y ∈ (namesD (bs.map PyData.str)).map nmOf := hy
                rw [names_strs] at hy
                obtain ⟨b, hb2, rfl⟩ := List.mem_map.mp hy
                exact nm_is (nmL b (hb b hb2))
            refine iteT ⟨.ref st, rfl, .ref jt, rfl, st, jt, sx, jx, rfl, rfl, est.sq, ejt.sq, by rw [sizeLine_eq]; omega, fun e => ?_, fun n e => ?_, fun n1 n2 p np => ?_⟩
            all_goals first
              | (have tc : TPl H3 st (sx ++ jx) := by rw [e, List.append_nil]; exact est
                 obtain ⟨Hc, eHc⟩ : ∃ Hc, Hc = H3 := ⟨_, rfl⟩
                 rw [← eHc] at tc ⊢
                 have sc : Same H3 Hc := by rw [eHc]; exact fun _ _ z => z
                 clear eHc)
              | (have tc : TPl H3 jt (sx ++ jx) := by rw [e]; exact ejt
                 obtain ⟨Hc, eHc⟩ : ∃ Hc, Hc = H3 := ⟨_, rfl⟩
                 rw [← eHc] at tc ⊢
                 have sc : Same H3 Hc := by rw [eHc]; exact fun _ _ z => z
                 clear eHc)
              | (have sc := same_upd (o := .tup (sx ++ jx)) np
                 have tc : TPl (upd H3 p (.tup (sx ++ jx))) p (sx ++ jx) := .inl upd_same
                 generalize upd H3 p (.tup (sx ++ jx)) = Hc at sc tc ⊢)
            all_goals
              have ha := (hsx.app hjx).same sc
              have s0c := s03.trans sc
              have al2 := ha.len
              have al3 : (dss ++ djs).length ≤ 28 := by rw [List.length_append]; omega
              refine ⟨_, rfl, ⟨_, tc.sq⟩, fun C nC => ?_⟩
              refine lc_it (walk_tup (xs := sx ++ jx)) (fun i Hx => Same Hc Hx ∧ Hx C = some (.lst ((((dss ++ djs).take i).map firstS).map V.str))) ⟨same_upd nC, upd_same⟩ (fun i Hx _ pv => (tc.same pv.1).sq) (fun i x Hx₀ Hx hi pv yy => ?_) (fun Hx pv => ?_)
              · obtain ⟨rfl, ex⟩ := yy
                obtain ⟨sx', eC⟩ := pv
                obtain ⟨y, ey, hy⟩ := ha.get ex
                have tk1 : (dss ++ djs).take (i + 1) = (dss ++ djs).take i ++ [y] := by rw [List.take_add_one, ey]; rfl
                obtain ⟨a, r, rfl, ef⟩ := first_inv (all2 y (List.mem_of_getElem? ey))
                obtain ⟨u, us, rfl, eu, hus, _⟩ := tup_inv hy
                obtain ⟨us', rfl⟩ : ∃ us', us = .str a :: us' := by
                  cases hus with
                  | cons a r => cases a; exact ⟨_, rfl⟩
                refine ⟨rfl, yes_ ⟨.ref u, rfl, u, _, 0, .str a, rfl, rfl, (eu.same sx').sq, atI_nat (j := 0) rfl, _, eC, small5000 (by rw [List.length_map, List.length_map, List.length_take]; omega), same_set sx' nC, ?_⟩⟩
                rw [upd_same, tk1, List.map_append, List.map_append]
                rw [show [PyData.tuple (.str a :: r)].map firstS = [a] from rfl]
                rfl
              · obtain ⟨sx', eC⟩ := pv
                rw [al2, List.take_length] at eC
                have s0x := s0c.trans sx'
                have s3x := sc.trans sx'
                refine ⟨C, rfl, .inl ⟨(dss ++ djs).map firstS, .inl (SqL.of eC), by rw [List.length_map]; omega, fun H4 s4 => ⟨_, rfl, ?_⟩⟩⟩
                have s04 := s0x.trans s4
                have s34 := s3x.trans s4
                cases cu : decide ((dss ++ djs).map firstS).Nodup with
                | false => exact iteF (q0 (by rw [e0, cu]; rfl) _ s04)
                | true =>
                  rw [cu, Bool.true_and] at e0
                  obtain ⟨sa, rfl, psa⟩ := stF_all (hsx.same s34) ass
                  obtain ⟨ja, rfl, pja⟩ := jnF_all (hjx.same s34) ajs
                  refine iteT ⟨.ref st, rfl, .ref jt, rfl, st, jt, sa, ja, dss.map stD, djs.map jnD', rfl, est.same s34, psa, ejt.same s34, pja, by rw [List.length_map]; omega, by rw [List.length_map]; omega, fun H5 dd kvs s5 n5 e5 dv => ?_⟩
                  have s05 := s04.trans s5
                  refine ⟨x4, rfl, dd, kvs, _, x4, ts, rfl, e5, dv, lks, h4.same s05, tb.mem ts (by simp), shm sh ts (by simp), fun H6 s6 => ?_⟩
                  have := q H6 (s05.trans s6)
                  rw [e0] at this
                  exact this
end
end Th
namespace Th
open PySem PySem.Spec PyProof.Rows L2
variable {S : Addr → Prop}
mutual
inductive DG (p : Addr) (S : Addr → Prop) (H : Hp) : V → PyData → Prop
  | non : DG p S H .non .none
  | bl (b : Bool) : DG p S H (.bl b) (.bool b)
  | int (i : Int) : DG p S H (.int i) (.int i)
  | str (x : Str) : DG p S H (.str x) (.str x)
  | lst {a : Addr} {xs : List V} {ds : List PyData} : a ≠ p → S a → H a = some (.lst xs) → DGAll p S H xs ds → DG p S H (.ref a) (.list ds)
  | tup {a : Addr} {xs : List V} {ds : List PyData} : TPl H a xs → DGAll p S H xs ds → DG p S H (.ref a) (.tuple ds)
inductive DGAll (p : Addr) (S : Addr → Prop) (H : Hp) : List V → List PyData → Prop
  | nil : DGAll p S H [] []
  | cons {v : V} {vs : List V} {d : PyData} {ds : List PyData} : DG p S H v d → DGAll p S H vs ds → DGAll p S H (v :: vs) (d :: ds)
end
mutual
theorem DG.go {p : Addr} {H H' : Hp} (hl : ∀ a xs, a ≠ p → H a = some (.lst xs) → H' a = some (.lst xs)) (ht : ∀ a xs, TPl H a xs → TPl H' a xs) : ∀ {v : V} {d : PyData}, DG p S H v d → DG p S H' v d
  | _, _, .non => .non
  | _, _, .bl b => .bl b
  | _, _, .int b => .int b
  | _, _, .str b => .str b
  | _, _, .lst n m e r => .lst n m (hl _ _ n e) (DGAll.go hl ht r)
  | _, _, .tup e r => .tup (ht _ _ e) (DGAll.go hl ht r)
theorem DGAll.go {p : Addr} {H H' : Hp} (hl : ∀ a xs, a ≠ p → H a = some (.lst xs) → H' a = some (.lst xs)) (ht : ∀ a xs, TPl H a xs → TPl H' a xs) : ∀ {v : List V} {d : List PyData}, DGAll p S H v d → DGAll p S H' v d
  | _, _, .nil => .nil
  | _, _, .cons a r => .cons (DG.go hl ht a) (DGAll.go hl ht r)
end
mutual
theorem DG.df {p : Addr} {H : Hp} : ∀ {v : V} {d : PyData}, DG p S H v d → Df H v d
  | _, _, .non => .non
  | _, _, .bl b => .bl b
  | _, _, .int b => .int b
  | _, _, .str b => .str b
  | _, _, .lst _ _ e r => .lst e (DGAll.df r)
  | _, _, .tup e r => .tup e (DGAll.df r)
theorem DGAll.df {p : Addr} {H : Hp} : ∀ {v : List V} {d : List PyData}, DGAll p S H v d → DfAll H v d
  | _, _, .nil => .nil
  | _, _, .cons a r => .cons (DG.df a) (DGAll.df r)
end
theorem DG.same {p : Addr} {H H' : Hp} {v : V} {d : PyData} (h : DG p S H v d) (s : Same H H') : DG p S H' v d := h.go (fun a xs _ e => s _ _ e) fun a xs t => t.same s
theorem DGAll.same {p : Addr} {H H' : Hp} {v : List V} {d : List PyData} (h : DGAll p S H v d) (s : Same H H') : DGAll p S H' v d := h.go (fun a xs _ e => s _ _ e) fun a xs t => t.same s
theorem DG.keep {p : Addr} {H H' : Hp} {v : V} {d : PyData} (h : DG p S H v d) (k : Keep p H H') (b : Bag H p) : DG p S H' v d := h.go (fun a xs n e => k _ _ n e) fun a xs t => t.tk (TKF.keep k b)
theorem DGAll.keep {p : Addr} {H H' : Hp} {v : List V} {d : List PyData} (h : DGAll p S H v d) (k : Keep p H H') (b : Bag H p) : DGAll p S H' v d := h.go (fun a xs n e => k _ _ n e) fun a xs t => t.tk (TKF.keep k b)
theorem DGAll.len {p : Addr} {H : Hp} : ∀ {v : List V} {d : List PyData}, DGAll p S H v d → v.length = d.length
  | _, _, .nil => rfl
  | _, _, .cons _ r => congrArg Nat.succ r.len
theorem DGAll.get {p : Addr} {H : Hp} : ∀ {v : List V} {d : List PyData} {i : Nat} {x : V}, DGAll p S H v d → v[i]? = some x → ∃ e, d[i]? = some e ∧ DG p S H x e
  | _, _, _, _, .nil, h => by simp at h
  | _, _, 0, _, .cons a _, h => by
    have e := Option.some.inj h
    subst e
    exact ⟨_, rfl, a⟩
  | _, _, i + 1, _, .cons _ r, h => DGAll.get (i := i) r h
theorem DGAll.app {p : Addr} {H : Hp} : ∀ {v v' : List V} {d d' : List PyData}, DGAll p S H v d → DGAll p S H v' d' → DGAll p S H (v ++ v') (d ++ d')
  | _, _, _, _, .nil, h => h
  | _, _, _, _, .cons a r, h => .cons a (DGAll.app r h)
theorem DGAll.take {p : Addr} {H : Hp} : ∀ {v : List V} {d : List PyData} (n : Nat), DGAll p S H v d → DGAll p S H (v.take n) (d.take n)
  | _, _, 0, _ => .nil
  | _, _, _ + 1, .nil => .nil
  | _, _, n + 1, .cons a r => .cons a (DGAll.take n r)
theorem DGAll.drop {p : Addr} {H : Hp} : ∀ {v : List V} {d : List PyData} (n : Nat), DGAll p S H v d → DGAll p S H (v.drop n) (d.drop n)
  | _, _, 0, h => h
  | _, _, _ + 1, .nil => .nil
  | _, _, n + 1, .cons _ r => DGAll.drop n r
theorem DGAll.rev {p : Addr} {H : Hp} : ∀ {v : List V} {d : List PyData}, DGAll p S H v d → DGAll p S H v.reverse d.reverse
  | _, _, .nil => .nil
  | _, _, .cons a r => by
    rw [List.reverse_cons, List.reverse_cons]
    exact (DGAll.rev r).app (.cons a .nil)
theorem tup_invG {p : Addr} {H : Hp} {v : V} {ds : List PyData} (h : DG p S H v (.tuple ds)) : ∃ a xs, v = .ref a ∧ TPl H a xs ∧ DGAll p S H xs ds := by
  cases h with
  | tup e r => exact ⟨_, _, rfl, e, r⟩
/-- data whose tuples are not too long -/
inductive WdT : PyData → Prop
  | non : WdT .none
  | bl (b : Bool) : WdT (.bool b)
  | int (i : Int) : WdT (.int i)
  | str (s : Str) : WdT (.str s)
  | lst (ds : List PyData) : WdT (.list ds)
  | tup {ds : List PyData} : ds.length ≤ 1000 → (∀ x ∈ ds, WdT x) → WdT (.tuple ds)
  | dct (ds : List (PyData × PyData)) : WdT (.dict ds)
theorem WdT.mem {ds : List PyData} (h : WdT (.tuple ds)) : ∀ x ∈ ds, WdT x := by
  cases h
  assumption
theorem WdT.len {ds : List PyData} (h : WdT (.tuple ds)) : ds.length ≤ 1000 := by
  cases h
  assumption
/-- data not too deep, texts and tuples not too long -/
structure LwG (n : Nat) (d : PyData) : Prop where
  lay : PyData.canLay0 d = true
  dep : PyData.depth d ≤ n
  tb : Tb d
  wd : WdT d
theorem lay_allG : ∀ {ds : List PyData}, (∀ x ∈ ds, PyData.canLay0 x = true) → PyData.canLayAll0 ds = true
  | [], _ => rfl
  | d :: ds, h => by
    show (PyData.canLay0 d && PyData.canLayAll0 ds) = true
    rw [h d List.mem_cons_self, lay_allG fun x hx => h x (List.mem_cons_of_mem _ hx)]
    rfl
theorem dep_allG : ∀ {ds : List PyData} {n : Nat}, (∀ x ∈ ds, PyData.depth x ≤ n) → PyData.depthAll ds ≤ n
  | [], _, _ => Nat.zero_le _
  | d :: ds, n, h => by
    show max (PyData.depth d) (PyData.depthAll ds) ≤ n
    have := h d List.mem_cons_self
    have := dep_allG (ds := ds) (n := n) fun x hx => h x (List.mem_cons_of_mem _ hx)
    omega
theorem LwG.tup {n : Nat} {ds : List PyData} (h : ∀ x ∈ ds, LwG n x) (l : ds.length ≤ 1000 := by first | (simp only [List.length_append, List.length_map, List.length_take, List.length_drop, List.length_reverse, List.length_cons, List.length_nil]; omega) | decide) : LwG (n + 1) (.tuple ds) :=
  ⟨lay_allG fun x hx => (h x hx).lay, by show PyData.depthAll ds + 1 ≤ n + 1; have := dep_allG fun x hx => (h x hx).dep; omega, .tup fun x hx => (h x hx).tb, .tup l fun x hx => (h x hx).wd⟩
theorem LwG.lst {n : Nat} {ds : List PyData} (h : ∀ x ∈ ds, LwG n x) : LwG (n + 1) (.list ds) :=
  ⟨lay_allG fun x hx => (h x hx).lay, by show PyData.depthAll ds + 1 ≤ n + 1; have := dep_allG fun x hx => (h x hx).dep; omega, .lst _, .lst _⟩
theorem LwG.str {n : Nat} {z : Str} (h : PyData.strOk z = true) (l : z.length ≤ 5000) : LwG n (.str z) := ⟨h, Nat.zero_le _, .str l, .str _⟩
theorem LwG.int {n : Nat} {i : Int} : LwG n (.int i) := ⟨rfl, Nat.zero_le _, .int i, .int i⟩
theorem LwG.bl {n : Nat} {b : Bool} : LwG n (.bool b) := ⟨rfl, Nat.zero_le _, .bl b, .bl b⟩
theorem LwG.non {n : Nat} : LwG n .none := ⟨rfl, Nat.zero_le _, .non, .non⟩
theorem LwG.mono {n m : Nat} {d : PyData} (h : LwG n d) (l : n ≤ m) : LwG m d := ⟨h.lay, Nat.le_trans h.dep l, h.tb, h.wd⟩
theorem LwG.shaped {n : Nat} {d : PyData} (h : LwG n d) (l : n ≤ 64) : SeqAt.shaped d = true := Bool.and_eq_true_iff.mpr ⟨h.lay, decide_eq_true (Nat.le_trans h.dep l)⟩
theorem LwG.nil {n : Nat} : ∀ x ∈ ([] : List PyData), LwG n x := fun _ h => (by cases h)
theorem LwG.cons {n : Nat} {a : PyData} {l : List PyData} (h : LwG n a) (g : ∀ x ∈ l, LwG n x) : ∀ x ∈ a :: l, LwG n x := fun x hx => (List.mem_cons.mp hx).elim (fun e => by rw [e]; exact h) (g x)
section
variable {P : Program} {w : World} {K : PySem.W.Frag} {mg : Str → Option Value} {base : Heap} {k : Nat}
def sp_l_odd : Sp := fun vs H Q _ => ∃ (S : Addr → Prop) (p : Addr), vs = [.ref p] ∧ Bag H p ∧ (∀ a, H a = none → S a) ∧ ∀ H' v d, Keep p H H' → Bag H' p → DG p S H' v d → LwG 2 d → Q v H'
set_option maxHeartbeats 8000000 in
theorem ok_l_odd (T : Defs K mg) : FnOk P w K mg base CX0 (k + 2) T.a_l_odd T.d_l_odd ["_law_bag_here"] sp_l_odd := by
  have G_l_take : FnOk P w K mg base CX0 (k + 1) _ _ _ _ := ok_l_take (k := k) T
  refine T.F_l_odd.ok sc_l_odd (fun vs H Q E h => ?_) (fun cdv A outer s H vs Q E hr h => ?_)
  · obtain ⟨S, p, rfl, _⟩ := h
    rfl
  · obtain ⟨S, p, rfl, b, hSn, q⟩ := h
    refine ⟨_, PSs.nox
(pss_cons (ps_set (i := 1) sc_l_odd.nd rfl (.inl rfl) (pe_lst (pa_cons (pe_non) (pa_cons (pe_bl) (pa_cons (pe_bl) (pa_cons (pe_int) (pa_cons (pe_int) (pa_cons (pe_un un_neg (pe_int)) (pa_cons (pe_op op_pow (pe_int) (pe_int)) (pa_cons (pe_str) (pa_cons (pe_str) (pa_cons (pe_str) (pa_cons (pe_str) (pa_cons (pe_str) (pa_cons (pe_str) (pa_cons (pe_str) (pa_cons (pe_lst pa_nil) (pa_cons (pe_tup pa_nil) (pa_cons (pe_lst (pa_cons (pe_str) pa_nil)) (pa_cons (pe_tup (pa_cons (pe_str) pa_nil)) pa_nil))))))))))))))))))))
    (pss_one (ps_ret (pe_ix (r := rIxL K) ix_list (pe_op op_cat (pv 1) (pe_lst (pa_cons (pe_tup (pa_cons (pe_str) (pa_cons (pe_str) pa_nil))) (pa_cons (pe_int) (pa_cons (pe_int) (pa_cons (pe_str) (pa_cons (pe_tup (pa_cons (pe_tup pa_nil) pa_nil)) pa_nil))))))) (pe_call G_l_take hr (by rfl) T.g_l_take T.F_l_take.kp T.b_l_take .nil pass0 (pa_cons (pv 0) (pa_cons (pe_int) pa_nil))) (fun _ _ => rfl)))))
      , ?_⟩
    have np : ∀ {Hx : Hp} {a : Addr}, Bag Hx p → Hx a = none → a ≠ p := fun bx nb e => by
      obtain ⟨g, r, e', _⟩ := bx
      rw [e, e'] at nb
      cases nb
    have sz : ∀ {a : Nat}, Nat.ble a 5000 = true → a ≤ sizeLine := fun h => Nat.le_of_lt (small5000 (Nat.le_of_ble_eq_true h))
    refine ⟨1, rfl, 10, 30, rfl, rfl, ⟨by decide, by decide, by decide⟩, Nat.zero_le _, fun l1 n1 => ⟨Nat.zero_le _, fun t1 m1 => ⟨sz rfl, fun l2 n2 => ⟨sz rfl, fun t2 m2 => ⟨sz rfl, fun L nL => ?_⟩⟩⟩⟩⟩
    have s1 := same_upd (o := .lst []) n1
    have r1 := same_upd (o := .tup []) m1
    have s2 := same_upd (o := .lst [V.str "a"]) n2
    have r2 := same_upd (o := .tup [V.str "a"]) m2
    have b1 := b.keep s1
    have b2 := b1.keep r1
    have b3 := b2.keep s2
    have b4 := b3.keep r2
    have g1 : DG p S (upd H l1 (.lst [])) (.ref l1) (.list []) := .lst (np b n1) (hSn _ n1) upd_same .nil
    have g2 : DG p S (upd (upd H l1 (.lst [])) t1 (.tup [])) (.ref t1) (.tuple []) := .tup (.inl upd_same) .nil
    have g3 : DG p S (upd (upd (upd H l1 (.lst [])) t1 (.tup [])) l2 (.lst [V.str "a"])) (.ref l2) (.list [.str "a"]) := .lst (np b2 n2) (hSn _ (up0 ((same_upd n1).trans (same_upd m1)) n2)) upd_same (.cons (.str _) .nil)
    have g4 : DG p S (upd (upd (upd (upd H l1 (.lst [])) t1 (.tup [])) l2 (.lst [V.str "a"])) t2 (.tup [V.str "a"])) (.ref t2) (.tuple [.str "a"]) := .tup (.inl upd_same) (.cons (.str _) .nil)
    have s4 := ((s1.trans r1).trans s2).trans r2
    have g1 := g1.same ((r1.trans s2).trans r2)
    have g2 := g2.same (s2.trans r2)
    have g3 := g3.same r2
    generalize upd (upd (upd (upd H l1 (.lst [])) t1 (.tup [])) l2 (.lst [V.str "a"])) t2 (.tup [V.str "a"]) = H4 at nL s4 b4 g1 g2 g3 g4 ⊢
    clear s1 r1 s2 r2 b1 b2 b3 n1 m1 n2 m2
    have sL := same_upd (o := .lst [V.non, .bl true, .bl false, .int 0, .int 1, .int (-1), .int (10 ^ 30), .str "", .str "A", .str "a", .str "ab", .str "abcdefghi", .str "a b", .str "a1", .ref l1, .ref t1, .ref l2, .ref t2]) nL
    have eL : upd H4 L (.lst [V.non, .bl true, .bl false, .int 0, .int 1, .int (-1), .int (10 ^ 30), .str "", .str "A", .str "a", .str "ab", .str "abcdefghi", .str "a b", .str "a1", .ref l1, .ref t1, .ref l2, .ref t2]) L = some (.lst [V.non, .bl true, .bl false, .int 0, .int 1, .int (-1), .int (10 ^ 30), .str "", .str "A", .str "a", .str "ab", .str "abcdefghi", .str "a b", .str "a1", .ref l1, .ref t1, .ref l2, .ref t2]) := upd_same
    show gName 1 _ _ (upd H4 L (.lst [V.non, .bl true, .bl false, .int 0, .int 1, .int (-1), .int (10 ^ 30), .str "", .str "A", .str "a", .str "ab", .str "abcdefghi", .str "a b", .str "a1", .ref l1, .ref t1, .ref l2, .ref t2])) _
    have dL : DGAll p S (upd H4 L (.lst [V.non, .bl true, .bl false, .int 0, .int 1, .int (-1), .int (10 ^ 30), .str "", .str "A", .str "a", .str "ab", .str "abcdefghi", .str "a b", .str "a1", .ref l1, .ref t1, .ref l2, .ref t2])) [V.non, .bl true, .bl false, .int 0, .int 1, .int (-1), .int (10 ^ 30), .str "", .str "A", .str "a", .str "ab", .str "abcdefghi", .str "a b", .str "a1", .ref l1, .ref t1, .ref l2, .ref t2] [.none, .bool true, .bool false, .int 0, .int 1, .int (-1), .int (10 ^ 30), .str "", .str "A", .str "a", .str "ab", .str "abcdefghi", .str "a b", .str "a1", .list [], .tuple [], .list [.str "a"], .tuple [.str "a"]] :=
      .cons .non (.cons (.bl _) (.cons (.bl _) (.cons (.int _) (.cons (.int _) (.cons (.int _) (.cons (.int _) (.cons (.str _) (.cons (.str _) (.cons (.str _) (.cons (.str _) (.cons (.str _) (.cons (.str _) (.cons (.str _) (.cons (g1.same sL) (.cons (g2.same sL) (.cons (g3.same sL) (.cons (g4.same sL) .nil)))))))))))))))))
    have c_ : ∀ {a : PyData} {l : List PyData}, LwG 2 a → (∀ x ∈ l, LwG 2 x) → ∀ x ∈ a :: l, LwG 2 x := LwG.cons
    have lwL : ∀ x ∈ [PyData.none, .bool true, .bool false, .int 0, .int 1, .int (-1), .int (10 ^ 30), .str "", .str "A", .str "a", .str "ab", .str "abcdefghi", .str "a b", .str "a1", .list [], .tuple [], .list [.str "a"], .tuple [.str "a"]], LwG 2 x :=
      LwG.cons .non (LwG.cons .bl (LwG.cons .bl (LwG.cons .int (LwG.cons .int (LwG.cons .int (LwG.cons .int (LwG.cons (.str (by decide +kernel) (by decide +kernel)) (LwG.cons (.str (by decide +kernel) (by decide +kernel)) (LwG.cons (.str (by decide +kernel) (by decide +kernel)) (LwG.cons (.str (by decide +kernel) (by decide +kernel)) (LwG.cons (.str (by decide +kernel) (by decide +kernel)) (LwG.cons (.str (by decide +kernel) (by decide +kernel)) (LwG.cons (.str (by decide +kernel) (by decide +kernel)) (LwG.cons (.mono (.lst (n := 0) LwG.nil) (by decide)) (LwG.cons (.mono (.tup (n := 0) LwG.nil) (by decide)) (LwG.cons (.mono (.lst (n := 0) (LwG.cons (.str (by decide +kernel) (by decide +kernel)) LwG.nil)) (by decide)) (LwG.cons (.mono (.tup (n := 0) (LwG.cons (.str (by decide +kernel) (by decide +kernel)) LwG.nil)) (by decide)) LwG.nil)))))))))))))))))
    have s5 := s4.trans sL
    have b5 := b4.keep sL
    generalize hxs : [V.non, .bl true, .bl false, .int 0, .int 1, .int (-1), .int (10 ^ 30), .str "", .str "A", .str "a", .str "ab", .str "abcdefghi", .str "a b", .str "a1", .ref l1, .ref t1, .ref l2, .ref t2] = xs at eL dL s5 b5 ⊢
    have xl : xs.length = 18 := by rw [← hxs]; rfl
    generalize [PyData.none, .bool true, .bool false, .int 0, .int 1, .int (-1), .int (10 ^ 30), .str "", .str "A", .str "a", .str "ab", .str "abcdefghi", .str "a b", .str "a1", .list [], .tuple [], .list [.str "a"], .tuple [.str "a"]] = ds at dL lwL
    generalize upd H4 L (.lst xs) = H5 at eL dL s5 b5 ⊢
    clear hxs s4 b4 g1 g2 g3 g4 sL nL
    refine ⟨.ref L, rfl, sz rfl, fun t3 m3 => ⟨Nat.zero_le _, fun t4 m4 => ⟨sz rfl, fun t5 m5 => ⟨sz rfl, fun M nM => ?_⟩⟩⟩⟩
    have r3 := same_upd (o := .tup [V.str "a", .str "b"]) m3
    have r4 := same_upd (o := .tup []) m4
    have r5 := same_upd (o := .tup [V.ref t4]) m5
    have b6 := b5.keep ((r3.trans r4).trans r5)
    have g1 : DG p S (upd H5 t3 (.tup [V.str "a", .str "b"])) (.ref t3) (.tuple [.str "a", .str "b"]) := .tup (.inl upd_same) (.cons (.str _) (.cons (.str _) .nil))
    have g2 : DG p S (upd (upd H5 t3 (.tup [V.str "a", .str "b"])) t4 (.tup [])) (.ref t4) (.tuple []) := .tup (.inl upd_same) .nil
    have g3 : DG p S (upd (upd (upd H5 t3 (.tup [V.str "a", .str "b"])) t4 (.tup [])) t5 (.tup [V.ref t4])) (.ref t5) (.tuple [.tuple []]) := .tup (.inl upd_same) (.cons (g2.same r5) .nil)
    have g1 := g1.same (r4.trans r5)
    have sr := (r3.trans r4).trans r5
    generalize upd (upd (upd H5 t3 (.tup [V.str "a", .str "b"])) t4 (.tup [])) t5 (.tup [V.ref t4]) = H6 at nM b6 g1 g3 sr ⊢
    have sM := same_upd (o := .lst [V.ref t3, .int 9999, .int 10000, .str "z", .ref t5]) nM
    have eM : upd H6 M (.lst [V.ref t3, .int 9999, .int 10000, .str "z", .ref t5]) M = some (.lst [V.ref t3, .int 9999, .int 10000, .str "z", .ref t5]) := upd_same
    refine ⟨L, M, _, _, rfl, rfl, (sr.trans sM) _ _ eL, eM, by rw [xl]; exact sz rfl, fun N nN => ?_⟩
    have sN := same_upd (o := .lst (xs ++ [V.ref t3, .int 9999, .int 10000, .str "z", .ref t5])) nN
    have eN : upd (upd H6 M (.lst [V.ref t3, .int 9999, .int 10000, .str "z", .ref t5])) N (.lst (xs ++ [V.ref t3, .int 9999, .int 10000, .str "z", .ref t5])) N = some (.lst (xs ++ [V.ref t3, .int 9999, .int 10000, .str "z", .ref t5])) := upd_same
    have sMN := sM.trans sN
    have dN : DGAll p S (upd (upd H6 M (.lst [V.ref t3, .int 9999, .int 10000, .str "z", .ref t5])) N (.lst (xs ++ [V.ref t3, .int 9999, .int 10000, .str "z", .ref t5]))) (xs ++ [V.ref t3, .int 9999, .int 10000, .str "z", .ref t5]) (ds ++ [.tuple [.str "a", .str "b"], .int 9999, .int 10000, .str "z", .tuple [.tuple []]]) :=
      (dL.same (sr.trans sMN)).app (.cons (g1.same sMN) (.cons (.int _) (.cons (.int _) (.cons (.str _) (.cons (g3.same sMN) .nil)))))
    have lwN : ∀ x ∈ ds ++ [PyData.tuple [.str "a", .str "b"], .int 9999, .int 10000, .str "z", .tuple [.tuple []]], LwG 2 x := fun x hx => (List.mem_append.mp hx).elim (lwL x) (LwG.cons (.mono (.tup (n := 0) (LwG.cons (.str (by decide +kernel) (by decide +kernel)) (LwG.cons (.str (by decide +kernel) (by decide +kernel)) LwG.nil))) (by decide)) (LwG.cons .int (LwG.cons .int (LwG.cons (.str (by decide +kernel) (by decide +kernel)) (LwG.cons (.tup (LwG.cons (.tup LwG.nil) LwG.nil)) LwG.nil)))) x)
    have b7 := b6.keep sMN
    have s07 := (s5.trans sr).trans sMN
    have zl : (xs ++ [V.ref t3, .int 9999, .int 10000, .str "z", .ref t5]).length = 23 := by rw [List.length_append, xl]; rfl
    have nNp := np (b6.keep sM) nN
    generalize xs ++ [V.ref t3, .int 9999, .int 10000, .str "z", .ref t5] = zs at eN dN b7 s07 zl ⊢
    generalize ds ++ [PyData.tuple [.str "a", .str "b"], .int 9999, .int 10000, .str "z", .tuple [.tuple []]] = es at dN lwN
    show tCall _ _ _ _ _ (upd (upd H6 M (.lst [V.ref t3, .int 9999, .int 10000, .str "z", .ref t5])) N (.lst zs)) _
    generalize upd (upd H6 M (.lst [V.ref t3, .int 9999, .int 10000, .str "z", .ref t5])) N (.lst zs) = H7 at eN dN b7 s07 ⊢
    refine ⟨.ref p, rfl, p, 23, rfl, b7, by decide, by decide, fun H8 c k8 b8 c0 c1 => ?_⟩
    obtain ⟨cn, rfl⟩ : ∃ xn : Nat, c = (xn : Int) := ⟨c.toNat, by omega⟩
    have ex := List.getElem?_eq_getElem (show cn < zs.length by omega)
    obtain ⟨e, ee, he⟩ := (dN.keep k8 b7).get ex
    exact ⟨N, _, cn, _, rfl, rfl, SqL.of (k8 _ _ nNp eN), atI_nat ex, q _ _ _ ((Keep.of s07).trans k8) b8 he (lwN e (List.mem_of_getElem? ee))⟩
end
end Th
namespace Th
open PySem PySem.Spec PyProof.Rows L2
variable {S : Addr → Prop}
theorem LwG.mem {n : Nat} {ds : List PyData} (h : LwG n (.tuple ds)) : ∀ x ∈ ds, LwG n x := fun x hx => by
  have h1 : PyData.canLayAll0 ds = true := h.lay
  have h2 : PyData.depthAll ds + 1 ≤ n := h.dep
  have dm : ∀ {l : List PyData}, x ∈ l → PyData.depth x ≤ PyData.depthAll l := fun {l} => by
    induction l with
    | nil => exact fun h => (by cases h)
    | cons a l ih =>
      intro h
      show _ ≤ max (PyData.depth a) (PyData.depthAll l)
      rcases List.mem_cons.mp h with e | h
      · rw [e]; omega
      · have := ih h; omega
  exact ⟨PyData.canLay0_of_mem ds x h1 hx, by have := dm hx; omega, h.tb.mem x hx, h.wd.mem x hx⟩
theorem keep_free {p a : Addr} {H H' : Hp} (k : Keep p H H') (b : Bag H' p) (n : H' a = none) : H a = none := by
  cases e : H a with
  | none => rfl
  | some o =>
    have ne : a ≠ p := fun z => by
      obtain ⟨g, r, e', _⟩ := b
      rw [z, e'] at n
      cases n
    rw [k _ _ ne e] at n
    cases n
theorem cutV_pre (xs : List V) (a : Nat) : cutV xs none (some (a : Int)) = xs.take a := by
  unfold cutV
  rw [HT.sIx_none, HT.sIx_nat, List.drop_zero, Nat.sub_zero]
  by_cases h : a ≤ xs.length
  · rw [Nat.min_eq_left h]
  · rw [Nat.min_eq_right (by omega), List.take_of_length_le (by omega), List.take_of_length_le (by omega)]
theorem cutV_suf (xs : List V) (a : Nat) : cutV xs (some (a : Int)) none = xs.drop a := by
  unfold cutV
  rw [HT.sIx_none, HT.sIx_nat]
  by_cases h : a ≤ xs.length
  · rw [Nat.min_eq_left h]
    exact List.take_of_length_le (by rw [List.length_drop]; omega)
  · rw [Nat.min_eq_right (by omega), Nat.sub_self, List.take_zero, List.drop_eq_nil_of_le (by omega)]
theorem slA_of {K : PySem.W.Frag} {H : Hp} {a : Addr} {xs : List V} {lo hi : Option Int} {Q : VK} (h : SqT K H a xs) (q : ∀ c H', Same H H' → TPl H' c (cutV xs lo hi) ∨ (c = a ∧ H' = H ∧ cutV xs lo hi = xs) → Q (.ref c) H') : rSlA K (.ref a) lo hi H Q := by
  refine ⟨a, xs, rfl, h, fun z => ?_, fun _ p np => q _ _ (same_upd np) (.inl (.inl upd_same))⟩
  have e : cutV xs lo hi = xs := by
    unfold cutV
    rw [z.1, z.2, List.drop_zero, Nat.sub_zero, List.take_length]
  exact q _ _ (fun _ _ z => z) (.inr ⟨rfl, rfl, e⟩)
theorem slT_of {K : PySem.W.Frag} {H : Hp} {a : Addr} {xs : List V} {lo hi : Option Int} {Q : VK} (h : TPl H a xs) (q : ∀ c H', Same H H' → TPl H' c (cutV xs lo hi) → Q (.ref c) H') : rSlA K (.ref a) lo hi H Q :=
  slA_of h.sq fun c H' s z => z.elim (q c H' s) fun ⟨e1, e2, e3⟩ => by
    refine q c H' s ?_
    rw [e3, e1, e2]
    exact h
theorem catT_of {K : PySem.W.Frag} {H : Hp} {a b : Addr} {xs ys : List V} {Q : VK} (h : TPl H a xs) (g : TPl H b ys) (l : xs.length + ys.length ≤ sizeLine) (q : ∀ c H', Same H H' → TPl H' c (xs ++ ys) → Q (.ref c) H') : rCatA K (.ref a) (.ref b) H Q :=
  ⟨a, b, xs, ys, rfl, rfl, h.sq, g.sq, l, fun e => q _ _ (fun _ _ z => z) (by rw [e]; exact g), fun _ e => q _ _ (fun _ _ z => z) (by rw [e, List.append_nil]; exact h), fun _ _ p np => q _ _ (same_upd np) (.inl upd_same)⟩
section
variable {P : Program} {w : World} {K : PySem.W.Frag} {mg : Str → Option Value} {base : Heap} {k : Nat}
def sp_l_turned : Sp := fun vs H Q _ => ∃ (S : Addr → Prop) (p row nl : Addr) (xs : List V) (ds : List PyData) (names : List Str) (n : Nat), vs = [.ref p, .ref row, .ref nl] ∧ Bag H p ∧ TPl H row xs ∧ DGAll p S H xs ds ∧ (∀ d ∈ ds, LwG n d) ∧ n ≤ 10 ∧ xs.length ≤ 100 ∧ nl ≠ p ∧ H nl = some (.lst (names.map V.str)) ∧ (∀ z ∈ names, PyData.strOk z = true ∧ z.length ≤ 5000) ∧ 1 ≤ names.length ∧ names.length ≤ 100 ∧ (∀ a, H a = none → S a) ∧
  ∀ H' v d, Keep p H H' → Bag H' p → DG p S H' v d → LwG (n + 3) d → Q v H'
set_option maxHeartbeats 16000000 in
theorem ok_l_turned (T : Defs K mg) : FnOk P w K mg base CX0 (k + 3) T.a_l_turned T.d_l_turned ["_law_bag_here", "_law_row", "_law_names_here"] sp_l_turned := by
  have G_l_take : FnOk P w K mg base CX0 (k + 2) _ _ _ _ := ok_l_take (k := k + 1) T
  have G_l_odd : FnOk P w K mg base CX0 (k + 2) _ _ _ _ := ok_l_odd (k := k) T
  refine T.F_l_turned.ok sc_l_turned (fun vs H Q E h => ?_) (fun cdv A outer s H vs Q E hr h => ?_)
  · obtain ⟨S, p, row, nl, xs, ds, names, n, rfl, _⟩ := h
    rfl
  · obtain ⟨S, p, row, nl, xs, ds, names, n, rfl, b, hrow, hds, lw, n10, x100, nlp, enl, hnm, n1, n100, hSn, q⟩ := h
    refine ⟨_, PSs.nox
(pss_cons (ps_set (i := 3) sc_l_turned.nd rfl (.inl rfl) (pe_call G_l_take hr (by rfl) T.g_l_take T.F_l_take.kp T.b_l_take .nil pass0 (pa_cons (pv 0) (pa_cons (pe_int) pa_nil))))
    (pss_cons (ps_set (i := 4) sc_l_turned.nd rfl (.inl rfl) (pe_call G_l_take hr (by rfl) T.g_l_take T.F_l_take.kp T.b_l_take .nil pass0 (pa_cons (pv 0) (pa_cons (pe_callB (call_max2 rfl) (by rfl) T.z_max (by decide +kernel) (pa_cons (pe_int) (pa_cons (pe_callB (r := rLenS K) call_lenS (by rfl) T.z_len (by decide +kernel) (pa_cons (pv 1) pa_nil)) pa_nil))) pa_nil))))
    (pss_cons (ps_if (PW.pt (pw_or (pt_cmpR op_eq (pv 3) (pe_int) (nomark _)) (pw_or1 (pt_cmpR (r := rEqD K) (op_eqD hr.units) (pv 1) (pe_tup pa_nil) (nomark _)))))
      (pss_one (ps_ret (pe_ix (r := rIxL K) ix_list (pe_lst (pa_cons (pe_call G_l_odd hr (by rfl) T.g_l_odd T.F_l_odd.kp T.b_l_odd .nil pass0 (pa_cons (pv 0) pa_nil)) (pa_cons (pe_callTy call_list_of (by rfl) T.z_list (by decide +kernel) (pa_cons (pv 1) pa_nil)) pa_nil))) (pe_call G_l_take hr (by rfl) T.g_l_take T.F_l_take.kp T.b_l_take .nil pass0 (pa_cons (pv 0) (pa_cons (pe_int) pa_nil))) (fun _ _ => rfl))))
      pss_nil)
    (pss_cons (ps_if (pt_cmpR op_eq (pv 3) (pe_int) (nomark _))
      (pss_one (ps_ret (pe_op op_catA (pe_slice (r := rSlA K) sl_tupA (pv 1) po_none (po_some (pv 4))) (pe_slice (r := rSlA K) sl_tupA (pv 1) (po_some (pe_op op_add (pv 4) (pe_int))) po_none))))
      pss_nil)
    (pss_cons (ps_if (pt_cmpR op_eq (pv 3) (pe_int) (nomark _))
      (pss_one (ps_ret (pe_op op_catA (pe_op op_catA (pe_slice (r := rSlA K) sl_tupA (pv 1) po_none (po_some (pv 4))) (pe_tup (pa_cons (pe_ix (r := rIxT K) ix_tup (pv 1) (pv 4) (fun _ _ => rfl)) pa_nil))) (pe_slice (r := rSlA K) sl_tupA (pv 1) (po_some (pv 4)) po_none))))
      pss_nil)
    (pss_cons (ps_if (pt_cmpR op_eq (pv 3) (pe_int) (nomark _))
      (pss_one (ps_ret (pe_op op_catA (pe_op op_catA (pe_slice (r := rSlA K) sl_tupA (pv 1) po_none (po_some (pv 4))) (pe_tup (pa_cons (pe_ix (r := rIxT K) ix_tup (pv 1) (pe_op op_sub (pv 4) (pe_int)) (fun _ _ => rfl)) pa_nil))) (pe_slice (r := rSlA K) sl_tupA (pv 1) (po_some (pe_op op_add (pv 4) (pe_int))) po_none))))
      pss_nil)
    (pss_cons (ps_if (PW.pt (pw_and (pt_val (pe_callB call_isi (by rfl) T.z_isinstance (by decide +kernel) (pa_cons (pe_ix (r := rIxT K) ix_tup (pv 1) (pv 4) (fun _ _ => rfl)) (pa_cons (pe_bltn (v := .ty "tuple") (by rfl) T.z_tuple (by decide +kernel) rfl) pa_nil)))) (pw_and (pt_cmpR (r := rNeD K) (op_neD hr.units) (pe_ix (r := rIxT K) ix_tup (pv 1) (pv 4) (fun _ _ => rfl)) (pe_tup pa_nil) (nomark _)) (pw_and1 (pt_cmpR op_eq (pv 3) (pe_int) (nomark _))))))
      (pss_one (ps_ret (pe_op op_catA (pe_op op_catA (pe_slice (r := rSlA K) sl_tupA (pv 1) po_none (po_some (pv 4))) (pe_tup (pa_cons (Tw.pe_revT (K := K) (pe_ix (r := rIxT K) ix_tup (pv 1) (pv 4) (fun _ _ => rfl))) pa_nil))) (pe_slice (r := rSlA K) sl_tupA (pv 1) (po_some (pe_op op_add (pv 4) (pe_int))) po_none))))
      pss_nil)
    (pss_cons (ps_if (pt_cmpR op_gt (pv 3) (pe_int) (nomark _))
      (pss_one (ps_ret (pe_op op_catA (pe_op op_catA (pe_slice (r := rSlA K) sl_tupA (pv 1) po_none (po_some (pv 4))) (pe_tup (pa_cons (pe_ix (r := rIxL K) ix_list (pv 2) (pe_call G_l_take hr (by rfl) T.g_l_take T.F_l_take.kp T.b_l_take .nil pass0 (pa_cons (pv 0) (pa_cons (pe_callB (r := rLenS K) call_lenS (by rfl) T.z_len (by decide +kernel) (pa_cons (pv 2) pa_nil)) pa_nil))) (fun _ _ => rfl)) pa_nil))) (pe_slice (r := rSlA K) sl_tupA (pv 1) (po_some (pe_op op_add (pv 4) (pe_int))) po_none))))
      pss_nil)
    (pss_one (ps_ret (pe_op op_catA (pe_op op_catA (pe_slice (r := rSlA K) sl_tupA (pv 1) po_none (po_some (pv 4))) (pe_tup (pa_cons (pe_call G_l_odd hr (by rfl) T.g_l_odd T.F_l_odd.kp T.b_l_odd .nil pass0 (pa_cons (pv 0) pa_nil)) pa_nil))) (pe_slice (r := rSlA K) sl_tupA (pv 1) (po_some (pe_op op_add (pv 4) (pe_int))) po_none))))))))))))
      , ?_⟩
    have sz : ∀ {a : Nat}, a ≤ 5000 → a ≤ sizeLine := fun h => Nat.le_of_lt (small5000 h)
    have np : ∀ {Hx : Hp} {a : Addr}, Bag Hx p → Hx a = none → a ≠ p := fun bx nb e => by
      obtain ⟨g, r, e', _⟩ := bx
      rw [e, e'] at nb
      cases nb
    have dl := hds.len
    have shr : SeqAt.shaped (.tuple ds) = true := (LwG.tup lw (by have := hds.len; omega)).shaped (by omega)
    refine ⟨.ref p, rfl, p, 8, rfl, b, by decide, by decide, fun H1 wy k1 b1 w0 w1 => ?_⟩
    refine ⟨.ref p, rfl, .ref row, rfl, row, xs, rfl, .inr (hrow.tk (TKF.keep k1 b)).sq, 1, _, rfl, p, _, rfl, b1, by split <;> omega, by split <;> omega, fun H2 at_ k2 b2 a0 a1 => ?_⟩
    have k02 := k1.trans k2
    have hr2 := hrow.tk (TKF.keep k02 b)
    have hd2 := hds.keep k02 b
    have en2 := k02 _ _ nlp enl
    have a1 : at_ < (if (xs.length : Int) > 1 then (xs.length : Int) else 1) := a1
    obtain ⟨at_, rfl⟩ : ∃ xn : Nat, at_ = (xn : Int) := ⟨at_.toNat, by omega⟩
    clear hrow hds enl k1 k2 b1
    have eqn : PyData.eqv (.tuple ds) (.tuple []) = decide (ds = []) := by
      cases ds with
      | nil => rfl
      | cons a b => rfl
    -- something else
    refine ⟨.int wy, rfl, rfl, _, rfl, ite2 (fun c => ?_) fun c => ?_⟩
    rotate_left
    · refine ⟨.ref row, rfl, Nat.zero_le _, fun e0 ne => ?_⟩
      have se := same_upd (o := .tup []) ne
      refine ⟨.tuple ds, .tuple [], .tup (hr2.same se).sq (hd2.same se).df.dp, .tup (SqT.of upd_same) .nil, shr, by decide +kernel, _, rfl, ?_⟩
      rw [eqn]
      have b3 := b2.keep se
      have k03 := k02.trans (.of se)
      have hr3 := hr2.same se
      have hd3 := hd2.same se
      have en3 := se _ _ en2
      generalize upd H2 e0 (.tup []) = H3 at b3 k03 hr3 hd3 en3 ⊢
      clear hr2 hd2 en2 b2 se ne k02
      by_cases c2 : ds = []
      rotate_left
      · rw [decide_eq_false c2]
        refine iteF ?_
        have d1 : 1 ≤ ds.length := by
          cases ds with
          | nil => exact absurd rfl c2
          | cons => simp
        have at1 : at_ < xs.length := by
          split at a1 <;> omega
        obtain ⟨v, ev⟩ : ∃ v, xs[at_]? = some v := ⟨_, List.getElem?_eq_getElem at1⟩
        obtain ⟨d, ed, hv⟩ := hd3.get ev
        have lwd := lw d (List.mem_of_getElem? ed)
        have lw2 : ∀ d ∈ ds, LwG (n + 2) d := fun d hd => (lw d hd).mono (by omega)
        have tkl : ∀ m, ∀ x ∈ ds.take m, LwG (n + 2) x := fun m x hx => lw2 x (List.mem_of_mem_take hx)
        have drl : ∀ m, ∀ x ∈ ds.drop m, LwG (n + 2) x := fun m x hx => lw2 x (List.mem_of_mem_drop hx)
        have appl : ∀ {a b : List PyData}, (∀ x ∈ a, LwG (n + 2) x) → (∀ x ∈ b, LwG (n + 2) x) → ∀ x ∈ a ++ b, LwG (n + 2) x := fun ha hb x hx => (List.mem_append.mp hx).elim (ha x) (hb x)
        have one : ∀ {d : PyData}, LwG (n + 2) d → ∀ x ∈ [d], LwG (n + 2) x := fun h x hx => by rw [List.mem_singleton.mp hx]; exact h
        have tlen : ∀ m, (xs.take m).length ≤ 100 := fun m => by rw [List.length_take]; omega
        have dlen : ∀ m, (xs.drop m).length ≤ 100 := fun m => by rw [List.length_drop]; omega
        -- one left out
        refine ⟨.int wy, rfl, rfl, _, rfl, ite2 (fun _ => ?_) fun _ => ?_⟩
        · refine ⟨.ref row, rfl, .int at_, rfl, at_, rfl, ?_⟩
          show rSlA K (.ref row) none (some (at_ : Int)) _ _
          refine slT_of hr3 fun c1 H4 s4 h4 => ?_
          refine ⟨.ref row, rfl, .int at_, rfl, at_, 1, rfl, rfl, _, rfl, ?_⟩
          unfold tNoPart
          dsimp only
          refine slT_of (hr3.same s4) fun c2' H5 s5 h5 => ?_
          rw [cutV_pre] at h4
          rw [show cutV xs (some ((at_ : Int) + 1)) none = xs.drop (at_ + 1) from cutV_suf xs (at_ + 1)] at h5
          have s45 := s4.trans s5
          refine catT_of (h4.same s5) h5 (sz (by have := tlen at_; have := dlen (at_ + 1); omega)) fun c3 H6 s6 h6 => ?_
          exact q _ _ _ (k03.trans (.of (s45.trans s6))) (b3.keep (s45.trans s6)) (.tup h6 (((hd3.take at_).app (hd3.drop (at_ + 1))).same (s45.trans s6))) (LwG.tup (appl (tkl _) (drl _)))
        -- one twice
        refine ⟨.int wy, rfl, rfl, _, rfl, ite2 (fun _ => ?_) fun _ => ?_⟩
        · refine ⟨.ref row, rfl, .int at_, rfl, at_, rfl, ?_⟩
          show rSlA K (.ref row) none (some (at_ : Int)) _ _
          refine slT_of hr3 fun c1 H4 s4 h4 => ?_
          rw [cutV_pre] at h4
          refine ⟨.ref row, rfl, .int at_, rfl, row, _, at_, v, rfl, rfl, (hr3.same s4).sq, atI_nat ev, one_sz, fun t nt => ?_⟩
          have st := same_upd (o := .tup [v]) nt
          have et : TPl (upd H4 t (.tup [v])) t [v] := .inl upd_same
          have s4t := s4.trans st
          generalize upd H4 t (.tup [v]) = H5 at st et s4t ⊢
          refine catT_of (h4.same st) et (sz (by have := tlen at_; show _ + 1 ≤ _; omega)) fun c3 H6 s6 h6 => ?_
          have s46 := s4t.trans s6
          refine ⟨.ref row, rfl, .int at_, rfl, at_, rfl, ?_⟩
          unfold tNoPart
          dsimp only
          refine slT_of (hr3.same s46) fun c4 H7 s7 h7 => ?_
          rw [cutV_suf] at h7
          refine catT_of (h6.same s7) h7 (sz (by have := tlen at_; have := dlen at_; rw [List.length_append]; show _ + 1 + _ ≤ _; omega)) fun c5 H8 s8 h8 => ?_
          have s48 := (s46.trans s7).trans s8
          exact q _ _ _ (k03.trans (.of s48)) (b3.keep s48) (.tup h8 ((((hd3.take at_).app (.cons hv .nil)).app (hd3.drop at_)).same s48)) (LwG.tup (appl (appl (tkl _) (one (lwd.mono (by omega)))) (drl _)))
        -- its neighbour
        refine ⟨.int wy, rfl, rfl, _, rfl, ite2 (fun _ => ?_) fun _ => ?_⟩
        · refine ⟨.ref row, rfl, .int at_, rfl, at_, rfl, ?_⟩
          show rSlA K (.ref row) none (some (at_ : Int)) _ _
          refine slT_of hr3 fun c1 H4 s4 h4 => ?_
          rw [cutV_pre] at h4
          obtain ⟨v', dv, at', hv', lwv⟩ : ∃ v' dv, atI xs ((at_ : Int) - 1) = some v' ∧ DG p S H3 v' dv ∧ LwG (n + 2) dv := by
            by_cases z : at_ = 0
            · subst z
              obtain ⟨u, eu⟩ : ∃ u, xs[xs.length - 1]? = some u := ⟨_, List.getElem?_eq_getElem (by omega)⟩
              obtain ⟨du, edu, hu⟩ := hd3.get eu
              refine ⟨u, du, ?_, hu, (lw du (List.mem_of_getElem? edu)).mono (by omega)⟩
              unfold atI ixN
              rw [if_neg (by omega), if_pos (by omega), show ((((0 : Nat) : Int) - 1) + (xs.length : Int)).toNat = xs.length - 1 by omega]
              exact eu
            · obtain ⟨u, eu⟩ : ∃ u, xs[at_ - 1]? = some u := ⟨_, List.getElem?_eq_getElem (by omega)⟩
              obtain ⟨du, edu, hu⟩ := hd3.get eu
              refine ⟨u, du, ?_, hu, (lw du (List.mem_of_getElem? edu)).mono (by omega)⟩
              rw [show (at_ : Int) - 1 = ((at_ - 1 : Nat) : Int) by omega]
              exact atI_nat eu
          refine ⟨.ref row, rfl, .int at_, rfl, at_, 1, rfl, rfl, row, _, _, v', rfl, rfl, (hr3.same s4).sq, at', one_sz, fun t nt => ?_⟩
          have st := same_upd (o := .tup [v']) nt
          have et : TPl (upd H4 t (.tup [v'])) t [v'] := .inl upd_same
          have s4t := s4.trans st
          generalize upd H4 t (.tup [v']) = H5 at st et s4t ⊢
          refine catT_of (h4.same st) et (sz (by have := tlen at_; show _ + 1 ≤ _; omega)) fun c3 H6 s6 h6 => ?_
          have s46 := s4t.trans s6
          refine ⟨.ref row, rfl, .int at_, rfl, at_, 1, rfl, rfl, _, rfl, ?_⟩
          unfold tNoPart
          dsimp only
          refine slT_of (hr3.same s46) fun c4 H7 s7 h7 => ?_
          rw [show cutV xs (some ((at_ : Int) + 1)) none = xs.drop (at_ + 1) from cutV_suf xs (at_ + 1)] at h7
          refine catT_of (h6.same s7) h7 (sz (by have := tlen at_; have := dlen (at_ + 1); rw [List.length_append]; show _ + 1 + _ ≤ _; omega)) fun c5 H8 s8 h8 => ?_
          have s48 := (s46.trans s7).trans s8
          exact q _ _ _ (k03.trans (.of s48)) (b3.keep s48) (.tup h8 ((((hd3.take at_).app (.cons hv' .nil)).app (hd3.drop (at_ + 1))).same s48)) (LwG.tup (appl (appl (tkl _) (one lwv)) (drl _)))
        -- a tuple the other way about
        refine ⟨.ref row, rfl, .int at_, rfl, row, _, at_, v, rfl, rfl, hr3.sq, atI_nat ev, v, .ty "tuple", _, _, _, rfl, .ty _, hv.df.ty, kit_T d, isiT d, rfl, ?_⟩
        have eqe : ∀ es : List PyData, PyData.eqv (.tuple es) (.tuple []) = decide (es = []) := fun es => by
          cases es with
          | nil => rfl
          | cons a b => rfl
        have four : isiT d = false ∨ (∃ es, d = .tuple es ∧ es = []) ∨ (∃ es, d = .tuple es ∧ es ≠ [] ∧ wy ≠ 4) ∨ ∃ es, d = .tuple es ∧ es ≠ [] ∧ wy = 4 := by
          cases d with
          | tuple es =>
            by_cases c3 : es = []
            · exact .inr (.inl ⟨es, rfl, c3⟩)
            · by_cases c4 : wy = 4
              · exact .inr (.inr (.inr ⟨es, rfl, c3, c4⟩))
              · exact .inr (.inr (.inl ⟨es, rfl, c3, c4⟩))
          | _ => exact .inl rfl
        have shd : SeqAt.shaped d = true := lwd.shaped (by omega)
        rcases four with hT | ⟨es, rfl, ce⟩ | ⟨es, rfl, ce, c4⟩ | ⟨es, rfl, ce, c4⟩
        rotate_right
        · refine iteT ⟨.ref row, rfl, .int at_, rfl, row, _, at_, v, rfl, rfl, hr3.sq, atI_nat ev, Nat.zero_le _, fun e1 ne1 => ?_⟩
          have s1 := same_upd (o := .tup []) ne1
          refine ⟨.tuple es, .tuple [], (hv.same s1).df.dp, .tup (SqT.of upd_same) .nil, shd, by decide +kernel, _, rfl, ?_⟩
          rw [eqe, decide_eq_false ce]
          refine iteT ⟨.int wy, rfl, rfl, _, rfl, ite2 (fun _ => ?_) fun c => absurd (decide_eq_true (by rw [c4])) c⟩
          have k04 := k03.trans (.of s1)
          have b4 := b3.keep s1
          have hr4 := hr3.same s1
          have hd4 := hd3.same s1
          have hv4 := hv.same s1
          generalize upd H3 e1 (.tup []) = H4 at k04 b4 hr4 hd4 hv4 ⊢
          refine ⟨.ref row, rfl, .int at_, rfl, at_, rfl, ?_⟩
          show rSlA K (.ref row) none (some (at_ : Int)) _ _
          refine slT_of hr4 fun c1 H5 s5 h5 => ?_
          rw [cutV_pre] at h5
          obtain ⟨u, us, rfl, eu, hus⟩ := tup_invG hv4
          have lwe : ∀ x ∈ es, LwG n x := LwG.mem lwd
          refine ⟨.ref row, rfl, .int at_, rfl, row, _, at_, .ref u, rfl, rfl, (hr4.same s5).sq, atI_nat ev, u, us, rfl, (eu.same s5).sq, fun w' nw => ⟨one_sz, fun t nt => ?_⟩⟩
          have sw := same_upd (o := .tup us.reverse) nw
          have st := same_upd (o := .tup [V.ref w']) nt
          have ew : TPl (upd (upd H5 w' (.tup us.reverse)) t (.tup [V.ref w'])) w' us.reverse := .inl (st _ _ upd_same)
          have et : TPl (upd (upd H5 w' (.tup us.reverse)) t (.tup [V.ref w'])) t [V.ref w'] := .inl upd_same
          have swt := sw.trans st
          have s5t := s5.trans swt
          generalize upd (upd H5 w' (.tup us.reverse)) t (.tup [V.ref w']) = H6 at ew et swt s5t ⊢
          have hw : DG p S H6 (.ref w') (.tuple es.reverse) := .tup ew (hus.rev.same s5t)
          refine catT_of (h5.same swt) et (sz (by have := tlen at_; show _ + 1 ≤ _; omega)) fun c3 H7 s7 h7 => ?_
          have s57 := s5t.trans s7
          refine ⟨.ref row, rfl, .int at_, rfl, at_, 1, rfl, rfl, _, rfl, ?_⟩
          unfold tNoPart
          dsimp only
          refine slT_of (hr4.same s57) fun c4 H8 s8 h8 => ?_
          rw [show cutV xs (some ((at_ : Int) + 1)) none = xs.drop (at_ + 1) from cutV_suf xs (at_ + 1)] at h8
          refine catT_of (h7.same s8) h8 (sz (by have := tlen at_; have := dlen (at_ + 1); rw [List.length_append]; show _ + 1 + _ ≤ _; omega)) fun c5 H9 s9 h9 => ?_
          have s89 := s8.trans s9
          have s59 := s57.trans s89
          exact q _ _ _ (k04.trans (.of s59)) (b4.keep s59) (.tup h9 ((((hd4.take at_).same s59).app (.cons (hw.same (s7.trans s89)) .nil)).app ((hd4.drop (at_ + 1)).same s59))) (LwG.tup (appl (appl (tkl _) (one (LwG.mono (LwG.tup (fun x hx => lwe x (List.mem_reverse.mp hx)) (by rw [List.length_reverse]; exact lwd.wd.len)) (by omega)))) (drl _)))
        all_goals first
          | (rw [hT]
             refine iteF ?_
             obtain ⟨H4, eH⟩ : ∃ Hn, Hn = H3 := ⟨_, rfl⟩
             rw [← eH]
             have s1 : Same H3 H4 := by rw [eH]; exact fun _ _ z => z
             clear eH)
          | (refine iteT ⟨.ref row, rfl, .int at_, rfl, row, _, at_, v, rfl, rfl, hr3.sq, atI_nat ev, Nat.zero_le _, fun e1 ne1 => ?_⟩
             have s1 := same_upd (o := .tup []) ne1
             refine ⟨.tuple es, .tuple [], (hv.same s1).df.dp, .tup (SqT.of upd_same) .nil, shd, by decide +kernel, _, rfl, ?_⟩
             rw [eqe]
             first
               | (rw [decide_eq_true ce]
                  refine iteF ?_)
               | (rw [decide_eq_false ce]
                  refine iteT ⟨.int wy, rfl, rfl, _, rfl, ite2 (fun c => absurd (by injection of_decide_eq_true c) c4) fun _ => ?_⟩)
             generalize upd H3 e1 (.tup []) = H4 at s1 ⊢)
        all_goals
          have k04 := k03.trans (.of s1)
          have b4 := b3.keep s1
          have hr4 := hr3.same s1
          have hd4 := hd3.same s1
          have en4 := s1 _ _ en3
          -- a name
          refine ⟨.int wy, rfl, wy, 5, rfl, rfl, _, rfl, ite2 (fun _ => ?_) fun _ => ?_⟩
          · refine ⟨.ref row, rfl, .int at_, rfl, at_, rfl, ?_⟩
            show rSlA K (.ref row) none (some (at_ : Int)) _ _
            refine slT_of hr4 fun c1 H5 s5 h5 => ?_
            rw [cutV_pre] at h5
            have b5 := b4.keep s5
            have nlen : (names.map V.str).length = names.length := List.length_map _
            refine ⟨.ref nl, rfl, .ref p, rfl, .ref nl, rfl, nl, _, rfl, .inl (SqL.of (s5 _ _ en4)), p, _, rfl, b5, by rw [nlen]; omega, by rw [nlen]; omega, fun H6 c k6 b6 c0 c1 => ?_⟩
            rw [nlen] at c1
            obtain ⟨cn, rfl⟩ : ∃ xn : Nat, c = (xn : Int) := ⟨c.toNat, by omega⟩
            have ex := List.getElem?_eq_getElem (show cn < names.length by omega)
            have hz := hnm _ (List.getElem_mem (show cn < names.length by omega))
            generalize names[cn] = z at ex hz
            refine ⟨nl, _, cn, .str z, rfl, rfl, SqL.of (k6 _ _ nlp (s5 _ _ en4)), atI_nat (by rw [List.getElem?_map, ex]; rfl), one_sz, fun t nt => ?_⟩
            have st := same_upd (o := .tup [V.str z]) nt
            have et : TPl (upd H6 t (.tup [V.str z])) t [V.str z] := .inl upd_same
            have h6 := (h5.tk (TKF.keep k6 b5)).same st
            have k46 := ((Keep.of s5).trans k6).trans (.of st)
            have b6' := b6.keep st
            generalize upd H6 t (.tup [V.str z]) = H7 at et h6 k46 b6' ⊢
            refine catT_of h6 et (sz (by have := tlen at_; show _ + 1 ≤ _; omega)) fun c3 H8 s8 h8 => ?_
            refine ⟨.ref row, rfl, .int at_, rfl, at_, 1, rfl, rfl, _, rfl, ?_⟩
            unfold tNoPart
            dsimp only
            have hr8 := (hr4.tk (TKF.keep k46 b4)).same s8
            refine slT_of hr8 fun c4 H9 s9 h9 => ?_
            rw [show cutV xs (some ((at_ : Int) + 1)) none = xs.drop (at_ + 1) from cutV_suf xs (at_ + 1)] at h9
            refine catT_of (h8.same s9) h9 (sz (by have := tlen at_; have := dlen (at_ + 1); rw [List.length_append]; show _ + 1 + _ ≤ _; omega)) fun c5 Ha sa ha => ?_
            have s8a := (s8.trans s9).trans sa
            exact q _ _ _ ((k04.trans k46).trans (.of s8a)) (b6'.keep s8a) (.tup ha (((((hd4.keep k46 b4).take at_).app (.cons (.str _) .nil)).app ((hd4.keep k46 b4).drop (at_ + 1))).same s8a)) (LwG.tup (appl (appl (tkl _) (one (.str hz.1 hz.2))) (drl _)))
          · refine ⟨.ref row, rfl, .int at_, rfl, at_, rfl, ?_⟩
            show rSlA K (.ref row) none (some (at_ : Int)) _ _
            refine slT_of hr4 fun c1 H5 s5 h5 => ?_
            rw [cutV_pre] at h5
            have b5 := b4.keep s5
            refine ⟨.ref p, rfl, S, p, rfl, b5, fun a n => hSn a (keep_free (k04.trans (.of s5)) b5 n), fun H6 vo od k6 b6 ho lwo => ⟨one_sz, fun t nt => ?_⟩⟩
            have st := same_upd (o := .tup [vo]) nt
            have et : TPl (upd H6 t (.tup [vo])) t [vo] := .inl upd_same
            have h6 := (h5.tk (TKF.keep k6 b5)).same st
            have k46 := ((Keep.of s5).trans k6).trans (.of st)
            have b6' := b6.keep st
            have ho' := ho.same st
            generalize upd H6 t (.tup [vo]) = H7 at et h6 k46 b6' ho' ⊢
            refine catT_of h6 et (sz (by have := tlen at_; show _ + 1 ≤ _; omega)) fun c3 H8 s8 h8 => ?_
            refine ⟨.ref row, rfl, .int at_, rfl, at_, 1, rfl, rfl, _, rfl, ?_⟩
            unfold tNoPart
            dsimp only
            have hr8 := (hr4.tk (TKF.keep k46 b4)).same s8
            refine slT_of hr8 fun c4 H9 s9 h9 => ?_
            rw [show cutV xs (some ((at_ : Int) + 1)) none = xs.drop (at_ + 1) from cutV_suf xs (at_ + 1)] at h9
            refine catT_of (h8.same s9) h9 (sz (by have := tlen at_; have := dlen (at_ + 1); rw [List.length_append]; show _ + 1 + _ ≤ _; omega)) fun c5 Ha sa ha => ?_
            have s8a := (s8.trans s9).trans sa
            exact q _ _ _ ((k04.trans k46).trans (.of s8a)) (b6'.keep s8a) (.tup ha (((((hd4.keep k46 b4).take at_).app (.cons ho' .nil)).app ((hd4.keep k46 b4).drop (at_ + 1))).same s8a)) (LwG.tup (appl (appl (tkl _) (one (lwo.mono (by omega)))) (drl _)))
      · rw [decide_eq_true c2]
        refine iteT ?_
        refine ⟨.ref p, rfl, S, p, rfl, b3, fun a n => hSn a (keep_free k03 b3 n), fun Ha vo od ka ba ho lwo => ?_⟩
        have hra := hr3.tk (TKF.keep ka b3)
        have hda := hd3.keep ka b3
        have ka0 := k03.trans ka
        refine ⟨.ref row, rfl, row, xs, rfl, .inr hra.sq, fun l nl' => ⟨two_sz, fun L nL => ?_⟩⟩
        have sl := same_upd (o := .lst xs) nl'
        have sL := same_upd (o := .lst [vo, V.ref l]) nL
        have el : upd (upd Ha l (.lst xs)) L (.lst [vo, V.ref l]) l = some (.lst xs) := sL _ _ upd_same
        have eL : upd (upd Ha l (.lst xs)) L (.lst [vo, V.ref l]) L = some (.lst [vo, V.ref l]) := upd_same
        have nlp2 := np ba nl'
        have nLp := np (ba.keep sl) nL
        have s2' := sl.trans sL
        have bb := ba.keep s2'
        have hl : DG p S (upd (upd Ha l (.lst xs)) L (.lst [vo, V.ref l])) (.ref l) (.list ds) := .lst nlp2 (hSn _ (keep_free ka0 ba nl')) el (hda.same s2')
        have hvo := ho.same s2'
        show tCall _ _ _ _ _ (upd (upd Ha l (.lst xs)) L (.lst [vo, V.ref l])) _
        have kb := (k03.trans ka).trans (.of s2')
        generalize upd (upd Ha l (.lst xs)) L (.lst [vo, V.ref l]) = Hb at eL bb hl hvo kb ⊢
        refine ⟨.ref p, rfl, p, 2, rfl, bb, by decide, by decide, fun Hc c kc bc c0 c1 => ?_⟩
        have hc : c = 0 ∨ c = 1 := by omega
        rcases hc with rfl | rfl
        · exact ⟨L, _, 0, _, rfl, rfl, SqL.of (kc _ _ nLp eL), atI_nat (j := 0) rfl, q _ _ _ (kb.trans kc) bc (hvo.keep kc bb) (lwo.mono (by omega))⟩
        · exact ⟨L, _, 1, _, rfl, rfl, SqL.of (kc _ _ nLp eL), atI_nat (j := 1) rfl, q _ _ _ (kb.trans kc) bc (hl.keep kc bb) ((LwG.lst lw).mono (by omega))⟩
    · refine ⟨.ref p, rfl, S, p, rfl, b2, fun a n => hSn a (keep_free k02 b2 n), fun Ha vo od ka ba ho lwo => ?_⟩
      have hra := hr2.tk (TKF.keep ka b2)
      have hda := hd2.keep ka b2
      have ka0 := k02.trans ka
      refine ⟨.ref row, rfl, row, xs, rfl, .inr hra.sq, fun l nl' => ⟨two_sz, fun L nL => ?_⟩⟩
      have sl := same_upd (o := .lst xs) nl'
      have sL := same_upd (o := .lst [vo, V.ref l]) nL
      have el : upd (upd Ha l (.lst xs)) L (.lst [vo, V.ref l]) l = some (.lst xs) := sL _ _ upd_same
      have eL : upd (upd Ha l (.lst xs)) L (.lst [vo, V.ref l]) L = some (.lst [vo, V.ref l]) := upd_same
      have nlp2 := np ba nl'
      have nLp := np (ba.keep sl) nL
      have s2' := sl.trans sL
      have bb := ba.keep s2'
      have hl : DG p S (upd (upd Ha l (.lst xs)) L (.lst [vo, V.ref l])) (.ref l) (.list ds) := .lst nlp2 (hSn _ (keep_free ka0 ba nl')) el (hda.same s2')
      have hvo := ho.same s2'
      show tCall _ _ _ _ _ (upd (upd Ha l (.lst xs)) L (.lst [vo, V.ref l])) _
      have kb := (k02.trans ka).trans (.of s2')
      generalize upd (upd Ha l (.lst xs)) L (.lst [vo, V.ref l]) = Hb at eL bb hl hvo kb ⊢
      refine ⟨.ref p, rfl, p, 2, rfl, bb, by decide, by decide, fun Hc c kc bc c0 c1 => ?_⟩
      have hc : c = 0 ∨ c = 1 := by omega
      rcases hc with rfl | rfl
      · exact ⟨L, _, 0, _, rfl, rfl, SqL.of (kc _ _ nLp eL), atI_nat (j := 0) rfl, q _ _ _ (kb.trans kc) bc (hvo.keep kc bb) (lwo.mono (by omega))⟩
      · exact ⟨L, _, 1, _, rfl, rfl, SqL.of (kc _ _ nLp eL), atI_nat (j := 1) rfl, q _ _ _ (kb.trans kc) bc (hl.keep kc bb) ((LwG.lst lw).mono (by omega))⟩
end
end Th
namespace Th
open PySem PySem.Spec PyProof.Rows L2
theorem one_lt {a b : Nat} (h : ([a] : List Nat) < [b]) : a < b := by
  cases h with
  | rel h' => exact h'
  | cons h' => cases h'
theorem lowers {z : Nm} (h : ∀ c ∈ z, 97 ≤ c ∧ c ≤ 122) : alS "a" "z" (SX.S z) = true := List.all_eq_true.mpr fun c hc => by
  obtain ⟨a, b⟩ := h c hc
  rw [decide_eq_false (fun h => by have := one_lt (b := 97) h; omega), decide_eq_false (fun h => by have := one_lt (a := 122) h; omega)]
  rfl
theorem nm_name {z : Nm} (h : IsNm z) : nameS (SX.S z) = true := by
  obtain ⟨a, b, c⟩ := h
  have al := lowers (z := z) fun x hx => c x hx
  have e : (SX.S z).length = z.length := rfl
  show (decide (1 ≤ (SX.S z).length) && decide ((SX.S z).length ≤ 8) && alS "a" "z" (SX.S z)) = true
  rw [e, decide_eq_true a, decide_eq_true b, al]
  rfl
structure NtF (H : Hp) (r : Addr) (ls : List Str) (sts : List (Str × Str)) (jns : List (Str × List Str)) (tis : List (Str × Str × Str × Int)) : Prop where
  ex : ∃ (lt st jt tt : Addr) (sa ja ta : List Addr), TPl H r [.ref lt, .ref st, .ref jt, .ref tt] ∧ TPl H lt (ls.map V.str) ∧ TPl H st (sa.map V.ref) ∧ Paired (fun a (x : Str × Str) => TPl H a [.str x.1, .str x.2]) sa sts ∧
    TPl H jt (ja.map V.ref) ∧ Paired (fun a (x : Str × List Str) => ∃ b, TPl H a [.str x.1, .ref b] ∧ TPl H b (x.2.map V.str)) ja jns ∧ TPl H tt (ta.map V.ref) ∧ Paired (fun a (x : Str × Str × Str × Int) => TPl H a [.str x.1, .str x.2.1, .str x.2.2.1, .int x.2.2.2]) ta tis
def netD (ls : List Str) (sts : List (Str × Str)) (jns : List (Str × List Str)) (tis : List (Str × Str × Str × Int)) : PyData :=
  .tuple [.tuple (ls.map PyData.str), .tuple (sts.map fun x => .tuple [.str x.1, .str x.2]), .tuple (jns.map fun x => .tuple [.str x.1, .tuple (x.2.map PyData.str)]), .tuple (tis.map fun x => .tuple [.str x.1, .str x.2.1, .str x.2.2.1, .int x.2.2.2])]
structure NsOk (ls : List Str) (sts : List (Str × Str)) (jns : List (Str × List Str)) (tis : List (Str × Str × Str × Int)) : Prop where
  l8 : ls.length ≤ 8
  l16 : sts.length ≤ 16
  l12 : jns.length ≤ 12
  l40 : tis.length ≤ 40
  jl : ∀ x ∈ jns, x.2.length ≤ 8 ∧ x.2 ≠ []
  ln : ∀ z ∈ ls, nameS z = true
  sn : ∀ x ∈ sts, nameS x.1 = true ∧ nameS x.2 = true
  jn : ∀ x ∈ jns, nameS x.1 = true ∧ ∀ z ∈ x.2, nameS z = true
  tn : ∀ x ∈ tis, nameS x.1 = true ∧ nameS x.2.1 = true ∧ nameS x.2.2.1 = true ∧ 1 ≤ x.2.2.2 ∧ x.2.2.2 ≤ 9999
def sOf (x : Nm × Nm) : Str × Str := (SX.S x.1, SX.S x.2)
def jOf (x : Nm × List Nm) : Str × List Str := (SX.S x.1, x.2.map SX.S)
def tOf (t : Ti) : Str × Str × Str × Int := (SX.S t.a, SX.S t.b, SX.S t.ln, (t.ch : Int))
theorem TpF.pl {H : Hp} {a : Addr} {xs : List V} (h : TpF H a xs) : TPl H a xs := let ⟨o, e, _⟩ := h; .inr ⟨o, e⟩
theorem paired_map {α β γ : Type} {f : β → γ} {p : α → γ → Prop} : ∀ {as : List α} {bs : List β}, Paired (fun a b => p a (f b)) as bs → Paired p as (bs.map f)
  | _, _, .nil => .nil
  | _, _, .cons a r => .cons a (paired_map r)
theorem netAt_ntf {H : Hp} {r : Addr} {ls : List Nm} {sts : List (Nm × Nm)} {jns : List (Nm × List Nm)} {tis : List Ti} (h : NetAt H r ls sts jns tis) : NtF H r (ls.map SX.S) (sts.map sOf) (jns.map jOf) (tis.map tOf) := by
  obtain ⟨a, b, c, d, sa, ja, ta, e1, e2, e3, e4, e5, e6, e7, e8⟩ := h
  refine ⟨a, b, c, d, sa, ja, ta, .inl e1, ?_, e3.pl, paired_map (paired_imp e4 fun x _ y e => .inl e), e5.pl, paired_map (paired_imp e6 fun x _ y e => ?_), e7.pl, paired_map (paired_imp e8 fun x _ y e => .inl e)⟩
  · rw [List.map_map]
    exact e2.pl
  · obtain ⟨z, h1, h2⟩ := e
    refine ⟨z, .inl h1, ?_⟩
    show TPl H z ((y.2.map SX.S).map V.str)
    rw [List.map_map]
    exact .inl h2
theorem dfAll_paired {α : Type} {H : Hp} {f : α → PyData} {p : Addr → α → Prop} (h : ∀ a x, p a x → Df H (.ref a) (f x)) : ∀ {sa : List Addr} {l : List α}, Paired p sa l → DfAll H (sa.map V.ref) (l.map f)
  | _, _, .nil => .nil
  | _, _, .cons a r => .cons (h _ _ a) (dfAll_paired h r)
theorem dfAll_strs {H : Hp} : ∀ ws : List Str, DfAll H (ws.map V.str) (ws.map PyData.str)
  | [] => .nil
  | z :: ws => .cons (.str z) (dfAll_strs ws)
theorem ntf_df {H : Hp} {r : Addr} {ls : List Str} {sts : List (Str × Str)} {jns : List (Str × List Str)} {tis : List (Str × Str × Str × Int)} (h : NtF H r ls sts jns tis) : Df H (.ref r) (netD ls sts jns tis) := by
  obtain ⟨lt, st, jt, tt, sa, ja, ta, er, el, es, hs, ej, hj, et, ht⟩ := h.ex
  exact .tup er (.cons (.tup el (dfAll_strs _)) (.cons (.tup es (dfAll_paired (f := fun x : Str × Str => PyData.tuple [.str x.1, .str x.2]) (fun a x p => .tup p (.cons (.str _) (.cons (.str _) .nil))) hs)) (.cons (.tup ej (dfAll_paired (f := fun x : Str × List Str => PyData.tuple [.str x.1, .tuple (x.2.map PyData.str)]) (fun a x p => let ⟨b, h1, h2⟩ := p; .tup h1 (.cons (.str _) (.cons (.tup h2 (dfAll_strs _)) .nil))) hj)) (.cons (.tup et (dfAll_paired (f := fun x : Str × Str × Str × Int => PyData.tuple [.str x.1, .str x.2.1, .str x.2.2.1, .int x.2.2.2]) (fun a x p => .tup p (.cons (.str _) (.cons (.str _) (.cons (.str _) (.cons (.int _) .nil))))) ht)) .nil))))
theorem inc_eq : ∀ {a b : List Nat}, a.Pairwise (· < ·) → b.Pairwise (· < ·) → (∀ x, x ∈ a ↔ x ∈ b) → a = b
  | [], [], _, _, _ => rfl
  | [], y :: b, _, _, h => absurd ((h y).mpr List.mem_cons_self) (by simp)
  | x :: a, [], _, _, h => absurd ((h x).mp List.mem_cons_self) (by simp)
  | x :: a, y :: b, ha, hb, h => by
    obtain ⟨ha1, ha2⟩ := List.pairwise_cons.mp ha
    obtain ⟨hb1, hb2⟩ := List.pairwise_cons.mp hb
    have e : x = y := by
      rcases List.mem_cons.mp ((h x).mp List.mem_cons_self) with e | m
      · exact e
      · have h1 := hb1 x m
        rcases List.mem_cons.mp ((h y).mpr List.mem_cons_self) with e | m2
        · exact e.symm
        · have h2 := ha1 y m2
          omega
    subst e
    rw [inc_eq ha2 hb2 fun z => ⟨fun m => ?_, fun m => ?_⟩]
    · rcases List.mem_cons.mp ((h z).mp (List.mem_cons_of_mem _ m)) with e | m2
      · have := ha1 z m; omega
      · exact m2
    · rcases List.mem_cons.mp ((h z).mpr (List.mem_cons_of_mem _ m)) with e | m2
      · have := hb1 z m; omega
      · exact m2
theorem nd_lenD {α : Type} [DecidableEq α] : ∀ {l d : List α}, l.Nodup → (∀ x ∈ l, x ∈ d) → l.length ≤ d.length
  | [], _, _, _ => Nat.zero_le _
  | x :: l, d, h, s => by
    obtain ⟨h1, h2⟩ := List.nodup_cons.mp h
    have z := nd_lenD (l := l) (d := d.erase x) h2 fun y hy => (List.mem_erase_of_ne (fun e => h1 (by rw [← e]; exact hy))).mpr (s y (List.mem_cons_of_mem _ hy))
    have m := s x List.mem_cons_self
    rw [List.length_erase_of_mem m] at z
    have := List.length_pos_of_mem m
    rw [List.length_cons]
    omega
theorem eqv_strsR : ∀ ss : List Str, PyData.eqv (.tuple (ss.map PyData.str)) (.tuple (ss.map PyData.str)) = true
  | [] => rfl
  | s :: ss => by
    show (PyData.eqv (.str s) (.str s) && PyData.eqv (.tuple (ss.map PyData.str)) (.tuple (ss.map PyData.str))) = true
    rw [eqv_strsR ss, Bool.and_true]
    simp [PyData.eqv]
theorem eqv_strE (a b : Str) : PyData.eqv (.str a) (.str b) = decide (a = b) := by
  rw [Bool.eq_iff_iff]
  simp [PyData.eqv]
theorem strIn_of {ss : List Str} {z : Str} (h : z ∈ ss) : strIn ss (.str z) = true := by
  unfold strIn
  exact List.any_eq_true.mpr ⟨.str z, List.mem_map_of_mem h, by rw [eqv_strE]; exact decide_eq_true rfl⟩
theorem inD_strs (ss : List Str) (z : Str) : inD (ss.map PyData.str) z = decide (z ∈ ss) := by
  unfold inD
  induction ss with
  | nil => rfl
  | cons s ss ih =>
    rw [List.map_cons, List.any_cons, ih, eqv_strE]
    by_cases h : s = z
    · subst h; simp
    · have h' : ¬ z = s := fun e => h e.symm
      simp [h, h']
theorem nmOf_SX (z : Nm) : nmOf (SX.S z) = z := rfl
theorem lkF_of : ∀ {es : List (Nm × List Nm)} {y : Nm} {l : List Nm}, (es.map (·.1)).Nodup → (y, l) ∈ es → lkF es y = some l := fun {es} => by
  refine rev_ind' (p := fun es => ∀ {y : Nm} {l : List Nm}, (es.map (·.1)).Nodup → (y, l) ∈ es → lkF es y = some l) (fun {y l} _ h => (by cases h)) (fun es e ih {y l} nd h => ?_) es
  rw [lkF_snoc]
  rw [List.map_append] at nd
  obtain ⟨n1, _, n3⟩ := List.nodup_append.mp nd
  rcases List.mem_append.mp h with m | m
  · rw [if_neg fun q => n3 _ (List.mem_map_of_mem (f := fun x : Nm × List Nm => x.1) m) _ List.mem_cons_self q]
    exact ih n1 m
  · have e' := List.mem_singleton.mp m
    rw [← e', if_pos rfl]
def Unl (x y : Nm × Nm × Nm) : Prop := ¬ ((x.1 = y.1 ∧ x.2.1 = y.2.1) ∨ (x.1 = y.2.1 ∧ x.2.1 = y.1))
theorem srt2_unl {x y : Nm × Nm × Nm} (h : Unl x y) : srt2 (SX.S x.1) (SX.S x.2.1) ≠ srt2 (SX.S y.1) (SX.S y.2.1) := fun e => h (by
  have c : ∀ {a b c d : Str}, [a, b] = [c, d] → a = c ∧ b = d := fun e => by injection e with e1 e2; injection e2 with e2; exact ⟨e1, e2⟩
  unfold srt2 at e
  split at e <;> split at e <;> obtain ⟨e1, e2⟩ := c e
  · exact .inl ⟨SX.S_inj e2, SX.S_inj e1⟩
  · exact .inr ⟨SX.S_inj e2, SX.S_inj e1⟩
  · exact .inr ⟨SX.S_inj e1, SX.S_inj e2⟩
  · exact .inl ⟨SX.S_inj e1, SX.S_inj e2⟩)
theorem tupD_of {ds : List PyData} {a b : Int} (h1 : a ≤ (ds.length : Int)) (h2 : (ds.length : Int) ≤ b) : tupD (.tuple ds) a b = true := Bool.and_eq_true_iff.mpr ⟨decide_eq_true h1, decide_eq_true h2⟩
theorem all_map {α : Type} {f : α → PyData} {p : PyData → Bool} {l : List α} (h : ∀ x ∈ l, p (f x) = true) : (l.map f).all p = true := List.all_eq_true.mpr fun d hd => by
  obtain ⟨x, hx, rfl⟩ := List.mem_map.mp hd
  exact h x hx
theorem nd_map {α β : Type} {f : α → β} (inj : ∀ x y, f x = f y → x = y) {l : List α} (h : l.Nodup) : (l.map f).Nodup := by
  rw [List.nodup_iff_pairwise_ne] at h ⊢
  rw [List.pairwise_map]
  exact h.imp fun {a b} n e => n (inj a b e)
theorem joined_of {n : Nat} {L : Nat → Nm} (iL : ∀ i j, i < n → j < n → L i = L j → i = j) {js : List Nat} (h1 : js.Pairwise (· < ·)) (h2 : ∀ j ∈ js, j < n) : (((List.range n).map L).map SX.S).filter (inD (((js.map L).map SX.S).map PyData.str)) = (js.map L).map SX.S := by
  have e : (List.range n).filter (fun i => decide (i ∈ js)) = js := inc_eq ((List.pairwise_lt_range).filter _) h1 fun x => by
    rw [List.mem_filter, List.mem_range, decide_eq_true_iff]
    exact ⟨fun h => h.2, fun h => ⟨h2 x h, h⟩⟩
  have e2 : (List.range n).filter (inD (((js.map L).map SX.S).map PyData.str) ∘ (SX.S ∘ L)) = (List.range n).filter fun i => decide (i ∈ js) := by
    refine List.filter_congr fun i hi => ?_
    have hi := List.mem_range.mp hi
    show inD (((js.map L).map SX.S).map PyData.str) (SX.S (L i)) = _
    rw [inD_strs, List.map_map, decide_eq_decide]
    constructor
    · intro h
      obtain ⟨j, hj, ej⟩ := List.mem_map.mp h
      have := iL j i (h2 j hj) hi (SX.S_inj ej)
      rw [← this]
      exact hj
    · exact fun h => List.mem_map_of_mem (f := SX.S ∘ L) h
  rw [List.map_map (l := List.range n), List.filter_map, e2, e, List.map_map (l := js)]
end Th
namespace Th
open PySem PySem.Spec PyProof.Rows L2
variable {S : Addr → Prop}
theorem dgAll_paired {α : Type} {p : Addr} {H : Hp} {f : α → PyData} {g : Addr → α → Prop} (h : ∀ a x, g a x → DG p S H (.ref a) (f x)) : ∀ {sa : List Addr} {l : List α}, Paired g sa l → DGAll p S H (sa.map V.ref) (l.map f)
  | _, _, .nil => .nil
  | _, _, .cons a r => .cons (h _ _ a) (dgAll_paired h r)
theorem dgAll_strs {p : Addr} {H : Hp} : ∀ ws : List Str, DGAll p S H (ws.map V.str) (ws.map PyData.str)
  | [] => .nil
  | z :: ws => .cons (.str z) (dgAll_strs ws)
theorem NtF.tk {H H' : Hp} {r : Addr} {ls : List Str} {sts : List (Str × Str)} {jns : List (Str × List Str)} {tis : List (Str × Str × Str × Int)} (h : NtF H r ls sts jns tis) (k : TKF H H') : NtF H' r ls sts jns tis := by
  obtain ⟨a, b, c, d, sa, ja, ta, e1, e2, e3, e4, e5, e6, e7, e8⟩ := h.ex
  exact ⟨a, b, c, d, sa, ja, ta, e1.tk k, e2.tk k, e3.tk k, paired_imp e4 fun x _ y e => e.tk k, e5.tk k, paired_imp e6 (fun x _ y ⟨z, f1, f2⟩ => ⟨z, f1.tk k, f2.tk k⟩), e7.tk k, paired_imp e8 fun x _ y e => e.tk k⟩
/-- the four tuples of a net, their things -/
structure N4 (p : Addr) (S : Addr → Prop) (H : Hp) (r : Addr) (rows : List (List PyData)) (xa : List Addr) : Prop where
  er : TPl H r (xa.map V.ref)
  at_ : Paired (fun a ds => ∃ xs, TPl H a xs ∧ DGAll p S H xs ds) xa rows
def rowsD4 (ls : List Str) (sts : List (Str × Str)) (jns : List (Str × List Str)) (tis : List (Str × Str × Str × Int)) : List (List PyData) := [ls.map PyData.str, sts.map fun x => .tuple [.str x.1, .str x.2], jns.map fun x => .tuple [.str x.1, .tuple (x.2.map PyData.str)], tis.map fun x => .tuple [.str x.1, .str x.2.1, .str x.2.2.1, .int x.2.2.2]]
theorem n4_of {p : Addr} {H : Hp} {r lt st jt tt : Addr} {sa ja ta : List Addr} {ls : List Str} {sts : List (Str × Str)} {jns : List (Str × List Str)} {tis : List (Str × Str × Str × Int)} (er : TPl H r [.ref lt, .ref st, .ref jt, .ref tt]) (el : TPl H lt (ls.map V.str)) (es : TPl H st (sa.map V.ref)) (hs : Paired (fun a (x : Str × Str) => TPl H a [.str x.1, .str x.2]) sa sts) (ej : TPl H jt (ja.map V.ref)) (hj : Paired (fun a (x : Str × List Str) => ∃ b, TPl H a [.str x.1, .ref b] ∧ TPl H b (x.2.map V.str)) ja jns) (et : TPl H tt (ta.map V.ref)) (ht : Paired (fun a (x : Str × Str × Str × Int) => TPl H a [.str x.1, .str x.2.1, .str x.2.2.1, .int x.2.2.2]) ta tis) : N4 p S H r (rowsD4 ls sts jns tis) [lt, st, jt, tt] :=
  ⟨er, .cons ⟨_, el, dgAll_strs _⟩ (.cons ⟨_, es, dgAll_paired (f := fun x : Str × Str => PyData.tuple [.str x.1, .str x.2]) (fun a x g => .tup g (.cons (.str _) (.cons (.str _) .nil))) hs⟩ (.cons ⟨_, ej, dgAll_paired (f := fun x : Str × List Str => PyData.tuple [.str x.1, .tuple (x.2.map PyData.str)]) (fun a x g => let ⟨b, h1, h2⟩ := g; .tup h1 (.cons (.str _) (.cons (.tup h2 (dgAll_strs _)) .nil))) hj⟩ (.cons ⟨_, et, dgAll_paired (f := fun x : Str × Str × Str × Int => PyData.tuple [.str x.1, .str x.2.1, .str x.2.2.1, .int x.2.2.2]) (fun a x g => .tup g (.cons (.str _) (.cons (.str _) (.cons (.str _) (.cons (.int _) .nil))))) ht⟩ .nil)))⟩
theorem n4_dg {p : Addr} {H : Hp} : ∀ {xa : List Addr} {rows : List (List PyData)}, Paired (fun a ds => ∃ xs, TPl H a xs ∧ DGAll p S H xs ds) xa rows → DGAll p S H (xa.map V.ref) (rows.map PyData.tuple)
  | _, _, .nil => .nil
  | _, _, .cons ⟨_, h1, h2⟩ r => .cons (.tup h1 h2) (n4_dg r)
theorem firsts_of {H : Hp} {sa ja : List Addr} {sts : List (Str × Str)} {jns : List (Str × List Str)} (hs : Paired (fun a (x : Str × Str) => TPl H a [.str x.1, .str x.2]) sa sts) (hj : Paired (fun a (x : Str × List Str) => ∃ b, TPl H a [.str x.1, .ref b] ∧ TPl H b (x.2.map V.str)) ja jns) : Paired (fun a (z : Str) => ∃ rest, TPl H a (.str z :: rest)) (sa ++ ja) (sts.map (·.1) ++ jns.map (·.1)) :=
  paired_append (paired_map (paired_imp hs fun a _ x h => ⟨_, h⟩)) (paired_map (paired_imp hj fun a _ x h => let ⟨b, h1, _⟩ := h; ⟨_, h1⟩))
theorem ok128 : ∀ c ∈ List.range 128, PyData.strOk ⟨#[c]⟩ = true := by decide +kernel
theorem ok_all {z : Str} : PyData.strOk z = true ↔ ∀ c ∈ z.cps.toList, PyData.strOk ⟨#[c]⟩ = true := by
  unfold PyData.strOk
  rw [← Array.all_toList]
  constructor
  · intro h c hc
    rw [← Array.all_toList]
    exact List.all_eq_true.mpr fun d hd => by
      have hd : d ∈ [c] := hd
      rw [List.mem_singleton.mp hd]
      exact List.all_eq_true.mp h c hc
  · intro h
    refine List.all_eq_true.mpr fun c hc => ?_
    have := h c hc
    rw [← Array.all_toList] at this
    exact List.all_eq_true.mp this c (show c ∈ [c] from List.mem_singleton.mpr rfl)
theorem name_sok {z : Str} (h : nameS z = true) : PyData.strOk z = true ∧ z.length ≤ 5000 := by
  refine ⟨ok_all.mpr fun c hc => ok128 c (List.mem_range.mpr ?_), ?_⟩
  · have := (nm_is h).2.2 c hc
    omega
  · unfold nameS at h
    simp only [Bool.and_eq_true, decide_eq_true_eq] at h
    omega
theorem rows_tup {ls : List Str} {sts : List (Str × Str)} {jns : List (Str × List Str)} {tis : List (Str × Str × Str × Int)} (ok : NsOk ls sts jns tis) {i : Nat} {ds : List PyData} (h : (rowsD4 ls sts jns tis)[i]? = some ds) (h0 : 0 < i) : ∀ d ∈ ds, ∃ es, d = .tuple es ∧ es.length ≤ 4 ∧ (i = 2 → ∃ (a : Str) (bs : List Str), es = [.str a, .tuple (bs.map PyData.str)] ∧ bs.length ≤ 8 ∧ ∀ z ∈ bs, PyData.strOk z = true ∧ z.length ≤ 5000) := fun d hd => by
  have hi : i < 4 := (List.getElem?_eq_some_iff.mp h).1
  have : i = 1 ∨ i = 2 ∨ i = 3 := by omega
  rcases this with rfl | rfl | rfl
  · have h := Option.some.inj h
    rw [← h] at hd
    obtain ⟨x, _, rfl⟩ := List.mem_map.mp hd
    exact ⟨_, rfl, by show 2 ≤ 4; decide, fun e => absurd e (by decide)⟩
  · have h := Option.some.inj h
    rw [← h] at hd
    obtain ⟨x, hx, rfl⟩ := List.mem_map.mp hd
    exact ⟨_, rfl, by show 2 ≤ 4; decide, fun _ => ⟨x.1, x.2, rfl, (ok.jl x hx).1, fun z hz => name_sok ((ok.jn x hx).2 z hz)⟩⟩
  · have h := Option.some.inj h
    rw [← h] at hd
    obtain ⟨x, _, rfl⟩ := List.mem_map.mp hd
    exact ⟨_, rfl, by show 4 ≤ 4; decide, fun e => absurd e (by decide)⟩
theorem lw_rows {ls : List Str} {sts : List (Str × Str)} {jns : List (Str × List Str)} {tis : List (Str × Str × Str × Int)} (ok : NsOk ls sts jns tis) : ∀ ds ∈ rowsD4 ls sts jns tis, ds.length ≤ 40 ∧ ∀ d ∈ ds, LwG 2 d ∧ ∀ es, d = .tuple es → ∀ e ∈ es, LwG 1 e := fun ds hd => by
  have nm : ∀ {n : Nat} {z : Str}, nameS z = true → LwG n (.str z) := fun h => .str (name_sok h).1 (name_sok h).2
  unfold rowsD4 at hd
  simp only [List.mem_cons, List.not_mem_nil, or_false] at hd
  have tp : ∀ {es : List PyData}, (∀ e ∈ es, LwG 1 e) → es.length ≤ 4 → LwG 2 (.tuple es) ∧ ∀ es', PyData.tuple es = .tuple es' → ∀ e ∈ es', LwG 1 e := fun h l => ⟨.tup h (by omega), fun es' e => by injection e with e; rw [← e]; exact h⟩
  rcases hd with rfl | rfl | rfl | rfl
  · refine ⟨by rw [List.length_map]; have := ok.l8; omega, fun d hd => ?_⟩
    obtain ⟨z, hz, rfl⟩ := List.mem_map.mp hd
    exact ⟨nm (ok.ln z hz), fun es e => (by cases e)⟩
  · refine ⟨by rw [List.length_map]; have := ok.l16; omega, fun d hd => ?_⟩
    obtain ⟨x, hx, rfl⟩ := List.mem_map.mp hd
    exact tp (LwG.cons (nm (ok.sn x hx).1) (LwG.cons (nm (ok.sn x hx).2) LwG.nil)) (by simp)
  · refine ⟨by rw [List.length_map]; have := ok.l12; omega, fun d hd => ?_⟩
    obtain ⟨x, hx, rfl⟩ := List.mem_map.mp hd
    refine tp (LwG.cons (nm (ok.jn x hx).1) (LwG.cons (.tup (fun e he => ?_) (by rw [List.length_map]; have := (ok.jl x hx).1; omega)) LwG.nil)) (by simp)
    obtain ⟨z, hz, rfl⟩ := List.mem_map.mp he
    exact nm ((ok.jn x hx).2 z hz)
  · refine ⟨by rw [List.length_map]; have := ok.l40; omega, fun d hd => ?_⟩
    obtain ⟨x, hx, rfl⟩ := List.mem_map.mp hd
    obtain ⟨a, b, c, _⟩ := ok.tn x hx
    exact tp (LwG.cons (nm a) (LwG.cons (nm b) (LwG.cons (nm c) (LwG.cons .int LwG.nil)))) (by simp)
section
variable {P : Program} {w : World} {K : PySem.W.Frag} {mg : Str → Option Value} {base : Heap} {k : Nat}
def sp_l_bent : Sp := fun vs H Q _ => ∃ (S : Addr → Prop) (p r : Addr) (ls : List Str) (sts : List (Str × Str)) (jns : List (Str × List Str)) (tis : List (Str × Str × Str × Int)), vs = [.ref p, .ref r] ∧ Bag H p ∧ NtF H r ls sts jns tis ∧ NsOk ls sts jns tis ∧ ls ≠ [] ∧ (∀ a, H a = none → S a) ∧
  ∀ H' v d, Keep p H H' → Bag H' p → DG p S H' v d → LwG 6 d → Q v H'
set_option maxHeartbeats 16000000 in
theorem ok_l_bent (T : Defs K mg) : FnOk P w K mg base CX0 (k + 4) T.a_l_bent T.d_l_bent ["_law_bag_here", "_law_net_here"] sp_l_bent := by
  have G_l_take : FnOk P w K mg base CX0 (k + 3) _ _ _ _ := ok_l_take (k := k + 2) T
  have G_l_turned : FnOk P w K mg base CX0 (k + 3) _ _ _ _ := ok_l_turned (k := k) T
  refine T.F_l_bent.ok sc_l_bent (fun vs H Q E h => ?_) (fun cdv A outer s H vs Q E hr h => ?_)
  · obtain ⟨S, p, r, ls, sts, jns, tis, rfl, _⟩ := h
    rfl
  · obtain ⟨S, p, r, ls, sts, jns, tis, rfl, b, nt, ok, lne, hSn, q⟩ := h
    refine ⟨_, PSs.nox
(pss_cons (ps_set (i := 2) sc_l_bent.nd rfl (.inl rfl) (pe_call G_l_take hr (by rfl) T.g_l_take T.F_l_take.kp T.b_l_take .nil pass0 (pa_cons (pv 0) (pa_cons (pe_int) pa_nil))))
    (pss_cons (ps_set (i := 3) sc_l_bent.nd rfl (.inl rfl) (pe_call G_l_take hr (by rfl) T.g_l_take T.F_l_take.kp T.b_l_take .nil pass0 (pa_cons (pv 0) (pa_cons (pe_int) pa_nil))))
    (pss_cons (ps_set (i := 4) sc_l_bent.nd rfl (.inl rfl) (pe_ix (r := rIxT K) ix_tup (pv 1) (pv 3) (fun _ _ => rfl)))
    (pss_cons (ps_set (i := 5) sc_l_bent.nd rfl (.inl rfl) (pe_op op_cat (pe_callTy call_list_of (by rfl) T.z_list (by decide +kernel) (pa_cons (pe_ix (r := rIxT K) ix_tup (pv 1) (pe_int) (fun _ _ => rfl)) pa_nil)) (pe_lc (own := [("_law_one", 8)]) (g := gName 8) rfl sc_l_bent.nd (pi_tup (pe_op op_catA (pe_ix (r := rIxT K) ix_tup (pv 1) (pe_int) (fun _ _ => rfl)) (pe_ix (r := rIxT K) ix_tup (pv 1) (pe_int) (fun _ _ => rfl)))) (blkOk_by (N := N_l_bent) (sc := defScope s_l_bent) (by decide +kernel)) (fun _ _ _ _ _ => (pg_name (i := 8) sc_l_bent.nd rfl (.inl rfl))) (fun _ _ _ _ _ => pts_nil) (fun _ _ _ _ _ => (pe_ix (r := rIxT K) ix_tup (pv 8) (pe_int) (fun _ _ => rfl))))))
    (pss_cons (ps_if (pt_cmpR op_eq (pv 2) (pe_int) (nomark _))
      (pss_one (ps_ret (pe_call G_l_turned hr (by rfl) T.g_l_turned T.F_l_turned.kp T.b_l_turned .nil pass0 (pa_cons (pv 0) (pa_cons (pv 1) (pa_cons (pv 5) pa_nil))))))
      pss_nil)
    (Evl.pss_cut (ps_if (PW.pt (pw_or (pt_cmpR op_lt (pv 2) (pe_int) (nomark _)) (pw_or1 (pt_cmpR (r := rEqD K) (op_eqD hr.units) (pv 4) (pe_tup pa_nil) (nomark _)))))
      (pss_one (ps_set (i := 4) sc_l_bent.nd rfl (.inl rfl) (pe_call G_l_turned hr (by rfl) T.g_l_turned T.F_l_turned.kp T.b_l_turned .nil pass0 (pa_cons (pv 0) (pa_cons (pv 4) (pa_cons (pv 5) pa_nil))))))
      (pss_one (ps_if (PW.pt (pw_and (pt_cmpR op_lt (pv 2) (pe_int) (nomark _)) (pw_and1 (pt_cmpR op_gt (pv 3) (pe_int) (nomark _)))))
        (pss_cons (ps_set (i := 6) sc_l_bent.nd rfl (.inl rfl) (pe_call G_l_take hr (by rfl) T.g_l_take T.F_l_take.kp T.b_l_take .nil pass0 (pa_cons (pv 0) (pa_cons (pe_callB (r := rLenS K) call_lenS (by rfl) T.z_len (by decide +kernel) (pa_cons (pv 4) pa_nil)) pa_nil))))
        (pss_cons (ps_set (i := 7) sc_l_bent.nd rfl (.inl rfl) (pe_call G_l_turned hr (by rfl) T.g_l_turned T.F_l_turned.kp T.b_l_turned .nil pass0 (pa_cons (pv 0) (pa_cons (pe_ix (r := rIxT K) ix_tup (pv 4) (pv 6) (fun _ _ => rfl)) (pa_cons (pv 5) pa_nil)))))
        (Evl.pss_cut (ps_if (PW.pt (pw_and (pt_cmpR op_eq (pv 3) (pe_int) (nomark _)) (pw_and1 (pt_cmpR op_eq (pv 2) (pe_int) (nomark _)))))
          (pss_one (ps_set (i := 7) sc_l_bent.nd rfl (.inl rfl) (pe_tup (pa_cons (pe_ix (r := rIxT K) ix_tup (pe_ix (r := rIxT K) ix_tup (pv 4) (pv 6) (fun _ _ => rfl)) (pe_int) (fun _ _ => rfl)) (pa_cons (pe_call G_l_turned hr (by rfl) T.g_l_turned T.F_l_turned.kp T.b_l_turned .nil pass0 (pa_cons (pv 0) (pa_cons (pe_ix (r := rIxT K) ix_tup (pe_ix (r := rIxT K) ix_tup (pv 4) (pv 6) (fun _ _ => rfl)) (pe_int) (fun _ _ => rfl)) (pa_cons (pv 5) pa_nil)))) pa_nil)))))
          pss_nil)
        (pss_one (ps_set (i := 4) sc_l_bent.nd rfl (.inl rfl) (pe_op op_catA (pe_op op_catA (pe_slice (r := rSlA K) sl_tupA (pv 4) po_none (po_some (pv 6))) (pe_tup (pa_cons (pv 7) pa_nil))) (pe_slice (r := rSlA K) sl_tupA (pv 4) (po_some (pe_op op_add (pv 6) (pe_int))) po_none)))))))
        pss_nil)))
    (pss_one (ps_ret (pe_op op_catA (pe_op op_catA (pe_slice (r := rSlA K) sl_tupA (pv 1) po_none (po_some (pv 3))) (pe_tup (pa_cons (pv 4) pa_nil))) (pe_slice (r := rSlA K) sl_tupA (pv 1) (po_some (pe_op op_add (pv 3) (pe_int))) po_none))))))))))
      , ?_⟩
    have sz : ∀ {a : Nat}, a ≤ 5000 → a ≤ sizeLine := fun h => Nat.le_of_lt (small5000 h)
    have np : ∀ {Hx : Hp} {a : Addr}, Bag Hx p → Hx a = none → a ≠ p := fun bx nb e => by
      obtain ⟨g, r, e', _⟩ := bx
      rw [e, e'] at nb
      cases nb
    refine ⟨.ref p, rfl, p, 7, rfl, b, by decide, by decide, fun H1 wy k1 b1 w0 w1 => ?_⟩
    refine ⟨.ref p, rfl, p, 4, rfl, b1, by decide, by decide, fun H2 wh k2 b2 h0 h1 => ?_⟩
    have k02 := k1.trans k2
    have nt2 := nt.tk (TKF.keep k02 b)
    clear nt k1 k2 b1
    obtain ⟨wh, rfl⟩ : ∃ xn : Nat, wh = (xn : Int) := ⟨wh.toNat, by omega⟩
    have h4 : wh < 4 := by omega
    obtain ⟨lt, st, jt, tt, sa, ja, ta, er, el, es, hs, ej, hj, et, ht⟩ := nt2.ex
    have n4 := n4_of (S := S) (p := p) er el es hs ej hj et ht
    have fsts := firsts_of hs hj
    have sl := paired_len hs
    have jl := paired_len hj
    obtain ⟨ra, era⟩ : ∃ ra, ([lt, st, jt, tt] : List Addr)[wh]? = some ra := ⟨_, List.getElem?_eq_getElem (show wh < 4 from h4)⟩
    obtain ⟨ds, eds, xs, hra, hds⟩ := paired_get n4.at_ era
    have dsm := lw_rows ok ds (List.mem_of_getElem? eds)
    have dl := hds.len
    have l8 := ok.l8
    have l16 := ok.l16
    have l12 := ok.l12
    refine ⟨.ref r, rfl, .int wh, rfl, r, _, wh, .ref ra, rfl, rfl, n4.er.sq, atI_nat (by rw [List.getElem?_map, era]; rfl), ?_⟩
    -- the names
    refine ⟨.ref r, rfl, r, _, 0, .ref lt, rfl, rfl, er.sq, atI_nat (j := 0) rfl, lt, _, rfl, .inr el.sq, fun N1 nN1 => ?_⟩
    have s1 := same_upd (o := .lst (ls.map V.str)) nN1
    have e1 : upd H2 N1 (.lst (ls.map V.str)) N1 = some (.lst (ls.map V.str)) := upd_same
    refine ⟨.ref r, rfl, r, _, 1, .ref st, rfl, rfl, (er.same s1).sq, atI_nat (j := 1) rfl, .ref r, rfl, r, _, 2, .ref jt, rfl, rfl, (er.same s1).sq, atI_nat (j := 2) rfl, ?_⟩
    refine catT_of (es.same s1) (ej.same s1) (sz (by rw [List.length_map, List.length_map]; omega)) fun c3 H3 s3 h3 => ?_
    rw [← List.map_append] at h3
    have e13 := s3 _ _ e1
    have s13 := s1.trans s3
    refine ⟨c3, rfl, ⟨_, h3.sq⟩, fun C nC => ?_⟩
    have alen : (sa ++ ja).length = sts.length + jns.length := by rw [List.length_append, sl, jl]
    have flen := paired_len fsts
    refine lc_it (walk_tup (xs := (sa ++ ja).map V.ref)) (fun i Hx => Same H3 Hx ∧ Hx C = some (.lst (((sts.map (·.1) ++ jns.map (·.1)).take i).map V.str))) ⟨same_upd nC, upd_same⟩ (fun i Hx _ pv => (h3.same pv.1).sq) (fun i x Hx₀ Hx hi pv yy => ?_) (fun Hx pv => ?_)
    · obtain ⟨rfl, ex⟩ := yy
      obtain ⟨sx, eC⟩ := pv
      rw [List.getElem?_map] at ex
      obtain ⟨u, eu, rfl⟩ := Option.map_eq_some_iff.mp ex
      obtain ⟨z, ez, rest, hz⟩ := paired_get fsts eu
      rw [List.length_map, alen] at hi
      have tk1 : (sts.map (·.1) ++ jns.map (·.1)).take (i + 1) = (sts.map (·.1) ++ jns.map (·.1)).take i ++ [z] := by rw [List.take_add_one, ez]; rfl
      refine ⟨rfl, yes_ ⟨.ref u, rfl, u, _, 0, .str z, rfl, rfl, (hz.same (s13.trans sx)).sq, atI_nat (j := 0) rfl, _, eC, small5000 (by rw [List.length_map, List.length_take]; omega), same_set sx nC, ?_⟩⟩
      rw [upd_same, tk1, List.map_append (l₂ := [z])]
      rfl
    obtain ⟨sx, eC⟩ := pv
    rw [List.length_map, flen, List.take_length] at eC
    have e1x := sx _ _ e13
    refine ⟨N1, C, _, _, rfl, rfl, e1x, eC, sz (by rw [List.length_map, List.length_map, List.length_append, List.length_map, List.length_map]; omega), fun nl nnl => ?_⟩
    have sn := same_upd (o := .lst (ls.map V.str ++ (sts.map (·.1) ++ jns.map (·.1)).map V.str)) nnl
    have s2n := (s13.trans sx).trans sn
    have k0n := k02.trans (.of s2n)
    have bn := b2.keep s2n
    have enl : upd Hx nl (.lst (ls.map V.str ++ (sts.map (·.1) ++ jns.map (·.1)).map V.str)) nl = some (.lst ((ls ++ (sts.map (·.1) ++ jns.map (·.1))).map V.str)) := by rw [upd_same, List.map_append (l₁ := ls)]
    have nlp := np (b2.keep (s13.trans sx)) nnl
    have ern := er.same s2n
    have hran := hra.same s2n
    have hdsn := hds.same s2n
    have n4n : N4 p S (upd Hx nl (.lst (ls.map V.str ++ (sts.map (·.1) ++ jns.map (·.1)).map V.str))) r (rowsD4 ls sts jns tis) [lt, st, jt, tt] := ⟨ern, paired_imp n4.at_ fun _ _ _ h => let ⟨xs, h1, h2⟩ := h; ⟨xs, h1.same s2n, h2.same s2n⟩⟩
    have nmok : ∀ z ∈ ls ++ (sts.map (·.1) ++ jns.map (·.1)), PyData.strOk z = true ∧ z.length ≤ 5000 := fun z hz => by
      rcases List.mem_append.mp hz with h | h
      · exact name_sok (ok.ln z h)
      · rcases List.mem_append.mp h with h | h
        · obtain ⟨x, hx, rfl⟩ := List.mem_map.mp h
          exact name_sok (ok.sn x hx).1
        · obtain ⟨x, hx, rfl⟩ := List.mem_map.mp h
          exact name_sok (ok.jn x hx).1
    have nm1 : 1 ≤ (ls ++ (sts.map (·.1) ++ jns.map (·.1))).length := by
      cases ls with
      | nil => exact absurd rfl lne
      | cons => simp
    have nm2 : (ls ++ (sts.map (·.1) ++ jns.map (·.1))).length ≤ 100 := by
      rw [List.length_append, List.length_append, List.length_map, List.length_map]
      omega
    have rlw := lw_rows ok
    generalize upd Hx nl (.lst (ls.map V.str ++ (sts.map (·.1) ++ jns.map (·.1)).map V.str)) = Hn at k0n bn enl ern hran hdsn n4n ⊢
    generalize ls ++ (sts.map (·.1) ++ jns.map (·.1)) = names at enl nmok nm1 nm2
    clear nt2 er el es hs ej hj et ht n4 fsts hra hds s1 e1 s3 h3 e13 s13 sx eC e1x sn s2n nnl nC k02 b2
    have rt := rows_tup ok eds
    have hSf : ∀ a, Hn a = none → S a := fun a n => hSn a (keep_free k0n bn n)
    have shr : SeqAt.shaped (.tuple ds) = true := (LwG.tup (fun d hd => (dsm.2 d hd).1) (by have := dsm.1; omega)).shaped (by decide)
    have eqn : PyData.eqv (.tuple ds) (.tuple []) = decide (ds = []) := by
      cases ds with
      | nil => rfl
      | cons a b => rfl
    refine ⟨.int wy, rfl, rfl, _, rfl, ite2 (fun _ => ?_) fun _ => ?_⟩
    · refine ⟨.ref p, rfl, .ref r, rfl, .ref nl, rfl, S, p, r, nl, _, _, names, 3, rfl, bn, n4n.er, n4_dg n4n.at_, fun d hd => ?_, by decide, show 4 ≤ 100 by decide, nlp, enl, nmok, nm1, nm2, hSf, fun Hz v d kz bz dg lw => q _ _ _ (k0n.trans kz) bz dg lw⟩
      obtain ⟨es, hes, rfl⟩ := List.mem_map.mp hd
      exact .tup (fun e he => ((rlw es hes).2 e he).1) (by have := (rlw es hes).1; omega)
    -- the rows
    refine ⟨fun σ Hz => ∃ (v : V) (d : PyData) (y6 y7 : Option V), σ = [some (.ref p), some (.ref r), some (.int wy), some (.int wh), some v, some (.ref nl), y6, y7, none] ∧ Keep p Hn Hz ∧ Bag Hz p ∧ DG p S Hz v d ∧ LwG 5 d, ?_, fun σ Hz mid => ?_⟩
    · refine ⟨.int wy, rfl, wy, 3, rfl, rfl, _, rfl, ite2 (fun _ => ?_) fun _ => ?_⟩
      · refine ⟨.ref p, rfl, .ref ra, rfl, .ref nl, rfl, S, p, ra, nl, xs, ds, names, 2, rfl, bn, hran, hdsn, fun d hd => (dsm.2 d hd).1, by decide, by have := dsm.1; omega, nlp, enl, nmok, nm1, nm2, hSf, fun Hz v d kz bz dg lw => ?_⟩
        exact ⟨v, d, _, _, rfl, kz, bz, dg, lw⟩
      · refine ⟨.ref ra, rfl, Nat.zero_le _, fun e0 ne => ?_⟩
        have se := same_upd (o := .tup []) ne
        refine ⟨.tuple ds, .tuple [], .tup (hran.same se).sq (hdsn.same se).df.dp, .tup (SqT.of upd_same) .nil, shr, by decide +kernel, _, rfl, ?_⟩
        rw [eqn]
        have bm := bn.keep se
        have hram := hran.same se
        have hdsm := hdsn.same se
        have enm := se _ _ enl
        have kse := Keep.of (p := p) se
        generalize upd Hn e0 (.tup []) = Hm at bm hram hdsm enm kse ⊢
        by_cases c2 : ds = []
        · rw [decide_eq_true c2]
          refine iteT ⟨.ref p, rfl, .ref ra, rfl, .ref nl, rfl, S, p, ra, nl, xs, ds, names, 2, rfl, bm, hram, hdsm, fun d hd => (dsm.2 d hd).1, by decide, by have := dsm.1; omega, nlp, enm, nmok, nm1, nm2, fun a n => hSf a (keep_free kse bm n), fun Hz v d kz bz dg lw => ?_⟩
          exact ⟨v, d, _, _, rfl, kse.trans kz, bz, dg, lw⟩
        · rw [decide_eq_false c2]
          refine iteF ⟨.int wy, rfl, wy, 7, rfl, rfl, _, rfl, ite2 (fun _ => ?_) fun c => absurd (decide_eq_true w1) c⟩
          refine ⟨.int wh, rfl, wh, 0, rfl, rfl, _, rfl, ite2 (fun c3 => ?_) fun _ => ?_⟩
          rotate_left
          · exact ⟨.ref ra, .tuple ds, _, _, rfl, kse, bm, .tup hram hdsm, LwG.mono (.tup (fun d hd => (dsm.2 d hd).1) (by have := dsm.1; omega)) (by decide)⟩
          have wh0 : 0 < wh := by have := of_decide_eq_true c3; omega
          have dl1 : 1 ≤ ds.length := by
            cases ds with
            | nil => exact absurd rfl c2
            | cons => simp
          refine ⟨.ref p, rfl, .ref ra, rfl, ra, _, rfl, .inr hram.sq, p, _, rfl, bm, by rw [dl]; omega, by have := dsm.1; rw [dl]; omega, fun H5 at_ k5 b5 a0 a1 => ?_⟩
          rw [dl] at a1
          obtain ⟨at_, rfl⟩ : ∃ xn : Nat, at_ = (xn : Int) := ⟨at_.toNat, by omega⟩
          have hra5 := hram.tk (TKF.keep k5 bm)
          have hds5 := hdsm.keep k5 bm
          have en5 := k5 _ _ nlp enm
          obtain ⟨v1, ev⟩ : ∃ v, xs[at_]? = some v := ⟨_, List.getElem?_eq_getElem (by omega)⟩
          obtain ⟨d1, ed, hv⟩ := hds5.get ev
          have dm1 := List.mem_of_getElem? ed
          obtain ⟨es, rfl, es4, junc⟩ := rt wh0 d1 dm1
          obtain ⟨u, us, rfl, eu, hus⟩ := tup_invG hv
          have esl := (dsm.2 _ dm1).2 es rfl
          have usl := hus.len
          refine ⟨.ref p, rfl, .ref ra, rfl, .int at_, rfl, ra, _, at_, .ref u, rfl, rfl, hra5.sq, atI_nat ev, .ref nl, rfl, S, p, u, nl, us, es, names, 1, rfl, b5, eu, hus, esl, by decide, by omega, nlp, en5, nmok, nm1, nm2, fun a n => hSf a (keep_free (kse.trans k5) b5 n), fun H6 v6 d6 k6 b6 dg6 lw6 => ?_⟩
          have k56 := (kse.trans k5).trans k6
          have hra6 := hra5.tk (TKF.keep k6 b5)
          have hds6 := hds5.keep k6 b5
          have en6 := k6 _ _ nlp en5
          refine ⟨fun σ Hz => ∃ (v : V) (d : PyData), σ = [some (.ref p), some (.ref r), some (.int wy), some (.int wh), some (.ref ra), some (.ref nl), some (.int at_), some v, none] ∧ Keep p H6 Hz ∧ Bag Hz p ∧ DG p S Hz v d ∧ LwG 4 d, ?_, fun σ H7 mid => ?_⟩
          · refine ⟨.int wh, rfl, rfl, _, rfl, ite2 (fun c4 => ?_) fun _ => ⟨v6, d6, rfl, .refl _ _, b6, dg6, lw6⟩⟩
            have wh2 : wh = 2 := by
              have : V.int (wh : Int) = V.int 2 := of_decide_eq_true c4
              injection this with this
              omega
            refine ⟨.int wy, rfl, rfl, _, rfl, ite2 (fun _ => ?_) fun _ => ⟨v6, d6, rfl, .refl _ _, b6, dg6, lw6⟩⟩
            obtain ⟨a, bs, rfl, bs8, bsok⟩ := junc wh2
            have eu6 := eu.tk (TKF.keep k6 b5)
            have hus6 := hus.keep k6 b5
            obtain ⟨x1, x2, rfl, hx1, hx2⟩ : ∃ x1 x2, us = [x1, x2] ∧ DG p S H6 x1 (.str a) ∧ DG p S H6 x2 (.tuple (bs.map PyData.str)) := by
              cases hus6 with
              | cons h1 hr =>
                cases hr with
                | cons h2 hr => cases hr; exact ⟨_, _, rfl, h1, h2⟩
            obtain ⟨w', ws', rfl, ew', hw'⟩ := tup_invG hx2
            have wsl := hw'.len
            rw [List.length_map] at wsl
            refine ⟨.ref ra, rfl, .int at_, rfl, ra, _, at_, .ref u, rfl, rfl, hra6.sq, atI_nat ev, u, _, 0, x1, rfl, rfl, eu6.sq, atI_nat (j := 0) rfl, ?_⟩
            refine ⟨.ref p, rfl, .ref ra, rfl, .int at_, rfl, ra, _, at_, .ref u, rfl, rfl, hra6.sq, atI_nat ev, u, _, 1, .ref w', rfl, rfl, eu6.sq, atI_nat (j := 1) rfl, .ref nl, rfl, S, p, w', nl, ws', _, names, 0, rfl, b6, ew', hw', fun d hd => ?_, by decide, by omega, nlp, en6, nmok, nm1, nm2, fun a n => hSf a (keep_free k56 b6 n), fun H7 v7 d7 k7 b7 dg7 lw7 => ⟨two_sz, fun t nt => ?_⟩⟩
            · obtain ⟨z, hz, rfl⟩ := List.mem_map.mp hd
              exact .str (bsok z hz).1 (bsok z hz).2
            have st := same_upd (o := .tup [x1, v7]) nt
            exact ⟨.ref t, .tuple [.str a, d7], rfl, k7.trans (.of st), b7.keep st, .tup (.inl upd_same) (.cons ((hx1.keep k7 b6).same st) (.cons (dg7.same st) .nil)), .tup (LwG.cons (LwG.mono (LwG.mem ((dsm.2 _ dm1).1) _ List.mem_cons_self) (by decide)) (LwG.cons lw7 LwG.nil))⟩
          obtain ⟨v7, d7, rfl, k7, b7, dg7, lw7⟩ := mid
          have hra7 := hra6.tk (TKF.keep k7 b6)
          have hds7 := hds6.keep k7 b6
          have x100 : xs.length ≤ 40 := by have := dsm.1; omega
          have tlen : ∀ m, (xs.take m).length ≤ 40 := fun m => by rw [List.length_take]; omega
          have dlen : ∀ m, (xs.drop m).length ≤ 40 := fun m => by rw [List.length_drop]; omega
          refine ⟨.ref ra, rfl, .int at_, rfl, at_, rfl, ?_⟩
          show rSlA K (.ref ra) none (some (at_ : Int)) _ _
          refine slT_of hra7 fun c1 H8 s8 h8 => ?_
          rw [cutV_pre] at h8
          refine ⟨v7, rfl, one_sz, fun t nt => ?_⟩
          have st := same_upd (o := .tup [v7]) nt
          have et : TPl (upd H8 t (.tup [v7])) t [v7] := .inl upd_same
          have s8t := s8.trans st
          have h8t := h8.same st
          generalize upd H8 t (.tup [v7]) = H9 at et s8t h8t ⊢
          refine catT_of h8t et (sz (by have := tlen at_; show _ + 1 ≤ _; omega)) fun c3 Ha sa ha => ?_
          have s8a := s8t.trans sa
          refine ⟨.ref ra, rfl, .int at_, rfl, at_, 1, rfl, rfl, _, rfl, ?_⟩
          unfold tNoPart
          dsimp only
          refine slT_of (hra7.same s8a) fun c4 Hb sb hb => ?_
          rw [show cutV xs (some ((at_ : Int) + 1)) none = xs.drop (at_ + 1) from cutV_suf xs (at_ + 1)] at hb
          refine catT_of (ha.same sb) hb (sz (by have := tlen at_; have := dlen (at_ + 1); rw [List.length_append]; show _ + 1 + _ ≤ _; omega)) fun c5 Hc sc hc => ?_
          have s8c := (s8a.trans sb).trans sc
          exact ⟨.ref c5, .tuple (ds.take at_ ++ [d7] ++ ds.drop (at_ + 1)), _, _, rfl, (k56.trans k7).trans (.of s8c), b7.keep s8c, .tup hc ((((hds7.take at_).app (.cons dg7 .nil)).app (hds7.drop (at_ + 1))).same s8c), .tup fun x hx => by
            rcases List.mem_append.mp hx with hx | hx
            · rcases List.mem_append.mp hx with hx | hx
              · exact (dsm.2 x (List.mem_of_mem_take hx)).1.mono (by decide)
              · rw [List.mem_singleton.mp hx]; exact lw7
            · exact (dsm.2 x (List.mem_of_mem_drop hx)).1.mono (by decide)⟩
    obtain ⟨v, d, y6, y7, rfl, kz, bz, dg, lw⟩ := mid
    have erz := ern.tk (TKF.keep kz bn)
    have dgz := (n4_dg n4n.at_).keep kz bn
    have wh4 : (([lt, st, jt, tt] : List Addr).map V.ref).length = 4 := rfl
    have tlen : ∀ m, ((([lt, st, jt, tt] : List Addr).map V.ref).take m).length ≤ 4 := fun m => by rw [List.length_take, wh4]; omega
    have dlen : ∀ m, ((([lt, st, jt, tt] : List Addr).map V.ref).drop m).length ≤ 4 := fun m => by rw [List.length_drop, wh4]; omega
    have lw3 : ∀ x ∈ (rowsD4 ls sts jns tis).map PyData.tuple, LwG 5 x := fun x hx => by
      obtain ⟨es, hes, rfl⟩ := List.mem_map.mp hx
      exact LwG.mono (.tup (fun e he => ((rlw es hes).2 e he).1) (by have := (rlw es hes).1; omega)) (by decide)
    have ddl : ((rowsD4 ls sts jns tis).map PyData.tuple).length = 4 := rfl
    have erz : TPl Hz r (([lt, st, jt, tt] : List Addr).map V.ref) := erz
    generalize ([lt, st, jt, tt] : List Addr).map V.ref = rs at erz dgz tlen dlen
    generalize (rowsD4 ls sts jns tis).map PyData.tuple = dd at dgz lw3 ddl
    refine ⟨.ref r, rfl, .int wh, rfl, wh, rfl, ?_⟩
    show rSlA K (.ref r) none (some (wh : Int)) _ _
    refine slT_of erz fun c1 H8 s8 h8 => ?_
    rw [cutV_pre] at h8
    refine ⟨v, rfl, one_sz, fun t nt => ?_⟩
    have st := same_upd (o := .tup [v]) nt
    have et : TPl (upd H8 t (.tup [v])) t [v] := .inl upd_same
    have s8t := s8.trans st
    have h8t := h8.same st
    generalize upd H8 t (.tup [v]) = H9 at et s8t h8t ⊢
    refine catT_of h8t et (sz (by have := tlen wh; show _ + 1 ≤ _; omega)) fun c3 Ha sa ha => ?_
    have s8a := s8t.trans sa
    refine ⟨.ref r, rfl, .int wh, rfl, wh, 1, rfl, rfl, _, rfl, ?_⟩
    unfold tNoPart
    dsimp only
    refine slT_of (erz.same s8a) fun c4 Hb sb hb => ?_
    rw [show cutV rs (some ((wh : Int) + 1)) none = rs.drop (wh + 1) from cutV_suf rs (wh + 1)] at hb
    refine catT_of (ha.same sb) hb (sz (by have := tlen wh; have := dlen (wh + 1); rw [List.length_append]; show _ + 1 + _ ≤ _; omega)) fun c5 Hc sc hc => ?_
    have s8c := (s8a.trans sb).trans sc
    exact q _ _ _ ((k0n.trans kz).trans (.of s8c)) (bz.keep s8c) (.tup hc ((((dgz.take wh).app (.cons dg .nil)).app (dgz.drop (wh + 1))).same s8c)) (.tup (fun x hx => by
      rcases List.mem_append.mp hx with hx | hx
      · rcases List.mem_append.mp hx with hx | hx
        · exact lw3 x (List.mem_of_mem_take hx)
        · rw [List.mem_singleton.mp hx]; exact lw
      · exact lw3 x (List.mem_of_mem_drop hx)))
end
end Th
namespace Th
open PySem PySem.Spec PyProof.Rows L2
variable {S : Addr → Prop}
theorem tpl_uniq {H : Hp} {a : Addr} {xs ys : List V} (h : TPl H a xs) (g : TPl H a ys) : xs = ys := by
  rcases h with h | ⟨o, h⟩ <;> rcases g with g | ⟨o', g⟩ <;> rw [h] at g
  · injection g with g
    injection g
  · cases g
  · cases g
  · injection g with g
    injection g with g1 g2
    injection g2
section
variable {P : Program} {w : World} {K : PySem.W.Frag} {mg : Str → Option Value} {base : Heap} {k : Nat}
def sp_l_twice : Sp := fun vs H Q _ => ∃ (S : Addr → Prop) (p r : Addr) (ls : List Str) (sts : List (Str × Str)) (jns : List (Str × List Str)) (tis : List (Str × Str × Str × Int)), vs = [.ref p, .ref r] ∧ Bag H p ∧ NtF H r ls sts jns tis ∧ NsOk ls sts jns tis ∧ ls ≠ [] ∧ sts ≠ [] ∧
  ∀ H' v d, Keep p H H' → Bag H' p → DG p S H' v d → LwG 6 d → Q v H'
set_option maxHeartbeats 16000000 in
theorem ok_l_twice (T : Defs K mg) : FnOk P w K mg base CX0 (k + 2) T.a_l_twice T.d_l_twice ["_law_bag_here", "_law_net_here"] sp_l_twice := by
  have G_l_take : FnOk P w K mg base CX0 (k + 1) _ _ _ _ := ok_l_take (k := k) T
  refine T.F_l_twice.ok sc_l_twice (fun vs H Q E h => ?_) (fun cdv A outer s H vs Q E hr h => ?_)
  · obtain ⟨S, p, r, ls, sts, jns, tis, rfl, _⟩ := h
    rfl
  · obtain ⟨S, p, r, ls, sts, jns, tis, rfl, b, nt, ok, lne, sne, q⟩ := h
    refine ⟨_, PSs.nox
(pss_cons (ps_asg (pv 1) (pg_tup rfl (pgs_cons (pg_name (i := 2) sc_l_twice.nd rfl (.inl rfl)) (pgs_cons (pg_name (i := 3) sc_l_twice.nd rfl (.inl rfl)) (pgs_cons (pg_name (i := 4) sc_l_twice.nd rfl (.inl rfl)) (pgs_cons (pg_name (i := 5) sc_l_twice.nd rfl (.inl rfl)) pgs_nil))))))
    (pss_cons (ps_setLc (i := 6) (own := [("_law_one", 8)]) (g := gName 8) rfl sc_l_twice.nd rfl rfl (sw_true rfl rfl rfl (by decide +kernel)) (pi_tup (pe_op op_catA (pv 3) (pv 4))) (blkOk_by (N := N_l_twice) (sc := defScope s_l_twice) (by decide +kernel)) (fun _ _ _ _ _ => (pg_name (i := 8) sc_l_twice.nd rfl (.inl rfl))) (fun _ _ _ _ _ => pts_nil) (fun _ _ _ _ _ => (pe_ix (r := rIxT K) ix_tup (pv 8) (pe_int) (fun _ _ => rfl))))
    (pss_cons (ps_set (i := 7) sc_l_twice.nd rfl (.inl rfl) (pe_ix (r := rIxL K) ix_list (pv 6) (pe_call G_l_take hr (by rfl) T.g_l_take T.F_l_take.kp T.b_l_take .nil pass0 (pa_cons (pv 0) (pa_cons (pe_callB (r := rLenS K) call_lenS (by rfl) T.z_len (by decide +kernel) (pa_cons (pv 6) pa_nil)) pa_nil))) (fun _ _ => rfl)))
    (pss_cons (ps_if (pt_cmpR op_eq (pe_call G_l_take hr (by rfl) T.g_l_take T.F_l_take.kp T.b_l_take .nil pass0 (pa_cons (pv 0) (pa_cons (pe_int) pa_nil))) (pe_int) (nomark _))
      (pss_one (ps_ret (pe_tup (pa_cons (pv 2) (pa_cons (pe_op op_catA (pv 3) (pe_tup (pa_cons (pe_tup (pa_cons (pv 7) (pa_cons (pe_ix (r := rIxT K) ix_tup (pv 2) (pe_call G_l_take hr (by rfl) T.g_l_take T.F_l_take.kp T.b_l_take .nil pass0 (pa_cons (pv 0) (pa_cons (pe_callB (r := rLenS K) call_lenS (by rfl) T.z_len (by decide +kernel) (pa_cons (pv 2) pa_nil)) pa_nil))) (fun _ _ => rfl)) pa_nil))) pa_nil))) (pa_cons (pv 4) (pa_cons (pv 5) pa_nil)))))))
      pss_nil)
    (pss_one (ps_ret (pe_tup (pa_cons (pv 2) (pa_cons (pv 3) (pa_cons (pe_op op_catA (pv 4) (pe_tup (pa_cons (pe_tup (pa_cons (pv 7) (pa_cons (pe_slice (r := rSlA K) sl_tupA (pv 2) po_none (po_some (pe_int))) pa_nil))) pa_nil))) (pa_cons (pv 5) pa_nil)))))))))))
      , ?_⟩
    have sz : ∀ {a : Nat}, a ≤ 5000 → a ≤ sizeLine := fun h => Nat.le_of_lt (small5000 h)
    have np : ∀ {Hx : Hp} {a : Addr}, Bag Hx p → Hx a = none → a ≠ p := fun bx nb e => by
      obtain ⟨g, r, e', _⟩ := bx
      rw [e, e'] at nb
      cases nb
    obtain ⟨lt, st, jt, tt, sa, ja, ta, er, el, es, hs, ej, hj, et, ht⟩ := nt.ex
    have n4 := n4_of (S := S) (p := p) er el es hs ej hj et ht
    have fsts := firsts_of hs hj
    have sl := paired_len hs
    have jl := paired_len hj
    have l8 := ok.l8
    have l16 := ok.l16
    have l12 := ok.l12
    have l40 := ok.l40
    have llen : 1 ≤ ls.length := by
      cases ls with
      | nil => exact absurd rfl lne
      | cons => simp
    have slen : 1 ≤ sts.length := by
      cases sts with
      | nil => exact absurd rfl sne
      | cons => simp
    refine ⟨.ref r, rfl, r, _, rfl, er.sq, rfl, _, _, rfl, _, _, rfl, _, _, rfl, _, [], rfl, rfl, ?_⟩
    refine ⟨.ref st, rfl, .ref jt, rfl, ?_⟩
    refine catT_of es ej (sz (by rw [List.length_map, List.length_map]; omega)) fun c3 H3 s3 h3 => ?_
    rw [← List.map_append] at h3
    refine ⟨c3, rfl, ⟨_, h3.sq⟩, fun C nC => ?_⟩
    have alen : (sa ++ ja).length = sts.length + jns.length := by rw [List.length_append, sl, jl]
    have flen := paired_len fsts
    refine lc_it (walk_tup (xs := (sa ++ ja).map V.ref)) (fun i Hx => Same H3 Hx ∧ Hx C = some (.lst (((sts.map (·.1) ++ jns.map (·.1)).take i).map V.str))) ⟨same_upd nC, upd_same⟩ (fun i Hx _ pv => (h3.same pv.1).sq) (fun i x Hx₀ Hx hi pv yy => ?_) (fun Hx pv => ?_)
    · obtain ⟨rfl, ex⟩ := yy
      obtain ⟨sx, eC⟩ := pv
      rw [List.getElem?_map] at ex
      obtain ⟨u, eu, rfl⟩ := Option.map_eq_some_iff.mp ex
      obtain ⟨z, ez, rest, hz⟩ := paired_get fsts eu
      rw [List.length_map, alen] at hi
      have tk1 : (sts.map (·.1) ++ jns.map (·.1)).take (i + 1) = (sts.map (·.1) ++ jns.map (·.1)).take i ++ [z] := by rw [List.take_add_one, ez]; rfl
      refine ⟨rfl, yes_ ⟨.ref u, rfl, u, _, 0, .str z, rfl, rfl, (hz.same (s3.trans sx)).sq, atI_nat (j := 0) rfl, _, eC, small5000 (by rw [List.length_map, List.length_take]; omega), same_set sx nC, ?_⟩⟩
      rw [upd_same, tk1, List.map_append (l₂ := [z])]
      rfl
    obtain ⟨sx, eC⟩ := pv
    rw [List.length_map, flen, List.take_length] at eC
    have s0x := s3.trans sx
    have bx := b.keep s0x
    have nCp := np (b.keep s3) nC
    have plen : (sts.map (·.1) ++ jns.map (·.1)).length = sts.length + jns.length := by rw [List.length_append, List.length_map, List.length_map]
    have plen2 : ((sts.map (·.1) ++ jns.map (·.1)).map V.str).length = sts.length + jns.length := by rw [List.length_map]; exact plen
    refine ⟨.ref C, rfl, .ref p, rfl, .ref C, rfl, C, _, rfl, .inl (SqL.of eC), p, _, rfl, bx, by rw [plen2]; omega, by rw [plen2]; omega, fun H4 c k4 b4 c0 c1 => ?_⟩
    rw [plen2] at c1
    obtain ⟨cn, rfl⟩ : ∃ xn : Nat, c = (xn : Int) := ⟨c.toNat, by omega⟩
    have ex := List.getElem?_eq_getElem (show cn < (sts.map (·.1) ++ jns.map (·.1)).length by omega)
    have zok : PyData.strOk (sts.map (·.1) ++ jns.map (·.1))[cn] = true ∧ ((sts.map (·.1) ++ jns.map (·.1))[cn]).length ≤ 5000 := by
      have hm := List.getElem_mem (show cn < (sts.map (·.1) ++ jns.map (·.1)).length by omega)
      rcases List.mem_append.mp hm with h | h
      · obtain ⟨x, hx, e⟩ := List.mem_map.mp h
        rw [← e]
        exact name_sok (ok.sn x hx).1
      · obtain ⟨x, hx, e⟩ := List.mem_map.mp h
        rw [← e]
        exact name_sok (ok.jn x hx).1
    generalize (sts.map (·.1) ++ jns.map (·.1))[cn] = z at ex zok
    refine ⟨C, _, cn, .str z, rfl, rfl, SqL.of (k4 _ _ nCp eC), atI_nat (by rw [List.getElem?_map, ex]; rfl), ?_⟩
    have k04 := (Keep.of s0x).trans k4
    have tk4 := TKF.keep k04 b
    have el4 := el.tk tk4
    have es4 := es.tk tk4
    have ej4 := ej.tk tk4
    have n4' : N4 p S H4 r (rowsD4 ls sts jns tis) [lt, st, jt, tt] := ⟨n4.er.tk tk4, paired_imp n4.at_ fun _ _ _ h => let ⟨xs, h1, h2⟩ := h; ⟨xs, h1.tk tk4, h2.keep k04 b⟩⟩
    clear nt er el es hs ej hj et ht n4 fsts s3 h3 sx eC s0x bx ex tk4
    refine ⟨.ref p, rfl, p, 2, rfl, b4, by decide, by decide, fun H5 g k5 b5 g0 g1 => ⟨rfl, _, rfl, ite2 (fun _ => ?_) fun _ => ?_⟩⟩
    all_goals
      have tk5 := TKF.keep k5 b4
      have k05 := k04.trans k5
      have el5 := el4.tk tk5
      have es5 := es4.tk tk5
      have ej5 := ej4.tk tk5
      have rlw := lw_rows ok
      have d5 := paired_imp n4'.at_ fun _ _ _ h => let ⟨xs, h1, h2⟩ := h; (⟨xs, h1.tk tk5, h2.keep k5 b4⟩ : ∃ xs, TPl H5 _ xs ∧ DGAll p S H5 xs _)
      have d5 := n4_dg d5
    · have llv : (ls.map V.str).length = ls.length := List.length_map _
      refine ⟨.ref lt, rfl, .ref st, rfl, .str z, rfl, .ref lt, rfl, .ref p, rfl, .ref lt, rfl, lt, _, rfl, .inr el5.sq, p, _, rfl, b5, by rw [llv]; omega, by rw [llv]; omega, fun H6 c k6 b6 c0 c1 => ?_⟩
      rw [llv] at c1
      obtain ⟨cn, rfl⟩ : ∃ xn : Nat, c = (xn : Int) := ⟨c.toNat, by omega⟩
      have ex := List.getElem?_eq_getElem (show cn < ls.length by omega)
      have yok := name_sok (ok.ln _ (List.getElem_mem (show cn < ls.length by omega)))
      generalize ls[cn] = y at ex yok
      have tk6 := TKF.keep k6 b5
      refine ⟨lt, _, cn, .str y, rfl, rfl, (el5.tk tk6).sq, atI_nat (by rw [List.getElem?_map, ex]; rfl), two_sz, fun t1 n1 => ⟨one_sz, fun t2 n2 => ?_⟩⟩
      have s1 := same_upd (o := .tup [V.str z, .str y]) n1
      have s2 := same_upd (o := .tup [V.ref t1]) n2
      have e2 : TPl (upd (upd H6 t1 (.tup [V.str z, .str y])) t2 (.tup [V.ref t1])) t2 [V.ref t1] := .inl upd_same
      have g1 : DG p S (upd (upd H6 t1 (.tup [V.str z, .str y])) t2 (.tup [V.ref t1])) (.ref t1) (.tuple [.str z, .str y]) := .tup (.inl (s2 _ _ upd_same)) (.cons (.str _) (.cons (.str _) .nil))
      have s12 := s1.trans s2
      have lw1 : LwG 2 (.tuple [.str z, .str y]) := .tup (LwG.cons (.str zok.1 zok.2) (LwG.cons (.str yok.1 yok.2) LwG.nil))
      have d6 := (d5.keep k6 b5).same s12
      have es6 := (es5.tk tk6).same s12
      have b7 := b6.keep s12
      have k07 := (k05.trans k6).trans (.of s12)
      show rCatA K (.ref st) (.ref t2) _ _
      generalize upd (upd H6 t1 (.tup [V.str z, .str y])) t2 (.tup [V.ref t1]) = H7 at e2 g1 d6 es6 b7 k07 ⊢
      obtain ⟨sds, hsd, gst⟩ : ∃ sds, DGAll p S H7 (sa.map V.ref) sds ∧ ∀ d ∈ sds, LwG 2 d := by
        obtain ⟨d, ed, hd⟩ := d6.get (i := 1) (x := .ref st) rfl
        have ed : d = .tuple (sts.map fun x => PyData.tuple [.str x.1, .str x.2]) := (Option.some.inj ed).symm
        subst ed
        obtain ⟨u, us, e, h1, h2⟩ := tup_invG hd
        injection e with e
        subst e
        rw [← tpl_uniq es6 h1] at h2
        exact ⟨_, h2, fun d hd => ((rlw (sts.map fun x => PyData.tuple [.str x.1, .str x.2]) (by simp [rowsD4])).2 d hd).1⟩
      have sdl := hsd.len
      rw [List.length_map] at sdl
      refine catT_of es6 e2 (sz (by rw [List.length_map]; show _ + 1 ≤ _; omega)) fun c4 H8 s8 h8 => ?_
      refine ⟨.ref jt, rfl, .ref tt, rfl, by show 4 ≤ sizeLine; rw [sizeLine_eq]; decide, fun t nt => ?_⟩
      have st' := same_upd (o := .tup [V.ref lt, .ref c4, .ref jt, .ref tt]) nt
      have s9 := s8.trans st'
      have d9 := d6.same s9
      refine q _ (.ref t) (.tuple [.tuple (ls.map PyData.str), .tuple (sds ++ [.tuple [.str z, .str y]]), .tuple (jns.map fun x => .tuple [.str x.1, .tuple (x.2.map PyData.str)]), .tuple (tis.map fun x => .tuple [.str x.1, .str x.2.1, .str x.2.2.1, .int x.2.2.2])]) (k07.trans (.of s9)) (b7.keep s9) ?_ ?_
      · obtain ⟨d0, ed0, hd0⟩ := d9.get (i := 0) (x := .ref lt) rfl
        obtain ⟨d2, ed2, hd2⟩ := d9.get (i := 2) (x := .ref jt) rfl
        obtain ⟨d3, ed3, hd3⟩ := d9.get (i := 3) (x := .ref tt) rfl
        have ed0 := Option.some.inj ed0
        have ed2 := Option.some.inj ed2
        have ed3 := Option.some.inj ed3
        subst ed0 ed2 ed3
        exact .tup (.inl upd_same) (.cons hd0 (.cons (.tup (h8.same st') ((hsd.app (.cons g1 .nil)).same s9)) (.cons hd2 (.cons hd3 .nil))))
      · have row : ∀ ds ∈ rowsD4 ls sts jns tis, LwG 5 (.tuple ds) := fun ds h => LwG.mono (.tup (fun e he => ((rlw ds h).2 e he).1) (by have := (rlw ds h).1; omega)) (by decide)
        exact .tup (LwG.cons (row _ (by simp [rowsD4])) (LwG.cons (LwG.mono (.tup (n := 2) fun x hx => (List.mem_append.mp hx).elim (gst x) fun h => by rw [List.mem_singleton.mp h]; exact lw1) (by decide)) (LwG.cons (row _ (by simp [rowsD4])) (LwG.cons (row _ (by simp [rowsD4])) LwG.nil))))
    · refine ⟨.ref lt, rfl, .ref st, rfl, .ref jt, rfl, .str z, rfl, .ref lt, rfl, 2, rfl, ?_⟩
      show rSlA K (.ref lt) none (some ((2 : Nat) : Int)) _ _
      refine slT_of el5 fun c1 H6 s6 h6 => ?_
      rw [cutV_pre, ← List.map_take] at h6
      refine ⟨two_sz, fun t1 n1 => ⟨one_sz, fun t2 n2 => ?_⟩⟩
      have s1 := same_upd (o := .tup [V.str z, .ref c1]) n1
      have s2 := same_upd (o := .tup [V.ref t1]) n2
      have e2 : TPl (upd (upd H6 t1 (.tup [V.str z, .ref c1])) t2 (.tup [V.ref t1])) t2 [V.ref t1] := .inl upd_same
      have s12 := s1.trans s2
      have g1 : DG p S (upd (upd H6 t1 (.tup [V.str z, .ref c1])) t2 (.tup [V.ref t1])) (.ref t1) (.tuple [.str z, .tuple ((ls.take 2).map PyData.str)]) := .tup (.inl (s2 _ _ upd_same)) (.cons (.str _) (.cons (.tup (h6.same s12) (dgAll_strs _)) .nil))
      have lw1 : LwG 2 (.tuple [.str z, .tuple ((ls.take 2).map PyData.str)]) := .tup (LwG.cons (.str zok.1 zok.2) (LwG.cons (.tup fun d hd => by
        obtain ⟨y, hy, rfl⟩ := List.mem_map.mp hd
        have := name_sok (ok.ln y (List.mem_of_mem_take hy))
        exact .str this.1 this.2) LwG.nil))
      have s612 := s6.trans s12
      have d6 := d5.same s612
      have ej6 := ej5.same s612
      have b7 := b5.keep s612
      have k07 := k05.trans (.of s612)
      show rCatA K (.ref jt) (.ref t2) _ _
      generalize upd (upd H6 t1 (.tup [V.str z, .ref c1])) t2 (.tup [V.ref t1]) = H7 at e2 g1 d6 ej6 b7 k07 ⊢
      obtain ⟨sds, hsd, gst⟩ : ∃ sds, DGAll p S H7 (ja.map V.ref) sds ∧ ∀ d ∈ sds, LwG 2 d := by
        obtain ⟨d, ed, hd⟩ := d6.get (i := 2) (x := .ref jt) rfl
        have ed : d = .tuple (jns.map fun x => PyData.tuple [.str x.1, .tuple (x.2.map PyData.str)]) := (Option.some.inj ed).symm
        subst ed
        obtain ⟨u, us, e, h1, h2⟩ := tup_invG hd
        injection e with e
        subst e
        rw [← tpl_uniq ej6 h1] at h2
        exact ⟨_, h2, fun d hd => ((rlw (jns.map fun x => PyData.tuple [.str x.1, .tuple (x.2.map PyData.str)]) (by simp [rowsD4])).2 d hd).1⟩
      have sdl := hsd.len
      rw [List.length_map] at sdl
      refine catT_of ej6 e2 (sz (by rw [List.length_map]; show _ + 1 ≤ _; omega)) fun c4 H8 s8 h8 => ?_
      refine ⟨.ref tt, rfl, by show 4 ≤ sizeLine; rw [sizeLine_eq]; decide, fun t nt => ?_⟩
      have st' := same_upd (o := .tup [V.ref lt, .ref st, .ref c4, .ref tt]) nt
      have s9 := s8.trans st'
      have d9 := d6.same s9
      refine q _ (.ref t) (.tuple [.tuple (ls.map PyData.str), .tuple (sts.map fun x => .tuple [.str x.1, .str x.2]), .tuple (sds ++ [.tuple [.str z, .tuple ((ls.take 2).map PyData.str)]]), .tuple (tis.map fun x => .tuple [.str x.1, .str x.2.1, .str x.2.2.1, .int x.2.2.2])]) (k07.trans (.of s9)) (b7.keep s9) ?_ ?_
      · obtain ⟨d0, ed0, hd0⟩ := d9.get (i := 0) (x := .ref lt) rfl
        obtain ⟨d2, ed2, hd2⟩ := d9.get (i := 1) (x := .ref st) rfl
        obtain ⟨d3, ed3, hd3⟩ := d9.get (i := 3) (x := .ref tt) rfl
        have ed0 := Option.some.inj ed0
        have ed2 := Option.some.inj ed2
        have ed3 := Option.some.inj ed3
        subst ed0 ed2 ed3
        exact .tup (.inl upd_same) (.cons hd0 (.cons hd2 (.cons (.tup (h8.same st') ((hsd.app (.cons g1 .nil)).same s9)) (.cons hd3 .nil))))
      · have row : ∀ ds ∈ rowsD4 ls sts jns tis, LwG 5 (.tuple ds) := fun ds h => LwG.mono (.tup (fun e he => ((rlw ds h).2 e he).1) (by have := (rlw ds h).1; omega)) (by decide)
        exact .tup (LwG.cons (row _ (by simp [rowsD4])) (LwG.cons (row _ (by simp [rowsD4])) (LwG.cons (LwG.mono (.tup (n := 2) fun x hx => (List.mem_append.mp hx).elim (gst x) fun h => by rw [List.mem_singleton.mp h]; exact lw1) (by decide)) (LwG.cons (row _ (by simp [rowsD4])) LwG.nil))))
end
end Th
namespace Th
open PySem PySem.Spec PyProof.Rows L2
variable {S : Addr → Prop}
mutual
def tuD : PyData → Bool
  | .list _ => false
  | .dict _ => false
  | .tuple ds => tuAll ds
  | _ => true
def tuAll : List PyData → Bool
  | [] => true
  | d :: ds => tuD d && tuAll ds
end
theorem tuAll_iff : ∀ {ds : List PyData}, tuAll ds = true ↔ ∀ d ∈ ds, tuD d = true
  | [] => ⟨fun _ _ h => (by cases h), fun _ => rfl⟩
  | d :: ds => by
    show (tuD d && tuAll ds) = true ↔ _
    rw [Bool.and_eq_true, tuAll_iff (ds := ds)]
    simp
mutual
theorem DG.tu {p : Addr} {H H' : Hp} (ht : ∀ a xs, TPl H a xs → TPl H' a xs) : ∀ {v : V} {d : PyData}, DG p S H v d → tuD d = true → DG p S H' v d
  | _, _, .non, _ => .non
  | _, _, .bl b, _ => .bl b
  | _, _, .int b, _ => .int b
  | _, _, .str b, _ => .str b
  | _, _, .lst _ _ _ _, h => by simp [tuD] at h
  | _, _, .tup e r, h => .tup (ht _ _ e) (DGAll.tu ht r (by simpa [tuD] using h))
theorem DGAll.tu {p : Addr} {H H' : Hp} (ht : ∀ a xs, TPl H a xs → TPl H' a xs) : ∀ {v : List V} {d : List PyData}, DGAll p S H v d → tuAll d = true → DGAll p S H' v d
  | _, _, .nil, _ => .nil
  | _, _, .cons a r, h => by
    simp only [tuAll, Bool.and_eq_true] at h
    exact .cons (DG.tu ht a h.1) (DGAll.tu ht r h.2)
end
theorem tpl_upd {H : Hp} {C : Addr} {ys : List V} {o : HO} (e : H C = some (.lst ys)) : ∀ a xs, TPl H a xs → TPl (upd H C o) a xs := fun a xs h => by
  have n : a ≠ C := fun z => by
    rw [z] at h
    rcases h with h | ⟨o', h⟩ <;> rw [e] at h <;> cases h
  exact h.elim (fun h => .inl (by rw [upd_ne n]; exact h)) fun ⟨o', h⟩ => .inr ⟨o', by rw [upd_ne n]; exact h⟩
def ltr (k : Nat) : Str := ⟨#[97 + k]⟩
theorem ltr_ok : ∀ k ∈ List.range 17, (PyData.strOk (("l" : Str) ++ ltr k) = true ∧ (("l" : Str) ++ ltr k).length ≤ 5000) ∧ (PyData.strOk (("s" : Str) ++ ltr k) = true ∧ (("s" : Str) ++ ltr k).length ≤ 5000) ∧ PyData.strOk (("j" : Str) ++ ltr k) = true ∧ (("j" : Str) ++ ltr k).length ≤ 5000 := by decide +kernel
theorem ltr_at : ∀ k ∈ List.range 17, ("abcdefghijklmnopq" : Str).cps.toList[k]? = some (97 + k) := by decide +kernel
theorem one_l {c : Nat} : ("l" : Str).length + (⟨#[c]⟩ : Str).length ≤ sizeLine := by
  show ("l" : Str).length + 1 ≤ sizeLine
  rw [sizeLine_eq]
  decide +kernel
theorem one_s {c : Nat} : ("s" : Str).length + (⟨#[c]⟩ : Str).length ≤ sizeLine := by
  show ("s" : Str).length + 1 ≤ sizeLine
  rw [sizeLine_eq]
  decide +kernel
theorem one_j {c : Nat} : ("j" : Str).length + (⟨#[c]⟩ : Str).length ≤ sizeLine := by
  show ("j" : Str).length + 1 ≤ sizeLine
  rw [sizeLine_eq]
  decide +kernel
theorem abc17 : ("abcdefghijklmnopq" : Str).length ≤ sizeLine := by
  rw [sizeLine_eq]
  decide +kernel
/-- a list of things under way -/
structure Lst (p : Addr) (S : Addr → Prop) (Hx : Hp) (C : Addr) (i : Nat) : Prop where
  ex : ∃ xs ds, Hx C = some (.lst xs) ∧ DGAll p S Hx xs ds ∧ (∀ d ∈ ds, LwG 2 d ∧ tuD d = true) ∧ xs.length = i
theorem Lst.nil {p C : Addr} {Hx : Hp} (e : Hx C = some (.lst [])) : Lst p S Hx C 0 := ⟨[], [], e, .nil, fun _ h => (by cases h), rfl⟩
theorem Lst.same {p C : Addr} {Hx Hy : Hp} {i : Nat} (h : Lst p S Hx C i) (s : Same Hx Hy) : Lst p S Hy C i := let ⟨xs, ds, a, b, c, d⟩ := h.ex; ⟨xs, ds, s _ _ a, b.same s, c, d⟩
theorem Lst.put {p C : Addr} {Hx : Hp} {i : Nat} (h : Lst p S Hx C i) {v : V} {d : PyData} (g : DG p S Hx v d) (lw : LwG 2 d) (tu : tuD d = true) : ∃ xs, Hx C = some (.lst xs) ∧ xs.length = i ∧ Lst p S (upd Hx C (.lst (xs ++ [v]))) C (i + 1) := by
  obtain ⟨xs, ds, a, b, c, e⟩ := h.ex
  have k := tpl_upd (o := .lst (xs ++ [v])) a
  refine ⟨xs, a, e, xs ++ [v], ds ++ [d], upd_same, (b.tu k (tuAll_iff.mpr fun x hx => (c x hx).2)).app (.cons (g.tu k tu) .nil), fun x hx => ?_, by rw [List.length_append, e]; rfl⟩
  rcases List.mem_append.mp hx with h | h
  · exact c x h
  · rw [List.mem_singleton.mp h]; exact ⟨lw, tu⟩
theorem Lst.cat {p C E : Addr} {Hx : Hp} {i j : Nat} (h : Lst p S Hx C i) (g : Lst p S Hx E j) : ∃ xs zs, Hx C = some (.lst xs) ∧ Hx E = some (.lst zs) ∧ xs.length = i ∧ zs.length = j ∧ Lst p S (upd Hx C (.lst (xs ++ zs))) C (i + j) := by
  obtain ⟨xs, ds, a, b, c, e⟩ := h.ex
  obtain ⟨zs, es, a', b', c', e'⟩ := g.ex
  have k := tpl_upd (o := .lst (xs ++ zs)) a
  refine ⟨xs, zs, a, a', e, e', xs ++ zs, ds ++ es, upd_same, (b.tu k (tuAll_iff.mpr fun x hx => (c x hx).2)).app (b'.tu k (tuAll_iff.mpr fun x hx => (c' x hx).2)), fun x hx => (List.mem_append.mp hx).elim (c x) (c' x), by rw [List.length_append, e, e']⟩
section
variable {P : Program} {w : World} {K : PySem.W.Frag} {mg : Str → Option Value} {base : Heap} {k : Nat}
def sp_l_full : Sp := fun vs H Q _ => ∃ (S : Addr → Prop) (p : Addr), vs = [.ref p] ∧ Bag H p ∧ ∀ H' v d, Keep p H H' → Bag H' p → DG p S H' v d → LwG 6 d → Q v H'
set_option maxHeartbeats 16000000 in
theorem ok_l_full (T : Defs K mg) : FnOk P w K mg base CX0 (k + 2) T.a_l_full T.d_l_full ["_law_bag_here"] sp_l_full := by
  have G_l_take : FnOk P w K mg base CX0 (k + 1) _ _ _ _ := ok_l_take (k := k) T
  refine T.F_l_full.ok sc_l_full (fun vs H Q E h => ?_) (fun cdv A outer s H vs Q E hr h => ?_)
  · obtain ⟨S, p, rfl, _⟩ := h
    rfl
  · obtain ⟨S, p, rfl, b, q⟩ := h
    refine ⟨_, PSs.nox
(pss_cons (ps_setLc (i := 1) (own := [("_law_k", 7)]) (g := gName 7) rfl sc_l_full.nd rfl rfl (sw_true rfl rfl rfl (by decide +kernel)) (pi_range1 (by rfl) T.z_range (pa_cons (pe_int) pa_nil)) (blkOk_by (N := N_l_full) (sc := defScope s_l_full) (by decide +kernel)) (fun _ _ _ _ _ => (pg_name (i := 7) sc_l_full.nd rfl (.inl rfl))) (fun _ _ _ _ _ => pts_nil) (fun _ _ _ _ _ => (pe_callTy call_int1 (by rfl) T.z_int (by decide +kernel) (pa_cons (pe_cmpR op_eq (pe_call G_l_take hr (by rfl) T.g_l_take T.F_l_take.kp T.b_l_take .nil pass0 (pa_cons (pv 0) (pa_cons (pe_int) pa_nil))) (pe_int) (nomark _)) pa_nil))))
    (pss_cons (ps_set (i := 2) sc_l_full.nd rfl (.inr rfl) (pe_str))
    (pss_cons (ps_set (i := 3) sc_l_full.nd rfl (.inr rfl) (pe_callTy call_tuple_of (by rfl) T.z_tuple (by decide +kernel) (pa_cons (pe_lc (own := [("_law_k", 7)]) (g := gName 7) rfl sc_l_full.nd (pi_range1 (by rfl) T.z_range (pa_cons (pe_op op_add (pe_int) (pe_ix (r := rIxL K) ix_list (pv 1) (pe_int) (fun _ _ => rfl))) pa_nil)) (blkOk_by (N := N_l_full) (sc := defScope s_l_full) (by decide +kernel)) (fun _ _ _ _ _ => (pg_name (i := 7) sc_l_full.nd rfl (.inl rfl))) (fun _ _ _ _ _ => pts_nil) (fun _ _ _ _ _ => (pe_op op_add_str (pe_str) (pe_ix ix_str (pv 2) (pv 7) (fun _ _ => rfl))))) pa_nil)))
    (pss_cons (ps_set (i := 4) sc_l_full.nd rfl (.inl rfl) (pe_callTy call_tuple_of (by rfl) T.z_tuple (by decide +kernel) (pa_cons (pe_lc (own := [("_law_k", 7)]) (g := gName 7) rfl sc_l_full.nd (pi_range1 (by rfl) T.z_range (pa_cons (pe_op op_add (pe_int) (pe_ix (r := rIxL K) ix_list (pv 1) (pe_int) (fun _ _ => rfl))) pa_nil)) (blkOk_by (N := N_l_full) (sc := defScope s_l_full) (by decide +kernel)) (fun _ _ _ _ _ => (pg_name (i := 7) sc_l_full.nd rfl (.inl rfl))) (fun _ _ _ _ _ => pts_nil) (fun _ _ _ _ _ => (pe_tup (pa_cons (pe_op op_add_str (pe_str) (pe_ix ix_str (pv 2) (pv 7) (fun _ _ => rfl))) (pa_cons (pe_str) pa_nil))))) pa_nil)))
    (pss_cons (ps_set (i := 5) sc_l_full.nd rfl (.inl rfl) (pe_callTy call_tuple_of (by rfl) T.z_tuple (by decide +kernel) (pa_cons (pe_lc (own := [("_law_k", 7)]) (g := gName 7) rfl sc_l_full.nd (pi_range1 (by rfl) T.z_range (pa_cons (pe_op op_add (pe_int) (pe_ix (r := rIxL K) ix_list (pv 1) (pe_int) (fun _ _ => rfl))) pa_nil)) (blkOk_by (N := N_l_full) (sc := defScope s_l_full) (by decide +kernel)) (fun _ _ _ _ _ => (pg_name (i := 7) sc_l_full.nd rfl (.inl rfl))) (fun _ _ _ _ _ => pts_nil) (fun _ _ _ _ _ => (pe_tup (pa_cons (pe_op op_add_str (pe_str) (pe_ix ix_str (pv 2) (pv 7) (fun _ _ => rfl))) (pa_cons (pe_slice (r := rSlA K) sl_tupA (pv 3) po_none (po_some (pe_op op_add (pe_int) (pe_op op_mod (pv 7) (pe_int))))) pa_nil))))) pa_nil)))
    (pss_cons (ps_set (i := 6) sc_l_full.nd rfl (.inl rfl) (pe_lst pa_nil))
    (pss_cons (ps_for PassesOwn.never rfl (pi_range1 (by rfl) T.z_range (pa_cons (pe_int) pa_nil)) (pg_name (i := 7) sc_l_full.nd rfl (.inr rfl))
      (pss_one (ps_expr (pe_bm PySem.F.plainAttrs_list PySem.F.slot_list_extend PySem.F.type_list_extend mt_extend (pv 6) (pa_cons (pe_lc (own := [("_law_other", 8)]) (g := gName 8) rfl sc_l_full.nd (pi_range1 (by rfl) T.z_range (pa_cons (pv 7) pa_nil)) (blkOk_by (N := N_l_full) (sc := defScope s_l_full) (by decide +kernel)) (fun _ _ _ _ _ => (pg_name (i := 8) sc_l_full.nd rfl (.inl rfl))) (fun _ _ _ _ _ => pts_nil) (fun _ _ _ _ _ => (pe_tup (pa_cons (pe_op op_add_str (pe_str) (pe_ix ix_str (pv 2) (pv 7) (fun _ _ => rfl))) (pa_cons (pe_op op_add_str (pe_str) (pe_ix ix_str (pv 2) (pv 8) (fun _ _ => rfl))) (pa_cons (pe_str) (pa_cons (pe_op op_add (pe_int) (pe_op op_mul (pe_int) (pe_op op_mod (pv 7) (pe_int)))) pa_nil))))))) pa_nil)))))
    (pss_one (ps_ret (pe_tup (pa_cons (pv 3) (pa_cons (pv 4) (pa_cons (pv 5) (pa_cons (pe_callTy call_tuple_of (by rfl) T.z_tuple (by decide +kernel) (pa_cons (pe_slice sl_list (pv 6) po_none (po_some (pe_op op_add (pe_int) (pe_ix (r := rIxL K) ix_list (pv 1) (pe_int) (fun _ _ => rfl))))) pa_nil)) pa_nil))))))))))))))
      , ?_⟩
    have sz : ∀ {a : Nat}, a ≤ 5000 → a ≤ sizeLine := fun h => Nat.le_of_lt (small5000 h)
    have np : ∀ {Hx : Hp} {a : Addr}, Bag Hx p → Hx a = none → a ≠ p := fun bx nb e => by
      obtain ⟨g, r, e', _⟩ := bx
      rw [e, e'] at nb
      cases nb
    refine ⟨4, rfl, by decide, by decide, fun M nM => ?_⟩
    have nMp := np b nM
    refine lc_it (walk_range (lo := 0) (n := 4)) (fun i Hx => Keep p H Hx ∧ Bag Hx p ∧ ∃ ms : List Nat, ms.length = i ∧ (∀ m ∈ ms, m ≤ 1) ∧ Hx M = some (.lst (ms.map fun m => V.int (m : Nat)))) ⟨.of (same_upd nM), b.keep (same_upd nM), [], rfl, fun m hm => (by cases hm), upd_same⟩ (fun _ _ _ _ => trivial) (fun i v Hx Hx' hi pv y => ?_) (fun H1 pv => ?_)
    · obtain ⟨rfl, rfl⟩ := y
      obtain ⟨kx, bx, ms, ml, m1, eM⟩ := pv
      refine ⟨rfl, yes_ ⟨.ref p, rfl, p, 6, rfl, bx, by decide, by decide, fun H2 c k2 b2 c0 c1 => ?_⟩⟩
      have e2 := k2 _ _ nMp eM
      refine ⟨rfl, .inr ⟨_, rfl, _, e2, small5000 (by rw [List.length_map]; omega), (kx.trans k2).set nM, b2.at (upd_ne nMp.symm), ms ++ [if decide (V.int c = V.int 0) = true then 1 else 0], by rw [List.length_append, ml]; rfl, fun m hm => ?_, ?_⟩⟩
      · rcases List.mem_append.mp hm with h | h
        · exact m1 m h
        · rw [List.mem_singleton.mp h]
          split <;> omega
      · rw [upd_same, List.map_append]
        have e : V.int (if decide (V.int c = V.int 0) = true then 1 else 0) = V.int ((if decide (V.int c = V.int 0) = true then 1 else 0 : Nat) : Int) := by split <;> rfl
        rw [e]
        rfl
    obtain ⟨k1, b1, ms, ml, m1, eM⟩ := pv
    obtain ⟨m0, m1', m2, m3, rfl⟩ : ∃ a b c d, ms = [a, b, c, d] := by
      match ms, ml with
      | [a, b, c, d], _ => exact ⟨a, b, c, d, rfl⟩
    have q0 := m1 m0 (by simp)
    have q1 := m1 m1' (by simp)
    have q2 := m1 m2 (by simp)
    have q3 := m1 m3 (by simp)
    clear nM ml m1
    -- the lines
    refine ⟨.ref M, rfl, M, _, 0, .int (m0 : Nat), rfl, rfl, SqL.of eM, atI_nat (j := 0) rfl, 8, (m0 : Nat), rfl, rfl, ?_⟩
    refine ⟨(8 + m0 : Nat), by show [V.int (8 + (m0 : Int))] = _; rw [show (8 + (m0 : Int)) = ((8 + m0 : Nat) : Int) by omega], by omega, by omega, fun C nC => ?_⟩
    rw [Int.toNat_natCast]
    refine lc_it (walk_range (lo := 0) (n := 8 + m0)) (fun i Hx => Same H1 Hx ∧ Hx C = some (.lst (((List.range i).map fun j => ("l" : Str) ++ ltr j).map V.str))) ⟨same_upd nC, upd_same⟩ (fun _ _ _ _ => trivial) (fun i v Hx Hx' hi pv y => ?_) (fun H2 pv => ?_)
    · obtain ⟨rfl, rfl⟩ := y
      obtain ⟨sx, eC⟩ := pv
      have hl := ltr_ok i (List.mem_range.mpr (by omega))
      refine ⟨rfl, yes_ ⟨.str "abcdefghijklmnopq", rfl, .int (0 + (i : Int)), rfl, "abcdefghijklmnopq", (i : Int), 97 + i, rfl, by rw [Int.zero_add], by rw [sizeLine_eq]; decide +kernel, atI_nat (ltr_at i (List.mem_range.mpr (by omega))), _, _, rfl, rfl, one_l, ?_⟩⟩
      refine ⟨_, eC, small5000 (by rw [List.length_map, List.length_map, List.length_range]; omega), same_set sx nC, ?_⟩
      rw [upd_same, List.range_succ, List.map_append (f := fun j => ("l" : Str) ++ ltr j), List.map_append (f := V.str)]
      rfl
    obtain ⟨s2, eC⟩ := pv
    refine ⟨C, _, rfl, .inl ⟨SqL.of eC, fun lt nlt => ?_⟩⟩
    have slt := same_upd (o := .tup (((List.range (8 + m0)).map fun j => ("l" : Str) ++ ltr j).map V.str)) nlt
    have elt : TPl (upd H2 lt (.tup (((List.range (8 + m0)).map fun j => ("l" : Str) ++ ltr j).map V.str))) lt (((List.range (8 + m0)).map fun j => ("l" : Str) ++ ltr j).map V.str) := .inl upd_same
    have s12 := s2.trans slt
    have k2 := k1.trans (.of s12)
    have b2 := b1.keep s12
    have eM2 := s12 _ _ eM
    show gName 3 _ _ (upd H2 lt (.tup (((List.range (8 + m0)).map fun j => ("l" : Str) ++ ltr j).map V.str))) _
    generalize upd H2 lt (.tup (((List.range (8 + m0)).map fun j => ("l" : Str) ++ ltr j).map V.str)) = H3 at elt k2 b2 eM2 ⊢
    have lls : ∀ z ∈ (List.range (8 + m0)).map fun j => ("l" : Str) ++ ltr j, PyData.strOk z = true ∧ z.length ≤ 5000 := fun z hz => by
      obtain ⟨j, hj, rfl⟩ := List.mem_map.mp hz
      exact (ltr_ok j (List.mem_range.mpr (by have := List.mem_range.mp hj; omega))).1
    have llen : ((List.range (8 + m0)).map fun j => ("l" : Str) ++ ltr j).length ≤ 9 := by rw [List.length_map, List.length_range]; omega
    generalize ((List.range (8 + m0)).map fun j => ("l" : Str) ++ ltr j) = ls at elt lls llen
    clear s2 eC nlt slt s12 nC k1 b1 eM
    -- the stations
    refine ⟨.ref M, rfl, M, _, 1, .int (m1' : Nat), rfl, rfl, SqL.of eM2, atI_nat (j := 1) rfl, 16, (m1' : Nat), rfl, rfl, (16 + m1' : Nat), by show [V.int (16 + (m1' : Int))] = _; rw [show (16 + (m1' : Int)) = ((16 + m1' : Nat) : Int) by omega], by omega, by omega, fun C nC => ?_⟩
    rw [Int.toNat_natCast]
    refine lc_it (walk_range (lo := 0) (n := 16 + m1')) (fun i Hx => Same H3 Hx ∧ Lst p S Hx C i) ⟨same_upd nC, .nil upd_same⟩ (fun _ _ _ _ => trivial) (fun i v Hx Hx' hi pv y => ?_) (fun H4 pv => ?_)
    · obtain ⟨rfl, rfl⟩ := y
      obtain ⟨sx, lc⟩ := pv
      have hl := ltr_ok i (List.mem_range.mpr (by omega))
      refine ⟨rfl, yes_ ⟨.str "abcdefghijklmnopq", rfl, .int (0 + (i : Int)), rfl, "abcdefghijklmnopq", (i : Int), 97 + i, rfl, by rw [Int.zero_add], abc17, atI_nat (ltr_at i (List.mem_range.mpr (by omega))), _, _, rfl, rfl, one_s, two_sz, fun u nu => ?_⟩⟩
      have su := same_upd (o := .tup [V.str (("s" : Str) ++ ltr i), .str "la"]) nu
      obtain ⟨xs, ex, xl, lc2⟩ := (lc.same su).put (v := .ref u) (d := .tuple [.str (("s" : Str) ++ ltr i), .str "la"]) (.tup (.inl upd_same) (.cons (.str _) (.cons (.str _) .nil))) (LwG.mono (.tup (n := 0) (LwG.cons (.str hl.2.1.1 hl.2.1.2) (LwG.cons (.str (by decide +kernel) (by decide +kernel)) LwG.nil))) (by decide)) rfl
      exact ⟨xs, ex, small5000 (by omega), same_set (sx.trans su) nC, lc2⟩
    obtain ⟨s4, lc⟩ := pv
    obtain ⟨xs, ds, ex, hds, lwds, xl⟩ := lc.ex
    refine ⟨C, _, rfl, .inl ⟨SqL.of ex, fun st nst => ?_⟩⟩
    have sst := same_upd (o := .tup xs) nst
    have s34 := s4.trans sst
    have hst : DG p S (upd H4 st (.tup xs)) (.ref st) (.tuple ds) := .tup (.inl upd_same) (hds.same sst)
    have lwst : LwG 3 (.tuple ds) := .tup (fun d hd => (lwds d hd).1) (by have := hds.len; omega)
    have k4 := k2.trans (.of s34)
    have b4 := b2.keep s34
    have eM4 := s34 _ _ eM2
    have elt4 := elt.same s34
    show gName 4 _ _ (upd H4 st (.tup xs)) _
    generalize upd H4 st (.tup xs) = H5 at hst k4 b4 eM4 elt4 ⊢
    clear lc ex hds lwds xl s4 sst nst nC s34 k2 b2 eM2 elt
    -- the junctions
    refine ⟨.ref M, rfl, M, _, 2, .int (m2 : Nat), rfl, rfl, SqL.of eM4, atI_nat (j := 2) rfl, 12, (m2 : Nat), rfl, rfl, (12 + m2 : Nat), by show [V.int (12 + (m2 : Int))] = _; rw [show (12 + (m2 : Int)) = ((12 + m2 : Nat) : Int) by omega], by omega, by omega, fun C nC => ?_⟩
    rw [Int.toNat_natCast]
    refine lc_it (walk_range (lo := 0) (n := 12 + m2)) (fun i Hx => Same H5 Hx ∧ Lst p S Hx C i) ⟨same_upd nC, .nil upd_same⟩ (fun _ _ _ _ => trivial) (fun i v Hx Hx' hi pv y => ?_) (fun H6 pv => ?_)
    · obtain ⟨rfl, rfl⟩ := y
      obtain ⟨sx, lc⟩ := pv
      have hl := ltr_ok i (List.mem_range.mpr (by omega))
      refine ⟨rfl, yes_ ⟨.str "abcdefghijklmnopq", rfl, .int (0 + (i : Int)), rfl, "abcdefghijklmnopq", (i : Int), 97 + i, rfl, by rw [Int.zero_add], abc17, atI_nat (ltr_at i (List.mem_range.mpr (by omega))), _, _, rfl, rfl, one_j, ?_⟩⟩
      refine ⟨.ref lt, rfl, .int (0 + (i : Int)), rfl, 0 + (i : Int), 7, rfl, rfl, show (0 : Int) < 7 by decide, 2, _, rfl, rfl, _, rfl, ?_⟩
      show rSlA K (.ref lt) none (some ((2 : Int) + (0 + (i : Int)) % 7)) _ _
      rw [show (2 : Int) + (0 + (i : Int)) % 7 = ((2 + i % 7 : Nat) : Int) by omega]
      refine slT_of (elt4.same sx) fun c1 H7 s7 h7 => ?_
      rw [cutV_pre, ← List.map_take] at h7
      refine ⟨two_sz, fun u nu => ?_⟩
      have su := same_upd (o := .tup [V.str (("j" : Str) ++ ltr i), .ref c1]) nu
      obtain ⟨xs, ex, xl, lc2⟩ := (lc.same (s7.trans su)).put (v := .ref u) (d := .tuple [.str (("j" : Str) ++ ltr i), .tuple ((ls.take (2 + i % 7)).map PyData.str)]) (.tup (.inl upd_same) (.cons (.str _) (.cons (.tup (h7.same su) (dgAll_strs _)) .nil))) (.tup (LwG.cons (.str hl.2.2.1 hl.2.2.2) (LwG.cons (.tup fun d hd => by
        obtain ⟨z, hz, rfl⟩ := List.mem_map.mp hd
        have := lls z (List.mem_of_mem_take hz)
        exact .str this.1 this.2) LwG.nil))) (tuAll_iff.mpr fun d hd => by
        simp only [List.mem_cons, List.not_mem_nil, or_false] at hd
        rcases hd with rfl | rfl
        · rfl
        · exact tuAll_iff.mpr fun e he => by obtain ⟨z, _, rfl⟩ := List.mem_map.mp he; rfl)
      exact ⟨xs, ex, small5000 (by omega), same_set (sx.trans (s7.trans su)) nC, lc2⟩
    obtain ⟨s6, lc⟩ := pv
    obtain ⟨xs, ds', ex, hds, lwds, xl⟩ := lc.ex
    refine ⟨C, _, rfl, .inl ⟨SqL.of ex, fun jt njt => ?_⟩⟩
    have sjt := same_upd (o := .tup xs) njt
    have s56 := s6.trans sjt
    have hjt : DG p S (upd H6 jt (.tup xs)) (.ref jt) (.tuple ds') := .tup (.inl upd_same) (hds.same sjt)
    have lwjt : LwG 3 (.tuple ds') := .tup (fun d hd => (lwds d hd).1) (by have := hds.len; omega)
    have k6 := k4.trans (.of s56)
    have b6 := b4.keep s56
    have eM6 := s56 _ _ eM4
    have elt6 := elt4.same s56
    have hst6 := hst.same s56
    show gName 5 _ _ (upd H6 jt (.tup xs)) _
    generalize upd H6 jt (.tup xs) = H7 at hjt k6 b6 eM6 elt6 hst6 ⊢
    clear lc ex hds lwds xl s6 sjt njt nC s56 k4 b4 eM4 elt4 hst
    -- the ties
    refine ⟨Nat.zero_le _, fun tl ntl => ?_⟩
    have stl := same_upd (o := .lst []) ntl
    have l0 : Lst p S (upd H7 tl (.lst [])) tl 0 := .nil upd_same
    have b8 := b6.keep stl
    have ntp := np b6 ntl
    have k8 := k6.trans (.of stl)
    have eM8 := stl _ _ eM6
    have nMt : tl ≠ M := fun z => by rw [z, eM6] at ntl; cases ntl
    have ntl0 := ntl
    refine ⟨16, rfl, by decide, by decide, ?_⟩
    refine for_range (lo := 0) (n := 16) (fun i σ Hx => ∃ (y7 y8 : Option V), σ = [some (.ref p), some (.ref M), some (.str "abcdefghijklmnopq"), some (.ref lt), some (.ref st), some (.ref jt), some (.ref tl), y7, y8] ∧ Same H7 Hx ∧ ∃ n, n ≤ 16 * i ∧ Lst p S Hx tl n) ⟨_, _, rfl, stl, 0, Nat.le_refl _, l0⟩ (fun i σ Hx hi hp => ?_) (fun σ Hx hp => ?_)
    · obtain ⟨y7, y8, rfl, sx, n, nle, lx⟩ := hp
      rw [Int.zero_add]
      obtain ⟨xs0, ds0, ex0, _⟩ := lx.ex
      refine ⟨.ref tl, rfl, .inl ⟨rfl, xs0, SqL.of ex0⟩, .int (i : Int), rfl, (i : Int), rfl, by omega, by omega, fun E nE => ?_⟩
      rw [Int.toNat_natCast]
      have hi' : i < 17 := by omega
      have hl := ltr_ok i (List.mem_range.mpr hi')
      refine lc_it (walk_range (lo := 0) (n := i)) (fun j Hy => Same Hx Hy ∧ Lst p S Hy E j) ⟨same_upd nE, .nil upd_same⟩ (fun _ _ _ _ => trivial) (fun j v Hy Hy' hj pv y => ?_) (fun Hy pv => ?_)
      · obtain ⟨rfl, rfl⟩ := y
        obtain ⟨sy, lc⟩ := pv
        have hm := ltr_ok j (List.mem_range.mpr (by omega))
        refine ⟨rfl, yes_ ⟨.str "abcdefghijklmnopq", rfl, .int (i : Int), rfl, "abcdefghijklmnopq", (i : Int), 97 + i, rfl, rfl, abc17, atI_nat (ltr_at i (List.mem_range.mpr hi')), _, _, rfl, rfl, one_s, .str "abcdefghijklmnopq", rfl, .int (0 + (j : Int)), rfl, "abcdefghijklmnopq", (j : Int), 97 + j, rfl, by rw [Int.zero_add], abc17, atI_nat (ltr_at j (List.mem_range.mpr (by omega))), _, _, rfl, rfl, one_s, .int (i : Int), rfl, (i : Int), 2, rfl, rfl, show (0 : Int) < 2 by decide, 9998, _, rfl, rfl, .inl ⟨by decide, by decide⟩, 1, _, rfl, rfl, by show 4 ≤ sizeLine; rw [sizeLine_eq]; decide, fun u nu => ?_⟩⟩
        have su := same_upd (o := .tup [V.str (("s" : Str) ++ ltr i), .str (("s" : Str) ++ ltr j), .str "la", .int (1 + 9998 * ((i : Int) % 2))]) nu
        obtain ⟨xs, ex, xl, lc2⟩ := (lc.same su).put (v := .ref u) (d := .tuple [.str (("s" : Str) ++ ltr i), .str (("s" : Str) ++ ltr j), .str "la", .int (1 + 9998 * ((i : Int) % 2))]) (.tup (.inl upd_same) (.cons (.str _) (.cons (.str _) (.cons (.str _) (.cons (.int _) .nil))))) (LwG.mono (.tup (n := 0) (LwG.cons (.str hl.2.1.1 hl.2.1.2) (LwG.cons (.str hm.2.1.1 hm.2.1.2) (LwG.cons (.str (by decide +kernel) (by decide +kernel)) (LwG.cons .int LwG.nil))))) (by decide)) rfl
        exact ⟨xs, ex, small5000 (by omega), same_set (sy.trans su) nE, lc2⟩
      obtain ⟨sy, lc⟩ := pv
      obtain ⟨xs, zs, ex, ez, xl, zl, lcat⟩ := (lx.same sy).cat lc
      exact ⟨tl, E, xs, zs, rfl, rfl, ex, ez, sz (by omega), _, _, rfl, same_set (sx.trans sy) ntl0, n + i, by omega, lcat⟩
    · obtain ⟨y7, y8, rfl, sx, n, nle, lx⟩ := hp
      obtain ⟨xs, ds2, ex, hds, lwds, xl⟩ := lx.ex
      have eMx := sx _ _ eM6
      refine ⟨.ref lt, rfl, .ref st, rfl, .ref jt, rfl, .ref tl, rfl, .ref M, rfl, M, _, 3, .int (m3 : Nat), rfl, rfl, SqL.of eMx, atI_nat (j := 3) rfl, 40, (m3 : Nat), rfl, rfl, _, rfl, tl, _, rfl, SqL.of ex, fun Zs nS => ?_⟩
      rw [show cutV xs none (some ((40 : Int) + (m3 : Nat))) = xs.take (40 + m3) from cutV_pre xs (40 + m3)]
      have sS := same_upd (o := .lst (xs.take (40 + m3))) nS
      refine ⟨Zs, _, rfl, .inl ⟨SqL.of upd_same, fun tt ntt => ⟨by show 4 ≤ sizeLine; rw [sizeLine_eq]; decide, fun r nr => ?_⟩⟩⟩
      have stt := same_upd (o := .tup (xs.take (40 + m3))) ntt
      have sr := same_upd (o := .tup [V.ref lt, .ref st, .ref jt, .ref tt]) nr
      have sall := ((sx.trans sS).trans stt).trans sr
      refine q _ (.ref r) (.tuple [.tuple (ls.map PyData.str), .tuple ds, .tuple ds', .tuple (ds2.take (40 + m3))]) (k6.trans (.of sall)) (b6.keep sall) (.tup (.inl upd_same) (.cons (.tup (elt6.same sall) (dgAll_strs _)) (.cons (hst6.same sall) (.cons (hjt.same sall) (.cons (.tup (.inl (sr _ _ upd_same)) ((hds.take (40 + m3)).same ((sS.trans stt).trans sr))) .nil))))) (LwG.mono (LwG.tup (n := 3) (LwG.cons (LwG.mono (.tup (n := 0) fun d hd => ?_) (by decide)) (LwG.cons lwst (LwG.cons lwjt (LwG.cons (.tup fun d hd => (lwds d (List.mem_of_mem_take hd)).1) LwG.nil))))) (by decide))
      obtain ⟨z, hz, rfl⟩ := List.mem_map.mp hd
      exact .str (lls z hz).1 (lls z hz).2
end
end Th
namespace Th
open PySem PySem.Spec PyProof.Rows L2
section
variable {P : Program} {w : World} {K : PySem.W.Frag} {mg : Str → Option Value} {base : Heap} {k : Nat}
def sp_l_whole : Sp := fun vs H Q _ => ∃ v d, vs = [v] ∧ Df H v d ∧ Q (.bl (wholeD d)) H
theorem ok_l_whole (T : Defs K mg) : FnOk P w K mg base CX0 (k + 1) T.a_l_whole T.d_l_whole ["_law_thing"] sp_l_whole := by
  refine T.F_l_whole.ok sc_l_whole (fun vs H Q E h => ?_) (fun cdv A outer s H vs Q E hr h => ?_)
  · obtain ⟨v, d, rfl, _⟩ := h
    rfl
  · obtain ⟨v, d, rfl, hv, q⟩ := h
    refine ⟨_, PSs.nox
(pss_one (ps_ret (pe_and (pe_callB call_isi (by rfl) T.z_isinstance (by decide +kernel) (pa_cons (pv 0) (pa_cons (pe_bltn (v := .ty "int") (by rfl) T.z_int (by decide +kernel) rfl) pa_nil))) (pe_one (pe_not (pe_callB call_isi (by rfl) T.z_isinstance (by decide +kernel) (pa_cons (pv 0) (pa_cons (pe_bltn (v := .ty "bool") (by rfl) T.z_bool (by decide +kernel) rfl) pa_nil))))))))
      , ?_⟩
    refine ⟨v, rfl, v, .ty "int", _, _, _, rfl, .ty _, hv.ty, kit_I d, isiI d, rfl, ?_⟩
    cases d with
    | int i => exact iteT ⟨v, rfl, v, .ty "bool", _, _, _, rfl, .ty _, hv.ty, kit_B _, isiB _, rfl, q⟩
    | bool b => exact iteT ⟨v, rfl, v, .ty "bool", _, _, _, rfl, .ty _, hv.ty, kit_B _, isiB _, rfl, q⟩
    | none => exact iteF q
    | list _ => exact iteF q
    | tuple _ => exact iteF q
    | dict _ => exact iteF q
    | str z => exact iteF q
theorem abc_in (c : Nat) : decide (c ∈ ("abcdefghijklmnopqrstuvwxyz" : Str).cps.toList) = (!decide ([c] < ("a" : Str).cps.toList) && !decide (("z" : Str).cps.toList < [c])) := by
  have e1 : ("abcdefghijklmnopqrstuvwxyz" : Str).cps.toList = (List.range 26).map (97 + ·) := by decide +kernel
  have e2 : ("a" : Str).cps.toList = [97] := by decide +kernel
  have e3 : ("z" : Str).cps.toList = [122] := by decide +kernel
  rw [e1, e2, e3]
  have lt1 : ∀ {a b : Nat}, a < b → ([a] : List Nat) < [b] := fun h => .rel h
  have nl1 : ∀ {a b : Nat}, a ≤ b → ¬ (([b] : List Nat) < [a]) := fun h z => by have := one_lt z; omega
  by_cases h1 : 97 ≤ c
  · rw [show decide ([c] < [97]) = false from decide_eq_false (nl1 h1)]
    by_cases h2 : c ≤ 122
    · rw [show decide (([122] : List Nat) < [c]) = false from decide_eq_false (nl1 h2)]
      exact decide_eq_true (List.mem_map.mpr ⟨c - 97, List.mem_range.mpr (by omega), by omega⟩)
    · rw [show decide (([122] : List Nat) < [c]) = true from decide_eq_true (lt1 (by omega))]
      refine decide_eq_false fun h => ?_
      obtain ⟨j, hj, e⟩ := List.mem_map.mp h
      have := List.mem_range.mp hj
      omega
  · rw [show decide (([c] : List Nat) < [97]) = true from decide_eq_true (lt1 (by omega))]
    refine decide_eq_false fun h => ?_
    obtain ⟨j, hj, e⟩ := List.mem_map.mp h
    omega
def sp_l_is_name : Sp := fun vs H Q _ => ∃ v d, vs = [v] ∧ Df H v d ∧ (∀ s, d = .str s → s.length ≤ 5000) ∧ ∀ H', Same H H' → Q (.bl (nameD d)) H'
set_option maxHeartbeats 8000000 in
theorem ok_l_is_name (T : Defs K mg) : FnOk P w K mg base CX0 (k + 1) T.a_l_is_name T.d_l_is_name ["_law_thing"] sp_l_is_name := by
  refine T.F_l_is_name.ok sc_l_is_name (fun vs H Q E h => ?_) (fun cdv A outer s H vs Q E hr h => ?_)
  · obtain ⟨v, d, rfl, _⟩ := h
    rfl
  · obtain ⟨v, d, rfl, hv, hl, q⟩ := h
    refine ⟨_, PSs.nox
(pss_cons (ps_if (PW.pt (pw_or (pt_not (pt_val (pe_callB call_isi (by rfl) T.z_isinstance (by decide +kernel) (pa_cons (pv 0) (pa_cons (pe_bltn (v := .ty "str") (by rfl) T.z_str (by decide +kernel) rfl) pa_nil))))) (pw_or1 (pt_not (pt_chain op_le op_le (pe_int) (pe_callB call_len_str (by rfl) T.z_len (by decide +kernel) (pa_cons (pv 0) pa_nil)) (pe_int))))))
      (pss_one (ps_ret (pe_bl)))
      pss_nil)
    (pss_one (ps_ret (pe_callB (r := rAll K) (cr_all rfl) (by rfl) T.z_all (by decide +kernel) (pa_cons (pe_lc (own := [("_law_sign", 1)]) (g := gName 1) rfl sc_l_is_name.nd (pi_str (pv 0)) (blkOk_by (N := N_l_is_name) (sc := defScope s_l_is_name) (by decide +kernel)) (fun _ _ _ _ _ => (pg_name (i := 1) sc_l_is_name.nd rfl (.inl rfl))) (fun _ _ _ _ _ => pts_nil) (fun _ _ _ _ _ => (pe_cmpR op_in_sign (pv 1) (pe_str) (by rfl)))) pa_nil)))))
      , ?_⟩
    refine ⟨v, rfl, v, .ty "str", _, _, _, rfl, .ty _, hv.ty, kit_S d, isiS d, rfl, ?_⟩
    have q0 := q H (fun _ _ e => e)
    cases d with
    | int i => exact iteT q0
    | bool b => exact iteT q0
    | none => exact iteT q0
    | list _ => exact iteT q0
    | tuple _ => exact iteT q0
    | dict _ => exact iteT q0
    | str z =>
      cases hv
      have zl := hl z rfl
      have zs : z.length ≤ sizeLine := by rw [sizeLine_eq]; omega
      have e0 : nameD (.str z) = (decide (1 ≤ z.length) && decide (z.length ≤ 8) && alS "a" "z" z) := rfl
      refine iteF ⟨.str z, rfl, z, rfl, zs, 1, (z.length : Int), rfl, rfl, decide ((1 : Int) ≤ (z.length : Int)), rfl, ite2 (fun c1 => ?_) (fun c1 => ?_)⟩
      · refine ⟨(z.length : Int), 8, rfl, rfl, _, rfl, ite2 (fun c2 => ?_) (fun c2 => ?_)⟩
        · have c2 : ¬ z.length ≤ 8 := fun g => by
            rw [show decide ((z.length : Int) ≤ 8) = true from decide_eq_true (by omega)] at c2
            cases c2
          rw [e0, decide_eq_false c2, Bool.and_false, Bool.false_and] at q0
          exact q0
        · have c2 : z.length ≤ 8 := Decidable.byContradiction fun g => c2 (by rw [decide_eq_false (show ¬ (z.length : Int) ≤ 8 by omega)]; rfl)
          have c1 : 1 ≤ z.length := by have := of_decide_eq_true c1; omega
          rw [e0, decide_eq_true c1, decide_eq_true c2, Bool.true_and, Bool.true_and] at q
          refine ⟨.str z, rfl, z, rfl, fun C nC => ?_⟩
          refine lc_it (walk_str (z := z)) (fun i Hx => Same H Hx ∧ Hx C = some (.lst (((z.cps.toList.take i).map fun c => !decide ([c] < ("a" : Str).cps.toList) && !decide (("z" : Str).cps.toList < [c])).map V.bl))) ⟨same_upd nC, upd_same⟩ (fun _ _ _ _ => trivial) (fun i v Hx Hx' hi pv yy => ?_) (fun Hx pv => ?_)
          · obtain ⟨rfl, c, ec, rfl⟩ := yy
            obtain ⟨sx, eC⟩ := pv
            have zl2 : z.cps.toList.length = z.length := rfl
            have hlen : ((z.cps.toList.take i).map fun c => !decide ([c] < ("a" : Str).cps.toList) && !decide (("z" : Str).cps.toList < [c])).length ≤ 10 := by rw [List.length_map, List.length_take]; omega
            have tk1 : z.cps.toList.take (i + 1) = z.cps.toList.take i ++ [c] := by rw [List.take_add_one, Array.getElem?_toList, ec]; rfl
            refine ⟨rfl, yes_ ⟨.str ⟨#[c]⟩, rfl, c, "abcdefghijklmnopqrstuvwxyz", rfl, rfl, _, eC, small5000 (by rw [List.length_map]; omega), same_set sx nC, ?_⟩⟩
            rw [upd_same, tk1, List.map_append, List.map_append, abc_in]
            rfl
          · obtain ⟨sx, eC⟩ := pv
            have ea : (((z.cps.toList.take z.cps.size).map fun c => !decide ([c] < ("a" : Str).cps.toList) && !decide (("z" : Str).cps.toList < [c])).all id) = alS "a" "z" z := by
              rw [List.take_of_length_le (by rw [Array.length_toList]; exact Nat.le_refl _), List.all_map]
              rfl
            refine ⟨C, _, rfl, SqL.of eC, ?_⟩
            rw [ea]
            exact q _ sx
      · have e : nameD (.str z) = false := by
          rw [e0, show decide (1 ≤ z.length) = false from decide_eq_false fun g => c1 (decide_eq_true (by omega))]
          rfl
        rw [e] at q0
        exact ⟨_, rfl, iteT q0⟩
end
end Th
namespace Th
open PySem PySem.Spec PyProof.Rows L2
structure DVL (H : Hp) (kvs : List (Key × V)) (es : List (Nm × List Nm)) : Prop where
  no : ∀ z, lkF es z = none → valV kvs (Sum.inr (SX.S z)) = none
  yes : ∀ z l, lkF es z = some l → ∃ a, valV kvs (Sum.inr (SX.S z)) = some (.ref a) ∧ (H a = some (.lst (l.map nS)) ∨ TPl H a (l.map nS))
theorem DVL.same {H H' : Hp} {kvs : List (Key × V)} {es : List (Nm × List Nm)} (h : DVL H kvs es) (s : Same H H') : DVL H' kvs es := ⟨h.no, fun z l e => let ⟨a, h1, h2⟩ := h.yes z l e; ⟨a, h1, h2.elim (fun h => .inl (s _ _ h)) fun h => .inr (h.same s)⟩⟩
theorem eqv_lstsR : ∀ xs ys : List Str, PyData.eqv (.list (xs.map PyData.str)) (.list (ys.map PyData.str)) = decide (xs = ys)
  | [], [] => rfl
  | [], _ :: _ => rfl
  | _ :: _, [] => rfl
  | x :: xs, y :: ys => by
    show (PyData.eqv (.str x) (.str y) && PyData.eqv (.list (xs.map PyData.str)) (.list (ys.map PyData.str))) = _
    rw [eqv_strE, eqv_lstsR xs ys]
    by_cases h : x = y
    · by_cases g : xs = ys
      · simp [h, g]
      · simp [h, g]
    · simp [h]
theorem lines_lk {es : List (Nm × List Nm)} {z : Str} {l : List Nm} (h : lkF es (nmOf z) = some l) : linesOf es z = l.map SX.S := by
  unfold linesOf
  rw [h]
  rfl
theorem lines_no {es : List (Nm × List Nm)} {z : Str} (h : lkF es (nmOf z) = none) : linesOf es z = [] := by
  unfold linesOf
  rw [h]
  rfl
theorem strIn_nil (d : PyData) : strIn [] d = false := rfl
theorem inV_strs (y : Str) (zs : List Str) : inV (.str y) (zs.map V.str) = strIn zs (.str y) := by
  rw [Bool.eq_iff_iff]
  constructor
  · intro h
    unfold inV at h
    obtain ⟨v, hv, e⟩ := List.any_eq_true.mp h
    obtain ⟨z, hz, rfl⟩ := List.mem_map.mp hv
    have e : z = y := by simpa [eqV] using e
    rw [← e]
    exact strIn_of hz
  · intro h
    obtain ⟨s, hs, e⟩ := strIn_str h
    injection e with e
    unfold inV
    exact List.any_eq_true.mpr ⟨.str s, List.mem_map_of_mem hs, by simp [eqV, e]⟩
def lstsD (ps : List (List Str)) : List PyData := ps.map fun x => .list (x.map PyData.str)
theorem any_lsts (ps : List (List Str)) (x : List Str) : ((lstsD ps).any fun z => PyData.eqv z (.list (x.map PyData.str))) = decide (x ∈ ps) := by
  rw [Bool.eq_iff_iff, decide_eq_true_iff]
  unfold lstsD
  constructor
  · intro h
    obtain ⟨v, hv, e⟩ := List.any_eq_true.mp h
    obtain ⟨z, hz, rfl⟩ := List.mem_map.mp hv
    rw [eqv_lstsR] at e
    rw [← of_decide_eq_true e]
    exact hz
  · intro h
    exact List.any_eq_true.mpr ⟨_, List.mem_map_of_mem h, by rw [eqv_lstsR]; exact decide_eq_true rfl⟩
theorem lsts_sh {ps : List (List Str)} (h : ∀ x ∈ ps, ∀ z ∈ x, PyData.strOk z = true) : SeqAt.shaped (.list (lstsD ps)) = true := by
  have l1 : PyData.canLayAll0 (lstsD ps) = true := lay_allG fun d hd => by
    obtain ⟨x, hx, rfl⟩ := List.mem_map.mp hd
    exact lay_allG fun e he => by
      obtain ⟨z, hz, rfl⟩ := List.mem_map.mp he
      exact h x hx z hz
  have l2 : PyData.depthAll (lstsD ps) ≤ 1 := dep_allG fun d hd => by
    obtain ⟨x, hx, rfl⟩ := List.mem_map.mp hd
    show PyData.depthAll (x.map PyData.str) + 1 ≤ 1
    have := dep_allG (ds := x.map PyData.str) (n := 0) fun e he => by
      obtain ⟨z, hz, rfl⟩ := List.mem_map.mp he
      exact Nat.le_refl 0
    omega
  exact Bool.and_eq_true_iff.mpr ⟨l1, decide_eq_true (by show PyData.depthAll (lstsD ps) + 1 ≤ 64; omega)⟩
theorem srt2_mem {a b z : Str} (h : z ∈ srt2 a b) : z = a ∨ z = b := by
  unfold srt2 at h
  split at h
  · simp only [List.mem_cons, List.not_mem_nil, or_false] at h
    exact h.symm
  · simpa using h
theorem dpAll_lsts {K : PySem.W.Frag} {H : Hp} : ∀ {pa : List Addr} {ps : List (List Str)}, Paired (fun a (x : List Str) => H a = some (.lst (x.map V.str))) pa ps → DpAll K H (pa.map V.ref) (lstsD ps)
  | _, _, .nil => .nil
  | _, _, .cons a r => .cons (.lst (SqL.of a) (dpAll_strs _)) (dpAll_lsts r)
def tiesR (es : List (Nm × List Nm)) (ds : List PyData) : Bool := ds.all (tieB es) && decide (ds.map pairD).Nodup
theorem tiesR_bad {es : List (Nm × List Nm)} {ds : List PyData} {d : PyData} (h : d ∈ ds) (b : tieB es d = false) : tiesR es ds = false := by
  unfold tiesR
  rw [show ds.all (tieB es) = false from by
    cases e : ds.all (tieB es) with
    | false => rfl
    | true => have := List.all_eq_true.mp e d h; rw [b] at this; cases this]
  rfl
theorem tiesR_dup {es : List (Nm × List Nm)} {ds : List PyData} {i : Nat} {d : PyData} (h : ds[i]? = some d) (b : pairD d ∈ (ds.take i).map pairD) : tiesR es ds = false := by
  unfold tiesR
  rw [show decide (ds.map pairD).Nodup = false from decide_eq_false fun nd => ?_, Bool.and_false]
  have e : ds = ds.take i ++ d :: ds.drop (i + 1) := by
    have hi := (List.getElem?_eq_some_iff.mp h)
    rw [← hi.2, ← List.drop_eq_getElem_cons hi.1, List.take_append_drop]
  rw [e, List.map_append] at nd
  exact (List.nodup_append.mp nd).2.2 _ b _ List.mem_cons_self rfl
theorem nS_S (l : List Nm) : l.map nS = (l.map SX.S).map V.str := by
  rw [List.map_map]
  rfl
section
variable {P : Program} {w : World} {K : PySem.W.Frag} {mg : Str → Option Value} {base : Heap} {k : Nat}
def sp_l_are_ties : Sp := fun vs H Q _ => ∃ (D lt : Addr) (v : V) (ds : List PyData) (es : List (Nm × List Nm)) (names : List Str) (kvs : List (Key × V)), vs = [.ref D, .ref lt, v] ∧ H D = some (.dK kvs) ∧ DVL H kvs es ∧ TPl H lt (names.map V.str) ∧ (∀ z ∈ names, PyData.strOk z = true) ∧ names.length ≤ 100 ∧
  (∀ z l, lkF es z = some l → nameS (SX.S z) = true ∧ ∀ y ∈ l, SX.S y ∈ names) ∧ Df H v (.tuple ds) ∧ Tb (.tuple ds) ∧ SeqAt.shaped (.tuple ds) = true ∧ ds.length ≤ 40 ∧ ∀ H', Same H H' → Q (.bl (tiesR es ds)) H'
set_option maxHeartbeats 16000000 in
theorem ok_l_are_ties (T : Defs K mg) : FnOk P w K mg base CX0 (k + 2) T.a_l_are_ties T.d_l_are_ties ["_law_places_here", "_law_lines", "_law_ties"] sp_l_are_ties := by
  have G_l_whole : FnOk P w K mg base CX0 (k + 1) _ _ _ _ := ok_l_whole (k := k) T
  refine T.F_l_are_ties.ok sc_l_are_ties (fun vs H Q E h => ?_) (fun cdv A outer s H vs Q E hr h => ?_)
  · obtain ⟨D, lt, v, ds, es, names, kvs, rfl, _⟩ := h
    rfl
  · obtain ⟨D, lt, v, ds, es, names, kvs, rfl, eD, dvl, hlt, nok, n100, lks, hv, tb, sh, d40, q⟩ := h
    refine ⟨_, PSs.nox
(pss_cons (ps_set (i := 3) sc_l_are_ties.nd rfl (.inl rfl) (pe_lst pa_nil))
    (pss_cons (ps_for PassesOwn.never rfl (pi_tup (pv 2)) (pg_name (i := 4) sc_l_are_ties.nd rfl (.inl rfl))
      (pss_cons (ps_if (PW.pt (pw_or (pt_not (pt_val (pe_callB call_isi (by rfl) T.z_isinstance (by decide +kernel) (pa_cons (pv 4) (pa_cons (pe_bltn (v := .ty "tuple") (by rfl) T.z_tuple (by decide +kernel) rfl) pa_nil))))) (pw_or1 (pt_cmpR op_ne (pe_callB (r := rLenS K) call_lenS (by rfl) T.z_len (by decide +kernel) (pa_cons (pv 4) pa_nil)) (pe_int) (nomark _)))))
        (pss_one (ps_ret (pe_bl)))
        pss_nil)
      (pss_cons (ps_asg (pv 4) (pg_tup rfl (pgs_cons (pg_name (i := 5) sc_l_are_ties.nd rfl (.inl rfl)) (pgs_cons (pg_name (i := 6) sc_l_are_ties.nd rfl (.inl rfl)) (pgs_cons (pg_name (i := 7) sc_l_are_ties.nd rfl (.inl rfl)) (pgs_cons (pg_name (i := 8) sc_l_are_ties.nd rfl (.inl rfl)) pgs_nil))))))
      (pss_cons (ps_if (PW.pt (pw_or (pt_not (pt_val (pe_callB call_isi (by rfl) T.z_isinstance (by decide +kernel) (pa_cons (pv 5) (pa_cons (pe_bltn (v := .ty "str") (by rfl) T.z_str (by decide +kernel) rfl) pa_nil))))) (pw_or (pt_not (pt_val (pe_callB call_isi (by rfl) T.z_isinstance (by decide +kernel) (pa_cons (pv 6) (pa_cons (pe_bltn (v := .ty "str") (by rfl) T.z_str (by decide +kernel) rfl) pa_nil))))) (pw_or (pt_cmpR op_eq (pv 5) (pv 6) (nomark _)) (pw_or1 (pt_cmpR (InT.op_notInT (un65 hr)) (pv 7) (pv 1) (by rfl)))))))
        (pss_one (ps_ret (pe_bl)))
        pss_nil)
      (pss_cons (ps_if (PW.pt (pw_or (pt_cmp (pc_dnotin (hu_of hr) (pv 5) (pv 0))) (pw_or (pt_cmp (pc_dnotin (hu_of hr) (pv 6) (pv 0))) (pw_or (pt_cmpR (r := rIn K true) op_notIn_seq (pv 7) (pe_dget (hu_of hr) (pv 0) (pv 5) (fun _ _ => rfl)) (by rfl)) (pw_or1 (pt_cmpR (r := rIn K true) op_notIn_seq (pv 7) (pe_dget (hu_of hr) (pv 0) (pv 6) (fun _ _ => rfl)) (by rfl)))))))
        (pss_one (ps_ret (pe_bl)))
        pss_nil)
      (pss_cons (ps_if (PW.pt (pw_or (pt_not (pt_val (pe_call G_l_whole hr (by rfl) T.g_l_whole T.F_l_whole.kp T.b_l_whole .nil pass0 (pa_cons (pv 8) pa_nil)))) (pw_or (pt_not (pt_chain op_le op_le (pe_int) (pv 8) (pe_int))) (pw_or1 (pt_cmpR (r := rInD K) (op_inD (un65 hr)) (pe_callB (r := rSortedS K) cr_sortedS (by rfl) T.z_sorted (by decide +kernel) (pa_cons (pe_lst (pa_cons (pv 5) (pa_cons (pv 6) pa_nil))) pa_nil)) (pv 3) (by rfl))))))
        (pss_one (ps_ret (pe_bl)))
        pss_nil)
      (pss_one (ps_expr (pe_bm PySem.F.plainAttrs_list PySem.F.slot_list_append PySem.F.type_list_append mt_append (pv 3) (pa_cons (pe_callB (r := rSortedS K) cr_sortedS (by rfl) T.z_sorted (by decide +kernel) (pa_cons (pe_lst (pa_cons (pv 5) (pa_cons (pv 6) pa_nil))) pa_nil)) pa_nil))))))))))
    (pss_one (ps_ret (pe_bl)))))
      , ?_⟩
    obtain ⟨tt, xs, rfl, htt, hds, xl⟩ := tup_inv hv
    refine ⟨Nat.zero_le _, fun L nL => ?_⟩
    have sL := same_upd (o := .lst []) nL
    have eL : upd H L (.lst []) L = some (.lst []) := upd_same
    show gName 3 _ _ (upd H L (.lst [])) _
    generalize hH1 : upd H L (.lst []) = H1 at sL eL ⊢
    refine ⟨.ref tt, rfl, tt, rfl, ⟨_, (htt.same sL).sq⟩, ?_⟩
    refine for_it (walk_tup (xs := xs)) (fun i σ Hx => ∃ (y4 y5 y6 y7 y8 : Option V) (pa : List Addr), σ = [some (.ref D), some (.ref lt), some (.ref tt), some (.ref L), y4, y5, y6, y7, y8] ∧ Same H Hx ∧ Hx L = some (.lst (pa.map V.ref)) ∧ Paired (fun a (x : List Str) => Hx a = some (.lst (x.map V.str)) ∧ a ≠ L) pa ((ds.take i).map pairD) ∧ (∀ d ∈ ds.take i, tieB es d = true) ∧ ((ds.take i).map pairD).Nodup ∧ ∀ x ∈ (ds.take i).map pairD, ∀ z ∈ x, PyData.strOk z = true) ⟨_, _, _, _, _, [], rfl, sL, eL, .nil, fun _ h => (by cases h), List.nodup_nil, fun _ h => (by cases h)⟩ (fun i σ Hx _ hp => ?_) (fun i v σ Hx₀ Hx hi hp yy => ?_) (fun σ Hx hp => ?_)
    · obtain ⟨_, _, _, _, _, _, _, s, _⟩ := hp
      exact (htt.same s).sq
    · obtain ⟨rfl, ex⟩ := yy
      obtain ⟨y4, y5, y6, y7, y8, pa, rfl, sx, eLx, hpa, hall, hnd, hok⟩ := hp
      obtain ⟨d, ed, hd0⟩ := hds.get ex
      have hd := hd0.same sx
      have dm := List.mem_of_getElem? ed
      have bad : tieB es d = false → ∀ Hy, Same Hx Hy → Q (.bl false) Hy := fun e Hy sy => by
        have := q Hy (sx.trans sy)
        rw [tiesR_bad dm e] at this
        exact this
      have bad0 := fun e => bad e Hx fun _ _ z => z
      refine ⟨v, rfl, v, .ty "tuple", _, _, _, rfl, .ty _, hd.ty, kit_T d, isiT d, rfl, ?_⟩
      have tbd := tb.mem d dm
      have shd := shm sh d dm
      cases d with
      | int i => exact iteT (bad0 rfl)
      | bool b => exact iteT (bad0 rfl)
      | none => exact iteT (bad0 rfl)
      | list _ => exact iteT (bad0 rfl)
      | str _ => exact iteT (bad0 rfl)
      | dict _ => exact iteT (bad0 rfl)
      | tuple ts =>
        obtain ⟨u, us, rfl, eu, hus, ul⟩ := tup_inv hd
        refine iteF ⟨.ref u, rfl, u, us, rfl, .inr eu.sq, rfl, _, rfl, ite2 (fun c => ?_) fun c => ?_⟩
        · refine bad0 ?_
          have c : (!decide (V.int (us.length : Int) = V.int 4)) = true := c
          unfold tieB
          split
          · rename_i h
            injection h with h
            rw [h] at ul
            rw [ul] at c
            have c : (!decide (V.int ((4 : Nat) : Int) = V.int 4)) = true := c
            exact absurd c (by decide)
          · rfl
        have u4 : us.length = 4 := by
          have c : (!decide (V.int (us.length : Int) = V.int 4)) = false := by simpa using c
          have c : V.int (us.length : Int) = V.int 4 := by simpa using c
          injection c with c
          omega
        obtain ⟨da, db, dl, dc, rfl⟩ := four_of (l := ts) (by omega)
        obtain ⟨xa, xb, xl', xc, rfl, ha, hb, hl, hc⟩ : ∃ x1 x2 x3 x4, us = [x1, x2, x3, x4] ∧ Df Hx x1 da ∧ Df Hx x2 db ∧ Df Hx x3 dl ∧ Df Hx x4 dc := by
          cases hus with
          | cons h1 r =>
            cases r with
            | cons h2 r =>
              cases r with
              | cons h3 r =>
                cases r with
                | cons h4 r => cases r; exact ⟨_, _, _, _, rfl, h1, h2, h3, h4⟩
        refine ⟨.ref u, rfl, u, _, rfl, eu.sq, rfl, _, _, rfl, _, _, rfl, _, _, rfl, _, [], rfl, rfl, ?_⟩
        -- the two places
        refine ⟨xa, rfl, xa, .ty "str", _, _, _, rfl, .ty _, ha.ty, kit_S da, isiS da, rfl, ?_⟩
        cases da with
        | int i => exact iteT (bad0 rfl)
        | bool b => exact iteT (bad0 rfl)
        | none => exact iteT (bad0 rfl)
        | list _ => exact iteT (bad0 rfl)
        | tuple _ => exact iteT (bad0 rfl)
        | dict _ => exact iteT (bad0 rfl)
        | str a =>
          cases ha
          refine iteF ⟨xb, rfl, xb, .ty "str", _, _, _, rfl, .ty _, hb.ty, kit_S db, isiS db, rfl, ?_⟩
          cases db with
          | int i => exact iteT (bad0 rfl)
          | bool b => exact iteT (bad0 rfl)
          | none => exact iteT (bad0 rfl)
          | list _ => exact iteT (bad0 rfl)
          | tuple _ => exact iteT (bad0 rfl)
          | dict _ => exact iteT (bad0 rfl)
          | str b =>
            cases hb
            have e0 : tieB es (.tuple [.str a, .str b, dl, dc]) = (nameS a && nameS b && !decide (a = b) && strIn (linesOf es a) dl && strIn (linesOf es b) dl && betD dc 1 9999) := rfl
            have shl : SeqAt.shaped dl = true := shm shd dl (by simp)
            have sha : PyData.strOk a = true := (Bool.and_eq_true_iff.mp (shm shd (.str a) (by simp))).1
            have shb : PyData.strOk b = true := (Bool.and_eq_true_iff.mp (shm shd (.str b) (by simp))).1
            refine iteF ⟨.str a, rfl, .str b, rfl, rfl, _, rfl, ite2 (fun c => ?_) fun c => ?_⟩
            · have e : a = b := by injection of_decide_eq_true c
              exact bad0 (by rw [e0, decide_eq_true e]; simp)
            have nab : a ≠ b := fun e => c (decide_eq_true (by rw [e]))
            have hltx := hlt.same sx
            refine ⟨xl', rfl, .ref lt, rfl, dl, names.map PyData.str, hl.dp, .tup hltx.sq (dpAll_strs _), shl, strs_tup nok, _, rfl, ?_⟩
            have hin : ∀ z, strIn (linesOf es z) dl = true → strIn names dl = true := fun z h => by
              obtain ⟨s, hs, rfl⟩ := strIn_str h
              cases e : lkF es (nmOf z) with
              | none => rw [lines_no e] at hs; cases hs
              | some l =>
                rw [lines_lk e] at hs
                obtain ⟨y, hy, rfl⟩ := List.mem_map.mp hs
                exact strIn_of ((lks _ l e).2 y hy)
            have enm : ((names.map PyData.str).any fun z => PyData.eqv z dl) = strIn names dl := rfl
            rw [enm]
            cases cl : strIn names dl with
            | false =>
              refine iteT (bad0 ?_)
              rw [e0]
              cases c1 : strIn (linesOf es a) dl with
              | false => rw [Bool.and_false, Bool.false_and, Bool.false_and]
              | true => rw [hin a c1] at cl; cases cl
            | true =>
              refine iteF ?_
              obtain ⟨y, hy, rfl⟩ := strIn_str cl
              cases hl
              have eDx := sx _ _ eD
              have dvx := dvl.same sx
              have get : ∀ z : Str, DGet Hx D (.str z) (valV kvs (Sum.inr z)) := fun z => DGet.k (k := Sum.inr z) eDx
              have gno : ∀ {z : Str}, lkF es (nmOf z) = none → DGet Hx D (.str z) none := fun {z} e => by
                have := dvx.no _ e
                rw [nmOf_S] at this
                rw [← this]
                exact get z
              have gyes : ∀ {z : Str} {l : List Nm}, lkF es (nmOf z) = some l → ∃ g, DGet Hx D (.str z) (some (.ref g)) ∧ (SqL K Hx g ((l.map SX.S).map V.str) ∨ SqT K Hx g ((l.map SX.S).map V.str)) := fun {z l} e => by
                obtain ⟨g, h1, h2⟩ := dvx.yes _ _ e
                rw [nmOf_S] at h1
                refine ⟨g, by rw [← h1]; exact get z, ?_⟩
                rw [← nS_S]
                exact h2.imp (fun h => SqL.of h) fun h => h.sq
              cases ea : lkF es (nmOf a) with
              | none => exact ⟨.str a, rfl, .ref D, rfl, D, none, rfl, gno ea, true, rfl, iteT (bad0 (by rw [e0, lines_no ea, strIn_nil, Bool.and_false, Bool.false_and, Bool.false_and]))⟩
              | some la =>
                obtain ⟨ga, dga, sqa⟩ := gyes ea
                refine ⟨.str a, rfl, .ref D, rfl, D, some (.ref ga), rfl, dga, false, rfl, iteF ?_⟩
                cases eb : lkF es (nmOf b) with
                | none => exact ⟨.str b, rfl, .ref D, rfl, D, none, rfl, gno eb, true, rfl, iteT (bad0 (by rw [e0, lines_no eb, strIn_nil, Bool.and_false, Bool.false_and]))⟩
                | some lb =>
                  obtain ⟨gb, dgb, sqb⟩ := gyes eb
                  refine ⟨.str b, rfl, .ref D, rfl, D, some (.ref gb), rfl, dgb, false, rfl, iteF ?_⟩
                  refine ⟨.str y, rfl, .ref D, rfl, .str a, rfl, D, .ref ga, rfl, dga, ga, _, rfl, sqa, rfl, flat_strs _, _, rfl, ?_⟩
                  have na : nameS a = true := by have := (lks _ la ea).1; rw [nmOf_S] at this; exact this
                  have nb : nameS b = true := by have := (lks _ lb eb).1; rw [nmOf_S] at this; exact this
                  rw [na, nb, decide_eq_false nab, lines_lk ea, lines_lk eb] at e0
                  show (if (!inV (.str y) ((la.map SX.S).map V.str)) = true then _ else _)
                  rw [inV_strs]
                  cases ca : strIn (la.map SX.S) (.str y) with
                  | false => exact iteT (bad0 (by rw [e0, ca]; rfl))
                  | true =>
                    refine iteF ⟨.str y, rfl, .ref D, rfl, .str b, rfl, D, .ref gb, rfl, dgb, gb, _, rfl, sqb, rfl, flat_strs _, _, rfl, ?_⟩
                    show (if (!inV (.str y) ((lb.map SX.S).map V.str)) = true then _ else _)
                    rw [inV_strs]
                    cases cb : strIn (lb.map SX.S) (.str y) with
                    | false => exact iteT (bad0 (by rw [e0, ca, cb]; rfl))
                    | true =>
                      rw [ca, cb] at e0
                      have e0 : tieB es (.tuple [.str a, .str b, .str y, dc]) = betD dc 1 9999 := e0
                      refine iteF ⟨xc, rfl, xc, dc, rfl, hc, ?_⟩
                      cases dc with
                      | bool _ => exact ⟨_, rfl, iteT (bad0 e0)⟩
                      | none => exact ⟨_, rfl, iteT (bad0 e0)⟩
                      | list _ => exact ⟨_, rfl, iteT (bad0 e0)⟩
                      | tuple _ => exact ⟨_, rfl, iteT (bad0 e0)⟩
                      | dict _ => exact ⟨_, rfl, iteT (bad0 e0)⟩
                      | str _ => exact ⟨_, rfl, iteT (bad0 e0)⟩
                      | int cc =>
                        have exc : xc = .int cc := by cases hc; rfl
                        subst exc
                        refine ⟨_, rfl, iteF ?_⟩
                        refine ⟨.int cc, rfl, 1, cc, rfl, rfl, _, rfl, ite2 (fun c1 => ?_) fun c1 => ?_⟩
                        rotate_left
                        · have : ¬ (1 : Int) ≤ cc := fun h => c1 (decide_eq_true h)
                          refine ⟨_, rfl, iteT (bad0 ?_)⟩
                          rw [e0]
                          show (decide ((1 : Int) ≤ cc) && decide (cc ≤ 9999)) = false
                          rw [decide_eq_false this]
                          rfl
                        refine ⟨cc, 9999, rfl, rfl, _, rfl, ite2 (fun c2 => ?_) fun c2 => ?_⟩
                        · have : ¬ cc ≤ 9999 := fun h => by
                            rw [decide_eq_true h] at c2
                            cases c2
                          refine iteT (bad0 ?_)
                          rw [e0]
                          show (decide ((1 : Int) ≤ cc) && decide (cc ≤ 9999)) = false
                          rw [decide_eq_false this, Bool.and_false]
                        have c1 := of_decide_eq_true c1
                        have c2 : cc ≤ 9999 := Decidable.byContradiction fun h => c2 (by rw [decide_eq_false h]; rfl)
                        have good : tieB es (.tuple [.str a, .str b, .str y, .int cc]) = true := by
                          rw [e0]
                          exact Bool.and_eq_true_iff.mpr ⟨decide_eq_true c1, decide_eq_true c2⟩
                        refine ⟨.str a, rfl, .str b, rfl, two_sz, fun l nl => ?_⟩
                        have sl := same_upd (o := .lst [V.str a, .str b]) nl
                        refine ⟨l, [a, b], rfl, SqL.of upd_same, show 2 < 64 by decide, fun ys o pm so no => ?_⟩
                        have ey := srt2_of pm so
                        subst ey
                        have so' := same_upd (o := .lst ((srt2 a b).map V.str)) no
                        have slo := sl.trans so'
                        have eo : upd (upd Hx l (.lst [V.str a, .str b])) o (.lst ((srt2 a b).map V.str)) o = some (.lst ((srt2 a b).map V.str)) := upd_same
                        generalize upd (upd Hx l (.lst [V.str a, .str b])) o (.lst ((srt2 a b).map V.str)) = H2 at slo eo ⊢
                        have okp : ∀ z ∈ srt2 a b, PyData.strOk z = true := fun z hz => (srt2_mem hz).elim (fun e => by rw [e]; exact sha) fun e => by rw [e]; exact shb
                        have hpa2 : Paired (fun a (x : List Str) => H2 a = some (.lst (x.map V.str))) pa ((ds.take i).map pairD) := paired_imp hpa fun _ _ _ h => slo _ _ h.1
                        have shp : SeqAt.shaped (.list ((srt2 a b).map PyData.str)) = true := Bool.and_eq_true_iff.mpr ⟨lay_allG fun e he => by
                          obtain ⟨z, hz, rfl⟩ := List.mem_map.mp he
                          exact okp z hz, decide_eq_true (by
                          show PyData.depthAll ((srt2 a b).map PyData.str) + 1 ≤ 64
                          have := dep_allG (ds := (srt2 a b).map PyData.str) (n := 0) fun e he => by
                            obtain ⟨z, hz, rfl⟩ := List.mem_map.mp he
                            exact Nat.le_refl 0
                          omega)⟩
                        refine ⟨.ref L, rfl, .list ((srt2 a b).map PyData.str), lstsD ((ds.take i).map pairD), .lst (SqL.of eo) (dpAll_strs _), .lst (SqL.of (slo _ _ eLx)) (dpAll_lsts hpa2), shp, lsts_sh hok, _, rfl, ?_⟩
                        rw [any_lsts]
                        have epd : pairD (.tuple [.str a, .str b, .str y, .int cc]) = srt2 a b := rfl
                        by_cases dup : srt2 a b ∈ (ds.take i).map pairD
                        · rw [decide_eq_true dup]
                          refine iteT ?_
                          have := q H2 (sx.trans slo)
                          rw [tiesR_dup ed (by rw [epd]; exact dup)] at this
                          exact this
                        · rw [decide_eq_false dup]
                          refine iteF ?_
                          have eL2 := slo _ _ eLx
                          refine ⟨.ref L, rfl, .inl ⟨rfl, _, SqL.of eL2⟩, .str a, rfl, .str b, rfl, two_sz, fun l2 nl2 => ?_⟩
                          have sl2 := same_upd (o := .lst [V.str a, .str b]) nl2
                          refine ⟨l2, [a, b], rfl, SqL.of upd_same, show 2 < 64 by decide, fun ys o2 pm2 so2 no2 => ?_⟩
                          have ey2 := srt2_of pm2 so2
                          subst ey2
                          have s22 := sl2.trans (same_upd (o := .lst ((srt2 a b).map V.str)) no2)
                          have eo2 : upd (upd H2 l2 (.lst [V.str a, .str b])) o2 (.lst ((srt2 a b).map V.str)) o2 = some (.lst ((srt2 a b).map V.str)) := upd_same
                          have eL3 := s22 _ _ eL2
                          have noL : o2 ≠ L := fun z => by
                            have := sl2 _ _ eL2
                            rw [← z, no2] at this
                            cases this
                          generalize upd (upd H2 l2 (.lst [V.str a, .str b])) o2 (.lst ((srt2 a b).map V.str)) = H3 at s22 eo2 eL3 ⊢
                          have s3 := (sx.trans slo).trans s22
                          have tk1 : ds.take (i + 1) = ds.take i ++ [.tuple [.str a, .str b, .str y, .int cc]] := by rw [List.take_add_one, ed]; rfl
                          have pal := paired_len hpa
                          rw [List.length_map, List.length_take] at pal
                          refine ⟨L, pa.map V.ref, .ref o2, rfl, rfl, eL3, small5000 (by rw [List.length_map]; omega), _, _, _, _, _, pa ++ [o2], rfl, same_set s3 nL, by rw [upd_same, List.map_append]; rfl, ?_, ?_, ?_, ?_⟩
                          · rw [tk1, List.map_append]
                            exact paired_append (paired_imp hpa fun _ _ _ h => ⟨by rw [upd_ne h.2]; exact s22 _ _ (slo _ _ h.1), h.2⟩) (.cons ⟨by rw [upd_ne noL, epd]; exact eo2, noL⟩ .nil)
                          · intro d hd
                            rw [tk1] at hd
                            rcases List.mem_append.mp hd with h | h
                            · exact hall d h
                            · rw [List.mem_singleton.mp h]; exact good
                          · rw [tk1, List.map_append]
                            refine List.nodup_append.mpr ⟨hnd, List.pairwise_singleton _ _, fun x hx z hz e => ?_⟩
                            have hz : z = srt2 a b := List.mem_singleton.mp hz
                            rw [← hz, ← e] at dup
                            exact dup hx
                          · intro x hx
                            rw [tk1, List.map_append] at hx
                            rcases List.mem_append.mp hx with h | h
                            · exact hok x h
                            · have h : x = srt2 a b := List.mem_singleton.mp h
                              rw [h]
                              exact okp
    · obtain ⟨y4, y5, y6, y7, y8, pa, rfl, sx, eLx, hpa, hall, hnd, hok⟩ := hp
      rw [xl, List.take_length] at hall hnd
      have := q Hx sx
      rw [show tiesR es ds = true from Bool.and_eq_true_iff.mpr ⟨List.all_eq_true.mpr hall, decide_eq_true hnd⟩] at this
      exact this
end
end Th
namespace Th
open PySem PySem.Spec PyProof.Rows L2
structure NbP (dl ds dj dt : List PyData) : Prop where
  l1 : 1 ≤ dl.length
  l8 : dl.length ≤ 8
  ln : dl.all nameD = true
  lnd : (namesD dl).Nodup
  s16 : ds.length ≤ 16
  st : ds.all (stationB (namesD dl)) = true
  j12 : dj.length ≤ 12
  jn : dj.all (junctionB (namesD dl)) = true
  nd : ((ds ++ dj).map firstS).Nodup
  t40 : dt.length ≤ 40
  ti : tiesR (entD (.tuple ds) (.tuple dj)) dt = true
theorem nb_iff {dl ds dj dt : List PyData} : netB (.tuple [.tuple dl, .tuple ds, .tuple dj, .tuple dt]) = true ↔ NbP dl ds dj dt := by
  show (linesB (.tuple dl) && stationsB (namesD dl) (.tuple ds) && junctionsB (namesD dl) (.tuple dj) && decide ((ds ++ dj).map firstS).Nodup && tiesB (entD (.tuple ds) (.tuple dj)) (.tuple dt)) = true ↔ _
  have e1 : linesB (.tuple dl) = (decide ((1 : Int) ≤ (dl.length : Int)) && decide ((dl.length : Int) ≤ 8) && (dl.all nameD && decide (namesD dl).Nodup)) := rfl
  have e2 : stationsB (namesD dl) (.tuple ds) = (decide ((0 : Int) ≤ (ds.length : Int)) && decide ((ds.length : Int) ≤ 16) && ds.all (stationB (namesD dl))) := rfl
  have e3 : junctionsB (namesD dl) (.tuple dj) = (decide ((0 : Int) ≤ (dj.length : Int)) && decide ((dj.length : Int) ≤ 12) && dj.all (junctionB (namesD dl))) := rfl
  have e4 : tiesB (entD (.tuple ds) (.tuple dj)) (.tuple dt) = (decide ((0 : Int) ≤ (dt.length : Int)) && decide ((dt.length : Int) ≤ 40) && tiesR (entD (.tuple ds) (.tuple dj)) dt) := rfl
  rw [e1, e2, e3, e4]
  simp only [Bool.and_eq_true, decide_eq_true_eq]
  constructor
  · rintro ⟨⟨⟨⟨⟨⟨a, b⟩, c, d⟩, ⟨_, e⟩, f⟩, ⟨_, g⟩, h⟩, i⟩, ⟨_, j⟩, k⟩
    exact ⟨by omega, by omega, c, d, by omega, f, by omega, h, i, by omega, k⟩
  · intro h
    have := h.l1
    have := h.l8
    have := h.s16
    have := h.j12
    have := h.t40
    exact ⟨⟨⟨⟨⟨⟨by omega, by omega⟩, h.ln, h.lnd⟩, ⟨by omega, by omega⟩, h.st⟩, ⟨by omega, by omega⟩, h.jn⟩, h.nd⟩, ⟨by omega, by omega⟩, h.ti⟩
theorem nb_tups {d1 d2 d3 d4 : PyData} (h : netB (.tuple [d1, d2, d3, d4]) = true) : isiT d1 = true ∧ isiT d2 = true ∧ isiT d3 = true ∧ isiT d4 = true := by
  have h : (linesB d1 && stationsB (linesS d1) d2 && junctionsB (linesS d1) d3 && decide ((itemsD d2 ++ itemsD d3).map firstS).Nodup && tiesB (entD d2 d3) d4) = true := h
  simp only [Bool.and_eq_true] at h
  obtain ⟨⟨⟨⟨a, b⟩, c⟩, _⟩, d⟩ := h
  have t : ∀ {d : PyData} {x y : Int}, tupD d x y = true → isiT d = true := fun {d x y} h => by
    cases d with
    | tuple _ => rfl
    | _ => cases h
  unfold linesB at a
  unfold stationsB at b
  unfold junctionsB at c
  unfold tiesB at d
  exact ⟨t (Bool.and_eq_true_iff.mp a).1, t (Bool.and_eq_true_iff.mp b).1, t (Bool.and_eq_true_iff.mp c).1, t (Bool.and_eq_true_iff.mp d).1⟩
theorem nb_row {ls : List Str} {d : PyData} (h : stationB ls d = true ∨ junctionB ls d = true) : ∃ a e, d = .tuple [.str a, e] ∧ nameS a = true := by
  rcases h with h | h
  · obtain ⟨a, b, rfl, n, _⟩ := station_inv h
    exact ⟨a, _, rfl, n⟩
  · obtain ⟨a, bs, rfl, n, _⟩ := junction_inv h
    exact ⟨a, _, rfl, n⟩
theorem eqv_lt : ∀ a b : List PyData, PyData.eqv (.list a) (.list b) = PyData.eqv (.tuple a) (.tuple b)
  | [], [] => rfl
  | [], _ :: _ => rfl
  | _ :: _, [] => rfl
  | x :: a, y :: b => by
    show (PyData.eqv x y && PyData.eqv (.list a) (.list b)) = (PyData.eqv x y && PyData.eqv (.tuple a) (.tuple b))
    rw [eqv_lt a b]
theorem isiT_tup {d : PyData} (h : isiT d = true) : ∃ ds, d = .tuple ds := by
  cases d with
  | tuple ds => exact ⟨ds, rfl⟩
  | _ => cases h
theorem lkF_mem2 : ∀ {es : List (Nm × List Nm)} {z : Nm} {l : List Nm}, lkF es z = some l → ∃ e ∈ es, e.1 = z ∧ e.2 = l := fun {es} => by
  refine rev_ind' (p := fun es => ∀ {z : Nm} {l : List Nm}, lkF es z = some l → ∃ e ∈ es, e.1 = z ∧ e.2 = l) (fun {z l} h => by cases h) (fun es e ih {z l} h => ?_) es
  rw [lkF_snoc] at h
  split at h
  · next c => exact ⟨e, by simp, c.symm, Option.some.inj h⟩
  · obtain ⟨x, hx, ex⟩ := ih h
    exact ⟨x, by simp [hx], ex⟩
theorem lkF_none : ∀ {es : List (Nm × List Nm)} {z : Nm}, lkF es z = none → ∀ e ∈ es, e.1 ≠ z := fun {es} => by
  refine rev_ind' (p := fun es => ∀ {z : Nm}, lkF es z = none → ∀ e ∈ es, e.1 ≠ z) (fun {z} h e he => by cases he) (fun es e ih {z} h x hx => ?_) es
  rw [lkF_snoc] at h
  split at h
  · cases h
  · next c =>
    rcases List.mem_append.mp hx with g | g
    · exact ih h x g
    · rw [List.mem_singleton.mp g]
      exact fun w => c w.symm
abbrev Row3 := Str × V × PyData
structure RowsA (H : Hp) (rv : List V) (rows : List PyData) (kvs : List (Key × V)) (ts : List Row3) (i : Nat) : Prop where
  n : ts.length = i
  e : rows.take i = ts.map fun x => .tuple [.str x.1, x.2.2]
  h : ∀ (j : Nat) (x : Row3), ts[j]? = some x → ∃ u, rv[j]? = some (.ref u) ∧ TPl H u [.str x.1, x.2.1] ∧ Df H x.2.1 x.2.2
  nm : ∀ x ∈ ts, nameS x.1 = true
  nd : (ts.map (·.1)).Nodup
  at_ : ∀ x ∈ ts, valV kvs (Sum.inr x.1) = some x.2.1
  no : ∀ z, z ∉ ts.map (·.1) → valV kvs (Sum.inr z) = none
  len : kvs.length ≤ i
/-- how long the first of its things is -/
def W0 (d : PyData) : Prop := ∀ es r, d = .tuple (.tuple es :: r) → es.length ≤ 1000
section
variable {P : Program} {w : World} {K : PySem.W.Frag} {mg : Str → Option Value} {base : Heap} {k : Nat}
def sp_l_is_net : Sp := fun vs H Q _ => ∃ v d, vs = [v] ∧ Df H v d ∧ Tb d ∧ SeqAt.shaped d = true ∧ W0 d ∧ ∀ H', Same H H' → Q (.bl (netB d)) H'
set_option maxHeartbeats 16000000 in
theorem ok_l_is_net (T : Defs K mg) : FnOk P w K mg base CX0 (k + 3) T.a_l_is_net T.d_l_is_net ["_law_thing"] sp_l_is_net := by
  have G_l_is_name : FnOk P w K mg base CX0 (k + 2) _ _ _ _ := ok_l_is_name (k := k + 1) T
  have G_l_are_ties : FnOk P w K mg base CX0 (k + 2) _ _ _ _ := ok_l_are_ties (k := k) T
  refine T.F_l_is_net.ok sc_l_is_net (fun vs H Q E h => ?_) (fun cdv A outer s H vs Q E hr h => ?_)
  · obtain ⟨v, d, rfl, _⟩ := h
    rfl
  · obtain ⟨v, d, rfl, hv, tb, sh, w0, q⟩ := h
    refine ⟨_, PSs.nox
(pss_cons (ps_if (PW.pt (pw_or (pt_not (pt_val (pe_callB (r := rIsi K) call_isi (by rfl) T.z_isinstance (by decide +kernel) (pa_cons (pv 0) (pa_cons (pe_bltn (v := .ty "tuple") (by rfl) T.z_tuple (by decide +kernel) rfl) pa_nil))))) (pw_or (pt_cmpR op_ne (pe_callB (r := rLenS K) call_lenS (by rfl) T.z_len (by decide +kernel) (pa_cons (pv 0) pa_nil)) (pe_int) (nomark _)) (pw_or1 (pt_not (pt_val (pe_callB (r := rAll K) (cr_all rfl) (by rfl) T.z_all (by decide +kernel) (pa_cons (pe_lc (own := [("_law_one", 6)]) (g := gName 6) rfl sc_l_is_net.nd (pi_tup (pv 0)) (blkOk_by (N := N_l_is_net) (sc := defScope s_l_is_net) (by decide +kernel)) (fun _ _ _ _ _ => (pg_name (i := 6) sc_l_is_net.nd rfl (.inl rfl))) (fun _ _ _ _ _ => pts_nil) (fun _ _ _ _ _ => (pe_callB (r := rIsi K) call_isi (by rfl) T.z_isinstance (by decide +kernel) (pa_cons (pv 6) (pa_cons (pe_bltn (v := .ty "tuple") (by rfl) T.z_tuple (by decide +kernel) rfl) pa_nil))))) pa_nil))))))))
      (pss_one (ps_ret (pe_bl)))
      pss_nil)
    (pss_cons (ps_asg (pv 0) (pg_tup rfl (pgs_cons (pg_name (i := 1) sc_l_is_net.nd rfl (.inl rfl)) (pgs_cons (pg_name (i := 2) sc_l_is_net.nd rfl (.inl rfl)) (pgs_cons (pg_name (i := 3) sc_l_is_net.nd rfl (.inl rfl)) (pgs_cons (pg_name (i := 4) sc_l_is_net.nd rfl (.inl rfl)) pgs_nil))))))
    (pss_cons (ps_if (PW.pt (pw_or (pt_not (pt_val (pe_callB (r := rAll K) (cr_all rfl) (by rfl) T.z_all (by decide +kernel) (pa_cons (pe_lc (own := [("_law_line", 8)]) (g := gName 8) rfl sc_l_is_net.nd (pi_tup (pv 1)) (blkOk_by (N := N_l_is_net) (sc := defScope s_l_is_net) (by decide +kernel)) (fun _ _ _ _ _ => (pg_name (i := 8) sc_l_is_net.nd rfl (.inl rfl))) (fun _ _ _ _ _ => pts_nil) (fun _ _ _ _ _ => (pe_call G_l_is_name hr (by rfl) T.g_l_is_name T.F_l_is_name.kp T.b_l_is_name .nil pass0 (pa_cons (pv 8) pa_nil)))) pa_nil)))) (pw_or (pt_cmpR op_ne (pe_callB (r := Spr.rLenU P w) Spr.call_lenU (by rfl) T.z_len (by decide +kernel) (pa_cons (pe_callTy (r := Spr.rSetU K P w) (Spr.cr_setU rfl hr.units) (by rfl) T.z_set (by decide +kernel) (pa_cons (pv 1) pa_nil)) pa_nil)) (pe_callB (r := rLenS K) call_lenS (by rfl) T.z_len (by decide +kernel) (pa_cons (pv 1) pa_nil)) (nomark _)) (pw_or1 (pt_not (pt_chain op_le op_le (pe_int) (pe_callB (r := rLenS K) call_lenS (by rfl) T.z_len (by decide +kernel) (pa_cons (pv 1) pa_nil)) (pe_int)))))))
      (pss_one (ps_ret (pe_bl)))
      pss_nil)
    (pss_cons (ps_if (PW.pt (pw_or (pt_cmpR op_gt (pe_callB (r := rLenS K) call_lenS (by rfl) T.z_len (by decide +kernel) (pa_cons (pv 2) pa_nil)) (pe_int) (nomark _)) (pw_or (pt_cmpR op_gt (pe_callB (r := rLenS K) call_lenS (by rfl) T.z_len (by decide +kernel) (pa_cons (pv 3) pa_nil)) (pe_int) (nomark _)) (pw_or1 (pt_cmpR op_gt (pe_callB (r := rLenS K) call_lenS (by rfl) T.z_len (by decide +kernel) (pa_cons (pv 4) pa_nil)) (pe_int) (nomark _))))))
      (pss_one (ps_ret (pe_bl)))
      pss_nil)
    (pss_cons (ps_set (i := 5) sc_l_is_net.nd rfl (.inl rfl) (pe_dnewK))
    (pss_cons (ps_for PassesOwn.never rfl (pi_tup (pe_op op_catA (pv 2) (pv 3))) (pg_name (i := 6) sc_l_is_net.nd rfl (.inl rfl))
      (pss_cons (ps_if (PW.pt (pw_or (pt_not (pt_val (pe_callB (r := rIsi K) call_isi (by rfl) T.z_isinstance (by decide +kernel) (pa_cons (pv 6) (pa_cons (pe_bltn (v := .ty "tuple") (by rfl) T.z_tuple (by decide +kernel) rfl) pa_nil))))) (pw_or (pt_cmpR op_ne (pe_callB (r := rLenS K) call_lenS (by rfl) T.z_len (by decide +kernel) (pa_cons (pv 6) pa_nil)) (pe_int) (nomark _)) (pw_or (pt_not (pt_val (pe_call G_l_is_name hr (by rfl) T.g_l_is_name T.F_l_is_name.kp T.b_l_is_name .nil pass0 (pa_cons (pe_ix (r := rIxT K) ix_tup (pv 6) (pe_int) (fun _ _ => rfl)) pa_nil)))) (pw_or1 (pt_cmp (pc_din (hu_of hr) (pe_ix (r := rIxT K) ix_tup (pv 6) (pe_int) (fun _ _ => rfl)) (pv 5))))))))
        (pss_one (ps_ret (pe_bl)))
        pss_nil)
      (pss_one (ps_dput (hu_of hr) (pv 5) (pe_ix (r := rIxT K) ix_tup (pv 6) (pe_int) (fun _ _ => rfl)) (pe_ix (r := rIxT K) ix_tup (pv 6) (pe_int) (fun _ _ => rfl)) (by rfl)))))
    (pss_cons (ps_for PassesOwn.never rfl (pi_tup (pv 2)) (pg_tup rfl (pgs_cons (pg_name (i := 7) sc_l_is_net.nd rfl (.inl rfl)) (pgs_cons (pg_name (i := 8) sc_l_is_net.nd rfl (.inl rfl)) pgs_nil)))
      (pss_cons (ps_if (pt_cmpR (InT.op_notInT (un65 hr)) (pv 8) (pv 1) (by rfl))
        (pss_one (ps_ret (pe_bl)))
        pss_nil)
      (pss_one (ps_dput (hu_of hr) (pv 5) (pv 7) (pe_lst (pa_cons (pv 8) pa_nil)) (by rfl)))))
    (pss_cons (ps_for PassesOwn.never rfl (pi_tup (pv 3)) (pg_tup rfl (pgs_cons (pg_name (i := 7) sc_l_is_net.nd rfl (.inl rfl)) (pgs_cons (pg_name (i := 9) sc_l_is_net.nd rfl (.inr rfl)) pgs_nil)))
      (pss_one (ps_if (PW.pt (pw_or (pt_not (pt_val (pe_callB (r := rIsi K) call_isi (by rfl) T.z_isinstance (by decide +kernel) (pa_cons (pv 9) (pa_cons (pe_bltn (v := .ty "tuple") (by rfl) T.z_tuple (by decide +kernel) rfl) pa_nil))))) (pw_or (pt_cmpR op_lt (pe_callB (r := rLenS K) call_lenS (by rfl) T.z_len (by decide +kernel) (pa_cons (pv 9) pa_nil)) (pe_int) (nomark _)) (pw_or1 (pt_cmpR (r := rNeD K) (op_neD hr.units) (pe_callTy call_list_of (by rfl) T.z_list (by decide +kernel) (pa_cons (pv 9) pa_nil)) (pe_lc (own := [("_law_line", 8)]) (g := gName 8) rfl sc_l_is_net.nd (pi_tup (pv 1)) (blkOk_by (N := N_l_is_net) (sc := defScope s_l_is_net) (by decide +kernel)) (fun _ _ _ _ _ => (pg_name (i := 8) sc_l_is_net.nd rfl (.inl rfl))) (fun _ _ _ _ _ => pts_one (pt_cmpR (r := InT.rInT K) (InT.op_inT (un65 hr)) (pv 8) (pv 9) (by rfl))) (fun _ _ _ _ _ => (pv 8))) (nomark _))))))
        (pss_one (ps_ret (pe_bl)))
        pss_nil)))
    (pss_one (ps_ret (pe_call G_l_are_ties hr (by rfl) T.g_l_are_ties T.F_l_are_ties.kp T.b_l_are_ties .nil pass0 (pa_cons (pv 5) (pa_cons (pv 1) (pa_cons (pv 4) pa_nil))))))))))))))
      , ?_⟩
    have sz : ∀ {a : Nat}, a ≤ 5000 → a ≤ sizeLine := fun h => Nat.le_of_lt (small5000 h)
    have bad : ¬ netB d = true → ∀ H', Same H H' → Q (.bl false) H' := fun h H' s => by
      have := q H' s
      rw [Bool.eq_false_iff.mpr h] at this
      exact this
    have bad0 := fun h => bad h H fun _ _ z => z
    refine ⟨v, rfl, v, .ty "tuple", _, _, _, rfl, .ty _, hv.ty, kit_T d, isiT d, rfl, ?_⟩
    cases d with
    | int i => exact iteT (bad0 fun h => by cases h)
    | bool b => exact iteT (bad0 fun h => by cases h)
    | none => exact iteT (bad0 fun h => by cases h)
    | list _ => exact iteT (bad0 fun h => by cases h)
    | str _ => exact iteT (bad0 fun h => by cases h)
    | dict _ => exact iteT (bad0 fun h => by cases h)
    | tuple d0 =>
      obtain ⟨u0, us, rfl, eu0, hus, ul⟩ := tup_inv hv
      refine iteF ⟨.ref u0, rfl, u0, us, rfl, .inr eu0.sq, rfl, _, rfl, ite2 (fun c => ?_) fun c => ?_⟩
      · refine bad0 fun h => ?_
        have c : (!decide (V.int (us.length : Int) = V.int 4)) = true := c
        unfold netB at h
        split at h
        · rename_i h'
          injection h' with h'
          rw [h'] at ul
          rw [ul] at c
          have c : (!decide (V.int ((4 : Nat) : Int) = V.int 4)) = true := c
          exact absurd c (by decide)
        · cases h
      have u4 : us.length = 4 := by
        have c : (!decide (V.int (us.length : Int) = V.int 4)) = false := by simpa using c
        have c : V.int (us.length : Int) = V.int 4 := by simpa using c
        injection c with c
        omega
      clear c
      obtain ⟨d1, d2, d3, d4, rfl⟩ := four_of (l := d0) (by omega)
      refine ⟨.ref u0, rfl, u0, rfl, ⟨_, eu0.sq⟩, fun C nC => ?_⟩
      refine lc_it (walk_tup (xs := us)) (fun i Hx => Same H Hx ∧ Hx C = some (.lst ((([d1, d2, d3, d4].take i).map isiT).map V.bl))) ⟨same_upd nC, upd_same⟩ (fun i Hx _ pv => (eu0.same pv.1).sq) (fun i x Hx₀ Hx hi pv yy => ?_) (fun H1 pv => ?_)
      · obtain ⟨rfl, ex⟩ := yy
        obtain ⟨sx, eC⟩ := pv
        obtain ⟨e, ee, he⟩ := hus.get ex
        have he := he.same sx
        have tk1 : [d1, d2, d3, d4].take (i + 1) = [d1, d2, d3, d4].take i ++ [e] := by rw [List.take_add_one, ee]; rfl
        refine ⟨rfl, yes_ ⟨x, rfl, x, .ty "tuple", _, _, _, rfl, .ty _, he.ty, kit_T e, ?_⟩⟩
        refine ⟨_, eC, small5000 (by rw [List.length_map, List.length_map, List.length_take]; omega), same_set sx nC, ?_⟩
        rw [upd_same, tk1, List.map_append, List.map_append]
        rfl
      obtain ⟨s1, eC⟩ := pv
      rw [u4] at eC
      have eC : H1 C = some (.lst ([isiT d1, isiT d2, isiT d3, isiT d4].map V.bl)) := eC
      refine ⟨C, _, rfl, SqL.of eC, ?_⟩
      by_cases ct : ([isiT d1, isiT d2, isiT d3, isiT d4].all id) = true
      rotate_left
      · refine ⟨_, rfl, ?_⟩
        rw [Bool.eq_false_iff.mpr ct]
        exact bad (fun h => by
          obtain ⟨t1, t2, t3, t4⟩ := nb_tups h
          rw [t1, t2, t3, t4] at ct
          exact ct rfl) _ s1
      refine ⟨_, rfl, ?_⟩
      rw [ct]
      have ct : (isiT d1 && (isiT d2 && (isiT d3 && (isiT d4 && true)))) = true := ct
      simp only [Bool.and_true, Bool.and_eq_true] at ct
      obtain ⟨t1, t2, t3, t4⟩ := ct
      obtain ⟨dl, rfl⟩ := isiT_tup t1
      obtain ⟨ds, rfl⟩ := isiT_tup t2
      obtain ⟨dj, rfl⟩ := isiT_tup t3
      obtain ⟨dt, rfl⟩ := isiT_tup t4
      obtain ⟨x1, x2, x3, x4, rfl, h1, h2, h3, h4⟩ : ∃ x1 x2 x3 x4, us = [x1, x2, x3, x4] ∧ Df H x1 (.tuple dl) ∧ Df H x2 (.tuple ds) ∧ Df H x3 (.tuple dj) ∧ Df H x4 (.tuple dt) := by
        cases hus with
        | cons h1 r =>
          cases r with
          | cons h2 r =>
            cases r with
            | cons h3 r =>
              cases r with
              | cons h4 r => cases r; exact ⟨_, _, _, _, rfl, h1, h2, h3, h4⟩
      obtain ⟨al, vl, rfl, tl, hl, ll⟩ := tup_inv (h1.same s1)
      obtain ⟨as_, vs, rfl, ts, hs, lsn⟩ := tup_inv (h2.same s1)
      obtain ⟨aj, vj, rfl, tj, hj, lj⟩ := tup_inv (h3.same s1)
      obtain ⟨at_, vt, rfl, tt, ht, lt⟩ := tup_inv (h4.same s1)
      have nb := nb_iff (dl := dl) (ds := ds) (dj := dj) (dt := dt)
      have l1000 : dl.length ≤ 1000 := w0 dl _ rfl
      refine iteF ⟨.ref u0, rfl, u0, _, rfl, (eu0.same s1).sq, rfl, _, _, rfl, _, _, rfl, _, _, rfl, _, [], rfl, rfl, ?_⟩
      refine ⟨.ref al, rfl, al, rfl, ⟨_, tl.sq⟩, fun C2 nC2 => ?_⟩
      have tbl := (tb.mem (.tuple dl) (by simp)).mem
      refine lc_it (walk_tup (xs := vl)) (fun i Hx => Same H1 Hx ∧ Hx C2 = some (.lst (((dl.take i).map nameD).map V.bl))) ⟨same_upd nC2, upd_same⟩ (fun i Hx _ pv => (tl.same pv.1).sq) (fun i x Hx₀ Hx hi pv yy => ?_) (fun H2 pv => ?_)
      · obtain ⟨rfl, ex⟩ := yy
        obtain ⟨sx, eC2⟩ := pv
        obtain ⟨e, ee, he⟩ := hl.get ex
        have he := he.same sx
        have tk1 : dl.take (i + 1) = dl.take i ++ [e] := by rw [List.take_add_one, ee]; rfl
        refine ⟨rfl, yes_ ⟨x, rfl, x, e, rfl, he, (tbl e (List.mem_of_getElem? ee)).len, fun H' s' => ?_⟩⟩
        refine ⟨_, s' _ _ eC2, small5000 (by rw [List.length_map, List.length_map, List.length_take]; omega), same_set (sx.trans s') nC2, ?_⟩
        rw [upd_same, tk1, List.map_append, List.map_append]
        rfl
      obtain ⟨s2, eC2⟩ := pv
      rw [ll, List.take_length] at eC2
      refine ⟨C2, _, rfl, SqL.of eC2, ?_⟩
      have s12 := s1.trans s2
      rw [show (dl.map nameD).all id = dl.all nameD by rw [List.all_map]; rfl]
      by_cases aln : dl.all nameD = true
      rotate_left
      · refine ⟨_, rfl, ?_⟩
        rw [Bool.eq_false_iff.mpr aln]
        exact bad (fun h => aln (nb.mp h).ln) _ s12
      refine ⟨_, rfl, ?_⟩
      rw [aln]
      have edl := names_all aln
      have evl : vl = (namesD dl).map V.str := dfAll_vs (by rw [← edl]; exact hl)
      have nln := names_len aln
      have tl2 := tl.same s2
      refine iteF ⟨.ref al, rfl, .inl ⟨al, namesD dl, rfl, .inr (.inl (by rw [← evl]; exact tl2)), by omega, fun a na => .inl ⟨a, namesD dl, rfl, upd_same, fun c le nd => ?_⟩⟩⟩
      have sa := same_upd (o := Stx.SetTxO P w a (namesD dl)) na
      refine ⟨.ref al, rfl, al, _, rfl, .inr (tl2.same sa).sq, rfl, _, rfl, ite2 (fun c1 => ?_) fun c1 => ?_⟩
      · refine bad (fun h => ?_) _ (s12.trans sa)
        have := nd.mpr (nb.mp h).lnd
        have c1 : (!decide (V.int (c : Int) = V.int (vl.length : Int))) = true := c1
        rw [show c = vl.length by omega] at c1
        simp at c1
      have c1 : V.int (c : Int) = V.int (vl.length : Int) := by
        have c1 : ¬ (!decide (V.int (c : Int) = V.int (vl.length : Int))) = true := c1
        simpa using c1
      have lnd : (namesD dl).Nodup := nd.mp (by injection c1 with c1; omega)
      have s13 := s12.trans sa
      generalize upd H2 a (Stx.SetTxO P w a (namesD dl)) = H3 at sa s13 ⊢
      have tl3 := tl2.same sa
      have ts3 := (ts.same s2).same sa
      have tj3 := (tj.same s2).same sa
      have tt3 := (tt.same s2).same sa
      refine ⟨.ref al, rfl, al, _, rfl, .inr tl3.sq, 1, (vl.length : Int), rfl, rfl, _, rfl, ite2 (fun c1 => ?_) fun c1 => ?_⟩
      rotate_left
      · refine ⟨_, rfl, iteT (bad (fun h => ?_) _ s13)⟩
        have := (nb.mp h).l1
        exact c1 (decide_eq_true (by omega))
      refine ⟨(vl.length : Int), 8, rfl, rfl, _, rfl, ite2 (fun c2 => ?_) fun c2 => ?_⟩
      · refine bad (fun h => ?_) _ s13
        have := (nb.mp h).l8
        rw [show decide ((vl.length : Int) ≤ 8) = true from decide_eq_true (by omega)] at c2
        cases c2
      have l1 := of_decide_eq_true c1
      have l8 : (vl.length : Int) ≤ 8 := Decidable.byContradiction fun h => c2 (by rw [decide_eq_false h]; rfl)
      clear c1 c2
      refine ⟨.ref as_, rfl, as_, vs, rfl, .inr ts3.sq, (vs.length : Int), 16, rfl, rfl, _, rfl, ite2 (fun c1 => ?_) fun c1 => ?_⟩
      · refine iteT (bad (fun h => ?_) _ s13)
        have := (nb.mp h).s16
        have := of_decide_eq_true c1
        omega
      have s16 : ds.length ≤ 16 := by
        have : ¬ (16 : Int) < (vs.length : Int) := fun h => c1 (decide_eq_true h)
        omega
      clear c1
      refine ⟨.ref aj, rfl, aj, vj, rfl, .inr tj3.sq, (vj.length : Int), 12, rfl, rfl, _, rfl, ite2 (fun c1 => ?_) fun c1 => ?_⟩
      · refine iteT (bad (fun h => ?_) _ s13)
        have := (nb.mp h).j12
        have := of_decide_eq_true c1
        omega
      have j12 : dj.length ≤ 12 := by
        have : ¬ (12 : Int) < (vj.length : Int) := fun h => c1 (decide_eq_true h)
        omega
      clear c1
      refine ⟨.ref at_, rfl, at_, vt, rfl, .inr tt3.sq, (vt.length : Int), 40, rfl, rfl, _, rfl, ite2 (fun c1 => ?_) fun c1 => ?_⟩
      · refine bad (fun h => ?_) _ s13
        have := (nb.mp h).t40
        have := of_decide_eq_true c1
        omega
      have t40 : dt.length ≤ 40 := by
        have : ¬ (40 : Int) < (vt.length : Int) := fun h => c1 (decide_eq_true h)
        omega
      clear c1
      refine fun D nD => ?_
      have nD3 := nD
      have sD := same_upd (o := .dK []) nD
      have s14 := s13.trans sD
      have eD0 : upd H3 D (.dK []) D = some (.dK []) := upd_same
      have ts4 := ts3.same sD
      have tj4 := tj3.same sD
      have hs3 := (hs.same s2).same sa
      have hj3 := (hj.same s2).same sa
      show gName 5 _ _ (upd H3 D (.dK [])) _
      generalize upd H3 D (.dK []) = H4 at sD s14 eD0 ts4 tj4 ⊢
      refine ⟨.ref as_, rfl, .ref aj, rfl, ?_⟩
      show rCatA K (.ref as_) (.ref aj) _ _
      refine catT_of ts4 tj4 (sz (by omega)) fun c5 H5 s5 h5 => ?_
      have hr3 := hs3.app hj3
      have s15 := s14.trans s5
      have rl : (vs ++ vj).length = (ds ++ dj).length := by rw [List.length_append, List.length_append, lsn, lj]
      have r28 : (ds ++ dj).length ≤ 28 := by rw [List.length_append]; omega
      have rb : ∀ e ∈ ds ++ dj, netB (.tuple [.tuple dl, .tuple ds, .tuple dj, .tuple dt]) = true → ∃ a e', e = .tuple [.str a, e'] ∧ nameS a = true := fun e he h => nb_row ((List.mem_append.mp he).imp (List.all_eq_true.mp (nb.mp h).st e) (List.all_eq_true.mp (nb.mp h).jn e))
      have tbr : ∀ e ∈ ds ++ dj, Tb e := fun e he => (List.mem_append.mp he).elim ((tb.mem (.tuple ds) (by simp)).mem e) ((tb.mem (.tuple dj) (by simp)).mem e)
      refine ⟨c5, rfl, ⟨_, h5.sq⟩, ?_⟩
      refine for_it (walk_tup (xs := vs ++ vj)) (fun i σ Hx => ∃ (y6 y7 y8 y9 : Option V) (kvs : List (Key × V)) (tr : List Row3), σ = [some (.ref u0), some (.ref al), some (.ref as_), some (.ref aj), some (.ref at_), some (.ref D), y6, y7, y8, y9] ∧ Same H3 Hx ∧ Hx D = some (.dK kvs) ∧ TPl Hx c5 (vs ++ vj) ∧ RowsA H3 (vs ++ vj) (ds ++ dj) kvs tr i) ⟨_, _, _, _, [], [], rfl, sD.trans s5, s5 _ _ eD0, h5, ⟨rfl, rfl, fun _ _ h => (by cases h), fun _ h => (by cases h), List.nodup_nil, fun _ h => (by cases h), fun _ _ => rfl, Nat.le_refl _⟩⟩ (fun i σ Hx _ hp => ?_) (fun i v σ Hx₀ Hx hi hp yy => ?_) (fun σ Hx hp => ?_)
      · obtain ⟨_, _, _, _, _, _, _, _, _, hc, _⟩ := hp
        exact hc.sq
      · obtain ⟨rfl, ex⟩ := yy
        obtain ⟨y6, y7, y8, y9, kvs, tr, rfl, s3x, eD, hc, ra⟩ := hp
        obtain ⟨e, ee, he3⟩ := hr3.get ex
        have he := he3.same s3x
        have em := List.mem_of_getElem? ee
        have ilt : i < (ds ++ dj).length := (List.getElem?_eq_some_iff.mp ee).1
        have s0x := s13.trans s3x
        have bade : (netB (.tuple [.tuple dl, .tuple ds, .tuple dj, .tuple dt]) = true → False) → ∀ Hy, Same Hx Hy → Q (.bl false) Hy := fun h Hy sy => bad h Hy (s0x.trans sy)
        have bade0 := fun h => bade h Hx fun _ _ z => z
        have rbe := rb e em
        have tbe := tbr e em
        refine ⟨v, rfl, v, .ty "tuple", _, _, _, rfl, .ty _, he.ty, kit_T e, isiT e, rfl, ?_⟩
        cases e with
        | int _ => exact iteT (bade0 fun h => by obtain ⟨_, _, z, _⟩ := rbe h; cases z)
        | bool _ => exact iteT (bade0 fun h => by obtain ⟨_, _, z, _⟩ := rbe h; cases z)
        | none => exact iteT (bade0 fun h => by obtain ⟨_, _, z, _⟩ := rbe h; cases z)
        | list _ => exact iteT (bade0 fun h => by obtain ⟨_, _, z, _⟩ := rbe h; cases z)
        | str _ => exact iteT (bade0 fun h => by obtain ⟨_, _, z, _⟩ := rbe h; cases z)
        | dict _ => exact iteT (bade0 fun h => by obtain ⟨_, _, z, _⟩ := rbe h; cases z)
        | tuple es =>
          obtain ⟨u, us, rfl, eu3, hus3, ul⟩ := tup_inv he3
          have eu := eu3.same s3x
          refine iteF ⟨.ref u, rfl, u, us, rfl, .inr eu.sq, rfl, _, rfl, ite2 (fun c1 => ?_) fun c1 => ?_⟩
          · refine bade0 fun h => ?_
            obtain ⟨_, _, z, _⟩ := rbe h
            injection z with z
            rw [z] at ul
            rw [ul] at c1
            have c1 : (!decide (V.int ((2 : Nat) : Int) = V.int 2)) = true := c1
            exact absurd c1 (by decide)
          have u2 : us.length = 2 := by
            have c1 : (!decide (V.int (us.length : Int) = V.int 2)) = false := by simpa using c1
            have c1 : V.int (us.length : Int) = V.int 2 := by simpa using c1
            injection c1 with c1
            omega
          obtain ⟨da, db, rfl⟩ := two_ofN (l := es) (by omega)
          obtain ⟨xa, xb, rfl, ha3, hb3⟩ : ∃ x1 x2, us = [x1, x2] ∧ Df H3 x1 da ∧ Df H3 x2 db := by
            cases hus3 with
            | cons h1 r =>
              cases r with
              | cons h2 r => cases r; exact ⟨_, _, rfl, h1, h2⟩
          refine ⟨.ref u, rfl, u, _, 0, xa, rfl, rfl, eu.sq, atI_nat (j := 0) rfl, xa, da, rfl, ha3.same s3x, (tbe.mem da (by simp)).len, fun Hy sy => ⟨_, rfl, ?_⟩⟩
          cases na : nameD da with
          | false =>
            refine iteT (bade (fun h => ?_) Hy sy)
            obtain ⟨a', _, z, n'⟩ := rbe h
            injection z with z
            injection z with z
            rw [z] at na
            rw [show nameD (.str a') = nameS a' from rfl, n'] at na
            cases na
          | true =>
            cases da with
            | str za =>
              cases ha3
              have s3y := s3x.trans sy
              have eDy := sy _ _ eD
              have euy := eu3.same s3y
              have hcy := hc.same sy
              have get : DGet Hy D (.str za) (valV kvs (Sum.inr za)) := DGet.k (k := Sum.inr za) eDy
              refine iteF ⟨.ref u, rfl, u, _, 0, .str za, rfl, rfl, euy.sq, atI_nat (j := 0) rfl, .ref D, rfl, D, valV kvs (Sum.inr za), rfl, get, ?_⟩
              by_cases dup : za ∈ tr.map (·.1)
              · obtain ⟨x, hx, ex'⟩ := List.mem_map.mp dup
                rw [← ex', ra.at_ x hx]
                refine ⟨true, rfl, iteT (bade (fun h => ?_) Hy sy)⟩
                have nd := (nb.mp h).nd
                have e2 : (ds ++ dj).take (i + 1) = (ds ++ dj).take i ++ [.tuple [.str za, db]] := by rw [List.take_add_one, ee]; rfl
                have nd2 := List.Sublist.nodup ((List.take_sublist (i + 1) (ds ++ dj)).map firstS) nd
                rw [e2, List.map_append, ra.e, List.map_map] at nd2
                refine (List.nodup_append.mp nd2).2.2 za ?_ za ?_ rfl
                · exact List.mem_map.mpr ⟨x, hx, ex'⟩
                · exact List.mem_singleton.mpr rfl
              · rw [ra.no za dup]
                refine ⟨false, rfl, iteF ?_⟩
                refine ⟨.ref u, rfl, u, _, 1, xb, rfl, rfl, euy.sq, atI_nat (j := 1) rfl, .ref D, rfl, .ref u, rfl, u, _, 0, .str za, rfl, rfl, euy.sq, atI_nat (j := 0) rfl, D, _, rfl, DPut.k (k := Sum.inr za) eDy (small5000 (by have := ra.len; omega)), ?_⟩
                have nDt : TKF Hy (upd Hy D (.dK (putK kvs (Sum.inr za) xb))) := .upd (fun xs z => by rw [eDy] at z; cases z) (fun o' xs z => by rw [eDy] at z; cases z)
                have vn := ra.no za dup
                refine ⟨_, _, _, _, _, tr ++ [(za, xb, db)], rfl, same_set s3y nD3, upd_same, hcy.tk nDt, ?_⟩
                refine ⟨by rw [List.length_append, ra.n]; rfl, ?_, ?_, ?_, ?_, ?_, ?_, ?_⟩
                · rw [List.take_add_one, ee, ra.e, List.map_append]
                  rfl
                · intro j x hjx
                  rcases Nat.lt_or_ge j tr.length with hl | hl
                  · rw [List.getElem?_append_left hl] at hjx
                    exact ra.h j x hjx
                  · rw [List.getElem?_append_right hl] at hjx
                    have hj0 : j - tr.length = 0 := by
                      have := (List.getElem?_eq_some_iff.mp hjx).1
                      simp only [List.length_singleton] at this
                      omega
                    rw [hj0] at hjx
                    have hjx := Option.some.inj hjx
                    subst hjx
                    have := ra.n
                    rw [show j = i by omega]
                    exact ⟨u, ex, eu3, hb3⟩
                · intro x hx
                  rcases List.mem_append.mp hx with h | h
                  · exact ra.nm x h
                  · rw [List.mem_singleton.mp h]; exact na
                · rw [List.map_append]
                  exact List.nodup_append.mpr ⟨ra.nd, List.pairwise_singleton _ _, fun x hx z hz e => dup (by have e3 : z = za := List.mem_singleton.mp hz; rw [← e3, ← e]; exact hx)⟩
                · intro x hx
                  rw [valV_put]
                  rcases List.mem_append.mp hx with h | h
                  · rw [if_neg (fun z => dup (by injection z with z; rw [← z]; exact List.mem_map_of_mem h))]
                    exact ra.at_ x h
                  · rw [List.mem_singleton.mp h, if_pos rfl]
                · intro z hz
                  rw [List.map_append] at hz
                  rw [valV_put, if_neg (fun e => hz (by injection e with e; rw [e]; simp))]
                  exact ra.no z fun h => hz (List.mem_append_left _ h)
                · have := length_putK kvs (Sum.inr za) xb
                  have := ra.len
                  omega
            | _ => cases na
      obtain ⟨y6, y7, y8, y9, kvs, tr, rfl, s36, eD, hc, ra⟩ := hp
      rw [rl] at ra
      have erows := ra.e
      rw [List.take_length] at erows
      have trl := ra.n
      have lod : LnOk (namesD dl) := ⟨strs_oks (shm (shm sh (.tuple dl) (by simp))), by rw [nln]; omega⟩
      have row : ∀ {j : Nat} {x : Row3}, tr[j]? = some x → (ds ++ dj)[j]? = some (.tuple [.str x.1, x.2.2]) := fun {j x} h => by rw [erows, List.getElem?_map, h]; rfl
      have tr_inj : ∀ {j i : Nat} {x y : Row3}, tr[j]? = some x → tr[i]? = some y → x.1 = y.1 → j = i := fun {j i x y} h g e => by
        have hj : (tr.map (·.1))[j]? = some x.1 := by rw [List.getElem?_map, h]; rfl
        have hi : (tr.map (·.1))[i]? = some x.1 := by rw [List.getElem?_map, g, e]; rfl
        exact (List.getElem?_inj (List.getElem?_eq_some_iff.mp hj).1 ra.nd).mp (hj.trans hi.symm)
      refine ⟨.ref as_, rfl, as_, rfl, ⟨_, (ts3.same s36).sq⟩, ?_⟩
      refine for_it (walk_tup (xs := vs)) (fun i σ Hx => ∃ (y6 y7 y8 y9 : Option V) (kvs' : List (Key × V)), σ = [some (.ref u0), some (.ref al), some (.ref as_), some (.ref aj), some (.ref at_), some (.ref D), y6, y7, y8, y9] ∧ Same H3 Hx ∧ Hx D = some (.dK kvs') ∧ (∀ (j : Nat) (x : Row3), j < i → tr[j]? = some x → ∃ a y, x.2 = (.str y, .str y) ∧ y ∈ namesD dl ∧ valV kvs' (Sum.inr x.1) = some (.ref a) ∧ Hx a = some (.lst [.str y]) ∧ a ≠ D) ∧ (∀ z, (∀ (j : Nat) (x : Row3), j < i → tr[j]? = some x → x.1 ≠ z) → valV kvs' (Sum.inr z) = valV kvs (Sum.inr z)) ∧ kvs'.length ≤ 28 + i) ⟨_, _, _, _, kvs, rfl, s36, eD, fun _ _ h => absurd h (Nat.not_lt_zero _), fun _ _ => rfl, by have := ra.len; omega⟩ (fun i σ Hx _ hp => ?_) (fun i v σ Hx₀ Hx hi hp yy => ?_) (fun σ Hx hp => ?_)
      · obtain ⟨_, _, _, _, _, _, s, _⟩ := hp
        exact (ts3.same s).sq
      · obtain ⟨rfl, ex⟩ := yy
        obtain ⟨y6, y7, y8, y9, kvs', rfl, s3x, eDx, hyes, hno, hlen⟩ := hp
        have ilt : i < vs.length := (List.getElem?_eq_some_iff.mp ex).1
        obtain ⟨x, etx⟩ : ∃ x, tr[i]? = some x := ⟨_, List.getElem?_eq_getElem (by rw [trl, List.length_append]; omega)⟩
        obtain ⟨u, eu', hu3, hd3⟩ := ra.h i x etx
        rw [List.getElem?_append_left ilt, ex] at eu'
        have eu' := Option.some.inj eu'
        subst eu'
        have ero := row etx
        rw [List.getElem?_append_left (by omega)] at ero
        have rom := List.mem_of_getElem? ero
        have sh2 := shm (shm (shm sh (.tuple ds) (by simp)) _ rom) x.2.2 (by simp)
        refine ⟨u, _, rfl, (hu3.same s3x).sq, rfl, _, _, rfl, _, [], rfl, rfl, ?_⟩
        refine ⟨x.2.1, rfl, .ref al, rfl, x.2.2, (namesD dl).map PyData.str, (hd3.same s3x).dp, .tup (by rw [← evl]; exact (tl3.same s3x).sq) (dpAll_strs _), sh2, strs_tup lod.1, _, rfl, ?_⟩
        rw [show (((namesD dl).map PyData.str).any fun z => PyData.eqv z x.2.2) = strIn (namesD dl) x.2.2 from rfl]
        have s0x := s13.trans s3x
        cases cl : strIn (namesD dl) x.2.2 with
        | false =>
          refine iteT (bad (fun h => ?_) Hx s0x)
          obtain ⟨a', b', e', _, hb'⟩ := station_inv (List.all_eq_true.mp (nb.mp h).st _ rom)
          injection e' with e'
          injection e' with e1 e2
          injection e2 with e2
          rw [e2, strIn_of hb'] at cl
          cases cl
        | true =>
          obtain ⟨y, hy, exy⟩ := strIn_str cl
          obtain ⟨xn, xv, xd⟩ := x
          have exy : xd = .str y := exy
          subst exy
          have hd3 : Df H3 xv (.str y) := hd3
          cases hd3
          refine iteF ⟨.str y, rfl, one_sz, fun a na => ?_⟩
          have sy := same_upd (o := .lst [V.str y]) na
          have ey : upd Hx a (.lst [V.str y]) a = some (.lst [V.str y]) := upd_same
          have eDy := sy _ _ eDx
          have naD : a ≠ D := fun z => by rw [← z, na] at eDx; cases eDx
          generalize upd Hx a (.lst [V.str y]) = Hy at sy ey eDy ⊢
          refine ⟨.ref D, rfl, .str xn, rfl, D, _, rfl, DPut.k (k := Sum.inr xn) eDy (small5000 (by omega)), ?_⟩
          refine ⟨_, _, _, _, _, rfl, same_set (s3x.trans sy) nD3, upd_same, ?_, ?_, ?_⟩
          · intro j z hj hz
            rcases Nat.lt_or_ge j i with hl | hl
            · obtain ⟨a', y', e1, e2, e3, e4, e5⟩ := hyes j z hl hz
              refine ⟨a', y', e1, e2, ?_, by rw [upd_ne e5]; exact sy _ _ e4, e5⟩
              rw [valV_put, if_neg (fun w => by injection w with w; have := tr_inj hz etx w; omega)]
              exact e3
            · have : j = i := by omega
              subst this
              rw [etx] at hz
              have hz := Option.some.inj hz
              subst hz
              exact ⟨a, y, rfl, hy, by rw [valV_put, if_pos rfl], by rw [upd_ne naD]; exact ey, naD⟩
          · intro z hz
            rw [valV_put, if_neg (fun w => by injection w with w; exact hz i _ (by omega) etx w.symm)]
            exact hno z fun j x' hj hx' => hz j x' (by omega) hx'
          · have := length_putK kvs' (Sum.inr xn) (V.ref a)
            omega
      obtain ⟨z6, z7, z8, z9, kvs', rfl, s37, eD7, hyes, hno, _⟩ := hp
      rw [lsn] at hyes hno
      refine ⟨.ref aj, rfl, aj, rfl, ⟨_, (tj3.same s37).sq⟩, ?_⟩
      refine for_it (walk_tup (xs := vj)) (fun i σ Hx => ∃ (y6 y7 y8 y9 : Option V), σ = [some (.ref u0), some (.ref al), some (.ref as_), some (.ref aj), some (.ref at_), some (.ref D), y6, y7, y8, y9] ∧ Same H3 Hx ∧ Hx D = some (.dK kvs') ∧ (∀ (j : Nat) (x : Row3), j < ds.length → tr[j]? = some x → ∃ a y, x.2 = (.str y, .str y) ∧ y ∈ namesD dl ∧ valV kvs' (Sum.inr x.1) = some (.ref a) ∧ Hx a = some (.lst [.str y])) ∧ ∀ (j : Nat) (x : Row3), j < i → tr[ds.length + j]? = some x → junctionB (namesD dl) (.tuple [.str x.1, x.2.2]) = true) ⟨_, _, _, _, rfl, s37, eD7, ?_, fun _ _ h => absurd h (Nat.not_lt_zero _)⟩ (fun i σ Hx _ hp => ?_) (fun i v σ Hx₀ Hx hi hp yy => ?_) (fun σ Hx hp => ?_)
      · intro j x hj hx
        obtain ⟨a', y', e1, e2, e3, e4, _⟩ := hyes j x hj hx
        exact ⟨a', y', e1, e2, e3, e4⟩
      · obtain ⟨_, _, _, _, _, s, _⟩ := hp
        exact (tj3.same s).sq
      · obtain ⟨rfl, ex⟩ := yy
        obtain ⟨y6, y7, y8, y9, rfl, s3x, eDx, hst, hjn⟩ := hp
        have ilt : i < vj.length := (List.getElem?_eq_some_iff.mp ex).1
        obtain ⟨x, etx⟩ : ∃ x, tr[ds.length + i]? = some x := ⟨_, List.getElem?_eq_getElem (by rw [trl, List.length_append]; omega)⟩
        obtain ⟨u, eu', hu3, hd3⟩ := ra.h _ x etx
        rw [List.getElem?_append_right (by omega), show ds.length + i - vs.length = i by omega, ex] at eu'
        have eu' := Option.some.inj eu'
        subst eu'
        have ero := row etx
        rw [List.getElem?_append_right (by omega), show ds.length + i - ds.length = i by omega] at ero
        have rom := List.mem_of_getElem? ero
        have shr := shm (shm sh (.tuple dj) (by simp)) _ rom
        have sh2 := shm shr x.2.2 (by simp)
        have nax := ra.nm x (List.mem_of_getElem? etx)
        have e0 : junctionB (namesD dl) (.tuple [.str x.1, x.2.2]) = joinedB (namesD dl) x.2.2 := by
          show (nameS x.1 && joinedB (namesD dl) x.2.2) = _
          rw [nax, Bool.true_and]
        have s0x := s13.trans s3x
        have badj : joinedB (namesD dl) x.2.2 = false → ∀ Hy, Same Hx Hy → Q (.bl false) Hy := fun h Hy sy => bad (fun g => by
          have := List.all_eq_true.mp (nb.mp g).jn _ rom
          rw [e0, h] at this
          cases this) Hy (s0x.trans sy)
        have badj0 := fun h => badj h Hx fun _ _ z => z
        refine ⟨u, _, rfl, (hu3.same s3x).sq, rfl, _, _, rfl, _, [], rfl, rfl, ?_⟩
        obtain ⟨xn, xv, xd⟩ := x
        have hd3 : Df H3 xv xd := hd3
        have hdx := hd3.same s3x
        refine ⟨xv, rfl, xv, .ty "tuple", _, _, _, rfl, .ty _, hdx.ty, kit_T xd, isiT xd, rfl, ?_⟩
        cases xd with
        | int _ => exact iteT (badj0 rfl)
        | bool _ => exact iteT (badj0 rfl)
        | none => exact iteT (badj0 rfl)
        | list _ => exact iteT (badj0 rfl)
        | str _ => exact iteT (badj0 rfl)
        | dict _ => exact iteT (badj0 rfl)
        | tuple es =>
          obtain ⟨b, ys, rfl, eb, hys, yl⟩ := tup_inv hdx
          have ej : joinedB (namesD dl) (.tuple es) = (decide ((2 : Int) ≤ (es.length : Int)) && decide ((es.length : Int) ≤ ((namesD dl).length : Int)) && PyData.eqv (.tuple es) (.tuple (((namesD dl).filter (inD es)).map PyData.str))) := rfl
          refine iteF ⟨.ref b, rfl, b, ys, rfl, .inr eb.sq, (ys.length : Int), 2, rfl, rfl, _, rfl, ite2 (fun c1 => ?_) fun c1 => ?_⟩
          · have c1 := of_decide_eq_true c1
            refine iteT (badj0 ?_)
            rw [show PyData.tuple es = (xn, V.ref b, PyData.tuple es).2.2 from rfl] at ej
            rw [ej, decide_eq_false (by omega)]
            rfl
          have c1 : ¬ (ys.length : Int) < 2 := fun h => c1 (decide_eq_true h)
          refine ⟨.ref b, rfl, b, ys, rfl, .inr eb.sq, fun l nl => ?_⟩
          have sl := same_upd (o := .lst ys) nl
          have el : upd Hx l (.lst ys) l = some (.lst ys) := upd_same
          show tLc _ _ _ _ _ _ (upd Hx l (.lst ys)) _
          generalize upd Hx l (.lst ys) = Hy at sl el ⊢
          have s3y := s3x.trans sl
          refine ⟨.ref al, rfl, al, rfl, ⟨_, (tl3.same s3y).sq⟩, fun C3 nC3 => ?_⟩
          have hds : Dp K Hx (.ref b) (.tuple es) := hdx.dp
          refine lc_it (walk_tup (xs := (namesD dl).map V.str)) (fun i Hz => Same Hy Hz ∧ Hz C3 = some (.lst ((((namesD dl).take i).filter (inD es)).map V.str))) ⟨same_upd nC3, upd_same⟩ (fun i Hz _ pv => (by rw [← evl]; exact (tl3.same (s3y.trans pv.1)).sq)) (fun i x Hx₀ Hz hi pv yy => ?_) (fun Hz pv => ?_)
          · obtain ⟨rfl, ex'⟩ := yy
            obtain ⟨sz', eC3⟩ := pv
            rw [List.getElem?_map] at ex'
            obtain ⟨z, ez, rfl⟩ := Option.map_eq_some_iff.mp ex'
            have mz := List.mem_of_getElem? ez
            have tk1 : (namesD dl).take (i + 1) = (namesD dl).take i ++ [z] := by rw [List.take_add_one, ez]; rfl
            have hli : ((((namesD dl).take i).filter (inD es)).map V.str).length ≤ 1000 := by
              rw [List.length_map]
              have := List.length_filter_le (inD es) ((namesD dl).take i)
              rw [List.length_take] at this
              omega
            refine ⟨rfl, .str z, rfl, .ref b, rfl, .str z, es, .str z, (hdx.same (sl.trans sz')).dp, str_shp (lod.ok z mz), sh2, _, rfl, ite2 (fun b => ?_) fun b => ?_⟩
            · have b : inD es z = true := b
              refine ⟨.str z, rfl, _, eC3, small5000 (by omega), same_set sz' nC3, ?_⟩
              rw [upd_same, tk1, List.filter_append, List.map_append]
              rw [show [z].filter (inD es) = [z] by simp [b]]
              rfl
            · have b : ¬ inD es z = true := b
              refine ⟨sz', ?_⟩
              rw [tk1, List.filter_append, show [z].filter (inD es) = [] by simp [b], List.append_nil]
              exact eC3
          obtain ⟨sz', eC3⟩ := pv
          rw [List.length_map, List.take_length] at eC3
          have sxz := sl.trans sz'
          refine ⟨.list es, .list (((namesD dl).filter (inD es)).map PyData.str), .lst (SqL.of (sz' _ _ el)) ((hys.same sxz).dp), .lst (SqL.of eC3) (dpAll_strs _), sh2, strs_tup fun z hz => lod.ok z (List.mem_filter.mp hz).1, _, rfl, ite2 (fun c2 => ?_) fun c2 => ?_⟩
          · rw [eqv_lt] at c2
            refine badj ?_ Hz sxz
            show joinedB (namesD dl) (.tuple es) = false
            rw [ej]
            have c2 : PyData.eqv (.tuple es) (.tuple (((namesD dl).filter (inD es)).map PyData.str)) = false := by simpa using c2
            rw [c2, Bool.and_false]
          · rw [eqv_lt] at c2
            have c2 : PyData.eqv (.tuple es) (.tuple (((namesD dl).filter (inD es)).map PyData.str)) = true := by simpa using c2
            have hel : es.length ≤ (namesD dl).length := by
              rw [eqv_strs c2, List.length_map]
              exact List.length_filter_le _ _
            refine ⟨_, _, _, _, rfl, s3x.trans sxz, sxz _ _ eDx, fun j x hj hx => ?_, fun j x hj hx => ?_⟩
            · obtain ⟨a', y', e1, e2, e3, e4⟩ := hst j x hj hx
              exact ⟨a', y', e1, e2, e3, sxz _ _ e4⟩
            · rcases Nat.lt_or_ge j i with h | h
              · exact hjn j x h hx
              · have : j = i := by omega
                subst this
                rw [etx] at hx
                have hx := Option.some.inj hx
                subst hx
                show (nameS xn && joinedB (namesD dl) (.tuple es)) = true
                have nax : nameS xn = true := nax
                rw [nax, ej, c2, decide_eq_true (show (2 : Int) ≤ (es.length : Int) by omega), decide_eq_true (show (es.length : Int) ≤ ((namesD dl).length : Int) by omega)]
                rfl
      obtain ⟨w6, w7, w8, w9, rfl, s38, eD8, hst, hjn⟩ := hp
      rw [lj] at hjn
      have getS : ∀ {j : Nat} {d : PyData}, ds[j]? = some d → ∃ (x : Row3) (y : Str), tr[j]? = some x ∧ d = .tuple [.str x.1, .str y] ∧ x.2 = (.str y, .str y) ∧ y ∈ namesD dl := fun {j d} h => by
        have hj := (List.getElem?_eq_some_iff.mp h).1
        obtain ⟨x, hx⟩ : ∃ x, tr[j]? = some x := ⟨_, List.getElem?_eq_getElem (by rw [trl, List.length_append]; omega)⟩
        obtain ⟨a', y', e1, e2, _⟩ := hst j x hj hx
        have := row hx
        rw [List.getElem?_append_left hj, h, e1] at this
        exact ⟨x, y', hx, Option.some.inj this, e1, e2⟩
      have getJ : ∀ {j : Nat} {d : PyData}, dj[j]? = some d → ∃ (x : Row3) (bs : List Str), tr[ds.length + j]? = some x ∧ d = .tuple [.str x.1, .tuple (bs.map PyData.str)] ∧ x.2.2 = .tuple (bs.map PyData.str) ∧ (∀ b ∈ bs, b ∈ namesD dl) ∧ junctionB (namesD dl) d = true := fun {j d} h => by
        have hj := (List.getElem?_eq_some_iff.mp h).1
        obtain ⟨x, hx⟩ : ∃ x, tr[ds.length + j]? = some x := ⟨_, List.getElem?_eq_getElem (by rw [trl, List.length_append]; omega)⟩
        have hjx := hjn j x hj hx
        have := row hx
        rw [List.getElem?_append_right (by omega), show ds.length + j - ds.length = j by omega, h] at this
        have this := Option.some.inj this
        obtain ⟨a', bs, e1, _, e3⟩ := junction_inv hjx
        injection e1 with e1
        injection e1 with e1 e1'
        injection e1' with e1'
        rw [e1'] at this
        exact ⟨x, bs, hx, this, e1', e3, by rw [this, ← e1']; exact hjx⟩
      have stB : ds.all (stationB (namesD dl)) = true := List.all_eq_true.mpr fun d hd => by
        obtain ⟨j, hj, ej⟩ := List.mem_iff_getElem.mp hd
        obtain ⟨x, y, hx, rfl, _, hy⟩ := getS (j := j) (d := d) (by rw [List.getElem?_eq_getElem hj, ej])
        show (nameS x.1 && strIn (namesD dl) (.str y)) = true
        rw [ra.nm x (List.mem_of_getElem? hx), strIn_of hy]
        rfl
      have jnB : dj.all (junctionB (namesD dl)) = true := List.all_eq_true.mpr fun d hd => by
        obtain ⟨j, hj, ej⟩ := List.mem_iff_getElem.mp hd
        obtain ⟨_, _, _, _, _, _, h⟩ := getJ (j := j) (d := d) (by rw [List.getElem?_eq_getElem hj, ej])
        exact h
      have ndr : ((ds ++ dj).map firstS).Nodup := by
        rw [erows, List.map_map]
        exact ra.nd
      have of_ent : ∀ e ∈ entD (.tuple ds) (.tuple dj), (∃ (j : Nat) (x : Row3) (y : Str), j < ds.length ∧ tr[j]? = some x ∧ e.1 = nmOf x.1 ∧ x.2 = (.str y, .str y) ∧ y ∈ namesD dl ∧ e.2 = [nmOf y]) ∨ ∃ (j : Nat) (x : Row3) (bs : List Str), tr[ds.length + j]? = some x ∧ e.1 = nmOf x.1 ∧ x.2.2 = .tuple (bs.map PyData.str) ∧ (∀ b ∈ bs, b ∈ namesD dl) ∧ e.2 = bs.map nmOf := fun e he => by
        have he : e ∈ ((ds.map stD).map fun s => (s.1, [s.2])) ++ dj.map jnD' := he
        rcases List.mem_append.mp he with h | h
        · left
          rw [List.map_map] at h
          obtain ⟨d, hd, rfl⟩ := List.mem_map.mp h
          obtain ⟨j, hj, ej⟩ := List.mem_iff_getElem.mp hd
          obtain ⟨x, y, hx, rfl, e2, hy⟩ := getS (j := j) (d := d) (by rw [List.getElem?_eq_getElem hj, ej])
          exact ⟨j, x, y, hj, hx, rfl, e2, hy, rfl⟩
        · right
          obtain ⟨d, hd, rfl⟩ := List.mem_map.mp h
          obtain ⟨j, hj, ej⟩ := List.mem_iff_getElem.mp hd
          obtain ⟨x, bs, hx, rfl, e2, hb, _⟩ := getJ (j := j) (d := d) (by rw [List.getElem?_eq_getElem hj, ej])
          refine ⟨j, x, bs, hx, rfl, e2, hb, ?_⟩
          show (namesD (bs.map PyData.str)).map nmOf = _
          rw [names_strs]
      have ent_of : ∀ (j : Nat) (x : Row3), tr[j]? = some x → ∃ e ∈ entD (.tuple ds) (.tuple dj), e.1 = nmOf x.1 := fun j x hx => by
        have hr := row hx
        rcases Nat.lt_or_ge j ds.length with h | h
        · rw [List.getElem?_append_left h] at hr
          obtain ⟨x', y, hx', ed, _, _⟩ := getS hr
          refine ⟨((stD (.tuple [.str x.1, x.2.2])).1, [(stD (.tuple [.str x.1, x.2.2])).2]), List.mem_append_left _ (List.mem_map.mpr ⟨_, List.mem_map.mpr ⟨_, List.mem_of_getElem? hr, rfl⟩, rfl⟩), ?_⟩
          rw [ed]
          rw [hx] at hx'
          rw [Option.some.inj hx']
          rfl
        · rw [List.getElem?_append_right h] at hr
          obtain ⟨x', bs, hx', ed, _, _, _⟩ := getJ hr
          refine ⟨jnD' (.tuple [.str x.1, x.2.2]), List.mem_append_right _ (List.mem_map.mpr ⟨_, List.mem_of_getElem? hr, rfl⟩), ?_⟩
          rw [ed]
          rw [show ds.length + (j - ds.length) = j by omega, hx] at hx'
          rw [Option.some.inj hx']
          rfl
      refine ⟨.ref D, rfl, .ref al, rfl, .ref at_, rfl, D, al, .ref at_, dt, entD (.tuple ds) (.tuple dj), namesD dl, kvs', rfl, eD8, ?_, by rw [← evl]; exact tl3.same s38, lod.ok, by omega, ?_, (h4.same (s13.trans s38)), tb.mem (.tuple dt) (by simp), shm sh (.tuple dt) (by simp), t40, fun H9 s9 => ?_⟩
      · refine ⟨fun z hz => ?_, fun z l hz => ?_⟩
        · have zn : ∀ x ∈ tr, x.1 ≠ SX.S z := fun x hx e => by
            obtain ⟨j, hj, ej⟩ := List.mem_iff_getElem.mp hx
            obtain ⟨e', he', ee'⟩ := ent_of j x (by rw [List.getElem?_eq_getElem hj, ej])
            exact lkF_none hz e' he' (by rw [ee', e]; exact nmOf_SX z)
          rw [hno (SX.S z) fun j x _ hx => zn x (List.mem_of_getElem? hx)]
          exact ra.no _ fun h => by
            obtain ⟨x, hx, e⟩ := List.mem_map.mp h
            exact zn x hx e
        · obtain ⟨e', he', e1, e2⟩ := lkF_mem2 hz
          subst e1 e2
          rcases of_ent e' he' with ⟨j, x, y, hj, hx, ez, ex2, hy, el⟩ | ⟨j, x, bs, hx, ez, ex2, hb, el⟩
          · obtain ⟨a', y', f1, f2, f3, f4⟩ := hst j x hj hx
            rw [f1] at ex2
            injection ex2 with ex2 _
            injection ex2 with ex2
            refine ⟨a', by rw [ez, nmOf_S]; exact f3, .inl ?_⟩
            rw [el, f4, ex2]
            show _ = some (HO.lst [V.str (SX.S (nmOf y))])
            rw [nmOf_S]
          · have hv' : valV kvs' (Sum.inr x.1) = some x.2.1 := by
              rw [hno x.1 fun j' x' hj' hx' h => by have := tr_inj hx' hx h; omega]
              exact ra.at_ x (List.mem_of_getElem? hx)
            obtain ⟨u, _, _, hd3⟩ := ra.h _ x hx
            rw [ex2] at hd3
            obtain ⟨b, ys, eb, tb', hys, _⟩ := tup_inv hd3
            rw [dfAll_vs hys] at tb'
            refine ⟨b, by rw [ez, nmOf_S, hv', eb], .inr ?_⟩
            rw [el, List.map_map, show bs.map (nS ∘ nmOf) = bs.map V.str from List.map_congr_left fun z _ => by show V.str (SX.S (nmOf z)) = _; rw [nmOf_S]]
            exact tb'.same s38
      · intro z l hz
        obtain ⟨e', he', e1, e2⟩ := lkF_mem2 hz
        subst e1 e2
        rcases of_ent e' he' with ⟨j, x, y, hj, hx, ez, ex2, hy, el⟩ | ⟨j, x, bs, hx, ez, ex2, hb, el⟩
        · refine ⟨by rw [ez, nmOf_S]; exact ra.nm x (List.mem_of_getElem? hx), fun y' hy' => ?_⟩
          rw [el] at hy'
          rw [List.mem_singleton.mp hy', nmOf_S]
          exact hy
        · refine ⟨by rw [ez, nmOf_S]; exact ra.nm x (List.mem_of_getElem? hx), fun y' hy' => ?_⟩
          rw [el] at hy'
          obtain ⟨y2, hy2, rfl⟩ := List.mem_map.mp hy'
          rw [nmOf_S]
          exact hb y2 hy2
      show Q (V.bl (tiesR (entD (.tuple ds) (.tuple dj)) dt)) H9
      have := q H9 ((s13.trans s38).trans s9)
      have en : netB (.tuple [.tuple dl, .tuple ds, .tuple dj, .tuple dt]) = tiesR (entD (.tuple ds) (.tuple dj)) dt := by
        cases ct : tiesR (entD (.tuple ds) (.tuple dj)) dt with
        | true => exact nb.mpr ⟨by omega, by omega, aln, lnd, s16, stB, j12, jnB, ndr, t40, ct⟩
        | false => exact Bool.eq_false_iff.mpr fun h => by rw [(nb.mp h).ti] at ct; cases ct
      rw [en] at this
      exact this
end
end Th
namespace Th
open PySem PySem.Spec PyProof.Rows L2
theorem jn_sub (ls : List Nm) : ∀ (zs : List Nm) (qs : List (List Nat)), (((zs.zip qs).filterMap (jnOf ls)).map (·.1)).Sublist zs
  | [], _ => by simp
  | z :: zs, [] => by simp
  | z :: zs, q :: qs => by
    rw [List.zip_cons_cons, List.filterMap_cons]
    have ih := jn_sub ls zs qs
    by_cases c : q.length = 1
    · have : jnOf ls (z, q) = none := by unfold jnOf; rw [if_pos c]
      rw [this]
      exact List.Sublist.cons _ ih
    · have : jnOf ls (z, q) = some (z, q.map fun j => ls.getD j []) := by unfold jnOf; rw [if_neg c]
      rw [this]
      exact List.Sublist.cons_cons _ ih
theorem st_sub (ls : List Nm) : ∀ (zs : List Nm) (qs : List (List Nat)), (((zs.zip qs).filterMap (stOf ls)).map (·.1)).Sublist zs
  | [], _ => by simp
  | z :: zs, [] => by simp
  | z :: zs, q :: qs => by
    rw [List.zip_cons_cons, List.filterMap_cons]
    have ih := st_sub ls zs qs
    by_cases c : q.length = 1
    · have : stOf ls (z, q) = some (z, ls.getD (q.getD 0 0) []) := by unfold stOf; rw [if_pos c]
      rw [this]
      exact List.Sublist.cons_cons _ ih
    · have : stOf ls (z, q) = none := by unfold stOf; rw [if_neg c]
      rw [this]
      exact List.Sublist.cons _ ih
theorem st_len (ls : List Nm) : ∀ (zs : List Nm) (qs : List (List Nat)), ((zs.zip qs).filterMap (stOf ls)).length ≤ qs.countP fun js => decide (js.length = 1)
  | [], _ => by simp
  | z :: zs, [] => by simp
  | z :: zs, q :: qs => by
    rw [List.zip_cons_cons, List.filterMap_cons]
    have ih := st_len ls zs qs
    by_cases c : q.length = 1
    · have : stOf ls (z, q) = some (z, ls.getD (q.getD 0 0) []) := by unfold stOf; rw [if_pos c]
      rw [this, List.countP_cons_of_pos (by simp [c])]
      show _ + 1 ≤ _
      omega
    · have : stOf ls (z, q) = none := by unfold stOf; rw [if_neg c]
      rw [this, List.countP_cons_of_neg (by simp [c])]
      exact ih
theorem jn_len (ls : List Nm) : ∀ (zs : List Nm) (qs : List (List Nat)), ((zs.zip qs).filterMap (jnOf ls)).length ≤ qs.countP fun js => decide (js.length ≠ 1)
  | [], _ => by simp
  | z :: zs, [] => by simp
  | z :: zs, q :: qs => by
    rw [List.zip_cons_cons, List.filterMap_cons]
    have ih := jn_len ls zs qs
    by_cases c : q.length = 1
    · have : jnOf ls (z, q) = none := by unfold jnOf; rw [if_pos c]
      rw [this, List.countP_cons_of_neg (by simp [c])]
      exact ih
    · have : jnOf ls (z, q) = some (z, q.map fun j => ls.getD j []) := by unfold jnOf; rw [if_neg c]
      rw [this, List.countP_cons_of_pos (by simp [c])]
      show _ + 1 ≤ _
      omega
theorem getD_in {ls : List Nm} {j : Nat} (h : j < ls.length) : ls.getD j [] ∈ ls := by
  rw [List.getD_eq_getElem?_getD, List.getElem?_eq_getElem h]
  exact List.getElem_mem h
theorem range_getD (ls : List Nm) : (List.range ls.length).map (fun i => ls.getD i []) = ls := by
  refine List.ext_getElem (by simp) fun i h1 h2 => ?_
  rw [List.getElem_map, List.getElem_range, List.getD_eq_getElem?_getD, List.getElem?_eq_getElem h2]
  rfl
theorem drawn_ok {ls zs : List Nm} {qs : List (List Nat)} {J : Nat} {tis rws : List Ti} {sts : List (Nm × Nm)} {jns : List (Nm × List Nm)} (h : NetOk ls zs qs J tis) (pS : sts.Perm ((zs.zip qs).filterMap (stOf ls))) (pJ : jns.Perm ((zs.zip qs).filterMap (jnOf ls))) (pR : rws.Perm tis) :
    netB (netD (ls.map SX.S) (sts.map sOf) (jns.map jOf) (rws.map tOf)) = true ∧ NsOk (ls.map SX.S) (sts.map sOf) (jns.map jOf) (rws.map tOf) ∧ sts ≠ [] := by
  have each := h.q.each h.l8
  have lz := h.lz
  obtain ⟨f, l, ss, tw, e, e1, h2, hf, hl, htw, _, t14⟩ := h.q.form
  have qlen : qs.length = J + 2 + tw.length := by
    rw [e]
    simp only [List.length_append, List.length_cons, List.length_map, List.length_nil]
    omega
  have cJ : (qs.countP fun js => decide (js.length ≠ 1)) = J := by
    rw [← h.q.count]
    refine List.countP_congr fun js hj => ?_
    have := (each js hj).1
    rw [decide_eq_true_iff, decide_eq_true_iff]
    omega
  have cS : (qs.countP fun js => decide (js.length = 1)) ≤ 16 := by
    have := List.length_eq_countP_add_countP (fun js : List Nat => decide (js.length = 1)) (l := qs)
    rw [show (qs.countP fun js => decide (¬ decide (js.length = 1) = true)) = qs.countP fun js => decide (js.length ≠ 1) from List.countP_congr fun js _ => by simp] at this
    omega
  have s16 : sts.length ≤ 16 := by
    rw [pS.length_eq]
    exact Nat.le_trans (st_len ls zs qs) cS
  have j12 : jns.length ≤ 12 := by
    rw [pJ.length_eq]
    have := jn_len ls zs qs
    have := h.q.most
    omega
  have t40 : rws.length ≤ 40 := by rw [pR.length_eq]; exact h.t40
  have spot : ∀ js ∈ qs, js.length ≠ 1 → js.Pairwise (· < ·) := by
    intro js hj hl
    rw [e] at hj
    rcases List.mem_append.mp hj with z | z
    · rcases List.mem_append.mp z with z | z
      · rcases List.mem_cons.mp z with z | z
        · rw [z] at hl
          exact absurd rfl hl
        · exact (h2 js z).rise
      · rw [List.mem_singleton.mp z] at hl
        exact absurd rfl hl
    · obtain ⟨x, _, rfl⟩ := List.mem_map.mp z
      exact absurd rfl hl
  have stIn : ∀ s ∈ sts, ∃ (i : Nat) (j : Nat), zs[i]? = some s.1 ∧ qs[i]? = some [j] ∧ j < ls.length ∧ s.2 = ls.getD j [] := fun s hs => by
    obtain ⟨y, hy, ey⟩ := List.mem_filterMap.mp (pS.mem_iff.mp hs)
    obtain ⟨i, hi⟩ := List.getElem?_of_mem hy
    have hi := List.getElem?_zip_eq_some.mp hi
    unfold stOf at ey
    split at ey
    · rename_i c
      have := Option.some.inj ey
      rw [← this]
      have hq := each y.2 (List.mem_of_getElem? hi.2)
      obtain ⟨k, hk⟩ := List.length_eq_one_iff.mp c
      rw [hk] at hq hi
      exact ⟨i, k, hi.1, hi.2, hq.2.2 k (List.mem_singleton.mpr rfl), by show ls.getD (y.2.getD 0 0) [] = _; rw [hk]; rfl⟩
    · cases ey
  have jnIn : ∀ s ∈ jns, ∃ (i : Nat) (js : List Nat), zs[i]? = some s.1 ∧ qs[i]? = some js ∧ js.length ≠ 1 ∧ s.2 = js.map fun j => ls.getD j [] := fun s hs => by
    obtain ⟨y, hy, ey⟩ := List.mem_filterMap.mp (pJ.mem_iff.mp hs)
    obtain ⟨i, hi⟩ := List.getElem?_of_mem hy
    have hi := List.getElem?_zip_eq_some.mp hi
    unfold jnOf at ey
    split at ey
    · cases ey
    · rename_i c
      have := Option.some.inj ey
      rw [← this]
      exact ⟨i, y.2, hi.1, hi.2, c, rfl⟩
  have snd : (sts.map (·.1)).Nodup := ((pS.map (·.1)).nodup_iff).mpr ((st_sub ls zs qs).nodup h.znd)
  have jnd : (jns.map (·.1)).Nodup := ((pJ.map (·.1)).nodup_iff).mpr ((jn_sub ls zs qs).nodup h.znd)
  have esNd : ((ent sts jns).map (·.1)).Nodup := by
    unfold ent
    rw [List.map_append, List.map_map]
    refine List.nodup_append.mpr ⟨snd, jnd, fun a ha b hb q => ?_⟩
    obtain ⟨x, hx, rfl⟩ := List.mem_map.mp ha
    obtain ⟨y, hy, rfl⟩ := List.mem_map.mp hb
    obtain ⟨i, j, a1, a2, _⟩ := stIn x hx
    obtain ⟨i', js, b1, b2, b3, _⟩ := jnIn y hy
    have q : x.1 = y.1 := q
    rw [← q] at b1
    have := nodup_inj h.znd a1 b1
    subst this
    rw [a2] at b2
    have := Option.some.inj b2
    rw [← this] at b3
    exact b3 rfl
  have place : ∀ {i : Nat} {z : Nm} {js : List Nat}, zs[i]? = some z → qs[i]? = some js → lkF (ent sts jns) z = some (js.map fun j => ls.getD j []) := fun {i z js} hz hq => by
    have m : (z, js) ∈ zs.zip qs := List.mem_of_getElem? (i := i) (List.getElem?_zip_eq_some.mpr ⟨hz, hq⟩)
    refine lkF_of esNd ?_
    by_cases c : js.length = 1
    · obtain ⟨k, rfl⟩ := List.length_eq_one_iff.mp c
      refine List.mem_append_left _ (List.mem_map.mpr ⟨(z, ls.getD k []), pS.mem_iff.mpr (List.mem_filterMap.mpr ⟨_, m, ?_⟩), rfl⟩)
      exact if_pos rfl
    · refine List.mem_append_right _ (pJ.mem_iff.mpr (List.mem_filterMap.mpr ⟨_, m, ?_⟩))
      unfold jnOf
      rw [if_neg c]
  have znm : ∀ {i : Nat} {z : Nm}, zs[i]? = some z → nameS (SX.S z) = true := fun h' => nm_name (h.znm _ (List.mem_of_getElem? h'))
  have ns : NsOk (ls.map SX.S) (sts.map sOf) (jns.map jOf) (rws.map tOf) := by
    refine ⟨by rw [List.length_map]; exact h.l8, by rw [List.length_map]; exact s16, by rw [List.length_map]; exact j12, by rw [List.length_map]; exact t40, fun x hx => ?_, fun z hz => ?_, fun x hx => ?_, fun x hx => ?_, fun x hx => ?_⟩
    · obtain ⟨y, hy, rfl⟩ := List.mem_map.mp hx
      obtain ⟨i, js, b1, b2, b3, b4⟩ := jnIn y hy
      have := each js (List.mem_of_getElem? b2)
      show (y.2.map SX.S).length ≤ 8 ∧ y.2.map SX.S ≠ []
      rw [b4]
      refine ⟨by rw [List.length_map, List.length_map]; exact this.2.1, fun z => ?_⟩
      have z := congrArg List.length z
      rw [List.length_map, List.length_map] at z
      have z : js.length = 0 := z
      omega
    · obtain ⟨y, hy, rfl⟩ := List.mem_map.mp hz
      exact nm_name (h.lnm y hy)
    · obtain ⟨y, hy, rfl⟩ := List.mem_map.mp hx
      obtain ⟨i, j, a1, a2, a3, a4⟩ := stIn y hy
      refine ⟨znm a1, ?_⟩
      show nameS (SX.S y.2) = true
      rw [a4]
      exact nm_name (h.lnm _ (getD_in a3))
    · obtain ⟨y, hy, rfl⟩ := List.mem_map.mp hx
      obtain ⟨i, js, b1, b2, b3, b4⟩ := jnIn y hy
      refine ⟨znm b1, fun z hz => ?_⟩
      obtain ⟨u, hu, rfl⟩ := List.mem_map.mp (show z ∈ y.2.map SX.S from hz)
      rw [b4] at hu
      obtain ⟨k, hk, rfl⟩ := List.mem_map.mp hu
      exact nm_name (h.lnm _ (getD_in ((each js (List.mem_of_getElem? b2)).2.2 k hk)))
    · obtain ⟨t, ht, rfl⟩ := List.mem_map.mp hx
      obtain ⟨i, j, x, a, b, hij, c1, c2, c3, c4, c5, c6, c7, c8, c9⟩ := h.ok t (pR.mem_iff.mp ht)
      exact ⟨znm c1, znm c2, nm_name (h.lnm _ (List.mem_of_getElem? c7)), by show (1 : Int) ≤ (t.ch : Int); omega, by show (t.ch : Int) ≤ 9999; omega⟩
  refine ⟨?_, ns, fun z => ?_⟩
  rotate_left
  · have q0 : qs[0]? = some [f] := by rw [e]; rfl
    have z0 : zs[0]? = some (zs[0]'(by omega)) := List.getElem?_eq_getElem _
    have := place z0 q0
    obtain ⟨e', he', h1, _⟩ := lkF_mem2 this
    have m : (zs[0]'(by omega), [f]) ∈ zs.zip qs := List.mem_of_getElem? (i := 0) (List.getElem?_zip_eq_some.mpr ⟨z0, q0⟩)
    have : (zs[0]'(by omega), ls.getD ([f].getD 0 0) []) ∈ sts := pS.mem_iff.mpr (List.mem_filterMap.mpr ⟨_, m, rfl⟩)
    rw [z] at this
    cases this
  have ent_e : entD (.tuple ((sts.map sOf).map fun x => PyData.tuple [.str x.1, .str x.2])) (.tuple ((jns.map jOf).map fun x => PyData.tuple [.str x.1, .tuple (x.2.map PyData.str)])) = ent sts jns := by
    show ent (((sts.map sOf).map fun x => PyData.tuple [.str x.1, .str x.2]).map stD) (((jns.map jOf).map fun x => PyData.tuple [.str x.1, .tuple (x.2.map PyData.str)]).map jnD') = _
    rw [List.map_map, List.map_map, List.map_map, List.map_map]
    have a1 : sts.map ((stD ∘ fun x : Str × Str => PyData.tuple [.str x.1, .str x.2]) ∘ sOf) = sts := (List.map_congr_left fun x _ => rfl).trans (List.map_id' sts)
    have a2 : jns.map ((jnD' ∘ fun x : Str × List Str => PyData.tuple [.str x.1, .tuple (x.2.map PyData.str)]) ∘ jOf) = jns := (List.map_congr_left fun x _ => by
      show (x.1, (namesD ((x.2.map SX.S).map PyData.str)).map nmOf) = x
      rw [names_strs, List.map_map]
      have : x.2.map (nmOf ∘ SX.S) = x.2 := (List.map_congr_left fun _ _ => rfl).trans (List.map_id' _)
      rw [this]).trans (List.map_id' jns)
    rw [a1, a2]
  refine nb_iff.mpr ⟨by rw [List.length_map, List.length_map]; exact h.l1, by rw [List.length_map, List.length_map]; exact h.l8, all_map fun z hz => ns.ln z hz, ?_, by rw [List.length_map, List.length_map]; exact s16, all_map fun x hx => ?_, by rw [List.length_map, List.length_map]; exact j12, all_map fun x hx => ?_, ?_, by rw [List.length_map, List.length_map]; exact t40, ?_⟩
  · rw [names_strs]
    exact nd_map (fun x y e => SX.S_inj e) h.lnd
  · obtain ⟨y, hy, rfl⟩ := List.mem_map.mp hx
    obtain ⟨i, j, a1, a2, a3, a4⟩ := stIn y hy
    refine Bool.and_eq_true_iff.mpr ⟨(ns.sn _ hx).1, strIn_of ?_⟩
    rw [names_strs]
    refine List.mem_map_of_mem ?_
    rw [a4]
    exact getD_in a3
  · obtain ⟨y, hy, rfl⟩ := List.mem_map.mp hx
    obtain ⟨i, js, b1, b2, b3, b4⟩ := jnIn y hy
    refine Bool.and_eq_true_iff.mpr ⟨(ns.jn _ hx).1, ?_⟩
    have q := each js (List.mem_of_getElem? b2)
    have rise := spot js (List.mem_of_getElem? b2) b3
    have jl : js.length ≤ ls.length := by
      have := nd_lenD (d := List.range ls.length) (rise.imp fun h e => by omega) fun x hx => List.mem_range.mpr (q.2.2 x hx)
      rw [List.length_range] at this
      exact this
    rw [names_strs]
    have el : (jOf y).2 = (js.map fun j => ls.getD j []).map SX.S := by show y.2.map SX.S = _; rw [b4]
    rw [el]
    refine Bool.and_eq_true_iff.mpr ⟨tupD_of ?_ ?_, ?_⟩
    · rw [List.length_map, List.length_map, List.length_map]
      omega
    · rw [List.length_map, List.length_map, List.length_map, List.length_map]
      omega
    show PyData.eqv (.tuple (((js.map fun j => ls.getD j []).map SX.S).map PyData.str)) (.tuple (((ls.map SX.S).filter (inD (((js.map fun j => ls.getD j []).map SX.S).map PyData.str))).map PyData.str)) = true
    have := joined_of (n := ls.length) (L := fun i => ls.getD i []) (fun i j hi hj e => by
      have g : ∀ {i : Nat}, i < ls.length → ls[i]? = some (ls.getD i []) := fun {i} hi => by
        rw [List.getD_eq_getElem?_getD, List.getElem?_eq_getElem hi]
        rfl
      have e : ls.getD i [] = ls.getD j [] := e
      exact nodup_inj h.lnd (g hi) (by rw [e]; exact g hj)) rise q.2.2
    rw [range_getD] at this
    rw [this]
    exact eqv_strsR _
  · rw [List.map_append, List.map_map, List.map_map, List.map_map, List.map_map]
    have a1 : sts.map ((firstS ∘ fun x : Str × Str => PyData.tuple [.str x.1, .str x.2]) ∘ sOf) = (sts.map (·.1)).map SX.S := by rw [List.map_map]; exact List.map_congr_left fun _ _ => rfl
    have a2 : jns.map ((firstS ∘ fun x : Str × List Str => PyData.tuple [.str x.1, .tuple (x.2.map PyData.str)]) ∘ jOf) = (jns.map (·.1)).map SX.S := by rw [List.map_map]; exact List.map_congr_left fun _ _ => rfl
    rw [a1, a2, ← List.map_append]
    refine nd_map (fun x y e => SX.S_inj e) ?_
    have := esNd
    unfold ent at this
    rw [List.map_append, List.map_map] at this
    exact this
  · rw [ent_e]
    refine Bool.and_eq_true_iff.mpr ⟨?_, decide_eq_true ?_⟩
    · refine all_map fun x hx => ?_
      obtain ⟨t, ht, rfl⟩ := List.mem_map.mp hx
      obtain ⟨i, j, x, a, b, hij, c1, c2, c3, c4, c5, c6, c7, c8, c9⟩ := h.ok t (pR.mem_iff.mp ht)
      have nab : t.a ≠ t.b := fun e => hij (by rw [e] at c1; exact nodup_inj h.znd c1 c2)
      have lnx : ls.getD x [] = t.ln := by rw [List.getD_eq_getElem?_getD, c7]; rfl
      have lnOf : ∀ {i : Nat} {z : Nm} {a : List Nat}, zs[i]? = some z → qs[i]? = some a → x ∈ a → SX.S t.ln ∈ linesOf (ent sts jns) (SX.S z) := fun {i z a} h1 h2 h3 => by
        unfold linesOf
        rw [nmOf_SX, place h1 h2]
        rw [← lnx]
        exact List.mem_map_of_mem (List.mem_map_of_mem (f := fun j => ls.getD j []) h3)
      show (nameS (SX.S t.a) && nameS (SX.S t.b) && !decide (SX.S t.a = SX.S t.b) && strIn (linesOf (ent sts jns) (SX.S t.a)) (.str (SX.S t.ln)) && strIn (linesOf (ent sts jns) (SX.S t.b)) (.str (SX.S t.ln)) && (decide ((1 : Int) ≤ (t.ch : Int)) && decide ((t.ch : Int) ≤ 9999))) = true
      rw [znm c1, znm c2, decide_eq_false (fun e => nab (SX.S_inj e)), strIn_of (lnOf c1 c3 c5), strIn_of (lnOf c2 c4 c6), decide_eq_true (show (1 : Int) ≤ (t.ch : Int) by omega), decide_eq_true (show (t.ch : Int) ≤ 9999 by omega)]
      rfl
    · rw [List.map_map, List.map_map]
      have a1 : rws.map ((pairD ∘ fun x : Str × Str × Str × Int => PyData.tuple [.str x.1, .str x.2.1, .str x.2.2.1, .int x.2.2.2]) ∘ tOf) = rws.map fun t => srt2 (SX.S t.a) (SX.S t.b) := List.map_congr_left fun _ _ => rfl
      have ap : rws.Pairwise Apart := (pR.pairwise_iff (fun {x y} h => ⟨fun z => h.1 ⟨z.1.symm, z.2.symm⟩, fun z => h.2 ⟨z.2.symm, z.1.symm⟩⟩)).mpr h.ap
      rw [a1, List.nodup_iff_pairwise_ne, List.pairwise_map]
      exact ap.imp fun {s t} h => srt2_unl (x := (s.a, s.b, s.ln)) (y := (t.a, t.b, t.ln)) fun z => z.elim h.1 h.2
theorem w0_of {d : PyData} (h : WdT d) : W0 d := fun es r e => by
  subst e
  exact (h.mem _ List.mem_cons_self).len
theorem op_isB {X : Cx} : OpR X (compareOp .Is) (fun x y H Q => ∃ a b, x = .bl a ∧ y = .bl b ∧ Q (.bl (decide (a = b))) H) := by
  intro pins s σ H x y v u Q I rx ry h
  obtain ⟨a, b, rfl, rfl, q⟩ := h
  cases rx
  cases ry
  refine wpAny_is_plain rfl (fin_bl I q ?_)
  cases a <;> cases b <;> rfl
end Th
namespace Th
open PySem PySem.Spec PyProof.Rows L2
mutual
theorem DG.goS {p : Addr} {S S' : Addr → Prop} {H H' : Hp} (hl : ∀ a xs, a ≠ p → S a → H a = some (.lst xs) → S' a ∧ H' a = some (.lst xs)) (ht : ∀ a xs, TPl H a xs → TPl H' a xs) : ∀ {v : V} {d : PyData}, DG p S H v d → DG p S' H' v d
  | _, _, .non => .non
  | _, _, .bl b => .bl b
  | _, _, .int b => .int b
  | _, _, .str b => .str b
  | _, _, .lst n m e r => .lst n (hl _ _ n m e).1 (hl _ _ n m e).2 (DGAll.goS hl ht r)
  | _, _, .tup e r => .tup (ht _ _ e) (DGAll.goS hl ht r)
theorem DGAll.goS {p : Addr} {S S' : Addr → Prop} {H H' : Hp} (hl : ∀ a xs, a ≠ p → S a → H a = some (.lst xs) → S' a ∧ H' a = some (.lst xs)) (ht : ∀ a xs, TPl H a xs → TPl H' a xs) : ∀ {v : List V} {d : List PyData}, DGAll p S H v d → DGAll p S' H' v d
  | _, _, .nil => .nil
  | _, _, .cons a r => .cons (DG.goS hl ht a) (DGAll.goS hl ht r)
end
abbrev TG (p : Addr) (S : Addr → Prop) (H : Hp) (v : V) (d : PyData) : Prop := DG p S H v d ∧ LwG 6 d
theorem TG.off {p C : Addr} {H : Hp} {v : V} {d : PyData} (h : TG p (fun _ => True) H v d) (n : H C = none) : TG p (fun a => a ≠ C) H v d :=
  ⟨h.1.goS (fun a xs _ _ e => ⟨(fun z => by rw [z, n] at e; cases e), e⟩) fun _ _ e => e, h.2⟩
theorem TG.upd {p C : Addr} {H : Hp} {xs : List V} {o : HO} {v : V} {d : PyData} (h : TG p (fun a => a ≠ C) H v d) (e : H C = some (.lst xs)) : TG p (fun a => a ≠ C) (L2.upd H C o) v d :=
  ⟨h.1.goS (fun a xs _ n e => ⟨n, by rw [upd_ne n]; exact e⟩) fun a ys t => t.tk (.upd (fun xs z => by rw [e] at z; cases z) (fun o' xs z => by rw [e] at z; cases z)), h.2⟩
theorem TG.keep {p : Addr} {S : Addr → Prop} {H H' : Hp} {v : V} {d : PyData} (h : TG p S H v d) (k : Keep p H H') (b : Bag H p) : TG p S H' v d := ⟨h.1.keep k b, h.2⟩
theorem TG.same {p : Addr} {S : Addr → Prop} {H H' : Hp} {v : V} {d : PyData} (h : TG p S H v d) (s : Same H H') : TG p S H' v d := ⟨h.1.same s, h.2⟩
theorem ntf_rows {p : Addr} {S : Addr → Prop} {H : Hp} {r : Addr} {ls : List Str} {sts : List (Str × Str)} {jns : List (Str × List Str)} {tis : List (Str × Str × Str × Int)} (h : NtF H r ls sts jns tis) (ok : NsOk ls sts jns tis) :
    ∃ xs : List V, xs.length = 4 ∧ TPl H r xs ∧ DGAll p S H xs ((rowsD4 ls sts jns tis).map PyData.tuple) ∧ ∀ d ∈ (rowsD4 ls sts jns tis).map PyData.tuple, LwG 5 d := by
  obtain ⟨lt, st, jt, tt, sa, ja, ta, er, el, es, hs, ej, hj, et, ht⟩ := h.ex
  have n4 := n4_of (p := p) (S := S) er el es hs ej hj et ht
  refine ⟨_, rfl, n4.er, n4_dg n4.at_, fun d hd => ?_⟩
  obtain ⟨ds, hds, rfl⟩ := List.mem_map.mp hd
  have := lw_rows ok ds hds
  exact LwG.mono (.tup (fun e he => (this.2 e he).1) (by omega)) (show 3 ≤ 5 by decide)
/-- the data of four empty tuples -/
abbrev e4D : PyData := .tuple [.tuple [], .tuple [], .tuple [], .tuple []]
theorem e4_lw : LwG 6 e4D := LwG.mono (.tup (n := 1) (LwG.cons (.tup (n := 0) LwG.nil) (LwG.cons (.tup (n := 0) LwG.nil) (LwG.cons (.tup (n := 0) LwG.nil) (LwG.cons (.tup (n := 0) LwG.nil) LwG.nil))))) (by decide)
/-- the least net, as data -/
abbrev aD : PyData := .tuple [.tuple [.str "a"], .tuple [], .tuple [], .tuple []]
theorem aD_lw : LwG 2 aD := .tup (n := 1) (LwG.cons (.tup (n := 0) (LwG.cons (.str (by decide +kernel) (by decide +kernel)) LwG.nil)) (LwG.cons (.mono (.tup (n := 0) LwG.nil) (by decide)) (LwG.cons (.mono (.tup (n := 0) LwG.nil) (by decide)) (LwG.cons (.mono (.tup (n := 0) LwG.nil) (by decide)) LwG.nil))))
theorem aD_net : netB aD = true := by decide +kernel
section
variable {P : Program} {w : World} {K : PySem.W.Frag} {mg : Str → Option Value} {base : Heap} {k : Nat}
def sp_law (K : PySem.W.Frag) : Sp := fun vs H Q _ => ∃ (a : Addr) (ns : List Int), vs = [.ref a] ∧ SqL K H a (ns.map V.int) ∧ ns.length ≤ 63 ∧ ∀ H', Q (.bl true) H'
set_option maxHeartbeats 32000000 in
theorem ok_law {f : Addr} {fd : FuncData} (F : FnP K "law" s_law f fd) (T : Defs K mg) : FnOk P w K mg base CX0 6 f fd ["_law_script"] (sp_law K) := by
  have G_l_bag : FnOk P w K mg base CX0 5 _ _ _ _ := ok_l_bag T
  have G_l_net : FnOk P w K mg base CX0 5 _ _ _ _ := ok_l_net (k := 1) T
  have G_l_odd : FnOk P w K mg base CX0 5 _ _ _ _ := ok_l_odd (k := 3) T
  have G_l_full : FnOk P w K mg base CX0 5 _ _ _ _ := ok_l_full (k := 3) T
  have G_l_twice : FnOk P w K mg base CX0 5 _ _ _ _ := ok_l_twice (k := 3) T
  have G_l_bent : FnOk P w K mg base CX0 5 _ _ _ _ := ok_l_bent (k := 1) T
  have G_l_is_net : FnOk P w K mg base CX0 5 _ _ _ _ := ok_l_is_net (k := 2) T
  have G_is_net : FnOk P w K mg base CX0 5 _ _ _ _ := ok_is_net (k := 0) T
  refine F.ok sc_law (fun vs H Q E h => ?_) (fun cdv A outer s H vs Q E hr h => ?_)
  · obtain ⟨a, ns, rfl, _⟩ := h
    rfl
  · obtain ⟨a, ns, rfl, hS, hlen, q⟩ := h
    refine ⟨_, PSs.nox
(pss_cons (ps_for PassesOwn.never rfl (pi_range1 (by rfl) T.z_range (pa_cons (pe_callB (call_max2 rfl) (by rfl) T.z_max (by decide +kernel) (pa_cons (pe_int) (pa_cons (pe_callB (call_min2 rfl) (by rfl) T.z_min (by decide +kernel) (pa_cons (pe_int) (pa_cons (pe_callB (r := rLenS K) call_lenS (by rfl) T.z_len (by decide +kernel) (pa_cons (pv 0) pa_nil)) pa_nil))) pa_nil))) pa_nil)) (pg_name (i := 1) sc_law.nd rfl (.inl rfl))
      (pss_cons (ps_set (i := 2) sc_law.nd rfl (.inr rfl) (pe_call G_l_bag hr (by rfl) T.g_l_bag T.F_l_bag.kp T.b_l_bag .nil pass0 (pa_cons (pv 0) (pa_cons (pv 1) pa_nil))))
      (pss_cons (ps_set (i := 3) sc_law.nd rfl (.inr rfl) (pe_ix (r := rIxT K) ix_tup (pe_call G_l_net hr (by rfl) T.g_l_net T.F_l_net.kp T.b_l_net .nil pass0 (pa_cons (pv 2) pa_nil)) (pe_int) (fun _ _ => rfl)))
      (pss_cons (ps_set (i := 4) sc_law.nd rfl (.inl rfl) (pe_lst (pa_cons (pv 3) (pa_cons (pe_callTy call_list_of (by rfl) T.z_list (by decide +kernel) (pa_cons (pv 3) pa_nil)) (pa_cons (pe_tup (pa_cons (pe_tup pa_nil) (pa_cons (pe_tup pa_nil) (pa_cons (pe_tup pa_nil) (pa_cons (pe_tup pa_nil) pa_nil))))) (pa_cons (pe_call G_l_odd hr (by rfl) T.g_l_odd T.F_l_odd.kp T.b_l_odd .nil pass0 (pa_cons (pv 2) pa_nil)) (pa_cons (pe_call G_l_full hr (by rfl) T.g_l_full T.F_l_full.kp T.b_l_full .nil pass0 (pa_cons (pv 2) pa_nil)) (pa_cons (pe_call G_l_twice hr (by rfl) T.g_l_twice T.F_l_twice.kp T.b_l_twice .nil pass0 (pa_cons (pv 2) (pa_cons (pv 3) pa_nil))) pa_nil))))))))
      (pss_cons (ps_set (i := 4) sc_law.nd rfl (.inl rfl) (pe_op op_cat (pv 4) (pe_lc (own := [("_law_turn", 8)]) (g := gName 8) rfl sc_law.nd (pi_range1 (by rfl) T.z_range (pa_cons (pe_int) pa_nil)) (blkOk_by (N := N_law) (sc := defScope s_law) (by decide +kernel)) (fun _ _ _ _ _ => (pg_name (i := 8) sc_law.nd rfl (.inl rfl))) (fun _ _ _ _ _ => pts_nil) (fun _ _ _ _ _ => (pe_call G_l_bent hr (by rfl) T.g_l_bent T.F_l_bent.kp T.b_l_bent .nil pass0 (pa_cons (pv 2) (pa_cons (pv 3) pa_nil)))))))
      (pss_cons (ps_if (pt_not (pt_val (pe_call G_l_is_net hr (by rfl) T.g_l_is_net T.F_l_is_net.kp T.b_l_is_net .nil pass0 (pa_cons (pv 3) pa_nil))))
        (pss_one (ps_ret (pe_bl)))
        pss_nil)
      (pss_one (ps_for PassesOwn.never rfl (pi_list (pv 4)) (pg_name (i := 5) sc_law.nd rfl (.inl rfl))
        (pss_cons (ps_set (i := 6) sc_law.nd rfl (.inl rfl) (pe_call G_l_is_net hr (by rfl) T.g_l_is_net T.F_l_is_net.kp T.b_l_is_net .nil pass0 (pa_cons (pv 5) pa_nil)))
        (pss_one (ps_for PassesOwn.never rfl (pi_list (pe_lst (pa_cons (pe_call G_is_net hr (by rfl) T.g_is_net T.F_is_net.kp T.b_is_net .nil pass0 (pa_cons (pv 5) pa_nil)) (pa_cons (pe_call G_is_net hr (by rfl) T.g_is_net T.F_is_net.kp T.b_is_net .nil pass0 (pa_cons (pv 5) pa_nil)) pa_nil)))) (pg_name (i := 7) sc_law.nd rfl (.inl rfl))
          (pss_one (ps_if (PW.pt (pw_or (pt_not (pt_val (pe_callB call_isi (by rfl) T.z_isinstance (by decide +kernel) (pa_cons (pv 7) (pa_cons (pe_bltn (v := .ty "bool") (by rfl) T.z_bool (by decide +kernel) rfl) pa_nil))))) (pw_or1 (pt_cmpR op_ne (pv 7) (pv 6) (nomark _)))))
            (pss_one (ps_ret (pe_bl)))
            pss_nil)))))))))))))
    (pss_one (ps_ret (pe_cmpR op_isB (pe_call G_is_net hr (by rfl) T.g_is_net T.F_is_net.kp T.b_is_net .nil pass0 (pa_cons (pe_tup (pa_cons (pe_tup (pa_cons (pe_str) pa_nil)) (pa_cons (pe_tup pa_nil) (pa_cons (pe_tup pa_nil) (pa_cons (pe_tup pa_nil) pa_nil))))) pa_nil)) (pe_bl) (nomark _)))))
      , ?_⟩
    have lenV : (ns.map V.int).length = ns.length := List.length_map _
    have sz : ∀ {a : Nat}, a ≤ 5000 → a ≤ sizeLine := fun h => Nat.le_of_lt (small5000 h)
    refine ⟨.ref a, rfl, a, _, rfl, .inl hS, 5, _, rfl, 2, _, rfl, _, rfl, ?_, ?_, ?_⟩
    · rw [lenV]
      split <;> split <;> omega
    · rw [lenV]
      split <;> split <;> omega
    · obtain ⟨n, en, hn⟩ : ∃ n : Nat, (if (if ((ns.map V.int).length : Int) < 5 then ((ns.map V.int).length : Int) else 5) > 2 then (if ((ns.map V.int).length : Int) < 5 then ((ns.map V.int).length : Int) else 5) else 2) = (n : Int) ∧ n ≤ 5 := by
        rw [lenV]
        refine ⟨(if (if (ns.length : Int) < 5 then (ns.length : Int) else 5) > 2 then (if (ns.length : Int) < 5 then (ns.length : Int) else 5) else 2).toNat, ?_, ?_⟩
        · split <;> split <;> omega
        · split <;> split <;> omega
      rw [en, Int.toNat_natCast]
      refine for_range (lo := 0) (n := n) (fun i σ H3 => ∃ (y1 y2 y3 y4 y5 y6 y7 y8 : Option V), σ = [some (.ref a), y1, y2, y3, y4, y5, y6, y7, y8] ∧ Same H H3)
        ⟨none, none, none, none, none, none, none, none, rfl, .refl _⟩ (fun i σ H3 hi hp => ?_) (fun σ H3 hp => ?_)
      · obtain ⟨y1, y2, y3, y4, y5, y6, y7, y8, rfl, s3⟩ := hp
        have hS3 : SqL K H3 a (ns.map V.int) := sq_same s3 hS
        refine ⟨.ref a, rfl, .int (0 + (i : Int)), rfl, a, ns, i, by rw [Int.zero_add]; rfl, hS3, by omega, fun H4 p s4 np b4 => ?_⟩
        have nHp : H p = none := up0 s3 np
        have s04 := s3.trans s4
        refine ⟨.ref p, rfl, p, rfl, b4, fun H5 r nt wy ls zs qs J tis sts jns rws k5 b5 er hnet hwy hok pS pJ pR => ?_⟩
        refine ⟨r, _, 0, .ref nt, rfl, rfl, SqT.of er, atI_nat (j := 0) rfl, ?_⟩
        obtain ⟨dok, nsok, sne⟩ := drawn_ok hok pS pJ pR
        have hnt := netAt_ntf hnet
        have lne : ls.map SX.S ≠ [] := fun z => by
          have := congrArg List.length z
          rw [List.length_map] at this
          have := hok.l1
          have : ls.length = 0 := by assumption
          omega
        have sne : sts.map sOf ≠ [] := fun z => sne (List.map_eq_nil_iff.mp z)
        generalize ls.map SX.S = ls' at dok nsok hnt lne
        generalize sts.map sOf = sts' at dok nsok hnt sne
        generalize jns.map jOf = jns' at dok nsok hnt
        generalize rws.map tOf = tis' at dok nsok hnt
        clear pS pJ pR hok hwy hnet er
        have hrow := fun S : Addr → Prop => ntf_rows (p := p) (S := S) hnt nsok
        obtain ⟨xs, xl4, er, hx5, lw5⟩ := hrow fun _ => True
        have tgN : TG p (fun _ => True) H5 (.ref nt) (netD ls' sts' jns' tis') := ⟨.tup er hx5, LwG.tup lw5 (by show 4 ≤ 1000; decide)⟩
        refine ⟨.ref nt, rfl, .ref nt, rfl, nt, xs, rfl, .inr er.sq, fun c1 n1 => ⟨Nat.zero_le _, fun t1 m1 => ⟨Nat.zero_le _, fun t2 m2 => ⟨Nat.zero_le _, fun t3 m3 => ⟨Nat.zero_le _, fun t4 m4 => ⟨show 4 ≤ sizeLine by rw [sizeLine_eq]; decide, fun t5 m5 => ?_⟩⟩⟩⟩⟩⟩
        have u1 := same_upd (o := .lst xs) n1
        have q1 := same_upd (o := .tup []) m1
        have q2 := same_upd (o := .tup []) m2
        have q3 := same_upd (o := .tup []) m3
        have q4 := same_upd (o := .tup []) m4
        have q5 := same_upd (o := .tup [V.ref t1, .ref t2, .ref t3, .ref t4]) m5
        have e1 : (upd H5 c1 (.lst xs)) c1 = some (.lst xs) := upd_same
        have f1 : (upd (upd H5 c1 (.lst xs)) t1 (.tup [])) t1 = some (.tup []) := upd_same
        show tCall _ _ _ _ _ _ _
        generalize upd H5 c1 (.lst xs) = Ha at *
        generalize upd Ha t1 (.tup []) = Hb at *
        have f2 : (upd Hb t2 (.tup [])) t2 = some (.tup []) := upd_same
        generalize upd Hb t2 (.tup []) = Hc at *
        have f3 : (upd Hc t3 (.tup [])) t3 = some (.tup []) := upd_same
        generalize upd Hc t3 (.tup []) = Hd at *
        have f4 : (upd Hd t4 (.tup [])) t4 = some (.tup []) := upd_same
        generalize upd Hd t4 (.tup []) = He at *
        have f5 : (upd He t5 (.tup [V.ref t1, .ref t2, .ref t3, .ref t4])) t5 = some (.tup [V.ref t1, .ref t2, .ref t3, .ref t4]) := upd_same
        generalize upd He t5 (.tup [V.ref t1, .ref t2, .ref t3, .ref t4]) = H6 at *
        have q25 := ((q2.trans q3).trans q4).trans q5
        have s16 := q1.trans q25
        have s56 := u1.trans s16
        have b6 := b5.keep s56
        have tgL : TG p (fun _ => True) H6 (.ref c1) (.list ((rowsD4 ls' sts' jns' tis').map PyData.tuple)) := ⟨.lst (b5.ne n1) trivial (s16 _ _ e1) (hx5.same s56), LwG.lst lw5⟩
        have tgE : TG p (fun _ => True) H6 (.ref t5) e4D := ⟨.tup (.inl f5) (.cons (.tup (.inl (q25 _ _ f1)) .nil) (.cons (.tup (.inl (q5 _ _ (q4 _ _ (q3 _ _ f2)))) .nil) (.cons (.tup (.inl (q5 _ _ (q4 _ _ f3))) .nil) (.cons (.tup (.inl (q5 _ _ f4)) .nil) .nil)))), e4_lw⟩
        have tgN6 := tgN.same s56
        have k56 := Keep.of (p := p) s56
        have nt6 := hnt.tk (TKF.keep k56 b5)
        clear f1 f2 f3 f4 f5 e1 q1 q2 q3 q4 q5 q25 s16 u1 m1 m2 m3 m4 m5 n1 s56
        refine ⟨.ref p, rfl, fun _ => True, p, rfl, b6, fun _ _ => trivial, fun H7 vo od k7 b7 go lwo => ?_⟩
        refine ⟨.ref p, rfl, fun _ => True, p, rfl, b7, fun H8 vf fd k8 b8 gf lwf => ?_⟩
        have nt8 := (nt6.tk (TKF.keep k7 b6)).tk (TKF.keep k8 b7)
        refine ⟨.ref p, rfl, .ref nt, rfl, fun _ => True, p, nt, ls', sts', jns', tis', rfl, b8, nt8, nsok, lne, sne, fun H9 vt td k9 b9 gt lwt => ⟨show 6 ≤ sizeLine by rw [sizeLine_eq]; decide, fun L nL => ?_⟩⟩
        have sL := same_upd (o := .lst [V.ref nt, .ref c1, .ref t5, vo, vf, vt]) nL
        have eL : upd H9 L (.lst [V.ref nt, .ref c1, .ref t5, vo, vf, vt]) L = some (.lst [V.ref nt, .ref c1, .ref t5, vo, vf, vt]) := upd_same
        have k69 := k7.trans (k8.trans k9)
        have b10 := b9.keep sL
        have k610 := k69.trans (.of sL)
        have nt10 := nt6.tk (TKF.keep k610 b6)
        have hv : Paired (TG p (fun _ => True) (upd H9 L (.lst [V.ref nt, .ref c1, .ref t5, vo, vf, vt]))) [V.ref nt, .ref c1, .ref t5, vo, vf, vt] [netD ls' sts' jns' tis', .list ((rowsD4 ls' sts' jns' tis').map PyData.tuple), e4D, od, fd, td] :=
          .cons (tgN6.keep k610 b6) (.cons (tgL.keep k610 b6) (.cons (tgE.keep k610 b6) (.cons ⟨(go.keep (k8.trans (k9.trans (.of sL))) b7), lwo.mono (by decide)⟩ (.cons ⟨gf.keep (k9.trans (.of sL)) b8, lwf⟩ (.cons ⟨gt.same sL, lwt⟩ .nil)))))
        have nLp := b9.ne nL
        show gName 4 _ _ (upd H9 L (.lst [V.ref nt, .ref c1, .ref t5, vo, vf, vt])) _
        generalize upd H9 L (.lst [V.ref nt, .ref c1, .ref t5, vo, vf, vt]) = H10 at eL b10 k610 nt10 hv ⊢
        have vl6 : ([V.ref nt, .ref c1, .ref t5, vo, vf, vt] : List V).length = 6 := rfl
        generalize ([V.ref nt, .ref c1, .ref t5, vo, vf, vt] : List V) = vs6 at eL hv vl6
        generalize [netD ls' sts' jns' tis', .list ((rowsD4 ls' sts' jns' tis').map PyData.tuple), e4D, od, fd, td] = ds6 at hv
        clear sL nL k69 gt gf go tgE tgL tgN6 k9 k8 k7 nt8 b6 b7 b8 b9
        refine ⟨.ref L, rfl, 4, rfl, by decide, by decide, fun C nC => ?_⟩
        have nCp := b10.ne nC
        have hvC := paired_imp hv fun v _ d h => h.off nC
        have sC := same_upd (o := .lst []) nC
        refine lc_it walk_range (fun j Hx => Keep p H10 Hx ∧ Bag Hx p ∧ ∃ vs ds, Hx C = some (.lst vs) ∧ Paired (TG p (fun a => a ≠ C) Hx) vs ds ∧ vs.length = j) ⟨.of sC, b10.keep sC, [], [], upd_same, .nil, rfl⟩ (fun _ _ _ _ => trivial) (fun j v Hx Hx' hj pv y => ?_) (fun H11 pv => ?_)
        · obtain ⟨rfl, rfl⟩ := y
          obtain ⟨kx, bx, vs, ds, eC, hp, vl⟩ := pv
          have hj : j < 4 := hj
          have ntx := nt10.tk (TKF.keep kx b10)
          refine ⟨rfl, yes_ ⟨.ref p, rfl, .ref nt, rfl, fun a => a ≠ C, p, nt, ls', sts', jns', tis', rfl, bx, ntx, nsok, lne, (fun a n z => by rw [z, eC] at n; cases n), fun Hy v d ky b_y dg lw => ?_⟩⟩
          have eCy := ky _ _ nCp eC
          refine ⟨vs, eCy, small5000 (by omega), (kx.trans ky).set nC, ?_, vs ++ [v], ds ++ [d], upd_same, ?_, by rw [List.length_append, vl]; rfl⟩
          · obtain ⟨g, r, e, h⟩ := b_y
            exact ⟨g, r, by rw [upd_ne (Ne.symm nCp)]; exact e, h⟩
          · exact paired_snoc (paired_imp hp fun x _ e h => (h.keep ky bx).upd eCy) (TG.upd ⟨dg, lw⟩ eCy)
        obtain ⟨k11, b11, vs, ds, eC, hp, vl⟩ := pv
        have vl : vs.length = 4 := vl
        have hv11 := paired_imp hvC fun v _ d h => h.keep k11 b10
        refine ⟨L, C, vs6, vs, rfl, rfl, k11 _ _ nLp eL, eC, sz (by omega), fun M nM => ?_⟩
        have sM := same_upd (o := .lst (vs6 ++ vs)) nM
        have eM : upd H11 M (.lst (vs6 ++ vs)) M = some (.lst (vs6 ++ vs)) := upd_same
        have hall := paired_append (paired_imp hv11 fun v _ d h => h.same sM) (paired_imp hp fun v _ d h => h.same sM)
        have nt12 := (nt10.tk (TKF.keep k11 b10)).tk (TKF.of sM)
        have k512 := (k56.trans k610).trans (k11.trans (.of sM))
        show gName 4 _ _ (upd H11 M (.lst (vs6 ++ vs))) _
        generalize upd H11 M (.lst (vs6 ++ vs)) = H12 at eM hall nt12 k512 ⊢
        have ml : (vs6 ++ vs).length = 10 := by rw [List.length_append]; omega
        generalize vs6 ++ vs = vs10 at eM hall ml
        generalize ds6 ++ ds = ds10 at hall
        clear hv11 hp sM nM eC eL hvC hv
        have lwN := tgN.2
        refine ⟨.ref nt, rfl, .ref nt, _, rfl, ntf_df nt12, lwN.tb, lwN.shaped (by decide), w0_of lwN.wd, fun H13 s13 => ⟨_, rfl, ?_⟩⟩
        rw [dok]
        have s03 : Same H H12 := fun c o e => k512 _ _ (ne_of_none e nHp) (k5 _ _ (ne_of_none e nHp) (s04 _ _ e))
        refine iteF ⟨.ref M, rfl, M, rfl, ⟨_, SqL.of (s13 _ _ eM)⟩, ?_⟩
        refine for_it (walk_list (xs := vs10)) (fun j σ Hx => ∃ (y5 y6 y7 y8 : Option V), σ = [some (.ref a), some (.int (0 + (i : Int))), some (.ref p), some (.ref nt), some (.ref M), y5, y6, y7, y8] ∧ Same H12 Hx) ⟨_, _, _, _, rfl, s13⟩ (fun j σ Hx _ hp => ?_) (fun j v σ Hx₀ Hx hj hp yy => ?_) (fun σ Hx hp => ?_)
        · obtain ⟨_, _, _, _, _, s⟩ := hp
          exact SqL.of (s _ _ eM)
        · obtain ⟨rfl, ex⟩ := yy
          obtain ⟨y5, y6, y7, y8, rfl, sx⟩ := hp
          obtain ⟨d, _, hd⟩ := paired_get hall ex
          have lwd := hd.2
          have shd := lwd.shaped (by decide)
          have hdx := (hd.same sx).1.df
          refine ⟨v, rfl, v, d, rfl, hdx, lwd.tb, shd, w0_of lwd.wd, fun H14 s14 => ?_⟩
          have hd14 := hdx.same s14
          refine ⟨v, rfl, v, d, rfl, hd14, lwd.tb, shd, fun H15 s15 => ⟨v, rfl, v, d, rfl, hd14.same s15, lwd.tb, shd, fun H16 s16 => ⟨two_sz, fun N nN => ?_⟩⟩⟩
          have sN := same_upd (o := .lst [V.bl (netB d), .bl (netB d)]) nN
          have eN : upd H16 N (.lst [V.bl (netB d), .bl (netB d)]) N = some (.lst [V.bl (netB d), .bl (netB d)]) := upd_same
          have sx6 := ((sx.trans s14).trans (s15.trans s16)).trans sN
          generalize upd H16 N (.lst [V.bl (netB d), .bl (netB d)]) = H17 at eN sx6 ⊢
          refine ⟨N, rfl, ⟨_, SqL.of eN⟩, ?_⟩
          refine for_it (walk_list (xs := [V.bl (netB d), .bl (netB d)])) (fun j' σ Hx => ∃ (y7 y8 : Option V), σ = [some (.ref a), some (.int (0 + (i : Int))), some (.ref p), some (.ref nt), some (.ref M), some v, some (.bl (netB d)), y7, y8] ∧ Same H17 Hx) ⟨_, _, rfl, .refl _⟩ (fun j' σ Hx _ hp => ?_) (fun j' v' σ Hx₀ Hx hj' hp yy => ?_) (fun σ Hx hp => ?_)
          · obtain ⟨_, _, _, s⟩ := hp
            exact SqL.of (s _ _ eN)
          · obtain ⟨rfl, ex'⟩ := yy
            obtain ⟨y7, y8, rfl, s7⟩ := hp
            have ev : v' = .bl (netB d) := by
              have := List.mem_of_getElem? ex'
              simp only [List.mem_cons, List.not_mem_nil, or_false, or_self] at this
              exact this
            subst ev
            refine ⟨.bl (netB d), rfl, .bl (netB d), .ty "bool", _, _, _, rfl, .ty _, (Df.bl (H := Hx) (netB d)).ty, kit_B (.bool (netB d)), isiB (.bool (netB d)), rfl, iteF ?_⟩
            refine ⟨.bl (netB d), rfl, .bl (netB d), rfl, rfl, _, rfl, ?_⟩
            rw [show (!decide (V.bl (netB d) = V.bl (netB d))) = false by simp]
            exact iteF ⟨_, _, rfl, s7⟩
          · obtain ⟨y7, y8, rfl, s7⟩ := hp
            exact ⟨_, _, _, _, rfl, sx6.trans s7⟩
        · obtain ⟨y5, y6, y7, y8, rfl, sx⟩ := hp
          exact ⟨_, _, _, _, _, _, _, _, rfl, s03.trans sx⟩
      · obtain ⟨y1, y2, y3, y4, y5, y6, y7, y8, rfl, s3⟩ := hp
        refine ⟨one_sz, fun t1 m1 => ⟨Nat.zero_le _, fun t2 m2 => ⟨Nat.zero_le _, fun t3 m3 => ⟨Nat.zero_le _, fun t4 m4 => ⟨show 4 ≤ sizeLine by rw [sizeLine_eq]; decide, fun t5 m5 => ?_⟩⟩⟩⟩⟩
        have f1 : (upd H3 t1 (.tup [V.str "a"])) t1 = some (.tup [V.str "a"]) := upd_same
        generalize upd H3 t1 (.tup [V.str "a"]) = Hb at *
        have q2 := same_upd (o := .tup []) m2
        have f2 : (upd Hb t2 (.tup [])) t2 = some (.tup []) := upd_same
        generalize upd Hb t2 (.tup []) = Hc at *
        have q3 := same_upd (o := .tup []) m3
        have f3 : (upd Hc t3 (.tup [])) t3 = some (.tup []) := upd_same
        generalize upd Hc t3 (.tup []) = Hd at *
        have q4 := same_upd (o := .tup []) m4
        have f4 : (upd Hd t4 (.tup [])) t4 = some (.tup []) := upd_same
        generalize upd Hd t4 (.tup []) = He at *
        have q5 := same_upd (o := .tup [V.ref t1, .ref t2, .ref t3, .ref t4]) m5
        have f5 : (upd He t5 (.tup [V.ref t1, .ref t2, .ref t3, .ref t4])) t5 = some (.tup [V.ref t1, .ref t2, .ref t3, .ref t4]) := upd_same
        generalize upd He t5 (.tup [V.ref t1, .ref t2, .ref t3, .ref t4]) = H6 at *
        have hA : Df H6 (.ref t5) aD := .tup (.inl f5) (.cons (.tup (.inl (q5 _ _ (q4 _ _ (q3 _ _ (q2 _ _ f1))))) (.cons (.str _) .nil)) (.cons (.tup (.inl (q5 _ _ (q4 _ _ (q3 _ _ f2)))) .nil) (.cons (.tup (.inl (q5 _ _ (q4 _ _ f3))) .nil) (.cons (.tup (.inl (q5 _ _ f4)) .nil) .nil))))
        refine ⟨.ref t5, aD, rfl, hA, aD_lw.tb, aD_lw.shaped (by decide), fun H7 s7 => ?_⟩
        rw [aD_net]
        exact ⟨true, true, rfl, rfl, q _⟩
end
end Th
namespace Th
open PySem PySem.Spec PyProof.Rows L2
theorem facts {P : Program} {w : World} {K : PySem.W.Frag} {h : Heap} {mg : Str → Option Value} {f : Addr} (X : K.In h) (G : h.Ns mainGlobals mg) (hfa : mg ("law" : Str) = some (.ref f)) (c : He.SaysD fa fn K) :
    ∃ fd : FuncData, (∀ (s : Shared) (v : Value), BindsTo s fd ⟨[v], []⟩ [("_law_script", v)]) ∧ ∀ base : Heap, K.In base → base.Ns mainGlobals mg → FnOk P w K mg base CX0 6 f fd ["_law_script"] (sp_law K) := by
  obtain ⟨d_is_whole, F_is_whole⟩ := c.def_ 0 (d := dd_is_whole) rfl
  have b_is_whole : Binds K d_is_whole ["thing"] [] := FunD.bindsN F_is_whole fun _ _ _ _ _ _ us hl => match us, hl with | [_], _ => rfl
  obtain ⟨d_is_whole_between, F_is_whole_between⟩ := c.def_ 1 (d := dd_is_whole_between) rfl
  have b_is_whole_between : Binds K d_is_whole_between ["thing", "least", "most"] [] := FunD.bindsN F_is_whole_between fun _ _ _ _ _ _ us hl => match us, hl with | [_, _, _], _ => rfl
  obtain ⟨d_is_name, F_is_name⟩ := c.def_ 2 (d := dd_is_name) rfl
  have b_is_name : Binds K d_is_name ["thing"] [] := FunD.bindsN F_is_name fun _ _ _ _ _ _ us hl => match us, hl with | [_], _ => rfl
  obtain ⟨d_is_tuple, F_is_tuple⟩ := c.def_ 3 (d := dd_is_tuple) rfl
  have b_is_tuple : Binds K d_is_tuple ["thing", "fewest", "most"] [] := FunD.bindsN F_is_tuple fun _ _ _ _ _ _ us hl => match us, hl with | [_, _, _], _ => rfl
  obtain ⟨d_all_unlike, F_all_unlike⟩ := c.def_ 4 (d := dd_all_unlike) rfl
  have b_all_unlike : Binds K d_all_unlike ["things"] [] := FunD.bindsN F_all_unlike fun _ _ _ _ _ _ us hl => match us, hl with | [_], _ => rfl
  obtain ⟨d_is_net, F_is_net⟩ := c.def_ 5 (d := dd_is_net) rfl
  have b_is_net : Binds K d_is_net ["thing"] [] := FunD.bindsN F_is_net fun _ _ _ _ _ _ us hl => match us, hl with | [_], _ => rfl
  obtain ⟨d_are_lines, F_are_lines⟩ := c.def_ 6 (d := dd_are_lines) rfl
  have b_are_lines : Binds K d_are_lines ["thing"] [] := FunD.bindsN F_are_lines fun _ _ _ _ _ _ us hl => match us, hl with | [_], _ => rfl
  obtain ⟨d_are_stations, F_are_stations⟩ := c.def_ 7 (d := dd_are_stations) rfl
  have b_are_stations : Binds K d_are_stations ["lines", "thing"] [] := FunD.bindsN F_are_stations fun _ _ _ _ _ _ us hl => match us, hl with | [_, _], _ => rfl
  obtain ⟨d_is_station, F_is_station⟩ := c.def_ 8 (d := dd_is_station) rfl
  have b_is_station : Binds K d_is_station ["lines", "thing"] [] := FunD.bindsN F_is_station fun _ _ _ _ _ _ us hl => match us, hl with | [_, _], _ => rfl
  obtain ⟨d_are_junctions, F_are_junctions⟩ := c.def_ 9 (d := dd_are_junctions) rfl
  have b_are_junctions : Binds K d_are_junctions ["lines", "thing"] [] := FunD.bindsN F_are_junctions fun _ _ _ _ _ _ us hl => match us, hl with | [_, _], _ => rfl
  obtain ⟨d_is_junction, F_is_junction⟩ := c.def_ 10 (d := dd_is_junction) rfl
  have b_is_junction : Binds K d_is_junction ["lines", "thing"] [] := FunD.bindsN F_is_junction fun _ _ _ _ _ _ us hl => match us, hl with | [_, _], _ => rfl
  obtain ⟨d_are_joined, F_are_joined⟩ := c.def_ 11 (d := dd_are_joined) rfl
  have b_are_joined : Binds K d_are_joined ["lines", "thing"] [] := FunD.bindsN F_are_joined fun _ _ _ _ _ _ us hl => match us, hl with | [_, _], _ => rfl
  obtain ⟨d_lines_by_place, F_lines_by_place⟩ := c.def_ 12 (d := dd_lines_by_place) rfl
  have b_lines_by_place : Binds K d_lines_by_place ["stations", "junctions"] [] := FunD.bindsN F_lines_by_place fun _ _ _ _ _ _ us hl => match us, hl with | [_, _], _ => rfl
  obtain ⟨d_are_ties, F_are_ties⟩ := c.def_ 13 (d := dd_are_ties) rfl
  have b_are_ties : Binds K d_are_ties ["places", "thing"] [] := FunD.bindsN F_are_ties fun _ _ _ _ _ _ us hl => match us, hl with | [_, _], _ => rfl
  obtain ⟨d_is_tie, F_is_tie⟩ := c.def_ 14 (d := dd_is_tie) rfl
  have b_is_tie : Binds K d_is_tie ["places", "thing"] [] := FunD.bindsN F_is_tie fun _ _ _ _ _ _ us hl => match us, hl with | [_, _], _ => rfl
  obtain ⟨d_l_bag, F_l_bag⟩ := c.def_ 15 (d := dd_l_bag) rfl
  have b_l_bag : Binds K d_l_bag ["_law_script", "_law_at"] [] := FunD.bindsN F_l_bag fun _ _ _ _ _ _ us hl => match us, hl with | [_, _], _ => rfl
  obtain ⟨d_l_take, F_l_take⟩ := c.def_ 16 (d := dd_l_take) rfl
  have b_l_take : Binds K d_l_take ["_law_bag_here", "_law_many"] [] := FunD.bindsN F_l_take fun _ _ _ _ _ _ us hl => match us, hl with | [_, _], _ => rfl
  obtain ⟨d_l_whole, F_l_whole⟩ := c.def_ 17 (d := dd_l_whole) rfl
  have b_l_whole : Binds K d_l_whole ["_law_thing"] [] := FunD.bindsN F_l_whole fun _ _ _ _ _ _ us hl => match us, hl with | [_], _ => rfl
  obtain ⟨d_l_names, F_l_names⟩ := c.def_ 18 (d := dd_l_names) rfl
  have b_l_names : Binds K d_l_names ["_law_bag_here", "_law_many"] [] := FunD.bindsN F_l_names fun _ _ _ _ _ _ us hl => match us, hl with | [_, _], _ => rfl
  obtain ⟨d_l_spots, F_l_spots⟩ := c.def_ 19 (d := dd_l_spots) rfl
  have b_l_spots : Binds K d_l_spots ["_law_bag_here", "_law_many", "_law_junctions"] [] := FunD.bindsN F_l_spots fun _ _ _ _ _ _ us hl => match us, hl with | [_, _, _], _ => rfl
  obtain ⟨d_l_places, F_l_places⟩ := c.def_ 20 (d := dd_l_places) rfl
  have b_l_places : Binds K d_l_places ["_law_bag_here", "_law_many"] [] := FunD.bindsN F_l_places fun _ _ _ _ _ _ us hl => match us, hl with | [_, _], _ => rfl
  obtain ⟨d_l_net, F_l_net⟩ := c.def_ 21 (d := dd_l_net) rfl
  have b_l_net : Binds K d_l_net ["_law_bag_here"] [] := FunD.bindsN F_l_net fun _ _ _ _ _ _ us hl => match us, hl with | [_], _ => rfl
  obtain ⟨d_l_laid, F_l_laid⟩ := c.def_ 22 (d := dd_l_laid) rfl
  have b_l_laid : Binds K d_l_laid ["_law_bag_here", "_law_lines", "_law_places_here", "_law_ties"] [] := FunD.bindsN F_l_laid fun _ _ _ _ _ _ us hl => match us, hl with | [_, _, _, _], _ => rfl
  obtain ⟨d_l_is_name, F_l_is_name⟩ := c.def_ 23 (d := dd_l_is_name) rfl
  have b_l_is_name : Binds K d_l_is_name ["_law_thing"] [] := FunD.bindsN F_l_is_name fun _ _ _ _ _ _ us hl => match us, hl with | [_], _ => rfl
  obtain ⟨d_l_are_ties, F_l_are_ties⟩ := c.def_ 24 (d := dd_l_are_ties) rfl
  have b_l_are_ties : Binds K d_l_are_ties ["_law_places_here", "_law_lines", "_law_ties"] [] := FunD.bindsN F_l_are_ties fun _ _ _ _ _ _ us hl => match us, hl with | [_, _, _], _ => rfl
  obtain ⟨d_l_is_net, F_l_is_net⟩ := c.def_ 25 (d := dd_l_is_net) rfl
  have b_l_is_net : Binds K d_l_is_net ["_law_thing"] [] := FunD.bindsN F_l_is_net fun _ _ _ _ _ _ us hl => match us, hl with | [_], _ => rfl
  obtain ⟨d_l_odd, F_l_odd⟩ := c.def_ 26 (d := dd_l_odd) rfl
  have b_l_odd : Binds K d_l_odd ["_law_bag_here"] [] := FunD.bindsN F_l_odd fun _ _ _ _ _ _ us hl => match us, hl with | [_], _ => rfl
  obtain ⟨d_l_turned, F_l_turned⟩ := c.def_ 27 (d := dd_l_turned) rfl
  have b_l_turned : Binds K d_l_turned ["_law_bag_here", "_law_row", "_law_names_here"] [] := FunD.bindsN F_l_turned fun _ _ _ _ _ _ us hl => match us, hl with | [_, _, _], _ => rfl
  obtain ⟨d_l_bent, F_l_bent⟩ := c.def_ 28 (d := dd_l_bent) rfl
  have b_l_bent : Binds K d_l_bent ["_law_bag_here", "_law_net_here"] [] := FunD.bindsN F_l_bent fun _ _ _ _ _ _ us hl => match us, hl with | [_, _], _ => rfl
  obtain ⟨d_l_twice, F_l_twice⟩ := c.def_ 29 (d := dd_l_twice) rfl
  have b_l_twice : Binds K d_l_twice ["_law_bag_here", "_law_net_here"] [] := FunD.bindsN F_l_twice fun _ _ _ _ _ _ us hl => match us, hl with | [_, _], _ => rfl
  obtain ⟨d_l_full, F_l_full⟩ := c.def_ 30 (d := dd_l_full) rfl
  have b_l_full : Binds K d_l_full ["_law_bag_here"] [] := FunD.bindsN F_l_full fun _ _ _ _ _ _ us hl => match us, hl with | [_], _ => rfl
  obtain ⟨d_law, F_law⟩ := c.def_ 31 (d := dd_law) rfl
  obtain ⟨t_LONGEST_NAME, c_LONGEST_NAME⟩ := He.int_ok X G (c.fact 32 (f := .int "LONGEST_NAME" 8) rfl)
  obtain ⟨t_MOST_LINES, c_MOST_LINES⟩ := He.int_ok X G (c.fact 33 (f := .int "MOST_LINES" 8) rfl)
  obtain ⟨t_MOST_STATIONS, c_MOST_STATIONS⟩ := He.int_ok X G (c.fact 34 (f := .int "MOST_STATIONS" 16) rfl)
  obtain ⟨t_MOST_JUNCTIONS, c_MOST_JUNCTIONS⟩ := He.int_ok X G (c.fact 35 (f := .int "MOST_JUNCTIONS" 12) rfl)
  obtain ⟨t_MOST_TIES, c_MOST_TIES⟩ := He.int_ok X G (c.fact 36 (f := .int "MOST_TIES" 40) rfl)
  obtain ⟨t_MOST_CHAINS, c_MOST_CHAINS⟩ := He.int_ok X G (c.fact 37 (f := .int "MOST_CHAINS" 9999) rfl)
  have T : Defs K mg := {
    a_is_whole := _,
    d_is_whole := d_is_whole,
    F_is_whole := F_is_whole,
    g_is_whole := He.glo_ok X G (c.fact 0 (f := .glo "is_whole") rfl),
    b_is_whole := b_is_whole,
    a_is_whole_between := _,
    d_is_whole_between := d_is_whole_between,
    F_is_whole_between := F_is_whole_between,
    g_is_whole_between := He.glo_ok X G (c.fact 1 (f := .glo "is_whole_between") rfl),
    b_is_whole_between := b_is_whole_between,
    a_is_name := _,
    d_is_name := d_is_name,
    F_is_name := F_is_name,
    g_is_name := He.glo_ok X G (c.fact 2 (f := .glo "is_name") rfl),
    b_is_name := b_is_name,
    a_is_tuple := _,
    d_is_tuple := d_is_tuple,
    F_is_tuple := F_is_tuple,
    g_is_tuple := He.glo_ok X G (c.fact 3 (f := .glo "is_tuple") rfl),
    b_is_tuple := b_is_tuple,
    a_all_unlike := _,
    d_all_unlike := d_all_unlike,
    F_all_unlike := F_all_unlike,
    g_all_unlike := He.glo_ok X G (c.fact 4 (f := .glo "all_unlike") rfl),
    b_all_unlike := b_all_unlike,
    a_is_net := _,
    d_is_net := d_is_net,
    F_is_net := F_is_net,
    g_is_net := He.glo_ok X G (c.fact 5 (f := .glo "is_net") rfl),
    b_is_net := b_is_net,
    a_are_lines := _,
    d_are_lines := d_are_lines,
    F_are_lines := F_are_lines,
    g_are_lines := He.glo_ok X G (c.fact 6 (f := .glo "are_lines") rfl),
    b_are_lines := b_are_lines,
    a_are_stations := _,
    d_are_stations := d_are_stations,
    F_are_stations := F_are_stations,
    g_are_stations := He.glo_ok X G (c.fact 7 (f := .glo "are_stations") rfl),
    b_are_stations := b_are_stations,
    a_is_station := _,
    d_is_station := d_is_station,
    F_is_station := F_is_station,
    g_is_station := He.glo_ok X G (c.fact 8 (f := .glo "is_station") rfl),
    b_is_station := b_is_station,
    a_are_junctions := _,
    d_are_junctions := d_are_junctions,
    F_are_junctions := F_are_junctions,
    g_are_junctions := He.glo_ok X G (c.fact 9 (f := .glo "are_junctions") rfl),
    b_are_junctions := b_are_junctions,
    a_is_junction := _,
    d_is_junction := d_is_junction,
    F_is_junction := F_is_junction,
    g_is_junction := He.glo_ok X G (c.fact 10 (f := .glo "is_junction") rfl),
    b_is_junction := b_is_junction,
    a_are_joined := _,
    d_are_joined := d_are_joined,
    F_are_joined := F_are_joined,
    g_are_joined := He.glo_ok X G (c.fact 11 (f := .glo "are_joined") rfl),
    b_are_joined := b_are_joined,
    a_lines_by_place := _,
    d_lines_by_place := d_lines_by_place,
    F_lines_by_place := F_lines_by_place,
    g_lines_by_place := He.glo_ok X G (c.fact 12 (f := .glo "lines_by_place") rfl),
    b_lines_by_place := b_lines_by_place,
    a_are_ties := _,
    d_are_ties := d_are_ties,
    F_are_ties := F_are_ties,
    g_are_ties := He.glo_ok X G (c.fact 13 (f := .glo "are_ties") rfl),
    b_are_ties := b_are_ties,
    a_is_tie := _,
    d_is_tie := d_is_tie,
    F_is_tie := F_is_tie,
    g_is_tie := He.glo_ok X G (c.fact 14 (f := .glo "is_tie") rfl),
    b_is_tie := b_is_tie,
    a_l_bag := _,
    d_l_bag := d_l_bag,
    F_l_bag := F_l_bag,
    g_l_bag := He.glo_ok X G (c.fact 15 (f := .glo "_law_bag") rfl),
    b_l_bag := b_l_bag,
    a_l_take := _,
    d_l_take := d_l_take,
    F_l_take := F_l_take,
    g_l_take := He.glo_ok X G (c.fact 16 (f := .glo "_law_take") rfl),
    b_l_take := b_l_take,
    a_l_whole := _,
    d_l_whole := d_l_whole,
    F_l_whole := F_l_whole,
    g_l_whole := He.glo_ok X G (c.fact 17 (f := .glo "_law_whole") rfl),
    b_l_whole := b_l_whole,
    a_l_names := _,
    d_l_names := d_l_names,
    F_l_names := F_l_names,
    g_l_names := He.glo_ok X G (c.fact 18 (f := .glo "_law_names") rfl),
    b_l_names := b_l_names,
    a_l_spots := _,
    d_l_spots := d_l_spots,
    F_l_spots := F_l_spots,
    g_l_spots := He.glo_ok X G (c.fact 19 (f := .glo "_law_spots") rfl),
    b_l_spots := b_l_spots,
    a_l_places := _,
    d_l_places := d_l_places,
    F_l_places := F_l_places,
    g_l_places := He.glo_ok X G (c.fact 20 (f := .glo "_law_places") rfl),
    b_l_places := b_l_places,
    a_l_net := _,
    d_l_net := d_l_net,
    F_l_net := F_l_net,
    g_l_net := He.glo_ok X G (c.fact 21 (f := .glo "_law_net") rfl),
    b_l_net := b_l_net,
    a_l_laid := _,
    d_l_laid := d_l_laid,
    F_l_laid := F_l_laid,
    g_l_laid := He.glo_ok X G (c.fact 22 (f := .glo "_law_laid") rfl),
    b_l_laid := b_l_laid,
    a_l_is_name := _,
    d_l_is_name := d_l_is_name,
    F_l_is_name := F_l_is_name,
    g_l_is_name := He.glo_ok X G (c.fact 23 (f := .glo "_law_is_name") rfl),
    b_l_is_name := b_l_is_name,
    a_l_are_ties := _,
    d_l_are_ties := d_l_are_ties,
    F_l_are_ties := F_l_are_ties,
    g_l_are_ties := He.glo_ok X G (c.fact 24 (f := .glo "_law_are_ties") rfl),
    b_l_are_ties := b_l_are_ties,
    a_l_is_net := _,
    d_l_is_net := d_l_is_net,
    F_l_is_net := F_l_is_net,
    g_l_is_net := He.glo_ok X G (c.fact 25 (f := .glo "_law_is_net") rfl),
    b_l_is_net := b_l_is_net,
    a_l_odd := _,
    d_l_odd := d_l_odd,
    F_l_odd := F_l_odd,
    g_l_odd := He.glo_ok X G (c.fact 26 (f := .glo "_law_odd") rfl),
    b_l_odd := b_l_odd,
    a_l_turned := _,
    d_l_turned := d_l_turned,
    F_l_turned := F_l_turned,
    g_l_turned := He.glo_ok X G (c.fact 27 (f := .glo "_law_turned") rfl),
    b_l_turned := b_l_turned,
    a_l_bent := _,
    d_l_bent := d_l_bent,
    F_l_bent := F_l_bent,
    g_l_bent := He.glo_ok X G (c.fact 28 (f := .glo "_law_bent") rfl),
    b_l_bent := b_l_bent,
    a_l_twice := _,
    d_l_twice := d_l_twice,
    F_l_twice := F_l_twice,
    g_l_twice := He.glo_ok X G (c.fact 29 (f := .glo "_law_twice") rfl),
    b_l_twice := b_l_twice,
    a_l_full := _,
    d_l_full := d_l_full,
    F_l_full := F_l_full,
    g_l_full := He.glo_ok X G (c.fact 30 (f := .glo "_law_full") rfl),
    b_l_full := b_l_full,
    t_LONGEST_NAME := t_LONGEST_NAME,
    c_LONGEST_NAME := c_LONGEST_NAME,
    t_MOST_LINES := t_MOST_LINES,
    c_MOST_LINES := c_MOST_LINES,
    t_MOST_STATIONS := t_MOST_STATIONS,
    c_MOST_STATIONS := c_MOST_STATIONS,
    t_MOST_JUNCTIONS := t_MOST_JUNCTIONS,
    c_MOST_JUNCTIONS := c_MOST_JUNCTIONS,
    t_MOST_TIES := t_MOST_TIES,
    c_MOST_TIES := c_MOST_TIES,
    t_MOST_CHAINS := t_MOST_CHAINS,
    c_MOST_CHAINS := c_MOST_CHAINS,
    z_abs := He.free_ok X G (c.fact 38 (f := .free "abs") rfl),
    z_all := He.free_ok X G (c.fact 39 (f := .free "all") rfl),
    z_bool := He.free_ok X G (c.fact 40 (f := .free "bool") rfl),
    z_int := He.free_ok X G (c.fact 41 (f := .free "int") rfl),
    z_isinstance := He.free_ok X G (c.fact 42 (f := .free "isinstance") rfl),
    z_len := He.free_ok X G (c.fact 43 (f := .free "len") rfl),
    z_list := He.free_ok X G (c.fact 44 (f := .free "list") rfl),
    z_max := He.free_ok X G (c.fact 45 (f := .free "max") rfl),
    z_min := He.free_ok X G (c.fact 46 (f := .free "min") rfl),
    z_range := He.free_ok X G (c.fact 47 (f := .free "range") rfl),
    z_set := He.free_ok X G (c.fact 48 (f := .free "set") rfl),
    z_sorted := He.free_ok X G (c.fact 49 (f := .free "sorted") rfl),
    z_str := He.free_ok X G (c.fact 50 (f := .free "str") rfl),
    z_tuple := He.free_ok X G (c.fact 51 (f := .free "tuple") rfl),
    z_zip := He.free_ok X G (c.fact 52 (f := .free "zip") rfl) }
  have e := hfa.symm.trans (He.glo_ok X G (c.fact 31 (f := .glo "law") rfl))
  cases e
  have b := FunD.bindsA (ps := ["_law_script"]) F_law fun _ _ _ _ _ _ us hl => match us, hl with | [_], _ => rfl
  exact ⟨d_law, fun s v => b s [v] rfl, fun base _ _ => ok_law F_law T⟩
end Th
open PySem PySem.W PySem.Calls PyProof.Rows
set_option maxHeartbeats 0 in
theorem PySem.Challenge.cw_throughlines_k05_what_is_a_net_holds : PySem.Challenge.rw_throughlines_k05_what_is_a_net.Holds := by
  w_on; o_law
  refine HandSHeadRun.head_any (r := OpenLaw.row PySem.Challenge.rw_throughlines_k05_what_is_a_net) (q := view (OpenLaw.row PySem.Challenge.rw_throughlines_k05_what_is_a_net).prog [40]) (H := Th.hk) (ob := Th.ob) (M := 2000) (loose := Th.loose) (d := HandSHeadRun.topDef (OpenLaw.row PySem.Challenge.rw_throughlines_k05_what_is_a_net).prog 40) (kwd := []) Th.ob_eq
    (by kernel_rfl) (fun s => by kernel_rfl) Th.run (by kernel_rfl) (by kernel_rfl) (by kernel_rfl) (by rfl) (by first | assumption | decide +kernel) (by decide +kernel) ⟨rfl, rfl, rfl, rfl, rfl, by decide +kernel⟩ ?hw ?hc
  case hw => w_witness2
  case hc =>
    refine L2.walk_ofE (l := PySem.Challenge.rw_throughlines_k05_what_is_a_net) (n := 63) (k := 6) (x := "_law_script") (CX := L2.CX0) rfl (by decide) (by kernel_rfl) ⟨rfl, by decide, by decide⟩ ?F (fun _ _ _ _ z => z)
    intro w mg fa h Y G hmg0
    obtain ⟨K, KX, c⟩ := Y
    have hmg : mg ("law" : PySem.Str) = some (.ref fa) := by
      have e : (HandSHeadRun.topDef (OpenLaw.row PySem.Challenge.rw_throughlines_k05_what_is_a_net).prog 40).name = ("law" : PySem.Str) := by kernel_rfl
      rw [← e]
      exact hmg0
    obtain ⟨fd, hb, hF⟩ := Th.facts (P := (PySem.Challenge.rw_throughlines_k05_what_is_a_net).prog) (w := w) KX G hmg c
    exact ⟨K, fd, Th.sp_law K, KX, hb, fun H a ns hl _ hS => ⟨a, ns, rfl, hS, hl, fun _ => rfl⟩, hF⟩
