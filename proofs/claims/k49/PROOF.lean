import PyProof.Rows.All
import Wide.All
import OpenK.AllK
import Wide.FinOn
import KE.KStateDown
import Lean
import HandS.ForMost
import HandS.More
import HandS.WordsExc
import HandS.Defaults
import HandS.IsInst
import HandS.Zip
import HandS.Walk
import HandS.Wide
import HandS.Flow
import HandS.Evl
import HandS.Strs
import HandS.SetFor
import KE.KDictZip
import KE.KItemsList
import HandS.DictComp
import HandS.Style
import HandS.Set
import HandS.SetBool
import KE.DatumOrd
import HandS.TupAny
import HandS.Codes
import KE.KDictPairs
import KE.SortData
import HandS.ReCall
import KE.KRevSl
import KE.GoesZip
import KE.GoesMore
import KE.GoesEnum
import HandS.Lambda
import KE.GoesEnumKw
import HandS.Dict
import KE.KDictLaws
import KE.DataCmp
import KE.SortKeyHeap
import KE.KLam
import HandS.Conv
import HandS.EndTab
import HandS.HeadWalk
import HandS.HeadHook4
import HandS.DictTup
import HandS.ListItems
import HandS.Head0
import HandS.Head1
import HandS.Head2
import HandS.HeadEnd
import HandS.HeadHook1
import HandS.HeadHook2
import PySem.Challenge.RW_throughlines_k49_seals_seen
set_option Elab.async false
set_option linter.all false
set_option maxRecDepth 100000
set_option maxHeartbeats 4000000
namespace Th
open PySem PySem.Spec PyProof.Rows L2
/-! heaps -/
theorem same_upd {H : Hp} {p : Addr} {o : HO} (h : H p = none) : Same H (upd H p o) := fun b x e => by
  rw [upd_ne (ne_of_none e h)]
  exact e
/-- all but p stays -/
def Keep (p : Addr) (H H' : Hp) : Prop := ∀ b o, b ≠ p → H b = some o → H' b = some o
theorem Keep.refl (p : Addr) (H : Hp) : Keep p H H := fun _ _ _ h => h
theorem Keep.trans {p : Addr} {H H1 H2 : Hp} (a : Keep p H H1) (b : Keep p H1 H2) : Keep p H H2 := fun c o n h => b c o n (a c o n h)
theorem Keep.of {p : Addr} {H H1 : Hp} (a : Same H H1) : Keep p H H1 := fun c o _ h => a c o h
theorem Keep.upd {p : Addr} {H : Hp} {o : HO} : Keep p H (upd H p o) := fun c o n h => by rw [upd_ne n]; exact h
/-- the bag of draws at p -/
def Bag (H : Hp) (p : Addr) : Prop := ∃ g r : Int, H p = some (.lst [.int g, .int r]) ∧ 0 ≤ g ∧ 0 ≤ r ∧ r < 2147483648
theorem Bag.keep {H H' : Hp} {p : Addr} (b : Bag H p) (s : Same H H') : Bag H' p := by
  obtain ⟨g, r, e, h⟩ := b
  exact ⟨g, r, s _ _ e, h⟩
theorem Bag.some {H : Hp} {p : Addr} (b : Bag H p) : ∃ o, H p = Option.some o := by
  obtain ⟨g, r, e, _⟩ := b
  exact ⟨_, e⟩
theorem Bag.ne {H : Hp} {p q : Addr} (b : Bag H p) (h : H q = none) : q ≠ p := by
  obtain ⟨g, r, e, _⟩ := b
  exact (ne_of_none e h).symm
theorem p8 : (0 : Int) < 8 := by decide
theorem pA : (0 : Int) < 2147483647 := by decide
theorem pB : (0 : Int) < 2147483629 := by decide
theorem primes_at (i : Nat) : ∃ pr : Int, atI [V.int 2147483629, .int 2147483587, .int 2147483579, .int 2147483563, .int 2147483549, .int 2147483543, .int 2147483497, .int 2147483489] ((i : Int) % 8) = some (.int pr) ∧ 0 < pr ∧ pr < 2147483648 := by
  have e : ((i : Int) % 8) = ((i % 8 : Nat) : Int) := by omega
  rw [e]
  have h : i % 8 < 8 := Nat.mod_lt _ (by decide)
  generalize i % 8 = j at h
  have c : j = 0 ∨ j = 1 ∨ j = 2 ∨ j = 3 ∨ j = 4 ∨ j = 5 ∨ j = 6 ∨ j = 7 := by omega
  rcases c with rfl | rfl | rfl | rfl | rfl | rfl | rfl | rfl
  all_goals exact ⟨_, atI_nat rfl, by decide, by decide⟩
def sp_bag (K : PySem.W.Frag) : Sp := fun vs H Q _ => ∃ (a : Addr) (ns : List Int) (i : Nat), vs = [.ref a, .int i] ∧ SqL K H a (ns.map V.int) ∧ i < 1000000 ∧ ∀ H' p, Same H H' → H p = none → Bag H' p → Q (.ref p) H'
def sp_take : Sp := fun vs H Q _ => ∃ (p : Addr) (m : Int), vs = [.ref p, .int m] ∧ Bag H p ∧ 0 < m ∧ m < 1073741824 ∧ ∀ H' d, Keep p H H' → Bag H' p → 0 ≤ d → d < m → Q (.int d) H'
/-! data that is tracked, at addresses of which S holds -/
mutual
inductive Dt (S : Addr → Prop) (H : Hp) : V → PyData → Prop
  | non : Dt S H .non .none
  | bl (b : Bool) : Dt S H (.bl b) (.bool b)
  | int (i : Int) : Dt S H (.int i) (.int i)
  | str (x : Str) : Dt S H (.str x) (.str x)
  | lst {a : Addr} {xs : List V} {ds : List PyData} : S a → H a = some (.lst xs) → xs.length ≤ 5000 → DtAll S H xs ds → Dt S H (.ref a) (.list ds)
  | tup {a : Addr} {xs : List V} {ds : List PyData} : S a → H a = some (.tup xs) → xs.length ≤ 5000 → DtAll S H xs ds → Dt S H (.ref a) (.tuple ds)
inductive DtAll (S : Addr → Prop) (H : Hp) : List V → List PyData → Prop
  | nil : DtAll S H [] []
  | cons {v : V} {vs : List V} {d : PyData} {ds : List PyData} : Dt S H v d → DtAll S H vs ds → DtAll S H (v :: vs) (d :: ds)
end
mutual
theorem Dt.mono {S S' : Addr → Prop} {H H' : Hp} (hS : ∀ a, S a → S' a) (hh : ∀ a o, S a → H a = some o → H' a = some o) : ∀ {v : V} {d : PyData}, Dt S H v d → Dt S' H' v d
  | _, _, .non => .non
  | _, _, .bl b => .bl b
  | _, _, .int b => .int b
  | _, _, .str b => .str b
  | _, _, .lst s e l r => .lst (hS _ s) (hh _ _ s e) l (DtAll.mono hS hh r)
  | _, _, .tup s e l r => .tup (hS _ s) (hh _ _ s e) l (DtAll.mono hS hh r)
theorem DtAll.mono {S S' : Addr → Prop} {H H' : Hp} (hS : ∀ a, S a → S' a) (hh : ∀ a o, S a → H a = some o → H' a = some o) : ∀ {v : List V} {d : List PyData}, DtAll S H v d → DtAll S' H' v d
  | _, _, .nil => .nil
  | _, _, .cons a r => .cons (Dt.mono hS hh a) (DtAll.mono hS hh r)
end
mutual
theorem Dt.dp {K : PySem.W.Frag} {S : Addr → Prop} {H : Hp} : ∀ {v : V} {d : PyData}, Dt S H v d → Dp K H v d
  | _, _, .non => .non
  | _, _, .bl b => .bl b
  | _, _, .int b => .int b
  | _, _, .str b => .str b
  | _, _, .lst s e l r => .lst (SqL.of e) (DtAll.dp r)
  | _, _, .tup s e l r => .tup (SqT.of e) (DtAll.dp r)
theorem DtAll.dp {K : PySem.W.Frag} {S : Addr → Prop} {H : Hp} : ∀ {v : List V} {d : List PyData}, DtAll S H v d → DpAll K H v d
  | _, _, .nil => .nil
  | _, _, .cons a r => .cons (Dt.dp a) (DtAll.dp r)
end
abbrev SA : Addr → Prop := fun _ => True
theorem Dt.same {H H' : Hp} {v : V} {d : PyData} (s : Same H H') (h : Dt SA H v d) : Dt SA H' v d := h.mono (fun _ x => x) fun a o _ e => s a o e
theorem DtAll.same {H H' : Hp} {v : List V} {d : List PyData} (s : Same H H') (h : DtAll SA H v d) : DtAll SA H' v d := h.mono (fun _ x => x) fun a o _ e => s a o e
theorem DtAll.len {S : Addr → Prop} {H : Hp} : ∀ {v : List V} {d : List PyData}, DtAll S H v d → v.length = d.length
  | _, _, .nil => rfl
  | _, _, .cons _ r => congrArg Nat.succ r.len
theorem DtAll.get {S : Addr → Prop} {H : Hp} : ∀ {v : List V} {d : List PyData} {i : Nat} {x : V}, DtAll S H v d → v[i]? = some x → ∃ e, d[i]? = some e ∧ Dt S H x e
  | _, _, _, _, .nil, h => by simp at h
  | _, _, 0, _, .cons a r, h => by
    have e := Option.some.inj h
    subst e
    exact ⟨_, rfl, a⟩
  | _, _, i + 1, _, .cons a r, h => r.get (i := i) h
/-! depth, what may be laid -/
theorem depth_mem : ∀ {ds : List PyData} {i : Nat} {d : PyData}, ds[i]? = some d → PyData.depth d ≤ PyData.depthAll ds
  | [], _, _, h => by simp at h
  | x :: xs, 0, d, h => by
    have e := Option.some.inj h
    subst e
    rw [PyData.depthAll]
    exact Nat.le_max_left _ _
  | x :: xs, i + 1, d, h => by
    rw [PyData.depthAll]
    exact Nat.le_trans (depth_mem (i := i) h) (Nat.le_max_right _ _)
theorem lay_mem : ∀ {ds : List PyData} {i : Nat} {d : PyData}, PyData.canLayAll0 ds = true → ds[i]? = some d → PyData.canLay0 d = true
  | [], _, _, _, h => by simp at h
  | x :: xs, 0, d, c, h => by
    have e := Option.some.inj h
    subst e
    rw [PyData.canLayAll0, Bool.and_eq_true_iff] at c
    exact c.1
  | x :: xs, i + 1, d, c, h => by
    rw [PyData.canLayAll0, Bool.and_eq_true_iff] at c
    exact lay_mem (i := i) c.2 h
/-! the types -/
def tyN : PyData → String
  | .none => "NoneType"
  | .bool _ => "bool"
  | .int _ => "int"
  | .str _ => "str"
  | .list _ => "list"
  | .tuple _ => "tuple"
  | .dict _ => "dict"
theorem Dt.ty {K : PySem.W.Frag} {S : Addr → Prop} {H : Hp} {v : V} {d : PyData} (h : Dt S H v d) : TyX K H v (.type (tyN d)) := by
  cases h with
  | non => exact .base .non
  | bl b => exact .base (.bl b)
  | int b => exact .base (.int b)
  | str b => exact .base (.str b)
  | lst s e l r => exact .base (.lst e)
  | tup s e l r => exact .base (.tup e)
def isB : PyData → Bool
  | .bool _ => true
  | _ => false
def isSeq : PyData → Bool
  | .list _ => true
  | .tuple _ => true
  | _ => false
theorem kit_bool {K : PySem.W.Frag} {S : Addr → Prop} {H : Hp} {v : V} {d : PyData} (h : Dt S H v d) : PySem.W.kitOne K (.type (tyN d)) (.type "bool") = some (isB d) := by
  cases h with
  | non => exact kit_ty (a := "NoneType") (b := "bool") (r := false) (by decide +kernel)
  | bl b => exact kit_ty (a := "bool") (b := "bool") (r := true) (by decide +kernel)
  | int b => exact kit_ty (a := "int") (b := "bool") (r := false) (by decide +kernel)
  | str b => exact kit_ty (a := "str") (b := "bool") (r := false) (by decide +kernel)
  | lst s e l r => exact kit_ty (a := "list") (b := "bool") (r := false) (by decide +kernel)
  | tup s e l r => exact kit_ty (a := "tuple") (b := "bool") (r := false) (by decide +kernel)
theorem kit2 {K : PySem.W.Frag} {n : String} (h1 : kitB n "list" = some false) (h2 : kitB n "tuple" = some false) : PySem.W.kitAny K (.type n) [.type "list", .type "tuple"] = some false :=
  kitAny_cons (b := false) (kit_ty h1) (fun _ => kitAny_cons (b := false) (kit_ty h2) (fun _ => kitAny_nil) (fun z => nomatch z)) (fun z => nomatch z)
theorem kit_seq {K : PySem.W.Frag} {S : Addr → Prop} {H : Hp} {v : V} {d : PyData} (h : Dt S H v d) : PySem.W.kitAny K (.type (tyN d)) [.type "list", .type "tuple"] = some (isSeq d) := by
  cases h with
  | non => exact kit2 (n := "NoneType") (by decide +kernel) (by decide +kernel)
  | bl b => exact kit2 (n := "bool") (by decide +kernel) (by decide +kernel)
  | int b => exact kit2 (n := "int") (by decide +kernel) (by decide +kernel)
  | str b => exact kit2 (n := "str") (by decide +kernel) (by decide +kernel)
  | lst s e l r => exact kitAny_cons (b := true) (kit_ty (a := "list") (by decide +kernel)) (fun z => nomatch z) (fun _ => rfl)
  | tup s e l r => exact kitAny_cons (b := false) (kit_ty (a := "tuple") (by decide +kernel)) (fun _ => kitAny_cons (b := true) (kit_ty (a := "tuple") (by decide +kernel)) (fun z => nomatch z) (fun _ => rfl)) (fun z => nomatch z)
/-! zip of two tuples, walked -/
theorem walk_zipT {K : PySem.W.Frag} {a b : Addr} {xs ys : List V} {n : Nat} (hn : n = min xs.length ys.length) : Walk (RZ.ItzT K a b) n (fun H => SqT K H a xs ∧ SqT K H b ys) (YPair (fun i => xs[i]?) (fun i => ys[i]?)) := by
  subst hn
  refine ⟨fun i _ hi q => ?_, fun _ q => ⟨xs, ys, q.1, q.2, by omega⟩, fun i H v H' _ q y => ?_⟩
  · have h1 : i < xs.length := by omega
    have h2 : i < ys.length := by omega
    exact ⟨xs, ys, xs[i], ys[i], q.1, q.2, by simp [h1], by simp [h2]⟩
  · obtain ⟨T, x, z, h1, h2, h3, h4, h5⟩ := y
    exact ⟨T, x, z, h1, h2, h3, h4 xs q.1, h5 ys q.2⟩
theorem yes_ {σ : L2.St} {H : Hp} {A B : Hp → Prop} (h : A H) : tYes σ H fun b H3 => if b = true then A H3 else B H3 := by
  show if true = true then A H else B H
  exact iteT h
theorem small5000 {n : Nat} (h : n ≤ 5000) : n < sizeLine := Nat.lt_of_le_of_lt h (by decide)
/-- told and due are the same data, of a depth below n: True -/
def sp_like (n : Nat) : Sp := fun vs H Q _ => ∃ (v u : V) (d : PyData), vs = [v, u] ∧ Dt SA H v d ∧ Dt SA H u d ∧ d.canLay0 = true ∧ d.depth < n ∧ n ≤ 60 ∧ ∀ H', Same H H' → Q (.bl true) H'
/-- xs[i] read for an augmented store, i from 0 on -/
theorem get_listN {X : Cx} : PGet X (fun o i H Q => ∃ (p : Addr) (xs : List V) (j : Nat) (v : V), o = .ref p ∧ i = .int j ∧ H p = some (.lst xs) ∧ xs[j]? = some v ∧ Q v H) := by
  intro pins s σ H o i ov iv Q I ro ri h
  obtain ⟨p, xs, j, v, rfl, rfl, hp, hx, q⟩ := h
  cases (show ov = Value.ref p from ro)
  obtain ⟨t, rfl⟩ := ri
  obtain ⟨its, r, pl, hz⟩ := I.list (SqL.of hp)
  obtain ⟨u, eu, ru⟩ := r.get hx
  have hj : j < xs.length := (List.getElem?_eq_some_iff.mp hx).1
  have h63 := line63
  exact wpAny_getItem_list pl.isList (by omega) (by omega) (by simpa using eu) ⟨v, H, I, ru, q⟩
/-- the d-th of some whole numbers -/
theorem pick {ms : List Int} {d : Int} (h0 : 0 ≤ d) (h1 : d < ms.length) : ∃ m ∈ ms, atI (ms.map V.int) d = some (.int m) := by
  obtain ⟨j, rfl⟩ : ∃ j : Nat, d = (j : Int) := ⟨d.toNat, by omega⟩
  have hj : j < ms.length := by omega
  refine ⟨ms[j], List.getElem_mem hj, atI_nat ?_⟩
  rw [List.getElem?_map, List.getElem?_eq_getElem hj]
  rfl
theorem Bag.at {H H' : Hp} {p : Addr} (b : Bag H p) (e : H' p = H p) : Bag H' p := by
  obtain ⟨g, r, h, k⟩ := b
  exact ⟨g, r, e.trans h, k⟩
theorem Keep.new {p q : Addr} {H H' : Hp} {o : HO} (k : Keep p H H') (n : H' q = none) : Keep p H (L2.upd H' q o) := k.trans (.of (same_upd n))
theorem Keep.free {p q : Addr} {H H' : Hp} (k : Keep p H H') (b : Bag H p) (h : H' q = none) (b' : Bag H' p) : H q = none := by
  cases e : H q with
  | none => rfl
  | some o =>
    by_cases z : q = p
    · rw [z] at h
      obtain ⟨g, r, e', _⟩ := b'
      rw [e'] at h
      cases h
    · rw [k q o z e] at h
      cases h
theorem rep_one {α : Type} (x : α) (m : Nat) : (List.replicate m [x]).flatten = List.replicate m x := by
  induction m with
  | zero => rfl
  | succ m ih => rw [List.replicate_succ, List.flatten_cons, ih, List.replicate_succ]; rfl
/-! lists of whole numbers as data -/
abbrev dI (zs : List Int) : PyData := .list (zs.map PyData.int)
theorem dtAll_ints {S : Addr → Prop} {H : Hp} : ∀ zs : List Int, DtAll S H (zs.map V.int) (zs.map PyData.int)
  | [] => .nil
  | z :: zs => .cons (.int z) (dtAll_ints zs)
theorem dt_ints {H : Hp} {x : Addr} {zs : List Int} (h : H x = some (.lst (zs.map V.int))) (hl : zs.length ≤ 5000) : Dt SA H (.ref x) (dI zs) := .lst trivial h (by rw [List.length_map]; exact hl) (dtAll_ints zs)
theorem layAll_ints : ∀ zs : List Int, PyData.canLayAll0 (zs.map PyData.int) = true
  | [] => rfl
  | z :: zs => by rw [List.map_cons, PyData.canLayAll0, layAll_ints zs]; rfl
theorem lay_ints (zs : List Int) : (dI zs).canLay0 = true := layAll_ints zs
theorem depthAll_ints : ∀ zs : List Int, PyData.depthAll (zs.map PyData.int) = 0
  | [] => rfl
  | z :: zs => by rw [List.map_cons, PyData.depthAll, depthAll_ints zs]; rfl
theorem depth_ints (zs : List Int) : (dI zs).depth = 1 := by
  show PyData.depthAll (zs.map PyData.int) + 1 = 1
  rw [depthAll_ints]
theorem shaped_ints (zs : List Int) : SeqAt.shaped (dI zs) = true := Bool.and_eq_true_iff.mpr ⟨lay_ints zs, decide_eq_true (by rw [depth_ints]; decide)⟩
theorem eqv_ints (zs : List Int) : PyData.eqv (dI zs) (dI zs) = true := SeqAt.eqv_refl _ (lay_ints zs)
/-! len by a reading that names K -/
def rLenS (K : PySem.W.Frag) : List V → Hp → VK → Prop := fun xs H Q => ∃ (p : Addr) (ys : List V), xs = [.ref p] ∧ (SqL K H p ys ∨ SqT K H p ys) ∧ Q (.int ys.length) H
theorem call_lenS {X : Cx} : CallR X (.builtin "len") (rLenS X.K) := call_len_seq
theorem nn_sum : ∀ {ws : List Int}, (∀ w ∈ ws, 0 ≤ w) → 0 ≤ ws.sum
  | [], _ => by simp
  | w :: ws, h => by
    have h1 := h w (List.mem_cons_self ..)
    have h2 := nn_sum (ws := ws) fun x hx => h x (List.mem_cons_of_mem _ hx)
    rw [List.sum_cons]
    omega
theorem pos_sum : ∀ {ws : List Int} {j : Nat} {x : Int}, (∀ w ∈ ws, 0 ≤ w) → ws[j]? = some x → 0 < x → 0 < ws.sum
  | [], _, _, _, h, _ => by simp at h
  | w :: ws, 0, x, hw, h, hx => by
    have e : w = x := Option.some.inj h
    have h2 := nn_sum (ws := ws) fun x hx => hw x (List.mem_cons_of_mem _ hx)
    rw [List.sum_cons]
    omega
  | w :: ws, j + 1, x, hw, h, hx => by
    have h1 := hw w (List.mem_cons_self ..)
    have h2 := pos_sum (ws := ws) (j := j) (x := x) (fun x hx => hw x (List.mem_cons_of_mem _ hx)) h hx
    rw [List.sum_cons]
    omega
theorem cut_ints (ws : List Int) (lo hi : Option Int) : ∃ ys : List Int, cutV (ws.map V.int) lo hi = ys.map V.int := by
  unfold cutV
  exact ⟨(ws.drop _).take _, by rw [List.map_take, List.map_drop]⟩
end Th
namespace Sl
open PySem PySem.Spec PyProof.Rows L2
/-- the object of a set just made -/
abbrev set0 (w : World) : Obj := { cls := .type "set", dict := none, data := .set #[] 0 (.fresh 0 0 (!w.params.followText "set-order")) }
section
variable {P : Program} {w : World} {A : Around} {E : Value → Shared → Prop} {s : Shared}
set_option maxHeartbeats 8000000 in
/-- set(xs) of a list of whole numbers -/
theorem set_of_ints {l : Addr} {its : Array Value} (ns : List Int) {Q : Value → Shared → Prop} (nh : A.handled = none) (il : s.heap.IsList l its) (ii : IntsAre its.toList ns) (nb : ns.length + 1 < scanBound)
    (fin : ∀ (g : Heap) (tk c : Nat), SetR w g s.heap.objs.size (fun j => decide (j ∈ ns)) c → c ≤ ns.length → (∀ b o, s.heap.get? b = some o → g.get? b = some o) → Q (.ref s.heap.objs.size) { s with heap := g, toks := tk }) :
    wpAny (model P w) A (call (.type "set") [.ref l]) Q E s := by
  have isz : its.size = ns.length := by
    have z := IntsAre.length ii
    rwa [Array.length_toList] at z
  obtain ⟨_, _, mro⟩ := F.called_set.mro
  have m1 := F.called_set.made
  have m2 := F.called_set.sub
  have m3 := F.called_set.notType
  have m4 := F.called_set.canCreate
  have m5 := F.typeCall_set_1 (.ref l)
  refine wpAny_call (codeAny_of_tree (?_ : wpAny _ _ (callAny (.type "set") _) _ _ _))
  refine wpAny_pure ⟨Code.quiet_builtin _ (by decide +kernel), codeAny_builtin F.entry_type_call ?_⟩
  rw [Around.under_plain (weight_type_call_type "set" [.ref l] []) rfl]
  repeat (any_goals (first | assumption | wp_step))
  refine codeAny_mono (code_set_led1 (.ref l) (E := E) (Q₁ := fun ob z => ob = .ref s.heap.objs.size ∧ z = { s with heap := s.heap.push (set0 w) }) ⟨rfl, rfl⟩) fun r z hz => ?_
  cases r with
  | error e => exact hz
  | ok fl =>
    cases fl with
    | ret ob =>
      obtain ⟨rfl, rfl⟩ := hz
      have zS : (s.heap.push (set0 w)).get? s.heap.objs.size = some (set0 w) := Heap.get?_push_size _ rfl
      have zT : Shared.TypeIs { s with heap := s.heap.push (set0 w) } (.ref s.heap.objs.size) "set" := ⟨_, zS, rfl⟩
      have n1 := F.called_set.init.lookup
      have n2 := F.called_set.init.bind (.ref s.heap.objs.size)
      repeat (any_goals (first | assumption | wp_step))
      refine codeAny_mono (codeAny_call_builtin (R := wants (fun r z => r = .none ∧ ∃ g tk c, z = { s with heap := g, toks := tk } ∧ SetR w g s.heap.objs.size (fun j => decide (j ∈ ns)) c ∧ c ≤ ns.length ∧ ∀ b o, s.heap.get? b = some o → g.get? b = some o) E)
        F.called_set.init.plain F.entry_set_init (check_set_init_1 zT ?_)) fun r2 z2 hz2 => ?_
      · obtain ⟨⟨oc, od, odt, osl⟩, ol, c1, nl, c2⟩ := il
        simp only at c1 c2
        subst c1 c2
        have ol2 : (s.heap.push (set0 w)).get? l = some { cls := .type "list", dict := od, data := .seq its nl, slots := osl } := Heap.get?_push_of_some _ ol
        have k1 := F.sub_list_set
        have k2 := F.sub_list_frozenset
        have k3 : (Value.type "list" == Value.type "dict") = false := by decide
        have il2 : (s.heap.push (set0 w)).IsList l its := ⟨_, ol2, rfl, nl, rfl⟩
        unfold Builtin.«set.__init__» noKeywords Builtin.Frozenset.updateFrom
        generalize ePI : pyIter = PI
        wp_walk
        subst ePI
        refine wpAny_pyIter_list il2 (wpAny_bind (wpAny_runValue ?_))
        have lS : l < s.heap.objs.size := Heap.lt_size ol
        have h3 : A.in1.in1.in1.handled = none := by simp [nh]
        have nI : l ≠ (s.heap.push (set0 w)).objs.size := by
          rw [Heap.size_push]
          exact Nat.ne_of_lt (Nat.lt_succ_of_lt lS)
        have nf : s.heap.objs.size ∉ [(s.heap.push (set0 w)).objs.size, l] := by
          rw [Heap.size_push]
          simp only [List.mem_cons, List.not_mem_nil, or_false, not_or]
          exact ⟨Nat.ne_of_lt (Nat.lt_succ_self _), Nat.ne_of_gt lS⟩
        have vl : ∀ (i : Nat) (v : Value), its[i]? = some v → ∃ k t, ns[i]? = some k ∧ v = .int k t := fun i v hv => by
          have hi : i < ns.length := by rw [← isz]; exact (Array.getElem?_eq_some_iff.mp hv).1
          obtain ⟨t, e⟩ := IntsAre.int_at ii i v (by rw [Array.getElem?_toList]; exact hv)
          refine ⟨ns[i], t, List.getElem?_eq_getElem hi, ?_⟩
          rw [e, List.getD_eq_getElem?_getD, List.getElem?_eq_getElem hi] <;> rfl
        refine set_update_ints ((Walks.list h3 _ l nI its).toS) s.heap.objs.size nf ns isz nb vl (its.size - 0) 0 _ (by omega) (Nat.zero_le _) ⟨⟨_, Heap.get?_push_size _ rfl, rfl, rfl⟩, il2.push _⟩ ?zStart ?zEnd
        case zStart => exact ⟨0, Nat.le_refl 0, setR_new_at (Heap.get?_push_of_some _ zS)⟩
        case zEnd =>
          intro z c hm hc hS
          obtain ⟨g, gg, dd, tk, os⟩ := z
          have e1 : gg = s.gens := hm.gens
          have e2 : dd = s.drawn := hm.drawn
          have e3 : os = s.os := hm.os
          subst e1 e2 e3
          refine wpAny_pure (?_ : wpAny _ _ (ret Value.none) _ _ _)
          rw [isz] at hc
          refine wpAny_pure ⟨rfl, g, tk, c, rfl, hS, hc, fun b o e => ?_⟩
          have b0 : b < s.heap.objs.size := Heap.lt_size e
          refine hm.heap b o ?_ (Heap.get?_push_of_some _ (Heap.get?_push_of_some _ e))
          rw [Heap.size_push]
          simp only [List.mem_cons, List.not_mem_nil, or_false, not_or]
          exact ⟨Nat.ne_of_lt b0, Nat.ne_of_lt (Nat.lt_succ_of_lt b0)⟩
      · cases r2 with
        | error e => exact hz2
        | ok f2 =>
          cases f2 with
          | ret r =>
            obtain ⟨rfl, g, tk, c, rfl, q1, q2, q3⟩ := hz2
            repeat (any_goals (first | assumption | wp_step))
            exact fin _ _ _ q1 q2 q3
          | _ => exact hz2.elim
    | _ => exact hz.elim
end
def rSetI (K : PySem.W.Frag) (w : World) : List V → Hp → VK → Prop := fun xs H Q => ∃ (l : Addr) (ns : List Int), xs = [.ref l] ∧ SqL K H l (ns.map V.int) ∧ ns.length ≤ 1000 ∧ ∀ p c, H p = none → c ≤ ns.length → Q (.ref p) (upd H p (SetO w p (fun j => decide (j ∈ ns)) c))
theorem call_setI {X : Cx} (hc : X.calm = true) : CallR X (.type "set") (rSetI X.K X.w) := by
  intro pins s σ H xs us Q I r h
  obtain ⟨l, ns, rfl, hs, hl, q⟩ := h
  rw [Vals.ref1 r]
  obtain ⟨its, rv, pl, hz⟩ := I.list hs
  refine set_of_ints ns (I.ok.hd hc) pl.isList (ints_of_vals rv) (by unfold scanBound; omega) fun g tk c R hcn k => ?_
  exact ⟨.ref _, _, I.laid (t' := tk) k (Nat.le_refl _) (setO_new R), rfl, q _ c (I.hok.fresh (Nat.le_refl _)) hcn⟩
end Sl
/-! list(zip(xs, ys)), xs and ys lists of one length: a new list of new tuples -/
namespace Lz
open PySem PySem.Spec PyProof.Rows L2
theorem no_len : typeLookup (.type "zip") "__len__" = pure none := am_miss_of_fast (by decide +kernel)
theorem no_hint : typeLookup (.type "zip") "__length_hint__" = pure none := am_miss_of_fast (by decide +kernel)
structure ZS (z TI TO i1 i2 l1 l2 S : Addr) (xs ys : Array Value) (i : Nat) (h : Heap) : Prop where
  ti : IsPair h TI (.ref i1) (.ref i2)
  a1 : h.IsListIter i1 l1 i
  a2 : h.IsListIter i2 l2 i
  b1 : h.IsList l1 xs
  b2 : h.IsList l2 ys
  zz : (IsZip h z TI TO .none ∧ ∃ a b, IsPair h TO a b) ∨ ∃ T f oT, IsZipHeld h z TI TO T f ∧ h.get? T = some oT ∧ T ≠ z ∧ T ≠ i1 ∧ T ≠ i2 ∧ T ≠ S
structure Off (z TI TO i1 i2 l1 l2 S : Addr) : Prop where
  z : z ≠ S
  ti : TI ≠ S
  to' : TO ≠ S
  i1 : i1 ≠ S
  i2 : i2 ≠ S
  l1 : l1 ≠ S
  l2 : l2 ≠ S
theorem ZS.frame {z TI TO i1 i2 l1 l2 S : Addr} {xs ys : Array Value} {i : Nat} {h h' : Heap} (O : Off z TI TO i1 i2 l1 l2 S) (st : ZS z TI TO i1 i2 l1 l2 S xs ys i h) (hk : ∀ b o, b ≠ S → h.get? b = some o → h'.get? b = some o) : ZS z TI TO i1 i2 l1 l2 S xs ys i h' := by
  refine ⟨hk _ _ O.ti st.ti, st.a1.at fun o e => hk _ o O.i1 e, st.a2.at fun o e => hk _ o O.i2 e, st.b1.at fun o e => hk _ o O.l1 e, st.b2.at fun o e => hk _ o O.l2 e, ?_⟩
  rcases st.zz with ⟨hz, a, b, hTO⟩ | ⟨T, f, oT, hz, hT, r1, r2, r3, r4⟩
  · exact .inl ⟨hk _ _ O.z hz, a, b, hk _ _ O.to' hTO⟩
  · exact .inr ⟨T, f, oT, hk _ _ O.z hz, hk _ _ r4 hT, r1, r2, r3, r4⟩
structure ZG (xs ys : Array Value) (lo : Addr) (h : Heap) (as : List Addr) : Prop where
  rise : as.Pairwise (· < ·)
  above : ∀ a ∈ as, lo < a
  pairs : ∀ (j : Nat) (a : Addr), as[j]? = some a → ∃ x y, xs[j]? = some x ∧ ys[j]? = some y ∧ h.get? a = some { cls := .type "tuple", data := .seq #[x, y] }
theorem ZG.there {xs ys : Array Value} {lo : Addr} {h : Heap} {as : List Addr} (g : ZG xs ys lo h as) {a : Addr} (ha : a ∈ as) : a < h.objs.size := by
  obtain ⟨j, hj⟩ := List.mem_iff_getElem?.mp ha
  obtain ⟨_, _, _, _, e⟩ := g.pairs j a hj
  exact Heap.lt_size e
section
variable {prog : Program} {w : World} {A : Around} {E : Value → Shared → Prop} {s : Shared} {z TI TO i1 i2 l1 l2 S : Addr} {xs ys : Array Value} {i : Nat}
theorem z_item {x y : Value} {Q : Option Value → Shared → Prop} (D : ZipApart z TI TO i1 i2 l1 l2) (st : ZS z TI TO i1 i2 l1 l2 S xs ys i s.heap) (hS : S < s.heap.objs.size) (ex : xs[i]? = some x) (ey : ys[i]? = some y)
    (hQ : ∀ h', ZS z TI TO i1 i2 l1 l2 S xs ys (i + 1) h' → IsPair h' s.heap.objs.size x y → (∀ c o, c ≠ z → c ≠ TO → c ≠ i1 → c ≠ i2 → s.heap.get? c = some o → h'.get? c = some o) → Q (some (.ref s.heap.objs.size)) { s with heap := h' }) :
    wpAny (model prog w) A (pyNext (.ref z)) Q E s := by
  obtain ⟨hTI, h1, h2, hl1, hl2, hz⟩ := st
  have lt : ∀ {c o}, s.heap.get? c = some o → s.heap.objs.size ≠ c := fun e => Nat.ne_of_gt (Heap.lt_size e)
  have n1 : s.heap.objs.size ≠ i1 := let ⟨_, e, _⟩ := h1; lt e
  have n2 : s.heap.objs.size ≠ i2 := let ⟨_, e, _⟩ := h2; lt e
  rcases hz with ⟨hz, a, b, hTO⟩ | ⟨T, f, oT, hz, hT, r1, r2, r3, r4⟩
  · refine wpAny_pyNext_zip_item D hz hTI hTO h1 h2 hl1 hl2 ex ey fun h' a1 a2 a3 a4 a5 a6 hk => ?_
    exact hQ h' ⟨hk _ _ D.TIz D.TITO D.TIi1 D.TIi2 hTI, a3, a4, hl1.at fun o e => hk _ o D.l1z D.l1TO D.l1i1 D.l1i2 e, hl2.at fun o e => hk _ o D.l2z D.l2TO D.l2i1 D.l2i2 e, .inr ⟨s.heap.objs.size, false, _, a1, a5, lt hz, n1, n2, Nat.ne_of_gt hS⟩⟩ a5 hk
  · refine wpAny_pyNext_zip_item_held D hz hT hTI h1 h2 hl1 hl2 ex ey fun h' a1 a3 a4 a5 a6 hk => ?_
    exact hQ h' ⟨hk _ _ D.TIz D.TIi1 D.TIi2 hTI, a3, a4, hl1.at fun o e => hk _ o D.l1z D.l1i1 D.l1i2 e, hl2.at fun o e => hk _ o D.l2z D.l2i1 D.l2i2 e, .inr ⟨T, true, oT, a1, hk _ _ r1 r2 r3 hT, r1, r2, r3, r4⟩⟩ a5 fun c o c1 _ c3 c4 e => hk c o c1 c3 c4 e
theorem z_done {Q : Option Value → Shared → Prop} (hA : A.handled = none) (D : ZipApart z TI TO i1 i2 l1 l2) (st : ZS z TI TO i1 i2 l1 l2 S xs ys i s.heap) (hend : xs[i]? = none ∨ ys[i]? = none)
    (hQ : ∀ h', (∀ c o, c ≠ z → c ≠ TO → c ≠ i1 → c ≠ i2 → s.heap.get? c = some o → h'.get? c = some o) → Q none { s with heap := h' }) : wpAny (model prog w) A (pyNext (.ref z)) Q E s := by
  obtain ⟨hTI, h1, h2, hl1, hl2, hz⟩ := st
  rcases hz with ⟨hz, a, b, hTO⟩ | ⟨T, f, oT, hz, hT, r1, r2, r3, r4⟩
  · exact wpAny_pyNext_zip_end hA D hz hTI hTO h1 h2 hl1 hl2 hend fun h' hk => hQ h' hk
  · exact wpAny_pyNext_zip_end_held hA D hz hT hTI h1 h2 hl1 hl2 hend fun h' hk => hQ h' fun c o c1 _ c3 c4 e => hk c o c1 c3 c4 e
theorem z_loop {R : Result → Shared → Prop} (hh : A.handled = none) (D : ZipApart z TI TO i1 i2 l1 l2) (O : Off z TI TO i1 i2 l1 l2 S) (lz : z < S) (lt : TO < S) (li1 : i1 < S) (li2 : i2 < S) {n : Nat} (hx : xs.size = n) (hy : ys.size = n) (hn : n ≤ sizeLine) (res : Value) {h₁ : Heap}
    (hR : ∀ h' tk acc c as, (∀ b o, b ≠ S → b ≠ z → b ≠ TO → b ≠ i1 → b ≠ i2 → h₁.get? b = some o → h'.get? b = some o) → h'.get? S = some { cls := .type "list", dict := none, data := .seq acc c, slots := #[] } → as.length = n → ZG xs ys S h' as →
      acc.toList = as.map Value.ref → R (.ok (.ret res)) { s with heap := h', toks := tk }) :
    ∀ (k i : Nat) (h : Heap) (tk c : Nat) (acc : Array Value) (as : List Addr), n - i = k → i ≤ n → ZS z TI TO i1 i2 l1 l2 S xs ys i h → (∀ b o, b ≠ S → b ≠ z → b ≠ TO → b ≠ i1 → b ≠ i2 → h₁.get? b = some o → h.get? b = some o) →
      h.get? S = some { cls := .type "list", dict := none, data := .seq acc c, slots := #[] } → acc.toList = as.map Value.ref → as.length = i → ZG xs ys S h as →
      codeAny (model prog w) A (.builtin "list.extend.loop" ⟨[.ref S, .ref z, res], []⟩) R { s with heap := h, toks := tk } := by
  intro k
  induction k with
  | zero =>
    intro i h tk c acc as hk hi hst hkeep hS hacc hal hG
    refine codeAny_builtin PySem.F.entry_extend_loop ?_
    rw [Around.under_plainId PySem.F.plain_extend_loop _]
    show wpAny _ A.in1 (pyNext (.ref z) >>= _) _ _ _
    refine wpAny_bind (z_done (s := { s with heap := h, toks := tk }) (A := A.in1) hh D hst (.inl (Array.getElem?_eq_none (by omega))) fun h' he => ?_)
    refine wpAny_pure (hR h' tk acc c as (fun b o h1 h2 h3 h4 h5 e => he b o h2 h3 h4 h5 (hkeep b o h1 h2 h3 h4 h5 e)) (he S _ O.z.symm O.to'.symm O.i1.symm O.i2.symm hS) (by omega) ⟨hG.rise, hG.above, fun j a hj => ?_⟩ hacc)
    obtain ⟨x, y, e1, e2, e3⟩ := hG.pairs j a hj
    have ab := hG.above a (List.mem_of_getElem? hj)
    exact ⟨x, y, e1, e2, he a _ (Nat.ne_of_gt (Nat.lt_trans lz ab)) (Nat.ne_of_gt (Nat.lt_trans lt ab)) (Nat.ne_of_gt (Nat.lt_trans li1 ab)) (Nat.ne_of_gt (Nat.lt_trans li2 ab)) e3⟩
  | succ k ih =>
    intro i h tk c acc as hk hi hst hkeep hS hacc hal hG
    have hlt : i < n := by omega
    obtain ⟨x, ex⟩ : ∃ p, xs[i]? = some p := ⟨xs[i], Array.getElem?_eq_getElem (by omega)⟩
    obtain ⟨y, ey⟩ : ∃ p, ys[i]? = some p := ⟨ys[i], Array.getElem?_eq_getElem (by omega)⟩
    have hsz : acc.size = i := by rw [← Array.length_toList, hacc, List.length_map, hal]
    have hSl : S < h.objs.size := Heap.lt_size hS
    refine codeAny_builtin PySem.F.entry_extend_loop ?_
    rw [Around.under_plainId PySem.F.plain_extend_loop _]
    show wpAny _ A.in1 (pyNext (.ref z) >>= _) _ _ _
    refine wpAny_bind (z_item (s := { s with heap := h, toks := tk }) (S := S) D hst hSl ex ey fun h' hst' ht hkp => ?_)
    dsimp only at ht hkp ⊢
    have hS' := hkp S _ O.z.symm O.to'.symm O.i1.symm O.i2.symm hS
    have up : ∀ b o, b ≠ S → h'.get? b = some o → (h'.update S (Obj.mapSeq (·.push (Value.ref h.objs.size)))).get? b = some o := fun b o hb e => (Heap.get?_update_other _ _ (Ne.symm hb)).trans e
    show wpAny _ A.in1 (updateSeq S (·.push (Value.ref h.objs.size)) >>= _) _ _ _
    refine wpAny_bind ?_
    refine wpAny_updateSeq hS' rfl (wpAny_pure ⟨plainId_quiet PySem.F.plain_extend_loop _, ih (i + 1) _ tk _ (acc.push (Value.ref h.objs.size)) (as ++ [h.objs.size]) (by omega) hlt (hst'.frame O up)
      (fun b o h1 h2 h3 h4 h5 e => up b o h1 (hkp b o h2 h3 h4 h5 (hkeep b o h1 h2 h3 h4 h5 e))) (Heap.get?_update_self _ hS' rfl) (by rw [Array.toList_push, hacc, List.map_append]; rfl) (by rw [List.length_append, hal]; rfl) ⟨?_, ?_, ?_⟩⟩) (by rw [hsz]; omega) (by show (acc.push (Value.ref h.objs.size)).size ≤ sizeLine + 1; rw [Array.size_push, hsz]; omega)
    · refine List.pairwise_append.mpr ⟨hG.rise, List.pairwise_singleton _ _, fun a ha b hb => ?_⟩
      rw [List.mem_singleton.mp hb]
      exact hG.there ha
    · intro a ha
      rcases List.mem_append.mp ha with ha | ha
      · exact hG.above a ha
      · rw [List.mem_singleton.mp ha]
        exact hSl
    · intro j b hj
      rcases Nat.lt_trichotomy j as.length with h1 | h1 | h1
      · rw [List.getElem?_append_left h1] at hj
        obtain ⟨x', y', e1, e2, e3⟩ := hG.pairs j b hj
        have ab := hG.above b (List.mem_of_getElem? hj)
        exact ⟨x', y', e1, e2, up b _ (Nat.ne_of_gt ab) (hkp b _ (Nat.ne_of_gt (Nat.lt_trans lz ab)) (Nat.ne_of_gt (Nat.lt_trans lt ab)) (Nat.ne_of_gt (Nat.lt_trans li1 ab)) (Nat.ne_of_gt (Nat.lt_trans li2 ab)) e3)⟩
      · subst h1
        have hb : h.objs.size = b := by simpa using hj
        subst hb
        exact ⟨x, y, by rw [hal]; exact ex, by rw [hal]; exact ey, up _ _ (Nat.ne_of_gt hSl) ht⟩
      · have hnone : (as ++ [h.objs.size])[j]? = none := List.getElem?_eq_none (by rw [List.length_append, List.length_singleton]; omega)
        rw [hnone] at hj
        cases hj
theorem z_hint (hT : s.TypeIs (.ref z) "zip") {Q : Bool → Shared → Prop} (h : Q true s) : wpAny (model prog w) A (Builtin.List.listLengthHint (.ref z)) Q E s := by
  unfold Builtin.List.listLengthHint
  refine wpAny_bind (wpAny_specialOf hT no_len ?_)
  show wpAny _ _ (specialOf (Value.ref z) (Str.ofString "__length_hint__") >>= _) _ _ _
  refine wpAny_bind (wpAny_specialOf hT no_hint ?_)
  exact wpAny_pure h
theorem z_extend {R : Result → Shared → Prop} (hh : A.handled = none) (D : ZipApart z TI TO i1 i2 l1 l2) (O : Off z TI TO i1 i2 l1 l2 S) (lz : z < S) (lt : TO < S) (li1 : i1 < S) (li2 : i2 < S) {n : Nat} (hx : xs.size = n) (hy : ys.size = n) (hn : n ≤ sizeLine) (res : Value) (c₀ : Nat)
    (hz : IsZip s.heap z TI TO .none) (st : ZS z TI TO i1 i2 l1 l2 S xs ys 0 s.heap) (hS : s.heap.get? S = some { cls := .type "list", data := .seq #[] c₀ })
    (hR : ∀ h' tk acc c as, (∀ b o, b ≠ S → b ≠ z → b ≠ TO → b ≠ i1 → b ≠ i2 → s.heap.get? b = some o → h'.get? b = some o) → h'.get? S = some { cls := .type "list", dict := none, data := .seq acc c, slots := #[] } → as.length = n → ZG xs ys S h' as →
      acc.toList = as.map Value.ref → R (.ok (.ret res)) { s with heap := h', toks := tk }) :
    wpAny (model prog w) A.in1 (Builtin.List.listExtendWith (.ref S) (.ref z) res)
      (fun fin s' => match fin with | .done f => R (.ok f) s' | .again c' => c'.quiet = true ∧ codeAny (model prog w) A c' R s') (fun e s' => R (.error e) s') s := by
  have hT : s.TypeIs (.ref z) "zip" := ⟨_, hz, rfl⟩
  have key : ∀ (h : Heap) (c₁ tk : Nat), (∀ b o, b ≠ S → s.heap.get? b = some o → h.get? b = some o) → h.get? S = some { cls := .type "list", data := .seq #[] c₁ } → codeAny (model prog w) A (.builtin "list.extend.loop" ⟨[.ref S, .ref z, res], []⟩) R { s with heap := h, toks := tk } := by
    intro h c₁ tk hk hS₁
    exact z_loop (s := s) (h₁ := s.heap) hh D O lz lt li1 li2 hx hy hn res hR n 0 h tk c₁ #[] [] (Nat.sub_zero _) (Nat.zero_le _) (st.frame O hk) (fun b o hb _ _ _ _ e => hk b o hb e) hS₁ rfl rfl ⟨List.Pairwise.nil, (fun _ ha => nomatch ha), (fun j a hj => by simp at hj)⟩
  unfold Builtin.List.listExtendWith
  refine wpAny_bind (wpAny_typeOf (T := "zip") hT ?_)
  have h1 : Builtin.List.listSameRef (.ref S) (.ref z) = false := by simp [Builtin.List.listSameRef, O.z.symm]
  have h2 : (Value.type "zip" == Value.type "list") = false := by decide
  have h3 : (Value.type "zip" == Value.type "tuple") = false := by decide
  simp only [h1, h2, h3, Bool.or_false, Bool.false_eq_true, if_false]
  refine wpAny_bind (wpAny_pyIter_zip hz ?_)
  refine wpAny_bind (wpAny_holding (z_hint hT ?_))
  refine wpAny_ite_split (fun _ => ?_) (fun _ => wpAny_pure ⟨plainId_quiet PySem.F.plain_extend_loop _, key _ c₀ _ (fun b o _ e => e) hS⟩)
  refine wpAny_bind (wpAny_rule ?_)
  refine wpAny_bind ?_
  show wpAny _ _ (updateSeq S (·.push .none) >>= fun _ => updateSeq S (·.pop)) _ _ _
  refine wpAny_bind (wpAny_updateSeq hS rfl ?_)
  have hS₂ := Heap.get?_update_self (Obj.mapSeq (·.push Value.none)) hS rfl
  refine wpAny_updateSeq (hz := by seq_fits) hS₂ rfl ?_
  have hS₃ := Heap.get?_update_self (Obj.mapSeq (·.pop)) hS₂ rfl
  refine wpAny_pure ⟨plainId_quiet PySem.F.plain_extend_loop _, key _ _ _ (fun b o hb e => ?_) hS₃⟩
  exact (Heap.get?_update_other _ _ (Ne.symm hb)).trans ((Heap.get?_update_other _ _ (Ne.symm hb)).trans e)
theorem z_init {R : Result → Shared → Prop} (hh : A.handled = none) (D : ZipApart z TI TO i1 i2 l1 l2) (O : Off z TI TO i1 i2 l1 l2 S) (lz : z < S) (lt : TO < S) (li1 : i1 < S) (li2 : i2 < S) {n : Nat} (hx : xs.size = n) (hy : ys.size = n) (hn : n ≤ sizeLine)
    (hz : IsZip s.heap z TI TO .none) (st : ZS z TI TO i1 i2 l1 l2 S xs ys 0 s.heap) (hS : s.heap.get? S = some { cls := .type "list", data := .seq #[] })
    (hR : ∀ h' tk acc c as, (∀ b o, b ≠ S → b ≠ z → b ≠ TO → b ≠ i1 → b ≠ i2 → s.heap.get? b = some o → h'.get? b = some o) → h'.get? S = some { cls := .type "list", dict := none, data := .seq acc c, slots := #[] } → as.length = n → ZG xs ys S h' as →
      acc.toList = as.map Value.ref → R (.ok (.ret .none)) { s with heap := h', toks := tk }) :
    wpAny (model prog w) A.in1 (Builtin.«list.__init__» ⟨[.ref S, .ref z], []⟩)
      (fun fin s' => match fin with | .done f => R (.ok f) s' | .again c' => c'.quiet = true ∧ codeAny (model prog w) A c' R s') (fun e s' => R (.error e) s') s := by
  show wpAny _ _ (do let old ← Builtin.List.listItems (.ref S); Builtin.List.listUpdate (.ref S) (fun _ => #[]); letGo old.toList.reverse; Builtin.List.listExtendWith (.ref S) (.ref z) .none) _ _ s
  refine wpAny_bind ?_
  unfold Builtin.List.listItems
  refine wpAny_bind (wpAny_seqItems hS rfl (wpAny_pure ?_))
  show wpAny _ _ (updateSeq S (fun _ => #[]) >>= fun _ => letGo (#[] : Array Value).toList.reverse >>= fun _ => Builtin.List.listExtendWith (.ref S) (.ref z) .none) _ _ s
  refine wpAny_bind (wpAny_updateSeq hS rfl ?_)
  have hS₂ := Heap.get?_update_self (Obj.mapSeq (fun _ => (#[] : Array Value))) hS rfl
  have oth : ∀ b o, b ≠ S → s.heap.get? b = some o → (s.heap.update S (Obj.mapSeq (fun _ => (#[] : Array Value)))).get? b = some o :=
    fun b o hb e => (Heap.get?_update_other _ _ (Ne.symm hb)).trans e
  refine wpAny_bind (wpAny_letGo ?_)
  refine z_extend hh D O lz lt li1 li2 hx hy hn .none _ (oth _ _ O.z hz) (st.frame O oth) hS₂ (fun h' tk acc c as hk hS' hl hG hacc => ?_)
  exact hR h' tk acc c as (fun b o hb h2 h3 h4 h5 e => hk b o hb h2 h3 h4 h5 (oth b o hb e)) hS' hl hG hacc
theorem z_call {Q : Value → Shared → Prop} (hh : A.handled = none) (D : ZipApart z TI TO i1 i2 l1 l2) {n : Nat} (hx : xs.size = n) (hy : ys.size = n) (hn : n ≤ sizeLine)
    (hz : IsZip s.heap z TI TO .none) (hTI : IsPair s.heap TI (.ref i1) (.ref i2)) {va vb : Value} (hTO : IsPair s.heap TO va vb) (h1 : s.heap.IsListIter i1 l1 0) (h2 : s.heap.IsListIter i2 l2 0) (hl1 : s.heap.IsList l1 xs) (hl2 : s.heap.IsList l2 ys)
    (hQ : ∀ h' tk acc c as, (∀ b o, b ≠ z → b ≠ TO → b ≠ i1 → b ≠ i2 → s.heap.get? b = some o → h'.get? b = some o) → h'.get? s.heap.objs.size = some { cls := .type "list", dict := none, data := .seq acc c, slots := #[] } → as.length = n → ZG xs ys s.heap.objs.size h' as →
      acc.toList = as.map Value.ref → Q (.ref s.heap.objs.size) { s with heap := h', toks := tk }) :
    wpAny (model prog w) A (call (.type "list") [.ref z]) Q E s := by
  refine callType_codes (Q₁ := fun obj s₁ => obj = .ref s.heap.objs.size ∧ s₁ = { s with heap := s.heap.push { cls := .type "list", data := .seq #[] } }) PySem.F.called_list (PySem.F.typeCall_list_1 _) PySem.F.entry_list_init
    (code_list_new _ ⟨rfl, rfl⟩) fun obj s₁ h₁ => ?_
  obtain ⟨rfl, rfl⟩ := h₁
  have hS : (s.heap.push { cls := .type "list", data := .seq #[] }).get? s.heap.objs.size = some { cls := .type "list", data := .seq #[] } := Heap.get?_push_size _ rfl
  have lz := Heap.lt_size hz
  have lti := Heap.lt_size hTI
  have lt := Heap.lt_size hTO
  obtain ⟨_, e1, _⟩ := id h1
  obtain ⟨_, e2, _⟩ := id h2
  obtain ⟨_, e3, _⟩ := id hl1
  obtain ⟨_, e4, _⟩ := id hl2
  have li1 := Heap.lt_size e1
  have li2 := Heap.lt_size e2
  have ll1 := Heap.lt_size e3
  have ll2 := Heap.lt_size e4
  have O : Off z TI TO i1 i2 l1 l2 s.heap.objs.size := ⟨Nat.ne_of_lt lz, Nat.ne_of_lt lti, Nat.ne_of_lt lt, Nat.ne_of_lt li1, Nat.ne_of_lt li2, Nat.ne_of_lt ll1, Nat.ne_of_lt ll2⟩
  refine ⟨⟨_, hS, rfl⟩, PySem.F.args_list_init_2 _ _, z_init (A := A.in1) hh D O lz lt li1 li2 hx hy hn (Heap.get?_push_of_some _ hz) ⟨Heap.get?_push_of_some _ hTI, h1.at fun o e => Heap.get?_push_of_some _ e, h2.at fun o e => Heap.get?_push_of_some _ e, hl1.at fun o e => Heap.get?_push_of_some _ e, hl2.at fun o e => Heap.get?_push_of_some _ e, .inl ⟨Heap.get?_push_of_some _ hz, _, _, Heap.get?_push_of_some _ hTO⟩⟩ hS (fun h' tk acc c as hk hS' hl hG hacc => ?_)⟩
  exact ⟨rfl, hQ h' tk acc c as (fun b o b1 b2 b3 b4 e => hk b o (Nat.ne_of_lt (Heap.lt_size e)) b1 b2 b3 b4 (Heap.get?_push_of_some _ e)) hS' hl hG hacc⟩
end
/-- the tuples at their addresses -/
def putP : Hp → List Addr → List (V × V) → Hp
  | H, a :: as, p :: ps => putP (upd H a (.tup [p.1, p.2])) as ps
  | H, _, _ => H
theorem putP_off {b : Addr} : ∀ (as : List Addr) (ps : List (V × V)) (H : Hp), b ∉ as → putP H as ps b = H b
  | [], _, _, _ => rfl
  | _ :: _, [], _, _ => rfl
  | a :: as, p :: ps, H, h => by
    show putP (upd H a (.tup [p.1, p.2])) as ps b = H b
    rw [putP_off as ps _ (fun z => h (List.mem_cons_of_mem _ z)), upd_ne (fun z => h (by rw [z]; exact List.mem_cons_self))]
/-- as many tuples as pairs, each its pair -/
abbrev Tups (H : Hp) : List Addr → List (V × V) → Prop := Paired fun t q => H t = some (.tup [q.1, q.2])
theorem putP_at : ∀ (as : List Addr) (ps : List (V × V)) (H : Hp), as.length = ps.length → as.Nodup → Tups (putP H as ps) as ps
  | [], [], _, _, _ => .nil
  | [], _ :: _, _, h, _ => by cases h
  | _ :: _, [], _, h, _ => by cases h
  | a :: as, p :: ps, H, h, hn => by
    have hn' := List.nodup_cons.mp hn
    refine .cons ?_ (putP_at as ps (upd H a (.tup [p.1, p.2])) (Nat.succ.inj h) hn'.2)
    show putP (upd H a (.tup [p.1, p.2])) as ps a = some (.tup [p.1, p.2])
    rw [putP_off as ps _ hn'.1, upd_same]
theorem paired_ix {α β : Type} {F : α → β → Prop} : ∀ {xs : List α} {ys : List β}, Paired F xs ys → ∀ {x : α}, x ∈ xs → ∃ (j : Nat) (y : β), xs[j]? = some x ∧ ys[j]? = some y ∧ F x y
  | _, _, .cons h t, x, hx => by
    rcases List.mem_cons.mp hx with e | hx
    · rw [e]
      exact ⟨0, _, rfl, rfl, h⟩
    · obtain ⟨j, y, e1, e2, e3⟩ := paired_ix t hx
      exact ⟨j + 1, y, e1, e2, e3⟩
theorem refs_vals : ∀ as : List Addr, Vals (as.map V.ref) (as.map Value.ref)
  | [] => .nil
  | _ :: as => .cons rfl (refs_vals as)
section
variable {X : Cx}
theorem z_laid {pins : List (Addr × Obj)} {σ : L2.St} {H : Hp} {s : Shared} {h' : Heap} {tk : Nat} {S : Addr} {vs us : List V} {xs ys : List Value} {acc : Array Value} {c : Nat} {as : List Addr} (I : Inv X pins σ H s) (hS0 : s.heap.objs.size ≤ S) (rx : Vals vs xs) (ry : Vals us ys) (hlen : vs.length = us.length) (hz : vs.length ≤ sizeLine)
    (hk : ∀ b o, s.heap.get? b = some o → h'.get? b = some o) (hS : h'.get? S = some { cls := .type "list", dict := none, data := .seq acc c, slots := #[] }) (hl : as.length = vs.length) (hG : ZG xs.toArray ys.toArray S h' as) (hacc : acc.toList = as.map Value.ref) :
    ∃ H' : Hp, Same H H' ∧ H S = none ∧ (∀ t ∈ as, H t = none) ∧ S ∉ as ∧ as.Nodup ∧ H' S = some (.lst (as.map V.ref)) ∧ Tups H' as (vs.zip us) ∧ Inv X pins σ H' { s with heap := h', toks := tk } := by
  have hSn : S ∉ as := fun z => Nat.lt_irrefl _ (hG.above _ z)
  have nd : as.Nodup := List.Pairwise.imp (fun {a b} (h : a < b) => Nat.ne_of_lt h) hG.rise
  have new : ∀ t ∈ as, H t = none := fun t ht => I.hok.fresh (Nat.le_trans hS0 (Nat.le_of_lt (hG.above t ht)))
  have newS : H S = none := I.hok.fresh hS0
  have lz : (vs.zip us).length = vs.length := by rw [List.length_zip]; omega
  have atP := putP_at as (vs.zip us) (upd H S (.lst (as.map V.ref))) (by omega) nd
  have off : ∀ b, b ∉ as → b ≠ S → putP (upd H S (.lst (as.map V.ref))) as (vs.zip us) b = H b := fun b h1 h2 => by rw [putP_off as _ _ h1, upd_ne h2]
  have low : ∀ b o, s.heap.get? b = some o → b ∉ as ∧ b ≠ S := fun b o e => ⟨fun z => absurd (Heap.lt_size e) (Nat.not_lt.mpr (Nat.le_trans hS0 (Nat.le_of_lt (hG.above b z)))), Nat.ne_of_lt (Nat.lt_of_lt_of_le (Heap.lt_size e) hS0)⟩
  have kp : ∀ b u, H b = some u → (putP (upd H S (.lst (as.map V.ref))) as (vs.zip us)) b = some u := fun b u e => by
    rw [off b (fun z => by rw [new b z] at e; cases e) (fun z => by rw [z, newS] at e; cases e)]
    exact e
  have eS : putP (upd H S (.lst (as.map V.ref))) as (vs.zip us) S = some (.lst (as.map V.ref)) := by rw [putP_off as _ _ hSn, upd_same]
  refine ⟨putP (upd H S (.lst (as.map V.ref))) as (vs.zip us), kp, newS, new, hSn, nd, eS, atP, ?_⟩
  refine I.call' (ch := []) rfl ⟨fun b o q _ _ _ => hk b o q, fun b o q _ _ _ => ⟨o.slots, hk b o q⟩, fun b o q n _ => ?_, fun b o q _ => ⟨o, hk b o q⟩, fun b xs q => kp b _ q, fun b o u q => kp b _ q, fun b ps q => ⟨#[], by rw [kp b _ q]; simp⟩⟩ (fun b u q => ?_) I.bare fun b z => by simp at z
  · obtain ⟨z1, z2⟩ := low b o q
    rw [off b z1 z2]
    exact n
  · by_cases hb : b ∈ as
    · obtain ⟨j, pk, e1, e2, e3⟩ := paired_ix atP hb
      rw [e3] at q
      cases q
      obtain ⟨x, y, f1, f2, f3⟩ := hG.pairs j b e1
      rw [List.getElem?_zip_eq_some] at e2
      obtain ⟨x', g1, r1⟩ := rx.get e2.1
      obtain ⟨y', g2, r2⟩ := ry.get e2.2
      have f1 : xs[j]? = some x := by simpa using f1
      have f2 : ys[j]? = some y := by simpa using f2
      rw [f1] at g1
      rw [f2] at g2
      cases g1
      cases g2
      exact ⟨by show 2 ≤ sizeLine; decide, [x, y], .cons r1 (.cons r2 .nil), ⟨_, f3, rfl, _, rfl⟩⟩
    · by_cases hb2 : b = S
      · rw [hb2] at q ⊢
        rw [eS] at q
        cases q
        refine ⟨by rw [List.length_map]; omega, acc.toList, c, by rw [hacc]; exact refs_vals as, ?_⟩
        rw [Array.toArray_toList]
        exact hS
      · rw [off b hb hb2] at q
        exact (I.hok b u q).stay (fun d v _ y => hk d v y) (fun d y => kp d _ y) fun d xs y => kp d _ y
/-- list(zip(xs, ys)) -/
def tListZip (K : PySem.W.Frag) (ta : TA) : TE := fun σ H Q => ta σ H fun vs H1 => ∃ (a b : Addr) (xs ys : List V), vs = [.ref a, .ref b] ∧ SqL K H1 a xs ∧ SqL K H1 b ys ∧ xs.length = ys.length ∧ xs.length ≤ 5000 ∧
  ∀ (H' : Hp) (p : Addr) (ts : List Addr), Same H1 H' → H1 p = none → (∀ t ∈ ts, H1 t = none) → p ∉ ts → ts.Nodup → H' p = some (.lst (ts.map V.ref)) → Tups H' ts (xs.zip ys) → Q (.ref p) H'
theorem pe_listZip {e1 e2 : Expr} {ta : TA} {p p2 pos pos2 : Pos} (hcalm : X.calm = true) (hg : Gl X "list") (hm : X.mg "list" = none) (hgz : Gl X "zip") (hmz : X.mg "zip" = none) (ha : PA X [e1, e2] ta)
    (hs : starEach [e1, e2] X.env = (false, eval e1 X.env) :: starEach [e2] X.env := by rfl) (hpl : (backTo pos2 (starEach [e2] X.env)).any (·.1) = false := by rfl) :
    PE X (.Call (.Name "list" p) [.Call (.Name "zip" p2) [e1, e2] [] pos2] [] pos) (tListZip X.K ta) := by
  refine ⟨fun pins s σ H Q I h => ?_⟩
  refine Call_ (ld_blt I hg hm PyProof.Rows.boot_list (PyProof.Rows.callWith_type1 (args_cons (Call_ (ld_blt I hgz hmz PyProof.Rows.boot_zip (PyProof.Rows.callWith_type1 (thn (ha.run pos2 pins s σ H _ I h) fun us s1 ⟨vs, H1, I1, r1, q1⟩ => ?_) hs hpl))) (by rfl)) (by rfl)))
  obtain ⟨a, b, xs, ys, rfl, sa, sb, hl, hk, q⟩ := q1
  obtain ⟨u1, u2, rfl, ra, rb⟩ := vals2 r1
  cases (show u1 = Value.ref a from ra)
  cases (show u2 = Value.ref b from rb)
  obtain ⟨its, rv, p1, _⟩ := I1.list sa
  obtain ⟨its2, rv2, p2', _⟩ := I1.list sb
  have n1 := rv.length
  have n2 := rv2.length
  refine call_zip_2 p1.isList p2'.isList fun h1 hz hTI hTO i1 i2 hsz hk1 => args_nil ?_
  have D := PySem.W.ktu_apart s1.heap.objs.size a b p1.lt p2'.lt
  refine z_call (s := { s1 with heap := h1 }) (n := xs.length) (I1.ok.hd hcalm) D (by rw [List.size_toArray]; omega) (by rw [List.size_toArray]; omega) (Nat.le_trans hk (by decide)) hz hTI hTO i1 i2 (p1.isList.at fun o e => hk1 _ o e) (p2'.isList.at fun o e => hk1 _ o e) fun h' tk acc c as hkp hS hla hG hacc => ?_
  have k : ∀ c o, s1.heap.get? c = some o → h'.get? c = some o := fun c o e => by
    have lt := Heap.lt_size e
    exact hkp c o (Nat.ne_of_lt (Nat.lt_of_lt_of_le lt (Nat.le_add_right _ _))) (Nat.ne_of_lt (Nat.lt_of_lt_of_le lt (Nat.le_add_right _ _))) (Nat.ne_of_lt lt) (Nat.ne_of_lt (Nat.lt_of_lt_of_le lt (Nat.le_add_right _ _))) (hk1 c o e)
  obtain ⟨H', t1, t2, t3, t4, t5, t6, t7, J⟩ := z_laid (tk := tk) I1 (S := h1.objs.size) (by omega) rv rv2 hl (Nat.le_trans hk (by decide)) k hS hla hG hacc
  exact ⟨.ref _, H', J, rfl, q H' _ as t1 t2 t3 t4 t5 t6 t7⟩
end
end Lz
/-! y = {k: v for .. in ..}, y a local name of a def -/
namespace Ds
open PySem PySem.Spec PyProof.Rows L2
section
variable {X : Cx}
theorem ps_setDc {i : Nat} {y : Str} {py : Pos} {kx vx tg iter : Expr} {ifs : List Expr} {scope : Scope} {own : List (Str × Nat)} {pos spos : Pos} {wi : TI} {g : TG} {tt : TT} {tk tv : TE} (hc : X.calm = true) (hN : X.N.Nodup) (hy : X.N[i]? = some y) (hyl : X.env.scope.names.lookup y = some .local)
    (hsw : swapsWith (.DictComp kx vx [⟨tg, iter, ifs, 0⟩] scope pos) (some (.Name y py)) spos.line X.env = pure true) (hi : PI X tg iter wi) (ok : BlkOk X.N X.env.scope scope own)
    (hg : ∀ (s : Shared) (H : Hp) (C : Addr) (cl : List (Str × Addr)) (fp : List Addr), PG (X.blk s H scope (compEnvC scope cl C X.env) fp) tg g) (ht : ∀ (s : Shared) (H : Hp) (C : Addr) (cl : List (Str × Addr)) (fp : List Addr), PTs (X.blk s H scope (compEnvC scope cl C X.env) fp) ifs tt)
    (hk : ∀ (s : Shared) (H : Hp) (C : Addr) (cl : List (Str × Addr)) (fp : List Addr), PE (X.blk s H scope (compEnvC scope cl C X.env) fp) kx tk)
    (he : ∀ (s : Shared) (H : Hp) (C : Addr) (cl : List (Str × Addr)) (fp : List Addr), PE (X.blk s H scope (compEnvC scope cl C X.env) fp) vx tv) (hs : ∀ x, foldedSetIterable iter X.env x = pure x := by intro _; rfl) :
    PS X (.Assign [.Name y py] (.DictComp kx vx [⟨tg, iter, ifs, 0⟩] scope pos) spos) (tAsg (tDc wi g tt tk tv (own.map (·.2))) (gName i)) := by
  refine ⟨fun pins s σ H D I h => ?_⟩
  rw [exec_Assign_Name_used _ _ _ _ hsw]
  refine wpAny_bind (wpAny_standAt (wpAny_bind ?_))
  show wpAny _ X.A (do let _ ← comprehension (.DictComp kx vx [⟨tg, iter, ifs, 0⟩] scope pos) scope X.env (firstIterPos [⟨tg, iter, ifs, 0⟩] pos) newDict false (eval iter X.env) (some (assign (.Name y py) X.env))) _ _ s
  have h : tDc wi g tt tk tv (own.map (·.2)) σ H (fun x H1 => gName i x σ H1 D.nx) := h
  refine wpAny_bind (thn (dc_core (Qf := fun _ s' => SP X pins D .next s') hc hN I hi ok hg ht hk he hs h fun L C s' m H' I' q hn f => ?_) fun _ s' hq => wpAny_pure (wpAny_pure hq))
  show wpAny _ _ (assign (.Name y py) X.env (.ref L)) _ _ _
  refine wpAny_assign_Name (store_ok2 (v := V.ref L) I' hN hy (.inl hyl) rfl (fun s2 I2 ⟨a, sb, ha⟩ => ?_) (.inr hyl))
  obtain ⟨f0, f1, f2, f3, f4, f5⟩ := f
  have haC : C ≠ a := by
    rcases ha with z | z
    · rw [z]; exact f1
    · exact fun e => f4 y a z e.symm
  refine ⟨m, hn.sameBut sb haC, fun h3 sb3 => ?_⟩
  exact ⟨_, H', I2.turned (t' := s2.toks) (fun b o hb e => (sb3.2 b hb).trans e) f0 f1 f3 f4 f5, q⟩
theorem sw_trueD {kx vx : Expr} {gs : List Comprehension} {scope : Scope} {pos py : Pos} {y : Str} {l : Nat} {env : Env} (hk : env.scope.kind = .function) (hy : env.scope.names.lookup y = some .local) (hl : (py.line == pos.line) = true)
    (ha : (scope.names.any fun (n, k) => n == y && (k == .local || k == .cell)) = false) : swapsWith (.DictComp kx vx gs scope pos) (some (.Name y py)) l env = pure true := by
  have ky : env.kindOf y = some .local := hy
  have hb : env.blockKind = .function := by unfold Env.blockKind; rw [hk]; rfl
  unfold swapsWith
  simp only [hb, ky, ha, Expr.pos, hl]
  rfl
end
end Ds
/-! t[1::-1] of a tuple of four: a new tuple of its second and its first thing -/
namespace Rt
open PySem PySem.Spec PyProof.Rows L2 HT
section
variable {prog : Program} {w : World} {A : Around} {E : Value → Shared → Prop} {s : Shared}
theorem applied {sl : Addr} {vl vu vs : Value} {Q : Int × Int × Nat → Shared → Prop} (hs : s.heap.IsSliceOf sl vl vu vs) (pl : IsPart vl (some 1)) (pu : IsPart vu none) (ps : IsPart vs (some (-1)))
    (h : Q (1, -1, 2) s) : wpAny (model prog w) A (Builtin.Slice.sliceApplied (.ref sl) (pure 4)) Q E s := by
  obtain ⟨os, hos, hcs, hds⟩ := id hs
  unfold Builtin.Slice.sliceApplied Builtin.Slice.sliceFields
  refine wpAny_bind (wpAny_bind (wpAny_field hos hds (x := vl) rfl (wpAny_bind (wpAny_field hos hds (x := vu) rfl (wpAny_bind (wpAny_field hos hds (x := vs) rfl (wpAny_pure ?_)))))))
  refine wpAny_bind (slicePart_ ps ?_)
  show wpAny _ _ (if ((-1 : Int) == 0) = true then _ else _) _ _ s
  rw [if_neg (by decide)]
  refine wpAny_bind (slicePart_ pl (wpAny_bind (slicePart_ pu (wpAny_bind (wpAny_pure ?_)))))
  exact wpAny_pure h
theorem item4 {t sl : Addr} {x0 x1 x2 x3 : Value} {vl vu vs : Value} {Q : Value → Shared → Prop} (ht : IsTup s.heap t #[x0, x1, x2, x3]) (hs : s.heap.IsSliceOf sl vl vu vs) (pl : IsPart vl (some 1)) (pu : IsPart vu none) (ps : IsPart vs (some (-1)))
    (h : Q (.ref s.heap.objs.size) { s with heap := s.heap.push { cls := .type "tuple", data := .seq #[x1, x0] } }) : wpAny (model prog w) A (getItem (.ref t) (.ref sl)) Q E s := by
  have htake : sizeOk (.seq #[x1, x0]) := by
    show 2 ≤ sizeLine
    decide
  obtain ⟨os, hos, hcs, hds⟩ := id hs
  have hTs : s.TypeIs (.ref sl) "slice" := ⟨os, hos, hcs⟩
  unfold getItem
  try with_reducible refine wpAny_holding ?_
  first | refine wpAny_bind (wpAny_pure ?_) | skip
  refine wpAny_bind (wpAny_sequenceKey ht.typeIs (by decide) ?_)
  refine wpAny_bind (wpAny_callSpecial?_slot (name := Str.ofString "__getitem__") ht.typeIs PyProof.Rows.slot_tuple_getitem
    (wpAny_call_entry PyProof.Rows.slot_tuple_getitem ht.typeIs entry_tuple_getitem ?_ (args_tuple_getitem _ _)))
  show wpAny _ _ (Builtin.Tuple.tupleItemsOf (.ref t) >>= _) _ _ s
  refine wpAny_bind (tupleItemsOf_ ht ?_)
  refine wpAny_bind (wpAny_typeOf hTs ?_)
  rw [if_pos (by decide)]
  refine wpAny_bind (applied hs pl pu ps ?_)
  show wpAny _ _ (if ((1 : Int) == 0 && (-1 : Int) == 1 && (2 : Nat) == 4) = true then _ else _) _ _ s
  rw [if_neg (by decide)]
  first
    | exact wpAny_bind (m := Builtin.Tuple.tupleExact _) (wpAny_newObj_type (wpAny_pure ⟨_, rfl, wpAny_pure h⟩) htake)
    | exact wpAny_bind (m := Builtin.Tuple.tupleExact _) (wpAny_newObj_type (wpAny_bind (wpAny_pure (wpAny_pure ⟨_, rfl, wpAny_pure h⟩))) htake)
    | exact wpAny_bind (wpAny_bind (m := Builtin.Tuple.tupleExact _) (wpAny_newObj_type (wpAny_pure (wpAny_pure ⟨_, rfl, wpAny_pure h⟩)) htake))
    | exact wpAny_bind (wpAny_bind (m := Builtin.Tuple.tupleExact _) (wpAny_newObj_type (wpAny_pure ⟨_, rfl, wpAny_pure h⟩) htake))
end
section
variable {X : Cx}
def tRev2 (K : PySem.W.Frag) (te : TE) : TE := fun σ H Q => te σ H fun x H1 => ∃ a x0 x1 x2 x3, x = .ref a ∧ SqT K H1 a [x0, x1, x2, x3] ∧ ∀ p, H1 p = none → Q (.ref p) (upd H1 p (.tup [x1, x0]))
theorem pe_rev2 {e : Expr} {te : TE} {k0 k : Nat} {p0 p1 p2 p3 pos : Pos} (he : PE X e te) : PE X (.Subscript e (.Slice (some (.Constant (.int 1) k0 p0)) none (some (.UnaryOp .USub (.Constant (.int 1) k p1) p2)) p3) pos) (tRev2 X.K te) := by
  refine ⟨fun pins s σ H Q I h => ?_⟩
  refine Subscript_ (thn (he.run pins s σ H _ I h) fun v s1 ⟨x, H1, I1, r1, q1⟩ => ?_)
  obtain ⟨a, x0, x1, x2, x3, ex, hx, q⟩ := q1
  subst ex
  cases r1
  have hlo : PO X (some (.Constant (.int 1) k0 p0)) (tPart (tC (.int 1))) := po_some pe_int
  have hst : PO X (some (.UnaryOp .USub (.Constant (.int 1) k p1) p2)) (tPart (tUn (rU fun i => .int (-i)) (tC (.int 1)))) := po_some (pe_un un_neg pe_int)
  refine wpAny_Slice (thn (hlo.run pins s1 σ H1 (fun o H2 => o = some 1 ∧ H2 = H1) I1 ⟨1, rfl, rfl, rfl⟩) fun vl s2 ⟨l, H2, I2, pl, el, e2⟩ => ?_)
  subst el e2
  refine thn (po_none.run pins s2 σ H2 (fun o H3 => o = none ∧ H3 = H2) I2 ⟨rfl, rfl⟩) fun vu s3 ⟨u, H3, I3, pu, eu, e3⟩ => ?_
  subst eu e3
  refine thn (hst.run pins s3 σ H3 (fun o H4 => o = some (-1) ∧ H4 = H3) I3 ⟨1, rfl, -1, rfl, rfl, rfl⟩) fun vs s4 ⟨o, H4, I4, ps, eo, e4⟩ => ?_
  subst eo e4
  have I5 : Inv X pins σ H4 { s4 with heap := s4.heap.push { cls := .type "slice", data := .fields #[vl, vu, vs] } } := I4.kept (t' := s4.toks) fun b ob q => Heap.get?_push_of_some _ q
  obtain ⟨its, r, ht, hz⟩ := I5.tuple hx
  show wpAny (model X.prog X.w) X.A (subscriptTail e (.Slice (some (.Constant (.int 1) k0 p0)) none (some (.UnaryOp .USub (.Constant (.int 1) k p1) p2)) p3) (.ref a) (.ref s4.heap.objs.size)) (EP X pins σ Q) X.xe { s4 with heap := s4.heap.push { cls := .type "slice", data := .fields #[vl, vu, vs] } }
  refine tail_any (ops := [.ref a, .ref s4.heap.objs.size]) ht.typeIs (PyProof.Rows.slot_tuple_getitem.lookup) ?_ (by with_unfolding_all rfl)
  cases r with
  | cons r0 r =>
    cases r with
    | cons r1 r =>
      cases r with
      | cons r2 r =>
        cases r with
        | cons r3 r =>
          cases r
          refine item4 ht (Heap.IsSliceOf.new _ vl vu vs) pl pu ps ?_
          refine ⟨.ref _, _, I5.laid (t' := s4.toks) (o := .tup [x1, x0]) (fun b ob q => Heap.get?_push_of_some _ q) (Nat.le_refl _) ?_, rfl, q _ (I5.hok.fresh (Nat.le_refl _))⟩
          exact ⟨by show 2 ≤ sizeLine; decide, _, .cons r1 (.cons r0 .nil), IsTup.new _ _⟩
end
end Rt
/-! sets of texts: their members as a list; a comprehension of two clauses; sorted of it -/
namespace Ss
open PySem PySem.Spec PyProof.Rows L2
def kOf (e : Int × Value) : Str := match e.2 with
  | .str k _ => k
  | _ => ⟨#[]⟩
def Gd (w : World) (e : Int × Value) : Prop := ∃ k tk, e.2 = Value.str k tk ∧ e.1 = hashStr w k
def addL (L : List Str) (k : Str) : List Str := if k ∈ L then L else k :: L
theorem mem_addL {L : List Str} {k x : Str} : x ∈ addL L k ↔ x = k ∨ x ∈ L := by
  unfold addL
  split
  · exact ⟨.inr, fun z => z.elim (fun e => by rw [e]; assumption) id⟩
  · exact List.mem_cons
theorem nd_addL {L : List Str} {k : Str} (h : L.Nodup) : (addL L k).Nodup := by
  unfold addL
  split
  · exact h
  · exact List.nodup_cons.mpr ⟨by assumption, h⟩
abbrev Led (w : World) (t : SetTable) : Prop := w.params.followText "set-order" = true ∨ t.led = true
/-- the set of texts at a, its members the list L -/
def SetS (w : World) (h : Heap) (a : Addr) (L : List Str) : Prop := ∃ o es ep t, h.get? a = some o ∧ o.ExactSet ∧ o.data = .set es ep t ∧ (∀ e ∈ es.toList, Gd w e) ∧ (es.toList.map kOf).Perm L ∧ L.Nodup ∧ es.size < scanBound ∧ t.fits es.size = true ∧ Ris t.place.toList ∧ Led w t
section
variable {P : Program} {w : World} {A : Around} {E : Value → Shared → Prop} {s : Shared} {a : Addr} {L : List Str} {h h' : Heap}
theorem isS (k : Str) (u : Tok) : (PySem.strKind P w).is k (.str k u) = true := by show Value.isStrOf k (.str k u) = true; simp [Value.isStrOf]
theorem SetS.at (R : SetS w h a L) (k : ∀ o, h.get? a = some o → h'.get? a = some o) : SetS w h' a L := let ⟨o, es, ep, t, ho, r⟩ := R; ⟨o, es, ep, t, k o ho, r⟩
theorem gd_elems {l : List (Int × Value)} (g : ∀ e ∈ l, Gd w e) : ElemsOf (PySem.strKind P w) l := fun e he => let ⟨k, tk, h1, h2⟩ := g e he; ⟨⟨k, h1 ▸ isS k tk, h2⟩, by rw [h1]; rfl⟩
theorem gd_is {e : Int × Value} (g : Gd w e) (k : Str) : (PySem.strKind P w).is k e.2 = true ↔ kOf e = k := by
  obtain ⟨k0, tk, h1, -⟩ := g
  have ek : kOf e = k0 := by unfold kOf; rw [h1]
  rw [ek, h1]
  constructor
  · intro z
    obtain ⟨t, et⟩ := Value.isStrOf_shape (x := k) (v := .str k0 tk) z
    injection et
  · intro z
    rw [z]
    exact isS k tk
theorem gd_mem {l : List (Int × Value)} (g : ∀ e ∈ l, Gd w e) (k : Str) : k ∈ l.map kOf ↔ ∃ e ∈ l, (PySem.strKind P w).is k e.2 = true :=
  ⟨fun z => let ⟨e, he, q⟩ := List.mem_map.mp z; ⟨e, he, (gd_is (g e he) k).2 q⟩, fun ⟨e, he, q⟩ => List.mem_map.mpr ⟨e, he, (gd_is (g e he) k).1 q⟩⟩
theorem SetS.len (R : SetS w h a L) : ∀ {o es ep t}, h.get? a = some o → o.data = .set es ep t → es.size = L.length := by
  obtain ⟨o', es', ep', t', ho', _, hd', _, pm, _⟩ := R
  intro o es ep t ho hd
  rw [ho'] at ho
  cases ho
  rw [hd'] at hd
  cases hd
  have z := pm.length_eq
  rw [List.length_map, Array.length_toList] at z
  exact z
theorem SetS.setOf (R : SetS w h a L) : h.SetOf (PySem.strKind P w) a (fun k => decide (k ∈ L)) L.length := by
  have hlen := @SetS.len _ _ _ _ R
  obtain ⟨o, es, ep, t, ho, hx, hd, g, pm, nd, hb, hf, -⟩ := R
  exact ⟨o, es, ep, t, ho, hx, hd, gd_elems g, fun k => by rw [decide_eq_true_eq, ← pm.mem_iff]; exact gd_mem g k, hb, hf, hlen ho hd⟩
theorem putS {o : Obj} {es es' : Array (Int × Value)} {ep : Nat} {t t' : SetTable} (ho : h.get? a = some o) (hd : o.data = .set es ep t) : (h.update a (Obj.putSet es' t')).get? a = some { o with data := .set es' (ep + 1) t' } := by
  have z := Heap.get?_update_self (Obj.putSet es' t') ho (by rw [putSet_of es' t' hd]; rfl)
  rwa [putSet_of es' t' hd] at z
/-- the store behind an add, with the table laid anew where it is too full -/
theorem tailS {g : Bool → Sem Unit} (hg : ∀ (b : Bool) (s1 : Shared) (Q1 : Unit → Shared → Prop), Q1 () s1 → wpAny (model P w) A (g b) Q1 E s1) {o : Obj} {es : Array (Int × Value)} {ep : Nat} {t : SetTable} (ho : s.heap.get? a = some o) (hex : o.ExactSet) (hd : o.data = .set es ep t)
    {fs : Array (Int × Value)} {u : SetTable} {M : List Str} (gf : ∀ e ∈ fs.toList, Gd w e) (pf : (fs.toList.map kOf).Perm M) (nf : M.Nodup) (bf : fs.size < scanBound) (ff : u.fits fs.size = true) (rf : Ris u.place.toList) (lf : Led w u) {dm : Bool} {R : Option Bool → Shared → Prop}
    (hR : ∀ h', Heap.SameBut a s.heap h' → SetS w h' a M → R (some true) { s with heap := h' }) :
    wpAny (model P w) A (do
        storeSet a fs u
        if (!dm && u.tooFull) = true then do
            g (relayAll u fs (SetTable.grown fs.size)).2.2
            storeSet a (relayAll u fs (SetTable.grown fs.size)).1 (relayAll u fs (SetTable.grown fs.size)).2.1
            pure (some true)
          else pure (some true)) R E s := by
  refine wpAny_bind (wpAny_storeSet_of ho hd ?_ (fits_of_scanBound bf))
  have h1 := putS (es' := fs) (t' := u) ho hd
  have b1 := Heap.SameBut.update s.heap a (Obj.putSet fs u)
  split
  · have pm := relayAll_perm u fs (SetTable.grown fs.size)
    have f3 := relayAll_fits u fs (SetTable.grown fs.size)
    have r3 := relayAll_ris u fs (SetTable.grown fs.size)
    have l3 := relayAll_led u fs (SetTable.grown fs.size)
    generalize relayAll u fs (SetTable.grown fs.size) = Z at pm f3 r3 l3 ⊢
    obtain ⟨gs, v, gave⟩ := Z
    dsimp only at pm f3 r3 l3 ⊢
    have hz : gs.size = fs.size := by
      have z := pm.length_eq
      rwa [Array.length_toList, Array.length_toList] at z
    have bg : gs.size < scanBound := hz ▸ bf
    refine wpAny_bind (hg _ _ _ (wpAny_bind (wpAny_storeSet_of h1 rfl ?_ (fits_of_scanBound bg))))
    have h2 := putS (es' := gs) (t' := v) h1 rfl
    exact wpAny_pure (hR _ (b1.trans (Heap.SameBut.update _ a _)) ⟨_, gs, _, v, h2, hex, rfl, fun e he => gf e (pm.mem_iff.mp he), (pm.map kOf).trans pf, nf, bg, f3, r3, lf.imp id fun z => l3.trans z⟩)
  · exact wpAny_pure (hR _ b1 ⟨_, fs, _, u, h1, hex, rfl, gf, pf, nf, bf, ff, rf, lf⟩)
theorem addS_hashed {k : Str} {tk : Tok} {Q : Bool → Shared → Prop} (R : SetS w s.heap a L) (room : L.length + 1 < scanBound)
    (hQ : ∀ h' b, Heap.SameBut a s.heap h' → SetS w h' a (addL L k) → Q b { s with heap := h' }) : wpAny (model P w) A (setAddHashed a (.str k tk) ((PySem.strKind P w).hash k)) Q E s := by
  have hlen := @SetS.len _ _ _ _ R
  obtain ⟨o, es, ep, t, ho, hex, hd, g, pmL, nd, hb, hf, hr, hl⟩ := R
  have hn : es.size = L.length := hlen ho hd
  have hsc : (Value.str k tk).scannable = true := rfl
  have hel : ElemsOf (PySem.strKind P w) es.toList := gd_elems g
  unfold setAddHashed setAddHashedIn
  refine wpAny_holding (wpAny_bind (wpAny_setState_of ho hd hf ?_))
  dsimp only
  rw [byScan_of hsc hb hel]
  simp only [↓reduceIte]
  unfold setAddByScan
  refine wpAny_bind (wpAny_bind (wpAny_rule (wpAny_bind (wpAny_setScan_of (isS k tk) ho hd hf hel ?_))))
  cases hfi : List.findIdx? (fun e => (PySem.strKind P w).is k e.2) es.toList with
  | some j =>
    dsimp only
    obtain ⟨hj, pj, -⟩ := List.findIdx?_eq_some_iff_getElem.mp hfi
    have hk : k ∈ L := pmL.mem_iff.mp ((gd_mem (P := P) g k).2 ⟨es.toList[j], List.getElem_mem hj, pj⟩)
    have eL : addL L k = L := by unfold addL; rw [if_pos hk]
    exact wpAny_pure (wpAny_pure (hQ s.heap _ (Heap.SameBut.refl a s.heap) ⟨o, es, ep, t, ho, hex, hd, g, by rw [eL]; exact pmL, nd_addL nd, hb, hf, hr, hl⟩))
  | none =>
    dsimp only
    have hk : k ∉ L := fun z => by
      obtain ⟨e, he, q⟩ := (gd_mem (P := P) g k).1 (pmL.mem_iff.mpr z)
      have c := List.findIdx?_eq_none_iff.mp hfi e he
      rw [q] at c
      cases c
    have eL : addL L k = k :: L := by unfold addL; rw [if_neg hk]
    have pm := layNew_perm t es ((PySem.strKind P w).hash k) (.str k tk)
    have f1 := layNew_fits t es ((PySem.strKind P w).hash k) (.str k tk)
    have r1 := layNew_ris t es ((PySem.strKind P w).hash k) (.str k tk) hr
    have l1 := layNew_led t es ((PySem.strKind P w).hash k) (.str k tk)
    generalize layNew t es ((PySem.strKind P w).hash k) (.str k tk) = Z at pm f1 r1 l1 ⊢
    obtain ⟨fs, u, dm, gave⟩ := Z
    dsimp only at pm f1 r1 l1 ⊢
    rw [Array.toList_push] at pm
    have pc : fs.toList.Perm (((PySem.strKind P w).hash k, Value.str k tk) :: es.toList) := pm.trans (List.perm_append_singleton _ _)
    have pf : (fs.toList.map kOf).Perm (addL L k) := by rw [eL]; exact (pc.map kOf).trans (pmL.cons k)
    have gf : ∀ e ∈ fs.toList, Gd w e := fun e he => (List.mem_cons.mp (pc.mem_iff.mp he)).elim (fun z => z ▸ ⟨k, tk, rfl, rfl⟩) (g e)
    have hz : fs.size = L.length + 1 := by rw [← Array.length_toList, pc.length_eq, List.length_cons, Array.length_toList, hn]
    have bf : fs.size < scanBound := hz ▸ room
    have lf : Led w u := hl.imp id fun z => l1.trans z
    have gw : ∀ (b : Bool) (s1 : Shared) (Q1 : Unit → Shared → Prop), Q1 () s1 → wpAny (model P w) A (match b with | true => rule "set.scan.the-table-gave-way" | false => pure ()) Q1 E s1 :=
      fun b s1 Q1 z => by cases b <;> first | exact wpAny_pure z | exact wpAny_rule z
    refine wpAny_bind (gw _ _ _ ?_)
    split
    · refine wpAny_bind ?_
      rw [hashByValue_scannable 8 hsc]
      refine wpAny_pure ?_
      refine tailS ?_ ho hex hd gf pf (nd_addL nd) bf ?_ ?_ ?_ fun h' sb r => by dsimp only; exact wpAny_pure (hQ h' _ sb r)
      · intro b s1 Q1 z; cases b <;> first | exact wpAny_pure z | exact wpAny_rule z
      · first | (split <;> first | exact f1 | exact SetTable.fits_plain_off f1) | exact f1
      · first | (split <;> exact r1) | exact r1
      · first | (split <;> exact lf) | exact lf
    · refine wpAny_bind (wpAny_pure ?_)
      simp only [↓reduceIte]
      refine tailS ?_ ho hex hd gf pf (nd_addL nd) bf f1 r1 lf ?_
      · intro b s1 Q1 z; cases b <;> first | exact wpAny_pure z | exact wpAny_rule z
      · intro h' sb r; dsimp only; exact wpAny_pure (hQ h' _ sb r)
theorem addS {k : Str} {tk : Tok} {Q : Value → Shared → Prop} (R : SetS w s.heap a L) (room : L.length + 1 < scanBound)
    (hQ : ∀ h', Heap.SameBut a s.heap h' → SetS w h' a (addL L k) → Q .none { s with heap := h', toks := s.toks + 1 }) : wpAny (model P w) A (call (.builtin "set.add") [.ref a, .str k tk]) Q E s := by
  have hS : s.heap.SetOf (PySem.strKind P w) a (fun k => decide (k ∈ L)) L.length := R.setOf
  refine wpAny_call_entry F.slot_set_add hS.typeIs F.entry_set_add ?_ (F.args_set_add_2 _ _)
  unfold Builtin.«set.add» Builtin.Frozenset.oneOther
  simp only [List.isEmpty_nil, bind_assoc]
  unfold Builtin.Frozenset.addrOf setAdd
  refine wpAny_bind (wpAny_pure ?_)
  try dsimp only
  refine wpAny_bind (wpAny_pure ?_)
  try dsimp only
  refine wpAny_bind (wpAny_holding (wpAny_bind ((PySem.strKind P w).pyHash (isS k tk) ?_)))
  refine addS_hashed (s := { s with toks := s.toks + 1 }) R room fun h' b sb r => ?_
  show wpAny _ _ (ret Value.none) _ _ _
  exact wpAny_pure ⟨_, rfl, hQ h' sb r⟩
end
/-! a comprehension of two clauses -/
abbrev SC2 (elt t0 i0 t1 i1 : Expr) (f0 f1 : List Expr) (sc : Scope) (pos : Pos) : Expr := .SetComp elt [⟨t0, i0, f0, 0⟩, ⟨t1, i1, f1, 0⟩] sc pos
abbrev Tests (prog : Program) (w : World) (A : Around) (fs : List Expr) (env : Env) (Q : Bool → Shared → Prop) (E : Value → Shared → Prop) (s : Shared) : Prop :=
  wpAny (model prog w) A (forIn fs true fun c r => if r = true then do let ok ← isTrue c env (eval c env); pure (ForInStep.yield ok) else pure (ForInStep.yield r)) Q E s
section
variable {prog : Program} {w : World} {A : Around} {R : Result → Shared → Prop} {s : Shared} {elt t0 i0 t1 i1 : Expr} {f0 f1 : List Expr} {sc : Scope} {pos : Pos} {it acc : Value} {env : Env}
theorem turnOut : compTurn (SC2 elt t0 i0 t1 i1 f0 f1 sc pos) 0 it acc env = (do
      standAt i0.pos
      match ← pyNext it with
      | none => pure (.done .next)
      | some v =>
        letOwnedTupleGo t0 it v
        assign t0 env v
        let mut ok := true
        for c in f0 do
          if ok then ok ← isTrue c env (eval c env)
        if ok then
          let x ← eval i1 env
          standAt i1.pos
          let x ← foldedSetIterable i1 env x
          let _ ← runOwn (.compStart (SC2 elt t0 i0 t1 i1 f0 f1 sc pos) 1 (← holding [x] (pyIter x)) acc env) env
        again (.compLoop (SC2 elt t0 i0 t1 i1 f0 f1 sc pos) 0 it acc env)) := by rfl
theorem turnIn : compTurn (SC2 elt t0 i0 t1 i1 f0 f1 sc pos) 1 it acc env = (do
      standAt i1.pos
      match ← pyNext it with
      | none => pure (.done .next)
      | some v =>
        letOwnedTupleGo t1 it v
        assign t1 env v
        let mut ok := true
        for c in f1 do
          if ok then ok ← isTrue c env (eval c env)
        if ok then
          (do let v ← eval elt env; standAt elt.pos; let _ ← call (.builtin "set.add") [acc, v])
        again (.compLoop (SC2 elt t0 i0 t1 i1 f0 f1 sc pos) 1 it acc env)) := by rfl
abbrev Er (prog : Program) (w : World) (A : Around) (env : Env) (R : Result → Shared → Prop) : Value → Shared → Prop := notedBy (model prog w) A env fun e s' => R (.error e) s'
theorem loopOut (hs : ∀ x, foldedSetIterable i1 env x = pure x) (I : Nat → Shared → Prop)
    (turn : ∀ n s, I n s → wpAny (model prog w) A (pyNext it) (fun r s1 => match r with
      | none => R (.ok .next) s1
      | some v => wpAny (model prog w) A (letOwnedTupleGo t0 it v) (fun _ s2 => wpAny (model prog w) A (assign t0 env v) (fun _ s3 => Tests prog w A f0 env (fun ok s4 =>
            if ok = true then wpAny (model prog w) A (eval i1 env) (fun x s5 => wpAny (model prog w) A (pyIter x) (fun it1 s6 => codeAny (model prog w) A (.compStart (SC2 elt t0 i0 t1 i1 f0 f1 sc pos) 1 it1 acc env) (fun r s' => match r with
                | .ok _ => ∃ m, m < n ∧ I m s'
                | .error _ => False) s6) (Er prog w A env R) s5) (Er prog w A env R) s4
            else ∃ m, m < n ∧ I m s4) (Er prog w A env R) s3) (Er prog w A env R) s2) (Er prog w A env R) s1) (Er prog w A env R) s) (n : Nat) (h : I n s) :
    codeAny (model prog w) A (.compLoop (SC2 elt t0 i0 t1 i1 f0 f1 sc pos) 0 it acc env) R s := by
  refine codeAny_loop rfl I (fun n s hI => ?_) n h
  show wpAny _ A ((compTurn (SC2 elt t0 i0 t1 i1 f0 f1 sc pos) 0 it acc env).onRaise (fun x => do noteFrame x env; theTreesLotGoes x)) _ _ s
  refine wpAny_noted ?_
  rw [turnOut]
  refine wpAny_bind (wpAny_standAt (wpAny_bind (wpAny_mono (turn n s hI) (fun r s1 h1 => ?_) fun _ _ z => z)))
  cases r with
  | none => exact wpAny_pure h1
  | some v =>
    refine wpAny_bind (wpAny_mono h1 (fun _ s2 h2 => wpAny_bind (wpAny_mono h2 (fun _ s3 h3 => wpAny_bind (wpAny_mono h3 (fun ok s4 h4 => ?_) fun _ _ z => z)) fun _ _ z => z)) fun _ _ z => z)
    cases ok with
    | false => exact wpAny_pure ⟨rfl, h4⟩
    | true =>
      refine wpAny_bind (wpAny_mono h4 (fun x s5 h5 => wpAny_bind (wpAny_standAt (wpAny_bind (wpAny_of_eq (hs x) (wpAny_bind (wpAny_holding (wpAny_mono h5 (fun it1 s6 h6 => ?_) fun _ _ z => z))))))) fun _ _ z => z)
      refine wpAny_bind (wpAny_runOwn ?_)
      rw [Around.mark_none]
      refine codeAny_mono h6 fun r s' hr => ?_
      cases r with
      | ok f => first | exact wpAny_pure ⟨rfl, hr⟩ | exact wpAny_bind (wpAny_pure (wpAny_pure ⟨rfl, hr⟩))
      | error e => exact hr.elim
theorem loopIn (I : Nat → Shared → Prop)
    (turn : ∀ n s, I n s → wpAny (model prog w) A (pyNext it) (fun r s1 => match r with
      | none => R (.ok .next) s1
      | some v => wpAny (model prog w) A (letOwnedTupleGo t1 it v) (fun _ s2 => wpAny (model prog w) A (assign t1 env v) (fun _ s3 => Tests prog w A f1 env (fun ok s4 =>
            if ok = true then wpAny (model prog w) A (eval elt env) (fun x s5 => wpAny (model prog w) A (call (.builtin "set.add") [acc, x]) (fun _ s6 => ∃ m, m < n ∧ I m s6) (Er prog w A env R) s5) (Er prog w A env R) s4
            else ∃ m, m < n ∧ I m s4) (Er prog w A env R) s3) (Er prog w A env R) s2) (Er prog w A env R) s1) (Er prog w A env R) s) (n : Nat) (h : I n s) :
    codeAny (model prog w) A (.compLoop (SC2 elt t0 i0 t1 i1 f0 f1 sc pos) 1 it acc env) R s := by
  refine codeAny_loop rfl I (fun n s hI => ?_) n h
  show wpAny _ A ((compTurn (SC2 elt t0 i0 t1 i1 f0 f1 sc pos) 1 it acc env).onRaise (fun x => do noteFrame x env; theTreesLotGoes x)) _ _ s
  refine wpAny_noted ?_
  rw [turnIn]
  refine wpAny_bind (wpAny_standAt (wpAny_bind (wpAny_mono (turn n s hI) (fun r s1 h1 => ?_) fun _ _ z => z)))
  cases r with
  | none => exact wpAny_pure h1
  | some v =>
    refine wpAny_bind (wpAny_mono h1 (fun _ s2 h2 => wpAny_bind (wpAny_mono h2 (fun _ s3 h3 => wpAny_bind (wpAny_mono h3 (fun ok s4 h4 => ?_) fun _ _ z => z)) fun _ _ z => z)) fun _ _ z => z)
    cases ok with
    | false => exact wpAny_pure ⟨rfl, h4⟩
    | true => exact wpAny_bind (wpAny_bind (wpAny_mono h4 (fun x s5 h5 => wpAny_bind (wpAny_standAt (wpAny_bind (wpAny_mono h5 (fun _ s6 h6 => wpAny_pure (wpAny_pure ⟨rfl, h6⟩)) fun _ _ z => z)))) fun _ _ z => z))
theorem startIn (h0 : codeAny (model prog w) A (.compLoop (SC2 elt t0 i0 t1 i1 f0 f1 sc pos) 1 it acc env) R s)
    (h : wpAny (model prog w) A (pyIter it) (fun it' s' => codeAny (model prog w) A (.compLoop (SC2 elt t0 i0 t1 i1 f0 f1 sc pos) 1 it' acc env) R s') (Er prog w A env R) s) :
    codeAny (model prog w) A (.compStart (SC2 elt t0 i0 t1 i1 f0 f1 sc pos) 1 it acc env) R s := by
  refine codeAny_of_tree ?_
  show wpAny _ _ ((compStart (SC2 elt t0 i0 t1 i1 f0 f1 sc pos) 1 it acc env).onRaise (fun x => do noteFrame x env; standAt theWindowsPlace)) _ _ s
  refine wpAny_notedAt ?_
  unfold compStart
  show wpAny _ _ (ask >>= _) _ _ s
  refine wpAny_bind (wpAny_askSetting (wpAny_ite ?_))
  split
  · first | exact wpAny_bind (wpAny_pure (wpAny_pure (And.intro rfl h0))) | exact wpAny_pure (And.intro rfl h0)
  · first
      | exact wpAny_bind (wpAny_rule (wpAny_bind (wpAny_standAt (wpAny_bind (wpAny_mono h (fun it' s' z => wpAny_pure (And.intro rfl z)) fun _ _ z => z)))))
      | (refine wpAny_bind (wpAny_rule ?_); show wpAny _ _ (standAt i1.pos >>= _) _ _ s; exact wpAny_bind (wpAny_standAt (wpAny_bind (wpAny_mono h (fun it' s' z => wpAny_pure (And.intro rfl z)) fun _ _ z => z))))
end
/-! as a tracked thing -/
def SetSO (w : World) (a : Addr) (L : List Str) : HO := .ext fun h => SetS w h a L
theorem setSO_new {w : World} {P : Program} {H : Hp} {h : Heap} {a : Addr} {L : List Str} (R : SetS w h a L) : ObjOk P w H h a (SetSO w a L) := let ⟨o, _, _, _, ho, _⟩ := id R; ⟨R, ⟨o, ho⟩, fun h1 h2 p k => SetS.at p k⟩
abbrev emptySet (w : World) : Obj := { cls := .type "set", dict := none, data := .set #[] 0 (.fresh 0 0 (!w.params.followText "set-order")) }
theorem setS_fresh {h : Heap} (w : World) : SetS w (h.push (emptySet w)) h.objs.size [] :=
  ⟨_, #[], 0, _, Heap.get?_push_size _ rfl, ⟨rfl, rfl, rfl⟩, rfl, (fun e he => by simp at he), (by simp), .nil, (by decide), (by rfl), List.Pairwise.nil, by
    show _ ∨ (!w.params.followText "set-order") = true
    cases w.params.followText "set-order"
    · exact .inr rfl
    · exact .inl rfl⟩
section
variable {X : Cx}
theorem setSO_get {pins : List (Addr × Obj)} {σ : L2.St} {H : Hp} {s : Shared} {a : Addr} {L : List Str} (I : Inv X pins σ H s) (ha : H a = some (SetSO X.w a L)) : SetS X.w s.heap a L := (I.hok a _ ha).1
theorem addS_ok {pins : List (Addr × Obj)} {σ : L2.St} {H : Hp} {s : Shared} {E : Value → Shared → Prop} {D : Addr} {L : List Str} {y : Str} {u : Tok} {Q : Value → Shared → Prop} (I : Inv X pins σ H s) (hD : H D = some (SetSO X.w D L)) (room : L.length + 1 < scanBound)
    (h : ∀ s', Inv X pins σ (upd H D (SetSO X.w D (addL L y))) s' → Q .none s') : wpAny (model X.prog X.w) X.A (call (.builtin "set.add") [.ref D, .str y u]) Q E s :=
  addS (setSO_get I hD) room fun h' sb new => h _ (I.write (e := D) (t' := s.toks + 1) (by rw [hD]; trivial) (.inl rfl) (fun b o hb e => (sb.2 b hb).trans e) (let ⟨o, _, _, _, ho, _⟩ := id new; ⟨o, ho⟩) (setSO_new new))
/-- {elt for tg in iter if .. for tg1 in iter1 if ..}, elt a text: D the new set -/
def tSc2 (w : World) (wi : TI) (g : TG) (tt : TT) (wi1 : TI) (g1 : TG) (tt1 : TT) (te : TE) (vs vs1 : List Nat) : TE := fun σ H Q => wi σ H fun J H1 => ∀ D, H1 D = none → ∃ W : Nat → Nat → Hp → Prop, (∃ m, W 0 m (upd H1 D (SetSO w D []))) ∧ ∀ i m H, W i m H →
  (J.stop i H ∧ Q (.ref D) H) ∨ (J.go i H ∧ ∃ Nx : Hp → Prop, (∀ H', Nx H' → ∃ m', m' < m ∧ W (i + 1) m' H') ∧ ∀ x H', J.yld i H x H' → g x (wipe σ vs) H' fun σ2 H2 => wipe σ2 vs = wipe σ vs ∧ tt σ2 H2 fun b H3 =>
    if b = true then wi1 σ2 H3 fun J1 H4 => ∃ W1 : Nat → Nat → Hp → Prop, (∃ m, W1 0 m H4) ∧ ∀ j k H, W1 j k H →
      (J1.stop j H ∧ Nx H) ∨ (J1.go j H ∧ ∃ Nx1 : Hp → Prop, (∀ H', Nx1 H' → ∃ k', k' < k ∧ W1 (j + 1) k' H') ∧ ∀ x H', J1.yld j H x H' → g1 x (wipe σ2 vs1) H' fun σ3 H5 => wipe σ3 vs1 = wipe σ2 vs1 ∧ tt1 σ3 H5 fun b H6 =>
        if b = true then te σ3 H6 fun y H7 => ∃ k L, y = .str k ∧ H7 D = some (SetSO w D L) ∧ L.length + 1 < scanBound ∧ Nx1 (upd H7 D (SetSO w D (addL L k))) else Nx1 H6)
    else Nx H3)
abbrev Blk (X : Cx) (sc : Scope) (s : Shared) (H : Hp) (C : Addr) (cl : List (PySem.Str × Addr)) (fp : List Addr) : Cx := X.blk s H sc (compEnvC sc cl C X.env) fp
theorem sc2_core {pins : List (Addr × Obj)} {s : Shared} {σ : L2.St} {H : Hp} {Q : VK} {elt tg iter tg1 iter1 : Expr} {ifs ifs1 : List Expr} {sc : Scope} {own : List (PySem.Str × Nat)} {vs1 : List Nat} {pos pos' : Pos} {wi wi1 : TI} {g g1 : TG} {tt tt1 : TT} {te : TE} {use : Option (Value → Sem Unit)} {Qf : Value → Shared → Prop}
    (hc : X.calm = true) (hN : X.N.Nodup) (I : Inv X pins σ H s) (hi : PI X tg iter wi) (ok : BlkOk X.N X.env.scope sc own) (hv : ∀ i ∈ vs1, i ∈ own.map (·.2))
    (hg : ∀ s H C cl fp, PG (Blk X sc s H C cl fp) tg g) (ht : ∀ s H C cl fp, PTs (Blk X sc s H C cl fp) ifs tt) (he : ∀ s H C cl fp, PE (Blk X sc s H C cl fp) elt te) (hs : ∀ x, foldedSetIterable iter X.env x = pure x)
    (hi1 : ∀ s H C cl fp, PI (Blk X sc s H C cl fp) tg1 iter1 wi1) (hg1 : ∀ s H C cl fp, PG (Blk X sc s H C cl fp) tg1 g1) (ht1 : ∀ s H C cl fp, PTs (Blk X sc s H C cl fp) ifs1 tt1) (hs1 : ∀ env x, foldedSetIterable iter1 env x = pure x)
    (h : tSc2 X.w wi g tt wi1 g1 tt1 te (own.map (·.2)) vs1 σ H Q)
    (hRR : ∀ D C s' m H', Inv X pins σ H' s' → Q (.ref D) H' → s'.heap.Ns C m → FpOk X pins H' C → compPost (model X.prog X.w) X.A X.xe use Qf (.ref D) C (.ok .next) s') :
    wpAny (model X.prog X.w) X.A (comprehension (SC2 elt tg iter tg1 iter1 ifs ifs1 sc pos) sc X.env pos' (newSet (.type "set")) false (eval iter X.env) use) Qf X.xe s := by
  have hfree : ∀ y ∈ sc.names, y.2 = .free → ∃ c, X.env.cells.lookup y.1 = some c := fun y hy e => (ok.free y hy e).elim (fun k => I.ok.has _ (.inl k)) fun k => I.ok.has _ (.inr k)
  refine wpAny_comprehension_free (use := use) rfl hs (closure_ok hfree) ok.kind (fun y hy e => by rw [ok.uniq y hy, e]) (thn (hi.run pins s σ H _ I h) fun xv s1 hx => thn hx fun itv s2 h2 => ?_)
  obtain ⟨it, fp, tn, J, H2, e, I2, T, st2, f2, q⟩ := h2
  subst e
  refine PpSet.newSet_ok (newEnv_comp ?_)
  generalize hD : s2.heap.objs.size = D
  have hDn : H2 D = none := I2.hok.fresh (Nat.le_of_eq hD)
  obtain ⟨W, ⟨m0, w0⟩, turn⟩ := q D hDn
  generalize hs3 : ({ s2 with heap := s2.heap.push (emptySet X.w) } : Shared) = s3
  have I3 : Inv X pins σ (upd H2 D (SetSO X.w D [])) s3 := by
    rw [← hs3]
    exact I2.laid (t' := s2.toks) (fun b o e => Heap.get?_push_of_some _ e) (Nat.le_of_eq hD) (hD ▸ setSO_new (setS_fresh X.w))
  have h3 : s3.heap = s2.heap.push (emptySet X.w) := by rw [← hs3]
  have sz : ∀ b ∈ fp, b < s2.heap.objs.size := fun b hb => let ⟨o, e, _⟩ := T.obj _ _ st2 b hb; Heap.lt_size e
  have f3 : ∀ b ∈ fp, FpOk X pins (upd H2 D (SetSO X.w D [])) b ∧ b < s3.heap.objs.size := fun b hb =>
    ⟨⟨by rw [upd_ne (by rw [← hD]; exact Nat.ne_of_lt (sz b hb))]; exact (f2 b hb).1, (f2 b hb).2⟩, by rw [h3, Heap.size_push]; exact Nat.lt_succ_of_lt (sz b hb)⟩
  have st3 : tn 0 s3.heap := T.keep _ _ _ st2 fun b _ o e => by rw [h3]; exact Heap.get?_push_of_some _ e
  have I4 := block_start I3 ok hN f3
  generalize hcl : cellsFrom (s3.heap.objs.size + 1) sc.names (cloFrom X.env.cells sc.names []) = cl at I4
  have pg : PG (X.blk s3 (upd H2 D (SetSO X.w D [])) sc (compEnvC sc cl s3.heap.objs.size X.env) fp) tg g := hg s3 _ _ cl fp
  have pt : PTs (X.blk s3 (upd H2 D (SetSO X.w D [])) sc (compEnvC sc cl s3.heap.objs.size X.env) fp) ifs tt := ht s3 _ _ cl fp
  have pe : PE (X.blk s3 (upd H2 D (SetSO X.w D [])) sc (compEnvC sc cl s3.heap.objs.size X.env) fp) elt te := he s3 _ _ cl fp
  have pi1 : PI (X.blk s3 (upd H2 D (SetSO X.w D [])) sc (compEnvC sc cl s3.heap.objs.size X.env) fp) tg1 iter1 wi1 := hi1 s3 _ _ cl fp
  have pg1 : PG (X.blk s3 (upd H2 D (SetSO X.w D [])) sc (compEnvC sc cl s3.heap.objs.size X.env) fp) tg1 g1 := hg1 s3 _ _ cl fp
  have pt1 : PTs (X.blk s3 (upd H2 D (SetSO X.w D [])) sc (compEnvC sc cl s3.heap.objs.size X.env) fp) ifs1 tt1 := ht1 s3 _ _ cl fp
  show codeAny _ _ (.compStart (SC2 elt tg iter tg1 iter1 ifs ifs1 sc pos) 0 (.ref it) (.ref D) (compEnvC sc cl s3.heap.objs.size X.env)) (compPost (model X.prog X.w) X.A X.xe use Qf (.ref D) s3.heap.objs.size) { s3 with heap := pushCells (s3.heap.push { cls := .type "dict", data := .dict #[] }) sc.names }
  have nfp : ∀ b ∈ fp, (upd H2 D (SetSO X.w D [])) b = none := fun b hb => (f3 b hb).1.1
  generalize hce : compEnvC sc cl s3.heap.objs.size X.env = ce at I4 pg pt pe pi1 pg1 pt1 ⊢
  have cL : ce.locals = s3.heap.objs.size := by subst hce; rfl
  generalize hH3 : upd H2 D (SetSO X.w D []) = H3 at I3 I4 pg pt pe pi1 pg1 pt1 w0 nfp f3
  generalize hs4 : ({ s3 with heap := pushCells (s3.heap.push { cls := .type "dict", data := .dict #[] }) sc.names } : Shared) = s4 at I4 ⊢
  have st4 : tn 0 s4.heap := T.keep _ _ _ st3 fun b _ o e => by rw [← hs4]; exact pushCells_keeps _ _ _ _ (Heap.get?_push_of_some _ e)
  have stat : ∀ {σ' : L2.St} {H' : Hp} {s' : Shared}, Inv (X.blk s3 H3 sc ce fp) [] σ' H' s' → (∀ b ∈ fp, H' b = none) → ∀ b ∈ fp, FpOk (X.blk s3 H3 sc ce fp) [] H' b := fun I' hn b hb =>
    ⟨hn b hb, (I'.ok.exf b hb).1, I'.ok.exfs b hb, .inl hb, fun x c e => (I'.ok.exf b hb).2 x c e, fun p hp => absurd (show p ∈ ([] : List (Addr × Obj)) ++ [] from hp) (by simp)⟩
  have loop : codeAny (model X.prog X.w) X.A (.compLoop (SC2 elt tg iter tg1 iter1 ifs ifs1 sc pos) 0 (.ref it) (.ref D) ce) (compPost (model X.prog X.w) X.A X.xe use Qf (.ref D) s3.heap.objs.size) s4 := by
    refine loopOut (hs1 ce) (fun n s' => ∃ i H', Inv (X.blk s3 H3 sc ce fp) [] (wipe σ (own.map (·.2))) H' s' ∧ tn i s'.heap ∧ (∀ b ∈ fp, H' b = none) ∧ W i n H') ?_ m0 ⟨0, H3, I4, st4, nfp, w0⟩
    rintro n s5 ⟨i, H5, I5, st5, n5, w5⟩
    rcases turn i n H5 w5 with ⟨stop, qq⟩ | ⟨go, Nx, hNx, step⟩
    · refine thnF (T.done (X.blk s3 H3 sc ce fp) rfl rfl rfl hc i [] s5 _ H5 (fun _ _ => False) I5 (stat I5 n5) st5 stop) fun r s6 ⟨hr, I6⟩ => ?_
      subst hr
      have I7 : Inv X pins σ H5 s6 := I3.call' (ch := fp) I6.os I6.base I6.hok I6.bare fun b hb => let z := (f3 b hb).1.2; ⟨z.2.2.1, z.1, z.2.2.2.1, z.2.2.2.2⟩
      have nC : H5 s3.heap.objs.size = none := cL ▸ (show H5 ce.locals = none from I6.free)
      obtain ⟨m, hn, -⟩ := I6.loc
      exact hRR D s3.heap.objs.size s6 m H5 I7 qq (cL ▸ (show s6.heap.Ns ce.locals m from hn)) (I3.fpOk (Nat.le_refl _) nC)
    · refine thnF (T.item (X.blk s3 H3 sc ce fp) rfl rfl rfl hc i [] s5 _ H5 (fun _ _ => False) I5 (stat I5 n5) st5 go) fun r s6 ⟨u, hr, h6⟩ => ?_
      subst hr
      refine thnF h6 fun _ s7 ⟨x, H7, I7, r7, y7, st7, n7⟩ => ?_
      have I7' := I7.pinned (stat I7 n7) (T.obj _ _ st7)
      refine thnF (pg.run _ s7 _ H7 x u _ I7' r7 (step x H7 y7)) fun _ s8 ⟨σ8, H8, I8, hw8, q8⟩ => thnF (pt.run _ s8 σ8 H8 _ I8 q8) fun b s9 ⟨H9, I9, q9⟩ => ?_
      have fin : ∀ {σ9 : L2.St} {s' : Shared} {H' : Hp}, Inv (X.blk s3 H3 sc ce fp) ([] ++ pinsAt fp s7.heap) σ9 H' s' → (wipe σ (own.map (·.2))).length = σ9.length → (∀ (j : Nat) v, (wipe σ (own.map (·.2)))[j]? = some (some v) → σ9[j]? = some (some v)) → Nx H' →
          ∃ m, m < n ∧ ∃ i H', Inv (X.blk s3 H3 sc ce fp) [] (wipe σ (own.map (·.2))) H' s' ∧ tn i s'.heap ∧ (∀ b ∈ fp, H' b = none) ∧ W i m H' := fun {σ9 s' H'} I' hl hk nx => by
        obtain ⟨m', hm, w'⟩ := hNx H' nx
        have pin' : ∀ b ∈ fp, ∀ o, s7.heap.get? b = some o → s'.heap.get? b = some o ∧ H' b = none := fun b hb o e =>
          let z := I'.pin (b, o) (List.mem_append_right _ (List.mem_append_right _ (mem_pinsAt hb e))); ⟨z.1, z.2.1⟩
        exact ⟨m', hm, i + 1, H', (I'.unpinned (pins := [])).weak hl hk, T.keep _ _ _ st7 fun b hb o e => (pin' b hb o e).1, fun b hb => let ⟨o, e, _⟩ := T.obj _ _ st7 b hb; (pin' b hb o e).2, w'⟩
      have hl8 : (wipe σ (own.map (·.2))).length = σ8.length := by rw [← hw8, wipe_length]
      have hk8 : ∀ (j : Nat) v, (wipe σ (own.map (·.2)))[j]? = some (some v) → σ8[j]? = some (some v) := fun j v e => (wipe_some (hw8 ▸ e)).1
      have hk9 : ∀ (j : Nat) v, (wipe σ (own.map (·.2)))[j]? = some (some v) → (wipe σ8 vs1)[j]? = some (some v) := fun j v e => by
        rw [← hw8] at e
        rw [wipe_out fun z => (wipe_some e).2 (hv j z)]
        exact (wipe_some e).1
      cases b with
      | false => simp only [Bool.false_eq_true, if_false] at q9 ⊢; exact fin I9 hl8 hk8 q9
      | true =>
        simp only [if_true] at q9 ⊢
        refine thnF (pi1.run _ s9 σ8 H9 _ I9 q9) fun xv s10 hx => thnF hx fun itv s11 h11 => ?_
        obtain ⟨it1, fp1, tn1, J1, H11, e1, I11, T1, st11, f11, W1, ⟨m1, w1⟩, turn1⟩ := h11
        subst e1
        have stat1 : ∀ {H' : Hp}, (∀ b ∈ fp1, H' b = none) → ∀ b ∈ fp1, FpOk (X.blk s3 H3 sc ce fp) ([] ++ pinsAt fp s7.heap) H' b := fun hn b hb => ⟨hn b hb, (f11 b hb).2⟩
        have loop1 : codeAny (model X.prog X.w) X.A (.compLoop (SC2 elt tg iter tg1 iter1 ifs ifs1 sc pos) 1 (.ref it1) (.ref D) ce)
            (fun r s' => match r with
              | .ok _ => ∃ m, m < n ∧ ∃ i H', Inv (X.blk s3 H3 sc ce fp) [] (wipe σ (own.map (·.2))) H' s' ∧ tn i s'.heap ∧ (∀ b ∈ fp, H' b = none) ∧ W i m H'
              | .error _ => False) s11 := by
          refine loopIn (fun k s' => ∃ j H', Inv (X.blk s3 H3 sc ce fp) ([] ++ pinsAt fp s7.heap) (wipe σ8 vs1) H' s' ∧ tn1 j s'.heap ∧ (∀ b ∈ fp1, H' b = none) ∧ W1 j k H') ?_ m1 ⟨0, H11, I11.weak (wipe_length _ _) (fun j v e => (wipe_some e).1), st11, fun b hb => (f11 b hb).1, w1⟩
          rintro k s12 ⟨j, H12, I12, st12, n12, w12⟩
          rcases turn1 j k H12 w12 with ⟨stop1, nx1⟩ | ⟨go1, Nx1, hNx1, step1⟩
          · refine thnF (T1.done (X.blk s3 H3 sc ce fp) rfl rfl rfl hc j _ s12 (wipe σ8 vs1) H12 (fun _ _ => False) I12 (stat1 n12) st12 stop1) fun r s13 ⟨hr, I13⟩ => ?_
            subst hr
            exact fin I13 (hl8.trans (wipe_length σ8 vs1).symm) hk9 nx1
          · refine thnF (T1.item (X.blk s3 H3 sc ce fp) rfl rfl rfl hc j _ s12 (wipe σ8 vs1) H12 (fun _ _ => False) I12 (stat1 n12) st12 go1) fun r s13 ⟨u1, hr, h13⟩ => ?_
            subst hr
            refine thnF h13 fun _ s14 ⟨x1, H14, I14, r14, y14, st14, n14⟩ => ?_
            have I14' := I14.pinned (stat1 n14) (T1.obj _ _ st14)
            refine thnF (pg1.run _ s14 (wipe σ8 vs1) H14 x1 u1 _ I14' r14 (step1 x1 H14 y14)) fun _ s15 ⟨σ15, H15, I15, hw15, q15⟩ => thnF (pt1.run _ s15 σ15 H15 _ I15 q15) fun b1 s16 ⟨H16, I16, q16⟩ => ?_
            have fin1 : ∀ {s' : Shared} {H' : Hp}, Inv (X.blk s3 H3 sc ce fp) (([] ++ pinsAt fp s7.heap) ++ pinsAt fp1 s14.heap) σ15 H' s' → Nx1 H' → ∃ m, m < k ∧ ∃ j H', Inv (X.blk s3 H3 sc ce fp) ([] ++ pinsAt fp s7.heap) (wipe σ8 vs1) H' s' ∧ tn1 j s'.heap ∧ (∀ b ∈ fp1, H' b = none) ∧ W1 j m H' := fun {s' H'} I' nx => by
              obtain ⟨m', hm, w'⟩ := hNx1 H' nx
              have pin' : ∀ b ∈ fp1, ∀ o, s14.heap.get? b = some o → s'.heap.get? b = some o ∧ H' b = none := fun b hb o e =>
                let z := I'.pin (b, o) (List.mem_append_right _ (List.mem_append_right _ (mem_pinsAt hb e))); ⟨z.1, z.2.1⟩
              exact ⟨m', hm, j + 1, H', I'.unpinned.weak (by rw [← hw15, wipe_length]) (fun j v e => (wipe_some (hw15 ▸ e)).1), T1.keep _ _ _ st14 fun b hb o e => (pin' b hb o e).1, fun b hb => let ⟨o, e, _⟩ := T1.obj _ _ st14 b hb; (pin' b hb o e).2, w'⟩
            cases b1 with
            | false => simp only [Bool.false_eq_true, if_false] at q16 ⊢; exact fin1 I16 q16
            | true =>
              simp only [if_true] at q16 ⊢
              refine thnF (pe.run _ s16 σ15 H16 _ I16 q16) fun z s17 ⟨yv, H17, I17, r17, ky, L17, ey, hD17, hz17, nx⟩ => ?_
              subst ey
              obtain ⟨tk, rfl⟩ := r17
              exact addS_ok (X := X.blk s3 H3 sc ce fp) I17 hD17 hz17 fun s18 I18 => fin1 I18 nx
        exact startIn loop1 (T1.self X.A 0 _ _ _ st11 loop1)
  exact PpSet.codeAny_compStart_set loop (T.self X.A 0 _ _ _ st4 loop)
/-- as a value -/
theorem pe_sc2 {elt tg iter tg1 iter1 : Expr} {ifs ifs1 : List Expr} {sc : Scope} {own : List (PySem.Str × Nat)} {vs1 : List Nat} {pos : Pos} {wi wi1 : TI} {g g1 : TG} {tt tt1 : TT} {te : TE} (hc : X.calm = true) (hN : X.N.Nodup) (hi : PI X tg iter wi) (ok : BlkOk X.N X.env.scope sc own) (hv : ∀ i ∈ vs1, i ∈ own.map (·.2))
    (hg : ∀ s H C cl fp, PG (Blk X sc s H C cl fp) tg g) (ht : ∀ s H C cl fp, PTs (Blk X sc s H C cl fp) ifs tt) (hi1 : ∀ s H C cl fp, PI (Blk X sc s H C cl fp) tg1 iter1 wi1) (hg1 : ∀ s H C cl fp, PG (Blk X sc s H C cl fp) tg1 g1) (ht1 : ∀ s H C cl fp, PTs (Blk X sc s H C cl fp) ifs1 tt1)
    (he : ∀ s H C cl fp, PE (Blk X sc s H C cl fp) elt te) (hs : ∀ x, foldedSetIterable iter X.env x = pure x := by intro _; rfl) (hs1 : ∀ env x, foldedSetIterable iter1 env x = pure x := by intro _ _; rfl) :
    PE X (SC2 elt tg iter tg1 iter1 ifs ifs1 sc pos) (tSc2 X.w wi g tt wi1 g1 tt1 te (own.map (·.2)) vs1) := by
  refine ⟨fun pins s σ H Q I h => ?_⟩
  rw [PpSet.eval_SetComp]
  refine sc2_core hc hN I hi ok hv hg ht he hs hi1 hg1 ht1 hs1 h fun D C s' m H' I' q hn f => ⟨m, hn, fun h'' sb => ?_⟩
  obtain ⟨f0, f1, f2, f3, f4, f5⟩ := f
  exact ⟨.ref D, H', I'.turned (t' := s'.toks) (fun b o hb e => (sb.2 b hb).trans e) f0 f1 f3 f4 f5, rfl, q⟩
/-- sorted of such a set, fewer than 64 members -/
def rSortS (w : World) : List V → Hp → VK → Prop := fun vs H Q => ∃ (a : Addr) (L : List Str), vs = [V.ref a] ∧ H a = some (SetSO w a L) ∧ L.length < 64 ∧ ∀ (ys : List Str) (p : Addr), ys.Perm L → sortedS ys = true → H p = none → Q (.ref p) (upd H p (.lst (ys.map V.str)))
theorem strs_of : ∀ (l : List Value), (∀ v ∈ l, ∃ k tk, v = Value.str k tk) → StrsAre l (l.map fun v => kOf (0, v))
  | [], _ => .nil
  | v :: l, h => by
    obtain ⟨k, tk, rfl⟩ := h v List.mem_cons_self
    exact .cons k tk (strs_of l fun u hu => h u (List.mem_cons_of_mem _ hu))
theorem cr_sortS (hc : X.calm = true) : CallR X (.builtin "sorted") (rSortS X.w) := by
  intro pins s σ H vs us Q I r h
  obtain ⟨a, L, rfl, ha, h64, q⟩ := h
  have R := setSO_get I ha
  have hlen := @SetS.len _ _ _ _ R
  rw [Vals.ref1 r]
  obtain ⟨o, es, ep, t, ho, hex, hd, g, pmL, nd, hb, hf, hr, hl⟩ := R
  have hn : es.size = L.length := hlen ho hd
  refine Calls.call_function_entry kind_sorted plain_sorted entry_sorted (args_sorted1 _) ?_
  unfold Builtin.«sorted»
  refine wpAny_bind (m := checkCount "sorted" 1 1 _) (wpAny_pure (wpAny_bind (collect_set (A := X.A.in1) (I.ok.hd hc) ⟨o, ho, hex.1, hd⟩ hf hb hr hl fun s1 ws k1 hz g1 o1 pm => ?_)))
  have hvl : ws.length = L.length := by rw [pm.length_eq, List.length_map, Array.length_toList]; exact hn
  have hS : StrsAre ws (ws.map fun v => kOf (0, v)) := strs_of ws fun v hv => by
    obtain ⟨e, he, z⟩ := List.mem_map.mp (pm.mem_iff.mp hv)
    obtain ⟨k, tk, h1, -⟩ := g e he
    exact ⟨k, tk, by rw [← z]; exact h1⟩
  have pk : (ws.map fun v => kOf (0, v)).Perm L := by
    have z := pm.map fun v => kOf (0, v)
    rw [List.map_map] at z
    exact z.trans pmL
  have I1 : Inv X pins σ H s1 := by
    have e : s1 = { s with heap := s1.heap, gens := s1.gens, drawn := s1.drawn, toks := s1.toks } := by cases s1; cases s; cases o1; rfl
    rw [e]
    exact I.call (ch := []) (Un.kept k1) (I.hok.kept k1) (by rw [g1]; exact I.bare) (fun _ z => nomatch z)
  refine wpAny_bind (wpAny_newList ?_ (by rw [hvl, sizeLine_eq]; omega))
  have hoL : (s1.heap.push (seqObj "list" ws.toArray 0)).get? s1.heap.objs.size = some (seqObj "list" ws.toArray 0) := Heap.get?_push_size _ rfl
  refine wpAny_bind (wpAny_holding (wpAny_call_entry slot_list_sort ⟨_, hoL, rfl⟩ entry_list_sort (list_sort_treeK strKind_oneLt (s := { s1 with heap := s1.heap.push (seqObj "list" ws.toArray 0) }) hoL hS.keysOf (fun v₁ v₂ rest e => keyKind_strs (by rw [← e]; exact hS)) (by rw [hvl]; exact h64) fun st' hp hs => ⟨_, rfl, ?_⟩) (args_list_sort _)))
  obtain ⟨ys, y1, y2, y3⟩ := sorted_out_str hS hp hs
  obtain ⟨e', he'⟩ := sortedHeap_at (vs := ws) (out := (arrOf st').map (·.2)) hoL
  have hl2 : (ys.map V.str).length ≤ sizeLine := by
    rw [List.length_map, y2.length_eq, pk.length_eq, sizeLine_eq]
    omega
  refine wpAny_pure ⟨_, rfl, .ref s1.heap.objs.size, upd H s1.heap.objs.size (.lst (ys.map V.str)), I1.laid (t' := s1.toks) (fun b u e => ?_) (Nat.le_refl _) (show ObjOk X.prog X.w _ _ _ (.lst (ys.map V.str)) from ⟨hl2, ((arrOf st').map (·.2)).toList, e', vals_of_strs y1, by rw [Array.toArray_toList]; exact he'⟩), rfl, q ys _ (y2.trans pk) y3 (I1.hok.fresh (Nat.le_refl _))⟩
  show (sortedHeap (s1.heap.push (seqObj "list" ws.toArray 0)) s1.heap.objs.size ws _).get? b = some u
  have hlt := Heap.lt_size e
  rw [sortedHeap_old (Nat.ne_of_lt hlt) (by rw [size_push']; exact Nat.lt_succ_of_lt hlt)]
  exact Heap.get?_push_of_some _ e
end
/-- walked: the outer clause -/
theorem sc2_it {J : It} {n : Nat} {G : Hp → Prop} {Y : Nat → Hp → V → Hp → Prop} (wk : Walk J n G Y) {w : World} {g g1 : TG} {tt tt1 : TT} {wi1 : TI} {te : TE} {vs vs1 : List Nat} {σ : L2.St} {H1 : Hp} {D : Addr} {Qd : Hp → Prop} (Pv : Nat → Hp → Prop) (h0 : Pv 0 (upd H1 D (SetSO w D []))) (hG : ∀ i H, i ≤ n → Pv i H → G H)
    (hs : ∀ i x H H', i < n → Pv i H → Y i H x H' → g x (wipe σ vs) H' fun σ2 H2 => wipe σ2 vs = wipe σ vs ∧ tt σ2 H2 fun b H3 =>
      if b = true then wi1 σ2 H3 fun J1 H4 => ∃ W1 : Nat → Nat → Hp → Prop, (∃ m, W1 0 m H4) ∧ ∀ j k H, W1 j k H →
        (J1.stop j H ∧ Pv (i + 1) H) ∨ (J1.go j H ∧ ∃ Nx1 : Hp → Prop, (∀ H', Nx1 H' → ∃ k', k' < k ∧ W1 (j + 1) k' H') ∧ ∀ x H', J1.yld j H x H' → g1 x (wipe σ2 vs1) H' fun σ3 H5 => wipe σ3 vs1 = wipe σ2 vs1 ∧ tt1 σ3 H5 fun b H6 =>
          if b = true then te σ3 H6 fun y H7 => ∃ k L, y = .str k ∧ H7 D = some (SetSO w D L) ∧ L.length + 1 < scanBound ∧ Nx1 (upd H7 D (SetSO w D (addL L k))) else Nx1 H6)
      else Pv (i + 1) H3) (hd : ∀ H, Pv n H → Qd H) :
    ∃ W : Nat → Nat → Hp → Prop, (∃ m, W 0 m (upd H1 D (SetSO w D []))) ∧ ∀ i m H, W i m H →
      (J.stop i H ∧ Qd H) ∨ (J.go i H ∧ ∃ Nx : Hp → Prop, (∀ H', Nx H' → ∃ m', m' < m ∧ W (i + 1) m' H') ∧ ∀ x H', J.yld i H x H' → g x (wipe σ vs) H' fun σ2 H2 => wipe σ2 vs = wipe σ vs ∧ tt σ2 H2 fun b H3 =>
        if b = true then wi1 σ2 H3 fun J1 H4 => ∃ W1 : Nat → Nat → Hp → Prop, (∃ m, W1 0 m H4) ∧ ∀ j k H, W1 j k H →
          (J1.stop j H ∧ Nx H) ∨ (J1.go j H ∧ ∃ Nx1 : Hp → Prop, (∀ H', Nx1 H' → ∃ k', k' < k ∧ W1 (j + 1) k' H') ∧ ∀ x H', J1.yld j H x H' → g1 x (wipe σ2 vs1) H' fun σ3 H5 => wipe σ3 vs1 = wipe σ2 vs1 ∧ tt1 σ3 H5 fun b H6 =>
            if b = true then te σ3 H6 fun y H7 => ∃ k L, y = .str k ∧ H7 D = some (SetSO w D L) ∧ L.length + 1 < scanBound ∧ Nx1 (upd H7 D (SetSO w D (addL L k))) else Nx1 H6)
        else Nx H3) := by
  refine ⟨fun i m H => m = n - i ∧ i ≤ n ∧ Pv i H, ⟨n, by simp, Nat.zero_le _, h0⟩, ?_⟩
  rintro i m H ⟨rfl, hi, p⟩
  have q := hG i H hi p
  by_cases c : i < n
  · exact .inr ⟨wk.goes i H c q, Pv (i + 1), fun H' p' => ⟨n - (i + 1), by omega, rfl, c, p'⟩, fun x H' y => hs i x H H' c p (wk.yields i H x H' c q y)⟩
  · obtain rfl : i = n := by omega
    exact .inl ⟨wk.stops H q, hd H p⟩
/-- walked: the inner clause -/
theorem in2_it {J1 : It} {n : Nat} {G : Hp → Prop} {Y : Nat → Hp → V → Hp → Prop} (wk : Walk J1 n G Y) {w : World} {g1 : TG} {tt1 : TT} {te : TE} {vs1 : List Nat} {σ2 : L2.St} {H4 : Hp} {D : Addr} {Nx : Hp → Prop} (Pv : Nat → Hp → Prop) (h0 : Pv 0 H4) (hG : ∀ i H, i ≤ n → Pv i H → G H)
    (hs : ∀ i x H H', i < n → Pv i H → Y i H x H' → g1 x (wipe σ2 vs1) H' fun σ3 H5 => wipe σ3 vs1 = wipe σ2 vs1 ∧ tt1 σ3 H5 fun b H6 =>
      if b = true then te σ3 H6 fun y H7 => ∃ k L, y = .str k ∧ H7 D = some (SetSO w D L) ∧ L.length + 1 < scanBound ∧ Pv (i + 1) (upd H7 D (SetSO w D (addL L k))) else Pv (i + 1) H6) (hd : ∀ H, Pv n H → Nx H) :
    ∃ W1 : Nat → Nat → Hp → Prop, (∃ m, W1 0 m H4) ∧ ∀ j k H, W1 j k H →
      (J1.stop j H ∧ Nx H) ∨ (J1.go j H ∧ ∃ Nx1 : Hp → Prop, (∀ H', Nx1 H' → ∃ k', k' < k ∧ W1 (j + 1) k' H') ∧ ∀ x H', J1.yld j H x H' → g1 x (wipe σ2 vs1) H' fun σ3 H5 => wipe σ3 vs1 = wipe σ2 vs1 ∧ tt1 σ3 H5 fun b H6 =>
        if b = true then te σ3 H6 fun y H7 => ∃ k L, y = .str k ∧ H7 D = some (SetSO w D L) ∧ L.length + 1 < scanBound ∧ Nx1 (upd H7 D (SetSO w D (addL L k))) else Nx1 H6) := by
  refine ⟨fun i m H => m = n - i ∧ i ≤ n ∧ Pv i H, ⟨n, by simp, Nat.zero_le _, h0⟩, ?_⟩
  rintro i m H ⟨rfl, hi, p⟩
  have q := hG i H hi p
  by_cases c : i < n
  · exact .inr ⟨wk.goes i H c q, Pv (i + 1), fun H' p' => ⟨n - (i + 1), by omega, rfl, c, p'⟩, fun x H' y => hs i x H H' c p (wk.yields i H x H' c q y)⟩
  · obtain rfl : i = n := by omega
    exact .inl ⟨wk.stops H q, hd H p⟩
end Ss
/-! min of a list of data that can be compared: which of them it is -/
namespace Md
open PySem PySem.Spec PyProof.Rows L2
open PySem.W (DatumOrd Datum minOf AlikeAll readsAll_len readsAll_atA cmpIn_lt iter_listW moved_old argBest_fold dataLt)
section
variable {α : Type} [DecidableEq α] [DatumOrd α]
theorem minOf_mem (x : α) : ∀ ys : List α, minOf x ys ∈ x :: ys := by
  intro ys
  unfold minOf
  induction ys generalizing x with
  | nil => exact List.mem_singleton.mpr rfl
  | cons y r ih =>
    rw [List.foldl_cons]
    have h := ih (if DatumOrd.lt y x = true then y else x)
    rcases List.mem_cons.mp h with z | z
    · rw [z]
      split
      · exact List.mem_cons_of_mem _ List.mem_cons_self
      · exact List.mem_cons_self
    · exact List.mem_cons_of_mem _ (List.mem_cons_of_mem _ z)
theorem minOf_le (ir : ∀ a : α, DatumOrd.lt a a = false) (asy : ∀ a b : α, DatumOrd.lt a b = true → DatumOrd.lt b a = false) (tr : ∀ a b c : α, DatumOrd.lt a b = false → DatumOrd.lt b c = false → DatumOrd.lt a c = false) (x : α) : ∀ ys : List α, ∀ z ∈ x :: ys, DatumOrd.lt z (minOf x ys) = false := by
  intro ys
  unfold minOf
  induction ys generalizing x with
  | nil =>
    intro z hz
    rw [List.mem_singleton.mp hz]
    exact ir x
  | cons y r ih =>
    intro z hz
    rw [List.foldl_cons]
    have h := ih (if DatumOrd.lt y x = true then y else x)
    by_cases c : DatumOrd.lt y x = true
    · rw [if_pos c] at h ⊢
      rcases List.mem_cons.mp hz with e | hz
      · rw [e]
        exact tr x y _ (asy y x c) (h y List.mem_cons_self)
      · exact h z hz
    · rw [if_neg c] at h ⊢
      have c : DatumOrd.lt y x = false := by
        cases q : DatumOrd.lt y x with
        | false => rfl
        | true => exact absurd q c
      rcases List.mem_cons.mp hz with e | hz
      · rw [e]
        exact h x List.mem_cons_self
      · rcases List.mem_cons.mp hz with e | hz
        · rw [e]
          exact tr y x _ c (h x List.mem_cons_self)
        · exact h z (List.mem_cons_of_mem _ hz)
end
/-- min(xs): the item at a place of the least -/
def rMinG (α : Type) [DecidableEq α] [DatumOrd α] (K : PySem.W.Frag) : List V → Hp → VK → Prop := fun vs H Q => ∃ (a : Addr) (xs : List V) (x : α) (ys : List α), vs = [.ref a] ∧ SqL K H a xs ∧ DpAll K H xs ((x :: ys).map Datum.toD) ∧ Datum.depth α ≤ 60 ∧
  ∀ (i : Nat) (v : V), xs[i]? = some v → (x :: ys)[i]? = some (minOf x ys) → Q v H
theorem cr_minG {X : Cx} {α : Type} [DecidableEq α] [DatumOrd α] (hc : X.calm = true) (hu : X.A.units + 64 < cLine) : CallR X (.builtin "min") (rMinG α X.K) := by
  intro pins s σ H vs us Q I r h
  obtain ⟨a, xs, x, ys, rfl, hs, hd, hdep, q⟩ := h
  obtain ⟨its, rv, hl, -⟩ := I.list hs
  rw [Vals.ref1 r]
  obtain ⟨as, hr⟩ := Dp.readsAll I _ _ _ hd rv
  have hl : s.heap.IsList a its.toArray := hl.isList
  have hr' : ReadsAll s.heap its.toArray.toList (Datum.toD x :: ys.map Datum.toD) as := hr
  have hn : its.toArray.size = ys.length + 1 := by rw [readsAll_len hr']; simp
  have hdd : PyData.depthAll (Datum.toD x :: ys.map Datum.toD) ≤ 60 := Nat.le_trans (PySem.W.depthAll_map (x :: ys)) hdep
  refine PySem.call_min_walkH (iter_listW (A := X.A.in1) (I.ok.hd hc) hl fun s2 e W st hfp hw hk => ?_)
  refine ⟨_, _, _, _, _, _, _, s.heap, _, rfl, W, st, hfp, by omega, hw, hk, cmpIn_lt (A := X.A.in1) hr' (PySem.W.alikeAll_datum (x :: ys)) (by show X.A.units + 1 + _ < _; omega), fun v s' hP m => ?_⟩
  obtain ⟨h', tk, rfl, hk'⟩ := moved_old e rfl m
  have e1 : its.toArray.size - 1 = (ys.map Datum.toD (α := α)).length := by rw [List.length_map]; omega
  rw [e1] at hP
  have f := argBest_fold dataLt PyData.none (Datum.toD x) (ys.map Datum.toD) (ys.map Datum.toD).length (Nat.le_refl _)
  generalize argBest (fun i j => dataLt ((Datum.toD x :: ys.map Datum.toD).getD i .none) ((Datum.toD x :: ys.map Datum.toD).getD j .none)) (ys.map Datum.toD).length = j at f hP
  rw [List.take_length] at f
  have f2 : (Datum.toD x :: ys.map Datum.toD).getD j .none = Datum.toD (minOf x ys) := f.2.trans (PySem.W.minD_map x ys)
  have hj : j < (x :: ys).length := by
    have := f.1
    rw [List.length_map] at this
    rw [List.length_cons]
    omega
  have g : (x :: ys)[j]? = some (minOf x ys) := by
    rw [List.getElem?_eq_getElem hj]
    congr 1
    have z : (Datum.toD x :: ys.map Datum.toD)[j]? = some (Datum.toD (x :: ys)[j]) := by
      show ((x :: ys).map Datum.toD)[j]? = _
      rw [List.getElem?_map, List.getElem?_eq_getElem hj]
      rfl
    rw [List.getD_eq_getElem?_getD, z] at f2
    have f3 : Datum.toD (x :: ys)[j] = Datum.toD (minOf x ys) := f2
    have f4 := Datum.eqv (x :: ys)[j] (minOf x ys)
    have f5 := Datum.eqv (minOf x ys) (minOf x ys)
    rw [f3, f5] at f4
    have : decide ((x :: ys)[j] = minOf x ys) = true := by rw [← f4]; exact decide_eq_true rfl
    exact of_decide_eq_true this
  have hP : its[j]? = some v := by simpa using hP
  have hjx : j < xs.length := by
    rw [rv.length]
    exact (List.getElem?_eq_some_iff.mp hP).1
  obtain ⟨u0, hu0, ru0⟩ := Vals.get rv (List.getElem?_eq_getElem hjx)
  rw [hP] at hu0
  cases hu0
  exact ⟨xs[j], H, I.kept hk', ru0, q j _ (List.getElem?_eq_getElem hjx) g⟩
end Md
/-! shortest roads as mathematics: steps to a goal, the least of the shortest -/
namespace Rm
abbrev Nd := List Nat
section
variable (R : Nd → Nd → Prop) (F : Nd → Prop)
/-- a walk of n steps to a goal -/
def Wk : Nat → Nd → Prop
  | 0, x => F x
  | n + 1, x => ∃ y, R x y ∧ Wk n y
/-- it is n steps away -/
def Ds (n : Nat) (x : Nd) : Prop := Wk R F n x ∧ ∀ m, m < n → ¬ Wk R F m x
variable {R F}
theorem Ds.eq {n m : Nat} {x : Nd} (h : Ds R F n x) (k : Ds R F m x) : n = m := by
  rcases Nat.lt_trichotomy n m with c | c | c
  · exact absurd h.1 (k.2 n c)
  · exact c
  · exact absurd k.1 (h.2 m c)
theorem wk_ds : ∀ (n : Nat) {x : Nd}, Wk R F n x → ∃ m, m ≤ n ∧ Ds R F m x := by
  intro n
  induction n using Nat.strongRecOn with
  | ind n ih =>
    intro x h
    by_cases c : ∃ m, m < n ∧ Wk R F m x
    · obtain ⟨m, hm, hw⟩ := c
      obtain ⟨k, hk, hd⟩ := ih m hm hw
      exact ⟨k, by omega, hd⟩
    · exact ⟨n, Nat.le_refl _, h, fun m hm hw => c ⟨m, hm, hw⟩⟩
theorem Ds.down {n : Nat} {x : Nd} (h : Ds R F (n + 1) x) : ∃ y, R x y ∧ Ds R F n y := by
  obtain ⟨⟨y, h1, h2⟩, hm⟩ := h
  exact ⟨y, h1, h2, fun m hmn hw => hm (m + 1) (by omega) ⟨y, h1, hw⟩⟩
theorem Ds.next {n : Nat} {x y : Nd} (h : Ds R F (n + 1) x) (r : R x y) (w : Wk R F n y) : Ds R F n y := ⟨w, fun m hm hw => h.2 (m + 1) (by omega) ⟨y, r, hw⟩⟩
theorem ds_succ {n : Nat} {x : Nd} : Ds R F (n + 1) x ↔ (∃ y, R x y ∧ Ds R F n y) ∧ ∀ m, m ≤ n → ¬ Ds R F m x := by
  constructor
  · intro h
    exact ⟨h.down, fun m hm hd => by have := h.eq hd; omega⟩
  · rintro ⟨⟨y, h1, h2⟩, hm⟩
    refine ⟨⟨y, h1, h2.1⟩, fun m hmn hw => ?_⟩
    obtain ⟨k, hk, hd⟩ := wk_ds m hw
    exact hm k (by omega) hd
theorem ds_zero {x : Nd} : Ds R F 0 x ↔ F x := ⟨fun h => h.1, fun h => ⟨h, fun m hm => absurd hm (Nat.not_lt_zero _)⟩⟩
theorem ds_none {m : Nat} (h : ∀ x, ¬ Ds R F m x) : ∀ n x, m ≤ n → ¬ Ds R F n x := by
  intro n
  induction n with
  | zero =>
    intro x hm
    have : m = 0 := by omega
    subst this
    exact h x
  | succ n ih =>
    intro x hm hd
    by_cases c : m = n + 1
    · subst c
      exact h x hd
    · obtain ⟨y, _, hy⟩ := hd.down
      exact ih y (by omega) hy
/-- the least of those with a property -/
def Lst (P : Nd → Prop) (y : Nd) : Prop := P y ∧ ∀ z, P z → ¬ z < y
theorem Lst.eq {P : Nd → Prop} {y z : Nd} (a : Lst P y) (b : Lst P z) : y = z := List.le_antisymm (List.not_lt.mp (a.2 z b.1)) (List.not_lt.mp (b.2 y a.1))
variable (R F)
/-- the least of the shortest roads -/
def Gr : Nat → Nd → List Nd → Prop
  | 0, x, r => F x ∧ r = [x]
  | n + 1, x, r => ∃ y t, Lst (fun y => R x y ∧ Ds R F n y) y ∧ Gr n y t ∧ r = x :: t
variable {R F}
theorem Gr.eq : ∀ {n : Nat} {x : Nd} {r t : List Nd}, Gr R F n x r → Gr R F n x t → r = t
  | 0, _, _, _, h, k => h.2.trans k.2.symm
  | n + 1, x, _, _, ⟨y, r, h1, h2, h3⟩, ⟨z, t, k1, k2, k3⟩ => by
    have := h1.eq k1
    subst this
    rw [h3, k3, h2.eq k2]
theorem Gr.len : ∀ {n : Nat} {x : Nd} {r : List Nd}, Gr R F n x r → r.length = n + 1
  | 0, _, _, h => by rw [h.2]; rfl
  | n + 1, _, _, ⟨y, t, _, h2, h3⟩ => by rw [h3, List.length_cons, h2.len]
theorem Gr.head : ∀ {n : Nat} {x : Nd} {r : List Nd}, Gr R F n x r → r.head? = some x
  | 0, _, _, h => by rw [h.2]; rfl
  | n + 1, _, _, ⟨y, t, _, h2, h3⟩ => by rw [h3]; rfl
theorem Gr.last : ∀ {n : Nat} {x : Nd} {r : List Nd}, Gr R F n x r → ∃ z, r.getLast? = some z ∧ F z
  | 0, x, _, h => ⟨x, by rw [h.2]; rfl, h.1⟩
  | n + 1, x, _, ⟨y, t, _, h2, h3⟩ => by
    obtain ⟨z, e, f⟩ := h2.last
    refine ⟨z, ?_, f⟩
    rw [h3]
    cases t with
    | nil => cases e
    | cons a t => rw [List.getLast?_cons_cons]; exact e
/-- a walk, its places told: p begins with x and its neighbours are related -/
def Pth (R : Nd → Nd → Prop) : Nd → List Nd → Prop
  | x, [] => False
  | x, [y] => x = y
  | x, y :: z :: t => x = y ∧ R x z ∧ Pth R z (z :: t)
theorem pth_cons {x : Nd} {p : List Nd} (h : Pth R x p) : ∃ t, p = x :: t := by
  match p, h with
  | [y], h => exact ⟨[], by rw [show x = y from h]⟩
  | y :: z :: t, h => exact ⟨z :: t, by rw [h.1]⟩
theorem pth_snoc : ∀ {p : List Nd} {x z : Nd}, Pth R x p → (∀ y, p.getLast? = some y → R y z) → Pth R x (p ++ [z])
  | [y], x, z, h, k => ⟨h, by rw [show x = y from h]; exact k y rfl, rfl⟩
  | y :: w :: t, x, z, h, k => ⟨h.1, h.2.1, pth_snoc (p := w :: t) h.2.2 fun y' e => k y' (by rw [List.getLast?_cons_cons]; exact e)⟩
theorem pth_init : ∀ {p : List Nd} {x z : Nd}, p ≠ [] → Pth R x (p ++ [z]) → Pth R x p ∧ ∀ y, p.getLast? = some y → R y z
  | [y], x, z, _, h => ⟨h.1, fun y' e => by
      have : y = y' := Option.some.inj e
      rw [← this, ← h.1]
      exact h.2.1⟩
  | y :: w :: t, x, z, _, h => by
    obtain ⟨h1, h2⟩ := pth_init (p := w :: t) (by simp) h.2.2
    exact ⟨⟨h.1, h.2.1, h1⟩, fun y' e => h2 y' (by rw [List.getLast?_cons_cons] at e; exact e)⟩
theorem pth_wk : ∀ {p : List Nd} {x z : Nd}, Pth R x p → p.getLast? = some z → F z → Wk R F (p.length - 1) x
  | [y], x, z, h, e, f => by
    have : y = z := Option.some.inj e
    show F x
    rw [show x = y from h, this]
    exact f
  | y :: w :: t, x, z, h, e, f => ⟨w, h.2.1, pth_wk (p := w :: t) h.2.2 (by rw [List.getLast?_cons_cons] at e; exact e) f⟩
theorem gr_pth : ∀ {n : Nat} {x : Nd} {r : List Nd}, Gr R F n x r → Pth R x r
  | 0, x, _, h => by rw [h.2]; rfl
  | n + 1, x, _, ⟨y, t, h1, h2, h3⟩ => by
    have hp := gr_pth h2
    obtain ⟨u, rfl⟩ := pth_cons hp
    rw [h3]
    exact ⟨rfl, h1.1.1, hp⟩
/-- on it each is nearer than the one ahead -/
theorem gr_ds : ∀ {n : Nat} {x : Nd} {r : List Nd}, Gr R F n x r → Ds R F n x → ∀ (i : Nat) (z : Nd), r[i]? = some z → i ≤ n ∧ Ds R F (n - i) z
  | 0, x, _, h, d, i, z, e => by
    rw [h.2] at e
    match i, e with
    | 0, e =>
      have : x = z := Option.some.inj e
      rw [← this]
      exact ⟨Nat.le_refl _, d⟩
  | n + 1, x, _, ⟨y, t, h1, h2, h3⟩, d, i, z, e => by
    rw [h3] at e
    match i, e with
    | 0, e =>
      have : x = z := Option.some.inj e
      rw [← this]
      exact ⟨Nat.zero_le _, d⟩
    | i + 1, e =>
      obtain ⟨h4, h5⟩ := gr_ds h2 h1.1.2 i z e
      exact ⟨by omega, by rw [show n + 1 - (i + 1) = n - i by omega]; exact h5⟩
theorem gr_nodup {n : Nat} {x : Nd} {r : List Nd} (h : Gr R F n x r) (d : Ds R F n x) : r.Nodup := by
  rw [List.nodup_iff_pairwise_ne, List.pairwise_iff_getElem]
  intro i j hi hj hij e
  obtain ⟨h1, h2⟩ := gr_ds h d i _ (List.getElem?_eq_getElem hi)
  obtain ⟨h3, h4⟩ := gr_ds h d j _ (List.getElem?_eq_getElem hj)
  rw [e] at h2
  have := h2.eq h4
  omega
end
/-- the order of roads: the first unlike places, else the shorter -/
def rLt : List Nd → List Nd → Bool
  | [], [] => false
  | [], _ :: _ => true
  | _ :: _, [] => false
  | x :: xs, y :: ys => if x = y then rLt xs ys else decide (x < y)
theorem rLt_self : ∀ a : List Nd, rLt a a = false
  | [] => rfl
  | x :: xs => by
    show (if x = x then rLt xs xs else decide (x < x)) = false
    rw [if_pos rfl, rLt_self xs]
theorem lt_asym {x y : Nd} (h : x < y) : ¬ y < x := fun k => List.lt_irrefl _ (List.lt_trans h k)
theorem rLt_asy : ∀ a b : List Nd, rLt a b = true → rLt b a = false
  | [], [], h => by cases h
  | [], _ :: _, _ => rfl
  | _ :: _, [], h => by cases h
  | x :: xs, y :: ys, h => by
    have h : (if x = y then rLt xs ys else decide (x < y)) = true := h
    show (if y = x then rLt ys xs else decide (y < x)) = false
    by_cases c : x = y
    · rw [if_pos c] at h
      rw [if_pos c.symm]
      exact rLt_asy xs ys h
    · rw [if_neg c] at h
      rw [if_neg (fun z => c z.symm)]
      exact decide_eq_false (lt_asym (of_decide_eq_true h))
theorem rLt_tr : ∀ a b c : List Nd, rLt a b = false → rLt b c = false → rLt a c = false
  | [], [], _, _, k => k
  | [], _ :: _, _, h, _ => by cases h
  | _ :: _, _, [], _, _ => rfl
  | _ :: _, [], _ :: _, _, k => by cases k
  | x :: xs, y :: ys, z :: zs, h, k => by
    have h : (if x = y then rLt xs ys else decide (x < y)) = false := h
    have k : (if y = z then rLt ys zs else decide (y < z)) = false := k
    show (if x = z then rLt xs zs else decide (x < z)) = false
    by_cases c : x = y
    · subst c
      rw [if_pos rfl] at h
      by_cases c2 : x = z
      · rw [if_pos c2] at k ⊢
        exact rLt_tr xs ys zs h k
      · rw [if_neg c2] at k ⊢
        exact k
    · rw [if_neg c] at h
      have h := List.not_lt.mp (of_decide_eq_false h)
      by_cases c2 : y = z
      · subst c2
        rw [if_neg c]
        exact decide_eq_false (List.not_lt.mpr h)
      · rw [if_neg c2] at k
        have k := List.not_lt.mp (of_decide_eq_false k)
        have hk := List.le_trans k h
        by_cases c3 : x = z
        · subst c3
          exact absurd (List.le_antisymm h k) (fun e => c e.symm)
        · rw [if_neg c3]
          exact decide_eq_false (List.not_lt.mpr hk)
theorem rLt_anti : ∀ a b : List Nd, rLt a b = false → rLt b a = false → a = b
  | [], [], _, _ => rfl
  | [], _ :: _, h, _ => by cases h
  | _ :: _, [], _, k => by cases k
  | x :: xs, y :: ys, h, k => by
    have h : (if x = y then rLt xs ys else decide (x < y)) = false := h
    have k : (if y = x then rLt ys xs else decide (y < x)) = false := k
    by_cases c : x = y
    · subst c
      rw [if_pos rfl] at h k
      rw [rLt_anti xs ys h k]
    · rw [if_neg c] at h
      rw [if_neg (fun z => c z.symm)] at k
      exact absurd (List.le_antisymm (List.not_lt.mp (of_decide_eq_false k)) (List.not_lt.mp (of_decide_eq_false h))) c
/-- none of the roads of as many steps is less -/
theorem gr_least {R : Nd → Nd → Prop} {F : Nd → Prop} : ∀ {n : Nat} {x : Nd} {r p : List Nd} {z : Nd}, Gr R F n x r → Ds R F n x → Pth R x p → p.length = n + 1 → p.getLast? = some z → F z → rLt p r = false
  | 0, x, _, p, z, h, d, hp, hl, e, f => by
    obtain ⟨t, rfl⟩ := pth_cons hp
    have : t = [] := List.eq_nil_of_length_eq_zero (by rw [List.length_cons] at hl; omega)
    rw [h.2, this]
    exact rLt_self _
  | n + 1, x, _, p, z, ⟨y, t, h1, h2, h3⟩, d, hp, hl, e, f => by
    match p, hp, hl, e with
    | y' :: w :: u, hp, hl, e =>
      have e2 : (w :: u).getLast? = some z := by rw [List.getLast?_cons_cons] at e; exact e
      have l2 : (w :: u).length = n + 1 := by rw [List.length_cons] at hl; omega
      have hw : Wk R F n w := by
        have := pth_wk hp.2.2 e2 f
        rw [l2] at this
        exact this
      have dw : Ds R F n w := d.next hp.2.1 hw
      have nl : ¬ w < y := h1.2 w ⟨hp.2.1, dw⟩
      rw [h3, ← hp.1]
      show (if x = x then rLt (w :: u) t else decide (x < x)) = false
      rw [if_pos rfl]
      obtain ⟨t', rfl⟩ := pth_cons (gr_pth h2)
      by_cases c : w = y
      · subst c
        exact gr_least h2 dw hp.2.2 l2 e2 f
      · show (if w = y then rLt u t' else decide (w < y)) = false
        rw [if_neg c]
        exact decide_eq_false nl
/-- among finitely many there is a least -/
theorem lst_ex : ∀ {ls : List Nd} {P : Nd → Prop}, (∀ y, P y → y ∈ ls) → (∃ y, P y) → ∃ y, Lst P y
  | [], P, h, ⟨y, hy⟩ => by cases h y hy
  | a :: r, P, h, ⟨y, hy⟩ => by
    by_cases c : ∃ z, P z ∧ z ≠ a
    · obtain ⟨y, hy, hl⟩ := lst_ex (ls := r) (P := fun z => P z ∧ z ≠ a) (fun z hz => (List.mem_cons.mp (h z hz.1)).elim (fun e => absurd e hz.2) id) c
      by_cases ha : P a ∧ a < y
      · refine ⟨a, ha.1, fun z hz hlt => ?_⟩
        by_cases e : z = a
        · rw [e] at hlt
          exact List.lt_irrefl _ hlt
        · exact hl z ⟨hz, e⟩ (List.lt_trans hlt ha.2)
      · refine ⟨y, hy.1, fun z hz hlt => ?_⟩
        by_cases e : z = a
        · rw [e] at hlt hz
          exact ha ⟨hz, hlt⟩
        · exact hl z ⟨hz, e⟩ hlt
    · have : ∀ z, P z → z = a := fun z hz => Classical.byContradiction fun e => c ⟨z, hz, e⟩
      have e := this y hy
      refine ⟨y, hy, fun z hz hlt => ?_⟩
      rw [this z hz, e] at hlt
      exact List.lt_irrefl _ hlt
theorem gr_ex {R : Nd → Nd → Prop} {F : Nd → Prop} {ls : List Nd} (hf : ∀ n y, Ds R F n y → y ∈ ls) : ∀ (n : Nat) {x : Nd}, Ds R F n x → ∃ r, Gr R F n x r
  | 0, x, h => ⟨[x], h.1, rfl⟩
  | n + 1, x, h => by
    obtain ⟨y, hy⟩ := lst_ex (ls := ls) (P := fun y => R x y ∧ Ds R F n y) (fun y hy => hf n y hy.2) h.down
    obtain ⟨t, ht⟩ := gr_ex hf n hy.1.2
    exact ⟨x :: t, y, t, hy, ht, rfl⟩
theorem pth_mem {R : Nd → Nd → Prop} {ls : List Nd} (hr : ∀ y z, R y z → z ∈ ls) : ∀ {p : List Nd} {x : Nd}, Pth R x p → x ∈ ls → ∀ z ∈ p, z ∈ ls
  | [y], x, h, hx, z, hz => by
    rw [List.mem_singleton.mp hz, ← show x = y from h]
    exact hx
  | y :: w :: t, x, h, hx, z, hz => by
    rcases List.mem_cons.mp hz with e | e
    · rw [e, ← h.1]
      exact hx
    · exact pth_mem hr (p := w :: t) h.2.2 (hr _ _ h.2.1) z e
theorem ne_snoc {α : Type} {p : List α} (h : p ≠ []) : ∃ q z, p = q ++ [z] := ⟨p.dropLast, p.getLast h, (List.dropLast_concat_getLast h).symm⟩
/-- roads of unlike places, t steps long -/
def SP (R : Nd → Nd → Prop) (x : Nd) (t : Nat) (p : List Nd) : Prop := Pth R x p ∧ p.length = t + 1 ∧ p.Nodup
theorem sp_zero {R : Nd → Nd → Prop} {x : Nd} {p : List Nd} : SP R x 0 p ↔ p = [x] := by
  constructor
  · rintro ⟨h1, h2, _⟩
    obtain ⟨t, rfl⟩ := pth_cons h1
    rw [List.eq_nil_of_length_eq_zero (l := t) (by rw [List.length_cons] at h2; omega)]
  · rintro rfl
    exact ⟨rfl, rfl, by simp⟩
theorem SP.ne {R : Nd → Nd → Prop} {x : Nd} {t : Nat} {p : List Nd} (h : SP R x t p) : p ≠ [] := fun e => by
  have := h.2.1
  rw [e] at this
  cases this
theorem sp_succ {R : Nd → Nd → Prop} {x : Nd} {t : Nat} {q : List Nd} : SP R x (t + 1) q ↔ ∃ p y z, SP R x t p ∧ p.getLast? = some y ∧ (z ≠ y ∧ R y z) ∧ z ∉ p ∧ q = p ++ [z] := by
  constructor
  · intro h
    obtain ⟨p, z, rfl⟩ := ne_snoc h.ne
    obtain ⟨h1, h2, h3⟩ := h
    rw [List.length_append, List.length_singleton] at h2
    have pn : p ≠ [] := fun e => by rw [e] at h2; simp at h2
    obtain ⟨h4, h5⟩ := pth_init pn h1
    obtain ⟨p', y, rfl⟩ := ne_snoc pn
    obtain ⟨n1, n2, n3⟩ := List.nodup_append.mp h3
    have zn : z ∉ p' ++ [y] := fun hz => n3 z hz z (List.mem_singleton.mpr rfl) rfl
    have ey : (p' ++ [y]).getLast? = some y := by simp
    exact ⟨p' ++ [y], y, z, ⟨h4, by omega, n1⟩, ey, ⟨fun e => zn (by rw [e]; simp), h5 y ey⟩, zn, rfl⟩
  · rintro ⟨p, y, z, ⟨h1, h2, h3⟩, hy, ⟨_, hr⟩, hz, rfl⟩
    refine ⟨pth_snoc h1 fun y' e => ?_, by rw [List.length_append, List.length_singleton, h2], List.nodup_append.mpr ⟨h3, by simp, fun a ha b hb e => ?_⟩⟩
    · rw [hy] at e
      have : y = y' := Option.some.inj e
      rw [← this]
      exact hr
    · rw [List.mem_singleton.mp hb] at e
      rw [e] at ha
      exact hz ha
end Rm
/-! tuple + tuple and slices of tuples, whichever object comes -/
namespace Th
open PySem PySem.Spec PyProof.Rows L2
def rCatS (K : PySem.W.Frag) : R2 := fun x y H Q => ∃ (a b : Addr) (xs ys : List V), x = .ref a ∧ y = .ref b ∧ H a = some (.tup xs) ∧ H b = some (.tup ys) ∧ xs.length + ys.length ≤ sizeLine ∧ ∀ (c : Addr) (H' : Hp), Same H H' → H' c = some (.tup (xs ++ ys)) → Q (.ref c) H'
theorem op_catS {X : Cx} : OpR X (binaryOp .Add) (rCatS X.K) := by
  intro pins s σ H x y v u Q I rx ry h
  obtain ⟨a, b, xs, ys, rfl, rfl, hx, hy, hz, h⟩ := h
  exact op_catA pins s σ H _ _ v u Q I rx ry ⟨a, b, xs, ys, rfl, rfl, SqT.of hx, SqT.of hy, hz, fun e => h b H (.refl _) (by rw [hy, e]; rfl), fun _ e => h a H (.refl _) (by rw [hx, e, List.append_nil]), fun _ _ p np => h p _ (same_upd np) upd_same⟩
def rSlS (K : PySem.W.Frag) : V → Option Int → Option Int → Hp → VK → Prop := fun x lo hi H Q => ∃ (a : Addr) (xs : List V), x = .ref a ∧ H a = some (.tup xs) ∧ ∀ (c : Addr) (H' : Hp), Same H H' → H' c = some (.tup (cutV xs lo hi)) → Q (.ref c) H'
theorem sl_tupS {X : Cx} : SlR X (rSlS X.K) := by
  intro pins s σ H x v vl vu lo hi sl Q I rx hs pl pu h
  obtain ⟨a, xs, rfl, hx, h⟩ := h
  exact sl_tupA pins s σ H _ v vl vu lo hi sl Q I rx hs pl pu ⟨a, xs, rfl, SqT.of hx, fun e => h a H (.refl _) (by rw [hx]; unfold cutV; rw [e.1, e.2, List.drop_zero, Nat.sub_zero, List.take_length]), fun _ p np => h p _ (same_upd np) upd_same⟩
end Th
namespace Th
open PySem PySem.Spec PyProof.Rows L2
/-! names, pairs, what stays -/
abbrev nS (l : List Nat) : V := .str (SX.S l)
def Lower (l : List Nat) : Prop := ∀ c ∈ l, 97 ≤ c ∧ c ≤ 122
/-- a name: one to eight letters -/
def IsNm (l : List Nat) : Prop := 1 ≤ l.length ∧ l.length ≤ 8 ∧ Lower l
abbrev abc : Str := Str.ofString "abcdefghijklmnopqrstuvwxyz"
theorem abc_list : abc.cps.toList = (List.range 26).map (97 + ·) := by decide +kernel
theorem abc_at {d : Int} (h0 : 0 ≤ d) (h1 : d < 26) : atI abc.cps.toList d = some (97 + d.toNat) := by
  obtain ⟨j, rfl⟩ : ∃ j : Nat, d = (j : Int) := ⟨d.toNat, by omega⟩
  refine atI_nat ?_
  rw [abc_list, List.getElem?_map, List.getElem?_range (by omega)]
  rfl
theorem joinL_one : ∀ cs : List Nat, TL.joinL [] (cs.map fun c => [c]) = cs
  | [] => rfl
  | [_] => rfl
  | c :: d :: cs => by
    show [c] ++ ([] ++ TL.joinL [] ((d :: cs).map fun c => [c])) = _
    rw [joinL_one (d :: cs)]
    rfl
theorem join_signs (cs : List Nat) : Txt.join (SX.S []) ((cs.map fun c => [c]).map SX.S) = SX.S cs := by rw [SX.join_S, joinL_one]
theorem p26 : (0 : Int) < 26 := by decide
theorem paired_snoc {α β : Type} {R : α → β → Prop} : ∀ {as : List α} {bs : List β} {a : α} {b : β}, Paired R as bs → R a b → Paired R (as ++ [a]) (bs ++ [b])
  | _, _, _, _, .nil, r => .cons r .nil
  | _, _, _, _, .cons q t, r => .cons q (paired_snoc t r)
theorem paired_imp {α β : Type} {R S : α → β → Prop} : ∀ {as : List α} {bs : List β}, Paired R as bs → (∀ a ∈ as, ∀ b, R a b → S a b) → Paired S as bs
  | _, _, .nil, _ => .nil
  | _, _, .cons q t, f => .cons (f _ (List.mem_cons_self ..) _ q) (paired_imp t fun a ha b r => f a (List.mem_cons_of_mem _ ha) b r)
theorem paired_get {α β : Type} {R : α → β → Prop} : ∀ {as : List α} {bs : List β} {i : Nat} {a : α}, Paired R as bs → as[i]? = some a → ∃ b, bs[i]? = some b ∧ R a b
  | _, _, _, _, .nil, h => by simp at h
  | _, _, 0, _, .cons q t, h => by
    have e := Option.some.inj h
    subst e
    exact ⟨_, rfl, q⟩
  | _, _, i + 1, _, .cons q t, h => paired_get (i := i) t h
theorem paired_len {α β : Type} {R : α → β → Prop} : ∀ {as : List α} {bs : List β}, Paired R as bs → as.length = bs.length
  | _, _, .nil => rfl
  | _, _, .cons _ t => congrArg Nat.succ (paired_len t)
theorem one_sz {x : V} : [x].length ≤ sizeLine := by show 1 ≤ sizeLine; decide
theorem paired_append {α β : Type} {R : α → β → Prop} : ∀ {as cs : List α} {bs ds : List β}, Paired R as bs → Paired R cs ds → Paired R (as ++ cs) (bs ++ ds)
  | _, _, _, _, .nil, h => h
  | _, _, _, _, .cons q t, h => .cons q (paired_append t h)
theorem paired_take {α β : Type} {R : α → β → Prop} : ∀ {as : List α} {bs : List β} (n : Nat), Paired R as bs → Paired R (as.take n) (bs.take n)
  | _, _, 0, _ => by rw [List.take_zero, List.take_zero]; exact .nil
  | _, _, n + 1, .nil => .nil
  | _, _, n + 1, .cons q t => .cons q (paired_take n t)
theorem cut_to (xs : List V) (j : Nat) : cutV xs none (some (j : Int)) = xs.take j := by
  unfold cutV
  rw [HT.sIx_none, HT.sIx_nat, List.drop_zero, Nat.sub_zero]
  by_cases h : j ≤ xs.length
  · rw [Nat.min_eq_left h]
  · rw [Nat.min_eq_right (by omega), List.take_of_length_le (Nat.le_refl _), List.take_of_length_le (by omega)]
abbrev Nm := List Nat
def TK (H H' : Hp) : Prop := ∀ a xs, H a = some (.tup xs) → H' a = some (.tup xs)
theorem TK.of {H H' : Hp} (s : Same H H') : TK H H' := fun a xs e => s a _ e
theorem TK.trans {H H' H2 : Hp} (a : TK H H') (b : TK H' H2) : TK H H2 := fun c xs e => b c xs (a c xs e)
theorem TK.keep {p : Addr} {H H' : Hp} (k : Keep p H H') (b : Bag H p) : TK H H' := fun a xs e => k a _ (fun z => by
  obtain ⟨g, r, e', _⟩ := b
  rw [z, e'] at e
  cases e) e
theorem TK.upd {c : Addr} {H : Hp} {o : HO} (h : ∀ xs, H c ≠ some (.tup xs)) : TK H (upd H c o) := fun a xs e => by
  rw [upd_ne (fun z => h xs (by rw [← z]; exact e))]
  exact e
theorem Keep.set {p S : Addr} {H H' : Hp} {o : HO} (k : Keep p H H') (n : H S = none) : Keep p H (L2.upd H' S o) := fun c o nc ec => by
  rw [upd_ne (ne_of_none ec n)]
  exact k c o nc ec
theorem same_set {S : Addr} {H H' : Hp} {o : HO} (k : Same H H') (n : H S = none) : Same H (upd H' S o) := fun c o ec => by
  rw [upd_ne (ne_of_none ec n)]
  exact k c o ec
theorem two_sz {x y : V} : [x, y].length ≤ sizeLine := by show 2 ≤ sizeLine; decide
theorem four_sz {x y z u : V} : [x, y, z, u].length ≤ sizeLine := by show 4 ≤ sizeLine; decide
theorem paired_drop {α β : Type} {R : α → β → Prop} : ∀ {as : List α} {bs : List β} (n : Nat), Paired R as bs → Paired R (as.drop n) (bs.drop n)
  | _, _, 0, h => h
  | _, _, n + 1, .nil => .nil
  | _, _, n + 1, .cons q t => paired_drop n t
theorem paired_ins {α β : Type} {R : α → β → Prop} {as : List α} {bs : List β} (n : Nat) {a : α} {b : β} (h : Paired R as bs) (r : R a b) : Paired R (as.take n ++ [a] ++ as.drop n) (bs.take n ++ [b] ++ bs.drop n) :=
  paired_append (paired_append (paired_take n h) (.cons r .nil)) (paired_drop n h)
theorem perm_ins {α : Type} (xs : List α) (n : Nat) (x : α) : (xs.take n ++ [x] ++ xs.drop n).Perm (xs ++ [x]) := by
  have h1 : (xs.take n ++ [x] ++ xs.drop n).Perm (x :: (xs.take n ++ xs.drop n)) := by
    rw [List.append_assoc]
    exact List.perm_middle
  rw [List.take_append_drop] at h1
  exact h1.trans (List.perm_append_comm (l₁ := [x]) (l₂ := xs))
theorem ins_map {xs : List Addr} {n : Nat} {x : Addr} : (xs.map V.ref).take n ++ [V.ref x] ++ (xs.map V.ref).drop n = (xs.take n ++ [x] ++ xs.drop n).map V.ref := by
  simp only [List.map_append, List.map_take, List.map_drop, List.map_cons, List.map_nil]
theorem nodup_inj {α : Type} {zs : List α} (h : zs.Nodup) {x y : Nat} {z : α} (h1 : zs[x]? = some z) (h2 : zs[y]? = some z) : x = y := by
  rw [List.nodup_iff_pairwise_ne, List.pairwise_iff_getElem] at h
  obtain ⟨l1, g1⟩ := List.getElem?_eq_some_iff.mp h1
  obtain ⟨l2, g2⟩ := List.getElem?_eq_some_iff.mp h2
  rcases Nat.lt_trichotomy x y with c | c | c
  · exact absurd (g1.trans g2.symm) (h x y l1 l2 c)
  · exact c
  · exact absurd (g2.trans g1.symm) (h y x l2 l1 c)
theorem nm_ok {z : Nm} (h : IsNm z) : PyData.strOk (SX.S z) = true := by
  unfold PyData.strOk
  rw [Array.all_eq_true']
  intro c hc
  have hc : c ∈ z := by simpa [SX.S] using hc
  have := h.2.2 c hc
  exact decide_eq_true (by omega)
end Th
/-! tuples told with their objects; dict of such; sorted of data -/
namespace Th
open PySem PySem.Spec PyProof.Rows L2
/-- the tuple xs at a, its object known to be plain -/
def TpF (H : Hp) (a : Addr) (xs : List V) : Prop := ∃ o : Obj, H a = some (.frz o (.tup xs)) ∧ o.dict = none
theorem TpF.sq {K : PySem.W.Frag} {H : Hp} {a : Addr} {xs : List V} (h : TpF H a xs) : SqT K H a xs := let ⟨o, e, _⟩ := h; .inl (.inr ⟨o, e⟩)
theorem TpF.same {H H' : Hp} {a : Addr} {xs : List V} (h : TpF H a xs) (s : Same H H') : TpF H' a xs := let ⟨o, e, d⟩ := h; ⟨o, s _ _ e, d⟩
theorem TpF.keep {p : Addr} {H H' : Hp} {a : Addr} {xs : List V} (h : TpF H a xs) (k : Keep p H H') (b : Bag H p) : TpF H' a xs := by
  obtain ⟨o, e, d⟩ := h
  refine ⟨o, k _ _ (fun z => ?_) e, d⟩
  obtain ⟨g, r, e', _⟩ := b
  rw [z, e'] at e
  cases e
def rTupF (K : PySem.W.Frag) : List V → Hp → VK → Prop := fun xs H Q => ∃ (p : Addr) (ys : List V), xs = [.ref p] ∧ SqL K H p ys ∧ ∀ (l : Addr) (H' : Hp), H l = none → Same H H' → TpF H' l ys → (∀ q, q ≠ l → H' q = H q) → Q (.ref l) H'
theorem call_tuple_ofF {X : Cx} : CallR X (.type "tuple") (rTupF X.K) := by
  intro pins s σ H xs us Q I r h
  obtain ⟨p, ys, rfl, hq, q⟩ := h
  obtain ⟨u, rfl, rx⟩ := vals1 r
  cases rx
  obtain ⟨its, r', pl, hz⟩ := I.list hq
  have hlen := r'.length
  refine call_tuple_list pl.isList (fun h' kp => ?_) (by simp only [List.size_toArray] <;> omega)
  have I1 : Inv X pins σ H { s with heap := h' } := I.kept (t' := s.toks) kp
  have I2 : Inv X pins σ (upd H h'.objs.size (.frz { cls := .type "tuple", data := .seq its.toArray } (.tup ys))) { s with heap := h'.push { cls := .type "tuple", data := .seq its.toArray } } :=
    I1.laid (t' := s.toks) (fun b o e => Heap.get?_push_of_some _ e) (Nat.le_refl _) (show ObjOk X.prog X.w _ _ _ (.frz _ (.tup ys)) from ⟨Heap.get?_push_size _ rfl, hz, its, r', IsTup.new _ _⟩)
  have nl := I1.hok.fresh (Nat.le_refl h'.objs.size)
  exact ⟨.ref h'.objs.size, _, I2, rfl, q _ _ nl (same_upd nl) ⟨_, upd_same, rfl⟩ fun q hq => upd_ne hq⟩
theorem choose_list {α β : Type} : ∀ {xs : List α} {R : Nat → α → β → Prop}, (∀ j x, xs[j]? = some x → ∃ y, R j x y) → ∃ ys : List β, ys.length = xs.length ∧ ∀ j y, ys[j]? = some y → ∃ x, xs[j]? = some x ∧ R j x y
  | [], _, _ => ⟨[], rfl, fun j y e => by simp at e⟩
  | x :: xs, R, h => by
    obtain ⟨y, hy⟩ := h 0 x rfl
    obtain ⟨ys, h1, h2⟩ := choose_list (xs := xs) (R := fun j => R (j + 1)) fun j x e => h (j + 1) x e
    refine ⟨y :: ys, by rw [List.length_cons, h1, List.length_cons], fun j z e => ?_⟩
    match j, e with
    | 0, e =>
      have : y = z := Option.some.inj e
      subst this
      exact ⟨x, rfl, hy⟩
    | j + 1, e => exact h2 j z e
def rDictF (K : PySem.W.Frag) : List V → Hp → VK → Prop := fun xs H Q => ∃ (a : Addr) (ps : List Addr) (kvs : List (Key × V)), xs = [.ref a] ∧ TpF H a (ps.map V.ref) ∧ Paired (fun p kv => SqT K H p [kV kv.1, kv.2]) ps kvs ∧
    ∀ p, H p = none → Q (.ref p) (upd H p (.dK (mergeK [] kvs)))
theorem call_dictF {X : Cx} (hcalm : X.calm = true) : CallR X (.type "dict") (rDictF X.K) := by
  intro pins s σ H xs us Q I r h
  obtain ⟨a, ps, kvs, rfl, ⟨ob, hob, hnd⟩, hp, q⟩ := h
  obtain ⟨u, rfl, rx⟩ := vals1 r
  cases rx
  obtain ⟨hg, hz, its, rv, o', ho', hc, n, hdat⟩ := (show ObjOk X.prog X.w H s.heap a (.frz ob (.tup (ps.map V.ref))) from I.hok a _ hob)
  rw [hg] at ho'
  cases ho'
  have ei := refs_at rv
  subst ei
  rw [List.length_map] at hz
  obtain ⟨prs, rel, hl, hpr⟩ := pairs_of I hp
  obtain ⟨vv, hvl, hvv⟩ := choose_list (R := fun j (q : Key × Value) (k : Value) => ∃ b, ps[j]? = some b ∧ IsTup s.heap b #[k, q.2] ∧ keyIs q.1 k = true) (xs := prs) fun j q e => let ⟨b, u, h⟩ := hpr j q e; ⟨u, b, h⟩
  have len : (vv.zip (prs.map (·.2))).length = ps.length := by rw [List.length_zip, List.length_map, hvl, hl]; omega
  have each : ∀ j k v, (vv.zip (prs.map (·.2)))[j]? = some (k, v) → ∃ (b : Addr) (q : Key × Value), ps[j]? = some b ∧ prs[j]? = some q ∧ v = q.2 ∧ IsTup s.heap b #[k, v] ∧ keyIs q.1 k = true := fun j k v e => by
    rw [List.getElem?_zip_eq_some, List.getElem?_map] at e
    obtain ⟨q, hq, b, h1, h2, h3⟩ := hvv j k e.1
    rw [hq] at e
    have : q.2 = v := Option.some.inj e.2
    subst this
    exact ⟨b, q, h1, hq, rfl, h2, h3⟩
  have P := PairArg.tuple (prog := X.prog) (w := X.w) a (ps.map Value.ref).toArray (fun j => ps.getD j 0) (vv.zip (prs.map (·.2)))
  refine PySem.call_dict_pairs (knd := mixKind X.prog X.w) (kvs := prs) P (I.ok.hd hcalm) ⟨⟨ob, n, hg, hc, hnd, hdat⟩, ?_, fun j k v e => ?_⟩ ⟨by rw [len, hl], fun j k v e => ?_⟩ ?_ fun h' tk hd' k => ?_
  · rw [List.size_toArray, List.length_map, len]
  · obtain ⟨b, q, h1, h2, h3, h4, h5⟩ := each j k v e
    refine ⟨?_, .inl ?_⟩
    · show (ps.map Value.ref).toArray[j]? = some (Value.ref (ps.getD j 0))
      rw [List.getD_eq_getElem?_getD, h1]
      simp [h1]
    · show s.heap.IsTuple (ps.getD j 0) #[k, v]
      rw [List.getD_eq_getElem?_getD, h1]
      exact h4
  · obtain ⟨b, q, h1, h2, h3, h4, h5⟩ := each j k v e
    exact ⟨q.1, by rw [h2, h3], h5⟩
  · rw [len]
    exact hz
  · have hm : (s.heap.objs.size == sysModules) = false := beq_eq_false_iff_ne.mpr (Nat.ne_of_gt I.big)
    have hlen : (mergeK [] kvs).length ≤ sizeLine := by
      refine Nat.le_trans (length_mergeK kvs []) ?_
      rw [List.length_nil, Nat.zero_add, rel.length, hl]
      exact hz
    exact ⟨.ref s.heap.objs.size, upd H s.heap.objs.size (.dK (mergeK [] kvs)), I.laid (t' := tk) (fun b o e => k b o (by simp) e) (Nat.le_refl _) (show ObjOk X.prog X.w _ _ _ (.dK (mergeK [] kvs)) from ⟨hlen, hm, merged [] prs, KV.merge rel .nil, hd'⟩), rfl, q _ (I.hok.fresh (Nat.le_refl _))⟩
/-- what such a dict tells, the keys unlike -/
theorem val_mergeK : ∀ (kvs acc : List (Key × V)) (k : Key), valV (mergeK acc kvs) k = match kvs.reverse.find? (fun p => decide (p.1 = k)) with | some p => some p.2 | none => valV acc k
  | [], acc, k => rfl
  | p :: kvs, acc, k => by
    show valV (mergeK (putK acc p.1 p.2) kvs) k = _
    rw [val_mergeK kvs, valV_put, List.reverse_cons, List.find?_append]
    cases h : kvs.reverse.find? (fun p => decide (p.1 = k)) with
    | some q => rfl
    | none =>
      show (if k = p.1 then some p.2 else valV acc k) = _
      by_cases c : k = p.1
      · rw [if_pos c]
        simp [c]
      · rw [if_neg c]
        have : ¬ p.1 = k := fun e => c e.symm
        simp [this]
theorem val_merge_nd {kvs : List (Key × V)} (nd : (kvs.map (·.1)).Nodup) {k : Key} {v : V} (h : (k, v) ∈ kvs) : valV (mergeK [] kvs) k = some v := by
  rw [val_mergeK]
  have : kvs.reverse.find? (fun p => decide (p.1 = k)) = some (k, v) := by
    cases f : kvs.reverse.find? (fun p => decide (p.1 = k)) with
    | none =>
      have := List.find?_eq_none.mp f (k, v) (List.mem_reverse.mpr h)
      simp at this
    | some q =>
      have hq : q.1 = k := by
        have := List.find?_some f
        exact of_decide_eq_true this
      have hm : q ∈ kvs := List.mem_reverse.mp (List.mem_of_find?_eq_some f)
      obtain ⟨i, hi⟩ := List.getElem?_of_mem h
      obtain ⟨j, hj⟩ := List.getElem?_of_mem hm
      have e1 : (kvs.map (·.1))[i]? = some k := by rw [List.getElem?_map, hi]; rfl
      have e2 : (kvs.map (·.1))[j]? = some k := by rw [List.getElem?_map, hj, ← hq]; rfl
      have l1 := (List.getElem?_eq_some_iff.mp e1).1
      have ij : i = j := (List.getElem?_inj l1 nd).mp (e1.trans e2.symm)
      subst ij
      rw [hi] at hj
      exact hj.symm
  rw [this]
/-- sorted of data -/
def rSortD {β : Type} (enc : β → PyData) (K : PySem.W.Frag) : List V → Hp → VK → Prop := fun vs H Q => ∃ (a : Addr) (xs : List V) (bs : List β) (R : V → β → Prop), vs = [.ref a] ∧ SqL K H a xs ∧ Paired R xs bs ∧ (∀ v b, b ∈ bs → R v b → Dp K H v (enc b)) ∧ PySem.W.AllAlike (bs.map enc) ∧ PySem.W.Sortable (bs.map enc) ∧ (∀ b ∈ bs, (enc b).depth ≤ 60) ∧
  ∀ (p : Addr) (ys : List V), H p = none → Paired R ys (bs.mergeSort (PySem.W.dataLe false enc)) → Q (.ref p) (upd H p (.lst ys))
theorem each_of {β : Type} {R : V → β → Prop} {S : Value → β → Prop} : ∀ {xs : List V} {us : List Value} {bs : List β}, Vals xs us → Paired R xs bs → (∀ v u b, b ∈ bs → RelV v u → R v b → S u b) → PySem.W.EachIs S us bs
  | _, _, _, .nil, .nil, _ => .nil
  | _, _, _, .cons r rs, .cons h hs, k => .cons (k _ _ _ List.mem_cons_self r h) (each_of rs hs fun v u b hb => k v u b (List.mem_cons_of_mem _ hb))
theorem of_each {β : Type} {R : V → β → Prop} : ∀ {us : List Value} {bs : List β}, PySem.W.EachIs (fun u b => ∃ v, RelV v u ∧ R v b) us bs → ∃ xs, Vals xs us ∧ Paired R xs bs
  | _, _, .nil => ⟨[], .nil, .nil⟩
  | _, _, .cons ⟨v, r, h⟩ hs => let ⟨xs, h1, h2⟩ := of_each hs; ⟨v :: xs, .cons r h1, .cons h h2⟩
theorem cr_sortD {X : Cx} {β : Type} (enc : β → PyData) (hu : X.A.units + 64 < cLine) : CallR X (.builtin "sorted") (rSortD enc X.K) := by
  intro pins s σ H vs us Q I r h
  obtain ⟨a, xs, bs, R, rfl, hs, hR, hd, hal, hk, hdep, q⟩ := h
  obtain ⟨its, rv, hl, hz⟩ := I.list hs
  rw [Vals.ref1 r]
  have lb : its.length = bs.length := by rw [← rv.length, hR.length]
  refine PySem.W.sorted_data (enc := enc) (bs := bs) (R := fun u b => ∃ v, RelV v u ∧ R v b) hl.isList (each_of rv hR fun v u b _ r h => ⟨v, r, h⟩) (each_of rv hR fun v u b hb r h => Dp.reads I (enc b) v u (hd v b hb h) r) hal hk (by rw [← lb, ← rv.length]; exact hz) (fun b hb => by have := hdep b hb; omega) fun out hlen hout => ?_
  obtain ⟨ys, h1, h2⟩ := of_each hout
  obtain ⟨ep, he⟩ := sortedAll_at s.heap its out.toArray
  have hly : ys.length ≤ sizeLine := by
    rw [h1.length, hlen, ← lb, ← rv.length]
    exact hz
  exact ⟨.ref _, upd H (s.heap.objs.size + 1) (.lst ys), I.laid (t' := s.toks) (fun _ _ => sortedAll_old) (Nat.le_succ _) (show ObjOk X.prog X.w _ _ _ (.lst ys) from ⟨hly, out, ep, h1, he⟩), rfl, q _ ys (I.hok.fresh (Nat.le_succ _)) h2⟩
end Th
/-! slices of tuples whose object is known; t.index(x) of such; t[::-1] of a tuple -/
namespace Tw
open PySem PySem.Spec PyProof.Rows L2 HT Th
section
variable {X : Cx}
def tyTp (x : V) (H : Hp) : Prop := ∃ a xs, x = .ref a ∧ TpF H a xs
theorem ty_tp : TyOk X "tuple" tyTp := by
  intro pins σ H s x v I r ty
  obtain ⟨a, xs, rfl, ob, hob, hnd⟩ := ty
  cases r
  obtain ⟨hg, hz, its, rv, o', ho', hc, n, hdat⟩ := (show ObjOk X.prog X.w H s.heap a (.frz ob (.tup xs)) from I.hok a _ hob)
  refine ⟨⟨o', ho', hc⟩, fun b e => ?_⟩
  cases e
  exact ⟨ob, hg, hnd⟩
def rIdxT (K : PySem.W.Frag) : V → List V → Hp → VK → Prop := fun x xs H Q => ∃ p, ∃ ys : List Str, ∃ z j, x = .ref p ∧ xs = [.str z] ∧ SqT K H p (ys.map V.str) ∧ ys[j]? = some z ∧ (∀ m, m < j → ys[m]? ≠ some z) ∧ Q (.int (j : Nat)) H
theorem mt_tidx : MtR X "tuple.index" (rIdxT X.K) := mt_tup_index
def rSlF (K : PySem.W.Frag) : V → Option Int → Option Int → Hp → VK → Prop := fun x lo hi H Q => ∃ a xs, x = .ref a ∧ SqT K H a xs ∧ ¬ (HT.sIx xs.length 0 lo = 0 ∧ HT.sIx xs.length xs.length hi = xs.length) ∧
  ∀ (p : Addr) (H' : Hp), H p = none → Same H H' → TpF H' p (cutV xs lo hi) → (∀ q, q ≠ p → H' q = H q) → Q (.ref p) H'
theorem sl_tupF : SlR X (rSlF X.K) := by
  intro pins s σ H x v vl vu lo hi sl Q I rx hs pl pu h
  obtain ⟨a, xs, rfl, hx, hw, q⟩ := h
  cases rx
  obtain ⟨its, r, ht, hz⟩ := I.tuple hx
  have hlen : its.toArray.size = xs.length := by rw [List.size_toArray]; exact r.length.symm
  refine ⟨"tuple", _, PyProof.Rows.slot_tuple_getitem.lookup, ht.typeIs, ?_⟩
  refine HT.getItem_tuple_cut ht hs pl pu (by rw [hlen]; exact hw) ?_ (by rw [hlen]; exact hz)
  rw [hlen]
  have nl := I.hok.fresh (Nat.le_refl s.heap.objs.size)
  refine ⟨.ref s.heap.objs.size, upd H s.heap.objs.size (.frz { cls := .type "tuple", data := .seq ((its.toArray.toList.drop (HT.sIx xs.length 0 lo)).take (HT.sIx xs.length xs.length hi - HT.sIx xs.length 0 lo)).toArray } (.tup (cutV xs lo hi))), I.laid (t' := s.toks) (fun b ob q => Heap.get?_push_of_some _ q) (Nat.le_refl _) ?_, rfl, q _ _ nl (same_upd nl) ⟨_, upd_same, rfl⟩ fun q hq => upd_ne hq⟩
  exact ⟨Heap.get?_push_size _ rfl, Nat.le_trans (cutV_length xs lo hi) hz, _, (r.drop (HT.sIx xs.length 0 lo)).take (HT.sIx xs.length xs.length hi - HT.sIx xs.length 0 lo), IsTup.new _ _⟩
end
section
variable {prog : Program} {w : World} {A : Around} {E : Value → Shared → Prop} {s : Shared}
theorem places (n : Nat) : Builtin.Slice.slicePlaces ((n : Int) - 1) (-1) (-1) = n := by
  unfold Builtin.Slice.slicePlaces
  rw [if_neg (by decide)]
  by_cases h : (n : Int) - 1 > -1
  · rw [if_pos h]
    have e : ((n : Int) - 1 - -1 - 1) / (- -1) + 1 = (n : Int) := by
      rw [show (- -1 : Int) = 1 by decide, Int.ediv_one]
      omega
    rw [e]
    rfl
  · rw [if_neg h]
    have : n = 0 := by omega
    subst this
    rfl
theorem applied {sl : Addr} {n : Nat} {vl vu vs : Value} {Q : Int × Int × Nat → Shared → Prop} (hs : s.heap.IsSliceOf sl vl vu vs) (pl : IsPart vl none) (pu : IsPart vu none) (ps : IsPart vs (some (-1)))
    (h : Q ((n : Int) - 1, -1, n) s) : wpAny (model prog w) A (Builtin.Slice.sliceApplied (.ref sl) (pure (n : Int))) Q E s := by
  obtain ⟨os, hos, hcs, hds⟩ := id hs
  unfold Builtin.Slice.sliceApplied Builtin.Slice.sliceFields
  refine wpAny_bind (wpAny_bind (wpAny_field hos hds (x := vl) rfl (wpAny_bind (wpAny_field hos hds (x := vu) rfl (wpAny_bind (wpAny_field hos hds (x := vs) rfl (wpAny_pure ?_)))))))
  refine wpAny_bind (slicePart_ ps ?_)
  show wpAny _ _ (if ((-1 : Int) == 0) = true then _ else _) _ _ s
  rw [if_neg (by decide)]
  refine wpAny_bind (slicePart_ pl (wpAny_bind (slicePart_ pu (wpAny_bind (wpAny_pure ?_)))))
  have e : Builtin.Slice.sliceAdjust none none (-1) (n : Int) = ((n : Int) - 1, -1) := by
    unfold Builtin.Slice.sliceAdjust
    simp
  show wpAny _ _ (match Builtin.Slice.sliceAdjust none none (-1) (n : Int) with | (lo, hi) => pure (lo, (-1 : Int), Builtin.Slice.slicePlaces lo hi (-1))) Q E s
  rw [e]
  refine wpAny_pure ?_
  show Q (_, _, Builtin.Slice.slicePlaces ((n : Int) - 1) (-1) (-1)) s
  rw [places]
  exact h
theorem fm_congr {α β : Type} {f g : α → Option β} : ∀ {l : List α}, (∀ x ∈ l, f x = g x) → l.filterMap f = l.filterMap g
  | [], _ => rfl
  | x :: l, h => by
    rw [List.filterMap_cons, List.filterMap_cons, h x List.mem_cons_self, fm_congr fun y hy => h y (List.mem_cons_of_mem _ hy)]
theorem back (xs : Array Value) : ((List.range xs.size).filterMap fun (k : Nat) => xs[(((xs.size : Int) - 1) + (k : Int) * (-1)).toNat]?) = xs.toList.reverse := by
  have e : ((List.range xs.size).filterMap fun (k : Nat) => xs[(((xs.size : Int) - 1) + (k : Int) * (-1)).toNat]?) = ((List.range xs.size).map fun k => xs.size - 1 - k).filterMap (xs[·]?) := by
    rw [List.filterMap_map]
    refine fm_congr fun k hk => ?_
    have := List.mem_range.mp hk
    show _ = xs[xs.size - 1 - k]?
    congr 1
    omega
  rw [e, PySem.W.krv_range, List.filterMap_reverse, PySem.W.krv_all]
theorem item_rev {t sl : Addr} {items : Array Value} {vl vu vs : Value} {Q : Value → Shared → Prop} (ht : IsTup s.heap t items) (hs : s.heap.IsSliceOf sl vl vu vs) (pl : IsPart vl none) (pu : IsPart vu none) (ps : IsPart vs (some (-1))) (hz : items.size ≤ sizeLine)
    (h : Q (.ref s.heap.objs.size) { s with heap := s.heap.push { cls := .type "tuple", data := .seq items.toList.reverse.toArray } }) : wpAny (model prog w) A (getItem (.ref t) (.ref sl)) Q E s := by
  have htake : sizeOk (.seq items.toList.reverse.toArray) := by
    show items.toList.reverse.toArray.size ≤ sizeLine
    simpa using hz
  obtain ⟨os, hos, hcs, hds⟩ := id hs
  have hTs : s.TypeIs (.ref sl) "slice" := ⟨os, hos, hcs⟩
  unfold getItem
  try with_reducible refine wpAny_holding ?_
  first | refine wpAny_bind (wpAny_pure ?_) | skip
  refine wpAny_bind (wpAny_sequenceKey ht.typeIs (by decide) ?_)
  refine wpAny_bind (wpAny_callSpecial?_slot (name := Str.ofString "__getitem__") ht.typeIs PyProof.Rows.slot_tuple_getitem
    (wpAny_call_entry PyProof.Rows.slot_tuple_getitem ht.typeIs entry_tuple_getitem ?_ (args_tuple_getitem _ _)))
  show wpAny _ _ (Builtin.Tuple.tupleItemsOf (.ref t) >>= _) _ _ s
  refine wpAny_bind (tupleItemsOf_ ht ?_)
  refine wpAny_bind (wpAny_typeOf hTs ?_)
  rw [if_pos (by decide)]
  refine wpAny_bind (applied hs pl pu ps ?_)
  show wpAny _ _ (if (((items.size : Int) - 1) == 0 && (-1 : Int) == 1 && items.size == items.size) = true then _ else _) _ _ s
  rw [if_neg (by simp)]
  show wpAny _ _ (Builtin.Tuple.tupleExact ((List.range items.size).filterMap fun (k : Nat) => items[(((items.size : Int) - 1) + (k : Int) * (-1)).toNat]?).toArray >>= _) _ _ s
  rw [back]
  first
    | exact wpAny_bind (m := Builtin.Tuple.tupleExact _) (wpAny_newObj_type (wpAny_pure ⟨_, rfl, wpAny_pure h⟩) htake)
    | exact wpAny_bind (m := Builtin.Tuple.tupleExact _) (wpAny_newObj_type (wpAny_bind (wpAny_pure (wpAny_pure ⟨_, rfl, wpAny_pure h⟩))) htake)
    | exact wpAny_bind (wpAny_bind (m := Builtin.Tuple.tupleExact _) (wpAny_newObj_type (wpAny_pure (wpAny_pure ⟨_, rfl, wpAny_pure h⟩)) htake))
    | exact wpAny_bind (wpAny_bind (m := Builtin.Tuple.tupleExact _) (wpAny_newObj_type (wpAny_pure ⟨_, rfl, wpAny_pure h⟩) htake))
end
section
variable {X : Cx}
def tRevT (K : PySem.W.Frag) (te : TE) : TE := fun σ H Q => te σ H fun x H1 => ∃ a xs, x = .ref a ∧ SqT K H1 a xs ∧ ∀ p, H1 p = none → Q (.ref p) (upd H1 p (.tup xs.reverse))
theorem pe_revT {K : PySem.W.Frag} {e : Expr} {te : TE} {k : Nat} {p1 p2 p3 pos : Pos} (he : PE X e te) (hK : X.K = K := by rfl) : PE X (.Subscript e (.Slice none none (some (.UnaryOp .USub (.Constant (.int 1) k p1) p2)) p3) pos) (tRevT K te) := by
  subst hK
  refine ⟨fun pins s σ H Q I h => ?_⟩
  refine Subscript_ (thn (he.run pins s σ H _ I h) fun v s1 ⟨x, H1, I1, r1, q1⟩ => ?_)
  obtain ⟨a, xs, ex, hx, q⟩ := q1
  subst ex
  cases r1
  have hst : PO X (some (.UnaryOp .USub (.Constant (.int 1) k p1) p2)) (tPart (tUn (rU fun i => .int (-i)) (tC (.int 1)))) := po_some (pe_un un_neg pe_int)
  refine wpAny_Slice (thn (po_none.run pins s1 σ H1 (fun o H2 => o = none ∧ H2 = H1) I1 ⟨rfl, rfl⟩) fun vl s2 ⟨l, H2, I2, pl, el, e2⟩ => ?_)
  subst el e2
  refine thn (po_none.run pins s2 σ H2 (fun o H3 => o = none ∧ H3 = H2) I2 ⟨rfl, rfl⟩) fun vu s3 ⟨u, H3, I3, pu, eu, e3⟩ => ?_
  subst eu e3
  refine thn (hst.run pins s3 σ H3 (fun o H4 => o = some (-1) ∧ H4 = H3) I3 ⟨1, rfl, -1, rfl, rfl, rfl⟩) fun vs s4 ⟨o, H4, I4, ps, eo, e4⟩ => ?_
  subst eo e4
  have I5 : Inv X pins σ H4 { s4 with heap := s4.heap.push { cls := .type "slice", data := .fields #[vl, vu, vs] } } := I4.kept (t' := s4.toks) fun b ob q => Heap.get?_push_of_some _ q
  obtain ⟨its, r, ht, hz⟩ := I5.tuple hx
  have hlen := r.length
  show wpAny (model X.prog X.w) X.A (subscriptTail e (.Slice none none (some (.UnaryOp .USub (.Constant (.int 1) k p1) p2)) p3) (.ref a) (.ref s4.heap.objs.size)) (EP X pins σ Q) X.xe { s4 with heap := s4.heap.push { cls := .type "slice", data := .fields #[vl, vu, vs] } }
  refine tail_any (ops := [.ref a, .ref s4.heap.objs.size]) ht.typeIs (PyProof.Rows.slot_tuple_getitem.lookup) ?_ (by with_unfolding_all rfl)
  refine item_rev ht (Heap.IsSliceOf.new _ vl vu vs) pl pu ps (by rw [List.size_toArray]; omega) ?_
  refine ⟨.ref _, _, I5.laid (t' := s4.toks) (o := .tup xs.reverse) (fun b ob q => Heap.get?_push_of_some _ q) (Nat.le_refl _) ?_, rfl, q _ (I5.hok.fresh (Nat.le_refl _))⟩
  exact ⟨by rw [List.length_reverse]; exact hz, _, r.reverse, IsTup.new _ _⟩
end
end Tw
/-! zip of a tuple and two lists -/
namespace Z3
open PySem PySem.Spec PyProof.Rows L2
def Itz3 (K : PySem.W.Frag) (a b c : Addr) : It :=
  ⟨fun i H => ∃ (xs ys zs : List V) (x y z : V), SqT K H a xs ∧ SqL K H b ys ∧ SqL K H c zs ∧ xs[i]? = some x ∧ ys[i]? = some y ∧ zs[i]? = some z,
    fun i H v H' => ∃ T x y z, v = .ref T ∧ H T = none ∧ H' = upd H T (.tup [x, y, z]) ∧ (∀ xs, SqT K H a xs → xs[i]? = some x) ∧ (∀ ys, SqL K H b ys → ys[i]? = some y) ∧ ∀ zs, SqL K H c zs → zs[i]? = some z,
    fun i H => ∃ xs ys zs : List V, SqT K H a xs ∧ SqL K H b ys ∧ SqL K H c zs ∧ i ≤ xs.length ∧ i ≤ ys.length ∧ i ≤ zs.length ∧ (i = xs.length ∨ i = ys.length ∨ i = zs.length)⟩
theorem turn_zip3 {P : Program} {w : World} {K : PySem.W.Frag} {elts : List Expr} {kk : Nat} {tpos : Pos} {a b c z TI TO i1 i2 i3 : Addr} (D : ZipSep3 z TI TO i1 i2 i3 [i1, a] [i2, b] [i3, c]) (n1 : a ≠ i1) (n2 : b ≠ i2) (n3 : c ≠ i3) :
    Turn P w K (.Tuple elts kk tpos) (Itz3 K a b c) [z, TI, TO, i1, i2, i3] z (fun i h => IsZip h z TI TO .none ∧ IsTupOf3 h TI (.ref i1) (.ref i2) (.ref i3) ∧ (∃ x y u, IsTupOf3 h TO x y u) ∧ h.IsTupleIter i1 a i ∧ h.IsListIter i2 b i ∧ h.IsListIter i3 c i) where
  mem := by simp
  obj := fun i h st d hd => by
    obtain ⟨hz, hTI, ⟨x, y, u, hTO⟩, ⟨o1, e1, _, d1⟩, ⟨o2, e2, _, d2⟩, ⟨o3, e3, _, d3⟩⟩ := st
    have e' : d = z ∨ d = TI ∨ d = TO ∨ d = i1 ∨ d = i2 ∨ d = i3 := by simpa using hd
    rcases e' with q | q | q | q | q | q
    · rw [q]; exact ⟨_, hz, fun v q => nomatch q⟩
    · rw [q]; exact ⟨_, hTI, fun v q => nomatch q⟩
    · rw [q]; exact ⟨_, hTO, fun v q => nomatch q⟩
    · rw [q]; exact ⟨o1, e1, fun v q => by rw [d1] at q; cases q⟩
    · rw [q]; exact ⟨o2, e2, fun v q => by rw [d2] at q; cases q⟩
    · rw [q]; exact ⟨o3, e3, fun v q => by rw [d3] at q; cases q⟩
  keep := fun i h h' st k => by
    obtain ⟨hz, hTI, ⟨x, y, u, hTO⟩, h1, h2, h3⟩ := st
    exact ⟨k z (by simp) _ hz, k TI (by simp) _ hTI, ⟨x, y, u, k TO (by simp) _ hTO⟩, h1.at fun o q => k i1 (by simp) o q, h2.at fun o q => k i2 (by simp) o q, h3.at fun o q => k i3 (by simp) o q⟩
  item := by
    intro X hP hw hK hc i pins s σ H E I hf st hg
    subst hP hw hK
    obtain ⟨hz, hTI, ⟨x0, y0, u0, hTO⟩, h1, h2, h3⟩ := st
    obtain ⟨xs, ys, zs, x, y, u, hqx, hqy, hqz, hx, hy, hu⟩ := hg
    obtain ⟨its, rv, p, _⟩ := I.tuple hqx
    obtain ⟨its2, rv2, p2, _⟩ := I.list hqy
    obtain ⟨its3, rv3, p3, _⟩ := I.list hqz
    obtain ⟨u1, hu1, ru1⟩ := rv.get hx
    obtain ⟨u2, hu2, ru2⟩ := rv2.get hy
    obtain ⟨u3, hu3, ru3⟩ := rv3.get hu
    have hzl : z < s.heap.objs.size := Heap.lt_size hz
    have hA : X.A.in1.handled = none := I.ok.hd hc
    have lt1 : i < its.toArray.size := by have := (List.getElem?_eq_some_iff.mp hu1).1; simpa using this
    have lt2 : i < its2.toArray.size := by have := (List.getElem?_eq_some_iff.mp hu2).1; simpa using this
    have lt3 : i < its3.toArray.size := by have := (List.getElem?_eq_some_iff.mp hu3).1; simpa using this
    refine wpAny_pyNext_zipD3_item D (Draws.tuple hA i1 a n1 its.toArray) (Draws.list hA i2 b n2 its2.toArray) (Draws.list hA i3 c n3 its3.toArray) hz hTI hTO ⟨h1, p⟩ ⟨h2, p2.isList⟩ ⟨h3, p3.isList⟩ lt1 lt2 lt3 fun v1 v2 v3 h' tk y1 y2 y3 z' TO' d1 d2 d3 hT hsz hk => ?_
    have f1 : v1 = u1 := Option.some.inj (y1.symm.trans (by simpa using hu1))
    have f2 : v2 = u2 := Option.some.inj (y2.symm.trans (by simpa using hu2))
    have f3 : v3 = u3 := Option.some.inj (y3.symm.trans (by simpa using hu3))
    subst f1 f2 f3
    refine ⟨_, rfl, wpAny_letOwnedTupleGo_zip (s := { s with heap := h', toks := tk }) z' fun h'' z'' sb => ?_⟩
    have hT2 : h''.get? s.heap.objs.size = some { cls := .type "tuple", data := .seq #[v1, v2, v3] } := (sb.2 _ (Nat.ne_of_gt hzl)).trans hT
    have new : ObjOk X.prog X.w (upd H s.heap.objs.size (.tup [x, y, u])) h'' s.heap.objs.size (.tup [x, y, u]) :=
      ⟨by show 3 ≤ sizeLine; decide, [v1, v2, v3], .cons ru1 (.cons ru2 (.cons ru3 .nil)), ⟨_, hT2, rfl, _, rfl⟩⟩
    have I1 : Inv X pins σ (upd H s.heap.objs.size (.tup [x, y, u])) { s with heap := h'', toks := tk } :=
      I.turnedNew (t' := tk) (ch := [z, TI, TO, i1, i2, i3]) (fun d o hb q => (sb.2 d (fun q' => hb (by simp [q']))).trans (hk d o (fun q' => hb (by simp [q'])) (fun q' => hb (by simp [q'])) (fun q' => hb (by simp [q'])) (fun q' => hb (by simp [q'])) (fun q' => hb (by simp [q'])) q)) hf (Nat.le_refl _) new
    refine ⟨.ref s.heap.objs.size, _, I1, rfl, ⟨_, x, y, u, rfl, I.hok.fresh (Nat.le_refl _), rfl, fun l hl => by rw [I.tuple_inj hl hqx]; exact hx, fun l hl => by rw [I.list_inj hl hqy]; exact hy, fun l hl => by rw [I.list_inj hl hqz]; exact hu⟩, ⟨z'', ?_, ⟨v1, v2, v3, ?_⟩, ?_, ?_, ?_⟩, fun d hcm => ?_⟩
    · exact (sb.2 _ D.TIz).trans (hk _ _ D.TIz D.TITO D.TIi1 D.TIi2 D.TIi3 hTI)
    · exact (sb.2 _ D.TOz).trans TO'
    · exact d1.1.at fun o q => (sb.2 _ D.zi1.symm).trans q
    · exact d2.1.at fun o q => (sb.2 _ D.zi2.symm).trans q
    · exact d3.1.at fun o q => (sb.2 _ D.zi3.symm).trans q
    · have hlt : d < s.heap.objs.size := by
        have e' : d = z ∨ d = TI ∨ d = TO ∨ d = i1 ∨ d = i2 ∨ d = i3 := by simpa using hcm
        rcases e' with q | q | q | q | q | q
        · rw [q]; exact hzl
        · rw [q]; exact Heap.lt_size hTI
        · rw [q]; exact Heap.lt_size hTO
        · rw [q]; obtain ⟨_, e1, _⟩ := h1; exact Heap.lt_size e1
        · rw [q]; obtain ⟨_, e2, _⟩ := h2; exact Heap.lt_size e2
        · rw [q]; obtain ⟨_, e3, _⟩ := h3; exact Heap.lt_size e3
      rw [upd_ne (Nat.ne_of_lt hlt)]
      exact (hf d hcm).1
  done := by
    intro X hP hw hK hc i pins s σ H E I hf st hg
    subst hP hw hK
    obtain ⟨hz, hTI, ⟨x0, y0, u0, hTO⟩, h1, h2, h3⟩ := st
    obtain ⟨xs, ys, zs, hqx, hqy, hqz, le1, le2, le3, hend⟩ := hg
    obtain ⟨its, rv, p, _⟩ := I.tuple hqx
    obtain ⟨its2, rv2, p2, _⟩ := I.list hqy
    obtain ⟨its3, rv3, p3, _⟩ := I.list hqz
    have l1 : its.toArray.size = xs.length := by rw [rv.length]; simp
    have l2 : its2.toArray.size = ys.length := by rw [rv2.length]; simp
    have l3 : its3.toArray.size = zs.length := by rw [rv3.length]; simp
    have hA : X.A.in1.handled = none := I.ok.hd hc
    exact wpAny_pyNext_zipD3_end D (Draws.tuple hA i1 a n1 its.toArray) (Draws.list hA i2 b n2 its2.toArray) (Draws.list hA i3 c n3 its3.toArray) hz hTI hTO ⟨h1, p⟩ ⟨h2, p2.isList⟩ ⟨h3, p3.isList⟩ (by rw [l1]; exact le1) (by rw [l2]; exact le2) (by rw [l3]; exact le3) (by rw [l1, l2, l3]; exact hend) fun h' tk hk => ⟨rfl, I.turnedL (t' := tk) (ch := [z, TI, TO, i1, i2, i3]) (fun d o hb q =>
      hk d o (fun q' => hb (by simp [q'])) (fun q' => hb (by simp [q'])) (fun q' => hb (by simp [q'])) (fun q' => hb (by simp [q'])) (fun q' => hb (by simp [q'])) q) hf⟩
  self := fun A i s Q E st h => wpAny_pyIter_zip st.1 h
def iZip3 (K : PySem.W.Frag) (ta : TA) : TI := fun σ H R => ta σ H fun vs H1 => ∃ a b c xs ys zs, vs = [.ref a, .ref b, .ref c] ∧ SqT K H1 a xs ∧ SqL K H1 b ys ∧ SqL K H1 c zs ∧ R (Itz3 K a b c) H1
theorem pi_zip3 {X : Cx} {e e2 e3 : Expr} {ta : TA} {p pos tpos : Pos} {elts : List Expr} {kk : Nat} (hg : Gl X "zip") (hm : X.mg "zip" = none) (ha : PA X [e, e2, e3] ta)
    (hs : starEach [e, e2, e3] X.env = (false, eval e X.env) :: starEach [e2, e3] X.env := by rfl) (hpl : (backTo pos (starEach [e2, e3] X.env)).any (·.1) = false := by rfl) :
    PI X (.Tuple elts kk tpos) (.Call (.Name "zip" p) [e, e2, e3] [] pos) (iZip3 X.K ta) := by
  refine ⟨fun pins s σ H R I h => ?_⟩
  refine Call_ (ld_blt I hg hm PyProof.Rows.boot_zip (PyProof.Rows.callWith_type1 (thn (ha.run pos pins s σ H _ I h) fun us s1 ⟨vs, H1, I1, r1, q1⟩ => ?_) hs hpl))
  obtain ⟨a, b, c, xs, ys, zs, ex, hqx, hqy, hqz, q⟩ := q1
  subst ex
  cases r1 with
  | cons r rr =>
    cases rr with
    | cons r' rr =>
      cases rr with
      | cons r'' rr =>
        cases rr
        cases r
        cases r'
        cases r''
        have fresh6 : ∀ d, d ∈ [s1.heap.objs.size + 5, s1.heap.objs.size + 3, s1.heap.objs.size + 4, s1.heap.objs.size, s1.heap.objs.size + 1, s1.heap.objs.size + 2] → FpOk X pins H1 d := fun d hcm => by
          have e' : d = s1.heap.objs.size + 5 ∨ d = s1.heap.objs.size + 3 ∨ d = s1.heap.objs.size + 4 ∨ d = s1.heap.objs.size ∨ d = s1.heap.objs.size + 1 ∨ d = s1.heap.objs.size + 2 := by simpa using hcm
          have hle : s1.heap.objs.size ≤ d := by
            rcases e' with z | z | z | z | z | z
            · rw [z]; exact Nat.le_add_right _ _
            · rw [z]; exact Nat.le_add_right _ _
            · rw [z]; exact Nat.le_add_right _ _
            · rw [z]; exact Nat.le_refl _
            · rw [z]; exact Nat.le_add_right _ _
            · rw [z]; exact Nat.le_add_right _ _
          exact I1.fpOk hle (I1.hok.fresh hle)
        obtain ⟨its, rv, p1, _⟩ := I1.tuple hqx
        obtain ⟨its2, rv2, p2, _⟩ := I1.list hqy
        obtain ⟨its3, rv3, p3, _⟩ := I1.list hqz
        obtain ⟨o1, ho1, _⟩ := id p1
        refine zip_begins3 (begins_tuple a its.toArray) (begins_list b its2.toArray) (begins_list c its3.toArray) p1 p2.isList p3.isList fun h' hz hTI hTO h1 h2 h3 hsz hk => wpAny_pyIter_zip hz ?_
        have I2 : Inv X pins σ H1 { s1 with heap := h' } := I1.kept (t' := s1.toks) hk
        have la : a < s1.heap.objs.size := Heap.lt_size ho1
        have lb := p2.lt
        have lc := p3.lt
        refine ⟨s1.heap.objs.size + 5, [s1.heap.objs.size + 5, s1.heap.objs.size + 3, s1.heap.objs.size + 4, s1.heap.objs.size, s1.heap.objs.size + 1, s1.heap.objs.size + 2], _, _, H1, rfl, I2, turn_zip3 (zip_sep3 (N := s1.heap.objs.size) (fun d hd => by rw [List.mem_singleton.mp hd]; exact la) (fun d hd => by rw [List.mem_singleton.mp hd]; exact lb) (fun d hd => by rw [List.mem_singleton.mp hd]; exact lc)) (Nat.ne_of_lt la) (Nat.ne_of_lt (Nat.lt_succ_of_lt lb)) (Nat.ne_of_lt (Nat.lt_of_lt_of_le lc (Nat.le_add_right _ _))), ⟨hz, hTI, ⟨_, _, _, hTO⟩, ⟨_, h1, rfl, rfl⟩, ⟨_, h2, rfl, rfl⟩, ⟨_, h3, rfl, rfl⟩⟩, fresh6, q⟩
/-- a new tuple of the i-th of each -/
def YTri (xs ys zs : List V) : Nat → Hp → V → Hp → Prop := fun i H v H' => ∃ T x y z, v = .ref T ∧ H T = none ∧ H' = upd H T (.tup [x, y, z]) ∧ xs[i]? = some x ∧ ys[i]? = some y ∧ zs[i]? = some z
theorem walk_zip3 {K : PySem.W.Frag} {a b c : Addr} {xs ys zs : List V} {n : Nat} (h1 : n ≤ xs.length) (h2 : n ≤ ys.length) (h3 : n ≤ zs.length) (he : n = xs.length ∨ n = ys.length ∨ n = zs.length) :
    Walk (Itz3 K a b c) n (fun H => SqT K H a xs ∧ SqL K H b ys ∧ SqL K H c zs) (YTri xs ys zs) where
  goes := fun i H hi g => ⟨xs, ys, zs, _, _, _, g.1, g.2.1, g.2.2, List.getElem?_eq_getElem (Nat.lt_of_lt_of_le hi h1), List.getElem?_eq_getElem (Nat.lt_of_lt_of_le hi h2), List.getElem?_eq_getElem (Nat.lt_of_lt_of_le hi h3)⟩
  stops := fun H g => ⟨xs, ys, zs, g.1, g.2.1, g.2.2, h1, h2, h3, he⟩
  yields := fun i H x H' hi g y => by
    obtain ⟨T, u, v, z, e1, e2, e3, e4, e5, e6⟩ := y
    exact ⟨T, u, v, z, e1, e2, e3, e4 _ g.1, e5 _ g.2.1, e6 _ g.2.2⟩
end Z3
/-! enumerate(xs, start=k) of a list -/
namespace Es
open PySem PySem.Spec PyProof.Rows L2
def IteS (K : PySem.W.Frag) (k : Int) (a : Addr) : It :=
  ⟨fun i H => ∃ (xs : List V) (x : V), SqL K H a xs ∧ xs[i]? = some x, fun i H v H' => ∃ T x, v = .ref T ∧ H T = none ∧ H' = upd H T (.tup [.int (k + (i : Nat)), x]) ∧ ∀ xs, SqL K H a xs → xs[i]? = some x, fun i H => ∃ xs : List V, SqL K H a xs ∧ xs.length = i⟩
theorem turn_enumS {P : Program} {w : World} {K : PySem.W.Frag} {elts : List Expr} {kk : Nat} {tpos : Pos} (k : Int) (a e it : Addr) (hai : a ≠ it) (hae : e ≠ a) :
    Turn P w K (.Tuple elts kk tpos) (IteS K k a) [e, it] e (fun i h => (∃ old, IsEnum h e it (k + ((i : Nat) : Int)) old) ∧ h.IsListIter it a i ∧ e ≠ it) where
  mem := by simp
  obj := fun i h st b hb => by
    obtain ⟨⟨old, he⟩, ⟨o, ho, hc, hd⟩, _⟩ := st
    have e' : b = e ∨ b = it := by simpa using hb
    rcases e' with z | z
    · rw [z]; exact ⟨_, he, fun v q => nomatch q⟩
    · rw [z]; exact ⟨o, ho, fun v q => by rw [hd] at q; cases q⟩
  keep := fun i h h' st k => let ⟨⟨old, he⟩, hi, hne⟩ := st; ⟨⟨old, k e (by simp) _ he⟩, hi.at fun o q => k it (by simp) o q, hne⟩
  item := by
    intro X hP hw hK hc i pins s σ H E I hf st hg
    subst hP hw hK
    obtain ⟨⟨old, he⟩, hit, hne⟩ := st
    obtain ⟨xs, x, hq, hx⟩ := hg
    obtain ⟨its, rv, p, hz⟩ := I.list hq
    obtain ⟨u, hu, ru⟩ := rv.get hx
    have hel : e < s.heap.objs.size := Heap.lt_size he
    have hil : it < s.heap.objs.size := by obtain ⟨_, q, _⟩ := hit; exact Heap.lt_size q
    have hA : X.A.in1.handled = none := I.ok.hd hc
    have lt1 : i < its.toArray.size := by have := (List.getElem?_eq_some_iff.mp hu).1; simpa using this
    refine wpAny_pyNext_enum_itemC (Draws.list hA it a hai its.toArray) he ⟨hit, p.isList⟩ lt1 hne (by simp; exact ⟨hne, hae⟩) fun y h' tk hy ho hit' hT hsz hk => ?_
    have f1 : y = u := Option.some.inj (hy.symm.trans (by simpa using hu))
    subst f1
    refine ⟨_, rfl, wpAny_letOwnedTupleGo_enum (s := { s with heap := h', toks := tk + 1 }) ho fun h'' he' sb => ?_⟩
    have hT2 : h''.get? s.heap.objs.size = some { cls := .type "tuple", data := .seq #[.int (k + (i : Int)) tk, y] } := (sb.2 _ (Nat.ne_of_gt hel)).trans hT
    have new : ObjOk X.prog X.w (upd H s.heap.objs.size (.tup [.int (k + (i : Nat)), x])) h'' s.heap.objs.size (.tup [.int (k + (i : Nat)), x]) :=
      ⟨by show 2 ≤ sizeLine; decide, [.int (k + (i : Int)) tk, y], .cons ⟨_, rfl⟩ (.cons ru .nil), ⟨_, hT2, rfl, _, rfl⟩⟩
    have I1 : Inv X pins σ (upd H s.heap.objs.size (.tup [.int (k + (i : Nat)), x])) { s with heap := h'', toks := tk + 1 } :=
      I.turnedNew (t' := tk + 1) (ch := [e, it]) (fun b ob hb q => (sb.2 b (fun z => hb (by simp [z]))).trans (hk b ob (fun z => hb (by simp [z])) (fun z => hb (by simp [z])) q)) hf (Nat.le_refl _) new
    refine ⟨.ref s.heap.objs.size, _, I1, rfl, ⟨_, x, rfl, I.hok.fresh (Nat.le_refl _), rfl, fun ys hy => by rw [I.list_inj hy hq]; exact hx⟩, ⟨⟨y, ?_⟩, hit'.1.at fun o q => (sb.2 it (Ne.symm hne)).trans q, hne⟩, fun b hb => ?_⟩
    · have e1 : k + ((i + 1 : Nat) : Int) = k + (i : Int) + 1 := by omega
      rw [e1]; exact he'
    · have hb' : b < s.heap.objs.size := by
        have e' : b = e ∨ b = it := by simpa using hb
        rcases e' with z | z
        · rw [z]; exact hel
        · rw [z]; exact hil
      rw [upd_ne (Nat.ne_of_lt hb')]
      exact (hf b hb).1
  done := by
    intro X hP hw hK hc i pins s σ H E I hf st hg
    subst hP hw hK
    obtain ⟨⟨old, he⟩, hit, hne⟩ := st
    obtain ⟨xs, hq, hx⟩ := hg
    obtain ⟨its, rv, p, hz⟩ := I.list hq
    obtain ⟨f0, f1, f2, f3, f4, f5⟩ := hf it (by simp)
    have hl := rv.length
    have hA : X.A.in1.handled = none := I.ok.hd hc
    have l1 : its.toArray.size = i := by rw [← hx, hl]; simp
    subst l1
    exact wpAny_pyNext_enum_endD (Draws.list hA it a hai its.toArray) he ⟨hit, p.isList⟩ fun h' eb => ⟨rfl, I.turned (t' := s.toks) (fun b o hb q => eb b o hb q) f0 f1 f3 f4 f5⟩
  self := fun A i s Q E st h => let ⟨⟨_, he⟩, _⟩ := st; wpAny_pyIter_enum he h
section
variable {M : Model} {A : Around} {E : Value → Shared → Prop} {s : Shared} {env : Env}
theorem callWith_type_kwB {pos : Pos} {T : String} {first : List Value} {args : List (Bool × Sem Value)} {keywords : List (Option Str × Sem Value)} {Q : Value → Shared → Prop}
    (hplain : args.any (·.1) = false) (hkw : keywords.any (·.1.isNone) = false)
    (h : wpAny M A (evalArgs (.type T) true args keywords) (fun a s₁ => wpAny M A (call (.type T) (first ++ a.pos) a.kw) Q E s₁) E s) :
    wpAny M A (callWith pos (.type T) first args keywords) Q E s := by
  unfold callWith
  refine wpAny_bind (wpAny_holding (wpAny_mono h (fun a s₁ h₁ => wpAny_bind (wpAny_standAt ?_)) fun _ _ x => x))
  simp only [hplain, hkw, Bool.or_false]
  refine wpAny_bind (wpAny_pure ?_)
  exact wpAny_bind (wpAny_mono h₁ (fun r s₂ hr => wpAny_bind (wpAny_holding (wpAny_point (wpAny_pure hr)))) fun _ _ x => x)
theorem callWith_kwT {pos : Pos} {T : String} {e : Expr} {rest : List Expr} {kws : List Keyword} {Q : Value → Shared → Prop}
    (h : wpAny M A (spliced (backTo pos (starEach (e :: rest) env))) (fun vs s₁ => wpAny M A (evalAll ((backToKw pos (keywordEach kws env)).map (·.2)))
      (fun kvs s₂ => wpAny M A (call (.type T) vs (((backToKw pos (keywordEach kws env)).filterMap (·.1)).zip kvs)) Q E s₂) E s₁) E s)
    (he : backTo pos (starEach (e :: rest) env) = (false, eval e env) :: backTo pos (starEach rest env) := by rfl)
    (hplain : (backTo pos (starEach (e :: rest) env)).any (·.1) = false := by rfl)
    (hall : (backToKw pos (keywordEach kws env)).all (·.1.isSome) = true := by rfl)
    (hkw : (backToKw pos (keywordEach kws env)).any (·.1.isNone) = false := by rfl) :
    wpAny M A (callWith pos (.type T) [] (backTo pos (starEach (e :: rest) env)) (backToKw pos (keywordEach kws env))) Q E s := by
  refine callWith_type_kwB hplain hkw ?_
  rw [he] at h ⊢
  exact evalArgs_kwB hall h
end
def iEnumS (K : PySem.W.Frag) (k : Int) (te : TE) : TI := fun σ H R => te σ H fun v H1 => ∃ a xs, v = .ref a ∧ SqL K H1 a xs ∧ R (IteS K k a) H1
theorem pi_enumS {X : Cx} {y : Str} {pn : Pos} {te : TE} {k : Int} {kc : Nat} {p pos tpos cpos kpos : Pos} {elts : List Expr} {kk : Nat} (hg : Gl X "enumerate") (hm : X.mg "enumerate" = none) (ha : PE X (.Name y pn) te) (hk0 : -(2 ^ 63) ≤ k) (hk1 : k < 2 ^ 63) :
    PI X (.Tuple elts kk tpos) (.Call (.Name "enumerate" p) [.Name y pn] [⟨some "start", .Constant (.int k) kc cpos, kpos⟩] pos) (iEnumS X.K k te) := by
  refine ⟨fun pins s σ H R I h => ?_⟩
  refine wpAny_Call_Name_kw (ld_blt I hg hm boot_enumerate ?_)
  refine callWith_kwT ?_
  refine Calls.spliced_cons (thn (ha.run pins s σ H _ I h) fun v s1 ⟨x, H1, I1, rv, q⟩ => ?_)
  obtain ⟨a, xs, rfl, hl, q⟩ := q
  cases (show v = Value.ref a from rv)
  refine Calls.spliced_nil ?_
  show wpAny _ _ (evalAll ((do let v ← eval (.Constant (.int k) kc cpos) X.env; standAt pos; pure v) :: [])) _ _ _
  refine wpAny_evalAll_cons (wpAny_bind (thn ((pe_int (X := X)).run pins s1 σ H1 (fun v H2 => v = .int k ∧ H2 = H1) I1 ⟨rfl, rfl⟩) fun v2 s2 ⟨x2, H2, I2, r2, e2, e3⟩ => wpAny_bind (wpAny_standAt (wpAny_pure (wpAny_evalAll_nil ?_)))))
  subst e2 e3
  obtain ⟨t, rfl⟩ := r2
  obtain ⟨its, rv', p', hz⟩ := I2.list hl
  refine enum_begins_start (begins_list a its.toArray) p'.isList hk0 hk1 fun h' he hit hsz hk => wpAny_pyIter_enum he ?_
  have I3 : Inv X pins σ H2 { s2 with heap := h' } := I2.kept (t' := s2.toks) hk
  have la := p'.lt
  refine ⟨s2.heap.objs.size + 1, [s2.heap.objs.size + 1, s2.heap.objs.size], _, _, H2, rfl, I3, turn_enumS k a (s2.heap.objs.size + 1) s2.heap.objs.size (Nat.ne_of_lt la) (Nat.ne_of_gt (Nat.lt_succ_of_lt la)), ⟨⟨.none, by rw [show k + ((0 : Nat) : Int) = k by omega]; exact he⟩, ⟨_, hit, rfl, rfl⟩, Nat.succ_ne_self _⟩, fun b hb => ?_, q⟩
  have e' : b = s2.heap.objs.size + 1 ∨ b = s2.heap.objs.size := by simpa using hb
  have hle : s2.heap.objs.size ≤ b := by
    rcases e' with z | z
    · rw [z]; exact Nat.le_add_right _ _
    · rw [z]; exact Nat.le_refl _
  exact I2.fpOk hle (I2.hok.fresh hle)
theorem walk_enumS {K : PySem.W.Frag} {k : Int} {a : Addr} {xs : List V} : Walk (IteS K k a) xs.length (fun H => SqL K H a xs) (YPair (fun i => some (.int (k + (i : Nat)))) (fun i => xs[i]?)) := by
  refine ⟨fun i _ hi q => ⟨xs, xs[i], q, by simp [hi]⟩, fun _ q => ⟨xs, q, rfl⟩, fun i H v H' _ q y => ?_⟩
  obtain ⟨T, x, h1, h2, h3, h4⟩ := y
  exact ⟨T, .int (k + (i : Nat)), x, h1, h2, h3, rfl, h4 xs q⟩
end Es
/-! max of a list of ints -/
namespace Mx
open PySem PySem.Spec PyProof.Rows L2
def maxI (x : Int) (ys : List Int) : Int := ys.foldl max x
theorem maxI_ge : ∀ (ys : List Int) (x : Int), x ≤ maxI x ys ∧ ∀ y ∈ ys, y ≤ maxI x ys
  | [], x => ⟨Int.le_refl _, fun y hy => by cases hy⟩
  | y :: ys, x => by
    obtain ⟨h1, h2⟩ := maxI_ge ys (max x y)
    show x ≤ maxI (max x y) ys ∧ _
    refine ⟨by omega, fun z hz => ?_⟩
    show z ≤ maxI (max x y) ys
    rcases List.mem_cons.mp hz with e | e
    · rw [e]; omega
    · exact h2 z e
theorem maxI_mem : ∀ (ys : List Int) (x : Int), maxI x ys ∈ x :: ys
  | [], x => List.mem_singleton.mpr rfl
  | y :: ys, x => by
    have h := maxI_mem ys (max x y)
    show maxI (max x y) ys ∈ _
    rcases List.mem_cons.mp h with e | e
    · rw [e]
      by_cases c : x ≤ y
      · rw [Int.max_eq_right c]; exact List.mem_cons_of_mem _ List.mem_cons_self
      · rw [Int.max_eq_left (by omega)]; exact List.mem_cons_self
    · exact List.mem_cons_of_mem _ (List.mem_cons_of_mem _ e)
theorem dpAll_ints {K : PySem.W.Frag} {H : Hp} : ∀ zs : List Int, DpAll K H (zs.map V.int) (zs.map PyData.int)
  | [] => .nil
  | z :: zs => .cons (.int z) (dpAll_ints zs)
theorem depthI : ∀ zs : List Int, PyData.depthAll (zs.map PyData.int) = 0
  | [] => rfl
  | z :: zs => by rw [List.map_cons, PyData.depthAll, depthI zs]; rfl
/-- max(xs), a list of ints -/
def rMaxI (K : PySem.W.Frag) : List V → Hp → VK → Prop := fun vs H Q => ∃ (a : Addr) (x : Int) (ys : List Int), vs = [.ref a] ∧ SqL K H a ((x :: ys).map V.int) ∧ Q (.int (maxI x ys)) H
theorem cr_maxI {X : Cx} (hc : X.calm = true) (hu : X.A.units + 64 < cLine) : CallR X (.builtin "max") (rMaxI X.K) := by
  intro pins s σ H vs us Q I r h
  obtain ⟨a, x, ys, rfl, hs, q⟩ := h
  obtain ⟨its, rv, hl, -⟩ := I.list hs
  rw [Vals.ref1 r]
  obtain ⟨as, hr⟩ := Dp.readsAll I _ _ _ (dpAll_ints (x :: ys)) rv
  have hl : s.heap.IsList a its.toArray := hl.isList
  have hr' : ReadsAll s.heap its.toArray.toList (PyData.int x :: ys.map PyData.int) as := hr
  refine PySem.W.max_list_data (I.ok.hd hc) hl hr' (PySem.W.alikeAll_datum (α := Int) (x :: ys)) ?_ fun i v h' tk bs hv rd hk => ?_
  · have : PyData.depthAll (PyData.int x :: ys.map PyData.int) = 0 := depthI (x :: ys)
    rw [this]
    omega
  · rw [PySem.W.maxD_ints] at rd
    cases rd
    exact ⟨.int (maxI x ys), H, I.kept hk, ⟨_, rfl⟩, q⟩
end Mx
/-! d.update(d2) of two dicts; x < y of data -/
namespace Du
open PySem PySem.Spec PyProof.Rows L2
section
variable {X : Cx}
def rDUpd : V → List V → Hp → VK → Prop := fun x vs H Q => ∃ (a b : Addr) (kvs more : List (Key × V)), x = .ref a ∧ vs = [.ref b] ∧ H a = some (.dK kvs) ∧ H b = some (.dK more) ∧ a ≠ b ∧ kvs.length + more.length ≤ sizeLine ∧ Q .non (upd H a (.dK (mergeK kvs more)))
theorem mt_dupd : MtR X "dict.update" rDUpd := by
  intro pins s σ H x vs v us Q I rx rv h
  obtain ⟨a, b, kvs, more, rfl, rfl, ea, eb, hne, hsz, q⟩ := h
  obtain rfl : v = Value.ref a := rx
  obtain ⟨u, rfl, ru⟩ := rv.one
  obtain rfl : u = Value.ref b := ru
  obtain ⟨z, hd, vs1, rel1, dd1⟩ := dk_of I.hok ea
  obtain ⟨z2, hd2, vs2, rel2, dd2⟩ := dk_of I.hok eb
  refine call_meetsIn PySem.F.slot_dict_update dd1.typeIs PySem.F.entry_dict_update (PySem.F.args_dict_update_2 _ _) (meets_dict_update (mixKind X.prog X.w) a b hne hd2) ⟨vs1, vs2, dd1, dd2, by rw [← rel1.length, ← rel2.length]; exact hsz, fun h' dd' _ hs => ?_⟩
  have he : ∃ q, h'.get? a = some q := let ⟨q, _, _, hq, _⟩ := dd'; ⟨q, hq⟩
  refine ⟨.non, _, d_write (t' := s.toks) I (by rw [ea]; exact True.intro) hs he (dk_new ?_ hd (KV.merge rel2 rel1) dd'), rfl, q⟩
  refine Nat.le_trans (length_mergeK more kvs) ?_
  omega
/-- x < y, both data of one kind -/
def rLtG (α : Type) [DecidableEq α] [PySem.W.DatumOrd α] (K : PySem.W.Frag) : R2 := fun x y H Q => ∃ a b : α, Dp K H x (PySem.W.Datum.toD a) ∧ Dp K H y (PySem.W.Datum.toD b) ∧ PySem.W.Datum.toD a ≠ PyData.none ∧ PySem.W.Datum.depth α ≤ 60 ∧ Q (.bl (PySem.W.DatumOrd.lt a b)) H
theorem op_ltG (α : Type) [DecidableEq α] [PySem.W.DatumOrd α] (hu : X.A.units + 64 < cLine) : OpR X (compareOp .Lt) (rLtG α X.K) := by
  intro pins s σ H x y v u Q I rx ry h
  obtain ⟨a, b, hd, he, hn, hdep, q⟩ := h
  obtain ⟨as, r1⟩ := Dp.reads I _ x v hd rx
  obtain ⟨bs, r2⟩ := Dp.reads I _ y u he ry
  refine PySem.W.lt_data r1 r2 (PySem.W.DatumOrd.alike a b) hn ?_ ⟨.bl _, H, I, rfl, ?_⟩
  · refine PySem.W.room_datum (PySem.W.Datum.depth_le a) (by omega)
  · rw [PySem.W.DatumOrd.lt_eq]; exact q
end
end Du
/-! sorted(rows, key=lambda row: (row[A], row[B], row[C])), A, B, C whole numbers of the module -/
namespace Lr
open PySem PySem.Spec PyProof.Rows L2 LamX
structure Lam0 (scope : Scope) (z c1 c2 c3 : Str) : Prop where
  kind : scope.kind = .function
  co : scope.isCoroutine = false
  gen : scope.isGenerator = false
  nc : ∀ q ∈ scope.names, q.2 ≠ .cell
  nf : ∀ q ∈ scope.names, q.2 ≠ .free
  z : scope.names.lookup z = some .local
  g1 : scope.names.lookup c1 = some .globalImplicit
  g2 : scope.names.lookup c2 = some .globalImplicit
  g3 : scope.names.lookup c3 = some .globalImplicit
theorem lam0_by {scope : Scope} {z c1 c2 c3 : Str} (h1 : scope.kind = .function) (h2 : scope.isCoroutine = false) (h3 : scope.isGenerator = false) (h4 : (scope.names.all fun q => !decide (q.2 = .cell) && !decide (q.2 = .free)) = true) (h5 : scope.names.lookup z = some .local)
    (h6 : scope.names.lookup c1 = some .globalImplicit) (h7 : scope.names.lookup c2 = some .globalImplicit) (h8 : scope.names.lookup c3 = some .globalImplicit) : Lam0 scope z c1 c2 c3 := by
  refine ⟨h1, h2, h3, fun q hq e => ?_, fun q hq e => ?_, h5, h6, h7, h8⟩
  · have := List.all_eq_true.mp h4 q hq
    rw [e] at this
    simp at this
  · have := List.all_eq_true.mp h4 q hq
    rw [e] at this
    simp at this
/-- a key of three whole numbers -/
def key3 {β : Type} (f : β → Int × Int × Int) (b : β) : PyData := .tuple [.int (f b).1, .int (f b).2.1, .int (f b).2.2]
section
variable {prog : Program} {w : World} {A : Around} {E : Value → Shared → Prop} {s : Shared}
theorem item_at {value slice : Expr} {env : Env} {m mg : Str → Option Value} {z c : Str} {t : Addr} {its : List Value} {n : Nat} {u v : Tok} {x : Int} {p1 p2 p3 : Pos} {Q : Value → Shared → Prop} (hk : env.scope.kind = .function) (hz : env.kindOf z = some .local) (hn : s.heap.Ns env.locals m) (hm : m z = some (.ref t))
    (hc : env.kindOf c = some .globalImplicit) (hg : s.heap.Ns env.globals mg) (hv : mg c = some (.int n u)) (ht : IsTup s.heap t its.toArray) (hx : its[n]? = some (.int x v)) (hf : n < 5000) (dz : (z == ("__debug__" : Str)) = false) (dc : (c == ("__debug__" : Str)) = false) (h : Q (.int x v) s) :
    wpAny (model prog w) A (eval (.Subscript (.Name z p1) (.Name c p2) p3) env) Q E s := by
  refine Subscript_ (wpAny_Name (wpAny_loadName_local hk hz hn hm (Calls.Name_function_global hk hc (Calls.loadGlobal_global hg hv ?_) dc)) dz)
  have hl : n < its.length := (List.getElem?_eq_some_iff.mp hx).1
  refine item_tupleT (j := n) ht (by omega) (by omega) ?_ hx h (by intros; rfl)
  rw [seqIndex_of (by omega) (by omega)]
  rfl
theorem keyR_eval {env : Env} {m mg : Str → Option Value} {z c1 c2 c3 : Str} {t : Addr} {its : List Value} {n1 n2 n3 kk : Nat} {u1 u2 u3 v1 v2 v3 : Tok} {x1 x2 x3 : Int} {a1 a2 a3 b1 b2 b3 d1 d2 d3 p6 : Pos} (hk : env.scope.kind = .function) (hz : env.kindOf z = some .local)
    (hn : s.heap.Ns env.locals m) (hm : m z = some (.ref t)) (hg : s.heap.Ns env.globals mg) (k1 : env.kindOf c1 = some .globalImplicit) (k2 : env.kindOf c2 = some .globalImplicit) (k3 : env.kindOf c3 = some .globalImplicit)
    (h1 : mg c1 = some (.int n1 u1)) (h2 : mg c2 = some (.int n2 u2)) (h3 : mg c3 = some (.int n3 u3)) (ht : IsTup s.heap t its.toArray) (e1 : its[n1]? = some (.int x1 v1)) (e2 : its[n2]? = some (.int x2 v2)) (e3 : its[n3]? = some (.int x3 v3))
    (hf : n1 < 5000 ∧ n2 < 5000 ∧ n3 < 5000) (dz : (z == ("__debug__" : Str)) = false) (dc1 : (c1 == ("__debug__" : Str)) = false) (dc2 : (c2 == ("__debug__" : Str)) = false) (dc3 : (c3 == ("__debug__" : Str)) = false) :
    wpAny (model prog w) A (eval (.Tuple [.Subscript (.Name z a1) (.Name c1 a2) a3, .Subscript (.Name z b1) (.Name c2 b2) b3, .Subscript (.Name z d1) (.Name c3 d2) d3] kk p6) env) (PySem.W.KeyPure (.tuple [.int x1, .int x2, .int x3]) s) E s := by
  refine wpAny_Tuple_spliced ?_
  show wpAny _ _ (spliced ((false, eval (.Subscript (.Name z a1) (.Name c1 a2) a3) env) :: backTo p6 (starEach [.Subscript (.Name z b1) (.Name c2 b2) b3, .Subscript (.Name z d1) (.Name c3 d2) d3] env))) _ _ s
  refine Calls.spliced_cons (item_at (value := .Name z a1) (slice := .Name c1 a2) hk hz hn hm k1 hg h1 ht e1 hf.1 dz dc1 ?_)
  show wpAny _ _ (spliced ((false, eval (.Subscript (.Name z b1) (.Name c2 b2) b3) env) :: backTo p6 (starEach [.Subscript (.Name z d1) (.Name c3 d2) d3] env))) _ _ s
  refine Calls.spliced_cons (item_at (value := .Name z b1) (slice := .Name c2 b2) hk hz hn hm k2 hg h2 ht e2 hf.2.1 dz dc2 ?_)
  show wpAny _ _ (spliced ((false, eval (.Subscript (.Name z d1) (.Name c3 d2) d3) env) :: backTo p6 (starEach [] env))) _ _ s
  refine Calls.spliced_cons (item_at (value := .Name z d1) (slice := .Name c3 d2) hk hz hn hm k3 hg h3 ht e3 hf.2.2 dz dc3 ?_)
  refine Calls.spliced_nil ⟨by show 3 ≤ sizeLine; decide, ?_⟩
  exact ⟨_, _, rfl, fun b o e => Heap.get?_push_of_some _ e, .tuple (as := []) (Heap.get?_push_size _ rfl) rfl rfl (.cons (as := []) (bs := []) (.int _ _) (.cons (as := []) (bs := []) (.int _ _) (.cons (as := []) (bs := []) (.int _ _) .nil)))⟩
end
/-- rows and the three places of the key -/
def tSortRow (K : PySem.W.Frag) (ta : TE) (n1 n2 n3 : Nat) (P : Addr) (q : Str) : TE := fun σ H Q => ta σ H fun x H1 => ∃ (l : Addr) (ts : List Addr) (f : Addr → Int × Int × Int), x = .ref l ∧ ts.length ≤ 5000 ∧ SqL K H1 l (ts.map V.ref) ∧
  (∀ t ∈ ts, ∃ xs, SqT K H1 t xs ∧ xs[n1]? = some (.int (f t).1) ∧ xs[n2]? = some (.int (f t).2.1) ∧ xs[n3]? = some (.int (f t).2.2)) ∧ TabS H1 P q ∧
  ∀ H2 p, ExtN H1 H2 → TabS H2 P q → H2 p = none → Q (.ref p) (upd H2 p (.lst ((ts.mergeSort (PySem.W.dataLe false (key3 f))).map V.ref)))
theorem sqT_ext {K : PySem.W.Frag} {H H' : Hp} {a : Addr} {xs : List V} (e : ExtN H H') (h : SqT K H a xs) : SqT K H' a xs := by
  rcases h with (h | ⟨o, h⟩) | h
  · exact .inl (.inl (e _ _ h fun ps z => nomatch z))
  · exact .inl (.inr ⟨o, e _ _ h fun ps z => nomatch z⟩)
  · exact .inr h
theorem sqL_ext {K : PySem.W.Frag} {H H' : Hp} {a : Addr} {xs : List V} (e : ExtN H H') (h : SqL K H a xs) : SqL K H' a xs := by
  rcases h with (h | ⟨o, h⟩) | h
  · exact .inl (.inl (e _ _ h fun ps z => nomatch z))
  · exact .inl (.inr ⟨o, e _ _ h fun ps z => nomatch z⟩)
  · exact .inr h
theorem each_refs : ∀ ts : List Addr, PySem.W.EachIs (fun v t => v = Value.ref t) (ts.map Value.ref) ts
  | [] => .nil
  | t :: ts => .cons rfl (each_refs ts)
section
variable {X : Cx}
theorem pe_sortedRow {c P : Addr} {k kk n1 n2 n3 : Nat} {u1 u2 u3 : Tok} {y : Str} {pn : Pos} {ta : TE} {params : Arguments} {scope : Scope} {z c1 c2 c3 : Str} {p a1 a2 a3 b1 b2 b3 d1 d2 d3 p6 lpos kpos pos : Pos} (hcalm : X.calm = true) (hg : Gl X "sorted") (hm : X.mg "sorted" = none) (ha : PE X (.Name y pn) ta)
    (TB : TabB X.base X.mg c P) (hcode : X.env.code = .ref c) (L : Lam0 scope z c1 c2 c3) (hdef : defaultsOf params X.env = ([], [])) (m1 : X.mg c1 = some (.int n1 u1)) (m2 : X.mg c2 = some (.int n2 u2)) (m3 : X.mg c3 = some (.int n3 u3)) (hf : n1 < 5000 ∧ n2 < 5000 ∧ n3 < 5000)
    (hbind : ∀ (q : Str) (b : Expr) (cl : List (Str × Addr)) (pm cv ctv v : Value), bindArgs (PySem.W.kla_fn "<lambda>" q params b scope cl pm cv ctv) ⟨[v], []⟩ = pure [(z, v)]) (hr : Room (k + 3) X.A)
    (dz : (z == ("__debug__" : Str)) = false) (dc1 : (c1 == ("__debug__" : Str)) = false) (dc2 : (c2 == ("__debug__" : Str)) = false) (dc3 : (c3 == ("__debug__" : Str)) = false):
    PE X (.Call (.Name "sorted" p) [.Name y pn] [⟨some "key", .Lambda params (.Tuple [.Subscript (.Name z a1) (.Name c1 a2) a3, .Subscript (.Name z b1) (.Name c2 b2) b3, .Subscript (.Name z d1) (.Name c3 d2) d3] kk p6) scope lpos, kpos⟩] pos)
      (tSortRow X.K ta n1 n2 n3 P (X.env.qual ++ "<lambda>")) := by
  refine ⟨fun pins s σ H Q I h => ?_⟩
  refine wpAny_Call_Name_kw (ld_blt I hg hm boot_sorted ?_)
  refine PyProof.Rows.callWith_kw ?_
  refine Calls.spliced_cons (thn (ha.run pins s σ H _ I h) fun v s2 ⟨x, H2, I2, rv, q⟩ => ?_)
  obtain ⟨l, ts, f, rfl, hn, hl, hts, hT, q⟩ := q
  cases (show v = Value.ref l from rv)
  refine Calls.spliced_nil ?_
  show wpAny _ _ (evalAll ((do let v ← eval (.Lambda params (.Tuple [.Subscript (.Name z a1) (.Name c1 a2) a3, .Subscript (.Name z b1) (.Name c2 b2) b3, .Subscript (.Name z d1) (.Name c3 d2) d3] kk p6) scope lpos) X.env; standAt pos; pure v) :: [])) _ _ _
  have hfree : ∀ q ∈ scope.names, q.2 = .free → ∃ c, X.env.cells.lookup q.1 = some c := fun q hq e => absurd e (L.nf q hq)
  refine wpAny_evalAll_cons (wpAny_bind (lam_make2 (T := [(P, X.env.qual ++ "<lambda>")]) I2 TB hcode (by simp) (fun pp hp _ => by simp at hp; rw [hp]) (fun pp hp => by simp at hp; rw [hp]; exact hT) hdef hfree
    fun g c' pm ctv H3 s4 I5 eN T5 hgf hfn hfr hco => wpAny_bind (wpAny_standAt (wpAny_pure (wpAny_evalAll_nil ?_)))))
  have hT3 : TabS H3 P (X.env.qual ++ "<lambda>") := T5 _ (List.mem_singleton.mpr rfl)
  obtain ⟨its, rv, pl, hz⟩ := I5.list (sqL_ext eN hl)
  have ei := refs_at rv
  subst ei
  obtain ⟨⟨oc, vs, t, hoc, hdc, hvc⟩, _, _⟩ := I5.hok c' _ hco
  refine PySem.W.sorted_key_data (f := .ref g) (bs := ts) (R := fun v t => v = Value.ref t) (b := false) (key3 f) pl.isList (each_refs ts) ?_ ?_ (Nat.le_trans hn (by decide)) ?_ (PyProof.Rows.ksk_s1 _ _) (fun x => PyProof.Rows.ksk_l1 _ _) (fun x => PyProof.Rows.ksk_t1 _ _) ?_ ?_
  · intro d hd d' hd'
    obtain ⟨i, _, rfl⟩ := List.mem_map.mp hd
    obtain ⟨j, _, rfl⟩ := List.mem_map.mp hd'
    rfl
  · exact PySem.W.Sortable.tuples fun b => ⟨_, _, rfl⟩
  · intro i _
    have := hr.units
    show X.A.units + 2 + 1 < cLine
    omega
  · -- a call of the lambda
    rintro v t' rfl ht' hp tk kp
    obtain ⟨xs, hxs, e1, e2, e3⟩ := hts t' ht'
    obtain ⟨tis, tv, tpl, _⟩ := I5.tuple (sqT_ext eN hxs)
    obtain ⟨w1, f1, v1, rfl⟩ := tv.get e1
    obtain ⟨w2, f2, v2, rfl⟩ := tv.get e2
    obtain ⟨w3, f3, v3, rfl⟩ := tv.get e3
    have dp := (hr.in1.in1 : Room (k + 1) X.A.in1.in1).depth
    refine wpAny_call (codeAny_mono (R := fun r s' => ∃ v, r = .ok (.ret v) ∧ PySem.W.KeyPure (key3 f t') { s4 with heap := hp, toks := tk } v s') ?_ fun r s' hq => ?_)
    · refine PySem.W.kla_callFunE dp (kp _ _ hgf) rfl L.co L.gen rfl ⟨c', oc, vs, t, rfl, kp _ _ hoc, hdc, hvc⟩ ?_
      rw [hbind]
      refine wpAny_pure (wpAny_newFunctionEnv L.nc (fun q hq => ?_) (fun h1 hn1 hsb => ⟨((I5.kept (t' := tk) kp).nolimit).fresh _ hsb, ?_⟩) L.kind)
      · rw [List.mem_singleton.mp hq]
        exact L.z
      · have k1 : ∀ b o, hp.get? b = some o → h1.get? b = some o := fun b o e => hsb.extBut b o (Nat.ne_of_lt (Heap.lt_size e)) (Heap.get?_push_of_some _ e)
        have gl : h1.Ns mainGlobals X.mg := I5.mod.glob.keeps fun b o e => k1 b o (kp b o (I5.bk b o e))
        refine PySem.W.kla_codeExpr (wpAny_mono (keyR_eval (t := t') (its := tis) L.kind L.z hn1 (by simp) (show Heap.Ns _ _ X.mg from gl) L.g1 L.g2 L.g3 m1 m2 m3 ?_ f1 f2 f3 hf dz dc1 dc2 dc3) (fun v s' hq => ?_) fun e s' hq => hq)
        · obtain ⟨o, ho, r⟩ := tpl
          exact ⟨o, k1 _ _ (kp _ _ ho), r⟩
        · obtain ⟨h', tk', e, kk', rd⟩ := hq
          exact ⟨v, rfl, h', tk', by rw [e], fun b o q => kk' b o (k1 b o q), rd⟩
    · obtain ⟨v, rfl, hq⟩ := hq
      exact hq
  · -- the new list
    intro out c1' h' tk kp fresh hD hlen each
    have hv : Vals ((ts.mergeSort (PySem.W.dataLe false (key3 f))).map V.ref) out := by
      clear hD hlen
      revert each
      generalize ts.mergeSort (PySem.W.dataLe false (key3 f)) = js
      intro each
      induction each with
      | nil => exact .nil
      | cons r _ ih => exact .cons r ih
    have hl2 : ((ts.mergeSort (PySem.W.dataLe false (key3 f))).map V.ref).length ≤ sizeLine := by
      rw [List.length_map, (List.mergeSort_perm _ _).length_eq]
      exact Nat.le_trans hn (by decide)
    exact ⟨.ref _, _, I5.laid kp (Nat.le_succ _) (show ObjOk X.prog X.w _ h' _ (.lst _) from ⟨hl2, out, c1', hv, hD⟩), rfl, q _ _ eN hT3 (I5.hok.fresh (Nat.le_succ _))⟩
end
end Lr
namespace Th
open PySem PySem.Spec PyProof.Rows L2
/-! the text -/
def topS (i : Nat) : Stmt := PySem.Challenge.pw_throughlines_k49_seals_seen.main.body.getD i (.Pass ⟨0, 0, 0, 0⟩)
abbrev FnP (K : PySem.W.Frag) (x : Str) (st : Stmt) (f : Addr) (fd : FuncData) : Prop := FunD K x x (defArgs st) (defBody st) (defScope st) [] [] f fd
abbrev s_tie_between : Stmt := topS 1
abbrev N_tie_between : List Str := ["net", "place", "far", "one", "other", "line", "chains"]
theorem sc_tie_between : FnScope N_tie_between ["net", "place", "far"] (defScope s_tie_between) := ⟨rfl, rfl, rfl, by decide +kernel, rfl, by decide +kernel, by decide +kernel⟩
abbrev s_road_to_any : Stmt := topS 2
abbrev N_road_to_any : List Str := ["net", "line", "fars", "beside", "steps", "road", "nearer", "onward", "near"]
theorem sc_road_to_any : FnScope N_road_to_any ["net", "line", "fars"] (defScope s_road_to_any) := ⟨rfl, rfl, rfl, by decide +kernel, rfl, by decide +kernel, by decide +kernel⟩
abbrev s_steps_to : Stmt := topS 3
abbrev N_steps_to : List Str := ["beside", "fars", "steps", "many", "edge", "line", "near"]
theorem sc_steps_to : FnScope N_steps_to ["beside", "fars"] (defScope s_steps_to) := ⟨rfl, rfl, rfl, by decide +kernel, rfl, by decide +kernel, by decide +kernel⟩
abbrev s_lines_beside : Stmt := topS 4
abbrev N_lines_beside : List Str := ["net", "line"]
theorem sc_lines_beside : FnScope N_lines_beside ["net"] (defScope s_lines_beside) := ⟨rfl, rfl, rfl, by decide +kernel, rfl, by decide +kernel, by decide +kernel⟩
abbrev s_lines_joined : Stmt := topS 5
abbrev N_lines_joined : List Str := ["net", "line", "name", "joined", "beside"]
theorem sc_lines_joined : FnScope N_lines_joined ["net", "line"] (defScope s_lines_joined) := ⟨rfl, rfl, rfl, by decide +kernel, rfl, by decide +kernel, by decide +kernel⟩
abbrev s_gap_road : Stmt := topS 13
abbrev N_gap_road : List Str := ["net", "line", "junction", "over"]
theorem sc_gap_road : FnScope N_gap_road ["net", "line", "junction", "over"] (defScope s_gap_road) := ⟨rfl, rfl, rfl, by decide +kernel, rfl, by decide +kernel, by decide +kernel⟩
abbrev s_lines_from : Stmt := topS 14
abbrev N_lines_from : List Str := ["net", "junction", "over", "name", "joined", "line"]
theorem sc_lines_from : FnScope N_lines_from ["net", "junction", "over"] (defScope s_lines_from) := ⟨rfl, rfl, rfl, by decide +kernel, rfl, by decide +kernel, by decide +kernel⟩
abbrev s_in_order : Stmt := topS 15
abbrev N_in_order : List Str := ["returns"]
theorem sc_in_order : FnScope N_in_order ["returns"] (defScope s_in_order) := ⟨rfl, rfl, rfl, by decide +kernel, rfl, by decide +kernel, by decide +kernel⟩
abbrev s_lacks_ahead : Stmt := topS 16
abbrev N_lacks_ahead : List Str := ["net", "rows", "beside", "found", "row", "place"]
theorem sc_lacks_ahead : FnScope N_lacks_ahead ["net", "rows"] (defScope s_lacks_ahead) := ⟨rfl, rfl, rfl, by decide +kernel, rfl, by decide +kernel, by decide +kernel⟩
abbrev s_fewest_onward : Stmt := topS 17
abbrev N_fewest_onward : List Str := ["net", "rows", "lacks", "found", "row", "lack", "later", "fewest", "line"]
theorem sc_fewest_onward : FnScope N_fewest_onward ["net", "rows", "lacks"] (defScope s_fewest_onward) := ⟨rfl, rfl, rfl, by decide +kernel, rfl, by decide +kernel, by decide +kernel⟩
abbrev s_history : Stmt := topS 18
abbrev N_history : List Str := ["net", "line", "returns", "rows", "lacks", "fewest", "marks", "at", "row"]
theorem sc_history : FnScope N_history ["net", "line", "returns"] (defScope s_history) := ⟨rfl, rfl, rfl, by decide +kernel, rfl, by decide +kernel, by decide +kernel⟩
abbrev s_steps_of : Stmt := topS 19
abbrev N_steps_of : List Str := ["net", "line", "rows", "lacks", "fewest", "told", "at", "row", "lack", "road"]
theorem sc_steps_of : FnScope N_steps_of ["net", "line", "rows", "lacks", "fewest"] (defScope s_steps_of) := ⟨rfl, rfl, rfl, by decide +kernel, rfl, by decide +kernel, by decide +kernel⟩
abbrev s_held_returns : Stmt := topS 20
abbrev N_held_returns : List Str := ["steps", "returns", "by_number", "told", "road", "step", "row"]
theorem sc_held_returns : FnScope N_held_returns ["steps", "returns"] (defScope s_held_returns) := ⟨rfl, rfl, rfl, by decide +kernel, rfl, by decide +kernel, by decide +kernel⟩
abbrev s_ties_along : Stmt := topS 22
abbrev N_ties_along : List Str := ["net", "way", "place", "far"]
theorem sc_ties_along : FnScope N_ties_along ["net", "way"] (defScope s_ties_along) := ⟨rfl, rfl, rfl, by decide +kernel, rfl, by decide +kernel, by decide +kernel⟩
abbrev s_crossings : Stmt := topS 23
abbrev N_crossings : List Str := ["net", "way", "lines", "line", "chains", "place", "onward"]
theorem sc_crossings : FnScope N_crossings ["net", "way"] (defScope s_crossings) := ⟨rfl, rfl, rfl, by decide +kernel, rfl, by decide +kernel, by decide +kernel⟩
abbrev s_seals : Stmt := topS 25
abbrev N_seals : List Str := ["net", "way", "day", "steps", "returns", "passed", "told", "crossing", "found", "road", "line", "row", "at", "over", "seal"]
theorem sc_seals : FnScope N_seals ["net", "way", "day", "steps", "returns"] (defScope s_seals) := ⟨rfl, rfl, rfl, by decide +kernel, rfl, by decide +kernel, by decide +kernel⟩
abbrev s_l_bag : Stmt := topS 27
abbrev N_l_bag : List Str := ["_law_script", "_law_at", "_law_cell", "_law_great", "_law_primes"]
theorem sc_l_bag : FnScope N_l_bag ["_law_script", "_law_at"] (defScope s_l_bag) := ⟨rfl, rfl, rfl, by decide +kernel, rfl, by decide +kernel, by decide +kernel⟩
abbrev s_l_take : Stmt := topS 28
abbrev N_l_take : List Str := ["_law_bag_here", "_law_many", "_law_digit"]
theorem sc_l_take : FnScope N_l_take ["_law_bag_here", "_law_many"] (defScope s_l_take) := ⟨rfl, rfl, rfl, by decide +kernel, rfl, by decide +kernel, by decide +kernel⟩
abbrev s_l_names : Stmt := topS 29
abbrev N_l_names : List Str := ["_law_bag_here", "_law_many", "_law_letters", "_law_found", "_law_k", "_law_size", "_law_stem", "_law_turn"]
theorem sc_l_names : FnScope N_l_names ["_law_bag_here", "_law_many"] (defScope s_l_names) := ⟨rfl, rfl, rfl, by decide +kernel, rfl, by decide +kernel, by decide +kernel⟩
abbrev s_l_spots : Stmt := topS 30
abbrev N_l_spots : List Str := ["_law_bag_here", "_law_many", "_law_junctions", "_law_found", "_law_here", "_law_k", "_law_some", "_law_turn"]
theorem sc_l_spots : FnScope N_l_spots ["_law_bag_here", "_law_many", "_law_junctions"] (defScope s_l_spots) := ⟨rfl, rfl, rfl, by decide +kernel, rfl, by decide +kernel, by decide +kernel⟩
abbrev s_l_places : Stmt := topS 31
abbrev N_l_places : List Str := ["_law_bag_here", "_law_many", "_law_junctions", "_law_more", "_law_names_here", "_law_spots_here", "_law_first", "_law_last", "_law_towns", "_law_k"]
theorem sc_l_places : FnScope N_l_places ["_law_bag_here", "_law_many"] (defScope s_l_places) := ⟨rfl, rfl, rfl, by decide +kernel, rfl, by decide +kernel, by decide +kernel⟩
abbrev s_l_net : Stmt := topS 32
abbrev N_l_net : List Str := ["_law_bag_here", "_law_many", "_law_lines", "_law_places_here", "_law_row", "_law_ties", "_law_k", "_law_one", "_law_other", "_law_common", "_law_chains", "_law_near", "_law_line"]
theorem sc_l_net : FnScope N_l_net ["_law_bag_here"] (defScope s_l_net) := ⟨rfl, rfl, rfl, by decide +kernel, rfl, by decide +kernel, by decide +kernel⟩
abbrev s_l_laid : Stmt := topS 33
abbrev N_l_laid : List Str := ["_law_bag_here", "_law_lines", "_law_places_here", "_law_ties", "_law_stations", "_law_junctions", "_law_rows", "_law_name", "_law_some", "_law_one", "_law_other", "_law_tie_here", "_law_line"]
theorem sc_l_laid : FnScope N_l_laid ["_law_bag_here", "_law_lines", "_law_places_here", "_law_ties"] (defScope s_l_laid) := ⟨rfl, rfl, rfl, by decide +kernel, rfl, by decide +kernel, by decide +kernel⟩
abbrev s_l_tie : Stmt := topS 34
abbrev N_l_tie : List Str := ["_law_net_here", "_law_place", "_law_far", "_law_found", "_law_one"]
theorem sc_l_tie : FnScope N_l_tie ["_law_net_here", "_law_place", "_law_far"] (defScope s_l_tie) := ⟨rfl, rfl, rfl, by decide +kernel, rfl, by decide +kernel, by decide +kernel⟩
abbrev s_l_walk : Stmt := topS 35
abbrev N_l_walk : List Str := ["_law_bag_here", "_law_net_here", "_law_way", "_law_stations", "_law_found", "_law_turn", "_law_some", "_law_ends", "_law_one", "_law_tie_here", "_law_place", "_law_at"]
theorem sc_l_walk : FnScope N_l_walk ["_law_bag_here", "_law_net_here", "_law_way"] (defScope s_l_walk) := ⟨rfl, rfl, rfl, by decide +kernel, rfl, by decide +kernel, by decide +kernel⟩
abbrev s_l_trip : Stmt := topS 36
abbrev N_l_trip : List Str := ["_law_bag_here", "_law_net_here", "_law_way", "_law_wagon", "_law_day", "_law_over_here", "_law_found", "_law_junction", "_law_line", "_law_other", "_law_turn", "_law_lines", "_law_number", "_law_papers", "_law_k", "_law_one", "_law_laden", "_law_seal"]
theorem sc_l_trip : FnScope N_l_trip ["_law_bag_here", "_law_net_here", "_law_way", "_law_wagon", "_law_day"] (defScope s_l_trip) := ⟨rfl, rfl, rfl, by decide +kernel, rfl, by decide +kernel, by decide +kernel⟩
abbrev s_l_over : Stmt := topS 37
abbrev N_l_over : List Str := ["_law_net_here", "_law_way", "_law_found", "_law_at", "_law_one", "_law_other"]
theorem sc_l_over : FnScope N_l_over ["_law_net_here", "_law_way"] (defScope s_l_over) := ⟨rfl, rfl, rfl, by decide +kernel, rfl, by decide +kernel, by decide +kernel⟩
abbrev s_l_like : Stmt := topS 38
abbrev N_l_like : List Str := ["_law_told", "_law_due", "_law_one", "_law_other"]
theorem sc_l_like : FnScope N_l_like ["_law_told", "_law_due"] (defScope s_l_like) := ⟨rfl, rfl, rfl, by decide +kernel, rfl, by decide +kernel, by decide +kernel⟩
abbrev s_l_seen : Stmt := topS 39
abbrev N_l_seen : List Str := ["_law_net_here", "_law_way", "_law_day", "_law_steps", "_law_returns", "_law_held", "_law_found", "_law_crossing", "_law_fit", "_law_at", "_law_word", "_law_number", "_law_line", "_law_other", "_law_paper", "_law_step", "_law_one"]
theorem sc_l_seen : FnScope N_l_seen ["_law_net_here", "_law_way", "_law_day", "_law_steps", "_law_returns"] (defScope s_l_seen) := ⟨rfl, rfl, rfl, by decide +kernel, rfl, by decide +kernel, by decide +kernel⟩
abbrev s_law : Stmt := topS 40
abbrev N_law : List Str := ["_law_script", "_law_at", "_law_bag_here", "_law_net_here", "_law_way", "_law_day", "_law_returns", "_law_line", "_law_steps", "_law_handed", "_law_due", "_law_turn", "_law_told"]
theorem sc_law : FnScope N_law ["_law_script"] (defScope s_law) := ⟨rfl, rfl, rfl, by decide +kernel, rfl, by decide +kernel, by decide +kernel⟩
structure Defs (K : PySem.W.Frag) (mg : Str → Option Value) where
  a_tie_between : Addr
  d_tie_between : FuncData
  F_tie_between : FnP K "tie_between" s_tie_between a_tie_between d_tie_between
  g_tie_between : mg "tie_between" = some (.ref a_tie_between)
  b_tie_between : Binds K d_tie_between ["net", "place", "far"] []
  a_road_to_any : Addr
  d_road_to_any : FuncData
  F_road_to_any : FnP K "road_to_any" s_road_to_any a_road_to_any d_road_to_any
  g_road_to_any : mg "road_to_any" = some (.ref a_road_to_any)
  b_road_to_any : Binds K d_road_to_any ["net", "line", "fars"] []
  a_steps_to : Addr
  d_steps_to : FuncData
  F_steps_to : FnP K "steps_to" s_steps_to a_steps_to d_steps_to
  g_steps_to : mg "steps_to" = some (.ref a_steps_to)
  b_steps_to : Binds K d_steps_to ["beside", "fars"] []
  a_lines_beside : Addr
  d_lines_beside : FuncData
  F_lines_beside : FnP K "lines_beside" s_lines_beside a_lines_beside d_lines_beside
  g_lines_beside : mg "lines_beside" = some (.ref a_lines_beside)
  b_lines_beside : Binds K d_lines_beside ["net"] []
  a_lines_joined : Addr
  d_lines_joined : FuncData
  F_lines_joined : FnP K "lines_joined" s_lines_joined a_lines_joined d_lines_joined
  g_lines_joined : mg "lines_joined" = some (.ref a_lines_joined)
  b_lines_joined : Binds K d_lines_joined ["net", "line"] []
  a_gap_road : Addr
  d_gap_road : FuncData
  F_gap_road : FnP K "gap_road" s_gap_road a_gap_road d_gap_road
  g_gap_road : mg "gap_road" = some (.ref a_gap_road)
  b_gap_road : Binds K d_gap_road ["net", "line", "junction", "over"] []
  a_lines_from : Addr
  d_lines_from : FuncData
  F_lines_from : FnP K "lines_from" s_lines_from a_lines_from d_lines_from
  g_lines_from : mg "lines_from" = some (.ref a_lines_from)
  b_lines_from : Binds K d_lines_from ["net", "junction", "over"] []
  a_in_order : Addr
  d_in_order : FuncData
  F_in_order : FnP K "in_order" s_in_order a_in_order d_in_order
  g_in_order : mg "in_order" = some (.ref a_in_order)
  b_in_order : Binds K d_in_order ["returns"] []
  cc_in_order : Addr
  tp_in_order : Addr
  dc_in_order : d_in_order.code = .ref cc_in_order
  a_lacks_ahead : Addr
  d_lacks_ahead : FuncData
  F_lacks_ahead : FnP K "lacks_ahead" s_lacks_ahead a_lacks_ahead d_lacks_ahead
  g_lacks_ahead : mg "lacks_ahead" = some (.ref a_lacks_ahead)
  b_lacks_ahead : Binds K d_lacks_ahead ["net", "rows"] []
  a_fewest_onward : Addr
  d_fewest_onward : FuncData
  F_fewest_onward : FnP K "fewest_onward" s_fewest_onward a_fewest_onward d_fewest_onward
  g_fewest_onward : mg "fewest_onward" = some (.ref a_fewest_onward)
  b_fewest_onward : Binds K d_fewest_onward ["net", "rows", "lacks"] []
  a_history : Addr
  d_history : FuncData
  F_history : FnP K "history" s_history a_history d_history
  g_history : mg "history" = some (.ref a_history)
  b_history : Binds K d_history ["net", "line", "returns"] []
  a_steps_of : Addr
  d_steps_of : FuncData
  F_steps_of : FnP K "steps_of" s_steps_of a_steps_of d_steps_of
  g_steps_of : mg "steps_of" = some (.ref a_steps_of)
  b_steps_of : Binds K d_steps_of ["net", "line", "rows", "lacks", "fewest"] []
  a_held_returns : Addr
  d_held_returns : FuncData
  F_held_returns : FnP K "held_returns" s_held_returns a_held_returns d_held_returns
  g_held_returns : mg "held_returns" = some (.ref a_held_returns)
  b_held_returns : Binds K d_held_returns ["steps", "returns"] []
  a_ties_along : Addr
  d_ties_along : FuncData
  F_ties_along : FnP K "ties_along" s_ties_along a_ties_along d_ties_along
  g_ties_along : mg "ties_along" = some (.ref a_ties_along)
  b_ties_along : Binds K d_ties_along ["net", "way"] []
  a_crossings : Addr
  d_crossings : FuncData
  F_crossings : FnP K "crossings" s_crossings a_crossings d_crossings
  g_crossings : mg "crossings" = some (.ref a_crossings)
  b_crossings : Binds K d_crossings ["net", "way"] []
  a_seals : Addr
  d_seals : FuncData
  F_seals : FnP K "seals" s_seals a_seals d_seals
  g_seals : mg "seals" = some (.ref a_seals)
  b_seals : Binds K d_seals ["net", "way", "day", "steps", "returns"] []
  a_l_bag : Addr
  d_l_bag : FuncData
  F_l_bag : FnP K "_law_bag" s_l_bag a_l_bag d_l_bag
  g_l_bag : mg "_law_bag" = some (.ref a_l_bag)
  b_l_bag : Binds K d_l_bag ["_law_script", "_law_at"] []
  a_l_take : Addr
  d_l_take : FuncData
  F_l_take : FnP K "_law_take" s_l_take a_l_take d_l_take
  g_l_take : mg "_law_take" = some (.ref a_l_take)
  b_l_take : Binds K d_l_take ["_law_bag_here", "_law_many"] []
  a_l_names : Addr
  d_l_names : FuncData
  F_l_names : FnP K "_law_names" s_l_names a_l_names d_l_names
  g_l_names : mg "_law_names" = some (.ref a_l_names)
  b_l_names : Binds K d_l_names ["_law_bag_here", "_law_many"] []
  a_l_spots : Addr
  d_l_spots : FuncData
  F_l_spots : FnP K "_law_spots" s_l_spots a_l_spots d_l_spots
  g_l_spots : mg "_law_spots" = some (.ref a_l_spots)
  b_l_spots : Binds K d_l_spots ["_law_bag_here", "_law_many", "_law_junctions"] []
  a_l_places : Addr
  d_l_places : FuncData
  F_l_places : FnP K "_law_places" s_l_places a_l_places d_l_places
  g_l_places : mg "_law_places" = some (.ref a_l_places)
  b_l_places : Binds K d_l_places ["_law_bag_here", "_law_many"] []
  a_l_net : Addr
  d_l_net : FuncData
  F_l_net : FnP K "_law_net" s_l_net a_l_net d_l_net
  g_l_net : mg "_law_net" = some (.ref a_l_net)
  b_l_net : Binds K d_l_net ["_law_bag_here"] []
  a_l_laid : Addr
  d_l_laid : FuncData
  F_l_laid : FnP K "_law_laid" s_l_laid a_l_laid d_l_laid
  g_l_laid : mg "_law_laid" = some (.ref a_l_laid)
  b_l_laid : Binds K d_l_laid ["_law_bag_here", "_law_lines", "_law_places_here", "_law_ties"] []
  a_l_tie : Addr
  d_l_tie : FuncData
  F_l_tie : FnP K "_law_tie" s_l_tie a_l_tie d_l_tie
  g_l_tie : mg "_law_tie" = some (.ref a_l_tie)
  b_l_tie : Binds K d_l_tie ["_law_net_here", "_law_place", "_law_far"] []
  a_l_walk : Addr
  d_l_walk : FuncData
  F_l_walk : FnP K "_law_walk" s_l_walk a_l_walk d_l_walk
  g_l_walk : mg "_law_walk" = some (.ref a_l_walk)
  b_l_walk : Binds K d_l_walk ["_law_bag_here", "_law_net_here", "_law_way"] []
  a_l_trip : Addr
  d_l_trip : FuncData
  F_l_trip : FnP K "_law_trip" s_l_trip a_l_trip d_l_trip
  g_l_trip : mg "_law_trip" = some (.ref a_l_trip)
  b_l_trip : Binds K d_l_trip ["_law_bag_here", "_law_net_here", "_law_way", "_law_wagon", "_law_day"] []
  a_l_over : Addr
  d_l_over : FuncData
  F_l_over : FnP K "_law_over" s_l_over a_l_over d_l_over
  g_l_over : mg "_law_over" = some (.ref a_l_over)
  b_l_over : Binds K d_l_over ["_law_net_here", "_law_way"] []
  a_l_like : Addr
  d_l_like : FuncData
  F_l_like : FnP K "_law_like" s_l_like a_l_like d_l_like
  g_l_like : mg "_law_like" = some (.ref a_l_like)
  b_l_like : Binds K d_l_like ["_law_told", "_law_due"] []
  a_l_seen : Addr
  d_l_seen : FuncData
  F_l_seen : FnP K "_law_seen" s_l_seen a_l_seen d_l_seen
  g_l_seen : mg "_law_seen" = some (.ref a_l_seen)
  b_l_seen : Binds K d_l_seen ["_law_net_here", "_law_way", "_law_day", "_law_steps", "_law_returns"] []
  t_NUMBER : Tok
  c_NUMBER : mg "NUMBER" = some (.int 1 t_NUMBER)
  t_JUNCTION : Tok
  c_JUNCTION : mg "JUNCTION" = some (.int 3 t_JUNCTION)
  t_DAY : Tok
  c_DAY : mg "DAY" = some (.int 4 t_DAY)
  t_HOUR : Tok
  c_HOUR : mg "HOUR" = some (.int 5 t_HOUR)
  t_OVER : Tok
  c_OVER : mg "OVER" = some (.int 7 t_OVER)
  t_SEAL : Tok
  c_SEAL : mg "SEAL" = some (.int 9 t_SEAL)
  z_abs : mg "abs" = none
  z_all : mg "all" = none
  z_bool : mg "bool" = none
  z_dict : mg "dict" = none
  z_enumerate : mg "enumerate" = none
  z_int : mg "int" = none
  z_isinstance : mg "isinstance" = none
  z_len : mg "len" = none
  z_list : mg "list" = none
  z_max : mg "max" = none
  z_min : mg "min" = none
  z_range : mg "range" = none
  z_reversed : mg "reversed" = none
  z_set : mg "set" = none
  z_sorted : mg "sorted" = none
  z_tuple : mg "tuple" = none
  z_zip : mg "zip" = none
end Th
namespace Th
open PySem PySem.Spec PyProof.Rows L2
section
variable {P : Program} {w : World} {K : PySem.W.Frag} {mg : Str → Option Value} {base : Heap} {k : Nat}
theorem ok_l_bag (T : Defs K mg) : FnOk P w K mg base CX0 (k + 1) T.a_l_bag T.d_l_bag ["_law_script", "_law_at"] (sp_bag K) := by
  refine T.F_l_bag.ok sc_l_bag (fun vs H Q E h => ?_) (fun cdv A outer s H vs Q E hr h => ?_)
  · obtain ⟨a, ns, i, rfl, _⟩ := h
    rfl
  · obtain ⟨a, ns, i, rfl, hS, hi, q⟩ := h
    refine ⟨_, PSs.nox
(pss_cons (ps_set (i := 2) sc_l_bag.nd rfl (.inl rfl) (pe_int))
    (pss_cons (ps_if (pt_cmpR op_lt (pv 1) (pe_callB (r := rLenS K) call_lenS (by rfl) T.z_len (by decide +kernel) (pa_cons (pv 0) pa_nil)) (nomark _))
      (pss_one (ps_set (i := 2) sc_l_bag.nd rfl (.inl rfl) (pe_ix (r := rIxL K) ix_list (pv 0) (pv 1) (fun _ _ => rfl))))
      pss_nil)
    (pss_cons (ps_set (i := 3) sc_l_bag.nd rfl (.inl rfl) (pe_int))
    (pss_cons (ps_if (pt_cmpR op_ge (pe_callB call_abs (by rfl) T.z_abs (by decide +kernel) (pa_cons (pv 2) pa_nil)) (pe_op op_pow (pe_int) (pe_int)) (nomark _))
      (pss_one (ps_set (i := 3) sc_l_bag.nd rfl (.inl rfl) (pe_callB call_abs (by rfl) T.z_abs (by decide +kernel) (pa_cons (pv 2) pa_nil))))
      pss_nil)
    (pss_cons (ps_set (i := 4) sc_l_bag.nd rfl (.inl rfl) (pe_lst (pa_cons (pe_int) (pa_cons (pe_int) (pa_cons (pe_int) (pa_cons (pe_int) (pa_cons (pe_int) (pa_cons (pe_int) (pa_cons (pe_int) (pa_cons (pe_int) pa_nil))))))))))
    (pss_one (ps_ret (pe_lst (pa_cons (pv 3) (pa_cons (pe_op op_mod (pe_op op_pow (pe_op op_add (pe_op op_add (pe_op op_mod (pv 2) (pe_int)) (pe_op op_mul (pe_int) (pv 1))) (pe_int)) (pe_int)) (pe_ix (r := rIxL K) ix_list (pv 4) (pe_op op_mod (pv 1) (pe_int)) (fun _ _ => rfl))) pa_nil))))))))))
      , ?_⟩
    obtain ⟨pr, hp, hp0, hp1⟩ := primes_at i
    have fin : ∀ (c g : Int), 0 ≤ g → ∀ l, H l = none → ∀ H1, H1 = upd H l (.lst [V.int 2147483629, .int 2147483587, .int 2147483579, .int 2147483563, .int 2147483549, .int 2147483543, .int 2147483497, .int 2147483489]) →
        ∀ p, H1 p = none → Q (.ref p) (upd H1 p (.lst [.int g, .int ((c % 2147483647 + 104729 * (i : Int) + 7) ^ (5 : Int).toNat % pr)])) := by
      intro c g hg l nl H1 e p np
      have s1 : Same H H1 := by rw [e]; exact same_upd nl
      exact q _ p (s1.trans (same_upd np)) (s1.free np) ⟨g, _, upd_same, hg, Int.emod_nonneg _ (by omega), Int.lt_trans (Int.emod_lt_of_pos _ hp0) hp1⟩
    refine ⟨.int i, rfl, .ref a, rfl, a, ns.map V.int, rfl, .inl hS, _, _, rfl, rfl, _, rfl, ite2 (fun e => ?_) (fun e => ?_)⟩
    · have lt : i < ns.length := by
        have := of_decide_eq_true e
        rw [List.length_map] at this
        omega
      have g1 : (ns.map V.int)[i]? = some (.int ns[i]) := by
        rw [List.getElem?_map, List.getElem?_eq_getElem lt]
        rfl
      refine ⟨.ref a, rfl, .int i, rfl, a, _, (i : Int), .int ns[i], rfl, rfl, hS, atI_nat g1, ?_⟩
      refine ⟨.int ns[i], rfl, _, rfl, 10, 18, rfl, rfl, ⟨by decide, by decide, by decide⟩, _, _, rfl, rfl, _, rfl, ite2 (fun e => ?_) (fun e => ?_)⟩
      · refine ⟨.int ns[i], rfl, _, rfl, ?_⟩
        refine ⟨by show 8 ≤ sizeLine; decide, fun l nl => ?_⟩
        refine ⟨_, rfl, .int ns[i], rfl, ns[i], 2147483647, rfl, rfl, pA, .int i, rfl, 104729, i, rfl, rfl, .inl ⟨by decide, by decide⟩, _, _, rfl, rfl, _, 7, rfl, rfl, _, 5, rfl, rfl, ⟨by decide, by decide, ?_⟩, .ref l, rfl, .int i, rfl, i, 8, rfl, rfl, p8, l, _, _, _, rfl, rfl, SqL.of upd_same, hp, _, pr, rfl, rfl, hp0, by show 2 ≤ sizeLine; decide, fin ns[i] _ ?_ l nl _ rfl⟩
        · omega
        · split <;> omega
      · refine ⟨by show 8 ≤ sizeLine; decide, fun l nl => ?_⟩
        refine ⟨_, rfl, .int ns[i], rfl, ns[i], 2147483647, rfl, rfl, pA, .int i, rfl, 104729, i, rfl, rfl, .inl ⟨by decide, by decide⟩, _, _, rfl, rfl, _, 7, rfl, rfl, _, 5, rfl, rfl, ⟨by decide, by decide, ?_⟩, .ref l, rfl, .int i, rfl, i, 8, rfl, rfl, p8, l, _, _, _, rfl, rfl, SqL.of upd_same, hp, _, pr, rfl, rfl, hp0, by show 2 ≤ sizeLine; decide, fin ns[i] 0 (by decide) l nl _ rfl⟩
        omega
    · refine ⟨.int 0, rfl, _, rfl, 10, 18, rfl, rfl, ⟨by decide, by decide, by decide⟩, _, _, rfl, rfl, _, rfl, ite2 (fun e => ?_) (fun e => ?_)⟩
      · exact absurd (of_decide_eq_true e) (by decide)
      · refine ⟨by show 8 ≤ sizeLine; decide, fun l nl => ?_⟩
        refine ⟨_, rfl, .int 0, rfl, 0, 2147483647, rfl, rfl, pA, .int i, rfl, 104729, i, rfl, rfl, .inl ⟨by decide, by decide⟩, _, _, rfl, rfl, _, 7, rfl, rfl, _, 5, rfl, rfl, ⟨by decide, by decide, ?_⟩, .ref l, rfl, .int i, rfl, i, 8, rfl, rfl, p8, l, _, _, _, rfl, rfl, SqL.of upd_same, hp, _, pr, rfl, rfl, hp0, by show 2 ≤ sizeLine; decide, fin 0 0 (by decide) l nl _ rfl⟩
        omega
theorem ok_l_take (T : Defs K mg) : FnOk P w K mg base CX0 (k + 1) T.a_l_take T.d_l_take ["_law_bag_here", "_law_many"] sp_take := by
  refine T.F_l_take.ok sc_l_take (fun vs H Q E h => ?_) (fun cdv A outer s H vs Q E hr h => ?_)
  · obtain ⟨p, m, rfl, _⟩ := h
    rfl
  · obtain ⟨p, m, rfl, ⟨g, r, hp, g0, r0, r1⟩, m0, m1, q⟩ := h
    refine ⟨_, PSs.nox
(pss_cons (ps_if (pt_cmpR op_gt (pe_ix (r := rIxL K) ix_list (pv 0) (pe_int) (fun _ _ => rfl)) (pe_int) (nomark _))
      (pss_cons (ps_set (i := 2) sc_l_take.nd rfl (.inl rfl) (pe_op op_mod (pe_ix (r := rIxL K) ix_list (pv 0) (pe_int) (fun _ _ => rfl)) (pv 1)))
      (pss_cons (ps_asg (pe_op op_fdiv (pe_ix (r := rIxL K) ix_list (pv 0) (pe_int) (fun _ _ => rfl)) (pv 1)) (pg_sub (pv 0) (pe_int) set_list))
      (pss_one (ps_ret (pv 2)))))
      pss_nil)
    (pss_cons (ps_asg (pe_op op_mod (pe_op op_add (pe_op op_mul (pe_ix (r := rIxL K) ix_list (pv 0) (pe_int) (fun _ _ => rfl)) (pe_int)) (pe_int)) (pe_int)) (pg_sub (pv 0) (pe_int) set_list))
    (pss_one (ps_ret (pe_op op_mod (pe_op op_mod (pe_op op_pow (pe_op op_fdiv (pe_ix (r := rIxL K) ix_list (pv 0) (pe_int) (fun _ _ => rfl)) (pe_int)) (pe_int)) (pe_int)) (pv 1))))))
      , ?_⟩
    refine ⟨.ref p, rfl, p, _, 0, .int g, rfl, rfl, SqL.of hp, atI_nat (j := 0) rfl, _, 0, rfl, rfl, _, rfl, ite2 (fun e => ?_) (fun e => ?_)⟩
    · refine ⟨.ref p, rfl, p, _, 0, .int g, rfl, rfl, SqL.of hp, atI_nat (j := 0) rfl, .int m, rfl, g, m, rfl, rfl, m0, ?_⟩
      refine ⟨.ref p, rfl, p, _, 0, .int g, rfl, rfl, SqL.of hp, atI_nat (j := 0) rfl, .int m, rfl, g, m, rfl, rfl, ⟨m0, m1⟩, .ref p, rfl, p, _, 0, 0, rfl, rfl, hp, rfl, ?_⟩
      refine ⟨_, rfl, q _ _ Keep.upd ⟨_, _, upd_same, ?_, r0, r1⟩ (Int.emod_nonneg _ (by omega)) (Int.emod_lt_of_pos _ m0)⟩
      exact Int.ediv_nonneg g0 (by omega)
    · refine ⟨.ref p, rfl, p, _, 1, .int r, rfl, rfl, SqL.of hp, atI_nat (j := 1) rfl, r, 48271, rfl, rfl, .inr ⟨by decide, by decide⟩, _, 11, rfl, rfl, _, 2147483647, rfl, rfl, pA, .ref p, rfl, p, _, 1, 1, rfl, rfl, hp, rfl, ?_⟩
      have hz0 : 0 ≤ (r * 48271 + 11) % 2147483647 := Int.emod_nonneg _ (by decide)
      have hz1 : (r * 48271 + 11) % 2147483647 < 2147483647 := Int.emod_lt_of_pos _ (by decide)
      refine ⟨.ref p, rfl, p, _, 1, _, rfl, rfl, SqL.of upd_same, atI_nat (j := 1) rfl, (r * 48271 + 11) % 2147483647, 8, rfl, rfl, ⟨by decide, by decide⟩, _, 3, rfl, rfl, ⟨by decide, by decide, ?_⟩, _, 2147483629, rfl, rfl, pB, .int m, rfl, _, m, rfl, rfl, m0, ?_⟩
      · omega
      · exact q _ _ Keep.upd ⟨_, _, upd_same, g0, hz0, by omega⟩ (Int.emod_nonneg _ (by omega)) (Int.emod_lt_of_pos _ m0)
end
section
variable {P : Program} {w : World} {K : PySem.W.Frag} {mg : Str → Option Value} {base : Heap} {k : Nat}
theorem ok_l_like (T : Defs K mg) : ∀ n : Nat, FnOk P w K mg base CX0 n T.a_l_like T.d_l_like ["_law_told", "_law_due"] (sp_like n) := by
  intro n
  induction n with
  | zero =>
    exact ⟨fun vs H Q E ⟨v, u, d, _, _, _, _, z, _⟩ => absurd z (Nat.not_lt_zero _), fun A outer s H args us vs Q E _ _ _ _ ⟨v, u, d, _, _, _, _, z, _⟩ => absurd z (Nat.not_lt_zero _)⟩
  | succ n ih =>
  have G_l_like := ih
  refine T.F_l_like.ok sc_l_like (fun vs H Q E h => ?_) (fun cdv A outer s H vs Q E hr h => ?_)
  · obtain ⟨v, u, d, rfl, _⟩ := h
    rfl
  · obtain ⟨v, u, d, rfl, hv, hu, hlay, hdep, hn, q⟩ := h
    refine ⟨_, PSs.nox
(pss_cons (ps_if (PW.pt (pw_or (pt_cmpR op_ne (pe_callB call_isi (by rfl) T.z_isinstance (by decide +kernel) (pa_cons (pv 0) (pa_cons (pe_bltn (v := .ty "bool") (by rfl) T.z_bool (by decide +kernel) rfl) pa_nil))) (pe_callB call_isi (by rfl) T.z_isinstance (by decide +kernel) (pa_cons (pv 1) (pa_cons (pe_bltn (v := .ty "bool") (by rfl) T.z_bool (by decide +kernel) rfl) pa_nil))) (nomark _)) (pw_or1 (pt_cmpR (r := rNeD K) (op_neD hr.units) (pv 0) (pv 1) (nomark _)))))
      (pss_one (ps_ret (pe_bl)))
      pss_nil)
    (pss_cons (ps_if (pt_val (pe_callB call_isiT (by rfl) T.z_isinstance (by decide +kernel) (pa_cons (pv 0) (pa_cons (pe_tup (pa_cons (pe_bltn (v := .ty "list") (by rfl) T.z_list (by decide +kernel) rfl) (pa_cons (pe_bltn (v := .ty "tuple") (by rfl) T.z_tuple (by decide +kernel) rfl) pa_nil))) pa_nil))))
      (pss_one (ps_ret (pe_callB (r := rAll K) (cr_all rfl) (by rfl) T.z_all (by decide +kernel) (pa_cons (pe_lc (own := [("_law_one", 2), ("_law_other", 3)]) (g := gTup K 2 (gCons (gName 2) (gCons (gName 3) gNil))) rfl sc_l_like.nd (RZ.pi_zipA (by rfl) T.z_zip (pa_cons (pv 0) (pa_cons (pv 1) pa_nil))) (blkOk_by (N := N_l_like) (sc := defScope s_l_like) (by decide +kernel)) (fun _ _ _ _ _ => (pg_tup rfl (pgs_cons (pg_name (i := 2) sc_l_like.nd rfl (.inl rfl)) (pgs_cons (pg_name (i := 3) sc_l_like.nd rfl (.inl rfl)) pgs_nil)))) (fun _ _ _ _ _ => pts_nil) (fun _ _ _ _ _ => (pe_call G_l_like hr (by rfl) T.g_l_like T.F_l_like.kp T.b_l_like .nil pass0 (pa_cons (pv 2) (pa_cons (pv 3) pa_nil))))) pa_nil))))
      pss_nil)
    (pss_one (ps_ret (pe_bl)))))
      , ?_⟩
    have hsh : SeqAt.shaped d = true := Bool.and_eq_true_iff.mpr ⟨hlay, decide_eq_true (by omega)⟩
    refine ⟨v, rfl, v, .ty "bool", _, _, _, rfl, .ty "bool", hv.ty, kit_bool hv, u, rfl, u, .ty "bool", _, _, _, rfl, .ty "bool", hu.ty, kit_bool hu, rfl, _, rfl, iteNS rfl ?_⟩
    refine ⟨v, rfl, u, rfl, d, d, hv.dp, hu.dp, hsh, hsh, _, rfl, ?_⟩
    rw [SeqAt.eqv_refl d hlay]
    refine iteF ?_
    refine ⟨v, rfl, by show 2 ≤ sizeLine; decide, fun t nt => ?_⟩
    have s1 : Same H (upd H t (.tup [.ty "list", .ty "tuple"])) := same_upd nt
    have hv1 := hv.same s1
    have hu1 := hu.same s1
    refine ⟨v, t, [.ty "list", .ty "tuple"], _, _, _, rfl, upd_same, .cons (.ty _) (.cons (.ty _) .nil), hv1.ty, kit_seq hv1, _, rfl, ?_⟩
    generalize upd H t (.tup [.ty "list", .ty "tuple"]) = H1 at s1 hv1 hu1
    cases hv1 with
    | non => exact iteF (q _ s1)
    | bl b => exact iteF (q _ s1)
    | int b => exact iteF (q _ s1)
    | str b => exact iteF (q _ s1)
    | @lst a xs ds _ ea la ra =>
      cases hu1 with
      | @lst b ys _ _ eb lb rb =>
      refine iteT ?_
      have lx := ra.len
      have ly := rb.len
      refine ⟨.ref a, rfl, .ref b, rfl, a, b, xs, ys, rfl, .inl ⟨SqL.of ea, SqL.of eb, fun D nD => ?_⟩⟩
      refine lc_it (walk_zip (n := xs.length) (xs := xs) (ys := ys) (by omega)) (fun i H3 => Same H1 H3 ∧ H3 D = some (.lst (List.replicate i (V.bl true)))) ⟨same_upd nD, upd_same⟩ (fun i H3 _ p => ⟨SqL.of (p.1 _ _ ea), SqL.of (p.1 _ _ eb)⟩) (fun i x H3 H4 hi p y => ?_) (fun H3 p => ?_)
      · obtain ⟨t1, x1, y1, rfl, nT, rfl, e1, e2⟩ := y
        obtain ⟨d1, f1, hd1⟩ := ra.get e1
        obtain ⟨d2, f2, hd2⟩ := rb.get e2
        have e12 : d1 = d2 := Option.some.inj (f1.symm.trans f2)
        subst e12
        have s2 : Same H1 (upd H3 t1 (.tup [x1, y1])) := p.1.trans (same_upd nT)
        refine ⟨t1, [x1, y1], rfl, SqT.of upd_same, rfl, x1, [y1], rfl, y1, [], rfl, rfl, rfl, yes_ ?_⟩
        refine ⟨x1, rfl, y1, rfl, x1, y1, d1, rfl, hd1.same s2, hd2.same s2, lay_mem hlay f1, ?_, by omega, fun H5 s5 => ?_⟩
        · have := depth_mem f1
          rw [PyData.depth] at hdep
          omega
        · have eD : H5 D = some (.lst (List.replicate i (V.bl true))) := s5 _ _ (same_upd nT _ _ p.2)
          refine ⟨_, eD, by rw [List.length_replicate]; exact small5000 (by omega), fun c o e => ?_, ?_⟩
          · rw [upd_ne (ne_of_none e nD)]
            exact s5 _ _ (s2 _ _ e)
          · rw [upd_same, List.replicate_succ']
      · refine ⟨D, List.replicate xs.length true, rfl, SqL.of (by rw [p.2, List.map_replicate]), ?_⟩
        rw [show (List.replicate xs.length true).all id = true from by simp]
        exact q _ (s1.trans p.1)
    | @tup a xs ds _ ea la ra =>
      cases hu1 with
      | @tup b ys _ _ eb lb rb =>
      refine iteT ?_
      have lx := ra.len
      have ly := rb.len
      refine ⟨.ref a, rfl, .ref b, rfl, a, b, xs, ys, rfl, .inr ⟨SqT.of ea, SqT.of eb, fun D nD => ?_⟩⟩
      refine lc_it (walk_zipT (n := xs.length) (xs := xs) (ys := ys) (by omega)) (fun i H3 => Same H1 H3 ∧ H3 D = some (.lst (List.replicate i (V.bl true)))) ⟨same_upd nD, upd_same⟩ (fun i H3 _ p => ⟨SqT.of (p.1 _ _ ea), SqT.of (p.1 _ _ eb)⟩) (fun i x H3 H4 hi p y => ?_) (fun H3 p => ?_)
      · obtain ⟨t1, x1, y1, rfl, nT, rfl, e1, e2⟩ := y
        obtain ⟨d1, f1, hd1⟩ := ra.get e1
        obtain ⟨d2, f2, hd2⟩ := rb.get e2
        have e12 : d1 = d2 := Option.some.inj (f1.symm.trans f2)
        subst e12
        have s2 : Same H1 (upd H3 t1 (.tup [x1, y1])) := p.1.trans (same_upd nT)
        refine ⟨t1, [x1, y1], rfl, SqT.of upd_same, rfl, x1, [y1], rfl, y1, [], rfl, rfl, rfl, yes_ ?_⟩
        refine ⟨x1, rfl, y1, rfl, x1, y1, d1, rfl, hd1.same s2, hd2.same s2, lay_mem hlay f1, ?_, by omega, fun H5 s5 => ?_⟩
        · have := depth_mem f1
          rw [PyData.depth] at hdep
          omega
        · have eD : H5 D = some (.lst (List.replicate i (V.bl true))) := s5 _ _ (same_upd nT _ _ p.2)
          refine ⟨_, eD, by rw [List.length_replicate]; exact small5000 (by omega), fun c o e => ?_, ?_⟩
          · rw [upd_ne (ne_of_none e nD)]
            exact s5 _ _ (s2 _ _ e)
          · rw [upd_same, List.replicate_succ']
      · refine ⟨D, List.replicate xs.length true, rfl, SqL.of (by rw [p.2, List.map_replicate]), ?_⟩
        rw [show (List.replicate xs.length true).all id = true from by simp]
        exact q _ (s1.trans p.1)
end
end Th
namespace Th
open PySem PySem.Spec PyProof.Rows L2
/-! drawn names -/
/-- what is known of the k-th name -/
def NmAt (k : Nat) (l : List Nat) : Prop := (∃ st, l = st ++ [97 + k % 26] ∧ Lower st ∧ st.length ≤ 7) ∧ (k ≤ 25 → l.length ≤ 7) ∧ (25 < k → l.length = 8)
theorem NmAt.nm {k : Nat} {l : List Nat} (h : NmAt k l) : IsNm l := by
  obtain ⟨⟨st, rfl, hl, hn⟩, _⟩ := h
  refine ⟨by rw [List.length_append]; simp, by rw [List.length_append]; simp; omega, fun c hc => ?_⟩
  rcases List.mem_append.mp hc with z | z
  · exact hl c z
  · rw [List.mem_singleton.mp z]
    omega
theorem nm_unlike {i j : Nat} {a b : List Nat} (hi : NmAt i a) (hj : NmAt j b) (h : i < j) (hj2 : j < 52) : a ≠ b := fun e => by
  obtain ⟨⟨s1, e1, _⟩, h1, _⟩ := hi
  obtain ⟨⟨s2, e2, _⟩, _, h3⟩ := hj
  have l1 : a.getLast? = some (97 + i % 26) := by rw [e1]; simp
  have l2 : b.getLast? = some (97 + j % 26) := by rw [e2]; simp
  rw [e, l2] at l1
  have := Option.some.inj l1
  have h4 := h1 (by omega)
  have h5 := h3 (by omega)
  rw [e] at h4
  omega
theorem nm_nodup {zs : List (List Nat)} (h : ∀ k l, zs[k]? = some l → NmAt k l) (hn : zs.length ≤ 52) : zs.Nodup := by
  rw [List.nodup_iff_pairwise_ne, List.pairwise_iff_getElem]
  intro i j hi hj hij
  exact nm_unlike (h i _ (List.getElem?_eq_getElem hi)) (h j _ (List.getElem?_eq_getElem hj)) hij (by omega)
section
variable {P : Program} {w : World} {K : PySem.W.Frag} {mg : Str → Option Value} {base : Heap} {k : Nat}
def sp_l_names : Sp := fun vs H Q _ => ∃ (p : Addr) (n : Nat), vs = [.ref p, .int n] ∧ Bag H p ∧ n ≤ 52 ∧ ∀ (H' : Hp) (l : Addr) (zs : List (List Nat)), Keep p H H' → Bag H' p → H l = none → H' l = some (.lst (zs.map nS)) → zs.length = n → zs.Nodup → (∀ z ∈ zs, IsNm z) → (∀ k l, zs[k]? = some l → NmAt k l) → Q (.ref l) H'
set_option maxHeartbeats 8000000 in
theorem ok_l_names (T : Defs K mg) : FnOk P w K mg base CX0 (k + 2) T.a_l_names T.d_l_names ["_law_bag_here", "_law_many"] sp_l_names := by
  have G_l_take : FnOk P w K mg base CX0 (k + 1) _ _ _ _ := ok_l_take T
  refine T.F_l_names.ok sc_l_names (fun vs H Q E h => ?_) (fun cdv A outer s H vs Q E hr h => ?_)
  · obtain ⟨p, n, rfl, _⟩ := h
    rfl
  · obtain ⟨p, n, rfl, b, hn, q⟩ := h
    refine ⟨_, PSs.nox
(pss_cons (ps_set (i := 2) sc_l_names.nd rfl (.inr rfl) (pe_str))
    (pss_cons (ps_set (i := 3) sc_l_names.nd rfl (.inl rfl) (pe_lst pa_nil))
    (pss_cons (ps_for PassesOwn.never rfl (pi_range1 (by rfl) T.z_range (pa_cons (pv 1) pa_nil)) (pg_name (i := 4) sc_l_names.nd rfl (.inl rfl))
      (Evl.pss_cut (ps_set (i := 5) sc_l_names.nd rfl (.inl rfl) (pe_ifExp (pt_cmpR op_gt (pv 4) (pe_int) (nomark _)) (pe_int) (pe_call G_l_take hr (by rfl) T.g_l_take T.F_l_take.kp T.b_l_take .nil pass0 (pa_cons (pv 0) (pa_cons (pe_int) pa_nil)))))
      (pss_cons (ps_set (i := 6) sc_l_names.nd rfl (.inl rfl) (pe_join (pe_str) (pe_lc (own := [("_law_turn", 7)]) (g := gName 7) rfl sc_l_names.nd (pi_range1 (by rfl) T.z_range (pa_cons (pv 5) pa_nil)) (blkOk_by (N := N_l_names) (sc := defScope s_l_names) (by decide +kernel)) (fun _ _ _ _ _ => (pg_name (i := 7) sc_l_names.nd rfl (.inl rfl))) (fun _ _ _ _ _ => pts_nil) (fun _ _ _ _ _ => (pe_ix ix_str (pv 2) (pe_call G_l_take hr (by rfl) T.g_l_take T.F_l_take.kp T.b_l_take .nil pass0 (pa_cons (pv 0) (pa_cons (pe_int) pa_nil))) (fun _ _ => rfl))))))
      (pss_one (ps_expr (pe_bm PySem.F.plainAttrs_list PySem.F.slot_list_append PySem.F.type_list_append mt_append (pv 3) (pa_cons (pe_op op_add_str (pv 6) (pe_ix ix_str (pv 2) (pe_op op_mod (pv 4) (pe_int)) (fun _ _ => rfl))) pa_nil)))))))
    (pss_one (ps_ret (pv 3))))))
      , ?_⟩
    refine ⟨Nat.zero_le _, fun F nF => ?_⟩
    have nFp : F ≠ p := b.ne nF
    refine ⟨.int n, rfl, n, rfl, by omega, by omega, ?_⟩
    rw [Int.toNat_natCast]
    refine for_range (lo := 0) (n := n) (fun i σ H3 => ∃ (y4 y5 y6 : Option V) (zs : List (List Nat)), σ = [some (.ref p), some (.int n), some (.str abc), some (.ref F), y4, y5, y6, none] ∧ Keep p H H3 ∧ Bag H3 p ∧ zs.length = i ∧ (∀ k l, zs[k]? = some l → NmAt k l) ∧ H3 F = some (.lst (zs.map nS)))
      ⟨none, none, none, [], rfl, .of (same_upd nF), b.keep (same_upd nF), rfl, fun k l h => by simp at h, upd_same⟩ (fun i σ H3 hi hp => ?_) (fun σ H3 hp => ?_)
    · obtain ⟨y4, y5, y6, zs, rfl, k3, b3, hl, hz, eF⟩ := hp
      -- size
      refine ⟨fun σ H4 => ∃ sz : Nat, σ = [some (.ref p), some (.int n), some (.str abc), some (.ref F), some (.int (0 + (i : Int))), some (.int sz), y6, none] ∧ Keep p H H4 ∧ Bag H4 p ∧ H4 F = some (.lst (zs.map nS)) ∧ (i ≤ 25 → sz ≤ 6) ∧ (25 < i → sz = 7), ?_, fun σ H4 mid => ?_⟩
      · refine ⟨.int (0 + (i : Int)), rfl, _, _, rfl, rfl, _, rfl, ite2 (fun c => ?_) (fun c => ?_)⟩
        · have c := of_decide_eq_true c
          exact ⟨7, rfl, k3, b3, eF, fun _ => by omega, fun _ => rfl⟩
        · have c : ¬ 25 < 0 + (i : Int) := fun z => c (decide_eq_true z)
          refine ⟨.ref p, rfl, p, 7, rfl, b3, by decide, by decide, fun H4 d k4 b4 d0 d1 => ?_⟩
          obtain ⟨sz, rfl⟩ : ∃ sz : Nat, d = (sz : Int) := ⟨d.toNat, by omega⟩
          exact ⟨sz, rfl, k3.trans k4, b4, k4 _ _ nFp eF, fun _ => by omega, fun _ => by omega⟩
      obtain ⟨sz, rfl, k4, b4, eF, hs1, hs2⟩ := mid
      -- stem
      refine ⟨⟨_, rfl⟩, .int sz, rfl, sz, rfl, by omega, by omega, fun D nD => ?_⟩
      have nDp : D ≠ p := b4.ne nD
      have nFD : F ≠ D := ne_of_none eF nD
      rw [Int.toNat_natCast]
      refine lc_it walk_range (fun j H5 => Keep p H4 H5 ∧ Bag H5 p ∧ ∃ cs : List Nat, cs.length = j ∧ Lower cs ∧ H5 D = some (.lst (((cs.map fun c => [c]).map SX.S).map V.str))) ⟨.of (same_upd nD), b4.keep (same_upd nD), [], rfl, fun c hc => by simp at hc, upd_same⟩ (fun _ _ _ _ => trivial) (fun j x H5 H6 hj pv y => ?_) (fun H5 pv => ?_)
      · obtain ⟨rfl, rfl⟩ := y
        obtain ⟨k5, b5, cs, hcl, hcs, eD⟩ := pv
        refine ⟨rfl, yes_ ?_⟩
        refine ⟨.str abc, rfl, .ref p, rfl, p, 26, rfl, b5, by decide, by decide, fun H7 d k7 b7 d0 d1 => ?_⟩
        refine ⟨abc, d, _, rfl, rfl, by decide +kernel, abc_at d0 d1, _, k7 _ _ nDp eD, by rw [List.length_map, List.length_map, List.length_map]; exact small5000 (by omega), ?_, b7.at (upd_ne nDp.symm), cs ++ [97 + d.toNat], by rw [List.length_append, hcl]; rfl, fun c hc => ?_, by rw [upd_same, List.map_append, List.map_append, List.map_append]; rfl⟩
        · intro c o nc ec
          rw [upd_ne (fun z => by rw [z] at ec; rw [nD] at ec; cases ec)]
          exact k7 _ _ nc (k5 _ _ nc ec)
        · rcases List.mem_append.mp hc with z | z
          · exact hcs c z
          · rw [List.mem_singleton.mp z]
            omega
      obtain ⟨k5, b5, cs, hcl, hcs, eD⟩ := pv
      have eF5 := k5 _ _ nFp eF
      have k5 := k4.trans k5
      refine ⟨_, D, (cs.map fun c => [c]).map SX.S, rfl, rfl, .inl (SqL.of eD), ?_, ?_⟩
      · rw [SX.lens, List.map_map, List.length_map, List.length_map]
        have e1 : (cs.map ((fun x : List Nat => x.length) ∘ fun c => [c])).sum = cs.length := by
          clear eD hcs hcl
          induction cs with
          | nil => rfl
          | cons c cs ih => rw [List.map_cons, List.sum_cons, ih, List.length_cons]; show 1 + _ = _; omega
        rw [e1]
        show cs.length + cs.length * 0 ≤ 16777216
        omega
      have ej : Txt.join (Str.ofString "") ((cs.map fun c => [c]).map SX.S) = SX.S cs := join_signs cs
      rw [ej]
      -- found.append(stem + letters[k % 26])
      have hm0 : 0 ≤ (0 + (i : Int)) % 26 := Int.emod_nonneg _ (by decide)
      have hm1 : (0 + (i : Int)) % 26 < 26 := Int.emod_lt_of_pos _ (by decide)
      refine ⟨.ref F, rfl, .inl ⟨rfl, _, SqL.of eF5⟩, nS cs, rfl, .str abc, rfl, .int (0 + (i : Int)), rfl, _, 26, rfl, rfl, p26, abc, _, _, rfl, rfl, by decide +kernel, abc_at hm0 hm1, _, _, rfl, rfl, ?_, ?_⟩
      · rw [SX.S_len]
        show cs.length + 1 ≤ sizeLine
        exact Nat.le_of_lt (small5000 (by omega))
      have ei : ((0 + (i : Int)) % 26).toNat = i % 26 := by omega
      refine ⟨F, _, _, rfl, rfl, eF5, by rw [List.length_map, hl]; exact small5000 (by omega), ?_⟩
      refine ⟨_, _, _, zs ++ [cs ++ [97 + i % 26]], rfl, fun c o nc ec => ?_, b5.at (upd_ne nFp.symm), by rw [List.length_append, hl]; rfl, fun k l hk => ?_, ?_⟩
      · rw [upd_ne (ne_of_none ec nF)]
        exact k5 _ _ nc ec
      · by_cases hk2 : k < zs.length
        · rw [List.getElem?_append_left hk2] at hk
          exact hz k l hk
        · rw [List.getElem?_append_right (by omega)] at hk
          have ek : k = i := by
            have := (List.getElem?_eq_some_iff.mp hk).1
            simp at this
            omega
          subst ek
          rw [hl, Nat.sub_self] at hk
          have := Option.some.inj hk
          subst this
          refine ⟨⟨cs, rfl, hcs, by omega⟩, fun h => ?_, fun h => ?_⟩
          · have := hs1 h
            rw [List.length_append]
            show cs.length + 1 ≤ 7
            omega
          · have := hs2 h
            rw [List.length_append]
            show cs.length + 1 = 8
            omega
      · rw [upd_same, List.map_append]
        show some (HO.lst (zs.map nS ++ [V.str (SX.S cs ++ SX.S [97 + ((0 + (i : Int)) % 26).toNat])])) = _
        rw [SX.S_cat, ei]
        rfl
    · obtain ⟨y4, y5, y6, zs, rfl, k3, b3, hl, hz, eF⟩ := hp
      refine ⟨.ref F, rfl, q _ F zs k3 b3 nF eF hl (nm_nodup hz (by omega)) (fun z hm => ?_) hz⟩
      obtain ⟨j, hj⟩ := List.getElem?_of_mem hm
      exact (hz j z hj).nm
end
end Th
namespace Th
open PySem PySem.Spec PyProof.Rows L2
/-! drawn spots: sorted lists of lines' places -/
abbrev jV (js : List Nat) : List V := js.map fun j => V.int ((j : Nat) : Int)
/-- strictly rising, below n, two at least -/
structure Spot (n : Nat) (js : List Nat) : Prop where
  rise : js.Pairwise (· < ·)
  lt : ∀ j ∈ js, j < n
  two : 2 ≤ js.length
theorem rise_len : ∀ {js : List Nat} {lo n : Nat}, js.Pairwise (· < ·) → (∀ j ∈ js, lo ≤ j ∧ j < n) → js.length + lo ≤ n ∨ js = []
  | [], _, _, _, _ => .inr rfl
  | a :: js, lo, n, h, hb => by
    have h' := List.pairwise_cons.mp h
    have ha := hb a (List.mem_cons_self ..)
    rcases rise_len (lo := a + 1) (n := n) h'.2 (fun j hj => ⟨h'.1 j hj, (hb j (List.mem_cons_of_mem _ hj)).2⟩) with z | z
    · rw [List.length_cons]
      omega
    · rw [z]
      simp only [List.length_cons, List.length_nil]
      omega
theorem Spot.len8 {n : Nat} {js : List Nat} (s : Spot n js) (h : n ≤ 8) : js.length ≤ 8 := by
  rcases rise_len (lo := 0) s.rise (fun j hj => ⟨Nat.zero_le _, s.lt j hj⟩) with z | z
  · omega
  · rw [z]
    exact Nat.zero_le _
theorem two_of {ns : List Int} {x y : Int} (hx : x ∈ ns) (hy : y ∈ ns) (h : x ≠ y) : 2 ≤ ns.length := by
  cases ns with
  | nil => cases hx
  | cons a r =>
    cases r with
    | nil =>
      rw [List.mem_singleton] at hx hy
      exact absurd (hx.trans hy.symm) h
    | cons b r =>
      rw [List.length_cons, List.length_cons]
      omega
theorem nats_of {ns : List Int} (h : ∀ x ∈ ns, 0 ≤ x) : ns = (ns.map Int.toNat).map fun j => ((j : Nat) : Int) := by
  rw [List.map_map]
  conv => lhs; rw [← List.map_id ns]
  refine List.map_congr_left fun x hx => ?_
  have := h x hx
  show x = ((x.toNat : Nat) : Int)
  omega
theorem ints_nats {ns : List Int} (h : ∀ x ∈ ns, 0 ≤ x) : ns.map V.int = jV (ns.map Int.toNat) := by
  conv => lhs; rw [nats_of h]
  rw [List.map_map]
  rfl
/-- neighbours have one in common -/
def Chained : List (List Nat) → Prop
  | a :: b :: r => (∃ x, x ∈ a ∧ x ∈ b) ∧ Chained (b :: r)
  | _ => True
theorem Chained.snoc : ∀ {qs : List (List Nat)} {a b : List Nat}, Chained (qs ++ [a]) → (∃ x, x ∈ a ∧ x ∈ b) → Chained (qs ++ [a] ++ [b])
  | [], a, b, _, h => ⟨h, trivial⟩
  | [c], a, b, h0, h => ⟨h0.1, h, trivial⟩
  | c :: d :: qs, a, b, h0, h => ⟨h0.1, Chained.snoc (qs := d :: qs) h0.2 h⟩
/-- lists of whole numbers at addresses -/
abbrev LLs (H : Hp) : List Addr → List (List Nat) → Prop := Paired fun a js => H a = some (.lst (jV js))
section
variable {P : Program} {w : World} {K : PySem.W.Frag} {mg : Str → Option Value} {base : Heap} {k : Nat}
def sp_l_spots : Sp := fun vs H Q _ => ∃ (p : Addr) (n m : Nat), vs = [.ref p, .int n, .int m] ∧ Bag H p ∧ 2 ≤ n ∧ n ≤ 8 ∧ 1 ≤ m ∧ m ≤ 12 ∧
  ∀ (H' : Hp) (l : Addr) (as : List Addr) (qs : List (List Nat)), Keep p H H' → Bag H' p → H l = none → H' l = some (.lst (as.map V.ref)) → qs.length = m → LLs H' as qs → (∀ a ∈ as, H a = none ∧ a ≠ l ∧ a ≠ p) → (∀ js ∈ qs, Spot n js) → Chained qs → Q (.ref l) H'
set_option maxHeartbeats 8000000 in
theorem ok_l_spots (T : Defs K mg) : FnOk P w K mg base CX0 (k + 2) T.a_l_spots T.d_l_spots ["_law_bag_here", "_law_many", "_law_junctions"] sp_l_spots := by
  have G_l_take : FnOk P w K mg base CX0 (k + 1) _ _ _ _ := ok_l_take T
  refine T.F_l_spots.ok sc_l_spots (fun vs H Q E h => ?_) (fun cdv A outer s H vs Q E hr h => ?_)
  · obtain ⟨p, n, m, rfl, _⟩ := h
    rfl
  · obtain ⟨p, n, m, rfl, b, n2, n8, m1, m12, q⟩ := h
    refine ⟨_, PSs.nox
(pss_cons (ps_set (i := 3) sc_l_spots.nd rfl (.inl rfl) (pe_lst pa_nil))
    (pss_cons (ps_set (i := 4) sc_l_spots.nd rfl (.inl rfl) (pe_call G_l_take hr (by rfl) T.g_l_take T.F_l_take.kp T.b_l_take .nil pass0 (pa_cons (pv 0) (pa_cons (pv 1) pa_nil))))
    (pss_cons (ps_for PassesOwn.never rfl (pi_range1 (by rfl) T.z_range (pa_cons (pv 2) pa_nil)) (pg_name (i := 5) sc_l_spots.nd rfl (.inl rfl))
      (pss_cons (ps_set (i := 6) sc_l_spots.nd rfl (.inl rfl) (pe_lst (pa_cons (pv 4) (pa_cons (pe_op op_mod (pe_op op_add (pe_op op_add (pv 4) (pe_int)) (pe_call G_l_take hr (by rfl) T.g_l_take T.F_l_take.kp T.b_l_take .nil pass0 (pa_cons (pv 0) (pa_cons (pe_op op_sub (pv 1) (pe_int)) pa_nil)))) (pv 1)) pa_nil))))
      (pss_cons (ps_for PassesOwn.never rfl (pi_range1 (by rfl) T.z_range (pa_cons (pe_op op_fdiv (pe_call G_l_take hr (by rfl) T.g_l_take T.F_l_take.kp T.b_l_take .nil pass0 (pa_cons (pv 0) (pa_cons (pe_int) pa_nil))) (pe_int)) pa_nil)) (pg_name (i := 7) sc_l_spots.nd rfl (.inl rfl))
        (pss_one (ps_expr (pe_bm PySem.F.plainAttrs_list PySem.F.slot_list_append PySem.F.type_list_append mt_append (pv 6) (pa_cons (pe_call G_l_take hr (by rfl) T.g_l_take T.F_l_take.kp T.b_l_take .nil pass0 (pa_cons (pv 0) (pa_cons (pv 1) pa_nil))) pa_nil)))))
      (pss_cons (ps_expr (pe_bm PySem.F.plainAttrs_list PySem.F.slot_list_append PySem.F.type_list_append mt_append (pv 3) (pa_cons (pe_callB (cr_sortedSet rfl) (by rfl) T.z_sorted (by decide +kernel) (pa_cons (pe_callTy (Sl.call_setI rfl) (by rfl) T.z_set (by decide +kernel) (pa_cons (pv 6) pa_nil)) pa_nil)) pa_nil)))
      (pss_one (ps_set (i := 4) sc_l_spots.nd rfl (.inl rfl) (pe_ix (r := rIxL K) ix_list (pe_ix (r := rIxL K) ix_list (pv 3) (pe_un un_neg (pe_int)) (fun _ _ => rfl)) (pe_call G_l_take hr (by rfl) T.g_l_take T.F_l_take.kp T.b_l_take .nil pass0 (pa_cons (pv 0) (pa_cons (pe_callB (r := rLenS K) call_lenS (by rfl) T.z_len (by decide +kernel) (pa_cons (pe_ix (r := rIxL K) ix_list (pv 3) (pe_un un_neg (pe_int)) (fun _ _ => rfl)) pa_nil)) pa_nil))) (fun _ _ => rfl))))))))
    (pss_one (ps_ret (pv 3))))))
      , ?_⟩
    refine ⟨Nat.zero_le _, fun F nF => ?_⟩
    have nFp : F ≠ p := b.ne nF
    -- here
    refine ⟨.ref p, rfl, .int n, rfl, p, n, rfl, b.keep (same_upd nF), by omega, by omega, fun H2 h0 k2 b2 h00 h01 => ?_⟩
    have eF2 : H2 F = some (.lst (([] : List Addr).map V.ref)) := k2 _ _ nFp upd_same
    have k2 : Keep p H H2 := (Keep.of (same_upd nF)).trans k2
    refine ⟨.int m, rfl, m, rfl, by omega, by omega, ?_⟩
    rw [Int.toNat_natCast]
    refine for_range (lo := 0) (n := m) (fun i σ H3 => ∃ (hh : Nat) (y5 y6 y7 : Option V) (as : List Addr) (qs : List (List Nat)), σ = [some (.ref p), some (.int n), some (.int m), some (.ref F), some (.int hh), y5, y6, y7] ∧ hh < n ∧ Keep p H H3 ∧ Bag H3 p ∧ H3 F = some (.lst (as.map V.ref)) ∧ qs.length = i ∧ LLs H3 as qs ∧ (∀ a ∈ as, H a = none ∧ a ≠ F ∧ a ≠ p) ∧ (∀ js ∈ qs, Spot n js) ∧ Chained qs ∧ (∀ js, qs.getLast? = some js → hh ∈ js))
      ⟨h0.toNat, none, none, none, [], [], by rw [show ((h0.toNat : Nat) : Int) = h0 by omega]; rfl, by omega, k2, b2, eF2, rfl, .nil, fun a ha => by simp at ha, fun a ha => by simp at ha, trivial, fun js h => by simp at h⟩ (fun i σ H3 hi hp => ?_) (fun σ H3 hp => ?_)
    · obtain ⟨hh, y5, y6, y7, as, qs, rfl, hh1, k3, b3, eF, hq, hL, hfr, hsp, hch, hlast⟩ := hp
      -- some = [here, (here + 1 + take(bag, many - 1)) % many]
      refine ⟨.int hh, rfl, .int hh, rfl, hh, 1, rfl, rfl, .ref p, rfl, .int n, rfl, n, 1, rfl, rfl, p, (n : Int) - 1, rfl, b3, by omega, by omega, fun H4 d k4 b4 d0 d1 => ?_⟩
      refine ⟨_, d, rfl, rfl, .int n, rfl, _, n, rfl, rfl, by omega, by show 2 ≤ sizeLine; decide, fun S nS => ?_⟩
      have nSp : S ≠ p := b4.ne nS
      have r0 : 0 ≤ ((hh : Int) + 1 + d) % (n : Int) := Int.emod_nonneg _ (by omega)
      have r1 : ((hh : Int) + 1 + d) % (n : Int) < n := Int.emod_lt_of_pos _ (by omega)
      have ne2 : (hh : Int) ≠ ((hh : Int) + 1 + d) % (n : Int) := by
        by_cases c : (hh : Int) + 1 + d < n
        · rw [Int.emod_eq_of_lt (by omega) c]
          omega
        · rw [← Int.sub_emod_right, Int.emod_eq_of_lt (by omega) (by omega)]
          omega
      dsimp only
      generalize ((hh : Int) + 1 + d) % (n : Int) = x2 at r0 r1 ne2 ⊢
      have eF4 : (upd H4 S (.lst [.int hh, .int x2])) F = some (.lst (as.map V.ref)) := same_upd nS _ _ (k4 _ _ nFp eF)
      have nFS : F ≠ S := ne_of_none (k4 _ _ nFp eF) nS
      have nHS : H S = none := k3.free b (k4.free b3 nS b4) b3
      -- for turn in range(take(bag, 4) // 2)
      refine ⟨.ref p, rfl, p, 4, rfl, b4.keep (same_upd nS), by decide, by decide, fun H5 d5 k5 b5 d50 d51 => ?_⟩
      have eS5 : H5 S = some (.lst (([(hh : Int), x2] : List Int).map V.int)) := k5 _ _ nSp upd_same
      have eF5 := k5 _ _ nFp eF4
      have k5 : Keep p H3 H5 := k4.trans ((Keep.of (same_upd nS)).trans k5)
      refine ⟨d5, 2, rfl, rfl, ⟨by decide, by decide⟩, _, rfl, by omega, by omega, ?_⟩
      refine for_range (lo := 0) (n := (d5 / 2).toNat) (fun j σ H6 => ∃ (y7 : Option V) (xs : List Int), σ = [some (.ref p), some (.int n), some (.int m), some (.ref F), some (.int hh), some (.int (0 + (i : Int))), some (.ref S), y7] ∧ Keep p H3 H6 ∧ Bag H6 p ∧ H6 F = some (.lst (as.map V.ref)) ∧ xs.length = 2 + j ∧ (∀ x ∈ xs, 0 ≤ x ∧ x < n) ∧ (hh : Int) ∈ xs ∧ x2 ∈ xs ∧ H6 S = some (.lst (xs.map V.int)))
        ⟨_, [(hh : Int), x2], rfl, k5, b5, eF5, rfl, fun x hx => by
          simp only [List.mem_cons, List.not_mem_nil, or_false] at hx
          omega, by simp, by simp, eS5⟩ (fun j σ H6 hj hp => ?_) (fun σ H6 hp => ?_)
      · obtain ⟨y7, xs, rfl, k6, b6, eF6, hxl, hx, hm1, hm2, eS6⟩ := hp
        refine ⟨.ref S, rfl, .inl ⟨rfl, _, SqL.of eS6⟩, .ref p, rfl, .int n, rfl, p, n, rfl, b6, by omega, by omega, fun H7 d7 k7 b7 d70 d71 => ?_⟩
        refine ⟨S, _, _, rfl, rfl, k7 _ _ nSp eS6, by rw [List.length_map, hxl]; exact small5000 (by omega), ?_⟩
        refine ⟨_, xs ++ [d7], rfl, fun c o nc ec => ?_, b7.at (upd_ne nSp.symm), by rw [upd_ne nFS]; exact k7 _ _ nFp eF6, by rw [List.length_append, hxl]; rfl, fun x hx' => ?_, List.mem_append_left _ hm1, List.mem_append_left _ hm2, by rw [upd_same, List.map_append]; rfl⟩
        · have nS3 : H3 S = none := k4.free b3 nS b4
          rw [upd_ne (ne_of_none ec nS3)]
          exact k7 _ _ nc (k6 _ _ nc ec)
        · rcases List.mem_append.mp hx' with z | z
          · exact hx x z
          · rw [List.mem_singleton.mp z]
            exact ⟨d70, d71⟩
      obtain ⟨y7, xs, rfl, k6, b6, eF6, hxl, hx, hm1, hm2, eS6⟩ := hp
      -- found.append(sorted(set(some)))
      refine ⟨.ref F, rfl, .inl ⟨rfl, _, SqL.of eF6⟩, .ref S, rfl, S, xs, rfl, SqL.of eS6, by omega, fun se c nse hc => ?_⟩
      refine ⟨se, _, c, rfl, upd_same, by omega, fun ns so pw mem len nso => ?_⟩
      have s7 : Same H6 (upd (upd H6 se (SetO w se (fun j => decide (j ∈ xs)) c)) so (.lst (ns.map V.int))) := (same_upd nse).trans (same_upd nso)
      have memx : ∀ x, x ∈ ns ↔ x ∈ xs := fun x => (mem x).trans decide_eq_true_iff
      have hns : ∀ x ∈ ns, 0 ≤ x ∧ x < n := fun x h => hx x ((memx x).mp h)
      have h2 : 2 ≤ ns.length := two_of ((memx _).mpr hm1) ((memx _).mpr hm2) ne2
      have eso : (upd (upd H6 se (SetO w se (fun j => decide (j ∈ xs)) c)) so (.lst (ns.map V.int))) so = some (.lst (jV (ns.map Int.toNat))) := by
        rw [upd_same, ints_nats fun x h => (hns x h).1]
      have nso6 : H6 so = none := (same_upd nse).free nso
      have nsop : so ≠ p := b6.ne nso6
      have nsoF : so ≠ F := (ne_of_none eF6 nso6).symm
      have k7 : Keep p H3 _ := k6.trans (.of s7)
      have b7 := b6.keep s7
      have eF7 := s7 _ _ eF6
      refine ⟨F, _, _, rfl, rfl, eF7, by rw [List.length_map, paired_len hL, hq]; exact small5000 (by omega), ?_⟩
      have spot : Spot n (ns.map Int.toNat) := by
        refine ⟨?_, fun j hj => ?_, by rw [List.length_map]; exact h2⟩
        · rw [List.pairwise_map]
          refine List.Pairwise.imp_of_mem ?_ pw
          intro a b ha hb hab
          have := hns a ha
          have := hns b hb
          omega
        · obtain ⟨x, hx', rfl⟩ := List.mem_map.mp hj
          have := hns x hx'
          omega
      have inH : hh ∈ ns.map Int.toNat := List.mem_map.mpr ⟨(hh : Int), (memx _).mpr hm1, by omega⟩
      have hjl : (ns.map Int.toNat).length ≤ 8 := by rw [List.length_map]; omega
      generalize ns.map Int.toNat = js at eso spot inH hjl
      obtain ⟨H7, hH7⟩ : ∃ X, X = upd (upd H6 se (SetO w se (fun j => decide (j ∈ xs)) c)) so (.lst (ns.map V.int)) := ⟨_, rfl⟩
      rw [← hH7] at s7 eso k7 b7 eF7
      -- here = found[-1][take(bag, len(found[-1]))]
      have eF8 : (upd H7 F (.lst (as.map V.ref ++ [.ref so]))) F = some (.lst ((as ++ [so]).map V.ref)) := by
        rw [upd_same, List.map_append]
        rfl
      have eso8 : (upd H7 F (.lst (as.map V.ref ++ [.ref so]))) so = some (.lst (jV js)) := by rw [upd_ne nsoF]; exact eso
      have b8 : Bag (upd H7 F (.lst (as.map V.ref ++ [.ref so]))) p := b7.at (upd_ne nFp.symm)
      have k8 : Keep p H (upd H7 F (.lst (as.map V.ref ++ [.ref so]))) := fun c o nc ec => by
        rw [upd_ne (ne_of_none ec nF)]
        exact k7 _ _ nc (k3 _ _ nc ec)
      have o8 : ∀ a o, a ≠ F → a ≠ p → H3 a = some o → (upd H7 F (.lst (as.map V.ref ++ [.ref so]))) a = some o := fun a o n1 n2 e => by
        rw [upd_ne n1]
        exact k7 _ _ n2 e
      subst hH7
      have lastR : atI ((as ++ [so]).map V.ref) (-1) = some (.ref so) := by
        rw [List.map_append]
        exact atI_last _ _
      refine ⟨.ref F, rfl, 1, rfl, F, _, -1, .ref so, rfl, rfl, SqL.of eF8, lastR, .ref p, rfl, .ref F, rfl, 1, rfl, F, _, -1, .ref so, rfl, rfl, SqL.of eF8, lastR, so, jV js, rfl, .inl (SqL.of eso8), p, js.length, by rw [List.length_map]; rfl, b8, by have := spot.two; omega, by omega, fun H9 d9 k9 b9 d90 d91 => ?_⟩
      obtain ⟨jj, rfl⟩ : ∃ jj : Nat, d9 = (jj : Int) := ⟨d9.toNat, by omega⟩
      have hjj : jj < js.length := by omega
      have gj : (jV js)[jj]? = some (.int (js[jj] : Nat)) := by
        rw [List.getElem?_map, List.getElem?_eq_getElem hjj]
        rfl
      refine ⟨so, _, (jj : Int), _, rfl, rfl, SqL.of (k9 _ _ nsop eso8), atI_nat gj, ?_⟩
      have nFp' := nFp
      refine ⟨js[jj], _, _, _, as ++ [so], qs ++ [js], rfl, spot.lt _ (List.getElem_mem hjj), k8.trans k9, b9, k9 _ _ nFp eF8, by rw [List.length_append, hq]; rfl, ?_, fun a ha => ?_, fun x hx => ?_, ?_, fun x hx => ?_⟩
      · refine paired_snoc (paired_imp hL fun a ha x e => ?_) (k9 _ _ nsop eso8)
        obtain ⟨_, f1, f2⟩ := hfr a ha
        exact k9 _ _ f2 (o8 _ _ f1 f2 e)
      · rcases List.mem_append.mp ha with z | z
        · exact hfr a z
        · rw [List.mem_singleton.mp z]
          exact ⟨k3.free b (k6.free b3 nso6 b6) b3, nsoF, nsop⟩
      · rcases List.mem_append.mp hx with z | z
        · exact hsp x z
        · rw [List.mem_singleton.mp z]
          exact spot
      · cases hqs : qs.getLast? with
        | none =>
          rw [List.getLast?_eq_none_iff] at hqs
          rw [hqs]
          exact trivial
        | some z =>
          obtain ⟨q0, rfl⟩ := List.getLast?_eq_some_iff.mp hqs
          exact Chained.snoc hch ⟨hh, hlast z hqs, inH⟩
      · rw [List.getLast?_concat] at hx
        rw [← Option.some.inj hx]
        exact List.getElem_mem hjj
    · obtain ⟨hh, y5, y6, y7, as, qs, rfl, hh1, k3, b3, eF, hq, hL, hfr, hsp, hch, hlast⟩ := hp
      exact ⟨.ref F, rfl, q _ F as qs k3 b3 nF eF hq hL hfr hsp hch⟩
end
end Th
namespace Th
open PySem PySem.Spec PyProof.Rows L2
/-! drawn places -/
theorem Chained.ends {f l : Nat} {ss : List (List Nat)} {a b : List Nat} (hc : Chained ss) (ha : ss.head? = some a) (hb : ss.getLast? = some b) (hf : f ∈ a) (hl : l ∈ b) : Chained (([f] :: ss) ++ [[l]]) := by
  have h1 : Chained ([f] :: ss) := by
    cases ss with
    | nil => cases ha
    | cons c r =>
      have := Option.some.inj ha
      subst this
      exact ⟨⟨f, by simp, hf⟩, hc⟩
  obtain ⟨q0, rfl⟩ := List.getLast?_eq_some_iff.mp hb
  exact Chained.snoc (qs := [f] :: q0) h1 ⟨l, hl, by simp⟩
/-- what is known of the lines by their numbers, place by place -/
structure PlQ (n J : Nat) (qs : List (List Nat)) : Prop where
  form : ∃ (f l : Nat) (ss : List (List Nat)) (tw : List Nat), qs = (([f] :: ss) ++ [[l]]) ++ tw.map (fun x => [x]) ∧ ss.length = J ∧ (∀ js ∈ ss, Spot n js) ∧ f < n ∧ l < n ∧ (∀ x ∈ tw, x < n) ∧ Chained (([f] :: ss) ++ [[l]]) ∧ tw.length ≤ 14
  most : J ≤ 12
theorem PlQ.len {n J : Nat} {qs : List (List Nat)} (h : PlQ n J qs) : J + 2 ≤ qs.length ∧ qs.length ≤ 28 := by
  obtain ⟨f, l, ss, tw, rfl, h1, _, _, _, _, _, h2⟩ := h.form
  have := h.most
  simp only [List.length_append, List.length_cons, List.length_map, List.length_nil]
  omega
/-- a list of pairs of a name and a list of numbers -/
structure PlAt (p : Addr) (H : Hp) (l : Addr) (ts : List Addr) (zs : List (List Nat)) (as : List Addr) (qs : List (List Nat)) : Prop where
  lst : H l = some (.lst (ts.map V.ref))
  tup : Lz.Tups H ts ((zs.map nS).zip (as.map V.ref))
  ll : LLs H as qs
  lz : zs.length = qs.length
  lt : ts.length = qs.length
  np : l ≠ p ∧ (∀ t ∈ ts, t ≠ p) ∧ ∀ a ∈ as, a ≠ p
theorem PlAt.keep {p : Addr} {H H' : Hp} {l : Addr} {ts as : List Addr} {zs qs : List (List Nat)} (h : PlAt p H l ts zs as qs) (k : Keep p H H') : PlAt p H' l ts zs as qs :=
  ⟨k _ _ h.np.1 h.lst, paired_imp h.tup fun t ht q e => k _ _ (h.np.2.1 t ht) e, paired_imp h.ll fun a ha q e => k _ _ (h.np.2.2 a ha) e, h.lz, h.lt, h.np⟩
section
variable {P : Program} {w : World} {K : PySem.W.Frag} {mg : Str → Option Value} {base : Heap} {k : Nat}
def sp_l_places : Sp := fun vs H Q _ => ∃ (p : Addr) (n : Nat), vs = [.ref p, .int n] ∧ Bag H p ∧ 1 ≤ n ∧ n ≤ 8 ∧
  ∀ (H' : Hp) (l : Addr) (ts as : List Addr) (zs qs : List (List Nat)) (J : Nat), Keep p H H' → Bag H' p → PlAt p H' l ts zs as qs → PlQ n J qs → zs.Nodup → (∀ z ∈ zs, IsNm z) → (∀ k l, zs[k]? = some l → NmAt k l) → H l = none → (∀ t ∈ ts, H t = none) → (∀ a ∈ as, H a = none) → Q (.ref l) H'
set_option maxHeartbeats 8000000 in
theorem ok_l_places (T : Defs K mg) : FnOk P w K mg base CX0 (k + 3) T.a_l_places T.d_l_places ["_law_bag_here", "_law_many"] sp_l_places := by
  have G_l_take : FnOk P w K mg base CX0 (k + 2) _ _ _ _ := ok_l_take (k := k + 1) T
  have G_l_names : FnOk P w K mg base CX0 (k + 2) _ _ _ _ := ok_l_names T
  have G_l_spots : FnOk P w K mg base CX0 (k + 2) _ _ _ _ := ok_l_spots T
  refine T.F_l_places.ok sc_l_places (fun vs H Q E h => ?_) (fun cdv A outer s H vs Q E hr h => ?_)
  · obtain ⟨p, n, rfl, _⟩ := h
    rfl
  · obtain ⟨p, n, rfl, b, n1, n8, q⟩ := h
    refine ⟨_, PSs.nox
(pss_cons (ps_set (i := 2) sc_l_places.nd rfl (.inl rfl) (pe_op op_mul (pe_ix (r := rIxT K) ix_tup (pe_tup (pa_cons (pe_int) (pa_cons (pe_int) (pa_cons (pe_int) (pa_cons (pe_int) (pa_cons (pe_int) (pa_cons (pe_int) pa_nil))))))) (pe_call G_l_take hr (by rfl) T.g_l_take T.F_l_take.kp T.b_l_take .nil pass0 (pa_cons (pv 0) (pa_cons (pe_int) pa_nil))) (fun _ _ => rfl)) (pe_callTy call_int1 (by rfl) T.z_int (by decide +kernel) (pa_cons (pe_cmpR op_gt (pv 1) (pe_int) (nomark _)) pa_nil))))
    (pss_cons (ps_set (i := 3) sc_l_places.nd rfl (.inl rfl) (pe_call G_l_take hr (by rfl) T.g_l_take T.F_l_take.kp T.b_l_take .nil pass0 (pa_cons (pv 0) (pa_cons (pe_int) pa_nil))))
    (pss_cons (ps_set (i := 4) sc_l_places.nd rfl (.inl rfl) (pe_call G_l_names hr (by rfl) T.g_l_names T.F_l_names.kp T.b_l_names .nil pass0 (pa_cons (pv 0) (pa_cons (pe_op op_add (pe_op op_add (pv 2) (pe_int)) (pv 3)) pa_nil))))
    (Evl.pss_cut (ps_set (i := 5) sc_l_places.nd rfl (.inl rfl) (pe_ifExp (pt_cmpR op_gt (pv 2) (pe_int) (nomark _)) (pe_call G_l_spots hr (by rfl) T.g_l_spots T.F_l_spots.kp T.b_l_spots .nil pass0 (pa_cons (pv 0) (pa_cons (pv 1) (pa_cons (pv 2) pa_nil)))) (pe_lst (pa_cons (pe_lst (pa_cons (pe_call G_l_take hr (by rfl) T.g_l_take T.F_l_take.kp T.b_l_take .nil pass0 (pa_cons (pv 0) (pa_cons (pv 1) pa_nil))) pa_nil)) pa_nil))))
    (pss_cons (ps_set (i := 6) sc_l_places.nd rfl (.inl rfl) (pe_lst (pa_cons (pe_ix (r := rIxL K) ix_list (pe_ix (r := rIxL K) ix_list (pv 5) (pe_int) (fun _ _ => rfl)) (pe_call G_l_take hr (by rfl) T.g_l_take T.F_l_take.kp T.b_l_take .nil pass0 (pa_cons (pv 0) (pa_cons (pe_callB (r := rLenS K) call_lenS (by rfl) T.z_len (by decide +kernel) (pa_cons (pe_ix (r := rIxL K) ix_list (pv 5) (pe_int) (fun _ _ => rfl)) pa_nil)) pa_nil))) (fun _ _ => rfl)) pa_nil)))
    (pss_cons (ps_set (i := 7) sc_l_places.nd rfl (.inl rfl) (pe_lst (pa_cons (pe_ix (r := rIxL K) ix_list (pe_ix (r := rIxL K) ix_list (pv 5) (pe_un un_neg (pe_int)) (fun _ _ => rfl)) (pe_call G_l_take hr (by rfl) T.g_l_take T.F_l_take.kp T.b_l_take .nil pass0 (pa_cons (pv 0) (pa_cons (pe_callB (r := rLenS K) call_lenS (by rfl) T.z_len (by decide +kernel) (pa_cons (pe_ix (r := rIxL K) ix_list (pv 5) (pe_un un_neg (pe_int)) (fun _ _ => rfl)) pa_nil)) pa_nil))) (fun _ _ => rfl)) pa_nil)))
    (pss_cons (ps_setLc (i := 8) (own := [("_law_k", 9)]) (g := gName 9) rfl sc_l_places.nd rfl rfl (sw_true rfl rfl rfl (by decide +kernel)) (pi_range1 (by rfl) T.z_range (pa_cons (pv 3) pa_nil)) (blkOk_by (N := N_l_places) (sc := defScope s_l_places) (by decide +kernel)) (fun _ _ _ _ _ => (pg_name (i := 9) sc_l_places.nd rfl (.inl rfl))) (fun _ _ _ _ _ => pts_nil) (fun _ _ _ _ _ => (pe_lst (pa_cons (pe_call G_l_take hr (by rfl) T.g_l_take T.F_l_take.kp T.b_l_take .nil pass0 (pa_cons (pv 0) (pa_cons (pv 1) pa_nil))) pa_nil))))
    (pss_one (ps_ret (Lz.pe_listZip rfl (by rfl) T.z_list (by rfl) T.z_zip (pa_cons (pv 4) (pa_cons (pe_op op_cat (pe_op op_cat (pe_op op_cat (pe_lst (pa_cons (pv 6) pa_nil)) (pe_slice sl_list (pv 5) po_none (po_some (pv 2)))) (pe_lst (pa_cons (pv 7) pa_nil))) (pv 8)) pa_nil))))))))))))
      , ?_⟩
    -- junctions
    refine ⟨by decide, fun t nt => ?_⟩
    have ntp : t ≠ p := b.ne nt
    refine ⟨.ref p, rfl, p, 6, rfl, b.keep (same_upd nt), by decide, by decide, fun H1 d k1 b1 d0 d1 => ?_⟩
    obtain ⟨m0, hm0, em0⟩ := pick (ms := [1, 12, 4, 7, 2, 0]) d0 d1
    refine ⟨t, _, d, _, rfl, rfl, SqT.of (k1 _ _ ntp upd_same), em0, ?_⟩
    have k1 : Keep p H H1 := (Keep.of (same_upd nt)).trans k1
    have hm : 0 ≤ m0 ∧ m0 ≤ 12 := by
      simp only [List.mem_cons, List.not_mem_nil, or_false] at hm0
      omega
    refine ⟨.int n, rfl, n, 1, rfl, rfl, .inr ⟨_, rfl, m0, _, rfl, rfl, .inl ⟨by omega, by omega⟩, ?_⟩⟩
    obtain ⟨J, hJ⟩ : ∃ J : Nat, m0 * (if decide ((1 : Int) < (n : Int)) then 1 else 0) = (J : Int) ∧ J ≤ 12 ∧ (0 < J → 2 ≤ n) := by
      by_cases c : (1 : Int) < n
      · rw [if_pos (decide_eq_true c)]
        exact ⟨m0.toNat, by omega, by omega, fun _ => by omega⟩
      · rw [if_neg (fun z => c (of_decide_eq_true z))]
        exact ⟨0, by omega, by omega, fun z => absurd z (Nat.lt_irrefl _)⟩
    obtain ⟨eJ, J12, J2⟩ := hJ
    dsimp only
    rw [eJ]
    -- more
    refine ⟨.ref p, rfl, p, 15, rfl, b1, by decide, by decide, fun H2 mo k2 b2 mo0 mo1 => ?_⟩
    obtain ⟨m, rfl⟩ : ∃ m : Nat, mo = (m : Int) := ⟨mo.toNat, by omega⟩
    have k2 := k1.trans k2
    -- names
    refine ⟨.ref p, rfl, .int J, rfl, J, 2, rfl, rfl, .int m, rfl, _, m, rfl, rfl, p, J + 2 + m, by dsimp only; rw [show ((J : Int) + 2 + (m : Int)) = ((J + 2 + m : Nat) : Int) by omega]; rfl, b2, by omega, fun H3 nl zs k3 b3 nnl enl hzs nd nms nat => ?_⟩
    have nnl0 : H nl = none := k2.free b nnl b2
    have nlp : nl ≠ p := b2.ne nnl
    have k3 := k2.trans k3
    -- spots
    refine ⟨fun σ H4 => ∃ (sp : Addr) (as : List Addr) (qs : List (List Nat)), σ = [some (.ref p), some (.int n), some (.int J), some (.int m), some (.ref nl), some (.ref sp), none, none, none, none] ∧ Keep p H3 H4 ∧ Bag H4 p ∧ H3 sp = none ∧ H4 sp = some (.lst (as.map V.ref)) ∧ LLs H4 as qs ∧ (∀ a ∈ as, H3 a = none ∧ a ≠ sp ∧ a ≠ p) ∧ 1 ≤ qs.length ∧ Chained qs ∧ (∀ js ∈ qs, (∀ j ∈ js, j < n) ∧ 1 ≤ js.length ∧ js.length ≤ 8) ∧ (0 < J → qs.length = J ∧ ∀ js ∈ qs, Spot n js) ∧ (J = 0 → ∃ x, qs = [[x]]), ?_, fun σ H4 mid => ?_⟩
    · refine ⟨.int J, rfl, _, _, rfl, rfl, _, rfl, ite2 (fun c => ?_) (fun c => ?_)⟩
      · have c := of_decide_eq_true c
        refine ⟨.ref p, rfl, .int n, rfl, .int J, rfl, p, n, J, rfl, b3, J2 (by omega), n8, by omega, J12, fun H4 sp as qs k4 b4 nsp esp hql hL hfr hsp hch => ?_⟩
        refine ⟨sp, as, qs, rfl, k4, b4, nsp, esp, hL, hfr, by omega, hch, fun js hj => ?_, fun _ => ⟨hql, hsp⟩, fun z => by omega⟩
        have s := hsp js hj
        exact ⟨s.lt, by have := s.two; omega, Spot.len8 s n8⟩
      · have c : ¬ (0 : Int) < (J : Int) := fun z => c (decide_eq_true z)
        refine ⟨.ref p, rfl, .int n, rfl, p, n, rfl, b3, by omega, by omega, fun H4 x k4 b4 x0 x1 => ?_⟩
        refine ⟨one_sz, fun a na => ⟨one_sz, fun sp nsp => ?_⟩⟩
        obtain ⟨x, rfl⟩ : ∃ j : Nat, x = (j : Int) := ⟨x.toNat, by omega⟩
        have nsp4 : H4 sp = none := (same_upd na).free nsp
        have nap : a ≠ p := b4.ne na
        have nspp : sp ≠ p := b4.ne nsp4
        have nas : a ≠ sp := fun z => by rw [← z, upd_same] at nsp; cases nsp
        refine ⟨sp, [a], [[x]], rfl, k4.trans (.of ((same_upd na).trans (same_upd nsp))), b4.keep ((same_upd na).trans (same_upd nsp)), k4.free b3 nsp4 b4, upd_same, .cons (by rw [upd_ne nas, upd_same]; rfl) .nil, fun c hc => ?_, by simp, trivial, fun js hj => ?_, fun z => by omega, fun _ => ⟨x, rfl⟩⟩
        · rw [List.mem_singleton.mp hc]
          exact ⟨k4.free b3 na b4, nas, nap⟩
        · rw [List.mem_singleton.mp hj]
          exact ⟨fun j hj => by rw [List.mem_singleton.mp hj]; omega, by simp, by simp⟩
    obtain ⟨sp, as, qs, rfl, k4, b4, nsp, esp, hL, hfr, hq1, hch, hqa, hJ0, hJ1⟩ := mid
    have nspp : sp ≠ p := b3.ne nsp
    have hal := paired_len hL
    obtain ⟨a0, qa, ha0, hqa0, ea0, h00⟩ : ∃ a0 qa, as[0]? = some a0 ∧ qs[0]? = some qa ∧ H4 a0 = some (.lst (jV qa)) ∧ qs.head? = some qa := by
      have h : 0 < as.length := by omega
      obtain ⟨qa, e1, e2⟩ := paired_get hL (List.getElem?_eq_getElem h)
      exact ⟨as[0], qa, List.getElem?_eq_getElem h, e1, e2, by rw [List.head?_eq_getElem?]; exact e1⟩
    obtain ⟨az, qz, haz, hqz, eaz, hzz⟩ : ∃ az qz, atI (as.map V.ref) (-1) = some (.ref az) ∧ qz ∈ qs ∧ H4 az = some (.lst (jV qz)) ∧ qs.getLast? = some qz := by
      have h : as.length - 1 < as.length := by omega
      obtain ⟨qz, e1, e2⟩ := paired_get hL (List.getElem?_eq_getElem h)
      have eas : as = as.take (as.length - 1) ++ [as[as.length - 1]] := by
        rw [List.take_append_getElem, List.take_of_length_le (by omega)]
      refine ⟨as[as.length - 1], qz, ?_, List.mem_of_getElem? e1, e2, by rw [List.getLast?_eq_getElem?, ← hal]; exact e1⟩
      conv => lhs; rw [eas]
      rw [List.map_append]
      exact atI_last _ _
    have m0' : a0 ∈ as := List.mem_of_getElem? ha0
    have q0m := hqa qa (List.mem_of_getElem? hqa0)
    have qzm := hqa qz hqz
    have a0p : a0 ≠ p := (hfr a0 m0').2.2
    have azp : az ≠ p := fun z => by
      obtain ⟨g, r, e, _⟩ := b4
      obtain ⟨j, hj⟩ := atI_get haz
      have hj := hj.2.1
      rw [List.getElem?_map] at hj
      cases hx : as[j]? with
      | none => rw [hx] at hj; cases hj
      | some y =>
        rw [hx] at hj
        have ey := V.ref.inj (Option.some.inj hj)
        exact (hfr y (List.mem_of_getElem? hx)).2.2 (ey.trans z)
    -- first
    have i0 : atI (as.map V.ref) 0 = some (.ref a0) := atI_nat (j := 0) (by rw [List.getElem?_map, ha0]; rfl)
    refine ⟨.ref sp, rfl, sp, _, 0, .ref a0, rfl, rfl, SqL.of esp, i0, .ref p, rfl, .ref sp, rfl, sp, _, 0, .ref a0, rfl, rfl, SqL.of esp, i0, a0, jV qa, rfl, .inl (SqL.of ea0), p, qa.length, by rw [List.length_map]; rfl, b4, by have := q0m.2.1; omega, by have := q0m.2.2; omega, fun H5 d5 k5 b5 d50 d51 => ?_⟩
    obtain ⟨j5, rfl⟩ : ∃ jj : Nat, d5 = (jj : Int) := ⟨d5.toNat, by omega⟩
    have hj5 : j5 < qa.length := by omega
    have g5 : (jV qa)[j5]? = some (.int (qa[j5] : Nat)) := by
      rw [List.getElem?_map, List.getElem?_eq_getElem hj5]
      rfl
    refine ⟨a0, _, (j5 : Int), _, rfl, rfl, SqL.of (k5 _ _ a0p ea0), atI_nat g5, one_sz, fun fa nfa => ?_⟩
    have inf : qa[j5] ∈ qa := List.getElem_mem hj5
    generalize qa[j5] = f at inf g5
    have nfap : fa ≠ p := b5.ne nfa
    have k6 : Keep p H4 (upd H5 fa (.lst [.int ((f : Nat) : Int)])) := k5.trans (.of (same_upd nfa))
    have b6 := b5.keep (same_upd (o := .lst [.int ((f : Nat) : Int)]) nfa)
    have efa : (upd H5 fa (.lst [.int ((f : Nat) : Int)])) fa = some (.lst (jV [f])) := upd_same
    have nfa4 : H4 fa = none := k5.free b4 nfa b5
    dsimp only
    generalize upd H5 fa (.lst [.int ((f : Nat) : Int)]) = H6 at k6 b6 efa ⊢
    -- last
    refine ⟨.ref sp, rfl, 1, rfl, sp, _, -1, .ref az, rfl, rfl, SqL.of (k6 _ _ nspp esp), haz, .ref p, rfl, .ref sp, rfl, 1, rfl, sp, _, -1, .ref az, rfl, rfl, SqL.of (k6 _ _ nspp esp), haz, az, jV qz, rfl, .inl (SqL.of (k6 _ _ azp eaz)), p, qz.length, by rw [List.length_map]; rfl, b6, by have := qzm.2.1; omega, by have := qzm.2.2; omega, fun H7 d7 k7 b7 d70 d71 => ?_⟩
    obtain ⟨j7, rfl⟩ : ∃ jj : Nat, d7 = (jj : Int) := ⟨d7.toNat, by omega⟩
    have hj7 : j7 < qz.length := by omega
    have g7 : (jV qz)[j7]? = some (.int (qz[j7] : Nat)) := by
      rw [List.getElem?_map, List.getElem?_eq_getElem hj7]
      rfl
    refine ⟨az, _, (j7 : Int), _, rfl, rfl, SqL.of (k7 _ _ azp (k6 _ _ azp eaz)), atI_nat g7, one_sz, fun la nla => ?_⟩
    have inl : qz[j7] ∈ qz := List.getElem_mem hj7
    generalize qz[j7] = l at inl g7
    have nlap : la ≠ p := b7.ne nla
    have nla4 : H4 la = none := k6.free b4 (k7.free b6 nla b7) b6
    have efa8 : (upd H7 la (.lst [.int ((l : Nat) : Int)])) fa = some (.lst (jV [f])) := same_upd nla _ _ (k7 _ _ nfap efa)
    have k8 : Keep p H4 (upd H7 la (.lst [.int ((l : Nat) : Int)])) := k6.trans (k7.trans (.of (same_upd nla)))
    have b8 := b7.keep (same_upd (o := .lst [.int ((l : Nat) : Int)]) nla)
    have ela8 : (upd H7 la (.lst [.int ((l : Nat) : Int)])) la = some (.lst (jV [l])) := upd_same
    dsimp only
    generalize upd H7 la (.lst [.int ((l : Nat) : Int)]) = H8 at k8 b8 efa8 ela8 ⊢
    -- towns
    refine ⟨.int m, rfl, m, rfl, by omega, by omega, fun D nD => ?_⟩
    have nDp : D ≠ p := b8.ne nD
    rw [Int.toNat_natCast]
    refine lc_it walk_range (fun j H9 => Keep p H8 H9 ∧ Bag H9 p ∧ ∃ (ta : List Addr) (tw : List Nat), tw.length = j ∧ (∀ x ∈ tw, x < n) ∧ H9 D = some (.lst (ta.map V.ref)) ∧ LLs H9 ta (tw.map fun x => [x]) ∧ ∀ a ∈ ta, H8 a = none ∧ a ≠ D ∧ a ≠ p) ⟨.of (same_upd nD), b8.keep (same_upd nD), [], [], rfl, fun c hc => by simp at hc, upd_same, .nil, fun c hc => by simp at hc⟩ (fun _ _ _ _ => trivial) (fun j x H9 H10 hj pv y => ?_) (fun H9 pv => ?_)
    · obtain ⟨rfl, rfl⟩ := y
      obtain ⟨k9, b9, ta, tw, htl, htw, eD, hTL, htf⟩ := pv
      refine ⟨rfl, yes_ ?_⟩
      refine ⟨.ref p, rfl, .int n, rfl, p, n, rfl, b9, by omega, by omega, fun H11 x k11 b11 x0 x1 => ⟨one_sz, fun c nc => ?_⟩⟩
      obtain ⟨x, rfl⟩ : ∃ j : Nat, x = (j : Int) := ⟨x.toNat, by omega⟩
      have ncp : c ≠ p := b11.ne nc
      have eD11 := k11 _ _ nDp eD
      have nDc : D ≠ c := ne_of_none eD11 nc
      have nc8 : H8 c = none := k9.free b8 (k11.free b9 nc b11) b9
      have tl := paired_len hTL
      rw [List.length_map] at tl
      refine ⟨_, same_upd nc _ _ eD11, by rw [List.length_map]; exact small5000 (by omega), fun e o ne ee => ?_, (b11.keep (same_upd nc)).at (upd_ne nDp.symm), ta ++ [c], tw ++ [x], by rw [List.length_append, htl]; rfl, fun y hy => ?_, by rw [upd_same, List.map_append]; rfl, ?_, fun e he => ?_⟩
      · rw [upd_ne (ne_of_none ee nD), upd_ne (ne_of_none (k11 _ _ ne (k9 _ _ ne ee)) nc)]
        exact k11 _ _ ne (k9 _ _ ne ee)
      · rcases List.mem_append.mp hy with z | z
        · exact htw y z
        · rw [List.mem_singleton.mp z]
          omega
      · rw [List.map_append]
        refine paired_snoc (paired_imp hTL fun a ha js e => ?_) (by rw [upd_ne nDc.symm, upd_same]; rfl)
        obtain ⟨_, f1, f2⟩ := htf a ha
        rw [upd_ne f1, upd_ne (ne_of_none (k11 _ _ f2 e) nc)]
        exact k11 _ _ f2 e
      · rcases List.mem_append.mp he with z | z
        · exact htf e z
        · rw [List.mem_singleton.mp z]
          exact ⟨nc8, nDc.symm, ncp⟩
    obtain ⟨k9, b9, ta, tw, htl, htw, eD, hTL, htf⟩ := pv
    have kk9 : Keep p H4 H9 := k8.trans k9
    have esp9 := kk9 _ _ nspp esp
    have enl9 : H9 nl = some (.lst (zs.map nS)) := kk9 _ _ nlp (k4 _ _ nlp enl)
    have efa9 := k9 _ _ nfap efa8
    have ela9 := k9 _ _ nlap ela8
    have hL9 : LLs H9 as qs := paired_imp hL fun a ha js e => kk9 _ _ (hfr a ha).2.2 e
    have tl := paired_len hTL
    rw [List.length_map] at tl
    -- list(zip(names, [first] + spots[:J] + [last] + towns))
    refine ⟨.ref nl, rfl, .ref fa, rfl, one_sz, fun c1 n1' => ?_⟩
    refine ⟨.ref sp, rfl, .int J, rfl, J, rfl, sp, _, rfl, SqL.of (same_upd n1' _ _ esp9), fun c2 n2' => ?_⟩
    rw [cut_to]
    have e2 : (upd (upd H9 c1 (.lst [.ref fa])) c2 (.lst ((as.map V.ref).take J))) c1 = some (.lst [.ref fa]) := same_upd n2' _ _ upd_same
    refine ⟨c1, c2, _, _, rfl, rfl, e2, upd_same, ?_, fun c3 n3' => ?_⟩
    · refine Nat.le_of_lt (small5000 ?_)
      rw [List.length_take, List.length_map]
      show 1 + _ ≤ 5000
      omega
    have s3 : Same H9 (upd (upd (upd H9 c1 (.lst [.ref fa])) c2 (.lst ((as.map V.ref).take J))) c3 (.lst ([.ref fa] ++ (as.map V.ref).take J))) := (same_upd n1').trans ((same_upd n2').trans (same_upd n3'))
    have e3 : (upd (upd (upd H9 c1 (.lst [.ref fa])) c2 (.lst ((as.map V.ref).take J))) c3 (.lst ([.ref fa] ++ (as.map V.ref).take J))) c3 = some (.lst ([.ref fa] ++ (as.map V.ref).take J)) := upd_same
    generalize upd (upd (upd H9 c1 (.lst [.ref fa])) c2 (.lst ((as.map V.ref).take J))) c3 (.lst ([.ref fa] ++ (as.map V.ref).take J)) = G3 at s3 e3 ⊢
    refine ⟨.ref la, rfl, one_sz, fun c4 n4' => ?_⟩
    refine ⟨c3, c4, _, _, rfl, rfl, same_upd n4' _ _ e3, upd_same, ?_, fun c5 n5' => ?_⟩
    · refine Nat.le_of_lt (small5000 ?_)
      rw [List.length_append, List.length_take, List.length_map]
      show 1 + _ + 1 ≤ 5000
      omega
    refine ⟨.ref D, rfl, c5, D, _, _, rfl, rfl, upd_same, same_upd n5' _ _ (same_upd n4' _ _ (s3 _ _ eD)), ?_, fun c6 n6' => ?_⟩
    · refine Nat.le_of_lt (small5000 ?_)
      rw [List.length_append, List.length_append, List.length_take, List.length_map, List.length_map]
      show 1 + _ + 1 + _ ≤ 5000
      omega
    have s6 := s3.trans ((same_upd (o := .lst [.ref la]) n4').trans ((same_upd (o := .lst ([.ref fa] ++ (as.map V.ref).take J ++ [.ref la])) n5').trans (same_upd (o := .lst ([.ref fa] ++ (as.map V.ref).take J ++ [.ref la] ++ ta.map V.ref)) n6')))
    have eLL : ([V.ref fa] ++ (as.map V.ref).take J ++ [.ref la] ++ ta.map V.ref) = ((([fa] ++ as.take J) ++ [la]) ++ ta).map V.ref := by
      simp only [List.map_append, List.map_take, List.map_cons, List.map_nil]
    have lens : ((([fa] ++ as.take J) ++ [la]) ++ ta).length = J + 2 + m := by
      simp only [List.length_append, List.length_take, List.length_cons, List.length_nil]
      by_cases c : 0 < J
      · have := (hJ0 c).1
        omega
      · omega
    refine ⟨nl, c6, zs.map nS, _, rfl, SqL.of (s6 _ _ enl9), SqL.of upd_same, by rw [eLL, List.length_map, List.length_map, lens]; exact hzs, by rw [List.length_map]; omega, fun H' l' ts st nl' nts nlt ndt elt htup => ?_⟩
    have s' := s6.trans st
    have kf : Keep p H H' := k3.trans (k4.trans (kk9.trans (.of s')))
    have fin : ∀ a, H9 a = none → H a = none := fun a h => k3.free b (k4.free b3 (kk9.free b4 h b9) b4) b3
    rw [eLL] at htup
    have tlen : ts.length = J + 2 + m := by
      have := paired_len htup
      rw [this, List.length_zip, List.length_map, List.length_map, lens, hzs, Nat.min_self]
    have pq : PlQ n J ((([f] :: qs.take J) ++ [[l]]) ++ tw.map fun x => [x]) := by
      refine ⟨⟨f, l, qs.take J, tw, rfl, ?_, fun js hj => ?_, q0m.1 f inf, qzm.1 l inl, htw, ?_, by omega⟩, J12⟩
      · rw [List.length_take]
        by_cases c : 0 < J
        · have := (hJ0 c).1
          omega
        · omega
      · by_cases c : 0 < J
        · exact (hJ0 c).2 js (List.mem_of_mem_take hj)
        · rw [show J = 0 by omega, List.take_zero] at hj
          cases hj
      · by_cases c : 0 < J
        · rw [List.take_of_length_le (by have := (hJ0 c).1; omega)]
          exact Chained.ends hch h00 hzz inf inl
        · have c0 : J = 0 := by omega
          obtain ⟨x, rfl⟩ := hJ1 c0
          rw [c0, List.take_zero]
          have e1 := Option.some.inj h00
          have e2 := Option.some.inj hzz
          subst e1
          subst e2
          rw [List.mem_singleton.mp inf, List.mem_singleton.mp inl]
          exact ⟨⟨x, by simp, by simp⟩, trivial⟩
    have n9 : ∀ a, H9 a = none → a ≠ p := fun a h => b9.ne h
    have nl9 : H9 l' = none := s6.free nl'
    have nt9 : ∀ t ∈ ts, H9 t = none := fun t ht => s6.free (nts t ht)
    have npa : ∀ a ∈ (([fa] ++ as.take J) ++ [la]) ++ ta, a ≠ p ∧ H a = none := fun a ha => by
      rcases List.mem_append.mp ha with z | z
      · rcases List.mem_append.mp z with z | z
        · rcases List.mem_append.mp z with z | z
          · rw [List.mem_singleton.mp z]
            exact ⟨nfap, k3.free b (k4.free b3 nfa4 b4) b3⟩
          · have := hfr a (List.mem_of_mem_take z)
            exact ⟨this.2.2, k3.free b this.1 b3⟩
        · rw [List.mem_singleton.mp z]
          exact ⟨nlap, k3.free b (k4.free b3 nla4 b4) b3⟩
      · have := htf a z
        exact ⟨this.2.2, k3.free b (k4.free b3 (k8.free b4 this.1 b8) b4) b3⟩
    refine q H' l' ts ((([fa] ++ as.take J) ++ [la]) ++ ta) zs _ J kf (b9.keep s') ⟨elt, htup, ?_, ?_, ?_, n9 _ nl9, fun t ht => n9 _ (nt9 t ht), fun a ha => (npa a ha).1⟩ pq nd nms nat (fin _ nl9) (fun t ht => fin _ (nt9 t ht)) fun a ha => (npa a ha).2
    · refine paired_append (paired_append (paired_append (as := [fa]) (bs := [[f]]) (.cons (s' _ _ efa9) .nil) (paired_take J (paired_imp hL9 fun a _ js e => s' _ _ e))) (.cons (s' _ _ ela9) .nil)) (paired_imp hTL fun a _ js e => s' _ _ e)
    · rw [hzs]
      simp only [List.length_append, List.length_take, List.length_cons, List.length_nil, List.length_map]
      by_cases c : 0 < J
      · have := (hJ0 c).1
        omega
      · omega
    · rw [tlen]
      simp only [List.length_append, List.length_take, List.length_cons, List.length_nil, List.length_map]
      by_cases c : 0 < J
      · have := (hJ0 c).1
        omega
      · omega
end
end Th
namespace Th
open PySem PySem.Spec PyProof.Rows L2
/-! the net laid out as four tuples -/
/-- tuples stay, those whose object is known, too -/
structure TKF (H H' : Hp) : Prop where
  t : ∀ a xs, H a = some (.tup xs) → H' a = some (.tup xs)
  f : ∀ a o xs, H a = some (.frz o (.tup xs)) → H' a = some (.frz o (.tup xs))
instance {H H' : Hp} : CoeFun (TKF H H') fun _ => ∀ a xs, H a = some (.tup xs) → H' a = some (.tup xs) := ⟨TKF.t⟩
theorem TKF.of {H H' : Hp} (s : Same H H') : TKF H H' := ⟨fun a xs e => s a _ e, fun a o xs e => s a _ e⟩
theorem TKF.trans {H H' H2 : Hp} (a : TKF H H') (b : TKF H' H2) : TKF H H2 := ⟨fun c xs e => b.t c xs (a.t c xs e), fun c o xs e => b.f c o xs (a.f c o xs e)⟩
theorem TKF.keep {p : Addr} {H H' : Hp} (k : Keep p H H') (b : Bag H p) : TKF H H' := by
  obtain ⟨g, r, e', _⟩ := b
  exact ⟨fun a xs e => k a _ (fun z => by rw [z, e'] at e; cases e) e, fun a o xs e => k a _ (fun z => by rw [z, e'] at e; cases e) e⟩
theorem TKF.upd {c : Addr} {H : Hp} {o : HO} (h : ∀ xs, H c ≠ some (.tup xs)) (h2 : ∀ o' xs, H c ≠ some (.frz o' (.tup xs)) := by intro o' xs e; simp_all) : TKF H (upd H c o) :=
  ⟨fun a xs e => by rw [upd_ne (fun z => h xs (by rw [← z]; exact e))]; exact e, fun a o' xs e => by rw [upd_ne (fun z => h2 o' xs (by rw [← z]; exact e))]; exact e⟩
theorem TpF.tk {H H' : Hp} {a : Addr} {xs : List V} (h : TpF H a xs) (k : TKF H H') : TpF H' a xs := let ⟨o, e, d⟩ := h; ⟨o, k.f _ _ _ e, d⟩
def StAt (H : Hp) (a : Addr) (st : Nm × Nm) : Prop := H a = some (.tup [nS st.1, nS st.2])
def JnAt (H : Hp) (a : Addr) (jn : Nm × List Nm) : Prop := ∃ b, H a = some (.tup [nS jn.1, .ref b]) ∧ H b = some (.tup (jn.2.map nS))
structure Ti where
  a : Nm
  b : Nm
  ln : Nm
  ch : Nat
def TiAt (H : Hp) (x : Addr) (t : Ti) : Prop := H x = some (.tup [nS t.a, nS t.b, nS t.ln, .int t.ch])
/-- the net at its address -/
def NetAt (H : Hp) (r : Addr) (ls : List Nm) (sts : List (Nm × Nm)) (jns : List (Nm × List Nm)) (tis : List Ti) : Prop :=
  ∃ (a b c d : Addr) (sa ja ta : List Addr), H r = some (.tup [.ref a, .ref b, .ref c, .ref d]) ∧ TpF H a (ls.map nS) ∧ TpF H b (sa.map V.ref) ∧ Paired (StAt H) sa sts ∧
    TpF H c (ja.map V.ref) ∧ Paired (JnAt H) ja jns ∧ TpF H d (ta.map V.ref) ∧ Paired (TiAt H) ta tis
theorem NetAt.tk {H H' : Hp} {r : Addr} {ls : List Nm} {sts : List (Nm × Nm)} {jns : List (Nm × List Nm)} {tis : List Ti} (h : NetAt H r ls sts jns tis) (k : TKF H H') : NetAt H' r ls sts jns tis := by
  obtain ⟨a, b, c, d, sa, ja, ta, e1, e2, e3, e4, e5, e6, e7, e8⟩ := h
  exact ⟨a, b, c, d, sa, ja, ta, k _ _ e1, e2.tk k, e3.tk k, paired_imp e4 fun x _ y e => k _ _ e, e5.tk k, paired_imp e6 (fun x _ y ⟨z, f1, f2⟩ => ⟨z, k _ _ f1, k _ _ f2⟩), e7.tk k, paired_imp e8 fun x _ y e => k _ _ e⟩
def stOf (ls : List Nm) (x : Nm × List Nat) : Option (Nm × Nm) := if x.2.length = 1 then some (x.1, ls.getD (x.2.getD 0 0) []) else none
def jnOf (ls : List Nm) (x : Nm × List Nat) : Option (Nm × List Nm) := if x.2.length = 1 then none else some (x.1, x.2.map fun j => ls.getD j [])
/-- the dict of the ties -/
def TiD (H : Hp) (td : Addr) (tis : List Ti) : Prop := ∃ kvs : List (List Key × V), H td = some (.dT kvs) ∧ (kvs.map (·.1)).Nodup ∧
  Paired (fun kv (t : Ti) => kv.1 = [Sum.inr (SX.S t.a), Sum.inr (SX.S t.b)] ∧ ∃ v, kv.2 = .ref v ∧ H v = some (.tup [nS t.ln, .int t.ch])) kvs tis
theorem val_at : ∀ {kvs : List (List Key × V)} {i : Nat} {k : List Key} {v : V}, (kvs.map (·.1)).Nodup → kvs[i]? = some (k, v) → valV kvs k = some v
  | [], _, _, _, _, h => by simp at h
  | p :: r, 0, k, v, _, h => by
    have := Option.some.inj h
    subst this
    exact valV_pos rfl
  | p :: r, i + 1, k, v, hn, h => by
    have hn' := List.nodup_cons.mp hn
    rw [valV_neg]
    · exact val_at hn'.2 h
    · intro e
      exact hn'.1 (List.mem_map.mpr ⟨(k, v), List.mem_of_getElem? h, e.symm⟩)
section
variable {P : Program} {w : World} {K : PySem.W.Frag} {mg : Str → Option Value} {base : Heap} {k : Nat}
def sp_l_laid : Sp := fun vs H Q _ => ∃ (p ln pl td : Addr) (ts as : List Addr) (ls zs : List Nm) (qs : List (List Nat)) (tis : List Ti), vs = [.ref p, .ref ln, .ref pl, .ref td] ∧ Bag H p ∧ ln ≠ p ∧ H ln = some (.lst (ls.map nS)) ∧ ls.length ≤ 8 ∧
  PlAt p H pl ts zs as qs ∧ qs.length ≤ 28 ∧ (∀ js ∈ qs, 1 ≤ js.length ∧ js.length ≤ 8 ∧ ∀ j ∈ js, j < ls.length) ∧ TiD H td tis ∧ tis.length ≤ 100 ∧
  ∀ (H' : Hp) (r : Addr) (sts : List (Nm × Nm)) (jns : List (Nm × List Nm)) (rws : List Ti), Keep p H H' → Bag H' p → NetAt H' r ls sts jns rws → sts.Perm ((zs.zip qs).filterMap (stOf ls)) → jns.Perm ((zs.zip qs).filterMap (jnOf ls)) → rws.Perm tis → H r = none → Q (.ref r) H'
set_option maxHeartbeats 8000000 in
theorem ok_l_laid (T : Defs K mg) : FnOk P w K mg base CX0 (k + 2) T.a_l_laid T.d_l_laid ["_law_bag_here", "_law_lines", "_law_places_here", "_law_ties"] sp_l_laid := by
  have G_l_take : FnOk P w K mg base CX0 (k + 1) _ _ _ _ := ok_l_take T
  refine T.F_l_laid.ok sc_l_laid (fun vs H Q E h => ?_) (fun cdv A outer s H vs Q E hr h => ?_)
  · obtain ⟨p, ln, pl, td, ts, as, ls, zs, qs, tis, rfl, _⟩ := h
    rfl
  · obtain ⟨p, ln, pl, td, ts, as, ls, zs, qs, tis, rfl, b, nlp, eln, l8, pa, q28, hqs, htd, t100, q⟩ := h
    refine ⟨_, PSs.nox
(pss_cons (ps_par3 (i := 4) (j := 5) (l := 6) rfl sc_l_laid.nd rfl rfl rfl (by decide) (by decide) (by decide) rfl rfl rfl (pa_cons (pe_lst pa_nil) (pa_cons (pe_lst pa_nil) (pa_cons (pe_lst pa_nil) pa_nil))) (by rfl))
    (pss_cons (ps_for PassesOwn.never rfl (pi_list (pv 2)) (pg_tup rfl (pgs_cons (pg_name (i := 7) sc_l_laid.nd rfl (.inl rfl)) (pgs_cons (pg_name (i := 8) sc_l_laid.nd rfl (.inl rfl)) pgs_nil)))
      (pss_one (ps_if (pt_cmpR op_eq (pe_callB (r := rLenS K) call_lenS (by rfl) T.z_len (by decide +kernel) (pa_cons (pv 8) pa_nil)) (pe_int) (nomark _))
        (pss_one (ps_expr (pe_bm PySem.F.plainAttrs_list PySem.F.slot_list_insert PySem.F.type_list_insert mt_insert (pv 4) (pa_cons (pe_call G_l_take hr (by rfl) T.g_l_take T.F_l_take.kp T.b_l_take .nil pass0 (pa_cons (pv 0) (pa_cons (pe_op op_add (pe_callB (r := rLenS K) call_lenS (by rfl) T.z_len (by decide +kernel) (pa_cons (pv 4) pa_nil)) (pe_int)) pa_nil))) (pa_cons (pe_tup (pa_cons (pv 7) (pa_cons (pe_ix (r := rIxL K) ix_list (pv 1) (pe_ix (r := rIxL K) ix_list (pv 8) (pe_int) (fun _ _ => rfl)) (fun _ _ => rfl)) pa_nil))) pa_nil)))))
        (pss_one (ps_expr (pe_bm PySem.F.plainAttrs_list PySem.F.slot_list_insert PySem.F.type_list_insert mt_insert (pv 5) (pa_cons (pe_call G_l_take hr (by rfl) T.g_l_take T.F_l_take.kp T.b_l_take .nil pass0 (pa_cons (pv 0) (pa_cons (pe_op op_add (pe_callB (r := rLenS K) call_lenS (by rfl) T.z_len (by decide +kernel) (pa_cons (pv 5) pa_nil)) (pe_int)) pa_nil))) (pa_cons (pe_tup (pa_cons (pv 7) (pa_cons (pe_callTy call_tuple_of (by rfl) T.z_tuple (by decide +kernel) (pa_cons (pe_lc (own := [("_law_line", 12)]) (g := gName 12) rfl sc_l_laid.nd (pi_list (pv 8)) (blkOk_by (N := N_l_laid) (sc := defScope s_l_laid) (by decide +kernel)) (fun _ _ _ _ _ => (pg_name (i := 12) sc_l_laid.nd rfl (.inl rfl))) (fun _ _ _ _ _ => pts_nil) (fun _ _ _ _ _ => (pe_ix (r := rIxL K) ix_list (pv 1) (pv 12) (fun _ _ => rfl)))) pa_nil)) pa_nil))) pa_nil))))))))
    (pss_cons (ps_lock (ps_for PassesOwn.never rfl (pi_keys (pv 3)) (pg_tup rfl (pgs_cons (pg_name (i := 9) sc_l_laid.nd rfl (.inl rfl)) (pgs_cons (pg_name (i := 10) sc_l_laid.nd rfl (.inl rfl)) pgs_nil)))
      (pss_cons (ps_set (i := 11) sc_l_laid.nd rfl (.inl rfl) (pe_op op_catT (pe_tup (pa_cons (pv 9) (pa_cons (pv 10) pa_nil))) (pe_dget (hu_of hr) (pv 3) (pe_tup (pa_cons (pv 9) (pa_cons (pv 10) pa_nil))) (fun _ _ => rfl))))
      (pss_one (ps_expr (pe_bm PySem.F.plainAttrs_list PySem.F.slot_list_insert PySem.F.type_list_insert mt_insert (pv 6) (pa_cons (pe_call G_l_take hr (by rfl) T.g_l_take T.F_l_take.kp T.b_l_take .nil pass0 (pa_cons (pv 0) (pa_cons (pe_op op_add (pe_callB (r := rLenS K) call_lenS (by rfl) T.z_len (by decide +kernel) (pa_cons (pv 6) pa_nil)) (pe_int)) pa_nil))) (pa_cons (pv 11) pa_nil))))))))
    (pss_one (ps_ret (pe_tup (pa_cons (pe_callTy (r := rTupF K) call_tuple_ofF (by rfl) T.z_tuple (by decide +kernel) (pa_cons (pv 1) pa_nil)) (pa_cons (pe_callTy (r := rTupF K) call_tuple_ofF (by rfl) T.z_tuple (by decide +kernel) (pa_cons (pv 4) pa_nil)) (pa_cons (pe_callTy (r := rTupF K) call_tuple_ofF (by rfl) T.z_tuple (by decide +kernel) (pa_cons (pv 5) pa_nil)) (pa_cons (pe_callTy (r := rTupF K) call_tuple_ofF (by rfl) T.z_tuple (by decide +kernel) (pa_cons (pv 6) pa_nil)) pa_nil))))))))))
      , ?_⟩
    refine ⟨Nat.zero_le _, fun S nS' => ⟨Nat.zero_le _, fun J nJ' => ⟨Nat.zero_le _, fun R nR' => ⟨_, _, _, rfl, ?_⟩⟩⟩⟩
    have nJ0 : H J = none := (same_upd nS').free nJ'
    have nR1 := (same_upd nJ').free nR'
    have nR0 : H R = none := (same_upd nS').free nR1
    have eS0 : (upd (upd (upd H S (.lst [])) J (.lst [])) R (.lst [])) S = some (.lst (([] : List Addr).map V.ref)) := same_upd nR' _ _ (same_upd nJ' _ _ upd_same)
    have eJ0 : (upd (upd (upd H S (.lst [])) J (.lst [])) R (.lst [])) J = some (.lst (([] : List Addr).map V.ref)) := same_upd nR' _ _ upd_same
    have eR0 : (upd (upd (upd H S (.lst [])) J (.lst [])) R (.lst [])) R = some (.lst (([] : List Addr).map V.ref)) := upd_same
    have s0 : Same H (upd (upd (upd H S (.lst [])) J (.lst [])) R (.lst [])) := (same_upd nS').trans ((same_upd nJ').trans (same_upd nR'))
    have nSJ : S ≠ J := fun z => by rw [← z, upd_same] at nJ'; cases nJ'
    have nJR : J ≠ R := fun z => by rw [← z, upd_same] at nR'; cases nR'
    have nSR : S ≠ R := fun z => by rw [← z, upd_ne nSJ, upd_same] at nR'; cases nR'
    have nSp : S ≠ p := b.ne nS'
    have nJp : J ≠ p := b.ne nJ0
    have nRp : R ≠ p := b.ne nR0
    have b0 := b.keep s0
    generalize upd (upd (upd H S (.lst [])) J (.lst [])) R (.lst []) = H1 at eS0 eJ0 eR0 s0 b0 ⊢
    have lts : (ts.map V.ref).length = (zs.zip qs).length := by rw [List.length_map, List.length_zip, pa.lt, pa.lz, Nat.min_self]
    refine ⟨.ref pl, rfl, pl, rfl, ⟨_, SqL.of (s0 _ _ pa.lst)⟩, ?_⟩
    refine for_it (walk_list (xs := ts.map V.ref)) (fun i σ H3 => ∃ (y7 y8 : Option V) (sa ja : List Addr) (sts : List (Nm × Nm)) (jns : List (Nm × List Nm)), σ = [some (.ref p), some (.ref ln), some (.ref pl), some (.ref td), some (.ref S), some (.ref J), some (.ref R), y7, y8, none, none, none, none] ∧ Keep p H H3 ∧ Bag H3 p ∧ H3 S = some (.lst (sa.map V.ref)) ∧ H3 J = some (.lst (ja.map V.ref)) ∧ H3 R = some (.lst (([] : List Addr).map V.ref)) ∧ Paired (StAt H3) sa sts ∧ Paired (JnAt H3) ja jns ∧ sa.length ≤ i ∧ ja.length ≤ i ∧ sts.Perm (((zs.zip qs).take i).filterMap (stOf ls)) ∧ jns.Perm (((zs.zip qs).take i).filterMap (jnOf ls)))
      ⟨none, none, [], [], [], [], rfl, .of s0, b0, eS0, eJ0, eR0, .nil, .nil, Nat.le_refl _, Nat.le_refl _, by rw [List.take_zero]; exact .refl _, by rw [List.take_zero]; exact .refl _⟩ (fun i σ H3 _ hp => ?_) (fun i x σ H3₀ H3 hi hp y => ?_) (fun σ H3 hp => ?_)
    · obtain ⟨y7, y8, sa, ja, sts, jns, rfl, k3, _⟩ := hp
      exact SqL.of (k3 _ _ pa.np.1 pa.lst)
    · obtain ⟨rfl, ex⟩ := y
      obtain ⟨y7, y8, sa, ja, sts, jns, rfl, k3, b3, eS, eJ, eR, hS, hJ, lS, lJ, pS, pJ⟩ := hp
      obtain ⟨t, et, rfl⟩ : ∃ t, ts[i]? = some t ∧ x = .ref t := by
        rw [List.getElem?_map] at ex
        cases h : ts[i]? with
        | none => rw [h] at ex; cases ex
        | some t => rw [h] at ex; exact ⟨t, rfl, (Option.some.inj ex).symm⟩
      obtain ⟨pr, epr, etup⟩ := paired_get pa.tup et
      rw [List.getElem?_zip_eq_some, List.getElem?_map, List.getElem?_map] at epr
      obtain ⟨z, ez, ez1⟩ : ∃ z, zs[i]? = some z ∧ pr.1 = nS z := by
        cases h : zs[i]? with
        | none => rw [h] at epr; cases epr.1
        | some z => rw [h] at epr; exact ⟨z, rfl, (Option.some.inj epr.1).symm⟩
      obtain ⟨a, ea, ea1⟩ : ∃ a, as[i]? = some a ∧ pr.2 = .ref a := by
        cases h : as[i]? with
        | none => rw [h] at epr; cases epr.2
        | some z => rw [h] at epr; exact ⟨z, rfl, (Option.some.inj epr.2).symm⟩
      rw [ez1, ea1] at etup
      obtain ⟨js, ejs, eas⟩ := paired_get pa.ll ea
      have hjs := hqs js (List.mem_of_getElem? ejs)
      have nap := pa.np.2.2 a (List.mem_of_getElem? ea)
      have ntp := pa.np.2.1 t (List.mem_of_getElem? et)
      have e3t := k3 _ _ ntp etup
      have e3a := k3 _ _ nap eas
      have e3l := k3 _ _ nlp eln
      have tk1 : (zs.zip qs).take (i + 1) = (zs.zip qs).take i ++ [(z, js)] := by
        rw [List.take_add_one, (List.getElem?_zip_eq_some (l₁ := zs) (l₂ := qs) (z := (z, js)) (i := i)).mpr ⟨ez, ejs⟩]
        rfl
      have i28 : i < 28 := by
        rw [lts, List.length_zip] at hi
        omega
      refine ⟨t, _, rfl, SqT.of e3t, rfl, _, _, rfl, _, [], rfl, rfl, ?_⟩
      refine ⟨.ref a, rfl, a, jV js, rfl, .inl (SqL.of e3a), rfl, _, rfl, ite2 (fun c => ?_) (fun c => ?_)⟩
      · have c : js.length = 1 := by
          have c := V.int.inj (of_decide_eq_true c)
          rw [List.length_map] at c
          omega
        obtain ⟨j, rfl⟩ := List.length_eq_one_iff.mp c
        have hj : j < ls.length := hjs.2.2 j (by simp)
        have gl : (ls.map nS)[j]? = some (nS (ls.getD j [])) := by
          rw [List.getElem?_map, List.getElem?_eq_getElem hj, List.getD_eq_getElem?_getD, List.getElem?_eq_getElem hj]
          rfl
        refine ⟨.ref S, rfl, .inl ⟨rfl, _, SqL.of eS⟩, .ref p, rfl, .ref S, rfl, S, sa.map V.ref, rfl, .inl (SqL.of eS), _, 1, rfl, rfl, p, (sa.length : Int) + 1, by dsimp only; rw [List.length_map]; rfl, b3, by omega, by omega, fun H4 d k4 b4 d0 d1 => ?_⟩
        refine ⟨nS z, rfl, .ref ln, rfl, .ref a, rfl, a, jV [j], 0, .int (j : Nat), rfl, rfl, SqL.of (k4 _ _ nap e3a), atI_nat (j := 0) rfl, ln, _, (j : Nat), nS (ls.getD j []), rfl, rfl, SqL.of (k4 _ _ nlp e3l), atI_nat gl, two_sz, fun t' nt' => ?_⟩
        have eS4 := same_upd (o := .tup [nS z, nS (ls.getD j [])]) nt' _ _ (k4 _ _ nSp eS)
        refine ⟨S, _, d, .ref t', rfl, rfl, eS4, by rw [List.length_map]; exact small5000 (by omega), d0, by omega, ?_⟩
        have tk : TKF H3 (upd (upd H4 t' (.tup [nS z, nS (ls.getD j [])])) S (.lst ((sa.map V.ref).take d.toNat ++ [.ref t'] ++ (sa.map V.ref).drop d.toNat))) := (TKF.keep k4 b3).trans ((TKF.of (same_upd nt')).trans (.upd fun xs e => by rw [eS4] at e; cases e))
        have ntS : t' ≠ S := fun z => by rw [← z, upd_same] at eS4; cases eS4
        refine ⟨_, _, sa.take d.toNat ++ [t'] ++ sa.drop d.toNat, ja, sts.take d.toNat ++ [(z, ls.getD j [])] ++ sts.drop d.toNat, jns, rfl, (k3.trans (k4.trans (.of (same_upd nt')))).set nS', (b4.keep (same_upd nt')).at (upd_ne nSp.symm), by rw [upd_same, ins_map], ?_, ?_, ?_, paired_imp hJ (fun x _ y ⟨z, f1, f2⟩ => ⟨z, tk _ _ f1, tk _ _ f2⟩), ?_, by omega, ?_, ?_⟩
        · rw [upd_ne nSJ.symm]
          exact same_upd nt' _ _ (k4 _ _ nJp eJ)
        · rw [upd_ne nSR.symm]
          exact same_upd nt' _ _ (k4 _ _ nRp eR)
        · refine paired_ins _ (paired_imp hS fun x _ y e => tk _ _ e) ?_
          show (upd (upd H4 t' _) S _) t' = _
          rw [upd_ne ntS, upd_same]
        · simp only [List.length_append, List.length_take, List.length_drop, List.length_cons, List.length_nil]
          omega
        · rw [tk1, List.filterMap_append]
          exact (perm_ins _ _ _).trans (pS.append_right _)
        · rw [tk1, List.filterMap_append]
          show jns.Perm (_ ++ [])
          rw [List.append_nil]
          exact pJ
      · have c : js.length ≠ 1 := fun z => c (decide_eq_true (by rw [List.length_map, z]; rfl))
        refine ⟨.ref J, rfl, .inl ⟨rfl, _, SqL.of eJ⟩, .ref p, rfl, .ref J, rfl, J, ja.map V.ref, rfl, .inl (SqL.of eJ), _, 1, rfl, rfl, p, (ja.length : Int) + 1, by dsimp only; rw [List.length_map]; rfl, b3, by omega, by omega, fun H4 d k4 b4 d0 d1 => ?_⟩
        refine ⟨nS z, rfl, .ref a, rfl, a, rfl, ⟨_, SqL.of (k4 _ _ nap e3a)⟩, fun M nM => ?_⟩
        refine lc_it (walk_list (xs := jV js)) (fun n H5 => Same H4 H5 ∧ H5 M = some (.lst (((js.take n).map fun j => ls.getD j []).map nS))) ⟨same_upd nM, upd_same⟩ (fun n H5 _ pv => SqL.of (pv.1 _ _ (k4 _ _ nap e3a))) (fun n x H5 H6 hn pv y => ?_) (fun H5 pv => ?_)
        · obtain ⟨rfl, ex⟩ := y
          obtain ⟨s5, eM⟩ := pv
          obtain ⟨j, ej, rfl⟩ : ∃ j, js[n]? = some j ∧ x = .int (j : Nat) := by
            rw [List.getElem?_map] at ex
            cases h : js[n]? with
            | none => rw [h] at ex; cases ex
            | some t => rw [h] at ex; exact ⟨t, rfl, (Option.some.inj ex).symm⟩
          have hj : j < ls.length := hjs.2.2 j (List.mem_of_getElem? ej)
          have gl : (ls.map nS)[j]? = some (nS (ls.getD j [])) := by
            rw [List.getElem?_map, List.getElem?_eq_getElem hj, List.getD_eq_getElem?_getD, List.getElem?_eq_getElem hj]
            rfl
          refine ⟨rfl, yes_ ?_⟩
          refine ⟨.ref ln, rfl, .int (j : Nat), rfl, ln, _, (j : Nat), nS (ls.getD j []), rfl, rfl, SqL.of (s5 _ _ (k4 _ _ nlp e3l)), atI_nat gl, _, eM, ?_, same_set s5 nM, ?_⟩
          · rw [List.length_map, List.length_map, List.length_take]
            exact small5000 (by omega)
          · rw [upd_same, List.take_add_one, ej, List.map_append, List.map_append]
            rfl
        obtain ⟨s5, eM⟩ := pv
        rw [List.length_map, List.take_length] at eM
        refine ⟨M, _, rfl, .inl ⟨SqL.of eM, fun jt njt => ⟨two_sz, fun t' nt' => ?_⟩⟩⟩
        have s6 := s5.trans ((same_upd (o := .tup ((js.map fun j => ls.getD j []).map nS)) njt).trans (same_upd (o := .tup [nS z, .ref jt]) nt'))
        have et' : (upd (upd H5 jt (.tup ((js.map fun j => ls.getD j []).map nS))) t' (.tup [nS z, .ref jt])) t' = some (.tup [nS z, .ref jt]) := upd_same
        have ejt : (upd (upd H5 jt (.tup ((js.map fun j => ls.getD j []).map nS))) t' (.tup [nS z, .ref jt])) jt = some (.tup ((js.map fun j => ls.getD j []).map nS)) := same_upd nt' _ _ upd_same
        generalize upd (upd H5 jt (.tup ((js.map fun j => ls.getD j []).map nS))) t' (.tup [nS z, .ref jt]) = H6 at s6 et' ejt ⊢
        have eJ6 := s6 _ _ (k4 _ _ nJp eJ)
        refine ⟨J, _, d, .ref t', rfl, rfl, eJ6, by rw [List.length_map]; exact small5000 (by omega), d0, by omega, ?_⟩
        have tk6 : TKF H6 (upd H6 J (.lst ((ja.map V.ref).take d.toNat ++ [.ref t'] ++ (ja.map V.ref).drop d.toNat))) := .upd fun xs e => by rw [eJ6] at e; cases e
        have tk : TKF H3 (upd H6 J (.lst ((ja.map V.ref).take d.toNat ++ [.ref t'] ++ (ja.map V.ref).drop d.toNat))) := (TKF.keep k4 b3).trans ((TKF.of s6).trans tk6)
        refine ⟨_, _, sa, ja.take d.toNat ++ [t'] ++ ja.drop d.toNat, sts, jns.take d.toNat ++ [(z, js.map fun j => ls.getD j [])] ++ jns.drop d.toNat, rfl, (k3.trans (k4.trans (.of s6))).set nJ0, (b4.keep s6).at (upd_ne nJp.symm), ?_, by rw [upd_same, ins_map], ?_, paired_imp hS fun x _ y e => tk _ _ e, ?_, by omega, ?_, ?_, ?_⟩
        · rw [upd_ne nSJ]
          exact s6 _ _ (k4 _ _ nSp eS)
        · rw [upd_ne nJR.symm]
          exact s6 _ _ (k4 _ _ nRp eR)
        · exact paired_ins _ (paired_imp hJ (fun x _ y ⟨z, f1, f2⟩ => ⟨z, tk _ _ f1, tk _ _ f2⟩)) ⟨jt, tk6 _ _ et', tk6 _ _ ejt⟩
        · simp only [List.length_append, List.length_take, List.length_drop, List.length_cons, List.length_nil]
          omega
        · rw [tk1, List.filterMap_append]
          show sts.Perm (_ ++ (([(z, js)] : List (Nm × List Nat)).filterMap (stOf ls)))
          rw [show ([(z, js)] : List (Nm × List Nat)).filterMap (stOf ls) = [] by
            rw [List.filterMap_cons]
            unfold stOf
            rw [if_neg c]
            rfl, List.append_nil]
          exact pS
        · rw [tk1, List.filterMap_append]
          rw [show ([(z, js)] : List (Nm × List Nat)).filterMap (jnOf ls) = [(z, js.map fun j => ls.getD j [])] by
            rw [List.filterMap_cons]
            unfold jnOf
            rw [if_neg c]
            rfl]
          exact (perm_ins _ _ _).trans (pJ.append_right _)
    · obtain ⟨y7, y8, sa, ja, sts, jns, rfl, k3, b3, eS, eJ, eR, hS, hJ, lS, lJ, pS, pJ⟩ := hp
      rw [lts, List.take_length] at pS pJ
      obtain ⟨kvs, etd, knd, hkt⟩ := htd
      have ntp : td ≠ p := fun z => by
        obtain ⟨g, r, e, _⟩ := b
        rw [z, e] at etd
        cases etd
      have etd3 := k3 _ _ ntp etd
      refine ⟨td, .dT kvs, etd3, trivial, fun od => ?_⟩
      have tkl : TKF H3 (upd H3 td (.frz od (.dT kvs))) := .upd fun xs e => by rw [etd3] at e; cases e
      have nStd : S ≠ td := fun z => by rw [← z, nS'] at etd; cases etd
      have nJtd : J ≠ td := fun z => by rw [← z, nJ0] at etd; cases etd
      have nRtd : R ≠ td := fun z => by rw [← z, nR0] at etd; cases etd
      refine ⟨.ref td, rfl, td, od, rfl, .inr ⟨kvs, upd_same, ?_⟩⟩
      refine for_it (walk_keysT (kvs := kvs)) (fun i σ H5 => ∃ (y9 y10 y11 : Option V) (ra : List Addr) (rws : List Ti), σ = [some (.ref p), some (.ref ln), some (.ref pl), some (.ref td), some (.ref S), some (.ref J), some (.ref R), y7, y8, y9, y10, y11, none] ∧ Keep p (upd H td (.frz od (.dT kvs))) H5 ∧ Bag H5 p ∧ H5 td = some (.frz od (.dT kvs)) ∧ H5 S = some (.lst (sa.map V.ref)) ∧ H5 J = some (.lst (ja.map V.ref)) ∧ TKF H3 H5 ∧ H5 R = some (.lst (ra.map V.ref)) ∧ Paired (TiAt H5) ra rws ∧ ra.length ≤ i ∧ rws.Perm (tis.take i))
        ⟨none, none, none, [], [], rfl, fun c o nc ec => ?_, b3.at (upd_ne ntp.symm), upd_same, by rw [upd_ne nStd]; exact eS, by rw [upd_ne nJtd]; exact eJ, tkl, by rw [upd_ne nRtd]; exact eR, .nil, Nat.le_refl _, by rw [List.take_zero]⟩ (fun i σ H5 _ hp => ?_) (fun i x σ H5₀ H5 hi hp y => ?_) (fun σ H5 hp => ?_)
      · by_cases z : c = td
        · rw [z, upd_same] at ec ⊢
          exact ec
        · rw [upd_ne z] at ec ⊢
          exact k3 _ _ nc ec
      · obtain ⟨y9, y10, y11, ra, rws, rfl, k5, b5, etd5, _⟩ := hp
        exact etd5
      · obtain ⟨rfl, kk, v, u, ekv, rfl, eu⟩ := y
        obtain ⟨y9, y10, y11, ra, rws, rfl, k5, b5, etd5, eS5, eJ5, tk5, eR5, hR, lR, pR⟩ := hp
        obtain ⟨ti, eti, ekk, v0, ev, ev0⟩ := paired_get hkt ekv
        dsimp only at ekk ev
        subst ekk
        subst ev
        have ev3 := (TKF.keep k3 b) _ _ ev0
        refine ⟨u, _, rfl, SqT.of eu, rfl, _, _, rfl, _, [], rfl, rfl, ?_⟩
        refine ⟨nS ti.a, rfl, nS ti.b, rfl, two_sz, fun u1 n1 => ?_⟩
        refine ⟨.ref td, rfl, nS ti.a, rfl, nS ti.b, rfl, two_sz, fun u2 n2 => ?_⟩
        refine ⟨td, .ref v0, rfl, .inr ⟨kvs, [Sum.inr (SX.S ti.a), Sum.inr (SX.S ti.b)], u2, .inr ⟨od, same_upd n2 _ _ (same_upd n1 _ _ etd5)⟩, rfl, upd_same, (val_at knd ekv).symm⟩, ?_⟩
        refine ⟨u1, v0, [nS ti.a, nS ti.b], [nS ti.ln, .int ti.ch], rfl, rfl, SqT.of (same_upd n2 _ _ upd_same), SqT.of (same_upd n2 _ _ (same_upd n1 _ _ (tk5 _ _ ev3))), by simp, four_sz (x := nS ti.a) (y := nS ti.b) (z := nS ti.ln) (u := .int ti.ch), fun h => (by cases h), fun _ u3 n3 => ?_⟩
        have s6 := (same_upd (o := .tup [nS ti.a, nS ti.b]) n1).trans ((same_upd (o := .tup [nS ti.a, nS ti.b]) n2).trans (same_upd (o := .tup ([nS ti.a, nS ti.b] ++ [nS ti.ln, .int ti.ch])) n3))
        have eu3 : (upd (upd (upd H5 u1 (.tup [nS ti.a, nS ti.b])) u2 (.tup [nS ti.a, nS ti.b])) u3 (.tup ([nS ti.a, nS ti.b] ++ [nS ti.ln, .int ti.ch]))) u3 = some (.tup [nS ti.a, nS ti.b, nS ti.ln, .int ti.ch]) := upd_same
        generalize upd (upd (upd H5 u1 (.tup [nS ti.a, nS ti.b])) u2 (.tup [nS ti.a, nS ti.b])) u3 (.tup ([nS ti.a, nS ti.b] ++ [nS ti.ln, .int ti.ch])) = H6 at s6 eu3 ⊢
        have eR6 := s6 _ _ eR5
        have b6 := b5.keep s6
        have il : i < tis.length := (List.getElem?_eq_some_iff.mp eti).1
        refine ⟨.ref R, rfl, .inl ⟨rfl, _, SqL.of eR6⟩, .ref p, rfl, .ref R, rfl, R, ra.map V.ref, rfl, .inl (SqL.of eR6), _, 1, rfl, rfl, p, (ra.length : Int) + 1, by dsimp only; rw [List.length_map]; rfl, b6, by omega, by omega, fun H7 d k7 b7 d0 d1 => ?_⟩
        have eR7 := k7 _ _ nRp eR6
        refine ⟨.ref u3, rfl, R, _, d, .ref u3, rfl, rfl, eR7, by rw [List.length_map]; exact small5000 (by omega), d0, by omega, ?_⟩
        have tk7 : TKF H6 (upd H7 R (.lst ((ra.map V.ref).take d.toNat ++ [.ref u3] ++ (ra.map V.ref).drop d.toNat))) := (TKF.keep k7 b6).trans (.upd fun xs e => by rw [eR7] at e; cases e)
        have nRf : (upd H td (.frz od (.dT kvs))) R = none := by rw [upd_ne nRtd]; exact nR0
        refine ⟨_, _, _, ra.take d.toNat ++ [u3] ++ ra.drop d.toNat, rws.take d.toNat ++ [ti] ++ rws.drop d.toNat, rfl, (k5.trans ((Keep.of s6).trans k7)).set nRf, b7.at (upd_ne nRp.symm), ?_, ?_, ?_, tk5.trans ((TKF.of s6).trans tk7), by rw [upd_same, ins_map], paired_ins _ (paired_imp hR fun x _ y e => tk7 _ _ (s6 _ _ e)) (tk7 _ _ eu3), ?_, ?_⟩
        · rw [upd_ne nRtd.symm]
          exact k7 _ _ ntp (s6 _ _ etd5)
        · rw [upd_ne nSR]
          exact k7 _ _ nSp (s6 _ _ eS5)
        · rw [upd_ne nJR]
          exact k7 _ _ nJp (s6 _ _ eJ5)
        · simp only [List.length_append, List.length_take, List.length_drop, List.length_cons, List.length_nil]
          omega
        · rw [List.take_add_one, eti]
          exact (perm_ins _ _ _).trans (pR.append_right _)
      · obtain ⟨y9, y10, y11, ra, rws, rfl, k5, b5, etd5, eS5, eJ5, tk5, eR5, hR, lR, pR⟩ := hp
        rw [paired_len hkt, List.take_length] at pR
        refine ⟨etd5, ?_⟩
        have kf : Keep p H (upd H5 td (.dT kvs)) := fun c o nc ec => by
          by_cases z : c = td
          · rw [z] at ec ⊢
            rw [upd_same, ← etd]
            exact ec
          · rw [upd_ne z]
            exact k5 _ _ nc (by rw [upd_ne z]; exact ec)
        have bf : Bag (upd H5 td (.dT kvs)) p := b5.at (upd_ne ntp.symm)
        have tkf : TKF H5 (upd H5 td (.dT kvs)) := .upd fun xs e => by rw [etd5] at e; cases e
        have eSf : (upd H5 td (.dT kvs)) S = some (.lst (sa.map V.ref)) := by rw [upd_ne nStd]; exact eS5
        have eJf : (upd H5 td (.dT kvs)) J = some (.lst (ja.map V.ref)) := by rw [upd_ne nJtd]; exact eJ5
        have eRf : (upd H5 td (.dT kvs)) R = some (.lst (ra.map V.ref)) := by rw [upd_ne nRtd]; exact eR5
        generalize upd H5 td (.dT kvs) = Hf at kf bf tkf eSf eJf eRf ⊢
        have elf := kf _ _ nlp eln
        refine ⟨.ref ln, rfl, ln, _, rfl, SqL.of elf, fun a Ha na sa' ta' ua => ?_⟩
        refine ⟨.ref S, rfl, S, _, rfl, SqL.of (sa' _ _ eSf), fun b' Hb nb sb' tb' ub => ?_⟩
        refine ⟨.ref J, rfl, J, _, rfl, SqL.of (sb' _ _ (sa' _ _ eJf)), fun c Hc nc sc' tc' uc => ?_⟩
        refine ⟨.ref R, rfl, R, _, rfl, SqL.of (sc' _ _ (sb' _ _ (sa' _ _ eRf))), fun d Hd nd sd' td' ud => ?_⟩
        refine ⟨four_sz, fun r nr => ?_⟩
        have sr' := same_upd (o := .tup [.ref a, .ref b', .ref c, .ref d]) nr
        have sf := sa'.trans (sb'.trans (sc'.trans (sd'.trans sr')))
        have tkr : TKF H5 _ := tkf.trans (.of sf)
        have nrf : Hf r = none := sa'.free (sb'.free (sc'.free (sd'.free nr)))
        refine q _ r sts jns rws (kf.trans (.of sf)) (bf.keep sf) ⟨a, b', c, d, sa, ja, ra, upd_same, (((ta'.same sb').same sc').same sd').same sr', ((tb'.same sc').same sd').same sr', paired_imp hS fun x _ y e => tkr _ _ (tk5 _ _ e), (tc'.same sd').same sr', paired_imp hJ (fun x _ y ⟨z, f1, f2⟩ => ⟨z, tkr _ _ (tk5 _ _ f1), tkr _ _ (tk5 _ _ f2)⟩), td'.same sr', paired_imp hR fun x _ y e => tkr _ _ e⟩ pS pJ pR (kf.free b nrf bf)
end
end Th
namespace Th
open PySem PySem.Spec PyProof.Rows L2
/-! the drawn net -/
def TieOk (zs : List Nm) (qs : List (List Nat)) (ls : List Nm) (t : Ti) : Prop := ∃ (i j x : Nat) (a b : List Nat), i ≠ j ∧ zs[i]? = some t.a ∧ zs[j]? = some t.b ∧ qs[i]? = some a ∧ qs[j]? = some b ∧ x ∈ a ∧ x ∈ b ∧ ls[x]? = some t.ln ∧ 1 ≤ t.ch ∧ t.ch ≤ 9999
def Apart (s t : Ti) : Prop := ¬ (s.a = t.a ∧ s.b = t.b) ∧ ¬ (s.a = t.b ∧ s.b = t.a)
structure NetOk (ls zs : List Nm) (qs : List (List Nat)) (J : Nat) (tis : List Ti) : Prop where
  l1 : 1 ≤ ls.length
  l8 : ls.length ≤ 8
  lnd : ls.Nodup
  lnm : ∀ z ∈ ls, IsNm z
  q : PlQ ls.length J qs
  lz : zs.length = qs.length
  znd : zs.Nodup
  znm : ∀ z ∈ zs, IsNm z
  ok : ∀ t ∈ tis, TieOk zs qs ls t
  ap : tis.Pairwise Apart
  way : ∀ i, i < J + 1 → ∃ t ∈ tis, zs[i]? = some t.a ∧ zs[i + 1]? = some t.b
  t40 : tis.length ≤ 40
theorem nms_of {ls : List Nm} (h : ∀ k l, ls[k]? = some l → NmAt k l) : ∀ z ∈ ls, IsNm z := fun z hz => by
  obtain ⟨k, hk⟩ := List.getElem?_of_mem hz
  exact (h k z hk).nm
theorem PlAt.at {p : Addr} {H : Hp} {l : Addr} {ts as : List Addr} {zs qs : List (List Nat)} (h : PlAt p H l ts zs as qs) {i : Nat} (hi : i < qs.length) :
    ∃ t z a js, ts[i]? = some t ∧ zs[i]? = some z ∧ as[i]? = some a ∧ qs[i]? = some js ∧ H t = some (.tup [nS z, .ref a]) ∧ H a = some (.lst (jV js)) ∧ t ≠ p ∧ a ≠ p := by
  have et : ts[i]? = some (ts[i]'(by rw [h.lt]; exact hi)) := List.getElem?_eq_getElem _
  obtain ⟨pr, epr, etup⟩ := paired_get h.tup et
  rw [List.getElem?_zip_eq_some, List.getElem?_map, List.getElem?_map] at epr
  obtain ⟨z, ez, ez1⟩ : ∃ z, zs[i]? = some z ∧ pr.1 = nS z := by
    cases h : zs[i]? with
    | none => rw [h] at epr; cases epr.1
    | some z => rw [h] at epr; exact ⟨z, rfl, (Option.some.inj epr.1).symm⟩
  obtain ⟨a, ea, ea1⟩ : ∃ a, as[i]? = some a ∧ pr.2 = .ref a := by
    cases h : as[i]? with
    | none => rw [h] at epr; cases epr.2
    | some z => rw [h] at epr; exact ⟨z, rfl, (Option.some.inj epr.2).symm⟩
  rw [ez1, ea1] at etup
  obtain ⟨js, ejs, eas⟩ := paired_get h.ll ea
  exact ⟨_, z, a, js, et, ez, ea, ejs, etup, eas, h.np.2.1 _ (List.mem_of_getElem? et), h.np.2.2 a (List.mem_of_getElem? ea)⟩
theorem PlQ.each {n J : Nat} {qs : List (List Nat)} (h : PlQ n J qs) (n8 : n ≤ 8) : ∀ js ∈ qs, 1 ≤ js.length ∧ js.length ≤ 8 ∧ ∀ j ∈ js, j < n := by
  obtain ⟨f, l, ss, tw, rfl, h1, h2, hf, hl, htw, _, _⟩ := h.form
  have one : ∀ x, x < n → 1 ≤ [x].length ∧ [x].length ≤ 8 ∧ ∀ j ∈ [x], j < n := fun x hx => ⟨by simp, by simp, fun j hj => by rw [List.mem_singleton.mp hj]; exact hx⟩
  intro js hj
  rcases List.mem_append.mp hj with z | z
  · rcases List.mem_append.mp z with z | z
    · rcases List.mem_cons.mp z with z | z
      · rw [z]
        exact one f hf
      · have s := h2 js z
        exact ⟨by have := s.two; omega, s.len8 n8, s.lt⟩
    · rw [List.mem_singleton.mp z]
      exact one l hl
  · obtain ⟨x, hx, rfl⟩ := List.mem_map.mp z
    exact one x (htw x hx)
theorem PlQ.count {n J : Nat} {qs : List (List Nat)} (h : PlQ n J qs) : qs.countP (fun js => decide (1 < js.length)) = J := by
  obtain ⟨f, l, ss, tw, rfl, h1, h2, _⟩ := h.form
  have e1 : ss.countP (fun js => decide (1 < js.length)) = ss.length := List.countP_eq_length.mpr fun js hj => decide_eq_true (by have := (h2 js hj).two; omega)
  have e2 : (tw.map fun x => [x]).countP (fun js : List Nat => decide (1 < js.length)) = 0 := List.countP_eq_zero.mpr fun js hj => by
    obtain ⟨x, _, rfl⟩ := List.mem_map.mp hj
    simp
  rw [List.countP_append, List.countP_append, List.countP_cons, e1, e2, List.countP_singleton, h1]
  simp
theorem tid_none {H : Hp} {kvs : List (List Key × V)} {tis : List Ti} (h : Paired (fun kv (t : Ti) => kv.1 = [Sum.inr (SX.S t.a), Sum.inr (SX.S t.b)] ∧ ∃ v, kv.2 = .ref v ∧ H v = some (.tup [nS t.ln, .int t.ch])) kvs tis) (a b : Nm) :
    valV kvs [Sum.inr (SX.S a), Sum.inr (SX.S b)] = none ↔ ∀ t ∈ tis, ¬ (t.a = a ∧ t.b = b) := by
  induction h with
  | nil => exact ⟨fun _ t ht => (by cases ht), fun _ => rfl⟩
  | @cons kv t kvs tis hk _ ih =>
    by_cases e : t.a = a ∧ t.b = b
    · rw [valV_pos (by rw [hk.1, e.1, e.2])]
      exact ⟨fun z => (by cases z), fun z => absurd e (z t (List.mem_cons_self ..))⟩
    · rw [valV_neg (fun z => e (by
        rw [hk.1] at z
        simp only [List.cons.injEq, Sum.inr.injEq, and_true] at z
        exact ⟨SX.S_inj z.1, SX.S_inj z.2⟩)), ih]
      exact ⟨fun z x hx => (List.mem_cons.mp hx).elim (fun q => by rw [q]; exact e) (z x), fun z x hx => z x (List.mem_cons_of_mem _ hx)⟩
theorem key_none {kvs : List (List Key × V)} {k : List Key} (h : valV kvs k = none) : k ∉ kvs.map (·.1) := fun z => by
  obtain ⟨kv, h1, h2⟩ := List.mem_map.mp z
  have := valV_any k kvs
  rw [h] at this
  have h3 : (kvs.any fun kv => decide (kv.1 = k)) = true := List.any_eq_true.mpr ⟨kv, h1, decide_eq_true h2⟩
  rw [h3] at this
  cases this
theorem jV_app (a b : List Nat) : jV (a ++ b) = jV a ++ jV b := List.map_append
theorem TiD.keep {p td : Addr} {H H' : Hp} {tis : List Ti} (h : TiD H td tis) (k : Keep p H H') (b : Bag H p) : TiD H' td tis := by
  obtain ⟨kvs, e, nd, hp⟩ := h
  have n : td ≠ p := fun z => by
    obtain ⟨g, r, e', _⟩ := b
    rw [z, e'] at e
    cases e
  exact ⟨kvs, k _ _ n e, nd, paired_imp hp fun kv _ t ⟨h1, v, h2, h3⟩ => ⟨h1, v, h2, (TKF.keep k b) _ _ h3⟩⟩
theorem Chained.at : ∀ {l : List (List Nat)} {i : Nat} {a b : List Nat}, Chained l → l[i]? = some a → l[i + 1]? = some b → ∃ x, x ∈ a ∧ x ∈ b
  | [], _, _, _, _, h, _ => by simp at h
  | [_], 0, _, _, _, _, h => by simp at h
  | [_], i + 1, _, _, _, h, _ => by simp at h
  | c :: d :: r, 0, a, b, hc, h1, h2 => by
    have e1 := Option.some.inj h1
    have e2 := Option.some.inj h2
    subst e1
    subst e2
    exact hc.1
  | c :: d :: r, i + 1, a, b, hc, h1, h2 => Chained.at (l := d :: r) (i := i) hc.2 h1 h2
theorem PlQ.chain {n J : Nat} {qs : List (List Nat)} (h : PlQ n J qs) {i : Nat} (hi : i < J + 1) {a b : List Nat} (e1 : qs[i]? = some a) (e2 : qs[i + 1]? = some b) : ∃ x, x ∈ a ∧ x ∈ b := by
  obtain ⟨f, l, ss, tw, rfl, h1, _, _, _, _, hc, _⟩ := h.form
  have hl : (([f] :: ss) ++ [[l]]).length = J + 2 := by simp [h1]
  rw [List.getElem?_append_left (by omega)] at e1 e2
  exact Chained.at hc e1 e2
abbrev jI (js : List Nat) : List Int := js.map fun j => ((j : Nat) : Int)
theorem jV_ints (js : List Nat) : jV js = (jI js).map V.int := by rw [List.map_map]; rfl
/-- a place as data -/
abbrev plD (z : Nm) (js : List Nat) : PyData := .tuple [.str (SX.S z), dI (jI js)]
theorem dt_pl {H : Hp} {t a : Addr} {z : Nm} {js : List Nat} (e : H t = some (.tup [nS z, .ref a])) (ea : H a = some (.lst (jV js))) (h : js.length ≤ 5000) : Dt SA H (.ref t) (plD z js) :=
  .tup trivial e (by show 2 ≤ 5000; decide) (.cons (.str _) (.cons (dt_ints (by rw [ea, jV_ints]) (by rw [List.length_map]; exact h)) .nil))
theorem lay_pl {z : Nm} (hz : IsNm z) (js : List Nat) : (plD z js).canLay0 = true := by
  show (PyData.strOk (SX.S z) && (PyData.canLay0 (dI (jI js)) && true)) = true
  rw [lay_ints, nm_ok hz]
  rfl
theorem shaped_pl {z : Nm} (hz : IsNm z) (js : List Nat) : SeqAt.shaped (plD z js) = true := Bool.and_eq_true_iff.mpr ⟨lay_pl hz js, decide_eq_true (by
  show max 0 (max (PyData.depth (dI (jI js))) 0) + 1 ≤ _
  rw [depth_ints]
  decide)⟩
theorem eqv_pl {z z' : Nm} {js js' : List Nat} (h : PyData.eqv (plD z js) (plD z' js') = true) : z = z' := by
  have h : (PyData.eqv (.str (SX.S z)) (.str (SX.S z')) && (PyData.eqv (dI (jI js)) (dI (jI js')) && true)) = true := h
  exact SX.S_inj (eq_of_beq (Bool.and_eq_true_iff.mp h).1)
theorem in_ints {x : Nat} {js : List Nat} : inV (.int (x : Nat)) (jV js) = decide (x ∈ js) := by
  unfold inV
  rw [List.any_map]
  by_cases h : x ∈ js
  · rw [decide_eq_true h]
    exact List.any_eq_true.mpr ⟨x, h, by show ((x : Int) == (x : Int)) = true; simp⟩
  · rw [decide_eq_false h]
    refine List.any_eq_false.mpr fun y hy z => h ?_
    have z : (((y : Nat) : Int) == ((x : Nat) : Int)) = true := z
    have := eq_of_beq z
    rw [show x = y by omega]
    exact hy
theorem flat_ints (js : List Nat) : (jV js).all flatV = true := List.all_eq_true.mpr fun x hx => by
  obtain ⟨j, _, rfl⟩ := List.mem_map.mp hx
  rfl
section
variable {P : Program} {w : World} {K : PySem.W.Frag} {mg : Str → Option Value} {base : Heap} {k : Nat}
def sp_l_net : Sp := fun vs H Q _ => ∃ p, vs = [.ref p] ∧ Bag H p ∧ ∀ (H' : Hp) (r nt wy : Addr) (ls zs : List Nm) (qs : List (List Nat)) (J : Nat) (tis : List Ti) (sts : List (Nm × Nm)) (jns : List (Nm × List Nm)) (rws : List Ti), Keep p H H' → Bag H' p → H' r = some (.tup [.ref nt, .ref wy]) →
  NetAt H' nt ls sts jns rws → H' wy = some (.tup ((zs.take (J + 2)).map nS)) → NetOk ls zs qs J tis → sts.Perm ((zs.zip qs).filterMap (stOf ls)) → jns.Perm ((zs.zip qs).filterMap (jnOf ls)) → rws.Perm tis → Q (.ref r) H'
set_option maxHeartbeats 8000000 in
theorem ok_l_net (T : Defs K mg) : FnOk P w K mg base CX0 (k + 4) T.a_l_net T.d_l_net ["_law_bag_here"] sp_l_net := by
  have G_l_take : FnOk P w K mg base CX0 (k + 3) _ _ _ _ := ok_l_take (k := k + 2) T
  have G_l_names : FnOk P w K mg base CX0 (k + 3) _ _ _ _ := ok_l_names (k := k + 1) T
  have G_l_places : FnOk P w K mg base CX0 (k + 3) _ _ _ _ := ok_l_places T
  have G_l_laid : FnOk P w K mg base CX0 (k + 3) _ _ _ _ := ok_l_laid (k := k + 1) T
  refine T.F_l_net.ok sc_l_net (fun vs H Q E h => ?_) (fun cdv A outer s H vs Q E hr h => ?_)
  · obtain ⟨p, rfl, _⟩ := h
    rfl
  · obtain ⟨p, rfl, b, q⟩ := h
    refine ⟨_, PSs.nox
(pss_cons (ps_set (i := 1) sc_l_net.nd rfl (.inl rfl) (pe_ix (r := rIxT K) ix_tup (pe_tup (pa_cons (pe_int) (pa_cons (pe_int) (pa_cons (pe_int) (pa_cons (pe_int) (pa_cons (pe_int) (pa_cons (pe_int) (pa_cons (pe_int) (pa_cons (pe_int) pa_nil))))))))) (pe_call G_l_take hr (by rfl) T.g_l_take T.F_l_take.kp T.b_l_take .nil pass0 (pa_cons (pv 0) (pa_cons (pe_int) pa_nil))) (fun _ _ => rfl)))
    (pss_cons (ps_set (i := 2) sc_l_net.nd rfl (.inl rfl) (pe_call G_l_names hr (by rfl) T.g_l_names T.F_l_names.kp T.b_l_names .nil pass0 (pa_cons (pv 0) (pa_cons (pv 1) pa_nil))))
    (pss_cons (ps_set (i := 3) sc_l_net.nd rfl (.inl rfl) (pe_call G_l_places hr (by rfl) T.g_l_places T.F_l_places.kp T.b_l_places .nil pass0 (pa_cons (pv 0) (pa_cons (pv 1) pa_nil))))
    (Evl.pss_cut (ps_if (pt_cmpR op_eq (pe_call G_l_take hr (by rfl) T.g_l_take T.F_l_take.kp T.b_l_take .nil pass0 (pa_cons (pv 0) (pa_cons (pe_int) pa_nil))) (pe_int) (nomark _))
      (pss_one (ps_asg (pe_ix (r := rIxT K) ix_tup (pe_ix (r := rIxL K) ix_list (pv 3) (pe_int) (fun _ _ => rfl)) (pe_int) (fun _ _ => rfl)) (pg_sub (pv 2) (pe_int) set_list)))
      pss_nil)
    (pss_cons (ps_set (i := 4) sc_l_net.nd rfl (.inl rfl) (pe_op op_add (pe_int) (pe_callB (r := rLenS K) call_lenS (by rfl) T.z_len (by decide +kernel) (pa_cons (pe_lc (own := [("_law_one", 7)]) (g := gName 7) rfl sc_l_net.nd (pi_list (pv 3)) (blkOk_by (N := N_l_net) (sc := defScope s_l_net) (by decide +kernel)) (fun _ _ _ _ _ => (pg_name (i := 7) sc_l_net.nd rfl (.inl rfl))) (fun _ _ _ _ _ => pts_one (pt_cmpR op_gt (pe_callB (r := rLenS K) call_lenS (by rfl) T.z_len (by decide +kernel) (pa_cons (pe_ix (r := rIxT K) ix_tup (pv 7) (pe_int) (fun _ _ => rfl)) pa_nil)) (pe_int) (nomark _))) (fun _ _ _ _ _ => (pv 7))) pa_nil))))
    (pss_cons (ps_set (i := 5) sc_l_net.nd rfl (.inl rfl) (pe_dnewT))
    (pss_cons (ps_for PassesOwn.never rfl (pi_range1 (by rfl) T.z_range (pa_cons (pe_op op_add (pe_op op_sub (pv 4) (pe_int)) (pe_call G_l_take hr (by rfl) T.g_l_take T.F_l_take.kp T.b_l_take .nil pass0 (pa_cons (pv 0) (pa_cons (pe_int) pa_nil)))) pa_nil)) (pg_name (i := 6) sc_l_net.nd rfl (.inl rfl))
      (pss_cons (ps_set (i := 7) sc_l_net.nd rfl (.inl rfl) (pe_ix (r := rIxL K) ix_list (pv 3) (pe_op op_mod (pv 6) (pe_callB (r := rLenS K) call_lenS (by rfl) T.z_len (by decide +kernel) (pa_cons (pv 3) pa_nil))) (fun _ _ => rfl)))
      (pss_cons (ps_set (i := 8) sc_l_net.nd rfl (.inr rfl) (pe_ix (r := rIxL K) ix_list (pv 3) (pe_op op_mod (pe_op op_add (pv 6) (pe_int)) (pe_callB (r := rLenS K) call_lenS (by rfl) T.z_len (by decide +kernel) (pa_cons (pv 3) pa_nil))) (fun _ _ => rfl)))
      (Evl.pss_cut (ps_if (pt_cmpR op_ge (pv 6) (pe_op op_sub (pv 4) (pe_int)) (nomark _))
        (pss_cons (ps_set (i := 7) sc_l_net.nd rfl (.inl rfl) (pe_ix (r := rIxL K) ix_list (pv 3) (pe_call G_l_take hr (by rfl) T.g_l_take T.F_l_take.kp T.b_l_take .nil pass0 (pa_cons (pv 0) (pa_cons (pe_callB (r := rLenS K) call_lenS (by rfl) T.z_len (by decide +kernel) (pa_cons (pv 3) pa_nil)) pa_nil))) (fun _ _ => rfl)))
        (pss_one (ps_set (i := 8) sc_l_net.nd rfl (.inr rfl) (pe_ix (r := rIxL K) ix_list (pv 3) (pe_call G_l_take hr (by rfl) T.g_l_take T.F_l_take.kp T.b_l_take .nil pass0 (pa_cons (pv 0) (pa_cons (pe_callB (r := rLenS K) call_lenS (by rfl) T.z_len (by decide +kernel) (pa_cons (pv 3) pa_nil)) pa_nil))) (fun _ _ => rfl)))))
        pss_nil)
      (pss_cons (ps_setLc (i := 9) (own := [("_law_line", 12)]) (g := gName 12) rfl sc_l_net.nd rfl rfl (sw_true rfl rfl rfl (by decide +kernel)) (pi_list (pe_ix (r := rIxT K) ix_tup (pv 7) (pe_int) (fun _ _ => rfl))) (blkOk_by (N := N_l_net) (sc := defScope s_l_net) (by decide +kernel)) (fun _ _ _ _ _ => (pg_name (i := 12) sc_l_net.nd rfl (.inl rfl))) (fun _ _ _ _ _ => pts_one (pt_cmpR (r := rIn K false) op_in_seq (pv 12) (pe_ix (r := rIxT K) ix_tup (pv 8) (pe_int) (fun _ _ => rfl)) (by rfl))) (fun _ _ _ _ _ => (pv 12)))
      (pss_cons (ps_set (i := 10) sc_l_net.nd rfl (.inl rfl) (pe_op op_add (pe_int) (pe_call G_l_take hr (by rfl) T.g_l_take T.F_l_take.kp T.b_l_take .nil pass0 (pa_cons (pv 0) (pa_cons (pe_ix (r := rIxT K) ix_tup (pe_tup (pa_cons (pe_int) (pa_cons (pe_int) (pa_cons (pe_int) pa_nil)))) (pe_call G_l_take hr (by rfl) T.g_l_take T.F_l_take.kp T.b_l_take .nil pass0 (pa_cons (pv 0) (pa_cons (pe_int) pa_nil))) (fun _ _ => rfl)) pa_nil)))))
      (Evl.pss_cut (ps_set (i := 11) sc_l_net.nd rfl (.inl rfl) (pe_or (pe_cmp (pc_din (hu_of hr) (pe_tup (pa_cons (pe_ix (r := rIxT K) ix_tup (pv 7) (pe_int) (fun _ _ => rfl)) (pa_cons (pe_ix (r := rIxT K) ix_tup (pv 8) (pe_int) (fun _ _ => rfl)) pa_nil))) (pv 5))) (pe_one (pe_cmp (pc_din (hu_of hr) (pe_tup (pa_cons (pe_ix (r := rIxT K) ix_tup (pv 8) (pe_int) (fun _ _ => rfl)) (pa_cons (pe_ix (r := rIxT K) ix_tup (pv 7) (pe_int) (fun _ _ => rfl)) pa_nil))) (pv 5))))))
      (pss_one (ps_if (PW.pt (pw_and (pt_cmpR (r := rNeD K) (op_neD hr.units) (pv 7) (pv 8) (nomark _)) (pw_and (pt_cmpR (r := rNeD K) (op_neD hr.units) (pv 9) (pe_lst pa_nil) (nomark _)) (pw_and1 (pt_not (pt_val (pv 11)))))))
        (pss_one (ps_dput (hu_of hr) (pv 5) (pe_tup (pa_cons (pe_ix (r := rIxT K) ix_tup (pv 7) (pe_int) (fun _ _ => rfl)) (pa_cons (pe_ix (r := rIxT K) ix_tup (pv 8) (pe_int) (fun _ _ => rfl)) pa_nil))) (pe_tup (pa_cons (pe_ix (r := rIxL K) ix_list (pv 2) (pe_ix (r := rIxL K) ix_list (pv 9) (pe_call G_l_take hr (by rfl) T.g_l_take T.F_l_take.kp T.b_l_take .nil pass0 (pa_cons (pv 0) (pa_cons (pe_callB (r := rLenS K) call_lenS (by rfl) T.z_len (by decide +kernel) (pa_cons (pv 9) pa_nil)) pa_nil))) (fun _ _ => rfl)) (fun _ _ => rfl)) (pa_cons (pv 10) pa_nil))) (by rfl)))
        pss_nil)))))))))
    (pss_one (ps_ret (pe_tup (pa_cons (pe_call G_l_laid hr (by rfl) T.g_l_laid T.F_l_laid.kp T.b_l_laid .nil pass0 (pa_cons (pv 0) (pa_cons (pv 2) (pa_cons (pv 3) (pa_cons (pv 5) pa_nil))))) (pa_cons (pe_callTy call_tuple_of (by rfl) T.z_tuple (by decide +kernel) (pa_cons (pe_lc (own := [("_law_one", 7)]) (g := gName 7) rfl sc_l_net.nd (pi_list (pe_slice sl_list (pv 3) po_none (po_some (pv 4)))) (blkOk_by (N := N_l_net) (sc := defScope s_l_net) (by decide +kernel)) (fun _ _ _ _ _ => (pg_name (i := 7) sc_l_net.nd rfl (.inl rfl))) (fun _ _ _ _ _ => pts_nil) (fun _ _ _ _ _ => (pe_ix (r := rIxT K) ix_tup (pv 7) (pe_int) (fun _ _ => rfl)))) pa_nil)) pa_nil))))))))))))
      , ?_⟩
    refine ⟨by decide, fun t nt => ?_⟩
    have ntp : t ≠ p := b.ne nt
    refine ⟨.ref p, rfl, p, 8, rfl, b.keep (same_upd nt), by decide, by decide, fun H1 d k1 b1 d0 d1 => ?_⟩
    obtain ⟨m0, hm0, em0⟩ := pick (ms := [3, 8, 2, 5, 1, 4, 6, 7]) d0 d1
    refine ⟨t, _, d, _, rfl, rfl, SqT.of (k1 _ _ ntp upd_same), em0, ?_⟩
    have k1 : Keep p H H1 := (Keep.of (same_upd nt)).trans k1
    obtain ⟨n, rfl, n1, n8⟩ : ∃ n : Nat, m0 = (n : Int) ∧ 1 ≤ n ∧ n ≤ 8 := by
      simp only [List.mem_cons, List.not_mem_nil, or_false] at hm0
      exact ⟨m0.toNat, by omega, by omega, by omega⟩
    -- lines
    refine ⟨.ref p, rfl, .int n, rfl, p, n, rfl, b1, by omega, fun H2 ln ls0 k2 b2 nln eln hl0 _ _ nat0 => ?_⟩
    have nln0 : H ln = none := k1.free b nln b1
    have nlp : ln ≠ p := b1.ne nln
    have k2 := k1.trans k2
    -- places
    refine ⟨.ref p, rfl, .int n, rfl, p, n, rfl, b2, n1, n8, fun H3 pl ts as zs qs J k3 b3 pa pq znd znm znat npl nts nas => ?_⟩
    have eln3 := k3 _ _ nlp eln
    have k3 := k2.trans k3
    have lnpl : ln ≠ pl := ne_of_none eln npl
    have lnts : ∀ a ∈ ts, ln ≠ a := fun a ha => ne_of_none eln (nts a ha)
    have lnas : ∀ a ∈ as, ln ≠ a := fun a ha => ne_of_none eln (nas a ha)
    have hN := pq.len
    -- a line by a place's name
    refine ⟨fun σ H5 => ∃ ls : List Nm, σ = [some (.ref p), some (.int n), some (.ref ln), some (.ref pl), none, none, none, none, none, none, none, none, none] ∧ Keep p H H5 ∧ Bag H5 p ∧ PlAt p H5 pl ts zs as qs ∧ H5 ln = some (.lst (ls.map nS)) ∧ ls.length = n ∧ ∀ k l, ls[k]? = some l → NmAt k l, ?_, fun σ H5 mid => ?_⟩
    · refine ⟨.ref p, rfl, p, 3, rfl, b3, by decide, by decide, fun H4 d4 k4 b4 d40 d41 => ⟨rfl, _, rfl, ite2 (fun c => ?_) (fun c => ?_)⟩⟩
      · obtain ⟨t0, z0, a0, j0, et0, ez0, _, _, e0, _, nt0, _⟩ := (pa.keep k4).at (i := 0) (by omega)
        refine ⟨.ref pl, rfl, pl, ts.map V.ref, 0, .ref t0, rfl, rfl, SqL.of (pa.keep k4).lst, atI_nat (j := 0) (by rw [List.getElem?_map, et0]; rfl), t0, [nS z0, .ref a0], 0, nS z0, rfl, rfl, SqT.of e0, atI_nat (j := 0) rfl, ?_⟩
        refine ⟨.ref ln, rfl, ln, _, 0, 0, rfl, rfl, k4 _ _ nlp eln3, ?_, ?_⟩
        · rw [List.length_map, hl0]
          exact Evl.ixN_nat n1
        have eset : (ls0.map nS).set 0 (nS z0) = (ls0.set 0 z0).map nS := by rw [List.map_set]
        refine ⟨ls0.set 0 z0, rfl, (k3.trans k4).set nln0, b4.at (upd_ne nlp.symm), ?_, by rw [upd_same, eset], by rw [List.length_set, hl0], fun k l hk => ?_⟩
        · have pk := pa.keep k4
          refine ⟨by rw [upd_ne lnpl.symm]; exact pk.lst, paired_imp pk.tup fun a ha x e => by rw [upd_ne (lnts a ha).symm]; exact e, paired_imp pk.ll fun a ha x e => by rw [upd_ne (lnas a ha).symm]; exact e, pk.lz, pk.lt, pk.np⟩
        · rw [List.getElem?_set] at hk
          split at hk
          · rename_i z
            subst z
            split at hk
            · have := Option.some.inj hk
              subst this
              exact znat 0 _ ez0
            · cases hk
          · exact nat0 k l hk
      · exact ⟨ls0, rfl, k3.trans k4, b4, pa.keep k4, k4 _ _ nlp eln3, hl0, nat0⟩
    obtain ⟨ls, rfl, k5, b5, pa5, eln5, hln, lnat⟩ := mid
    -- row
    refine ⟨.ref pl, rfl, pl, rfl, ⟨_, SqL.of pa5.lst⟩, fun D nD => ?_⟩
    have lts : (ts.map V.ref).length = qs.length := by rw [List.length_map, pa5.lt]
    refine lc_it (walk_list (xs := ts.map V.ref)) (fun i H6 => Same H5 H6 ∧ ∃ xs : List V, H6 D = some (.lst xs) ∧ xs.length = (qs.take i).countP (fun js => decide (1 < js.length))) ⟨same_upd nD, [], upd_same, by rw [List.take_zero]; rfl⟩ (fun i H6 _ pv => SqL.of (pv.1 _ _ pa5.lst)) (fun i x H6₀ H6 hi pv y => ?_) (fun H6 pv => ?_)
    · obtain ⟨rfl, ex⟩ := y
      obtain ⟨s6, xs, eD, hxs⟩ := pv
      rw [lts] at hi
      obtain ⟨t1, z1, a1, js, et1, ez1, ea1, ejs, e1, e2, nt1, na1⟩ := pa5.at hi
      have hx : x = .ref t1 := by
        rw [List.getElem?_map, et1] at ex
        exact (Option.some.inj ex).symm
      subst hx
      have hc1 : (qs.take (i + 1)).countP (fun js => decide (1 < js.length)) = (qs.take i).countP (fun js => decide (1 < js.length)) + if 1 < js.length then 1 else 0 := by
        rw [List.take_add_one, ejs, List.countP_append]
        show _ + List.countP _ [js] = _
        rw [List.countP_singleton]
        simp
      refine ⟨rfl, .ref t1, rfl, t1, [nS z1, .ref a1], 1, .ref a1, rfl, rfl, SqT.of (s6 _ _ e1), atI_nat (j := 1) rfl, a1, jV js, rfl, .inl (SqL.of (s6 _ _ e2)), _, 1, rfl, rfl, _, rfl, ite2 (fun c => ?_) (fun c => ?_)⟩
      · have c := of_decide_eq_true c
        rw [List.length_map] at c
        refine ⟨.ref t1, rfl, xs, eD, ?_, same_set s6 nD, _, upd_same, ?_⟩
        · rw [hxs]
          refine small5000 (Nat.le_trans List.countP_le_length ?_)
          rw [List.length_take]
          omega
        · rw [List.length_append, hxs, hc1, if_pos (by omega)]
          rfl
      · have c : ¬ _ := fun z => c (decide_eq_true z)
        rw [List.length_map] at c
        exact ⟨s6, xs, eD, by rw [hxs, hc1, if_neg (by omega)]; rfl⟩
    obtain ⟨s6, xs, eD, hxs⟩ := pv
    rw [lts, List.take_length, pq.count] at hxs
    refine ⟨D, xs, rfl, .inl (SqL.of eD), 2, J, rfl, by rw [hxs], ?_⟩
    have k6 := k5.trans (.of s6)
    have b6 := b5.keep s6
    have pa6 := pa5.keep (.of s6)
    have eln6 := s6 _ _ eln5
    clear eD hxs
    intro td ntd
    have ntd0 : H td = none := k6.free b ntd b6
    have ntdp : td ≠ p := b6.ne ntd
    have k7 : Keep p H (upd H6 td (.dT [])) := k6.trans (.of (same_upd ntd))
    have b7 := b6.keep (same_upd (o := .dT []) ntd)
    have pa7 := pa6.keep (.of (same_upd (o := .dT []) ntd))
    have eln7 := same_upd (o := .dT []) ntd _ _ eln6
    have etd7 : (upd H6 td (.dT [])) td = some (.dT []) := upd_same
    have hlntd : ln ≠ td := ne_of_none eln6 ntd
    generalize upd H6 td (.dT []) = H7 at k7 b7 pa7 eln7 etd7 ⊢
    dsimp only
    refine ⟨.int (2 + (J : Int)), rfl, _, 1, rfl, rfl, .ref p, rfl, p, 28, rfl, b7, by decide, by decide, fun H8 x k8 b8 x0 x1 => ?_⟩
    obtain ⟨x, rfl⟩ : ∃ xn : Nat, x = (xn : Int) := ⟨x.toNat, by omega⟩
    refine ⟨_, _, rfl, rfl, _, rfl, by omega, by omega, ?_⟩
    rw [show (2 + (J : Int) - 1 + (x : Int)).toNat = J + 1 + x by omega]
    have each := pq.each n8
    refine for_range (lo := 0) (n := J + 1 + x) (fun i σ H9 => ∃ (y6 y7 y8 y9 y10 y11 : Option V) (tis : List Ti), σ = [some (.ref p), some (.int n), some (.ref ln), some (.ref pl), some (.int (2 + (J : Int))), some (.ref td), y6, y7, y8, y9, y10, y11, none] ∧ Keep p H H9 ∧ Bag H9 p ∧ PlAt p H9 pl ts zs as qs ∧ H9 ln = some (.lst (ls.map nS)) ∧ TiD H9 td tis ∧ tis.length ≤ i ∧ (∀ t ∈ tis, TieOk zs qs ls t) ∧ tis.Pairwise Apart ∧ (∀ j, j < i → j < J + 1 → ∃ t ∈ tis, zs[j]? = some t.a ∧ zs[j + 1]? = some t.b) ∧ (i ≤ J + 1 → ∀ t ∈ tis, ∃ j, j < i ∧ zs[j]? = some t.a ∧ zs[j + 1]? = some t.b))
      ⟨_, _, _, _, _, _, [], rfl, k7.trans k8, b8, pa7.keep k8, k8 _ _ nlp eln7, ⟨[], k8 _ _ ntdp etd7, List.nodup_nil, .nil⟩, Nat.le_refl _, fun t ht => (by cases ht), List.Pairwise.nil, fun j hj => absurd hj (Nat.not_lt_zero _), fun _ t ht => (by cases ht)⟩ (fun i σ H9 hi hp => ?_) (fun σ H9 hp => ?_)
    · obtain ⟨y6, y7, y8, y9, y10, y11, tis, rfl, k9, b9, pa9, eln9, htd, tl, tok, tap, tway, tfst⟩ := hp
      have lN : ((ts.map V.ref).length : Int) = (qs.length : Int) := by rw [lts]
      have m1 : i % qs.length < qs.length := Nat.mod_lt _ (by omega)
      have m2 : (i + 1) % qs.length < qs.length := Nat.mod_lt _ (by omega)
      obtain ⟨t1, et1⟩ : ∃ t1, ts[i % qs.length]? = some t1 := ⟨_, List.getElem?_eq_getElem (by rw [pa9.lt]; exact m1)⟩
      obtain ⟨t2, et2⟩ : ∃ t2, ts[(i + 1) % qs.length]? = some t2 := ⟨_, List.getElem?_eq_getElem (by rw [pa9.lt]; exact m2)⟩
      have at1 : atI (ts.map V.ref) ((0 + (i : Int)) % ((ts.map V.ref).length : Int)) = some (.ref t1) := by
        rw [lN, Int.zero_add, ← Int.natCast_emod]
        exact atI_nat (by rw [List.getElem?_map, et1]; rfl)
      have at2 : atI (ts.map V.ref) ((0 + (i : Int) + 1) % ((ts.map V.ref).length : Int)) = some (.ref t2) := by
        rw [lN, Int.zero_add, show ((i : Int) + 1) = ((i + 1 : Nat) : Int) by omega, ← Int.natCast_emod]
        exact atI_nat (by rw [List.getElem?_map, et2]; rfl)
      refine ⟨.ref pl, rfl, .int (0 + (i : Int)), rfl, .ref pl, rfl, pl, ts.map V.ref, rfl, .inl (SqL.of pa9.lst), _, _, rfl, rfl, by omega, pl, ts.map V.ref, _, .ref t1, rfl, rfl, SqL.of pa9.lst, at1, ?_⟩
      refine ⟨.ref pl, rfl, .int (0 + (i : Int)), rfl, _, 1, rfl, rfl, .ref pl, rfl, pl, ts.map V.ref, rfl, .inl (SqL.of pa9.lst), _, _, rfl, rfl, by omega, pl, ts.map V.ref, _, .ref t2, rfl, rfl, SqL.of pa9.lst, at2, ?_⟩
      refine ⟨fun σ H10 => ∃ (io jo : Nat) (t1 t2 : Addr), σ = [some (.ref p), some (.int n), some (.ref ln), some (.ref pl), some (.int (2 + (J : Int))), some (.ref td), some (.int (0 + (i : Int))), some (.ref t1), some (.ref t2), y9, y10, y11, none] ∧ Keep p H9 H10 ∧ Bag H10 p ∧ io < qs.length ∧ jo < qs.length ∧ ts[io]? = some t1 ∧ ts[jo]? = some t2 ∧ (i < J + 1 → io = i ∧ jo = i + 1), ?_, fun σ H10 mid => ?_⟩
      · refine ⟨.int (0 + (i : Int)), rfl, .int (2 + (J : Int)), rfl, _, 1, rfl, rfl, _, _, rfl, rfl, _, rfl, ite2 (fun c => ?_) (fun c => ?_)⟩
        · have c := of_decide_eq_true c
          refine ⟨.ref pl, rfl, .ref p, rfl, .ref pl, rfl, pl, ts.map V.ref, rfl, .inl (SqL.of pa9.lst), p, (qs.length : Int), by rw [lN]; rfl, b9, by omega, by omega, fun H10 d1 k10 b10 d10 d11 => ?_⟩
          obtain ⟨io, rfl⟩ : ∃ xn : Nat, d1 = (xn : Int) := ⟨d1.toNat, by omega⟩
          obtain ⟨t1', et1'⟩ : ∃ t1, ts[io]? = some t1 := ⟨_, List.getElem?_eq_getElem (by rw [pa9.lt]; omega)⟩
          have pa10 := pa9.keep k10
          refine ⟨pl, ts.map V.ref, _, .ref t1', rfl, rfl, SqL.of pa10.lst, atI_nat (by rw [List.getElem?_map, et1']; rfl), ?_⟩
          refine ⟨.ref pl, rfl, .ref p, rfl, .ref pl, rfl, pl, ts.map V.ref, rfl, .inl (SqL.of pa10.lst), p, (qs.length : Int), by rw [lN]; rfl, b10, by omega, by omega, fun H11 d2 k11 b11 d20 d21 => ?_⟩
          obtain ⟨jo, rfl⟩ : ∃ xn : Nat, d2 = (xn : Int) := ⟨d2.toNat, by omega⟩
          obtain ⟨t2', et2'⟩ : ∃ t1, ts[jo]? = some t1 := ⟨_, List.getElem?_eq_getElem (by rw [pa9.lt]; omega)⟩
          refine ⟨pl, ts.map V.ref, _, .ref t2', rfl, rfl, SqL.of (pa10.keep k11).lst, atI_nat (by rw [List.getElem?_map, et2']; rfl), ?_⟩
          exact ⟨io, jo, t1', t2', rfl, k10.trans k11, b11, by omega, by omega, et1', et2', fun z => by omega⟩
        · exact ⟨_, _, t1, t2, rfl, .refl _ _, b9, m1, m2, et1, et2, fun z => ⟨Nat.mod_eq_of_lt (by omega), Nat.mod_eq_of_lt (by omega)⟩⟩
      clear at1 at2 et1 et2 m1 m2 t1 t2
      obtain ⟨io, jo, t1, t2, rfl, k10, b10, hio, hjo, et1, et2, hij⟩ := mid
      have pa10 := pa9.keep k10
      have eln10 := k10 _ _ nlp eln9
      obtain ⟨t1', z1, a1, js1, f1, ez1, _, eq1, e1, e1a, nt1, na1⟩ := pa10.at hio
      rw [et1] at f1
      cases f1
      obtain ⟨t2', z2, a2, js2, f2, ez2, _, eq2, e2, e2a, nt2, na2⟩ := pa10.at hjo
      rw [et2] at f2
      cases f2
      have js1m := each js1 (List.mem_of_getElem? eq1)
      have js2m := each js2 (List.mem_of_getElem? eq2)
      -- common
      refine ⟨.ref t1, rfl, t1, [nS z1, .ref a1], 1, .ref a1, rfl, rfl, SqT.of e1, atI_nat (j := 1) rfl, a1, rfl, ⟨_, SqL.of e1a⟩, fun D nD => ?_⟩
      have nDp : D ≠ p := b10.ne nD
      refine lc_it (walk_list (xs := jV js1)) (fun m H11 => Same H10 H11 ∧ H11 D = some (.lst (jV ((js1.take m).filter fun x => decide (x ∈ js2))))) ⟨same_upd nD, by rw [List.take_zero]; exact upd_same⟩ (fun m H11 _ pv => SqL.of (pv.1 _ _ e1a)) (fun m x H11₀ H11 hm pv y => ?_) (fun H11 pv => ?_)
      · obtain ⟨rfl, ex⟩ := y
        obtain ⟨s11, eD⟩ := pv
        obtain ⟨j, ej, rfl⟩ : ∃ j, js1[m]? = some j ∧ x = .int (j : Nat) := by
          rw [List.getElem?_map] at ex
          cases h : js1[m]? with
          | none => rw [h] at ex; cases ex
          | some t => rw [h] at ex; exact ⟨t, rfl, (Option.some.inj ex).symm⟩
        have hf : ((js1.take (m + 1)).filter fun x => decide (x ∈ js2)) = ((js1.take m).filter fun x => decide (x ∈ js2)) ++ if j ∈ js2 then [j] else [] := by
          rw [List.take_add_one, ej, List.filter_append]
          congr 1
          show List.filter _ [j] = _
          by_cases h : j ∈ js2
          · simp [h]
          · simp [h]
        refine ⟨rfl, .int (j : Nat), rfl, .ref t2, rfl, t2, [nS z2, .ref a2], 1, .ref a2, rfl, rfl, SqT.of (s11 _ _ e2), atI_nat (j := 1) rfl, a2, jV js2, rfl, .inl (SqL.of (s11 _ _ e2a)), rfl, flat_ints js2, _, rfl, ite2 (fun c => ?_) (fun c => ?_)⟩
        · have c : inV (.int (j : Nat)) (jV js2) = true := c
          rw [in_ints] at c
          have c := of_decide_eq_true c
          refine ⟨.int (j : Nat), rfl, _, eD, ?_, same_set s11 nD, ?_⟩
          · rw [List.length_map]
            refine small5000 (Nat.le_trans (List.length_filter_le ..) ?_)
            rw [List.length_take]
            omega
          · rw [upd_same, hf, if_pos c, jV_app]
            rfl
        · have c : ¬ inV (.int (j : Nat)) (jV js2) = true := c
          rw [in_ints] at c
          have c : ¬ j ∈ js2 := fun z => c (decide_eq_true z)
          exact ⟨s11, by rw [hf, if_neg c, List.append_nil]; exact eD⟩
      obtain ⟨s11, eD⟩ := pv
      rw [List.length_map, List.take_length] at eD
      have mcm : ∀ x, x ∈ js1.filter (fun x => decide (x ∈ js2)) ↔ x ∈ js1 ∧ x ∈ js2 := fun x => by rw [List.mem_filter, decide_eq_true_iff]
      have cml : (js1.filter fun x => decide (x ∈ js2)).length ≤ 8 := Nat.le_trans (List.length_filter_le ..) js1m.2.1
      generalize js1.filter (fun x => decide (x ∈ js2)) = cm at eD mcm cml
      have k11 := k10.trans (.of s11)
      have b11 := b10.keep s11
      -- chains
      refine ⟨.ref p, rfl, by decide, fun t nt => ?_⟩
      have ntp : t ≠ p := b11.ne nt
      refine ⟨.ref p, rfl, p, 3, rfl, b11.keep (same_upd nt), by decide, by decide, fun H12 d k12 b12 d0 d1 => ?_⟩
      obtain ⟨mx, hmx, emx⟩ := pick (ms := [9, 400, 9999]) d0 d1
      refine ⟨t, _, d, _, rfl, rfl, SqT.of (k12 _ _ ntp upd_same), emx, p, mx, rfl, b12, ?_, ?_, fun H13 ch k13 b13 ch0 ch1 => ?_⟩
      · simp only [List.mem_cons, List.not_mem_nil, or_false] at hmx
        omega
      · simp only [List.mem_cons, List.not_mem_nil, or_false] at hmx
        omega
      have chb : ch < 9999 := by
        simp only [List.mem_cons, List.not_mem_nil, or_false] at hmx
        omega
      obtain ⟨ch, rfl⟩ : ∃ xn : Nat, ch = (xn : Int) := ⟨ch.toNat, by omega⟩
      refine ⟨1, _, rfl, rfl, ?_⟩
      have eD13 : H13 D = some (.lst (jV cm)) := k13 _ _ nDp (k12 _ _ nDp (same_upd nt _ _ eD))
      have k13 : Keep p H10 H13 := (Keep.of (s11.trans (same_upd nt))).trans (k12.trans k13)
      have k13' : Keep p H9 H13 := k10.trans k13
      have e1' := k13 _ _ nt1 e1
      have e2' := k13 _ _ nt2 e2
      have e1a' := k13 _ _ na1 e1a
      have e2a' := k13 _ _ na2 e2a
      have htd13 : TiD H13 td tis := htd.keep k13' b9
      -- near
      refine ⟨fun σ H14 => ∃ nb : Bool, σ = [some (.ref p), some (.int n), some (.ref ln), some (.ref pl), some (.int (2 + (J : Int))), some (.ref td), some (.int (0 + (i : Int))), some (.ref t1), some (.ref t2), some (.ref D), some (.int (1 + (ch : Int))), some (.bl nb), none] ∧ Same H13 H14 ∧ (nb = false ↔ (∀ t ∈ tis, ¬ (t.a = z1 ∧ t.b = z2)) ∧ ∀ t ∈ tis, ¬ (t.a = z2 ∧ t.b = z1)), ?_, fun σ H14 mid => ?_⟩
      · obtain ⟨kvs, etd, knd, hkt⟩ := htd13
        refine ⟨.ref t1, rfl, t1, [nS z1, .ref a1], 0, nS z1, rfl, rfl, SqT.of e1', atI_nat (j := 0) rfl, .ref t2, rfl, t2, [nS z2, .ref a2], 0, nS z2, rfl, rfl, SqT.of e2', atI_nat (j := 0) rfl, two_sz, fun u nu => ?_⟩
        refine ⟨.ref td, rfl, td, _, rfl, DGet.t (k := [Sum.inr (SX.S z1), Sum.inr (SX.S z2)]) (same_upd nu _ _ etd) upd_same, _, rfl, ite2 (fun c => ?_) (fun c => ?_)⟩
        · refine ⟨true, rfl, same_upd nu, ⟨fun z => (by cases z), fun z => ?_⟩⟩
          rw [(tid_none hkt z1 z2).mpr z.1] at c
          cases c
        · have c1 : valV kvs [Sum.inr (SX.S z1), Sum.inr (SX.S z2)] = none := by
            cases h : valV kvs [Sum.inr (SX.S z1), Sum.inr (SX.S z2)] with
            | none => rfl
            | some x => rw [h] at c; exact absurd rfl c
          refine ⟨.ref t2, rfl, t2, [nS z2, .ref a2], 0, nS z2, rfl, rfl, SqT.of (same_upd nu _ _ e2'), atI_nat (j := 0) rfl, .ref t1, rfl, t1, [nS z1, .ref a1], 0, nS z1, rfl, rfl, SqT.of (same_upd nu _ _ e1'), atI_nat (j := 0) rfl, two_sz, fun u2 nu2 => ?_⟩
          refine ⟨.ref td, rfl, td, _, rfl, DGet.t (k := [Sum.inr (SX.S z2), Sum.inr (SX.S z1)]) (same_upd nu2 _ _ (same_upd nu _ _ etd)) upd_same, ?_⟩
          refine ⟨_, rfl, (same_upd nu).trans (same_upd nu2), ?_⟩
          have c1 := (tid_none hkt z1 z2).mp c1
          have c2 := tid_none hkt z2 z1
          cases h : valV kvs [Sum.inr (SX.S z2), Sum.inr (SX.S z1)] with
          | none => exact ⟨fun _ => ⟨c1, c2.mp h⟩, fun _ => rfl⟩
          | some x => exact ⟨fun z => (by cases z), fun z => (by rw [c2.mpr z.2] at h; cases h)⟩
      obtain ⟨nb, rfl, s14, hnb⟩ := mid
      have k14 : Keep p H9 H14 := k13'.trans (.of s14)
      have b14 := b13.keep s14
      have e1 := s14 _ _ e1'
      have e2 := s14 _ _ e2'
      have e1a := s14 _ _ e1a'
      have e2a := s14 _ _ e2a'
      have eD14 := s14 _ _ eD13
      have stay : ∀ H', Keep p H9 H' → Bag H' p → ¬ i < J + 1 → (Keep p H H' ∧ Bag H' p ∧ PlAt p H' pl ts zs as qs ∧ H' ln = some (.lst (ls.map nS)) ∧ TiD H' td tis ∧ tis.length ≤ i + 1 ∧ (∀ t ∈ tis, TieOk zs qs ls t) ∧ tis.Pairwise Apart ∧ (∀ j, j < i + 1 → j < J + 1 → ∃ t ∈ tis, zs[j]? = some t.a ∧ zs[j + 1]? = some t.b) ∧ (i + 1 ≤ J + 1 → ∀ t ∈ tis, ∃ j, j < i + 1 ∧ zs[j]? = some t.a ∧ zs[j + 1]? = some t.b)) := fun H' k b' c =>
        ⟨k9.trans k, b', pa9.keep k, k _ _ nlp eln9, htd.keep k b9, by omega, tok, tap, fun j h1 h2 => tway j (by omega) h2, fun z => absurd (by omega) c⟩
      have nm1 := znm z1 (List.mem_of_getElem? ez1)
      have nm2 := znm z2 (List.mem_of_getElem? ez2)
      have eln14 := k14 _ _ nlp eln9
      have htd14 := htd.keep k14 b9
      have lj1 : js1.length ≤ 5000 := by omega
      have lj2 : js2.length ≤ 5000 := by omega
      -- if one != other and common != [] and not near
      refine ⟨.ref t1, rfl, .ref t2, rfl, _, _, (dt_pl e1 e1a lj1).dp, (dt_pl e2 e2a lj2).dp, shaped_pl nm1 js1, shaped_pl nm2 js2, _, rfl, ite2 (fun c => ?_) (fun c => ?_)⟩
      rotate_left
      · have c : PyData.eqv (plD z1 js1) (plD z2 js2) = true := by
          cases h : PyData.eqv (plD z1 js1) (plD z2 js2) with
          | true => rfl
          | false => rw [h] at c; exact absurd rfl c
        refine ⟨_, _, _, _, _, _, tis, rfl, stay _ k14 b14 fun z => ?_⟩
        have ez := eqv_pl c
        rw [← ez] at ez2
        have := nodup_inj znd ez1 ez2
        have := hij z
        omega
      have cne : PyData.eqv (plD z1 js1) (plD z2 js2) = false := by
        cases h : PyData.eqv (plD z1 js1) (plD z2 js2) with
        | false => rfl
        | true => rw [h] at c; cases c
      have nij : io ≠ jo := fun z => by
        subst z
        rw [ez1] at ez2
        rw [eq1] at eq2
        cases ez2
        cases eq2
        rw [SeqAt.eqv_refl _ (lay_pl nm1 js1)] at cne
        cases cne
      refine ⟨.ref D, rfl, Nat.zero_le _, fun e ne => ?_⟩
      have s15 := same_upd (o := .lst []) ne
      have dD : Dt SA (upd H14 e (.lst [])) (.ref D) (dI (jI cm)) := dt_ints (by rw [s15 _ _ eD14, jV_ints]) (by rw [List.length_map]; omega)
      have dE : Dt SA (upd H14 e (.lst [])) (.ref e) (dI []) := dt_ints upd_same (Nat.zero_le _)
      refine ⟨_, _, dD.dp, dE.dp, shaped_ints _, shaped_ints _, _, rfl, ite2 (fun c => ?_) (fun c => ?_)⟩
      rotate_left
      · have c : cm = [] := by
          cases h : cm with
          | nil => rfl
          | cons x r => rw [h] at c; exact absurd rfl c
        refine ⟨_, _, _, _, _, _, tis, rfl, stay _ (k14.trans (.of s15)) (b14.keep s15) fun z => ?_⟩
        obtain ⟨r1, r2⟩ := hij z
        subst r1
        subst r2
        obtain ⟨x, x1, x2⟩ := pq.chain z eq1 eq2
        have := (mcm x).mpr ⟨x1, x2⟩
        rw [c] at this
        cases this
      have cm1 : 1 ≤ cm.length := by
        cases h : cm with
        | nil => rw [h] at c; cases c
        | cons x r => rw [List.length_cons]; omega
      refine ⟨.bl nb, rfl, nb, rfl, ite2 (fun c => ?_) (fun c => ?_)⟩
      rotate_left
      · have c : nb = true := by cases nb with
          | true => rfl
          | false => exact absurd rfl c
        refine ⟨_, _, _, _, _, _, tis, rfl, stay _ (k14.trans (.of s15)) (b14.keep s15) fun z => ?_⟩
        obtain ⟨r1, r2⟩ := hij z
        subst r1
        subst r2
        have : nb = false := hnb.mpr ⟨fun t ht e => ?_, fun t ht e => ?_⟩
        · rw [c] at this
          cases this
        · obtain ⟨j, hj, f1, f2⟩ := tfst (by omega) t ht
          rw [e.1] at f1
          have := nodup_inj znd f1 ez1
          omega
        · obtain ⟨j, hj, f1, f2⟩ := tfst (by omega) t ht
          rw [e.1] at f1
          have := nodup_inj znd f1 ez2
          omega
      have c : nb = false := by cases nb with
        | false => rfl
        | true => cases c
      obtain ⟨nn1, nn2⟩ := hnb.mp c
      have k15 : Keep p H9 _ := k14.trans (.of s15)
      have b15 := b14.keep s15
      have eD15 := s15 _ _ eD14
      have e1 := s15 _ _ e1
      have e2 := s15 _ _ e2
      generalize upd H14 e (.lst []) = H15 at k15 b15 eD15 e1 e2 s15 ⊢
      -- ties[(one[0], other[0])] = (lines[..], chains)
      have eln15 := k15 _ _ nlp eln9
      refine ⟨.ref ln, rfl, .ref D, rfl, .ref p, rfl, .ref D, rfl, D, jV cm, rfl, .inl (SqL.of eD15), p, (cm.length : Int), by rw [List.length_map]; rfl, b15, by omega, by omega, fun H16 d k16 b16 d0 d1 => ?_⟩
      obtain ⟨dj, rfl⟩ : ∃ xn : Nat, d = (xn : Int) := ⟨d.toNat, by omega⟩
      have hdj : dj < cm.length := by omega
      have inx := List.getElem_mem hdj
      have gx : (jV cm)[dj]? = some (.int (cm[dj] : Nat)) := by
        rw [List.getElem?_map, List.getElem?_eq_getElem hdj]
        rfl
      generalize cm[dj] = xj at inx gx
      have hx := (mcm xj).mp inx
      have hxl : xj < ls.length := by rw [hln]; exact js1m.2.2 xj hx.1
      obtain ⟨lx, elx⟩ : ∃ lx, ls[xj]? = some lx := ⟨_, List.getElem?_eq_getElem hxl⟩
      refine ⟨D, jV cm, (dj : Int), _, rfl, rfl, SqL.of (k16 _ _ nDp eD15), atI_nat gx, ln, ls.map nS, (xj : Nat), nS lx, rfl, rfl, SqL.of (k16 _ _ nlp eln15), atI_nat (by rw [List.getElem?_map, elx]; rfl), .int (1 + (ch : Int)), rfl, two_sz, fun v nv => ?_⟩
      have sv := same_upd (o := .tup [nS lx, .int (1 + (ch : Int))]) nv
      refine ⟨.ref td, rfl, .ref t1, rfl, t1, [nS z1, .ref a1], 0, nS z1, rfl, rfl, SqT.of (sv _ _ (k16 _ _ nt1 e1)), atI_nat (j := 0) rfl, .ref t2, rfl, t2, [nS z2, .ref a2], 0, nS z2, rfl, rfl, SqT.of (sv _ _ (k16 _ _ nt2 e2)), atI_nat (j := 0) rfl, two_sz, fun u nu => ?_⟩
      have su := same_upd (o := .tup [nS z1, nS z2]) nu
      have k17 : Keep p H9 _ := k15.trans (k16.trans (.of (sv.trans su)))
      have b17 := b16.keep (sv.trans su)
      obtain ⟨kvs, etd, knd, hkt⟩ := htd.keep k17 b9
      have ev : (upd (upd H16 v (.tup [nS lx, .int (1 + (ch : Int))])) u (.tup [nS z1, nS z2])) v = some (.tup [nS lx, .int (1 + (ch : Int))]) := su _ _ upd_same
      have eu : (upd (upd H16 v (.tup [nS lx, .int (1 + (ch : Int))])) u (.tup [nS z1, nS z2])) u = some (.tup [nS z1, nS z2]) := upd_same
      generalize upd (upd H16 v (.tup [nS lx, .int (1 + (ch : Int))])) u (.tup [nS z1, nS z2]) = H17 at k17 b17 etd hkt ev eu ⊢
      have vn := (tid_none hkt z1 z2).mpr nn1
      have kl := paired_len hkt
      refine ⟨td, _, rfl, DPut.t (k := [Sum.inr (SX.S z1), Sum.inr (SX.S z2)]) etd eu (by rw [kl]; exact small5000 (by omega)), ?_⟩
      rw [putK_new _ vn]
      have tk17 : TKF H17 (upd H17 td (.dT (kvs ++ [([Sum.inr (SX.S z1), Sum.inr (SX.S z2)], .ref v)]))) := .upd fun xs e => by rw [etd] at e; cases e
      refine ⟨_, _, _, _, _, _, tis ++ [⟨z1, z2, lx, 1 + ch⟩], rfl, (k9.trans k17).set ntd0, b17.at (upd_ne ntdp.symm), ?_, ?_, ⟨_, upd_same, ?_, ?_⟩, ?_, ?_, ?_, ?_, ?_⟩
      · have pk := pa9.keep k17
        have off : ∀ {a : Addr} {o : HO}, H17 a = some o → (∀ kvs, o ≠ .dT kvs) → (upd H17 td (.dT (kvs ++ [([Sum.inr (SX.S z1), Sum.inr (SX.S z2)], .ref v)]))) a = some o := fun {a o} e h => by
          rw [upd_ne (fun z => by rw [z, etd] at e; exact h _ (Option.some.inj e).symm)]
          exact e
        exact ⟨off pk.lst fun _ z => (by cases z), paired_imp pk.tup fun a _ x e => off e fun _ z => (by cases z), paired_imp pk.ll fun a _ x e => off e fun _ z => (by cases z), pk.lz, pk.lt, pk.np⟩
      · rw [upd_ne hlntd]
        exact k17 _ _ nlp eln9
      · rw [List.map_append]
        refine List.nodup_append.mpr ⟨knd, by simp, fun x hx y hy e => ?_⟩
        rw [List.map_singleton, List.mem_singleton] at hy
        rw [e, hy] at hx
        exact key_none vn hx
      · refine paired_snoc (paired_imp hkt fun kv _ t ⟨h1, v, h2, h3⟩ => ⟨h1, v, h2, tk17 _ _ h3⟩) ⟨rfl, v, rfl, ?_⟩
        rw [tk17 _ _ ev]
        rfl
      · rw [List.length_append]
        show _ + 1 ≤ _
        omega
      · intro t ht
        rcases List.mem_append.mp ht with z | z
        · exact tok t z
        · rw [List.mem_singleton.mp z]
          exact ⟨io, jo, xj, js1, js2, nij, ez1, ez2, eq1, eq2, hx.1, hx.2, elx, by show 1 ≤ 1 + ch; omega, by show 1 + ch ≤ 9999; omega⟩
      · refine List.pairwise_append.mpr ⟨tap, List.pairwise_singleton _ _, fun s hs t ht => ?_⟩
        rw [List.mem_singleton.mp ht]
        exact ⟨nn1 s hs, nn2 s hs⟩
      · intro j h1 h2
        by_cases h3 : j < i
        · obtain ⟨t, ht, r⟩ := tway j h3 h2
          exact ⟨t, List.mem_append_left _ ht, r⟩
        · have h4 : j = i := by omega
          subst h4
          obtain ⟨r1, r2⟩ := hij h2
          subst r1
          subst r2
          exact ⟨_, List.mem_append_right _ (List.mem_singleton.mpr rfl), ez1, ez2⟩
      · intro h t ht
        rcases List.mem_append.mp ht with z | z
        · obtain ⟨j, hj, r⟩ := tfst (by omega) t z
          exact ⟨j, by omega, r⟩
        · rw [List.mem_singleton.mp z]
          obtain ⟨r1, r2⟩ := hij (by omega)
          subst r1
          subst r2
          exact ⟨_, Nat.lt_succ_self _, ez1, ez2⟩
    · obtain ⟨y6, y7, y8, y9, y10, y11, tis, rfl, k9, b9, pa9, eln9, htd, tl, tok, tap, tway, tfst⟩ := hp
      refine ⟨.ref p, rfl, .ref ln, rfl, .ref pl, rfl, .ref td, rfl, p, ln, pl, td, ts, as, ls, zs, qs, tis, rfl, b9, nlp, eln9, by omega, pa9, by omega, by rw [hln]; exact each, htd, by omega, fun H10 r sts jns rws k10 b10 hnet pS pJ pR nr => ?_⟩
      have pa10 := pa9.keep k10
      refine ⟨.ref pl, rfl, .int (2 + (J : Int)), rfl, _, rfl, pl, _, rfl, SqL.of pa10.lst, fun c nc => ?_⟩
      rw [show (2 + (J : Int)) = ((J + 2 : Nat) : Int) by omega, cut_to, ← List.map_take]
      refine ⟨c, rfl, ⟨_, SqL.of upd_same⟩, fun D nD => ?_⟩
      have s11 := same_upd (o := .lst ((ts.take (J + 2)).map V.ref)) nc
      have ec : (upd H10 c (.lst ((ts.take (J + 2)).map V.ref))) c = some (.lst ((ts.take (J + 2)).map V.ref)) := upd_same
      have pa11 := pa10.keep (.of s11)
      have b11 := b10.keep s11
      generalize upd H10 c (.lst ((ts.take (J + 2)).map V.ref)) = H11 at s11 ec pa11 b11 nD ⊢
      refine lc_it (walk_list (xs := (ts.take (J + 2)).map V.ref)) (fun i H12 => Same H11 H12 ∧ H12 D = some (.lst ((zs.take i).map nS))) ⟨same_upd nD, upd_same⟩ (fun i H12 _ pv => SqL.of (pv.1 _ _ ec)) (fun i x H12₀ H12 hi pv y => ?_) (fun H12 pv => ?_)
      · obtain ⟨rfl, ex⟩ := y
        obtain ⟨s12, eD⟩ := pv
        rw [List.length_map, List.length_take] at hi
        obtain ⟨t1, z1, a1, js, et1, ez1, _, _, e1, _, _, _⟩ := pa11.at (i := i) (by omega)
        have hx : x = .ref t1 := by
          rw [List.getElem?_map, List.getElem?_take_of_lt (by omega), et1] at ex
          exact (Option.some.inj ex).symm
        subst hx
        refine ⟨rfl, yes_ ?_⟩
        refine ⟨.ref t1, rfl, t1, [nS z1, .ref a1], 0, nS z1, rfl, rfl, SqT.of (s12 _ _ e1), atI_nat (j := 0) rfl, _, eD, ?_, same_set s12 nD, ?_⟩
        · rw [List.length_map, List.length_take]
          exact small5000 (by omega)
        · rw [upd_same, List.take_add_one, ez1, List.map_append]
          rfl
      obtain ⟨s12, eD⟩ := pv
      rw [List.length_map, List.length_take, Nat.min_eq_left (by rw [pa9.lt]; omega)] at eD
      refine ⟨D, _, rfl, .inl ⟨SqL.of eD, fun wy nwy => ⟨two_sz, fun r2 nr2 => ?_⟩⟩⟩
      have s13 := s11.trans (s12.trans ((same_upd (o := .tup ((zs.take (J + 2)).map nS)) nwy).trans (same_upd (o := .tup [.ref r, .ref wy]) nr2)))
      refine q _ r2 r wy ls zs qs J tis sts jns rws (k9.trans (k10.trans (.of s13))) (b10.keep s13) upd_same (hnet.tk (.of s13)) (same_upd nr2 _ _ upd_same) ⟨by omega, by omega, nm_nodup lnat (by omega), nms_of lnat, by rw [hln]; exact pq, pa9.lz, znd, znm, tok, tap, fun j hj => tway j (by omega) hj, by have := pq.most; omega⟩ pS pJ pR
end
end Th
namespace Th
open PySem PySem.Spec PyProof.Rows L2
/-! the program's lines_by_place, lines_at, tie_between -/
def ent (sts : List (Nm × Nm)) (jns : List (Nm × List Nm)) : List (Nm × List Nm) := sts.map (fun s => (s.1, [s.2])) ++ jns
def lkF (es : List (Nm × List Nm)) (y : Nm) : Option (List Nm) := es.foldl (fun acc e => if y = e.1 then some e.2 else acc) none
theorem lkF_snoc (es : List (Nm × List Nm)) (e : Nm × List Nm) (y : Nm) : lkF (es ++ [e]) y = if y = e.1 then some e.2 else lkF es y := by
  unfold lkF
  rw [List.foldl_append]
  rfl
/-- what a dict tells of the places -/
structure DV (H : Hp) (kvs : List (Key × V)) (es : List (Nm × List Nm)) : Prop where
  no : ∀ z, lkF es z = none → valV kvs (Sum.inr (SX.S z)) = none
  yes : ∀ z l, lkF es z = some l → ∃ a, valV kvs (Sum.inr (SX.S z)) = some (.ref a) ∧ H a = some (.tup (l.map nS))
  ks : ∃ zs : List Nm, kvs.map (·.1) = (zs.map SX.S).map Sum.inr ∧ zs.length ≤ es.length ∧ (es ≠ [] → zs ≠ []) ∧ ∀ z ∈ zs, (lkF es z).isSome = true
theorem DV.tk {H H' : Hp} {kvs : List (Key × V)} {es : List (Nm × List Nm)} (h : DV H kvs es) (k : TKF H H') : DV H' kvs es :=
  ⟨h.no, fun z l e => let ⟨a, h1, h2⟩ := h.yes z l e; ⟨a, h1, k _ _ h2⟩, h.ks⟩
theorem DV.nil {H : Hp} : DV H [] [] := ⟨fun _ _ => rfl, fun z l e => (by cases e), [], rfl, Nat.le_refl _, fun h => absurd rfl h, fun z h => (by cases h)⟩
theorem DV.put {H : Hp} {kvs : List (Key × V)} {es : List (Nm × List Nm)} (h : DV H kvs es) {z : Nm} {l : List Nm} {a : Addr} (e : H a = some (.tup (l.map nS))) : DV H (putK kvs (Sum.inr (SX.S z)) (.ref a)) (es ++ [(z, l)]) := by
  refine ⟨fun y hy => ?_, fun y m hy => ?_, ?_⟩
  · rw [lkF_snoc] at hy
    rw [valV_put]
    by_cases c : y = z
    · rw [if_pos c] at hy
      cases hy
    · rw [if_neg c] at hy
      rw [if_neg (fun q => c (SX.S_inj (Sum.inr.inj q)))]
      exact h.no y hy
  · rw [lkF_snoc] at hy
    rw [valV_put]
    by_cases c : y = z
    · rw [if_pos c] at hy
      have := Option.some.inj hy
      subst this
      rw [if_pos (by rw [c])]
      exact ⟨a, rfl, e⟩
    · rw [if_neg c] at hy
      rw [if_neg (fun q => c (SX.S_inj (Sum.inr.inj q)))]
      exact h.yes y m hy
  · obtain ⟨zs, h1, h2, h3, h4⟩ := h.ks
    cases hv : valV kvs (Sum.inr (SX.S z)) with
    | none =>
      rw [putK_new _ hv]
      refine ⟨zs ++ [z], by rw [List.map_append, h1, List.map_append, List.map_append]; rfl, by rw [List.length_append, List.length_append]; show _ + 1 ≤ _ + 1; omega, fun _ => by simp, fun y hy => ?_⟩
      rw [lkF_snoc]
      by_cases c : y = z
      · rw [if_pos c]
        rfl
      · rw [if_neg c]
        rcases List.mem_append.mp hy with q | q
        · exact h4 y q
        · exact absurd (List.mem_singleton.mp q) c
    | some v =>
      refine ⟨zs, ?_, by rw [List.length_append]; omega, fun _ q => ?_, fun y hy => ?_⟩
      · have ha : (kvs.any fun kv => decide (kv.1 = (Sum.inr (SX.S z) : Key))) = true := by
          rw [valV_any, hv]
          rfl
        unfold putK
        rw [if_pos ha, List.map_map, ← h1]
        refine List.map_congr_left fun kv _ => ?_
        show (if kv.1 = Sum.inr (SX.S z) then (kv.1, V.ref a) else kv).1 = kv.1
        split <;> rfl
      · rw [q] at h1
        rw [List.map_eq_nil_iff.mp h1] at hv
        cases hv
      · rw [lkF_snoc]
        by_cases c : y = z
        · rw [if_pos c]
          rfl
        · rw [if_neg c]
          exact h4 y hy
/-- the first tie of two places -/
def isTie (x y : Nm) (t : Ti) : Bool := decide ((t.a = x ∧ t.b = y) ∨ (t.a = y ∧ t.b = x))
abbrev prD (x y : Nm) : PyData := .tuple [.str (SX.S x), .str (SX.S y)]
theorem dt_pr {H : Hp} {u : Addr} {x y : Nm} (e : H u = some (.tup [nS x, nS y])) : Dt SA H (.ref u) (prD x y) := .tup trivial e (by show 2 ≤ 5000; decide) (.cons (.str _) (.cons (.str _) .nil))
theorem shaped_pr {x y : Nm} (hx : IsNm x) (hy : IsNm y) : SeqAt.shaped (prD x y) = true := Bool.and_eq_true_iff.mpr ⟨by
  show (PyData.strOk (SX.S x) && (PyData.strOk (SX.S y) && true)) = true
  rw [nm_ok hx, nm_ok hy]
  rfl, decide_eq_true (by show max 0 (max 0 0) + 1 ≤ 64; decide)⟩
theorem eqv_pr {x y x' y' : Nm} : PyData.eqv (prD x y) (prD x' y') = decide (x = x' ∧ y = y') := by
  show ((SX.S x == SX.S x') && ((SX.S y == SX.S y') && true)) = _
  by_cases h1 : x = x'
  · by_cases h2 : y = y'
    · rw [h1, h2, decide_eq_true ⟨rfl, rfl⟩]
      simp
    · rw [decide_eq_false (fun z => h2 z.2), beq_eq_false_iff_ne.mpr (fun z => h2 (SX.S_inj z))]
      simp
  · rw [decide_eq_false (fun z => h1 z.1), beq_eq_false_iff_ne.mpr (fun z => h1 (SX.S_inj z))]
    simp
section
variable {P : Program} {w : World} {K : PySem.W.Frag} {mg : Str → Option Value} {base : Heap} {k : Nat}
def sp_tie_between : Sp := fun vs H Q _ => ∃ (r : Addr) (x y : Nm) (ls : List Nm) (sts : List (Nm × Nm)) (jns : List (Nm × List Nm)) (tis : List Ti), vs = [.ref r, nS x, nS y] ∧ NetAt H r ls sts jns tis ∧ IsNm x ∧ IsNm y ∧ (∀ t ∈ tis, IsNm t.a ∧ IsNm t.b) ∧
  (∀ H', Same H H' → tis.find? (isTie x y) = none → Q .non H') ∧ ∀ H' u t, Same H H' → tis.find? (isTie x y) = some t → H' u = some (.tup [nS t.ln, .int t.ch]) → Q (.ref u) H'
theorem find_take {α : Type} {f : α → Bool} : ∀ {xs : List α} {i : Nat} {x : α}, xs[i]? = some x → (∀ j y, j < i → xs[j]? = some y → f y = false) → f x = true → xs.find? f = some x
  | [], _, _, h, _, _ => by simp at h
  | a :: r, 0, x, h, _, hx => by
    have := Option.some.inj h
    subst this
    rw [List.find?_cons_of_pos hx]
  | a :: r, i + 1, x, h, hn, hx => by
    rw [List.find?_cons_of_neg (by rw [hn 0 a (Nat.zero_lt_succ _) rfl]; exact Bool.false_ne_true)]
    exact find_take (i := i) h (fun j y hj e => hn (j + 1) y (Nat.succ_lt_succ hj) e) hx
set_option maxHeartbeats 8000000 in
theorem ok_tie_between (T : Defs K mg) : FnOk P w K mg base CX0 (k + 1) T.a_tie_between T.d_tie_between ["net", "place", "far"] sp_tie_between := by
  refine T.F_tie_between.ok sc_tie_between (fun vs H Q E h => ?_) (fun cdv A outer s H vs Q E hr h => ?_)
  · obtain ⟨r, x, y, ls, sts, jns, tis, rfl, _⟩ := h
    rfl
  · obtain ⟨r, x, y, ls, sts, jns, tis, rfl, hnet, nx, ny, hnm, q0, q1⟩ := h
    refine ⟨_, PSs.nox
(pss_cons (ps_for PassesOwn.never rfl (pi_tup (pe_ix (r := rIxT K) ix_tup (pv 0) (pe_int) (fun _ _ => rfl))) (pg_tup rfl (pgs_cons (pg_name (i := 3) sc_tie_between.nd rfl (.inl rfl)) (pgs_cons (pg_name (i := 4) sc_tie_between.nd rfl (.inl rfl)) (pgs_cons (pg_name (i := 5) sc_tie_between.nd rfl (.inl rfl)) (pgs_cons (pg_name (i := 6) sc_tie_between.nd rfl (.inl rfl)) pgs_nil)))))
      (pss_one (ps_if (PW.pt (pw_or (pt_cmpR (r := rEqD K) (op_eqD hr.units) (pe_tup (pa_cons (pv 3) (pa_cons (pv 4) pa_nil))) (pe_tup (pa_cons (pv 1) (pa_cons (pv 2) pa_nil))) (nomark _)) (pw_or1 (pt_cmpR (r := rEqD K) (op_eqD hr.units) (pe_tup (pa_cons (pv 3) (pa_cons (pv 4) pa_nil))) (pe_tup (pa_cons (pv 2) (pa_cons (pv 1) pa_nil))) (nomark _)))))
        (pss_one (ps_ret (pe_tup (pa_cons (pv 5) (pa_cons (pv 6) pa_nil)))))
        pss_nil)))
    (pss_one (ps_ret (pe_non))))
      , ?_⟩
    obtain ⟨a, b, c, d, sa, ja, ta, er, _, _, _, _, _, ed, hti⟩ := id hnet
    refine ⟨.ref r, rfl, r, [.ref a, .ref b, .ref c, .ref d], 3, .ref d, rfl, rfl, SqT.of er, atI_nat (j := 3) rfl, d, rfl, ⟨_, ed.sq⟩, ?_⟩
    have tl := paired_len hti
    refine for_it (walk_tup (xs := ta.map V.ref)) (fun i σ H3 => ∃ (y3 y4 y5 y6 : Option V), σ = [some (.ref r), some (nS x), some (nS y), y3, y4, y5, y6] ∧ Same H H3 ∧ ∀ j t, j < i → tis[j]? = some t → isTie x y t = false)
      ⟨_, _, _, _, rfl, .refl _, fun j t hj => absurd hj (Nat.not_lt_zero _)⟩ (fun i σ H3 _ hp => ?_) (fun i v σ H3₀ H3 hi hp yy => ?_) (fun σ H3 hp => ?_)
    · obtain ⟨_, _, _, _, _, s3, _⟩ := hp
      exact (ed.same s3).sq
    · obtain ⟨rfl, ex⟩ := yy
      obtain ⟨y3, y4, y5, y6, rfl, s3, hno⟩ := hp
      obtain ⟨u, eu, rfl⟩ : ∃ u, ta[i]? = some u ∧ v = .ref u := by
        rw [List.getElem?_map] at ex
        cases h : ta[i]? with
        | none => rw [h] at ex; cases ex
        | some t => rw [h] at ex; exact ⟨t, rfl, (Option.some.inj ex).symm⟩
      obtain ⟨t, et, hu⟩ := paired_get hti eu
      have hu3 := s3 _ _ hu
      obtain ⟨na, nb⟩ := hnm t (List.mem_of_getElem? et)
      refine ⟨u, _, rfl, SqT.of hu3, rfl, _, _, rfl, _, _, rfl, _, _, rfl, _, [], rfl, rfl, ?_⟩
      refine ⟨nS t.a, rfl, nS t.b, rfl, two_sz, fun u1 n1 => ?_⟩
      refine ⟨nS x, rfl, nS y, rfl, two_sz, fun u2 n2 => ?_⟩
      refine ⟨_, _, (dt_pr (same_upd n2 _ _ upd_same)).dp, (dt_pr upd_same).dp, shaped_pr na nb, shaped_pr nx ny, _, rfl, ?_⟩
      rw [eqv_pr]
      have s4 := s3.trans ((same_upd (o := .tup [nS t.a, nS t.b]) n1).trans (same_upd (o := .tup [nS x, nS y]) n2))
      generalize upd (upd H3 u1 (.tup [nS t.a, nS t.b])) u2 (.tup [nS x, nS y]) = H4 at s4 ⊢
      refine ite2 (fun c => ?_) (fun c => ?_)
      · have c := of_decide_eq_true c
        refine ⟨nS t.ln, rfl, .int t.ch, rfl, two_sz, fun u3 n3 => q1 _ u3 t (s4.trans (same_upd n3)) (find_take et hno (decide_eq_true (.inl c))) upd_same⟩
      · have c : ¬ (t.a = x ∧ t.b = y) := fun z => c (decide_eq_true z)
        refine ⟨nS t.a, rfl, nS t.b, rfl, two_sz, fun u3 n3 => ?_⟩
        refine ⟨nS y, rfl, nS x, rfl, two_sz, fun u4 n4 => ?_⟩
        refine ⟨_, _, (dt_pr (same_upd n4 _ _ upd_same)).dp, (dt_pr upd_same).dp, shaped_pr na nb, shaped_pr ny nx, _, rfl, ?_⟩
        rw [eqv_pr]
        have s5 := s4.trans ((same_upd (o := .tup [nS t.a, nS t.b]) n3).trans (same_upd (o := .tup [nS y, nS x]) n4))
        generalize upd (upd H4 u3 (.tup [nS t.a, nS t.b])) u4 (.tup [nS y, nS x]) = H5 at s5 ⊢
        refine ite2 (fun c2 => ?_) (fun c2 => ?_)
        · have c2 := of_decide_eq_true c2
          refine ⟨nS t.ln, rfl, .int t.ch, rfl, two_sz, fun u5 n5 => q1 _ u5 t (s5.trans (same_upd n5)) (find_take et hno (decide_eq_true (.inr c2))) upd_same⟩
        · have c2 : ¬ (t.a = y ∧ t.b = x) := fun z => c2 (decide_eq_true z)
          refine ⟨_, _, _, _, rfl, s5, fun j t' hj e => ?_⟩
          by_cases h : j < i
          · exact hno j t' h e
          · rw [show j = i by omega, et] at e
            have := Option.some.inj e
            subst this
            exact decide_eq_false fun z => z.elim c c2
    · obtain ⟨y3, y4, y5, y6, rfl, s3, hno⟩ := hp
      refine q0 _ s3 (List.find?_eq_none.mpr fun t ht => ?_)
      obtain ⟨j, hj⟩ := List.getElem?_of_mem ht
      rw [hno j t (by rw [List.length_map, tl]; exact (List.getElem?_eq_some_iff.mp hj).1) hj]
      exact Bool.false_ne_true
end
/-! the law's own tie -/
theorem in2 {x a b : Nm} : inV (nS x) [nS a, nS b] = decide (a = x ∨ b = x) := by
  show (SX.S a == SX.S x || (SX.S b == SX.S x || false)) = _
  by_cases h1 : a = x
  · rw [h1, decide_eq_true (.inl rfl)]
    simp
  · by_cases h2 : b = x
    · rw [h2, decide_eq_true (.inr rfl)]
      simp
    · rw [decide_eq_false (fun z => z.elim h1 h2), beq_eq_false_iff_ne.mpr (fun z => h1 (SX.S_inj z)), beq_eq_false_iff_ne.mpr (fun z => h2 (SX.S_inj z))]
      rfl
abbrev tiD (t : Ti) : PyData := .tuple [.str (SX.S t.ln), .int t.ch]
theorem dt_ti {H : Hp} {u : Addr} {t : Ti} (e : H u = some (.tup [nS t.ln, .int t.ch])) : Dt SA H (.ref u) (tiD t) := .tup trivial e (by show 2 ≤ 5000; decide) (.cons (.str _) (.cons (.int _) .nil))
theorem lay_ti {t : Ti} (h : IsNm t.ln) : (tiD t).canLay0 = true := by
  show (PyData.strOk (SX.S t.ln) && (true && true)) = true
  rw [nm_ok h]
  rfl
theorem depth_ti (t : Ti) : (tiD t).depth = 1 := rfl
theorem dtAll_ti {H : Hp} : ∀ {fa : List Addr} {ft : List Ti}, Paired (fun a (t : Ti) => H a = some (.tup [nS t.ln, .int t.ch])) fa ft → DtAll SA H (fa.map V.ref) (ft.map tiD)
  | _, _, .nil => .nil
  | _, _, .cons e t => .cons (dt_ti e) (dtAll_ti t)
theorem layAll_ti : ∀ {ft : List Ti}, (∀ t ∈ ft, IsNm t.ln) → PyData.canLayAll0 (ft.map tiD) = true
  | [], _ => rfl
  | t :: r, h => by
    show (PyData.canLay0 (tiD t) && PyData.canLayAll0 (r.map tiD)) = true
    rw [lay_ti (h t (List.mem_cons_self ..)), layAll_ti fun x hx => h x (List.mem_cons_of_mem _ hx)]
    rfl
theorem depthAll_ti : ∀ ft : List Ti, PyData.depthAll (ft.map tiD) ≤ 1
  | [] => Nat.zero_le _
  | t :: r => by
    show max (PyData.depth (tiD t)) (PyData.depthAll (r.map tiD)) ≤ 1
    have := depthAll_ti r
    rw [depth_ti]
    omega
section
variable {P : Program} {w : World} {K : PySem.W.Frag} {mg : Str → Option Value} {base : Heap} {k : Nat}
def sp_l_tie : Sp := fun vs H Q _ => ∃ (r : Addr) (x y : Nm) (ls : List Nm) (sts : List (Nm × Nm)) (jns : List (Nm × List Nm)) (tis : List Ti), vs = [.ref r, nS x, nS y] ∧ NetAt H r ls sts jns tis ∧ tis.length ≤ 100 ∧ (∀ t ∈ tis, IsNm t.ln ∧ t.a ≠ t.b) ∧
  (∀ H', Same H H' → tis.find? (isTie x y) = none → Q .non H') ∧ ∀ H' u t, Same H H' → tis.find? (isTie x y) = some t → H' u = some (.tup [nS t.ln, .int t.ch]) → Q (.ref u) H'
theorem head_filter {α : Type} {f : α → Bool} : ∀ xs : List α, (xs.filter f).head? = xs.find? f
  | [] => rfl
  | a :: r => by
    rw [List.find?_cons, List.filter_cons]
    cases h : f a with
    | true => rfl
    | false => exact head_filter r
set_option maxHeartbeats 8000000 in
theorem ok_l_tie (T : Defs K mg) : FnOk P w K mg base CX0 (k + 1) T.a_l_tie T.d_l_tie ["_law_net_here", "_law_place", "_law_far"] sp_l_tie := by
  refine T.F_l_tie.ok sc_l_tie (fun vs H Q E h => ?_) (fun cdv A outer s H vs Q E hr h => ?_)
  · obtain ⟨r, x, y, ls, sts, jns, tis, rfl, _⟩ := h
    rfl
  · obtain ⟨r, x, y, ls, sts, jns, tis, rfl, hnet, t100, hti0, q0, q1⟩ := h
    refine ⟨_, PSs.nox
(pss_cons (ps_setLc (i := 3) (own := [("_law_one", 4)]) (g := gName 4) rfl sc_l_tie.nd rfl rfl (sw_true rfl rfl rfl (by decide +kernel)) (pi_tup (pe_ix (r := rIxT K) ix_tup (pv 0) (pe_int) (fun _ _ => rfl))) (blkOk_by (N := N_l_tie) (sc := defScope s_l_tie) (by decide +kernel)) (fun _ _ _ _ _ => (pg_name (i := 4) sc_l_tie.nd rfl (.inl rfl))) (fun _ _ _ _ _ => pts_one (PW.pt (pw_and (pt_cmpR (r := rIn K false) op_in_seq (pv 1) (pe_slice (r := rSlT K) sl_tup (pv 4) po_none (po_some (pe_int))) (by rfl)) (pw_and (pt_cmpR (r := rIn K false) op_in_seq (pv 2) (pe_slice (r := rSlT K) sl_tup (pv 4) po_none (po_some (pe_int))) (by rfl)) (pw_and1 (pt_cmpR op_ne (pv 1) (pv 2) (nomark _))))))) (fun _ _ _ _ _ => (pe_slice (r := rSlT K) sl_tup (pv 4) (po_some (pe_int)) po_none)))
    (pss_one (ps_ret (pe_ifExp (pt_cmpR (r := rNeD K) (op_neD hr.units) (pv 3) (pe_lst pa_nil) (nomark _)) (pe_ix (r := rIxL K) ix_list (pv 3) (pe_int) (fun _ _ => rfl)) (pe_non)))))
      , ?_⟩
    obtain ⟨a, b, c, d, sa, ja, ta, er, _, _, _, _, _, ed, hti⟩ := id hnet
    have tl := paired_len hti
    refine ⟨.ref r, rfl, r, [.ref a, .ref b, .ref c, .ref d], 3, .ref d, rfl, rfl, SqT.of er, atI_nat (j := 3) rfl, d, rfl, ⟨_, ed.sq⟩, fun D nD => ?_⟩
    refine lc_it (walk_tup (xs := ta.map V.ref)) (fun i H3 => Same H H3 ∧ ∃ fa : List Addr, H3 D = some (.lst (fa.map V.ref)) ∧ Paired (fun a (t : Ti) => H3 a = some (.tup [nS t.ln, .int t.ch])) fa ((tis.take i).filter (isTie x y))) ⟨same_upd nD, [], upd_same, .nil⟩ (fun i H3 _ pv => (ed.same pv.1).sq) (fun i v H3₀ H3 hi pv yy => ?_) (fun H3 pv => ?_)
    · obtain ⟨rfl, ex⟩ := yy
      obtain ⟨s3, fa, eD, hfa⟩ := pv
      obtain ⟨u, eu, rfl⟩ : ∃ u, ta[i]? = some u ∧ v = .ref u := by
        rw [List.getElem?_map] at ex
        cases h : ta[i]? with
        | none => rw [h] at ex; cases ex
        | some t => rw [h] at ex; exact ⟨t, rfl, (Option.some.inj ex).symm⟩
      obtain ⟨t, et, hu⟩ := paired_get hti eu
      have hu3 : H3 u = some (.tup [nS t.a, nS t.b, nS t.ln, .int t.ch]) := s3 _ _ hu
      obtain ⟨nln, nab⟩ := hti0 t (List.mem_of_getElem? et)
      have tk1 : (tis.take (i + 1)).filter (isTie x y) = (tis.take i).filter (isTie x y) ++ if isTie x y t then [t] else [] := by
        rw [List.take_add_one, et, List.filter_append]
        congr 1
        show List.filter _ [t] = _
        cases h : isTie x y t <;> simp [h]
      have no : ∀ {H' : Hp}, Same H3 H' → isTie x y t = false → Same H H' ∧ ∃ fa : List Addr, H' D = some (.lst (fa.map V.ref)) ∧ Paired (fun a (t : Ti) => H' a = some (.tup [nS t.ln, .int t.ch])) fa ((tis.take (i + 1)).filter (isTie x y)) := fun {H'} s' h => by
        refine ⟨s3.trans s', fa, s' _ _ eD, ?_⟩
        rw [tk1, h]
        show Paired _ fa (_ ++ [])
        rw [List.append_nil]
        exact paired_imp hfa fun a _ t e => s' _ _ e
      refine ⟨rfl, nS x, rfl, .ref u, rfl, 2, rfl, u, _, rfl, SqT.of hu3, by show ¬ (0 = 0 ∧ 2 = 4); decide, fun p1 n1 => ?_⟩
      refine ⟨p1, [nS t.a, nS t.b], rfl, .inr (SqT.of upd_same), rfl, rfl, _, rfl, ?_⟩
      have s4 := same_upd (o := .tup (cutV [nS t.a, nS t.b, nS t.ln, .int t.ch] none (some 2))) n1
      refine ite2 (fun c => ?_) (fun c => ?_)
      · have c1 : t.a = x ∨ t.b = x := of_decide_eq_true (in2.symm.trans c)
        refine ⟨nS y, rfl, .ref u, rfl, 2, rfl, u, _, rfl, SqT.of (s4 _ _ hu3), by show ¬ (0 = 0 ∧ 2 = 4); decide, fun p2 n2 => ?_⟩
        refine ⟨p2, [nS t.a, nS t.b], rfl, .inr (SqT.of upd_same), rfl, rfl, _, rfl, ?_⟩
        have s5 := s4.trans (same_upd (o := .tup (cutV [nS t.a, nS t.b, nS t.ln, .int t.ch] none (some 2))) n2)
        refine ite2 (fun c => ?_) (fun c => ?_)
        · have c2 : t.a = y ∨ t.b = y := of_decide_eq_true (in2.symm.trans c)
          refine ⟨nS x, rfl, nS y, rfl, rfl, _, rfl, ?_⟩
          refine ite2 (fun c => ?_) (fun c => ?_)
          · have c3 : x ≠ y := fun z => by
              rw [z] at c
              simp at c
            have yes : isTie x y t = true := decide_eq_true (by
              rcases c1 with h | h
              · rcases c2 with h' | h'
                · exact absurd (h.symm.trans h') c3
                · exact .inl ⟨h, h'⟩
              · rcases c2 with h' | h'
                · exact .inr ⟨h', h⟩
                · exact absurd (h.symm.trans h') c3)
            refine ⟨.ref u, rfl, 2, rfl, u, _, rfl, SqT.of (s5 _ _ hu3), by show ¬ (2 = 0 ∧ 4 = 4); decide, fun p3 n3 => ?_⟩
            have s6 := s5.trans (same_upd (o := .tup [nS t.ln, .int t.ch]) n3)
            have fl := paired_len hfa
            refine ⟨_, s6 _ _ eD, ?_, same_set (s3.trans s6) nD, fa ++ [p3], by rw [upd_same, List.map_append]; rfl, ?_⟩
            · rw [List.length_map, fl]
              refine small5000 (Nat.le_trans (List.length_filter_le ..) ?_)
              rw [List.length_take]
              omega
            · have e3 : (upd (upd (upd H3 p1 (.tup (cutV [nS t.a, nS t.b, nS t.ln, .int t.ch] none (some 2)))) p2 (.tup (cutV [nS t.a, nS t.b, nS t.ln, .int t.ch] none (some 2)))) p3 (.tup [nS t.ln, .int t.ch])) D = some (.lst (fa.map V.ref)) := s6 _ _ eD
              have tkD : TKF _ (upd (upd (upd (upd H3 p1 (.tup (cutV [nS t.a, nS t.b, nS t.ln, .int t.ch] none (some 2)))) p2 (.tup (cutV [nS t.a, nS t.b, nS t.ln, .int t.ch] none (some 2)))) p3 (.tup [nS t.ln, .int t.ch])) D (.lst (fa.map V.ref ++ [.ref p3]))) := .upd fun xs e => by rw [e3] at e; cases e
              rw [tk1, yes]
              exact paired_snoc (paired_imp hfa fun a _ t e => tkD _ _ (s6 _ _ e)) (tkD _ _ upd_same)
          · have c3 : x = y := by
              by_cases h : x = y
              · exact h
              · exfalso
                apply c
                show (!decide (nS x = nS y)) = true
                rw [decide_eq_false (fun z => h (SX.S_inj (V.str.inj z)))]
                rfl
            refine no s5 (decide_eq_false fun z => ?_)
            subst c3
            rcases z with z | z
            · exact nab (z.1.trans z.2.symm)
            · exact nab (z.1.trans z.2.symm)
        · have c2 : ¬ (t.a = y ∨ t.b = y) := fun z => c (in2.trans (decide_eq_true z))
          exact no s5 (decide_eq_false fun z => c2 (z.elim (fun q => .inr q.2) fun q => .inl q.1))
      · have c1 : ¬ (t.a = x ∨ t.b = x) := fun z => c (in2.trans (decide_eq_true z))
        exact no s4 (decide_eq_false fun z => c1 (z.elim (fun q => .inl q.1) fun q => .inr q.2))
    obtain ⟨s3, fa, eD, hfa⟩ := pv
    rw [List.length_map, tl, List.take_length] at hfa
    have fl := paired_len hfa
    have fl2 : fa.length ≤ 100 := by rw [fl]; exact Nat.le_trans (List.length_filter_le ..) t100
    refine ⟨.ref D, rfl, Nat.zero_le _, fun e ne => ?_⟩
    have s4 := same_upd (o := .lst []) ne
    have dD : Dt SA (upd H3 e (.lst [])) (.ref D) (.list ((tis.filter (isTie x y)).map tiD)) := .lst trivial (s4 _ _ eD) (by rw [List.length_map]; omega) (dtAll_ti (paired_imp hfa fun a _ t e => s4 _ _ e))
    have dE : Dt SA (upd H3 e (.lst [])) (.ref e) (.list []) := .lst trivial upd_same (Nat.zero_le _) .nil
    have sh : SeqAt.shaped (.list ((tis.filter (isTie x y)).map tiD)) = true := Bool.and_eq_true_iff.mpr ⟨layAll_ti fun t ht => (hti0 t (List.mem_filter.mp ht).1).1, decide_eq_true (by
      show PyData.depthAll _ + 1 ≤ 64
      have := depthAll_ti (tis.filter (isTie x y))
      omega)⟩
    refine ⟨_, _, dD.dp, dE.dp, sh, rfl, _, rfl, ?_⟩
    have hh := head_filter (f := isTie x y) tis
    generalize tis.filter (isTie x y) = ft at hfa hh dD sh fl
    cases hfa with
    | nil => exact q0 _ (s3.trans s4) hh.symm
    | @cons u t fa ft hu _ =>
      exact ⟨.ref D, rfl, D, _, 0, .ref u, rfl, rfl, SqL.of (s4 _ _ eD), atI_nat (j := 0) rfl, q1 _ u t (s3.trans s4) hh.symm (s4 _ _ hu)⟩
end
end Th
namespace Th
open PySem PySem.Spec PyProof.Rows L2
/-! ways: the ties along, legs -/
theorem in_nms {x : Nm} {zs : List Nm} : inV (nS x) (zs.map nS) = decide (x ∈ zs) := by
  unfold inV
  by_cases h : x ∈ zs
  · rw [decide_eq_true h, List.any_map]
    exact List.any_eq_true.mpr ⟨x, h, by show (SX.S x == SX.S x) = true; simp⟩
  · rw [decide_eq_false h, List.any_map]
    refine List.any_eq_false.mpr fun y hy z => h ?_
    have z : (SX.S y == SX.S x) = true := z
    rw [← SX.S_inj (eq_of_beq z)]
    exact hy
theorem flat_nms (zs : List Nm) : (zs.map nS).all flatV = true := by
  rw [List.all_map]
  exact List.all_eq_true.mpr fun _ _ => rfl
theorem snoc_or {α : Type} (xs : List α) : xs = [] ∨ ∃ ys y, xs = ys ++ [y] := by
  rcases List.eq_nil_or_concat xs with h | ⟨ys, y, h⟩
  · exact .inl h
  · exact .inr ⟨ys, y, by rw [h, List.concat_eq_append]⟩
/-- the ties along the places -/
structure Al (tis : List Ti) (ws : List Nm) (ts : List Ti) : Prop where
  len : ts.length + 1 = ws.length
  tie : ∀ i t, ts[i]? = some t → ∃ x y, ws[i]? = some x ∧ ws[i + 1]? = some y ∧ tis.find? (isTie x y) = some t
/-- a way and the net's ties -/
structure WayOk (tis : List Ti) (ws : List Nm) (ts : List Ti) : Prop where
  al : Al tis ws ts
  nm : ∀ z ∈ ws, IsNm z
  l28 : ws.length ≤ 28
  l2 : 2 ≤ ws.length
  t40 : tis.length ≤ 40
  ti : ∀ t ∈ tis, IsNm t.a ∧ IsNm t.b ∧ IsNm t.ln ∧ t.a ≠ t.b ∧ t.ch ≤ 9999
theorem WayOk.ti' {tis : List Ti} {ws : List Nm} {ts : List Ti} (h : WayOk tis ws ts) : ∀ t ∈ ts, t ∈ tis := fun t ht => by
  obtain ⟨i, hi⟩ := List.getElem?_of_mem ht
  obtain ⟨x, y, _, _, e⟩ := h.al.tie i t hi
  exact List.mem_of_find?_eq_some e
abbrev tiP (t : Ti) : Nm × Nat := (t.ln, t.ch)
def PrA (H : Hp) (a : Addr) (g : Nm × Nat) : Prop := H a = some (.tup [nS g.1, .int g.2])
/-- a list of pairs of a line and chains -/
def LgA (H : Hp) (D : Addr) (gs : List (Nm × Nat)) : Prop := ∃ fa : List Addr, H D = some (.lst (fa.map V.ref)) ∧ Paired (PrA H) fa gs
theorem LgA.same {H H' : Hp} {D : Addr} {gs : List (Nm × Nat)} (h : LgA H D gs) (s : Same H H') : LgA H' D gs := let ⟨fa, e, p⟩ := h; ⟨fa, s _ _ e, paired_imp p fun a _ g q => s _ _ q⟩
theorem up0 {H H' : Hp} {p : Addr} (s : Same H H') (n : H' p = none) : H p = none := by
  cases e : H p with
  | none => rfl
  | some o => rw [s _ _ e] at n; cases n
/-- one step of the legs -/
def leg (acc : List (Nm × Nat)) (x : Nm × Nat) : List (Nm × Nat) := match acc.getLast? with
  | some g => if g.1 = x.1 then acc.dropLast ++ [(x.1, g.2 + x.2)] else acc ++ [x]
  | none => acc ++ [x]
def legsM (xs : List (Nm × Nat)) : List (Nm × Nat) := xs.foldl leg []
theorem legsM_snoc (xs : List (Nm × Nat)) (x : Nm × Nat) : legsM (xs ++ [x]) = leg (legsM xs) x := by
  unfold legsM
  rw [List.foldl_append]
  rfl
theorem leg_nil (x : Nm × Nat) : leg [] x = [x] := rfl
theorem leg_one {acc : List (Nm × Nat)} {g x : Nm × Nat} (h : g.1 = x.1) : leg (acc ++ [g]) x = acc ++ [(x.1, g.2 + x.2)] := by
  unfold leg
  rw [List.getLast?_concat, List.dropLast_concat]
  exact if_pos h
theorem leg_two {acc : List (Nm × Nat)} {g x : Nm × Nat} (h : ¬ g.1 = x.1) : leg (acc ++ [g]) x = acc ++ [g] ++ [x] := by
  unfold leg
  rw [List.getLast?_concat]
  exact if_neg h
theorem leg_len (acc : List (Nm × Nat)) (x : Nm × Nat) : (leg acc x).length ≤ acc.length + 1 := by
  rcases snoc_or acc with rfl | ⟨as, g, rfl⟩
  · rw [leg_nil]; simp
  · by_cases h : g.1 = x.1
    · rw [leg_one h]; simp
    · rw [leg_two h]; simp
theorem legsM_len : ∀ (n : Nat) (xs : List (Nm × Nat)), xs.length = n → (legsM xs).length ≤ n
  | 0, xs, h => by rw [List.length_eq_zero_iff.mp h]; exact Nat.le_refl _
  | n + 1, xs, h => by
    rcases snoc_or xs with rfl | ⟨as, g, rfl⟩
    · simp at h
    · rw [legsM_snoc]
      have := leg_len (legsM as) g
      have := legsM_len n as (by simpa using h)
      omega
theorem legsM_mem : ∀ (n : Nat) (xs : List (Nm × Nat)), xs.length = n → ∀ g ∈ legsM xs, ∃ x ∈ xs, x.1 = g.1
  | 0, xs, h, g, hg => by rw [List.length_eq_zero_iff.mp h] at hg; cases hg
  | n + 1, xs, h, g, hg => by
    rcases snoc_or xs with rfl | ⟨as, x, rfl⟩
    · simp at h
    · rw [legsM_snoc] at hg
      have ih := legsM_mem n as (by simpa using h)
      have elder : g ∈ legsM as → ∃ y ∈ as ++ [x], y.1 = g.1 := fun hg => by
        obtain ⟨y, hy, e⟩ := ih g hg
        exact ⟨y, List.mem_append_left _ hy, e⟩
      have own : g.1 = x.1 → ∃ y ∈ as ++ [x], y.1 = g.1 := fun e => ⟨x, by simp, e.symm⟩
      rcases snoc_or (legsM as) with e | ⟨bs, b, e⟩
      · rw [e, leg_nil] at hg
        rw [List.mem_singleton.mp hg]
        exact ⟨x, by simp, rfl⟩
      · rw [e] at hg
        by_cases c : b.1 = x.1
        · rw [leg_one c] at hg
          rcases List.mem_append.mp hg with z | z
          · exact elder (by rw [e]; exact List.mem_append_left _ z)
          · rw [List.mem_singleton.mp z]
            exact ⟨x, by simp, rfl⟩
        · rw [leg_two c] at hg
          rcases List.mem_append.mp hg with z | z
          · exact elder (by rw [e]; exact z)
          · rw [List.mem_singleton.mp z]
            exact ⟨x, by simp, rfl⟩
theorem paired_inv {α β : Type} {R : α → β → Prop} {fa : List α} {bs : List β} {b : β} (h : Paired R fa (bs ++ [b])) : ∃ fi f, fa = fi ++ [f] ∧ Paired R fi bs ∧ R f b := by
  have l := paired_len h
  rcases snoc_or fa with rfl | ⟨fi, f, rfl⟩
  · simp at l
  · have l2 : fi.length = bs.length := by simpa using l
    refine ⟨fi, f, rfl, ?_, ?_⟩
    · have := paired_take fi.length h
      rw [List.take_left, l2, List.take_left] at this
      exact this
    · have := paired_drop fi.length h
      rw [List.drop_left, l2, List.drop_left] at this
      cases this with
      | cons q _ => exact q
theorem cutV_one {α : Type} (xs : List V) : cutV xs (some 1) none = xs.drop 1 := by
  cases xs with
  | nil => rfl
  | cons x xs =>
    unfold cutV
    have e1 : HT.sIx (x :: xs).length 0 (some 1) = 1 := by
      unfold HT.sIx
      simp
      try omega
    have e2 : HT.sIx (x :: xs).length (x :: xs).length none = (x :: xs).length := rfl
    rw [e1, e2]
    rw [List.take_of_length_le]
    rw [List.length_drop]
    exact Nat.le_refl _
section
variable {P : Program} {w : World} {K : PySem.W.Frag} {mg : Str → Option Value} {base : Heap} {k : Nat}
def sp_ties_along : Sp := fun vs H Q _ => ∃ (r wy : Addr) (ls : List Nm) (sts : List (Nm × Nm)) (jns : List (Nm × List Nm)) (tis : List Ti) (ws : List Nm) (ts : List Ti), vs = [.ref r, .ref wy] ∧ NetAt H r ls sts jns tis ∧ H wy = some (.tup (ws.map nS)) ∧ WayOk tis ws ts ∧
  ∀ H' D, Same H H' → H D = none → LgA H' D (ts.map tiP) → Q (.ref D) H'
set_option maxHeartbeats 8000000 in
theorem ok_ties_along (T : Defs K mg) : FnOk P w K mg base CX0 (k + 2) T.a_ties_along T.d_ties_along ["net", "way"] sp_ties_along := by
  have G_tie_between : FnOk P w K mg base CX0 (k + 1) _ _ _ _ := ok_tie_between T
  refine T.F_ties_along.ok sc_ties_along (fun vs H Q E h => ?_) (fun cdv A outer s H vs Q E hr h => ?_)
  · obtain ⟨r, wy, ls, sts, jns, tis, ws, ts, rfl, _⟩ := h
    rfl
  · obtain ⟨r, wy, ls, sts, jns, tis, ws, ts, rfl, hnet, ewy, hw, q⟩ := h
    refine ⟨_, PSs.nox
(pss_one (ps_ret (pe_lc (own := [("place", 2), ("far", 3)]) (g := gTup K 2 (gCons (gName 2) (gCons (gName 3) gNil))) rfl sc_ties_along.nd (RZ.pi_zipA (by rfl) T.z_zip (pa_cons (pv 1) (pa_cons (pe_slice (r := rSlS K) sl_tupS (pv 1) (po_some (pe_int)) po_none) pa_nil))) (blkOk_by (N := N_ties_along) (sc := defScope s_ties_along) (by decide +kernel)) (fun _ _ _ _ _ => (pg_tup rfl (pgs_cons (pg_name (i := 2) sc_ties_along.nd rfl (.inl rfl)) (pgs_cons (pg_name (i := 3) sc_ties_along.nd rfl (.inl rfl)) pgs_nil)))) (fun _ _ _ _ _ => pts_nil) (fun _ _ _ _ _ => (pe_call G_tie_between hr (by rfl) T.g_tie_between T.F_tie_between.kp T.b_tie_between .nil pass0 (pa_cons (pv 0) (pa_cons (pv 2) (pa_cons (pv 3) pa_nil))))))))
      , ?_⟩
    refine ⟨.ref wy, rfl, .ref wy, rfl, 1, rfl, wy, _, rfl, ewy, fun c H1 s1 ec => ?_⟩
    rw [cutV_one (α := Nat)] at ec
    refine ⟨wy, c, _, _, rfl, .inr ⟨SqT.of (s1 _ _ ewy), SqT.of ec, fun D nD => ?_⟩⟩
    have nD0 := up0 s1 nD
    refine lc_it (walk_zipT (n := ts.length) (xs := ws.map nS) (ys := (ws.map nS).drop 1) (by have := hw.al.len; rw [List.length_drop, List.length_map]; omega)) (fun i H3 => Same H H3 ∧ Same H1 H3 ∧ LgA H3 D ((ts.take i).map tiP)) ⟨s1.trans (same_upd nD), same_upd nD, [], upd_same, .nil⟩ (fun i H3 _ pv => ⟨SqT.of (pv.1 _ _ ewy), SqT.of (pv.2.1 _ _ ec)⟩) (fun i v H3 H4 hi pv yy => ?_) (fun H3 pv => ?_)
    · obtain ⟨U, x, y, rfl, nU, rfl, ex, ey⟩ := yy
      obtain ⟨s3, s31, fa, eD, hfa⟩ := pv
      obtain ⟨t, et⟩ : ∃ t, ts[i]? = some t := ⟨_, List.getElem?_eq_getElem hi⟩
      obtain ⟨x', y', ex', ey', hf⟩ := hw.al.tie i t et
      have e1 : nS x' = x := Option.some.inj ((by rw [List.getElem?_map, ex']; rfl : (ws.map nS)[i]? = some (nS x')).symm.trans ex)
      have e2 : nS y' = y := Option.some.inj ((by rw [List.getElem?_drop, List.getElem?_map, Nat.add_comm 1 i, ey']; rfl : ((ws.map nS).drop 1)[i]? = some (nS y')).symm.trans ey)
      subst e1 e2
      have s4 := s3.trans (same_upd (o := .tup [nS x', nS y']) nU)
      refine ⟨U, _, rfl, SqT.of upd_same, rfl, nS x', [nS y'], rfl, nS y', [], rfl, rfl, rfl, yes_ ?_⟩
      refine ⟨.ref r, rfl, nS x', rfl, nS y', rfl, r, x', y', ls, sts, jns, tis, rfl, hnet.tk (.of s4), hw.nm _ (List.mem_of_getElem? ex'), hw.nm _ (List.mem_of_getElem? ey'), fun t ht => ⟨(hw.ti t ht).1, (hw.ti t ht).2.1⟩, fun H5 _ z => ?_, fun H5 u t' s5 z eu => ?_⟩
      · rw [hf] at z
        cases z
      · rw [hf] at z
        have := Option.some.inj z
        subst this
        have s45 : Same H3 H5 := (same_upd (o := .tup [nS x', nS y']) nU).trans s5
        have l28 := hw.l28
        have ll := hw.al.len
        refine ⟨_, s45 _ _ eD, by rw [List.length_map, paired_len hfa, List.length_map, List.length_take]; exact small5000 (by omega), same_set (s3.trans s45) nD0, same_set (s31.trans s45) nD, fa ++ [u], by rw [upd_same, List.map_append]; rfl, ?_⟩
        rw [List.take_add_one, et, List.map_append]
        have eD5 := s45 _ _ eD
        have tkD : TKF H5 (upd H5 D (.lst (fa.map V.ref ++ [.ref u]))) := .upd fun xs e => by rw [eD5] at e; cases e
        exact paired_snoc (paired_imp hfa fun a _ g e => tkD _ _ (s45 _ _ e)) (tkD _ _ eu)
    · obtain ⟨s3, _, h⟩ := pv
      rw [List.take_length] at h
      exact q _ D s3 nD0 h
end
end Th
namespace Th
open PySem PySem.Spec PyProof.Rows L2
theorem eq_nS {x y : Nm} : decide (nS x = nS y) = decide (x = y) := by
  by_cases h : x = y
  · rw [h, decide_eq_true rfl, decide_eq_true rfl]
  · rw [decide_eq_false h, decide_eq_false fun z => h (SX.S_inj (V.str.inj z))]
theorem WayOk.get {tis : List Ti} {ws : List Nm} {ts : List Ti} (hw : WayOk tis ws ts) {i : Nat} (hi : i < ts.length) : ∃ x y t, ts[i]? = some t ∧ ws[i]? = some x ∧ ws[i + 1]? = some y ∧ tis.find? (isTie x y) = some t := by
  obtain ⟨x, y, h1, h2, h3⟩ := hw.al.tie i ts[i] (List.getElem?_eq_getElem hi)
  exact ⟨x, y, _, List.getElem?_eq_getElem hi, h1, h2, h3⟩
theorem at_ws {ws : List Nm} {i : Nat} {x : Nm} (h : ws[i]? = some x) : (ws.map nS)[i]? = some (nS x) := by rw [List.getElem?_map, h]; rfl
/-! crossings, by the program and by the law -/
abbrev Cr := Nm × Nm × Nm
def CrA (H : Hp) (a : Addr) (c : Cr) : Prop := H a = some (.tup [nS c.1, nS c.2.1, nS c.2.2])
def CsA (H : Hp) (D : Addr) (cs : List Cr) : Prop := ∃ fa : List Addr, H D = some (.lst (fa.map V.ref)) ∧ Paired (CrA H) fa cs
theorem CsA.same {H H' : Hp} {D : Addr} {cs : List Cr} (h : CsA H D cs) (s : Same H H') : CsA H' D cs := let ⟨fa, e, p⟩ := h; ⟨fa, s _ _ e, paired_imp p fun a _ g q => s _ _ q⟩
abbrev crE (c : Cr) : PyData := .tuple [.str (SX.S c.1), .str (SX.S c.2.1), .str (SX.S c.2.2)]
abbrev crD (cs : List Cr) : PyData := .list (cs.map crE)
theorem dtAll_cr {H : Hp} : ∀ {fa : List Addr} {gs : List Cr}, Paired (CrA H) fa gs → DtAll SA H (fa.map V.ref) (gs.map crE)
  | _, _, .nil => .nil
  | _, _, .cons e t => .cons (.tup trivial e (by show 3 ≤ 5000; decide) (.cons (.str _) (.cons (.str _) (.cons (.str _) .nil)))) (dtAll_cr t)
theorem CsA.dt {H : Hp} {D : Addr} {gs : List Cr} (h : CsA H D gs) (l : gs.length ≤ 5000) : Dt SA H (.ref D) (crD gs) := by
  obtain ⟨fa, e, p⟩ := h
  exact .lst trivial e (by rw [List.length_map, paired_len p]; exact l) (dtAll_cr p)
theorem layAll_cr : ∀ {gs : List Cr}, (∀ g ∈ gs, IsNm g.1 ∧ IsNm g.2.1 ∧ IsNm g.2.2) → PyData.canLayAll0 (gs.map crE) = true
  | [], _ => rfl
  | t :: r, h => by
    show (PyData.canLay0 (crE t) && PyData.canLayAll0 (r.map crE)) = true
    obtain ⟨h1, h2, h3⟩ := h t (List.mem_cons_self ..)
    have : PyData.canLay0 (crE t) = true := by
      show (PyData.strOk (SX.S t.1) && (PyData.strOk (SX.S t.2.1) && (PyData.strOk (SX.S t.2.2) && true))) = true
      rw [nm_ok h1, nm_ok h2, nm_ok h3]
      rfl
    rw [this, layAll_cr fun x hx => h x (List.mem_cons_of_mem _ hx)]
    rfl
theorem depthAll_cr : ∀ gs : List Cr, PyData.depthAll (gs.map crE) ≤ 1
  | [] => Nat.zero_le _
  | t :: r => by
    show max (PyData.depth (crE t)) (PyData.depthAll (r.map crE)) ≤ 1
    have := depthAll_cr r
    have e : PyData.depth (crE t) = 1 := rfl
    rw [e]
    omega
theorem depth_cr (gs : List Cr) : (crD gs).depth ≤ 2 := by
  show PyData.depthAll _ + 1 ≤ 2
  have := depthAll_cr gs
  omega
/-- what goes over at the i-th place -/
def crossAt (ws : List Nm) (ts : List Ti) (j : Nat) : List Cr := match ws[j + 1]?, ts[j]?, ts[j + 1]? with
  | some x, some t, some u => if t.ln = u.ln then [] else [(x, t.ln, u.ln)]
  | _, _, _ => []
def crossTo (ws : List Nm) (ts : List Ti) (i : Nat) : List Cr := (List.range i).flatMap (crossAt ws ts)
theorem crossTo_succ (ws : List Nm) (ts : List Ti) (i : Nat) : crossTo ws ts (i + 1) = crossTo ws ts i ++ crossAt ws ts i := by
  unfold crossTo
  rw [List.range_succ, List.flatMap_append]
  simp
theorem crossAt_len (ws : List Nm) (ts : List Ti) (i : Nat) : (crossAt ws ts i).length ≤ 1 := by
  unfold crossAt
  split
  · split <;> simp
  · simp
theorem crossTo_len (ws : List Nm) (ts : List Ti) : ∀ i, (crossTo ws ts i).length ≤ i
  | 0 => Nat.le_refl _
  | i + 1 => by
    rw [crossTo_succ, List.length_append]
    have := crossTo_len ws ts i
    have := crossAt_len ws ts i
    omega
theorem crossAt_of {ws : List Nm} {ts : List Ti} {i : Nat} {x : Nm} {t u : Ti} (h1 : ws[i + 1]? = some x) (h2 : ts[i]? = some t) (h3 : ts[i + 1]? = some u) : crossAt ws ts i = if t.ln = u.ln then [] else [(x, t.ln, u.ln)] := by
  unfold crossAt
  rw [h1, h2, h3]
theorem cross_nm {tis : List Ti} {ws : List Nm} {ts : List Ti} (hw : WayOk tis ws ts) (i : Nat) : ∀ g ∈ crossTo ws ts i, IsNm g.1 ∧ IsNm g.2.1 ∧ IsNm g.2.2 := fun g hg => by
  obtain ⟨j, _, hj⟩ := List.mem_flatMap.mp hg
  unfold crossAt at hj
  split at hj
  · rename_i x t u e1 e2 e3
    split at hj
    · cases hj
    · rw [List.mem_singleton.mp hj]
      exact ⟨hw.nm _ (List.mem_of_getElem? e1), (hw.ti _ (hw.ti' _ (List.mem_of_getElem? e2))).2.2.1, (hw.ti _ (hw.ti' _ (List.mem_of_getElem? e3))).2.2.1⟩
  · cases hj
theorem three_sz {x y z : V} : [x, y, z].length ≤ sizeLine := by show 3 ≤ sizeLine; decide
theorem CsA.app {H H3 : Hp} {F u : Addr} {gs : List Cr} {x : Cr} {fa : List Addr} (nF : H F = none) (s : Same H H3) (eF : H3 F = some (.lst (fa.map V.ref))) (hfa : Paired (CrA H3) fa gs) (nu : H3 u = none) :
    Same H (upd (upd H3 u (.tup [nS x.1, nS x.2.1, nS x.2.2])) F (.lst (fa.map V.ref ++ [.ref u]))) ∧ CsA (upd (upd H3 u (.tup [nS x.1, nS x.2.1, nS x.2.2])) F (.lst (fa.map V.ref ++ [.ref u]))) F (gs ++ [x]) := by
  have s4 := same_upd (o := .tup [nS x.1, nS x.2.1, nS x.2.2]) nu
  have eF4 := s4 _ _ eF
  have tkD : TKF (upd H3 u (.tup [nS x.1, nS x.2.1, nS x.2.2])) (upd (upd H3 u (.tup [nS x.1, nS x.2.1, nS x.2.2])) F (.lst (fa.map V.ref ++ [.ref u]))) := .upd fun xs e => by rw [eF4] at e; cases e
  exact ⟨same_set (s.trans s4) nF, fa ++ [u], by rw [upd_same, List.map_append]; rfl, paired_snoc (paired_imp hfa fun a _ g e => tkD _ _ (s4 _ _ e)) (tkD _ _ upd_same)⟩
section
variable {P : Program} {w : World} {K : PySem.W.Frag} {mg : Str → Option Value} {base : Heap} {k : Nat}
def sp_crossings : Sp := fun vs H Q _ => ∃ (r wy : Addr) (ls : List Nm) (sts : List (Nm × Nm)) (jns : List (Nm × List Nm)) (tis : List Ti) (ws : List Nm) (ts : List Ti), vs = [.ref r, .ref wy] ∧ NetAt H r ls sts jns tis ∧ H wy = some (.tup (ws.map nS)) ∧ WayOk tis ws ts ∧
  ∀ H' D, Same H H' → H D = none → CsA H' D (crossTo ws ts (ts.length - 1)) → Q (.ref D) H'
set_option maxHeartbeats 8000000 in
theorem ok_crossings (T : Defs K mg) : FnOk P w K mg base CX0 (k + 3) T.a_crossings T.d_crossings ["net", "way"] sp_crossings := by
  have G_ties_along : FnOk P w K mg base CX0 (k + 2) _ _ _ _ := ok_ties_along T
  refine T.F_crossings.ok sc_crossings (fun vs H Q E h => ?_) (fun cdv A outer s H vs Q E hr h => ?_)
  · obtain ⟨r, wy, ls, sts, jns, tis, ws, ts, rfl, _⟩ := h
    rfl
  · obtain ⟨r, wy, ls, sts, jns, tis, ws, ts, rfl, hnet, ewy, hw, q⟩ := h
    refine ⟨_, PSs.nox
(pss_cons (ps_setLc (i := 2) (own := [("line", 3), ("chains", 4)]) (g := gTup K 2 (gCons (gName 3) (gCons (gName 4) gNil))) rfl sc_crossings.nd rfl rfl (sw_true rfl rfl rfl (by decide +kernel)) (pi_list (pe_call G_ties_along hr (by rfl) T.g_ties_along T.F_ties_along.kp T.b_ties_along .nil pass0 (pa_cons (pv 0) (pa_cons (pv 1) pa_nil)))) (blkOk_by (N := N_crossings) (sc := defScope s_crossings) (by decide +kernel)) (fun _ _ _ _ _ => (pg_tup rfl (pgs_cons (pg_name (i := 3) sc_crossings.nd rfl (.inl rfl)) (pgs_cons (pg_name (i := 4) sc_crossings.nd rfl (.inl rfl)) pgs_nil)))) (fun _ _ _ _ _ => pts_nil) (fun _ _ _ _ _ => (pv 3)))
    (pss_one (ps_ret (pe_lc (own := [("place", 5), ("line", 3), ("onward", 6)]) (g := gTup K 3 (gCons (gName 5) (gCons (gName 3) (gCons (gName 6) gNil)))) rfl sc_crossings.nd (Z3.pi_zip3 (by rfl) T.z_zip (pa_cons (pe_slice (r := rSlS K) sl_tupS (pv 1) (po_some (pe_int)) po_none) (pa_cons (pv 2) (pa_cons (pe_slice sl_list (pv 2) (po_some (pe_int)) po_none) pa_nil)))) (blkOk_by (N := N_crossings) (sc := defScope s_crossings) (by decide +kernel)) (fun _ _ _ _ _ => (pg_tup rfl (pgs_cons (pg_name (i := 5) sc_crossings.nd rfl (.inl rfl)) (pgs_cons (pg_name (i := 3) sc_crossings.nd rfl (.inl rfl)) (pgs_cons (pg_name (i := 6) sc_crossings.nd rfl (.inl rfl)) pgs_nil))))) (fun _ _ _ _ _ => pts_one (pt_cmpR op_ne (pv 3) (pv 6) (nomark _))) (fun _ _ _ _ _ => (pe_tup (pa_cons (pv 5) (pa_cons (pv 3) (pa_cons (pv 6) pa_nil)))))))))
      , ?_⟩
    have l28 := hw.l28
    have ll := hw.al.len
    refine ⟨.ref r, rfl, .ref wy, rfl, r, wy, ls, sts, jns, tis, ws, ts, rfl, hnet, ewy, hw, fun H1 D s1 nD hD => ?_⟩
    obtain ⟨da, eD, hda⟩ := hD
    have dl := paired_len hda
    rw [List.length_map] at dl
    refine ⟨D, rfl, ⟨_, SqL.of eD⟩, fun L nL => ?_⟩
    refine lc_it (walk_list (xs := da.map V.ref)) (fun i H3 => Same H1 H3 ∧ H3 L = some (.lst (((ts.take i).map fun t => nS t.ln)))) ⟨same_upd nL, upd_same⟩ (fun i H3 _ pv => SqL.of (pv.1 _ _ eD)) (fun i v H3₀ H3 hi pv yy => ?_) (fun H3 pv => ?_)
    · obtain ⟨rfl, ex⟩ := yy
      obtain ⟨s3, eL⟩ := pv
      obtain ⟨u, eu, rfl⟩ : ∃ u, da[i]? = some u ∧ v = .ref u := by
        rw [List.getElem?_map] at ex
        cases h : da[i]? with
        | none => rw [h] at ex; cases ex
        | some t => rw [h] at ex; exact ⟨t, rfl, (Option.some.inj ex).symm⟩
      obtain ⟨x, et, hu⟩ := paired_get hda eu
      obtain ⟨t, et', rfl⟩ : ∃ t, ts[i]? = some t ∧ x = tiP t := by
        rw [List.getElem?_map] at et
        cases h : ts[i]? with
        | none => rw [h] at et; cases et
        | some t => rw [h] at et; exact ⟨t, rfl, (Option.some.inj et).symm⟩
      refine ⟨u, _, rfl, SqT.of (s3 _ _ hu), rfl, _, _, rfl, _, [], rfl, rfl, rfl, yes_ ?_⟩
      refine ⟨nS t.ln, rfl, _, eL, by rw [List.length_map, List.length_take]; exact small5000 (by omega), same_set s3 nL, ?_⟩
      rw [upd_same, List.take_add_one, et', List.map_append]
      rfl
    · obtain ⟨s3, eL⟩ := pv
      rw [List.length_map, dl, List.take_length] at eL
      have s13 := s1.trans s3
      refine ⟨.ref wy, rfl, 1, rfl, wy, _, rfl, s13 _ _ ewy, fun c H4 s4 ec => ?_⟩
      rw [cutV_one (α := Nat)] at ec
      refine ⟨.ref L, rfl, .ref L, rfl, 1, rfl, L, _, rfl, SqL.of (s4 _ _ eL), fun L1 nL1 => ?_⟩
      rw [cutV_one (α := Nat)]
      have s5 := same_upd (o := .lst ((ts.map fun t => nS t.ln).drop 1)) nL1
      have s15 := s13.trans (s4.trans s5)
      refine ⟨c, L, L1, _, _, _, rfl, SqT.of (s5 _ _ ec), SqL.of (s5 _ _ (s4 _ _ eL)), SqL.of upd_same, fun F nF => ?_⟩
      have nF0 := up0 s15 nF
      have ec5 := s5 _ _ ec
      have eL5 := s5 _ _ (s4 _ _ eL)
      have eL1 : (upd H4 L1 (.lst ((ts.map fun t => nS t.ln).drop 1))) L1 = _ := upd_same
      generalize upd H4 L1 (.lst ((ts.map fun t => nS t.ln).drop 1)) = H5 at s5 s15 nF ec5 eL5 eL1
      refine lc_it (Z3.walk_zip3 (n := ts.length - 1) (xs := (ws.map nS).drop 1) (ys := ts.map fun t => nS t.ln) (zs := (ts.map fun t => nS t.ln).drop 1) (by rw [List.length_drop, List.length_map]; omega) (by rw [List.length_map]; omega) (by rw [List.length_drop, List.length_map]; omega) (.inr (.inr (by rw [List.length_drop, List.length_map])))) (fun i H6 => Same H H6 ∧ Same H5 H6 ∧ CsA H6 F (crossTo ws ts i)) ⟨s15.trans (same_upd nF), same_upd nF, [], upd_same, .nil⟩ (fun i H6 _ pv => ⟨SqT.of (pv.2.1 _ _ ec5), SqL.of (pv.2.1 _ _ eL5), SqL.of (pv.2.1 _ _ eL1)⟩) (fun i v H6 H7 hi pv yy => ?_) (fun H6 pv => ?_)
      · obtain ⟨U, x, y, z, rfl, nU, rfl, ex, ey, ez⟩ := yy
        obtain ⟨s6, s56, fa, eF, hfa⟩ := pv
        obtain ⟨x1, y1, t, et, _, ew, _⟩ := hw.get (i := i) (by omega)
        obtain ⟨x2, y2, t2, et2, _, _, _⟩ := hw.get (i := i + 1) (by omega)
        have e1 : nS y1 = x := Option.some.inj ((by rw [List.getElem?_drop, List.getElem?_map, Nat.add_comm 1 i, ew]; rfl : ((ws.map nS).drop 1)[i]? = some (nS y1)).symm.trans ex)
        have e2 : nS t.ln = y := Option.some.inj ((by rw [List.getElem?_map, et]; rfl : (ts.map fun t => nS t.ln)[i]? = some (nS t.ln)).symm.trans ey)
        have e3 : nS t2.ln = z := Option.some.inj ((by rw [List.getElem?_drop, List.getElem?_map, Nat.add_comm 1 i, et2]; rfl : ((ts.map fun t => nS t.ln).drop 1)[i]? = some (nS t2.ln)).symm.trans ez)
        subst e1 e2 e3
        have s7 := same_upd (o := .tup [nS y1, nS t.ln, nS t2.ln]) nU
        have eF7 := s7 _ _ eF
        have hfa7 : Paired (CrA (upd H6 U (.tup [nS y1, nS t.ln, nS t2.ln]))) fa (crossTo ws ts i) := paired_imp hfa fun a _ g e => s7 _ _ e
        refine ⟨U, _, rfl, SqT.of upd_same, rfl, _, _, rfl, _, _, rfl, _, [], rfl, rfl, ?_⟩
        have s67 := s6.trans s7
        have s57 := s56.trans s7
        generalize upd H6 U (.tup [nS y1, nS t.ln, nS t2.ln]) = H7 at eF7 hfa7 s67 s57
        have cl := crossTo_len ws ts i
        have fl := paired_len hfa
        refine ⟨rfl, nS t.ln, rfl, nS t2.ln, rfl, rfl, _, rfl, ite2 (fun c => ?_) (fun c => ?_)⟩
        · have c : ¬ t.ln = t2.ln := fun z => by
            rw [z] at c
            simp at c
          refine ⟨nS y1, rfl, nS t.ln, rfl, nS t2.ln, rfl, three_sz, fun u' nu => ⟨_, same_upd nu _ _ eF7, by rw [List.length_map, fl]; exact small5000 (by omega), ?_⟩⟩
          rw [crossTo_succ, crossAt_of ew et et2, if_neg c]
          have a1 := CsA.app (x := (y1, t.ln, t2.ln)) nF0 s67 eF7 hfa7 nu
          have a2 := CsA.app (x := (y1, t.ln, t2.ln)) nF s57 eF7 hfa7 nu
          exact ⟨a1.1, a2.1, a1.2⟩
        · have c : t.ln = t2.ln := by
            by_cases h : t.ln = t2.ln
            · exact h
            · exfalso
              apply c
              show (!decide (nS t.ln = nS t2.ln)) = true
              rw [eq_nS, decide_eq_false h]
              rfl
          rw [crossTo_succ, crossAt_of ew et et2, if_pos c, List.append_nil]
          exact ⟨s67, s57, fa, eF7, hfa7⟩
      · exact q _ F pv.1 nF0 pv.2.2
end
end Th
namespace Th
open PySem PySem.Spec PyProof.Rows L2
section
variable {P : Program} {w : World} {K : PySem.W.Frag} {mg : Str → Option Value} {base : Heap} {k : Nat}
set_option maxHeartbeats 8000000 in
theorem ok_l_over (T : Defs K mg) : FnOk P w K mg base CX0 (k + 2) T.a_l_over T.d_l_over ["_law_net_here", "_law_way"] sp_crossings := by
  have G_l_tie : FnOk P w K mg base CX0 (k + 1) _ _ _ _ := ok_l_tie T
  refine T.F_l_over.ok sc_l_over (fun vs H Q E h => ?_) (fun cdv A outer s H vs Q E hr h => ?_)
  · obtain ⟨r, wy, ls, sts, jns, tis, ws, ts, rfl, _⟩ := h
    rfl
  · obtain ⟨r, wy, ls, sts, jns, tis, ws, ts, rfl, hnet, ewy, hw, q⟩ := h
    refine ⟨_, PSs.nox
(pss_cons (ps_set (i := 2) sc_l_over.nd rfl (.inl rfl) (pe_lst pa_nil))
    (pss_cons (ps_for PassesOwn.never rfl (pi_range2 (by rfl) T.z_range (pa_cons (pe_int) (pa_cons (pe_op op_sub (pe_callB (r := rLenS K) call_lenS (by rfl) T.z_len (by decide +kernel) (pa_cons (pv 1) pa_nil)) (pe_int)) pa_nil))) (pg_name (i := 3) sc_l_over.nd rfl (.inl rfl))
      (pss_cons (ps_par (i := 4) (j := 5) (by rfl) sc_l_over.nd rfl rfl (by decide) rfl rfl (pa_cons (pe_ix (r := rIxT K) ix_tup (pe_call G_l_tie hr (by rfl) T.g_l_tie T.F_l_tie.kp T.b_l_tie .nil pass0 (pa_cons (pv 0) (pa_cons (pe_ix (r := rIxT K) ix_tup (pv 1) (pe_op op_sub (pv 3) (pe_int)) (fun _ _ => rfl)) (pa_cons (pe_ix (r := rIxT K) ix_tup (pv 1) (pv 3) (fun _ _ => rfl)) pa_nil)))) (pe_int) (fun _ _ => rfl)) (pa_cons (pe_ix (r := rIxT K) ix_tup (pe_call G_l_tie hr (by rfl) T.g_l_tie T.F_l_tie.kp T.b_l_tie .nil pass0 (pa_cons (pv 0) (pa_cons (pe_ix (r := rIxT K) ix_tup (pv 1) (pv 3) (fun _ _ => rfl)) (pa_cons (pe_ix (r := rIxT K) ix_tup (pv 1) (pe_op op_add (pv 3) (pe_int)) (fun _ _ => rfl)) pa_nil)))) (pe_int) (fun _ _ => rfl)) pa_nil)) (by rfl))
      (pss_one (ps_if (pt_cmpR op_ne (pv 4) (pv 5) (nomark _))
        (pss_one (ps_expr (pe_bm PySem.F.plainAttrs_list PySem.F.slot_list_append PySem.F.type_list_append mt_append (pv 2) (pa_cons (pe_tup (pa_cons (pe_ix (r := rIxT K) ix_tup (pv 1) (pv 3) (fun _ _ => rfl)) (pa_cons (pv 4) (pa_cons (pv 5) pa_nil)))) pa_nil))))
        pss_nil))))
    (pss_one (ps_ret (pv 2)))))
      , ?_⟩
    refine ⟨Nat.zero_le _, fun F nF => ?_⟩
    have s1 := same_upd (o := .lst []) nF
    have l28 := hw.l28
    have l2 := hw.l2
    have ll := hw.al.len
    refine ⟨.ref wy, rfl, wy, _, rfl, .inr (SqT.of (s1 _ _ ewy)), _, 1, rfl, rfl, _, _, rfl, ⟨by decide, by decide, by rw [List.length_map]; omega, by rw [List.length_map]; omega⟩, ?_⟩
    rw [show ((((ws.map nS).length : Int) - 1) - 1).toNat = ts.length - 1 by rw [List.length_map]; omega]
    refine for_range (lo := 1) (n := ts.length - 1) (fun i σ H3 => ∃ (y3 y4 y5 : Option V), σ = [some (.ref r), some (.ref wy), some (.ref F), y3, y4, y5] ∧ Same H H3 ∧ CsA H3 F (crossTo ws ts i))
      ⟨_, _, _, rfl, s1, [], upd_same, .nil⟩ (fun i σ H3 hi hp => ?_) (fun σ H3 hp => ?_)
    · obtain ⟨y3, y4, y5, rfl, s3, fa, eF, hfa⟩ := hp
      obtain ⟨x, y, t, et, ex, ey, hf⟩ := hw.get (i := i) (by omega)
      obtain ⟨y', z, t2, et2, ey', ez, hf2⟩ := hw.get (i := i + 1) (by omega)
      have := Option.some.inj (ey.symm.trans ey')
      subst this
      have i1 : (1 : Int) + (i : Int) = ((i + 1 : Nat) : Int) := by omega
      have i0 : (1 : Int) + (i : Int) - 1 = ((i : Nat) : Int) := by omega
      have i2 : (1 : Int) + (i : Int) + 1 = ((i + 2 : Nat) : Int) := by omega
      have tl : ∀ {H' : Hp}, Same H H' → NetAt H' r ls sts jns tis := fun s => hnet.tk (.of s)
      refine ⟨.ref r, rfl, .ref wy, rfl, .int (1 + (i : Int)), rfl, 1 + (i : Int), 1, rfl, rfl, wy, _, 1 + (i : Int) - 1, nS x, rfl, rfl, SqT.of (s3 _ _ ewy), by rw [i0]; exact atI_nat (at_ws ex), .ref wy, rfl, .int (1 + (i : Int)), rfl, wy, _, 1 + (i : Int), nS y, rfl, rfl, SqT.of (s3 _ _ ewy), by rw [i1]; exact atI_nat (at_ws ey), ?_⟩
      refine ⟨r, x, y, ls, sts, jns, tis, rfl, tl s3, by have := hw.t40; omega, fun t ht => ⟨(hw.ti t ht).2.2.1, (hw.ti t ht).2.2.2.1⟩, fun H5 _ z => ?_, fun H5 u t' s5 z5 eu => ?_⟩
      · rw [hf] at z
        cases z
      rw [hf] at z5
      have := Option.some.inj z5
      subst this
      have s35 := s3.trans s5
      refine ⟨u, _, 0, nS t.ln, rfl, rfl, SqT.of eu, atI_nat (j := 0) rfl, ?_⟩
      refine ⟨.ref r, rfl, .ref wy, rfl, .int (1 + (i : Int)), rfl, wy, _, 1 + (i : Int), nS y, rfl, rfl, SqT.of (s35 _ _ ewy), by rw [i1]; exact atI_nat (at_ws ey), .ref wy, rfl, .int (1 + (i : Int)), rfl, 1 + (i : Int), 1, rfl, rfl, wy, _, 1 + (i : Int) + 1, nS z, rfl, rfl, SqT.of (s35 _ _ ewy), by rw [i2]; exact atI_nat (at_ws ez), ?_⟩
      refine ⟨r, y, z, ls, sts, jns, tis, rfl, tl s35, by have := hw.t40; omega, fun t ht => ⟨(hw.ti t ht).2.2.1, (hw.ti t ht).2.2.2.1⟩, fun H6 _ z => ?_, fun H6 u2 t' s6 z6 eu2 => ?_⟩
      · rw [hf2] at z
        cases z
      rw [hf2] at z6
      have := Option.some.inj z6
      subst this
      have s36 := s35.trans s6
      have s56 := s5.trans s6
      have eF6 := s56 _ _ eF
      have hfa6 : Paired (CrA H6) fa (crossTo ws ts i) := paired_imp hfa fun a _ g e => s56 _ _ e
      have cl := crossTo_len ws ts i
      have fl := paired_len hfa
      refine ⟨u2, _, 0, nS t2.ln, rfl, rfl, SqT.of eu2, atI_nat (j := 0) rfl, _, _, rfl, ?_⟩
      refine ⟨nS t.ln, rfl, nS t2.ln, rfl, rfl, _, rfl, ite2 (fun c => ?_) (fun c => ?_)⟩
      · have c : ¬ t.ln = t2.ln := fun z => by
          rw [z] at c
          simp at c
        refine ⟨.ref F, rfl, .inl ⟨rfl, _, SqL.of eF6⟩, .ref wy, rfl, .int (1 + (i : Int)), rfl, wy, _, 1 + (i : Int), nS y, rfl, rfl, SqT.of (s36 _ _ ewy), by rw [i1]; exact atI_nat (at_ws ey), nS t.ln, rfl, nS t2.ln, rfl, three_sz, fun u' nu => ⟨F, _, _, rfl, rfl, same_upd nu _ _ eF6, by rw [List.length_map, fl]; exact small5000 (by omega), ?_⟩⟩
        rw [crossTo_succ, crossAt_of ey et et2, if_neg c]
        have a1 := CsA.app (x := (y, t.ln, t2.ln)) nF s36 eF6 hfa6 nu
        exact ⟨_, _, _, rfl, a1.1, a1.2⟩
      · have c : t.ln = t2.ln := by
          by_cases h : t.ln = t2.ln
          · exact h
          · exfalso
            apply c
            show (!decide (nS t.ln = nS t2.ln)) = true
            rw [eq_nS, decide_eq_false h]
            rfl
        rw [crossTo_succ, crossAt_of ey et et2, if_pos c, List.append_nil]
        exact ⟨_, _, _, rfl, s36, fa, eF6, hfa6⟩
    · obtain ⟨y3, y4, y5, rfl, s3, h⟩ := hp
      exact ⟨.ref F, rfl, q _ F s3 nF h⟩
end
end Th
namespace Th
open PySem PySem.Spec PyProof.Rows L2
/-! a drawn way -/
theorem find_of {tis : List Ti} {x y : Nm} {t : Ti} (ht : t ∈ tis) (h : isTie x y t = true) : ∃ u, tis.find? (isTie x y) = some u := by
  cases e : tis.find? (isTie x y) with
  | none => exact absurd h (by rw [Bool.not_eq_true]; exact Bool.eq_false_iff.mpr (List.find?_eq_none.mp e t ht))
  | some u => exact ⟨u, rfl⟩
theorem Al.one (tis : List Ti) (x : Nm) : Al tis [x] [] := ⟨rfl, fun i t h => by simp at h⟩
theorem Al.snoc {tis : List Ti} {ws : List Nm} {x y : Nm} {ts : List Ti} {t : Ti} (h : Al tis (ws ++ [x]) ts) (ht : t ∈ tis) (hy : isTie x y t = true) : ∃ us, Al tis (ws ++ [x] ++ [y]) us := by
  obtain ⟨u, hu⟩ := find_of ht hy
  have l := h.len
  have l' : ts.length = ws.length := by simpa using l
  refine ⟨ts ++ [u], by rw [List.length_append, List.length_append, ← l]; rfl, fun i t hi => ?_⟩
  by_cases c : i < ts.length
  · rw [List.getElem?_append_left c] at hi
    obtain ⟨a, b, h1, h2, h3⟩ := h.tie i t hi
    exact ⟨a, b, by rw [List.getElem?_append_left (by rw [← l]; omega)]; exact h1, by rw [List.getElem?_append_left (by rw [← l]; omega)]; exact h2, h3⟩
  · rw [List.getElem?_append_right (by omega)] at hi
    have e : i = ts.length := by
      have := (List.getElem?_eq_some_iff.mp hi).1
      simp at this
      omega
    subst e
    rw [Nat.sub_self] at hi
    have := Option.some.inj hi
    subst this
    refine ⟨x, y, ?_, ?_, hu⟩
    · rw [List.getElem?_append_left (by rw [← l]; omega), l', List.getElem?_append_right (Nat.le_refl _), Nat.sub_self]
      rfl
    · rw [l, List.getElem?_append_right (Nat.le_refl _), Nat.sub_self]
      rfl
theorem Al.take {tis : List Ti} {ws : List Nm} {ts : List Ti} (h : Al tis ws ts) {n : Nat} (hn : n + 1 ≤ ws.length) : Al tis (ws.take (n + 1)) (ts.take n) := by
  have l := h.len
  refine ⟨by rw [List.length_take, List.length_take]; omega, fun i t hi => ?_⟩
  have hi2 := (List.getElem?_eq_some_iff.mp hi).1
  rw [List.length_take] at hi2
  rw [List.getElem?_take_of_lt (by omega)] at hi
  obtain ⟨a, b, h1, h2, h3⟩ := h.tie i t hi
  exact ⟨a, b, by rw [List.getElem?_take_of_lt (by omega)]; exact h1, by rw [List.getElem?_take_of_lt (by omega)]; exact h2, h3⟩
theorem dtAll_nms {H : Hp} : ∀ zs : List Nm, DtAll SA H (zs.map nS) (zs.map fun z => PyData.str (SX.S z))
  | [] => .nil
  | z :: zs => .cons (.str _) (dtAll_nms zs)
theorem dt_nms {H : Hp} {a : Addr} {p : List Nm} (e : H a = some (.lst (p.map nS))) (l : p.length ≤ 5000) : Dt SA H (.ref a) (.list (p.map fun z => PyData.str (SX.S z))) := .lst trivial e (by rw [List.length_map]; exact l) (dtAll_nms p)
theorem sh_nms {zs : List Nm} (h : ∀ z ∈ zs, IsNm z) : SeqAt.shaped (.list (zs.map fun z => PyData.str (SX.S z))) = true := by
  have h1 : ∀ zs : List Nm, (∀ z ∈ zs, IsNm z) → PyData.canLayAll0 (zs.map fun z => PyData.str (SX.S z)) = true := fun zs => by
    induction zs with
    | nil => exact fun _ => rfl
    | cons z r ih =>
      intro h
      show (PyData.strOk (SX.S z) && PyData.canLayAll0 (r.map fun z => PyData.str (SX.S z))) = true
      rw [nm_ok (h z (List.mem_cons_self ..)), ih fun x hx => h x (List.mem_cons_of_mem _ hx)]
      rfl
  have h2 : ∀ zs : List Nm, PyData.depthAll (zs.map fun z => PyData.str (SX.S z)) = 0 := fun zs => by
    induction zs with
    | nil => rfl
    | cons z r ih =>
      show max 0 (PyData.depthAll (r.map fun z => PyData.str (SX.S z))) = 0
      rw [ih]
      rfl
  refine Bool.and_eq_true_iff.mpr ⟨h1 zs h, decide_eq_true ?_⟩
  show PyData.depthAll _ + 1 ≤ 64
  rw [h2]
  decide
theorem TpF.set {H : Hp} {a G : Addr} {xs ys zs : List V} (h : TpF H a xs) (e : H G = some (.lst ys)) : TpF (upd H G (.lst zs)) a xs := by
  obtain ⟨o, h1, h2⟩ := h
  refine ⟨o, ?_, h2⟩
  rw [upd_ne fun z => by rw [z, e] at h1; cases h1]
  exact h1
/-- a way whose ends are stations -/
def StE (sts : List (Nm × Nm)) (ws : List Nm) : Prop := (∃ x, ws[0]? = some x ∧ x ∈ sts.map (·.1)) ∧ ∃ x, ws[ws.length - 1]? = some x ∧ x ∈ sts.map (·.1)
section
variable {P : Program} {w : World} {K : PySem.W.Frag} {mg : Str → Option Value} {base : Heap} {k : Nat}
def sp_l_walk : Sp := fun vs H Q _ => ∃ (p r wy : Addr) (ls : List Nm) (sts : List (Nm × Nm)) (jns : List (Nm × List Nm)) (tis : List Ti) (ws : List Nm) (ts : List Ti), vs = [.ref p, .ref r, .ref wy] ∧ Bag H p ∧ NetAt H r ls sts jns tis ∧ H wy = some (.tup (ws.map nS)) ∧ WayOk tis ws ts ∧ StE sts ws ∧
  1 ≤ sts.length ∧ sts.length ≤ 100 ∧ (∀ s ∈ sts, IsNm s.1) ∧ ∀ H' u ws' ts', Keep p H H' → Bag H' p → H' u = some (.tup (ws'.map nS)) → WayOk tis ws' ts' → StE sts ws' → Q (.ref u) H'
set_option maxHeartbeats 16000000 in
theorem ok_l_walk (T : Defs K mg) : FnOk P w K mg base CX0 (k + 2) T.a_l_walk T.d_l_walk ["_law_bag_here", "_law_net_here", "_law_way"] sp_l_walk := by
  have G_l_take : FnOk P w K mg base CX0 (k + 1) _ _ _ _ := ok_l_take T
  refine T.F_l_walk.ok sc_l_walk (fun vs H Q E h => ?_) (fun cdv A outer s H vs Q E hr h => ?_)
  · obtain ⟨p, r, wy, ls, sts, jns, tis, ws, ts, rfl, _⟩ := h
    rfl
  · obtain ⟨p, r, wy, ls, sts, jns, tis, ws, ts, rfl, b, hnet, ewy, hw, hSt, s1, s100, snm, q⟩ := h
    refine ⟨_, PSs.nox
(pss_cons (ps_set (i := 3) sc_l_walk.nd rfl (.inr rfl) (pe_lc (own := [("_law_one", 8)]) (g := gName 8) rfl sc_l_walk.nd (pi_tup (pe_ix (r := rIxT K) ix_tup (pv 1) (pe_int) (fun _ _ => rfl))) (blkOk_by (N := N_l_walk) (sc := defScope s_l_walk) (by decide +kernel)) (fun _ _ _ _ _ => (pg_name (i := 8) sc_l_walk.nd rfl (.inl rfl))) (fun _ _ _ _ _ => pts_nil) (fun _ _ _ _ _ => (pe_ix (r := rIxT K) ix_tup (pv 8) (pe_int) (fun _ _ => rfl)))))
    (pss_cons (ps_set (i := 4) sc_l_walk.nd rfl (.inr rfl) (pe_lst (pa_cons (pe_ix (r := rIxL K) ix_list (pv 3) (pe_call G_l_take hr (by rfl) T.g_l_take T.F_l_take.kp T.b_l_take .nil pass0 (pa_cons (pv 0) (pa_cons (pe_callB (r := rLenS K) call_lenS (by rfl) T.z_len (by decide +kernel) (pa_cons (pv 3) pa_nil)) pa_nil))) (fun _ _ => rfl)) pa_nil)))
    (pss_cons (ps_for PassesOwn.never rfl (pi_range1 (by rfl) T.z_range (pa_cons (pe_int) pa_nil)) (pg_name (i := 5) sc_l_walk.nd rfl (.inl rfl))
      (pss_cons (ps_setLc (i := 6) (own := [("_law_one", 8)]) (g := gName 8) rfl sc_l_walk.nd rfl rfl (sw_true rfl rfl rfl (by decide +kernel)) (pi_list (pe_lc (own := [("_law_tie_here", 9)]) (g := gName 9) rfl sc_l_walk.nd (pi_tup (pe_ix (r := rIxT K) ix_tup (pv 1) (pe_int) (fun _ _ => rfl))) (blkOk_by (N := N_l_walk) (sc := defScope s_l_walk) (by decide +kernel)) (fun _ _ _ _ _ => (pg_name (i := 9) sc_l_walk.nd rfl (.inl rfl))) (fun _ _ _ _ _ => pts_nil) (fun _ _ _ _ _ => (pe_slice (r := Tw.rSlF K) Tw.sl_tupF (pv 9) po_none (po_some (pe_int)))))) (blkOk_by (N := N_l_walk) (sc := defScope s_l_walk) (by decide +kernel)) (fun _ _ _ _ _ => (pg_name (i := 8) sc_l_walk.nd rfl (.inl rfl))) (fun _ _ _ _ _ => pts_one (pt_cmpR (r := rIn K false) op_in_seq (pe_ix (r := rIxL K) ix_list (pv 4) (pe_un un_neg (pe_int)) (fun _ _ => rfl)) (pv 8) (by rfl))) (fun _ _ _ _ _ => (pe_ix (r := rIxT K) ix_tup (pv 8) (pe_op op_sub (pe_int) (pe_mG (ty := Tw.tyTp) (r := Tw.rIdxT K) Tw.ty_tp PySem.F.plainAttrs_tuple PySem.F.slot_tuple_index PySem.F.type_tuple_index Tw.mt_tidx (pv 8) (pa_cons (pe_ix (r := rIxL K) ix_list (pv 4) (pe_un un_neg (pe_int)) (fun _ _ => rfl)) pa_nil))) (fun _ _ => rfl))))
      (pss_cons (ps_setLc (i := 6) (own := [("_law_place", 10)]) (g := gName 10) rfl sc_l_walk.nd rfl rfl (sw_true rfl rfl rfl (by decide +kernel)) (pi_list (pv 6)) (blkOk_by (N := N_l_walk) (sc := defScope s_l_walk) (by decide +kernel)) (fun _ _ _ _ _ => (pg_name (i := 10) sc_l_walk.nd rfl (.inl rfl))) (fun _ _ _ _ _ => pts_one (pt_cmpR (r := rIn K true) op_notIn_seq (pv 10) (pv 4) (by rfl))) (fun _ _ _ _ _ => (pv 10)))
      (pss_one (ps_if (pt_cmpR (r := rNeD K) (op_neD hr.units) (pv 6) (pe_lst pa_nil) (nomark _))
        (pss_one (ps_expr (pe_bm PySem.F.plainAttrs_list PySem.F.slot_list_append PySem.F.type_list_append mt_append (pv 4) (pa_cons (pe_ix (r := rIxL K) ix_list (pv 6) (pe_call G_l_take hr (by rfl) T.g_l_take T.F_l_take.kp T.b_l_take .nil pass0 (pa_cons (pv 0) (pa_cons (pe_callB (r := rLenS K) call_lenS (by rfl) T.z_len (by decide +kernel) (pa_cons (pv 6) pa_nil)) pa_nil))) (fun _ _ => rfl)) pa_nil))))
        pss_nil)))))
    (pss_cons (ps_setLc (i := 7) (own := [("_law_at", 11)]) (g := gName 11) rfl sc_l_walk.nd rfl rfl (sw_true rfl rfl rfl (by decide +kernel)) (pi_range2 (by rfl) T.z_range (pa_cons (pe_int) (pa_cons (pe_callB (r := rLenS K) call_lenS (by rfl) T.z_len (by decide +kernel) (pa_cons (pv 4) pa_nil)) pa_nil))) (blkOk_by (N := N_l_walk) (sc := defScope s_l_walk) (by decide +kernel)) (fun _ _ _ _ _ => (pg_name (i := 11) sc_l_walk.nd rfl (.inl rfl))) (fun _ _ _ _ _ => pts_one (pt_cmpR (r := rIn K false) op_in_seq (pe_ix (r := rIxL K) ix_list (pv 4) (pv 11) (fun _ _ => rfl)) (pv 3) (by rfl))) (fun _ _ _ _ _ => (pv 11)))
    (pss_cons (ps_if (PW.pt (pw_or (pt_cmpR (r := rEqD K) (op_eqD hr.units) (pv 7) (pe_lst pa_nil) (nomark _)) (pw_or1 (pt_cmpR op_eq (pe_call G_l_take hr (by rfl) T.g_l_take T.F_l_take.kp T.b_l_take .nil pass0 (pa_cons (pv 0) (pa_cons (pe_int) pa_nil))) (pe_int) (nomark _)))))
      (pss_one (ps_ret (pv 2)))
      pss_nil)
    (pss_one (ps_ret (pe_callTy call_tuple_of (by rfl) T.z_tuple (by decide +kernel) (pa_cons (pe_slice sl_list (pv 4) po_none (po_some (pe_op op_add (pe_ix (r := rIxL K) ix_list (pv 7) (pe_op op_sub (pe_un un_neg (pe_int)) (pe_call G_l_take hr (by rfl) T.g_l_take T.F_l_take.kp T.b_l_take .nil pass0 (pa_cons (pv 0) (pa_cons (pe_callB (call_min2 rfl) (by rfl) T.z_min (by decide +kernel) (pa_cons (pe_int) (pa_cons (pe_callB (r := rLenS K) call_lenS (by rfl) T.z_len (by decide +kernel) (pa_cons (pv 7) pa_nil)) pa_nil))) pa_nil)))) (fun _ _ => rfl)) (pe_int)))) pa_nil)))))))))
      , ?_⟩
    obtain ⟨na, nb, nc, nd, sa, ja, ta, er, _, eb, hsa, _, _, ed, hta⟩ := id hnet
    have sl := paired_len hsa
    have tl := paired_len hta
    have t40 := hw.t40
    refine ⟨.ref r, rfl, r, [.ref na, .ref nb, .ref nc, .ref nd], 1, .ref nb, rfl, rfl, SqT.of er, atI_nat (j := 1) rfl, nb, rfl, ⟨_, eb.sq⟩, fun S nSt => ?_⟩
    have nSp : S ≠ p := b.ne nSt
    refine lc_it (walk_tup (xs := sa.map V.ref)) (fun i H3 => Same H H3 ∧ H3 S = some (.lst (((sts.take i).map (·.1)).map nS))) ⟨same_upd nSt, upd_same⟩ (fun i H3 _ pv => (eb.same pv.1).sq) (fun i v H3₀ H3 hi pv yy => ?_) (fun H3 pv => ?_)
    · obtain ⟨rfl, ex⟩ := yy
      obtain ⟨s3, eS⟩ := pv
      obtain ⟨u, eu, rfl⟩ : ∃ u, sa[i]? = some u ∧ v = .ref u := by
        rw [List.getElem?_map] at ex
        cases h : sa[i]? with
        | none => rw [h] at ex; cases ex
        | some t => rw [h] at ex; exact ⟨t, rfl, (Option.some.inj ex).symm⟩
      obtain ⟨st, est, hu⟩ := paired_get hsa eu
      refine ⟨rfl, yes_ ⟨.ref u, rfl, u, _, 0, nS st.1, rfl, rfl, SqT.of (s3 _ _ hu), atI_nat (j := 0) rfl, _, eS, by rw [List.length_map, List.length_map, List.length_take]; exact small5000 (by omega), same_set s3 nSt, ?_⟩⟩
      rw [upd_same, List.take_add_one, est, List.map_append, List.map_append]
      rfl
    obtain ⟨s3, eS⟩ := pv
    rw [List.length_map, sl, List.take_length] at eS
    have b3 := b.keep s3
    -- found
    refine ⟨.ref S, rfl, .ref p, rfl, .ref S, rfl, S, _, rfl, .inl (SqL.of eS), p, ((sts.map (·.1)).length : Nat), by rw [List.length_map]; rfl, b3, by rw [List.length_map]; omega, by rw [List.length_map]; omega, fun H4 d k4 b4 d0 d1 => ?_⟩
    obtain ⟨dd, rfl⟩ : ∃ dd : Nat, d = (dd : Int) := ⟨d.toNat, by omega⟩
    have hdd : dd < sts.length := by rw [List.length_map] at d1; omega
    have eS4 := k4 _ _ nSp eS
    refine ⟨S, _, (dd : Int), nS (sts[dd]).1, rfl, rfl, SqL.of eS4, atI_nat (by rw [List.getElem?_map, List.getElem?_map, List.getElem?_eq_getElem hdd]; rfl), by show 1 ≤ sizeLine; decide, fun F nF => ?_⟩
    have nFp : F ≠ p := b4.ne nF
    have k04 : Keep p H H4 := (Keep.of s3).trans k4
    have nF0 : H F = none := k04.free b nF b4
    have nSF : S ≠ F := ne_of_none eS4 nF
    refine ⟨27, rfl, by decide, by decide, ?_⟩
    refine for_range (lo := 0) (n := 27) (fun i σ H5 => ∃ (y5 y6 : Option V) (fs : List Nm) (x : Nm) (tf : List Ti), σ = [some (.ref p), some (.ref r), some (.ref wy), some (.ref S), some (.ref F), y5, y6, none, none, none, none, none] ∧ Keep p H H5 ∧ Bag H5 p ∧ H5 S = some (.lst ((sts.map (·.1)).map nS)) ∧ H5 F = some (.lst ((fs ++ [x]).map nS)) ∧ Al tis (fs ++ [x]) tf ∧ (∀ z ∈ fs ++ [x], IsNm z) ∧ fs.length ≤ i ∧ (fs ++ [x])[0]? = some (sts[dd]).1)
      ⟨none, none, [], (sts[dd]).1, [], rfl, k04.new nF, b4.keep (same_upd nF), same_upd nF _ _ eS4, upd_same, Al.one _ _, fun z hz => by rw [List.mem_singleton.mp hz]; exact snm _ (List.getElem_mem hdd), Nat.zero_le _, rfl⟩ (fun i σ H5 hi hp => ?_) (fun σ H5 hp => ?_)
    · obtain ⟨y5, y6, fs, x, tf, rfl, k5, b5, eS5, eF5, hal, hnm, hfl, hf0⟩ := hp
      have tk5 : TKF H H5 := .keep k5 b
      have last : ∀ {H' : Hp}, H' F = some (.lst ((fs ++ [x]).map nS)) → atI ((fs ++ [x]).map nS) (-1) = some (nS x) := fun _ => by rw [List.map_append]; exact atI_last _ _
      refine ⟨.ref r, rfl, r, [.ref na, .ref nb, .ref nc, .ref nd], 3, .ref nd, rfl, rfl, SqT.of (tk5 _ _ er), atI_nat (j := 3) rfl, nd, rfl, ⟨_, (ed.tk tk5).sq⟩, fun G nG => ?_⟩
      refine lc_it (walk_tup (xs := ta.map V.ref)) (fun j H6 => Same H5 H6 ∧ ∃ ga : List Addr, H6 G = some (.lst (ga.map V.ref)) ∧ Paired (fun a (t : Ti) => TpF H6 a [nS t.a, nS t.b]) ga (tis.take j)) ⟨same_upd nG, [], upd_same, .nil⟩ (fun j H6 _ pv => ((ed.tk tk5).same pv.1).sq) (fun j v H6₀ H6 hj pv yy => ?_) (fun H6 pv => ?_)
      · obtain ⟨rfl, ex⟩ := yy
        obtain ⟨s6, ga, eG, hga⟩ := pv
        obtain ⟨u, eu, rfl⟩ : ∃ u, ta[j]? = some u ∧ v = .ref u := by
          rw [List.getElem?_map] at ex
          cases h : ta[j]? with
          | none => rw [h] at ex; cases ex
          | some t => rw [h] at ex; exact ⟨t, rfl, (Option.some.inj ex).symm⟩
        obtain ⟨t, et, hu⟩ := paired_get hta eu
        have hu6 : H6 u = some (.tup [nS t.a, nS t.b, nS t.ln, .int t.ch]) := s6 _ _ (tk5 _ _ hu)
        refine ⟨rfl, yes_ ⟨.ref u, rfl, 2, rfl, u, _, rfl, SqT.of hu6, by show ¬ (0 = 0 ∧ 2 = 4); decide, fun c H7 nc7 s7 hc7 _ => ?_⟩⟩
        have eG7 := s7 _ _ eG
        refine ⟨_, eG7, by rw [List.length_map, paired_len hga, List.length_take]; exact small5000 (by omega), same_set (s6.trans s7) nG, ga ++ [c], by rw [upd_same, List.map_append]; rfl, ?_⟩
        rw [List.take_add_one, et]
        exact paired_snoc (paired_imp hga fun a _ t h => (h.same s7).set eG7) (TpF.set hc7 eG7)
      obtain ⟨s6, ga, eG, hga⟩ := pv
      rw [List.length_map, tl, List.take_length] at hga
      have gl := paired_len hga
      have eF6 := s6 _ _ eF5
      refine ⟨G, rfl, ⟨_, SqL.of eG⟩, fun M nM => ?_⟩
      refine lc_it (walk_list (xs := ga.map V.ref)) (fun j H7 => Same H6 H7 ∧ ∃ ys : List Nm, H7 M = some (.lst (ys.map nS)) ∧ ys.length ≤ j ∧ ∀ y ∈ ys, ∃ t ∈ tis, isTie x y t = true ∧ IsNm y) ⟨same_upd nM, [], upd_same, Nat.zero_le _, fun y hy => (by cases hy)⟩ (fun j H7 _ pv => SqL.of (pv.1 _ _ eG)) (fun j v H7₀ H7 hj pv yy => ?_) (fun H7 pv => ?_)
      · obtain ⟨rfl, ex⟩ := yy
        obtain ⟨s7, ys, eM, yl, hys⟩ := pv
        rw [List.length_map] at hj
        obtain ⟨a, ea, rfl⟩ : ∃ u, ga[j]? = some u ∧ v = .ref u := by
          rw [List.getElem?_map] at ex
          cases h : ga[j]? with
          | none => rw [h] at ex; cases ex
          | some t => rw [h] at ex; exact ⟨t, rfl, (Option.some.inj ex).symm⟩
        obtain ⟨t, et, ha⟩ := paired_get hga ea
        have tin := List.mem_of_getElem? et
        obtain ⟨nta, ntb, _, _, _⟩ := hw.ti t tin
        have ha7 := ha.same s7
        have eF7 := s7 _ _ eF6
        refine ⟨rfl, .ref F, rfl, 1, rfl, F, _, -1, nS x, rfl, rfl, SqL.of eF7, last eF7, .ref a, rfl, a, [nS t.a, nS t.b], rfl, .inr ha7.sq, rfl, rfl, _, rfl, ite2 (fun c => ?_) (fun c => ?_)⟩
        · have c : t.a = x ∨ t.b = x := of_decide_eq_true (in2.symm.trans c)
          by_cases ca : t.a = x
          · refine ⟨.ref a, rfl, .ref a, rfl, ⟨a, _, rfl, ha7⟩, .ref F, rfl, 1, rfl, F, _, -1, nS x, rfl, rfl, SqL.of eF7, last eF7, a, [SX.S t.a, SX.S t.b], SX.S x, 0, rfl, rfl, ha7.sq, by rw [ca]; rfl, fun m hm => absurd hm (Nat.not_lt_zero _), 1, ((0 : Nat) : Int), rfl, rfl, a, [nS t.a, nS t.b], 1 - ((0 : Nat) : Int), nS t.b, rfl, rfl, ha7.sq, atI_nat (j := 1) rfl, _, eM, by rw [List.length_map]; exact small5000 (by omega), same_set s7 nM, ys ++ [t.b], by rw [upd_same, List.map_append]; rfl, by rw [List.length_append]; exact Nat.succ_le_succ yl, fun y hy => ?_⟩
            rcases List.mem_append.mp hy with z | z
            · exact hys y z
            · rw [List.mem_singleton.mp z]
              exact ⟨t, tin, decide_eq_true (.inl ⟨ca, rfl⟩), ntb⟩
          · have cb : t.b = x := c.elim (fun z => absurd z ca) id
            refine ⟨.ref a, rfl, .ref a, rfl, ⟨a, _, rfl, ha7⟩, .ref F, rfl, 1, rfl, F, _, -1, nS x, rfl, rfl, SqL.of eF7, last eF7, a, [SX.S t.a, SX.S t.b], SX.S x, 1, rfl, rfl, ha7.sq, by rw [cb]; rfl, fun m hm => ?_, 1, ((1 : Nat) : Int), rfl, rfl, a, [nS t.a, nS t.b], 1 - ((1 : Nat) : Int), nS t.a, rfl, rfl, ha7.sq, atI_nat (j := 0) rfl, _, eM, by rw [List.length_map]; exact small5000 (by omega), same_set s7 nM, ys ++ [t.a], by rw [upd_same, List.map_append]; rfl, by rw [List.length_append]; exact Nat.succ_le_succ yl, fun y hy => ?_⟩
            · have : m = 0 := by omega
              subst this
              exact fun z => ca (SX.S_inj (Option.some.inj z))
            · rcases List.mem_append.mp hy with z | z
              · exact hys y z
              · rw [List.mem_singleton.mp z]
                exact ⟨t, tin, decide_eq_true (.inr ⟨rfl, cb⟩), nta⟩
        · exact ⟨s7, ys, eM, by omega, hys⟩
      obtain ⟨s7, ys, eM, yl, hys⟩ := pv
      rw [List.length_map, gl] at yl
      have eF7 := s7 _ _ eF6
      refine ⟨.ref M, rfl, M, rfl, ⟨_, SqL.of eM⟩, fun N nN => ?_⟩
      refine lc_it (walk_list (xs := ys.map nS)) (fun j H8 => Same H7 H8 ∧ ∃ zs : List Nm, H8 N = some (.lst (zs.map nS)) ∧ zs.length ≤ j ∧ ∀ z ∈ zs, z ∈ ys) ⟨same_upd nN, [], upd_same, Nat.zero_le _, fun y hy => (by cases hy)⟩ (fun j H8 _ pv => SqL.of (pv.1 _ _ eM)) (fun j v H8₀ H8 hj pv yy => ?_) (fun H8 pv => ?_)
      · obtain ⟨rfl, ex⟩ := yy
        obtain ⟨s8, zs, eN, zl, hzs⟩ := pv
        rw [List.length_map] at hj
        obtain ⟨y, ey, rfl⟩ : ∃ l, ys[j]? = some l ∧ v = nS l := by
          rw [List.getElem?_map] at ex
          cases h : ys[j]? with
          | none => rw [h] at ex; cases ex
          | some t => rw [h] at ex; exact ⟨t, rfl, (Option.some.inj ex).symm⟩
        refine ⟨rfl, nS y, rfl, .ref F, rfl, F, _, rfl, .inl (SqL.of (s8 _ _ eF7)), rfl, flat_nms _, _, rfl, ite2 (fun c => ?_) (fun c => ?_)⟩
        · refine ⟨nS y, rfl, _, eN, by rw [List.length_map]; exact small5000 (by omega), same_set s8 nN, zs ++ [y], by rw [upd_same, List.map_append]; rfl, by rw [List.length_append]; exact Nat.succ_le_succ zl, fun z hz => ?_⟩
          rcases List.mem_append.mp hz with h | h
          · exact hzs z h
          · rw [List.mem_singleton.mp h]
            exact List.mem_of_getElem? ey
        · exact ⟨s8, zs, eN, by omega, hzs⟩
      obtain ⟨s8, zs, eN, zl, hzs⟩ := pv
      rw [List.length_map] at zl
      have s58 := s6.trans (s7.trans s8)
      have k58 : Keep p H H8 := k5.trans (Keep.of s58)
      have b8 := b5.keep s58
      refine ⟨.ref N, rfl, Nat.zero_le _, fun e ne => ?_⟩
      have s9 := same_upd (o := .lst []) ne
      have dN : Dt SA (upd H8 e (.lst [])) (.ref N) (.list (zs.map fun z => PyData.str (SX.S z))) := (dt_nms eN (by omega)).same s9
      have dE : Dt SA (upd H8 e (.lst [])) (.ref e) (.list []) := .lst trivial upd_same (Nat.zero_le _) .nil
      refine ⟨_, _, dN.dp, dE.dp, sh_nms fun z hz => let ⟨t, _, _, h⟩ := hys z (hzs z hz); h, rfl, _, rfl, ?_⟩
      have k9 := k58.trans (Keep.of s9)
      have b9 := b8.keep s9
      have eF9 := s9 _ _ (s8 _ _ eF7)
      have eS9 := s9 _ _ (s58 _ _ eS5)
      have eN9 := s9 _ _ eN
      have nN5 : H5 N = none := up0 (s6.trans s7) nN
      have nNp : N ≠ p := b5.ne nN5
      clear dN dE
      generalize upd H8 e (.lst []) = H9 at s9 k9 b9 eF9 eS9 eN9
      rcases zs with _ | ⟨z0, zr⟩
      · refine iteF ?_
        exact ⟨_, _, fs, x, tf, rfl, k9, b9, eS9, eF9, hal, hnm, by omega, hf0⟩
      · refine iteT ?_
        refine ⟨.ref F, rfl, .inl ⟨rfl, _, SqL.of eF9⟩, .ref N, rfl, .ref p, rfl, .ref N, rfl, N, _, rfl, .inl (SqL.of eN9), p, ((z0 :: zr).length : Nat), by rw [List.length_map]; rfl, b9, by simp only [List.length_cons]; omega, by omega, fun H10 d k10 b10 d0 d1 => ?_⟩
        obtain ⟨ee, rfl⟩ : ∃ ee : Nat, d = (ee : Int) := ⟨d.toNat, by omega⟩
        have hee : ee < (z0 :: zr).length := by omega
        have eF10 := k10 _ _ nFp eF9
        have zin := hzs _ (List.getElem_mem hee)
        obtain ⟨t, tin, htie, znm⟩ := hys _ zin
        obtain ⟨us, hus⟩ := hal.snoc tin htie
        refine ⟨N, _, (ee : Int), nS (z0 :: zr)[ee], rfl, rfl, SqL.of (k10 _ _ nNp eN9), atI_nat (by rw [List.getElem?_map, List.getElem?_eq_getElem hee]; rfl), F, _, _, rfl, rfl, eF10, by rw [List.length_map, List.length_append, List.length_singleton]; exact small5000 (by omega), ?_⟩
        refine ⟨_, _, fs ++ [x], (z0 :: zr)[ee], us, rfl, (k9.trans k10).set nF0, b10.at (upd_ne nFp.symm), by rw [upd_ne nSF]; exact k10 _ _ nSp eS9, by rw [upd_same, List.map_append (l₁ := fs ++ [x])]; rfl, hus, fun z hz => ?_, by rw [List.length_append, List.length_singleton]; omega, by rw [List.getElem?_append_left (by rw [List.length_append, List.length_singleton]; omega)]; exact hf0⟩
        rcases List.mem_append.mp hz with h | h
        · exact hnm z h
        · rw [List.mem_singleton.mp h]
          exact znm
    · obtain ⟨y5, y6, fs, x, tf, rfl, k5, b5, eS5, eF5, hal, hnm, hfl, hf0⟩ := hp
      have fl : (fs ++ [x]).length ≤ 28 := by rw [List.length_append, List.length_singleton]; omega
      have fl1 : 1 ≤ (fs ++ [x]).length := by rw [List.length_append, List.length_singleton]; omega
      generalize fs ++ [x] = gs at eF5 hal hnm fl fl1 hf0
      refine ⟨.ref F, rfl, F, _, rfl, .inl (SqL.of eF5), _, _, rfl, ⟨by decide, by decide, by rw [List.length_map]; omega, by rw [List.length_map]; omega⟩, fun En nE => ?_⟩
      rw [show (((gs.map nS).length : Int) - 1).toNat = gs.length - 1 by rw [List.length_map]; omega]
      refine lc_range (lo := 1) (n := gs.length - 1) (fun i H6 => Same H5 H6 ∧ ∃ es : List Int, H6 En = some (.lst (es.map V.int)) ∧ es.length ≤ i ∧ ∀ e ∈ es, 1 ≤ e ∧ e < gs.length ∧ ∃ y, gs[e.toNat]? = some y ∧ y ∈ sts.map (·.1)) ⟨same_upd nE, [], upd_same, Nat.zero_le _, fun e he => (by cases he)⟩ (fun i H6 hi pv => ?_) (fun H6 pv => ?_)
      · obtain ⟨s6, es, eE, el, hes⟩ := pv
        have gi : (gs.map nS)[i + 1]? = some (nS gs[i + 1]) := by rw [List.getElem?_map, List.getElem?_eq_getElem]; rfl
        refine ⟨rfl, .ref F, rfl, .int (1 + (i : Int)), rfl, F, _, 1 + (i : Int), nS (gs[i + 1]), rfl, rfl, SqL.of (s6 _ _ eF5), by rw [show (1 : Int) + (i : Int) = ((i + 1 : Nat) : Int) by omega]; exact atI_nat gi, .ref S, rfl, S, _, rfl, .inl (SqL.of (s6 _ _ eS5)), rfl, flat_nms _, _, rfl, ite2 (fun c => ?_) (fun c => ?_)⟩
        · refine ⟨.int (1 + (i : Int)), rfl, _, eE, by rw [List.length_map]; exact small5000 (by omega), same_set s6 nE, es ++ [1 + (i : Int)], by rw [upd_same, List.map_append]; rfl, by rw [List.length_append]; exact Nat.succ_le_succ el, fun e he => ?_⟩
          rcases List.mem_append.mp he with h | h
          · exact hes e h
          · rw [List.mem_singleton.mp h]
            refine ⟨by omega, by omega, gs[i + 1], ?_, of_decide_eq_true (in_nms.symm.trans c)⟩
            rw [show (1 + (i : Int)).toNat = i + 1 by omega]
            exact List.getElem?_eq_getElem (by omega)
        · exact ⟨s6, es, eE, by omega, hes⟩
      obtain ⟨s6, es, eE, el, hes⟩ := pv
      have nEp : En ≠ p := b5.ne nE
      refine ⟨.ref En, rfl, Nat.zero_le _, fun e ne => ?_⟩
      have s7 := same_upd (o := .lst []) ne
      have dN : Dt SA (upd H6 e (.lst [])) (.ref En) (dI es) := (dt_ints eE (by omega)).same s7
      have dE : Dt SA (upd H6 e (.lst [])) (.ref e) (.list []) := .lst trivial upd_same (Nat.zero_le _) .nil
      refine ⟨_, _, dN.dp, dE.dp, shaped_ints es, rfl, _, rfl, ?_⟩
      have k7 : Keep p H (upd H6 e (.lst [])) := k5.trans (Keep.of (s6.trans s7))
      have b7 := b5.keep (s6.trans s7)
      have eF7 := s7 _ _ (s6 _ _ eF5)
      have eE7 := s7 _ _ eE
      clear dN dE
      generalize upd H6 e (.lst []) = H7 at s7 k7 b7 eF7 eE7
      have own : ∀ {H' : Hp}, Keep p H H' → Bag H' p → Q (.ref wy) H' := fun k' b' => q _ wy ws ts k' b' (TKF.keep k' b _ _ ewy) hw hSt
      rcases es with _ | ⟨e0, er0⟩
      · exact iteT (iteT ⟨.ref wy, rfl, own k7 b7⟩)
      · refine iteF ?_
        refine ⟨.ref p, rfl, p, 4, rfl, b7, by decide, by decide, fun H8 d8 k8 b8 d80 d81 => ⟨rfl, _, rfl, ite2 (fun c => ?_) (fun c => ?_)⟩⟩
        · exact ⟨.ref wy, rfl, own (k7.trans k8) b8⟩
        · have eF8 := k8 _ _ nFp eF7
          have eE8 := k8 _ _ nEp eE7
          refine ⟨.ref F, rfl, .ref En, rfl, 1, rfl, .ref p, rfl, .ref En, rfl, En, _, rfl, .inl (SqL.of eE8), _, _, rfl, p, _, rfl, b8, ?_, ?_, fun H9 d k9 b9 d0 d1 => ?_⟩
          · rw [List.length_map, List.length_cons]
            split <;> omega
          · rw [List.length_map, List.length_cons]
            split <;> omega
          · have d2 : d < ((e0 :: er0).length : Int) := by
              rw [List.length_map] at d1
              split at d1 <;> omega
            have eF9 := k9 _ _ nFp eF8
            have eE9 := k9 _ _ nEp eE8
            obtain ⟨ee, rfl⟩ : ∃ ee : Nat, d = (ee : Int) := ⟨d.toNat, by omega⟩
            have hj : (e0 :: er0).length - 1 - ee < (e0 :: er0).length := by omega
            have hat : atI ((e0 :: er0).map V.int) (-1 - (ee : Int)) = some (.int ((e0 :: er0)[(e0 :: er0).length - 1 - ee])) := by
              unfold atI ixN
              rw [List.length_map, if_neg (by omega), if_pos (by omega), show (-1 - (ee : Int) + ((e0 :: er0).length : Int)).toNat = (e0 :: er0).length - 1 - ee by omega]
              show ((e0 :: er0).map V.int)[(e0 :: er0).length - 1 - ee]? = _
              rw [List.getElem?_map, List.getElem?_eq_getElem hj]
              rfl
            have hein := hes _ (List.getElem_mem hj)
            generalize (e0 :: er0)[(e0 :: er0).length - 1 - ee] = en at hat hein
            obtain ⟨m, rfl⟩ : ∃ m : Nat, en = (m : Int) := ⟨en.toNat, by omega⟩
            refine ⟨-1, (ee : Int), rfl, rfl, En, _, -1 - (ee : Int), .int (m : Int), rfl, rfl, SqL.of eE9, hat, _, 1, rfl, rfl, _, rfl, F, _, rfl, SqL.of eF9, fun p2 np2 => ?_⟩
            rw [show ((m : Int) + 1) = ((m + 1 : Nat) : Int) by omega, cut_to]
            refine ⟨p2, _, rfl, .inl ⟨SqL.of upd_same, fun u nu => ?_⟩⟩
            have s10 := (same_upd (o := .lst ((gs.map nS).take (m + 1))) np2).trans (same_upd (o := .tup ((gs.map nS).take (m + 1))) nu)
            refine q _ u (gs.take (m + 1)) (tf.take m) ((k7.trans (k8.trans k9)).trans (Keep.of s10)) (b9.keep s10) (by rw [upd_same, List.map_take]) ⟨hal.take (by omega), fun z hz => hnm z (List.mem_of_mem_take hz), by rw [List.length_take]; omega, by rw [List.length_take]; omega, hw.t40, hw.ti⟩ ⟨⟨_, by rw [List.getElem?_take_of_lt (by omega)]; exact hf0, List.mem_map_of_mem (List.getElem_mem hdd)⟩, ?_⟩
            obtain ⟨y, hy1, hy2⟩ := hein.2.2
            rw [Int.toNat_natCast] at hy1
            refine ⟨y, ?_, hy2⟩
            rw [List.length_take, show min (m + 1) gs.length - 1 = m by omega, List.getElem?_take_of_lt (by omega)]
            exact hy1
end
/-! the law of legs, crossings, chains -/
theorem sq_same {K : PySem.W.Frag} {H H' : Hp} {a : Addr} {xs : List V} (s : Same H H') (h : SqL K H a xs) : SqL K H' a xs := by
  rcases h with (h | ⟨o, h⟩) | h
  · exact .inl (.inl (s _ _ h))
  · exact .inl (.inr ⟨o, s _ _ h⟩)
  · exact .inr h
theorem isTie_comm (x y : Nm) : isTie x y = isTie y x := by
  funext t
  unfold isTie
  by_cases h : (t.a = x ∧ t.b = y) ∨ (t.a = y ∧ t.b = x)
  · rw [decide_eq_true h, decide_eq_true h.symm]
  · rw [decide_eq_false h, decide_eq_false fun z => h z.symm]
theorem WayOk.rev {tis : List Ti} {ws : List Nm} {ts : List Ti} (h : WayOk tis ws ts) : WayOk tis ws.reverse ts.reverse := by
  have l := h.al.len
  refine ⟨⟨by rw [List.length_reverse, List.length_reverse]; exact l, fun i t hi => ?_⟩, fun z hz => h.nm z (List.mem_reverse.mp hz), by rw [List.length_reverse]; exact h.l28, by rw [List.length_reverse]; exact h.l2, h.t40, h.ti⟩
  have hi2 := (List.getElem?_eq_some_iff.mp hi).1
  rw [List.length_reverse] at hi2
  rw [List.getElem?_reverse hi2] at hi
  obtain ⟨x, y, h1, h2, h3⟩ := h.al.tie _ t hi
  refine ⟨y, x, ?_, ?_, by rw [isTie_comm]; exact h3⟩
  · rw [List.getElem?_reverse (by omega), show ws.length - 1 - i = ts.length - 1 - i + 1 by omega]
    exact h2
  · rw [List.getElem?_reverse (by omega), show ws.length - 1 - (i + 1) = ts.length - 1 - i by omega]
    exact h1
theorem net_ti {ls zs : List Nm} {qs : List (List Nat)} {J : Nat} {tis : List Ti} (h : NetOk ls zs qs J tis) : ∀ t ∈ tis, IsNm t.a ∧ IsNm t.b ∧ IsNm t.ln ∧ t.a ≠ t.b ∧ t.ch ≤ 9999 := fun t ht => by
  obtain ⟨i, j, x, a, b, hij, e1, e2, _, _, _, _, e3, _, c2⟩ := h.ok t ht
  exact ⟨h.znm _ (List.mem_of_getElem? e1), h.znm _ (List.mem_of_getElem? e2), h.lnm _ (List.mem_of_getElem? e3), fun z => hij (nodup_inj h.znd e1 (by rw [z]; exact e2)), c2⟩
theorem Al.build {tis : List Ti} : ∀ (n : Nat) (ws : List Nm), ws.length = n + 1 → (∀ i x y, ws[i]? = some x → ws[i + 1]? = some y → ∃ t ∈ tis, isTie x y t = true) → ∃ ts, Al tis ws ts
  | 0, ws, l, _ => by
    match ws, l with
    | [x], _ => exact ⟨[], Al.one _ _⟩
  | n + 1, ws, l, h => by
    rcases snoc_or ws with rfl | ⟨as, y, rfl⟩
    · simp at l
    · rcases snoc_or as with rfl | ⟨bs, x, rfl⟩
      · simp at l
      · obtain ⟨ts, hts⟩ := Al.build n (bs ++ [x]) (by simpa using l) fun i a b h1 h2 => h i a b (by rw [List.getElem?_append_left (List.getElem?_eq_some_iff.mp h1).1]; exact h1) (by rw [List.getElem?_append_left (List.getElem?_eq_some_iff.mp h2).1]; exact h2)
        obtain ⟨t, ht, hy⟩ := h bs.length x y (by rw [List.append_assoc, List.getElem?_append_right (Nat.le_refl _), Nat.sub_self]; rfl) (by rw [List.append_assoc, List.getElem?_append_right (by omega), Nat.add_sub_cancel_left]; rfl)
        exact hts.snoc ht hy
theorem net_way {ls zs : List Nm} {qs : List (List Nat)} {J : Nat} {tis rws : List Ti} (h : NetOk ls zs qs J tis) (p : rws.Perm tis) : ∃ ts, WayOk rws (zs.take (J + 2)) ts := by
  have hl := h.q.len
  have lz := h.lz
  have l : (zs.take (J + 2)).length = J + 2 := by rw [List.length_take]; omega
  obtain ⟨ts, hts⟩ := Al.build (tis := rws) (J + 1) (zs.take (J + 2)) l fun i x y h1 h2 => by
    have i2 := (List.getElem?_eq_some_iff.mp h2).1
    rw [l] at i2
    rw [List.getElem?_take_of_lt (by omega)] at h1 h2
    obtain ⟨t, ht, e1, e2⟩ := h.way i (by omega)
    exact ⟨t, p.mem_iff.mpr ht, decide_eq_true (.inl ⟨(Option.some.inj (h1.symm.trans e1)).symm, (Option.some.inj (h2.symm.trans e2)).symm⟩)⟩
  have := h.q.most
  exact ⟨ts, hts, fun z hz => h.znm z (List.mem_of_mem_take hz), by omega, by omega, by rw [p.length_eq]; exact h.t40, fun t ht => net_ti h t (p.mem_iff.mp ht)⟩
theorem net_st {ls zs : List Nm} {qs : List (List Nat)} {J : Nat} {tis : List Ti} {sts : List (Nm × Nm)} (h : NetOk ls zs qs J tis) (p : sts.Perm ((zs.zip qs).filterMap (stOf ls))) : 1 ≤ sts.length ∧ sts.length ≤ 100 ∧ ∀ s ∈ sts, IsNm s.1 := by
  have hl := h.q.len
  have lz := h.lz
  refine ⟨?_, ?_, fun s hs => ?_⟩
  · obtain ⟨f, l, ss, tw, e, _⟩ := h.q.form
    have e0 : qs[0]? = some [f] := by rw [e]; rfl
    have z0 : zs[0]? = some (zs[0]'(by omega)) := List.getElem?_eq_getElem _
    have m : (zs[0]'(by omega), [f]) ∈ zs.zip qs := List.mem_of_getElem? (i := 0) (List.getElem?_zip_eq_some.mpr ⟨z0, e0⟩)
    have : (zs[0]'(by omega), ls.getD ([f].getD 0 0) []) ∈ sts := p.mem_iff.mpr (List.mem_filterMap.mpr ⟨_, m, rfl⟩)
    exact List.length_pos_of_mem this
  · rw [p.length_eq]
    refine Nat.le_trans (List.length_filterMap_le _ _) ?_
    rw [List.length_zip]
    omega
  · obtain ⟨x, hx, ex⟩ := List.mem_filterMap.mp (p.mem_iff.mp hs)
    unfold stOf at ex
    split at ex
    · have := Option.some.inj ex
      subst this
      exact h.znm _ (List.of_mem_zip hx).1
    · cases ex
theorem lg_ne {H : Hp} {D p : Addr} {gs : List (Nm × Nat)} (h : LgA H D gs) (b : Bag H p) : D ≠ p := fun e => by
  obtain ⟨fa, e1, _⟩ := h
  obtain ⟨g, r, e2, _⟩ := b
  rw [e, e2] at e1
  have e1 : [V.int g, V.int r] = fa.map V.ref := by injection e1 with e1; injection e1
  cases fa with
  | nil => cases e1
  | cons f fs => cases e1
theorem LgA.keep {H H' : Hp} {D p : Addr} {gs : List (Nm × Nat)} (h : LgA H D gs) (k : Keep p H H') (b : Bag H p) : LgA H' D gs := by
  have n := lg_ne h b
  obtain ⟨fa, e, pp⟩ := h
  exact ⟨fa, k _ _ n e, paired_imp pp fun a _ g q => TKF.keep k b _ _ q⟩
theorem LgA.off {H H' : Hp} {D : Addr} {gs : List (Nm × Nat)} (h : LgA H D gs) (e : ∀ o, H D = some o → H' D = some o) (t : TKF H H') : LgA H' D gs := by
  obtain ⟨fa, e1, pp⟩ := h
  exact ⟨fa, e _ e1, paired_imp pp fun a _ g q => t _ _ q⟩
/-- one kept pair -/
def Kp1 (H : Hp) (Kp u : Addr) : Prop := ∃ (D E : Addr) (gs : List (Nm × Nat)), H u = some (.tup [.ref D, .ref E]) ∧ LgA H D gs ∧ LgA H E gs ∧ D ≠ Kp ∧ E ≠ Kp ∧ gs.length ≤ 28 ∧ ∀ g ∈ gs, IsNm g.1
def KpA (H : Hp) (Kp : Addr) (us : List Addr) : Prop := H Kp = some (.lst (us.map V.ref)) ∧ ∀ u ∈ us, Kp1 H Kp u
theorem KpA.same {H H' : Hp} {Kp : Addr} {us : List Addr} (h : KpA H Kp us) (s : Same H H') : KpA H' Kp us :=
  ⟨s _ _ h.1, fun u hu => let ⟨D, E, gs, e, a, b, r⟩ := h.2 u hu; ⟨D, E, gs, s _ _ e, a.same s, b.same s, r⟩⟩
theorem KpA.ne {H : Hp} {Kp p : Addr} {us : List Addr} (h : KpA H Kp us) (b : Bag H p) : Kp ≠ p := fun e => by
  have e1 := h.1
  obtain ⟨g, r, e2, _⟩ := b
  rw [e, e2] at e1
  have e1 : [V.int g, V.int r] = us.map V.ref := by injection e1 with e1; injection e1
  cases us with
  | nil => cases e1
  | cons f fs => cases e1
theorem KpA.keep {H H' : Hp} {Kp p : Addr} {us : List Addr} (h : KpA H Kp us) (k : Keep p H H') (b : Bag H p) : KpA H' Kp us :=
  ⟨k _ _ (h.ne b) h.1, fun u hu => let ⟨D, E, gs, e, a, c, r⟩ := h.2 u hu; ⟨D, E, gs, TKF.keep k b _ _ e, a.keep k b, c.keep k b, r⟩⟩
theorem legs28 {tis : List Ti} {ws : List Nm} {ts : List Ti} (hw : WayOk tis ws ts) : (legsM (ts.map tiP)).length ≤ 28 := by
  have := legsM_len _ (ts.map tiP) rfl
  rw [List.length_map] at this
  have := hw.l28
  have := hw.al.len
  omega
def Wd (H : Hp) (rws : List Ti) (a : Addr) (x : List Nm × List Ti) : Prop := H a = some (.tup (x.1.map nS)) ∧ WayOk rws x.1 x.2
/-! stations at the ends of ways -/
theorem net_stl {ls zs : List Nm} {qs : List (List Nat)} {J : Nat} {tis rws : List Ti} {sts : List (Nm × Nm)} (h : NetOk ls zs qs J tis) (pS : sts.Perm ((zs.zip qs).filterMap (stOf ls))) (pR : rws.Perm tis) : ∀ t ∈ rws, ∀ z l, (z = t.a ∨ z = t.b) → (z, l) ∈ sts → l = t.ln := fun t ht z l hz hs => by
  obtain ⟨i, j, x, a, b, hij, e1, e2, e3, e4, e5, e6, e7, _⟩ := h.ok t (pR.mem_iff.mp ht)
  obtain ⟨y, hy, ey⟩ := List.mem_filterMap.mp (pS.mem_iff.mp hs)
  unfold stOf at ey
  split at ey
  · rename_i c
    have := Option.some.inj ey
    injection this with f1 f2
    obtain ⟨i', hi'⟩ := List.getElem?_of_mem hy
    obtain ⟨g1, g2⟩ := List.getElem?_zip_eq_some.mp hi'
    rw [f1] at g1
    have one : ∀ (n : Nat) (q : List Nat), zs[n]? = some z → qs[n]? = some q → x ∈ q → l = t.ln := fun n q h1 h2 h3 => by
      have := nodup_inj h.znd g1 h1
      subst this
      have := Option.some.inj (g2.symm.trans h2)
      subst this
      obtain ⟨k, hk⟩ := List.length_eq_one_iff.mp c
      rw [hk] at h3
      have := List.mem_singleton.mp h3
      subst this
      rw [← f2, hk]
      show ls.getD x [] = _
      rw [List.getD_eq_getElem?_getD, e7]
      rfl
    rcases hz with rfl | rfl
    · exact one i a e1 e3 e5
    · exact one j b e2 e4 e6
  · cases ey
theorem st_sub (ls : List Nm) : ∀ (zs : List Nm) (qs : List (List Nat)), (((zs.zip qs).filterMap (stOf ls)).map (·.1)).Sublist zs
  | [], _ => by simp
  | z :: zs, [] => by simp
  | z :: zs, q :: qs => by
    rw [List.zip_cons_cons, List.filterMap_cons]
    have ih := st_sub ls zs qs
    by_cases c : q.length = 1
    · have : stOf ls (z, q) = some (z, ls.getD (q.getD 0 0) []) := by unfold stOf; rw [if_pos c]
      rw [this]
      exact List.Sublist.cons_cons _ ih
    · have : stOf ls (z, q) = none := by unfold stOf; rw [if_neg c]
      rw [this]
      exact List.Sublist.cons _ ih
theorem net_snd {ls zs : List Nm} {qs : List (List Nat)} {J : Nat} {tis : List Ti} {sts : List (Nm × Nm)} (h : NetOk ls zs qs J tis) (pS : sts.Perm ((zs.zip qs).filterMap (stOf ls))) : (sts.map (·.1)).Nodup :=
  ((pS.map (·.1)).nodup_iff).mpr ((st_sub ls zs qs).nodup h.znd)
theorem net_ste {ls zs : List Nm} {qs : List (List Nat)} {J : Nat} {tis : List Ti} {sts : List (Nm × Nm)} (h : NetOk ls zs qs J tis) (pS : sts.Perm ((zs.zip qs).filterMap (stOf ls))) : StE sts (zs.take (J + 2)) := by
  have hl := h.q.len
  have lz := h.lz
  have mem : ∀ (i f : Nat), qs[i]? = some [f] → ∃ x, zs[i]? = some x ∧ x ∈ sts.map (·.1) := fun i f hi => by
    have il := (List.getElem?_eq_some_iff.mp hi).1
    have zi : zs[i]? = some (zs[i]'(by omega)) := List.getElem?_eq_getElem _
    have m : (zs[i]'(by omega), [f]) ∈ zs.zip qs := List.mem_of_getElem? (i := i) (List.getElem?_zip_eq_some.mpr ⟨zi, hi⟩)
    exact ⟨_, zi, List.mem_map.mpr ⟨_, pS.mem_iff.mpr (List.mem_filterMap.mpr ⟨_, m, rfl⟩), rfl⟩⟩
  have tl : (zs.take (J + 2)).length = J + 2 := by rw [List.length_take]; omega
  obtain ⟨f, l, ss, tw, e, e1, _⟩ := h.q.form
  have q0 : qs[0]? = some [f] := by rw [e]; rfl
  have q1 : qs[J + 1]? = some [l] := by
    rw [e, List.getElem?_append_left (by simp; omega), List.getElem?_append_right (by simp; omega)]
    simp [e1]
  refine ⟨?_, ?_⟩
  · obtain ⟨x, h1, h2⟩ := mem 0 f q0
    exact ⟨x, by rw [List.getElem?_take_of_lt (by omega)]; exact h1, h2⟩
  · obtain ⟨x, h1, h2⟩ := mem (J + 1) l q1
    exact ⟨x, by rw [tl, List.getElem?_take_of_lt (by omega)]; exact h1, h2⟩
theorem StE.rev {sts : List (Nm × Nm)} {ws : List Nm} (h : StE sts ws) (l : 1 ≤ ws.length) : StE sts ws.reverse := by
  obtain ⟨⟨x, a, b⟩, y, c, d⟩ := h
  refine ⟨⟨y, ?_, d⟩, x, ?_, b⟩
  · rw [List.getElem?_reverse (by omega), Nat.sub_zero]
    exact c
  · rw [List.length_reverse, List.getElem?_reverse (by omega), Nat.sub_self]
    exact a
end Th
namespace Th
open PySem PySem.Spec PyProof.Rows L2
/-! the program's roads of lines -/
def Adj (jns : List (Nm × List Nm)) (x y : Nm) : Prop := ∃ j ∈ jns, x ∈ j.2 ∧ y ∈ j.2
theorem Adj.symm {jns : List (Nm × List Nm)} {x y : Nm} (h : Adj jns x y) : Adj jns y x := let ⟨j, hj, a, b⟩ := h; ⟨j, hj, b, a⟩
theorem adj_snoc {jns : List (Nm × List Nm)} {j : Nm × List Nm} {x y : Nm} : Adj (jns ++ [j]) x y ↔ Adj jns x y ∨ (x ∈ j.2 ∧ y ∈ j.2) := by
  constructor
  · rintro ⟨i, hi, h⟩
    rcases List.mem_append.mp hi with z | z
    · exact .inl ⟨i, z, h⟩
    · rw [List.mem_singleton.mp z] at h
      exact .inr h
  · rintro (⟨i, hi, h⟩ | h)
    · exact ⟨i, List.mem_append_left _ hi, h⟩
    · exact ⟨j, List.mem_append_right _ (List.mem_singleton.mpr rfl), h⟩
theorem sqs {K : PySem.W.Frag} {H H' : Hp} {a : Addr} {xs : List V} (s : Same H H') (h : SqT K H a xs) : SqT K H' a xs := by
  rcases h with (h | ⟨o, h⟩) | h
  · exact .inl (.inl (s _ _ h))
  · exact .inl (.inr ⟨o, s _ _ h⟩)
  · exact .inr h
/-- tuples stay -/
def TQ (K : PySem.W.Frag) (H H' : Hp) : Prop := ∀ a xs, SqT K H a xs → SqT K H' a xs
theorem TQ.of {K : PySem.W.Frag} {H H' : Hp} (s : Same H H') : TQ K H H' := fun _ _ h => sqs s h
theorem TQ.trans {K : PySem.W.Frag} {H H1 H2 : Hp} (a : TQ K H H1) (b : TQ K H1 H2) : TQ K H H2 := fun c xs h => b c xs (a c xs h)
theorem TQ.keep {K : PySem.W.Frag} {p : Addr} {H H' : Hp} (k : Keep p H H') (b : Bag H p) : TQ K H H' := fun a xs h => by
  obtain ⟨g, r, e', _⟩ := b
  rcases h with (h | ⟨o, h⟩) | h
  · exact .inl (.inl (k _ _ (fun z => by rw [z, e'] at h; cases h) h))
  · exact .inl (.inr ⟨o, k _ _ (fun z => by rw [z, e'] at h; cases h) h⟩)
  · exact .inr h
theorem TQ.upd {K : PySem.W.Frag} {c : Addr} {H : Hp} {o : HO} {xs : List V} (h : H c = some (.lst xs)) : TQ K H (L2.upd H c o) := fun a ys e => by
  rcases e with (e | ⟨ob, e⟩) | e
  · exact .inl (.inl (by rw [upd_ne (fun z => by rw [z, h] at e; cases e)]; exact e))
  · exact .inl (.inr ⟨ob, by rw [upd_ne (fun z => by rw [z, h] at e; cases e)]; exact e⟩)
  · exact .inr e
def JnQ (K : PySem.W.Frag) (H : Hp) (a : Addr) (jn : Nm × List Nm) : Prop := ∃ b, SqT K H a [nS jn.1, .ref b] ∧ SqT K H b (jn.2.map nS)
/-- the net as far as lines and junctions go -/
def LJ (K : PySem.W.Frag) (H : Hp) (r : Addr) (ls : List Nm) (jns : List (Nm × List Nm)) : Prop := ∃ (a c : Addr) (b d : V) (ja : List Addr), SqT K H r [.ref a, b, .ref c, d] ∧ SqT K H a (ls.map nS) ∧ SqT K H c (ja.map V.ref) ∧ Paired (JnQ K H) ja jns
theorem LJ.tk {K : PySem.W.Frag} {H H' : Hp} {r : Addr} {ls : List Nm} {jns : List (Nm × List Nm)} (h : LJ K H r ls jns) (k : TQ K H H') : LJ K H' r ls jns := by
  obtain ⟨a, c, b, d, ja, h1, h2, h3, h4⟩ := h
  exact ⟨a, c, b, d, ja, k _ _ h1, k _ _ h2, k _ _ h3, paired_imp h4 fun x _ j ⟨t, e1, e2⟩ => ⟨t, k _ _ e1, k _ _ e2⟩⟩
structure LJok (ls : List Nm) (jns : List (Nm × List Nm)) : Prop where
  l8 : ls.length ≤ 8
  lnd : ls.Nodup
  sub : ∀ j ∈ jns, ∀ y ∈ j.2, y ∈ ls
  j9 : ∀ j ∈ jns, j.2.length ≤ 8
  jnd : ∀ j ∈ jns, j.2.Nodup
theorem LJok.adj {ls : List Nm} {jns : List (Nm × List Nm)} (h : LJok ls jns) {x y : Nm} (a : Adj jns x y) : y ∈ ls := let ⟨j, hj, _, b⟩ := a; h.sub j hj y b
theorem nd_len {α : Type} [DecidableEq α] : ∀ {l d : List α}, l.Nodup → (∀ x ∈ l, x ∈ d) → l.length ≤ d.length
  | [], _, _, _ => Nat.zero_le _
  | x :: l, d, h, s => by
    obtain ⟨h1, h2⟩ := List.nodup_cons.mp h
    have z := nd_len (l := l) (d := d.erase x) h2 fun y hy => (List.mem_erase_of_ne (fun e => h1 (by rw [← e]; exact hy))).mpr (s y (List.mem_cons_of_mem _ hy))
    have m := s x List.mem_cons_self
    rw [List.length_erase_of_mem m] at z
    have := List.length_pos_of_mem m
    rw [List.length_cons]
    omega
def addN (L : List Nm) (k : Nm) : List Nm := if k ∈ L then L else k :: L
theorem mem_addN {L : List Nm} {k x : Nm} : x ∈ addN L k ↔ x = k ∨ x ∈ L := by
  unfold addN
  split
  · exact ⟨.inr, fun z => z.elim (fun e => by rw [e]; assumption) id⟩
  · exact List.mem_cons
theorem nd_addN {L : List Nm} {k : Nm} (h : L.Nodup) : (addN L k).Nodup := by
  unfold addN
  split
  · exact h
  · exact List.nodup_cons.mpr ⟨by assumption, h⟩
theorem memS {L : List Nm} {k : Nm} : SX.S k ∈ L.map SX.S ↔ k ∈ L := ⟨fun z => let ⟨y, hy, e⟩ := List.mem_map.mp z; (SX.S_inj e) ▸ hy, fun z => List.mem_map_of_mem z⟩
theorem addL_S (L : List Nm) (k : Nm) : Ss.addL (L.map SX.S) (SX.S k) = (addN L k).map SX.S := by
  unfold Ss.addL addN
  by_cases c : k ∈ L
  · rw [if_pos (memS.mpr c), if_pos c]
  · rw [if_neg (fun z => c (memS.mp z)), if_neg c, List.map_cons]
theorem perm_S {ys : List Str} {L : List Nm} (h : ys.Perm (L.map SX.S)) : ∃ zs : List Nm, ys = zs.map SX.S ∧ zs.Perm L := by
  refine ⟨ys.map fun y => y.cps.toList, ?_, ?_⟩
  · rw [List.map_map]
    exact (List.map_id'' (fun y => rfl) ys).symm
  · have z := h.map fun y => y.cps.toList
    rw [List.map_map] at z
    rwa [show (L.map ((fun y : Str => y.cps.toList) ∘ SX.S)) = L from List.map_id'' (fun y => rfl) L] at z
theorem map_nS (zs : List Nm) : (zs.map SX.S).map V.str = zs.map nS := by rw [List.map_map]; rfl
theorem at_ref {ts : List Addr} {i : Nat} {x : V} (h : (ts.map V.ref)[i]? = some x) : ∃ u, ts[i]? = some u ∧ x = .ref u := by
  rw [List.getElem?_map] at h
  cases c : ts[i]? with
  | none => rw [c] at h; cases h
  | some t => rw [c] at h; exact ⟨t, rfl, (Option.some.inj h).symm⟩
theorem at_nm {zs : List Nm} {i : Nat} {x : V} (h : (zs.map nS)[i]? = some x) : ∃ z, zs[i]? = some z ∧ x = nS z := by
  rw [List.getElem?_map] at h
  cases c : zs[i]? with
  | none => rw [c] at h; cases h
  | some t => rw [c] at h; exact ⟨t, rfl, (Option.some.inj h).symm⟩
section
variable {P : Program} {w : World} {K : PySem.W.Frag} {mg : Str → Option Value} {base : Heap} {k : Nat}
def sp_lines_joined (K : PySem.W.Frag) : Sp := fun vs H Q _ => ∃ (r : Addr) (x : Nm) (ls : List Nm) (jns : List (Nm × List Nm)), vs = [.ref r, nS x] ∧ LJ K H r ls jns ∧ LJok ls jns ∧
  ∀ H' p (ys : List Nm), Same H H' → H p = none → H' p = some (.lst (ys.map nS)) → ys.Nodup → (∀ y, y ∈ ys ↔ Adj jns x y) → Q (.ref p) H'
set_option maxHeartbeats 8000000 in
theorem ok_lines_joined (T : Defs K mg) : FnOk P w K mg base CX0 (k + 1) T.a_lines_joined T.d_lines_joined ["net", "line"] (sp_lines_joined K) := by
  refine T.F_lines_joined.ok sc_lines_joined (fun vs H Q E h => ?_) (fun cdv A outer s H vs Q E hr h => ?_)
  · obtain ⟨r, x, ls, jns, rfl, _⟩ := h
    rfl
  · obtain ⟨r, x, ls, jns, rfl, hnet, hok, q⟩ := h
    refine ⟨_, PSs.nox
(pss_one (ps_ret (pe_callB (Ss.cr_sortS rfl) (by rfl) T.z_sorted (by decide +kernel) (pa_cons (Ss.pe_sc2 (own := [("name", 2), ("joined", 3), ("beside", 4)]) (vs1 := [4]) (g := gTup K 2 (gCons (gName 2) (gCons (gName 3) gNil))) (g1 := gName 4) (wi1 := iTup K _) rfl sc_lines_joined.nd (pi_tup (pe_ix (r := rIxT K) ix_tup (pv 0) (pe_int) (fun _ _ => rfl))) (blkOk_by (N := N_lines_joined) (sc := defScope s_lines_joined) (by decide +kernel)) (by decide) (fun _ _ _ _ _ => (pg_tup rfl (pgs_cons (pg_name (i := 2) sc_lines_joined.nd rfl (.inl rfl)) (pgs_cons (pg_name (i := 3) sc_lines_joined.nd rfl (.inl rfl)) pgs_nil)))) (fun _ _ _ _ _ => pts_one (pt_cmpR (r := rIn K false) op_in_seq (pv 1) (pv 3) (by rfl))) (fun _ _ _ _ _ => (pi_tup (pv 3))) (fun _ _ _ _ _ => (pg_name (i := 4) sc_lines_joined.nd rfl (.inl rfl))) (fun _ _ _ _ _ => pts_nil) (fun _ _ _ _ _ => (pv 4))) pa_nil))))
      , ?_⟩
    obtain ⟨a, c, b, d, ja, er, ea, ec, hJ⟩ := id hnet
    have jl := paired_len hJ
    refine ⟨.ref r, rfl, r, [.ref a, b, .ref c, d], 2, .ref c, rfl, rfl, er, atI_nat (j := 2) rfl, c, rfl, ⟨_, ec⟩, fun D nD => ?_⟩
    have sub : ∀ {i : Nat} {L : List Nm}, (∀ y, y ∈ L → Adj (jns.take i) x y ∨ y ∈ ls) → ∀ y ∈ L, y ∈ ls := fun h y hy => (h y hy).elim (fun ⟨j, hj, _, hb⟩ => hok.sub j (List.mem_of_mem_take hj) y hb) id
    refine Ss.sc2_it (walk_tup (xs := ja.map V.ref)) (fun i H3 => Same H H3 ∧ ∃ L : List Nm, H3 D = some (Ss.SetSO w D (L.map SX.S)) ∧ L.Nodup ∧ ∀ y, y ∈ L ↔ Adj (jns.take i) x y) ⟨same_upd nD, [], upd_same, .nil, fun y => ⟨fun z => (by cases z), fun ⟨j, hj, _⟩ => (by cases hj)⟩⟩ (fun i H3 _ pv => (sqs pv.1 ec)) (fun i v H3₀ H3 hi pv yy => ?_) (fun H3 pv => ?_)
    · obtain ⟨rfl, ex⟩ := yy
      obtain ⟨s3, L, eD, hnd, hm⟩ := pv
      obtain ⟨u, eu, rfl⟩ := at_ref ex
      obtain ⟨jn, ejn, jt, hu, hjt⟩ := paired_get hJ eu
      have jin : jn ∈ jns := List.mem_of_getElem? ejn
      have tk1 : jns.take (i + 1) = jns.take i ++ [jn] := by rw [List.take_add_one, ejn]; rfl
      refine ⟨u, _, rfl, (sqs s3 hu), rfl, _, _, rfl, _, [], rfl, rfl, rfl, ?_⟩
      refine ⟨nS x, rfl, .ref jt, rfl, jt, _, rfl, .inr ((sqs s3 hjt)), rfl, flat_nms _, _, rfl, ite2 (fun c => ?_) (fun c => ?_)⟩
      · have c : x ∈ jn.2 := by
          rw [in_nms] at c
          exact of_decide_eq_true c
        refine ⟨.ref jt, rfl, jt, rfl, ⟨_, (sqs s3 hjt)⟩, ?_⟩
        refine Ss.in2_it (walk_tup (xs := jn.2.map nS)) (fun j H4 => Same H H4 ∧ ∃ L : List Nm, H4 D = some (Ss.SetSO w D (L.map SX.S)) ∧ L.Nodup ∧ ∀ y, y ∈ L ↔ Adj (jns.take i) x y ∨ y ∈ jn.2.take j) ⟨s3, L, eD, hnd, fun y => by rw [hm y]; exact ⟨.inl, fun z => z.elim id fun z => (by cases z)⟩⟩ (fun j H4 _ pv => (sqs pv.1 hjt)) (fun j v H4₀ H4 hj pv yy => ?_) (fun H4 pv => ?_)
        · obtain ⟨rfl, ey⟩ := yy
          obtain ⟨s4, L, eD, hnd, hm⟩ := pv
          obtain ⟨z, ez, rfl⟩ := at_nm ey
          have tk2 : jn.2.take (j + 1) = jn.2.take j ++ [z] := by rw [List.take_add_one, ez]; rfl
          refine ⟨rfl, yes_ ?_⟩
          have l8 : L.length ≤ ls.length := nd_len hnd (sub (i := i) fun y hy => ((hm y).mp hy).imp id fun z => hok.sub jn jin y (List.mem_of_mem_take z))
          refine ⟨nS z, rfl, SX.S z, L.map SX.S, rfl, eD, by rw [List.length_map]; exact Nat.lt_of_le_of_lt (Nat.succ_le_succ (Nat.le_trans l8 hok.l8)) (by decide), same_set s4 nD, addN L z, by rw [upd_same, addL_S]; rfl, nd_addN hnd, fun y => ?_⟩
          rw [mem_addN, hm y, tk2, List.mem_append, List.mem_singleton]
          constructor
          · rintro (h | h | h)
            · exact .inr (.inr h)
            · exact .inl h
            · exact .inr (.inl h)
          · rintro (h | h | h)
            · exact .inr (.inl h)
            · exact .inr (.inr h)
            · exact .inl h
        · obtain ⟨s4, L, eD, hnd, hm⟩ := pv
          refine ⟨s4, L, eD, hnd, fun y => ?_⟩
          rw [hm y, tk1, adj_snoc, List.length_map, List.take_length]
          exact ⟨fun z => z.imp id fun z => ⟨c, z⟩, fun z => z.imp id fun z => z.2⟩
      · have c : ¬ x ∈ jn.2 := fun z => by
          rw [in_nms, decide_eq_true z] at c
          exact c rfl
        refine ⟨s3, L, eD, hnd, fun y => ?_⟩
        rw [hm y, tk1, adj_snoc]
        exact ⟨.inl, fun z => z.elim id fun z => absurd z.1 c⟩
    · obtain ⟨s3, L, eD, hnd, hm⟩ := pv
      rw [List.length_map, jl, List.take_length] at hm
      have l8 : L.length ≤ ls.length := nd_len hnd fun y hy => hok.adj ((hm y).mp hy)
      refine ⟨D, _, rfl, eD, by rw [List.length_map]; have := hok.l8; omega, fun ys p hp hs np => ?_⟩
      obtain ⟨zs, rfl, hz⟩ := perm_S hp
      refine q _ p zs (s3.trans (same_upd np)) ?_ (by rw [upd_same, map_nS]) (hz.nodup_iff.mpr hnd) (fun y => by rw [hz.mem_iff]; exact hm y)
      cases e : H p with
      | none => rfl
      | some o => rw [s3 _ _ e] at np; cases np
/-- of each line those beside it -/
def BsAt (H : Hp) (D : Addr) (ls : List Nm) (jns : List (Nm × List Nm)) : Prop := ∃ kvs : List (Key × V), H D = some (.dK kvs) ∧ ∀ x ∈ ls, ∃ (a : Addr) (ys : List Nm), valV kvs (Sum.inr (SX.S x)) = some (.ref a) ∧ H a = some (.lst (ys.map nS)) ∧ ys.Nodup ∧ ∀ y, y ∈ ys ↔ Adj jns x y
theorem BsAt.same {H H' : Hp} {D : Addr} {ls : List Nm} {jns : List (Nm × List Nm)} (h : BsAt H D ls jns) (s : Same H H') : BsAt H' D ls jns := let ⟨kvs, e, f⟩ := h; ⟨kvs, s _ _ e, fun x hx => let ⟨a, ys, h1, h2, h3⟩ := f x hx; ⟨a, ys, h1, s _ _ h2, h3⟩⟩
def sp_lines_beside (K : PySem.W.Frag) : Sp := fun vs H Q _ => ∃ (r : Addr) (ls : List Nm) (jns : List (Nm × List Nm)), vs = [.ref r] ∧ LJ K H r ls jns ∧ LJok ls jns ∧ ∀ H' D, Same H H' → H D = none → BsAt H' D ls jns → Q (.ref D) H'
set_option maxHeartbeats 8000000 in
theorem ok_lines_beside (T : Defs K mg) : FnOk P w K mg base CX0 (k + 2) T.a_lines_beside T.d_lines_beside ["net"] (sp_lines_beside K) := by
  have G_lines_joined : FnOk P w K mg base CX0 (k + 1) _ _ _ _ := ok_lines_joined T
  refine T.F_lines_beside.ok sc_lines_beside (fun vs H Q E h => ?_) (fun cdv A outer s H vs Q E hr h => ?_)
  · obtain ⟨r, ls, jns, rfl, _⟩ := h
    rfl
  · obtain ⟨r, ls, jns, rfl, hnet, hok, q⟩ := h
    refine ⟨_, PSs.nox
(pss_one (ps_ret (pe_dc (own := [("line", 1)]) (g := gName 1) rfl sc_lines_beside.nd (pi_tup (pe_ix (r := rIxT K) ix_tup (pv 0) (pe_int) (fun _ _ => rfl))) (blkOk_by (N := N_lines_beside) (sc := defScope s_lines_beside) (by decide +kernel)) (fun _ _ _ _ _ => (pg_name (i := 1) sc_lines_beside.nd rfl (.inl rfl))) (fun _ _ _ _ _ => pts_nil) (fun _ _ _ _ _ => (pv 1)) (fun _ _ _ _ _ => (pe_call G_lines_joined hr (by rfl) T.g_lines_joined T.F_lines_joined.kp T.b_lines_joined .nil pass0 (pa_cons (pv 0) (pa_cons (pv 1) pa_nil)))))))
      , ?_⟩
    obtain ⟨a, c, b, d, ja, er, ea, ec, hJ⟩ := id hnet
    refine ⟨.ref r, rfl, r, [.ref a, b, .ref c, d], 0, .ref a, rfl, rfl, er, atI_nat (j := 0) rfl, a, rfl, ⟨_, ea⟩, fun D nD => ?_⟩
    refine dc_tup (xs := ls.map nS) (fun i H3 => Same H H3 ∧ ∃ kvs : List (Key × V), H3 D = some (.dK kvs) ∧ kvs.length ≤ i ∧ ∀ x ∈ ls.take i, ∃ (a : Addr) (ys : List Nm), a ≠ D ∧ valV kvs (Sum.inr (SX.S x)) = some (.ref a) ∧ H3 a = some (.lst (ys.map nS)) ∧ ys.Nodup ∧ ∀ y, y ∈ ys ↔ Adj jns x y) ⟨same_upd nD, [], upd_same, Nat.le_refl _, fun x hx => (by cases hx)⟩ (fun i H3 _ pv => (sqs pv.1 ea)) (fun i v H3 ex pv => ?_) (fun H3 pv => ?_)
    · obtain ⟨s3, kvs, eD, hl, hv⟩ := pv
      obtain ⟨x, exx, rfl⟩ := at_nm ex
      have ilt : i < ls.length := (List.getElem?_eq_some_iff.mp exx).1
      have l8 := hok.l8
      refine ⟨rfl, yes_ ?_⟩
      refine ⟨nS x, rfl, .ref r, rfl, nS x, rfl, r, x, ls, jns, rfl, hnet.tk (.of s3), hok, fun H4 p ys s4 np ep hnd hm => ?_⟩
      have npD : p ≠ D := fun e => by rw [e, eD] at np; cases np
      refine ⟨kvs, Sum.inr (SX.S x), rfl, s4 _ _ eD, small5000 (by omega), same_set (s3.trans s4) nD, _, upd_same, ?_, fun y hy => ?_⟩
      · have := length_putK kvs (Sum.inr (SX.S x)) (V.ref p)
        omega
      · rw [valV_put]
        by_cases c : y = x
        · rw [if_pos (by rw [c])]
          subst c
          exact ⟨p, ys, npD, rfl, by rw [upd_ne npD]; exact ep, hnd, hm⟩
        · rw [if_neg (fun q => c (SX.S_inj (Sum.inr.inj q)))]
          rw [List.take_add_one, exx] at hy
          rcases List.mem_append.mp hy with z | z
          · obtain ⟨a', ys', h0, h1, h2, h3⟩ := hv y z
            exact ⟨a', ys', h0, h1, by rw [upd_ne h0]; exact s4 _ _ h2, h3⟩
          · exact absurd (List.mem_singleton.mp z) c
    · obtain ⟨s3, kvs, eD, hl, hv⟩ := pv
      rw [List.length_map, List.take_length] at hv
      exact q _ D s3 nD ⟨kvs, eD, fun x hx => let ⟨a, ys, _, h⟩ := hv x hx; ⟨a, ys, h⟩⟩
end
end Th
namespace Th
open PySem PySem.Spec PyProof.Rows L2
/-! steps to any of the far ones -/
open Rm (Ds Wk Gr Lst ds_succ ds_zero ds_none wk_ds)
abbrev AF (jns : List (Nm × List Nm)) (fars : List Nm) (n : Nat) (x : Nm) : Prop := Ds (Adj jns) (· ∈ fars) n x
/-- what the steps below m tell -/
def SV (jns : List (Nm × List Nm)) (fars : List Nm) (m : Nat) (kvs : List (Key × V)) : Prop := ∀ x : Nm, (∃ n, n < m ∧ AF jns fars n x ∧ valV kvs (Sum.inr (SX.S x)) = some (.int (n : Nat))) ∨ ((∀ n, n < m → ¬ AF jns fars n x) ∧ valV kvs (Sum.inr (SX.S x)) = none)
/-- what all steps tell -/
def SA' (jns : List (Nm × List Nm)) (fars : List Nm) (kvs : List (Key × V)) : Prop := ∀ x : Nm, (∃ n, AF jns fars n x ∧ valV kvs (Sum.inr (SX.S x)) = some (.int (n : Nat))) ∨ ((∀ n, ¬ AF jns fars n x) ∧ valV kvs (Sum.inr (SX.S x)) = none)
theorem af_in {ls : List Nm} {jns : List (Nm × List Nm)} {fars : List Nm} (hok : LJok ls jns) (hf : ∀ f ∈ fars, f ∈ ls) {n : Nat} {x : Nm} (h : AF jns fars n x) : x ∈ ls := by
  cases n with
  | zero => exact hf x h.1
  | succ n =>
    obtain ⟨y, h1, _⟩ := h.down
    exact hok.adj h1.symm
section
variable {P : Program} {w : World} {K : PySem.W.Frag} {mg : Str → Option Value} {base : Heap} {k : Nat}
def sp_steps_to : Sp := fun vs H Q _ => ∃ (D fr : Addr) (ls : List Nm) (jns : List (Nm × List Nm)) (fars : List Nm), vs = [.ref D, .ref fr] ∧ BsAt H D ls jns ∧ LJok ls jns ∧ H fr = some (.lst (fars.map nS)) ∧ fars.Nodup ∧ (∀ f ∈ fars, f ∈ ls) ∧
  ∀ H' d kvs, Same H H' → H d = none → H' d = some (.dK kvs) → SA' jns fars kvs → Q (.ref d) H'
set_option maxHeartbeats 8000000 in
theorem ok_steps_to (T : Defs K mg) : FnOk P w K mg base CX0 (k + 1) T.a_steps_to T.d_steps_to ["beside", "fars"] sp_steps_to := by
  refine T.F_steps_to.ok sc_steps_to (fun vs H Q E h => ?_) (fun cdv A outer s H vs Q E hr h => ?_)
  · obtain ⟨D, fr, ls, jns, fars, rfl, _⟩ := h
    rfl
  · obtain ⟨D, fr, ls, jns, fars, rfl, hbs, hok, efr, fnd, fls, q⟩ := h
    refine ⟨_, PSs.nox
(pss_cons (ps_set (i := 2) sc_steps_to.nd rfl (.inr rfl) (pe_dnewK))
    (pss_cons (ps_set (i := 3) sc_steps_to.nd rfl (.inl rfl) (pe_int))
    (pss_cons (ps_set (i := 4) sc_steps_to.nd rfl (.inl rfl) (pv 1))
    (pss_cons (ps_while PassesOwn.never (pt_truth (pv 4) (by intro _; rfl))
      (pss_cons (ps_for PassesOwn.never rfl (pi_list (pv 4)) (pg_name (i := 5) sc_steps_to.nd rfl (.inl rfl))
        (pss_one (ps_dput (hu_of hr) (pv 2) (pv 5) (pv 3) (by rfl))))
      (pss_cons (ps_aug (i := 3) sc_steps_to.nd rfl (.inl rfl) (pe_int) ip_add)
      (pss_one (ps_set (i := 4) sc_steps_to.nd rfl (.inl rfl) (pe_callB (Ss.cr_sortS rfl) (by rfl) T.z_sorted (by decide +kernel) (pa_cons (Ss.pe_sc2 (own := [("line", 5), ("near", 6)]) (vs1 := [6]) (g := gName 5) (g1 := gName 6) (wi1 := iList K _) rfl sc_steps_to.nd (pi_list (pv 4)) (blkOk_by (N := N_steps_to) (sc := defScope s_steps_to) (by decide +kernel)) (by decide) (fun _ _ _ _ _ => (pg_name (i := 5) sc_steps_to.nd rfl (.inl rfl))) (fun _ _ _ _ _ => pts_nil) (fun _ _ _ _ _ => (pi_list (pe_dget (hu_of hr) (pv 0) (pv 5) (fun _ _ => rfl)))) (fun _ _ _ _ _ => (pg_name (i := 6) sc_steps_to.nd rfl (.inl rfl))) (fun _ _ _ _ _ => pts_one (pt_cmp (pc_dnotin (hu_of hr) (pv 6) (pv 2)))) (fun _ _ _ _ _ => (pv 6))) pa_nil)))))))
    (pss_one (ps_ret (pv 2)))))))
      , ?_⟩
    have l8 := hok.l8
    refine fun sd nsd => ⟨.ref fr, rfl, ?_⟩
    have nsdD : sd ≠ D := fun e => by
      obtain ⟨kvs, h, _⟩ := hbs
      rw [e, h] at nsd
      cases nsd
    refine ⟨fun m' σ H3 => ∃ (m : Nat) (eg : Addr) (es zs : List Nm) (kvs : List (Key × V)) (y5 : Option V), m' = 10 - m ∧ σ = [some (.ref D), some (.ref fr), some (.ref sd), some (.int (m : Nat)), some (.ref eg), y5, none] ∧ Same H H3 ∧ eg ≠ sd ∧ H3 eg = some (.lst (es.map nS)) ∧ es.Nodup ∧ (∀ x, x ∈ es ↔ AF jns fars m x) ∧
        H3 sd = some (.dK kvs) ∧ kvs.map (·.1) = (zs.map SX.S).map Sum.inr ∧ zs.Nodup ∧ (∀ z ∈ zs, ∃ n, n < m ∧ AF jns fars n z) ∧ m ≤ zs.length ∧ SV jns fars m kvs,
      ⟨_, 0, fr, fars, [], [], none, rfl, rfl, same_upd nsd, ne_of_none efr nsd, same_upd nsd _ _ efr, fnd, fun x => ds_zero.symm, upd_same, rfl, .nil, fun z hz => (by cases hz), Nat.le_refl _, fun x => .inr ⟨fun n hn => absurd hn (Nat.not_lt_zero _), rfl⟩⟩, fun m' σ H3 hW => ?_⟩
    obtain ⟨m, eg, es, zs, kvs, y5, rfl, rfl, s3, nes, eE, end_, hE, eS, hkz, znd, hz, mz, hsv⟩ := hW
    refine ⟨.ref eg, rfl, _, .inl ⟨_, SqL.of eE, rfl⟩, ite2 (fun c => ?_) (fun c => ?_)⟩
    · have ne : es ≠ [] := fun e => by rw [e] at c; cases c
      have zl : zs.length ≤ ls.length := nd_len znd fun z h => let ⟨n, _, h⟩ := hz z h; af_in hok fls h
      have dis : ∀ z ∈ zs, ∀ x ∈ es, z ≠ x := fun z hz1 x hx e => by
        obtain ⟨n, hn, h1⟩ := hz z hz1
        rw [e] at h1
        have := h1.eq ((hE x).mp hx)
        omega
      refine ⟨_, fun σ' H' h => h, ?_⟩
      refine ⟨.ref eg, rfl, eg, rfl, ⟨_, SqL.of eE⟩, ?_⟩
      refine for_it (walk_list (xs := es.map nS)) (fun i σ H4 => ∃ (y5 : Option V) (kvs : List (Key × V)), σ = [some (.ref D), some (.ref fr), some (.ref sd), some (.int (m : Nat)), some (.ref eg), y5, none] ∧ Same H H4 ∧ H4 eg = some (.lst (es.map nS)) ∧ H4 sd = some (.dK kvs) ∧ kvs.map (·.1) = ((zs ++ es.take i).map SX.S).map Sum.inr ∧
          ∀ x, (x ∈ es.take i → valV kvs (Sum.inr (SX.S x)) = some (.int (m : Nat))) ∧ (x ∉ es.take i → (∃ n, n < m ∧ AF jns fars n x ∧ valV kvs (Sum.inr (SX.S x)) = some (.int (n : Nat))) ∨ ((∀ n, n < m → ¬ AF jns fars n x) ∧ valV kvs (Sum.inr (SX.S x)) = none)))
        ⟨y5, kvs, rfl, s3, eE, eS, by rw [List.take_zero, List.append_nil]; exact hkz, fun x => ⟨fun z => (by cases z), fun _ => hsv x⟩⟩ (fun i σ H4 _ hp => ?_) (fun i v σ H4₀ H4 hi hp yy => ?_) (fun σ H4 hp => ?_)
      · obtain ⟨_, _, _, _, e4, _⟩ := hp
        exact SqL.of e4
      · obtain ⟨rfl, ex⟩ := yy
        obtain ⟨y5, kvs, rfl, s4, eE4, eS4, hkz4, hv⟩ := hp
        obtain ⟨z, ez, rfl⟩ := at_nm ex
        have zin : z ∈ es := List.mem_of_getElem? ez
        have tk1 : es.take (i + 1) = es.take i ++ [z] := by rw [List.take_add_one, ez]; rfl
        have znot : z ∉ es.take i := fun h => by
          have := List.nodup_append.mp (tk1 ▸ (List.Sublist.nodup (List.take_sublist (i + 1) es) end_))
          exact this.2.2 z h z (List.mem_singleton.mpr rfl) rfl
        have vn : valV kvs (Sum.inr (SX.S z)) = none := by
          rcases (hv z).2 znot with ⟨n, hn, h1, _⟩ | ⟨_, h⟩
          · have := h1.eq ((hE z).mp zin)
            omega
          · exact h
        have kl : kvs.length ≤ 5000 := by
          have := congrArg List.length hkz4
          rw [List.length_map, List.length_map, List.length_map, List.length_append] at this
          have h2 : es.length ≤ ls.length := nd_len end_ fun x hx => af_in hok fls ((hE x).mp hx)
          have h3 : (es.take i).length ≤ es.length := List.length_take_le' _ _
          omega
        refine ⟨.int (m : Nat), rfl, .ref sd, rfl, nS z, rfl, sd, _, rfl, DPut.k (k := Sum.inr (SX.S z)) eS4 (small5000 kl), ?_⟩
        refine ⟨_, _, rfl, same_set s4 nsd, by rw [upd_ne nes]; exact eE4, upd_same, ?_, fun x => ?_⟩
        · rw [putK_new _ vn, List.map_append, hkz4, tk1, ← List.append_assoc, List.map_append (l₁ := zs ++ es.take i), List.map_append (l₁ := (zs ++ es.take i).map SX.S)]
          rfl
        · rw [valV_put, tk1, List.mem_append, List.mem_singleton]
          by_cases c : x = z
          · rw [if_pos (by rw [c])]
            exact ⟨fun _ => rfl, fun h => absurd (.inr c) h⟩
          · rw [if_neg (fun q => c (SX.S_inj (Sum.inr.inj q)))]
            exact ⟨fun h => (hv x).1 (h.elim id fun e => absurd e c), fun h => (hv x).2 fun z => h (.inl z)⟩
      · obtain ⟨y5, kvs, rfl, s4, eE4, eS4, hkz4, hv⟩ := hp
        rw [List.length_map, List.take_length] at hkz4 hv
        have zs2 : (zs ++ es).Nodup := List.nodup_append.mpr ⟨znd, end_, dis⟩
        have hz2 : ∀ z ∈ zs ++ es, ∃ n, n < m + 1 ∧ AF jns fars n z := fun z h => (List.mem_append.mp h).elim (fun h => let ⟨n, hn, h⟩ := hz z h; ⟨n, by omega, h⟩) fun h => ⟨m, by omega, (hE z).mp h⟩
        have el : 1 ≤ es.length := List.length_pos_iff.mpr ne
        have sv2 : SV jns fars (m + 1) kvs := fun x => by
          by_cases c : x ∈ es
          · exact .inl ⟨m, by omega, (hE x).mp c, (hv x).1 c⟩
          · rcases (hv x).2 c with ⟨n, hn, h⟩ | ⟨h1, h2⟩
            · exact .inl ⟨n, by omega, h⟩
            · refine .inr ⟨fun n hn h => ?_, h2⟩
              by_cases c2 : n = m
              · subst c2
                exact c ((hE x).mpr h)
              · exact h1 n (by omega) h
        refine ⟨.int (m : Nat), rfl, _, _, rfl, rfl, ?_⟩
        refine ⟨.ref eg, rfl, eg, rfl, ⟨_, SqL.of eE4⟩, fun D2 nD2 => ?_⟩
        have hbs4 := hbs.same s4
        have sd2 : sd ≠ D2 := ne_of_none eS4 nD2
        have eg2 : eg ≠ D2 := ne_of_none eE4 nD2
        have beyond : ∀ y, (∃ x ∈ es, Adj jns x y) ∧ valV kvs (Sum.inr (SX.S y)) = none ↔ AF jns fars (m + 1) y := fun y => by
          show _ ↔ Ds (Adj jns) (· ∈ fars) (m + 1) y
          rw [ds_succ]
          constructor
          · rintro ⟨⟨x, hx, hxy⟩, hn⟩
            refine ⟨⟨x, hxy.symm, (hE x).mp hx⟩, fun n hn2 hd => ?_⟩
            rcases sv2 y with ⟨n', _, _, h3⟩ | ⟨h1, _⟩
            · rw [hn] at h3
              cases h3
            · exact h1 n (by omega) hd
          · rintro ⟨⟨x, hxy, hx⟩, hn⟩
            refine ⟨⟨x, (hE x).mpr hx, hxy.symm⟩, ?_⟩
            rcases sv2 y with ⟨n', h1, h2, _⟩ | ⟨_, h⟩
            · exact absurd h2 (hn n' (by omega))
            · exact h
        refine Ss.sc2_it (walk_list (xs := es.map nS)) (fun i H5 => Same H4 H5 ∧ ∃ L : List Nm, H5 D2 = some (Ss.SetSO w D2 (L.map SX.S)) ∧ L.Nodup ∧ ∀ y, y ∈ L ↔ (∃ x ∈ es.take i, Adj jns x y) ∧ valV kvs (Sum.inr (SX.S y)) = none) ⟨same_upd nD2, [], upd_same, .nil, fun y => ⟨fun z => (by cases z), fun ⟨⟨x, hx, _⟩, _⟩ => (by cases hx)⟩⟩ (fun i H5 _ pv => SqL.of (pv.1 _ _ eE4)) (fun i v H5₀ H5 hi pv yy => ?_) (fun H5 pv => ?_)
        · obtain ⟨rfl, ex⟩ := yy
          obtain ⟨s5, L, eD2, hnd, hm⟩ := pv
          obtain ⟨x, exx, rfl⟩ := at_nm ex
          have xin : x ∈ es := List.mem_of_getElem? exx
          have tk1 : es.take (i + 1) = es.take i ++ [x] := by rw [List.take_add_one, exx]; rfl
          obtain ⟨bk, eDb, hbv⟩ := hbs4
          obtain ⟨ba, ys, hv1, hba, ynd, hym⟩ := hbv x (af_in hok fls ((hE x).mp xin))
          refine ⟨rfl, yes_ ?_⟩
          refine ⟨.ref D, rfl, nS x, rfl, D, _, rfl, by rw [← hv1]; exact DGet.k (k := Sum.inr (SX.S x)) (s5 _ _ eDb), ba, rfl, ⟨_, SqL.of (s5 _ _ hba)⟩, ?_⟩
          refine Ss.in2_it (walk_list (xs := ys.map nS)) (fun j H6 => Same H4 H6 ∧ ∃ L : List Nm, H6 D2 = some (Ss.SetSO w D2 (L.map SX.S)) ∧ L.Nodup ∧ ∀ y, y ∈ L ↔ ((∃ x ∈ es.take i, Adj jns x y) ∨ y ∈ ys.take j) ∧ valV kvs (Sum.inr (SX.S y)) = none) ⟨s5, L, eD2, hnd, fun y => by rw [hm y]; exact ⟨fun z => ⟨.inl z.1, z.2⟩, fun z => ⟨z.1.elim id fun z => (by cases z), z.2⟩⟩⟩ (fun j H6 _ pv => SqL.of (pv.1 _ _ hba)) (fun j v H6₀ H6 hj pv yy => ?_) (fun H6 pv => ?_)
          · obtain ⟨rfl, ey⟩ := yy
            obtain ⟨s6, L, eD2, hnd, hm⟩ := pv
            obtain ⟨y, eyy, rfl⟩ := at_nm ey
            have tk2 : ys.take (j + 1) = ys.take j ++ [y] := by rw [List.take_add_one, eyy]; rfl
            refine ⟨rfl, nS y, rfl, .ref sd, rfl, sd, _, rfl, DGet.k (k := Sum.inr (SX.S y)) (s6 _ _ eS4), _, rfl, ite2 (fun c => ?_) (fun c => ?_)⟩
            · have vn : valV kvs (Sum.inr (SX.S y)) = none := by
                cases h : valV kvs (Sum.inr (SX.S y)) with
                | none => rfl
                | some o => rw [h] at c; cases c
              have l9 : L.length ≤ ls.length := nd_len hnd fun z hz => by
                obtain ⟨h, _⟩ := (hm z).mp hz
                rcases h with ⟨x', _, h⟩ | h
                · exact hok.adj h
                · exact hok.adj ((hym z).mp (List.mem_of_mem_take h))
              refine ⟨nS y, rfl, SX.S y, L.map SX.S, rfl, eD2, by rw [List.length_map]; exact Nat.lt_of_le_of_lt (Nat.succ_le_succ (Nat.le_trans l9 hok.l8)) (by decide), same_set s6 nD2, addN L y, by rw [upd_same, addL_S]; rfl, nd_addN hnd, fun z => ?_⟩
              rw [mem_addN, hm z, tk2, List.mem_append, List.mem_singleton]
              constructor
              · rintro (h | h)
                · subst h
                  exact ⟨.inr (.inr rfl), vn⟩
                · exact ⟨h.1.imp id .inl, h.2⟩
              · rintro ⟨h | h | h, hn⟩
                · exact .inr ⟨.inl h, hn⟩
                · exact .inr ⟨.inr h, hn⟩
                · exact .inl h
            · refine ⟨s6, L, eD2, hnd, fun z => ?_⟩
              rw [hm z, tk2, List.mem_append, List.mem_singleton]
              constructor
              · rintro ⟨h, hn⟩
                exact ⟨h.imp id .inl, hn⟩
              · rintro ⟨h | h | h, hn⟩
                · exact ⟨.inl h, hn⟩
                · exact ⟨.inr h, hn⟩
                · subst h
                  rw [hn] at c
                  exact absurd rfl c
          · obtain ⟨s6, L, eD2, hnd, hm⟩ := pv
            refine ⟨s6, L, eD2, hnd, fun y => ?_⟩
            rw [hm y, tk1, List.length_map, List.take_length, hym y]
            constructor
            · rintro ⟨⟨x', hx', h⟩ | h, hn⟩
              · exact ⟨⟨x', List.mem_append_left _ hx', h⟩, hn⟩
              · exact ⟨⟨x, List.mem_append_right _ (List.mem_singleton.mpr rfl), h⟩, hn⟩
            · rintro ⟨⟨x', hx', h⟩, hn⟩
              rcases List.mem_append.mp hx' with z | z
              · exact ⟨.inl ⟨x', z, h⟩, hn⟩
              · rw [List.mem_singleton.mp z] at h
                exact ⟨.inr h, hn⟩
        · obtain ⟨s5, L, eD2, hnd, hm⟩ := pv
          rw [List.length_map, List.take_length] at hm
          have hm2 : ∀ y, y ∈ L ↔ AF jns fars (m + 1) y := fun y => (hm y).trans (beyond y)
          have l9 : L.length ≤ ls.length := nd_len hnd fun z hz => af_in hok fls ((hm2 z).mp hz)
          refine ⟨D2, _, rfl, eD2, by rw [List.length_map]; omega, fun ys p hp hs np => ?_⟩
          obtain ⟨xs, rfl, hx⟩ := perm_S hp
          refine ⟨10 - (m + 1), by omega, m + 1, p, xs, zs ++ es, kvs, _, rfl, rfl, s4.trans (s5.trans (same_upd np)), (ne_of_none (s5 _ _ eS4) np).symm, by rw [upd_same, map_nS], hx.nodup_iff.mpr hnd, fun y => by rw [hx.mem_iff]; exact hm2 y, same_upd np _ _ (s5 _ _ eS4), hkz4, zs2, hz2, by rw [List.length_append]; omega, sv2⟩
    · have ne : es = [] := by
        cases h : es with
        | nil => rfl
        | cons a r => rw [h] at c; exact absurd rfl c
      refine ⟨.ref sd, rfl, q _ sd kvs s3 nsd eS fun x => ?_⟩
      have no : ∀ x, ¬ AF jns fars m x := fun x h => by
        have := (hE x).mpr h
        rw [ne] at this
        cases this
      rcases hsv x with ⟨n, _, h⟩ | ⟨h1, h2⟩
      · exact .inl ⟨n, h⟩
      · refine .inr ⟨fun n h => ?_, h2⟩
        by_cases c : n < m
        · exact h1 n c h
        · exact ds_none no n x (by omega) h
end
/-! the least of the shortest roads to any of the far ones -/
theorem af_chain {ls : List Nm} {jns : List (Nm × List Nm)} {fars : List Nm} (hok : LJok ls jns) (hf : ∀ f ∈ fars, f ∈ ls) : ∀ (n : Nat) {x : Nm}, AF jns fars n x → ∃ zs : List Nm, zs.length = n + 1 ∧ zs.Nodup ∧ ∀ z ∈ zs, z ∈ ls ∧ ∃ i, i ≤ n ∧ AF jns fars i z
  | 0, x, h => ⟨[x], rfl, by simp, fun z hz => by rw [List.mem_singleton.mp hz]; exact ⟨af_in hok hf h, 0, Nat.le_refl _, h⟩⟩
  | n + 1, x, h => by
    obtain ⟨y, _, hy⟩ := h.down
    obtain ⟨zs, h1, h2, h3⟩ := af_chain hok hf n hy
    refine ⟨x :: zs, by rw [List.length_cons, h1], List.nodup_cons.mpr ⟨fun hx => ?_, h2⟩, fun z hz => ?_⟩
    · obtain ⟨_, i, hi, hd⟩ := h3 x hx
      have := hd.eq h
      omega
    · rcases List.mem_cons.mp hz with e | e
      · rw [e]
        exact ⟨af_in hok hf h, n + 1, Nat.le_refl _, h⟩
      · obtain ⟨k1, i, hi, hd⟩ := h3 z e
        exact ⟨k1, i, by omega, hd⟩
theorem af_lt {ls : List Nm} {jns : List (Nm × List Nm)} {fars : List Nm} (hok : LJok ls jns) (hf : ∀ f ∈ fars, f ∈ ls) {n : Nat} {x : Nm} (h : AF jns fars n x) : n < ls.length := by
  obtain ⟨zs, h1, h2, h3⟩ := af_chain hok hf n h
  have := nd_len h2 fun z hz => (h3 z hz).1
  omega
/-- what is told of a road -/
def Rd' (jns : List (Nm × List Nm)) (fars : List Nm) (x : Nm) (rd : List Nm) : Prop := (∃ n, AF jns fars n x ∧ Gr (Adj jns) (· ∈ fars) n x rd) ∨ ((∀ n, ¬ AF jns fars n x) ∧ rd = [])
theorem dpAll_nms {K : PySem.W.Frag} {H : Hp} : ∀ zs : List Nm, DpAll K H (zs.map nS) ((zs.map SX.S).map PySem.W.Datum.toD)
  | [] => .nil
  | z :: zs => .cons (.str _) (dpAll_nms zs)
theorem s_ir (a : Str) : PySem.W.DatumOrd.lt a a = false := decide_eq_false (List.lt_irrefl _)
theorem s_asy (a b : Str) (h : PySem.W.DatumOrd.lt a b = true) : PySem.W.DatumOrd.lt b a = false := decide_eq_false (Rm.lt_asym (of_decide_eq_true h))
theorem s_tr (a b c : Str) (h : PySem.W.DatumOrd.lt a b = false) (k : PySem.W.DatumOrd.lt b c = false) : PySem.W.DatumOrd.lt a c = false := decide_eq_false (List.not_lt.mpr (List.le_trans (List.not_lt.mp (of_decide_eq_false k)) (List.not_lt.mp (of_decide_eq_false h))))
section
variable {P : Program} {w : World} {K : PySem.W.Frag} {mg : Str → Option Value} {base : Heap} {k : Nat}
def sp_road_to_any (K : PySem.W.Frag) : Sp := fun vs H Q _ => ∃ (r fr : Addr) (x : Nm) (ls : List Nm) (jns : List (Nm × List Nm)) (fars : List Nm), vs = [.ref r, nS x, .ref fr] ∧ LJ K H r ls jns ∧ LJok ls jns ∧ x ∈ ls ∧ H fr = some (.lst (fars.map nS)) ∧ fars.Nodup ∧ (∀ f ∈ fars, f ∈ ls) ∧
  ∀ H' p (rd : List Nm), Same H H' → H p = none → H' p = some (.lst (rd.map nS)) → Rd' jns fars x rd → Q (.ref p) H'
set_option maxHeartbeats 8000000 in
theorem ok_road_to_any (T : Defs K mg) : FnOk P w K mg base CX0 (k + 3) T.a_road_to_any T.d_road_to_any ["net", "line", "fars"] (sp_road_to_any K) := by
  have G_lines_beside : FnOk P w K mg base CX0 (k + 2) _ _ _ _ := ok_lines_beside T
  have G_steps_to : FnOk P w K mg base CX0 (k + 2) _ _ _ _ := ok_steps_to (k := k + 1) T
  refine T.F_road_to_any.ok sc_road_to_any (fun vs H Q E h => ?_) (fun cdv A outer s H vs Q E hr h => ?_)
  · obtain ⟨r, fr, x, ls, jns, fars, rfl, _⟩ := h
    rfl
  · obtain ⟨r, fr, x, ls, jns, fars, rfl, hnet, hok, xin, efr, fnd, fls, q⟩ := h
    refine ⟨_, PSs.nox
(pss_cons (ps_if (pt_cmpR (r := rIn K true) op_notIn_seq (pv 1) (pe_ix (r := rIxT K) ix_tup (pv 0) (pe_int) (fun _ _ => rfl)) (by rfl))
      (pss_one (ps_ret (pe_lst pa_nil)))
      pss_nil)
    (pss_cons (ps_set (i := 3) sc_road_to_any.nd rfl (.inl rfl) (pe_call G_lines_beside hr (by rfl) T.g_lines_beside T.F_lines_beside.kp T.b_lines_beside .nil pass0 (pa_cons (pv 0) pa_nil)))
    (pss_cons (ps_set (i := 4) sc_road_to_any.nd rfl (.inr rfl) (pe_call G_steps_to hr (by rfl) T.g_steps_to T.F_steps_to.kp T.b_steps_to .nil pass0 (pa_cons (pv 3) (pa_cons (pv 2) pa_nil))))
    (pss_cons (ps_if (pt_cmp (pc_dnotin (hu_of hr) (pv 1) (pv 4)))
      (pss_one (ps_ret (pe_lst pa_nil)))
      pss_nil)
    (pss_cons (ps_set (i := 5) sc_road_to_any.nd rfl (.inl rfl) (pe_lst (pa_cons (pv 1) pa_nil)))
    (pss_cons (ps_while PassesOwn.never (pt_cmpR op_gt (pe_dget (hu_of hr) (pv 4) (pe_ix (r := rIxL K) ix_list (pv 5) (pe_un un_neg (pe_int)) (fun _ _ => rfl)) (fun _ _ => rfl)) (pe_int) (nomark _))
      (pss_cons (ps_set (i := 6) sc_road_to_any.nd rfl (.inr rfl) (pe_op op_sub (pe_dget (hu_of hr) (pv 4) (pe_ix (r := rIxL K) ix_list (pv 5) (pe_un un_neg (pe_int)) (fun _ _ => rfl)) (fun _ _ => rfl)) (pe_int)))
      (pss_cons (ps_setLc (i := 7) (own := [("near", 8)]) (g := gName 8) rfl sc_road_to_any.nd rfl rfl (sw_true rfl rfl rfl (by decide +kernel)) (pi_list (pe_dget (hu_of hr) (pv 3) (pe_ix (r := rIxL K) ix_list (pv 5) (pe_un un_neg (pe_int)) (fun _ _ => rfl)) (fun _ _ => rfl))) (blkOk_by (N := N_road_to_any) (sc := defScope s_road_to_any) (by decide +kernel)) (fun _ _ _ _ _ => (pg_name (i := 8) sc_road_to_any.nd rfl (.inl rfl))) (fun _ _ _ _ _ => pts_one (pt_cmpR op_eq (pe_dget (hu_of hr) (pv 4) (pv 8) (fun _ _ => rfl)) (pv 6) (nomark _))) (fun _ _ _ _ _ => (pv 8)))
      (pss_one (ps_expr (pe_bm PySem.F.plainAttrs_list PySem.F.slot_list_append PySem.F.type_list_append mt_append (pv 5) (pa_cons (pe_callB (Md.cr_minG (α := PySem.Str) rfl hr.units) (by rfl) T.z_min (by decide +kernel) (pa_cons (pv 7) pa_nil)) pa_nil)))))))
    (pss_one (ps_ret (pv 5)))))))))
      , ?_⟩
    have l8 := hok.l8
    obtain ⟨a, c, b, d, ja, er, ea, ec, hJ⟩ := id hnet
    refine ⟨nS x, rfl, .ref r, rfl, r, [.ref a, b, .ref c, d], 0, .ref a, rfl, rfl, er, atI_nat (j := 0) rfl, a, _, rfl, .inr (ea), rfl, flat_nms _, _, rfl, ?_⟩
    rw [show (if true = true then !inV (nS x) (ls.map nS) else inV (nS x) (ls.map nS)) = false by rw [in_nms, decide_eq_true xin]; rfl]
    refine iteF ?_
    refine ⟨.ref r, rfl, r, ls, jns, rfl, hnet, hok, fun H1 D s1 nD hbs => ?_⟩
    have nD0 : D ≠ fr := fun e => by rw [e, efr] at nD; cases nD
    refine ⟨.ref D, rfl, .ref fr, rfl, D, fr, ls, jns, fars, rfl, hbs, hok, s1 _ _ efr, fnd, fls, fun H2 sd kvs s2 nsd esd hsa => ?_⟩
    have s12 := s1.trans s2
    refine ⟨nS x, rfl, .ref sd, rfl, sd, _, rfl, DGet.k (k := Sum.inr (SX.S x)) esd, _, rfl, ?_⟩
    have up : ∀ {H' : Hp} {p : Addr}, Same H H' → H' p = none → H p = none := fun {H' p} s n => by
      cases e : H p with
      | none => rfl
      | some o => rw [s _ _ e] at n; cases n
    rcases hsa x with ⟨n0, hn0, hv0⟩ | ⟨hno, hv0⟩
    · rw [hv0]
      refine iteF ?_
      refine ⟨nS x, rfl, by show 1 ≤ sizeLine; decide, fun rd nrd => ?_⟩
      have n8 := af_lt hok fls hn0
      have sdrd : sd ≠ rd := ne_of_none esd nrd
      -- while steps[road[-1]] > 0
      refine ⟨fun m' σ H3 => ∃ (n : Nat) (pre : List Nm) (cur : Nm) (y6 y7 : Option V), m' = n ∧ σ = [some (.ref r), some (nS x), some (.ref fr), some (.ref D), some (.ref sd), some (.ref rd), y6, y7, none] ∧ Same H2 H3 ∧ H3 rd = some (.lst ((pre ++ [cur]).map nS)) ∧ AF jns fars n cur ∧ pre.length + n = n0 ∧ ∀ t, Gr (Adj jns) (· ∈ fars) n cur t → Gr (Adj jns) (· ∈ fars) n0 x (pre ++ t),
        ⟨_, n0, [], x, none, none, rfl, rfl, same_upd nrd, upd_same, hn0, by simp, fun t h => h⟩, fun m' σ H3 hW => ?_⟩
      obtain ⟨n, pre, cur, y6, y7, rfl, rfl, s3, erd, hn, hpre, hgr⟩ := hW
      have s13 := s12.trans s3
      have last : atI ((pre ++ [cur]).map nS) (-1) = some (nS cur) := by
        rw [List.map_append]
        exact atI_last _ _
      have hvc : valV kvs (Sum.inr (SX.S cur)) = some (.int (m' : Nat)) := by
        rcases hsa cur with ⟨n', h1, h2⟩ | ⟨h1, _⟩
        · rw [h2, h1.eq hn]
        · exact absurd hn (h1 m')
      have dg : ∀ {H' : Hp}, Same H2 H' → DGet H' sd (nS cur) (some (.int (m' : Nat))) := fun s => by
        rw [← hvc]
        exact DGet.k (k := Sum.inr (SX.S cur)) (s _ _ esd)
      refine ⟨.ref sd, rfl, .ref rd, rfl, 1, rfl, rd, _, -1, nS cur, rfl, rfl, SqL.of erd, last, sd, _, rfl, dg s3, _, 0, rfl, rfl, _, rfl, ite2 (fun c => ?_) (fun c => ?_)⟩
      · have c : (0 : Int) < (m' : Nat) := of_decide_eq_true c
        obtain ⟨m, rfl⟩ : ∃ m, m' = m + 1 := ⟨m' - 1, by omega⟩
        refine ⟨_, fun σ' H' h => h, ?_⟩
        refine ⟨.ref sd, rfl, .ref rd, rfl, 1, rfl, rd, _, -1, nS cur, rfl, rfl, SqL.of erd, last, sd, _, rfl, dg s3, _, 1, rfl, rfl, ?_⟩
        obtain ⟨bk, eDb, hbv⟩ := hbs.same (s2.trans s3)
        obtain ⟨ba, ys, hv1, hba, ynd, hym⟩ := hbv cur (af_in hok fls hn)
        refine ⟨.ref D, rfl, .ref rd, rfl, 1, rfl, rd, _, -1, nS cur, rfl, rfl, SqL.of erd, last, D, _, rfl, by rw [← hv1]; exact DGet.k (k := Sum.inr (SX.S cur)) eDb, ba, rfl, ⟨_, SqL.of hba⟩, fun on non => ?_⟩
        have onrd : rd ≠ on := ne_of_none erd non
        refine lc_it (walk_list (xs := ys.map nS)) (fun i H4 => Same H3 H4 ∧ ∃ os : List Nm, H4 on = some (.lst (os.map nS)) ∧ os.length ≤ i ∧ ∀ y, y ∈ os ↔ y ∈ ys.take i ∧ AF jns fars m y) ⟨same_upd non, [], upd_same, Nat.le_refl _, fun y => ⟨fun z => (by cases z), fun z => (by cases z.1)⟩⟩ (fun i H4 _ pv => SqL.of (pv.1 _ _ hba)) (fun i v H4₀ H4 hi pv yy => ?_) (fun H4 pv => ?_)
        · obtain ⟨rfl, ex⟩ := yy
          obtain ⟨s4, os, eon, hol, hom⟩ := pv
          obtain ⟨y, ey, rfl⟩ := at_nm ex
          have tk1 : ys.take (i + 1) = ys.take i ++ [y] := by rw [List.take_add_one, ey]; rfl
          have yin : y ∈ ys := List.mem_of_getElem? ey
          have adj : Adj jns cur y := (hym y).mp yin
          have yl : ys.length ≤ ls.length := nd_len ynd fun z hz => hok.adj ((hym z).mp hz)
          rw [List.length_map] at hi
          obtain ⟨n', hn', hv'⟩ : ∃ n', AF jns fars n' y ∧ valV kvs (Sum.inr (SX.S y)) = some (.int (n' : Nat)) := by
            rcases hsa y with h | ⟨h1, _⟩
            · exact h
            · obtain ⟨n', _, hd⟩ := wk_ds (m + 2) (⟨cur, adj.symm, hn.1⟩ : Wk (Adj jns) (· ∈ fars) (m + 2) y)
              exact absurd hd (h1 n')
          refine ⟨rfl, .ref sd, rfl, nS y, rfl, sd, _, rfl, by rw [← hv']; exact DGet.k (k := Sum.inr (SX.S y)) ((s3.trans s4) _ _ esd), _, rfl, rfl, _, rfl, ite2 (fun c => ?_) (fun c => ?_)⟩
          · have c : n' = m := by
              have c := of_decide_eq_true c
              have c : ((n' : Nat) : Int) = (((m + 1 : Nat)) : Int) - 1 := by injection c
              omega
            subst c
            refine ⟨nS y, rfl, os.map nS, eon, small5000 (by rw [List.length_map]; omega), same_set s4 non, os ++ [y], by rw [upd_same, List.map_append]; rfl, by rw [List.length_append, List.length_singleton]; omega, fun z => ?_⟩
            rw [List.mem_append, List.mem_singleton, hom z, tk1, List.mem_append, List.mem_singleton]
            constructor
            · rintro (h | h)
              · exact ⟨.inl h.1, h.2⟩
              · subst h
                exact ⟨.inr rfl, hn'⟩
            · rintro ⟨h | h, h2⟩
              · exact .inl ⟨h, h2⟩
              · exact .inr h
          · have c : n' ≠ m := fun e => c (decide_eq_true (by rw [e]; congr 1; omega))
            refine ⟨s4, os, eon, by omega, fun z => ?_⟩
            rw [hom z, tk1, List.mem_append, List.mem_singleton]
            exact ⟨fun h => ⟨.inl h.1, h.2⟩, fun ⟨h, h2⟩ => ⟨h.elim id fun e => absurd (hn'.eq (e ▸ h2)) c, h2⟩⟩
        · obtain ⟨s4, os, eon, hol, hom⟩ := pv
          rw [List.length_map, List.take_length] at hom
          have hom : ∀ y, y ∈ os ↔ Adj jns cur y ∧ AF jns fars m y := fun y => by rw [hom y, hym y]
          obtain ⟨y0, hy0, hd0⟩ := hn.down
          match os, hom, eon with
          | [], hom, _ => exact absurd ((hom y0).mpr ⟨hy0, hd0⟩) (by simp)
          | o :: os, hom, eon =>
            refine ⟨.ref rd, rfl, .inl ⟨rfl, _, SqL.of (s4 _ _ erd)⟩, .ref on, rfl, on, _, SX.S o, os.map SX.S, rfl, SqL.of eon, dpAll_nms (o :: os), by show 0 ≤ 60; decide, fun i v hv hmin => ?_⟩
            obtain ⟨y, ey, rfl⟩ := at_nm hv
            have ymin : SX.S y = PySem.W.minOf (SX.S o) (os.map SX.S) := by
              have hmin : ((o :: os).map SX.S)[i]? = _ := hmin
              rw [List.getElem?_map, ey] at hmin
              exact Option.some.inj hmin
            have lst : Lst (fun y => Adj jns cur y ∧ AF jns fars m y) y := by
              refine ⟨(hom y).mp (List.mem_of_getElem? ey), fun z hz hlt => ?_⟩
              have := Md.minOf_le s_ir s_asy s_tr (SX.S o) (os.map SX.S) (SX.S z) (List.mem_map_of_mem (f := SX.S) ((hom z).mpr hz))
              rw [← ymin] at this
              exact of_decide_eq_false this hlt
            have erd4 := s4 _ _ erd
            refine ⟨rd, _, _, rfl, rfl, erd4, small5000 (by rw [List.length_map, List.length_append, List.length_singleton]; omega), m, by omega, m, pre ++ [cur], y, _, _, rfl, rfl, ?_, by rw [upd_same, List.map_append (l₁ := pre ++ [cur])]; rfl, lst.1.2, by rw [List.length_append, List.length_singleton]; omega, fun t ht => ?_⟩
            · exact same_set (s3.trans s4) nrd
            · have := hgr (cur :: t) ⟨y, t, lst, ht, rfl⟩
              rwa [List.append_assoc]
      · have c : m' = 0 := by
          have c : ¬ (0 : Int) < (m' : Nat) := fun z => c (decide_eq_true z)
          omega
        subst c
        exact ⟨.ref rd, rfl, q _ rd _ s13 (up s12 nrd) erd (.inl ⟨n0, hn0, hgr [cur] ⟨hn.1, rfl⟩⟩)⟩
    · rw [hv0]
      refine iteT ?_
      exact ⟨Nat.zero_le _, fun e ne => q _ e [] (s12.trans (same_upd ne)) (up s12 ne) upd_same (.inr ⟨hno, rfl⟩)⟩
end
end Th
namespace Th
open PySem PySem.Spec PyProof.Rows L2
/-! lines from which a wagon may go over, the road of a gap, how many lack -/
def fromL (js : List Nm) (over : Nm) : List Nm := js.filter fun l => decide (l ≠ over)
theorem mem_fromL {js : List Nm} {over l : Nm} : l ∈ fromL js over ↔ l ∈ js ∧ l ≠ over := by
  unfold fromL
  rw [List.mem_filter, decide_eq_true_eq]
theorem ne_dec {x y : Nm} : (!decide (nS x = nS y)) = decide (x ≠ y) := by
  by_cases h : x = y
  · rw [h]
    simp
  · rw [decide_eq_true h, decide_eq_false (fun e => h (SX.S_inj (by injection e)))]
    rfl
theorem eq_dec {x y : Nm} : decide (nS x = nS y) = decide (x = y) := by
  by_cases h : x = y
  · rw [h]
    simp
  · rw [decide_eq_false h, decide_eq_false (fun e => h (SX.S_inj (by injection e)))]
section
variable {P : Program} {w : World} {K : PySem.W.Frag} {mg : Str → Option Value} {base : Heap} {k : Nat}
def sp_lines_from (K : PySem.W.Frag) : Sp := fun vs H Q _ => ∃ (r : Addr) (over : Nm) (ls : List Nm) (jns : List (Nm × List Nm)) (jn : Nm × List Nm), vs = [.ref r, nS jn.1, nS over] ∧ LJ K H r ls jns ∧ LJok ls jns ∧ (jns.map (·.1)).Nodup ∧ jn ∈ jns ∧ over ∈ jn.2 ∧
  ∀ H' p, Same H H' → H p = none → H' p = some (.lst ((fromL jn.2 over).map nS)) → Q (.ref p) H'
set_option maxHeartbeats 8000000 in
theorem ok_lines_from (T : Defs K mg) : FnOk P w K mg base CX0 (k + 1) T.a_lines_from T.d_lines_from ["net", "junction", "over"] (sp_lines_from K) := by
  refine T.F_lines_from.ok sc_lines_from (fun vs H Q E h => ?_) (fun cdv A outer s H vs Q E hr h => ?_)
  · obtain ⟨r, over, ls, jns, jn, rfl, _⟩ := h
    rfl
  · obtain ⟨r, over, ls, jns, jn, rfl, hnet, hok, jnd, jin, oin, q⟩ := h
    refine ⟨_, PSs.nox
(pss_cons (ps_for PassesOwn.never rfl (pi_tup (pe_ix (r := rIxT K) ix_tup (pv 0) (pe_int) (fun _ _ => rfl))) (pg_tup rfl (pgs_cons (pg_name (i := 3) sc_lines_from.nd rfl (.inl rfl)) (pgs_cons (pg_name (i := 4) sc_lines_from.nd rfl (.inl rfl)) pgs_nil)))
      (pss_one (ps_if (PW.pt (pw_and (pt_cmpR op_eq (pv 3) (pv 1) (nomark _)) (pw_and1 (pt_cmpR (r := rIn K false) op_in_seq (pv 2) (pv 4) (by rfl)))))
        (pss_one (ps_ret (pe_lc (own := [("line", 5)]) (g := gName 5) rfl sc_lines_from.nd (pi_tup (pv 4)) (blkOk_by (N := N_lines_from) (sc := defScope s_lines_from) (by decide +kernel)) (fun _ _ _ _ _ => (pg_name (i := 5) sc_lines_from.nd rfl (.inl rfl))) (fun _ _ _ _ _ => pts_one (pt_cmpR op_ne (pv 5) (pv 2) (nomark _))) (fun _ _ _ _ _ => (pv 5)))))
        pss_nil)))
    (pss_one (ps_ret (pe_lst pa_nil))))
      , ?_⟩
    obtain ⟨a, c, b, d, ja, er, ea, ec, hJ⟩ := id hnet
    have jl := paired_len hJ
    obtain ⟨at_, hat⟩ := List.getElem?_of_mem jin
    refine ⟨.ref r, rfl, r, [.ref a, b, .ref c, d], 2, .ref c, rfl, rfl, er, atI_nat (j := 2) rfl, c, rfl, ⟨_, ec⟩, ?_⟩
    refine for_it (walk_tup (xs := ja.map V.ref)) (fun i σ H3 => ∃ (y3 y4 : Option V), σ = [some (.ref r), some (nS jn.1), some (nS over), y3, y4, none] ∧ Same H H3 ∧ i ≤ at_) ⟨none, none, rfl, .refl _, Nat.zero_le _⟩ (fun i σ H3 _ hp => ?_) (fun i v σ H3₀ H3 hi hp yy => ?_) (fun σ H3 hp => ?_)
    · obtain ⟨_, _, _, s3, _⟩ := hp
      exact sqs s3 ec
    · obtain ⟨rfl, ex⟩ := yy
      obtain ⟨y3, y4, rfl, s3, hle⟩ := hp
      obtain ⟨u, eu, rfl⟩ := at_ref ex
      obtain ⟨j, ej, jt, hu, hjt⟩ := paired_get hJ eu
      refine ⟨u, _, rfl, sqs s3 hu, rfl, _, _, rfl, _, [], rfl, rfl, ?_⟩
      refine ⟨nS j.1, rfl, nS jn.1, rfl, rfl, _, rfl, ite2 (fun c1 => ?_) (fun c1 => ?_)⟩
      · rw [eq_dec] at c1
        have c1 := of_decide_eq_true c1
        have e1 : (jns.map (·.1))[i]? = some j.1 := by rw [List.getElem?_map, ej]; rfl
        have e2 : (jns.map (·.1))[at_]? = some j.1 := by rw [List.getElem?_map, hat, c1]; rfl
        have := nodup_inj jnd e1 e2
        subst this
        rw [hat] at ej
        have := Option.some.inj ej
        subst this
        refine ⟨nS over, rfl, .ref jt, rfl, jt, _, rfl, .inr (sqs s3 hjt), rfl, flat_nms _, _, rfl, ?_⟩
        rw [show (if false = true then !inV (nS over) (jn.2.map nS) else inV (nS over) (jn.2.map nS)) = true by
          show inV (nS over) (jn.2.map nS) = true
          rw [in_nms, decide_eq_true oin]]
        refine iteT ?_
        refine ⟨.ref jt, rfl, jt, rfl, ⟨_, sqs s3 hjt⟩, fun D nD => ?_⟩
        refine lc_it (walk_tup (xs := jn.2.map nS)) (fun k H4 => Same H3 H4 ∧ H4 D = some (.lst ((fromL (jn.2.take k) over).map nS))) ⟨same_upd nD, upd_same⟩ (fun k H4 _ pv => sqs pv.1 (sqs s3 hjt)) (fun k v H4₀ H4 hk pv yy => ?_) (fun H4 pv => ?_)
        · obtain ⟨rfl, ey⟩ := yy
          obtain ⟨s4, eD⟩ := pv
          obtain ⟨z, ez, rfl⟩ := at_nm ey
          have tk : jn.2.take (k + 1) = jn.2.take k ++ [z] := by rw [List.take_add_one, ez]; rfl
          have j9 := hok.j9 jn jin
          refine ⟨rfl, nS z, rfl, nS over, rfl, rfl, _, rfl, ite2 (fun c2 => ?_) (fun c2 => ?_)⟩
          · rw [ne_dec] at c2
            refine ⟨nS z, rfl, _, eD, small5000 ?_, same_set s4 nD, ?_⟩
            · rw [List.length_map]
              unfold fromL
              refine Nat.le_trans (List.length_filter_le _ _) ?_
              rw [List.length_take]
              omega
            · rw [upd_same, tk]
              unfold fromL
              rw [List.filter_append, List.filter_cons_of_pos (by exact c2), List.map_append]
              rfl
          · rw [ne_dec] at c2
            refine ⟨s4, ?_⟩
            rw [eD, tk]
            unfold fromL
            rw [List.filter_append, List.filter_cons_of_neg (by exact c2), List.filter_nil, List.append_nil]
        · obtain ⟨s4, eD⟩ := pv
          rw [List.length_map, List.take_length] at eD
          refine q _ D (s3.trans s4) ?_ eD
          cases e : H D with
          | none => rfl
          | some o => rw [s3 _ _ e] at nD; cases nD
      · refine ⟨_, _, rfl, s3, ?_⟩
        rcases Nat.lt_or_eq_of_le hle with h | h
        · exact h
        · subst h
          rw [hat] at ej
          have := Option.some.inj ej
          subst this
          rw [eq_dec] at c1
          exact absurd (decide_eq_true rfl) c1
    · obtain ⟨_, _, rfl, s3, hle⟩ := hp
      have := (List.getElem?_eq_some_iff.mp hat).1
      rw [List.length_map, jl] at hle
      omega
def sp_gap_road (K : PySem.W.Frag) : Sp := fun vs H Q _ => ∃ (r : Addr) (x over : Nm) (ls : List Nm) (jns : List (Nm × List Nm)) (jn : Nm × List Nm), vs = [.ref r, nS x, nS jn.1, nS over] ∧ LJ K H r ls jns ∧ LJok ls jns ∧ x ∈ ls ∧ (jns.map (·.1)).Nodup ∧ jn ∈ jns ∧ over ∈ jn.2 ∧
  ∀ H' p (rd : List Nm), Same H H' → H p = none → H' p = some (.lst (rd.map nS)) → Rd' jns (fromL jn.2 over) x rd → Q (.ref p) H'
set_option maxHeartbeats 8000000 in
theorem ok_gap_road (T : Defs K mg) : FnOk P w K mg base CX0 (k + 4) T.a_gap_road T.d_gap_road ["net", "line", "junction", "over"] (sp_gap_road K) := by
  have G_road_to_any : FnOk P w K mg base CX0 (k + 3) _ _ _ _ := ok_road_to_any T
  have G_lines_from : FnOk P w K mg base CX0 (k + 3) _ _ _ _ := ok_lines_from (k := k + 2) T
  refine T.F_gap_road.ok sc_gap_road (fun vs H Q E h => ?_) (fun cdv A outer s H vs Q E hr h => ?_)
  · obtain ⟨r, x, over, ls, jns, jn, rfl, _⟩ := h
    rfl
  · obtain ⟨r, x, over, ls, jns, jn, rfl, hnet, hok, xin, jnd, jin, oin, q⟩ := h
    refine ⟨_, PSs.nox
(pss_one (ps_ret (pe_call G_road_to_any hr (by rfl) T.g_road_to_any T.F_road_to_any.kp T.b_road_to_any .nil pass0 (pa_cons (pv 0) (pa_cons (pv 1) (pa_cons (pe_call G_lines_from hr (by rfl) T.g_lines_from T.F_lines_from.kp T.b_lines_from .nil pass0 (pa_cons (pv 0) (pa_cons (pv 2) (pa_cons (pv 3) pa_nil)))) pa_nil))))))
      , ?_⟩
    refine ⟨.ref r, rfl, nS x, rfl, .ref r, rfl, nS jn.1, rfl, nS over, rfl, r, over, ls, jns, jn, rfl, hnet, hok, jnd, jin, oin, fun H1 fr s1 nfr efr => ?_⟩
    refine ⟨r, fr, x, ls, jns, fromL jn.2 over, rfl, hnet.tk (.of s1), hok, xin, efr, List.Sublist.nodup List.filter_sublist (hok.jnd jn jin), fun f hf => hok.sub jn jin f (mem_fromL.mp hf).1, fun H2 p rd s2 np ep hrd => q H2 p rd (s1.trans s2) ?_ ep hrd⟩
    cases e : H p with
    | none => rfl
    | some o => rw [s1 _ _ e] at np; cases np
end
end Th
namespace Th
open PySem PySem.Spec PyProof.Rows L2
/-! tables of code objects -/
open LamX in
theorem ExtN.seq {K : PySem.W.Frag} {H H' : Hp} {a : Addr} {xs : List V} (e : ExtN H H') (h : SqL K H a xs) : SqL K H' a xs := by
  rcases h with (h | ⟨o, h⟩) | h
  · exact .inl (.inl (e _ _ h fun _ z => nomatch z))
  · exact .inl (.inr ⟨o, e _ _ h fun _ z => nomatch z⟩)
  · exact .inr h
theorem ExtN.free {H H' : Hp} (e : LamX.ExtN H H') {l : Addr} (h : H' l = none) (ht : ∀ ps, H l ≠ some (.tbl ps)) : H l = none := by
  cases q : H l with
  | none => rfl
  | some o =>
    rw [e l o q (fun ps z => ht ps (by rw [q, z]))] at h
    cases h
theorem ExtN.lst {H H' : Hp} (e : LamX.ExtN H H') {l : Addr} {xs : List V} (h : H l = some (.lst xs)) : H' l = some (.lst xs) := e _ _ h fun _ z => nomatch z
theorem ExtN.tup {H H' : Hp} (e : LamX.ExtN H H') {l : Addr} {xs : List V} (h : H l = some (.tup xs)) : H' l = some (.tup xs) := e _ _ h fun _ z => nomatch z
theorem tab_upd {H : Hp} {P p : Addr} {q : Str} {o u : HO} (t : LamX.TabS H P q) (hp : H p = some o) (n1 : ∀ ps, o ≠ .tbl ps) (n2 : ∀ c, o ≠ LamX.CodeO c q) : LamX.TabS (upd H p u) P q := by
  obtain ⟨ps, h1, h2, h3⟩ := t
  refine ⟨ps, ?_, h2, fun pos cv hc => ?_⟩
  · rw [upd_ne (fun z => n1 ps (by rw [← z, h1] at hp; exact (Option.some.inj hp).symm))]
    exact h1
  · obtain ⟨c, e1, e2⟩ := h3 pos cv hc
    refine ⟨c, e1, ?_⟩
    rw [upd_ne (fun z => n2 c (by rw [← z, e2] at hp; exact (Option.some.inj hp).symm))]
    exact e2
theorem lst_ne_code {xs : List V} (c : Addr) (q : Str) : HO.lst xs ≠ LamX.CodeO c q := fun z => by unfold LamX.CodeO at z; cases z
theorem tab_lst {H : Hp} {P p : Addr} {q : Str} {xs : List V} {u : HO} (t : LamX.TabS H P q) (hp : H p = some (.lst xs)) : LamX.TabS (upd H p u) P q :=
  tab_upd t hp (fun _ z => nomatch z) fun c => lst_ne_code c q
theorem ext_fresh {H H' : Hp} {p : Addr} {u : HO} (n : H p = none) (e : LamX.ExtN H H') : LamX.ExtN H (upd H' p u) := fun b o h nt => by
  rw [upd_ne (ne_of_none h n)]
  exact e b o h nt
theorem cut_take (xs : List V) (m : Nat) : cutV xs none (some (m : Int)) = xs.take m := by
  unfold cutV
  rw [HT.sIx_none, HT.sIx_nat]
  show (xs.drop 0).take (min m xs.length - 0) = xs.take m
  rw [List.drop_zero, Nat.sub_zero]
  by_cases h : m ≤ xs.length
  · rw [Nat.min_eq_left h]
  · rw [Nat.min_eq_right (by omega), List.take_length, List.take_of_length_le (by omega)]
theorem sum_lt : ∀ (ws : List Int), (∀ w ∈ ws, 0 ≤ w ∧ w < 2 ^ 63) → 0 ≤ ws.sum ∧ ws.sum ≤ ws.length * 2 ^ 63
  | [], _ => by simp
  | w :: ws, h => by
    have h1 := h w (List.mem_cons_self ..)
    have h2 := sum_lt ws fun x hx => h x (List.mem_cons_of_mem _ hx)
    rw [List.sum_cons, List.length_cons]
    omega
theorem wide_ok {z : Int} (h0 : 0 < z) (h1 : z ≤ 1000 * 2 ^ 63) : CDivW 0 z := by
  refine ⟨h0, ?_⟩
  refine Nat.lt_of_le_of_lt ?_ (show 99 < 9000 by decide)
  have h2 : z.natAbs < 2 ^ 100 := by omega
  have h3 : z.natAbs ≠ 0 := by omega
  have := (Nat.log2_lt h3).mpr h2
  omega
section
variable {P : Program} {w : World} {K : PySem.W.Frag} {mg : Str → Option Value} {base : Heap} {k : Nat}
/-- the rule for a def whose code object is known -/
theorem okC {x : Str} {st : Stmt} {f : Addr} {fd : FuncData} {N ps : List Str} {sp : Sp} (F : FnP K x st f fd) (S : FnScope N ps (defScope st)) (len : ∀ vs H Q E, sp vs H Q E → vs.length = ps.length)
    (hb : ∀ (A : Around) (outer : List Env) (s : Shared) (H : Hp) (vs : List V) (Q : VK) (E : XK), Room k (A.deeper (envOfC x (defScope st) s.heap.objs.size f fd.code)) → sp vs H Q E →
      ∃ t, PSs (cxOf CX0 P w K mg base N x (defScope st) f fd.code A outer s H E) (defBody st) t ∧ t { nx := fun _ H' => Q .non H', rt := Q } (start N vs) H) : FnOk P w K mg base CX0 (k + 1) f fd ps sp := by
  obtain ⟨oc, od, dV, kV, doc, pm, an, cdv, ct, osl, rfl, lk, hcd, _, _⟩ := F.ex
  exact fn_of lk hcd S len fun A outer s H vs Q E hr hsp => hb A outer s H vs Q E hr hsp
end
theorem ext_keep {H H1 H2 : Hp} {p : Addr} (e : LamX.ExtN H H1) (k : Keep p H1 H2) (n : H p = none) : LamX.ExtN H H2 := fun b o h nt => k b o (ne_of_none h n) (e b o h nt)
theorem ext_upd {H H1 : Hp} {p : Addr} {u : HO} (e : LamX.ExtN H H1) (n : H p = none) : LamX.ExtN H (upd H1 p u) := fun b o h nt => by
  rw [upd_ne (ne_of_none h n)]
  exact e b o h nt
theorem ext_same {H H1 H2 : Hp} (e : LamX.ExtN H H1) (s : Same H1 H2) : LamX.ExtN H H2 := e.trans (.of s)
/-- a store to what was new behind H1 -/
theorem ext_upd2 {H H1 H2 : Hp} {p : Addr} {u : HO} (e1 : LamX.ExtN H H1) (n : H1 p = none) (e2 : LamX.ExtN H H2) : LamX.ExtN H (upd H2 p u) := fun b o h nt => by
  rw [upd_ne (ne_of_none (e1 b o h nt) n)]
  exact e2 b o h nt
theorem tab_keep {H H' : Hp} {P p : Addr} {q : Str} (t : LamX.TabS H P q) (k : Keep p H H') (b : Bag H p) : LamX.TabS H' P q := by
  obtain ⟨ps, h1, h2, h3⟩ := t
  obtain ⟨g, r, eb, _⟩ := b
  refine ⟨ps, k _ _ (fun z => by rw [z, eb] at h1; cases h1) h1, h2, fun pos cv hc => ?_⟩
  obtain ⟨c, e1, e2⟩ := h3 pos cv hc
  refine ⟨c, e1, k _ _ (fun z => ?_) e2⟩
  rw [z, eb] at e2
  exact lst_ne_code _ q (Option.some.inj e2)
/-- p is none of what stood, tables aside -/
def NewN (H : Hp) (p : Addr) : Prop := ∀ b o, H b = some o → (∀ ps, o ≠ .tbl ps) → b ≠ p
theorem NewN.of {H : Hp} {p : Addr} (h : H p = none) : NewN H p := fun b o hb _ => ne_of_none hb h
theorem NewN.back {H H1 : Hp} {p : Addr} (e : LamX.ExtN H H1) (h : H1 p = none) : NewN H p := fun b o hb nt => ne_of_none (e b o hb nt) h
theorem NewN.lst {H : Hp} {p b : Addr} {xs : List V} (n : NewN H p) (h : H b = some (.lst xs)) : b ≠ p := n b _ h fun _ z => nomatch z
theorem ext_upd3 {H H1 H2 : Hp} {p : Addr} {u : HO} (e1 : LamX.ExtN H H1) (n : NewN H1 p) (e2 : LamX.ExtN H H2) : LamX.ExtN H (upd H2 p u) := fun b o h nt => by
  rw [upd_ne (n b o (e1 b o h nt) nt)]
  exact e2 b o h nt
end Th
namespace Th
open PySem PySem.Spec PyProof.Rows L2
/-! a wagon's returns, what lacks, the fewest wrong ones onward -/
open Rm
structure Rt where
  num : Int
  jn : Nm
  day : Int
  hour : Int
  over : Nm
  xs : List V
structure RtOk (r : Rt) : Prop where
  i1 : r.xs[1]? = some (.int r.num)
  i3 : r.xs[3]? = some (nS r.jn)
  i4 : r.xs[4]? = some (.int r.day)
  i5 : r.xs[5]? = some (.int r.hour)
  i7 : r.xs[7]? = some (nS r.over)
def RtA (H : Hp) (t : Addr) (r : Rt) : Prop := H t = some (.tup r.xs)
/-- a return that fits the net -/
def RtFit (jns : List (Nm × List Nm)) (r : Rt) : Prop := ∃ j ∈ jns, j.1 = r.jn ∧ r.over ∈ j.2
def jLines (jns : List (Nm × List Nm)) (n : Nm) : List Nm := ((jns.find? fun j => decide (j.1 = n)).map (·.2)).getD []
def fars (jns : List (Nm × List Nm)) (r : Rt) : List Nm := fromL (jLines jns r.jn) r.over
theorem jLines_of {jns : List (Nm × List Nm)} {j : Nm × List Nm} (nd : (jns.map (·.1)).Nodup) (h : j ∈ jns) : jLines jns j.1 = j.2 := by
  have key : ∀ js : List (Nm × List Nm), (js.map (·.1)).Nodup → j ∈ js → js.find? (fun x => decide (x.1 = j.1)) = some j := fun js => by
    induction js with
    | nil => exact fun _ h => (by cases h)
    | cons x r ih =>
      intro nd hm
      rw [List.map_cons, List.nodup_cons] at nd
      by_cases c : x.1 = j.1
      · rcases List.mem_cons.mp hm with z | z
        · rw [← z, List.find?_cons_of_pos (by simp)]
        · exact absurd (by rw [c]; exact List.mem_map_of_mem (f := (·.1)) z) nd.1
      · rw [List.find?_cons_of_neg (by simp only [decide_eq_true_eq]; exact c)]
        rcases List.mem_cons.mp hm with z | z
        · exact absurd (by rw [z]) c
        · exact ih nd.2 z
  unfold jLines
  rw [key jns nd h]
  rfl
/-- how many lack ahead of a return, from a line -/
noncomputable def lackF (jns : List (Nm × List Nm)) (r : Rt) (l : Nm) : Option Nat := open Classical in if h : ∃ n, AF jns (fars jns r) n l then some (Classical.choose h) else none
theorem lackF_some {jns : List (Nm × List Nm)} {r : Rt} {l : Nm} {n : Nat} : lackF jns r l = some n ↔ AF jns (fars jns r) n l := by
  unfold lackF
  constructor
  · intro h
    split at h
    · rename_i c
      have := Option.some.inj h
      rw [← this]
      exact Classical.choose_spec c
    · cases h
  · intro h
    have c : ∃ n, AF jns (fars jns r) n l := ⟨n, h⟩
    rw [dif_pos c]
    exact congrArg some ((Classical.choose_spec c).eq h)
theorem lackF_none {jns : List (Nm × List Nm)} {r : Rt} {l : Nm} : lackF jns r l = none ↔ ∀ n, ¬ AF jns (fars jns r) n l := by
  constructor
  · intro h n hn
    rw [lackF_some.mpr hn] at h
    cases h
  · intro h
    cases e : lackF jns r l with
    | none => rfl
    | some n => exact absurd (lackF_some.mp e) (h n)
theorem sa_val {jns : List (Nm × List Nm)} {r : Rt} {kvs : List (Key × V)} (h : SA' jns (fars jns r) kvs) (l : Nm) : valV kvs (Sum.inr (SX.S l)) = (lackF jns r l).map fun n => V.int ((n : Nat) : Int) := by
  rcases h l with ⟨n, h1, h2⟩ | ⟨h1, h2⟩
  · rw [h2, lackF_some.mpr h1]
    rfl
  · rw [h2, lackF_none.mpr h1]
    rfl
/-- the fewest wrong ones onward -/
noncomputable def Fw (jns : List (Nm × List Nm)) : List Rt → Nm → Nat
  | [], _ => 0
  | r :: rs, l => match lackF jns r l with
    | none => Fw jns rs l + 1
    | some k => min (Fw jns rs l + 1) (k + Fw jns rs r.over)
/-- the order of returns -/
def kR (r : Rt) : Int × Int × Int := (r.day, r.hour, r.num)
def sortR (rs : List Rt) : List Rt := rs.mergeSort (PySem.W.dataLe false (Lr.key3 kR))
def vI : Option V → Int
  | some (.int i) => i
  | _ => 0
def fAt (H : Hp) (t : Addr) : Int × Int × Int := match H t with
  | some (.tup xs) => (vI xs[4]?, vI xs[5]?, vI xs[1]?)
  | _ => (0, 0, 0)
theorem fAt_of {H : Hp} {t : Addr} {r : Rt} (h : RtA H t r) (ok : RtOk r) : fAt H t = kR r := by
  unfold fAt
  rw [show H t = some (.tup r.xs) from h]
  show (vI r.xs[4]?, vI r.xs[5]?, vI r.xs[1]?) = _
  rw [ok.i4, ok.i5, ok.i1]
  rfl
theorem paired_zip {α β : Type} {R : α → β → Prop} : ∀ {as : List α} {bs : List β}, Paired R as bs → (as.zip bs).map (·.1) = as ∧ (as.zip bs).map (·.2) = bs ∧ ∀ p ∈ as.zip bs, R p.1 p.2
  | _, _, .nil => ⟨rfl, rfl, fun p h => (by cases h)⟩
  | _, _, .cons h t => by
    obtain ⟨a, b, c⟩ := paired_zip t
    refine ⟨by rw [List.zip_cons_cons, List.map_cons, a], by rw [List.zip_cons_cons, List.map_cons, b], fun p hp => ?_⟩
    rw [List.zip_cons_cons] at hp
    rcases List.mem_cons.mp hp with z | z
    · rw [z]; exact h
    · exact c p z
theorem paired_of {α β : Type} {R : α → β → Prop} : ∀ {ps : List (α × β)}, (∀ p ∈ ps, R p.1 p.2) → Paired R (ps.map (·.1)) (ps.map (·.2))
  | [], _ => .nil
  | p :: ps, h => .cons (h p List.mem_cons_self) (paired_of fun q hq => h q (List.mem_cons_of_mem _ hq))
theorem sort_pairs {R : Addr → Rt → Prop} {f : Addr → Int × Int × Int} {ts : List Addr} {rs : List Rt} (h : Paired R ts rs) (hf : ∀ t r, t ∈ ts → r ∈ rs → R t r → f t = kR r) : Paired R (ts.mergeSort (PySem.W.dataLe false (Lr.key3 f))) (sortR rs) := by
  obtain ⟨e1, e2, e3⟩ := paired_zip h
  have hk : ∀ p ∈ ts.zip rs, f p.1 = kR p.2 := fun p hp => hf _ _ (List.of_mem_zip hp).1 (List.of_mem_zip hp).2 (e3 p hp)
  have m1 := List.map_mergeSort (r := PySem.W.dataLe false (Lr.key3 fun p : Addr × Rt => kR p.2)) (s := PySem.W.dataLe false (Lr.key3 f)) (f := fun p : Addr × Rt => p.1) (l := ts.zip rs) fun a ha b hb => by
    have ea : Lr.key3 (fun p : Addr × Rt => kR p.2) a = Lr.key3 f a.1 := by unfold Lr.key3; rw [hk a ha]
    have eb : Lr.key3 (fun p : Addr × Rt => kR p.2) b = Lr.key3 f b.1 := by unfold Lr.key3; rw [hk b hb]
    unfold PySem.W.dataLe PySem.W.sortLe
    simp only [ea, eb]
  have m2 := List.map_mergeSort (r := PySem.W.dataLe false (Lr.key3 fun p : Addr × Rt => kR p.2)) (s := PySem.W.dataLe false (Lr.key3 kR)) (f := fun p : Addr × Rt => p.2) (l := ts.zip rs) fun a ha b hb => rfl
  rw [e1] at m1
  rw [e2] at m2
  unfold sortR
  rw [← m1, ← m2]
  exact paired_of fun p hp => e3 p ((List.mergeSort_perm _ _).mem_iff.mp hp)
theorem sortR_perm (rs : List Rt) : (sortR rs).Perm rs := List.mergeSort_perm _ _
end Th
namespace Th
open PySem PySem.Spec PyProof.Rows L2
/-! in order; what lacks ahead of each return -/
section
variable {P : Program} {w : World} {K : PySem.W.Frag} {mg : Str → Option Value} {base : Heap} {k : Nat}
abbrev qIn : Str := (Str.ofString "in_order" ++ Str.ofString ".<locals>.") ++ Str.ofString "<lambda>"
abbrev TabI (T : Defs K mg) (H : Hp) : Prop := LamX.TabS H T.tp_in_order qIn
def sp_in_order (T : Defs K mg) : Sp := fun vs H Q _ => ∃ (l : Addr) (ts : List Addr) (rs : List Rt), vs = [.ref l] ∧ SqL K H l (ts.map V.ref) ∧ Paired (RtA H) ts rs ∧ (∀ r ∈ rs, RtOk r) ∧ ts.length ≤ 1000 ∧ TabI T H ∧
  ∀ H' p ts', LamX.ExtN H H' → TabI T H' → NewN H p → H' p = some (.lst (ts'.map V.ref)) → Paired (RtA H') ts' (sortR rs) → (∀ t ∈ ts', t ∈ ts) → Q (.ref p) H'
theorem RtA.ext {H H' : Hp} {t : Addr} {r : Rt} (h : RtA H t r) (e : LamX.ExtN H H') : RtA H' t r := e _ _ h fun _ z => (nomatch z)
theorem ok_in_order (T : Defs K mg) (TB : LamX.TabB base mg T.cc_in_order T.tp_in_order) : FnOk P w K mg base CX0 4 T.a_in_order T.d_in_order ["returns"] (sp_in_order T) := by
  refine okC T.F_in_order sc_in_order (fun vs H Q E h => ?_) (fun A outer s H vs Q E hr h => ?_)
  · obtain ⟨l, ts, rs, rfl, _⟩ := h
    rfl
  · obtain ⟨l, ts, rs, rfl, hl, hp, hok, t1000, hT, q⟩ := h
    refine ⟨_, PSs.nox
(pss_one (ps_ret (Lr.pe_sortedRow (k := 0) (n1 := 4) (n2 := 5) (n3 := 1) rfl (by rfl) T.z_sorted (pv 0) TB T.dc_in_order (Lr.lam0_by rfl rfl rfl (by decide +kernel) (by decide +kernel) (by decide +kernel) (by decide +kernel) (by decide +kernel)) rfl T.c_DAY T.c_HOUR T.c_NUMBER (by decide) (fun _ _ _ _ _ _ _ => rfl) hr (by decide) (by decide) (by decide) (by decide))))
      , ?_⟩
    refine ⟨.ref l, rfl, l, ts, fAt H, rfl, by omega, hl, fun t ht => ?_, hT, fun H2 p e2 t2 np => ?_⟩
    · obtain ⟨i, hi⟩ := List.getElem?_of_mem ht
      obtain ⟨r, hr', ha⟩ := paired_get hp hi
      have ok := hok r (List.mem_of_getElem? hr')
      refine ⟨r.xs, SqT.of ha, ?_⟩
      rw [fAt_of ha ok]
      exact ⟨ok.i4, ok.i5, ok.i1⟩
    · have hs := sort_pairs hp (f := fAt H) fun t r _ hr' h => fAt_of h (hok r hr')
      have s3 := same_upd (o := .lst ((ts.mergeSort (PySem.W.dataLe false (Lr.key3 (fAt H)))).map V.ref)) np
      exact q _ p _ (ext_same e2 s3) (t2.ext s3) (.back e2 np) upd_same (paired_imp hs fun t _ r h => (h.ext e2).ext (.of s3)) fun t ht => (List.mergeSort_perm _ _).mem_iff.mp ht
end
/-- a place of a return -/
abbrev kP (r : Rt) : List Key := [Sum.inr (SX.S r.jn), Sum.inr (SX.S r.over)]
theorem kP_inj {r r' : Rt} (h : kP r = kP r') : r.jn = r'.jn ∧ r.over = r'.over := by
  injection h with h1 h2
  injection h2 with h3 _
  exact ⟨SX.S_inj (Sum.inr.inj h1), SX.S_inj (Sum.inr.inj h3)⟩
theorem fars_eq {jns : List (Nm × List Nm)} {r r' : Rt} (h : kP r = kP r') : fars jns r = fars jns r' := by
  obtain ⟨a, b⟩ := kP_inj h
  unfold fars
  rw [a, b]
/-- a dict that tells what lacks ahead of a return -/
def LkA (jns : List (Nm × List Nm)) (H : Hp) (d : Addr) (r : Rt) : Prop := ∃ kvs, H d = some (.dK kvs) ∧ SA' jns (fars jns r) kvs
theorem LkA.same {jns : List (Nm × List Nm)} {H H' : Hp} {d : Addr} {r : Rt} (h : LkA jns H d r) (s : Same H H') : LkA jns H' d r := let ⟨kvs, e, h⟩ := h; ⟨kvs, s _ _ e, h⟩
/-- what is known of places so far -/
def FdA (jns : List (Nm × List Nm)) (H : Hp) (F : Addr) (kvs : List (List Key × V)) (rs : List Rt) : Prop := H F = some (.dT kvs) ∧ kvs.length ≤ rs.length ∧ (∀ r v, valV kvs (kP r) = some v → ∃ d, v = .ref d ∧ d ≠ F ∧ LkA jns H d r) ∧ ∀ r ∈ rs, ∃ v, valV kvs (kP r) = some v
section
variable {P : Program} {w : World} {K : PySem.W.Frag} {mg : Str → Option Value} {base : Heap} {k : Nat}
def sp_lacks_ahead (K : PySem.W.Frag) : Sp := fun vs H Q _ => ∃ (r l : Addr) (ts : List Addr) (rs : List Rt) (ls : List Nm) (jns : List (Nm × List Nm)), vs = [.ref r, .ref l] ∧ H l = some (.lst (ts.map V.ref)) ∧ Paired (RtA H) ts rs ∧ (∀ r ∈ rs, RtOk r ∧ RtFit jns r) ∧ ts.length ≤ 1000 ∧ LJ K H r ls jns ∧ LJok ls jns ∧ (jns.map (·.1)).Nodup ∧
  ∀ H' p ds, Same H H' → H p = none → H' p = some (.lst (ds.map V.ref)) → Paired (LkA jns H') ds rs → Q (.ref p) H'
set_option maxHeartbeats 8000000 in
theorem ok_lacks_ahead (T : Defs K mg) : FnOk P w K mg base CX0 (k + 3) T.a_lacks_ahead T.d_lacks_ahead ["net", "rows"] (sp_lacks_ahead K) := by
  have G_lines_beside : FnOk P w K mg base CX0 (k + 2) _ _ _ _ := ok_lines_beside T
  have G_lines_from : FnOk P w K mg base CX0 (k + 2) _ _ _ _ := ok_lines_from (k := k + 1) T
  have G_steps_to : FnOk P w K mg base CX0 (k + 2) _ _ _ _ := ok_steps_to (k := k + 1) T
  refine T.F_lacks_ahead.ok sc_lacks_ahead (fun vs H Q E h => ?_) (fun cdv A outer s H vs Q E hr h => ?_)
  · obtain ⟨r, l, ts, rs, ls, jns, rfl, _⟩ := h
    rfl
  · obtain ⟨r, l, ts, rs, ls, jns, rfl, el, hp, hrs, t1000, hlj, hok, jnd, q⟩ := h
    refine ⟨_, PSs.nox
(pss_cons (ps_set (i := 2) sc_lacks_ahead.nd rfl (.inl rfl) (pe_call G_lines_beside hr (by rfl) T.g_lines_beside T.F_lines_beside.kp T.b_lines_beside .nil pass0 (pa_cons (pv 0) pa_nil)))
    (pss_cons (ps_set (i := 3) sc_lacks_ahead.nd rfl (.inr rfl) (pe_dnewT))
    (pss_cons (ps_for PassesOwn.never rfl (pi_list (pv 1)) (pg_name (i := 4) sc_lacks_ahead.nd rfl (.inl rfl))
      (pss_cons (ps_set (i := 5) sc_lacks_ahead.nd rfl (.inl rfl) (pe_tup (pa_cons (pe_ix (r := rIxT K) ix_tup (pv 4) (pe_glob (v := .int 3) (by rfl) T.c_JUNCTION ⟨_, rfl⟩) (fun _ _ => rfl)) (pa_cons (pe_ix (r := rIxT K) ix_tup (pv 4) (pe_glob (v := .int 7) (by rfl) T.c_OVER ⟨_, rfl⟩) (fun _ _ => rfl)) pa_nil))))
      (pss_one (ps_if (pt_cmp (pc_dnotin (hu_of hr) (pv 5) (pv 3)))
        (pss_one (ps_dput (hu_of hr) (pv 3) (pv 5) (pe_call G_steps_to hr (by rfl) T.g_steps_to T.F_steps_to.kp T.b_steps_to .nil pass0 (pa_cons (pv 2) (pa_cons (pe_call G_lines_from hr (by rfl) T.g_lines_from T.F_lines_from.kp T.b_lines_from .nil pass0 (pa_cons (pv 0) (pa_cons (pe_ix (r := rIxT K) ix_tup (pv 4) (pe_glob (v := .int 3) (by rfl) T.c_JUNCTION ⟨_, rfl⟩) (fun _ _ => rfl)) (pa_cons (pe_ix (r := rIxT K) ix_tup (pv 4) (pe_glob (v := .int 7) (by rfl) T.c_OVER ⟨_, rfl⟩) (fun _ _ => rfl)) pa_nil)))) pa_nil))) (by rfl)))
        pss_nil))))
    (pss_one (ps_ret (pe_lc (own := [("row", 4)]) (g := gName 4) rfl sc_lacks_ahead.nd (pi_list (pv 1)) (blkOk_by (N := N_lacks_ahead) (sc := defScope s_lacks_ahead) (by decide +kernel)) (fun _ _ _ _ _ => (pg_name (i := 4) sc_lacks_ahead.nd rfl (.inl rfl))) (fun _ _ _ _ _ => pts_nil) (fun _ _ _ _ _ => (pe_dget (hu_of hr) (pv 3) (pe_tup (pa_cons (pe_ix (r := rIxT K) ix_tup (pv 4) (pe_glob (v := .int 3) (by rfl) T.c_JUNCTION ⟨_, rfl⟩) (fun _ _ => rfl)) (pa_cons (pe_ix (r := rIxT K) ix_tup (pv 4) (pe_glob (v := .int 7) (by rfl) T.c_OVER ⟨_, rfl⟩) (fun _ _ => rfl)) pa_nil))) (fun _ _ => rfl)))))))))
      , ?_⟩
    have tl := paired_len hp
    refine ⟨.ref r, rfl, r, ls, jns, rfl, hlj, hok, fun H1 B s1 nB hB => ?_⟩
    refine fun F nF => ?_
    have nF0 := up0 s1 nF
    have s2 := same_upd (o := .dT []) nF
    have s02 := s1.trans s2
    refine ⟨.ref l, rfl, l, rfl, ⟨_, SqL.of (s02 _ _ el)⟩, ?_⟩
    refine for_it (walk_list (xs := ts.map V.ref)) (fun i σ H3 => ∃ ys : List (Option V), ys.length = 2 ∧ σ = some (.ref r) :: some (.ref l) :: some (.ref B) :: some (.ref F) :: ys ∧ Same H H3 ∧ Same H1 H3 ∧ ∃ kvs, FdA jns H3 F kvs (rs.take i))
      ⟨_, rfl, rfl, s02, s2, [], upd_same, Nat.zero_le _, fun r v z => (by cases z), fun r hr => (by cases hr)⟩ (fun i σ H3 _ hp => ?_) (fun i v σ H3₀ H3 hi hp' yy => ?_) (fun σ H3 hp' => ?_)
    · obtain ⟨_, _, _, s3, _⟩ := hp
      exact SqL.of (s3 _ _ el)
    · obtain ⟨rfl, ex⟩ := yy
      obtain ⟨ys, hys, rfl, s3, s13, kvs, eF, kl, hval, hall⟩ := hp'
      match ys, hys with
      | [y4, y5], _ =>
      rw [List.length_map] at hi
      obtain ⟨t, et, rfl⟩ := at_ref ex
      obtain ⟨rr, er, ht⟩ := paired_get hp et
      obtain ⟨rok, j, jin, ej, oin⟩ := hrs rr (List.mem_of_getElem? er)
      have ht3 := s3 _ _ ht
      have tk1 : rs.take (i + 1) = rs.take i ++ [rr] := by rw [List.take_add_one, er]; rfl
      rw [List.length_take] at kl
      refine ⟨.ref t, rfl, t, _, 3, _, rfl, rfl, SqT.of ht3, atI_nat (j := 3) rok.i3, .ref t, rfl, t, _, 7, _, rfl, rfl, SqT.of ht3, atI_nat (j := 7) rok.i7, two_sz, fun u nu => ?_⟩
      have su := same_upd (o := .tup [nS rr.jn, nS rr.over]) nu
      have eFu := su _ _ eF
      have eu : (upd H3 u (.tup [nS rr.jn, nS rr.over])) u = some (.tup ((kP rr).map kV)) := upd_same
      have s3u := s3.trans su
      have s13u := s13.trans su
      have hval' : ∀ r v, valV kvs (kP r) = some v → ∃ d, v = .ref d ∧ d ≠ F ∧ LkA jns (upd H3 u (.tup [nS rr.jn, nS rr.over])) d r := fun r v z => let ⟨d, e1, e2, e3⟩ := hval r v z; ⟨d, e1, e2, e3.same su⟩
      have ht4 := su _ _ ht3
      generalize upd H3 u (.tup [nS rr.jn, nS rr.over]) = H4 at su eFu eu s3u s13u hval' ht4
      refine ⟨.ref u, rfl, .ref F, rfl, F, _, rfl, DGet.t (k := kP rr) eFu eu, _, rfl, ite2 (fun c => ?_) (fun c => ?_)⟩
      · refine ⟨.ref B, rfl, .ref r, rfl, .ref t, rfl, t, _, 3, _, rfl, rfl, SqT.of ht4, atI_nat (j := 3) rok.i3, .ref t, rfl, t, _, 7, _, rfl, rfl, SqT.of ht4, atI_nat (j := 7) rok.i7, ?_⟩
        refine ⟨r, rr.over, ls, jns, j, by rw [ej]; rfl, hlj.tk (.of s3u), hok, jnd, jin, oin, fun H5 fr s5 nfr efr => ?_⟩
        have hfr : fromL j.2 rr.over = fars jns rr := by
          unfold fars
          rw [← ej, jLines_of jnd jin]
        refine ⟨B, fr, ls, jns, fromL j.2 rr.over, rfl, (hB.same s13u).same s5, hok, efr, ?_, fun f hf => hok.sub j jin f (mem_fromL.mp hf).1, fun H6 d kv s6 nd ed hsa => ?_⟩
        · unfold fromL
          exact (hok.jnd j jin).filter _
        rw [hfr] at hsa
        have s46 := s5.trans s6
        have eF6 := s46 _ _ eFu
        have eu6 := s46 _ _ eu
        have ndF : d ≠ F := fun z => by
          have := s5 _ _ eFu
          rw [z, this] at nd
          cases nd
        refine ⟨.ref F, rfl, .ref u, rfl, F, _, rfl, DPut.t (k := kP rr) eF6 eu6 (small5000 (by omega)), ?_⟩
        have ofF : ∀ d' r', d' ≠ F → LkA jns H6 d' r' → LkA jns (upd H6 F (.dT (putK kvs (kP rr) (.ref d)))) d' r' := fun d' r' nd' ⟨kv', e1, e2⟩ => ⟨kv', by rw [upd_ne nd']; exact e1, e2⟩
        refine ⟨[some (.ref t), some (.ref u)], rfl, rfl, same_set (s3u.trans s46) nF0, same_set (s13u.trans s46) nF, putK kvs (kP rr) (.ref d), upd_same, ?_, fun r' v' z => ?_, fun r' hr' => ?_⟩
        · rw [tk1, List.length_append, List.length_singleton, List.length_take]
          have := length_putK kvs (kP rr) (.ref d)
          omega
        · rw [valV_put] at z
          by_cases ck : kP r' = kP rr
          · rw [if_pos ck] at z
            exact ⟨d, (Option.some.inj z).symm, ndF, ofF d r' ndF ⟨kv, ed, by rw [fars_eq ck]; exact hsa⟩⟩
          · rw [if_neg ck] at z
            obtain ⟨d', e1, e2, e3⟩ := hval' r' v' z
            exact ⟨d', e1, e2, ofF d' r' e2 (e3.same s46)⟩
        · rw [valV_put]
          by_cases ck : kP r' = kP rr
          · rw [if_pos ck]; exact ⟨_, rfl⟩
          · rw [if_neg ck]
            rw [tk1] at hr'
            rcases List.mem_append.mp hr' with z | z
            · exact hall r' z
            · exact absurd (by rw [List.mem_singleton.mp z]) ck
      · have hsome : ∃ v, valV kvs (kP rr) = some v := by
          cases z : valV kvs (kP rr) with
          | some v => exact ⟨v, rfl⟩
          | none => rw [z] at c; exact absurd rfl c
        refine ⟨[some (.ref t), some (.ref u)], rfl, rfl, s3u, s13u, kvs, eFu, ?_, hval', fun r' hr' => ?_⟩
        · rw [tk1, List.length_append, List.length_singleton, List.length_take]
          omega
        · rw [tk1] at hr'
          rcases List.mem_append.mp hr' with z | z
          · exact hall r' z
          · rw [List.mem_singleton.mp z]
            exact hsome
    · obtain ⟨ys, hys, rfl, s3, s13, kvs, eF, kl, hval, hall⟩ := hp'
      match ys, hys with
      | [y4, y5], _ =>
      rw [List.length_map, tl, List.take_length] at hall
      refine ⟨.ref l, rfl, l, rfl, ⟨_, SqL.of (s3 _ _ el)⟩, fun D nD => ?_⟩
      have nD0 := up0 s3 nD
      refine lc_it (walk_list (xs := ts.map V.ref)) (fun i Hx => Same H3 Hx ∧ ∃ ds : List Addr, Hx D = some (.lst (ds.map V.ref)) ∧ Paired (LkA jns Hx) ds (rs.take i)) ⟨same_upd nD, [], upd_same, .nil⟩ (fun i Hx _ pv => SqL.of (pv.1 _ _ (s3 _ _ el))) (fun i v Hx₀ Hx hi pv yy => ?_) (fun H4 pv => ?_)
      · obtain ⟨rfl, ex⟩ := yy
        obtain ⟨sx, ds, eD, hds⟩ := pv
        obtain ⟨t, et, rfl⟩ := at_ref ex
        obtain ⟨rr, er, ht⟩ := paired_get hp et
        obtain ⟨rok, _⟩ := hrs rr (List.mem_of_getElem? er)
        have htx := sx _ _ (s3 _ _ ht)
        obtain ⟨v, hv⟩ := hall rr (List.mem_of_getElem? er)
        obtain ⟨d, rfl, ndF, hd⟩ := hval rr v hv
        have dl := paired_len hds
        rw [List.length_take] at dl
        refine ⟨rfl, yes_ ⟨.ref F, rfl, .ref t, rfl, t, _, 3, _, rfl, rfl, SqT.of htx, atI_nat (j := 3) rok.i3, .ref t, rfl, t, _, 7, _, rfl, rfl, SqT.of htx, atI_nat (j := 7) rok.i7, two_sz, fun u nu => ?_⟩⟩
        have su := same_upd (o := .tup [nS rr.jn, nS rr.over]) nu
        have eu : (upd Hx u (.tup [nS rr.jn, nS rr.over])) u = some (.tup ((kP rr).map kV)) := upd_same
        have hg := DGet.t (k := kP rr) (su _ _ (sx _ _ eF)) eu
        rw [hv] at hg
        have eD' := su _ _ eD
        refine ⟨F, .ref d, rfl, hg, _, eD', by rw [List.length_map]; exact small5000 (by omega), same_set (sx.trans su) nD, ds ++ [d], by rw [upd_same, List.map_append]; rfl, ?_⟩
        have off : ∀ d' r', LkA jns (upd Hx u (.tup [nS rr.jn, nS rr.over])) d' r' → LkA jns (upd (upd Hx u (.tup [nS rr.jn, nS rr.over])) D (.lst (ds.map V.ref ++ [.ref d]))) d' r' := fun d' r' ⟨kv', e1, e2⟩ => ⟨kv', by rw [upd_ne fun z => by rw [z, eD'] at e1; cases e1]; exact e1, e2⟩
        rw [List.take_add_one, er]
        exact paired_snoc (paired_imp hds fun d' _ r' h => off d' r' (h.same su)) (off d rr ((hd.same sx).same su))
      obtain ⟨s4, ds, eD, hds⟩ := pv
      rw [List.length_map, tl, List.take_length] at hds
      exact q _ D ds (s3.trans s4) nD0 eD hds
end
end Th
namespace Th
open PySem PySem.Spec PyProof.Rows L2
theorem paired_rev {α β : Type} {R : α → β → Prop} : ∀ {as : List α} {bs : List β}, Paired R as bs → Paired R as.reverse bs.reverse
  | _, _, .nil => .nil
  | _, _, .cons h t => by
    rw [List.reverse_cons, List.reverse_cons]
    exact paired_snoc (paired_rev t) h
/-! the fewest wrong returns onward -/
/-- a dict that tells the fewest wrong ones of what is left, line by line -/
def FwA (jns : List (Nm × List Nm)) (ls : List Nm) (H : Hp) (d : Addr) (rs : List Rt) : Prop := ∃ kvs, H d = some (.dK kvs) ∧ ∀ l ∈ ls, valV kvs (Sum.inr (SX.S l)) = some (.int ((Fw jns rs l : Nat) : Int))
theorem FwA.same {jns : List (Nm × List Nm)} {ls : List Nm} {H H' : Hp} {d : Addr} {rs : List Rt} (h : FwA jns ls H d rs) (s : Same H H') : FwA jns ls H' d rs := let ⟨kvs, e, h⟩ := h; ⟨kvs, s _ _ e, h⟩
theorem FwA.off {jns : List (Nm × List Nm)} {ls : List Nm} {H : Hp} {d D : Addr} {rs : List Rt} {xs : List V} {o : HO} (h : FwA jns ls H d rs) (e : H D = some (.lst xs)) : FwA jns ls (upd H D o) d rs := let ⟨kvs, e1, h⟩ := h; ⟨kvs, by rw [upd_ne fun z => by rw [z, e] at e1; cases e1]; exact e1, h⟩
theorem LkA.off {jns : List (Nm × List Nm)} {H : Hp} {d D : Addr} {r : Rt} {xs : List V} {o : HO} (h : LkA jns H d r) (e : H D = some (.lst xs)) : LkA jns (upd H D o) d r := let ⟨kvs, e1, h⟩ := h; ⟨kvs, by rw [upd_ne fun z => by rw [z, e] at e1; cases e1]; exact e1, h⟩
abbrev sufR (rs : List Rt) (i : Nat) : List (List Rt) := (List.range (i + 1)).map fun j => rs.drop (rs.length - j)
theorem sufR_succ (rs : List Rt) (i : Nat) : sufR rs (i + 1) = sufR rs i ++ [rs.drop (rs.length - (i + 1))] := by
  unfold sufR
  rw [List.range_succ, List.map_append]
  rfl
theorem sufR_rev (rs : List Rt) : (sufR rs rs.length).reverse = (List.range (rs.length + 1)).map fun i => rs.drop i := by
  refine List.ext_getElem? fun i => ?_
  by_cases c : i < rs.length + 1
  · rw [List.getElem?_reverse (by rw [List.length_map, List.length_range]; exact c), List.getElem?_map, List.getElem?_map, List.length_map, List.length_range, List.getElem?_range (by omega), List.getElem?_range c]
    show some (rs.drop (rs.length - (rs.length + 1 - 1 - i))) = some (rs.drop i)
    rw [show rs.length - (rs.length + 1 - 1 - i) = i by omega]
  · rw [List.getElem?_eq_none (by rw [List.length_reverse, List.length_map, List.length_range]; omega), List.getElem?_eq_none (by rw [List.length_map, List.length_range]; omega)]
theorem drop_at {rs : List Rt} {i : Nat} {r : Rt} (hi : i < rs.length) (h : rs[rs.length - 1 - i]? = some r) : rs.drop (rs.length - (i + 1)) = r :: rs.drop (rs.length - i) := by
  have e : rs.length - (i + 1) = rs.length - 1 - i := by omega
  rw [e]
  have hl := (List.getElem?_eq_some_iff.mp h)
  rw [List.drop_eq_getElem_cons hl.1, hl.2]
  congr 2
  omega
theorem Fw_none {jns : List (Nm × List Nm)} {r : Rt} {rs : List Rt} {l : Nm} (h : lackF jns r l = none) : Fw jns (r :: rs) l = Fw jns rs l + 1 := by
  show (match lackF jns r l with | none => _ | some k => _) = _
  rw [h]
theorem Fw_some {jns : List (Nm × List Nm)} {r : Rt} {rs : List Rt} {l : Nm} {n : Nat} (h : lackF jns r l = some n) : Fw jns (r :: rs) l = min (Fw jns rs l + 1) (n + Fw jns rs r.over) := by
  show (match lackF jns r l with | none => _ | some k => _) = _
  rw [h]
section
variable {P : Program} {w : World} {K : PySem.W.Frag} {mg : Str → Option Value} {base : Heap} {k : Nat}
def sp_fewest_onward (K : PySem.W.Frag) : Sp := fun vs H Q _ => ∃ (r l m : Addr) (ts ds : List Addr) (rs : List Rt) (ls : List Nm) (jns : List (Nm × List Nm)), vs = [.ref r, .ref l, .ref m] ∧ H l = some (.lst (ts.map V.ref)) ∧ Paired (RtA H) ts rs ∧ (∀ r ∈ rs, RtOk r ∧ RtFit jns r) ∧ H m = some (.lst (ds.map V.ref)) ∧ Paired (LkA jns H) ds rs ∧ ts.length ≤ 1000 ∧ LJ K H r ls jns ∧ LJok ls jns ∧
  ∀ H' p fs, Same H H' → H p = none → H' p = some (.lst (fs.map V.ref)) → Paired (FwA jns ls H') fs ((List.range (rs.length + 1)).map fun i => rs.drop i) → Q (.ref p) H'
set_option maxHeartbeats 16000000 in
theorem ok_fewest_onward (T : Defs K mg) : FnOk P w K mg base CX0 (k + 1) T.a_fewest_onward T.d_fewest_onward ["net", "rows", "lacks"] (sp_fewest_onward K) := by
  refine T.F_fewest_onward.ok sc_fewest_onward (fun vs H Q E h => ?_) (fun cdv A outer s H vs Q E hr h => ?_)
  · obtain ⟨r, l, m, ts, ds, rs, ls, jns, rfl, _⟩ := h
    rfl
  · obtain ⟨r, l, m, ts, ds, rs, ls, jns, rfl, el, hp, hrs, em, hds, t1000, hlj, hok, q⟩ := h
    refine ⟨_, PSs.nox
(pss_cons (ps_set (i := 3) sc_fewest_onward.nd rfl (.inl rfl) (pe_lst (pa_cons (pe_dc (own := [("line", 8)]) (g := gName 8) rfl sc_fewest_onward.nd (pi_tup (pe_ix (r := rIxT K) ix_tup (pv 0) (pe_int) (fun _ _ => rfl))) (blkOk_by (N := N_fewest_onward) (sc := defScope s_fewest_onward) (by decide +kernel)) (fun _ _ _ _ _ => (pg_name (i := 8) sc_fewest_onward.nd rfl (.inl rfl))) (fun _ _ _ _ _ => pts_nil) (fun _ _ _ _ _ => (pv 8)) (fun _ _ _ _ _ => (pe_int))) pa_nil)))
    (pss_cons (ps_for PassesOwn.never rfl (pi_reversed (by rfl) T.z_reversed (pa_cons (Lz.pe_listZip rfl (by rfl) T.z_list (by rfl) T.z_zip (pa_cons (pv 1) (pa_cons (pv 2) pa_nil))) pa_nil)) (pg_tup rfl (pgs_cons (pg_name (i := 4) sc_fewest_onward.nd rfl (.inl rfl)) (pgs_cons (pg_name (i := 5) sc_fewest_onward.nd rfl (.inl rfl)) pgs_nil)))
      (pss_cons (ps_set (i := 6) sc_fewest_onward.nd rfl (.inl rfl) (pe_ix (r := rIxL K) ix_list (pv 3) (pe_un un_neg (pe_int)) (fun _ _ => rfl)))
      (pss_cons (ps_set (i := 7) sc_fewest_onward.nd rfl (.inl rfl) (pe_dnewK))
      (pss_cons (ps_for PassesOwn.never rfl (pi_tup (pe_ix (r := rIxT K) ix_tup (pv 0) (pe_int) (fun _ _ => rfl))) (pg_name (i := 8) sc_fewest_onward.nd rfl (.inl rfl))
        (pss_cons (ps_dput (hu_of hr) (pv 7) (pv 8) (pe_op op_add (pe_dget (hu_of hr) (pv 6) (pv 8) (fun _ _ => rfl)) (pe_int)) (by rfl))
        (pss_one (ps_if (pt_cmp (pc_din (hu_of hr) (pv 8) (pv 5)))
          (pss_one (ps_dput (hu_of hr) (pv 7) (pv 8) (pe_callB (call_min2 rfl) (by rfl) T.z_min (by decide +kernel) (pa_cons (pe_dget (hu_of hr) (pv 7) (pv 8) (fun _ _ => rfl)) (pa_cons (pe_op op_add (pe_dget (hu_of hr) (pv 5) (pv 8) (fun _ _ => rfl)) (pe_dget (hu_of hr) (pv 6) (pe_ix (r := rIxT K) ix_tup (pv 4) (pe_glob (v := .int 7) (by rfl) T.c_OVER ⟨_, rfl⟩) (fun _ _ => rfl)) (fun _ _ => rfl))) pa_nil))) (by rfl)))
          pss_nil))))
      (pss_one (ps_expr (pe_bm PySem.F.plainAttrs_list PySem.F.slot_list_append PySem.F.type_list_append mt_append (pv 3) (pa_cons (pv 7) pa_nil))))))))
    (pss_cons (ps_expr (pe_bm0 PySem.F.plainAttrs_list PySem.F.slot_list_reverse PySem.F.type_list_reverse mt_reverse (pv 3)))
    (pss_one (ps_ret (pv 3))))))
      , ?_⟩
    have tl := paired_len hp
    have dl := paired_len hds
    have l8 := hok.l8
    obtain ⟨a, c, b, d, ja, er, ea, _⟩ := id hlj
    refine ⟨.ref r, rfl, r, [.ref a, b, .ref c, d], 0, .ref a, rfl, rfl, er, atI_nat (j := 0) rfl, a, rfl, ⟨_, ea⟩, fun D nD => ?_⟩
    refine dc_tup (xs := ls.map nS) (fun i H3 => Same H H3 ∧ ∃ kvs : List (Key × V), H3 D = some (.dK kvs) ∧ kvs.length ≤ i ∧ ∀ x ∈ ls.take i, valV kvs (Sum.inr (SX.S x)) = some (.int 0)) ⟨same_upd nD, [], upd_same, Nat.le_refl _, fun x hx => (by cases hx)⟩ (fun i H3 _ pv => sqs pv.1 ea) (fun i x H3 ex pv => ?_) (fun H3 pv => ?_)
    · obtain ⟨s3, kvs, eD, hl, hv⟩ := pv
      obtain ⟨x, exx, rfl⟩ := at_nm ex
      have ilt : i < ls.length := (List.getElem?_eq_some_iff.mp exx).1
      refine ⟨rfl, yes_ ⟨nS x, rfl, kvs, Sum.inr (SX.S x), rfl, eD, small5000 (by omega), same_set s3 nD, _, upd_same, ?_, fun y hy => ?_⟩⟩
      · have := length_putK kvs (Sum.inr (SX.S x)) (V.int 0)
        omega
      · rw [valV_put]
        by_cases c : y = x
        · rw [if_pos (by rw [c])]
        · rw [if_neg (fun q => c (SX.S_inj (Sum.inr.inj q)))]
          rw [List.take_add_one, exx] at hy
          rcases List.mem_append.mp hy with z | z
          · exact hv y z
          · exact absurd (List.mem_singleton.mp z) c
    obtain ⟨s3, kvs0, eD, hl0, hv0⟩ := pv
    rw [List.length_map, List.take_length] at hv0
    refine ⟨by show 1 ≤ sizeLine; decide, fun F nF => ?_⟩
    have nF0 := up0 s3 nF
    have s4 := same_upd (o := .lst [.ref D]) nF
    have s04 := s3.trans s4
    refine ⟨.ref l, rfl, .ref m, rfl, l, m, _, _, rfl, SqL.of (s04 _ _ el), SqL.of (s04 _ _ em), by rw [List.length_map, List.length_map, tl, dl], by rw [List.length_map]; omega, fun H5 Z zs s5 nZ nzs nin nd eZ tups => ?_⟩
    have s05 := s04.trans s5
    have eF5 : H5 F = some (.lst ([D].map V.ref)) := s5 _ _ upd_same
    have zl : zs.length = rs.length := by
      rw [paired_len tups, List.length_zip, List.length_map, List.length_map]
      omega
    have nZF : Z ≠ F := fun z => by rw [z, upd_same] at nZ; cases nZ
    have nzF : ∀ t ∈ zs, t ≠ F := fun t ht z => by
      have := nzs t ht
      rw [z, upd_same] at this
      cases this
    have hpair : ∀ {i : Nat} {z : Addr}, zs[i]? = some z → ∃ t r' d', rs[i]? = some r' ∧ RtA H t r' ∧ LkA jns H d' r' ∧ H5 z = some (.tup [.ref t, .ref d']) := fun {i z} hz => by
      obtain ⟨⟨x, y⟩, e1, e2⟩ := paired_get tups hz
      obtain ⟨g1, g2⟩ := List.getElem?_zip_eq_some.mp e1
      obtain ⟨t, et, ex⟩ := at_ref g1
      obtain ⟨d', ed, ey⟩ := at_ref g2
      obtain ⟨r', er', ht⟩ := paired_get hp et
      obtain ⟨r2, er2, hd⟩ := paired_get hds ed
      have := Option.some.inj (er'.symm.trans er2)
      subst this
      have ex : x = .ref t := ex
      have ey : y = .ref d' := ey
      subst ex ey
      exact ⟨t, r', d', er', ht, hd, e2⟩
    refine ⟨Z, _, rfl, SqL.of eZ, ?_⟩
    refine for_it (walk_rev (xs := zs.map V.ref)) (fun i σ Hx => ∃ ys : List (Option V), ys.length = 5 ∧ σ = some (.ref r) :: some (.ref l) :: some (.ref m) :: some (.ref F) :: ys ∧ Same H Hx ∧ (∀ b o, b ≠ F → H5 b = some o → Hx b = some o) ∧ ∃ fs : List Addr, Hx F = some (.lst (fs.map V.ref)) ∧ Paired (FwA jns ls Hx) fs (sufR rs i))
      ⟨_, rfl, rfl, s05, fun _ _ _ h => h, [D], eF5, .cons ⟨kvs0, s5 _ _ (s4 _ _ eD), fun x hx => ?_⟩ .nil⟩ (fun i σ Hx _ hp' => ?_) (fun i v σ Hx₀ Hx hi hp' yy => ?_) (fun σ Hx hp' => ?_)
    · show _ = some (V.int ((Fw jns (rs.drop (rs.length - 0)) x : Nat) : Int))
      rw [hv0 x hx, Nat.sub_zero, List.drop_length]
      rfl
    · obtain ⟨_, _, _, _, kx, _⟩ := hp'
      exact SqL.of (kx _ _ nZF eZ)
    · obtain ⟨rfl, ex⟩ := yy
      obtain ⟨ys, hys, rfl, sx, kx, fs, eF, hfs⟩ := hp'
      match ys, hys with
      | [y4, y5, y6, y7, y8], _ =>
      rw [List.length_map, zl] at hi ex
      obtain ⟨z, ez, rfl⟩ := at_ref ex
      obtain ⟨t, rr, d', err, ht, hd', hz⟩ := hpair ez
      have hzx := kx _ _ (nzF z (List.mem_of_getElem? ez)) hz
      obtain ⟨rok, j, jin, ej, oin⟩ := hrs rr (List.mem_of_getElem? err)
      have oinl : rr.over ∈ ls := hok.sub j jin _ oin
      have htx := sx _ _ ht
      have hdx := hd'.same sx
      have fl := paired_len hfs
      rw [List.length_map, List.length_range] at fl
      obtain ⟨fi, fz, rfl, hfi, hfz⟩ : ∃ fi fz, fs = fi ++ [fz] ∧ Paired (FwA jns ls Hx) fi ((List.range i).map fun j => rs.drop (rs.length - j)) ∧ FwA jns ls Hx fz (rs.drop (rs.length - i)) := by
        have e : sufR rs i = ((List.range i).map fun j => rs.drop (rs.length - j)) ++ [rs.drop (rs.length - i)] := by
          unfold sufR
          rw [List.range_succ, List.map_append]
          rfl
        rw [e] at hfs
        have hl2 := paired_len hfs
        rcases List.eq_nil_or_concat fs with z | ⟨fi, fz, z⟩
        · rw [z] at hl2; simp at hl2
        · rw [List.concat_eq_append] at z
          subst z
          have l2 : fi.length = ((List.range i).map fun j => rs.drop (rs.length - j)).length := by simpa using hl2
          refine ⟨fi, fz, rfl, ?_, ?_⟩
          · have := paired_take fi.length hfs
            rw [List.take_left, l2, List.take_left] at this
            exact this
          · obtain ⟨y, h1, h2⟩ := paired_get hfs (i := fi.length) (a := fz) (by rw [List.getElem?_append_right (Nat.le_refl _), Nat.sub_self]; rfl)
            rw [l2, List.getElem?_append_right (Nat.le_refl _), Nat.sub_self] at h1
            have := Option.some.inj h1
            rw [this]
            exact h2
      obtain ⟨kvz, ekz, hkz⟩ := id hfz
      obtain ⟨kvd, ekd, hsa⟩ := id hdx
      have hdrop := drop_at (rs := rs) hi err
      have hkz : ∀ l ∈ ls, valV kvz (Sum.inr (SX.S l)) = some (.int ((Fw jns (rs.drop (rs.length - i)) l : Nat) : Int)) := hkz
      refine ⟨z, _, rfl, SqT.of hzx, rfl, _, _, rfl, _, [], rfl, rfl, ?_⟩
      refine ⟨.ref F, rfl, _, rfl, F, _, -1, _, rfl, rfl, SqL.of eF, by rw [List.map_append]; exact atI_last _ _, ?_⟩
      refine fun W nW => ?_
      have sW := same_upd (o := .dK []) nW
      have nWF : W ≠ F := fun z => by rw [z, eF] at nW; cases nW
      refine ⟨.ref r, rfl, r, [.ref a, b, .ref c, d], 0, .ref a, rfl, rfl, sqs (sx.trans sW) er, atI_nat (j := 0) rfl, a, rfl, ⟨_, sqs (sx.trans sW) ea⟩, ?_⟩
      refine for_it (walk_tup (xs := ls.map nS)) (fun n σ Hy => ∃ y8 : Option V, σ = [some (.ref r), some (.ref l), some (.ref m), some (.ref F), some (.ref t), some (.ref d'), some (.ref fz), some (.ref W), y8] ∧ Same Hx Hy ∧ ∃ kvs : List (Key × V), Hy W = some (.dK kvs) ∧ kvs.length ≤ 2 * n ∧ ∀ x ∈ ls.take n, valV kvs (Sum.inr (SX.S x)) = some (.int ((Fw jns (rr :: rs.drop (rs.length - i)) x : Nat) : Int)))
        ⟨_, rfl, sW, [], upd_same, Nat.le_refl _, fun x hx => (by cases hx)⟩ (fun n σ Hy _ hq => ?_) (fun n v σ Hy₀ Hy hn hq yy => ?_) (fun σ Hy hq => ?_)
      · obtain ⟨_, _, sy, _⟩ := hq
        exact sqs (sx.trans sy) ea
      · obtain ⟨rfl, ex⟩ := yy
        obtain ⟨y8, rfl, sy, kvs, eW, kl, hv⟩ := hq
        obtain ⟨x, exx, rfl⟩ := at_nm ex
        have nlt : n < ls.length := (List.getElem?_eq_some_iff.mp exx).1
        have xin : x ∈ ls := List.mem_of_getElem? exx
        have gz := DGet.k (k := Sum.inr (SX.S x)) (sy _ _ ekz)
        rw [hkz x xin] at gz
        refine ⟨.ref fz, rfl, nS x, rfl, fz, _, rfl, gz, _, _, rfl, rfl, .ref W, rfl, nS x, rfl, W, _, rfl, DPut.k (k := Sum.inr (SX.S x)) eW (small5000 (by omega)), ?_⟩
        have eW2 : (upd Hy W (.dK (putK kvs (Sum.inr (SX.S x)) (.int ((Fw jns (rs.drop (rs.length - i)) x : Nat) + 1))))) W = some (.dK (putK kvs (Sum.inr (SX.S x)) (.int ((Fw jns (rs.drop (rs.length - i)) x : Nat) + 1)))) := upd_same
        have nW0 : Hx W = none := nW
        have sy2 : Same Hx (upd Hy W (.dK (putK kvs (Sum.inr (SX.S x)) (.int ((Fw jns (rs.drop (rs.length - i)) x : Nat) + 1))))) := same_set sy nW0
        have kl2 := length_putK kvs (Sum.inr (SX.S x)) (V.int ((Fw jns (rs.drop (rs.length - i)) x : Nat) + 1))
        have hv2 : ∀ y, valV (putK kvs (Sum.inr (SX.S x)) (V.int ((Fw jns (rs.drop (rs.length - i)) x : Nat) + 1))) (Sum.inr (SX.S y)) = if y = x then some (V.int ((Fw jns (rs.drop (rs.length - i)) x : Nat) + 1)) else valV kvs (Sum.inr (SX.S y)) := fun y => by
          rw [valV_put]
          by_cases c : y = x
          · rw [if_pos (by rw [c]), if_pos c]
          · rw [if_neg (fun q => c (SX.S_inj (Sum.inr.inj q))), if_neg c]
        generalize putK kvs (Sum.inr (SX.S x)) (V.int ((Fw jns (rs.drop (rs.length - i)) x : Nat) + 1)) = kv2 at eW2 sy2 kl2 hv2
        generalize upd Hy W (.dK kv2) = Hz at eW2 sy2
        have gd := DGet.k (k := Sum.inr (SX.S x)) (sy2 _ _ ekd)
        rw [sa_val hsa x] at gd
        refine ⟨nS x, rfl, .ref d', rfl, d', _, rfl, gd, _, rfl, ?_⟩
        cases hlk : lackF jns rr x with
        | none =>
          refine iteF ?_
          refine ⟨_, rfl, sy2, kv2, eW2, by omega, fun y hy => ?_⟩
          rw [hv2 y]
          by_cases c : y = x
          · rw [if_pos c, c, Fw_none hlk]
            rfl
          · rw [if_neg c]
            rw [List.take_add_one, exx] at hy
            rcases List.mem_append.mp hy with z | z
            · exact hv y z
            · exact absurd (List.mem_singleton.mp z) c
        | some nk =>
          rw [hlk] at gd
          refine iteT ?_
          have gw := DGet.k (k := Sum.inr (SX.S x)) eW2
          rw [hv2 x, if_pos rfl] at gw
          have go := DGet.k (k := Sum.inr (SX.S rr.over)) (sy2 _ _ ekz)
          rw [hkz _ oinl] at go
          refine ⟨.ref W, rfl, nS x, rfl, W, _, rfl, gw, .ref d', rfl, nS x, rfl, d', _, rfl, gd, .ref fz, rfl, .ref t, rfl, t, _, 7, _, rfl, rfl, SqT.of (sy2 _ _ htx), atI_nat (j := 7) rok.i7, fz, _, rfl, go, _, _, rfl, rfl, _, _, rfl, .ref W, rfl, nS x, rfl, W, _, rfl, DPut.k (k := Sum.inr (SX.S x)) eW2 (small5000 (by omega)), ?_⟩
          refine ⟨_, rfl, same_set sy2 nW0, _, upd_same, ?_, fun y hy => ?_⟩
          · have := length_putK kv2 (Sum.inr (SX.S x)) (V.int (if (((nk : Nat) : Int) + ((Fw jns (rs.drop (rs.length - i)) rr.over : Nat) : Int)) < ((Fw jns (rs.drop (rs.length - i)) x : Nat) : Int) + 1 then (((nk : Nat) : Int) + ((Fw jns (rs.drop (rs.length - i)) rr.over : Nat) : Int)) else ((Fw jns (rs.drop (rs.length - i)) x : Nat) : Int) + 1))
            exact Nat.le_trans this (by omega)
          · rw [valV_put]
            by_cases c : y = x
            · rw [if_pos (by rw [c]), c, Fw_some hlk]
              congr 2
              rw [Nat.min_def]
              split <;> split <;> omega
            · rw [if_neg (fun q => c (SX.S_inj (Sum.inr.inj q))), hv2 y, if_neg c]
              rw [List.take_add_one, exx] at hy
              rcases List.mem_append.mp hy with z | z
              · exact hv y z
              · exact absurd (List.mem_singleton.mp z) c
      · obtain ⟨y8, rfl, sy, kvs, eW, kl, hv⟩ := hq
        rw [List.length_map, List.take_length] at hv
        have eFy := sy _ _ eF
        refine ⟨.ref F, rfl, .inl ⟨rfl, _, SqL.of eFy⟩, .ref W, rfl, F, _, _, rfl, rfl, eFy, by rw [List.length_map]; exact small5000 (by omega), ?_⟩
        refine ⟨_, rfl, rfl, same_set (sx.trans sy) nF0, fun b o nb hb => by rw [upd_ne nb]; exact sy _ _ (kx _ _ nb hb), fi ++ [fz] ++ [W], by rw [upd_same, List.map_append (l₁ := fi ++ [fz])]; rfl, ?_⟩
        rw [sufR_succ, hdrop]
        exact paired_snoc (paired_imp hfs fun d _ rr h => (h.same sy).off eFy) (FwA.off ⟨kvs, eW, hv⟩ eFy)
    · obtain ⟨ys, hys, rfl, sx, kx, fs, eF, hfs⟩ := hp'
      match ys, hys with
      | [y4, y5, y6, y7, y8], _ =>
      rw [List.length_map, zl] at hfs
      refine ⟨.ref F, rfl, .inl ⟨rfl, _, SqL.of eF⟩, F, _, rfl, rfl, eF, ?_⟩
      refine ⟨.ref F, rfl, q _ F fs.reverse (same_set sx nF0) nF0 (by rw [upd_same, List.map_reverse]) ?_⟩
      rw [← sufR_rev]
      exact paired_imp (paired_rev hfs) fun d _ rr h => h.off eF
end
end Th
namespace Th
open PySem PySem.Spec PyProof.Rows L2
/-! the steps of a history -/
inductive Stp where
  | aside (n : Int)
  | gap (rd : List Nm)
  | held (n : Int) (l o : Nm)
def StpA (H : Hp) (a : Addr) : Stp → Prop
  | .aside n => H a = some (.tup [.str "aside", .int n])
  | .gap rd => ∃ u, H a = some (.tup [.str "gap", .ref u]) ∧ H u = some (.tup (rd.map nS))
  | .held n l o => H a = some (.tup [.str "held", .int n, nS l, nS o])
theorem StpA.tk {H H' : Hp} {a : Addr} {s : Stp} (h : StpA H a s) (t : ∀ b xs, H b = some (.tup xs) → H' b = some (.tup xs)) : StpA H' a s := by
  cases s with
  | aside n => exact t _ _ h
  | gap rd => obtain ⟨u, e1, e2⟩ := h; exact ⟨u, t _ _ e1, t _ _ e2⟩
  | held n l o => exact t _ _ h
def SsA (H : Hp) (D : Addr) (ss : List Stp) : Prop := ∃ fa : List Addr, H D = some (.lst (fa.map V.ref)) ∧ Paired (StpA H) fa ss
theorem SsA.ext {H H' : Hp} {D : Addr} {ss : List Stp} (h : SsA H D ss) (e : LamX.ExtN H H') : SsA H' D ss := let ⟨fa, e1, p⟩ := h; ⟨fa, e _ _ e1 fun _ z => (nomatch z), paired_imp p fun a _ s h => h.tk fun b xs q => e _ _ q fun _ z => (nomatch z)⟩
theorem SsA.same {H H' : Hp} {D : Addr} {ss : List Stp} (h : SsA H D ss) (s : Same H H') : SsA H' D ss := h.ext (.of s)
theorem SsA.app {H : Hp} {D u : Addr} {fa : List Addr} {ss : List Stp} {s : Stp} (e : H D = some (.lst (fa.map V.ref))) (p : Paired (StpA H) fa ss) (h : StpA H u s) : SsA (upd H D (.lst (fa.map V.ref ++ [.ref u]))) D (ss ++ [s]) := by
  have t : ∀ b xs, H b = some (.tup xs) → (upd H D (.lst (fa.map V.ref ++ [.ref u]))) b = some (.tup xs) := fun b xs q => by
    rw [upd_ne fun z => by rw [z, e] at q; cases q]
    exact q
  exact ⟨fa ++ [u], by rw [upd_same, List.map_append]; rfl, paired_snoc (paired_imp p fun a _ s h => h.tk t) (h.tk t)⟩
theorem rd_uni {jns : List (Nm × List Nm)} {fars : List Nm} {x : Nm} {r t : List Nm} (h : Rd' jns fars x r) (k : Rd' jns fars x t) : r = t := by
  rcases h with ⟨n, h1, h2⟩ | ⟨h1, h2⟩
  · rcases k with ⟨m, k1, k2⟩ | ⟨k1, _⟩
    · have := h1.eq k1
      subst this
      exact h2.eq k2
    · exact absurd h1 (k1 n)
  · rcases k with ⟨m, k1, k2⟩ | ⟨k1, k2⟩
    · exact absurd k1 (h1 m)
    · rw [h2, k2]
/-- the road of the gap ahead of a return -/
noncomputable def roadF (jns : List (Nm × List Nm)) (r : Rt) (l : Nm) : List Nm := open Classical in if h : ∃ rd, Rd' jns (fars jns r) l rd then Classical.choose h else []
theorem roadF_of {jns : List (Nm × List Nm)} {r : Rt} {l : Nm} {rd : List Nm} (h : Rd' jns (fars jns r) l rd) : roadF jns r l = rd := by
  unfold roadF
  have c : ∃ rd, Rd' jns (fars jns r) l rd := ⟨rd, h⟩
  rw [dif_pos c]
  exact rd_uni (Classical.choose_spec c) h
/-- the road's last line -/
abbrev lastN (rd : List Nm) : Nm := rd.getLast?.getD []
noncomputable def stepsM (jns : List (Nm × List Nm)) : List Rt → Nm → List Stp
  | [], _ => []
  | r :: rs, l => match lackF jns r l with
    | none => .aside r.num :: stepsM jns rs l
    | some n => if Fw jns (r :: rs) l < n + Fw jns rs r.over then .aside r.num :: stepsM jns rs l
      else if 0 < n then .gap (roadF jns r l) :: .held r.num (lastN (roadF jns r l)) r.over :: stepsM jns rs r.over
      else .held r.num l r.over :: stepsM jns rs r.over
theorem stepsM_none {jns : List (Nm × List Nm)} {r : Rt} {rs : List Rt} {l : Nm} (h : lackF jns r l = none) : stepsM jns (r :: rs) l = .aside r.num :: stepsM jns rs l := by
  show (match lackF jns r l with | none => _ | some k => _) = _
  rw [h]
theorem stepsM_some {jns : List (Nm × List Nm)} {r : Rt} {rs : List Rt} {l : Nm} {n : Nat} (h : lackF jns r l = some n) : stepsM jns (r :: rs) l = if Fw jns (r :: rs) l < n + Fw jns rs r.over then .aside r.num :: stepsM jns rs l
      else if 0 < n then .gap (roadF jns r l) :: .held r.num (lastN (roadF jns r l)) r.over :: stepsM jns rs r.over
      else .held r.num l r.over :: stepsM jns rs r.over := by
  show (match lackF jns r l with | none => _ | some k => _) = _
  rw [h]
theorem suf_at {rs : List Rt} {i : Nat} (h : i ≤ rs.length) : ((List.range (rs.length + 1)).map fun i => rs.drop i)[i]? = some (rs.drop i) := by
  rw [List.getElem?_map, List.getElem?_range (by omega)]
  rfl
theorem paired_atC {α β : Type} {R : α → β → Prop} {as : List α} {bs : List β} {i : Nat} {b : β} (h : Paired R as bs) (e : bs[i]? = some b) : ∃ a, as[i]? = some a ∧ R a b := by
  have l := paired_len h
  have hi : i < as.length := by rw [l]; exact (List.getElem?_eq_some_iff.mp e).1
  obtain ⟨b', h1, h2⟩ := paired_get h (List.getElem?_eq_getElem hi)
  have := Option.some.inj (e.symm.trans h1)
  subst this
  exact ⟨_, List.getElem?_eq_getElem hi, h2⟩
theorem at_refC {as : List Addr} {i : Nat} {a : Addr} (h : as[i]? = some a) : (as.map V.ref)[i]? = some (.ref a) := by rw [List.getElem?_map, h]; rfl
section
variable {P : Program} {w : World} {K : PySem.W.Frag} {mg : Str → Option Value} {base : Heap} {k : Nat}
def sp_steps_of (K : PySem.W.Frag) : Sp := fun vs H Q _ => ∃ (r l m f : Addr) (x : Nm) (ts ds fs : List Addr) (rs : List Rt) (ls : List Nm) (jns : List (Nm × List Nm)), vs = [.ref r, nS x, .ref l, .ref m, .ref f] ∧ H l = some (.lst (ts.map V.ref)) ∧ Paired (RtA H) ts rs ∧ (∀ r ∈ rs, RtOk r ∧ RtFit jns r) ∧ H m = some (.lst (ds.map V.ref)) ∧ Paired (LkA jns H) ds rs ∧ H f = some (.lst (fs.map V.ref)) ∧ Paired (FwA jns ls H) fs ((List.range (rs.length + 1)).map fun i => rs.drop i) ∧ ts.length ≤ 1000 ∧ LJ K H r ls jns ∧ LJok ls jns ∧ (jns.map (·.1)).Nodup ∧ x ∈ ls ∧
  ∀ H' D, Same H H' → H D = none → SsA H' D (stepsM jns rs x) → Q (.ref D) H'
set_option maxHeartbeats 16000000 in
theorem ok_steps_of (T : Defs K mg) : FnOk P w K mg base CX0 (k + 5) T.a_steps_of T.d_steps_of ["net", "line", "rows", "lacks", "fewest"] (sp_steps_of K) := by
  have G_gap_road : FnOk P w K mg base CX0 (k + 4) _ _ _ _ := ok_gap_road T
  refine T.F_steps_of.ok sc_steps_of (fun vs H Q E h => ?_) (fun cdv A outer s H vs Q E hr h => ?_)
  · obtain ⟨r, l, m, f, x, ts, ds, fs, rs, ls, jns, rfl, _⟩ := h
    rfl
  · obtain ⟨r, l, m, f, x, ts, ds, fs, rs, ls, jns, rfl, el, hp, hrs, em, hds, ef, hfs, t1000, hlj, hok, jnd, xin, q⟩ := h
    refine ⟨_, PSs.nox
(pss_cons (ps_set (i := 5) sc_steps_of.nd rfl (.inl rfl) (pe_lst pa_nil))
    (pss_cons (ps_for PassesOwn.never rfl (pi_enum (by rfl) T.z_enumerate (pa_cons (pv 2) pa_nil)) (pg_tup rfl (pgs_cons (pg_name (i := 6) sc_steps_of.nd rfl (.inl rfl)) (pgs_cons (pg_name (i := 7) sc_steps_of.nd rfl (.inl rfl)) pgs_nil)))
      (pss_cons (ps_set (i := 8) sc_steps_of.nd rfl (.inl rfl) (pe_dget1 (hu_of hr) (pe_ix (r := rIxL K) ix_list (pv 3) (pv 6) (fun _ _ => rfl)) (pv 1) ⟨rfl, rfl, rfl, rfl⟩))
      (pss_cons (ps_if (PW.pt (pw_or (pt_cmpR op_isN (pv 8) (pe_non) (nomark _)) (pw_or1 (pt_cmpR op_gt (pe_op op_add (pv 8) (pe_dget (hu_of hr) (pe_ix (r := rIxL K) ix_list (pv 4) (pe_op op_add (pv 6) (pe_int)) (fun _ _ => rfl)) (pe_ix (r := rIxT K) ix_tup (pv 7) (pe_glob (v := .int 7) (by rfl) T.c_OVER ⟨_, rfl⟩) (fun _ _ => rfl)) (fun _ _ => rfl))) (pe_dget (hu_of hr) (pe_ix (r := rIxL K) ix_list (pv 4) (pv 6) (fun _ _ => rfl)) (pv 1) (fun _ _ => rfl)) (nomark _)))))
        (pss_cons (ps_expr (pe_bm PySem.F.plainAttrs_list PySem.F.slot_list_append PySem.F.type_list_append mt_append (pv 5) (pa_cons (pe_tup (pa_cons (pe_str) (pa_cons (pe_ix (r := rIxT K) ix_tup (pv 7) (pe_glob (v := .int 1) (by rfl) T.c_NUMBER ⟨_, rfl⟩) (fun _ _ => rfl)) pa_nil))) pa_nil)))
        (pss_one (ps_continue)))
        pss_nil)
      (Evl.pss_cut (ps_if (pt_cmpR op_gt (pv 8) (pe_int) (nomark _))
        (pss_cons (ps_set (i := 9) sc_steps_of.nd rfl (.inl rfl) (pe_call G_gap_road hr (by rfl) T.g_gap_road T.F_gap_road.kp T.b_gap_road .nil pass0 (pa_cons (pv 0) (pa_cons (pv 1) (pa_cons (pe_ix (r := rIxT K) ix_tup (pv 7) (pe_glob (v := .int 3) (by rfl) T.c_JUNCTION ⟨_, rfl⟩) (fun _ _ => rfl)) (pa_cons (pe_ix (r := rIxT K) ix_tup (pv 7) (pe_glob (v := .int 7) (by rfl) T.c_OVER ⟨_, rfl⟩) (fun _ _ => rfl)) pa_nil))))))
        (pss_cons (ps_expr (pe_bm PySem.F.plainAttrs_list PySem.F.slot_list_append PySem.F.type_list_append mt_append (pv 5) (pa_cons (pe_tup (pa_cons (pe_str) (pa_cons (pe_callTy call_tuple_of (by rfl) T.z_tuple (by decide +kernel) (pa_cons (pv 9) pa_nil)) pa_nil))) pa_nil)))
        (pss_one (ps_set (i := 1) sc_steps_of.nd rfl (.inl rfl) (pe_ix (r := rIxL K) ix_list (pv 9) (pe_un un_neg (pe_int)) (fun _ _ => rfl))))))
        pss_nil)
      (pss_cons (ps_expr (pe_bm PySem.F.plainAttrs_list PySem.F.slot_list_append PySem.F.type_list_append mt_append (pv 5) (pa_cons (pe_tup (pa_cons (pe_str) (pa_cons (pe_ix (r := rIxT K) ix_tup (pv 7) (pe_glob (v := .int 1) (by rfl) T.c_NUMBER ⟨_, rfl⟩) (fun _ _ => rfl)) (pa_cons (pv 1) (pa_cons (pe_ix (r := rIxT K) ix_tup (pv 7) (pe_glob (v := .int 7) (by rfl) T.c_OVER ⟨_, rfl⟩) (fun _ _ => rfl)) pa_nil))))) pa_nil)))
      (pss_one (ps_set (i := 1) sc_steps_of.nd rfl (.inl rfl) (pe_ix (r := rIxT K) ix_tup (pv 7) (pe_glob (v := .int 7) (by rfl) T.c_OVER ⟨_, rfl⟩) (fun _ _ => rfl)))))))))
    (pss_one (ps_ret (pv 5)))))
      , ?_⟩
    have tl := paired_len hp
    refine ⟨Nat.zero_le _, fun F nF => ?_⟩
    have s1 := same_upd (o := .lst []) nF
    refine ⟨.ref l, rfl, l, _, rfl, SqL.of (s1 _ _ el), ?_⟩
    refine for_it (walk_enum (xs := ts.map V.ref)) (fun i σ Hx => ∃ (ys : List (Option V)) (y : Nm) (ss : List Stp), ys.length = 4 ∧ σ = some (.ref r) :: some (nS y) :: some (.ref l) :: some (.ref m) :: some (.ref f) :: some (.ref F) :: ys ∧ y ∈ ls ∧ Same H Hx ∧ SsA Hx F ss ∧ ss ++ stepsM jns (rs.drop i) y = stepsM jns rs x ∧ ss.length ≤ 2 * i)
      ⟨_, x, [], rfl, rfl, xin, s1, ⟨[], upd_same, .nil⟩, rfl, Nat.le_refl _⟩ (fun i σ Hx _ hp' => ?_) (fun i v σ Hx₀ Hx hi hp' yy => ?_) (fun σ Hx hp' => ?_)
    · obtain ⟨_, _, _, _, _, _, sx, _⟩ := hp'
      exact SqL.of (sx _ _ el)
    · obtain ⟨U, xv, yv, rfl, nU, rfl, ex, ey⟩ := yy
      have ex : xv = .int (i : Int) := (Option.some.inj ex).symm
      subst ex
      obtain ⟨ys, y, ss, hys, rfl, yin, sx, hF, hss, sl⟩ := hp'
      match ys, hys with
      | [y6, y7, y8, y9], _ =>
      rw [List.length_map] at hi
      obtain ⟨t, et, rfl⟩ := at_ref ey
      obtain ⟨rr, err, ht⟩ := paired_get hp et
      obtain ⟨rok, j, jin, ej, oin⟩ := hrs rr (List.mem_of_getElem? err)
      have oinl : rr.over ∈ ls := hok.sub j jin _ oin
      have ilt : i < rs.length := by omega
      obtain ⟨d, ed, hd⟩ := paired_atC hds err
      obtain ⟨f0, ef0, hf0⟩ := paired_atC hfs (suf_at (rs := rs) (i := i) (by omega))
      obtain ⟨f1, ef1, hf1⟩ := paired_atC hfs (suf_at (rs := rs) (i := i + 1) (by omega))
      have hdrop : rs.drop i = rr :: rs.drop (i + 1) := by
        have hl := List.getElem?_eq_some_iff.mp err
        rw [List.drop_eq_getElem_cons hl.1, hl.2]
      rw [hdrop] at hf0 hss
      have sU := same_upd (o := .tup [.int (i : Int), .ref t]) nU
      have sy := sx.trans sU
      have hFy := hF.same sU
      refine ⟨U, _, rfl, SqT.of upd_same, rfl, _, _, rfl, _, [], rfl, rfl, ?_⟩
      generalize upd Hx₀ U (.tup [.int (i : Int), .ref t]) = Hy at sy hFy
      obtain ⟨fa, eF, hfa⟩ := hFy
      have fal := paired_len hfa
      have hty := sy _ _ ht
      obtain ⟨kvd, ekd, hsa⟩ := hd.same sy
      obtain ⟨kv0, ek0, h0⟩ := hf0.same sy
      obtain ⟨kv1, ek1, h1⟩ := hf1.same sy
      have gd := DGet.k (k := Sum.inr (SX.S y)) ekd
      rw [sa_val hsa y] at gd
      refine ⟨.ref m, rfl, .int (i : Int), rfl, m, _, _, _, rfl, rfl, SqL.of (sy _ _ em), atI_nat (at_refC ed), d, rfl, .inl ⟨kvd, .inl ekd⟩, nS y, rfl, _, gd, ?_⟩
      have aside : ∀ z8 z9 : Option V, stepsM jns (rr :: rs.drop (i + 1)) y = .aside rr.num :: stepsM jns (rs.drop (i + 1)) y → ∀ (u : Addr), Hy u = none →
          (∃ (ys : List (Option V)) (y' : Nm) (ss : List Stp), ys.length = 4 ∧ [some (.ref r), some (nS y), some (.ref l), some (.ref m), some (.ref f), some (.ref F), some (.int (i : Int)), some (.ref t), z8, z9] = some (.ref r) :: some (nS y') :: some (.ref l) :: some (.ref m) :: some (.ref f) :: some (.ref F) :: ys ∧ y' ∈ ls ∧ Same H (upd (upd Hy u (.tup [.str "aside", .int rr.num])) F (.lst (fa.map V.ref ++ [.ref u]))) ∧ SsA (upd (upd Hy u (.tup [.str "aside", .int rr.num])) F (.lst (fa.map V.ref ++ [.ref u]))) F ss ∧ ss ++ stepsM jns (rs.drop (i + 1)) y' = stepsM jns rs x ∧ ss.length ≤ 2 * (i + 1)) := fun z8 z9 hst u nu => by
        have su := same_upd (o := .tup [.str "aside", .int rr.num]) nu
        refine ⟨_, y, ss ++ [.aside rr.num], rfl, rfl, yin, same_set (sy.trans su) nF, SsA.app (s := .aside rr.num) (su _ _ eF) (paired_imp hfa fun a _ s h => h.tk fun b xs q => su _ _ q) upd_same, ?_, by rw [List.length_append, List.length_singleton]; omega⟩
        rw [← hss, hst, List.append_assoc]
        rfl
      cases hlk : lackF jns rr y with
      | none =>
        refine ⟨.non, rfl, rfl, true, rfl, iteT (iteT ?_)⟩
        refine ⟨.ref F, rfl, .inl ⟨rfl, _, SqL.of eF⟩, .ref t, rfl, t, _, 1, _, rfl, rfl, SqT.of hty, atI_nat (j := 1) rok.i1, two_sz, fun u nu => ⟨F, _, _, rfl, rfl, same_upd nu _ _ eF, by rw [List.length_map]; exact small5000 (by omega), ?_⟩⟩
        exact aside _ _ (stepsM_none hlk) u nu
      | some n =>
        have g1 := DGet.k (k := Sum.inr (SX.S rr.over)) ek1
        rw [h1 _ oinl] at g1
        have g0 := DGet.k (k := Sum.inr (SX.S y)) ek0
        rw [h0 _ yin] at g0
        have hst := stepsM_some (rs := rs.drop (i + 1)) hlk
        refine ⟨.int n, rfl, rfl, false, rfl, iteF ?_⟩
        refine ⟨.int n, rfl, .ref f, rfl, .int (i : Int), rfl, _, _, rfl, rfl, f, _, _, _, rfl, rfl, SqL.of (sy _ _ ef), atI_nat (j := i + 1) (at_refC ef1), .ref t, rfl, t, _, 7, _, rfl, rfl, SqT.of hty, atI_nat (j := 7) rok.i7, f1, _, rfl, g1, _, _, rfl, rfl, .ref f, rfl, .int (i : Int), rfl, f, _, _, _, rfl, rfl, SqL.of (sy _ _ ef), atI_nat (at_refC ef0), nS y, rfl, f0, _, rfl, g0, _, _, rfl, rfl, _, rfl, ite2 (fun c => ?_) (fun c => ?_)⟩
        · have c : Fw jns (rr :: rs.drop (i + 1)) y < n + Fw jns (rs.drop (i + 1)) rr.over := by
            have := of_decide_eq_true c
            omega
          rw [if_pos c] at hst
          refine ⟨.ref F, rfl, .inl ⟨rfl, _, SqL.of eF⟩, .ref t, rfl, t, _, 1, _, rfl, rfl, SqT.of hty, atI_nat (j := 1) rok.i1, two_sz, fun u nu => ⟨F, _, _, rfl, rfl, same_upd nu _ _ eF, by rw [List.length_map]; exact small5000 (by omega), ?_⟩⟩
          exact aside _ _ hst u nu
        · have c : ¬ Fw jns (rr :: rs.drop (i + 1)) y < n + Fw jns (rs.drop (i + 1)) rr.over := fun z => c (decide_eq_true (by omega))
          rw [if_neg c] at hst
          refine ⟨fun σ' Hz => ∃ (y' : Nm) (ss' : List Stp) (z9 : Option V), σ' = [some (.ref r), some (nS y'), some (.ref l), some (.ref m), some (.ref f), some (.ref F), some (.int (i : Int)), some (.ref t), some (.int (n : Int)), z9] ∧ Same H Hz ∧ SsA Hz F ss' ∧ ss' ++ .held rr.num y' rr.over :: stepsM jns (rs.drop (i + 1)) rr.over = stepsM jns rs x ∧ ss'.length ≤ 2 * i + 1, ?_, ?_⟩
          · refine ⟨.int n, rfl, _, _, rfl, rfl, _, rfl, ite2 (fun cn => ?_) (fun cn => ?_)⟩
            · have cn : 0 < n := by have := of_decide_eq_true cn; omega
              rw [if_pos cn] at hst
              refine ⟨.ref r, rfl, nS y, rfl, .ref t, rfl, t, _, 3, _, rfl, rfl, SqT.of hty, atI_nat (j := 3) rok.i3, .ref t, rfl, t, _, 7, _, rfl, rfl, SqT.of hty, atI_nat (j := 7) rok.i7, ?_⟩
              refine ⟨r, y, rr.over, ls, jns, j, by rw [ej]; rfl, hlj.tk (.of sy), hok, yin, jnd, jin, oin, fun Ha p rd sa np ep hrd => ?_⟩
              have hfr : fromL j.2 rr.over = fars jns rr := by
                unfold fars
                rw [← ej, jLines_of jnd jin]
              rw [hfr] at hrd
              have hroad := roadF_of hrd
              have hne : rd ≠ [] := by
                rcases hrd with ⟨n', h1', h2'⟩ | ⟨h1', _⟩
                · intro z
                  have := h2'.len
                  rw [z] at this
                  cases this
                · exact absurd (lackF_some.mp hlk) (h1' n)
              obtain ⟨rq, rz, hrz⟩ := Rm.ne_snoc hne
              have eFa := sa _ _ eF
              refine ⟨.ref F, rfl, .inl ⟨rfl, _, SqL.of eFa⟩, .ref p, rfl, p, _, rfl, .inl ⟨SqL.of ep, fun u nu => ?_⟩⟩
              have su := same_upd (o := .tup (rd.map nS)) nu
              refine ⟨two_sz, fun v nv => ?_⟩
              have sv := same_upd (o := .tup [.str "gap", .ref u]) nv
              refine ⟨F, _, _, rfl, rfl, sv _ _ (su _ _ eFa), by rw [List.length_map]; exact small5000 (by omega), ?_⟩
              have suv := su.trans sv
              have epv : (upd (upd (upd Ha u (.tup (rd.map nS))) v (.tup [.str "gap", .ref u])) F (.lst (fa.map V.ref ++ [.ref v]))) p = some (.lst (rd.map nS)) := by
                have npF : p ≠ F := fun z => by rw [z, eF] at np; cases np
                rw [upd_ne npF]
                exact suv _ _ ep
              refine ⟨.ref p, rfl, _, rfl, p, _, -1, _, rfl, rfl, SqL.of epv, by rw [hrz, List.map_append]; exact atI_last _ _, ?_⟩
              have hlast : lastN rd = rz := by
                unfold lastN
                rw [hrz, List.getLast?_concat]
                rfl
              refine ⟨rz, ss ++ [.gap rd], _, rfl, same_set (sy.trans (sa.trans suv)) nF, SsA.app (s := .gap rd) (sv _ _ (su _ _ eFa)) (paired_imp hfa fun a _ s h => h.tk fun b xs q => suv _ _ (sa _ _ q)) ⟨u, upd_same, sv _ _ upd_same⟩, ?_, by rw [List.length_append, List.length_singleton]; omega⟩
              rw [← hss, hst, hroad, hlast, List.append_assoc]
              rfl
            · have cn : ¬ 0 < n := fun z => cn (decide_eq_true (by omega))
              rw [if_neg cn] at hst
              exact ⟨y, ss, _, rfl, sy, ⟨fa, eF, hfa⟩, by rw [← hss, hst], by omega⟩
          · rintro σ' Hz ⟨y', ss', z9, rfl, sz, ⟨fb, eFz, hfb⟩, hss', sl'⟩
            have htz := sz _ _ ht
            have fbl := paired_len hfb
            refine ⟨.ref F, rfl, .inl ⟨rfl, _, SqL.of eFz⟩, .ref t, rfl, t, _, 1, _, rfl, rfl, SqT.of htz, atI_nat (j := 1) rok.i1, nS y', rfl, .ref t, rfl, t, _, 7, _, rfl, rfl, SqT.of htz, atI_nat (j := 7) rok.i7, four_sz, fun u nu => ⟨F, _, _, rfl, rfl, same_upd nu _ _ eFz, by rw [List.length_map]; exact small5000 (by omega), ?_⟩⟩
            have su := same_upd (o := .tup [.str "held", .int rr.num, nS y', nS rr.over]) nu
            have htw : (upd (upd Hz u (.tup [.str "held", .int rr.num, nS y', nS rr.over])) F (.lst (fb.map V.ref ++ [.ref u]))) t = some (.tup rr.xs) := by
              rw [upd_ne fun z => by rw [z, eFz] at htz; cases htz]
              exact su _ _ htz
            refine ⟨.ref t, rfl, t, _, 7, _, rfl, rfl, SqT.of htw, atI_nat (j := 7) rok.i7, ?_⟩
            refine ⟨_, rr.over, ss' ++ [.held rr.num y' rr.over], rfl, rfl, oinl, same_set (sz.trans su) nF, SsA.app (s := .held rr.num y' rr.over) (su _ _ eFz) (paired_imp hfb fun a _ s h => h.tk fun b xs q => su _ _ q) upd_same, ?_, by rw [List.length_append, List.length_singleton]; omega⟩
            rw [← hss', List.append_assoc]
            rfl
    · obtain ⟨ys, y, ss, hys, rfl, yin, sx, hF, hss, sl⟩ := hp'
      rw [List.length_map, tl, List.drop_length] at hss
      have : ss = stepsM jns rs x := by rw [← hss]; exact (List.append_nil _).symm
      rw [this] at hF
      exact ⟨.ref F, rfl, q _ F sx nF hF⟩
end
end Th
namespace Th
open PySem PySem.Spec PyProof.Rows L2
/-! a wagon's history -/
noncomputable def marksM (jns : List (Nm × List Nm)) (rs : List Rt) (l : Nm) : List Int := (List.range rs.length).map fun i => ((Fw jns rs l : Nat) : Int) - ((Fw jns (rs.drop (i + 1)) ((rs[i]?.map (·.over)).getD []) : Nat) : Int)
section
variable {P : Program} {w : World} {K : PySem.W.Frag} {mg : Str → Option Value} {base : Heap} {k : Nat}
def sp_history (T : Defs K mg) : Sp := fun vs H Q _ => ∃ (r l : Addr) (x : Nm) (ts : List Addr) (rs : List Rt) (ls : List Nm) (jns : List (Nm × List Nm)), vs = [.ref r, nS x, .ref l] ∧ SqL K H l (ts.map V.ref) ∧ Paired (RtA H) ts rs ∧ (∀ r ∈ rs, RtOk r ∧ RtFit jns r) ∧ ts.length ≤ 1000 ∧ LJ K H r ls jns ∧ LJok ls jns ∧ (jns.map (·.1)).Nodup ∧ x ∈ ls ∧ TabI T H ∧
  ∀ H' u D M, LamX.ExtN H H' → TabI T H' → NewN H D → NewN H M → D ≠ M → H' u = some (.tup [.ref D, .ref M]) → SsA H' D (stepsM jns (sortR rs) x) → H' M = some (.lst ((marksM jns (sortR rs) x).map V.int)) → Q (.ref u) H'
theorem TQ.ext {K : PySem.W.Frag} {H H' : Hp} (e : LamX.ExtN H H') : TQ K H H' := fun _ _ h => Lr.sqT_ext e h
set_option maxHeartbeats 16000000 in
theorem ok_history (T : Defs K mg) (TB : LamX.TabB base mg T.cc_in_order T.tp_in_order) : FnOk P w K mg base CX0 6 T.a_history T.d_history ["net", "line", "returns"] (sp_history T) := by
  have G_in_order : FnOk P w K mg base CX0 5 _ _ _ _ := (ok_in_order T TB).mono (by decide)
  have G_lacks_ahead : FnOk P w K mg base CX0 5 _ _ _ _ := ok_lacks_ahead (k := 2) T
  have G_fewest_onward : FnOk P w K mg base CX0 5 _ _ _ _ := ok_fewest_onward (k := 4) T
  have G_steps_of : FnOk P w K mg base CX0 5 _ _ _ _ := ok_steps_of (k := 0) T
  refine T.F_history.ok sc_history (fun vs H Q E h => ?_) (fun cdv A outer s H vs Q E hr h => ?_)
  · obtain ⟨r, l, x, ts, rs, ls, jns, rfl, _⟩ := h
    rfl
  · obtain ⟨r, l, x, ts, rs, ls, jns, rfl, el, hp, hrs, t1000, hlj, hok, jnd, xin, hT, q⟩ := h
    refine ⟨_, PSs.nox
(pss_cons (ps_set (i := 3) sc_history.nd rfl (.inl rfl) (pe_call G_in_order hr (by rfl) T.g_in_order T.F_in_order.kp T.b_in_order .nil pass0 (pa_cons (pv 2) pa_nil)))
    (pss_cons (ps_set (i := 4) sc_history.nd rfl (.inl rfl) (pe_call G_lacks_ahead hr (by rfl) T.g_lacks_ahead T.F_lacks_ahead.kp T.b_lacks_ahead .nil pass0 (pa_cons (pv 0) (pa_cons (pv 3) pa_nil))))
    (pss_cons (ps_set (i := 5) sc_history.nd rfl (.inr rfl) (pe_call G_fewest_onward hr (by rfl) T.g_fewest_onward T.F_fewest_onward.kp T.b_fewest_onward .nil pass0 (pa_cons (pv 0) (pa_cons (pv 3) (pa_cons (pv 4) pa_nil)))))
    (pss_cons (ps_setLc (i := 6) (own := [("at", 7), ("row", 8)]) (g := gTup K 2 (gCons (gName 7) (gCons (gName 8) gNil))) rfl sc_history.nd rfl rfl (sw_true rfl rfl rfl (by decide +kernel)) (Es.pi_enumS (by rfl) T.z_enumerate (pv 3) (by decide) (by decide)) (blkOk_by (N := N_history) (sc := defScope s_history) (by decide +kernel)) (fun _ _ _ _ _ => (pg_tup rfl (pgs_cons (pg_name (i := 7) sc_history.nd rfl (.inl rfl)) (pgs_cons (pg_name (i := 8) sc_history.nd rfl (.inl rfl)) pgs_nil)))) (fun _ _ _ _ _ => pts_nil) (fun _ _ _ _ _ => (pe_op op_sub (pe_dget (hu_of hr) (pe_ix (r := rIxL K) ix_list (pv 5) (pe_int) (fun _ _ => rfl)) (pv 1) (fun _ _ => rfl)) (pe_dget (hu_of hr) (pe_ix (r := rIxL K) ix_list (pv 5) (pv 7) (fun _ _ => rfl)) (pe_ix (r := rIxT K) ix_tup (pv 8) (pe_glob (v := .int 7) (by rfl) T.c_OVER ⟨_, rfl⟩) (fun _ _ => rfl)) (fun _ _ => rfl)))))
    (pss_one (ps_ret (pe_tup (pa_cons (pe_call G_steps_of hr (by rfl) T.g_steps_of T.F_steps_of.kp T.b_steps_of .nil pass0 (pa_cons (pv 0) (pa_cons (pv 1) (pa_cons (pv 3) (pa_cons (pv 4) (pa_cons (pv 5) pa_nil)))))) (pa_cons (pv 6) pa_nil)))))))))
      , ?_⟩
    have tl := paired_len hp
    refine ⟨.ref l, rfl, l, ts, rs, rfl, el, hp, fun r h => (hrs r h).1, t1000, hT, fun H1 R ts' e1 t1 nR eR hR _ => ?_⟩
    have hss : ∀ r ∈ sortR rs, RtOk r ∧ RtFit jns r := fun r hr => hrs r ((sortR_perm rs).mem_iff.mp hr)
    have sl : (sortR rs).length = rs.length := (sortR_perm rs).length_eq
    have tl' := paired_len hR
    have t1000' : ts'.length ≤ 1000 := by omega
    have hlj1 := hlj.tk (TQ.ext e1)
    generalize sortR rs = ss at *
    refine ⟨.ref r, rfl, .ref R, rfl, r, R, ts', ss, ls, jns, rfl, eR, hR, hss, t1000', hlj1, hok, jnd, fun H2 Lk ds s2 nLk eLk hds => ?_⟩
    have hR2 : Paired (RtA H2) ts' ss := paired_imp hR fun a _ r h => s2 _ _ h
    refine ⟨.ref r, rfl, .ref R, rfl, .ref Lk, rfl, r, R, Lk, ts', ds, ss, ls, jns, rfl, s2 _ _ eR, hR2, hss, eLk, hds, t1000', hlj1.tk (.of s2), hok, fun H3 f fs s3 nf ef hfs => ?_⟩
    have s13 := s2.trans s3
    have hR3 : Paired (RtA H3) ts' ss := paired_imp hR2 fun a _ r h => s3 _ _ h
    have eR3 := s13 _ _ eR
    obtain ⟨f0, ef0, kv0, ek0, h0⟩ := paired_atC hfs (suf_at (rs := ss) (i := 0) (by omega))
    rw [List.drop_zero] at h0
    refine ⟨.ref R, rfl, R, _, rfl, SqL.of eR3, fun M nM => ?_⟩
    refine lc_it (Es.walk_enumS (xs := ts'.map V.ref)) (fun i Hx => Same H3 Hx ∧ Hx M = some (.lst (((marksM jns ss x).take i).map V.int))) ⟨same_upd nM, upd_same⟩ (fun i Hx _ pv => SqL.of (pv.1 _ _ eR3)) (fun i v Hx Hx' hi pv yy => ?_) (fun H4 pv => ?_)
    · obtain ⟨U, xv, yv, rfl, nU, rfl, ex, ey⟩ := yy
      have ex : xv = .int (1 + (i : Int)) := (Option.some.inj ex).symm
      subst ex
      obtain ⟨sx, eM⟩ := pv
      rw [List.length_map] at hi
      obtain ⟨t, et, rfl⟩ := at_ref ey
      obtain ⟨rr, err, ht⟩ := paired_get hR3 et
      obtain ⟨rok, j, jin, ej, oin⟩ := hss rr (List.mem_of_getElem? err)
      have oinl : rr.over ∈ ls := hok.sub j jin _ oin
      obtain ⟨f1, ef1, kv1, ek1, h1⟩ := paired_atC hfs (suf_at (rs := ss) (i := i + 1) (by omega))
      have sU := same_upd (o := .tup [.int (1 + (i : Int)), .ref t]) nU
      have sy := sx.trans sU
      have g0 := DGet.k (k := Sum.inr (SX.S x)) (sy _ _ ek0)
      rw [h0 _ xin] at g0
      have g1 := DGet.k (k := Sum.inr (SX.S rr.over)) (sy _ _ ek1)
      rw [h1 _ oinl] at g1
      have eMy := sU _ _ eM
      refine ⟨U, _, rfl, SqT.of upd_same, rfl, _, _, rfl, _, [], rfl, rfl, rfl, yes_ ?_⟩
      generalize upd Hx U (.tup [.int (1 + (i : Int)), .ref t]) = Hy at sy g0 g1 eMy
      refine ⟨.ref f, rfl, f, _, 0, _, rfl, rfl, SqL.of (sy _ _ ef), atI_nat (j := 0) (at_refC ef0), nS x, rfl, f0, _, rfl, g0, .ref f, rfl, .int (1 + (i : Int)), rfl, f, _, _, _, rfl, rfl, SqL.of (sy _ _ ef), by rw [show (1 : Int) + (i : Int) = ((i + 1 : Nat) : Int) by omega]; exact atI_nat (at_refC ef1), .ref t, rfl, t, _, 7, _, rfl, rfl, SqT.of (sy _ _ ht), atI_nat (j := 7) rok.i7, f1, _, rfl, g1, _, _, rfl, rfl, _, eMy, ?_, same_set sy nM, ?_⟩
      · rw [List.length_map, List.length_take]
        exact small5000 (by omega)
      · have em : (marksM jns ss x)[i]? = some (((Fw jns ss x : Nat) : Int) - ((Fw jns (ss.drop (i + 1)) rr.over : Nat) : Int)) := by
          unfold marksM
          rw [List.getElem?_map, List.getElem?_range (by omega)]
          show some (((Fw jns ss x : Nat) : Int) - ((Fw jns (ss.drop (i + 1)) ((ss[i]?.map (·.over)).getD []) : Nat) : Int)) = _
          rw [err]
          rfl
        rw [upd_same, List.take_add_one, em, List.map_append]
        rfl
    obtain ⟨s4, eM⟩ := pv
    rw [List.length_map, List.take_of_length_le (by unfold marksM; rw [List.length_map, List.length_range]; omega)] at eM
    have s14 := s13.trans s4
    refine ⟨.ref r, rfl, nS x, rfl, .ref R, rfl, .ref Lk, rfl, .ref f, rfl, r, R, Lk, f, x, ts', ds, fs, ss, ls, jns, rfl, s14 _ _ eR, paired_imp hR fun a _ r h => s14 _ _ h, hss, (s3.trans s4) _ _ eLk, paired_imp hds fun a _ r h => (h.same s3).same s4, s4 _ _ ef, paired_imp hfs fun a _ r h => h.same s4, t1000', hlj1.tk (.of s14), hok, jnd, xin, fun H5 D s5 nD hD => ?_⟩
    refine ⟨.ref M, rfl, two_sz, fun u nu => ?_⟩
    have su := same_upd (o := .tup [.ref D, .ref M]) nu
    have e4 : LamX.ExtN H H4 := ext_same e1 s14
    have e6 : LamX.ExtN H _ := ext_same (ext_same e4 s5) su
    exact q _ u D M e6 ((t1.ext s14).ext (s5.trans su)) (.back e4 nD) (.back (ext_same e1 s13) nM) (fun z => by rw [z, eM] at nD; cases nD) upd_same (hD.same su) (su _ _ (s5 _ _ eM))
end
end Th
namespace Th
open PySem PySem.Spec PyProof.Rows L2
theorem netok_lj {ls zs : List Nm} {qs : List (List Nat)} {J : Nat} {tis : List Ti} {jns : List (Nm × List Nm)} (h : NetOk ls zs qs J tis) (pJ : jns.Perm ((zs.zip qs).filterMap (jnOf ls))) : LJok ls jns := by
  have each := h.q.each h.l8
  have spot : ∀ js ∈ qs, js.length ≠ 1 → js.Pairwise (· < ·) := by
    obtain ⟨f, l, ss, tw, e, h1, h2, _⟩ := h.q.form
    intro js hj hl
    rw [e] at hj
    rcases List.mem_append.mp hj with z | z
    · rcases List.mem_append.mp z with z | z
      · rcases List.mem_cons.mp z with z | z
        · rw [z] at hl
          exact absurd rfl hl
        · exact (h2 js z).rise
      · rw [List.mem_singleton.mp z] at hl
        exact absurd rfl hl
    · obtain ⟨x, _, rfl⟩ := List.mem_map.mp z
      exact absurd rfl hl
  have form : ∀ j ∈ jns, ∃ js ∈ qs, js.length ≠ 1 ∧ j.2 = js.map fun i => ls.getD i [] := fun j hj => by
    obtain ⟨x, hx, ex⟩ := List.mem_filterMap.mp (pJ.mem_iff.mp hj)
    unfold jnOf at ex
    split at ex
    · cases ex
    · rename_i c
      have := Option.some.inj ex
      subst this
      exact ⟨x.2, (List.of_mem_zip hx).2, c, rfl⟩
  have gd : ∀ {i : Nat}, i < ls.length → ls[i]? = some (ls.getD i []) := fun {i} hi => by
    rw [List.getD_eq_getElem?_getD, List.getElem?_eq_getElem hi]
    rfl
  refine ⟨h.l8, h.lnd, fun j hj y hy => ?_, fun j hj => ?_, fun j hj => ?_⟩
  · obtain ⟨js, h1, _, h2⟩ := form j hj
    rw [h2] at hy
    obtain ⟨i, hi, rfl⟩ := List.mem_map.mp hy
    exact List.mem_of_getElem? (gd ((each js h1).2.2 i hi))
  · obtain ⟨js, h1, _, h2⟩ := form j hj
    rw [h2, List.length_map]
    exact (each js h1).2.1
  · obtain ⟨js, h1, h3, h2⟩ := form j hj
    rw [h2, List.nodup_iff_pairwise_ne, List.pairwise_map]
    refine List.Pairwise.imp_of_mem (fun {a b} ha hb hlt e => ?_) (spot js h1 h3)
    have ga := gd ((each js h1).2.2 a ha)
    have gb := gd ((each js h1).2.2 b hb)
    rw [e] at ga
    have := nodup_inj h.lnd ga gb
    omega
theorem layAll_nms : ∀ {zs : List Nm}, (∀ z ∈ zs, IsNm z) → PyData.canLayAll0 ((zs.map SX.S).map PyData.str) = true
  | [], _ => rfl
  | z :: zs, h => by
    show (PyData.strOk (SX.S z) && PyData.canLayAll0 ((zs.map SX.S).map PyData.str)) = true
    rw [nm_ok (h z List.mem_cons_self), layAll_nms fun y hy => h y (List.mem_cons_of_mem _ hy)]
    rfl
theorem depthAll_nms : ∀ zs : List Nm, PyData.depthAll ((zs.map SX.S).map PyData.str) = 0
  | [] => rfl
  | z :: zs => by
    show max 0 (PyData.depthAll ((zs.map SX.S).map PyData.str)) = 0
    rw [depthAll_nms zs]
    rfl
theorem dpAll_nmsP {K : PySem.W.Frag} {H : Hp} : ∀ zs : List Nm, DpAll K H (zs.map nS) ((zs.map SX.S).map PyData.str)
  | [] => .nil
  | z :: zs => .cons (.str _) (dpAll_nmsP zs)
theorem rd_in {ls : List Nm} {jns : List (Nm × List Nm)} {fars : List Nm} {x : Nm} {r : List Nm} (hok : LJok ls jns) (hf : ∀ f ∈ fars, f ∈ ls) (h : Rd' jns fars x r) : (∀ z ∈ r, z ∈ ls) ∧ r.length ≤ 8 := by
  rcases h with ⟨n, h1, h2⟩ | ⟨_, h2⟩
  · have l := h2.len
    have := af_lt hok hf h1
    have := hok.l8
    refine ⟨fun z hz => ?_, by omega⟩
    obtain ⟨i, hi⟩ := List.getElem?_of_mem hz
    exact af_in hok hf (Rm.gr_ds h2 h1 i z hi).2
  · rw [h2]
    exact ⟨fun z hz => (by cases hz), Nat.zero_le _⟩
/-! drawn returns as data; the law's order -/
structure RtFull (r : Rt) : Prop where
  ex : ∃ (i2 wag : Int) (ld sl : Str), r.xs = [.str ("return" : Str), .int r.num, .int i2, nS r.jn, .int r.day, .int r.hour, .int wag, nS r.over, .str ld, .str sl] ∧ PyData.strOk ld = true ∧ PyData.strOk sl = true
  jn : IsNm r.jn
  ov : IsNm r.over
theorem RtFull.ok {r : Rt} (h : RtFull r) : RtOk r := by
  obtain ⟨i2, wag, ld, sl, e, _⟩ := h.ex
  exact ⟨by rw [e]; rfl, by rw [e]; rfl, by rw [e]; rfl, by rw [e]; rfl, by rw [e]; rfl⟩
def vD : V → PyData
  | .int i => .int i
  | .str s => .str s
  | _ => .none
def paperD (r : Rt) : PyData := .tuple (r.xs.map vD)
def rowD (r : Rt) : PyData := .tuple [.int r.day, .int r.hour, .int r.num, paperD r]
theorem eqv_int (a b : Int) : PyData.eqv (.int a) (.int b) = decide (a = b) := PySem.W.Datum.eqv (α := Int) a b
theorem alike_int (a b : Int) : PySem.W.alike (.int a) (.int b) = true := PySem.W.DatumOrd.alike (α := Int) a b
theorem lex3 {d1 h1 n1 d2 h2 n2 : Int} (p q p' q' : List PyData) (h : n1 ≠ n2) : PyProof.Rows.lexLt PyProof.Rows.itemOrd (PySem.W.keyToksAll (.int d1 :: .int h1 :: .int n1 :: p)) (PySem.W.keyToksAll (.int d2 :: .int h2 :: .int n2 :: q)) = PyProof.Rows.lexLt PyProof.Rows.itemOrd (PySem.W.keyToksAll (.int d1 :: .int h1 :: .int n1 :: p')) (PySem.W.keyToksAll (.int d2 :: .int h2 :: .int n2 :: q')) := by
  by_cases c1 : d1 = d2
  · have e1 : PyData.eqv (.int d1) (.int d2) = true := by rw [eqv_int, decide_eq_true c1]
    rw [PySem.W.dataLt_all_yes (alike_int d1 d2) e1, PySem.W.dataLt_all_yes (alike_int d1 d2) e1]
    by_cases c2 : h1 = h2
    · have e2 : PyData.eqv (.int h1) (.int h2) = true := by rw [eqv_int, decide_eq_true c2]
      rw [PySem.W.dataLt_all_yes (alike_int h1 h2) e2, PySem.W.dataLt_all_yes (alike_int h1 h2) e2]
      have e3 : PyData.eqv (.int n1) (.int n2) = false := by rw [eqv_int, decide_eq_false h]
      rw [PySem.W.dataLt_all_no (alike_int n1 n2) e3, PySem.W.dataLt_all_no (alike_int n1 n2) e3]
    · have e2 : PyData.eqv (.int h1) (.int h2) = false := by rw [eqv_int, decide_eq_false c2]
      rw [PySem.W.dataLt_all_no (alike_int h1 h2) e2, PySem.W.dataLt_all_no (alike_int h1 h2) e2]
  · have e1 : PyData.eqv (.int d1) (.int d2) = false := by rw [eqv_int, decide_eq_false c1]
    rw [PySem.W.dataLt_all_no (alike_int d1 d2) e1, PySem.W.dataLt_all_no (alike_int d1 d2) e1]
theorem num_inj {rs : List Rt} (nd : (rs.map (·.num)).Nodup) {a b : Rt} (ha : a ∈ rs) (hb : b ∈ rs) (e : a.num = b.num) : a = b := by
  obtain ⟨i, hi⟩ := List.getElem?_of_mem ha
  obtain ⟨j, hj⟩ := List.getElem?_of_mem hb
  have e1 : (rs.map (·.num))[i]? = some a.num := by rw [List.getElem?_map, hi]; rfl
  have e2 : (rs.map (·.num))[j]? = some a.num := by rw [List.getElem?_map, hj, e]; rfl
  have := nodup_inj nd e1 e2
  subst this
  rw [hi] at hj
  exact Option.some.inj hj
theorem sort_row {rs : List Rt} (nd : (rs.map (·.num)).Nodup) : rs.mergeSort (PySem.W.dataLe false rowD) = sortR rs := by
  have m := List.map_mergeSort (r := PySem.W.dataLe false rowD) (s := PySem.W.dataLe false (Lr.key3 kR)) (f := fun r : Rt => r) (l := rs) fun a ha b hb => by
    show (!PySem.W.dataLt (rowD b) (rowD a)) = (!PySem.W.dataLt (Lr.key3 kR b) (Lr.key3 kR a))
    congr 1
    by_cases c : b.num = a.num
    · have := num_inj nd hb ha c
      rw [this, PySem.W.dataLt_self, PySem.W.dataLt_self]
    · exact (PySem.W.dataLt_tuple _ _).trans ((lex3 _ _ _ _ c).trans (PySem.W.dataLt_tuple _ _).symm)
  simp only [List.map_id'] at m
  exact m
theorem rowD_alike {rs : List Rt} (h : ∀ r ∈ rs, RtFull r) : PySem.W.AllAlike (rs.map rowD) := fun d hd d' hd' => by
  obtain ⟨a, ha, rfl⟩ := List.mem_map.mp hd
  obtain ⟨b, hb, rfl⟩ := List.mem_map.mp hd'
  obtain ⟨i2, wag, ld, sl, e, _⟩ := (h a ha).ex
  obtain ⟨i2', wag', ld', sl', e', _⟩ := (h b hb).ex
  unfold rowD paperD
  rw [e, e']
  simp [PySem.W.alike, PySem.W.alikeAll, vD]
theorem rowD_sortable (rs : List Rt) : PySem.W.Sortable (rs.map rowD) := PySem.W.Sortable.tuples fun b => ⟨_, _, rfl⟩
theorem paperD_depth {r : Rt} (h : RtFull r) : (paperD r).depth ≤ 1 := by
  obtain ⟨i2, wag, ld, sl, e, _⟩ := h.ex
  unfold paperD
  rw [e]
  exact Nat.le_of_ble_eq_true rfl
theorem rowD_depth {r : Rt} (h : RtFull r) : (rowD r).depth ≤ 60 := by
  have := paperD_depth h
  show max 0 (max 0 (max 0 (max (paperD r).depth 0))) + 1 ≤ 60
  omega
theorem dp_paper {K : PySem.W.Frag} {H : Hp} {t : Addr} {r : Rt} (h : RtA H t r) (f : RtFull r) : Dp K H (.ref t) (paperD r) := by
  obtain ⟨i2, wag, ld, sl, e, _⟩ := f.ex
  unfold RtA at h
  unfold paperD
  rw [e] at h ⊢
  exact .tup (SqT.of h) (.cons (.str _) (.cons (.int _) (.cons (.int _) (.cons (.str _) (.cons (.int _) (.cons (.int _) (.cons (.int _) (.cons (.str _) (.cons (.str _) (.cons (.str _) .nil))))))))))
theorem lay_paper {r : Rt} (f : RtFull r) : (paperD r).canLay0 = true := by
  obtain ⟨i2, wag, ld, sl, e, h1, h2⟩ := f.ex
  unfold paperD
  rw [e]
  show (PyData.strOk ("return" : Str) && (true && (true && (PyData.strOk (SX.S r.jn) && (true && (true && (true && (PyData.strOk (SX.S r.over) && (PyData.strOk ld && (PyData.strOk sl && true)))))))))) = true
  rw [nm_ok f.jn, nm_ok f.ov, h1, h2]
  decide +kernel
/-! helpers of drawn returns -/
theorem pick2 {a b : Str} {d : Int} (h0 : 0 ≤ d) (h1 : d < 2) : ∃ s, atI [V.str a, V.str b] d = some (.str s) ∧ (s = a ∨ s = b) := by
  obtain ⟨j, rfl⟩ : ∃ j : Nat, d = (j : Int) := ⟨d.toNat, by omega⟩
  match j, h1 with
  | 0, _ => exact ⟨a, atI_nat (j := 0) rfl, .inl rfl⟩
  | 1, _ => exact ⟨b, atI_nat (j := 1) rfl, .inr rfl⟩
theorem num_ne {b s : Int} {i j : Nat} (hs : s = 1 ∨ s = 5003 ∨ s = 9998 ∨ s = 13) (hij : j < i) (hi : i < 100) : 1 + (b + s * (i : Int)) % 9999 ≠ 1 + (b + s * (j : Int)) % 9999 := by
  intro e
  rcases hs with rfl | rfl | rfl | rfl <;> omega
theorem RtA.keep {p : Addr} {H H' : Hp} {t : Addr} {r : Rt} (h : RtA H t r) (k : Keep p H H') (b : Bag H p) : RtA H' t r := by
  obtain ⟨g, q, e, _⟩ := b
  exact k _ _ (fun z => by rw [z] at h; rw [show H p = some (.tup r.xs) from h] at e; cases e) h
theorem RtA.updL {H : Hp} {t c : Addr} {r : Rt} {o : HO} {xs : List V} (h : RtA H t r) (e : H c = some (.lst xs)) : RtA (upd H c o) t r := by
  unfold RtA at h ⊢
  rw [upd_ne (fun z => by rw [z, e] at h; cases h)]
  exact h
theorem ins_perm {α : Type} (l : List α) (a : α) (n : Nat) : (l.take n ++ [a] ++ l.drop n).Perm (a :: l) := by
  have h := List.perm_middle (a := a) (l₁ := l.take n) (l₂ := l.drop n)
  rw [List.take_append_drop] at h
  rw [List.append_assoc]
  exact h
theorem fromL_ne {l : List Nm} {y : Nm} (nd : l.Nodup) (h : 2 ≤ l.length) : 1 ≤ (fromL l y).length := by
  match l, nd, h with
  | a :: b :: r, nd, _ =>
    have hab : a ≠ b := fun e => by
      rw [e] at nd
      exact (List.nodup_cons.mp nd).1 List.mem_cons_self
    by_cases c : a = y
    · exact List.length_pos_of_mem (mem_fromL.mpr ⟨List.mem_cons_of_mem _ List.mem_cons_self, fun e => hab (c.trans e.symm)⟩)
    · exact List.length_pos_of_mem (mem_fromL.mpr ⟨List.mem_cons_self, c⟩)
/-! how many wrong ones a list of steps tells of: the law's own reckoning -/
def stpD : Stp → PyData
  | .aside n => .tuple [.str ("aside" : Str), .int n]
  | .gap rd => .tuple [.str ("gap" : Str), .tuple ((rd.map SX.S).map PyData.str)]
  | .held n l o => .tuple [.str ("held" : Str), .int n, .str (SX.S l), .str (SX.S o)]
def StOk : Stp → Prop
  | .aside _ => True
  | .gap rd => ∀ z ∈ rd, IsNm z
  | .held _ l o => IsNm l ∧ IsNm o
theorem lay_stp {s : Stp} (h : StOk s) : (stpD s).canLay0 = true := by
  cases s with
  | aside n => show (PyData.strOk ("aside" : Str) && (true && true)) = true; decide +kernel
  | gap rd =>
    show (PyData.strOk ("gap" : Str) && (PyData.canLayAll0 ((rd.map SX.S).map PyData.str) && true)) = true
    rw [layAll_nms h]
    decide +kernel
  | held n l o =>
    show (PyData.strOk ("held" : Str) && (true && (PyData.strOk (SX.S l) && (PyData.strOk (SX.S o) && true)))) = true
    rw [nm_ok h.1, nm_ok h.2]
    decide +kernel
theorem depth_stp (s : Stp) : (stpD s).depth ≤ 2 := by
  cases s with
  | aside n => exact Nat.le_of_ble_eq_true rfl
  | gap rd =>
    show max 0 (max (PyData.depthAll ((rd.map SX.S).map PyData.str) + 1) 0) + 1 ≤ 2
    rw [depthAll_nms]
    decide
  | held n l o => exact Nat.le_of_ble_eq_true rfl
theorem shaped_stp {s : Stp} (h : StOk s) : SeqAt.shaped (stpD s) = true := Bool.and_eq_true_iff.mpr ⟨lay_stp h, decide_eq_true (by have := depth_stp s; omega)⟩
theorem dp_stp {K : PySem.W.Frag} {H : Hp} {a : Addr} {s : Stp} (h : StpA H a s) : Dp K H (.ref a) (stpD s) := by
  cases s with
  | aside n => exact .tup (SqT.of h) (.cons (.str _) (.cons (.int _) .nil))
  | gap rd =>
    obtain ⟨u, h1, h2⟩ := h
    exact .tup (SqT.of h1) (.cons (.str _) (.cons (.tup (SqT.of h2) (dpAll_nmsP rd)) .nil))
  | held n l o => exact .tup (SqT.of h) (.cons (.str _) (.cons (.int _) (.cons (.str _) (.cons (.str _) .nil))))
theorem eqv_first {a b : Str} {xs ys : List PyData} (h : a ≠ b) : PyData.eqv (.tuple (.str a :: xs)) (.tuple (.str b :: ys)) = false := by
  rw [PyData.eqv, PyData.eqvAll]
  have : PyData.eqv (.str a) (.str b) = false := (PySem.W.Datum.eqv (α := Str) a b).trans (decide_eq_false h)
  rw [this]
  rfl
section
variable {jns : List (Nm × List Nm)} {ls : List Nm}
theorem fars_in (hok : LJok ls jns) (jnd : (jns.map (·.1)).Nodup) {r : Rt} (hf : RtFit jns r) : ∀ f ∈ fars jns r, f ∈ ls := fun f h => by
  obtain ⟨j, jin, ej, _⟩ := hf
  unfold fars at h
  rw [← ej, jLines_of jnd jin] at h
  exact hok.sub j jin f (mem_fromL.mp h).1
theorem over_in (hok : LJok ls jns) {r : Rt} (hf : RtFit jns r) : r.over ∈ ls := let ⟨j, jin, _, h⟩ := hf; hok.sub j jin _ h
theorem roadF_gr (hok : LJok ls jns) (jnd : (jns.map (·.1)).Nodup) {r : Rt} (hf : RtFit jns r) {l : Nm} {n : Nat} (h : lackF jns r l = some n) : Rm.Gr (Adj jns) (· ∈ fars jns r) n l (roadF jns r l) ∧ Rd' jns (fars jns r) l (roadF jns r l) := by
  have hd := lackF_some.mp h
  obtain ⟨rd, hg⟩ := Rm.gr_ex (ls := ls) (fun n y h => af_in hok (fars_in hok jnd hf) h) n hd
  have e := roadF_of (.inl ⟨n, hd, hg⟩)
  rw [e]
  exact ⟨hg, .inl ⟨n, hd, hg⟩⟩
theorem lastN_in {r : Rt} {l : Nm} {n : Nat} {rd : List Nm} (h : Rm.Gr (Adj jns) (· ∈ fars jns r) n l rd) : lastN rd ∈ fars jns r := by
  obtain ⟨z, e, hz⟩ := h.last
  unfold lastN
  rw [e]
  exact hz
theorem stepsM_ok (hok : LJok ls jns) (jnd : (jns.map (·.1)).Nodup) (hnm : ∀ z ∈ ls, IsNm z) : ∀ (rs : List Rt) (x : Nm), (∀ r ∈ rs, RtFit jns r) → x ∈ ls → ∀ s ∈ stepsM jns rs x, StOk s
  | [], _, _, _, s, h => (by cases h)
  | r :: rs, x, hr, hx, s, h => by
    have hf := hr r List.mem_cons_self
    have ih := fun y hy => stepsM_ok hok jnd hnm rs y (fun r h => hr r (List.mem_cons_of_mem _ h)) hy
    have ho := over_in hok hf
    cases e : lackF jns r x with
    | none =>
      rw [stepsM_none e] at h
      rcases List.mem_cons.mp h with c | c
      · rw [c]; exact True.intro
      · exact ih x hx s c
    | some n =>
      obtain ⟨hg, hrd⟩ := roadF_gr hok jnd hf e
      have hin := (rd_in hok (fars_in hok jnd hf) hrd).1
      rw [stepsM_some e] at h
      split at h
      · rcases List.mem_cons.mp h with c | c
        · rw [c]; exact True.intro
        · exact ih x hx s c
      · split at h
        · rcases List.mem_cons.mp h with c | c
          · rw [c]
            exact fun z hz => hnm z (hin z hz)
          · rcases List.mem_cons.mp c with c | c
            · rw [c]
              exact ⟨hnm _ (fars_in hok jnd hf _ (lastN_in hg)), hnm _ ho⟩
            · exact ih _ ho s c
        · rcases List.mem_cons.mp h with c | c
          · rw [c]
            exact ⟨hnm _ hx, hnm _ ho⟩
          · exact ih _ ho s c
theorem stepsM_nil {rs : List Rt} {l : Nm} (h : stepsM jns rs l = []) : rs = [] := by
  cases rs with
  | nil => rfl
  | cons r rs =>
    cases e : lackF jns r l with
    | none => rw [stepsM_none e] at h; cases h
    | some n =>
      rw [stepsM_some e] at h
      split at h
      · cases h
      · split at h <;> cases h
end
/-! returns in whatever order: the same order; steps and papers as data -/
theorem lt3 {d1 h1 n1 d2 h2 n2 : Int} : PyProof.Rows.lexLt PyProof.Rows.itemOrd (PySem.W.keyToksAll [.int d1, .int h1, .int n1]) (PySem.W.keyToksAll [.int d2, .int h2, .int n2]) = true ↔ (d1 < d2 ∨ (d1 = d2 ∧ (h1 < h2 ∨ (h1 = h2 ∧ n1 < n2)))) := by
  by_cases c1 : d1 = d2
  · have e1 : PyData.eqv (.int d1) (.int d2) = true := by rw [eqv_int, decide_eq_true c1]
    rw [PySem.W.dataLt_all_yes (alike_int d1 d2) e1]
    by_cases c2 : h1 = h2
    · have e2 : PyData.eqv (.int h1) (.int h2) = true := by rw [eqv_int, decide_eq_true c2]
      rw [PySem.W.dataLt_all_yes (alike_int h1 h2) e2]
      by_cases c3 : n1 = n2
      · rw [c3, show PyProof.Rows.lexLt PyProof.Rows.itemOrd (PySem.W.keyToksAll [.int n2]) (PySem.W.keyToksAll [.int n2]) = false from (PySem.W.dataLt_tuple _ _).symm.trans (PySem.W.dataLt_self _)]
        constructor
        · intro h; cases h
        · intro h; omega
      · have e3 : PyData.eqv (.int n1) (.int n2) = false := by rw [eqv_int, decide_eq_false c3]
        rw [PySem.W.dataLt_all_no (alike_int n1 n2) e3, PySem.W.dataLt_int, decide_eq_true_eq]
        omega
    · have e2 : PyData.eqv (.int h1) (.int h2) = false := by rw [eqv_int, decide_eq_false c2]
      rw [PySem.W.dataLt_all_no (alike_int h1 h2) e2, PySem.W.dataLt_int, decide_eq_true_eq]
      omega
  · have e1 : PyData.eqv (.int d1) (.int d2) = false := by rw [eqv_int, decide_eq_false c1]
    rw [PySem.W.dataLt_all_no (alike_int d1 d2) e1, PySem.W.dataLt_int, decide_eq_true_eq]
    omega
theorem key_num {a b : Rt} (h1 : PySem.W.dataLt (Lr.key3 kR b) (Lr.key3 kR a) = false) (h2 : PySem.W.dataLt (Lr.key3 kR a) (Lr.key3 kR b) = false) : a.num = b.num := by
  have k1 : ¬ PySem.W.dataLt (Lr.key3 kR b) (Lr.key3 kR a) = true := by rw [h1]; simp
  have k2 : ¬ PySem.W.dataLt (Lr.key3 kR a) (Lr.key3 kR b) = true := by rw [h2]; simp
  have k1 : ¬ _ := fun z => k1 ((PySem.W.dataLt_tuple _ _).trans (lt3.mpr z))
  have k2 : ¬ _ := fun z => k2 ((PySem.W.dataLt_tuple _ _).trans (lt3.mpr z))
  have k1 : ¬ (b.day < a.day ∨ (b.day = a.day ∧ (b.hour < a.hour ∨ (b.hour = a.hour ∧ b.num < a.num)))) := k1
  have k2 : ¬ (a.day < b.day ∨ (a.day = b.day ∧ (a.hour < b.hour ∨ (a.hour = b.hour ∧ a.num < b.num)))) := k2
  omega
theorem sortR_eq {rs rs' : List Rt} (h : rs.Perm rs') (nd : (rs.map (·.num)).Nodup) : sortR rs = sortR rs' := by
  have tt := PySem.W.sortLe_total (PyProof.Rows.listOrd PyProof.Rows.itemOrd) false (fun r : Rt => PySem.W.keyToks (Lr.key3 kR r))
  refine List.Perm.eq_of_pairwise (le := fun a b => PySem.W.dataLe false (Lr.key3 kR) a b = true) (fun a b ha hb h1 h2 => ?_) (List.pairwise_mergeSort (fun a b c => tt.trans a b c) (fun a b => Bool.or_eq_true_iff.mpr (tt.total a b)) _) (List.pairwise_mergeSort (fun a b c => tt.trans a b c) (fun a b => Bool.or_eq_true_iff.mpr (tt.total a b)) _) ((sortR_perm rs).trans (h.trans (sortR_perm rs').symm))
  have ha := (sortR_perm rs).mem_iff.mp ha
  have hb := h.mem_iff.mpr ((sortR_perm rs').mem_iff.mp hb)
  refine num_inj nd ha hb (key_num ?_ ?_)
  · have h1 : (!PySem.W.dataLt (Lr.key3 kR b) (Lr.key3 kR a)) = true := h1
    simpa using h1
  · have h2 : (!PySem.W.dataLt (Lr.key3 kR a) (Lr.key3 kR b)) = true := h2
    simpa using h2
theorem dpAll_paper {K : PySem.W.Frag} {H : Hp} : ∀ {ts : List Addr} {rs : List Rt}, Paired (RtA H) ts rs → (∀ r ∈ rs, RtFull r) → DpAll K H (ts.map V.ref) (rs.map paperD)
  | _, _, .nil, _ => .nil
  | _, _, .cons h t, f => .cons (dp_paper h (f _ List.mem_cons_self)) (dpAll_paper t fun r hr => f r (List.mem_cons_of_mem _ hr))
theorem layAll_paper : ∀ {rs : List Rt}, (∀ r ∈ rs, RtFull r) → PyData.canLayAll0 (rs.map paperD) = true
  | [], _ => rfl
  | r :: rs, f => by
    show ((paperD r).canLay0 && PyData.canLayAll0 (rs.map paperD)) = true
    rw [lay_paper (f r List.mem_cons_self), layAll_paper fun r hr => f r (List.mem_cons_of_mem _ hr)]
    rfl
theorem depthAll_paper : ∀ {rs : List Rt}, (∀ r ∈ rs, RtFull r) → PyData.depthAll (rs.map paperD) ≤ 1
  | [], _ => Nat.zero_le _
  | r :: rs, f => Nat.max_le.mpr ⟨paperD_depth (f r List.mem_cons_self), depthAll_paper fun r hr => f r (List.mem_cons_of_mem _ hr)⟩
theorem shaped_papers {rs : List Rt} (f : ∀ r ∈ rs, RtFull r) : SeqAt.shaped (.list (rs.map paperD)) = true := Bool.and_eq_true_iff.mpr ⟨layAll_paper f, decide_eq_true (by
  show PyData.depthAll (rs.map paperD) + 1 ≤ 64
  have := depthAll_paper f
  omega)⟩
theorem dpAll_stp {K : PySem.W.Frag} {H : Hp} : ∀ {fa : List Addr} {ss : List Stp}, Paired (StpA H) fa ss → DpAll K H (fa.map V.ref) (ss.map stpD)
  | _, _, .nil => .nil
  | _, _, .cons h t => .cons (dp_stp h) (dpAll_stp t)
theorem layAll_stp : ∀ {ss : List Stp}, (∀ s ∈ ss, StOk s) → PyData.canLayAll0 (ss.map stpD) = true
  | [], _ => rfl
  | s :: ss, f => by
    show ((stpD s).canLay0 && PyData.canLayAll0 (ss.map stpD)) = true
    rw [lay_stp (f s List.mem_cons_self), layAll_stp fun r hr => f r (List.mem_cons_of_mem _ hr)]
    rfl
theorem depthAll_stp : ∀ ss : List Stp, PyData.depthAll (ss.map stpD) ≤ 2
  | [] => Nat.zero_le _
  | s :: ss => Nat.max_le.mpr ⟨depth_stp s, depthAll_stp ss⟩
theorem shaped_stps {ss : List Stp} (f : ∀ s ∈ ss, StOk s) : SeqAt.shaped (.list (ss.map stpD)) = true := Bool.and_eq_true_iff.mpr ⟨layAll_stp f, decide_eq_true (by
  show PyData.depthAll (ss.map stpD) + 1 ≤ 64
  have := depthAll_stp ss
  omega)⟩
theorem StpA.updL {H : Hp} {a p : Addr} {s : Stp} {o : HO} {xs : List V} (h : StpA H a s) (e : H p = some (.lst xs)) : StpA (upd H p o) a s := h.tk fun b ys z => by
  rw [upd_ne fun w => by rw [w, e] at z; cases z]
  exact z
theorem ext_keep2 {H H1 H2 : Hp} {p : Addr} (e : LamX.ExtN H H1) (n : NewN H p) (k : Keep p H1 H2) : LamX.ExtN H H2 := fun b o h nt => k b o (n b o h nt) (e b o h nt)
theorem ext_updN {H H1 : Hp} {p : Addr} {u : HO} (e : LamX.ExtN H H1) (n : NewN H p) : LamX.ExtN H (upd H1 p u) := fun b o h nt => by
  rw [upd_ne (n b o h nt)]
  exact e b o h nt
theorem stepsM_len {jns : List (Nm × List Nm)} : ∀ (rs : List Rt) (x : Nm), (stepsM jns rs x).length ≤ 2 * rs.length
  | [], _ => Nat.le_refl _
  | r :: rs, x => by
    have h1 := stepsM_len (jns := jns) rs x
    have h2 := stepsM_len (jns := jns) rs r.over
    rw [List.length_cons]
    cases e : lackF jns r x with
    | none => rw [stepsM_none e, List.length_cons]; omega
    | some n =>
      rw [stepsM_some e]
      split
      · rw [List.length_cons]; omega
      · split
        · rw [List.length_cons, List.length_cons]; omega
        · rw [List.length_cons]; omega
end Th
namespace Th
open PySem PySem.Spec PyProof.Rows L2
/-! what a history holds: its held returns, with the roads of the gaps ahead of them -/
theorem dcW {J : It} {n : Nat} {G : Hp → Prop} {Y : Nat → Hp → V → Hp → Prop} (w : Walk J n G Y) {g : TG} {tt : TT} {tk tv : TE} {vs : List Nat} {σ : L2.St} {H1 : Hp} {D : Addr} {Qd : Hp → Prop} (I : Nat → Hp → Prop)
    (start : I 0 (upd H1 D (.dK []))) (keep : ∀ i H, i ≤ n → I i H → G H)
    (turn : ∀ i x H H', i < n → I i H → Y i H x H' → g x (wipe σ vs) H' fun σ2 H2 => wipe σ2 vs = wipe σ vs ∧ tt σ2 H2 fun b H3 => if b = true then tk σ2 H3 fun y H4 => tv σ2 H4 fun z H5 => ∃ kvs k, y = kV k ∧ H5 D = some (.dK kvs) ∧ kvs.length < sizeLine ∧ I (i + 1) (upd H5 D (.dK (putK kvs k z))) else I (i + 1) H3)
    (done : ∀ H, I n H → Qd H) :
    ∃ W : Nat → Nat → Hp → Prop, (∃ m, W 0 m (upd H1 D (.dK []))) ∧ ∀ i m H, W i m H → (J.stop i H ∧ Qd H) ∨ (J.go i H ∧ ∃ Nx : Hp → Prop, (∀ H', Nx H' → ∃ m', m' < m ∧ W (i + 1) m' H') ∧ ∀ x H', J.yld i H x H' → g x (wipe σ vs) H' fun σ2 H2 => wipe σ2 vs = wipe σ vs ∧ tt σ2 H2 fun b H3 => if b = true then tk σ2 H3 fun y H4 => tv σ2 H4 fun z H5 => ∃ kvs k, y = kV k ∧ H5 D = some (.dK kvs) ∧ kvs.length < sizeLine ∧ Nx (upd H5 D (.dK (putK kvs k z))) else Nx H3) :=
  ⟨fun i m H => m = n - i ∧ i ≤ n ∧ I i H, ⟨n, (Nat.sub_zero n).symm, Nat.zero_le n, start⟩, fun i m H hw => by
    obtain ⟨rfl, hi, p⟩ := hw
    rcases Nat.lt_or_ge i n with c | c
    · exact .inr ⟨w.goes i H c (keep i H hi p), I (i + 1), fun H' z => ⟨n - (i + 1), by omega, rfl, c, z⟩, fun x H' y => turn i x H H' c p (w.yields i H x H' c (keep i H hi p) y)⟩
    · have e : i = n := Nat.le_antisymm hi c
      subst e
      exact .inl ⟨w.stops H (keep i H hi p), done H p⟩⟩
structure Hd where
  road : List Nm
  near : Nm
  row : Rt
inductive HeldOf (rs : List Rt) : List Nm → List Stp → List Hd → Prop
  | nil (rd : List Nm) : HeldOf rs rd [] []
  | aside {rd : List Nm} {n : Int} {ss : List Stp} {hs : List Hd} : HeldOf rs rd ss hs → HeldOf rs rd (.aside n :: ss) hs
  | gap {rd g : List Nm} {ss : List Stp} {hs : List Hd} : HeldOf rs g ss hs → HeldOf rs rd (.gap g :: ss) hs
  | held {rd : List Nm} {n : Int} {l o : Nm} {r : Rt} {ss : List Stp} {hs : List Hd} : r ∈ rs → r.num = n → r.over = o → HeldOf rs [] ss hs → HeldOf rs rd (.held n l o :: ss) (⟨rd, l, r⟩ :: hs)
theorem HeldOf.mono {rs rs' : List Rt} (h : ∀ r ∈ rs, r ∈ rs') : ∀ {rd : List Nm} {ss : List Stp} {hs : List Hd}, HeldOf rs rd ss hs → HeldOf rs' rd ss hs
  | _, _, _, .nil rd => .nil rd
  | _, _, _, .aside k => .aside (k.mono h)
  | _, _, _, .gap k => .gap (k.mono h)
  | _, _, _, .held a b c k => .held (h _ a) b c (k.mono h)
theorem HeldOf.len {rs : List Rt} : ∀ {rd : List Nm} {ss : List Stp} {hs : List Hd}, HeldOf rs rd ss hs → hs.length ≤ ss.length
  | _, _, _, .nil rd => Nat.le_refl _
  | _, _, _, .aside k => Nat.le_succ_of_le k.len
  | _, _, _, .gap k => Nat.le_succ_of_le k.len
  | _, _, _, .held _ _ _ k => Nat.succ_le_succ k.len
theorem HeldOf.rows {rs : List Rt} : ∀ {rd : List Nm} {ss : List Stp} {hs : List Hd}, HeldOf rs rd ss hs → ∀ h ∈ hs, h.row ∈ rs
  | _, _, _, .nil rd, h, hm => (by cases hm)
  | _, _, _, .aside k, h, hm => k.rows h hm
  | _, _, _, .gap k, h, hm => k.rows h hm
  | _, _, _, .held a _ _ k, h, hm => by
    rcases List.mem_cons.mp hm with c | c
    · rw [c]; exact a
    · exact k.rows h c
theorem HeldOf.nms {rs : List Rt} : ∀ {rd : List Nm} {ss : List Stp} {hs : List Hd}, HeldOf rs rd ss hs → (∀ s ∈ ss, StOk s) → (∀ z ∈ rd, IsNm z) → ∀ h ∈ hs, IsNm h.near ∧ ∀ z ∈ h.road, IsNm z
  | _, _, _, .nil rd, _, _, h, hm => (by cases hm)
  | _, _, _, .aside k, so, ro, h, hm => k.nms (fun s hs => so s (List.mem_cons_of_mem _ hs)) ro h hm
  | _, _, _, .gap k, so, ro, h, hm => k.nms (fun s hs => so s (List.mem_cons_of_mem _ hs)) (so _ List.mem_cons_self) h hm
  | _, _, _, .held a _ _ k, so, ro, h, hm => by
    rcases List.mem_cons.mp hm with c | c
    · rw [c]; exact ⟨(so _ List.mem_cons_self).1, ro⟩
    · exact k.nms (fun s hs => so s (List.mem_cons_of_mem _ hs)) (fun z hz => (by cases hz)) h c
noncomputable def hM (jns : List (Nm × List Nm)) : List Rt → Nm → List Hd
  | [], _ => []
  | r :: rs, l => match lackF jns r l with
    | none => hM jns rs l
    | some n => if Fw jns (r :: rs) l < n + Fw jns rs r.over then hM jns rs l
      else (if 0 < n then ⟨roadF jns r l, lastN (roadF jns r l), r⟩ else ⟨[], l, r⟩) :: hM jns rs r.over
theorem hM_none {jns : List (Nm × List Nm)} {r : Rt} {rs : List Rt} {l : Nm} (h : lackF jns r l = none) : hM jns (r :: rs) l = hM jns rs l := by
  show (match lackF jns r l with | none => _ | some k => _) = _
  rw [h]
theorem hM_some {jns : List (Nm × List Nm)} {r : Rt} {rs : List Rt} {l : Nm} {n : Nat} (h : lackF jns r l = some n) : hM jns (r :: rs) l = if Fw jns (r :: rs) l < n + Fw jns rs r.over then hM jns rs l
      else (if 0 < n then ⟨roadF jns r l, lastN (roadF jns r l), r⟩ else ⟨[], l, r⟩) :: hM jns rs r.over := by
  show (match lackF jns r l with | none => _ | some k => _) = _
  rw [h]
theorem heldOf_hM {jns : List (Nm × List Nm)} {all : List Rt} : ∀ (rs : List Rt) (x : Nm), (∀ r ∈ rs, r ∈ all) → HeldOf all [] (stepsM jns rs x) (hM jns rs x)
  | [], _, _ => .nil _
  | r :: rs, x, h => by
    have ih := fun y => heldOf_hM (jns := jns) rs y fun r hr => h r (List.mem_cons_of_mem _ hr)
    have hr := h r List.mem_cons_self
    cases e : lackF jns r x with
    | none =>
      rw [stepsM_none e, hM_none e]
      exact .aside (ih x)
    | some n =>
      rw [stepsM_some e, hM_some e]
      split
      · exact .aside (ih x)
      · split
        · exact .gap (.held hr rfl rfl (ih r.over))
        · exact .held hr rfl rfl (ih r.over)
theorem hM_sub {jns : List (Nm × List Nm)} : ∀ (rs : List Rt) (x : Nm), ((hM jns rs x).map (·.row)).Sublist rs
  | [], _ => .slnil
  | r :: rs, x => by
    have ih := fun y => hM_sub (jns := jns) rs y
    cases e : lackF jns r x with
    | none =>
      rw [hM_none e]
      exact .cons _ (ih x)
    | some n =>
      rw [hM_some e]
      split
      · exact .cons _ (ih x)
      · rw [List.map_cons]
        have : (if 0 < n then (⟨roadF jns r x, lastN (roadF jns r x), r⟩ : Hd) else ⟨[], x, r⟩).row = r := by split <;> rfl
        rw [this]
        exact .cons₂ _ (ih r.over)
theorem sortR_days (rs : List Rt) : (sortR rs).Pairwise fun a b => a.day ≤ b.day := by
  have tt := PySem.W.sortLe_total (PyProof.Rows.listOrd PyProof.Rows.itemOrd) false (fun r : Rt => PySem.W.keyToks (Lr.key3 kR r))
  refine (List.pairwise_mergeSort (le := PySem.W.dataLe false (Lr.key3 kR)) (fun a b c => tt.trans a b c) (fun a b => Bool.or_eq_true_iff.mpr (tt.total a b)) rs).imp fun {a b} h => ?_
  have h : (!PySem.W.dataLt (Lr.key3 kR b) (Lr.key3 kR a)) = true := h
  have k1 : ¬ PySem.W.dataLt (Lr.key3 kR b) (Lr.key3 kR a) = true := by
    intro z
    rw [z] at h
    cases h
  have k2 : ¬ (b.day < a.day ∨ (b.day = a.day ∧ (b.hour < a.hour ∨ (b.hour = a.hour ∧ b.num < a.num)))) := fun z => k1 ((PySem.W.dataLt_tuple _ _).trans (lt3.mpr z))
  omega
/-- what is held, day by day in order, the days within bounds -/
structure HsOk (hs : List Hd) : Prop where
  ord : hs.Pairwise fun a b => a.row.day ≤ b.row.day
  lo : ∀ h ∈ hs, 0 ≤ h.row.day ∧ h.row.day ≤ 420
  nm : ∀ h ∈ hs, IsNm h.near ∧ ∀ z ∈ h.road, IsNm z
  full : ∀ h ∈ hs, RtFull h.row
  len : hs.length ≤ 1000
theorem hsOk_hM {jns : List (Nm × List Nm)} {ls : List Nm} {rs : List Rt} {x : Nm} (hok : LJok ls jns) (jnd : (jns.map (·.1)).Nodup) (hnm : ∀ z ∈ ls, IsNm z) (hfull : ∀ r ∈ rs, RtFull r ∧ RtFit jns r) (hday : ∀ r ∈ rs, 0 ≤ r.day ∧ r.day ≤ 420) (hx : x ∈ ls) (hl : rs.length ≤ 500) : HsOk (hM jns (sortR rs) x) := by
  have hp := sortR_perm rs
  have ho := heldOf_hM (jns := jns) (all := rs) (sortR rs) x fun r h => hp.mem_iff.mp h
  have so := stepsM_ok hok jnd hnm (sortR rs) x (fun r h => (hfull r (hp.mem_iff.mp h)).2) hx
  have sl := stepsM_len (jns := jns) (sortR rs) x
  have pl := hp.length_eq
  refine ⟨?_, fun h hm => hday _ (ho.rows h hm), fun h hm => ho.nms so (fun z hz => (by cases hz)) h hm, fun h hm => (hfull _ (ho.rows h hm)).1, ?_⟩
  · exact (List.pairwise_map (f := fun h : Hd => h.row) (R := fun a b : Rt => a.day ≤ b.day)).mp ((sortR_days rs).sublist (hM_sub (sortR rs) x))
  · have := ho.len
    omega
def HdA (H : Hp) (a : Addr) (h : Hd) : Prop := ∃ u t, H a = some (.tup [.ref u, nS h.near, .ref t]) ∧ H u = some (.tup (h.road.map nS)) ∧ RtA H t h.row
theorem HdA.tk {H H' : Hp} {a : Addr} {h : Hd} (q : HdA H a h) (t : ∀ b xs, H b = some (.tup xs) → H' b = some (.tup xs)) : HdA H' a h := let ⟨u, v, e1, e2, e3⟩ := q; ⟨u, v, t _ _ e1, t _ _ e2, t _ _ e3⟩
theorem tk_lst {H : Hp} {p : Addr} {o : HO} {xs : List V} (e : H p = some (.lst xs)) : ∀ b ys, H b = some (.tup ys) → (upd H p o) b = some (.tup ys) := fun b ys z => by
  rw [upd_ne fun w => by rw [w, e] at z; cases z]
  exact z
theorem tk_dict {H : Hp} {p : Addr} {o : HO} {kvs : List (Key × V)} (e : H p = some (.dK kvs)) : ∀ b ys, H b = some (.tup ys) → (upd H p o) b = some (.tup ys) := fun b ys z => by
  rw [upd_ne fun w => by rw [w, e] at z; cases z]
  exact z
theorem drop_cons {α : Type} {l : List α} {i : Nat} {a : α} (h : l[i]? = some a) : l.drop i = a :: l.drop (i + 1) := by
  have hl := List.getElem?_eq_some_iff.mp h
  rw [List.drop_eq_getElem_cons hl.1, hl.2]
/-- the returns by number -/
def NumA (kvs : List (Key × V)) (ts : List Addr) (rs : List Rt) (i : Nat) : Prop := ∀ j t r, j < i → ts[j]? = some t → rs[j]? = some r → valV kvs (Sum.inl r.num) = some (.ref t)
theorem NumA.put {kvs : List (Key × V)} {ts : List Addr} {rs : List Rt} {i : Nat} {t : Addr} {r : Rt} (h : NumA kvs ts rs i) (nd : (rs.map (·.num)).Nodup) (et : ts[i]? = some t) (er : rs[i]? = some r) : NumA (putK kvs (Sum.inl r.num) (.ref t)) ts rs (i + 1) := fun j t' r' hj ht hr => by
  rw [valV_put]
  by_cases c : j = i
  · subst c
    rw [et] at ht
    rw [er] at hr
    have e1 := Option.some.inj ht
    have e2 := Option.some.inj hr
    subst e1 e2
    rw [if_pos rfl]
  · rw [if_neg fun z => c ?_]
    · exact h j t' r' (by omega) ht hr
    · have z : r'.num = r.num := Sum.inl.inj z
      have e1 : (rs.map (·.num))[j]? = some r'.num := by rw [List.getElem?_map, hr]; rfl
      have e2 : (rs.map (·.num))[i]? = some r'.num := by rw [List.getElem?_map, er, z]; rfl
      exact nodup_inj nd e1 e2
theorem NumA.get {kvs : List (Key × V)} {H : Hp} {ts : List Addr} {rs : List Rt} {n : Nat} {r : Rt} (h : NumA kvs ts rs n) (hn : n = ts.length) (hp : Paired (RtA H) ts rs) (hr : r ∈ rs) : ∃ t, valV kvs (Sum.inl r.num) = some (.ref t) ∧ RtA H t r := by
  obtain ⟨j, hj⟩ := List.getElem?_of_mem hr
  obtain ⟨t, et, ht⟩ := paired_atC hp hj
  exact ⟨t, h j t r (by rw [hn]; exact (List.getElem?_eq_some_iff.mp et).1) et hj, ht⟩
section
variable {P : Program} {w : World} {K : PySem.W.Frag} {mg : Str → Option Value} {base : Heap} {k : Nat}
def sp_held_returns (K : PySem.W.Frag) : Sp := fun vs H Q _ => ∃ (D l : Addr) (fa ts : List Addr) (ss : List Stp) (rs : List Rt) (hs : List Hd), vs = [.ref D, .ref l] ∧ SqL K H D (fa.map V.ref) ∧ Paired (StpA H) fa ss ∧ SqL K H l (ts.map V.ref) ∧ Paired (RtA H) ts rs ∧ (∀ r ∈ rs, RtOk r) ∧ (rs.map (·.num)).Nodup ∧ ts.length ≤ 1000 ∧ fa.length ≤ 2000 ∧ HeldOf rs [] ss hs ∧
  ∀ H' p as, Same H H' → H p = none → H' p = some (.lst (as.map V.ref)) → Paired (HdA H') as hs → Q (.ref p) H'
set_option maxHeartbeats 16000000 in
theorem ok_held_returns (T : Defs K mg) : FnOk P w K mg base CX0 (k + 1) T.a_held_returns T.d_held_returns ["steps", "returns"] (sp_held_returns K) := by
  refine T.F_held_returns.ok sc_held_returns (fun vs H Q E h => ?_) (fun cdv A outer s H vs Q E hr h => ?_)
  · obtain ⟨D, l, fa, ts, ss, rs, hs, rfl, _⟩ := h
    rfl
  · obtain ⟨D, l, fa, ts, ss, rs, hs, rfl, eD, hfa, el, hts, hrs, hnd, t1000, f2000, hh, q⟩ := h
    refine ⟨_, PSs.nox
(pss_cons (Ds.ps_setDc (i := 2) (own := [("row", 6)]) (g := gName 6) rfl sc_held_returns.nd rfl rfl (Ds.sw_trueD rfl rfl rfl (by decide +kernel)) (pi_list (pv 1)) (blkOk_by (N := N_held_returns) (sc := defScope s_held_returns) (by decide +kernel)) (fun _ _ _ _ _ => (pg_name (i := 6) sc_held_returns.nd rfl (.inl rfl))) (fun _ _ _ _ _ => pts_nil) (fun _ _ _ _ _ => (pe_ix (r := rIxT K) ix_tup (pv 6) (pe_glob (v := .int 1) (by rfl) T.c_NUMBER ⟨_, rfl⟩) (fun _ _ => rfl))) (fun _ _ _ _ _ => (pv 6)))
    (pss_cons (ps_set (i := 3) sc_held_returns.nd rfl (.inl rfl) (pe_lst pa_nil))
    (pss_cons (ps_set (i := 4) sc_held_returns.nd rfl (.inl rfl) (pe_tup pa_nil))
    (pss_cons (ps_for PassesOwn.never rfl (pi_list (pv 0)) (pg_name (i := 5) sc_held_returns.nd rfl (.inl rfl))
      (pss_one (ps_if (pt_cmpR op_eq (pe_ix (r := rIxT K) ix_tup (pv 5) (pe_int) (fun _ _ => rfl)) (pe_str) (nomark _))
        (pss_one (ps_set (i := 4) sc_held_returns.nd rfl (.inl rfl) (pe_ix (r := rIxT K) ix_tup (pv 5) (pe_int) (fun _ _ => rfl))))
        (pss_one (ps_if (pt_cmpR op_eq (pe_ix (r := rIxT K) ix_tup (pv 5) (pe_int) (fun _ _ => rfl)) (pe_str) (nomark _))
          (pss_cons (ps_expr (pe_bm PySem.F.plainAttrs_list PySem.F.slot_list_append PySem.F.type_list_append mt_append (pv 3) (pa_cons (pe_tup (pa_cons (pv 4) (pa_cons (pe_ix (r := rIxT K) ix_tup (pv 5) (pe_int) (fun _ _ => rfl)) (pa_cons (pe_dget (hu_of hr) (pv 2) (pe_ix (r := rIxT K) ix_tup (pv 5) (pe_int) (fun _ _ => rfl)) (fun _ _ => rfl)) pa_nil)))) pa_nil)))
          (pss_one (ps_set (i := 4) sc_held_returns.nd rfl (.inl rfl) (pe_tup pa_nil))))
          pss_nil)))))
    (pss_one (ps_ret (pv 3)))))))
      , ?_⟩
    have tl := paired_len hts
    have fl := paired_len hfa
    have hl := hh.len
    refine ⟨.ref l, rfl, l, rfl, ⟨_, el⟩, fun B nB => ?_⟩
    refine dcW (walk_list (xs := ts.map V.ref)) (fun i Hx => Same H Hx ∧ ∃ kvs : List (Key × V), Hx B = some (.dK kvs) ∧ kvs.length ≤ i ∧ NumA kvs ts rs i) ⟨same_upd nB, [], upd_same, Nat.le_refl _, fun j t r hj => absurd hj (Nat.not_lt_zero _)⟩ (fun i Hx _ pv => sq_same pv.1 el) (fun i v Hx₀ Hx hi pv yy => ?_) (fun H2 pv => ?_)
    · obtain ⟨rfl, ex⟩ := yy
      obtain ⟨sx, kvs, eB, kl, hn⟩ := pv
      obtain ⟨t, et, rfl⟩ := at_ref ex
      obtain ⟨r, er, ht⟩ := paired_get hts et
      have rok := hrs r (List.mem_of_getElem? er)
      rw [List.length_map] at hi
      refine ⟨rfl, yes_ ?_⟩
      refine ⟨.ref t, rfl, t, _, 1, _, rfl, rfl, SqT.of (sx _ _ ht), atI_nat (j := 1) rok.i1, .ref t, rfl, kvs, Sum.inl r.num, rfl, eB, small5000 (by omega), same_set sx nB, _, upd_same, ?_, hn.put hnd et er⟩
      have := length_putK kvs (Sum.inl r.num) (V.ref t)
      omega
    obtain ⟨s2, kvs, eB, kl, hn⟩ := pv
    rw [List.length_map] at hn
    refine ⟨Nat.zero_le _, fun F nF => ⟨Nat.zero_le _, fun u0 nu0 => ?_⟩⟩
    have sF := same_upd (o := .lst []) nF
    have su0 := same_upd (o := .tup []) nu0
    have s3 := (s2.trans sF).trans su0
    have eF3 := su0 _ _ (show (upd H2 F (.lst [])) F = some (.lst []) from upd_same)
    have eB3 := su0 _ _ (sF _ _ eB)
    have eu3 : (upd (upd H2 F (.lst [])) u0 (.tup [])) u0 = some (.tup []) := upd_same
    have nFH := up0 s2 nF
    generalize upd (upd H2 F (.lst [])) u0 (.tup []) = H3 at s3 eF3 eB3 eu3 ⊢
    refine ⟨.ref D, rfl, D, rfl, ⟨_, sq_same s3 eD⟩, ?_⟩
    refine for_it (walk_list (xs := fa.map V.ref)) (fun i σ Hx => ∃ (u : Addr) (y5 : Option V) (rd : List Nm) (as : List Addr) (h1 h2 : List Hd), σ = [some (.ref D), some (.ref l), some (.ref B), some (.ref F), some (.ref u), y5, none] ∧ Same H Hx ∧ Hx B = some (.dK kvs) ∧ Hx F = some (.lst (as.map V.ref)) ∧ Paired (HdA Hx) as h1 ∧ Hx u = some (.tup (rd.map nS)) ∧ h1 ++ h2 = hs ∧ HeldOf rs rd (ss.drop i) h2)
      ⟨u0, none, [], [], [], hs, rfl, s3, eB3, eF3, .nil, eu3, rfl, hh⟩ (fun i σ Hx _ hp => ?_) (fun i v σ Hx₀ Hx hi hp yy => ?_) (fun σ Hx hp => ?_)
    · obtain ⟨_, _, _, _, _, _, _, sx, _⟩ := hp
      exact sq_same sx eD
    · obtain ⟨rfl, ex⟩ := yy
      obtain ⟨u, y5, rd, as, h1, h2, rfl, sx, eBx, eFx, has, eu, e12, ho⟩ := hp
      obtain ⟨a, ea, rfl⟩ := at_ref ex
      obtain ⟨st, est, hst⟩ := paired_get hfa ea
      have hstx : StpA Hx a st := hst.tk fun b xs h => sx _ _ h
      rw [drop_cons est] at ho
      have al : as.length ≤ 2000 := by
        have := paired_len has
        have e := congrArg List.length e12
        rw [List.length_append] at e
        omega
      cases st with
      | aside n =>
        cases ho with
        | aside ho =>
        have hstx : Hx a = some (.tup [.str "aside", .int n]) := hstx
        refine ⟨.ref a, rfl, a, _, 0, _, rfl, rfl, SqT.of hstx, atI_nat (j := 0) rfl, rfl, false, by decide +kernel, iteF ?_⟩
        refine ⟨.ref a, rfl, a, _, 0, _, rfl, rfl, SqT.of hstx, atI_nat (j := 0) rfl, rfl, false, by decide +kernel, iteF ?_⟩
        exact ⟨u, _, rd, as, h1, h2, rfl, sx, eBx, eFx, has, eu, e12, ho⟩
      | gap g =>
        cases ho with
        | gap ho =>
        obtain ⟨v, ev, ev2⟩ := hstx
        refine ⟨.ref a, rfl, a, _, 0, _, rfl, rfl, SqT.of ev, atI_nat (j := 0) rfl, rfl, true, by decide +kernel, iteT ?_⟩
        exact ⟨.ref a, rfl, a, _, 1, _, rfl, rfl, SqT.of ev, atI_nat (j := 1) rfl, v, _, g, as, h1, h2, rfl, sx, eBx, eFx, has, ev2, e12, ho⟩
      | held n l o =>
        cases ho with
        | @held _ _ _ _ r _ h3 hr1 hr2 hr3 ho =>
        have hstx : Hx a = some (.tup [.str "held", .int n, nS l, nS o]) := hstx
        obtain ⟨t, et, ht⟩ := hn.get rfl hts hr1
        rw [hr2] at et
        have g0 := DGet.k (k := Sum.inl n) eBx
        rw [et] at g0
        refine ⟨.ref a, rfl, a, _, 0, _, rfl, rfl, SqT.of hstx, atI_nat (j := 0) rfl, rfl, false, by decide +kernel, iteF ?_⟩
        refine ⟨.ref a, rfl, a, _, 0, _, rfl, rfl, SqT.of hstx, atI_nat (j := 0) rfl, rfl, true, by decide +kernel, iteT ?_⟩
        refine ⟨.ref F, rfl, .inl ⟨rfl, _, SqL.of eFx⟩, .ref u, rfl, .ref a, rfl, a, _, 2, _, rfl, rfl, SqT.of hstx, atI_nat (j := 2) rfl, .ref B, rfl, .ref a, rfl, a, _, 1, _, rfl, rfl, SqT.of hstx, atI_nat (j := 1) rfl, B, _, rfl, g0, by show 3 ≤ sizeLine; decide, fun c nc => ?_⟩
        have sc := same_upd (o := .tup [.ref u, nS l, .ref t]) nc
        have eFc := sc _ _ eFx
        refine ⟨F, _, _, rfl, rfl, eFc, by rw [List.length_map]; exact small5000 (by omega), ?_⟩
        have hc : HdA (upd Hx c (.tup [.ref u, nS l, .ref t])) c ⟨rd, l, r⟩ := ⟨u, t, upd_same, sc _ _ eu, sc _ _ (sx _ _ ht)⟩
        have hasc : Paired (HdA (upd Hx c (.tup [.ref u, nS l, .ref t]))) as h1 := paired_imp has fun a _ h z => z.tk fun b xs y => sc _ _ y
        have eBc := sc _ _ eBx
        have sxc := sx.trans sc
        generalize upd Hx c (.tup [.ref u, nS l, .ref t]) = Hc at sc eFc hc hasc eBc sxc ⊢
        have tk := tk_lst (o := .lst (as.map V.ref ++ [.ref c])) eFc
        refine ⟨Nat.zero_le _, fun u1 nu1 => ?_⟩
        have su1 := same_upd (o := .tup []) nu1
        refine ⟨u1, _, [], as ++ [c], h1 ++ [⟨rd, l, r⟩], h3, rfl, (same_set sxc nFH).trans su1, su1 _ _ (by rw [upd_ne fun z => by rw [z, eFc] at eBc; cases eBc]; exact eBc), su1 _ _ (by rw [upd_same, List.map_append]; rfl), paired_snoc (paired_imp hasc fun a _ h z => (z.tk tk).tk fun b xs y => su1 _ _ y) ((hc.tk tk).tk fun b xs y => su1 _ _ y), upd_same, by rw [← e12, List.append_assoc]; rfl, ho⟩
    · obtain ⟨u, y5, rd, as, h1, h2, rfl, sx, eBx, eFx, has, eu, e12, ho⟩ := hp
      rw [List.length_map, fl, List.drop_length] at ho
      cases ho
      rw [List.append_nil] at e12
      rw [e12] at has
      exact ⟨.ref F, rfl, q _ F as sx nFH eFx has⟩
end
end Th
namespace Th
open PySem PySem.Spec PyProof.Rows L2
/-! legs keep each line's chains; crossings and places; roads no longer than crossings -/
open Rm
theorem cross_mem {ws : List Nm} {ts : List Ti} {n : Nat} {c : Cr} (h : c ∈ crossTo ws ts n) : ∃ j t u, j < n ∧ ws[j + 1]? = some c.1 ∧ ts[j]? = some t ∧ ts[j + 1]? = some u ∧ t.ln = c.2.1 ∧ u.ln = c.2.2 := by
  obtain ⟨j, hj0, hj⟩ := List.mem_flatMap.mp h
  unfold crossAt at hj
  split at hj
  · rename_i x t u e1 e2 e3
    split at hj
    · cases hj
    · rw [List.mem_singleton.mp hj]
      exact ⟨j, t, u, List.mem_range.mp hj0, e1, e2, e3, rfl, rfl⟩
  · cases hj
/-- what is told of a place -/
theorem lk_mem {z : Nm} {l : List Nm} : ∀ (n : Nat) (es : List (Nm × List Nm)), es.length = n → lkF es z = some l → (z, l) ∈ es
  | 0, es, h, e => by rw [List.length_eq_zero_iff.mp h] at e; cases e
  | n + 1, es, h, e => by
    rcases snoc_or es with rfl | ⟨as, x, rfl⟩
    · simp at h
    · rw [lkF_snoc] at e
      by_cases c : z = x.1
      · rw [if_pos c] at e
        have := Option.some.inj e
        refine List.mem_append_right _ (List.mem_singleton.mpr ?_)
        rw [c, ← this]
      · rw [if_neg c] at e
        exact List.mem_append_left _ (lk_mem n as (by simpa using h) e)
theorem lk_ex {z : Nm} {l : List Nm} : ∀ (n : Nat) (es : List (Nm × List Nm)), es.length = n → (z, l) ∈ es → ∃ l', lkF es z = some l'
  | 0, es, h, e => by rw [List.length_eq_zero_iff.mp h] at e; cases e
  | n + 1, es, h, e => by
    rcases snoc_or es with rfl | ⟨as, x, rfl⟩
    · simp at h
    · rw [lkF_snoc]
      by_cases c : z = x.1
      · rw [if_pos c]; exact ⟨_, rfl⟩
      · rw [if_neg c]
        rcases List.mem_append.mp e with q | q
        · exact lk_ex n as (by simpa using h) q
        · exact absurd (by rw [← List.mem_singleton.mp q]) c
/-- a tie's line is one of its ends' -/
def PL (sts : List (Nm × Nm)) (jns : List (Nm × List Nm)) (tis : List Ti) : Prop := ∀ t ∈ tis, ∀ z, (z = t.a ∨ z = t.b) → ∃ l, lkF (ent sts jns) z = some l ∧ t.ln ∈ l
theorem net_pl {ls zs : List Nm} {qs : List (List Nat)} {J : Nat} {tis rws : List Ti} {sts : List (Nm × Nm)} {jns : List (Nm × List Nm)} (h : NetOk ls zs qs J tis) (pS : sts.Perm ((zs.zip qs).filterMap (stOf ls))) (pJ : jns.Perm ((zs.zip qs).filterMap (jnOf ls))) (pR : rws.Perm tis) : PL sts jns rws := by
  have up : ∀ z l, (z, l) ∈ ent sts jns → ∃ js, (z, js) ∈ zs.zip qs ∧ l = js.map fun j => ls.getD j [] := fun z l hm => by
    rcases List.mem_append.mp hm with q | q
    · obtain ⟨s, hs, e⟩ := List.mem_map.mp q
      obtain ⟨x, hx, ex⟩ := List.mem_filterMap.mp (pS.mem_iff.mp hs)
      unfold stOf at ex
      split at ex
      · rename_i c
        have := Option.some.inj ex
        subst this
        obtain ⟨j, hj⟩ := List.length_eq_one_iff.mp c
        injection e with e1 e2
        refine ⟨x.2, by rw [← e1]; exact hx, ?_⟩
        rw [← e2, hj]
        rfl
      · cases ex
    · obtain ⟨x, hx, ex⟩ := List.mem_filterMap.mp (pJ.mem_iff.mp q)
      unfold jnOf at ex
      split at ex
      · cases ex
      · have := Option.some.inj ex
        injection this with e1 e2
        exact ⟨x.2, by rw [← e1]; exact hx, e2.symm⟩
  have down : ∀ z js, (z, js) ∈ zs.zip qs → ∃ l, (z, l) ∈ ent sts jns := fun z js hm => by
    by_cases c : js.length = 1
    · exact ⟨[ls.getD (js.getD 0 0) []], List.mem_append_left _ (List.mem_map.mpr ⟨(z, ls.getD (js.getD 0 0) []), pS.mem_iff.mpr (List.mem_filterMap.mpr ⟨_, hm, by unfold stOf; rw [if_pos c]⟩), rfl⟩)⟩
    · exact ⟨js.map fun j => ls.getD j [], List.mem_append_right _ (pJ.mem_iff.mpr (List.mem_filterMap.mpr ⟨_, hm, by unfold jnOf; rw [if_neg c]⟩))⟩
  have one : ∀ (i x : Nat) (z : Nm) (a : List Nat) (t : Nm), zs[i]? = some z → qs[i]? = some a → x ∈ a → ls[x]? = some t → ∃ l, lkF (ent sts jns) z = some l ∧ t ∈ l := fun i x z a t h1 h2 h3 h4 => by
    have m : (z, a) ∈ zs.zip qs := List.mem_of_getElem? (i := i) (List.getElem?_zip_eq_some.mpr ⟨h1, h2⟩)
    obtain ⟨l0, hl0⟩ := down z a m
    obtain ⟨l, hl⟩ := lk_ex _ _ rfl hl0
    refine ⟨l, hl, ?_⟩
    obtain ⟨js, hjs, e⟩ := up z l (lk_mem _ _ rfl hl)
    obtain ⟨i', hi'⟩ := List.getElem?_of_mem hjs
    obtain ⟨g1, g2⟩ := List.getElem?_zip_eq_some.mp hi'
    have := nodup_inj h.znd g1 h1
    subst this
    have := Option.some.inj (h2.symm.trans g2)
    subst this
    rw [e]
    refine List.mem_map.mpr ⟨x, h3, ?_⟩
    rw [List.getD_eq_getElem?_getD, h4]
    rfl
  intro t ht z hz
  obtain ⟨i, j, x, a, b, hij, e1, e2, e3, e4, e5, e6, e7, _⟩ := h.ok t (pR.mem_iff.mp ht)
  rcases hz with rfl | rfl
  · exact one i x _ a _ e1 e3 e5 e7
  · exact one j x _ b _ e2 e4 e6 e7
/-- a way's places at a crossing have both lines -/
theorem tie_end {tis : List Ti} {ws : List Nm} {ts : List Ti} {sts : List (Nm × Nm)} {jns : List (Nm × List Nm)} (hw : WayOk tis ws ts) (pl : PL sts jns tis) {j : Nat} {t : Ti} (h : ts[j]? = some t) : ∀ i x, (i = j ∨ i = j + 1) → ws[i]? = some x → ∃ l, lkF (ent sts jns) x = some l ∧ t.ln ∈ l := fun i x hi hx => by
  obtain ⟨a, b, e1, e2, e3⟩ := hw.al.tie j t h
  have ht := List.mem_of_find?_eq_some e3
  have hp := List.find?_some e3
  have hp : (t.a = a ∧ t.b = b) ∨ (t.a = b ∧ t.b = a) := of_decide_eq_true hp
  refine pl t ht x ?_
  rcases hi with rfl | rfl
  · have := Option.some.inj (e1.symm.trans hx)
    subst this
    rcases hp with z | z
    · exact .inl z.1.symm
    · exact .inr z.2.symm
  · have := Option.some.inj (e2.symm.trans hx)
    subst this
    rcases hp with z | z
    · exact .inr z.2.symm
    · exact .inl z.1.symm
theorem cross_at {tis : List Ti} {ws : List Nm} {ts : List Ti} {sts : List (Nm × Nm)} {jns : List (Nm × List Nm)} (hw : WayOk tis ws ts) (pl : PL sts jns tis) {n : Nat} {c : Cr} (h : c ∈ crossTo ws ts n) : ∃ l, lkF (ent sts jns) c.1 = some l ∧ c.2.1 ∈ l ∧ c.2.2 ∈ l := by
  obtain ⟨j, t, u, _, e1, e2, e3, e4, e5⟩ := cross_mem h
  obtain ⟨l, h1, h2⟩ := tie_end hw pl e2 (j + 1) c.1 (.inr rfl) e1
  obtain ⟨l', h3, h4⟩ := tie_end hw pl e3 (j + 1) c.1 (.inl rfl) e1
  have := Option.some.inj (h1.symm.trans h3)
  subst this
  exact ⟨l, h1, e4 ▸ h2, e5 ▸ h4⟩
/-! seals: None, "whole", "broken" -/
def sV : Option Bool → V
  | none => .non
  | some true => .str "whole"
  | some false => .str "broken"
theorem sV_flat (sl : List (Option Bool)) : (sl.map sV).all flatV = true := by
  rw [List.all_map]
  refine List.all_eq_true.mpr fun s _ => ?_
  match s with
  | none => rfl
  | some true => rfl
  | some false => rfl
theorem sV_eq (s : Option Bool) (b : Bool) : decide (sV s = sV (some b)) = decide (s = some b) := by
  match s, b with
  | none, true => rfl
  | none, false => rfl
  | some true, true => decide
  | some false, true => decide
  | some true, false => decide
  | some false, false => decide
theorem scal_sV (s : Option Bool) (b : Bool) : scal (sV s) (sV (some b)) = true := by
  match s, b with
  | none, true => rfl
  | none, false => rfl
  | some true, true => rfl
  | some false, true => rfl
  | some true, false => rfl
  | some false, false => rfl
theorem seal_at {sl : List (Option Bool)} {i : Nat} {v : V} (h : (sl.map sV)[i]? = some v) : ∃ s, sl[i]? = some s ∧ v = sV s := by
  rw [List.getElem?_map] at h
  cases e : sl[i]? with
  | none => rw [e] at h; cases h
  | some z => rw [e] at h; exact ⟨z, rfl, (Option.some.inj h).symm⟩
theorem ref_at {fa : List Addr} {i : Nat} {v : V} (h : (fa.map V.ref)[i]? = some v) : ∃ u, fa[i]? = some u ∧ v = .ref u := by
  rw [List.getElem?_map] at h
  cases e : fa[i]? with
  | none => rw [e] at h; cases h
  | some z => rw [e] at h; exact ⟨z, rfl, (Option.some.inj h).symm⟩
abbrev slE : Option Bool → PyData
  | none => .none
  | some true => .str "whole"
  | some false => .str "broken"
abbrev slD (sl : List (Option Bool)) : PyData := .list (sl.map slE)
theorem dtAll_sl {H : Hp} : ∀ sl : List (Option Bool), DtAll SA H (sl.map sV) (sl.map slE)
  | [] => .nil
  | none :: r => .cons .non (dtAll_sl r)
  | some true :: r => .cons (.str _) (dtAll_sl r)
  | some false :: r => .cons (.str _) (dtAll_sl r)
theorem dt_sl {H : Hp} {R : Addr} {sl : List (Option Bool)} (h : H R = some (.lst (sl.map sV))) (l : sl.length ≤ 5000) : Dt SA H (.ref R) (slD sl) := .lst trivial h (by rw [List.length_map]; exact l) (dtAll_sl sl)
theorem layAll_sl : ∀ sl : List (Option Bool), PyData.canLayAll0 (sl.map slE) = true
  | [] => rfl
  | none :: r => by
    show (true && PyData.canLayAll0 (r.map slE)) = true
    rw [layAll_sl r]
    rfl
  | some true :: r => by
    show (PyData.strOk "whole" && PyData.canLayAll0 (r.map slE)) = true
    rw [layAll_sl r]
    decide +kernel
  | some false :: r => by
    show (PyData.strOk "broken" && PyData.canLayAll0 (r.map slE)) = true
    rw [layAll_sl r]
    decide +kernel
theorem depthAll_sl : ∀ sl : List (Option Bool), PyData.depthAll (sl.map slE) = 0
  | [] => rfl
  | none :: r => by rw [List.map_cons, PyData.depthAll, depthAll_sl r]; rfl
  | some true :: r => by rw [List.map_cons, PyData.depthAll, depthAll_sl r]; rfl
  | some false :: r => by rw [List.map_cons, PyData.depthAll, depthAll_sl r]; rfl
theorem lay_sl (sl : List (Option Bool)) : (slD sl).canLay0 = true := layAll_sl sl
theorem shaped_sl (sl : List (Option Bool)) : SeqAt.shaped (slD sl) = true := Bool.and_eq_true_iff.mpr ⟨lay_sl sl, decide_eq_true (by show PyData.depthAll (sl.map slE) + 1 ≤ _; rw [depthAll_sl]; decide)⟩
/-! what was seen at crossings -/
theorem NetAt.lj {K : PySem.W.Frag} {H : Hp} {r : Addr} {ls : List Nm} {sts : List (Nm × Nm)} {jns : List (Nm × List Nm)} {tis : List Ti} (h : NetAt H r ls sts jns tis) : LJ K H r ls jns := by
  obtain ⟨a, b, c, d, sa, ja, ta, e1, e2, e3, e4, e5, e6, e7, e8⟩ := h
  exact ⟨a, c, .ref b, .ref d, ja, SqT.of e1, e2.sq, e5.sq, paired_imp e6 fun x _ j ⟨t, f1, f2⟩ => ⟨t, SqT.of f1, SqT.of f2⟩⟩
theorem cross_ne {ws : List Nm} {ts : List Ti} {n : Nat} {c : Cr} (h : c ∈ crossTo ws ts n) : ¬ c.2.1 = c.2.2 := by
  obtain ⟨j, _, hj⟩ := List.mem_flatMap.mp h
  unfold crossAt at hj
  split at hj
  · split at hj
    · cases hj
    · rename_i hn
      rw [List.mem_singleton.mp hj]
      exact hn
  · cases hj
theorem cross_fit {tis : List Ti} {ws : List Nm} {ts : List Ti} {sts : List (Nm × Nm)} {jns : List (Nm × List Nm)} (hw : WayOk tis ws ts) (pl : PL sts jns tis) {n : Nat} {c : Cr} (h : c ∈ crossTo ws ts n) : ∃ j ∈ jns, j.1 = c.1 ∧ c.2.1 ∈ j.2 ∧ c.2.2 ∈ j.2 := by
  obtain ⟨l, h1, h2, h3⟩ := cross_at hw pl h
  rcases List.mem_append.mp (lk_mem _ _ rfl h1) with q | q
  · obtain ⟨s, _, e⟩ := List.mem_map.mp q
    injection e with _ e
    rw [← e] at h2 h3
    exact absurd ((List.mem_singleton.mp h2).trans (List.mem_singleton.mp h3).symm) (cross_ne h)
  · exact ⟨_, q, rfl, h2, h3⟩
theorem jn_sub (ls : List Nm) : ∀ (zs : List Nm) (qs : List (List Nat)), (((zs.zip qs).filterMap (jnOf ls)).map (·.1)).Sublist zs
  | [], _ => by simp
  | z :: zs, [] => by simp
  | z :: zs, q :: qs => by
    rw [List.zip_cons_cons, List.filterMap_cons]
    have ih := jn_sub ls zs qs
    by_cases c : q.length = 1
    · have : jnOf ls (z, q) = none := by unfold jnOf; rw [if_pos c]
      rw [this]
      exact List.Sublist.cons _ ih
    · have : jnOf ls (z, q) = some (z, q.map fun j => ls.getD j []) := by unfold jnOf; rw [if_neg c]
      rw [this]
      exact List.Sublist.cons_cons _ ih
theorem net_jnd {ls zs : List Nm} {qs : List (List Nat)} {J : Nat} {tis : List Ti} {jns : List (Nm × List Nm)} (h : NetOk ls zs qs J tis) (pJ : jns.Perm ((zs.zip qs).filterMap (jnOf ls))) : (jns.map (·.1)).Nodup :=
  ((pJ.map (·.1)).nodup_iff).mpr ((jn_sub ls zs qs).nodup h.znd)
theorem getD_in {ls : List Nm} {j : Nat} (h : j < ls.length) : ls.getD j [] ∈ ls := by
  rw [List.getD_eq_getElem?_getD, List.getElem?_eq_getElem h]
  exact List.getElem_mem h
theorem net_stin {ls zs : List Nm} {qs : List (List Nat)} {J : Nat} {tis : List Ti} {sts : List (Nm × Nm)} (h : NetOk ls zs qs J tis) (pS : sts.Perm ((zs.zip qs).filterMap (stOf ls))) : ∀ s ∈ sts, s.2 ∈ ls := fun s hs => by
  obtain ⟨y, hy, ey⟩ := List.mem_filterMap.mp (pS.mem_iff.mp hs)
  unfold stOf at ey
  split at ey
  · rename_i c
    have := Option.some.inj ey
    rw [← this]
    have hq := h.q.each h.l8 y.2 (List.of_mem_zip hy).2
    obtain ⟨k, hk⟩ := List.length_eq_one_iff.mp c
    rw [hk] at hq ⊢
    exact getD_in (hq.2.2 k (List.mem_singleton.mpr rfl))
  · cases ey
theorem net_jnin {ls zs : List Nm} {qs : List (List Nat)} {J : Nat} {tis : List Ti} {jns : List (Nm × List Nm)} (h : NetOk ls zs qs J tis) (pJ : jns.Perm ((zs.zip qs).filterMap (jnOf ls))) : (∀ j ∈ jns, IsNm j.1 ∧ 1 ≤ j.2.length ∧ j.2.length ≤ 8 ∧ ∀ z ∈ j.2, z ∈ ls) ∧ jns.length ≤ 28 := by
  refine ⟨fun j hj => ?_, ?_⟩
  · obtain ⟨y, hy, ey⟩ := List.mem_filterMap.mp (pJ.mem_iff.mp hj)
    unfold jnOf at ey
    split at ey
    · cases ey
    · have := Option.some.inj ey
      rw [← this]
      have hz := List.of_mem_zip hy
      have hq := h.q.each h.l8 y.2 hz.2
      refine ⟨h.znm _ hz.1, by rw [List.length_map]; exact hq.1, by rw [List.length_map]; exact hq.2.1, fun z hz => ?_⟩
      obtain ⟨k, hk, e⟩ := List.mem_map.mp hz
      rw [← e]
      exact getD_in (hq.2.2 k hk)
  · have h1 := pJ.length_eq
    have h2 := (jn_sub ls zs qs).length_le
    have h3 := h.q.len.2
    have h4 := h.lz
    rw [List.length_map] at h2
    omega
def slB (r : Rt) : Bool := decide (r.xs[9]? = some (.str ("whole" : Str)))
def RtSeal (r : Rt) : Prop := r.xs[9]? = some (sV (some (slB r)))
def hKey (h : Hd) : Cr := (h.row.jn, h.near, h.row.over)
/-- the first fitting one, and what comes behind it -/
def nextM (d : Int) (c : Cr) : List Hd → Option (Bool × List Hd)
  | [] => none
  | h :: t => if d ≤ h.row.day ∧ hKey h = c then some (slB h.row, t) else nextM d c t
def seenM (d : Int) : List Cr → List Hd → List (Option Bool)
  | [], _ => []
  | c :: cs, hs => match nextM d c hs with
    | none => none :: seenM d cs hs
    | some p => some p.1 :: seenM d cs p.2
theorem seen_none {d : Int} {c : Cr} {cs : List Cr} {hs : List Hd} (h : nextM d c hs = none) : seenM d (c :: cs) hs = none :: seenM d cs hs := by
  show (match nextM d c hs with | none => _ | some p => _) = _
  rw [h]
theorem seen_some {d : Int} {c : Cr} {cs : List Cr} {hs : List Hd} {p : Bool × List Hd} (h : nextM d c hs = some p) : seenM d (c :: cs) hs = some p.1 :: seenM d cs p.2 := by
  show (match nextM d c hs with | none => _ | some p => _) = _
  rw [h]
theorem seen_len (d : Int) : ∀ (cs : List Cr) (hs : List Hd), (seenM d cs hs).length = cs.length
  | [], _ => rfl
  | c :: cs, hs => by
    cases h : nextM d c hs with
    | none => rw [seen_none h, List.length_cons, List.length_cons, seen_len d cs hs]
    | some p => rw [seen_some h, List.length_cons, List.length_cons, seen_len d cs p.2]
def psL (d : Int) (hs : List Hd) : List Hd := hs.filter fun h => decide (d ≤ h.row.day)
theorem next_ps (d : Int) (c : Cr) : ∀ hs, nextM d c (psL d hs) = (nextM d c hs).map fun p => (p.1, psL d p.2)
  | [] => rfl
  | h :: t => by
    have ih := next_ps d c t
    by_cases c1 : d ≤ h.row.day
    · have e : psL d (h :: t) = h :: psL d t := List.filter_cons_of_pos (by exact decide_eq_true c1)
      rw [e]
      unfold nextM
      by_cases c2 : hKey h = c
      · rw [if_pos ⟨c1, c2⟩, if_pos ⟨c1, c2⟩]
        rfl
      · rw [if_neg fun z => c2 z.2, if_neg fun z => c2 z.2]
        exact ih
    · have e : psL d (h :: t) = psL d t := List.filter_cons_of_neg (by exact fun z => c1 (of_decide_eq_true z))
      rw [e, ih]
      conv => rhs; unfold nextM
      rw [if_neg fun z => c1 z.1]
theorem seen_ps (d : Int) : ∀ (cs : List Cr) (hs : List Hd), seenM d cs (psL d hs) = seenM d cs hs
  | [], _ => rfl
  | c :: cs, hs => by
    have e := next_ps d c hs
    cases h : nextM d c hs with
    | none =>
      rw [h] at e
      rw [seen_none h, seen_none e, seen_ps d cs hs]
    | some p =>
      rw [h] at e
      rw [seen_some h, seen_some e]
      exact congrArg (some p.1 :: ·) (seen_ps d cs p.2)
/-- next, by the place of the first fitting one -/
theorem next_at {d : Int} {c : Cr} : ∀ {hs : List Hd} {i : Nat} {h : Hd}, hs[i]? = some h → (d ≤ h.row.day ∧ hKey h = c) → (∀ j h', j < i → hs[j]? = some h' → ¬ (d ≤ h'.row.day ∧ hKey h' = c)) → nextM d c hs = some (slB h.row, hs.drop (i + 1))
  | [], i, h, e, _, _ => by simp at e
  | x :: t, 0, h, e, k, _ => by
    have := Option.some.inj e
    subst this
    unfold nextM
    rw [if_pos k]
    rfl
  | x :: t, i + 1, h, e, k, n => by
    unfold nextM
    rw [if_neg (n 0 x (Nat.succ_pos _) rfl)]
    exact next_at (hs := t) (i := i) e k fun j h' hj e' => n (j + 1) h' (Nat.succ_lt_succ hj) e'
theorem next_no {d : Int} {c : Cr} : ∀ {hs : List Hd}, (∀ h ∈ hs, ¬ (d ≤ h.row.day ∧ hKey h = c)) → nextM d c hs = none
  | [], _ => rfl
  | x :: t, n => by
    unfold nextM
    rw [if_neg (n x List.mem_cons_self)]
    exact next_no fun h hh => n h (List.mem_cons_of_mem _ hh)
/-- the places found so far: fit tells which ones fit -/
structure IdxOk (fit : Hd → Prop) (gs : List Hd) (m : Nat) (js : List Nat) : Prop where
  none_ : js = [] → ∀ j h, j < m → gs[j]? = some h → ¬ fit h
  some_ : ∀ j, js.head? = some j → j < m ∧ ∃ h, gs[j]? = some h ∧ fit h ∧ ∀ j' h', j' < j → gs[j']? = some h' → ¬ fit h'
  len : js.length ≤ m
theorem IdxOk.zero (fit : Hd → Prop) (gs : List Hd) : IdxOk fit gs 0 [] := ⟨fun _ j h hj => absurd hj (Nat.not_lt_zero _), fun j h => (by cases h), Nat.le_refl _⟩
theorem IdxOk.yes {fit : Hd → Prop} {gs : List Hd} {m : Nat} {js : List Nat} {h : Hd} (k : IdxOk fit gs m js) (e : gs[m]? = some h) (f : fit h) : IdxOk fit gs (m + 1) (js ++ [m]) := by
  refine ⟨fun z => absurd z (by simp), fun j hj => ?_, by rw [List.length_append, List.length_singleton]; have := k.len; omega⟩
  cases js with
  | nil =>
    have := Option.some.inj hj
    subst this
    exact ⟨Nat.lt_succ_self _, h, e, f, fun j' h' hj' => k.none_ rfl j' h' hj'⟩
  | cons a r =>
    have := Option.some.inj hj
    subst this
    obtain ⟨h1, h2⟩ := k.some_ a rfl
    exact ⟨Nat.lt_succ_of_lt h1, h2⟩
theorem IdxOk.no {fit : Hd → Prop} {gs : List Hd} {m : Nat} {js : List Nat} {h : Hd} (k : IdxOk fit gs m js) (e : gs[m]? = some h) (f : ¬ fit h) : IdxOk fit gs (m + 1) js := by
  refine ⟨fun z j h' hj e' => ?_, fun j hj => ?_, Nat.le_succ_of_le k.len⟩
  · rcases Nat.lt_succ_iff_lt_or_eq.mp hj with c | c
    · exact k.none_ z j h' c e'
    · subst c
      rw [e] at e'
      rw [← Option.some.inj e']
      exact f
  · obtain ⟨h1, h2⟩ := k.some_ j hj
    exact ⟨Nat.lt_succ_of_lt h1, h2⟩
/-- crossings as data -/
theorem eqv_cr (a b : Cr) : PyData.eqv (.tuple [.str (SX.S a.1), .str (SX.S a.2.1), .str (SX.S a.2.2)]) (.tuple [.str (SX.S b.1), .str (SX.S b.2.1), .str (SX.S b.2.2)]) = decide (a = b) := by
  have e1 : ∀ x y : Nm, PyData.eqv (.str (SX.S x)) (.str (SX.S y)) = decide (x = y) := fun x y => by
    refine (PySem.W.Datum.eqv (α := PySem.Str) (SX.S x) (SX.S y)).trans ?_
    by_cases c : x = y
    · rw [c, decide_eq_true rfl, decide_eq_true rfl]
    · rw [decide_eq_false c, decide_eq_false fun z => c (SX.S_inj z)]
  have e : PyData.eqv (.tuple [.str (SX.S a.1), .str (SX.S a.2.1), .str (SX.S a.2.2)]) (.tuple [.str (SX.S b.1), .str (SX.S b.2.1), .str (SX.S b.2.2)]) = (PyData.eqv (.str (SX.S a.1)) (.str (SX.S b.1)) && (PyData.eqv (.str (SX.S a.2.1)) (.str (SX.S b.2.1)) && (PyData.eqv (.str (SX.S a.2.2)) (.str (SX.S b.2.2)) && true))) := rfl
  rw [e, e1, e1, e1, Bool.and_true]
  obtain ⟨a1, a2, a3⟩ := a
  obtain ⟨b1, b2, b3⟩ := b
  by_cases c1 : a1 = b1 <;> by_cases c2 : a2 = b2 <;> by_cases c3 : a3 = b3 <;> simp [c1, c2, c3]
theorem dp_cr {K : PySem.W.Frag} {H : Hp} {u : Addr} {c : Cr} (h : H u = some (.tup [nS c.1, nS c.2.1, nS c.2.2])) : Dp K H (.ref u) (.tuple [.str (SX.S c.1), .str (SX.S c.2.1), .str (SX.S c.2.2)]) :=
  .tup (SqT.of h) (.cons (.str _) (.cons (.str _) (.cons (.str _) .nil)))
theorem shaped_cr {c : Cr} (h : IsNm c.1 ∧ IsNm c.2.1 ∧ IsNm c.2.2) : SeqAt.shaped (.tuple [.str (SX.S c.1), .str (SX.S c.2.1), .str (SX.S c.2.2)]) = true := by
  have e : PyData.canLay0 (.tuple [.str (SX.S c.1), .str (SX.S c.2.1), .str (SX.S c.2.2)]) = (PyData.strOk (SX.S c.1) && (PyData.strOk (SX.S c.2.1) && (PyData.strOk (SX.S c.2.2) && true))) := rfl
  refine Bool.and_eq_true_iff.mpr ⟨?_, decide_eq_true (by show max 0 (max 0 (max 0 0)) + 1 ≤ 64; decide)⟩
  show PyData.canLay0 _ = true
  rw [e, nm_ok h.1, nm_ok h.2.1, nm_ok h.2.2]
  rfl
end Th
namespace Th
open PySem PySem.Spec PyProof.Rows L2
/-! the program's seals -/
def PsA (H : Hp) (a : Addr) (h : Hd) : Prop := ∃ u, H a = some (.tup [.ref u, sV (some (slB h.row))]) ∧ H u = some (.tup [nS (hKey h).1, nS (hKey h).2.1, nS (hKey h).2.2])
theorem PsA.tk {H H' : Hp} {a : Addr} {h : Hd} (q : PsA H a h) (t : ∀ b xs, H b = some (.tup xs) → H' b = some (.tup xs)) : PsA H' a h := let ⟨u, e1, e2⟩ := q; ⟨u, t _ _ e1, t _ _ e2⟩
def HdNm (h : Hd) : Prop := IsNm (hKey h).1 ∧ IsNm (hKey h).2.1 ∧ IsNm (hKey h).2.2
theorem cut_fromV (xs : List V) (m : Nat) : cutV xs (some (m : Int)) none = xs.drop m := by
  unfold cutV
  rw [HT.sIx_none, HT.sIx_nat, List.take_of_length_le (by rw [List.length_drop]; omega)]
  by_cases h : m ≤ xs.length
  · rw [Nat.min_eq_left h]
  · rw [Nat.min_eq_right (by omega), List.drop_of_length_le (Nat.le_refl _), List.drop_of_length_le (by omega)]
section
variable {P : Program} {w : World} {K : PySem.W.Frag} {mg : Str → Option Value} {base : Heap} {k : Nat}
def sp_seals (K : PySem.W.Frag) : Sp := fun vs H Q _ => ∃ (r wy D l : Addr) (ls : List Nm) (sts : List (Nm × Nm)) (jns : List (Nm × List Nm)) (tis : List Ti) (ws : List Nm) (ts : List Ti) (fa ta : List Addr) (ss : List Stp) (rs : List Rt) (hs : List Hd) (d : Int), vs = [.ref r, .ref wy, .int d, .ref D, .ref l] ∧ NetAt H r ls sts jns tis ∧ H wy = some (.tup (ws.map nS)) ∧ WayOk tis ws ts ∧
  SqL K H D (fa.map V.ref) ∧ Paired (StpA H) fa ss ∧ SqL K H l (ta.map V.ref) ∧ Paired (RtA H) ta rs ∧ (∀ r ∈ rs, RtOk r ∧ RtSeal r) ∧ (rs.map (·.num)).Nodup ∧ ta.length ≤ 1000 ∧ fa.length ≤ 2000 ∧ HeldOf rs [] ss hs ∧ (∀ h ∈ hs, HdNm h) ∧
  ∀ H' R, Same H H' → H R = none → H' R = some (.lst ((seenM d (crossTo ws ts (ts.length - 1)) hs).map sV)) → Q (.ref R) H'
set_option maxHeartbeats 16000000 in
theorem ok_seals (T : Defs K mg) : FnOk P w K mg base CX0 (k + 4) T.a_seals T.d_seals ["net", "way", "day", "steps", "returns"] (sp_seals K) := by
  have G_held_returns : FnOk P w K mg base CX0 (k + 3) _ _ _ _ := ok_held_returns T
  have G_crossings : FnOk P w K mg base CX0 (k + 3) _ _ _ _ := ok_crossings T
  refine T.F_seals.ok sc_seals (fun vs H Q E h => ?_) (fun cdv A outer s H vs Q E hr h => ?_)
  · obtain ⟨r, wy, D, l, ls, sts, jns, tis, ws, ts, fa, ta, ss, rs, hs, d, rfl, _⟩ := h
    rfl
  · obtain ⟨r, wy, D, l, ls, sts, jns, tis, ws, ts, fa, ta, ss, rs, hs, d, rfl, hnet, ewy, hw, eD, hfa, el, hta, hrs, hnd, t1000, f2000, hh, hnm, q⟩ := h
    refine ⟨_, PSs.nox
(pss_cons (ps_setLc (i := 5) (own := [("road", 9), ("line", 10), ("row", 11)]) (g := gTup K 3 (gCons (gName 9) (gCons (gName 10) (gCons (gName 11) gNil)))) rfl sc_seals.nd rfl rfl (sw_true rfl rfl rfl (by decide +kernel)) (pi_list (pe_call G_held_returns hr (by rfl) T.g_held_returns T.F_held_returns.kp T.b_held_returns .nil pass0 (pa_cons (pv 3) (pa_cons (pv 4) pa_nil)))) (blkOk_by (N := N_seals) (sc := defScope s_seals) (by decide +kernel)) (fun _ _ _ _ _ => (pg_tup rfl (pgs_cons (pg_name (i := 9) sc_seals.nd rfl (.inl rfl)) (pgs_cons (pg_name (i := 10) sc_seals.nd rfl (.inl rfl)) (pgs_cons (pg_name (i := 11) sc_seals.nd rfl (.inl rfl)) pgs_nil))))) (fun _ _ _ _ _ => pts_one (pt_cmpR op_ge (pe_ix (r := rIxT K) ix_tup (pv 11) (pe_glob (v := .int 4) (by rfl) T.c_DAY ⟨_, rfl⟩) (fun _ _ => rfl)) (pv 2) (nomark _))) (fun _ _ _ _ _ => (pe_tup (pa_cons (pe_tup (pa_cons (pe_ix (r := rIxT K) ix_tup (pv 11) (pe_glob (v := .int 3) (by rfl) T.c_JUNCTION ⟨_, rfl⟩) (fun _ _ => rfl)) (pa_cons (pv 10) (pa_cons (pe_ix (r := rIxT K) ix_tup (pv 11) (pe_glob (v := .int 7) (by rfl) T.c_OVER ⟨_, rfl⟩) (fun _ _ => rfl)) pa_nil)))) (pa_cons (pe_ix (r := rIxT K) ix_tup (pv 11) (pe_glob (v := .int 9) (by rfl) T.c_SEAL ⟨_, rfl⟩) (fun _ _ => rfl)) pa_nil)))))
    (pss_cons (ps_set (i := 6) sc_seals.nd rfl (.inl rfl) (pe_lst pa_nil))
    (pss_cons (ps_for PassesOwn.never rfl (pi_list (pe_call G_crossings hr (by rfl) T.g_crossings T.F_crossings.kp T.b_crossings .nil pass0 (pa_cons (pv 0) (pa_cons (pv 1) pa_nil)))) (pg_name (i := 7) sc_seals.nd rfl (.inr rfl))
      (pss_cons (ps_setLc (i := 8) (own := [("at", 12), ("over", 13), ("seal", 14)]) (g := gTup K 2 (gCons (gName 12) (gCons (gTup K 2 (gCons (gName 13) (gCons (gName 14) gNil))) gNil))) rfl sc_seals.nd rfl rfl (sw_true rfl rfl rfl (by decide +kernel)) (pi_enum (by rfl) T.z_enumerate (pa_cons (pv 5) pa_nil)) (blkOk_by (N := N_seals) (sc := defScope s_seals) (by decide +kernel)) (fun _ _ _ _ _ => (pg_tup rfl (pgs_cons (pg_name (i := 12) sc_seals.nd rfl (.inl rfl)) (pgs_cons (pg_tup rfl (pgs_cons (pg_name (i := 13) sc_seals.nd rfl (.inl rfl)) (pgs_cons (pg_name (i := 14) sc_seals.nd rfl (.inl rfl)) pgs_nil))) pgs_nil)))) (fun _ _ _ _ _ => pts_one (pt_cmpR (r := rEqD K) (op_eqD hr.units) (pv 13) (pv 7) (nomark _))) (fun _ _ _ _ _ => (pv 12)))
      (pss_one (ps_if (pt_truth (pv 8) (by intro _; rfl))
        (pss_cons (ps_expr (pe_bm PySem.F.plainAttrs_list PySem.F.slot_list_append PySem.F.type_list_append mt_append (pv 6) (pa_cons (pe_ix (r := rIxT K) ix_tup (pe_ix (r := rIxL K) ix_list (pv 5) (pe_ix (r := rIxL K) ix_list (pv 8) (pe_int) (fun _ _ => rfl)) (fun _ _ => rfl)) (pe_int) (fun _ _ => rfl)) pa_nil)))
        (pss_one (ps_set (i := 5) sc_seals.nd rfl (.inl rfl) (pe_slice sl_list (pv 5) (po_some (pe_op op_add (pe_ix (r := rIxL K) ix_list (pv 8) (pe_int) (fun _ _ => rfl)) (pe_int))) po_none))))
        (pss_one (ps_expr (pe_bm PySem.F.plainAttrs_list PySem.F.slot_list_append PySem.F.type_list_append mt_append (pv 6) (pa_cons (pe_non) pa_nil))))))))
    (pss_one (ps_ret (pv 6))))))
      , ?_⟩
    have l28 := hw.l28
    have ll := hw.al.len
    have hl := hh.len
    have fl := paired_len hfa
    -- passed
    refine ⟨.ref D, rfl, .ref l, rfl, D, l, fa, ta, ss, rs, hs, rfl, eD, hfa, el, hta, fun r h => (hrs r h).1, hnd, t1000, f2000, hh, fun H1 hp as s1 nhp ehp has => ?_⟩
    have al := paired_len has
    refine ⟨hp, rfl, ⟨_, SqL.of ehp⟩, fun L nL => ?_⟩
    refine lc_it (walk_list (xs := as.map V.ref)) (fun i H3 => Same H1 H3 ∧ ∃ ps : List Addr, H3 L = some (.lst (ps.map V.ref)) ∧ Paired (PsA H3) ps (psL d (hs.take i)) ∧ ps.length ≤ i) ⟨same_upd nL, [], upd_same, .nil, Nat.le_refl _⟩ (fun i H3 _ pv => SqL.of (pv.1 _ _ ehp)) (fun i v H3₀ H3 hi pv yy => ?_) (fun H3 pv => ?_)
    · obtain ⟨rfl, ex⟩ := yy
      obtain ⟨s3, ps, eL, hps, pl⟩ := pv
      rw [List.length_map] at hi
      obtain ⟨a, ea, rfl⟩ := ref_at ex
      obtain ⟨h, eh, hah⟩ := paired_get has ea
      obtain ⟨u, t, e1, e2, e3⟩ := hah.tk (fun b xs z => s3 _ _ z)
      have hm : h ∈ hs := List.mem_of_getElem? eh
      obtain ⟨rok, rse⟩ := hrs _ (hh.rows h hm)
      have e3 : H3 t = some (.tup h.row.xs) := e3
      have tk1 : hs.take (i + 1) = hs.take i ++ [h] := by rw [List.take_add_one, eh]; rfl
      refine ⟨a, _, rfl, SqT.of e1, rfl, _, _, rfl, _, _, rfl, _, [], rfl, rfl, rfl, ?_⟩
      refine ⟨.ref t, rfl, t, _, 4, _, rfl, rfl, SqT.of e3, atI_nat (j := 4) rok.i4, .int d, rfl, _, _, rfl, rfl, _, rfl, ite2 (fun c => ?_) (fun c => ?_)⟩
      · have c : d ≤ h.row.day := of_decide_eq_true c
        refine ⟨.ref t, rfl, t, _, 3, _, rfl, rfl, SqT.of e3, atI_nat (j := 3) rok.i3, nS h.near, rfl, .ref t, rfl, t, _, 7, _, rfl, rfl, SqT.of e3, atI_nat (j := 7) rok.i7, three_sz, fun u1 n1 => ?_⟩
        have q1 := same_upd (o := .tup [nS h.row.jn, nS h.near, nS h.row.over]) n1
        refine ⟨.ref t, rfl, t, _, 9, _, rfl, rfl, SqT.of (q1 _ _ e3), atI_nat (j := 9) rse, two_sz, fun u2 n2 => ?_⟩
        have q2 := same_upd (o := .tup [.ref u1, sV (some (slB h.row))]) n2
        have sq := q1.trans q2
        have eu1 := q2 _ _ (show (upd H3 u1 (.tup [nS h.row.jn, nS h.near, nS h.row.over])) u1 = some (.tup [nS h.row.jn, nS h.near, nS h.row.over]) from upd_same)
        have eL2 := sq _ _ eL
        refine ⟨_, eL2, by rw [List.length_map]; exact small5000 (by omega), same_set (s3.trans sq) nL, ps ++ [u2], by rw [upd_same, List.map_append]; rfl, ?_, by rw [List.length_append, List.length_singleton]; omega⟩
        have tk := tk_lst (o := .lst (ps.map V.ref ++ [.ref u2])) eL2
        have e : psL d (hs.take (i + 1)) = psL d (hs.take i) ++ [h] := by
          rw [tk1]
          unfold psL
          rw [List.filter_append]
          congr 1
          exact List.filter_cons_of_pos (by exact decide_eq_true c)
        rw [e]
        exact paired_snoc (paired_imp hps fun a _ d h => (h.tk fun b xs z => sq _ _ z).tk tk) (PsA.tk (h := h) ⟨u1, upd_same, eu1⟩ tk)
      · have c : ¬ d ≤ h.row.day := fun z => c (decide_eq_true z)
        have e : psL d (hs.take (i + 1)) = psL d (hs.take i) := by
          rw [tk1]
          unfold psL
          rw [List.filter_append, List.filter_cons_of_neg (by exact fun z => c (of_decide_eq_true z))]
          exact List.append_nil _
        rw [e]
        exact ⟨s3, ps, eL, hps, by omega⟩
    obtain ⟨s3, ps, eL, hps, pl⟩ := pv
    rw [List.length_map] at pl
    rw [List.length_map, al, List.take_length] at hps
    have s03 := s1.trans s3
    -- told
    refine ⟨Nat.zero_le _, fun F nF => ?_⟩
    have sF := same_upd (o := .lst []) nF
    have nFH := up0 s03 nF
    have s04 := s03.trans sF
    have eF4 : (upd H3 F (.lst [])) F = some (.lst []) := upd_same
    have eL4 := sF _ _ eL
    have LF : L ≠ F := ne_of_none eL nF
    have hps4 : Paired (PsA (upd H3 F (.lst []))) ps (psL d hs) := paired_imp hps fun a _ d h => h.tk fun b xs z => sF _ _ z
    generalize upd H3 F (.lst []) = H4 at s04 eF4 eL4 hps4 sF ⊢
    refine ⟨.ref r, rfl, .ref wy, rfl, r, wy, ls, sts, jns, tis, ws, ts, rfl, hnet.tk (.of s04), s04 _ _ ewy, hw, fun H5 C s5 nC hC => ?_⟩
    obtain ⟨ca, eC, hca⟩ := hC
    have cl := paired_len hca
    have cn := cross_nm hw (ts.length - 1)
    have cm := crossTo_len ws ts (ts.length - 1)
    have CF : C ≠ F := fun z => by rw [z, eF4] at nC; cases nC
    generalize crossTo ws ts (ts.length - 1) = cs at q hca cl cn cm
    refine ⟨C, rfl, ⟨_, SqL.of eC⟩, ?_⟩
    have s05 := s04.trans s5
    refine for_it (walk_list (xs := ca.map V.ref)) (fun i σ Hx => ∃ (pa : Addr) (y7 y8 : Option V) (ps : List Addr) (gs : List Hd) (sl : List (Option Bool)), σ = [some (.ref r), some (.ref wy), some (.int d), some (.ref D), some (.ref l), some (.ref pa), some (.ref F), y7, y8, none, none, none, none, none, none] ∧ Same H Hx ∧ Hx C = some (.lst (ca.map V.ref)) ∧ Paired (CrA Hx) ca cs ∧ Hx F = some (.lst (sl.map sV)) ∧ Hx pa = some (.lst (ps.map V.ref)) ∧ Paired (PsA Hx) ps gs ∧ pa ≠ F ∧ sl.length = i ∧ gs.length ≤ 2000 ∧ (∀ h ∈ gs, d ≤ h.row.day ∧ HdNm h) ∧ sl ++ seenM d (cs.drop i) gs = seenM d cs hs)
      ⟨L, none, none, ps, psL d hs, [], rfl, s05, eC, hca, s5 _ _ eF4, s5 _ _ eL4, paired_imp hps4 fun a _ d h => h.tk fun b xs z => s5 _ _ z, LF, rfl, by have := List.length_filter_le (fun h : Hd => decide (d ≤ h.row.day)) hs; unfold psL; omega, fun h hh' => ?_, seen_ps d cs hs⟩ (fun i σ Hx _ hp' => ?_) (fun i v σ Hx₀ Hx hi hp' yy => ?_) (fun σ Hx hp' => ?_)
    · obtain ⟨h1, h2⟩ := List.mem_filter.mp hh'
      exact ⟨of_decide_eq_true h2, hnm h h1⟩
    · obtain ⟨_, _, _, _, _, _, _, _, e, _⟩ := hp'
      exact SqL.of e
    · obtain ⟨rfl, ex⟩ := yy
      obtain ⟨pa, y7, y8, ps, gs, sl, rfl, sx, eCx, hcx, eFx, ePx, hpx, paF, sll, gl, gok, hse⟩ := hp'
      rw [List.length_map] at hi
      obtain ⟨u, eu, rfl⟩ := ref_at ex
      obtain ⟨c, ec, hu⟩ := paired_get hcx eu
      have pgl := paired_len hpx
      have cin := cn c (List.mem_of_getElem? ec)
      have dr := drop_cons ec
      -- found
      refine ⟨.ref pa, rfl, pa, _, rfl, SqL.of ePx, fun W nW => ?_⟩
      refine lc_it (walk_enum (xs := ps.map V.ref)) (fun m H6 => Same Hx H6 ∧ ∃ js : List Nat, H6 W = some (.lst (js.map fun j => V.int ((j : Nat) : Int))) ∧ IdxOk (fun h => hKey h = c) gs m js) ⟨same_upd nW, [], upd_same, .zero _ _⟩ (fun m H6 _ pv => SqL.of (pv.1 _ _ ePx)) (fun m v H6 H7 hm pv yy => ?_) (fun H6 pv => ?_)
      · obtain ⟨U, x, y, rfl, nU, rfl, ex, ey⟩ := yy
        have ex : x = .int (m : Int) := (Option.some.inj ex).symm
        subst ex
        obtain ⟨v, ev, rfl⟩ := ref_at ey
        rw [List.length_map] at hm
        obtain ⟨s6, js, eW, hjs⟩ := pv
        obtain ⟨h, eh, hv⟩ := paired_get hpx ev
        have sU := same_upd (o := .tup [.int (m : Int), .ref v]) nU
        have s67 := s6.trans sU
        obtain ⟨ku, e1, e2⟩ := hv.tk fun b xs z => s67 _ _ z
        have hu7 := s67 _ _ hu
        have eW7 := sU _ _ eW
        have hn := (gok h (List.mem_of_getElem? eh)).2
        have jl := hjs.len
        refine ⟨U, _, rfl, SqT.of upd_same, rfl, _, _, rfl, _, [], rfl, ⟨v, _, rfl, SqT.of e1, rfl, _, _, rfl, _, [], rfl, rfl, ?_⟩⟩
        refine ⟨rfl, rfl, .ref ku, rfl, .ref u, rfl, _, _, dp_cr e2, dp_cr hu7, shaped_cr hn, shaped_cr cin, _, rfl, ?_⟩
        rw [eqv_cr]
        refine ite2 (fun e => ?_) (fun e => ?_)
        · have e := of_decide_eq_true e
          refine ⟨.int (m : Int), rfl, _, eW7, by rw [List.length_map]; exact small5000 (by omega), same_set s67 nW, js ++ [m], by rw [upd_same, List.map_append]; rfl, hjs.yes eh e⟩
        · have e : ¬ hKey h = c := fun z => e (decide_eq_true z)
          exact ⟨s67, js, eW7, hjs.no eh e⟩
      obtain ⟨s6, js, eW, hjs⟩ := pv
      rw [List.length_map, pgl] at hjs
      have jl := hjs.len
      have eC6 := s6 _ _ eCx
      have hc6 : Paired (CrA H6) ca cs := paired_imp hcx fun a _ g e => s6 _ _ e
      have eF6 := s6 _ _ eFx
      have eP6 := s6 _ _ ePx
      have hp6 : Paired (PsA H6) ps gs := paired_imp hpx fun a _ d h => h.tk fun b xs z => s6 _ _ z
      have sx6 := sx.trans s6
      have WF : W ≠ F := fun z => by rw [z, eFx] at nW; cases nW
      have WP : W ≠ pa := fun z => by rw [z, ePx] at nW; cases nW
      cases js with
      | nil =>
        have hno : nextM d c gs = none := next_no fun h hh z => by
          obtain ⟨j, ej⟩ := List.getElem?_of_mem hh
          exact hjs.none_ rfl j h (List.getElem?_eq_some_iff.mp ej).1 ej z.2
        rw [dr, seen_none hno] at hse
        refine ⟨.ref W, rfl, _, .inl ⟨_, SqL.of eW, rfl⟩, iteF ?_⟩
        refine ⟨.ref F, rfl, .inl ⟨rfl, _, SqL.of eF6⟩, F, _, _, rfl, rfl, eF6, by rw [List.length_map]; exact small5000 (by omega), ?_⟩
        have tk := tk_lst (o := .lst (sl.map sV ++ [.non])) eF6
        exact ⟨pa, _, _, ps, gs, sl ++ [none], rfl, same_set sx6 nFH, by rw [upd_ne CF]; exact eC6, paired_imp hc6 fun a _ g e => tk _ _ e, by rw [upd_same, List.map_append]; rfl, by rw [upd_ne paF]; exact eP6, paired_imp hp6 fun a _ g e => e.tk tk, paF, by rw [List.length_append, List.length_singleton]; omega, gl, gok, by rw [List.append_assoc]; exact hse⟩
      | cons j jr =>
        obtain ⟨jm, h, eh, hk, hbef⟩ := hjs.some_ j rfl
        have hm := gok h (List.mem_of_getElem? eh)
        have hyes : nextM d c gs = some (slB h.row, gs.drop (j + 1)) := next_at eh ⟨hm.1, hk⟩ fun j' h' a b z => hbef j' h' a b z.2
        rw [dr, seen_some hyes] at hse
        obtain ⟨v, ev, hv⟩ := paired_atC hp6 eh
        obtain ⟨ku, e1, e2⟩ := id hv
        have iW : atI ((j :: jr).map fun j => V.int ((j : Nat) : Int)) 0 = some (.int (j : Nat)) := atI_nat (j := 0) rfl
        refine ⟨.ref W, rfl, _, .inl ⟨_, SqL.of eW, rfl⟩, iteT ?_⟩
        refine ⟨.ref F, rfl, .inl ⟨rfl, _, SqL.of eF6⟩, .ref pa, rfl, .ref W, rfl, W, _, 0, _, rfl, rfl, SqL.of eW, iW, pa, _, ((j : Nat) : Int), .ref v, rfl, rfl, SqL.of eP6, atI_nat (at_refC ev), v, _, 1, _, rfl, rfl, SqT.of e1, atI_nat (j := 1) rfl, F, _, _, rfl, rfl, eF6, by rw [List.length_map]; exact small5000 (by omega), ?_⟩
        have tk := tk_lst (o := .lst (sl.map sV ++ [sV (some (slB h.row))])) eF6
        have sx7 := same_set (o := .lst (sl.map sV ++ [sV (some (slB h.row))])) sx6 nFH
        have eC7 : (upd H6 F (.lst (sl.map sV ++ [sV (some (slB h.row))]))) C = some (.lst (ca.map V.ref)) := by rw [upd_ne CF]; exact eC6
        have eP7 : (upd H6 F (.lst (sl.map sV ++ [sV (some (slB h.row))]))) pa = some (.lst (ps.map V.ref)) := by rw [upd_ne paF]; exact eP6
        have eW7 : (upd H6 F (.lst (sl.map sV ++ [sV (some (slB h.row))]))) W = some (.lst ((j :: jr).map fun j => V.int ((j : Nat) : Int))) := by rw [upd_ne WF]; exact eW
        have eF7 : (upd H6 F (.lst (sl.map sV ++ [sV (some (slB h.row))]))) F = some (.lst ((sl ++ [some (slB h.row)]).map sV)) := by rw [upd_same, List.map_append]; rfl
        have hc7 : Paired (CrA (upd H6 F (.lst (sl.map sV ++ [sV (some (slB h.row))])))) ca cs := paired_imp hc6 fun a _ g e => tk _ _ e
        have hp7 : Paired (PsA (upd H6 F (.lst (sl.map sV ++ [sV (some (slB h.row))])))) ps gs := paired_imp hp6 fun a _ g e => e.tk tk
        generalize upd H6 F (.lst (sl.map sV ++ [sV (some (slB h.row))])) = H7 at sx7 eC7 eP7 eW7 eF7 hc7 hp7 ⊢
        refine ⟨.ref pa, rfl, .ref W, rfl, W, _, 0, _, rfl, rfl, SqL.of eW7, iW, _, _, rfl, rfl, _, rfl, pa, _, rfl, SqL.of eP7, fun N nN => ?_⟩
        rw [show cutV (ps.map V.ref) (some (((j : Nat) : Int) + 1)) none = (ps.drop (j + 1)).map V.ref from (by rw [show ((j : Nat) : Int) + 1 = ((j + 1 : Nat) : Int) by omega, cut_fromV, List.map_drop])]
        have sN := same_upd (o := .lst ((ps.drop (j + 1)).map V.ref)) nN
        exact ⟨N, _, _, ps.drop (j + 1), gs.drop (j + 1), sl ++ [some (slB h.row)], rfl, sx7.trans sN, sN _ _ eC7, paired_imp hc7 fun a _ g e => sN _ _ e, sN _ _ eF7, upd_same, paired_imp (paired_drop _ hp7) fun a _ g e => e.tk fun b xs z => sN _ _ z, (fun z => by rw [z, eF7] at nN; cases nN), by rw [List.length_append, List.length_singleton]; omega, by rw [List.length_drop]; omega, fun x hx => gok x (List.mem_of_mem_drop hx), by rw [List.append_assoc]; exact hse⟩
    · obtain ⟨pa, y7, y8, ps, gs, sl, rfl, sx, eCx, hcx, eFx, ePx, hpx, paF, sll, gl, gok, hse⟩ := hp'
      rw [List.length_map, cl, List.drop_length] at hse
      have hse : sl ++ [] = _ := hse
      rw [List.append_nil] at hse
      rw [hse] at eFx
      exact ⟨.ref F, rfl, q _ F sx nFH eFx⟩
end
end Th
namespace Th
open PySem PySem.Spec PyProof.Rows L2
def jD (j : Nm × List Nm) : PyData := .tuple [.str (SX.S j.1), .tuple ((j.2.map SX.S).map PyData.str)]
theorem layAll_jD : ∀ {jns : List (Nm × List Nm)}, (∀ j ∈ jns, IsNm j.1 ∧ ∀ z ∈ j.2, IsNm z) → PyData.canLayAll0 (jns.map jD) = true
  | [], _ => rfl
  | j :: jns, h => by
    show ((PyData.strOk (SX.S j.1) && (PyData.canLayAll0 ((j.2.map SX.S).map PyData.str) && true)) && PyData.canLayAll0 (jns.map jD)) = true
    rw [nm_ok (h j List.mem_cons_self).1, layAll_nms (h j List.mem_cons_self).2, layAll_jD fun y hy => h y (List.mem_cons_of_mem _ hy)]
    rfl
theorem depthAll_jD : ∀ jns : List (Nm × List Nm), PyData.depthAll (jns.map jD) ≤ 2
  | [] => Nat.zero_le _
  | j :: jns => by
    show max (max 0 (max (PyData.depthAll ((j.2.map SX.S).map PyData.str) + 1) 0) + 1) (PyData.depthAll (jns.map jD)) ≤ 2
    rw [depthAll_nms]
    exact Nat.max_le.mpr ⟨by decide, depthAll_jD jns⟩
theorem shaped_jD {jns : List (Nm × List Nm)} (h : ∀ j ∈ jns, IsNm j.1 ∧ ∀ z ∈ j.2, IsNm z) : SeqAt.shaped (.tuple (jns.map jD)) = true := Bool.and_eq_true_iff.mpr ⟨layAll_jD h, decide_eq_true (by
  show PyData.depthAll (jns.map jD) + 1 ≤ 64
  have := depthAll_jD jns
  omega)⟩
/-! the law's trip and what it sees -/
theorem five_sz {x y z u v : V} : [x, y, z, u, v].length ≤ sizeLine := by show 5 ≤ sizeLine; decide
theorem pick3 {d : Int} (h0 : 0 ≤ d) (h1 : d < 3) : ∃ s, atI [V.str "whole", V.str "whole", V.str "broken"] d = some (.str s) ∧ (s = ("whole" : Str) ∨ s = ("broken" : Str)) := by
  obtain ⟨j, rfl⟩ : ∃ j : Nat, d = (j : Int) := ⟨d.toNat, by omega⟩
  match j, h1 with
  | 0, _ => exact ⟨_, atI_nat (j := 0) rfl, .inl rfl⟩
  | 1, _ => exact ⟨_, atI_nat (j := 1) rfl, .inl rfl⟩
  | 2, _ => exact ⟨_, atI_nat (j := 2) rfl, .inr rfl⟩
theorem dpAll_jA {K : PySem.W.Frag} {H : Hp} : ∀ {ja : List Addr} {jns : List (Nm × List Nm)}, Paired (JnAt H) ja jns → DpAll K H (ja.map V.ref) (jns.map jD)
  | _, _, .nil => .nil
  | _, _, .cons ⟨t, e1, e2⟩ h => .cons (.tup (SqT.of e1) (.cons (.str _) (.cons (.tup (SqT.of e2) (dpAll_nmsP _)) .nil))) (dpAll_jA h)
structure TrF where
  jn : Nm
  day : Int
  hour : Int
  over : Nm
def TrA (wg : Int) (H : Hp) (a : Addr) (f : TrF) : Prop := H a = some (.tup [nS f.jn, .int f.day, .int f.hour, .int wg, nS f.over])
def trR (nb wg : Int) (i : Nat) (f : TrF) (ld sl : Str) : Rt := ⟨nb + 7 * (i : Int) % 41, f.jn, f.day, f.hour, f.over, [.str ("return" : Str), .int (nb + 7 * (i : Int) % 41), .int 1, nS f.jn, .int f.day, .int f.hour, .int wg, nS f.over, .str ld, .str sl]⟩
theorem trip_num {nb : Int} {i j : Nat} (hij : j < i) (hi : i < 41) : nb + 7 * (i : Int) % 41 ≠ nb + 7 * (j : Int) % 41 := by
  intro e
  omega
def TrOk (jns : List (Nm × List Nm)) (f : TrF) : Prop := (∃ j ∈ jns, j.1 = f.jn ∧ f.over ∈ j.2) ∧ IsNm f.jn ∧ IsNm f.over ∧ 1 ≤ f.day ∧ f.day ≤ 420
theorem TrA.keep {wg : Int} {p : Addr} {H H' : Hp} {a : Addr} {f : TrF} (h : TrA wg H a f) (k : Keep p H H') (b : Bag H p) : TrA wg H' a f := (TKF.keep k b).t _ _ h
theorem CrA.keep {p : Addr} {H H' : Hp} {a : Addr} {f : Cr} (h : CrA H a f) (k : Keep p H H') (b : Bag H p) : CrA H' a f := (TKF.keep k b).t _ _ h
section
variable {P : Program} {w : World} {K : PySem.W.Frag} {mg : Str → Option Value} {base : Heap} {k : Nat}
def sp_l_trip : Sp := fun vs H Q _ => ∃ (p r wy : Addr) (ls : List Nm) (sts : List (Nm × Nm)) (jns : List (Nm × List Nm)) (tis : List Ti) (ws : List Nm) (ts : List Ti) (wg d : Int), vs = [.ref p, .ref r, .ref wy, .int wg, .int d] ∧ Bag H p ∧ NetAt H r ls sts jns tis ∧ H wy = some (.tup (ws.map nS)) ∧ WayOk tis ws ts ∧ PL sts jns tis ∧
  (∀ j ∈ jns, IsNm j.1 ∧ 1 ≤ j.2.length ∧ j.2.length ≤ 8 ∧ ∀ z ∈ j.2, IsNm z) ∧ jns.length ≤ 28 ∧ 1 ≤ d ∧ d ≤ 420 ∧
  ∀ H' R ta rs, Keep p H H' → Bag H' p → H R = none → H' R = some (.lst (ta.map V.ref)) → Paired (RtA H') ta rs → (∀ r ∈ rs, RtFull r ∧ RtFit jns r ∧ RtSeal r ∧ 0 ≤ r.day ∧ r.day ≤ 420) → (rs.map (·.num)).Nodup → rs.length ≤ 40 → Q (.ref R) H'
set_option maxHeartbeats 16000000 in
theorem ok_l_trip (T : Defs K mg) : FnOk P w K mg base CX0 (k + 3) T.a_l_trip T.d_l_trip ["_law_bag_here", "_law_net_here", "_law_way", "_law_wagon", "_law_day"] sp_l_trip := by
  have G_l_take : FnOk P w K mg base CX0 (k + 2) _ _ _ _ := ok_l_take (k := k + 1) T
  have G_l_over : FnOk P w K mg base CX0 (k + 2) _ _ _ _ := ok_l_over (k := k) T
  refine T.F_l_trip.ok sc_l_trip (fun vs H Q E h => ?_) (fun cdv A outer s H vs Q E hr h => ?_)
  · obtain ⟨p, r, wy, ls, sts, jns, tis, ws, ts, wg, d, rfl, _⟩ := h
    rfl
  · obtain ⟨p, r, wy, ls, sts, jns, tis, ws, ts, wg, d, rfl, b, hnet, ewy, hw, pl, hj, j28, d1, d420, q⟩ := h
    refine ⟨_, PSs.nox
(pss_cons (ps_setLc (i := 5) (own := [("_law_one", 15)]) (g := gName 15) rfl sc_l_trip.nd rfl rfl (sw_true rfl rfl rfl (by decide +kernel)) (pi_list (pe_call G_l_over hr (by rfl) T.g_l_over T.F_l_over.kp T.b_l_over .nil pass0 (pa_cons (pv 1) (pa_cons (pv 2) pa_nil)))) (blkOk_by (N := N_l_trip) (sc := defScope s_l_trip) (by decide +kernel)) (fun _ _ _ _ _ => (pg_name (i := 15) sc_l_trip.nd rfl (.inl rfl))) (fun _ _ _ _ _ => pts_one (pt_cmpR op_gt (pe_call G_l_take hr (by rfl) T.g_l_take T.F_l_take.kp T.b_l_take .nil pass0 (pa_cons (pv 0) (pa_cons (pe_int) pa_nil))) (pe_int) (nomark _))) (fun _ _ _ _ _ => (pv 15)))
    (pss_cons (ps_set (i := 6) sc_l_trip.nd rfl (.inl rfl) (pe_lst pa_nil))
    (pss_cons (ps_for PassesOwn.never rfl (pi_list (pv 5)) (pg_tup rfl (pgs_cons (pg_name (i := 7) sc_l_trip.nd rfl (.inl rfl)) (pgs_cons (pg_name (i := 8) sc_l_trip.nd rfl (.inl rfl)) (pgs_cons (pg_name (i := 9) sc_l_trip.nd rfl (.inl rfl)) pgs_nil))))
      (pss_cons (ps_set (i := 4) sc_l_trip.nd rfl (.inl rfl) (pe_callB (call_min2 rfl) (by rfl) T.z_min (by decide +kernel) (pa_cons (pe_int) (pa_cons (pe_op op_add (pv 4) (pe_call G_l_take hr (by rfl) T.g_l_take T.F_l_take.kp T.b_l_take .nil pass0 (pa_cons (pv 0) (pa_cons (pe_int) pa_nil)))) pa_nil))))
      (pss_one (ps_expr (pe_bm PySem.F.plainAttrs_list PySem.F.slot_list_append PySem.F.type_list_append mt_append (pv 6) (pa_cons (pe_tup (pa_cons (pv 7) (pa_cons (pv 4) (pa_cons (pe_call G_l_take hr (by rfl) T.g_l_take T.F_l_take.kp T.b_l_take .nil pass0 (pa_cons (pv 0) (pa_cons (pe_int) pa_nil))) (pa_cons (pv 3) (pa_cons (pv 9) pa_nil)))))) pa_nil))))))
    (pss_cons (ps_for PassesOwn.never rfl (pi_range1 (by rfl) T.z_range (pa_cons (pe_op op_mul (pe_call G_l_take hr (by rfl) T.g_l_take T.F_l_take.kp T.b_l_take .nil pass0 (pa_cons (pv 0) (pa_cons (pe_int) pa_nil))) (pe_callTy call_int1 (by rfl) T.z_int (by decide +kernel) (pa_cons (pe_cmpR (r := rNeD K) (op_neD hr.units) (pe_ix (r := rIxT K) ix_tup (pv 1) (pe_int) (fun _ _ => rfl)) (pe_tup pa_nil) (nomark _)) pa_nil))) pa_nil)) (pg_name (i := 10) sc_l_trip.nd rfl (.inl rfl))
      (pss_cons (ps_asg (pe_ix (r := rIxT K) ix_tup (pe_ix (r := rIxT K) ix_tup (pv 1) (pe_int) (fun _ _ => rfl)) (pe_call G_l_take hr (by rfl) T.g_l_take T.F_l_take.kp T.b_l_take .nil pass0 (pa_cons (pv 0) (pa_cons (pe_callB (call_max2 rfl) (by rfl) T.z_max (by decide +kernel) (pa_cons (pe_int) (pa_cons (pe_callB (r := rLenS K) call_lenS (by rfl) T.z_len (by decide +kernel) (pa_cons (pe_ix (r := rIxT K) ix_tup (pv 1) (pe_int) (fun _ _ => rfl)) pa_nil)) pa_nil))) pa_nil))) (fun _ _ => rfl)) (pg_tup rfl (pgs_cons (pg_name (i := 7) sc_l_trip.nd rfl (.inl rfl)) (pgs_cons (pg_name (i := 11) sc_l_trip.nd rfl (.inl rfl)) pgs_nil))))
      (pss_one (ps_expr (pe_bm PySem.F.plainAttrs_list PySem.F.slot_list_append PySem.F.type_list_append mt_append (pv 6) (pa_cons (pe_tup (pa_cons (pv 7) (pa_cons (pe_op op_add (pe_int) (pe_call G_l_take hr (by rfl) T.g_l_take T.F_l_take.kp T.b_l_take .nil pass0 (pa_cons (pv 0) (pa_cons (pe_int) pa_nil)))) (pa_cons (pe_call G_l_take hr (by rfl) T.g_l_take T.F_l_take.kp T.b_l_take .nil pass0 (pa_cons (pv 0) (pa_cons (pe_int) pa_nil))) (pa_cons (pv 3) (pa_cons (pe_ix (r := rIxT K) ix_tup (pv 11) (pe_call G_l_take hr (by rfl) T.g_l_take T.F_l_take.kp T.b_l_take .nil pass0 (pa_cons (pv 0) (pa_cons (pe_callB (r := rLenS K) call_lenS (by rfl) T.z_len (by decide +kernel) (pa_cons (pv 11) pa_nil)) pa_nil))) (fun _ _ => rfl)) pa_nil)))))) pa_nil))))))
    (pss_cons (ps_set (i := 12) sc_l_trip.nd rfl (.inl rfl) (pe_op op_add (pe_int) (pe_call G_l_take hr (by rfl) T.g_l_take T.F_l_take.kp T.b_l_take .nil pass0 (pa_cons (pv 0) (pa_cons (pe_int) pa_nil)))))
    (pss_cons (ps_set (i := 13) sc_l_trip.nd rfl (.inl rfl) (pe_lst pa_nil))
    (pss_cons (ps_for PassesOwn.never rfl (pi_enum (by rfl) T.z_enumerate (pa_cons (pv 6) pa_nil)) (pg_tup rfl (pgs_cons (pg_name (i := 14) sc_l_trip.nd rfl (.inl rfl)) (pgs_cons (pg_name (i := 15) sc_l_trip.nd rfl (.inl rfl)) pgs_nil)))
      (pss_cons (ps_par (i := 16) (j := 17) (by rfl) sc_l_trip.nd rfl rfl (by decide) rfl rfl (pa_cons (pe_ix (r := rIxT K) ix_tup (pe_tup (pa_cons (pe_str) (pa_cons (pe_str) pa_nil))) (pe_call G_l_take hr (by rfl) T.g_l_take T.F_l_take.kp T.b_l_take .nil pass0 (pa_cons (pv 0) (pa_cons (pe_int) pa_nil))) (fun _ _ => rfl)) (pa_cons (pe_ix (r := rIxT K) ix_tup (pe_tup (pa_cons (pe_str) (pa_cons (pe_str) (pa_cons (pe_str) pa_nil)))) (pe_call G_l_take hr (by rfl) T.g_l_take T.F_l_take.kp T.b_l_take .nil pass0 (pa_cons (pv 0) (pa_cons (pe_int) pa_nil))) (fun _ _ => rfl)) pa_nil)) (by rfl))
      (pss_one (ps_expr (pe_bm PySem.F.plainAttrs_list PySem.F.slot_list_append PySem.F.type_list_append mt_append (pv 13) (pa_cons (pe_op op_catT (pe_op op_catT (pe_tup (pa_cons (pe_str) (pa_cons (pe_op op_add (pv 12) (pe_op op_mod (pe_op op_mul (pe_int) (pv 14)) (pe_int))) (pa_cons (pe_int) pa_nil)))) (pv 15)) (pe_tup (pa_cons (pv 16) (pa_cons (pv 17) pa_nil)))) pa_nil))))))
    (pss_one (ps_ret (pv 13))))))))))
      , ?_⟩
    have l28 := hw.l28
    have ll := hw.al.len
    -- over
    refine ⟨.ref r, rfl, .ref wy, rfl, r, wy, ls, sts, jns, tis, ws, ts, rfl, hnet, ewy, hw, fun H1 C s1 nC hC => ?_⟩
    obtain ⟨ca, eC, hca⟩ := hC
    have cl := paired_len hca
    have cn := cross_nm hw (ts.length - 1)
    have cm := crossTo_len ws ts (ts.length - 1)
    have cf : ∀ c ∈ crossTo ws ts (ts.length - 1), ∃ j ∈ jns, j.1 = c.1 ∧ c.2.1 ∈ j.2 ∧ c.2.2 ∈ j.2 := fun c hc => cross_fit hw pl hc
    generalize crossTo ws ts (ts.length - 1) = cs at hca cl cn cm cf
    have b1 := b.keep s1
    have Cp : C ≠ p := b.ne nC
    refine ⟨C, rfl, ⟨_, SqL.of eC⟩, fun L nL => ?_⟩
    have Lp : L ≠ p := b1.ne nL
    refine lc_it (walk_list (xs := ca.map V.ref)) (fun i H3 => Keep p H1 H3 ∧ Bag H3 p ∧ ∃ (oa : List Addr) (os : List Cr), H3 L = some (.lst (oa.map V.ref)) ∧ Paired (CrA H3) oa os ∧ (∀ c ∈ os, c ∈ cs) ∧ oa.length ≤ i) ⟨.of (same_upd nL), b1.keep (same_upd nL), [], [], upd_same, .nil, fun c h => (by cases h), Nat.le_refl _⟩ (fun i H3 _ pv => SqL.of (pv.1 _ _ Cp eC)) (fun i v H3₀ H3 hi pv yy => ?_) (fun H3 pv => ?_)
    · obtain ⟨rfl, ex⟩ := yy
      obtain ⟨k3, b3, oa, os, eL, hos, hin, ol⟩ := pv
      obtain ⟨u, eu, rfl⟩ := ref_at ex
      obtain ⟨c, ec, hu⟩ := paired_get hca eu
      rw [List.length_map] at hi
      refine ⟨rfl, .ref p, rfl, p, 5, rfl, b3, by decide, by decide, fun H4 x k4 b4 x0 x1 => ⟨_, _, rfl, rfl, _, rfl, ?_⟩⟩
      have hos4 : Paired (CrA H4) oa os := paired_imp hos fun a _ c h => h.keep k4 b3
      have eL4 := k4 _ _ Lp eL
      refine ite2 (fun cc => ?_) (fun cc => ?_)
      · have tk := tk_lst (o := .lst (oa.map V.ref ++ [.ref u])) eL4
        refine ⟨.ref u, rfl, _, eL4, by rw [List.length_map]; exact small5000 (by omega), (k3.trans k4).set nL, b4.at (upd_ne Lp.symm), oa ++ [u], os ++ [c], by rw [upd_same, List.map_append]; rfl, paired_snoc (paired_imp hos4 fun a _ c h => tk _ _ h) (tk _ _ ((hu.keep k3 b1).keep k4 b3)), fun z hz => (List.mem_append.mp hz).elim (hin z) fun e => List.mem_singleton.mp e ▸ List.mem_of_getElem? ec, by rw [List.length_append, List.length_singleton]; omega⟩
      · exact ⟨k3.trans k4, b4, oa, os, eL4, hos4, hin, by omega⟩
    obtain ⟨k3, b3, oa, os, eL, hos, hin, ol⟩ := pv
    rw [List.length_map] at ol
    have k03 : Keep p H H3 := (Keep.of s1).trans k3
    -- found
    refine ⟨Nat.zero_le _, fun F nF => ?_⟩
    have sF := same_upd (o := .lst []) nF
    have Fp : F ≠ p := b3.ne nF
    have nFH : H F = none := k03.free b nF b3
    have k04 := k03.trans (.of sF)
    have b4 := b3.keep sF
    have eF4 : (upd H3 F (.lst [])) F = some (.lst []) := upd_same
    have eL4 := sF _ _ eL
    have hos4 : Paired (CrA (upd H3 F (.lst []))) oa os := paired_imp hos fun a _ c h => sF _ _ h
    have LF : L ≠ F := ne_of_none eL nF
    generalize upd H3 F (.lst []) = H4 at k04 b4 eF4 eL4 hos4 ⊢
    have ool := paired_len hos
    refine ⟨.ref L, rfl, L, rfl, ⟨_, SqL.of eL4⟩, ?_⟩
    refine for_it (walk_list (xs := oa.map V.ref)) (fun i σ Hx => ∃ (dd : Int) (y7 y8 y9 : Option V) (fa : List Addr) (fs : List TrF), σ = [some (.ref p), some (.ref r), some (.ref wy), some (.int wg), some (.int dd), some (.ref L), some (.ref F), y7, y8, y9, none, none, none, none, none, none, none, none] ∧ Keep p H Hx ∧ Bag Hx p ∧ Hx L = some (.lst (oa.map V.ref)) ∧ Paired (CrA Hx) oa os ∧ Hx F = some (.lst (fa.map V.ref)) ∧ Paired (TrA wg Hx) fa fs ∧ (∀ f ∈ fs, TrOk jns f) ∧ fa.length = i ∧ 1 ≤ dd ∧ dd ≤ 420)
      ⟨d, none, none, none, [], [], rfl, k04, b4, eL4, hos4, eF4, .nil, fun f h => (by cases h), rfl, d1, d420⟩ (fun i σ Hx _ hp => ?_) (fun i v σ Hx₀ Hx hi hp yy => ?_) (fun σ Hx hp => ?_)
    · obtain ⟨_, _, _, _, _, _, _, _, _, e, _⟩ := hp
      exact SqL.of e
    · obtain ⟨rfl, ex⟩ := yy
      obtain ⟨dd, y7, y8, y9, fa, fs, rfl, kx, bx, eLx, hox, eFx, hfx, hok, fal, dd1, dd420⟩ := hp
      obtain ⟨u, eu, rfl⟩ := ref_at ex
      obtain ⟨c, ec, hu⟩ := paired_get hox eu
      rw [List.length_map] at hi
      have cin := hin c (List.mem_of_getElem? ec)
      have cnm := cn c cin
      obtain ⟨j, jin, ej, ej1, ej2⟩ := cf c cin
      refine ⟨u, _, rfl, SqT.of hu, rfl, _, _, rfl, _, _, rfl, _, [], rfl, rfl, ?_⟩
      refine ⟨.int dd, rfl, .ref p, rfl, p, 3, rfl, bx, by decide, by decide, fun H5 x k5 b5 x0 x1 => ⟨_, _, rfl, rfl, 420, _, rfl, ?_⟩⟩
      obtain ⟨nd, hnd, nd1, nd2⟩ : ∃ nd : Int, (if dd + x < 420 then dd + x else 420) = nd ∧ 1 ≤ nd ∧ nd ≤ 420 := by
        refine ⟨_, rfl, ?_⟩
        split <;> omega
      rw [hnd]
      refine ⟨.ref F, rfl, .inl ⟨rfl, _, SqL.of (k5 _ _ Fp eFx)⟩, nS c.1, rfl, .int nd, rfl, .ref p, rfl, p, 24, rfl, b5, by decide, by decide, fun H6 h6 k6 b6 h60 h61 => ⟨.int wg, rfl, nS c.2.2, rfl, five_sz, fun t nt => ?_⟩⟩
      have k56 := k5.trans k6
      have st := same_upd (o := .tup [nS c.1, .int nd, .int h6, .int wg, nS c.2.2]) nt
      have eF7 := st _ _ (k56 _ _ Fp eFx)
      have kk := k56.trans (.of st)
      refine ⟨F, _, _, rfl, rfl, eF7, by rw [List.length_map]; exact small5000 (by omega), ?_⟩
      have tk := tk_lst (o := .lst (fa.map V.ref ++ [.ref t])) eF7
      refine ⟨nd, _, _, _, fa ++ [t], fs ++ [⟨c.1, nd, h6, c.2.2⟩], rfl, (kx.trans kk).set nFH, (b6.keep st).at (upd_ne Fp.symm), ?_, paired_imp hox fun a _ c h => tk _ _ (st _ _ (h.keep k56 bx)), by rw [upd_same, List.map_append]; rfl, paired_snoc (paired_imp hfx fun a _ f h => tk _ _ (st _ _ (h.keep k56 bx))) (tk _ _ upd_same), fun f hf => (List.mem_append.mp hf).elim (hok f) fun e => List.mem_singleton.mp e ▸ ⟨⟨j, jin, ej, ej2⟩, cnm.1, cnm.2.2, nd1, nd2⟩, by rw [List.length_append, List.length_singleton]; omega, nd1, nd2⟩
      rw [upd_ne LF]
      exact kk _ _ Lp eLx
    obtain ⟨dd, y7, y8, y9, fa, fs, rfl, kx, bx, eLx, hox, eFx, hfx, hok, fal, dd1, dd420⟩ := hp
    rw [List.length_map] at fal
    clear hox eLx hos eL4 hos4
    -- others
    obtain ⟨na, nb, nc, nd, sa, ja, ta, er, _, eb, hsa, e5, e6, ed, hta⟩ := id (hnet.tk (TKF.keep kx b))
    have jl := paired_len e6
    refine ⟨.ref p, rfl, p, 5, rfl, bx, by decide, by decide, fun H5 x k5 b5 x0 x1 => ?_⟩
    have er5 := (TKF.keep k5 bx).t _ _ er
    have e55 := e5.tk (TKF.keep k5 bx)
    have e65 : Paired (JnAt H5) ja jns := paired_imp e6 (fun a _ j ⟨z, f1, f2⟩ => ⟨z, (TKF.keep k5 bx).t _ _ f1, (TKF.keep k5 bx).t _ _ f2⟩)
    refine ⟨.ref r, rfl, r, _, 2, .ref nc, rfl, rfl, SqT.of er5, atI_nat (j := 2) rfl, Nat.zero_le _, fun e ne => ?_⟩
    have se := same_upd (o := .tup []) ne
    have hjD : ∀ j ∈ jns, IsNm j.1 ∧ ∀ z ∈ j.2, IsNm z := fun j h => ⟨(hj j h).1, (hj j h).2.2.2⟩
    refine ⟨_, _, .tup (e55.same se).sq (dpAll_jA (paired_imp e65 (fun a _ j ⟨z, f1, f2⟩ => ⟨z, se _ _ f1, se _ _ f2⟩))), .tup (SqT.of upd_same) .nil, shaped_jD hjD, rfl, .inr ⟨_, rfl, ?_⟩⟩
    obtain ⟨n, hn, hn4⟩ : ∃ n : Nat, x * (if (!PyData.eqv (.tuple (jns.map jD)) (.tuple [])) = true then 1 else 0) = (n : Int) ∧ n ≤ 4 ∧ (1 ≤ n → jns ≠ []) := by
      cases jns with
      | nil => exact ⟨0, by show x * 0 = 0; omega, by omega, fun z => by omega⟩
      | cons j r => exact ⟨x.toNat, by show x * 1 = _; omega, by omega, fun _ z => by cases z⟩
    refine ⟨_, _, rfl, rfl, .inl ⟨by omega, by omega⟩, ?_⟩
    refine ⟨_, congrArg (fun z => [V.int z]) hn, by omega, by omega, ?_⟩
    rw [Int.toNat_natCast]
    have k06 := kx.trans (k5.trans (.of se))
    have b6 := b5.keep se
    have eF6 := se _ _ (k5 _ _ Fp eFx)
    have hf6 : Paired (TrA wg (upd H5 e (.tup []))) fa fs := paired_imp hfx fun a _ f h => se _ _ (h.keep k5 bx)
    generalize upd H5 e (.tup []) = H6 at k06 b6 eF6 hf6 ⊢
    clear er5 e55 e65 eFx hfx er e5 e6 eb hsa ed hta jl
    refine for_range (lo := 0) (n := n) (fun i σ Hx => ∃ (y7 y8 y9 y10 y11 : Option V) (fa' : List Addr) (fs : List TrF), σ = [some (.ref p), some (.ref r), some (.ref wy), some (.int wg), some (.int dd), some (.ref L), some (.ref F), y7, y8, y9, y10, y11, none, none, none, none, none, none] ∧ Keep p H Hx ∧ Bag Hx p ∧ Hx F = some (.lst (fa'.map V.ref)) ∧ Paired (TrA wg Hx) fa' fs ∧ (∀ f ∈ fs, TrOk jns f) ∧ fa'.length ≤ fa.length + i)
      ⟨y7, y8, y9, none, none, fa, fs, rfl, k06, b6, eF6, hf6, hok, Nat.le_refl _⟩ (fun i σ Hx hi hp => ?_) (fun σ Hx hp => ?_)
    · obtain ⟨y7, y8, y9, y10, y11, fa', fs, rfl, kx, bx, eFx, hfx, hok, fl'⟩ := hp
      obtain ⟨na, nb, nc, nd, sa, ja, ta, er, _, eb, hsa, e5, e6, ed, hta⟩ := id (hnet.tk (TKF.keep kx b))
      have jl := paired_len e6
      have jne := hn4.2 (by omega)
      have jpos : 1 ≤ jns.length := by
        cases jns with
        | nil => exact absurd rfl jne
        | cons a r => rw [List.length_cons]; omega
      refine ⟨.ref r, rfl, r, _, 2, .ref nc, rfl, rfl, SqT.of er, atI_nat (j := 2) rfl, .ref p, rfl, .ref r, rfl, r, _, 2, .ref nc, rfl, rfl, SqT.of er, atI_nat (j := 2) rfl, nc, _, rfl, .inr e5.sq, 1, _, rfl, ?_⟩
      rw [show (if ((ja.map V.ref).length : Int) > 1 then ((ja.map V.ref).length : Int) else 1) = (jns.length : Int) by rw [List.length_map]; split <;> omega]
      refine ⟨p, (jns.length : Int), rfl, bx, by omega, by omega, fun H5 x k5 b5 x0 x1 => ?_⟩
      obtain ⟨xj, rfl⟩ : ∃ j : Nat, x = (j : Int) := ⟨x.toNat, by omega⟩
      have hx : xj < jns.length := by omega
      have hxa : xj < ja.length := by omega
      obtain ⟨jn, ejn, hjn⟩ := paired_get e6 (List.getElem?_eq_getElem hxa)
      obtain ⟨jt, f1, f2⟩ := hjn
      have jin : jn ∈ jns := List.mem_of_getElem? ejn
      obtain ⟨jn1, jn2, jn3, jn4⟩ := hj jn jin
      have tk5 := TKF.keep k5 bx
      refine ⟨nc, _, (xj : Int), .ref ja[xj], rfl, rfl, (e5.tk tk5).sq, atI_nat (at_refC (List.getElem?_eq_getElem hxa)), ja[xj], _, rfl, SqT.of (tk5.t _ _ f1), rfl, _, _, rfl, _, [], rfl, rfl, ?_⟩
      refine ⟨.ref F, rfl, .inl ⟨rfl, _, SqL.of (k5 _ _ Fp eFx)⟩, nS jn.1, rfl, .ref p, rfl, p, 420, rfl, b5, by decide, by decide, fun H6 x6 k6 b6 x60 x61 => ⟨_, _, rfl, rfl, .ref p, rfl, p, 24, rfl, b6, by decide, by decide, fun H7 x7 k7 b7 x70 x71 => ?_⟩⟩
      have k57 := k5.trans (k6.trans k7)
      have tk7 := TKF.keep k57 bx
      have f2' := tk7.t _ _ f2
      refine ⟨.int wg, rfl, .ref jt, rfl, .ref p, rfl, .ref jt, rfl, jt, _, rfl, .inr (SqT.of f2'), p, (jn.2.length : Int), by rw [List.length_map]; rfl, b7, by omega, by omega, fun H8 x8 k8 b8 x80 x81 => ?_⟩
      obtain ⟨x8, rfl⟩ : ∃ j : Nat, x8 = (j : Int) := ⟨x8.toNat, by omega⟩
      have h8 : x8 < jn.2.length := by omega
      have k58 := k57.trans k8
      have tk8 := TKF.keep k58 bx
      refine ⟨jt, _, (x8 : Int), nS jn.2[x8], rfl, rfl, SqT.of (tk8.t _ _ f2), atI_nat (by rw [List.getElem?_map, List.getElem?_eq_getElem h8]; rfl), five_sz, fun t nt => ?_⟩
      have st := same_upd (o := .tup [nS jn.1, .int (1 + x6), .int x7, .int wg, nS jn.2[x8]]) nt
      have eF9 := st _ _ (k58 _ _ Fp eFx)
      have kk := k58.trans (.of st)
      have zin : jn.2[x8] ∈ jn.2 := List.getElem_mem h8
      refine ⟨F, _, _, rfl, rfl, eF9, by rw [List.length_map]; exact small5000 (by omega), ?_⟩
      have tk := tk_lst (o := .lst (fa'.map V.ref ++ [.ref t])) eF9
      exact ⟨_, _, _, _, _, fa' ++ [t], fs ++ [⟨jn.1, 1 + x6, x7, jn.2[x8]⟩], rfl, (kx.trans kk).set nFH, (b8.keep st).at (upd_ne Fp.symm), by rw [upd_same, List.map_append]; rfl, paired_snoc (paired_imp hfx fun a _ f h => tk _ _ (st _ _ (h.keep k58 bx))) (tk _ _ upd_same), fun f hf => (List.mem_append.mp hf).elim (hok f) fun e => List.mem_singleton.mp e ▸ ⟨⟨jn, jin, rfl, zin⟩, jn1, jn4 _ zin, by show 1 ≤ 1 + x6; omega, by show 1 + x6 ≤ 420; omega⟩, by rw [List.length_append, List.length_singleton]; omega⟩
    obtain ⟨y7', y8', y9', y10, y11, fa', fs, rfl, kx, bx, eFx, hfx, hok, fl'⟩ := hp
    have f40 : fa'.length ≤ 40 := by omega
    clear fl' hf6 eF6 k06 b6
    -- papers
    refine ⟨.ref p, rfl, p, 9000, rfl, bx, by decide, by decide, fun H5 x k5 b5 x0 x1 => ⟨1, _, rfl, rfl, Nat.zero_le _, fun R nR => ?_⟩⟩
    obtain ⟨nb, hnb⟩ : ∃ z : Int, z = 1 + x := ⟨_, rfl⟩
    have sR := same_upd (o := .lst []) nR
    have Rp : R ≠ p := b5.ne nR
    have nRH : H R = none := (kx.trans k5).free b nR b5
    have k06 := (kx.trans k5).trans (.of sR)
    have b6 := b5.keep sR
    have eF6 := sR _ _ (k5 _ _ Fp eFx)
    have eR6 : (upd H5 R (.lst [])) R = some (.lst []) := upd_same
    have hf6 : Paired (TrA wg (upd H5 R (.lst []))) fa' fs := paired_imp hfx fun a _ f h => sR _ _ (h.keep k5 bx)
    have FR : F ≠ R := fun z => by rw [← z, k5 _ _ Fp eFx] at nR; cases nR
    generalize upd H5 R (.lst []) = H6 at k06 b6 eF6 eR6 hf6 ⊢
    refine ⟨.ref F, rfl, F, _, rfl, SqL.of eF6, ?_⟩
    refine for_it (walk_enum (xs := fa'.map V.ref)) (fun i σ Hx => ∃ (y14 y15 y16 y17 : Option V) (ta : List Addr) (rs : List Rt), σ = [some (.ref p), some (.ref r), some (.ref wy), some (.int wg), some (.int dd), some (.ref L), some (.ref F), y7', y8', y9', y10, y11, some (.int nb), some (.ref R), y14, y15, y16, y17] ∧ Keep p H Hx ∧ Bag Hx p ∧ Hx F = some (.lst (fa'.map V.ref)) ∧ Paired (TrA wg Hx) fa' fs ∧ Hx R = some (.lst (ta.map V.ref)) ∧ Paired (RtA Hx) ta rs ∧ (∀ r ∈ rs, RtFull r ∧ RtFit jns r ∧ RtSeal r ∧ 0 ≤ r.day ∧ r.day ≤ 420) ∧ (∀ (j : Nat) (r : Rt), rs[j]? = some r → r.num = nb + 7 * (j : Int) % 41) ∧ rs.length = i)
      ⟨none, none, none, none, [], [], (by rw [hnb]; rfl), k06, b6, eF6, hf6, eR6, .nil, fun r h => (by cases h), fun j r h => (by simp at h), rfl⟩ (fun i σ Hx _ hp => ?_) (fun i v σ Hx Hx' hi hp yy => ?_) (fun σ Hx hp => ?_)
    · obtain ⟨_, _, _, _, _, _, _, _, _, e, _⟩ := hp
      exact SqL.of e
    · obtain ⟨U, xv, yv, rfl, nU, rfl, ex, ey⟩ := yy
      obtain ⟨y14, y15, y16, y17, ta, rs, rfl, kx, bx, eFx, hfx, eRx, hrx, hrok, hnum, rl⟩ := hp
      have ex : xv = .int (i : Int) := (Option.some.inj ex).symm
      subst ex
      obtain ⟨u, eu, rfl⟩ := ref_at ey
      obtain ⟨f, ef, hu⟩ := paired_get hfx eu
      rw [List.length_map] at hi
      have tl := paired_len hrx
      obtain ⟨fe, fj, fo, fd1, fd2⟩ := hok f (List.mem_of_getElem? ef)
      have sU := same_upd (o := .tup [.int (i : Int), .ref u]) nU
      refine ⟨U, _, rfl, SqT.of upd_same, rfl, _, _, rfl, _, [], rfl, rfl, ?_⟩
      have kU := Keep.of (p := p) sU
      have bU := bx.keep sU
      generalize upd Hx U (.tup [.int (i : Int), .ref u]) = H7 at kU bU
      refine ⟨two_sz, fun t nt => ?_⟩
      have st := same_upd (o := .tup [.str "laden", .str "empty"]) nt
      have bt := bU.keep st
      have tp : t ≠ p := bU.ne nt
      refine ⟨.ref p, rfl, p, 2, rfl, bt, by decide, by decide, fun H8 x8 k8 b8 x80 x81 => ?_⟩
      obtain ⟨ld, eld, hld⟩ := pick2 (a := "laden") (b := "empty") x80 x81
      refine ⟨t, _, x8, .str ld, rfl, rfl, SqT.of (k8 _ _ tp upd_same), eld, three_sz, fun t2 nt2 => ?_⟩
      have st2 := same_upd (o := .tup [.str "whole", .str "whole", .str "broken"]) nt2
      have t2p : t2 ≠ p := b8.ne nt2
      refine ⟨.ref p, rfl, p, 3, rfl, b8.keep st2, by decide, by decide, fun H9 x9 k9 b9 x90 x91 => ?_⟩
      obtain ⟨sl, esl, hsl⟩ := pick3 x90 x91
      refine ⟨t2, _, x9, .str sl, rfl, rfl, SqT.of (k9 _ _ t2p upd_same), esl, _, _, rfl, ?_⟩
      have k9' := kU.trans ((Keep.of st).trans (k8.trans ((Keep.of st2).trans k9)))
      have u9 := hu.keep k9' bx
      have eR9 := k9' _ _ Rp eRx
      refine ⟨.ref R, rfl, .inl ⟨rfl, _, SqL.of eR9⟩, .int nb, rfl, .int (i : Int), rfl, _, _, rfl, rfl, .inl ⟨by decide, by decide⟩, _, 41, rfl, rfl, (show (0 : Int) < 41 by decide), _, _, rfl, rfl, three_sz, fun v1 n1 => ?_⟩
      have q1 := same_upd (o := .tup [.str "return", .int (nb + 7 * (i : Int) % 41), .int 1]) n1
      refine ⟨.ref u, rfl, v1, u, _, _, rfl, rfl, SqT.of upd_same, SqT.of (q1 _ _ u9), by simp, by show 8 ≤ sizeLine; decide, fun h => (by cases h), fun _ v2 n2 => ?_⟩
      have q2 := same_upd (o := .tup ([.str "return", .int (nb + 7 * (i : Int) % 41), .int 1] ++ [nS f.jn, .int f.day, .int f.hour, .int wg, nS f.over])) n2
      refine ⟨.str ld, rfl, .str sl, rfl, two_sz, fun v3 n3 => ?_⟩
      have q3 := same_upd (o := .tup [.str ld, .str sl]) n3
      refine ⟨v2, v3, _, _, rfl, rfl, SqT.of (q3 _ _ upd_same), SqT.of upd_same, by simp, by show 10 ≤ sizeLine; decide, fun h => (by cases h), fun _ v4 n4 => ?_⟩
      have q4 := same_upd (o := .tup (([.str "return", .int (nb + 7 * (i : Int) % 41), .int 1] ++ [nS f.jn, .int f.day, .int f.hour, .int wg, nS f.over]) ++ [.str ld, .str sl])) n4
      have qq := q1.trans (q2.trans (q3.trans q4))
      have kk := k9'.trans (.of qq)
      have eR10 := kk _ _ Rp eRx
      have b10 := b9.keep qq
      refine ⟨R, _, _, rfl, rfl, eR10, by rw [List.length_map]; exact small5000 (by omega), ?_⟩
      have tk := tk_lst (o := .lst (ta.map V.ref ++ [.ref v4])) eR10
      have hsl' : PyData.strOk sl = true ∧ (some (V.str sl) = some (sV (some (decide (some (V.str sl) = some (V.str ("whole" : Str))))))) := by
        rcases hsl with rfl | rfl
        · exact ⟨by decide +kernel, by rw [decide_eq_true rfl]; rfl⟩
        · exact ⟨by decide +kernel, by rw [decide_eq_false (by decide)]; rfl⟩
      have hld' : PyData.strOk ld = true := by rcases hld with rfl | rfl <;> decide +kernel
      refine ⟨_, _, _, _, ta ++ [v4], rs ++ [trR nb wg i f ld sl], rfl, (kx.trans kk).set nRH, b10.at (upd_ne Rp.symm), ?_, paired_imp hfx fun a _ f h => tk _ _ (h.keep kk bx), by rw [upd_same, List.map_append]; rfl, paired_snoc (paired_imp hrx fun a _ r h => tk _ _ (h.keep kk bx)) (tk _ _ upd_same), fun x hx => (List.mem_append.mp hx).elim (hrok x) fun e => List.mem_singleton.mp e ▸ ⟨⟨⟨1, wg, ld, sl, rfl, hld', hsl'.1⟩, fj, fo⟩, fe, hsl'.2, by show 0 ≤ f.day; omega, fd2⟩, fun j x hx => ?_, by rw [List.length_append, List.length_singleton]; omega⟩
      · rw [upd_ne FR]
        exact kk _ _ Fp eFx
      · rcases Nat.lt_or_ge j rs.length with c | c
        · rw [List.getElem?_append_left c] at hx
          exact hnum j x hx
        · rw [List.getElem?_append_right c] at hx
          have hj0 : j - rs.length = 0 := by
            have := (List.getElem?_eq_some_iff.mp hx).1
            rw [List.length_singleton] at this
            omega
          rw [hj0] at hx
          have := Option.some.inj hx
          rw [← this, show j = i by omega]
          rfl
    · obtain ⟨y14, y15, y16, y17, ta, rs, rfl, kx, bx, eFx, hfx, eRx, hrx, hrok, hnum, rl⟩ := hp
      rw [List.length_map] at rl
      refine ⟨.ref R, rfl, q _ R ta rs kx bx nRH eRx hrx hrok ?_ (by omega)⟩
      rw [List.nodup_iff_pairwise_ne, List.pairwise_map, List.pairwise_iff_getElem]
      intro i j hi hj hij e
      rw [hnum i _ (List.getElem?_eq_getElem hi), hnum j _ (List.getElem?_eq_getElem hj)] at e
      exact trip_num hij (by omega) e.symm
end
end Th
namespace Th
open PySem PySem.Spec PyProof.Rows L2
/-! what the law sees -/
def HsA (H : Hp) (a : Addr) (h : Hd) : Prop := H a = some (.tup [.str "held", .int h.row.num, nS h.near, nS h.row.over])
def FtA (gs : List Hd) (H : Hp) (a : Addr) (j : Nat) : Prop := ∃ h, gs[j]? = some h ∧ H a = some (.tup [.int (j : Int), sV (some (slB h.row))])
theorem FtA.tk {gs : List Hd} {H H' : Hp} {a : Addr} {j : Nat} (q : FtA gs H a j) (t : ∀ b xs, H b = some (.tup xs) → H' b = some (.tup xs)) : FtA gs H' a j := let ⟨h, e1, e2⟩ := q; ⟨h, e1, t _ _ e2⟩
def ftE (gs : List Hd) (j : Nat) : PyData := .tuple [.int (j : Int), slE ((gs[j]?).map fun h => slB h.row)]
theorem dp_sl {K : PySem.W.Frag} {H : Hp} (s : Option Bool) : Dp K H (sV s) (slE s) := by
  match s with
  | none => exact .non
  | some true => exact .str _
  | some false => exact .str _
theorem dpAll_ft {K : PySem.W.Frag} {H : Hp} {gs : List Hd} : ∀ {as : List Addr} {js : List Nat}, Paired (FtA gs H) as js → DpAll K H (as.map V.ref) (js.map (ftE gs))
  | _, _, .nil => .nil
  | _, _, .cons ⟨h, e1, e2⟩ r => .cons (.tup (SqT.of e2) (.cons (.int _) (.cons (by rw [e1]; exact dp_sl (some (slB h.row))) .nil))) (dpAll_ft r)
theorem layAll_ft {gs : List Hd} : ∀ {js : List Nat}, PyData.canLayAll0 (js.map (ftE gs)) = true
  | [] => rfl
  | j :: js => by
    show ((true && (PyData.canLay0 (slE ((gs[j]?).map fun h => slB h.row)) && true)) && PyData.canLayAll0 (js.map (ftE gs))) = true
    rw [layAll_ft (js := js)]
    generalize (gs[j]?).map (fun h => slB h.row) = o
    match o with
    | none => rfl
    | some true => decide +kernel
    | some false => decide +kernel
theorem depthAll_ft {gs : List Hd} : ∀ js : List Nat, PyData.depthAll (js.map (ftE gs)) ≤ 1
  | [] => Nat.zero_le _
  | j :: js => by
    show max (max 0 (max (PyData.depth (slE ((gs[j]?).map fun h => slB h.row))) 0) + 1) (PyData.depthAll (js.map (ftE gs))) ≤ 1
    have := depthAll_ft (gs := gs) js
    generalize (gs[j]?).map (fun h => slB h.row) = o
    match o with
    | none => exact Nat.max_le.mpr ⟨by decide, this⟩
    | some true => exact Nat.max_le.mpr ⟨by decide, this⟩
    | some false => exact Nat.max_le.mpr ⟨by decide, this⟩
theorem shaped_ft {gs : List Hd} (js : List Nat) : SeqAt.shaped (.list (js.map (ftE gs))) = true := Bool.and_eq_true_iff.mpr ⟨layAll_ft (js := js), decide_eq_true (by
  show PyData.depthAll (js.map (ftE gs)) + 1 ≤ 64
  have := depthAll_ft (gs := gs) js
  omega)⟩
section
variable {P : Program} {w : World} {K : PySem.W.Frag} {mg : Str → Option Value} {base : Heap} {k : Nat}
set_option maxHeartbeats 16000000 in
theorem ok_l_seen (T : Defs K mg) : FnOk P w K mg base CX0 (k + 3) T.a_l_seen T.d_l_seen ["_law_net_here", "_law_way", "_law_day", "_law_steps", "_law_returns"] (sp_seals K) := by
  have G_l_over : FnOk P w K mg base CX0 (k + 2) _ _ _ _ := ok_l_over (k := k) T
  refine T.F_l_seen.ok sc_l_seen (fun vs H Q E h => ?_) (fun cdv A outer s H vs Q E hr h => ?_)
  · obtain ⟨r, wy, D, l, ls, sts, jns, tis, ws, ts, fa, ta, ss, rs, hs, d, rfl, _⟩ := h
    rfl
  · obtain ⟨r, wy, D, l, ls, sts, jns, tis, ws, ts, fa, ta, ss, rs, hs, d, rfl, hnet, ewy, hw, eD, hfa, el, hta, hrs, hnd, t1000, f2000, hh, hnm, q⟩ := h
    refine ⟨_, PSs.nox
(pss_cons (ps_setLc (i := 5) (own := [("_law_step", 15)]) (g := gName 15) rfl sc_l_seen.nd rfl rfl (sw_true rfl rfl rfl (by decide +kernel)) (pi_list (pv 3)) (blkOk_by (N := N_l_seen) (sc := defScope s_l_seen) (by decide +kernel)) (fun _ _ _ _ _ => (pg_name (i := 15) sc_l_seen.nd rfl (.inl rfl))) (fun _ _ _ _ _ => pts_one (pt_cmpR op_eq (pe_ix (r := rIxT K) ix_tup (pv 15) (pe_int) (fun _ _ => rfl)) (pe_str) (nomark _))) (fun _ _ _ _ _ => (pv 15)))
    (pss_cons (ps_set (i := 6) sc_l_seen.nd rfl (.inl rfl) (pe_lst pa_nil))
    (pss_cons (ps_for PassesOwn.never rfl (pi_list (pe_call G_l_over hr (by rfl) T.g_l_over T.F_l_over.kp T.b_l_over .nil pass0 (pa_cons (pv 0) (pa_cons (pv 1) pa_nil)))) (pg_name (i := 7) sc_l_seen.nd rfl (.inl rfl))
      (pss_cons (ps_set (i := 8) sc_l_seen.nd rfl (.inl rfl) (pe_lst pa_nil))
      (pss_cons (ps_for PassesOwn.never rfl (pi_enum (by rfl) T.z_enumerate (pa_cons (pv 5) pa_nil)) (pg_tup rfl (pgs_cons (pg_name (i := 9) sc_l_seen.nd rfl (.inl rfl)) (pgs_cons (pg_tup rfl (pgs_cons (pg_name (i := 10) sc_l_seen.nd rfl (.inl rfl)) (pgs_cons (pg_name (i := 11) sc_l_seen.nd rfl (.inr rfl)) (pgs_cons (pg_name (i := 12) sc_l_seen.nd rfl (.inl rfl)) (pgs_cons (pg_name (i := 13) sc_l_seen.nd rfl (.inl rfl)) pgs_nil))))) pgs_nil)))
        (pss_cons (ps_set (i := 14) sc_l_seen.nd rfl (.inl rfl) (pe_ix (r := rIxL K) ix_list (pe_lc (own := [("_law_one", 16)]) (g := gName 16) rfl sc_l_seen.nd (pi_list (pv 4)) (blkOk_by (N := N_l_seen) (sc := defScope s_l_seen) (by decide +kernel)) (fun _ _ _ _ _ => (pg_name (i := 16) sc_l_seen.nd rfl (.inl rfl))) (fun _ _ _ _ _ => pts_one (pt_cmpR op_eq (pe_ix (r := rIxT K) ix_tup (pv 16) (pe_int) (fun _ _ => rfl)) (pv 11) (nomark _))) (fun _ _ _ _ _ => (pv 16))) (pe_int) (fun _ _ => rfl)))
        (pss_one (ps_if (PW.pt (pw_and (pt_cmpR op_ge (pe_ix (r := rIxT K) ix_tup (pv 14) (pe_int) (fun _ _ => rfl)) (pv 2) (nomark _)) (pw_and1 (pt_cmpR (r := rEqD K) (op_eqD hr.units) (pe_tup (pa_cons (pe_ix (r := rIxT K) ix_tup (pv 14) (pe_int) (fun _ _ => rfl)) (pa_cons (pv 12) (pa_cons (pv 13) pa_nil)))) (pv 7) (nomark _)))))
          (pss_one (ps_expr (pe_bm PySem.F.plainAttrs_list PySem.F.slot_list_append PySem.F.type_list_append mt_append (pv 8) (pa_cons (pe_tup (pa_cons (pv 9) (pa_cons (pe_ix (r := rIxT K) ix_tup (pv 14) (pe_int) (fun _ _ => rfl)) pa_nil))) pa_nil))))
          pss_nil))))
      (pss_one (ps_if (pt_cmpR (r := rEqD K) (op_eqD hr.units) (pv 8) (pe_lst pa_nil) (nomark _))
        (pss_one (ps_expr (pe_bm PySem.F.plainAttrs_list PySem.F.slot_list_append PySem.F.type_list_append mt_append (pv 6) (pa_cons (pe_non) pa_nil))))
        (pss_cons (ps_expr (pe_bm PySem.F.plainAttrs_list PySem.F.slot_list_append PySem.F.type_list_append mt_append (pv 6) (pa_cons (pe_ix (r := rIxT K) ix_tup (pe_ix (r := rIxL K) ix_list (pv 8) (pe_int) (fun _ _ => rfl)) (pe_int) (fun _ _ => rfl)) pa_nil)))
        (pss_one (ps_set (i := 5) sc_l_seen.nd rfl (.inl rfl) (pe_slice sl_list (pv 5) (po_some (pe_op op_add (pe_ix (r := rIxT K) ix_tup (pe_ix (r := rIxL K) ix_list (pv 8) (pe_int) (fun _ _ => rfl)) (pe_int) (fun _ _ => rfl)) (pe_int))) po_none)))))))))
    (pss_one (ps_ret (pv 6))))))
      , ?_⟩
    have l28 := hw.l28
    have ll := hw.al.len
    have hl := hh.len
    have fl := paired_len hfa
    have tl := paired_len hta
    have hrow := hh.rows
    -- held
    refine ⟨.ref D, rfl, D, rfl, ⟨_, eD⟩, fun L nL => ?_⟩
    refine lc_it (walk_list (xs := fa.map V.ref)) (fun i H3 => Same H H3 ∧ ∃ (as : List Addr) (h1 h2 : List Hd) (rd : List Nm), H3 L = some (.lst (as.map V.ref)) ∧ Paired (HsA H3) as h1 ∧ h1 ++ h2 = hs ∧ HeldOf rs rd (ss.drop i) h2) ⟨same_upd nL, [], [], hs, [], upd_same, .nil, rfl, hh⟩ (fun i H3 _ pv => sq_same pv.1 eD) (fun i v H3₀ H3 hi pv yy => ?_) (fun H3 pv => ?_)
    · obtain ⟨rfl, ex⟩ := yy
      obtain ⟨s3, as, h1, h2, rd, eL, has, e12, ho⟩ := pv
      obtain ⟨a, ea, rfl⟩ := ref_at ex
      obtain ⟨st, est, hst⟩ := paired_get hfa ea
      have hstx : StpA H3 a st := hst.tk fun b xs h => s3 _ _ h
      rw [drop_cons est] at ho
      have asl : as.length ≤ 2000 := by
        have := paired_len has
        have e := congrArg List.length e12
        rw [List.length_append] at e
        omega
      cases st with
      | aside n =>
        cases ho with
        | aside ho =>
        have hstx : H3 a = some (.tup [.str "aside", .int n]) := hstx
        exact ⟨rfl, .ref a, rfl, a, _, 0, _, rfl, rfl, SqT.of hstx, atI_nat (j := 0) rfl, rfl, false, by decide +kernel, iteF ⟨s3, as, h1, h2, rd, eL, has, e12, ho⟩⟩
      | gap g =>
        cases ho with
        | gap ho =>
        obtain ⟨u, hstx, _⟩ := hstx
        exact ⟨rfl, .ref a, rfl, a, _, 0, _, rfl, rfl, SqT.of hstx, atI_nat (j := 0) rfl, rfl, false, by decide +kernel, iteF ⟨s3, as, h1, h2, g, eL, has, e12, ho⟩⟩
      | held n l' o =>
        cases ho with
        | @held _ _ _ _ rw_ _ ht hin hn hov ho =>
        subst hn hov
        have hstx : H3 a = some (.tup [.str "held", .int rw_.num, nS l', nS rw_.over]) := hstx
        refine ⟨rfl, .ref a, rfl, a, _, 0, _, rfl, rfl, SqT.of hstx, atI_nat (j := 0) rfl, rfl, true, by decide +kernel, iteT ?_⟩
        have tk := tk_lst (o := .lst (as.map V.ref ++ [.ref a])) eL
        exact ⟨.ref a, rfl, _, eL, by rw [List.length_map]; exact small5000 (by omega), same_set s3 nL, as ++ [a], h1 ++ [⟨rd, l', rw_⟩], ht, [], by rw [upd_same, List.map_append]; rfl, paired_snoc (paired_imp has fun a _ h e => tk _ _ e) (tk _ _ hstx), by rw [← e12]; simp, ho⟩
    obtain ⟨s3, as, h1, h2, rd, eL, has, e12, ho⟩ := pv
    rw [List.length_map, fl, List.drop_length] at ho
    cases ho
    rw [List.append_nil] at e12
    subst e12
    -- found
    refine ⟨Nat.zero_le _, fun F nF => ?_⟩
    have sF := same_upd (o := .lst []) nF
    have nFH := up0 s3 nF
    have s04 := s3.trans sF
    have eF4 : (upd H3 F (.lst [])) F = some (.lst []) := upd_same
    have eL4 := sF _ _ eL
    have LF : L ≠ F := ne_of_none eL nF
    have has4 : Paired (HsA (upd H3 F (.lst []))) as h1 := paired_imp has fun a _ h e => sF _ _ e
    generalize upd H3 F (.lst []) = H4 at s04 eF4 eL4 has4 sF ⊢
    refine ⟨.ref r, rfl, .ref wy, rfl, r, wy, ls, sts, jns, tis, ws, ts, rfl, hnet.tk (.of s04), s04 _ _ ewy, hw, fun H5 C s5 nC hC => ?_⟩
    obtain ⟨ca, eC, hca⟩ := hC
    have cl := paired_len hca
    have cn := cross_nm hw (ts.length - 1)
    have cm := crossTo_len ws ts (ts.length - 1)
    have CF : C ≠ F := fun z => by rw [z, eF4] at nC; cases nC
    generalize crossTo ws ts (ts.length - 1) = cs at q hca cl cn cm
    refine ⟨C, rfl, ⟨_, SqL.of eC⟩, ?_⟩
    have s05 := s04.trans s5
    refine for_it (walk_list (xs := ca.map V.ref)) (fun i σ Hx => ∃ (pa : Addr) (y7 y8 y9 y10 y11 y12 y13 y14 : Option V) (ps : List Addr) (gs : List Hd) (sl : List (Option Bool)), σ = [some (.ref r), some (.ref wy), some (.int d), some (.ref D), some (.ref l), some (.ref pa), some (.ref F), y7, y8, y9, y10, y11, y12, y13, y14, none, none] ∧ Same H Hx ∧ Hx C = some (.lst (ca.map V.ref)) ∧ Paired (CrA Hx) ca cs ∧ Hx F = some (.lst (sl.map sV)) ∧ Hx pa = some (.lst (ps.map V.ref)) ∧ Paired (HsA Hx) ps gs ∧ pa ≠ F ∧ sl.length = i ∧ gs.length ≤ 2000 ∧ (∀ h ∈ gs, h.row ∈ rs ∧ HdNm h) ∧ sl ++ seenM d (cs.drop i) gs = seenM d cs h1)
      ⟨L, none, none, none, none, none, none, none, none, as, h1, [], rfl, s05, eC, hca, s5 _ _ eF4, s5 _ _ eL4, paired_imp has4 fun a _ h e => s5 _ _ e, LF, rfl, by omega, fun h hh' => ⟨hrow h hh', hnm h hh'⟩, rfl⟩ (fun i σ Hx _ hp' => ?_) (fun i v σ Hx₀ Hx hi hp' yy => ?_) (fun σ Hx hp' => ?_)
    · obtain ⟨_, _, _, _, _, _, _, _, _, _, _, _, _, _, e, _⟩ := hp'
      exact SqL.of e
    · obtain ⟨rfl, ex⟩ := yy
      obtain ⟨pa, y7, y8, y9, y10, y11, y12, y13, y14, ps, gs, sl, rfl, sx, eCx, hcx, eFx, ePx, hpx, paF, sll, gl, gok, hse⟩ := hp'
      rw [List.length_map] at hi
      obtain ⟨u, eu, rfl⟩ := ref_at ex
      obtain ⟨c, ec, hu⟩ := paired_get hcx eu
      have pgl := paired_len hpx
      have cin := cn c (List.mem_of_getElem? ec)
      have dr := drop_cons ec
      -- fit
      refine ⟨Nat.zero_le _, fun W nW => ?_⟩
      have sW := same_upd (o := .lst []) nW
      have WF : W ≠ F := fun z => by rw [z, eFx] at nW; cases nW
      have WP : W ≠ pa := fun z => by rw [z, ePx] at nW; cases nW
      refine ⟨.ref pa, rfl, pa, _, rfl, SqL.of (sW _ _ ePx), ?_⟩
      refine for_it (walk_enum (xs := ps.map V.ref)) (fun m σ H6 => ∃ (y9 y10 y11 y12 y13 y14 : Option V) (fts : List Addr) (js : List Nat), σ = [some (.ref r), some (.ref wy), some (.int d), some (.ref D), some (.ref l), some (.ref pa), some (.ref F), some (.ref u), some (.ref W), y9, y10, y11, y12, y13, y14, none, none] ∧ Same Hx H6 ∧ H6 W = some (.lst (fts.map V.ref)) ∧ Paired (FtA gs H6) fts js ∧ IdxOk (fun h => d ≤ h.row.day ∧ hKey h = c) gs m js)
        ⟨y9, y10, y11, y12, y13, y14, [], [], rfl, sW, upd_same, .nil, .zero _ _⟩ (fun m σ H6 _ pv => ?_) (fun m v σ H6 H7 hm pv yy => ?_) (fun σ H6 pv => ?_)
      · obtain ⟨_, _, _, _, _, _, _, _, _, s6, _⟩ := pv
        exact SqL.of (s6 _ _ ePx)
      · obtain ⟨U, x, y, rfl, nU, rfl, ex, ey⟩ := yy
        have ex : x = .int (m : Int) := (Option.some.inj ex).symm
        subst ex
        obtain ⟨v, ev, rfl⟩ := ref_at ey
        rw [List.length_map] at hm
        obtain ⟨y9, y10, y11, y12, y13, y14, fts, js, rfl, s6, eW, hft, hjs⟩ := pv
        obtain ⟨h, eh, hv⟩ := paired_get hpx ev
        have sU := same_upd (o := .tup [.int (m : Int), .ref v]) nU
        have s67 := s6.trans sU
        have e1 : (upd H6 U (.tup [.int (m : Int), .ref v])) v = some (.tup [.str "held", .int h.row.num, nS h.near, nS h.row.over]) := s67 _ _ hv
        have eW7 := sU _ _ eW
        have hft7 : Paired (FtA gs (upd H6 U (.tup [.int (m : Int), .ref v]))) fts js := paired_imp hft fun a _ j e => e.tk fun b xs z => sU _ _ z
        obtain ⟨hin, hn⟩ := gok h (List.mem_of_getElem? eh)
        have jl := hjs.len
        have fjl := paired_len hft
        refine ⟨U, _, rfl, SqT.of upd_same, rfl, _, _, rfl, _, [], rfl, ⟨v, _, rfl, SqT.of e1, rfl, _, _, rfl, _, _, rfl, _, _, rfl, _, [], rfl, rfl, rfl, ?_⟩⟩
        generalize upd H6 U (.tup [.int (m : Int), .ref v]) = H7 at sU s67 e1 eW7 hft7 ⊢
        have sx7 := sx.trans s67
        have el7 := sq_same sx7 el
        have hta7 : Paired (RtA H7) ta rs := paired_imp hta fun a _ r h => sx7 _ _ h
        -- the paper
        refine ⟨.ref l, rfl, l, rfl, ⟨_, el7⟩, fun M nM => ?_⟩
        refine lc_it (walk_list (xs := ta.map V.ref)) (fun j H8 => Same H7 H8 ∧ ∃ qa : List Addr, H8 M = some (.lst (qa.map V.ref)) ∧ Paired (RtA H8) qa ((rs.take j).filter fun r => decide (r.num = h.row.num)) ∧ qa.length ≤ j) ⟨same_upd nM, [], upd_same, .nil, Nat.le_refl _⟩ (fun j H8 _ pv => sq_same pv.1 el7) (fun j v H8₀ H8 hj pv yy => ?_) (fun H8 pv => ?_)
        · obtain ⟨rfl, ex⟩ := yy
          obtain ⟨s8, qa, eM, hqa, ql⟩ := pv
          rw [List.length_map] at hj
          obtain ⟨t, et, rfl⟩ := ref_at ex
          obtain ⟨rr, err, ht⟩ := paired_get hta7 et
          have ht8 : H8 t = some (.tup rr.xs) := s8 _ _ ht
          have rok := (hrs rr (List.mem_of_getElem? err)).1
          have tk1 : rs.take (j + 1) = rs.take j ++ [rr] := by rw [List.take_add_one, err]; rfl
          refine ⟨rfl, .ref t, rfl, t, _, 1, _, rfl, rfl, SqT.of ht8, atI_nat (j := 1) rok.i1, .int h.row.num, rfl, rfl, _, rfl, ite2 (fun e => ?_) (fun e => ?_)⟩
          · have e : rr.num = h.row.num := V.int.inj (of_decide_eq_true e)
            have tk := tk_lst (o := .lst (qa.map V.ref ++ [.ref t])) eM
            refine ⟨.ref t, rfl, _, eM, by rw [List.length_map]; exact small5000 (by omega), same_set s8 nM, qa ++ [t], by rw [upd_same, List.map_append]; rfl, ?_, by rw [List.length_append, List.length_singleton]; omega⟩
            rw [tk1, List.filter_append, List.filter_cons_of_pos (by exact decide_eq_true e)]
            exact paired_snoc (paired_imp hqa fun a _ r h => tk _ _ h) (tk _ _ ht8)
          · have e : ¬ rr.num = h.row.num := fun z => e (decide_eq_true (by rw [z]))
            rw [tk1, List.filter_append, List.filter_cons_of_neg (by exact fun z => e (of_decide_eq_true z))]
            exact ⟨s8, qa, eM, by rw [List.filter_nil, List.append_nil]; exact hqa, by omega⟩
        obtain ⟨s8, qa, eM, hqa, ql⟩ := pv
        rw [List.length_map, tl, List.take_length] at hqa
        obtain ⟨t, qr, et, ht⟩ : ∃ t qr, qa = t :: qr ∧ RtA H8 t h.row := by
          have hf : h.row ∈ rs.filter (fun r => decide (r.num = h.row.num)) := List.mem_filter.mpr ⟨hin, decide_eq_true rfl⟩
          cases e : rs.filter (fun r => decide (r.num = h.row.num)) with
          | nil => rw [e] at hf; cases hf
          | cons r1 rr =>
            rw [e] at hqa
            have h1m : r1 ∈ rs.filter (fun r => decide (r.num = h.row.num)) := by rw [e]; exact List.mem_cons_self
            obtain ⟨m1, m2⟩ := List.mem_filter.mp h1m
            have := num_inj hnd m1 hin (of_decide_eq_true m2)
            subst this
            cases hqa with
            | cons a b => exact ⟨_, _, rfl, a⟩
        subst et
        have s68 := s67.trans s8
        have sx8 := sx.trans s68
        have eW8 := s8 _ _ eW7
        have hft8 : Paired (FtA gs H8) fts js := paired_imp hft7 fun a _ j e => e.tk fun b xs z => s8 _ _ z
        have hu8 : H8 u = some (.tup [nS c.1, nS c.2.1, nS c.2.2]) := s68 _ _ hu
        obtain ⟨rok, rse⟩ := hrs h.row hin
        have ht : H8 t = some (.tup h.row.xs) := ht
        refine ⟨M, _, 0, .ref t, rfl, rfl, SqL.of eM, atI_nat (j := 0) rfl, ?_⟩
        refine ⟨.ref t, rfl, t, _, 4, _, rfl, rfl, SqT.of ht, atI_nat (j := 4) rok.i4, .int d, rfl, _, _, rfl, rfl, _, rfl, ite2 (fun c1 => ?_) (fun c1 => ?_)⟩
        · have c1 : d ≤ h.row.day := of_decide_eq_true c1
          refine ⟨.ref t, rfl, t, _, 3, _, rfl, rfl, SqT.of ht, atI_nat (j := 3) rok.i3, nS h.near, rfl, nS h.row.over, rfl, three_sz, fun kt nk => ?_⟩
          have sk := same_upd (o := .tup [nS h.row.jn, nS h.near, nS h.row.over]) nk
          have ek : (upd H8 kt (.tup [nS h.row.jn, nS h.near, nS h.row.over])) kt = some (.tup [nS (hKey h).1, nS (hKey h).2.1, nS (hKey h).2.2]) := upd_same
          have hu9 := sk _ _ hu8
          have eW9 := sk _ _ eW8
          have ht9 := sk _ _ ht
          have s69 := s68.trans sk
          have hft9 : Paired (FtA gs (upd H8 kt (.tup [nS h.row.jn, nS h.near, nS h.row.over]))) fts js := paired_imp hft8 fun a _ j e => e.tk fun b xs z => sk _ _ z
          generalize upd H8 kt (.tup [nS h.row.jn, nS h.near, nS h.row.over]) = H9 at ek hu9 eW9 ht9 s69 hft9 ⊢
          refine ⟨.ref u, rfl, _, _, dp_cr ek, dp_cr hu9, shaped_cr hn, shaped_cr cin, _, rfl, ?_⟩
          rw [eqv_cr]
          refine ite2 (fun e => ?_) (fun e => ?_)
          · have e := of_decide_eq_true e
            refine ⟨.ref W, rfl, .inl ⟨rfl, _, SqL.of eW9⟩, .int (m : Int), rfl, .ref t, rfl, t, _, 9, _, rfl, rfl, SqT.of ht9, atI_nat (j := 9) rse, two_sz, fun v2 n2 => ?_⟩
            have s2 := same_upd (o := .tup [.int (m : Int), sV (some (slB h.row))]) n2
            have eW10 := s2 _ _ eW9
            refine ⟨W, _, _, rfl, rfl, eW10, by rw [List.length_map]; exact small5000 (by omega), ?_⟩
            have tk := tk_lst (o := .lst (fts.map V.ref ++ [.ref v2])) eW10
            exact ⟨_, _, _, _, _, _, fts ++ [v2], js ++ [m], rfl, same_set (s69.trans s2) nW, by rw [upd_same, List.map_append]; rfl, paired_snoc (paired_imp hft9 fun a _ j e => (e.tk fun b xs z => s2 _ _ z).tk tk) (FtA.tk (gs := gs) ⟨h, eh, upd_same⟩ tk), hjs.yes eh ⟨c1, e⟩⟩
          · have e : ¬ hKey h = c := fun z => e (decide_eq_true z)
            exact ⟨_, _, _, _, _, _, fts, js, rfl, s69, eW9, hft9, hjs.no eh fun z => e z.2⟩
        · have c1 : ¬ d ≤ h.row.day := fun z => c1 (decide_eq_true z)
          exact ⟨_, _, _, _, _, _, fts, js, rfl, s68, eW8, hft8, hjs.no eh fun z => c1 z.1⟩
      obtain ⟨y9, y10, y11, y12, y13, y14, fts, js, rfl, s6, eW, hft, hjs⟩ := pv
      rw [List.length_map, pgl] at hjs
      have jl := hjs.len
      have fjl := paired_len hft
      -- fit == []
      refine ⟨.ref W, rfl, Nat.zero_le _, fun e ne => ?_⟩
      have se := same_upd (o := .lst []) ne
      have s7 := s6.trans se
      have dF : Dp K (upd H6 e (.lst [])) (.ref W) (.list (js.map (ftE gs))) := .lst (SqL.of (se _ _ eW)) (dpAll_ft (paired_imp hft fun a _ j e => e.tk fun b xs z => se _ _ z))
      have dE : Dp K (upd H6 e (.lst [])) (.ref e) (.list []) := .lst (SqL.of upd_same) .nil
      refine ⟨_, _, dF, dE, shaped_ft js, rfl, _, rfl, ?_⟩
      have eC6 := s7 _ _ eCx
      have hc6 : Paired (CrA (upd H6 e (.lst []))) ca cs := paired_imp hcx fun a _ g e => s7 _ _ e
      have eF6 := s7 _ _ eFx
      have eP6 := s7 _ _ ePx
      have hp6 : Paired (HsA (upd H6 e (.lst []))) ps gs := paired_imp hpx fun a _ h e => s7 _ _ e
      have sx6 := sx.trans s7
      have eW6 := se _ _ eW
      have hft6 : Paired (FtA gs (upd H6 e (.lst []))) fts js := paired_imp hft fun a _ j e => e.tk fun b xs z => se _ _ z
      clear dF dE eW hft s6 se s7 hcx hpx eCx eFx ePx
      generalize upd H6 e (.lst []) = H6 at eC6 hc6 eF6 eP6 hp6 sx6 eW6 hft6 ⊢
      cases js with
      | nil =>
        have hno : nextM d c gs = none := next_no fun h hh z => by
          obtain ⟨j, ej⟩ := List.getElem?_of_mem hh
          exact hjs.none_ rfl j h (List.getElem?_eq_some_iff.mp ej).1 ej z
        rw [dr, seen_none hno] at hse
        refine iteT ⟨.ref F, rfl, .inl ⟨rfl, _, SqL.of eF6⟩, F, _, _, rfl, rfl, eF6, by rw [List.length_map]; exact small5000 (by omega), ?_⟩
        have tk := tk_lst (o := .lst (sl.map sV ++ [.non])) eF6
        exact ⟨pa, _, _, _, _, _, _, _, _, ps, gs, sl ++ [none], rfl, same_set sx6 nFH, by rw [upd_ne CF]; exact eC6, paired_imp hc6 fun a _ g e => tk _ _ e, by rw [upd_same, List.map_append]; rfl, by rw [upd_ne paF]; exact eP6, paired_imp hp6 fun a _ h e => tk _ _ e, paF, by rw [List.length_append, List.length_singleton]; omega, gl, gok, by rw [List.append_assoc]; exact hse⟩
      | cons j jr =>
        obtain ⟨jm, h, eh, hk, hbef⟩ := hjs.some_ j rfl
        have hyes : nextM d c gs = some (slB h.row, gs.drop (j + 1)) := next_at eh hk hbef
        rw [dr, seen_some hyes] at hse
        cases hft6 with
        | @cons f0 _ fr _ hf0 hfr =>
        obtain ⟨h', eh', hf0⟩ := hf0
        have := Option.some.inj (eh.symm.trans eh')
        subst this
        have iW : atI ((f0 :: fr).map V.ref) 0 = some (.ref f0) := atI_nat (j := 0) rfl
        refine iteF ⟨.ref F, rfl, .inl ⟨rfl, _, SqL.of eF6⟩, .ref W, rfl, W, _, 0, _, rfl, rfl, SqL.of eW6, iW, f0, _, 1, _, rfl, rfl, SqT.of hf0, atI_nat (j := 1) rfl, F, _, _, rfl, rfl, eF6, by rw [List.length_map]; exact small5000 (by omega), ?_⟩
        have tk := tk_lst (o := .lst (sl.map sV ++ [sV (some (slB h.row))])) eF6
        have sx7 := same_set (o := .lst (sl.map sV ++ [sV (some (slB h.row))])) sx6 nFH
        have eC7 : (upd H6 F (.lst (sl.map sV ++ [sV (some (slB h.row))]))) C = some (.lst (ca.map V.ref)) := by rw [upd_ne CF]; exact eC6
        have eP7 : (upd H6 F (.lst (sl.map sV ++ [sV (some (slB h.row))]))) pa = some (.lst (ps.map V.ref)) := by rw [upd_ne paF]; exact eP6
        have eW7 : (upd H6 F (.lst (sl.map sV ++ [sV (some (slB h.row))]))) W = some (.lst ((f0 :: fr).map V.ref)) := by rw [upd_ne WF]; exact eW6
        have eF7 : (upd H6 F (.lst (sl.map sV ++ [sV (some (slB h.row))]))) F = some (.lst ((sl ++ [some (slB h.row)]).map sV)) := by rw [upd_same, List.map_append]; rfl
        have hc7 : Paired (CrA (upd H6 F (.lst (sl.map sV ++ [sV (some (slB h.row))])))) ca cs := paired_imp hc6 fun a _ g e => tk _ _ e
        have hp7 : Paired (HsA (upd H6 F (.lst (sl.map sV ++ [sV (some (slB h.row))])))) ps gs := paired_imp hp6 fun a _ h e => tk _ _ e
        have hf7 := tk _ _ hf0
        generalize upd H6 F (.lst (sl.map sV ++ [sV (some (slB h.row))])) = H7 at sx7 eC7 eP7 eW7 eF7 hc7 hp7 hf7 ⊢
        refine ⟨.ref pa, rfl, .ref W, rfl, W, _, 0, _, rfl, rfl, SqL.of eW7, iW, f0, _, 0, _, rfl, rfl, SqT.of hf7, atI_nat (j := 0) rfl, _, _, rfl, rfl, _, rfl, pa, _, rfl, SqL.of eP7, fun N nN => ?_⟩
        rw [show cutV (ps.map V.ref) (some (((j : Nat) : Int) + 1)) none = (ps.drop (j + 1)).map V.ref from (by rw [show ((j : Nat) : Int) + 1 = ((j + 1 : Nat) : Int) by omega, cut_fromV, List.map_drop])]
        have sN := same_upd (o := .lst ((ps.drop (j + 1)).map V.ref)) nN
        exact ⟨N, _, _, _, _, _, _, _, _, ps.drop (j + 1), gs.drop (j + 1), sl ++ [some (slB h.row)], rfl, sx7.trans sN, sN _ _ eC7, paired_imp hc7 fun a _ g e => sN _ _ e, sN _ _ eF7, upd_same, paired_imp (paired_drop _ hp7) fun a _ h e => sN _ _ e, (fun z => by rw [z, eF7] at nN; cases nN), by rw [List.length_append, List.length_singleton]; omega, by rw [List.length_drop]; omega, fun x hx => gok x (List.mem_of_mem_drop hx), by rw [List.append_assoc]; exact hse⟩
    · obtain ⟨pa, y7, y8, y9, y10, y11, y12, y13, y14, ps, gs, sl, rfl, sx, eCx, hcx, eFx, ePx, hpx, paF, sll, gl, gok, hse⟩ := hp'
      rw [List.length_map, cl, List.drop_length] at hse
      have hse : sl ++ [] = _ := hse
      rw [List.append_nil] at hse
      rw [hse] at eFx
      exact ⟨.ref F, rfl, q _ F sx nFH eFx⟩
end
end Th
namespace Th
open PySem PySem.Spec PyProof.Rows L2
/-! the law -/
theorem st_dict {K : PySem.W.Frag} {H : Hp} {sa : List Addr} {sts : List (Nm × Nm)} (h : Paired (StAt H) sa sts) : ∃ kvs : List (Key × V), Paired (fun p kv => SqT K H p [kV kv.1, kv.2]) sa kvs ∧ kvs.map (·.1) = (sts.map (·.1)).map (fun z => Sum.inr (SX.S z)) ∧ ∀ s ∈ sts, (Sum.inr (SX.S s.1), nS s.2) ∈ kvs := by
  induction h with
  | nil => exact ⟨[], .nil, rfl, fun j hj => (by cases hj)⟩
  | @cons x j sa sts hx _ ih =>
    obtain ⟨kvs, h1, h2, h3⟩ := ih
    refine ⟨(Sum.inr (SX.S j.1), nS j.2) :: kvs, .cons (SqT.of hx) h1, by rw [List.map_cons, List.map_cons, List.map_cons, h2], fun i hi => ?_⟩
    rcases List.mem_cons.mp hi with h | h
    · rw [h]
      exact List.mem_cons_self
    · exact List.mem_cons_of_mem _ (h3 i h)
theorem st_val {sts : List (Nm × Nm)} {kvs : List (Key × V)} (h : kvs.map (·.1) = (sts.map (·.1)).map (fun z => Sum.inr (SX.S z))) (nd : (sts.map (·.1)).Nodup) {z : Nm} {v : V} (m : (Sum.inr (SX.S z), v) ∈ kvs) : valV (mergeK [] kvs) (Sum.inr (SX.S z)) = some v := by
  refine val_merge_nd ?_ m
  rw [h, List.nodup_iff_pairwise_ne, List.pairwise_map]
  exact (List.nodup_iff_pairwise_ne.mp nd).imp fun n e => n (SX.S_inj (Sum.inr.inj e))
def bothD (ss : List Stp) (rs : List Rt) : PyData := .list [.list (ss.map stpD), .list (rs.map paperD)]
theorem lay_both {ss : List Stp} {rs : List Rt} (h1 : ∀ s ∈ ss, StOk s) (h2 : ∀ r ∈ rs, RtFull r) : (bothD ss rs).canLay0 = true := by
  show (PyData.canLayAll0 (ss.map stpD) && (PyData.canLayAll0 (rs.map paperD) && true)) = true
  rw [layAll_stp h1, layAll_paper h2]
  rfl
theorem shaped_both {ss : List Stp} {rs : List Rt} (h1 : ∀ s ∈ ss, StOk s) (h2 : ∀ r ∈ rs, RtFull r) : SeqAt.shaped (bothD ss rs) = true := Bool.and_eq_true_iff.mpr ⟨lay_both h1 h2, decide_eq_true (by
  show max (PyData.depthAll (ss.map stpD) + 1) (max (PyData.depthAll (rs.map paperD) + 1) 0) + 1 ≤ 64
  have a := depthAll_stp ss
  have b := depthAll_paper h2
  omega)⟩
theorem hd_nm {jns : List (Nm × List Nm)} {hs : List Hd} {rs : List Rt} (h1 : ∀ h ∈ hs, h.row ∈ rs) (h2 : ∀ r ∈ rs, RtFull r) (h3 : ∀ h ∈ hs, IsNm h.near) : ∀ h ∈ hs, HdNm h := fun h hh => ⟨(h2 _ (h1 h hh)).jn, h3 h hh, (h2 _ (h1 h hh)).ov⟩
section
variable {P : Program} {w : World} {K : PySem.W.Frag} {mg : Str → Option Value} {base : Heap} {k : Nat}
def sp_law (T : Defs K mg) : Sp := fun vs H Q _ => ∃ (a : Addr) (ns : List Int), vs = [.ref a] ∧ SqL K H a (ns.map V.int) ∧ ns.length ≤ 63 ∧ TabI T H ∧ ∀ H', Q (.bl true) H'
set_option maxHeartbeats 64000000 in
theorem ok_law {f : Addr} {fd : FuncData} (F : FnP K "law" s_law f fd) (T : Defs K mg) (TB : LamX.TabB base mg T.cc_in_order T.tp_in_order) : FnOk P w K mg base CX0 7 f fd ["_law_script"] (sp_law T) := by
  have G_l_bag : FnOk P w K mg base CX0 6 _ _ _ _ := ok_l_bag T
  have G_l_take : FnOk P w K mg base CX0 6 _ _ _ _ := ok_l_take (k := 5) T
  have G_l_net : FnOk P w K mg base CX0 6 _ _ _ _ := ok_l_net (k := 2) T
  have G_l_walk : FnOk P w K mg base CX0 6 _ _ _ _ := ok_l_walk (k := 4) T
  have G_l_trip : FnOk P w K mg base CX0 6 _ _ _ _ := ok_l_trip (k := 3) T
  have G_history : FnOk P w K mg base CX0 6 _ _ _ _ := ok_history T TB
  have G_l_seen : FnOk P w K mg base CX0 6 _ _ _ _ := ok_l_seen (k := 3) T
  have G_seals : FnOk P w K mg base CX0 6 _ _ _ _ := ok_seals (k := 2) T
  have G_l_like : FnOk P w K mg base CX0 6 _ _ _ _ := (ok_l_like T 3).mono (by decide)
  refine F.ok sc_law (fun vs H Q E h => ?_) (fun cdv A outer s H vs Q E hr h => ?_)
  · obtain ⟨a, ns, rfl, _⟩ := h
    rfl
  · obtain ⟨a, ns, rfl, hS, hlen, hT, q⟩ := h
    refine ⟨_, PSs.nox
(pss_cons (ps_for PassesOwn.never rfl (pi_range1 (by rfl) T.z_range (pa_cons (pe_callB (call_max2 rfl) (by rfl) T.z_max (by decide +kernel) (pa_cons (pe_int) (pa_cons (pe_callB (call_min2 rfl) (by rfl) T.z_min (by decide +kernel) (pa_cons (pe_int) (pa_cons (pe_callB (r := rLenS K) call_lenS (by rfl) T.z_len (by decide +kernel) (pa_cons (pv 0) pa_nil)) pa_nil))) pa_nil))) pa_nil)) (pg_name (i := 1) sc_law.nd rfl (.inl rfl))
      (pss_cons (ps_set (i := 2) sc_law.nd rfl (.inl rfl) (pe_call G_l_bag hr (by rfl) T.g_l_bag T.F_l_bag.kp T.b_l_bag .nil pass0 (pa_cons (pv 0) (pa_cons (pv 1) pa_nil))))
      (pss_cons (ps_asg (pe_call G_l_net hr (by rfl) T.g_l_net T.F_l_net.kp T.b_l_net .nil pass0 (pa_cons (pv 2) pa_nil)) (pg_tup rfl (pgs_cons (pg_name (i := 3) sc_law.nd rfl (.inl rfl)) (pgs_cons (pg_name (i := 4) sc_law.nd rfl (.inl rfl)) pgs_nil))))
      (pss_cons (ps_set (i := 4) sc_law.nd rfl (.inl rfl) (pe_call G_l_walk hr (by rfl) T.g_l_walk T.F_l_walk.kp T.b_l_walk .nil pass0 (pa_cons (pv 2) (pa_cons (pv 3) (pa_cons (pv 4) pa_nil)))))
      (pss_cons (ps_set (i := 5) sc_law.nd rfl (.inl rfl) (pe_op op_add (pe_int) (pe_call G_l_take hr (by rfl) T.g_l_take T.F_l_take.kp T.b_l_take .nil pass0 (pa_cons (pv 2) (pa_cons (pe_int) pa_nil)))))
      (pss_cons (ps_set (i := 6) sc_law.nd rfl (.inl rfl) (pe_call G_l_trip hr (by rfl) T.g_l_trip T.F_l_trip.kp T.b_l_trip .nil pass0 (pa_cons (pv 2) (pa_cons (pv 3) (pa_cons (pv 4) (pa_cons (pe_int) (pa_cons (pv 5) pa_nil)))))))
      (Evl.pss_cut (ps_if (pt_cmpR op_eq (pe_call G_l_take hr (by rfl) T.g_l_take T.F_l_take.kp T.b_l_take .nil pass0 (pa_cons (pv 2) (pa_cons (pe_int) pa_nil))) (pe_int) (nomark _))
        (pss_one (ps_set (i := 5) sc_law.nd rfl (.inl rfl) (pe_op op_add (pe_int) (pe_call G_l_take hr (by rfl) T.g_l_take T.F_l_take.kp T.b_l_take .nil pass0 (pa_cons (pv 2) (pa_cons (pe_int) pa_nil))))))
        pss_nil)
      (pss_cons (ps_set (i := 7) sc_law.nd rfl (.inl rfl) (pe_dget (hu_of hr) (pe_callTy (r := rDictF K) (call_dictF rfl) (by rfl) T.z_dict (by decide +kernel) (pa_cons (pe_ix (r := rIxT K) ix_tup (pv 3) (pe_int) (fun _ _ => rfl)) pa_nil)) (pe_ix (r := rIxT K) ix_tup (pv 4) (pe_int) (fun _ _ => rfl)) (fun _ _ => rfl)))
      (pss_cons (ps_set (i := 8) sc_law.nd rfl (.inl rfl) (pe_ix (r := rIxT K) ix_tup (pe_call G_history hr (by rfl) T.g_history T.F_history.kp T.b_history .nil pass0 (pa_cons (pv 3) (pa_cons (pv 7) (pa_cons (pe_callTy call_list_of (by rfl) T.z_list (by decide +kernel) (pa_cons (pv 6) pa_nil)) pa_nil)))) (pe_int) (fun _ _ => rfl)))
      (pss_cons (ps_set (i := 9) sc_law.nd rfl (.inl rfl) (pe_lst (pa_cons (pe_callTy call_list_of (by rfl) T.z_list (by decide +kernel) (pa_cons (pv 8) pa_nil)) (pa_cons (pe_callTy call_list_of (by rfl) T.z_list (by decide +kernel) (pa_cons (pv 6) pa_nil)) pa_nil))))
      (pss_cons (ps_set (i := 10) sc_law.nd rfl (.inl rfl) (pe_call G_l_seen hr (by rfl) T.g_l_seen T.F_l_seen.kp T.b_l_seen .nil pass0 (pa_cons (pv 3) (pa_cons (pv 4) (pa_cons (pv 5) (pa_cons (pv 8) (pa_cons (pv 6) pa_nil)))))))
      (pss_cons (ps_for PassesOwn.never rfl (pi_range1 (by rfl) T.z_range (pa_cons (pe_int) pa_nil)) (pg_name (i := 11) sc_law.nd rfl (.inl rfl))
        (pss_cons (ps_set (i := 12) sc_law.nd rfl (.inl rfl) (pe_call G_seals hr (by rfl) T.g_seals T.F_seals.kp T.b_seals .nil pass0 (pa_cons (pv 3) (pa_cons (pv 4) (pa_cons (pv 5) (pa_cons (pe_ix (r := rIxL K) ix_list (pv 9) (pe_int) (fun _ _ => rfl)) (pa_cons (pe_ix (r := rIxL K) ix_list (pv 9) (pe_int) (fun _ _ => rfl)) pa_nil)))))))
        (pss_cons (ps_if (PW.pt (pw_or (pt_not (pt_val (pe_callB (r := rIsi K) call_isi (by rfl) T.z_isinstance (by decide +kernel) (pa_cons (pv 12) (pa_cons (pe_bltn (v := .ty "list") (by rfl) T.z_list (by decide +kernel) rfl) pa_nil))))) (pw_or (pt_not (pt_val (pe_call G_l_like hr (by rfl) T.g_l_like T.F_l_like.kp T.b_l_like .nil pass0 (pa_cons (pv 12) (pa_cons (pv 10) pa_nil))))) (pw_or1 (pt_cmpR (r := rNeD K) (op_neD hr.units) (pv 9) (pe_lst (pa_cons (pv 8) (pa_cons (pv 6) pa_nil))) (nomark _))))))
          (pss_one (ps_ret (pe_bl)))
          pss_nil)
        (pss_one (ps_expr (pe_bm PySem.F.plainAttrs_list PySem.F.slot_list_append PySem.F.type_list_append mt_append (pv 12) (pa_cons (pe_str) pa_nil)))))))
      (pss_one (ps_if (pt_cmpR (r := rNeD K) (op_neD hr.units) (pe_call G_seals hr (by rfl) T.g_seals T.F_seals.kp T.b_seals .nil pass0 (pa_cons (pv 3) (pa_cons (pv 4) (pa_cons (pe_int) (pa_cons (pe_callTy call_list_of (by rfl) T.z_list (by decide +kernel) (pa_cons (pv 8) pa_nil)) (pa_cons (pe_revL (pv 6)) pa_nil)))))) (pe_call G_l_seen hr (by rfl) T.g_l_seen T.F_l_seen.kp T.b_l_seen .nil pass0 (pa_cons (pv 3) (pa_cons (pv 4) (pa_cons (pe_int) (pa_cons (pv 8) (pa_cons (pv 6) pa_nil)))))) (nomark _))
        (pss_one (ps_ret (pe_bl)))
        pss_nil))))))))))))))
    (pss_one (ps_ret (pe_bl))))
      , ?_⟩
    have lenV : (ns.map V.int).length = ns.length := List.length_map _
    refine ⟨.ref a, rfl, a, _, rfl, .inl hS, 5, _, rfl, 2, _, rfl, _, rfl, ?_, ?_, ?_⟩
    · rw [lenV]
      split <;> split <;> omega
    · rw [lenV]
      split <;> split <;> omega
    obtain ⟨n, en, hn⟩ : ∃ n : Nat, (if (if ((ns.map V.int).length : Int) < 5 then ((ns.map V.int).length : Int) else 5) > 2 then (if ((ns.map V.int).length : Int) < 5 then ((ns.map V.int).length : Int) else 5) else 2) = (n : Int) ∧ n ≤ 5 := by
      rw [lenV]
      refine ⟨(if (if (ns.length : Int) < 5 then (ns.length : Int) else 5) > 2 then (if (ns.length : Int) < 5 then (ns.length : Int) else 5) else 2).toNat, ?_, ?_⟩
      · split <;> split <;> omega
      · split <;> split <;> omega
    rw [en, Int.toNat_natCast]
    refine for_range (lo := 0) (n := n) (fun i σ H3 => ∃ ys : List (Option V), ys.length = 12 ∧ σ = some (.ref a) :: ys ∧ LamX.ExtN H H3 ∧ TabI T H3)
      ⟨_, rfl, rfl, .refl H, hT⟩ (fun i σ H3 hi hp => ?_) (fun σ H3 hp => q _)
    obtain ⟨ys, hys, rfl, e03, hT3⟩ := hp
    match ys, hys with
    | [y1, y2, y3, y4, y5, y6, y7, y8, y9, y10, y11, y12], _ =>
    have hS3 : SqL K H3 a (ns.map V.int) := ExtN.seq e03 hS
    refine ⟨.ref a, rfl, .int (0 + (i : Int)), rfl, a, ns, i, by rw [Int.zero_add]; rfl, hS3, by omega, fun H4 p s4 np b4 => ?_⟩
    have npH : NewN H p := .back e03 np
    refine ⟨.ref p, rfl, p, rfl, b4, fun H5 r nt wy ls zs qs J tis sts jns rws k5 b5 er hnet ewy hok pS pJ pR => ?_⟩
    obtain ⟨ts0, hw0⟩ := net_way hok pR
    obtain ⟨t1, t100, tnm⟩ := net_st hok pS
    have hse0 := net_ste hok pS
    have hsnd := net_snd hok pS
    have hjnd := net_jnd hok pJ
    have hlj := netok_lj hok pJ
    have hpl := net_pl hok pS pJ pR
    obtain ⟨hjn, j28⟩ := net_jnin hok pJ
    have hstin := net_stin hok pS
    have hlnm := hok.lnm
    have l8 := hok.l8
    refine ⟨r, _, rfl, SqT.of er, rfl, _, _, rfl, _, [], rfl, rfl, ?_⟩
    refine ⟨.ref p, rfl, .ref nt, rfl, .ref wy, rfl, p, nt, wy, ls, sts, jns, rws, _, ts0, rfl, b5, hnet, ewy, hw0, hse0, t1, t100, tnm, fun H6 w1 ws ts k6 b6 ew hw hse => ?_⟩
    have t6 : TKF H5 H6 := .keep k6 b5
    have e06 := ext_keep2 (ext_same e03 s4) npH (k5.trans k6)
    have hT6 := tab_keep (hT3.ext s4) (k5.trans k6) b4
    have hnet6 := hnet.tk t6
    -- the day
    refine ⟨.ref p, rfl, p, 400, rfl, b6, by decide, by decide, fun H7 d k7 b7 d0 d1 => ⟨1, _, rfl, rfl, ?_⟩⟩
    have t7 : TKF H6 H7 := .keep k7 b6
    have hnet7 := hnet6.tk t7
    have ew7 := t7.t _ _ ew
    have hjn' : ∀ j ∈ jns, IsNm j.1 ∧ 1 ≤ j.2.length ∧ j.2.length ≤ 8 ∧ ∀ z ∈ j.2, IsNm z := fun j h => ⟨(hjn j h).1, (hjn j h).2.1, (hjn j h).2.2.1, fun z hz => hlnm z ((hjn j h).2.2.2 z hz)⟩
    refine ⟨.ref p, rfl, .ref nt, rfl, .ref w1, rfl, .int (1 + d), rfl, p, nt, w1, ls, sts, jns, rws, ws, ts, 77, 1 + d, rfl, b7, hnet7, ew7, hw, hpl, hjn', j28, by omega, by omega, fun H8 R ta rs k8 b8 nR eR hta hrs hnd rl => ?_⟩
    have t8 : TKF H7 H8 := .keep k8 b7
    have tal := paired_len hta
    have Rp : R ≠ p := b7.ne nR
    -- another day
    refine ⟨fun σ H9 => ∃ dd : Int, σ = [some (.ref a), some (.int (0 + (i : Int))), some (.ref p), some (.ref nt), some (.ref w1), some (.int dd), some (.ref R), y7, y8, y9, y10, y11, y12] ∧ Keep p H8 H9 ∧ Bag H9 p, ?_, fun σ H9 mid => ?_⟩
    · refine ⟨.ref p, rfl, p, 3, rfl, b8, by decide, by decide, fun H9 x k9 b9 x0 x1 => ⟨rfl, _, rfl, ite2 (fun c => ?_) (fun c => ?_)⟩⟩
      · refine ⟨.ref p, rfl, p, 420, rfl, b9, by decide, by decide, fun H10 x2 k10 b10 x20 x21 => ⟨1, _, rfl, rfl, ?_⟩⟩
        exact ⟨_, rfl, k9.trans k10, b10⟩
      · exact ⟨_, rfl, k9, b9⟩
    obtain ⟨dd, rfl, k9, b9⟩ := mid
    have k69 := k7.trans (k8.trans k9)
    have e09 := ext_keep2 e06 npH k69
    have hT9 := tab_keep hT6 k69 b6
    have t69 : TKF H6 H9 := .keep k69 b6
    have hnet9 := hnet6.tk t69
    have ew9 := t69.t _ _ ew
    have eR9 := k9 _ _ Rp eR
    have hta9 : Paired (RtA H9) ta rs := paired_imp hta fun a _ r h => h.keep k9 b8
    -- the line
    obtain ⟨⟨z, hz, hzin⟩, _⟩ := hse
    obtain ⟨st, stin, est⟩ := List.mem_map.mp hzin
    subst est
    obtain ⟨na, nb, nc, nd, sa, ja, tta, er9, _, eb, hsa, _, _, _, _⟩ := id hnet9
    obtain ⟨kvs, hkv, hks, hmem⟩ := st_dict (K := K) hsa
    refine ⟨.ref nt, rfl, nt, _, 1, .ref nb, rfl, rfl, SqT.of er9, atI_nat (j := 1) rfl, nb, sa, kvs, rfl, eb, hkv, fun dc ndc => ?_⟩
    have sd := same_upd (o := .dK (mergeK [] kvs)) ndc
    refine ⟨.ref w1, rfl, w1, _, 0, nS st.1, rfl, rfl, SqT.of (sd _ _ ew9), atI_nat (j := 0) (at_ws hz), dc, nS st.2, rfl, by rw [← st_val hks hsnd (hmem st stin)]; exact DGet.k (k := Sum.inr (SX.S st.1)) upd_same, ?_⟩
    have xin := hstin st stin
    generalize st.2 = x at xin ⊢
    have e010 := ext_same e09 sd
    have hT10 := hT9.ext sd
    have hnet10 := hnet9.tk (.of sd)
    have ew10 := sd _ _ ew9
    have eR10 := sd _ _ eR9
    have hta10 : Paired (RtA (upd H9 dc (.dK (mergeK [] kvs)))) ta rs := paired_imp hta9 fun a _ r h => sd _ _ h
    clear hnet9 ew9 eR9 hta9 er9 eb hsa hkv
    generalize upd H9 dc (.dK (mergeK [] kvs)) = H10 at e010 hT10 hnet10 ew10 eR10 hta10 ⊢
    -- the history
    have hfull : ∀ r ∈ rs, RtFull r := fun r h => (hrs r h).1
    refine ⟨.ref nt, rfl, nS x, rfl, .ref R, rfl, R, _, rfl, .inl (SqL.of eR10), fun hd' nhd => ?_⟩
    have s11 := same_upd (o := .lst (ta.map V.ref)) nhd
    refine ⟨nt, hd', x, ta, rs, ls, jns, rfl, SqL.of upd_same, paired_imp hta10 fun a _ r h => s11 _ _ h, fun r h => ⟨(hfull r h).ok, (hrs r h).2.1⟩, by omega, (hnet10.tk (.of s11)).lj, hlj, hjnd, xin, hT10.ext s11, fun H12 u D M e12 hT12 nD nM DM eu hD eM => ?_⟩
    have e112 : LamX.ExtN H10 H12 := (LamX.ExtN.of s11).trans e12
    have e012 := e010.trans e112
    have tk12 : TKF H10 H12 := ⟨fun b xs z => ExtN.tup e112 z, fun b o xs z => e112 _ _ z fun _ z => nomatch z⟩
    have eR12 := ExtN.lst e112 eR10
    have hta12 : Paired (RtA H12) ta rs := paired_imp hta10 fun a _ r h => tk12.t _ _ h
    have hnet12 := hnet10.tk tk12
    have ew12 := tk12.t _ _ ew10
    obtain ⟨fa, eD, hfa⟩ := hD
    have fl := paired_len hfa
    have stl := stepsM_len (jns := jns) (sortR rs) x
    have spm := sortR_perm rs
    have spl := spm.length_eq
    have ho := heldOf_hM (jns := jns) (all := rs) (sortR rs) x fun r h => spm.mem_iff.mp h
    have hok' := stepsM_ok hlj hjnd hlnm (sortR rs) x (fun r h => (hrs r (spm.mem_iff.mp h)).2.1) xin
    have hnear := ho.nms hok' fun z hz => (by cases hz)
    have hnm := hd_nm (jns := jns) (fun h hh => ho.rows h hh) hfull fun h hh => (hnear h hh).1
    generalize Th.hM jns (sortR rs) x = hs at ho hnear hnm
    generalize stepsM jns (sortR rs) x = ss at hfa fl stl ho hok'
    have hrok : ∀ r ∈ rs, RtOk r ∧ RtSeal r := fun r h => ⟨(hfull r h).ok, (hrs r h).2.2.1⟩
    clear hta10 eR10 ew10 hnet10 e112 tk12 s11 e12
    refine ⟨u, _, 0, .ref D, rfl, rfl, SqT.of eu, atI_nat (j := 0) rfl, ?_⟩
    -- handed
    refine ⟨.ref D, rfl, D, _, rfl, .inl (SqL.of eD), fun c1 n1 => ?_⟩
    have q1 := same_upd (o := .lst (fa.map V.ref)) n1
    refine ⟨.ref R, rfl, R, _, rfl, .inl (SqL.of (q1 _ _ eR12)), fun c2 n2 => ?_⟩
    have q2 := same_upd (o := .lst (ta.map V.ref)) n2
    refine ⟨two_sz, fun Hn n3 => ?_⟩
    have q3 := same_upd (o := .lst [.ref c1, .ref c2]) n3
    have q13 := q1.trans (q2.trans q3)
    have ec1 := q3 _ _ (q2 _ _ (show (upd H12 c1 (.lst (fa.map V.ref))) c1 = some (.lst (fa.map V.ref)) from upd_same))
    have ec2 := q3 _ _ (show (upd (upd H12 c1 (.lst (fa.map V.ref))) c2 (.lst (ta.map V.ref))) c2 = some (.lst (ta.map V.ref)) from upd_same)
    have eHn : (upd (upd (upd H12 c1 (.lst (fa.map V.ref))) c2 (.lst (ta.map V.ref))) Hn (.lst [.ref c1, .ref c2])) Hn = some (.lst [.ref c1, .ref c2]) := upd_same
    generalize upd (upd (upd H12 c1 (.lst (fa.map V.ref))) c2 (.lst (ta.map V.ref))) Hn (.lst [.ref c1, .ref c2]) = H13 at q13 ec1 ec2 eHn ⊢
    have e013 := ext_same e012 q13
    have hT13 := hT12.ext q13
    have hnet13 := hnet12.tk (.of q13)
    have ew13 := q13 _ _ ew12
    have eD13 := q13 _ _ eD
    have eR13 := q13 _ _ eR12
    have hta13 : Paired (RtA H13) ta rs := paired_imp hta12 fun a _ r h => q13 _ _ h
    have hfa13 : Paired (StpA H13) fa ss := paired_imp hfa fun a _ s h => h.tk fun b xs z => q13 _ _ z
    clear hta12 hfa ew12 hnet12 eR12 eD q13 q1 q2 q3 e012 hT12
    -- due
    refine ⟨.ref nt, rfl, .ref w1, rfl, .int dd, rfl, .ref D, rfl, .ref R, rfl, nt, w1, D, R, ls, sts, jns, rws, ws, ts, fa, ta, ss, rs, hs, dd, rfl, hnet13, ew13, hw, SqL.of eD13, hfa13, SqL.of eR13, hta13, hrok, hnd, by omega, by omega, ho, hnm, fun H14 U s14 nU eU => ?_⟩
    have sml : (seenM dd (crossTo ws ts (ts.length - 1)) hs).length ≤ 28 := by
      have a := seen_len dd (crossTo ws ts (ts.length - 1)) hs
      have b := crossTo_len ws ts (ts.length - 1)
      have c := hw.al.len
      have d := hw.l28
      omega
    refine ⟨2, rfl, by decide, by decide, ?_⟩
    refine for_range (lo := 0) (n := 2) (fun tn σ H15 => ∃ (y11 y12 : Option V), σ = [some (.ref a), some (.int (0 + (i : Int))), some (.ref p), some (.ref nt), some (.ref w1), some (.int dd), some (.ref R), some (nS x), some (.ref D), some (.ref Hn), some (.ref U), y11, y12] ∧ Same H14 H15)
      ⟨_, _, rfl, fun _ _ h => h⟩ (fun tn σ H15 htn hp => ?_) (fun σ H15 hp => ?_)
    · obtain ⟨y11, y12, rfl, s15⟩ := hp
      have s135 := s14.trans s15
      have eHn15 := s135 _ _ eHn
      refine ⟨.ref nt, rfl, .ref w1, rfl, .int dd, rfl, .ref Hn, rfl, Hn, _, 0, .ref c1, rfl, rfl, SqL.of eHn15, atI_nat (j := 0) rfl, .ref Hn, rfl, Hn, _, 1, .ref c2, rfl, rfl, SqL.of eHn15, atI_nat (j := 1) rfl, nt, w1, c1, c2, ls, sts, jns, rws, ws, ts, fa, ta, ss, rs, hs, dd, rfl, hnet13.tk (.of s135), s135 _ _ ew13, hw, SqL.of (s135 _ _ ec1), paired_imp hfa13 fun a _ s h => h.tk fun b xs z => s135 _ _ z, SqL.of (s135 _ _ ec2), paired_imp hta13 fun a _ r h => s135 _ _ h, hrok, hnd, by omega, by omega, ho, hnm, fun H16 X s16 nX eX => ?_⟩
      refine ⟨.ref X, rfl, .ref X, .ty "list", _, _, _, rfl, .ty _, .base (.lst eX), kit_ty (a := "list") (b := "list") (r := true) (by decide +kernel), true, rfl, iteF ?_⟩
      have eU16 := (s15.trans s16) _ _ eU
      refine ⟨.ref X, rfl, .ref U, rfl, .ref X, .ref U, slD _, rfl, dt_sl eX (by omega), dt_sl eU16 (by omega), lay_sl _, by show PyData.depthAll _ + 1 < 3; rw [depthAll_sl]; decide, by decide, fun H17 s17 => ⟨true, rfl, iteF ?_⟩⟩
      have s137 := s135.trans (s16.trans s17)
      refine ⟨.ref Hn, rfl, .ref D, rfl, .ref R, rfl, two_sz, fun L nL => ?_⟩
      have sL := same_upd (o := .lst [.ref D, .ref R]) nL
      have s138 := s137.trans sL
      have dps : ∀ {A : Addr}, H13 A = some (.lst (fa.map V.ref)) → Dp K (upd H17 L (.lst [.ref D, .ref R])) (.ref A) (.list (ss.map stpD)) := fun e => .lst (SqL.of (s138 _ _ e)) (dpAll_stp (paired_imp hfa13 fun a _ s h => h.tk fun b xs z => s138 _ _ z))
      have dpr : ∀ {A : Addr}, H13 A = some (.lst (ta.map V.ref)) → Dp K (upd H17 L (.lst [.ref D, .ref R])) (.ref A) (.list (rs.map paperD)) := fun e => .lst (SqL.of (s138 _ _ e)) (dpAll_paper (paired_imp hta13 fun a _ r h => s138 _ _ h) hfull)
      refine ⟨bothD ss rs, bothD ss rs, .lst (SqL.of (s138 _ _ eHn)) (.cons (dps ec1) (.cons (dpr ec2) .nil)), .lst (SqL.of upd_same) (.cons (dps eD13) (.cons (dpr eR13) .nil)), shaped_both hok' hfull, shaped_both hok' hfull, false, by rw [SeqAt.eqv_refl _ (lay_both hok' hfull)]; rfl, iteF ?_⟩
      have s148 := s15.trans (s16.trans (s17.trans sL))
      have eX18 := sL _ _ (s17 _ _ eX)
      refine ⟨.ref X, rfl, .inl ⟨rfl, _, SqL.of eX18⟩, X, _, _, rfl, rfl, eX18, by rw [List.length_map]; exact small5000 (by omega), ?_⟩
      exact ⟨_, _, rfl, same_set s148 (up0 s15 nX)⟩
    obtain ⟨y11, y12, rfl, s15⟩ := hp
    have s135 := s14.trans s15
    -- from the first day on, handed the other way about
    refine ⟨.ref nt, rfl, .ref w1, rfl, .ref D, rfl, D, _, rfl, .inl (SqL.of (s135 _ _ eD13)), fun c3 n3 => ?_⟩
    have q3 := same_upd (o := .lst (fa.map V.ref)) n3
    refine ⟨.ref R, rfl, R, _, rfl, SqL.of (q3 _ _ (s135 _ _ eR13)), fun c4 n4 => ?_⟩
    have q4 := same_upd (o := .lst (ta.map V.ref).reverse) n4
    have ec3 := q4 _ _ (show (upd H15 c3 (.lst (fa.map V.ref))) c3 = some (.lst (fa.map V.ref)) from upd_same)
    have ec4 : (upd (upd H15 c3 (.lst (fa.map V.ref))) c4 (.lst (ta.map V.ref).reverse)) c4 = some (.lst (ta.reverse.map V.ref)) := by rw [upd_same, List.map_reverse]
    have s136 := s135.trans (q3.trans q4)
    generalize upd (upd H15 c3 (.lst (fa.map V.ref))) c4 (.lst (ta.map V.ref).reverse) = H16 at ec3 ec4 s136 ⊢
    have ho' : HeldOf rs.reverse [] ss hs := ho.mono fun r h => List.mem_reverse.mpr h
    refine ⟨nt, w1, c3, c4, ls, sts, jns, rws, ws, ts, fa, ta.reverse, ss, rs.reverse, hs, 1, rfl, hnet13.tk (.of s136), s136 _ _ ew13, hw, SqL.of ec3, paired_imp hfa13 fun a _ s h => h.tk fun b xs z => s136 _ _ z, SqL.of ec4, paired_rev (paired_imp hta13 fun a _ r h => s136 _ _ h), fun r h => hrok r (List.mem_reverse.mp h), ((List.reverse_perm rs).map (·.num)).nodup_iff.mpr hnd, by rw [List.length_reverse]; omega, by omega, ho', hnm, fun H17 X s17 nX eX => ?_⟩
    have s137 := s136.trans s17
    refine ⟨.ref nt, rfl, .ref w1, rfl, .ref D, rfl, .ref R, rfl, nt, w1, D, R, ls, sts, jns, rws, ws, ts, fa, ta, ss, rs, hs, 1, rfl, hnet13.tk (.of s137), s137 _ _ ew13, hw, SqL.of (s137 _ _ eD13), paired_imp hfa13 fun a _ s h => h.tk fun b xs z => s137 _ _ z, SqL.of (s137 _ _ eR13), paired_imp hta13 fun a _ r h => s137 _ _ h, hrok, hnd, by omega, by omega, ho, hnm, fun H18 Y s18 nY eY => ?_⟩
    have sml : (seenM 1 (crossTo ws ts (ts.length - 1)) hs).length ≤ 28 := by
      have a := seen_len 1 (crossTo ws ts (ts.length - 1)) hs
      have b := crossTo_len ws ts (ts.length - 1)
      have c := hw.al.len
      have d := hw.l28
      omega
    refine ⟨slD _, slD _, (dt_sl (s18 _ _ eX) (by omega)).dp, (dt_sl eY (by omega)).dp, shaped_sl _, shaped_sl _, false, by rw [SeqAt.eqv_refl _ (lay_sl _)]; rfl, iteF ?_⟩
    have s138 := s137.trans s18
    exact ⟨[some (.int (0 + (i : Int))), some (.ref p), some (.ref nt), some (.ref w1), some (.int dd), some (.ref R), some (nS x), some (.ref D), some (.ref Hn), some (.ref U), y11, y12], rfl, rfl, ext_same e013 s138, hT13.ext s138⟩
end
end Th
namespace Th
open PySem PySem.Spec PyProof.Rows L2
def dd_tie_between : He.DefD := ⟨("tie_between", none), "tie_between", "tie_between", defArgs s_tie_between, defBody s_tie_between, defScope s_tie_between, [], []⟩
def dd_road_to_any : He.DefD := ⟨("road_to_any", none), "road_to_any", "road_to_any", defArgs s_road_to_any, defBody s_road_to_any, defScope s_road_to_any, [], []⟩
def dd_steps_to : He.DefD := ⟨("steps_to", none), "steps_to", "steps_to", defArgs s_steps_to, defBody s_steps_to, defScope s_steps_to, [], []⟩
def dd_lines_beside : He.DefD := ⟨("lines_beside", none), "lines_beside", "lines_beside", defArgs s_lines_beside, defBody s_lines_beside, defScope s_lines_beside, [], []⟩
def dd_lines_joined : He.DefD := ⟨("lines_joined", none), "lines_joined", "lines_joined", defArgs s_lines_joined, defBody s_lines_joined, defScope s_lines_joined, [], []⟩
def dd_gap_road : He.DefD := ⟨("gap_road", none), "gap_road", "gap_road", defArgs s_gap_road, defBody s_gap_road, defScope s_gap_road, [], []⟩
def dd_lines_from : He.DefD := ⟨("lines_from", none), "lines_from", "lines_from", defArgs s_lines_from, defBody s_lines_from, defScope s_lines_from, [], []⟩
def dd_in_order : He.DefD := ⟨("in_order", none), "in_order", "in_order", defArgs s_in_order, defBody s_in_order, defScope s_in_order, [], []⟩
def dd_lacks_ahead : He.DefD := ⟨("lacks_ahead", none), "lacks_ahead", "lacks_ahead", defArgs s_lacks_ahead, defBody s_lacks_ahead, defScope s_lacks_ahead, [], []⟩
def dd_fewest_onward : He.DefD := ⟨("fewest_onward", none), "fewest_onward", "fewest_onward", defArgs s_fewest_onward, defBody s_fewest_onward, defScope s_fewest_onward, [], []⟩
def dd_history : He.DefD := ⟨("history", none), "history", "history", defArgs s_history, defBody s_history, defScope s_history, [], []⟩
def dd_steps_of : He.DefD := ⟨("steps_of", none), "steps_of", "steps_of", defArgs s_steps_of, defBody s_steps_of, defScope s_steps_of, [], []⟩
def dd_held_returns : He.DefD := ⟨("held_returns", none), "held_returns", "held_returns", defArgs s_held_returns, defBody s_held_returns, defScope s_held_returns, [], []⟩
def dd_ties_along : He.DefD := ⟨("ties_along", none), "ties_along", "ties_along", defArgs s_ties_along, defBody s_ties_along, defScope s_ties_along, [], []⟩
def dd_crossings : He.DefD := ⟨("crossings", none), "crossings", "crossings", defArgs s_crossings, defBody s_crossings, defScope s_crossings, [], []⟩
def dd_seals : He.DefD := ⟨("seals", none), "seals", "seals", defArgs s_seals, defBody s_seals, defScope s_seals, [], []⟩
def dd_l_bag : He.DefD := ⟨("_law_bag", none), "_law_bag", "_law_bag", defArgs s_l_bag, defBody s_l_bag, defScope s_l_bag, [], []⟩
def dd_l_take : He.DefD := ⟨("_law_take", none), "_law_take", "_law_take", defArgs s_l_take, defBody s_l_take, defScope s_l_take, [], []⟩
def dd_l_names : He.DefD := ⟨("_law_names", none), "_law_names", "_law_names", defArgs s_l_names, defBody s_l_names, defScope s_l_names, [], []⟩
def dd_l_spots : He.DefD := ⟨("_law_spots", none), "_law_spots", "_law_spots", defArgs s_l_spots, defBody s_l_spots, defScope s_l_spots, [], []⟩
def dd_l_places : He.DefD := ⟨("_law_places", none), "_law_places", "_law_places", defArgs s_l_places, defBody s_l_places, defScope s_l_places, [], []⟩
def dd_l_net : He.DefD := ⟨("_law_net", none), "_law_net", "_law_net", defArgs s_l_net, defBody s_l_net, defScope s_l_net, [], []⟩
def dd_l_laid : He.DefD := ⟨("_law_laid", none), "_law_laid", "_law_laid", defArgs s_l_laid, defBody s_l_laid, defScope s_l_laid, [], []⟩
def dd_l_tie : He.DefD := ⟨("_law_tie", none), "_law_tie", "_law_tie", defArgs s_l_tie, defBody s_l_tie, defScope s_l_tie, [], []⟩
def dd_l_walk : He.DefD := ⟨("_law_walk", none), "_law_walk", "_law_walk", defArgs s_l_walk, defBody s_l_walk, defScope s_l_walk, [], []⟩
def dd_l_trip : He.DefD := ⟨("_law_trip", none), "_law_trip", "_law_trip", defArgs s_l_trip, defBody s_l_trip, defScope s_l_trip, [], []⟩
def dd_l_over : He.DefD := ⟨("_law_over", none), "_law_over", "_law_over", defArgs s_l_over, defBody s_l_over, defScope s_l_over, [], []⟩
def dd_l_like : He.DefD := ⟨("_law_like", none), "_law_like", "_law_like", defArgs s_l_like, defBody s_l_like, defScope s_l_like, [], []⟩
def dd_l_seen : He.DefD := ⟨("_law_seen", none), "_law_seen", "_law_seen", defArgs s_l_seen, defBody s_l_seen, defScope s_l_seen, [], []⟩
def dd_law : He.DefD := ⟨("law", none), "law", "law", defArgs s_law, defBody s_law, defScope s_law, [], []⟩
def fn : List He.DefD := [dd_tie_between, dd_road_to_any, dd_steps_to, dd_lines_beside, dd_lines_joined, dd_gap_road, dd_lines_from, dd_in_order, dd_lacks_ahead, dd_fewest_onward, dd_history, dd_steps_of, dd_held_returns, dd_ties_along, dd_crossings, dd_seals, dd_l_bag, dd_l_take, dd_l_names, dd_l_spots, dd_l_places, dd_l_net, dd_l_laid, dd_l_tie, dd_l_walk, dd_l_trip, dd_l_over, dd_l_like, dd_l_seen, dd_law]
def fa : List He.Fa := .glo "tie_between" :: .glo "road_to_any" :: .glo "steps_to" :: .glo "lines_beside" :: .glo "lines_joined" :: .glo "gap_road" :: .glo "lines_from" :: .glo "in_order" :: .glo "lacks_ahead" :: .glo "fewest_onward" :: .glo "history" :: .glo "steps_of" :: .glo "held_returns" :: .glo "ties_along" :: .glo "crossings" :: .glo "seals" :: .glo "_law_bag" :: .glo "_law_take" :: .glo "_law_names" :: .glo "_law_spots" :: .glo "_law_places" :: .glo "_law_net" :: .glo "_law_laid" :: .glo "_law_tie" :: .glo "_law_walk" :: .glo "_law_trip" :: .glo "_law_over" :: .glo "_law_like" :: .glo "_law_seen" :: .glo "law" :: .int "NUMBER" 1 :: .int "JUNCTION" 3 :: .int "DAY" 4 :: .int "HOUR" 5 :: .int "OVER" 7 :: .int "SEAL" 9 :: .free "abs" :: .free "all" :: .free "bool" :: .free "dict" :: .free "enumerate" :: .free "int" :: .free "isinstance" :: .free "len" :: .free "list" :: .free "max" :: .free "min" :: .free "range" :: .free "reversed" :: .free "set" :: .free "sorted" :: .free "tuple" :: .free "zip" :: []
def tf : List He.Defn := [("in_order", none)]
def ts : List He.Tab := []
def exb : PySem.W.Frag → Bool := fun _ => true
abbrev R : PySem.W.OpenRow := PySem.W.OpenLaw.row PySem.Challenge.rw_throughlines_k49_seals_seen
abbrev hk : PySem.W.Hook := He.hookX 4 fa fn ts tf exb
def ob (s : PySem.W.SharedT) : He.AlX := He.obsX 4 fa fn ts tf exb (HandSHeadRun.getT s)
theorem ob_eq (s : PySem.W.SharedT) : ob s = hk.obs s.abs := He.obsX_eq (HandSHeadRun.getT_eq s)
def loose : List PySem.Str := "tie_between" :: "road_to_any" :: "steps_to" :: "lines_beside" :: "lines_joined" :: "gap_road" :: "lines_from" :: "in_order" :: "lacks_ahead" :: "fewest_onward" :: "history" :: "steps_of" :: "held_returns" :: "ties_along" :: "crossings" :: "seals" :: "_law_bag" :: "_law_take" :: "_law_names" :: "_law_spots" :: "_law_places" :: "_law_net" :: "_law_laid" :: "_law_tie" :: "_law_walk" :: "_law_trip" :: "_law_over" :: "_law_like" :: "_law_seen" :: "NUMBER" :: "JUNCTION" :: "DAY" :: "HOUR" :: "OVER" :: "SEAL" :: []
set_option maxHeartbeats 0 in
theorem run (w : World) : HandSHeadRun.RunEq R (PySem.W.view R.prog [40]) hk ob 2000 loose w := by
  intro os
  kernel_rfl
/-- a def's code object, by its function's data -/
theorem code_ref {K : PySem.W.Frag} {x : Str} {st : Stmt} {p : He.Defn} {fd : FuncData} (F : FnP K x st (He.fAd K p) fd) : fd.code = .ref (He.cT K p).1 := by
  obtain ⟨oc, od, dV, kV, doc, pm, an, cdv, ct, osl, rfl, lk, hcd, _, _⟩ := F.ex
  obtain ⟨c, e⟩ := He.codeIn_ref hcd
  have h := He.codeOf_eq lk (show _ = Value.ref c from e)
  show cdv = _
  rw [e]
  show Value.ref c = Value.ref (He.codeOf K p)
  rw [h]
theorem facts {w : World} {K : PySem.W.Frag} {h : Heap} {mg : Str → Option Value} {f : Addr} (X : K.In h) (G : h.Ns mainGlobals mg) (hfa : mg ("law" : Str) = some (.ref f)) (c' : He.SaysX fa fn ts tf exb w h K) :
    LamX.LawAtS PySem.Challenge.rw_throughlines_k49_seals_seen w K CX0 7 63 "_law_script" mg f h := by
  have c := c'.t.d
  obtain ⟨d_tie_between, F_tie_between⟩ := c.def_ 0 (d := dd_tie_between) rfl
  have b_tie_between : Binds K d_tie_between ["net", "place", "far"] [] := FunD.bindsN F_tie_between fun _ _ _ _ _ _ us hl => match us, hl with | [_, _, _], _ => rfl
  obtain ⟨d_road_to_any, F_road_to_any⟩ := c.def_ 1 (d := dd_road_to_any) rfl
  have b_road_to_any : Binds K d_road_to_any ["net", "line", "fars"] [] := FunD.bindsN F_road_to_any fun _ _ _ _ _ _ us hl => match us, hl with | [_, _, _], _ => rfl
  obtain ⟨d_steps_to, F_steps_to⟩ := c.def_ 2 (d := dd_steps_to) rfl
  have b_steps_to : Binds K d_steps_to ["beside", "fars"] [] := FunD.bindsN F_steps_to fun _ _ _ _ _ _ us hl => match us, hl with | [_, _], _ => rfl
  obtain ⟨d_lines_beside, F_lines_beside⟩ := c.def_ 3 (d := dd_lines_beside) rfl
  have b_lines_beside : Binds K d_lines_beside ["net"] [] := FunD.bindsN F_lines_beside fun _ _ _ _ _ _ us hl => match us, hl with | [_], _ => rfl
  obtain ⟨d_lines_joined, F_lines_joined⟩ := c.def_ 4 (d := dd_lines_joined) rfl
  have b_lines_joined : Binds K d_lines_joined ["net", "line"] [] := FunD.bindsN F_lines_joined fun _ _ _ _ _ _ us hl => match us, hl with | [_, _], _ => rfl
  obtain ⟨d_gap_road, F_gap_road⟩ := c.def_ 5 (d := dd_gap_road) rfl
  have b_gap_road : Binds K d_gap_road ["net", "line", "junction", "over"] [] := FunD.bindsN F_gap_road fun _ _ _ _ _ _ us hl => match us, hl with | [_, _, _, _], _ => rfl
  obtain ⟨d_lines_from, F_lines_from⟩ := c.def_ 6 (d := dd_lines_from) rfl
  have b_lines_from : Binds K d_lines_from ["net", "junction", "over"] [] := FunD.bindsN F_lines_from fun _ _ _ _ _ _ us hl => match us, hl with | [_, _, _], _ => rfl
  obtain ⟨d_in_order, F_in_order⟩ := c.def_ 7 (d := dd_in_order) rfl
  have b_in_order : Binds K d_in_order ["returns"] [] := FunD.bindsN F_in_order fun _ _ _ _ _ _ us hl => match us, hl with | [_], _ => rfl
  obtain ⟨d_lacks_ahead, F_lacks_ahead⟩ := c.def_ 8 (d := dd_lacks_ahead) rfl
  have b_lacks_ahead : Binds K d_lacks_ahead ["net", "rows"] [] := FunD.bindsN F_lacks_ahead fun _ _ _ _ _ _ us hl => match us, hl with | [_, _], _ => rfl
  obtain ⟨d_fewest_onward, F_fewest_onward⟩ := c.def_ 9 (d := dd_fewest_onward) rfl
  have b_fewest_onward : Binds K d_fewest_onward ["net", "rows", "lacks"] [] := FunD.bindsN F_fewest_onward fun _ _ _ _ _ _ us hl => match us, hl with | [_, _, _], _ => rfl
  obtain ⟨d_history, F_history⟩ := c.def_ 10 (d := dd_history) rfl
  have b_history : Binds K d_history ["net", "line", "returns"] [] := FunD.bindsN F_history fun _ _ _ _ _ _ us hl => match us, hl with | [_, _, _], _ => rfl
  obtain ⟨d_steps_of, F_steps_of⟩ := c.def_ 11 (d := dd_steps_of) rfl
  have b_steps_of : Binds K d_steps_of ["net", "line", "rows", "lacks", "fewest"] [] := FunD.bindsN F_steps_of fun _ _ _ _ _ _ us hl => match us, hl with | [_, _, _, _, _], _ => rfl
  obtain ⟨d_held_returns, F_held_returns⟩ := c.def_ 12 (d := dd_held_returns) rfl
  have b_held_returns : Binds K d_held_returns ["steps", "returns"] [] := FunD.bindsN F_held_returns fun _ _ _ _ _ _ us hl => match us, hl with | [_, _], _ => rfl
  obtain ⟨d_ties_along, F_ties_along⟩ := c.def_ 13 (d := dd_ties_along) rfl
  have b_ties_along : Binds K d_ties_along ["net", "way"] [] := FunD.bindsN F_ties_along fun _ _ _ _ _ _ us hl => match us, hl with | [_, _], _ => rfl
  obtain ⟨d_crossings, F_crossings⟩ := c.def_ 14 (d := dd_crossings) rfl
  have b_crossings : Binds K d_crossings ["net", "way"] [] := FunD.bindsN F_crossings fun _ _ _ _ _ _ us hl => match us, hl with | [_, _], _ => rfl
  obtain ⟨d_seals, F_seals⟩ := c.def_ 15 (d := dd_seals) rfl
  have b_seals : Binds K d_seals ["net", "way", "day", "steps", "returns"] [] := FunD.bindsN F_seals fun _ _ _ _ _ _ us hl => match us, hl with | [_, _, _, _, _], _ => rfl
  obtain ⟨d_l_bag, F_l_bag⟩ := c.def_ 16 (d := dd_l_bag) rfl
  have b_l_bag : Binds K d_l_bag ["_law_script", "_law_at"] [] := FunD.bindsN F_l_bag fun _ _ _ _ _ _ us hl => match us, hl with | [_, _], _ => rfl
  obtain ⟨d_l_take, F_l_take⟩ := c.def_ 17 (d := dd_l_take) rfl
  have b_l_take : Binds K d_l_take ["_law_bag_here", "_law_many"] [] := FunD.bindsN F_l_take fun _ _ _ _ _ _ us hl => match us, hl with | [_, _], _ => rfl
  obtain ⟨d_l_names, F_l_names⟩ := c.def_ 18 (d := dd_l_names) rfl
  have b_l_names : Binds K d_l_names ["_law_bag_here", "_law_many"] [] := FunD.bindsN F_l_names fun _ _ _ _ _ _ us hl => match us, hl with | [_, _], _ => rfl
  obtain ⟨d_l_spots, F_l_spots⟩ := c.def_ 19 (d := dd_l_spots) rfl
  have b_l_spots : Binds K d_l_spots ["_law_bag_here", "_law_many", "_law_junctions"] [] := FunD.bindsN F_l_spots fun _ _ _ _ _ _ us hl => match us, hl with | [_, _, _], _ => rfl
  obtain ⟨d_l_places, F_l_places⟩ := c.def_ 20 (d := dd_l_places) rfl
  have b_l_places : Binds K d_l_places ["_law_bag_here", "_law_many"] [] := FunD.bindsN F_l_places fun _ _ _ _ _ _ us hl => match us, hl with | [_, _], _ => rfl
  obtain ⟨d_l_net, F_l_net⟩ := c.def_ 21 (d := dd_l_net) rfl
  have b_l_net : Binds K d_l_net ["_law_bag_here"] [] := FunD.bindsN F_l_net fun _ _ _ _ _ _ us hl => match us, hl with | [_], _ => rfl
  obtain ⟨d_l_laid, F_l_laid⟩ := c.def_ 22 (d := dd_l_laid) rfl
  have b_l_laid : Binds K d_l_laid ["_law_bag_here", "_law_lines", "_law_places_here", "_law_ties"] [] := FunD.bindsN F_l_laid fun _ _ _ _ _ _ us hl => match us, hl with | [_, _, _, _], _ => rfl
  obtain ⟨d_l_tie, F_l_tie⟩ := c.def_ 23 (d := dd_l_tie) rfl
  have b_l_tie : Binds K d_l_tie ["_law_net_here", "_law_place", "_law_far"] [] := FunD.bindsN F_l_tie fun _ _ _ _ _ _ us hl => match us, hl with | [_, _, _], _ => rfl
  obtain ⟨d_l_walk, F_l_walk⟩ := c.def_ 24 (d := dd_l_walk) rfl
  have b_l_walk : Binds K d_l_walk ["_law_bag_here", "_law_net_here", "_law_way"] [] := FunD.bindsN F_l_walk fun _ _ _ _ _ _ us hl => match us, hl with | [_, _, _], _ => rfl
  obtain ⟨d_l_trip, F_l_trip⟩ := c.def_ 25 (d := dd_l_trip) rfl
  have b_l_trip : Binds K d_l_trip ["_law_bag_here", "_law_net_here", "_law_way", "_law_wagon", "_law_day"] [] := FunD.bindsN F_l_trip fun _ _ _ _ _ _ us hl => match us, hl with | [_, _, _, _, _], _ => rfl
  obtain ⟨d_l_over, F_l_over⟩ := c.def_ 26 (d := dd_l_over) rfl
  have b_l_over : Binds K d_l_over ["_law_net_here", "_law_way"] [] := FunD.bindsN F_l_over fun _ _ _ _ _ _ us hl => match us, hl with | [_, _], _ => rfl
  obtain ⟨d_l_like, F_l_like⟩ := c.def_ 27 (d := dd_l_like) rfl
  have b_l_like : Binds K d_l_like ["_law_told", "_law_due"] [] := FunD.bindsN F_l_like fun _ _ _ _ _ _ us hl => match us, hl with | [_, _], _ => rfl
  obtain ⟨d_l_seen, F_l_seen⟩ := c.def_ 28 (d := dd_l_seen) rfl
  have b_l_seen : Binds K d_l_seen ["_law_net_here", "_law_way", "_law_day", "_law_steps", "_law_returns"] [] := FunD.bindsN F_l_seen fun _ _ _ _ _ _ us hl => match us, hl with | [_, _, _, _, _], _ => rfl
  obtain ⟨d_law, F_law⟩ := c.def_ 29 (d := dd_law) rfl
  obtain ⟨t_NUMBER, c_NUMBER⟩ := He.int_ok X G (c.fact 30 (f := .int "NUMBER" 1) rfl)
  obtain ⟨t_JUNCTION, c_JUNCTION⟩ := He.int_ok X G (c.fact 31 (f := .int "JUNCTION" 3) rfl)
  obtain ⟨t_DAY, c_DAY⟩ := He.int_ok X G (c.fact 32 (f := .int "DAY" 4) rfl)
  obtain ⟨t_HOUR, c_HOUR⟩ := He.int_ok X G (c.fact 33 (f := .int "HOUR" 5) rfl)
  obtain ⟨t_OVER, c_OVER⟩ := He.int_ok X G (c.fact 34 (f := .int "OVER" 7) rfl)
  obtain ⟨t_SEAL, c_SEAL⟩ := He.int_ok X G (c.fact 35 (f := .int "SEAL" 9) rfl)
  let T : Defs K mg := {
    a_tie_between := _,
    d_tie_between := d_tie_between,
    F_tie_between := F_tie_between,
    g_tie_between := He.glo_ok X G (c.fact 0 (f := .glo "tie_between") rfl),
    b_tie_between := b_tie_between,
    a_road_to_any := _,
    d_road_to_any := d_road_to_any,
    F_road_to_any := F_road_to_any,
    g_road_to_any := He.glo_ok X G (c.fact 1 (f := .glo "road_to_any") rfl),
    b_road_to_any := b_road_to_any,
    a_steps_to := _,
    d_steps_to := d_steps_to,
    F_steps_to := F_steps_to,
    g_steps_to := He.glo_ok X G (c.fact 2 (f := .glo "steps_to") rfl),
    b_steps_to := b_steps_to,
    a_lines_beside := _,
    d_lines_beside := d_lines_beside,
    F_lines_beside := F_lines_beside,
    g_lines_beside := He.glo_ok X G (c.fact 3 (f := .glo "lines_beside") rfl),
    b_lines_beside := b_lines_beside,
    a_lines_joined := _,
    d_lines_joined := d_lines_joined,
    F_lines_joined := F_lines_joined,
    g_lines_joined := He.glo_ok X G (c.fact 4 (f := .glo "lines_joined") rfl),
    b_lines_joined := b_lines_joined,
    a_gap_road := _,
    d_gap_road := d_gap_road,
    F_gap_road := F_gap_road,
    g_gap_road := He.glo_ok X G (c.fact 5 (f := .glo "gap_road") rfl),
    b_gap_road := b_gap_road,
    a_lines_from := _,
    d_lines_from := d_lines_from,
    F_lines_from := F_lines_from,
    g_lines_from := He.glo_ok X G (c.fact 6 (f := .glo "lines_from") rfl),
    b_lines_from := b_lines_from,
    a_in_order := _,
    d_in_order := d_in_order,
    F_in_order := F_in_order,
    g_in_order := He.glo_ok X G (c.fact 7 (f := .glo "in_order") rfl),
    b_in_order := b_in_order,
    cc_in_order := (He.cT K ("in_order", none)).1,
    tp_in_order := (He.cT K ("in_order", none)).2,
    dc_in_order := code_ref (x := "in_order") (st := s_in_order) (p := ("in_order", none)) F_in_order,
    a_lacks_ahead := _,
    d_lacks_ahead := d_lacks_ahead,
    F_lacks_ahead := F_lacks_ahead,
    g_lacks_ahead := He.glo_ok X G (c.fact 8 (f := .glo "lacks_ahead") rfl),
    b_lacks_ahead := b_lacks_ahead,
    a_fewest_onward := _,
    d_fewest_onward := d_fewest_onward,
    F_fewest_onward := F_fewest_onward,
    g_fewest_onward := He.glo_ok X G (c.fact 9 (f := .glo "fewest_onward") rfl),
    b_fewest_onward := b_fewest_onward,
    a_history := _,
    d_history := d_history,
    F_history := F_history,
    g_history := He.glo_ok X G (c.fact 10 (f := .glo "history") rfl),
    b_history := b_history,
    a_steps_of := _,
    d_steps_of := d_steps_of,
    F_steps_of := F_steps_of,
    g_steps_of := He.glo_ok X G (c.fact 11 (f := .glo "steps_of") rfl),
    b_steps_of := b_steps_of,
    a_held_returns := _,
    d_held_returns := d_held_returns,
    F_held_returns := F_held_returns,
    g_held_returns := He.glo_ok X G (c.fact 12 (f := .glo "held_returns") rfl),
    b_held_returns := b_held_returns,
    a_ties_along := _,
    d_ties_along := d_ties_along,
    F_ties_along := F_ties_along,
    g_ties_along := He.glo_ok X G (c.fact 13 (f := .glo "ties_along") rfl),
    b_ties_along := b_ties_along,
    a_crossings := _,
    d_crossings := d_crossings,
    F_crossings := F_crossings,
    g_crossings := He.glo_ok X G (c.fact 14 (f := .glo "crossings") rfl),
    b_crossings := b_crossings,
    a_seals := _,
    d_seals := d_seals,
    F_seals := F_seals,
    g_seals := He.glo_ok X G (c.fact 15 (f := .glo "seals") rfl),
    b_seals := b_seals,
    a_l_bag := _,
    d_l_bag := d_l_bag,
    F_l_bag := F_l_bag,
    g_l_bag := He.glo_ok X G (c.fact 16 (f := .glo "_law_bag") rfl),
    b_l_bag := b_l_bag,
    a_l_take := _,
    d_l_take := d_l_take,
    F_l_take := F_l_take,
    g_l_take := He.glo_ok X G (c.fact 17 (f := .glo "_law_take") rfl),
    b_l_take := b_l_take,
    a_l_names := _,
    d_l_names := d_l_names,
    F_l_names := F_l_names,
    g_l_names := He.glo_ok X G (c.fact 18 (f := .glo "_law_names") rfl),
    b_l_names := b_l_names,
    a_l_spots := _,
    d_l_spots := d_l_spots,
    F_l_spots := F_l_spots,
    g_l_spots := He.glo_ok X G (c.fact 19 (f := .glo "_law_spots") rfl),
    b_l_spots := b_l_spots,
    a_l_places := _,
    d_l_places := d_l_places,
    F_l_places := F_l_places,
    g_l_places := He.glo_ok X G (c.fact 20 (f := .glo "_law_places") rfl),
    b_l_places := b_l_places,
    a_l_net := _,
    d_l_net := d_l_net,
    F_l_net := F_l_net,
    g_l_net := He.glo_ok X G (c.fact 21 (f := .glo "_law_net") rfl),
    b_l_net := b_l_net,
    a_l_laid := _,
    d_l_laid := d_l_laid,
    F_l_laid := F_l_laid,
    g_l_laid := He.glo_ok X G (c.fact 22 (f := .glo "_law_laid") rfl),
    b_l_laid := b_l_laid,
    a_l_tie := _,
    d_l_tie := d_l_tie,
    F_l_tie := F_l_tie,
    g_l_tie := He.glo_ok X G (c.fact 23 (f := .glo "_law_tie") rfl),
    b_l_tie := b_l_tie,
    a_l_walk := _,
    d_l_walk := d_l_walk,
    F_l_walk := F_l_walk,
    g_l_walk := He.glo_ok X G (c.fact 24 (f := .glo "_law_walk") rfl),
    b_l_walk := b_l_walk,
    a_l_trip := _,
    d_l_trip := d_l_trip,
    F_l_trip := F_l_trip,
    g_l_trip := He.glo_ok X G (c.fact 25 (f := .glo "_law_trip") rfl),
    b_l_trip := b_l_trip,
    a_l_over := _,
    d_l_over := d_l_over,
    F_l_over := F_l_over,
    g_l_over := He.glo_ok X G (c.fact 26 (f := .glo "_law_over") rfl),
    b_l_over := b_l_over,
    a_l_like := _,
    d_l_like := d_l_like,
    F_l_like := F_l_like,
    g_l_like := He.glo_ok X G (c.fact 27 (f := .glo "_law_like") rfl),
    b_l_like := b_l_like,
    a_l_seen := _,
    d_l_seen := d_l_seen,
    F_l_seen := F_l_seen,
    g_l_seen := He.glo_ok X G (c.fact 28 (f := .glo "_law_seen") rfl),
    b_l_seen := b_l_seen,
    t_NUMBER := t_NUMBER,
    c_NUMBER := c_NUMBER,
    t_JUNCTION := t_JUNCTION,
    c_JUNCTION := c_JUNCTION,
    t_DAY := t_DAY,
    c_DAY := c_DAY,
    t_HOUR := t_HOUR,
    c_HOUR := c_HOUR,
    t_OVER := t_OVER,
    c_OVER := c_OVER,
    t_SEAL := t_SEAL,
    c_SEAL := c_SEAL,
    z_abs := He.free_ok X G (c.fact 36 (f := .free "abs") rfl),
    z_all := He.free_ok X G (c.fact 37 (f := .free "all") rfl),
    z_bool := He.free_ok X G (c.fact 38 (f := .free "bool") rfl),
    z_dict := He.free_ok X G (c.fact 39 (f := .free "dict") rfl),
    z_enumerate := He.free_ok X G (c.fact 40 (f := .free "enumerate") rfl),
    z_int := He.free_ok X G (c.fact 41 (f := .free "int") rfl),
    z_isinstance := He.free_ok X G (c.fact 42 (f := .free "isinstance") rfl),
    z_len := He.free_ok X G (c.fact 43 (f := .free "len") rfl),
    z_list := He.free_ok X G (c.fact 44 (f := .free "list") rfl),
    z_max := He.free_ok X G (c.fact 45 (f := .free "max") rfl),
    z_min := He.free_ok X G (c.fact 46 (f := .free "min") rfl),
    z_range := He.free_ok X G (c.fact 47 (f := .free "range") rfl),
    z_reversed := He.free_ok X G (c.fact 48 (f := .free "reversed") rfl),
    z_set := He.free_ok X G (c.fact 49 (f := .free "set") rfl),
    z_sorted := He.free_ok X G (c.fact 50 (f := .free "sorted") rfl),
    z_tuple := He.free_ok X G (c.fact 51 (f := .free "tuple") rfl),
    z_zip := He.free_ok X G (c.fact 52 (f := .free "zip") rfl) }
  have e := hfa.symm.trans (He.glo_ok X G (c.fact 29 (f := .glo "law") rfl))
  cases e
  have b := FunD.bindsA (ps := ["_law_script"]) F_law fun _ _ _ _ _ _ us hl => match us, hl with | [_], _ => rfl
  refine ⟨d_law, tf.map (He.cT K), sp_law T, fun p hp => ?_, fun p hp => ?_, fun p hp => ?_, fun s v => b s [v] rfl, fun H a ns hl _ hH hS => ⟨a, ns, rfl, hS, hl, LamX.TabS.nil (hH (He.cT K ("in_order", none)) (List.mem_map_of_mem (f := He.cT K) (List.mem_of_getElem? (l := tf) (i := 0) rfl))), fun _ => rfl⟩, fun base _ _ hTB => ok_law F_law T (hTB (He.cT K ("in_order", none)) (List.mem_map_of_mem (f := He.cT K) (List.mem_of_getElem? (l := tf) (i := 0) rfl)))⟩
  · obtain ⟨q, hq, rfl⟩ := List.mem_map.mp hp
    exact c'.empty q hq
  · obtain ⟨q, hq, rfl⟩ := List.mem_map.mp hp
    exact c'.out q hq
  · obtain ⟨q, hq, rfl⟩ := List.mem_map.mp hp
    exact PySem.W.codeHd_of_K X (c'.hd q hq)
end Th
open PySem PySem.W PySem.Calls PyProof.Rows
set_option maxHeartbeats 0 in
theorem PySem.Challenge.cw_throughlines_k49_seals_seen_holds : PySem.Challenge.rw_throughlines_k49_seals_seen.Holds := by
  w_on; o_law
  refine HandSHeadRun.head_any (r := OpenLaw.row PySem.Challenge.rw_throughlines_k49_seals_seen) (q := view (OpenLaw.row PySem.Challenge.rw_throughlines_k49_seals_seen).prog [40]) (H := Th.hk) (ob := Th.ob) (M := 2000) (loose := Th.loose) (d := HandSHeadRun.topDef (OpenLaw.row PySem.Challenge.rw_throughlines_k49_seals_seen).prog 40) (kwd := []) Th.ob_eq
    (by kernel_rfl) (fun s => by kernel_rfl) Th.run (by kernel_rfl) (by kernel_rfl) (by kernel_rfl) (by rfl) (by first | assumption | decide +kernel) (by decide +kernel) ⟨rfl, rfl, rfl, rfl, rfl, by decide +kernel⟩ ?hw ?hc
  case hw => w_witness2
  case hc =>
    refine LamX.walk_ofTsE (l := PySem.Challenge.rw_throughlines_k49_seals_seen) (n := 63) (k := 7) (x := "_law_script") (CX := fun _ => L2.CX0) rfl (by decide) (by kernel_rfl) ⟨rfl, by decide, by decide⟩ ?F (fun _ _ _ _ _ z => z)
    intro w mg fa h Y G hmg0
    obtain ⟨K, KX, c⟩ := Y
    have hmg : mg ("law" : PySem.Str) = some (.ref fa) := by
      have e : (HandSHeadRun.topDef (OpenLaw.row PySem.Challenge.rw_throughlines_k49_seals_seen).prog 40).name = ("law" : PySem.Str) := by kernel_rfl
      rw [← e]
      exact hmg0
    exact ⟨K, KX, Th.facts KX G hmg c⟩
