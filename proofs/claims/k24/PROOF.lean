import PyProof.Rows.All
import Wide.All
import OpenK.AllK
import Wide.FinOn
import KE.KStateDown
import Lean
import HandS.ForMost
import HandS.More
import HandS.WordsExc
import HandS.Defaults
import HandS.IsInst
import HandS.Zip
import HandS.Walk
import HandS.Wide
import HandS.Flow
import HandS.Evl
import HandS.Strs
import HandS.SetFor
import HandS.DictComp
import HandS.Set
import HandS.SetBool
import KE.DatumOrd
import HandS.TupAny
import HandS.Codes
import KE.KDictPairs
import KE.SortData
import KE.KDictZip
import KE.KItemsList
import HandS.Lambda
import KE.GoesZip
import KE.GoesMore
import KE.GoesEnum
import KE.GoesEnumKw
import HandS.Dict
import KE.KDictLaws
import KE.DataCmp
import PyProof.StrOps2
import HandS.Text
import HandS.Style
import HandS.ReCall
import KE.KRevSl
import KE.SortKeyHeap
import KE.KLam
import HandS.Conv
import HandS.EndTab
import HandS.HeadWalk
import HandS.HeadHook4
import KE.KIndexOf
import HandS.DictTup
import HandS.Deep
import HandS.Head0
import HandS.Head1
import HandS.Head2
import HandS.HeadEnd
import HandS.HeadHook1
import HandS.HeadHook2
import PySem.Challenge.RW_throughlines_k24_whole_papers_as_a_set
set_option Elab.async false
set_option linter.all false
set_option maxRecDepth 100000
set_option maxHeartbeats 4000000
namespace Th
open PySem PySem.Spec PyProof.Rows L2
/-! heaps -/
theorem same_upd {H : Hp} {p : Addr} {o : HO} (h : H p = none) : Same H (upd H p o) := fun b x e => by
  rw [upd_ne (ne_of_none e h)]
  exact e
/-- all but p stays -/
def Keep (p : Addr) (H H' : Hp) : Prop := ∀ b o, b ≠ p → H b = some o → H' b = some o
theorem Keep.refl (p : Addr) (H : Hp) : Keep p H H := fun _ _ _ h => h
theorem Keep.trans {p : Addr} {H H1 H2 : Hp} (a : Keep p H H1) (b : Keep p H1 H2) : Keep p H H2 := fun c o n h => b c o n (a c o n h)
theorem Keep.of {p : Addr} {H H1 : Hp} (a : Same H H1) : Keep p H H1 := fun c o _ h => a c o h
theorem Keep.upd {p : Addr} {H : Hp} {o : HO} : Keep p H (upd H p o) := fun c o n h => by rw [upd_ne n]; exact h
/-- the bag of draws at p -/
def Bag (H : Hp) (p : Addr) : Prop := ∃ g r : Int, H p = some (.lst [.int g, .int r]) ∧ 0 ≤ g ∧ 0 ≤ r ∧ r < 2147483648
theorem Bag.keep {H H' : Hp} {p : Addr} (b : Bag H p) (s : Same H H') : Bag H' p := by
  obtain ⟨g, r, e, h⟩ := b
  exact ⟨g, r, s _ _ e, h⟩
theorem Bag.some {H : Hp} {p : Addr} (b : Bag H p) : ∃ o, H p = Option.some o := by
  obtain ⟨g, r, e, _⟩ := b
  exact ⟨_, e⟩
theorem Bag.ne {H : Hp} {p q : Addr} (b : Bag H p) (h : H q = none) : q ≠ p := by
  obtain ⟨g, r, e, _⟩ := b
  exact (ne_of_none e h).symm
theorem p8 : (0 : Int) < 8 := by decide
theorem pA : (0 : Int) < 2147483647 := by decide
theorem pB : (0 : Int) < 2147483629 := by decide
theorem primes_at (i : Nat) : ∃ pr : Int, atI [V.int 2147483629, .int 2147483587, .int 2147483579, .int 2147483563, .int 2147483549, .int 2147483543, .int 2147483497, .int 2147483489] ((i : Int) % 8) = some (.int pr) ∧ 0 < pr ∧ pr < 2147483648 := by
  have e : ((i : Int) % 8) = ((i % 8 : Nat) : Int) := by omega
  rw [e]
  have h : i % 8 < 8 := Nat.mod_lt _ (by decide)
  generalize i % 8 = j at h
  have c : j = 0 ∨ j = 1 ∨ j = 2 ∨ j = 3 ∨ j = 4 ∨ j = 5 ∨ j = 6 ∨ j = 7 := by omega
  rcases c with rfl | rfl | rfl | rfl | rfl | rfl | rfl | rfl
  all_goals exact ⟨_, atI_nat rfl, by decide, by decide⟩
def sp_bag (K : PySem.W.Frag) : Sp := fun vs H Q _ => ∃ (a : Addr) (ns : List Int) (i : Nat), vs = [.ref a, .int i] ∧ SqL K H a (ns.map V.int) ∧ i < 1000000 ∧ ∀ H' p, Same H H' → H p = none → Bag H' p → Q (.ref p) H'
def sp_take : Sp := fun vs H Q _ => ∃ (p : Addr) (m : Int), vs = [.ref p, .int m] ∧ Bag H p ∧ 0 < m ∧ m < 1073741824 ∧ ∀ H' d, Keep p H H' → Bag H' p → 0 ≤ d → d < m → Q (.int d) H'
/-! data that is tracked, at addresses of which S holds -/
mutual
inductive Dt (S : Addr → Prop) (H : Hp) : V → PyData → Prop
  | non : Dt S H .non .none
  | bl (b : Bool) : Dt S H (.bl b) (.bool b)
  | int (i : Int) : Dt S H (.int i) (.int i)
  | str (x : Str) : Dt S H (.str x) (.str x)
  | lst {a : Addr} {xs : List V} {ds : List PyData} : S a → H a = some (.lst xs) → xs.length ≤ 5000 → DtAll S H xs ds → Dt S H (.ref a) (.list ds)
  | tup {a : Addr} {xs : List V} {ds : List PyData} : S a → H a = some (.tup xs) → xs.length ≤ 5000 → DtAll S H xs ds → Dt S H (.ref a) (.tuple ds)
inductive DtAll (S : Addr → Prop) (H : Hp) : List V → List PyData → Prop
  | nil : DtAll S H [] []
  | cons {v : V} {vs : List V} {d : PyData} {ds : List PyData} : Dt S H v d → DtAll S H vs ds → DtAll S H (v :: vs) (d :: ds)
end
mutual
theorem Dt.mono {S S' : Addr → Prop} {H H' : Hp} (hS : ∀ a, S a → S' a) (hh : ∀ a o, S a → H a = some o → H' a = some o) : ∀ {v : V} {d : PyData}, Dt S H v d → Dt S' H' v d
  | _, _, .non => .non
  | _, _, .bl b => .bl b
  | _, _, .int b => .int b
  | _, _, .str b => .str b
  | _, _, .lst s e l r => .lst (hS _ s) (hh _ _ s e) l (DtAll.mono hS hh r)
  | _, _, .tup s e l r => .tup (hS _ s) (hh _ _ s e) l (DtAll.mono hS hh r)
theorem DtAll.mono {S S' : Addr → Prop} {H H' : Hp} (hS : ∀ a, S a → S' a) (hh : ∀ a o, S a → H a = some o → H' a = some o) : ∀ {v : List V} {d : List PyData}, DtAll S H v d → DtAll S' H' v d
  | _, _, .nil => .nil
  | _, _, .cons a r => .cons (Dt.mono hS hh a) (DtAll.mono hS hh r)
end
mutual
theorem Dt.dp {K : PySem.W.Frag} {S : Addr → Prop} {H : Hp} : ∀ {v : V} {d : PyData}, Dt S H v d → Dp K H v d
  | _, _, .non => .non
  | _, _, .bl b => .bl b
  | _, _, .int b => .int b
  | _, _, .str b => .str b
  | _, _, .lst s e l r => .lst (SqL.of e) (DtAll.dp r)
  | _, _, .tup s e l r => .tup (SqT.of e) (DtAll.dp r)
theorem DtAll.dp {K : PySem.W.Frag} {S : Addr → Prop} {H : Hp} : ∀ {v : List V} {d : List PyData}, DtAll S H v d → DpAll K H v d
  | _, _, .nil => .nil
  | _, _, .cons a r => .cons (Dt.dp a) (DtAll.dp r)
end
abbrev SA : Addr → Prop := fun _ => True
theorem Dt.same {H H' : Hp} {v : V} {d : PyData} (s : Same H H') (h : Dt SA H v d) : Dt SA H' v d := h.mono (fun _ x => x) fun a o _ e => s a o e
theorem DtAll.same {H H' : Hp} {v : List V} {d : List PyData} (s : Same H H') (h : DtAll SA H v d) : DtAll SA H' v d := h.mono (fun _ x => x) fun a o _ e => s a o e
theorem DtAll.len {S : Addr → Prop} {H : Hp} : ∀ {v : List V} {d : List PyData}, DtAll S H v d → v.length = d.length
  | _, _, .nil => rfl
  | _, _, .cons _ r => congrArg Nat.succ r.len
theorem DtAll.get {S : Addr → Prop} {H : Hp} : ∀ {v : List V} {d : List PyData} {i : Nat} {x : V}, DtAll S H v d → v[i]? = some x → ∃ e, d[i]? = some e ∧ Dt S H x e
  | _, _, _, _, .nil, h => by simp at h
  | _, _, 0, _, .cons a r, h => by
    have e := Option.some.inj h
    subst e
    exact ⟨_, rfl, a⟩
  | _, _, i + 1, _, .cons a r, h => r.get (i := i) h
/-! depth, what may be laid -/
theorem depth_mem : ∀ {ds : List PyData} {i : Nat} {d : PyData}, ds[i]? = some d → PyData.depth d ≤ PyData.depthAll ds
  | [], _, _, h => by simp at h
  | x :: xs, 0, d, h => by
    have e := Option.some.inj h
    subst e
    rw [PyData.depthAll]
    exact Nat.le_max_left _ _
  | x :: xs, i + 1, d, h => by
    rw [PyData.depthAll]
    exact Nat.le_trans (depth_mem (i := i) h) (Nat.le_max_right _ _)
theorem lay_mem : ∀ {ds : List PyData} {i : Nat} {d : PyData}, PyData.canLayAll0 ds = true → ds[i]? = some d → PyData.canLay0 d = true
  | [], _, _, _, h => by simp at h
  | x :: xs, 0, d, c, h => by
    have e := Option.some.inj h
    subst e
    rw [PyData.canLayAll0, Bool.and_eq_true_iff] at c
    exact c.1
  | x :: xs, i + 1, d, c, h => by
    rw [PyData.canLayAll0, Bool.and_eq_true_iff] at c
    exact lay_mem (i := i) c.2 h
/-! the types -/
def tyN : PyData → String
  | .none => "NoneType"
  | .bool _ => "bool"
  | .int _ => "int"
  | .str _ => "str"
  | .list _ => "list"
  | .tuple _ => "tuple"
  | .dict _ => "dict"
theorem Dt.ty {K : PySem.W.Frag} {S : Addr → Prop} {H : Hp} {v : V} {d : PyData} (h : Dt S H v d) : TyX K H v (.type (tyN d)) := by
  cases h with
  | non => exact .base .non
  | bl b => exact .base (.bl b)
  | int b => exact .base (.int b)
  | str b => exact .base (.str b)
  | lst s e l r => exact .base (.lst e)
  | tup s e l r => exact .base (.tup e)
def isB : PyData → Bool
  | .bool _ => true
  | _ => false
def isSeq : PyData → Bool
  | .list _ => true
  | .tuple _ => true
  | _ => false
theorem kit_bool {K : PySem.W.Frag} {S : Addr → Prop} {H : Hp} {v : V} {d : PyData} (h : Dt S H v d) : PySem.W.kitOne K (.type (tyN d)) (.type "bool") = some (isB d) := by
  cases h with
  | non => exact kit_ty (a := "NoneType") (b := "bool") (r := false) (by decide +kernel)
  | bl b => exact kit_ty (a := "bool") (b := "bool") (r := true) (by decide +kernel)
  | int b => exact kit_ty (a := "int") (b := "bool") (r := false) (by decide +kernel)
  | str b => exact kit_ty (a := "str") (b := "bool") (r := false) (by decide +kernel)
  | lst s e l r => exact kit_ty (a := "list") (b := "bool") (r := false) (by decide +kernel)
  | tup s e l r => exact kit_ty (a := "tuple") (b := "bool") (r := false) (by decide +kernel)
theorem kit2 {K : PySem.W.Frag} {n : String} (h1 : kitB n "list" = some false) (h2 : kitB n "tuple" = some false) : PySem.W.kitAny K (.type n) [.type "list", .type "tuple"] = some false :=
  kitAny_cons (b := false) (kit_ty h1) (fun _ => kitAny_cons (b := false) (kit_ty h2) (fun _ => kitAny_nil) (fun z => nomatch z)) (fun z => nomatch z)
theorem kit_seq {K : PySem.W.Frag} {S : Addr → Prop} {H : Hp} {v : V} {d : PyData} (h : Dt S H v d) : PySem.W.kitAny K (.type (tyN d)) [.type "list", .type "tuple"] = some (isSeq d) := by
  cases h with
  | non => exact kit2 (n := "NoneType") (by decide +kernel) (by decide +kernel)
  | bl b => exact kit2 (n := "bool") (by decide +kernel) (by decide +kernel)
  | int b => exact kit2 (n := "int") (by decide +kernel) (by decide +kernel)
  | str b => exact kit2 (n := "str") (by decide +kernel) (by decide +kernel)
  | lst s e l r => exact kitAny_cons (b := true) (kit_ty (a := "list") (by decide +kernel)) (fun z => nomatch z) (fun _ => rfl)
  | tup s e l r => exact kitAny_cons (b := false) (kit_ty (a := "tuple") (by decide +kernel)) (fun _ => kitAny_cons (b := true) (kit_ty (a := "tuple") (by decide +kernel)) (fun z => nomatch z) (fun _ => rfl)) (fun z => nomatch z)
/-! zip of two tuples, walked -/
theorem walk_zipT {K : PySem.W.Frag} {a b : Addr} {xs ys : List V} {n : Nat} (hn : n = min xs.length ys.length) : Walk (RZ.ItzT K a b) n (fun H => SqT K H a xs ∧ SqT K H b ys) (YPair (fun i => xs[i]?) (fun i => ys[i]?)) := by
  subst hn
  refine ⟨fun i _ hi q => ?_, fun _ q => ⟨xs, ys, q.1, q.2, by omega⟩, fun i H v H' _ q y => ?_⟩
  · have h1 : i < xs.length := by omega
    have h2 : i < ys.length := by omega
    exact ⟨xs, ys, xs[i], ys[i], q.1, q.2, by simp [h1], by simp [h2]⟩
  · obtain ⟨T, x, z, h1, h2, h3, h4, h5⟩ := y
    exact ⟨T, x, z, h1, h2, h3, h4 xs q.1, h5 ys q.2⟩
theorem yes_ {σ : L2.St} {H : Hp} {A B : Hp → Prop} (h : A H) : tYes σ H fun b H3 => if b = true then A H3 else B H3 := by
  show if true = true then A H else B H
  exact iteT h
theorem small5000 {n : Nat} (h : n ≤ 5000) : n < sizeLine := Nat.lt_of_le_of_lt h (by decide)
/-- told and due are the same data, of a depth below n: True -/
def sp_like (n : Nat) : Sp := fun vs H Q _ => ∃ (v u : V) (d : PyData), vs = [v, u] ∧ Dt SA H v d ∧ Dt SA H u d ∧ d.canLay0 = true ∧ d.depth < n ∧ n ≤ 60 ∧ ∀ H', Same H H' → Q (.bl true) H'
/-- xs[i] read for an augmented store, i from 0 on -/
theorem get_listN {X : Cx} : PGet X (fun o i H Q => ∃ (p : Addr) (xs : List V) (j : Nat) (v : V), o = .ref p ∧ i = .int j ∧ H p = some (.lst xs) ∧ xs[j]? = some v ∧ Q v H) := by
  intro pins s σ H o i ov iv Q I ro ri h
  obtain ⟨p, xs, j, v, rfl, rfl, hp, hx, q⟩ := h
  cases (show ov = Value.ref p from ro)
  obtain ⟨t, rfl⟩ := ri
  obtain ⟨its, r, pl, hz⟩ := I.list (SqL.of hp)
  obtain ⟨u, eu, ru⟩ := r.get hx
  have hj : j < xs.length := (List.getElem?_eq_some_iff.mp hx).1
  have h63 := line63
  exact wpAny_getItem_list pl.isList (by omega) (by omega) (by simpa using eu) ⟨v, H, I, ru, q⟩
/-- the d-th of some whole numbers -/
theorem pick {ms : List Int} {d : Int} (h0 : 0 ≤ d) (h1 : d < ms.length) : ∃ m ∈ ms, atI (ms.map V.int) d = some (.int m) := by
  obtain ⟨j, rfl⟩ : ∃ j : Nat, d = (j : Int) := ⟨d.toNat, by omega⟩
  have hj : j < ms.length := by omega
  refine ⟨ms[j], List.getElem_mem hj, atI_nat ?_⟩
  rw [List.getElem?_map, List.getElem?_eq_getElem hj]
  rfl
theorem Bag.at {H H' : Hp} {p : Addr} (b : Bag H p) (e : H' p = H p) : Bag H' p := by
  obtain ⟨g, r, h, k⟩ := b
  exact ⟨g, r, e.trans h, k⟩
theorem Keep.new {p q : Addr} {H H' : Hp} {o : HO} (k : Keep p H H') (n : H' q = none) : Keep p H (L2.upd H' q o) := k.trans (.of (same_upd n))
theorem Keep.free {p q : Addr} {H H' : Hp} (k : Keep p H H') (b : Bag H p) (h : H' q = none) (b' : Bag H' p) : H q = none := by
  cases e : H q with
  | none => rfl
  | some o =>
    by_cases z : q = p
    · rw [z] at h
      obtain ⟨g, r, e', _⟩ := b'
      rw [e'] at h
      cases h
    · rw [k q o z e] at h
      cases h
theorem rep_one {α : Type} (x : α) (m : Nat) : (List.replicate m [x]).flatten = List.replicate m x := by
  induction m with
  | zero => rfl
  | succ m ih => rw [List.replicate_succ, List.flatten_cons, ih, List.replicate_succ]; rfl
/-! lists of whole numbers as data -/
abbrev dI (zs : List Int) : PyData := .list (zs.map PyData.int)
theorem dtAll_ints {S : Addr → Prop} {H : Hp} : ∀ zs : List Int, DtAll S H (zs.map V.int) (zs.map PyData.int)
  | [] => .nil
  | z :: zs => .cons (.int z) (dtAll_ints zs)
theorem dt_ints {H : Hp} {x : Addr} {zs : List Int} (h : H x = some (.lst (zs.map V.int))) (hl : zs.length ≤ 5000) : Dt SA H (.ref x) (dI zs) := .lst trivial h (by rw [List.length_map]; exact hl) (dtAll_ints zs)
theorem layAll_ints : ∀ zs : List Int, PyData.canLayAll0 (zs.map PyData.int) = true
  | [] => rfl
  | z :: zs => by rw [List.map_cons, PyData.canLayAll0, layAll_ints zs]; rfl
theorem lay_ints (zs : List Int) : (dI zs).canLay0 = true := layAll_ints zs
theorem depthAll_ints : ∀ zs : List Int, PyData.depthAll (zs.map PyData.int) = 0
  | [] => rfl
  | z :: zs => by rw [List.map_cons, PyData.depthAll, depthAll_ints zs]; rfl
theorem depth_ints (zs : List Int) : (dI zs).depth = 1 := by
  show PyData.depthAll (zs.map PyData.int) + 1 = 1
  rw [depthAll_ints]
theorem shaped_ints (zs : List Int) : SeqAt.shaped (dI zs) = true := Bool.and_eq_true_iff.mpr ⟨lay_ints zs, decide_eq_true (by rw [depth_ints]; decide)⟩
theorem eqv_ints (zs : List Int) : PyData.eqv (dI zs) (dI zs) = true := SeqAt.eqv_refl _ (lay_ints zs)
/-! len by a reading that names K -/
def rLenS (K : PySem.W.Frag) : List V → Hp → VK → Prop := fun xs H Q => ∃ (p : Addr) (ys : List V), xs = [.ref p] ∧ (SqL K H p ys ∨ SqT K H p ys) ∧ Q (.int ys.length) H
theorem call_lenS {X : Cx} : CallR X (.builtin "len") (rLenS X.K) := call_len_seq
theorem nn_sum : ∀ {ws : List Int}, (∀ w ∈ ws, 0 ≤ w) → 0 ≤ ws.sum
  | [], _ => by simp
  | w :: ws, h => by
    have h1 := h w (List.mem_cons_self ..)
    have h2 := nn_sum (ws := ws) fun x hx => h x (List.mem_cons_of_mem _ hx)
    rw [List.sum_cons]
    omega
theorem pos_sum : ∀ {ws : List Int} {j : Nat} {x : Int}, (∀ w ∈ ws, 0 ≤ w) → ws[j]? = some x → 0 < x → 0 < ws.sum
  | [], _, _, _, h, _ => by simp at h
  | w :: ws, 0, x, hw, h, hx => by
    have e : w = x := Option.some.inj h
    have h2 := nn_sum (ws := ws) fun x hx => hw x (List.mem_cons_of_mem _ hx)
    rw [List.sum_cons]
    omega
  | w :: ws, j + 1, x, hw, h, hx => by
    have h1 := hw w (List.mem_cons_self ..)
    have h2 := pos_sum (ws := ws) (j := j) (x := x) (fun x hx => hw x (List.mem_cons_of_mem _ hx)) h hx
    rw [List.sum_cons]
    omega
theorem cut_ints (ws : List Int) (lo hi : Option Int) : ∃ ys : List Int, cutV (ws.map V.int) lo hi = ys.map V.int := by
  unfold cutV
  exact ⟨(ws.drop _).take _, by rw [List.map_take, List.map_drop]⟩
end Th
namespace Sl
open PySem PySem.Spec PyProof.Rows L2
/-- the object of a set just made -/
abbrev set0 (w : World) : Obj := { cls := .type "set", dict := none, data := .set #[] 0 (.fresh 0 0 (!w.params.followText "set-order")) }
section
variable {P : Program} {w : World} {A : Around} {E : Value → Shared → Prop} {s : Shared}
set_option maxHeartbeats 8000000 in
/-- set(xs) of a list of whole numbers -/
theorem set_of_ints {l : Addr} {its : Array Value} (ns : List Int) {Q : Value → Shared → Prop} (nh : A.handled = none) (il : s.heap.IsList l its) (ii : IntsAre its.toList ns) (nb : ns.length + 1 < scanBound)
    (fin : ∀ (g : Heap) (tk c : Nat), SetR w g s.heap.objs.size (fun j => decide (j ∈ ns)) c → c ≤ ns.length → (∀ b o, s.heap.get? b = some o → g.get? b = some o) → Q (.ref s.heap.objs.size) { s with heap := g, toks := tk }) :
    wpAny (model P w) A (call (.type "set") [.ref l]) Q E s := by
  have isz : its.size = ns.length := by
    have z := IntsAre.length ii
    rwa [Array.length_toList] at z
  obtain ⟨_, _, mro⟩ := F.called_set.mro
  have m1 := F.called_set.made
  have m2 := F.called_set.sub
  have m3 := F.called_set.notType
  have m4 := F.called_set.canCreate
  have m5 := F.typeCall_set_1 (.ref l)
  refine wpAny_call (codeAny_of_tree (?_ : wpAny _ _ (callAny (.type "set") _) _ _ _))
  refine wpAny_pure ⟨Code.quiet_builtin _ (by decide +kernel), codeAny_builtin F.entry_type_call ?_⟩
  rw [Around.under_plain (weight_type_call_type "set" [.ref l] []) rfl]
  repeat (any_goals (first | assumption | wp_step))
  refine codeAny_mono (code_set_led1 (.ref l) (E := E) (Q₁ := fun ob z => ob = .ref s.heap.objs.size ∧ z = { s with heap := s.heap.push (set0 w) }) ⟨rfl, rfl⟩) fun r z hz => ?_
  cases r with
  | error e => exact hz
  | ok fl =>
    cases fl with
    | ret ob =>
      obtain ⟨rfl, rfl⟩ := hz
      have zS : (s.heap.push (set0 w)).get? s.heap.objs.size = some (set0 w) := Heap.get?_push_size _ rfl
      have zT : Shared.TypeIs { s with heap := s.heap.push (set0 w) } (.ref s.heap.objs.size) "set" := ⟨_, zS, rfl⟩
      have n1 := F.called_set.init.lookup
      have n2 := F.called_set.init.bind (.ref s.heap.objs.size)
      repeat (any_goals (first | assumption | wp_step))
      refine codeAny_mono (codeAny_call_builtin (R := wants (fun r z => r = .none ∧ ∃ g tk c, z = { s with heap := g, toks := tk } ∧ SetR w g s.heap.objs.size (fun j => decide (j ∈ ns)) c ∧ c ≤ ns.length ∧ ∀ b o, s.heap.get? b = some o → g.get? b = some o) E)
        F.called_set.init.plain F.entry_set_init (check_set_init_1 zT ?_)) fun r2 z2 hz2 => ?_
      · obtain ⟨⟨oc, od, odt, osl⟩, ol, c1, nl, c2⟩ := il
        simp only at c1 c2
        subst c1 c2
        have ol2 : (s.heap.push (set0 w)).get? l = some { cls := .type "list", dict := od, data := .seq its nl, slots := osl } := Heap.get?_push_of_some _ ol
        have k1 := F.sub_list_set
        have k2 := F.sub_list_frozenset
        have k3 : (Value.type "list" == Value.type "dict") = false := by decide
        have il2 : (s.heap.push (set0 w)).IsList l its := ⟨_, ol2, rfl, nl, rfl⟩
        unfold Builtin.«set.__init__» noKeywords Builtin.Frozenset.updateFrom
        generalize ePI : pyIter = PI
        wp_walk
        subst ePI
        refine wpAny_pyIter_list il2 (wpAny_bind (wpAny_runValue ?_))
        have lS : l < s.heap.objs.size := Heap.lt_size ol
        have h3 : A.in1.in1.in1.handled = none := by simp [nh]
        have nI : l ≠ (s.heap.push (set0 w)).objs.size := by
          rw [Heap.size_push]
          exact Nat.ne_of_lt (Nat.lt_succ_of_lt lS)
        have nf : s.heap.objs.size ∉ [(s.heap.push (set0 w)).objs.size, l] := by
          rw [Heap.size_push]
          simp only [List.mem_cons, List.not_mem_nil, or_false, not_or]
          exact ⟨Nat.ne_of_lt (Nat.lt_succ_self _), Nat.ne_of_gt lS⟩
        have vl : ∀ (i : Nat) (v : Value), its[i]? = some v → ∃ k t, ns[i]? = some k ∧ v = .int k t := fun i v hv => by
          have hi : i < ns.length := by rw [← isz]; exact (Array.getElem?_eq_some_iff.mp hv).1
          obtain ⟨t, e⟩ := IntsAre.int_at ii i v (by rw [Array.getElem?_toList]; exact hv)
          refine ⟨ns[i], t, List.getElem?_eq_getElem hi, ?_⟩
          rw [e, List.getD_eq_getElem?_getD, List.getElem?_eq_getElem hi] <;> rfl
        refine set_update_ints ((Walks.list h3 _ l nI its).toS) s.heap.objs.size nf ns isz nb vl (its.size - 0) 0 _ (by omega) (Nat.zero_le _) ⟨⟨_, Heap.get?_push_size _ rfl, rfl, rfl⟩, il2.push _⟩ ?zStart ?zEnd
        case zStart => exact ⟨0, Nat.le_refl 0, setR_new_at (Heap.get?_push_of_some _ zS)⟩
        case zEnd =>
          intro z c hm hc hS
          obtain ⟨g, gg, dd, tk, os⟩ := z
          have e1 : gg = s.gens := hm.gens
          have e2 : dd = s.drawn := hm.drawn
          have e3 : os = s.os := hm.os
          subst e1 e2 e3
          refine wpAny_pure (?_ : wpAny _ _ (ret Value.none) _ _ _)
          rw [isz] at hc
          refine wpAny_pure ⟨rfl, g, tk, c, rfl, hS, hc, fun b o e => ?_⟩
          have b0 : b < s.heap.objs.size := Heap.lt_size e
          refine hm.heap b o ?_ (Heap.get?_push_of_some _ (Heap.get?_push_of_some _ e))
          rw [Heap.size_push]
          simp only [List.mem_cons, List.not_mem_nil, or_false, not_or]
          exact ⟨Nat.ne_of_lt b0, Nat.ne_of_lt (Nat.lt_succ_of_lt b0)⟩
      · cases r2 with
        | error e => exact hz2
        | ok f2 =>
          cases f2 with
          | ret r =>
            obtain ⟨rfl, g, tk, c, rfl, q1, q2, q3⟩ := hz2
            repeat (any_goals (first | assumption | wp_step))
            exact fin _ _ _ q1 q2 q3
          | _ => exact hz2.elim
    | _ => exact hz.elim
end
def rSetI (K : PySem.W.Frag) (w : World) : List V → Hp → VK → Prop := fun xs H Q => ∃ (l : Addr) (ns : List Int), xs = [.ref l] ∧ SqL K H l (ns.map V.int) ∧ ns.length ≤ 1000 ∧ ∀ p c, H p = none → c ≤ ns.length → Q (.ref p) (upd H p (SetO w p (fun j => decide (j ∈ ns)) c))
theorem call_setI {X : Cx} (hc : X.calm = true) : CallR X (.type "set") (rSetI X.K X.w) := by
  intro pins s σ H xs us Q I r h
  obtain ⟨l, ns, rfl, hs, hl, q⟩ := h
  rw [Vals.ref1 r]
  obtain ⟨its, rv, pl, hz⟩ := I.list hs
  refine set_of_ints ns (I.ok.hd hc) pl.isList (ints_of_vals rv) (by unfold scanBound; omega) fun g tk c R hcn k => ?_
  exact ⟨.ref _, _, I.laid (t' := tk) k (Nat.le_refl _) (setO_new R), rfl, q _ c (I.hok.fresh (Nat.le_refl _)) hcn⟩
end Sl
/-! y = {k: v for .. in ..}, y a local name of a def -/
namespace Ds
open PySem PySem.Spec PyProof.Rows L2
section
variable {X : Cx}
theorem ps_setDc {i : Nat} {y : Str} {py : Pos} {kx vx tg iter : Expr} {ifs : List Expr} {scope : Scope} {own : List (Str × Nat)} {pos spos : Pos} {wi : TI} {g : TG} {tt : TT} {tk tv : TE} (hc : X.calm = true) (hN : X.N.Nodup) (hy : X.N[i]? = some y) (hyl : X.env.scope.names.lookup y = some .local)
    (hsw : swapsWith (.DictComp kx vx [⟨tg, iter, ifs, 0⟩] scope pos) (some (.Name y py)) spos.line X.env = pure true) (hi : PI X tg iter wi) (ok : BlkOk X.N X.env.scope scope own)
    (hg : ∀ (s : Shared) (H : Hp) (C : Addr) (cl : List (Str × Addr)) (fp : List Addr), PG (X.blk s H scope (compEnvC scope cl C X.env) fp) tg g) (ht : ∀ (s : Shared) (H : Hp) (C : Addr) (cl : List (Str × Addr)) (fp : List Addr), PTs (X.blk s H scope (compEnvC scope cl C X.env) fp) ifs tt)
    (hk : ∀ (s : Shared) (H : Hp) (C : Addr) (cl : List (Str × Addr)) (fp : List Addr), PE (X.blk s H scope (compEnvC scope cl C X.env) fp) kx tk)
    (he : ∀ (s : Shared) (H : Hp) (C : Addr) (cl : List (Str × Addr)) (fp : List Addr), PE (X.blk s H scope (compEnvC scope cl C X.env) fp) vx tv) (hs : ∀ x, foldedSetIterable iter X.env x = pure x := by intro _; rfl) :
    PS X (.Assign [.Name y py] (.DictComp kx vx [⟨tg, iter, ifs, 0⟩] scope pos) spos) (tAsg (tDc wi g tt tk tv (own.map (·.2))) (gName i)) := by
  refine ⟨fun pins s σ H D I h => ?_⟩
  rw [exec_Assign_Name_used _ _ _ _ hsw]
  refine wpAny_bind (wpAny_standAt (wpAny_bind ?_))
  show wpAny _ X.A (do let _ ← comprehension (.DictComp kx vx [⟨tg, iter, ifs, 0⟩] scope pos) scope X.env (firstIterPos [⟨tg, iter, ifs, 0⟩] pos) newDict false (eval iter X.env) (some (assign (.Name y py) X.env))) _ _ s
  have h : tDc wi g tt tk tv (own.map (·.2)) σ H (fun x H1 => gName i x σ H1 D.nx) := h
  refine wpAny_bind (thn (dc_core (Qf := fun _ s' => SP X pins D .next s') hc hN I hi ok hg ht hk he hs h fun L C s' m H' I' q hn f => ?_) fun _ s' hq => wpAny_pure (wpAny_pure hq))
  show wpAny _ _ (assign (.Name y py) X.env (.ref L)) _ _ _
  refine wpAny_assign_Name (store_ok2 (v := V.ref L) I' hN hy (.inl hyl) rfl (fun s2 I2 ⟨a, sb, ha⟩ => ?_) (.inr hyl))
  obtain ⟨f0, f1, f2, f3, f4, f5⟩ := f
  have haC : C ≠ a := by
    rcases ha with z | z
    · rw [z]; exact f1
    · exact fun e => f4 y a z e.symm
  refine ⟨m, hn.sameBut sb haC, fun h3 sb3 => ?_⟩
  exact ⟨_, H', I2.turned (t' := s2.toks) (fun b o hb e => (sb3.2 b hb).trans e) f0 f1 f3 f4 f5, q⟩
theorem sw_trueD {kx vx : Expr} {gs : List Comprehension} {scope : Scope} {pos py : Pos} {y : Str} {l : Nat} {env : Env} (hk : env.scope.kind = .function) (hy : env.scope.names.lookup y = some .local) (hl : (py.line == pos.line) = true)
    (ha : (scope.names.any fun (n, k) => n == y && (k == .local || k == .cell)) = false) : swapsWith (.DictComp kx vx gs scope pos) (some (.Name y py)) l env = pure true := by
  have ky : env.kindOf y = some .local := hy
  have hb : env.blockKind = .function := by unfold Env.blockKind; rw [hk]; rfl
  unfold swapsWith
  simp only [hb, ky, ha, Expr.pos, hl]
  rfl
end
end Ds
/-! sets of texts: their members as a list; a comprehension of two clauses; sorted of it -/
namespace Ss
open PySem PySem.Spec PyProof.Rows L2
def kOf (e : Int × Value) : Str := match e.2 with
  | .str k _ => k
  | _ => ⟨#[]⟩
def Gd (w : World) (e : Int × Value) : Prop := ∃ k tk, e.2 = Value.str k tk ∧ e.1 = hashStr w k
def addL (L : List Str) (k : Str) : List Str := if k ∈ L then L else k :: L
theorem mem_addL {L : List Str} {k x : Str} : x ∈ addL L k ↔ x = k ∨ x ∈ L := by
  unfold addL
  split
  · exact ⟨.inr, fun z => z.elim (fun e => by rw [e]; assumption) id⟩
  · exact List.mem_cons
theorem nd_addL {L : List Str} {k : Str} (h : L.Nodup) : (addL L k).Nodup := by
  unfold addL
  split
  · exact h
  · exact List.nodup_cons.mpr ⟨by assumption, h⟩
abbrev Led (w : World) (t : SetTable) : Prop := w.params.followText "set-order" = true ∨ t.led = true
/-- the set of texts at a, its members the list L -/
def SetS (w : World) (h : Heap) (a : Addr) (L : List Str) : Prop := ∃ o es ep t, h.get? a = some o ∧ o.ExactSet ∧ o.data = .set es ep t ∧ (∀ e ∈ es.toList, Gd w e) ∧ (es.toList.map kOf).Perm L ∧ L.Nodup ∧ es.size < scanBound ∧ t.fits es.size = true ∧ Ris t.place.toList ∧ Led w t
section
variable {P : Program} {w : World} {A : Around} {E : Value → Shared → Prop} {s : Shared} {a : Addr} {L : List Str} {h h' : Heap}
theorem isS (k : Str) (u : Tok) : (PySem.strKind P w).is k (.str k u) = true := by show Value.isStrOf k (.str k u) = true; simp [Value.isStrOf]
theorem SetS.at (R : SetS w h a L) (k : ∀ o, h.get? a = some o → h'.get? a = some o) : SetS w h' a L := let ⟨o, es, ep, t, ho, r⟩ := R; ⟨o, es, ep, t, k o ho, r⟩
theorem gd_elems {l : List (Int × Value)} (g : ∀ e ∈ l, Gd w e) : ElemsOf (PySem.strKind P w) l := fun e he => let ⟨k, tk, h1, h2⟩ := g e he; ⟨⟨k, h1 ▸ isS k tk, h2⟩, by rw [h1]; rfl⟩
theorem gd_is {e : Int × Value} (g : Gd w e) (k : Str) : (PySem.strKind P w).is k e.2 = true ↔ kOf e = k := by
  obtain ⟨k0, tk, h1, -⟩ := g
  have ek : kOf e = k0 := by unfold kOf; rw [h1]
  rw [ek, h1]
  constructor
  · intro z
    obtain ⟨t, et⟩ := Value.isStrOf_shape (x := k) (v := .str k0 tk) z
    injection et
  · intro z
    rw [z]
    exact isS k tk
theorem gd_mem {l : List (Int × Value)} (g : ∀ e ∈ l, Gd w e) (k : Str) : k ∈ l.map kOf ↔ ∃ e ∈ l, (PySem.strKind P w).is k e.2 = true :=
  ⟨fun z => let ⟨e, he, q⟩ := List.mem_map.mp z; ⟨e, he, (gd_is (g e he) k).2 q⟩, fun ⟨e, he, q⟩ => List.mem_map.mpr ⟨e, he, (gd_is (g e he) k).1 q⟩⟩
theorem SetS.len (R : SetS w h a L) : ∀ {o es ep t}, h.get? a = some o → o.data = .set es ep t → es.size = L.length := by
  obtain ⟨o', es', ep', t', ho', _, hd', _, pm, _⟩ := R
  intro o es ep t ho hd
  rw [ho'] at ho
  cases ho
  rw [hd'] at hd
  cases hd
  have z := pm.length_eq
  rw [List.length_map, Array.length_toList] at z
  exact z
theorem SetS.setOf (R : SetS w h a L) : h.SetOf (PySem.strKind P w) a (fun k => decide (k ∈ L)) L.length := by
  have hlen := @SetS.len _ _ _ _ R
  obtain ⟨o, es, ep, t, ho, hx, hd, g, pm, nd, hb, hf, -⟩ := R
  exact ⟨o, es, ep, t, ho, hx, hd, gd_elems g, fun k => by rw [decide_eq_true_eq, ← pm.mem_iff]; exact gd_mem g k, hb, hf, hlen ho hd⟩
theorem putS {o : Obj} {es es' : Array (Int × Value)} {ep : Nat} {t t' : SetTable} (ho : h.get? a = some o) (hd : o.data = .set es ep t) : (h.update a (Obj.putSet es' t')).get? a = some { o with data := .set es' (ep + 1) t' } := by
  have z := Heap.get?_update_self (Obj.putSet es' t') ho (by rw [putSet_of es' t' hd]; rfl)
  rwa [putSet_of es' t' hd] at z
/-- the store behind an add, with the table laid anew where it is too full -/
theorem tailS {g : Bool → Sem Unit} (hg : ∀ (b : Bool) (s1 : Shared) (Q1 : Unit → Shared → Prop), Q1 () s1 → wpAny (model P w) A (g b) Q1 E s1) {o : Obj} {es : Array (Int × Value)} {ep : Nat} {t : SetTable} (ho : s.heap.get? a = some o) (hex : o.ExactSet) (hd : o.data = .set es ep t)
    {fs : Array (Int × Value)} {u : SetTable} {M : List Str} (gf : ∀ e ∈ fs.toList, Gd w e) (pf : (fs.toList.map kOf).Perm M) (nf : M.Nodup) (bf : fs.size < scanBound) (ff : u.fits fs.size = true) (rf : Ris u.place.toList) (lf : Led w u) {dm : Bool} {R : Option Bool → Shared → Prop}
    (hR : ∀ h', Heap.SameBut a s.heap h' → SetS w h' a M → R (some true) { s with heap := h' }) :
    wpAny (model P w) A (do
        storeSet a fs u
        if (!dm && u.tooFull) = true then do
            g (relayAll u fs (SetTable.grown fs.size)).2.2
            storeSet a (relayAll u fs (SetTable.grown fs.size)).1 (relayAll u fs (SetTable.grown fs.size)).2.1
            pure (some true)
          else pure (some true)) R E s := by
  refine wpAny_bind (wpAny_storeSet_of ho hd ?_ (fits_of_scanBound bf))
  have h1 := putS (es' := fs) (t' := u) ho hd
  have b1 := Heap.SameBut.update s.heap a (Obj.putSet fs u)
  split
  · have pm := relayAll_perm u fs (SetTable.grown fs.size)
    have f3 := relayAll_fits u fs (SetTable.grown fs.size)
    have r3 := relayAll_ris u fs (SetTable.grown fs.size)
    have l3 := relayAll_led u fs (SetTable.grown fs.size)
    generalize relayAll u fs (SetTable.grown fs.size) = Z at pm f3 r3 l3 ⊢
    obtain ⟨gs, v, gave⟩ := Z
    dsimp only at pm f3 r3 l3 ⊢
    have hz : gs.size = fs.size := by
      have z := pm.length_eq
      rwa [Array.length_toList, Array.length_toList] at z
    have bg : gs.size < scanBound := hz ▸ bf
    refine wpAny_bind (hg _ _ _ (wpAny_bind (wpAny_storeSet_of h1 rfl ?_ (fits_of_scanBound bg))))
    have h2 := putS (es' := gs) (t' := v) h1 rfl
    exact wpAny_pure (hR _ (b1.trans (Heap.SameBut.update _ a _)) ⟨_, gs, _, v, h2, hex, rfl, fun e he => gf e (pm.mem_iff.mp he), (pm.map kOf).trans pf, nf, bg, f3, r3, lf.imp id fun z => l3.trans z⟩)
  · exact wpAny_pure (hR _ b1 ⟨_, fs, _, u, h1, hex, rfl, gf, pf, nf, bf, ff, rf, lf⟩)
theorem addS_hashed {k : Str} {tk : Tok} {Q : Bool → Shared → Prop} (R : SetS w s.heap a L) (room : L.length + 1 < scanBound)
    (hQ : ∀ h' b, Heap.SameBut a s.heap h' → SetS w h' a (addL L k) → Q b { s with heap := h' }) : wpAny (model P w) A (setAddHashed a (.str k tk) ((PySem.strKind P w).hash k)) Q E s := by
  have hlen := @SetS.len _ _ _ _ R
  obtain ⟨o, es, ep, t, ho, hex, hd, g, pmL, nd, hb, hf, hr, hl⟩ := R
  have hn : es.size = L.length := hlen ho hd
  have hsc : (Value.str k tk).scannable = true := rfl
  have hel : ElemsOf (PySem.strKind P w) es.toList := gd_elems g
  unfold setAddHashed setAddHashedIn
  refine wpAny_holding (wpAny_bind (wpAny_setState_of ho hd hf ?_))
  dsimp only
  rw [byScan_of hsc hb hel]
  simp only [↓reduceIte]
  unfold setAddByScan
  refine wpAny_bind (wpAny_bind (wpAny_rule (wpAny_bind (wpAny_setScan_of (isS k tk) ho hd hf hel ?_))))
  cases hfi : List.findIdx? (fun e => (PySem.strKind P w).is k e.2) es.toList with
  | some j =>
    dsimp only
    obtain ⟨hj, pj, -⟩ := List.findIdx?_eq_some_iff_getElem.mp hfi
    have hk : k ∈ L := pmL.mem_iff.mp ((gd_mem (P := P) g k).2 ⟨es.toList[j], List.getElem_mem hj, pj⟩)
    have eL : addL L k = L := by unfold addL; rw [if_pos hk]
    exact wpAny_pure (wpAny_pure (hQ s.heap _ (Heap.SameBut.refl a s.heap) ⟨o, es, ep, t, ho, hex, hd, g, by rw [eL]; exact pmL, nd_addL nd, hb, hf, hr, hl⟩))
  | none =>
    dsimp only
    have hk : k ∉ L := fun z => by
      obtain ⟨e, he, q⟩ := (gd_mem (P := P) g k).1 (pmL.mem_iff.mpr z)
      have c := List.findIdx?_eq_none_iff.mp hfi e he
      rw [q] at c
      cases c
    have eL : addL L k = k :: L := by unfold addL; rw [if_neg hk]
    have pm := layNew_perm t es ((PySem.strKind P w).hash k) (.str k tk)
    have f1 := layNew_fits t es ((PySem.strKind P w).hash k) (.str k tk)
    have r1 := layNew_ris t es ((PySem.strKind P w).hash k) (.str k tk) hr
    have l1 := layNew_led t es ((PySem.strKind P w).hash k) (.str k tk)
    generalize layNew t es ((PySem.strKind P w).hash k) (.str k tk) = Z at pm f1 r1 l1 ⊢
    obtain ⟨fs, u, dm, gave⟩ := Z
    dsimp only at pm f1 r1 l1 ⊢
    rw [Array.toList_push] at pm
    have pc : fs.toList.Perm (((PySem.strKind P w).hash k, Value.str k tk) :: es.toList) := pm.trans (List.perm_append_singleton _ _)
    have pf : (fs.toList.map kOf).Perm (addL L k) := by rw [eL]; exact (pc.map kOf).trans (pmL.cons k)
    have gf : ∀ e ∈ fs.toList, Gd w e := fun e he => (List.mem_cons.mp (pc.mem_iff.mp he)).elim (fun z => z ▸ ⟨k, tk, rfl, rfl⟩) (g e)
    have hz : fs.size = L.length + 1 := by rw [← Array.length_toList, pc.length_eq, List.length_cons, Array.length_toList, hn]
    have bf : fs.size < scanBound := hz ▸ room
    have lf : Led w u := hl.imp id fun z => l1.trans z
    have gw : ∀ (b : Bool) (s1 : Shared) (Q1 : Unit → Shared → Prop), Q1 () s1 → wpAny (model P w) A (match b with | true => rule "set.scan.the-table-gave-way" | false => pure ()) Q1 E s1 :=
      fun b s1 Q1 z => by cases b <;> first | exact wpAny_pure z | exact wpAny_rule z
    refine wpAny_bind (gw _ _ _ ?_)
    split
    · refine wpAny_bind ?_
      rw [hashByValue_scannable 8 hsc]
      refine wpAny_pure ?_
      refine tailS ?_ ho hex hd gf pf (nd_addL nd) bf ?_ ?_ ?_ fun h' sb r => by dsimp only; exact wpAny_pure (hQ h' _ sb r)
      · intro b s1 Q1 z; cases b <;> first | exact wpAny_pure z | exact wpAny_rule z
      · first | (split <;> first | exact f1 | exact SetTable.fits_plain_off f1) | exact f1
      · first | (split <;> exact r1) | exact r1
      · first | (split <;> exact lf) | exact lf
    · refine wpAny_bind (wpAny_pure ?_)
      simp only [↓reduceIte]
      refine tailS ?_ ho hex hd gf pf (nd_addL nd) bf f1 r1 lf ?_
      · intro b s1 Q1 z; cases b <;> first | exact wpAny_pure z | exact wpAny_rule z
      · intro h' sb r; dsimp only; exact wpAny_pure (hQ h' _ sb r)
theorem addS {k : Str} {tk : Tok} {Q : Value → Shared → Prop} (R : SetS w s.heap a L) (room : L.length + 1 < scanBound)
    (hQ : ∀ h', Heap.SameBut a s.heap h' → SetS w h' a (addL L k) → Q .none { s with heap := h', toks := s.toks + 1 }) : wpAny (model P w) A (call (.builtin "set.add") [.ref a, .str k tk]) Q E s := by
  have hS : s.heap.SetOf (PySem.strKind P w) a (fun k => decide (k ∈ L)) L.length := R.setOf
  refine wpAny_call_entry F.slot_set_add hS.typeIs F.entry_set_add ?_ (F.args_set_add_2 _ _)
  unfold Builtin.«set.add» Builtin.Frozenset.oneOther
  simp only [List.isEmpty_nil, bind_assoc]
  unfold Builtin.Frozenset.addrOf setAdd
  refine wpAny_bind (wpAny_pure ?_)
  try dsimp only
  refine wpAny_bind (wpAny_pure ?_)
  try dsimp only
  refine wpAny_bind (wpAny_holding (wpAny_bind ((PySem.strKind P w).pyHash (isS k tk) ?_)))
  refine addS_hashed (s := { s with toks := s.toks + 1 }) R room fun h' b sb r => ?_
  show wpAny _ _ (ret Value.none) _ _ _
  exact wpAny_pure ⟨_, rfl, hQ h' sb r⟩
end
/-! a comprehension of two clauses -/
abbrev SC2 (elt t0 i0 t1 i1 : Expr) (f0 f1 : List Expr) (sc : Scope) (pos : Pos) : Expr := .SetComp elt [⟨t0, i0, f0, 0⟩, ⟨t1, i1, f1, 0⟩] sc pos
abbrev Tests (prog : Program) (w : World) (A : Around) (fs : List Expr) (env : Env) (Q : Bool → Shared → Prop) (E : Value → Shared → Prop) (s : Shared) : Prop :=
  wpAny (model prog w) A (forIn fs true fun c r => if r = true then do let ok ← isTrue c env (eval c env); pure (ForInStep.yield ok) else pure (ForInStep.yield r)) Q E s
section
variable {prog : Program} {w : World} {A : Around} {R : Result → Shared → Prop} {s : Shared} {elt t0 i0 t1 i1 : Expr} {f0 f1 : List Expr} {sc : Scope} {pos : Pos} {it acc : Value} {env : Env}
theorem turnOut : compTurn (SC2 elt t0 i0 t1 i1 f0 f1 sc pos) 0 it acc env = (do
      standAt i0.pos
      match ← pyNext it with
      | none => pure (.done .next)
      | some v =>
        letOwnedTupleGo t0 it v
        assign t0 env v
        let mut ok := true
        for c in f0 do
          if ok then ok ← isTrue c env (eval c env)
        if ok then
          let x ← eval i1 env
          standAt i1.pos
          let x ← foldedSetIterable i1 env x
          let _ ← runOwn (.compStart (SC2 elt t0 i0 t1 i1 f0 f1 sc pos) 1 (← holding [x] (pyIter x)) acc env) env
        again (.compLoop (SC2 elt t0 i0 t1 i1 f0 f1 sc pos) 0 it acc env)) := by rfl
theorem turnIn : compTurn (SC2 elt t0 i0 t1 i1 f0 f1 sc pos) 1 it acc env = (do
      standAt i1.pos
      match ← pyNext it with
      | none => pure (.done .next)
      | some v =>
        letOwnedTupleGo t1 it v
        assign t1 env v
        let mut ok := true
        for c in f1 do
          if ok then ok ← isTrue c env (eval c env)
        if ok then
          (do let v ← eval elt env; standAt elt.pos; let _ ← call (.builtin "set.add") [acc, v])
        again (.compLoop (SC2 elt t0 i0 t1 i1 f0 f1 sc pos) 1 it acc env)) := by rfl
abbrev Er (prog : Program) (w : World) (A : Around) (env : Env) (R : Result → Shared → Prop) : Value → Shared → Prop := notedBy (model prog w) A env fun e s' => R (.error e) s'
theorem loopOut (hs : ∀ x, foldedSetIterable i1 env x = pure x) (I : Nat → Shared → Prop)
    (turn : ∀ n s, I n s → wpAny (model prog w) A (pyNext it) (fun r s1 => match r with
      | none => R (.ok .next) s1
      | some v => wpAny (model prog w) A (letOwnedTupleGo t0 it v) (fun _ s2 => wpAny (model prog w) A (assign t0 env v) (fun _ s3 => Tests prog w A f0 env (fun ok s4 =>
            if ok = true then wpAny (model prog w) A (eval i1 env) (fun x s5 => wpAny (model prog w) A (pyIter x) (fun it1 s6 => codeAny (model prog w) A (.compStart (SC2 elt t0 i0 t1 i1 f0 f1 sc pos) 1 it1 acc env) (fun r s' => match r with
                | .ok _ => ∃ m, m < n ∧ I m s'
                | .error _ => False) s6) (Er prog w A env R) s5) (Er prog w A env R) s4
            else ∃ m, m < n ∧ I m s4) (Er prog w A env R) s3) (Er prog w A env R) s2) (Er prog w A env R) s1) (Er prog w A env R) s) (n : Nat) (h : I n s) :
    codeAny (model prog w) A (.compLoop (SC2 elt t0 i0 t1 i1 f0 f1 sc pos) 0 it acc env) R s := by
  refine codeAny_loop rfl I (fun n s hI => ?_) n h
  show wpAny _ A ((compTurn (SC2 elt t0 i0 t1 i1 f0 f1 sc pos) 0 it acc env).onRaise (fun x => do noteFrame x env; theTreesLotGoes x)) _ _ s
  refine wpAny_noted ?_
  rw [turnOut]
  refine wpAny_bind (wpAny_standAt (wpAny_bind (wpAny_mono (turn n s hI) (fun r s1 h1 => ?_) fun _ _ z => z)))
  cases r with
  | none => exact wpAny_pure h1
  | some v =>
    refine wpAny_bind (wpAny_mono h1 (fun _ s2 h2 => wpAny_bind (wpAny_mono h2 (fun _ s3 h3 => wpAny_bind (wpAny_mono h3 (fun ok s4 h4 => ?_) fun _ _ z => z)) fun _ _ z => z)) fun _ _ z => z)
    cases ok with
    | false => exact wpAny_pure ⟨rfl, h4⟩
    | true =>
      refine wpAny_bind (wpAny_mono h4 (fun x s5 h5 => wpAny_bind (wpAny_standAt (wpAny_bind (wpAny_of_eq (hs x) (wpAny_bind (wpAny_holding (wpAny_mono h5 (fun it1 s6 h6 => ?_) fun _ _ z => z))))))) fun _ _ z => z)
      refine wpAny_bind (wpAny_runOwn ?_)
      rw [Around.mark_none]
      refine codeAny_mono h6 fun r s' hr => ?_
      cases r with
      | ok f => first | exact wpAny_pure ⟨rfl, hr⟩ | exact wpAny_bind (wpAny_pure (wpAny_pure ⟨rfl, hr⟩))
      | error e => exact hr.elim
theorem loopIn (I : Nat → Shared → Prop)
    (turn : ∀ n s, I n s → wpAny (model prog w) A (pyNext it) (fun r s1 => match r with
      | none => R (.ok .next) s1
      | some v => wpAny (model prog w) A (letOwnedTupleGo t1 it v) (fun _ s2 => wpAny (model prog w) A (assign t1 env v) (fun _ s3 => Tests prog w A f1 env (fun ok s4 =>
            if ok = true then wpAny (model prog w) A (eval elt env) (fun x s5 => wpAny (model prog w) A (call (.builtin "set.add") [acc, x]) (fun _ s6 => ∃ m, m < n ∧ I m s6) (Er prog w A env R) s5) (Er prog w A env R) s4
            else ∃ m, m < n ∧ I m s4) (Er prog w A env R) s3) (Er prog w A env R) s2) (Er prog w A env R) s1) (Er prog w A env R) s) (n : Nat) (h : I n s) :
    codeAny (model prog w) A (.compLoop (SC2 elt t0 i0 t1 i1 f0 f1 sc pos) 1 it acc env) R s := by
  refine codeAny_loop rfl I (fun n s hI => ?_) n h
  show wpAny _ A ((compTurn (SC2 elt t0 i0 t1 i1 f0 f1 sc pos) 1 it acc env).onRaise (fun x => do noteFrame x env; theTreesLotGoes x)) _ _ s
  refine wpAny_noted ?_
  rw [turnIn]
  refine wpAny_bind (wpAny_standAt (wpAny_bind (wpAny_mono (turn n s hI) (fun r s1 h1 => ?_) fun _ _ z => z)))
  cases r with
  | none => exact wpAny_pure h1
  | some v =>
    refine wpAny_bind (wpAny_mono h1 (fun _ s2 h2 => wpAny_bind (wpAny_mono h2 (fun _ s3 h3 => wpAny_bind (wpAny_mono h3 (fun ok s4 h4 => ?_) fun _ _ z => z)) fun _ _ z => z)) fun _ _ z => z)
    cases ok with
    | false => exact wpAny_pure ⟨rfl, h4⟩
    | true => exact wpAny_bind (wpAny_bind (wpAny_mono h4 (fun x s5 h5 => wpAny_bind (wpAny_standAt (wpAny_bind (wpAny_mono h5 (fun _ s6 h6 => wpAny_pure (wpAny_pure ⟨rfl, h6⟩)) fun _ _ z => z)))) fun _ _ z => z))
theorem startIn (h0 : codeAny (model prog w) A (.compLoop (SC2 elt t0 i0 t1 i1 f0 f1 sc pos) 1 it acc env) R s)
    (h : wpAny (model prog w) A (pyIter it) (fun it' s' => codeAny (model prog w) A (.compLoop (SC2 elt t0 i0 t1 i1 f0 f1 sc pos) 1 it' acc env) R s') (Er prog w A env R) s) :
    codeAny (model prog w) A (.compStart (SC2 elt t0 i0 t1 i1 f0 f1 sc pos) 1 it acc env) R s := by
  refine codeAny_of_tree ?_
  show wpAny _ _ ((compStart (SC2 elt t0 i0 t1 i1 f0 f1 sc pos) 1 it acc env).onRaise (fun x => do noteFrame x env; standAt theWindowsPlace)) _ _ s
  refine wpAny_notedAt ?_
  unfold compStart
  show wpAny _ _ (ask >>= _) _ _ s
  refine wpAny_bind (wpAny_askSetting (wpAny_ite ?_))
  split
  · first | exact wpAny_bind (wpAny_pure (wpAny_pure (And.intro rfl h0))) | exact wpAny_pure (And.intro rfl h0)
  · first
      | exact wpAny_bind (wpAny_rule (wpAny_bind (wpAny_standAt (wpAny_bind (wpAny_mono h (fun it' s' z => wpAny_pure (And.intro rfl z)) fun _ _ z => z)))))
      | (refine wpAny_bind (wpAny_rule ?_); show wpAny _ _ (standAt i1.pos >>= _) _ _ s; exact wpAny_bind (wpAny_standAt (wpAny_bind (wpAny_mono h (fun it' s' z => wpAny_pure (And.intro rfl z)) fun _ _ z => z))))
end
/-! as a tracked thing -/
def SetSO (w : World) (a : Addr) (L : List Str) : HO := .ext fun h => SetS w h a L
theorem setSO_new {w : World} {P : Program} {H : Hp} {h : Heap} {a : Addr} {L : List Str} (R : SetS w h a L) : ObjOk P w H h a (SetSO w a L) := let ⟨o, _, _, _, ho, _⟩ := id R; ⟨R, ⟨o, ho⟩, fun h1 h2 p k => SetS.at p k⟩
abbrev emptySet (w : World) : Obj := { cls := .type "set", dict := none, data := .set #[] 0 (.fresh 0 0 (!w.params.followText "set-order")) }
theorem setS_fresh {h : Heap} (w : World) : SetS w (h.push (emptySet w)) h.objs.size [] :=
  ⟨_, #[], 0, _, Heap.get?_push_size _ rfl, ⟨rfl, rfl, rfl⟩, rfl, (fun e he => by simp at he), (by simp), .nil, (by decide), (by rfl), List.Pairwise.nil, by
    show _ ∨ (!w.params.followText "set-order") = true
    cases w.params.followText "set-order"
    · exact .inr rfl
    · exact .inl rfl⟩
section
variable {X : Cx}
theorem setSO_get {pins : List (Addr × Obj)} {σ : L2.St} {H : Hp} {s : Shared} {a : Addr} {L : List Str} (I : Inv X pins σ H s) (ha : H a = some (SetSO X.w a L)) : SetS X.w s.heap a L := (I.hok a _ ha).1
theorem addS_ok {pins : List (Addr × Obj)} {σ : L2.St} {H : Hp} {s : Shared} {E : Value → Shared → Prop} {D : Addr} {L : List Str} {y : Str} {u : Tok} {Q : Value → Shared → Prop} (I : Inv X pins σ H s) (hD : H D = some (SetSO X.w D L)) (room : L.length + 1 < scanBound)
    (h : ∀ s', Inv X pins σ (upd H D (SetSO X.w D (addL L y))) s' → Q .none s') : wpAny (model X.prog X.w) X.A (call (.builtin "set.add") [.ref D, .str y u]) Q E s :=
  addS (setSO_get I hD) room fun h' sb new => h _ (I.write (e := D) (t' := s.toks + 1) (by rw [hD]; trivial) (.inl rfl) (fun b o hb e => (sb.2 b hb).trans e) (let ⟨o, _, _, _, ho, _⟩ := id new; ⟨o, ho⟩) (setSO_new new))
/-- {elt for tg in iter if .. for tg1 in iter1 if ..}, elt a text: D the new set -/
def tSc2 (w : World) (wi : TI) (g : TG) (tt : TT) (wi1 : TI) (g1 : TG) (tt1 : TT) (te : TE) (vs vs1 : List Nat) : TE := fun σ H Q => wi σ H fun J H1 => ∀ D, H1 D = none → ∃ W : Nat → Nat → Hp → Prop, (∃ m, W 0 m (upd H1 D (SetSO w D []))) ∧ ∀ i m H, W i m H →
  (J.stop i H ∧ Q (.ref D) H) ∨ (J.go i H ∧ ∃ Nx : Hp → Prop, (∀ H', Nx H' → ∃ m', m' < m ∧ W (i + 1) m' H') ∧ ∀ x H', J.yld i H x H' → g x (wipe σ vs) H' fun σ2 H2 => wipe σ2 vs = wipe σ vs ∧ tt σ2 H2 fun b H3 =>
    if b = true then wi1 σ2 H3 fun J1 H4 => ∃ W1 : Nat → Nat → Hp → Prop, (∃ m, W1 0 m H4) ∧ ∀ j k H, W1 j k H →
      (J1.stop j H ∧ Nx H) ∨ (J1.go j H ∧ ∃ Nx1 : Hp → Prop, (∀ H', Nx1 H' → ∃ k', k' < k ∧ W1 (j + 1) k' H') ∧ ∀ x H', J1.yld j H x H' → g1 x (wipe σ2 vs1) H' fun σ3 H5 => wipe σ3 vs1 = wipe σ2 vs1 ∧ tt1 σ3 H5 fun b H6 =>
        if b = true then te σ3 H6 fun y H7 => ∃ k L, y = .str k ∧ H7 D = some (SetSO w D L) ∧ L.length + 1 < scanBound ∧ Nx1 (upd H7 D (SetSO w D (addL L k))) else Nx1 H6)
    else Nx H3)
abbrev Blk (X : Cx) (sc : Scope) (s : Shared) (H : Hp) (C : Addr) (cl : List (PySem.Str × Addr)) (fp : List Addr) : Cx := X.blk s H sc (compEnvC sc cl C X.env) fp
theorem sc2_core {pins : List (Addr × Obj)} {s : Shared} {σ : L2.St} {H : Hp} {Q : VK} {elt tg iter tg1 iter1 : Expr} {ifs ifs1 : List Expr} {sc : Scope} {own : List (PySem.Str × Nat)} {vs1 : List Nat} {pos pos' : Pos} {wi wi1 : TI} {g g1 : TG} {tt tt1 : TT} {te : TE} {use : Option (Value → Sem Unit)} {Qf : Value → Shared → Prop}
    (hc : X.calm = true) (hN : X.N.Nodup) (I : Inv X pins σ H s) (hi : PI X tg iter wi) (ok : BlkOk X.N X.env.scope sc own) (hv : ∀ i ∈ vs1, i ∈ own.map (·.2))
    (hg : ∀ s H C cl fp, PG (Blk X sc s H C cl fp) tg g) (ht : ∀ s H C cl fp, PTs (Blk X sc s H C cl fp) ifs tt) (he : ∀ s H C cl fp, PE (Blk X sc s H C cl fp) elt te) (hs : ∀ x, foldedSetIterable iter X.env x = pure x)
    (hi1 : ∀ s H C cl fp, PI (Blk X sc s H C cl fp) tg1 iter1 wi1) (hg1 : ∀ s H C cl fp, PG (Blk X sc s H C cl fp) tg1 g1) (ht1 : ∀ s H C cl fp, PTs (Blk X sc s H C cl fp) ifs1 tt1) (hs1 : ∀ env x, foldedSetIterable iter1 env x = pure x)
    (h : tSc2 X.w wi g tt wi1 g1 tt1 te (own.map (·.2)) vs1 σ H Q)
    (hRR : ∀ D C s' m H', Inv X pins σ H' s' → Q (.ref D) H' → s'.heap.Ns C m → FpOk X pins H' C → compPost (model X.prog X.w) X.A X.xe use Qf (.ref D) C (.ok .next) s') :
    wpAny (model X.prog X.w) X.A (comprehension (SC2 elt tg iter tg1 iter1 ifs ifs1 sc pos) sc X.env pos' (newSet (.type "set")) false (eval iter X.env) use) Qf X.xe s := by
  have hfree : ∀ y ∈ sc.names, y.2 = .free → ∃ c, X.env.cells.lookup y.1 = some c := fun y hy e => (ok.free y hy e).elim (fun k => I.ok.has _ (.inl k)) fun k => I.ok.has _ (.inr k)
  refine wpAny_comprehension_free (use := use) rfl hs (closure_ok hfree) ok.kind (fun y hy e => by rw [ok.uniq y hy, e]) (thn (hi.run pins s σ H _ I h) fun xv s1 hx => thn hx fun itv s2 h2 => ?_)
  obtain ⟨it, fp, tn, J, H2, e, I2, T, st2, f2, q⟩ := h2
  subst e
  refine PpSet.newSet_ok (newEnv_comp ?_)
  generalize hD : s2.heap.objs.size = D
  have hDn : H2 D = none := I2.hok.fresh (Nat.le_of_eq hD)
  obtain ⟨W, ⟨m0, w0⟩, turn⟩ := q D hDn
  generalize hs3 : ({ s2 with heap := s2.heap.push (emptySet X.w) } : Shared) = s3
  have I3 : Inv X pins σ (upd H2 D (SetSO X.w D [])) s3 := by
    rw [← hs3]
    exact I2.laid (t' := s2.toks) (fun b o e => Heap.get?_push_of_some _ e) (Nat.le_of_eq hD) (hD ▸ setSO_new (setS_fresh X.w))
  have h3 : s3.heap = s2.heap.push (emptySet X.w) := by rw [← hs3]
  have sz : ∀ b ∈ fp, b < s2.heap.objs.size := fun b hb => let ⟨o, e, _⟩ := T.obj _ _ st2 b hb; Heap.lt_size e
  have f3 : ∀ b ∈ fp, FpOk X pins (upd H2 D (SetSO X.w D [])) b ∧ b < s3.heap.objs.size := fun b hb =>
    ⟨⟨by rw [upd_ne (by rw [← hD]; exact Nat.ne_of_lt (sz b hb))]; exact (f2 b hb).1, (f2 b hb).2⟩, by rw [h3, Heap.size_push]; exact Nat.lt_succ_of_lt (sz b hb)⟩
  have st3 : tn 0 s3.heap := T.keep _ _ _ st2 fun b _ o e => by rw [h3]; exact Heap.get?_push_of_some _ e
  have I4 := block_start I3 ok hN f3
  generalize hcl : cellsFrom (s3.heap.objs.size + 1) sc.names (cloFrom X.env.cells sc.names []) = cl at I4
  have pg : PG (X.blk s3 (upd H2 D (SetSO X.w D [])) sc (compEnvC sc cl s3.heap.objs.size X.env) fp) tg g := hg s3 _ _ cl fp
  have pt : PTs (X.blk s3 (upd H2 D (SetSO X.w D [])) sc (compEnvC sc cl s3.heap.objs.size X.env) fp) ifs tt := ht s3 _ _ cl fp
  have pe : PE (X.blk s3 (upd H2 D (SetSO X.w D [])) sc (compEnvC sc cl s3.heap.objs.size X.env) fp) elt te := he s3 _ _ cl fp
  have pi1 : PI (X.blk s3 (upd H2 D (SetSO X.w D [])) sc (compEnvC sc cl s3.heap.objs.size X.env) fp) tg1 iter1 wi1 := hi1 s3 _ _ cl fp
  have pg1 : PG (X.blk s3 (upd H2 D (SetSO X.w D [])) sc (compEnvC sc cl s3.heap.objs.size X.env) fp) tg1 g1 := hg1 s3 _ _ cl fp
  have pt1 : PTs (X.blk s3 (upd H2 D (SetSO X.w D [])) sc (compEnvC sc cl s3.heap.objs.size X.env) fp) ifs1 tt1 := ht1 s3 _ _ cl fp
  show codeAny _ _ (.compStart (SC2 elt tg iter tg1 iter1 ifs ifs1 sc pos) 0 (.ref it) (.ref D) (compEnvC sc cl s3.heap.objs.size X.env)) (compPost (model X.prog X.w) X.A X.xe use Qf (.ref D) s3.heap.objs.size) { s3 with heap := pushCells (s3.heap.push { cls := .type "dict", data := .dict #[] }) sc.names }
  have nfp : ∀ b ∈ fp, (upd H2 D (SetSO X.w D [])) b = none := fun b hb => (f3 b hb).1.1
  generalize hce : compEnvC sc cl s3.heap.objs.size X.env = ce at I4 pg pt pe pi1 pg1 pt1 ⊢
  have cL : ce.locals = s3.heap.objs.size := by subst hce; rfl
  generalize hH3 : upd H2 D (SetSO X.w D []) = H3 at I3 I4 pg pt pe pi1 pg1 pt1 w0 nfp f3
  generalize hs4 : ({ s3 with heap := pushCells (s3.heap.push { cls := .type "dict", data := .dict #[] }) sc.names } : Shared) = s4 at I4 ⊢
  have st4 : tn 0 s4.heap := T.keep _ _ _ st3 fun b _ o e => by rw [← hs4]; exact pushCells_keeps _ _ _ _ (Heap.get?_push_of_some _ e)
  have stat : ∀ {σ' : L2.St} {H' : Hp} {s' : Shared}, Inv (X.blk s3 H3 sc ce fp) [] σ' H' s' → (∀ b ∈ fp, H' b = none) → ∀ b ∈ fp, FpOk (X.blk s3 H3 sc ce fp) [] H' b := fun I' hn b hb =>
    ⟨hn b hb, (I'.ok.exf b hb).1, I'.ok.exfs b hb, .inl hb, fun x c e => (I'.ok.exf b hb).2 x c e, fun p hp => absurd (show p ∈ ([] : List (Addr × Obj)) ++ [] from hp) (by simp)⟩
  have loop : codeAny (model X.prog X.w) X.A (.compLoop (SC2 elt tg iter tg1 iter1 ifs ifs1 sc pos) 0 (.ref it) (.ref D) ce) (compPost (model X.prog X.w) X.A X.xe use Qf (.ref D) s3.heap.objs.size) s4 := by
    refine loopOut (hs1 ce) (fun n s' => ∃ i H', Inv (X.blk s3 H3 sc ce fp) [] (wipe σ (own.map (·.2))) H' s' ∧ tn i s'.heap ∧ (∀ b ∈ fp, H' b = none) ∧ W i n H') ?_ m0 ⟨0, H3, I4, st4, nfp, w0⟩
    rintro n s5 ⟨i, H5, I5, st5, n5, w5⟩
    rcases turn i n H5 w5 with ⟨stop, qq⟩ | ⟨go, Nx, hNx, step⟩
    · refine thnF (T.done (X.blk s3 H3 sc ce fp) rfl rfl rfl hc i [] s5 _ H5 (fun _ _ => False) I5 (stat I5 n5) st5 stop) fun r s6 ⟨hr, I6⟩ => ?_
      subst hr
      have I7 : Inv X pins σ H5 s6 := I3.call' (ch := fp) I6.os I6.base I6.hok I6.bare fun b hb => let z := (f3 b hb).1.2; ⟨z.2.2.1, z.1, z.2.2.2.1, z.2.2.2.2⟩
      have nC : H5 s3.heap.objs.size = none := cL ▸ (show H5 ce.locals = none from I6.free)
      obtain ⟨m, hn, -⟩ := I6.loc
      exact hRR D s3.heap.objs.size s6 m H5 I7 qq (cL ▸ (show s6.heap.Ns ce.locals m from hn)) (I3.fpOk (Nat.le_refl _) nC)
    · refine thnF (T.item (X.blk s3 H3 sc ce fp) rfl rfl rfl hc i [] s5 _ H5 (fun _ _ => False) I5 (stat I5 n5) st5 go) fun r s6 ⟨u, hr, h6⟩ => ?_
      subst hr
      refine thnF h6 fun _ s7 ⟨x, H7, I7, r7, y7, st7, n7⟩ => ?_
      have I7' := I7.pinned (stat I7 n7) (T.obj _ _ st7)
      refine thnF (pg.run _ s7 _ H7 x u _ I7' r7 (step x H7 y7)) fun _ s8 ⟨σ8, H8, I8, hw8, q8⟩ => thnF (pt.run _ s8 σ8 H8 _ I8 q8) fun b s9 ⟨H9, I9, q9⟩ => ?_
      have fin : ∀ {σ9 : L2.St} {s' : Shared} {H' : Hp}, Inv (X.blk s3 H3 sc ce fp) ([] ++ pinsAt fp s7.heap) σ9 H' s' → (wipe σ (own.map (·.2))).length = σ9.length → (∀ (j : Nat) v, (wipe σ (own.map (·.2)))[j]? = some (some v) → σ9[j]? = some (some v)) → Nx H' →
          ∃ m, m < n ∧ ∃ i H', Inv (X.blk s3 H3 sc ce fp) [] (wipe σ (own.map (·.2))) H' s' ∧ tn i s'.heap ∧ (∀ b ∈ fp, H' b = none) ∧ W i m H' := fun {σ9 s' H'} I' hl hk nx => by
        obtain ⟨m', hm, w'⟩ := hNx H' nx
        have pin' : ∀ b ∈ fp, ∀ o, s7.heap.get? b = some o → s'.heap.get? b = some o ∧ H' b = none := fun b hb o e =>
          let z := I'.pin (b, o) (List.mem_append_right _ (List.mem_append_right _ (mem_pinsAt hb e))); ⟨z.1, z.2.1⟩
        exact ⟨m', hm, i + 1, H', (I'.unpinned (pins := [])).weak hl hk, T.keep _ _ _ st7 fun b hb o e => (pin' b hb o e).1, fun b hb => let ⟨o, e, _⟩ := T.obj _ _ st7 b hb; (pin' b hb o e).2, w'⟩
      have hl8 : (wipe σ (own.map (·.2))).length = σ8.length := by rw [← hw8, wipe_length]
      have hk8 : ∀ (j : Nat) v, (wipe σ (own.map (·.2)))[j]? = some (some v) → σ8[j]? = some (some v) := fun j v e => (wipe_some (hw8 ▸ e)).1
      have hk9 : ∀ (j : Nat) v, (wipe σ (own.map (·.2)))[j]? = some (some v) → (wipe σ8 vs1)[j]? = some (some v) := fun j v e => by
        rw [← hw8] at e
        rw [wipe_out fun z => (wipe_some e).2 (hv j z)]
        exact (wipe_some e).1
      cases b with
      | false => simp only [Bool.false_eq_true, if_false] at q9 ⊢; exact fin I9 hl8 hk8 q9
      | true =>
        simp only [if_true] at q9 ⊢
        refine thnF (pi1.run _ s9 σ8 H9 _ I9 q9) fun xv s10 hx => thnF hx fun itv s11 h11 => ?_
        obtain ⟨it1, fp1, tn1, J1, H11, e1, I11, T1, st11, f11, W1, ⟨m1, w1⟩, turn1⟩ := h11
        subst e1
        have stat1 : ∀ {H' : Hp}, (∀ b ∈ fp1, H' b = none) → ∀ b ∈ fp1, FpOk (X.blk s3 H3 sc ce fp) ([] ++ pinsAt fp s7.heap) H' b := fun hn b hb => ⟨hn b hb, (f11 b hb).2⟩
        have loop1 : codeAny (model X.prog X.w) X.A (.compLoop (SC2 elt tg iter tg1 iter1 ifs ifs1 sc pos) 1 (.ref it1) (.ref D) ce)
            (fun r s' => match r with
              | .ok _ => ∃ m, m < n ∧ ∃ i H', Inv (X.blk s3 H3 sc ce fp) [] (wipe σ (own.map (·.2))) H' s' ∧ tn i s'.heap ∧ (∀ b ∈ fp, H' b = none) ∧ W i m H'
              | .error _ => False) s11 := by
          refine loopIn (fun k s' => ∃ j H', Inv (X.blk s3 H3 sc ce fp) ([] ++ pinsAt fp s7.heap) (wipe σ8 vs1) H' s' ∧ tn1 j s'.heap ∧ (∀ b ∈ fp1, H' b = none) ∧ W1 j k H') ?_ m1 ⟨0, H11, I11.weak (wipe_length _ _) (fun j v e => (wipe_some e).1), st11, fun b hb => (f11 b hb).1, w1⟩
          rintro k s12 ⟨j, H12, I12, st12, n12, w12⟩
          rcases turn1 j k H12 w12 with ⟨stop1, nx1⟩ | ⟨go1, Nx1, hNx1, step1⟩
          · refine thnF (T1.done (X.blk s3 H3 sc ce fp) rfl rfl rfl hc j _ s12 (wipe σ8 vs1) H12 (fun _ _ => False) I12 (stat1 n12) st12 stop1) fun r s13 ⟨hr, I13⟩ => ?_
            subst hr
            exact fin I13 (hl8.trans (wipe_length σ8 vs1).symm) hk9 nx1
          · refine thnF (T1.item (X.blk s3 H3 sc ce fp) rfl rfl rfl hc j _ s12 (wipe σ8 vs1) H12 (fun _ _ => False) I12 (stat1 n12) st12 go1) fun r s13 ⟨u1, hr, h13⟩ => ?_
            subst hr
            refine thnF h13 fun _ s14 ⟨x1, H14, I14, r14, y14, st14, n14⟩ => ?_
            have I14' := I14.pinned (stat1 n14) (T1.obj _ _ st14)
            refine thnF (pg1.run _ s14 (wipe σ8 vs1) H14 x1 u1 _ I14' r14 (step1 x1 H14 y14)) fun _ s15 ⟨σ15, H15, I15, hw15, q15⟩ => thnF (pt1.run _ s15 σ15 H15 _ I15 q15) fun b1 s16 ⟨H16, I16, q16⟩ => ?_
            have fin1 : ∀ {s' : Shared} {H' : Hp}, Inv (X.blk s3 H3 sc ce fp) (([] ++ pinsAt fp s7.heap) ++ pinsAt fp1 s14.heap) σ15 H' s' → Nx1 H' → ∃ m, m < k ∧ ∃ j H', Inv (X.blk s3 H3 sc ce fp) ([] ++ pinsAt fp s7.heap) (wipe σ8 vs1) H' s' ∧ tn1 j s'.heap ∧ (∀ b ∈ fp1, H' b = none) ∧ W1 j m H' := fun {s' H'} I' nx => by
              obtain ⟨m', hm, w'⟩ := hNx1 H' nx
              have pin' : ∀ b ∈ fp1, ∀ o, s14.heap.get? b = some o → s'.heap.get? b = some o ∧ H' b = none := fun b hb o e =>
                let z := I'.pin (b, o) (List.mem_append_right _ (List.mem_append_right _ (mem_pinsAt hb e))); ⟨z.1, z.2.1⟩
              exact ⟨m', hm, j + 1, H', I'.unpinned.weak (by rw [← hw15, wipe_length]) (fun j v e => (wipe_some (hw15 ▸ e)).1), T1.keep _ _ _ st14 fun b hb o e => (pin' b hb o e).1, fun b hb => let ⟨o, e, _⟩ := T1.obj _ _ st14 b hb; (pin' b hb o e).2, w'⟩
            cases b1 with
            | false => simp only [Bool.false_eq_true, if_false] at q16 ⊢; exact fin1 I16 q16
            | true =>
              simp only [if_true] at q16 ⊢
              refine thnF (pe.run _ s16 σ15 H16 _ I16 q16) fun z s17 ⟨yv, H17, I17, r17, ky, L17, ey, hD17, hz17, nx⟩ => ?_
              subst ey
              obtain ⟨tk, rfl⟩ := r17
              exact addS_ok (X := X.blk s3 H3 sc ce fp) I17 hD17 hz17 fun s18 I18 => fin1 I18 nx
        exact startIn loop1 (T1.self X.A 0 _ _ _ st11 loop1)
  exact PpSet.codeAny_compStart_set loop (T.self X.A 0 _ _ _ st4 loop)
/-- as a value -/
theorem pe_sc2 {elt tg iter tg1 iter1 : Expr} {ifs ifs1 : List Expr} {sc : Scope} {own : List (PySem.Str × Nat)} {vs1 : List Nat} {pos : Pos} {wi wi1 : TI} {g g1 : TG} {tt tt1 : TT} {te : TE} (hc : X.calm = true) (hN : X.N.Nodup) (hi : PI X tg iter wi) (ok : BlkOk X.N X.env.scope sc own) (hv : ∀ i ∈ vs1, i ∈ own.map (·.2))
    (hg : ∀ s H C cl fp, PG (Blk X sc s H C cl fp) tg g) (ht : ∀ s H C cl fp, PTs (Blk X sc s H C cl fp) ifs tt) (hi1 : ∀ s H C cl fp, PI (Blk X sc s H C cl fp) tg1 iter1 wi1) (hg1 : ∀ s H C cl fp, PG (Blk X sc s H C cl fp) tg1 g1) (ht1 : ∀ s H C cl fp, PTs (Blk X sc s H C cl fp) ifs1 tt1)
    (he : ∀ s H C cl fp, PE (Blk X sc s H C cl fp) elt te) (hs : ∀ x, foldedSetIterable iter X.env x = pure x := by intro _; rfl) (hs1 : ∀ env x, foldedSetIterable iter1 env x = pure x := by intro _ _; rfl) :
    PE X (SC2 elt tg iter tg1 iter1 ifs ifs1 sc pos) (tSc2 X.w wi g tt wi1 g1 tt1 te (own.map (·.2)) vs1) := by
  refine ⟨fun pins s σ H Q I h => ?_⟩
  rw [PpSet.eval_SetComp]
  refine sc2_core hc hN I hi ok hv hg ht he hs hi1 hg1 ht1 hs1 h fun D C s' m H' I' q hn f => ⟨m, hn, fun h'' sb => ?_⟩
  obtain ⟨f0, f1, f2, f3, f4, f5⟩ := f
  exact ⟨.ref D, H', I'.turned (t' := s'.toks) (fun b o hb e => (sb.2 b hb).trans e) f0 f1 f3 f4 f5, rfl, q⟩
/-- sorted of such a set, fewer than 64 members -/
def rSortS (w : World) : List V → Hp → VK → Prop := fun vs H Q => ∃ (a : Addr) (L : List Str), vs = [V.ref a] ∧ H a = some (SetSO w a L) ∧ L.length < 64 ∧ ∀ (ys : List Str) (p : Addr), ys.Perm L → sortedS ys = true → H p = none → Q (.ref p) (upd H p (.lst (ys.map V.str)))
theorem strs_of : ∀ (l : List Value), (∀ v ∈ l, ∃ k tk, v = Value.str k tk) → StrsAre l (l.map fun v => kOf (0, v))
  | [], _ => .nil
  | v :: l, h => by
    obtain ⟨k, tk, rfl⟩ := h v List.mem_cons_self
    exact .cons k tk (strs_of l fun u hu => h u (List.mem_cons_of_mem _ hu))
theorem cr_sortS (hc : X.calm = true) : CallR X (.builtin "sorted") (rSortS X.w) := by
  intro pins s σ H vs us Q I r h
  obtain ⟨a, L, rfl, ha, h64, q⟩ := h
  have R := setSO_get I ha
  have hlen := @SetS.len _ _ _ _ R
  rw [Vals.ref1 r]
  obtain ⟨o, es, ep, t, ho, hex, hd, g, pmL, nd, hb, hf, hr, hl⟩ := R
  have hn : es.size = L.length := hlen ho hd
  refine Calls.call_function_entry kind_sorted plain_sorted entry_sorted (args_sorted1 _) ?_
  unfold Builtin.«sorted»
  refine wpAny_bind (m := checkCount "sorted" 1 1 _) (wpAny_pure (wpAny_bind (collect_set (A := X.A.in1) (I.ok.hd hc) ⟨o, ho, hex.1, hd⟩ hf hb hr hl fun s1 ws k1 hz g1 o1 pm => ?_)))
  have hvl : ws.length = L.length := by rw [pm.length_eq, List.length_map, Array.length_toList]; exact hn
  have hS : StrsAre ws (ws.map fun v => kOf (0, v)) := strs_of ws fun v hv => by
    obtain ⟨e, he, z⟩ := List.mem_map.mp (pm.mem_iff.mp hv)
    obtain ⟨k, tk, h1, -⟩ := g e he
    exact ⟨k, tk, by rw [← z]; exact h1⟩
  have pk : (ws.map fun v => kOf (0, v)).Perm L := by
    have z := pm.map fun v => kOf (0, v)
    rw [List.map_map] at z
    exact z.trans pmL
  have I1 : Inv X pins σ H s1 := by
    have e : s1 = { s with heap := s1.heap, gens := s1.gens, drawn := s1.drawn, toks := s1.toks } := by cases s1; cases s; cases o1; rfl
    rw [e]
    exact I.call (ch := []) (Un.kept k1) (I.hok.kept k1) (by rw [g1]; exact I.bare) (fun _ z => nomatch z)
  refine wpAny_bind (wpAny_newList ?_ (by rw [hvl, sizeLine_eq]; omega))
  have hoL : (s1.heap.push (seqObj "list" ws.toArray 0)).get? s1.heap.objs.size = some (seqObj "list" ws.toArray 0) := Heap.get?_push_size _ rfl
  refine wpAny_bind (wpAny_holding (wpAny_call_entry slot_list_sort ⟨_, hoL, rfl⟩ entry_list_sort (list_sort_treeK strKind_oneLt (s := { s1 with heap := s1.heap.push (seqObj "list" ws.toArray 0) }) hoL hS.keysOf (fun v₁ v₂ rest e => keyKind_strs (by rw [← e]; exact hS)) (by rw [hvl]; exact h64) fun st' hp hs => ⟨_, rfl, ?_⟩) (args_list_sort _)))
  obtain ⟨ys, y1, y2, y3⟩ := sorted_out_str hS hp hs
  obtain ⟨e', he'⟩ := sortedHeap_at (vs := ws) (out := (arrOf st').map (·.2)) hoL
  have hl2 : (ys.map V.str).length ≤ sizeLine := by
    rw [List.length_map, y2.length_eq, pk.length_eq, sizeLine_eq]
    omega
  refine wpAny_pure ⟨_, rfl, .ref s1.heap.objs.size, upd H s1.heap.objs.size (.lst (ys.map V.str)), I1.laid (t' := s1.toks) (fun b u e => ?_) (Nat.le_refl _) (show ObjOk X.prog X.w _ _ _ (.lst (ys.map V.str)) from ⟨hl2, ((arrOf st').map (·.2)).toList, e', vals_of_strs y1, by rw [Array.toArray_toList]; exact he'⟩), rfl, q ys _ (y2.trans pk) y3 (I1.hok.fresh (Nat.le_refl _))⟩
  show (sortedHeap (s1.heap.push (seqObj "list" ws.toArray 0)) s1.heap.objs.size ws _).get? b = some u
  have hlt := Heap.lt_size e
  rw [sortedHeap_old (Nat.ne_of_lt hlt) (by rw [size_push']; exact Nat.lt_succ_of_lt hlt)]
  exact Heap.get?_push_of_some _ e
end
/-- walked: the outer clause -/
theorem sc2_it {J : It} {n : Nat} {G : Hp → Prop} {Y : Nat → Hp → V → Hp → Prop} (wk : Walk J n G Y) {w : World} {g g1 : TG} {tt tt1 : TT} {wi1 : TI} {te : TE} {vs vs1 : List Nat} {σ : L2.St} {H1 : Hp} {D : Addr} {Qd : Hp → Prop} (Pv : Nat → Hp → Prop) (h0 : Pv 0 (upd H1 D (SetSO w D []))) (hG : ∀ i H, i ≤ n → Pv i H → G H)
    (hs : ∀ i x H H', i < n → Pv i H → Y i H x H' → g x (wipe σ vs) H' fun σ2 H2 => wipe σ2 vs = wipe σ vs ∧ tt σ2 H2 fun b H3 =>
      if b = true then wi1 σ2 H3 fun J1 H4 => ∃ W1 : Nat → Nat → Hp → Prop, (∃ m, W1 0 m H4) ∧ ∀ j k H, W1 j k H →
        (J1.stop j H ∧ Pv (i + 1) H) ∨ (J1.go j H ∧ ∃ Nx1 : Hp → Prop, (∀ H', Nx1 H' → ∃ k', k' < k ∧ W1 (j + 1) k' H') ∧ ∀ x H', J1.yld j H x H' → g1 x (wipe σ2 vs1) H' fun σ3 H5 => wipe σ3 vs1 = wipe σ2 vs1 ∧ tt1 σ3 H5 fun b H6 =>
          if b = true then te σ3 H6 fun y H7 => ∃ k L, y = .str k ∧ H7 D = some (SetSO w D L) ∧ L.length + 1 < scanBound ∧ Nx1 (upd H7 D (SetSO w D (addL L k))) else Nx1 H6)
      else Pv (i + 1) H3) (hd : ∀ H, Pv n H → Qd H) :
    ∃ W : Nat → Nat → Hp → Prop, (∃ m, W 0 m (upd H1 D (SetSO w D []))) ∧ ∀ i m H, W i m H →
      (J.stop i H ∧ Qd H) ∨ (J.go i H ∧ ∃ Nx : Hp → Prop, (∀ H', Nx H' → ∃ m', m' < m ∧ W (i + 1) m' H') ∧ ∀ x H', J.yld i H x H' → g x (wipe σ vs) H' fun σ2 H2 => wipe σ2 vs = wipe σ vs ∧ tt σ2 H2 fun b H3 =>
        if b = true then wi1 σ2 H3 fun J1 H4 => ∃ W1 : Nat → Nat → Hp → Prop, (∃ m, W1 0 m H4) ∧ ∀ j k H, W1 j k H →
          (J1.stop j H ∧ Nx H) ∨ (J1.go j H ∧ ∃ Nx1 : Hp → Prop, (∀ H', Nx1 H' → ∃ k', k' < k ∧ W1 (j + 1) k' H') ∧ ∀ x H', J1.yld j H x H' → g1 x (wipe σ2 vs1) H' fun σ3 H5 => wipe σ3 vs1 = wipe σ2 vs1 ∧ tt1 σ3 H5 fun b H6 =>
            if b = true then te σ3 H6 fun y H7 => ∃ k L, y = .str k ∧ H7 D = some (SetSO w D L) ∧ L.length + 1 < scanBound ∧ Nx1 (upd H7 D (SetSO w D (addL L k))) else Nx1 H6)
        else Nx H3) := by
  refine ⟨fun i m H => m = n - i ∧ i ≤ n ∧ Pv i H, ⟨n, by simp, Nat.zero_le _, h0⟩, ?_⟩
  rintro i m H ⟨rfl, hi, p⟩
  have q := hG i H hi p
  by_cases c : i < n
  · exact .inr ⟨wk.goes i H c q, Pv (i + 1), fun H' p' => ⟨n - (i + 1), by omega, rfl, c, p'⟩, fun x H' y => hs i x H H' c p (wk.yields i H x H' c q y)⟩
  · obtain rfl : i = n := by omega
    exact .inl ⟨wk.stops H q, hd H p⟩
/-- walked: the inner clause -/
theorem in2_it {J1 : It} {n : Nat} {G : Hp → Prop} {Y : Nat → Hp → V → Hp → Prop} (wk : Walk J1 n G Y) {w : World} {g1 : TG} {tt1 : TT} {te : TE} {vs1 : List Nat} {σ2 : L2.St} {H4 : Hp} {D : Addr} {Nx : Hp → Prop} (Pv : Nat → Hp → Prop) (h0 : Pv 0 H4) (hG : ∀ i H, i ≤ n → Pv i H → G H)
    (hs : ∀ i x H H', i < n → Pv i H → Y i H x H' → g1 x (wipe σ2 vs1) H' fun σ3 H5 => wipe σ3 vs1 = wipe σ2 vs1 ∧ tt1 σ3 H5 fun b H6 =>
      if b = true then te σ3 H6 fun y H7 => ∃ k L, y = .str k ∧ H7 D = some (SetSO w D L) ∧ L.length + 1 < scanBound ∧ Pv (i + 1) (upd H7 D (SetSO w D (addL L k))) else Pv (i + 1) H6) (hd : ∀ H, Pv n H → Nx H) :
    ∃ W1 : Nat → Nat → Hp → Prop, (∃ m, W1 0 m H4) ∧ ∀ j k H, W1 j k H →
      (J1.stop j H ∧ Nx H) ∨ (J1.go j H ∧ ∃ Nx1 : Hp → Prop, (∀ H', Nx1 H' → ∃ k', k' < k ∧ W1 (j + 1) k' H') ∧ ∀ x H', J1.yld j H x H' → g1 x (wipe σ2 vs1) H' fun σ3 H5 => wipe σ3 vs1 = wipe σ2 vs1 ∧ tt1 σ3 H5 fun b H6 =>
        if b = true then te σ3 H6 fun y H7 => ∃ k L, y = .str k ∧ H7 D = some (SetSO w D L) ∧ L.length + 1 < scanBound ∧ Nx1 (upd H7 D (SetSO w D (addL L k))) else Nx1 H6) := by
  refine ⟨fun i m H => m = n - i ∧ i ≤ n ∧ Pv i H, ⟨n, by simp, Nat.zero_le _, h0⟩, ?_⟩
  rintro i m H ⟨rfl, hi, p⟩
  have q := hG i H hi p
  by_cases c : i < n
  · exact .inr ⟨wk.goes i H c q, Pv (i + 1), fun H' p' => ⟨n - (i + 1), by omega, rfl, c, p'⟩, fun x H' y => hs i x H H' c p (wk.yields i H x H' c q y)⟩
  · obtain rfl : i = n := by omega
    exact .inl ⟨wk.stops H q, hd H p⟩
end Ss
/-! min of a list of data that can be compared: which of them it is -/
namespace Md
open PySem PySem.Spec PyProof.Rows L2
open PySem.W (DatumOrd Datum minOf AlikeAll readsAll_len readsAll_atA cmpIn_lt iter_listW moved_old argBest_fold dataLt)
section
variable {α : Type} [DecidableEq α] [DatumOrd α]
theorem minOf_mem (x : α) : ∀ ys : List α, minOf x ys ∈ x :: ys := by
  intro ys
  unfold minOf
  induction ys generalizing x with
  | nil => exact List.mem_singleton.mpr rfl
  | cons y r ih =>
    rw [List.foldl_cons]
    have h := ih (if DatumOrd.lt y x = true then y else x)
    rcases List.mem_cons.mp h with z | z
    · rw [z]
      split
      · exact List.mem_cons_of_mem _ List.mem_cons_self
      · exact List.mem_cons_self
    · exact List.mem_cons_of_mem _ (List.mem_cons_of_mem _ z)
theorem minOf_le (ir : ∀ a : α, DatumOrd.lt a a = false) (asy : ∀ a b : α, DatumOrd.lt a b = true → DatumOrd.lt b a = false) (tr : ∀ a b c : α, DatumOrd.lt a b = false → DatumOrd.lt b c = false → DatumOrd.lt a c = false) (x : α) : ∀ ys : List α, ∀ z ∈ x :: ys, DatumOrd.lt z (minOf x ys) = false := by
  intro ys
  unfold minOf
  induction ys generalizing x with
  | nil =>
    intro z hz
    rw [List.mem_singleton.mp hz]
    exact ir x
  | cons y r ih =>
    intro z hz
    rw [List.foldl_cons]
    have h := ih (if DatumOrd.lt y x = true then y else x)
    by_cases c : DatumOrd.lt y x = true
    · rw [if_pos c] at h ⊢
      rcases List.mem_cons.mp hz with e | hz
      · rw [e]
        exact tr x y _ (asy y x c) (h y List.mem_cons_self)
      · exact h z hz
    · rw [if_neg c] at h ⊢
      have c : DatumOrd.lt y x = false := by
        cases q : DatumOrd.lt y x with
        | false => rfl
        | true => exact absurd q c
      rcases List.mem_cons.mp hz with e | hz
      · rw [e]
        exact h x List.mem_cons_self
      · rcases List.mem_cons.mp hz with e | hz
        · rw [e]
          exact tr y x _ c (h x List.mem_cons_self)
        · exact h z (List.mem_cons_of_mem _ hz)
end
/-- min(xs): the item at a place of the least -/
def rMinG (α : Type) [DecidableEq α] [DatumOrd α] (K : PySem.W.Frag) : List V → Hp → VK → Prop := fun vs H Q => ∃ (a : Addr) (xs : List V) (x : α) (ys : List α), vs = [.ref a] ∧ SqL K H a xs ∧ DpAll K H xs ((x :: ys).map Datum.toD) ∧ Datum.depth α ≤ 60 ∧
  ∀ (i : Nat) (v : V), xs[i]? = some v → (x :: ys)[i]? = some (minOf x ys) → Q v H
theorem cr_minG {X : Cx} {α : Type} [DecidableEq α] [DatumOrd α] (hc : X.calm = true) (hu : X.A.units + 64 < cLine) : CallR X (.builtin "min") (rMinG α X.K) := by
  intro pins s σ H vs us Q I r h
  obtain ⟨a, xs, x, ys, rfl, hs, hd, hdep, q⟩ := h
  obtain ⟨its, rv, hl, -⟩ := I.list hs
  rw [Vals.ref1 r]
  obtain ⟨as, hr⟩ := Dp.readsAll I _ _ _ hd rv
  have hl : s.heap.IsList a its.toArray := hl.isList
  have hr' : ReadsAll s.heap its.toArray.toList (Datum.toD x :: ys.map Datum.toD) as := hr
  have hn : its.toArray.size = ys.length + 1 := by rw [readsAll_len hr']; simp
  have hdd : PyData.depthAll (Datum.toD x :: ys.map Datum.toD) ≤ 60 := Nat.le_trans (PySem.W.depthAll_map (x :: ys)) hdep
  refine PySem.call_min_walkH (iter_listW (A := X.A.in1) (I.ok.hd hc) hl fun s2 e W st hfp hw hk => ?_)
  refine ⟨_, _, _, _, _, _, _, s.heap, _, rfl, W, st, hfp, by omega, hw, hk, cmpIn_lt (A := X.A.in1) hr' (PySem.W.alikeAll_datum (x :: ys)) (by show X.A.units + 1 + _ < _; omega), fun v s' hP m => ?_⟩
  obtain ⟨h', tk, rfl, hk'⟩ := moved_old e rfl m
  have e1 : its.toArray.size - 1 = (ys.map Datum.toD (α := α)).length := by rw [List.length_map]; omega
  rw [e1] at hP
  have f := argBest_fold dataLt PyData.none (Datum.toD x) (ys.map Datum.toD) (ys.map Datum.toD).length (Nat.le_refl _)
  generalize argBest (fun i j => dataLt ((Datum.toD x :: ys.map Datum.toD).getD i .none) ((Datum.toD x :: ys.map Datum.toD).getD j .none)) (ys.map Datum.toD).length = j at f hP
  rw [List.take_length] at f
  have f2 : (Datum.toD x :: ys.map Datum.toD).getD j .none = Datum.toD (minOf x ys) := f.2.trans (PySem.W.minD_map x ys)
  have hj : j < (x :: ys).length := by
    have := f.1
    rw [List.length_map] at this
    rw [List.length_cons]
    omega
  have g : (x :: ys)[j]? = some (minOf x ys) := by
    rw [List.getElem?_eq_getElem hj]
    congr 1
    have z : (Datum.toD x :: ys.map Datum.toD)[j]? = some (Datum.toD (x :: ys)[j]) := by
      show ((x :: ys).map Datum.toD)[j]? = _
      rw [List.getElem?_map, List.getElem?_eq_getElem hj]
      rfl
    rw [List.getD_eq_getElem?_getD, z] at f2
    have f3 : Datum.toD (x :: ys)[j] = Datum.toD (minOf x ys) := f2
    have f4 := Datum.eqv (x :: ys)[j] (minOf x ys)
    have f5 := Datum.eqv (minOf x ys) (minOf x ys)
    rw [f3, f5] at f4
    have : decide ((x :: ys)[j] = minOf x ys) = true := by rw [← f4]; exact decide_eq_true rfl
    exact of_decide_eq_true this
  have hP : its[j]? = some v := by simpa using hP
  have hjx : j < xs.length := by
    rw [rv.length]
    exact (List.getElem?_eq_some_iff.mp hP).1
  obtain ⟨u0, hu0, ru0⟩ := Vals.get rv (List.getElem?_eq_getElem hjx)
  rw [hP] at hu0
  cases hu0
  exact ⟨xs[j], H, I.kept hk', ru0, q j _ (List.getElem?_eq_getElem hjx) g⟩
end Md
/-! shortest roads as mathematics: steps to a goal, the least of the shortest -/
namespace Rm
abbrev Nd := List Nat
section
variable (R : Nd → Nd → Prop) (F : Nd → Prop)
/-- a walk of n steps to a goal -/
def Wk : Nat → Nd → Prop
  | 0, x => F x
  | n + 1, x => ∃ y, R x y ∧ Wk n y
/-- it is n steps away -/
def Ds (n : Nat) (x : Nd) : Prop := Wk R F n x ∧ ∀ m, m < n → ¬ Wk R F m x
variable {R F}
theorem Ds.eq {n m : Nat} {x : Nd} (h : Ds R F n x) (k : Ds R F m x) : n = m := by
  rcases Nat.lt_trichotomy n m with c | c | c
  · exact absurd h.1 (k.2 n c)
  · exact c
  · exact absurd k.1 (h.2 m c)
theorem wk_ds : ∀ (n : Nat) {x : Nd}, Wk R F n x → ∃ m, m ≤ n ∧ Ds R F m x := by
  intro n
  induction n using Nat.strongRecOn with
  | ind n ih =>
    intro x h
    by_cases c : ∃ m, m < n ∧ Wk R F m x
    · obtain ⟨m, hm, hw⟩ := c
      obtain ⟨k, hk, hd⟩ := ih m hm hw
      exact ⟨k, by omega, hd⟩
    · exact ⟨n, Nat.le_refl _, h, fun m hm hw => c ⟨m, hm, hw⟩⟩
theorem Ds.down {n : Nat} {x : Nd} (h : Ds R F (n + 1) x) : ∃ y, R x y ∧ Ds R F n y := by
  obtain ⟨⟨y, h1, h2⟩, hm⟩ := h
  exact ⟨y, h1, h2, fun m hmn hw => hm (m + 1) (by omega) ⟨y, h1, hw⟩⟩
theorem Ds.next {n : Nat} {x y : Nd} (h : Ds R F (n + 1) x) (r : R x y) (w : Wk R F n y) : Ds R F n y := ⟨w, fun m hm hw => h.2 (m + 1) (by omega) ⟨y, r, hw⟩⟩
theorem ds_succ {n : Nat} {x : Nd} : Ds R F (n + 1) x ↔ (∃ y, R x y ∧ Ds R F n y) ∧ ∀ m, m ≤ n → ¬ Ds R F m x := by
  constructor
  · intro h
    exact ⟨h.down, fun m hm hd => by have := h.eq hd; omega⟩
  · rintro ⟨⟨y, h1, h2⟩, hm⟩
    refine ⟨⟨y, h1, h2.1⟩, fun m hmn hw => ?_⟩
    obtain ⟨k, hk, hd⟩ := wk_ds m hw
    exact hm k (by omega) hd
theorem ds_zero {x : Nd} : Ds R F 0 x ↔ F x := ⟨fun h => h.1, fun h => ⟨h, fun m hm => absurd hm (Nat.not_lt_zero _)⟩⟩
theorem ds_none {m : Nat} (h : ∀ x, ¬ Ds R F m x) : ∀ n x, m ≤ n → ¬ Ds R F n x := by
  intro n
  induction n with
  | zero =>
    intro x hm
    have : m = 0 := by omega
    subst this
    exact h x
  | succ n ih =>
    intro x hm hd
    by_cases c : m = n + 1
    · subst c
      exact h x hd
    · obtain ⟨y, _, hy⟩ := hd.down
      exact ih y (by omega) hy
/-- the least of those with a property -/
def Lst (P : Nd → Prop) (y : Nd) : Prop := P y ∧ ∀ z, P z → ¬ z < y
theorem Lst.eq {P : Nd → Prop} {y z : Nd} (a : Lst P y) (b : Lst P z) : y = z := List.le_antisymm (List.not_lt.mp (a.2 z b.1)) (List.not_lt.mp (b.2 y a.1))
variable (R F)
/-- the least of the shortest roads -/
def Gr : Nat → Nd → List Nd → Prop
  | 0, x, r => F x ∧ r = [x]
  | n + 1, x, r => ∃ y t, Lst (fun y => R x y ∧ Ds R F n y) y ∧ Gr n y t ∧ r = x :: t
variable {R F}
theorem Gr.eq : ∀ {n : Nat} {x : Nd} {r t : List Nd}, Gr R F n x r → Gr R F n x t → r = t
  | 0, _, _, _, h, k => h.2.trans k.2.symm
  | n + 1, x, _, _, ⟨y, r, h1, h2, h3⟩, ⟨z, t, k1, k2, k3⟩ => by
    have := h1.eq k1
    subst this
    rw [h3, k3, h2.eq k2]
theorem Gr.len : ∀ {n : Nat} {x : Nd} {r : List Nd}, Gr R F n x r → r.length = n + 1
  | 0, _, _, h => by rw [h.2]; rfl
  | n + 1, _, _, ⟨y, t, _, h2, h3⟩ => by rw [h3, List.length_cons, h2.len]
theorem Gr.head : ∀ {n : Nat} {x : Nd} {r : List Nd}, Gr R F n x r → r.head? = some x
  | 0, _, _, h => by rw [h.2]; rfl
  | n + 1, _, _, ⟨y, t, _, h2, h3⟩ => by rw [h3]; rfl
theorem Gr.last : ∀ {n : Nat} {x : Nd} {r : List Nd}, Gr R F n x r → ∃ z, r.getLast? = some z ∧ F z
  | 0, x, _, h => ⟨x, by rw [h.2]; rfl, h.1⟩
  | n + 1, x, _, ⟨y, t, _, h2, h3⟩ => by
    obtain ⟨z, e, f⟩ := h2.last
    refine ⟨z, ?_, f⟩
    rw [h3]
    cases t with
    | nil => cases e
    | cons a t => rw [List.getLast?_cons_cons]; exact e
/-- a walk, its places told: p begins with x and its neighbours are related -/
def Pth (R : Nd → Nd → Prop) : Nd → List Nd → Prop
  | x, [] => False
  | x, [y] => x = y
  | x, y :: z :: t => x = y ∧ R x z ∧ Pth R z (z :: t)
theorem pth_cons {x : Nd} {p : List Nd} (h : Pth R x p) : ∃ t, p = x :: t := by
  match p, h with
  | [y], h => exact ⟨[], by rw [show x = y from h]⟩
  | y :: z :: t, h => exact ⟨z :: t, by rw [h.1]⟩
theorem pth_snoc : ∀ {p : List Nd} {x z : Nd}, Pth R x p → (∀ y, p.getLast? = some y → R y z) → Pth R x (p ++ [z])
  | [y], x, z, h, k => ⟨h, by rw [show x = y from h]; exact k y rfl, rfl⟩
  | y :: w :: t, x, z, h, k => ⟨h.1, h.2.1, pth_snoc (p := w :: t) h.2.2 fun y' e => k y' (by rw [List.getLast?_cons_cons]; exact e)⟩
theorem pth_init : ∀ {p : List Nd} {x z : Nd}, p ≠ [] → Pth R x (p ++ [z]) → Pth R x p ∧ ∀ y, p.getLast? = some y → R y z
  | [y], x, z, _, h => ⟨h.1, fun y' e => by
      have : y = y' := Option.some.inj e
      rw [← this, ← h.1]
      exact h.2.1⟩
  | y :: w :: t, x, z, _, h => by
    obtain ⟨h1, h2⟩ := pth_init (p := w :: t) (by simp) h.2.2
    exact ⟨⟨h.1, h.2.1, h1⟩, fun y' e => h2 y' (by rw [List.getLast?_cons_cons] at e; exact e)⟩
theorem pth_wk : ∀ {p : List Nd} {x z : Nd}, Pth R x p → p.getLast? = some z → F z → Wk R F (p.length - 1) x
  | [y], x, z, h, e, f => by
    have : y = z := Option.some.inj e
    show F x
    rw [show x = y from h, this]
    exact f
  | y :: w :: t, x, z, h, e, f => ⟨w, h.2.1, pth_wk (p := w :: t) h.2.2 (by rw [List.getLast?_cons_cons] at e; exact e) f⟩
theorem gr_pth : ∀ {n : Nat} {x : Nd} {r : List Nd}, Gr R F n x r → Pth R x r
  | 0, x, _, h => by rw [h.2]; rfl
  | n + 1, x, _, ⟨y, t, h1, h2, h3⟩ => by
    have hp := gr_pth h2
    obtain ⟨u, rfl⟩ := pth_cons hp
    rw [h3]
    exact ⟨rfl, h1.1.1, hp⟩
/-- on it each is nearer than the one ahead -/
theorem gr_ds : ∀ {n : Nat} {x : Nd} {r : List Nd}, Gr R F n x r → Ds R F n x → ∀ (i : Nat) (z : Nd), r[i]? = some z → i ≤ n ∧ Ds R F (n - i) z
  | 0, x, _, h, d, i, z, e => by
    rw [h.2] at e
    match i, e with
    | 0, e =>
      have : x = z := Option.some.inj e
      rw [← this]
      exact ⟨Nat.le_refl _, d⟩
  | n + 1, x, _, ⟨y, t, h1, h2, h3⟩, d, i, z, e => by
    rw [h3] at e
    match i, e with
    | 0, e =>
      have : x = z := Option.some.inj e
      rw [← this]
      exact ⟨Nat.zero_le _, d⟩
    | i + 1, e =>
      obtain ⟨h4, h5⟩ := gr_ds h2 h1.1.2 i z e
      exact ⟨by omega, by rw [show n + 1 - (i + 1) = n - i by omega]; exact h5⟩
theorem gr_nodup {n : Nat} {x : Nd} {r : List Nd} (h : Gr R F n x r) (d : Ds R F n x) : r.Nodup := by
  rw [List.nodup_iff_pairwise_ne, List.pairwise_iff_getElem]
  intro i j hi hj hij e
  obtain ⟨h1, h2⟩ := gr_ds h d i _ (List.getElem?_eq_getElem hi)
  obtain ⟨h3, h4⟩ := gr_ds h d j _ (List.getElem?_eq_getElem hj)
  rw [e] at h2
  have := h2.eq h4
  omega
end
/-- the order of roads: the first unlike places, else the shorter -/
def rLt : List Nd → List Nd → Bool
  | [], [] => false
  | [], _ :: _ => true
  | _ :: _, [] => false
  | x :: xs, y :: ys => if x = y then rLt xs ys else decide (x < y)
theorem rLt_self : ∀ a : List Nd, rLt a a = false
  | [] => rfl
  | x :: xs => by
    show (if x = x then rLt xs xs else decide (x < x)) = false
    rw [if_pos rfl, rLt_self xs]
theorem lt_asym {x y : Nd} (h : x < y) : ¬ y < x := fun k => List.lt_irrefl _ (List.lt_trans h k)
theorem rLt_asy : ∀ a b : List Nd, rLt a b = true → rLt b a = false
  | [], [], h => by cases h
  | [], _ :: _, _ => rfl
  | _ :: _, [], h => by cases h
  | x :: xs, y :: ys, h => by
    have h : (if x = y then rLt xs ys else decide (x < y)) = true := h
    show (if y = x then rLt ys xs else decide (y < x)) = false
    by_cases c : x = y
    · rw [if_pos c] at h
      rw [if_pos c.symm]
      exact rLt_asy xs ys h
    · rw [if_neg c] at h
      rw [if_neg (fun z => c z.symm)]
      exact decide_eq_false (lt_asym (of_decide_eq_true h))
theorem rLt_tr : ∀ a b c : List Nd, rLt a b = false → rLt b c = false → rLt a c = false
  | [], [], _, _, k => k
  | [], _ :: _, _, h, _ => by cases h
  | _ :: _, _, [], _, _ => rfl
  | _ :: _, [], _ :: _, _, k => by cases k
  | x :: xs, y :: ys, z :: zs, h, k => by
    have h : (if x = y then rLt xs ys else decide (x < y)) = false := h
    have k : (if y = z then rLt ys zs else decide (y < z)) = false := k
    show (if x = z then rLt xs zs else decide (x < z)) = false
    by_cases c : x = y
    · subst c
      rw [if_pos rfl] at h
      by_cases c2 : x = z
      · rw [if_pos c2] at k ⊢
        exact rLt_tr xs ys zs h k
      · rw [if_neg c2] at k ⊢
        exact k
    · rw [if_neg c] at h
      have h := List.not_lt.mp (of_decide_eq_false h)
      by_cases c2 : y = z
      · subst c2
        rw [if_neg c]
        exact decide_eq_false (List.not_lt.mpr h)
      · rw [if_neg c2] at k
        have k := List.not_lt.mp (of_decide_eq_false k)
        have hk := List.le_trans k h
        by_cases c3 : x = z
        · subst c3
          exact absurd (List.le_antisymm h k) (fun e => c e.symm)
        · rw [if_neg c3]
          exact decide_eq_false (List.not_lt.mpr hk)
theorem rLt_anti : ∀ a b : List Nd, rLt a b = false → rLt b a = false → a = b
  | [], [], _, _ => rfl
  | [], _ :: _, h, _ => by cases h
  | _ :: _, [], _, k => by cases k
  | x :: xs, y :: ys, h, k => by
    have h : (if x = y then rLt xs ys else decide (x < y)) = false := h
    have k : (if y = x then rLt ys xs else decide (y < x)) = false := k
    by_cases c : x = y
    · subst c
      rw [if_pos rfl] at h k
      rw [rLt_anti xs ys h k]
    · rw [if_neg c] at h
      rw [if_neg (fun z => c z.symm)] at k
      exact absurd (List.le_antisymm (List.not_lt.mp (of_decide_eq_false k)) (List.not_lt.mp (of_decide_eq_false h))) c
/-- none of the roads of as many steps is less -/
theorem gr_least {R : Nd → Nd → Prop} {F : Nd → Prop} : ∀ {n : Nat} {x : Nd} {r p : List Nd} {z : Nd}, Gr R F n x r → Ds R F n x → Pth R x p → p.length = n + 1 → p.getLast? = some z → F z → rLt p r = false
  | 0, x, _, p, z, h, d, hp, hl, e, f => by
    obtain ⟨t, rfl⟩ := pth_cons hp
    have : t = [] := List.eq_nil_of_length_eq_zero (by rw [List.length_cons] at hl; omega)
    rw [h.2, this]
    exact rLt_self _
  | n + 1, x, _, p, z, ⟨y, t, h1, h2, h3⟩, d, hp, hl, e, f => by
    match p, hp, hl, e with
    | y' :: w :: u, hp, hl, e =>
      have e2 : (w :: u).getLast? = some z := by rw [List.getLast?_cons_cons] at e; exact e
      have l2 : (w :: u).length = n + 1 := by rw [List.length_cons] at hl; omega
      have hw : Wk R F n w := by
        have := pth_wk hp.2.2 e2 f
        rw [l2] at this
        exact this
      have dw : Ds R F n w := d.next hp.2.1 hw
      have nl : ¬ w < y := h1.2 w ⟨hp.2.1, dw⟩
      rw [h3, ← hp.1]
      show (if x = x then rLt (w :: u) t else decide (x < x)) = false
      rw [if_pos rfl]
      obtain ⟨t', rfl⟩ := pth_cons (gr_pth h2)
      by_cases c : w = y
      · subst c
        exact gr_least h2 dw hp.2.2 l2 e2 f
      · show (if w = y then rLt u t' else decide (w < y)) = false
        rw [if_neg c]
        exact decide_eq_false nl
/-- among finitely many there is a least -/
theorem lst_ex : ∀ {ls : List Nd} {P : Nd → Prop}, (∀ y, P y → y ∈ ls) → (∃ y, P y) → ∃ y, Lst P y
  | [], P, h, ⟨y, hy⟩ => by cases h y hy
  | a :: r, P, h, ⟨y, hy⟩ => by
    by_cases c : ∃ z, P z ∧ z ≠ a
    · obtain ⟨y, hy, hl⟩ := lst_ex (ls := r) (P := fun z => P z ∧ z ≠ a) (fun z hz => (List.mem_cons.mp (h z hz.1)).elim (fun e => absurd e hz.2) id) c
      by_cases ha : P a ∧ a < y
      · refine ⟨a, ha.1, fun z hz hlt => ?_⟩
        by_cases e : z = a
        · rw [e] at hlt
          exact List.lt_irrefl _ hlt
        · exact hl z ⟨hz, e⟩ (List.lt_trans hlt ha.2)
      · refine ⟨y, hy.1, fun z hz hlt => ?_⟩
        by_cases e : z = a
        · rw [e] at hlt hz
          exact ha ⟨hz, hlt⟩
        · exact hl z ⟨hz, e⟩ hlt
    · have : ∀ z, P z → z = a := fun z hz => Classical.byContradiction fun e => c ⟨z, hz, e⟩
      have e := this y hy
      refine ⟨y, hy, fun z hz hlt => ?_⟩
      rw [this z hz, e] at hlt
      exact List.lt_irrefl _ hlt
theorem gr_ex {R : Nd → Nd → Prop} {F : Nd → Prop} {ls : List Nd} (hf : ∀ n y, Ds R F n y → y ∈ ls) : ∀ (n : Nat) {x : Nd}, Ds R F n x → ∃ r, Gr R F n x r
  | 0, x, h => ⟨[x], h.1, rfl⟩
  | n + 1, x, h => by
    obtain ⟨y, hy⟩ := lst_ex (ls := ls) (P := fun y => R x y ∧ Ds R F n y) (fun y hy => hf n y hy.2) h.down
    obtain ⟨t, ht⟩ := gr_ex hf n hy.1.2
    exact ⟨x :: t, y, t, hy, ht, rfl⟩
theorem pth_mem {R : Nd → Nd → Prop} {ls : List Nd} (hr : ∀ y z, R y z → z ∈ ls) : ∀ {p : List Nd} {x : Nd}, Pth R x p → x ∈ ls → ∀ z ∈ p, z ∈ ls
  | [y], x, h, hx, z, hz => by
    rw [List.mem_singleton.mp hz, ← show x = y from h]
    exact hx
  | y :: w :: t, x, h, hx, z, hz => by
    rcases List.mem_cons.mp hz with e | e
    · rw [e, ← h.1]
      exact hx
    · exact pth_mem hr (p := w :: t) h.2.2 (hr _ _ h.2.1) z e
theorem ne_snoc {α : Type} {p : List α} (h : p ≠ []) : ∃ q z, p = q ++ [z] := ⟨p.dropLast, p.getLast h, (List.dropLast_concat_getLast h).symm⟩
/-- roads of unlike places, t steps long -/
def SP (R : Nd → Nd → Prop) (x : Nd) (t : Nat) (p : List Nd) : Prop := Pth R x p ∧ p.length = t + 1 ∧ p.Nodup
theorem sp_zero {R : Nd → Nd → Prop} {x : Nd} {p : List Nd} : SP R x 0 p ↔ p = [x] := by
  constructor
  · rintro ⟨h1, h2, _⟩
    obtain ⟨t, rfl⟩ := pth_cons h1
    rw [List.eq_nil_of_length_eq_zero (l := t) (by rw [List.length_cons] at h2; omega)]
  · rintro rfl
    exact ⟨rfl, rfl, by simp⟩
theorem SP.ne {R : Nd → Nd → Prop} {x : Nd} {t : Nat} {p : List Nd} (h : SP R x t p) : p ≠ [] := fun e => by
  have := h.2.1
  rw [e] at this
  cases this
theorem sp_succ {R : Nd → Nd → Prop} {x : Nd} {t : Nat} {q : List Nd} : SP R x (t + 1) q ↔ ∃ p y z, SP R x t p ∧ p.getLast? = some y ∧ (z ≠ y ∧ R y z) ∧ z ∉ p ∧ q = p ++ [z] := by
  constructor
  · intro h
    obtain ⟨p, z, rfl⟩ := ne_snoc h.ne
    obtain ⟨h1, h2, h3⟩ := h
    rw [List.length_append, List.length_singleton] at h2
    have pn : p ≠ [] := fun e => by rw [e] at h2; simp at h2
    obtain ⟨h4, h5⟩ := pth_init pn h1
    obtain ⟨p', y, rfl⟩ := ne_snoc pn
    obtain ⟨n1, n2, n3⟩ := List.nodup_append.mp h3
    have zn : z ∉ p' ++ [y] := fun hz => n3 z hz z (List.mem_singleton.mpr rfl) rfl
    have ey : (p' ++ [y]).getLast? = some y := by simp
    exact ⟨p' ++ [y], y, z, ⟨h4, by omega, n1⟩, ey, ⟨fun e => zn (by rw [e]; simp), h5 y ey⟩, zn, rfl⟩
  · rintro ⟨p, y, z, ⟨h1, h2, h3⟩, hy, ⟨_, hr⟩, hz, rfl⟩
    refine ⟨pth_snoc h1 fun y' e => ?_, by rw [List.length_append, List.length_singleton, h2], List.nodup_append.mpr ⟨h3, by simp, fun a ha b hb e => ?_⟩⟩
    · rw [hy] at e
      have : y = y' := Option.some.inj e
      rw [← this]
      exact hr
    · rw [List.mem_singleton.mp hb] at e
      rw [e] at ha
      exact hz ha
end Rm
/-! tuple + tuple and slices of tuples, whichever object comes -/
namespace Th
open PySem PySem.Spec PyProof.Rows L2
def rCatS (K : PySem.W.Frag) : R2 := fun x y H Q => ∃ (a b : Addr) (xs ys : List V), x = .ref a ∧ y = .ref b ∧ H a = some (.tup xs) ∧ H b = some (.tup ys) ∧ xs.length + ys.length ≤ sizeLine ∧ ∀ (c : Addr) (H' : Hp), Same H H' → H' c = some (.tup (xs ++ ys)) → Q (.ref c) H'
theorem op_catS {X : Cx} : OpR X (binaryOp .Add) (rCatS X.K) := by
  intro pins s σ H x y v u Q I rx ry h
  obtain ⟨a, b, xs, ys, rfl, rfl, hx, hy, hz, h⟩ := h
  exact op_catA pins s σ H _ _ v u Q I rx ry ⟨a, b, xs, ys, rfl, rfl, SqT.of hx, SqT.of hy, hz, fun e => h b H (.refl _) (by rw [hy, e]; rfl), fun _ e => h a H (.refl _) (by rw [hx, e, List.append_nil]), fun _ _ p np => h p _ (same_upd np) upd_same⟩
def rSlS (K : PySem.W.Frag) : V → Option Int → Option Int → Hp → VK → Prop := fun x lo hi H Q => ∃ (a : Addr) (xs : List V), x = .ref a ∧ H a = some (.tup xs) ∧ ∀ (c : Addr) (H' : Hp), Same H H' → H' c = some (.tup (cutV xs lo hi)) → Q (.ref c) H'
theorem sl_tupS {X : Cx} : SlR X (rSlS X.K) := by
  intro pins s σ H x v vl vu lo hi sl Q I rx hs pl pu h
  obtain ⟨a, xs, rfl, hx, h⟩ := h
  exact sl_tupA pins s σ H _ v vl vu lo hi sl Q I rx hs pl pu ⟨a, xs, rfl, SqT.of hx, fun e => h a H (.refl _) (by rw [hx]; unfold cutV; rw [e.1, e.2, List.drop_zero, Nat.sub_zero, List.take_length]), fun _ p np => h p _ (same_upd np) upd_same⟩
end Th
namespace Th
open PySem PySem.Spec PyProof.Rows L2
/-! names, pairs, what stays -/
abbrev nS (l : List Nat) : V := .str (SX.S l)
def Lower (l : List Nat) : Prop := ∀ c ∈ l, 97 ≤ c ∧ c ≤ 122
/-- a name: one to eight letters -/
def IsNm (l : List Nat) : Prop := 1 ≤ l.length ∧ l.length ≤ 8 ∧ Lower l
abbrev abc : Str := Str.ofString "abcdefghijklmnopqrstuvwxyz"
theorem abc_list : abc.cps.toList = (List.range 26).map (97 + ·) := by decide +kernel
theorem abc_at {d : Int} (h0 : 0 ≤ d) (h1 : d < 26) : atI abc.cps.toList d = some (97 + d.toNat) := by
  obtain ⟨j, rfl⟩ : ∃ j : Nat, d = (j : Int) := ⟨d.toNat, by omega⟩
  refine atI_nat ?_
  rw [abc_list, List.getElem?_map, List.getElem?_range (by omega)]
  rfl
theorem joinL_one : ∀ cs : List Nat, TL.joinL [] (cs.map fun c => [c]) = cs
  | [] => rfl
  | [_] => rfl
  | c :: d :: cs => by
    show [c] ++ ([] ++ TL.joinL [] ((d :: cs).map fun c => [c])) = _
    rw [joinL_one (d :: cs)]
    rfl
theorem join_signs (cs : List Nat) : Txt.join (SX.S []) ((cs.map fun c => [c]).map SX.S) = SX.S cs := by rw [SX.join_S, joinL_one]
theorem p26 : (0 : Int) < 26 := by decide
theorem paired_snoc {α β : Type} {R : α → β → Prop} : ∀ {as : List α} {bs : List β} {a : α} {b : β}, Paired R as bs → R a b → Paired R (as ++ [a]) (bs ++ [b])
  | _, _, _, _, .nil, r => .cons r .nil
  | _, _, _, _, .cons q t, r => .cons q (paired_snoc t r)
theorem paired_imp {α β : Type} {R S : α → β → Prop} : ∀ {as : List α} {bs : List β}, Paired R as bs → (∀ a ∈ as, ∀ b, R a b → S a b) → Paired S as bs
  | _, _, .nil, _ => .nil
  | _, _, .cons q t, f => .cons (f _ (List.mem_cons_self ..) _ q) (paired_imp t fun a ha b r => f a (List.mem_cons_of_mem _ ha) b r)
theorem paired_get {α β : Type} {R : α → β → Prop} : ∀ {as : List α} {bs : List β} {i : Nat} {a : α}, Paired R as bs → as[i]? = some a → ∃ b, bs[i]? = some b ∧ R a b
  | _, _, _, _, .nil, h => by simp at h
  | _, _, 0, _, .cons q t, h => by
    have e := Option.some.inj h
    subst e
    exact ⟨_, rfl, q⟩
  | _, _, i + 1, _, .cons q t, h => paired_get (i := i) t h
theorem paired_len {α β : Type} {R : α → β → Prop} : ∀ {as : List α} {bs : List β}, Paired R as bs → as.length = bs.length
  | _, _, .nil => rfl
  | _, _, .cons _ t => congrArg Nat.succ (paired_len t)
theorem one_sz {x : V} : [x].length ≤ sizeLine := by show 1 ≤ sizeLine; decide
theorem paired_append {α β : Type} {R : α → β → Prop} : ∀ {as cs : List α} {bs ds : List β}, Paired R as bs → Paired R cs ds → Paired R (as ++ cs) (bs ++ ds)
  | _, _, _, _, .nil, h => h
  | _, _, _, _, .cons q t, h => .cons q (paired_append t h)
theorem paired_take {α β : Type} {R : α → β → Prop} : ∀ {as : List α} {bs : List β} (n : Nat), Paired R as bs → Paired R (as.take n) (bs.take n)
  | _, _, 0, _ => by rw [List.take_zero, List.take_zero]; exact .nil
  | _, _, n + 1, .nil => .nil
  | _, _, n + 1, .cons q t => .cons q (paired_take n t)
theorem cut_to (xs : List V) (j : Nat) : cutV xs none (some (j : Int)) = xs.take j := by
  unfold cutV
  rw [HT.sIx_none, HT.sIx_nat, List.drop_zero, Nat.sub_zero]
  by_cases h : j ≤ xs.length
  · rw [Nat.min_eq_left h]
  · rw [Nat.min_eq_right (by omega), List.take_of_length_le (Nat.le_refl _), List.take_of_length_le (by omega)]
abbrev Nm := List Nat
def TK (H H' : Hp) : Prop := ∀ a xs, H a = some (.tup xs) → H' a = some (.tup xs)
theorem TK.of {H H' : Hp} (s : Same H H') : TK H H' := fun a xs e => s a _ e
theorem TK.trans {H H' H2 : Hp} (a : TK H H') (b : TK H' H2) : TK H H2 := fun c xs e => b c xs (a c xs e)
theorem TK.keep {p : Addr} {H H' : Hp} (k : Keep p H H') (b : Bag H p) : TK H H' := fun a xs e => k a _ (fun z => by
  obtain ⟨g, r, e', _⟩ := b
  rw [z, e'] at e
  cases e) e
theorem TK.upd {c : Addr} {H : Hp} {o : HO} (h : ∀ xs, H c ≠ some (.tup xs)) : TK H (upd H c o) := fun a xs e => by
  rw [upd_ne (fun z => h xs (by rw [← z]; exact e))]
  exact e
theorem Keep.set {p S : Addr} {H H' : Hp} {o : HO} (k : Keep p H H') (n : H S = none) : Keep p H (L2.upd H' S o) := fun c o nc ec => by
  rw [upd_ne (ne_of_none ec n)]
  exact k c o nc ec
theorem same_set {S : Addr} {H H' : Hp} {o : HO} (k : Same H H') (n : H S = none) : Same H (upd H' S o) := fun c o ec => by
  rw [upd_ne (ne_of_none ec n)]
  exact k c o ec
theorem two_sz {x y : V} : [x, y].length ≤ sizeLine := by show 2 ≤ sizeLine; decide
theorem four_sz {x y z u : V} : [x, y, z, u].length ≤ sizeLine := by show 4 ≤ sizeLine; decide
theorem paired_drop {α β : Type} {R : α → β → Prop} : ∀ {as : List α} {bs : List β} (n : Nat), Paired R as bs → Paired R (as.drop n) (bs.drop n)
  | _, _, 0, h => h
  | _, _, n + 1, .nil => .nil
  | _, _, n + 1, .cons q t => paired_drop n t
theorem paired_ins {α β : Type} {R : α → β → Prop} {as : List α} {bs : List β} (n : Nat) {a : α} {b : β} (h : Paired R as bs) (r : R a b) : Paired R (as.take n ++ [a] ++ as.drop n) (bs.take n ++ [b] ++ bs.drop n) :=
  paired_append (paired_append (paired_take n h) (.cons r .nil)) (paired_drop n h)
theorem perm_ins {α : Type} (xs : List α) (n : Nat) (x : α) : (xs.take n ++ [x] ++ xs.drop n).Perm (xs ++ [x]) := by
  have h1 : (xs.take n ++ [x] ++ xs.drop n).Perm (x :: (xs.take n ++ xs.drop n)) := by
    rw [List.append_assoc]
    exact List.perm_middle
  rw [List.take_append_drop] at h1
  exact h1.trans (List.perm_append_comm (l₁ := [x]) (l₂ := xs))
theorem ins_map {xs : List Addr} {n : Nat} {x : Addr} : (xs.map V.ref).take n ++ [V.ref x] ++ (xs.map V.ref).drop n = (xs.take n ++ [x] ++ xs.drop n).map V.ref := by
  simp only [List.map_append, List.map_take, List.map_drop, List.map_cons, List.map_nil]
theorem nodup_inj {α : Type} {zs : List α} (h : zs.Nodup) {x y : Nat} {z : α} (h1 : zs[x]? = some z) (h2 : zs[y]? = some z) : x = y := by
  rw [List.nodup_iff_pairwise_ne, List.pairwise_iff_getElem] at h
  obtain ⟨l1, g1⟩ := List.getElem?_eq_some_iff.mp h1
  obtain ⟨l2, g2⟩ := List.getElem?_eq_some_iff.mp h2
  rcases Nat.lt_trichotomy x y with c | c | c
  · exact absurd (g1.trans g2.symm) (h x y l1 l2 c)
  · exact c
  · exact absurd (g2.trans g1.symm) (h y x l2 l1 c)
theorem nm_ok {z : Nm} (h : IsNm z) : PyData.strOk (SX.S z) = true := by
  unfold PyData.strOk
  rw [Array.all_eq_true']
  intro c hc
  have hc : c ∈ z := by simpa [SX.S] using hc
  have := h.2.2 c hc
  exact decide_eq_true (by omega)
end Th
/-! tuples told with their objects; dict of such; sorted of data -/
namespace Th
open PySem PySem.Spec PyProof.Rows L2
/-- the tuple xs at a, its object known to be plain -/
def TpF (H : Hp) (a : Addr) (xs : List V) : Prop := ∃ o : Obj, H a = some (.frz o (.tup xs)) ∧ o.dict = none
theorem TpF.sq {K : PySem.W.Frag} {H : Hp} {a : Addr} {xs : List V} (h : TpF H a xs) : SqT K H a xs := let ⟨o, e, _⟩ := h; .inl (.inr ⟨o, e⟩)
theorem TpF.same {H H' : Hp} {a : Addr} {xs : List V} (h : TpF H a xs) (s : Same H H') : TpF H' a xs := let ⟨o, e, d⟩ := h; ⟨o, s _ _ e, d⟩
theorem TpF.keep {p : Addr} {H H' : Hp} {a : Addr} {xs : List V} (h : TpF H a xs) (k : Keep p H H') (b : Bag H p) : TpF H' a xs := by
  obtain ⟨o, e, d⟩ := h
  refine ⟨o, k _ _ (fun z => ?_) e, d⟩
  obtain ⟨g, r, e', _⟩ := b
  rw [z, e'] at e
  cases e
def rTupF (K : PySem.W.Frag) : List V → Hp → VK → Prop := fun xs H Q => ∃ (p : Addr) (ys : List V), xs = [.ref p] ∧ SqL K H p ys ∧ ∀ (l : Addr) (H' : Hp), H l = none → Same H H' → TpF H' l ys → (∀ q, q ≠ l → H' q = H q) → Q (.ref l) H'
theorem call_tuple_ofF {X : Cx} : CallR X (.type "tuple") (rTupF X.K) := by
  intro pins s σ H xs us Q I r h
  obtain ⟨p, ys, rfl, hq, q⟩ := h
  obtain ⟨u, rfl, rx⟩ := vals1 r
  cases rx
  obtain ⟨its, r', pl, hz⟩ := I.list hq
  have hlen := r'.length
  refine call_tuple_list pl.isList (fun h' kp => ?_) (by simp only [List.size_toArray] <;> omega)
  have I1 : Inv X pins σ H { s with heap := h' } := I.kept (t' := s.toks) kp
  have I2 : Inv X pins σ (upd H h'.objs.size (.frz { cls := .type "tuple", data := .seq its.toArray } (.tup ys))) { s with heap := h'.push { cls := .type "tuple", data := .seq its.toArray } } :=
    I1.laid (t' := s.toks) (fun b o e => Heap.get?_push_of_some _ e) (Nat.le_refl _) (show ObjOk X.prog X.w _ _ _ (.frz _ (.tup ys)) from ⟨Heap.get?_push_size _ rfl, hz, its, r', IsTup.new _ _⟩)
  have nl := I1.hok.fresh (Nat.le_refl h'.objs.size)
  exact ⟨.ref h'.objs.size, _, I2, rfl, q _ _ nl (same_upd nl) ⟨_, upd_same, rfl⟩ fun q hq => upd_ne hq⟩
theorem choose_list {α β : Type} : ∀ {xs : List α} {R : Nat → α → β → Prop}, (∀ j x, xs[j]? = some x → ∃ y, R j x y) → ∃ ys : List β, ys.length = xs.length ∧ ∀ j y, ys[j]? = some y → ∃ x, xs[j]? = some x ∧ R j x y
  | [], _, _ => ⟨[], rfl, fun j y e => by simp at e⟩
  | x :: xs, R, h => by
    obtain ⟨y, hy⟩ := h 0 x rfl
    obtain ⟨ys, h1, h2⟩ := choose_list (xs := xs) (R := fun j => R (j + 1)) fun j x e => h (j + 1) x e
    refine ⟨y :: ys, by rw [List.length_cons, h1, List.length_cons], fun j z e => ?_⟩
    match j, e with
    | 0, e =>
      have : y = z := Option.some.inj e
      subst this
      exact ⟨x, rfl, hy⟩
    | j + 1, e => exact h2 j z e
def rDictF (K : PySem.W.Frag) : List V → Hp → VK → Prop := fun xs H Q => ∃ (a : Addr) (ps : List Addr) (kvs : List (Key × V)), xs = [.ref a] ∧ TpF H a (ps.map V.ref) ∧ Paired (fun p kv => SqT K H p [kV kv.1, kv.2]) ps kvs ∧
    ∀ p, H p = none → Q (.ref p) (upd H p (.dK (mergeK [] kvs)))
theorem call_dictF {X : Cx} (hcalm : X.calm = true) : CallR X (.type "dict") (rDictF X.K) := by
  intro pins s σ H xs us Q I r h
  obtain ⟨a, ps, kvs, rfl, ⟨ob, hob, hnd⟩, hp, q⟩ := h
  obtain ⟨u, rfl, rx⟩ := vals1 r
  cases rx
  obtain ⟨hg, hz, its, rv, o', ho', hc, n, hdat⟩ := (show ObjOk X.prog X.w H s.heap a (.frz ob (.tup (ps.map V.ref))) from I.hok a _ hob)
  rw [hg] at ho'
  cases ho'
  have ei := refs_at rv
  subst ei
  rw [List.length_map] at hz
  obtain ⟨prs, rel, hl, hpr⟩ := pairs_of I hp
  obtain ⟨vv, hvl, hvv⟩ := choose_list (R := fun j (q : Key × Value) (k : Value) => ∃ b, ps[j]? = some b ∧ IsTup s.heap b #[k, q.2] ∧ keyIs q.1 k = true) (xs := prs) fun j q e => let ⟨b, u, h⟩ := hpr j q e; ⟨u, b, h⟩
  have len : (vv.zip (prs.map (·.2))).length = ps.length := by rw [List.length_zip, List.length_map, hvl, hl]; omega
  have each : ∀ j k v, (vv.zip (prs.map (·.2)))[j]? = some (k, v) → ∃ (b : Addr) (q : Key × Value), ps[j]? = some b ∧ prs[j]? = some q ∧ v = q.2 ∧ IsTup s.heap b #[k, v] ∧ keyIs q.1 k = true := fun j k v e => by
    rw [List.getElem?_zip_eq_some, List.getElem?_map] at e
    obtain ⟨q, hq, b, h1, h2, h3⟩ := hvv j k e.1
    rw [hq] at e
    have : q.2 = v := Option.some.inj e.2
    subst this
    exact ⟨b, q, h1, hq, rfl, h2, h3⟩
  have P := PairArg.tuple (prog := X.prog) (w := X.w) a (ps.map Value.ref).toArray (fun j => ps.getD j 0) (vv.zip (prs.map (·.2)))
  refine PySem.call_dict_pairs (knd := mixKind X.prog X.w) (kvs := prs) P (I.ok.hd hcalm) ⟨⟨ob, n, hg, hc, hnd, hdat⟩, ?_, fun j k v e => ?_⟩ ⟨by rw [len, hl], fun j k v e => ?_⟩ ?_ fun h' tk hd' k => ?_
  · rw [List.size_toArray, List.length_map, len]
  · obtain ⟨b, q, h1, h2, h3, h4, h5⟩ := each j k v e
    refine ⟨?_, .inl ?_⟩
    · show (ps.map Value.ref).toArray[j]? = some (Value.ref (ps.getD j 0))
      rw [List.getD_eq_getElem?_getD, h1]
      simp [h1]
    · show s.heap.IsTuple (ps.getD j 0) #[k, v]
      rw [List.getD_eq_getElem?_getD, h1]
      exact h4
  · obtain ⟨b, q, h1, h2, h3, h4, h5⟩ := each j k v e
    exact ⟨q.1, by rw [h2, h3], h5⟩
  · rw [len]
    exact hz
  · have hm : (s.heap.objs.size == sysModules) = false := beq_eq_false_iff_ne.mpr (Nat.ne_of_gt I.big)
    have hlen : (mergeK [] kvs).length ≤ sizeLine := by
      refine Nat.le_trans (length_mergeK kvs []) ?_
      rw [List.length_nil, Nat.zero_add, rel.length, hl]
      exact hz
    exact ⟨.ref s.heap.objs.size, upd H s.heap.objs.size (.dK (mergeK [] kvs)), I.laid (t' := tk) (fun b o e => k b o (by simp) e) (Nat.le_refl _) (show ObjOk X.prog X.w _ _ _ (.dK (mergeK [] kvs)) from ⟨hlen, hm, merged [] prs, KV.merge rel .nil, hd'⟩), rfl, q _ (I.hok.fresh (Nat.le_refl _))⟩
/-- what such a dict tells, the keys unlike -/
theorem val_mergeK : ∀ (kvs acc : List (Key × V)) (k : Key), valV (mergeK acc kvs) k = match kvs.reverse.find? (fun p => decide (p.1 = k)) with | some p => some p.2 | none => valV acc k
  | [], acc, k => rfl
  | p :: kvs, acc, k => by
    show valV (mergeK (putK acc p.1 p.2) kvs) k = _
    rw [val_mergeK kvs, valV_put, List.reverse_cons, List.find?_append]
    cases h : kvs.reverse.find? (fun p => decide (p.1 = k)) with
    | some q => rfl
    | none =>
      show (if k = p.1 then some p.2 else valV acc k) = _
      by_cases c : k = p.1
      · rw [if_pos c]
        simp [c]
      · rw [if_neg c]
        have : ¬ p.1 = k := fun e => c e.symm
        simp [this]
theorem val_merge_nd {kvs : List (Key × V)} (nd : (kvs.map (·.1)).Nodup) {k : Key} {v : V} (h : (k, v) ∈ kvs) : valV (mergeK [] kvs) k = some v := by
  rw [val_mergeK]
  have : kvs.reverse.find? (fun p => decide (p.1 = k)) = some (k, v) := by
    cases f : kvs.reverse.find? (fun p => decide (p.1 = k)) with
    | none =>
      have := List.find?_eq_none.mp f (k, v) (List.mem_reverse.mpr h)
      simp at this
    | some q =>
      have hq : q.1 = k := by
        have := List.find?_some f
        exact of_decide_eq_true this
      have hm : q ∈ kvs := List.mem_reverse.mp (List.mem_of_find?_eq_some f)
      obtain ⟨i, hi⟩ := List.getElem?_of_mem h
      obtain ⟨j, hj⟩ := List.getElem?_of_mem hm
      have e1 : (kvs.map (·.1))[i]? = some k := by rw [List.getElem?_map, hi]; rfl
      have e2 : (kvs.map (·.1))[j]? = some k := by rw [List.getElem?_map, hj, ← hq]; rfl
      have l1 := (List.getElem?_eq_some_iff.mp e1).1
      have ij : i = j := (List.getElem?_inj l1 nd).mp (e1.trans e2.symm)
      subst ij
      rw [hi] at hj
      exact hj.symm
  rw [this]
/-- sorted of data -/
def rSortD {β : Type} (enc : β → PyData) (K : PySem.W.Frag) : List V → Hp → VK → Prop := fun vs H Q => ∃ (a : Addr) (xs : List V) (bs : List β) (R : V → β → Prop), vs = [.ref a] ∧ SqL K H a xs ∧ Paired R xs bs ∧ (∀ v b, b ∈ bs → R v b → Dp K H v (enc b)) ∧ PySem.W.AllAlike (bs.map enc) ∧ PySem.W.Sortable (bs.map enc) ∧ (∀ b ∈ bs, (enc b).depth ≤ 60) ∧
  ∀ (p : Addr) (ys : List V), H p = none → Paired R ys (bs.mergeSort (PySem.W.dataLe false enc)) → Q (.ref p) (upd H p (.lst ys))
theorem each_of {β : Type} {R : V → β → Prop} {S : Value → β → Prop} : ∀ {xs : List V} {us : List Value} {bs : List β}, Vals xs us → Paired R xs bs → (∀ v u b, b ∈ bs → RelV v u → R v b → S u b) → PySem.W.EachIs S us bs
  | _, _, _, .nil, .nil, _ => .nil
  | _, _, _, .cons r rs, .cons h hs, k => .cons (k _ _ _ List.mem_cons_self r h) (each_of rs hs fun v u b hb => k v u b (List.mem_cons_of_mem _ hb))
theorem of_each {β : Type} {R : V → β → Prop} : ∀ {us : List Value} {bs : List β}, PySem.W.EachIs (fun u b => ∃ v, RelV v u ∧ R v b) us bs → ∃ xs, Vals xs us ∧ Paired R xs bs
  | _, _, .nil => ⟨[], .nil, .nil⟩
  | _, _, .cons ⟨v, r, h⟩ hs => let ⟨xs, h1, h2⟩ := of_each hs; ⟨v :: xs, .cons r h1, .cons h h2⟩
theorem cr_sortD {X : Cx} {β : Type} (enc : β → PyData) (hu : X.A.units + 64 < cLine) : CallR X (.builtin "sorted") (rSortD enc X.K) := by
  intro pins s σ H vs us Q I r h
  obtain ⟨a, xs, bs, R, rfl, hs, hR, hd, hal, hk, hdep, q⟩ := h
  obtain ⟨its, rv, hl, hz⟩ := I.list hs
  rw [Vals.ref1 r]
  have lb : its.length = bs.length := by rw [← rv.length, hR.length]
  refine PySem.W.sorted_data (enc := enc) (bs := bs) (R := fun u b => ∃ v, RelV v u ∧ R v b) hl.isList (each_of rv hR fun v u b _ r h => ⟨v, r, h⟩) (each_of rv hR fun v u b hb r h => Dp.reads I (enc b) v u (hd v b hb h) r) hal hk (by rw [← lb, ← rv.length]; exact hz) (fun b hb => by have := hdep b hb; omega) fun out hlen hout => ?_
  obtain ⟨ys, h1, h2⟩ := of_each hout
  obtain ⟨ep, he⟩ := sortedAll_at s.heap its out.toArray
  have hly : ys.length ≤ sizeLine := by
    rw [h1.length, hlen, ← lb, ← rv.length]
    exact hz
  exact ⟨.ref _, upd H (s.heap.objs.size + 1) (.lst ys), I.laid (t' := s.toks) (fun _ _ => sortedAll_old) (Nat.le_succ _) (show ObjOk X.prog X.w _ _ _ (.lst ys) from ⟨hly, out, ep, h1, he⟩), rfl, q _ ys (I.hok.fresh (Nat.le_succ _)) h2⟩
end Th
/-! list(zip(xs, ys)), xs and ys lists of one length: a new list of new tuples -/
namespace Lz
open PySem PySem.Spec PyProof.Rows L2
theorem no_len : typeLookup (.type "zip") "__len__" = pure none := am_miss_of_fast (by decide +kernel)
theorem no_hint : typeLookup (.type "zip") "__length_hint__" = pure none := am_miss_of_fast (by decide +kernel)
structure ZS (z TI TO i1 i2 l1 l2 S : Addr) (xs ys : Array Value) (i : Nat) (h : Heap) : Prop where
  ti : IsPair h TI (.ref i1) (.ref i2)
  a1 : h.IsListIter i1 l1 i
  a2 : h.IsListIter i2 l2 i
  b1 : h.IsList l1 xs
  b2 : h.IsList l2 ys
  zz : (IsZip h z TI TO .none ∧ ∃ a b, IsPair h TO a b) ∨ ∃ T f oT, IsZipHeld h z TI TO T f ∧ h.get? T = some oT ∧ T ≠ z ∧ T ≠ i1 ∧ T ≠ i2 ∧ T ≠ S
structure Off (z TI TO i1 i2 l1 l2 S : Addr) : Prop where
  z : z ≠ S
  ti : TI ≠ S
  to' : TO ≠ S
  i1 : i1 ≠ S
  i2 : i2 ≠ S
  l1 : l1 ≠ S
  l2 : l2 ≠ S
theorem ZS.frame {z TI TO i1 i2 l1 l2 S : Addr} {xs ys : Array Value} {i : Nat} {h h' : Heap} (O : Off z TI TO i1 i2 l1 l2 S) (st : ZS z TI TO i1 i2 l1 l2 S xs ys i h) (hk : ∀ b o, b ≠ S → h.get? b = some o → h'.get? b = some o) : ZS z TI TO i1 i2 l1 l2 S xs ys i h' := by
  refine ⟨hk _ _ O.ti st.ti, st.a1.at fun o e => hk _ o O.i1 e, st.a2.at fun o e => hk _ o O.i2 e, st.b1.at fun o e => hk _ o O.l1 e, st.b2.at fun o e => hk _ o O.l2 e, ?_⟩
  rcases st.zz with ⟨hz, a, b, hTO⟩ | ⟨T, f, oT, hz, hT, r1, r2, r3, r4⟩
  · exact .inl ⟨hk _ _ O.z hz, a, b, hk _ _ O.to' hTO⟩
  · exact .inr ⟨T, f, oT, hk _ _ O.z hz, hk _ _ r4 hT, r1, r2, r3, r4⟩
structure ZG (xs ys : Array Value) (lo : Addr) (h : Heap) (as : List Addr) : Prop where
  rise : as.Pairwise (· < ·)
  above : ∀ a ∈ as, lo < a
  pairs : ∀ (j : Nat) (a : Addr), as[j]? = some a → ∃ x y, xs[j]? = some x ∧ ys[j]? = some y ∧ h.get? a = some { cls := .type "tuple", data := .seq #[x, y] }
theorem ZG.there {xs ys : Array Value} {lo : Addr} {h : Heap} {as : List Addr} (g : ZG xs ys lo h as) {a : Addr} (ha : a ∈ as) : a < h.objs.size := by
  obtain ⟨j, hj⟩ := List.mem_iff_getElem?.mp ha
  obtain ⟨_, _, _, _, e⟩ := g.pairs j a hj
  exact Heap.lt_size e
section
variable {prog : Program} {w : World} {A : Around} {E : Value → Shared → Prop} {s : Shared} {z TI TO i1 i2 l1 l2 S : Addr} {xs ys : Array Value} {i : Nat}
theorem z_item {x y : Value} {Q : Option Value → Shared → Prop} (D : ZipApart z TI TO i1 i2 l1 l2) (st : ZS z TI TO i1 i2 l1 l2 S xs ys i s.heap) (hS : S < s.heap.objs.size) (ex : xs[i]? = some x) (ey : ys[i]? = some y)
    (hQ : ∀ h', ZS z TI TO i1 i2 l1 l2 S xs ys (i + 1) h' → IsPair h' s.heap.objs.size x y → (∀ c o, c ≠ z → c ≠ TO → c ≠ i1 → c ≠ i2 → s.heap.get? c = some o → h'.get? c = some o) → Q (some (.ref s.heap.objs.size)) { s with heap := h' }) :
    wpAny (model prog w) A (pyNext (.ref z)) Q E s := by
  obtain ⟨hTI, h1, h2, hl1, hl2, hz⟩ := st
  have lt : ∀ {c o}, s.heap.get? c = some o → s.heap.objs.size ≠ c := fun e => Nat.ne_of_gt (Heap.lt_size e)
  have n1 : s.heap.objs.size ≠ i1 := let ⟨_, e, _⟩ := h1; lt e
  have n2 : s.heap.objs.size ≠ i2 := let ⟨_, e, _⟩ := h2; lt e
  rcases hz with ⟨hz, a, b, hTO⟩ | ⟨T, f, oT, hz, hT, r1, r2, r3, r4⟩
  · refine wpAny_pyNext_zip_item D hz hTI hTO h1 h2 hl1 hl2 ex ey fun h' a1 a2 a3 a4 a5 a6 hk => ?_
    exact hQ h' ⟨hk _ _ D.TIz D.TITO D.TIi1 D.TIi2 hTI, a3, a4, hl1.at fun o e => hk _ o D.l1z D.l1TO D.l1i1 D.l1i2 e, hl2.at fun o e => hk _ o D.l2z D.l2TO D.l2i1 D.l2i2 e, .inr ⟨s.heap.objs.size, false, _, a1, a5, lt hz, n1, n2, Nat.ne_of_gt hS⟩⟩ a5 hk
  · refine wpAny_pyNext_zip_item_held D hz hT hTI h1 h2 hl1 hl2 ex ey fun h' a1 a3 a4 a5 a6 hk => ?_
    exact hQ h' ⟨hk _ _ D.TIz D.TIi1 D.TIi2 hTI, a3, a4, hl1.at fun o e => hk _ o D.l1z D.l1i1 D.l1i2 e, hl2.at fun o e => hk _ o D.l2z D.l2i1 D.l2i2 e, .inr ⟨T, true, oT, a1, hk _ _ r1 r2 r3 hT, r1, r2, r3, r4⟩⟩ a5 fun c o c1 _ c3 c4 e => hk c o c1 c3 c4 e
theorem z_done {Q : Option Value → Shared → Prop} (hA : A.handled = none) (D : ZipApart z TI TO i1 i2 l1 l2) (st : ZS z TI TO i1 i2 l1 l2 S xs ys i s.heap) (hend : xs[i]? = none ∨ ys[i]? = none)
    (hQ : ∀ h', (∀ c o, c ≠ z → c ≠ TO → c ≠ i1 → c ≠ i2 → s.heap.get? c = some o → h'.get? c = some o) → Q none { s with heap := h' }) : wpAny (model prog w) A (pyNext (.ref z)) Q E s := by
  obtain ⟨hTI, h1, h2, hl1, hl2, hz⟩ := st
  rcases hz with ⟨hz, a, b, hTO⟩ | ⟨T, f, oT, hz, hT, r1, r2, r3, r4⟩
  · exact wpAny_pyNext_zip_end hA D hz hTI hTO h1 h2 hl1 hl2 hend fun h' hk => hQ h' hk
  · exact wpAny_pyNext_zip_end_held hA D hz hT hTI h1 h2 hl1 hl2 hend fun h' hk => hQ h' fun c o c1 _ c3 c4 e => hk c o c1 c3 c4 e
theorem z_loop {R : Result → Shared → Prop} (hh : A.handled = none) (D : ZipApart z TI TO i1 i2 l1 l2) (O : Off z TI TO i1 i2 l1 l2 S) (lz : z < S) (lt : TO < S) (li1 : i1 < S) (li2 : i2 < S) {n : Nat} (hx : xs.size = n) (hy : ys.size = n) (hn : n ≤ sizeLine) (res : Value) {h₁ : Heap}
    (hR : ∀ h' tk acc c as, (∀ b o, b ≠ S → b ≠ z → b ≠ TO → b ≠ i1 → b ≠ i2 → h₁.get? b = some o → h'.get? b = some o) → h'.get? S = some { cls := .type "list", dict := none, data := .seq acc c, slots := #[] } → as.length = n → ZG xs ys S h' as →
      acc.toList = as.map Value.ref → R (.ok (.ret res)) { s with heap := h', toks := tk }) :
    ∀ (k i : Nat) (h : Heap) (tk c : Nat) (acc : Array Value) (as : List Addr), n - i = k → i ≤ n → ZS z TI TO i1 i2 l1 l2 S xs ys i h → (∀ b o, b ≠ S → b ≠ z → b ≠ TO → b ≠ i1 → b ≠ i2 → h₁.get? b = some o → h.get? b = some o) →
      h.get? S = some { cls := .type "list", dict := none, data := .seq acc c, slots := #[] } → acc.toList = as.map Value.ref → as.length = i → ZG xs ys S h as →
      codeAny (model prog w) A (.builtin "list.extend.loop" ⟨[.ref S, .ref z, res], []⟩) R { s with heap := h, toks := tk } := by
  intro k
  induction k with
  | zero =>
    intro i h tk c acc as hk hi hst hkeep hS hacc hal hG
    refine codeAny_builtin PySem.F.entry_extend_loop ?_
    rw [Around.under_plainId PySem.F.plain_extend_loop _]
    show wpAny _ A.in1 (pyNext (.ref z) >>= _) _ _ _
    refine wpAny_bind (z_done (s := { s with heap := h, toks := tk }) (A := A.in1) hh D hst (.inl (Array.getElem?_eq_none (by omega))) fun h' he => ?_)
    refine wpAny_pure (hR h' tk acc c as (fun b o h1 h2 h3 h4 h5 e => he b o h2 h3 h4 h5 (hkeep b o h1 h2 h3 h4 h5 e)) (he S _ O.z.symm O.to'.symm O.i1.symm O.i2.symm hS) (by omega) ⟨hG.rise, hG.above, fun j a hj => ?_⟩ hacc)
    obtain ⟨x, y, e1, e2, e3⟩ := hG.pairs j a hj
    have ab := hG.above a (List.mem_of_getElem? hj)
    exact ⟨x, y, e1, e2, he a _ (Nat.ne_of_gt (Nat.lt_trans lz ab)) (Nat.ne_of_gt (Nat.lt_trans lt ab)) (Nat.ne_of_gt (Nat.lt_trans li1 ab)) (Nat.ne_of_gt (Nat.lt_trans li2 ab)) e3⟩
  | succ k ih =>
    intro i h tk c acc as hk hi hst hkeep hS hacc hal hG
    have hlt : i < n := by omega
    obtain ⟨x, ex⟩ : ∃ p, xs[i]? = some p := ⟨xs[i], Array.getElem?_eq_getElem (by omega)⟩
    obtain ⟨y, ey⟩ : ∃ p, ys[i]? = some p := ⟨ys[i], Array.getElem?_eq_getElem (by omega)⟩
    have hsz : acc.size = i := by rw [← Array.length_toList, hacc, List.length_map, hal]
    have hSl : S < h.objs.size := Heap.lt_size hS
    refine codeAny_builtin PySem.F.entry_extend_loop ?_
    rw [Around.under_plainId PySem.F.plain_extend_loop _]
    show wpAny _ A.in1 (pyNext (.ref z) >>= _) _ _ _
    refine wpAny_bind (z_item (s := { s with heap := h, toks := tk }) (S := S) D hst hSl ex ey fun h' hst' ht hkp => ?_)
    dsimp only at ht hkp ⊢
    have hS' := hkp S _ O.z.symm O.to'.symm O.i1.symm O.i2.symm hS
    have up : ∀ b o, b ≠ S → h'.get? b = some o → (h'.update S (Obj.mapSeq (·.push (Value.ref h.objs.size)))).get? b = some o := fun b o hb e => (Heap.get?_update_other _ _ (Ne.symm hb)).trans e
    show wpAny _ A.in1 (updateSeq S (·.push (Value.ref h.objs.size)) >>= _) _ _ _
    refine wpAny_bind ?_
    refine wpAny_updateSeq hS' rfl (wpAny_pure ⟨plainId_quiet PySem.F.plain_extend_loop _, ih (i + 1) _ tk _ (acc.push (Value.ref h.objs.size)) (as ++ [h.objs.size]) (by omega) hlt (hst'.frame O up)
      (fun b o h1 h2 h3 h4 h5 e => up b o h1 (hkp b o h2 h3 h4 h5 (hkeep b o h1 h2 h3 h4 h5 e))) (Heap.get?_update_self _ hS' rfl) (by rw [Array.toList_push, hacc, List.map_append]; rfl) (by rw [List.length_append, hal]; rfl) ⟨?_, ?_, ?_⟩⟩) (by rw [hsz]; omega) (by show (acc.push (Value.ref h.objs.size)).size ≤ sizeLine + 1; rw [Array.size_push, hsz]; omega)
    · refine List.pairwise_append.mpr ⟨hG.rise, List.pairwise_singleton _ _, fun a ha b hb => ?_⟩
      rw [List.mem_singleton.mp hb]
      exact hG.there ha
    · intro a ha
      rcases List.mem_append.mp ha with ha | ha
      · exact hG.above a ha
      · rw [List.mem_singleton.mp ha]
        exact hSl
    · intro j b hj
      rcases Nat.lt_trichotomy j as.length with h1 | h1 | h1
      · rw [List.getElem?_append_left h1] at hj
        obtain ⟨x', y', e1, e2, e3⟩ := hG.pairs j b hj
        have ab := hG.above b (List.mem_of_getElem? hj)
        exact ⟨x', y', e1, e2, up b _ (Nat.ne_of_gt ab) (hkp b _ (Nat.ne_of_gt (Nat.lt_trans lz ab)) (Nat.ne_of_gt (Nat.lt_trans lt ab)) (Nat.ne_of_gt (Nat.lt_trans li1 ab)) (Nat.ne_of_gt (Nat.lt_trans li2 ab)) e3)⟩
      · subst h1
        have hb : h.objs.size = b := by simpa using hj
        subst hb
        exact ⟨x, y, by rw [hal]; exact ex, by rw [hal]; exact ey, up _ _ (Nat.ne_of_gt hSl) ht⟩
      · have hnone : (as ++ [h.objs.size])[j]? = none := List.getElem?_eq_none (by rw [List.length_append, List.length_singleton]; omega)
        rw [hnone] at hj
        cases hj
theorem z_hint (hT : s.TypeIs (.ref z) "zip") {Q : Bool → Shared → Prop} (h : Q true s) : wpAny (model prog w) A (Builtin.List.listLengthHint (.ref z)) Q E s := by
  unfold Builtin.List.listLengthHint
  refine wpAny_bind (wpAny_specialOf hT no_len ?_)
  show wpAny _ _ (specialOf (Value.ref z) (Str.ofString "__length_hint__") >>= _) _ _ _
  refine wpAny_bind (wpAny_specialOf hT no_hint ?_)
  exact wpAny_pure h
theorem z_extend {R : Result → Shared → Prop} (hh : A.handled = none) (D : ZipApart z TI TO i1 i2 l1 l2) (O : Off z TI TO i1 i2 l1 l2 S) (lz : z < S) (lt : TO < S) (li1 : i1 < S) (li2 : i2 < S) {n : Nat} (hx : xs.size = n) (hy : ys.size = n) (hn : n ≤ sizeLine) (res : Value) (c₀ : Nat)
    (hz : IsZip s.heap z TI TO .none) (st : ZS z TI TO i1 i2 l1 l2 S xs ys 0 s.heap) (hS : s.heap.get? S = some { cls := .type "list", data := .seq #[] c₀ })
    (hR : ∀ h' tk acc c as, (∀ b o, b ≠ S → b ≠ z → b ≠ TO → b ≠ i1 → b ≠ i2 → s.heap.get? b = some o → h'.get? b = some o) → h'.get? S = some { cls := .type "list", dict := none, data := .seq acc c, slots := #[] } → as.length = n → ZG xs ys S h' as →
      acc.toList = as.map Value.ref → R (.ok (.ret res)) { s with heap := h', toks := tk }) :
    wpAny (model prog w) A.in1 (Builtin.List.listExtendWith (.ref S) (.ref z) res)
      (fun fin s' => match fin with | .done f => R (.ok f) s' | .again c' => c'.quiet = true ∧ codeAny (model prog w) A c' R s') (fun e s' => R (.error e) s') s := by
  have hT : s.TypeIs (.ref z) "zip" := ⟨_, hz, rfl⟩
  have key : ∀ (h : Heap) (c₁ tk : Nat), (∀ b o, b ≠ S → s.heap.get? b = some o → h.get? b = some o) → h.get? S = some { cls := .type "list", data := .seq #[] c₁ } → codeAny (model prog w) A (.builtin "list.extend.loop" ⟨[.ref S, .ref z, res], []⟩) R { s with heap := h, toks := tk } := by
    intro h c₁ tk hk hS₁
    exact z_loop (s := s) (h₁ := s.heap) hh D O lz lt li1 li2 hx hy hn res hR n 0 h tk c₁ #[] [] (Nat.sub_zero _) (Nat.zero_le _) (st.frame O hk) (fun b o hb _ _ _ _ e => hk b o hb e) hS₁ rfl rfl ⟨List.Pairwise.nil, (fun _ ha => nomatch ha), (fun j a hj => by simp at hj)⟩
  unfold Builtin.List.listExtendWith
  refine wpAny_bind (wpAny_typeOf (T := "zip") hT ?_)
  have h1 : Builtin.List.listSameRef (.ref S) (.ref z) = false := by simp [Builtin.List.listSameRef, O.z.symm]
  have h2 : (Value.type "zip" == Value.type "list") = false := by decide
  have h3 : (Value.type "zip" == Value.type "tuple") = false := by decide
  simp only [h1, h2, h3, Bool.or_false, Bool.false_eq_true, if_false]
  refine wpAny_bind (wpAny_pyIter_zip hz ?_)
  refine wpAny_bind (wpAny_holding (z_hint hT ?_))
  refine wpAny_ite_split (fun _ => ?_) (fun _ => wpAny_pure ⟨plainId_quiet PySem.F.plain_extend_loop _, key _ c₀ _ (fun b o _ e => e) hS⟩)
  refine wpAny_bind (wpAny_rule ?_)
  refine wpAny_bind ?_
  show wpAny _ _ (updateSeq S (·.push .none) >>= fun _ => updateSeq S (·.pop)) _ _ _
  refine wpAny_bind (wpAny_updateSeq hS rfl ?_)
  have hS₂ := Heap.get?_update_self (Obj.mapSeq (·.push Value.none)) hS rfl
  refine wpAny_updateSeq (hz := by seq_fits) hS₂ rfl ?_
  have hS₃ := Heap.get?_update_self (Obj.mapSeq (·.pop)) hS₂ rfl
  refine wpAny_pure ⟨plainId_quiet PySem.F.plain_extend_loop _, key _ _ _ (fun b o hb e => ?_) hS₃⟩
  exact (Heap.get?_update_other _ _ (Ne.symm hb)).trans ((Heap.get?_update_other _ _ (Ne.symm hb)).trans e)
theorem z_init {R : Result → Shared → Prop} (hh : A.handled = none) (D : ZipApart z TI TO i1 i2 l1 l2) (O : Off z TI TO i1 i2 l1 l2 S) (lz : z < S) (lt : TO < S) (li1 : i1 < S) (li2 : i2 < S) {n : Nat} (hx : xs.size = n) (hy : ys.size = n) (hn : n ≤ sizeLine)
    (hz : IsZip s.heap z TI TO .none) (st : ZS z TI TO i1 i2 l1 l2 S xs ys 0 s.heap) (hS : s.heap.get? S = some { cls := .type "list", data := .seq #[] })
    (hR : ∀ h' tk acc c as, (∀ b o, b ≠ S → b ≠ z → b ≠ TO → b ≠ i1 → b ≠ i2 → s.heap.get? b = some o → h'.get? b = some o) → h'.get? S = some { cls := .type "list", dict := none, data := .seq acc c, slots := #[] } → as.length = n → ZG xs ys S h' as →
      acc.toList = as.map Value.ref → R (.ok (.ret .none)) { s with heap := h', toks := tk }) :
    wpAny (model prog w) A.in1 (Builtin.«list.__init__» ⟨[.ref S, .ref z], []⟩)
      (fun fin s' => match fin with | .done f => R (.ok f) s' | .again c' => c'.quiet = true ∧ codeAny (model prog w) A c' R s') (fun e s' => R (.error e) s') s := by
  show wpAny _ _ (do let old ← Builtin.List.listItems (.ref S); Builtin.List.listUpdate (.ref S) (fun _ => #[]); letGo old.toList.reverse; Builtin.List.listExtendWith (.ref S) (.ref z) .none) _ _ s
  refine wpAny_bind ?_
  unfold Builtin.List.listItems
  refine wpAny_bind (wpAny_seqItems hS rfl (wpAny_pure ?_))
  show wpAny _ _ (updateSeq S (fun _ => #[]) >>= fun _ => letGo (#[] : Array Value).toList.reverse >>= fun _ => Builtin.List.listExtendWith (.ref S) (.ref z) .none) _ _ s
  refine wpAny_bind (wpAny_updateSeq hS rfl ?_)
  have hS₂ := Heap.get?_update_self (Obj.mapSeq (fun _ => (#[] : Array Value))) hS rfl
  have oth : ∀ b o, b ≠ S → s.heap.get? b = some o → (s.heap.update S (Obj.mapSeq (fun _ => (#[] : Array Value)))).get? b = some o :=
    fun b o hb e => (Heap.get?_update_other _ _ (Ne.symm hb)).trans e
  refine wpAny_bind (wpAny_letGo ?_)
  refine z_extend hh D O lz lt li1 li2 hx hy hn .none _ (oth _ _ O.z hz) (st.frame O oth) hS₂ (fun h' tk acc c as hk hS' hl hG hacc => ?_)
  exact hR h' tk acc c as (fun b o hb h2 h3 h4 h5 e => hk b o hb h2 h3 h4 h5 (oth b o hb e)) hS' hl hG hacc
theorem z_call {Q : Value → Shared → Prop} (hh : A.handled = none) (D : ZipApart z TI TO i1 i2 l1 l2) {n : Nat} (hx : xs.size = n) (hy : ys.size = n) (hn : n ≤ sizeLine)
    (hz : IsZip s.heap z TI TO .none) (hTI : IsPair s.heap TI (.ref i1) (.ref i2)) {va vb : Value} (hTO : IsPair s.heap TO va vb) (h1 : s.heap.IsListIter i1 l1 0) (h2 : s.heap.IsListIter i2 l2 0) (hl1 : s.heap.IsList l1 xs) (hl2 : s.heap.IsList l2 ys)
    (hQ : ∀ h' tk acc c as, (∀ b o, b ≠ z → b ≠ TO → b ≠ i1 → b ≠ i2 → s.heap.get? b = some o → h'.get? b = some o) → h'.get? s.heap.objs.size = some { cls := .type "list", dict := none, data := .seq acc c, slots := #[] } → as.length = n → ZG xs ys s.heap.objs.size h' as →
      acc.toList = as.map Value.ref → Q (.ref s.heap.objs.size) { s with heap := h', toks := tk }) :
    wpAny (model prog w) A (call (.type "list") [.ref z]) Q E s := by
  refine callType_codes (Q₁ := fun obj s₁ => obj = .ref s.heap.objs.size ∧ s₁ = { s with heap := s.heap.push { cls := .type "list", data := .seq #[] } }) PySem.F.called_list (PySem.F.typeCall_list_1 _) PySem.F.entry_list_init
    (code_list_new _ ⟨rfl, rfl⟩) fun obj s₁ h₁ => ?_
  obtain ⟨rfl, rfl⟩ := h₁
  have hS : (s.heap.push { cls := .type "list", data := .seq #[] }).get? s.heap.objs.size = some { cls := .type "list", data := .seq #[] } := Heap.get?_push_size _ rfl
  have lz := Heap.lt_size hz
  have lti := Heap.lt_size hTI
  have lt := Heap.lt_size hTO
  obtain ⟨_, e1, _⟩ := id h1
  obtain ⟨_, e2, _⟩ := id h2
  obtain ⟨_, e3, _⟩ := id hl1
  obtain ⟨_, e4, _⟩ := id hl2
  have li1 := Heap.lt_size e1
  have li2 := Heap.lt_size e2
  have ll1 := Heap.lt_size e3
  have ll2 := Heap.lt_size e4
  have O : Off z TI TO i1 i2 l1 l2 s.heap.objs.size := ⟨Nat.ne_of_lt lz, Nat.ne_of_lt lti, Nat.ne_of_lt lt, Nat.ne_of_lt li1, Nat.ne_of_lt li2, Nat.ne_of_lt ll1, Nat.ne_of_lt ll2⟩
  refine ⟨⟨_, hS, rfl⟩, PySem.F.args_list_init_2 _ _, z_init (A := A.in1) hh D O lz lt li1 li2 hx hy hn (Heap.get?_push_of_some _ hz) ⟨Heap.get?_push_of_some _ hTI, h1.at fun o e => Heap.get?_push_of_some _ e, h2.at fun o e => Heap.get?_push_of_some _ e, hl1.at fun o e => Heap.get?_push_of_some _ e, hl2.at fun o e => Heap.get?_push_of_some _ e, .inl ⟨Heap.get?_push_of_some _ hz, _, _, Heap.get?_push_of_some _ hTO⟩⟩ hS (fun h' tk acc c as hk hS' hl hG hacc => ?_)⟩
  exact ⟨rfl, hQ h' tk acc c as (fun b o b1 b2 b3 b4 e => hk b o (Nat.ne_of_lt (Heap.lt_size e)) b1 b2 b3 b4 (Heap.get?_push_of_some _ e)) hS' hl hG hacc⟩
end
/-- the tuples at their addresses -/
def putP : Hp → List Addr → List (V × V) → Hp
  | H, a :: as, p :: ps => putP (upd H a (.tup [p.1, p.2])) as ps
  | H, _, _ => H
theorem putP_off {b : Addr} : ∀ (as : List Addr) (ps : List (V × V)) (H : Hp), b ∉ as → putP H as ps b = H b
  | [], _, _, _ => rfl
  | _ :: _, [], _, _ => rfl
  | a :: as, p :: ps, H, h => by
    show putP (upd H a (.tup [p.1, p.2])) as ps b = H b
    rw [putP_off as ps _ (fun z => h (List.mem_cons_of_mem _ z)), upd_ne (fun z => h (by rw [z]; exact List.mem_cons_self))]
/-- as many tuples as pairs, each its pair -/
abbrev Tups (H : Hp) : List Addr → List (V × V) → Prop := Paired fun t q => H t = some (.tup [q.1, q.2])
theorem putP_at : ∀ (as : List Addr) (ps : List (V × V)) (H : Hp), as.length = ps.length → as.Nodup → Tups (putP H as ps) as ps
  | [], [], _, _, _ => .nil
  | [], _ :: _, _, h, _ => by cases h
  | _ :: _, [], _, h, _ => by cases h
  | a :: as, p :: ps, H, h, hn => by
    have hn' := List.nodup_cons.mp hn
    refine .cons ?_ (putP_at as ps (upd H a (.tup [p.1, p.2])) (Nat.succ.inj h) hn'.2)
    show putP (upd H a (.tup [p.1, p.2])) as ps a = some (.tup [p.1, p.2])
    rw [putP_off as ps _ hn'.1, upd_same]
theorem paired_ix {α β : Type} {F : α → β → Prop} : ∀ {xs : List α} {ys : List β}, Paired F xs ys → ∀ {x : α}, x ∈ xs → ∃ (j : Nat) (y : β), xs[j]? = some x ∧ ys[j]? = some y ∧ F x y
  | _, _, .cons h t, x, hx => by
    rcases List.mem_cons.mp hx with e | hx
    · rw [e]
      exact ⟨0, _, rfl, rfl, h⟩
    · obtain ⟨j, y, e1, e2, e3⟩ := paired_ix t hx
      exact ⟨j + 1, y, e1, e2, e3⟩
theorem refs_vals : ∀ as : List Addr, Vals (as.map V.ref) (as.map Value.ref)
  | [] => .nil
  | _ :: as => .cons rfl (refs_vals as)
section
variable {X : Cx}
theorem z_laid {pins : List (Addr × Obj)} {σ : L2.St} {H : Hp} {s : Shared} {h' : Heap} {tk : Nat} {S : Addr} {vs us : List V} {xs ys : List Value} {acc : Array Value} {c : Nat} {as : List Addr} (I : Inv X pins σ H s) (hS0 : s.heap.objs.size ≤ S) (rx : Vals vs xs) (ry : Vals us ys) (hlen : vs.length = us.length) (hz : vs.length ≤ sizeLine)
    (hk : ∀ b o, s.heap.get? b = some o → h'.get? b = some o) (hS : h'.get? S = some { cls := .type "list", dict := none, data := .seq acc c, slots := #[] }) (hl : as.length = vs.length) (hG : ZG xs.toArray ys.toArray S h' as) (hacc : acc.toList = as.map Value.ref) :
    ∃ H' : Hp, Same H H' ∧ H S = none ∧ (∀ t ∈ as, H t = none) ∧ S ∉ as ∧ as.Nodup ∧ H' S = some (.lst (as.map V.ref)) ∧ Tups H' as (vs.zip us) ∧ Inv X pins σ H' { s with heap := h', toks := tk } := by
  have hSn : S ∉ as := fun z => Nat.lt_irrefl _ (hG.above _ z)
  have nd : as.Nodup := List.Pairwise.imp (fun {a b} (h : a < b) => Nat.ne_of_lt h) hG.rise
  have new : ∀ t ∈ as, H t = none := fun t ht => I.hok.fresh (Nat.le_trans hS0 (Nat.le_of_lt (hG.above t ht)))
  have newS : H S = none := I.hok.fresh hS0
  have lz : (vs.zip us).length = vs.length := by rw [List.length_zip]; omega
  have atP := putP_at as (vs.zip us) (upd H S (.lst (as.map V.ref))) (by omega) nd
  have off : ∀ b, b ∉ as → b ≠ S → putP (upd H S (.lst (as.map V.ref))) as (vs.zip us) b = H b := fun b h1 h2 => by rw [putP_off as _ _ h1, upd_ne h2]
  have low : ∀ b o, s.heap.get? b = some o → b ∉ as ∧ b ≠ S := fun b o e => ⟨fun z => absurd (Heap.lt_size e) (Nat.not_lt.mpr (Nat.le_trans hS0 (Nat.le_of_lt (hG.above b z)))), Nat.ne_of_lt (Nat.lt_of_lt_of_le (Heap.lt_size e) hS0)⟩
  have kp : ∀ b u, H b = some u → (putP (upd H S (.lst (as.map V.ref))) as (vs.zip us)) b = some u := fun b u e => by
    rw [off b (fun z => by rw [new b z] at e; cases e) (fun z => by rw [z, newS] at e; cases e)]
    exact e
  have eS : putP (upd H S (.lst (as.map V.ref))) as (vs.zip us) S = some (.lst (as.map V.ref)) := by rw [putP_off as _ _ hSn, upd_same]
  refine ⟨putP (upd H S (.lst (as.map V.ref))) as (vs.zip us), kp, newS, new, hSn, nd, eS, atP, ?_⟩
  refine I.call' (ch := []) rfl ⟨fun b o q _ _ _ => hk b o q, fun b o q _ _ _ => ⟨o.slots, hk b o q⟩, fun b o q n _ => ?_, fun b o q _ => ⟨o, hk b o q⟩, fun b xs q => kp b _ q, fun b o u q => kp b _ q, fun b ps q => ⟨#[], by rw [kp b _ q]; simp⟩⟩ (fun b u q => ?_) I.bare fun b z => by simp at z
  · obtain ⟨z1, z2⟩ := low b o q
    rw [off b z1 z2]
    exact n
  · by_cases hb : b ∈ as
    · obtain ⟨j, pk, e1, e2, e3⟩ := paired_ix atP hb
      rw [e3] at q
      cases q
      obtain ⟨x, y, f1, f2, f3⟩ := hG.pairs j b e1
      rw [List.getElem?_zip_eq_some] at e2
      obtain ⟨x', g1, r1⟩ := rx.get e2.1
      obtain ⟨y', g2, r2⟩ := ry.get e2.2
      have f1 : xs[j]? = some x := by simpa using f1
      have f2 : ys[j]? = some y := by simpa using f2
      rw [f1] at g1
      rw [f2] at g2
      cases g1
      cases g2
      exact ⟨by show 2 ≤ sizeLine; decide, [x, y], .cons r1 (.cons r2 .nil), ⟨_, f3, rfl, _, rfl⟩⟩
    · by_cases hb2 : b = S
      · rw [hb2] at q ⊢
        rw [eS] at q
        cases q
        refine ⟨by rw [List.length_map]; omega, acc.toList, c, by rw [hacc]; exact refs_vals as, ?_⟩
        rw [Array.toArray_toList]
        exact hS
      · rw [off b hb hb2] at q
        exact (I.hok b u q).stay (fun d v _ y => hk d v y) (fun d y => kp d _ y) fun d xs y => kp d _ y
/-- list(zip(xs, ys)) -/
def tListZip (K : PySem.W.Frag) (ta : TA) : TE := fun σ H Q => ta σ H fun vs H1 => ∃ (a b : Addr) (xs ys : List V), vs = [.ref a, .ref b] ∧ SqL K H1 a xs ∧ SqL K H1 b ys ∧ xs.length = ys.length ∧ xs.length ≤ 5000 ∧
  ∀ (H' : Hp) (p : Addr) (ts : List Addr), Same H1 H' → H1 p = none → (∀ t ∈ ts, H1 t = none) → p ∉ ts → ts.Nodup → H' p = some (.lst (ts.map V.ref)) → Tups H' ts (xs.zip ys) → Q (.ref p) H'
theorem pe_listZip {e1 e2 : Expr} {ta : TA} {p p2 pos pos2 : Pos} (hcalm : X.calm = true) (hg : Gl X "list") (hm : X.mg "list" = none) (hgz : Gl X "zip") (hmz : X.mg "zip" = none) (ha : PA X [e1, e2] ta)
    (hs : starEach [e1, e2] X.env = (false, eval e1 X.env) :: starEach [e2] X.env := by rfl) (hpl : (backTo pos2 (starEach [e2] X.env)).any (·.1) = false := by rfl) :
    PE X (.Call (.Name "list" p) [.Call (.Name "zip" p2) [e1, e2] [] pos2] [] pos) (tListZip X.K ta) := by
  refine ⟨fun pins s σ H Q I h => ?_⟩
  refine Call_ (ld_blt I hg hm PyProof.Rows.boot_list (PyProof.Rows.callWith_type1 (args_cons (Call_ (ld_blt I hgz hmz PyProof.Rows.boot_zip (PyProof.Rows.callWith_type1 (thn (ha.run pos2 pins s σ H _ I h) fun us s1 ⟨vs, H1, I1, r1, q1⟩ => ?_) hs hpl))) (by rfl)) (by rfl)))
  obtain ⟨a, b, xs, ys, rfl, sa, sb, hl, hk, q⟩ := q1
  obtain ⟨u1, u2, rfl, ra, rb⟩ := vals2 r1
  cases (show u1 = Value.ref a from ra)
  cases (show u2 = Value.ref b from rb)
  obtain ⟨its, rv, p1, _⟩ := I1.list sa
  obtain ⟨its2, rv2, p2', _⟩ := I1.list sb
  have n1 := rv.length
  have n2 := rv2.length
  refine call_zip_2 p1.isList p2'.isList fun h1 hz hTI hTO i1 i2 hsz hk1 => args_nil ?_
  have D := PySem.W.ktu_apart s1.heap.objs.size a b p1.lt p2'.lt
  refine z_call (s := { s1 with heap := h1 }) (n := xs.length) (I1.ok.hd hcalm) D (by rw [List.size_toArray]; omega) (by rw [List.size_toArray]; omega) (Nat.le_trans hk (by decide)) hz hTI hTO i1 i2 (p1.isList.at fun o e => hk1 _ o e) (p2'.isList.at fun o e => hk1 _ o e) fun h' tk acc c as hkp hS hla hG hacc => ?_
  have k : ∀ c o, s1.heap.get? c = some o → h'.get? c = some o := fun c o e => by
    have lt := Heap.lt_size e
    exact hkp c o (Nat.ne_of_lt (Nat.lt_of_lt_of_le lt (Nat.le_add_right _ _))) (Nat.ne_of_lt (Nat.lt_of_lt_of_le lt (Nat.le_add_right _ _))) (Nat.ne_of_lt lt) (Nat.ne_of_lt (Nat.lt_of_lt_of_le lt (Nat.le_add_right _ _))) (hk1 c o e)
  obtain ⟨H', t1, t2, t3, t4, t5, t6, t7, J⟩ := z_laid (tk := tk) I1 (S := h1.objs.size) (by omega) rv rv2 hl (Nat.le_trans hk (by decide)) k hS hla hG hacc
  exact ⟨.ref _, H', J, rfl, q H' _ as t1 t2 t3 t4 t5 t6 t7⟩
end
end Lz
/-! enumerate(xs, start=k) of a list -/
namespace Es
open PySem PySem.Spec PyProof.Rows L2
def IteS (K : PySem.W.Frag) (k : Int) (a : Addr) : It :=
  ⟨fun i H => ∃ (xs : List V) (x : V), SqL K H a xs ∧ xs[i]? = some x, fun i H v H' => ∃ T x, v = .ref T ∧ H T = none ∧ H' = upd H T (.tup [.int (k + (i : Nat)), x]) ∧ ∀ xs, SqL K H a xs → xs[i]? = some x, fun i H => ∃ xs : List V, SqL K H a xs ∧ xs.length = i⟩
theorem turn_enumS {P : Program} {w : World} {K : PySem.W.Frag} {elts : List Expr} {kk : Nat} {tpos : Pos} (k : Int) (a e it : Addr) (hai : a ≠ it) (hae : e ≠ a) :
    Turn P w K (.Tuple elts kk tpos) (IteS K k a) [e, it] e (fun i h => (∃ old, IsEnum h e it (k + ((i : Nat) : Int)) old) ∧ h.IsListIter it a i ∧ e ≠ it) where
  mem := by simp
  obj := fun i h st b hb => by
    obtain ⟨⟨old, he⟩, ⟨o, ho, hc, hd⟩, _⟩ := st
    have e' : b = e ∨ b = it := by simpa using hb
    rcases e' with z | z
    · rw [z]; exact ⟨_, he, fun v q => nomatch q⟩
    · rw [z]; exact ⟨o, ho, fun v q => by rw [hd] at q; cases q⟩
  keep := fun i h h' st k => let ⟨⟨old, he⟩, hi, hne⟩ := st; ⟨⟨old, k e (by simp) _ he⟩, hi.at fun o q => k it (by simp) o q, hne⟩
  item := by
    intro X hP hw hK hc i pins s σ H E I hf st hg
    subst hP hw hK
    obtain ⟨⟨old, he⟩, hit, hne⟩ := st
    obtain ⟨xs, x, hq, hx⟩ := hg
    obtain ⟨its, rv, p, hz⟩ := I.list hq
    obtain ⟨u, hu, ru⟩ := rv.get hx
    have hel : e < s.heap.objs.size := Heap.lt_size he
    have hil : it < s.heap.objs.size := by obtain ⟨_, q, _⟩ := hit; exact Heap.lt_size q
    have hA : X.A.in1.handled = none := I.ok.hd hc
    have lt1 : i < its.toArray.size := by have := (List.getElem?_eq_some_iff.mp hu).1; simpa using this
    refine wpAny_pyNext_enum_itemC (Draws.list hA it a hai its.toArray) he ⟨hit, p.isList⟩ lt1 hne (by simp; exact ⟨hne, hae⟩) fun y h' tk hy ho hit' hT hsz hk => ?_
    have f1 : y = u := Option.some.inj (hy.symm.trans (by simpa using hu))
    subst f1
    refine ⟨_, rfl, wpAny_letOwnedTupleGo_enum (s := { s with heap := h', toks := tk + 1 }) ho fun h'' he' sb => ?_⟩
    have hT2 : h''.get? s.heap.objs.size = some { cls := .type "tuple", data := .seq #[.int (k + (i : Int)) tk, y] } := (sb.2 _ (Nat.ne_of_gt hel)).trans hT
    have new : ObjOk X.prog X.w (upd H s.heap.objs.size (.tup [.int (k + (i : Nat)), x])) h'' s.heap.objs.size (.tup [.int (k + (i : Nat)), x]) :=
      ⟨by show 2 ≤ sizeLine; decide, [.int (k + (i : Int)) tk, y], .cons ⟨_, rfl⟩ (.cons ru .nil), ⟨_, hT2, rfl, _, rfl⟩⟩
    have I1 : Inv X pins σ (upd H s.heap.objs.size (.tup [.int (k + (i : Nat)), x])) { s with heap := h'', toks := tk + 1 } :=
      I.turnedNew (t' := tk + 1) (ch := [e, it]) (fun b ob hb q => (sb.2 b (fun z => hb (by simp [z]))).trans (hk b ob (fun z => hb (by simp [z])) (fun z => hb (by simp [z])) q)) hf (Nat.le_refl _) new
    refine ⟨.ref s.heap.objs.size, _, I1, rfl, ⟨_, x, rfl, I.hok.fresh (Nat.le_refl _), rfl, fun ys hy => by rw [I.list_inj hy hq]; exact hx⟩, ⟨⟨y, ?_⟩, hit'.1.at fun o q => (sb.2 it (Ne.symm hne)).trans q, hne⟩, fun b hb => ?_⟩
    · have e1 : k + ((i + 1 : Nat) : Int) = k + (i : Int) + 1 := by omega
      rw [e1]; exact he'
    · have hb' : b < s.heap.objs.size := by
        have e' : b = e ∨ b = it := by simpa using hb
        rcases e' with z | z
        · rw [z]; exact hel
        · rw [z]; exact hil
      rw [upd_ne (Nat.ne_of_lt hb')]
      exact (hf b hb).1
  done := by
    intro X hP hw hK hc i pins s σ H E I hf st hg
    subst hP hw hK
    obtain ⟨⟨old, he⟩, hit, hne⟩ := st
    obtain ⟨xs, hq, hx⟩ := hg
    obtain ⟨its, rv, p, hz⟩ := I.list hq
    obtain ⟨f0, f1, f2, f3, f4, f5⟩ := hf it (by simp)
    have hl := rv.length
    have hA : X.A.in1.handled = none := I.ok.hd hc
    have l1 : its.toArray.size = i := by rw [← hx, hl]; simp
    subst l1
    exact wpAny_pyNext_enum_endD (Draws.list hA it a hai its.toArray) he ⟨hit, p.isList⟩ fun h' eb => ⟨rfl, I.turned (t' := s.toks) (fun b o hb q => eb b o hb q) f0 f1 f3 f4 f5⟩
  self := fun A i s Q E st h => let ⟨⟨_, he⟩, _⟩ := st; wpAny_pyIter_enum he h
section
variable {M : Model} {A : Around} {E : Value → Shared → Prop} {s : Shared} {env : Env}
theorem callWith_type_kwB {pos : Pos} {T : String} {first : List Value} {args : List (Bool × Sem Value)} {keywords : List (Option Str × Sem Value)} {Q : Value → Shared → Prop}
    (hplain : args.any (·.1) = false) (hkw : keywords.any (·.1.isNone) = false)
    (h : wpAny M A (evalArgs (.type T) true args keywords) (fun a s₁ => wpAny M A (call (.type T) (first ++ a.pos) a.kw) Q E s₁) E s) :
    wpAny M A (callWith pos (.type T) first args keywords) Q E s := by
  unfold callWith
  refine wpAny_bind (wpAny_holding (wpAny_mono h (fun a s₁ h₁ => wpAny_bind (wpAny_standAt ?_)) fun _ _ x => x))
  simp only [hplain, hkw, Bool.or_false]
  refine wpAny_bind (wpAny_pure ?_)
  exact wpAny_bind (wpAny_mono h₁ (fun r s₂ hr => wpAny_bind (wpAny_holding (wpAny_point (wpAny_pure hr)))) fun _ _ x => x)
theorem callWith_kwT {pos : Pos} {T : String} {e : Expr} {rest : List Expr} {kws : List Keyword} {Q : Value → Shared → Prop}
    (h : wpAny M A (spliced (backTo pos (starEach (e :: rest) env))) (fun vs s₁ => wpAny M A (evalAll ((backToKw pos (keywordEach kws env)).map (·.2)))
      (fun kvs s₂ => wpAny M A (call (.type T) vs (((backToKw pos (keywordEach kws env)).filterMap (·.1)).zip kvs)) Q E s₂) E s₁) E s)
    (he : backTo pos (starEach (e :: rest) env) = (false, eval e env) :: backTo pos (starEach rest env) := by rfl)
    (hplain : (backTo pos (starEach (e :: rest) env)).any (·.1) = false := by rfl)
    (hall : (backToKw pos (keywordEach kws env)).all (·.1.isSome) = true := by rfl)
    (hkw : (backToKw pos (keywordEach kws env)).any (·.1.isNone) = false := by rfl) :
    wpAny M A (callWith pos (.type T) [] (backTo pos (starEach (e :: rest) env)) (backToKw pos (keywordEach kws env))) Q E s := by
  refine callWith_type_kwB hplain hkw ?_
  rw [he] at h ⊢
  exact evalArgs_kwB hall h
end
def iEnumS (K : PySem.W.Frag) (k : Int) (te : TE) : TI := fun σ H R => te σ H fun v H1 => ∃ a xs, v = .ref a ∧ SqL K H1 a xs ∧ R (IteS K k a) H1
theorem pi_enumS {X : Cx} {y : Str} {pn : Pos} {te : TE} {k : Int} {kc : Nat} {p pos tpos cpos kpos : Pos} {elts : List Expr} {kk : Nat} (hg : Gl X "enumerate") (hm : X.mg "enumerate" = none) (ha : PE X (.Name y pn) te) (hk0 : -(2 ^ 63) ≤ k) (hk1 : k < 2 ^ 63) :
    PI X (.Tuple elts kk tpos) (.Call (.Name "enumerate" p) [.Name y pn] [⟨some "start", .Constant (.int k) kc cpos, kpos⟩] pos) (iEnumS X.K k te) := by
  refine ⟨fun pins s σ H R I h => ?_⟩
  refine wpAny_Call_Name_kw (ld_blt I hg hm boot_enumerate ?_)
  refine callWith_kwT ?_
  refine Calls.spliced_cons (thn (ha.run pins s σ H _ I h) fun v s1 ⟨x, H1, I1, rv, q⟩ => ?_)
  obtain ⟨a, xs, rfl, hl, q⟩ := q
  cases (show v = Value.ref a from rv)
  refine Calls.spliced_nil ?_
  show wpAny _ _ (evalAll ((do let v ← eval (.Constant (.int k) kc cpos) X.env; standAt pos; pure v) :: [])) _ _ _
  refine wpAny_evalAll_cons (wpAny_bind (thn ((pe_int (X := X)).run pins s1 σ H1 (fun v H2 => v = .int k ∧ H2 = H1) I1 ⟨rfl, rfl⟩) fun v2 s2 ⟨x2, H2, I2, r2, e2, e3⟩ => wpAny_bind (wpAny_standAt (wpAny_pure (wpAny_evalAll_nil ?_)))))
  subst e2 e3
  obtain ⟨t, rfl⟩ := r2
  obtain ⟨its, rv', p', hz⟩ := I2.list hl
  refine enum_begins_start (begins_list a its.toArray) p'.isList hk0 hk1 fun h' he hit hsz hk => wpAny_pyIter_enum he ?_
  have I3 : Inv X pins σ H2 { s2 with heap := h' } := I2.kept (t' := s2.toks) hk
  have la := p'.lt
  refine ⟨s2.heap.objs.size + 1, [s2.heap.objs.size + 1, s2.heap.objs.size], _, _, H2, rfl, I3, turn_enumS k a (s2.heap.objs.size + 1) s2.heap.objs.size (Nat.ne_of_lt la) (Nat.ne_of_gt (Nat.lt_succ_of_lt la)), ⟨⟨.none, by rw [show k + ((0 : Nat) : Int) = k by omega]; exact he⟩, ⟨_, hit, rfl, rfl⟩, Nat.succ_ne_self _⟩, fun b hb => ?_, q⟩
  have e' : b = s2.heap.objs.size + 1 ∨ b = s2.heap.objs.size := by simpa using hb
  have hle : s2.heap.objs.size ≤ b := by
    rcases e' with z | z
    · rw [z]; exact Nat.le_add_right _ _
    · rw [z]; exact Nat.le_refl _
  exact I2.fpOk hle (I2.hok.fresh hle)
theorem walk_enumS {K : PySem.W.Frag} {k : Int} {a : Addr} {xs : List V} : Walk (IteS K k a) xs.length (fun H => SqL K H a xs) (YPair (fun i => some (.int (k + (i : Nat)))) (fun i => xs[i]?)) := by
  refine ⟨fun i _ hi q => ⟨xs, xs[i], q, by simp [hi]⟩, fun _ q => ⟨xs, q, rfl⟩, fun i H v H' _ q y => ?_⟩
  obtain ⟨T, x, h1, h2, h3, h4⟩ := y
  exact ⟨T, .int (k + (i : Nat)), x, h1, h2, h3, rfl, h4 xs q⟩
end Es
/-! max of a list of ints -/
namespace Mx
open PySem PySem.Spec PyProof.Rows L2
def maxI (x : Int) (ys : List Int) : Int := ys.foldl max x
theorem maxI_ge : ∀ (ys : List Int) (x : Int), x ≤ maxI x ys ∧ ∀ y ∈ ys, y ≤ maxI x ys
  | [], x => ⟨Int.le_refl _, fun y hy => by cases hy⟩
  | y :: ys, x => by
    obtain ⟨h1, h2⟩ := maxI_ge ys (max x y)
    show x ≤ maxI (max x y) ys ∧ _
    refine ⟨by omega, fun z hz => ?_⟩
    show z ≤ maxI (max x y) ys
    rcases List.mem_cons.mp hz with e | e
    · rw [e]; omega
    · exact h2 z e
theorem maxI_mem : ∀ (ys : List Int) (x : Int), maxI x ys ∈ x :: ys
  | [], x => List.mem_singleton.mpr rfl
  | y :: ys, x => by
    have h := maxI_mem ys (max x y)
    show maxI (max x y) ys ∈ _
    rcases List.mem_cons.mp h with e | e
    · rw [e]
      by_cases c : x ≤ y
      · rw [Int.max_eq_right c]; exact List.mem_cons_of_mem _ List.mem_cons_self
      · rw [Int.max_eq_left (by omega)]; exact List.mem_cons_self
    · exact List.mem_cons_of_mem _ (List.mem_cons_of_mem _ e)
theorem dpAll_ints {K : PySem.W.Frag} {H : Hp} : ∀ zs : List Int, DpAll K H (zs.map V.int) (zs.map PyData.int)
  | [] => .nil
  | z :: zs => .cons (.int z) (dpAll_ints zs)
theorem depthI : ∀ zs : List Int, PyData.depthAll (zs.map PyData.int) = 0
  | [] => rfl
  | z :: zs => by rw [List.map_cons, PyData.depthAll, depthI zs]; rfl
/-- max(xs), a list of ints -/
def rMaxI (K : PySem.W.Frag) : List V → Hp → VK → Prop := fun vs H Q => ∃ (a : Addr) (x : Int) (ys : List Int), vs = [.ref a] ∧ SqL K H a ((x :: ys).map V.int) ∧ Q (.int (maxI x ys)) H
theorem cr_maxI {X : Cx} (hc : X.calm = true) (hu : X.A.units + 64 < cLine) : CallR X (.builtin "max") (rMaxI X.K) := by
  intro pins s σ H vs us Q I r h
  obtain ⟨a, x, ys, rfl, hs, q⟩ := h
  obtain ⟨its, rv, hl, -⟩ := I.list hs
  rw [Vals.ref1 r]
  obtain ⟨as, hr⟩ := Dp.readsAll I _ _ _ (dpAll_ints (x :: ys)) rv
  have hl : s.heap.IsList a its.toArray := hl.isList
  have hr' : ReadsAll s.heap its.toArray.toList (PyData.int x :: ys.map PyData.int) as := hr
  refine PySem.W.max_list_data (I.ok.hd hc) hl hr' (PySem.W.alikeAll_datum (α := Int) (x :: ys)) ?_ fun i v h' tk bs hv rd hk => ?_
  · have : PyData.depthAll (PyData.int x :: ys.map PyData.int) = 0 := depthI (x :: ys)
    rw [this]
    omega
  · rw [PySem.W.maxD_ints] at rd
    cases rd
    exact ⟨.int (maxI x ys), H, I.kept hk, ⟨_, rfl⟩, q⟩
end Mx
/-! d.update(d2) of two dicts; x < y of data -/
namespace Du
open PySem PySem.Spec PyProof.Rows L2
section
variable {X : Cx}
def rDUpd : V → List V → Hp → VK → Prop := fun x vs H Q => ∃ (a b : Addr) (kvs more : List (Key × V)), x = .ref a ∧ vs = [.ref b] ∧ H a = some (.dK kvs) ∧ H b = some (.dK more) ∧ a ≠ b ∧ kvs.length + more.length ≤ sizeLine ∧ Q .non (upd H a (.dK (mergeK kvs more)))
theorem mt_dupd : MtR X "dict.update" rDUpd := by
  intro pins s σ H x vs v us Q I rx rv h
  obtain ⟨a, b, kvs, more, rfl, rfl, ea, eb, hne, hsz, q⟩ := h
  obtain rfl : v = Value.ref a := rx
  obtain ⟨u, rfl, ru⟩ := rv.one
  obtain rfl : u = Value.ref b := ru
  obtain ⟨z, hd, vs1, rel1, dd1⟩ := dk_of I.hok ea
  obtain ⟨z2, hd2, vs2, rel2, dd2⟩ := dk_of I.hok eb
  refine call_meetsIn PySem.F.slot_dict_update dd1.typeIs PySem.F.entry_dict_update (PySem.F.args_dict_update_2 _ _) (meets_dict_update (mixKind X.prog X.w) a b hne hd2) ⟨vs1, vs2, dd1, dd2, by rw [← rel1.length, ← rel2.length]; exact hsz, fun h' dd' _ hs => ?_⟩
  have he : ∃ q, h'.get? a = some q := let ⟨q, _, _, hq, _⟩ := dd'; ⟨q, hq⟩
  refine ⟨.non, _, d_write (t' := s.toks) I (by rw [ea]; exact True.intro) hs he (dk_new ?_ hd (KV.merge rel2 rel1) dd'), rfl, q⟩
  refine Nat.le_trans (length_mergeK more kvs) ?_
  omega
/-- x < y, both data of one kind -/
def rLtG (α : Type) [DecidableEq α] [PySem.W.DatumOrd α] (K : PySem.W.Frag) : R2 := fun x y H Q => ∃ a b : α, Dp K H x (PySem.W.Datum.toD a) ∧ Dp K H y (PySem.W.Datum.toD b) ∧ PySem.W.Datum.toD a ≠ PyData.none ∧ PySem.W.Datum.depth α ≤ 60 ∧ Q (.bl (PySem.W.DatumOrd.lt a b)) H
theorem op_ltG (α : Type) [DecidableEq α] [PySem.W.DatumOrd α] (hu : X.A.units + 64 < cLine) : OpR X (compareOp .Lt) (rLtG α X.K) := by
  intro pins s σ H x y v u Q I rx ry h
  obtain ⟨a, b, hd, he, hn, hdep, q⟩ := h
  obtain ⟨as, r1⟩ := Dp.reads I _ x v hd rx
  obtain ⟨bs, r2⟩ := Dp.reads I _ y u he ry
  refine PySem.W.lt_data r1 r2 (PySem.W.DatumOrd.alike a b) hn ?_ ⟨.bl _, H, I, rfl, ?_⟩
  · refine PySem.W.room_datum (PySem.W.Datum.depth_le a) (by omega)
  · rw [PySem.W.DatumOrd.lt_eq]; exact q
end
end Du
/-! a text times 0 or 1; parts of texts given by their codes -/
namespace Stm
open PySem PySem.Spec PyProof.Rows L2
def rMulS01 : R2 := fun x y H Q => ∃ (z : Str) (n : Int), x = .str z ∧ y = .int n ∧ ((n = 0 ∧ Q (.str (SX.S [])) H) ∨ (n = 1 ∧ Q (.str z) H))
theorem op_mulS01 {X : Cx} : OpR X (binaryOp .Mult) rMulS01 := by
  intro pins s σ H x y v u Q I rx ry h
  obtain ⟨z, n, rfl, rfl, h⟩ := h
  obtain ⟨t, rfl⟩ := rx
  obtain ⟨t2, rfl⟩ := ry
  rcases h with ⟨rfl, q⟩ | ⟨rfl, q⟩
  · exact P.mul_str_none (by decide) (by decide) ⟨.str (SX.S []), H, I.kept (t' := s.toks + 1) (fun b o e => e), ⟨_, rfl⟩, q⟩
  · refine P.mul_str (by decide) (fun _ h => absurd h (by simp)) (fun _ h => absurd h (by simp)) ?_
    exact ⟨.str z, H, I, ⟨_, rfl⟩, q⟩
theorem cut_S (l : List Nat) (lo hi : Option Int) : cutS (SX.S l) lo hi = SX.S ((l.drop (HT.sIx l.length 0 lo)).take (HT.sIx l.length l.length hi - HT.sIx l.length 0 lo)) := by
  unfold cutS
  rw [SX.S_len]
theorem cut_to (l : List Nat) (n : Nat) : cutS (SX.S l) none (some (n : Int)) = SX.S (l.take n) := by
  rw [cut_S, HT.sIx_none, HT.sIx_nat]
  show SX.S ((l.drop 0).take (min n l.length - 0)) = _
  rw [List.drop_zero, Nat.sub_zero]
  by_cases h : n ≤ l.length
  · rw [Nat.min_eq_left h]
  · rw [Nat.min_eq_right (by omega), List.take_length, List.take_of_length_le (by omega)]
theorem cut_of (l : List Nat) (n : Nat) : cutS (SX.S l) (some (n : Int)) none = SX.S (l.drop n) := by
  rw [cut_S, HT.sIx_none, HT.sIx_nat]
  by_cases h : n ≤ l.length
  · rw [Nat.min_eq_left h, List.take_of_length_le (by rw [List.length_drop]; exact Nat.le_refl _)]
  · rw [Nat.min_eq_right (by omega), List.drop_length, List.drop_of_length_le (by omega), List.take_nil]
end Stm
namespace Dz
open PySem PySem.Spec PyProof.Rows L2
/-- dict(zip(xs, ys)), xs whole numbers -/
def tDictZip (K : PySem.W.Frag) (ta : TA) : TE := fun σ H Q => ta σ H fun vs H1 => ∃ (a b : Addr) (ks : List Int) (xs : List V), vs = [.ref a, .ref b] ∧ SqL K H1 a (ks.map V.int) ∧ SqL K H1 b xs ∧ ks.length = xs.length ∧ ks.length ≤ 5000 ∧
  ∀ p, H1 p = none → Q (.ref p) (upd H1 p (.dK (mergeK [] ((ks.map (Sum.inl : Int → Key)).zip xs))))
section
variable {X : Cx}
theorem kv_zip : ∀ {ks : List Int} {xs : List V} {us : List Value}, Vals xs us → KV ((ks.map (Sum.inl : Int → Key)).zip xs) ((ks.map (Sum.inl : Int → Key)).zip us)
  | [], _, _, _ => .nil
  | _ :: _, [], [], .nil => .nil
  | k :: ks, x :: xs, u :: us, .cons r t => .cons ⟨rfl, r⟩ (kv_zip t)
theorem pe_dictZip {e1 e2 : Expr} {ta : TA} {p p2 pos pos2 : Pos} (hcalm : X.calm = true) (hg : Gl X "dict") (hm : X.mg "dict" = none) (hgz : Gl X "zip") (hmz : X.mg "zip" = none) (ha : PA X [e1, e2] ta)
    (hs : starEach [e1, e2] X.env = (false, eval e1 X.env) :: starEach [e2] X.env := by rfl) (hpl : (backTo pos2 (starEach [e2] X.env)).any (·.1) = false := by rfl) :
    PE X (.Call (.Name "dict" p) [.Call (.Name "zip" p2) [e1, e2] [] pos2] [] pos) (tDictZip X.K ta) := by
  refine ⟨fun pins s σ H Q I h => ?_⟩
  refine Call_ (ld_blt I hg hm boot_dict (PyProof.Rows.callWith_type1 (args_cons (Call_ (ld_blt I hgz hmz PyProof.Rows.boot_zip (PyProof.Rows.callWith_type1 (thn (ha.run pos2 pins s σ H _ I h) fun us s1 ⟨vs, H1, I1, r1, q1⟩ => ?_) hs hpl))) (by rfl)) (by rfl)))
  obtain ⟨a, b, ks, xs, rfl, sa, sb, hl, hk, q⟩ := q1
  obtain ⟨u1, u2, rfl, ra, rb⟩ := vals2 r1
  cases (show u1 = Value.ref a from ra)
  cases (show u2 = Value.ref b from rb)
  obtain ⟨its, rv, p1, _⟩ := I1.list sa
  obtain ⟨its2, rv2, p2', _⟩ := I1.list sb
  have l1 := rv.length
  have l2 := rv2.length
  rw [List.length_map] at l1
  refine call_zip_2 p1.isList p2'.isList fun h1 hz hTI hTO i1 i2 hsz hk1 => args_nil ?_
  have P := PairArg.zip (prog := X.prog) (w := X.w) (s1.heap.objs.size + 4) (s1.heap.objs.size + 2) (s1.heap.objs.size + 3) s1.heap.objs.size (s1.heap.objs.size + 1) a b (PySem.W.ktu_apart s1.heap.objs.size a b p1.lt p2'.lt) its.toArray its2.toArray
  have hn : min its.toArray.size its2.toArray.size = ks.length := by
    rw [List.size_toArray, List.size_toArray]
    omega
  refine PySem.call_dict_pairs (knd := mixKind X.prog X.w) (kvs := (ks.map (Sum.inl : Int → Key)).zip its2) P (I1.ok.hd hcalm) ⟨hz, hTI, ⟨_, _, hTO⟩, i1, i2, p1.isList.at fun o e => hk1 _ o e, p2'.isList.at fun o e => hk1 _ o e⟩ ?_ ?_ fun h2 tk hd hk2 => ?_
  · refine ⟨by rw [List.length_zip, List.length_map]; omega, fun i key v hr => ?_⟩
    obtain ⟨e1, e2⟩ := hr
    have e1 : its[i]? = some key := by simpa using e1
    have e2 : its2[i]? = some v := by simpa using e2
    have hi : i < ks.length := by
      have := (List.getElem?_eq_some_iff.mp e1).1
      omega
    obtain ⟨w0, e3, t, rfl⟩ := rv.get (i := i) (x := .int ks[i]) (by rw [List.getElem?_map, List.getElem?_eq_getElem hi]; rfl)
    rw [e1] at e3
    cases e3
    refine ⟨Sum.inl ks[i], ?_, keyIs_int _ t⟩
    rw [List.getElem?_zip_eq_some]
    exact ⟨by rw [List.getElem?_map, List.getElem?_eq_getElem hi]; rfl, e2⟩
  · rw [hn]
    exact Nat.le_trans hk (by decide)
  · have k : ∀ c o, s1.heap.get? c = some o → h2.get? c = some o := fun c o e => by
      refine hk2 c o ?_ (hk1 c o e)
      have lt := Heap.lt_size e
      simp only [List.mem_cons, List.not_mem_nil, or_false]
      intro hc
      rcases hc with z | z | z | z
      all_goals (rw [z] at lt; first | exact absurd lt (Nat.not_lt.mpr (Nat.le_add_right _ _)) | exact absurd lt (Nat.lt_irrefl _))
    have hp : s1.heap.objs.size ≤ h1.objs.size := by rw [hsz]; exact Nat.le_add_right _ _
    have hm : (h1.objs.size == sysModules) = false := beq_eq_false_iff_ne.mpr (Nat.ne_of_gt (Nat.lt_of_lt_of_le I1.big hp))
    have hlen : (mergeK [] ((ks.map (Sum.inl : Int → Key)).zip xs)).length ≤ sizeLine := by
      refine Nat.le_trans (length_mergeK _ []) ?_
      rw [List.length_nil, Nat.zero_add, List.length_zip, List.length_map]
      exact Nat.le_trans (Nat.le_trans (Nat.min_le_left _ _) hk) (by decide)
    exact ⟨.ref h1.objs.size, _, I1.laid (t' := tk) k hp (show ObjOk X.prog X.w _ _ _ (.dK (mergeK [] ((ks.map (Sum.inl : Int → Key)).zip xs))) from ⟨hlen, hm, _, KV.merge (kv_zip rv2) .nil, hd⟩), rfl, q _ (I1.hok.fresh hp)⟩
end
/-- what such a dict tells, where the value hangs on the key -/
theorem val_merge (g : Nat → Int) (n : Nat) : ∀ (ps : List Nat) (acc : List (Key × V)), valV (mergeK acc (ps.map fun i => ((Sum.inl ((i : Nat) : Int) : Key), V.int (g i)))) (Sum.inl ((n : Nat) : Int)) = if n ∈ ps then some (.int (g n)) else valV acc (Sum.inl ((n : Nat) : Int))
  | [], acc => by rw [if_neg (by simp)]; rfl
  | x :: ps, acc => by
    show valV (mergeK (putK acc (Sum.inl ((x : Nat) : Int)) (V.int (g x))) (ps.map fun i => ((Sum.inl ((i : Nat) : Int) : Key), V.int (g i)))) _ = _
    rw [val_merge g n ps, valV_put]
    by_cases h : n ∈ ps
    · rw [if_pos h, if_pos (List.mem_cons_of_mem _ h)]
    · rw [if_neg h]
      by_cases e : n = x
      · subst e
        rw [if_pos rfl, if_pos (List.mem_cons_self ..)]
      · rw [if_neg (fun z => e (by have := Sum.inl.inj z; omega)), if_neg (fun z => (List.mem_cons.mp z).elim e h)]
end Dz
/-! t[1::-1] of a tuple of four: a new tuple of its second and its first thing -/
namespace Rt
open PySem PySem.Spec PyProof.Rows L2 HT
section
variable {prog : Program} {w : World} {A : Around} {E : Value → Shared → Prop} {s : Shared}
theorem applied {sl : Addr} {vl vu vs : Value} {Q : Int × Int × Nat → Shared → Prop} (hs : s.heap.IsSliceOf sl vl vu vs) (pl : IsPart vl (some 1)) (pu : IsPart vu none) (ps : IsPart vs (some (-1)))
    (h : Q (1, -1, 2) s) : wpAny (model prog w) A (Builtin.Slice.sliceApplied (.ref sl) (pure 4)) Q E s := by
  obtain ⟨os, hos, hcs, hds⟩ := id hs
  unfold Builtin.Slice.sliceApplied Builtin.Slice.sliceFields
  refine wpAny_bind (wpAny_bind (wpAny_field hos hds (x := vl) rfl (wpAny_bind (wpAny_field hos hds (x := vu) rfl (wpAny_bind (wpAny_field hos hds (x := vs) rfl (wpAny_pure ?_)))))))
  refine wpAny_bind (slicePart_ ps ?_)
  show wpAny _ _ (if ((-1 : Int) == 0) = true then _ else _) _ _ s
  rw [if_neg (by decide)]
  refine wpAny_bind (slicePart_ pl (wpAny_bind (slicePart_ pu (wpAny_bind (wpAny_pure ?_)))))
  exact wpAny_pure h
theorem item4 {t sl : Addr} {x0 x1 x2 x3 : Value} {vl vu vs : Value} {Q : Value → Shared → Prop} (ht : IsTup s.heap t #[x0, x1, x2, x3]) (hs : s.heap.IsSliceOf sl vl vu vs) (pl : IsPart vl (some 1)) (pu : IsPart vu none) (ps : IsPart vs (some (-1)))
    (h : Q (.ref s.heap.objs.size) { s with heap := s.heap.push { cls := .type "tuple", data := .seq #[x1, x0] } }) : wpAny (model prog w) A (getItem (.ref t) (.ref sl)) Q E s := by
  have htake : sizeOk (.seq #[x1, x0]) := by
    show 2 ≤ sizeLine
    decide
  obtain ⟨os, hos, hcs, hds⟩ := id hs
  have hTs : s.TypeIs (.ref sl) "slice" := ⟨os, hos, hcs⟩
  unfold getItem
  try with_reducible refine wpAny_holding ?_
  first | refine wpAny_bind (wpAny_pure ?_) | skip
  refine wpAny_bind (wpAny_sequenceKey ht.typeIs (by decide) ?_)
  refine wpAny_bind (wpAny_callSpecial?_slot (name := Str.ofString "__getitem__") ht.typeIs PyProof.Rows.slot_tuple_getitem
    (wpAny_call_entry PyProof.Rows.slot_tuple_getitem ht.typeIs entry_tuple_getitem ?_ (args_tuple_getitem _ _)))
  show wpAny _ _ (Builtin.Tuple.tupleItemsOf (.ref t) >>= _) _ _ s
  refine wpAny_bind (tupleItemsOf_ ht ?_)
  refine wpAny_bind (wpAny_typeOf hTs ?_)
  rw [if_pos (by decide)]
  refine wpAny_bind (applied hs pl pu ps ?_)
  show wpAny _ _ (if ((1 : Int) == 0 && (-1 : Int) == 1 && (2 : Nat) == 4) = true then _ else _) _ _ s
  rw [if_neg (by decide)]
  first
    | exact wpAny_bind (m := Builtin.Tuple.tupleExact _) (wpAny_newObj_type (wpAny_pure ⟨_, rfl, wpAny_pure h⟩) htake)
    | exact wpAny_bind (m := Builtin.Tuple.tupleExact _) (wpAny_newObj_type (wpAny_bind (wpAny_pure (wpAny_pure ⟨_, rfl, wpAny_pure h⟩))) htake)
    | exact wpAny_bind (wpAny_bind (m := Builtin.Tuple.tupleExact _) (wpAny_newObj_type (wpAny_pure (wpAny_pure ⟨_, rfl, wpAny_pure h⟩)) htake))
    | exact wpAny_bind (wpAny_bind (m := Builtin.Tuple.tupleExact _) (wpAny_newObj_type (wpAny_pure ⟨_, rfl, wpAny_pure h⟩) htake))
end
section
variable {X : Cx}
def tRev2 (K : PySem.W.Frag) (te : TE) : TE := fun σ H Q => te σ H fun x H1 => ∃ a x0 x1 x2 x3, x = .ref a ∧ SqT K H1 a [x0, x1, x2, x3] ∧ ∀ p, H1 p = none → Q (.ref p) (upd H1 p (.tup [x1, x0]))
theorem pe_rev2 {e : Expr} {te : TE} {k0 k : Nat} {p0 p1 p2 p3 pos : Pos} (he : PE X e te) : PE X (.Subscript e (.Slice (some (.Constant (.int 1) k0 p0)) none (some (.UnaryOp .USub (.Constant (.int 1) k p1) p2)) p3) pos) (tRev2 X.K te) := by
  refine ⟨fun pins s σ H Q I h => ?_⟩
  refine Subscript_ (thn (he.run pins s σ H _ I h) fun v s1 ⟨x, H1, I1, r1, q1⟩ => ?_)
  obtain ⟨a, x0, x1, x2, x3, ex, hx, q⟩ := q1
  subst ex
  cases r1
  have hlo : PO X (some (.Constant (.int 1) k0 p0)) (tPart (tC (.int 1))) := po_some pe_int
  have hst : PO X (some (.UnaryOp .USub (.Constant (.int 1) k p1) p2)) (tPart (tUn (rU fun i => .int (-i)) (tC (.int 1)))) := po_some (pe_un un_neg pe_int)
  refine wpAny_Slice (thn (hlo.run pins s1 σ H1 (fun o H2 => o = some 1 ∧ H2 = H1) I1 ⟨1, rfl, rfl, rfl⟩) fun vl s2 ⟨l, H2, I2, pl, el, e2⟩ => ?_)
  subst el e2
  refine thn (po_none.run pins s2 σ H2 (fun o H3 => o = none ∧ H3 = H2) I2 ⟨rfl, rfl⟩) fun vu s3 ⟨u, H3, I3, pu, eu, e3⟩ => ?_
  subst eu e3
  refine thn (hst.run pins s3 σ H3 (fun o H4 => o = some (-1) ∧ H4 = H3) I3 ⟨1, rfl, -1, rfl, rfl, rfl⟩) fun vs s4 ⟨o, H4, I4, ps, eo, e4⟩ => ?_
  subst eo e4
  have I5 : Inv X pins σ H4 { s4 with heap := s4.heap.push { cls := .type "slice", data := .fields #[vl, vu, vs] } } := I4.kept (t' := s4.toks) fun b ob q => Heap.get?_push_of_some _ q
  obtain ⟨its, r, ht, hz⟩ := I5.tuple hx
  show wpAny (model X.prog X.w) X.A (subscriptTail e (.Slice (some (.Constant (.int 1) k0 p0)) none (some (.UnaryOp .USub (.Constant (.int 1) k p1) p2)) p3) (.ref a) (.ref s4.heap.objs.size)) (EP X pins σ Q) X.xe { s4 with heap := s4.heap.push { cls := .type "slice", data := .fields #[vl, vu, vs] } }
  refine tail_any (ops := [.ref a, .ref s4.heap.objs.size]) ht.typeIs (PyProof.Rows.slot_tuple_getitem.lookup) ?_ (by with_unfolding_all rfl)
  cases r with
  | cons r0 r =>
    cases r with
    | cons r1 r =>
      cases r with
      | cons r2 r =>
        cases r with
        | cons r3 r =>
          cases r
          refine item4 ht (Heap.IsSliceOf.new _ vl vu vs) pl pu ps ?_
          refine ⟨.ref _, _, I5.laid (t' := s4.toks) (o := .tup [x1, x0]) (fun b ob q => Heap.get?_push_of_some _ q) (Nat.le_refl _) ?_, rfl, q _ (I5.hok.fresh (Nat.le_refl _))⟩
          exact ⟨by show 2 ≤ sizeLine; decide, _, .cons r1 (.cons r0 .nil), IsTup.new _ _⟩
end
end Rt
/-! slices of tuples whose object is known; t.index(x) of such; t[::-1] of a tuple -/
namespace Tw
open PySem PySem.Spec PyProof.Rows L2 HT Th
section
variable {X : Cx}
def tyTp (x : V) (H : Hp) : Prop := ∃ a xs, x = .ref a ∧ TpF H a xs
theorem ty_tp : TyOk X "tuple" tyTp := by
  intro pins σ H s x v I r ty
  obtain ⟨a, xs, rfl, ob, hob, hnd⟩ := ty
  cases r
  obtain ⟨hg, hz, its, rv, o', ho', hc, n, hdat⟩ := (show ObjOk X.prog X.w H s.heap a (.frz ob (.tup xs)) from I.hok a _ hob)
  refine ⟨⟨o', ho', hc⟩, fun b e => ?_⟩
  cases e
  exact ⟨ob, hg, hnd⟩
def rIdxT (K : PySem.W.Frag) : V → List V → Hp → VK → Prop := fun x xs H Q => ∃ p, ∃ ys : List Str, ∃ z j, x = .ref p ∧ xs = [.str z] ∧ SqT K H p (ys.map V.str) ∧ ys[j]? = some z ∧ (∀ m, m < j → ys[m]? ≠ some z) ∧ Q (.int (j : Nat)) H
theorem mt_tidx : MtR X "tuple.index" (rIdxT X.K) := mt_tup_index
def rSlF (K : PySem.W.Frag) : V → Option Int → Option Int → Hp → VK → Prop := fun x lo hi H Q => ∃ a xs, x = .ref a ∧ SqT K H a xs ∧ ¬ (HT.sIx xs.length 0 lo = 0 ∧ HT.sIx xs.length xs.length hi = xs.length) ∧
  ∀ (p : Addr) (H' : Hp), H p = none → Same H H' → TpF H' p (cutV xs lo hi) → (∀ q, q ≠ p → H' q = H q) → Q (.ref p) H'
theorem sl_tupF : SlR X (rSlF X.K) := by
  intro pins s σ H x v vl vu lo hi sl Q I rx hs pl pu h
  obtain ⟨a, xs, rfl, hx, hw, q⟩ := h
  cases rx
  obtain ⟨its, r, ht, hz⟩ := I.tuple hx
  have hlen : its.toArray.size = xs.length := by rw [List.size_toArray]; exact r.length.symm
  refine ⟨"tuple", _, PyProof.Rows.slot_tuple_getitem.lookup, ht.typeIs, ?_⟩
  refine HT.getItem_tuple_cut ht hs pl pu (by rw [hlen]; exact hw) ?_ (by rw [hlen]; exact hz)
  rw [hlen]
  have nl := I.hok.fresh (Nat.le_refl s.heap.objs.size)
  refine ⟨.ref s.heap.objs.size, upd H s.heap.objs.size (.frz { cls := .type "tuple", data := .seq ((its.toArray.toList.drop (HT.sIx xs.length 0 lo)).take (HT.sIx xs.length xs.length hi - HT.sIx xs.length 0 lo)).toArray } (.tup (cutV xs lo hi))), I.laid (t' := s.toks) (fun b ob q => Heap.get?_push_of_some _ q) (Nat.le_refl _) ?_, rfl, q _ _ nl (same_upd nl) ⟨_, upd_same, rfl⟩ fun q hq => upd_ne hq⟩
  exact ⟨Heap.get?_push_size _ rfl, Nat.le_trans (cutV_length xs lo hi) hz, _, (r.drop (HT.sIx xs.length 0 lo)).take (HT.sIx xs.length xs.length hi - HT.sIx xs.length 0 lo), IsTup.new _ _⟩
end
section
variable {prog : Program} {w : World} {A : Around} {E : Value → Shared → Prop} {s : Shared}
theorem places (n : Nat) : Builtin.Slice.slicePlaces ((n : Int) - 1) (-1) (-1) = n := by
  unfold Builtin.Slice.slicePlaces
  rw [if_neg (by decide)]
  by_cases h : (n : Int) - 1 > -1
  · rw [if_pos h]
    have e : ((n : Int) - 1 - -1 - 1) / (- -1) + 1 = (n : Int) := by
      rw [show (- -1 : Int) = 1 by decide, Int.ediv_one]
      omega
    rw [e]
    rfl
  · rw [if_neg h]
    have : n = 0 := by omega
    subst this
    rfl
theorem applied {sl : Addr} {n : Nat} {vl vu vs : Value} {Q : Int × Int × Nat → Shared → Prop} (hs : s.heap.IsSliceOf sl vl vu vs) (pl : IsPart vl none) (pu : IsPart vu none) (ps : IsPart vs (some (-1)))
    (h : Q ((n : Int) - 1, -1, n) s) : wpAny (model prog w) A (Builtin.Slice.sliceApplied (.ref sl) (pure (n : Int))) Q E s := by
  obtain ⟨os, hos, hcs, hds⟩ := id hs
  unfold Builtin.Slice.sliceApplied Builtin.Slice.sliceFields
  refine wpAny_bind (wpAny_bind (wpAny_field hos hds (x := vl) rfl (wpAny_bind (wpAny_field hos hds (x := vu) rfl (wpAny_bind (wpAny_field hos hds (x := vs) rfl (wpAny_pure ?_)))))))
  refine wpAny_bind (slicePart_ ps ?_)
  show wpAny _ _ (if ((-1 : Int) == 0) = true then _ else _) _ _ s
  rw [if_neg (by decide)]
  refine wpAny_bind (slicePart_ pl (wpAny_bind (slicePart_ pu (wpAny_bind (wpAny_pure ?_)))))
  have e : Builtin.Slice.sliceAdjust none none (-1) (n : Int) = ((n : Int) - 1, -1) := by
    unfold Builtin.Slice.sliceAdjust
    simp
  show wpAny _ _ (match Builtin.Slice.sliceAdjust none none (-1) (n : Int) with | (lo, hi) => pure (lo, (-1 : Int), Builtin.Slice.slicePlaces lo hi (-1))) Q E s
  rw [e]
  refine wpAny_pure ?_
  show Q (_, _, Builtin.Slice.slicePlaces ((n : Int) - 1) (-1) (-1)) s
  rw [places]
  exact h
theorem fm_congr {α β : Type} {f g : α → Option β} : ∀ {l : List α}, (∀ x ∈ l, f x = g x) → l.filterMap f = l.filterMap g
  | [], _ => rfl
  | x :: l, h => by
    rw [List.filterMap_cons, List.filterMap_cons, h x List.mem_cons_self, fm_congr fun y hy => h y (List.mem_cons_of_mem _ hy)]
theorem back (xs : Array Value) : ((List.range xs.size).filterMap fun (k : Nat) => xs[(((xs.size : Int) - 1) + (k : Int) * (-1)).toNat]?) = xs.toList.reverse := by
  have e : ((List.range xs.size).filterMap fun (k : Nat) => xs[(((xs.size : Int) - 1) + (k : Int) * (-1)).toNat]?) = ((List.range xs.size).map fun k => xs.size - 1 - k).filterMap (xs[·]?) := by
    rw [List.filterMap_map]
    refine fm_congr fun k hk => ?_
    have := List.mem_range.mp hk
    show _ = xs[xs.size - 1 - k]?
    congr 1
    omega
  rw [e, PySem.W.krv_range, List.filterMap_reverse, PySem.W.krv_all]
theorem item_rev {t sl : Addr} {items : Array Value} {vl vu vs : Value} {Q : Value → Shared → Prop} (ht : IsTup s.heap t items) (hs : s.heap.IsSliceOf sl vl vu vs) (pl : IsPart vl none) (pu : IsPart vu none) (ps : IsPart vs (some (-1))) (hz : items.size ≤ sizeLine)
    (h : Q (.ref s.heap.objs.size) { s with heap := s.heap.push { cls := .type "tuple", data := .seq items.toList.reverse.toArray } }) : wpAny (model prog w) A (getItem (.ref t) (.ref sl)) Q E s := by
  have htake : sizeOk (.seq items.toList.reverse.toArray) := by
    show items.toList.reverse.toArray.size ≤ sizeLine
    simpa using hz
  obtain ⟨os, hos, hcs, hds⟩ := id hs
  have hTs : s.TypeIs (.ref sl) "slice" := ⟨os, hos, hcs⟩
  unfold getItem
  try with_reducible refine wpAny_holding ?_
  first | refine wpAny_bind (wpAny_pure ?_) | skip
  refine wpAny_bind (wpAny_sequenceKey ht.typeIs (by decide) ?_)
  refine wpAny_bind (wpAny_callSpecial?_slot (name := Str.ofString "__getitem__") ht.typeIs PyProof.Rows.slot_tuple_getitem
    (wpAny_call_entry PyProof.Rows.slot_tuple_getitem ht.typeIs entry_tuple_getitem ?_ (args_tuple_getitem _ _)))
  show wpAny _ _ (Builtin.Tuple.tupleItemsOf (.ref t) >>= _) _ _ s
  refine wpAny_bind (tupleItemsOf_ ht ?_)
  refine wpAny_bind (wpAny_typeOf hTs ?_)
  rw [if_pos (by decide)]
  refine wpAny_bind (applied hs pl pu ps ?_)
  show wpAny _ _ (if (((items.size : Int) - 1) == 0 && (-1 : Int) == 1 && items.size == items.size) = true then _ else _) _ _ s
  rw [if_neg (by simp)]
  show wpAny _ _ (Builtin.Tuple.tupleExact ((List.range items.size).filterMap fun (k : Nat) => items[(((items.size : Int) - 1) + (k : Int) * (-1)).toNat]?).toArray >>= _) _ _ s
  rw [back]
  first
    | exact wpAny_bind (m := Builtin.Tuple.tupleExact _) (wpAny_newObj_type (wpAny_pure ⟨_, rfl, wpAny_pure h⟩) htake)
    | exact wpAny_bind (m := Builtin.Tuple.tupleExact _) (wpAny_newObj_type (wpAny_bind (wpAny_pure (wpAny_pure ⟨_, rfl, wpAny_pure h⟩))) htake)
    | exact wpAny_bind (wpAny_bind (m := Builtin.Tuple.tupleExact _) (wpAny_newObj_type (wpAny_pure (wpAny_pure ⟨_, rfl, wpAny_pure h⟩)) htake))
    | exact wpAny_bind (wpAny_bind (m := Builtin.Tuple.tupleExact _) (wpAny_newObj_type (wpAny_pure ⟨_, rfl, wpAny_pure h⟩) htake))
end
section
variable {X : Cx}
def tRevT (K : PySem.W.Frag) (te : TE) : TE := fun σ H Q => te σ H fun x H1 => ∃ a xs, x = .ref a ∧ SqT K H1 a xs ∧ ∀ p, H1 p = none → Q (.ref p) (upd H1 p (.tup xs.reverse))
theorem pe_revT {K : PySem.W.Frag} {e : Expr} {te : TE} {k : Nat} {p1 p2 p3 pos : Pos} (he : PE X e te) (hK : X.K = K := by rfl) : PE X (.Subscript e (.Slice none none (some (.UnaryOp .USub (.Constant (.int 1) k p1) p2)) p3) pos) (tRevT K te) := by
  subst hK
  refine ⟨fun pins s σ H Q I h => ?_⟩
  refine Subscript_ (thn (he.run pins s σ H _ I h) fun v s1 ⟨x, H1, I1, r1, q1⟩ => ?_)
  obtain ⟨a, xs, ex, hx, q⟩ := q1
  subst ex
  cases r1
  have hst : PO X (some (.UnaryOp .USub (.Constant (.int 1) k p1) p2)) (tPart (tUn (rU fun i => .int (-i)) (tC (.int 1)))) := po_some (pe_un un_neg pe_int)
  refine wpAny_Slice (thn (po_none.run pins s1 σ H1 (fun o H2 => o = none ∧ H2 = H1) I1 ⟨rfl, rfl⟩) fun vl s2 ⟨l, H2, I2, pl, el, e2⟩ => ?_)
  subst el e2
  refine thn (po_none.run pins s2 σ H2 (fun o H3 => o = none ∧ H3 = H2) I2 ⟨rfl, rfl⟩) fun vu s3 ⟨u, H3, I3, pu, eu, e3⟩ => ?_
  subst eu e3
  refine thn (hst.run pins s3 σ H3 (fun o H4 => o = some (-1) ∧ H4 = H3) I3 ⟨1, rfl, -1, rfl, rfl, rfl⟩) fun vs s4 ⟨o, H4, I4, ps, eo, e4⟩ => ?_
  subst eo e4
  have I5 : Inv X pins σ H4 { s4 with heap := s4.heap.push { cls := .type "slice", data := .fields #[vl, vu, vs] } } := I4.kept (t' := s4.toks) fun b ob q => Heap.get?_push_of_some _ q
  obtain ⟨its, r, ht, hz⟩ := I5.tuple hx
  have hlen := r.length
  show wpAny (model X.prog X.w) X.A (subscriptTail e (.Slice none none (some (.UnaryOp .USub (.Constant (.int 1) k p1) p2)) p3) (.ref a) (.ref s4.heap.objs.size)) (EP X pins σ Q) X.xe { s4 with heap := s4.heap.push { cls := .type "slice", data := .fields #[vl, vu, vs] } }
  refine tail_any (ops := [.ref a, .ref s4.heap.objs.size]) ht.typeIs (PyProof.Rows.slot_tuple_getitem.lookup) ?_ (by with_unfolding_all rfl)
  refine item_rev ht (Heap.IsSliceOf.new _ vl vu vs) pl pu ps (by rw [List.size_toArray]; omega) ?_
  refine ⟨.ref _, _, I5.laid (t' := s4.toks) (o := .tup xs.reverse) (fun b ob q => Heap.get?_push_of_some _ q) (Nat.le_refl _) ?_, rfl, q _ (I5.hok.fresh (Nat.le_refl _))⟩
  exact ⟨by rw [List.length_reverse]; exact hz, _, r.reverse, IsTup.new _ _⟩
end
end Tw
/-! xs[::e] and t[::e] where e comes to 1 or -1 -/
namespace Sr
open PySem PySem.Spec PyProof.Rows L2 HT Th
def bI (b : Bool) : Int := if b then -1 else 1
theorem range1 (n : Nat) : sliceRange (0 : Int) n 1 = List.range n := by
  unfold sliceRange
  rw [if_pos (by decide)]
  by_cases h : (0 : Int) < n
  · have e : (((n : Int) - 0 + 1 - 1) / 1).toNat = n := by rw [Int.ediv_one]; omega
    have h' : 0 < n := by omega
    simp
    rw [if_pos h']
    rfl
  · have : n = 0 := by omega
    subst this
    simp
theorem pick1 (items : Array Value) : slicePick items none none (some 1) = items := by
  unfold slicePick
  have e : sliceBounds none none (some 1) items.size = ((0 : Int), (items.size : Int), 1) := by
    first
    | rfl
    | simp [sliceBounds]
  rw [e]
  show ((sliceRange (0 : Int) (items.size : Int) 1).filterMap (items[·]?)).toArray = _
  rw [range1, PySem.W.krv_all]
theorem pick_bI (items : Array Value) : ∀ b : Bool, slicePick items none none (some (bI b)) = (if b then items.toList.reverse.toArray else items)
  | true => PySem.W.krv_pick items
  | false => pick1 items
section
variable {X : Cx}
def tStpL (K : PySem.W.Frag) (te ts : TE) : TE := fun σ H Q => te σ H fun x H1 => ∃ a, x = .ref a ∧ tPart ts σ H1 fun o H2 => ∃ (b : Bool) (xs : List V), o = some (bI b) ∧ SqL K H2 a xs ∧ ∀ p, H2 p = none → Q (.ref p) (upd H2 p (.lst (if b then xs.reverse else xs)))
theorem pe_stpL {e e2 : Expr} {te ts : TE} {p3 pos : Pos} (he : PE X e te) (h2 : PE X e2 ts) : PE X (.Subscript e (.Slice none none (some e2) p3) pos) (tStpL X.K te ts) := by
  refine ⟨fun pins s σ H Q I h => ?_⟩
  refine Subscript_ (thn (he.run pins s σ H _ I h) fun v s1 ⟨x, H1, I1, r1, q1⟩ => ?_)
  obtain ⟨a, ex, q⟩ := q1
  subst ex
  cases r1
  have hst : PO X (some e2) (tPart ts) := po_some h2
  refine wpAny_Slice (thn (po_none.run pins s1 σ H1 (fun o H2 => o = none ∧ H2 = H1) I1 ⟨rfl, rfl⟩) fun vl s2 ⟨l, H2, I2, pl, el, e2'⟩ => ?_)
  subst el e2'
  refine thn (po_none.run pins s2 σ H2 (fun o H3 => o = none ∧ H3 = H2) I2 ⟨rfl, rfl⟩) fun vu s3 ⟨u, H3, I3, pu, eu, e3⟩ => ?_
  subst eu e3
  refine thn (hst.run pins s3 σ H3 (fun o H4 => ∃ (b : Bool) (xs : List V), o = some (bI b) ∧ SqL X.K H4 a xs ∧ ∀ p, H4 p = none → Q (.ref p) (upd H4 p (.lst (if b then xs.reverse else xs)))) I3 q) fun vs s4 ⟨o, H4, I4, ps, hb⟩ => ?_
  obtain ⟨b, xs, eo, hx, q⟩ := hb
  subst eo
  have I5 : Inv X pins σ H4 { s4 with heap := s4.heap.push { cls := .type "slice", data := .fields #[vl, vu, vs] } } := I4.kept (t' := s4.toks) fun b ob q => Heap.get?_push_of_some _ q
  obtain ⟨its, r, ht, hz⟩ := I5.list hx
  have hlen := r.length
  show wpAny (model X.prog X.w) X.A (subscriptTail e (.Slice none none (some e2) p3) (.ref a) (.ref s4.heap.objs.size)) (EP X pins σ Q) X.xe { s4 with heap := s4.heap.push { cls := .type "slice", data := .fields #[vl, vu, vs] } }
  refine tail_any (ops := [.ref a, .ref s4.heap.objs.size]) ht.isList.typeIs (PySem.slot_list_getitem.lookup) ?_ (by with_unfolding_all rfl)
  refine wpAny_getItem_list_slice ht.isList (Heap.IsSliceOf.new _ vl vu vs) pl pu ps (by cases b <;> decide) ?_ (by rw [List.size_toArray]; omega)
  rw [pick_bI]
  cases b with
  | true =>
    refine ⟨.ref _, _, I5.laid (t' := s4.toks) (o := .lst xs.reverse) (fun b ob q => Heap.get?_push_of_some _ q) (Nat.le_refl _) ?_, rfl, q _ (I5.hok.fresh (Nat.le_refl _))⟩
    exact ⟨by rw [List.length_reverse]; exact hz, _, 0, r.reverse, Heap.get?_push_size _ rfl⟩
  | false =>
    refine ⟨.ref _, _, I5.laid (t' := s4.toks) (o := .lst xs) (fun b ob q => Heap.get?_push_of_some _ q) (Nat.le_refl _) ?_, rfl, q _ (I5.hok.fresh (Nat.le_refl _))⟩
    exact ⟨hz, _, 0, r, Heap.get?_push_size _ rfl⟩
end
section
variable {prog : Program} {w : World} {A : Around} {E : Value → Shared → Prop} {s : Shared}
theorem applied1 {sl : Addr} {n : Nat} {vl vu vs : Value} {Q : Int × Int × Nat → Shared → Prop} (hs : s.heap.IsSliceOf sl vl vu vs) (pl : IsPart vl none) (pu : IsPart vu none) (ps : IsPart vs (some 1))
    (h : Q ((0 : Int), 1, n) s) : wpAny (model prog w) A (Builtin.Slice.sliceApplied (.ref sl) (pure (n : Int))) Q E s := by
  obtain ⟨os, hos, hcs, hds⟩ := id hs
  unfold Builtin.Slice.sliceApplied Builtin.Slice.sliceFields
  refine wpAny_bind (wpAny_bind (wpAny_field hos hds (x := vl) rfl (wpAny_bind (wpAny_field hos hds (x := vu) rfl (wpAny_bind (wpAny_field hos hds (x := vs) rfl (wpAny_pure ?_)))))))
  refine wpAny_bind (slicePart_ ps ?_)
  show wpAny _ _ (if ((1 : Int) == 0) = true then _ else _) _ _ s
  rw [if_neg (by decide)]
  refine wpAny_bind (slicePart_ pl (wpAny_bind (slicePart_ pu (wpAny_bind (wpAny_pure ?_)))))
  have e : Builtin.Slice.sliceAdjust none none 1 (n : Int) = ((0 : Int), (n : Int)) := by
    unfold Builtin.Slice.sliceAdjust
    simp
  show wpAny _ _ (match Builtin.Slice.sliceAdjust none none 1 (n : Int) with | (lo, hi) => pure (lo, (1 : Int), Builtin.Slice.slicePlaces lo hi 1)) Q E s
  rw [e]
  refine wpAny_pure ?_
  show Q (_, _, Builtin.Slice.slicePlaces (0 : Int) (n : Int) 1) s
  have e2 : Builtin.Slice.slicePlaces (0 : Int) (n : Int) 1 = n := by
    unfold Builtin.Slice.slicePlaces
    rw [if_pos (by decide)]
    by_cases c : (0 : Int) < n
    · have c' : 0 < n := by omega
      simp
      rw [if_pos c']
      omega
    · have : n = 0 := by omega
      subst this
      simp
  rw [e2]
  exact h
theorem item_one {t sl : Addr} {items : Array Value} {vl vu vs : Value} {Q : Value → Shared → Prop} (ht : IsTup s.heap t items) (hs : s.heap.IsSliceOf sl vl vu vs) (pl : IsPart vl none) (pu : IsPart vu none) (ps : IsPart vs (some 1))
    (h : Q (.ref t) s) : wpAny (model prog w) A (getItem (.ref t) (.ref sl)) Q E s := by
  obtain ⟨os, hos, hcs, hds⟩ := id hs
  have hTs : s.TypeIs (.ref sl) "slice" := ⟨os, hos, hcs⟩
  unfold getItem
  try with_reducible refine wpAny_holding ?_
  first | refine wpAny_bind (wpAny_pure ?_) | skip
  refine wpAny_bind (wpAny_sequenceKey ht.typeIs (by decide) ?_)
  refine wpAny_bind (wpAny_callSpecial?_slot (name := Str.ofString "__getitem__") ht.typeIs PyProof.Rows.slot_tuple_getitem
    (wpAny_call_entry PyProof.Rows.slot_tuple_getitem ht.typeIs entry_tuple_getitem ?_ (args_tuple_getitem _ _)))
  show wpAny _ _ (Builtin.Tuple.tupleItemsOf (.ref t) >>= _) _ _ s
  refine wpAny_bind (tupleItemsOf_ ht ?_)
  refine wpAny_bind (wpAny_typeOf hTs ?_)
  rw [if_pos (by decide)]
  refine wpAny_bind (applied1 hs pl pu ps ?_)
  show wpAny _ _ (if ((0 : Int) == 0 && (1 : Int) == 1 && items.size == items.size) = true then _ else _) _ _ s
  rw [if_pos (by simp)]
  refine wpAny_bind ?_
  unfold Builtin.Tuple.tupleIsExact
  refine wpAny_bind (wpAny_typeOf ht.typeIs ?_)
  refine wpAny_pure ?_
  rw [if_pos (by decide)]
  first
    | exact wpAny_bind (wpAny_rule (wpAny_pure ⟨_, rfl, wpAny_pure h⟩))
    | exact wpAny_bind (wpAny_rule (wpAny_pure ⟨_, rfl, h⟩))
    | exact wpAny_bind (wpAny_rule ⟨_, rfl, wpAny_pure h⟩)
end
section
variable {X : Cx}
/-- t[::e]: the tuple itself where e comes to 1 -/
def tStpT (K : PySem.W.Frag) (te ts : TE) : TE := fun σ H Q => te σ H fun x H1 => ∃ a, x = .ref a ∧ tPart ts σ H1 fun o H2 => ∃ (b : Bool) (xs : List V), o = some (bI b) ∧ SqT K H2 a xs ∧ (b = false → Q (.ref a) H2) ∧ (b = true → ∀ p, H2 p = none → Q (.ref p) (upd H2 p (.tup xs.reverse)))
theorem pe_stpT {K : PySem.W.Frag} {e e2 : Expr} {te ts : TE} {p3 pos : Pos} (he : PE X e te) (h2 : PE X e2 ts) (hK : X.K = K := by rfl) : PE X (.Subscript e (.Slice none none (some e2) p3) pos) (tStpT K te ts) := by
  subst hK
  refine ⟨fun pins s σ H Q I h => ?_⟩
  refine Subscript_ (thn (he.run pins s σ H _ I h) fun v s1 ⟨x, H1, I1, r1, q1⟩ => ?_)
  obtain ⟨a, ex, q⟩ := q1
  subst ex
  cases r1
  have hst : PO X (some e2) (tPart ts) := po_some h2
  refine wpAny_Slice (thn (po_none.run pins s1 σ H1 (fun o H2 => o = none ∧ H2 = H1) I1 ⟨rfl, rfl⟩) fun vl s2 ⟨l, H2, I2, pl, el, e2'⟩ => ?_)
  subst el e2'
  refine thn (po_none.run pins s2 σ H2 (fun o H3 => o = none ∧ H3 = H2) I2 ⟨rfl, rfl⟩) fun vu s3 ⟨u, H3, I3, pu, eu, e3⟩ => ?_
  subst eu e3
  refine thn (hst.run pins s3 σ H3 (fun o H4 => ∃ (b : Bool) (xs : List V), o = some (bI b) ∧ SqT X.K H4 a xs ∧ (b = false → Q (.ref a) H4) ∧ (b = true → ∀ p, H4 p = none → Q (.ref p) (upd H4 p (.tup xs.reverse)))) I3 q) fun vs s4 ⟨o, H4, I4, ps, hb⟩ => ?_
  obtain ⟨b, xs, eo, hx, q1, q2⟩ := hb
  subst eo
  have I5 : Inv X pins σ H4 { s4 with heap := s4.heap.push { cls := .type "slice", data := .fields #[vl, vu, vs] } } := I4.kept (t' := s4.toks) fun b ob q => Heap.get?_push_of_some _ q
  obtain ⟨its, r, ht, hz⟩ := I5.tuple hx
  have hlen := r.length
  show wpAny (model X.prog X.w) X.A (subscriptTail e (.Slice none none (some e2) p3) (.ref a) (.ref s4.heap.objs.size)) (EP X pins σ Q) X.xe { s4 with heap := s4.heap.push { cls := .type "slice", data := .fields #[vl, vu, vs] } }
  refine tail_any (ops := [.ref a, .ref s4.heap.objs.size]) ht.typeIs (PyProof.Rows.slot_tuple_getitem.lookup) ?_ (by with_unfolding_all rfl)
  cases b with
  | true =>
    refine Tw.item_rev ht (Heap.IsSliceOf.new _ vl vu vs) pl pu ps (by rw [List.size_toArray]; omega) ?_
    refine ⟨.ref _, _, I5.laid (t' := s4.toks) (o := .tup xs.reverse) (fun b ob q => Heap.get?_push_of_some _ q) (Nat.le_refl _) ?_, rfl, q2 rfl _ (I5.hok.fresh (Nat.le_refl _))⟩
    exact ⟨by rw [List.length_reverse]; exact hz, _, r.reverse, IsTup.new _ _⟩
  | false =>
    refine item_one ht (Heap.IsSliceOf.new _ vl vu vs) pl pu ps ?_
    exact ⟨.ref a, H4, I5, rfl, q1 rfl⟩
end
end Sr
/-! sorted(rows, key=lambda row: (row[A], row[B], row[C])), A, B, C whole numbers of the module -/
namespace Lr
open PySem PySem.Spec PyProof.Rows L2 LamX
structure Lam0 (scope : Scope) (z c1 c2 c3 : Str) : Prop where
  kind : scope.kind = .function
  co : scope.isCoroutine = false
  gen : scope.isGenerator = false
  nc : ∀ q ∈ scope.names, q.2 ≠ .cell
  nf : ∀ q ∈ scope.names, q.2 ≠ .free
  z : scope.names.lookup z = some .local
  g1 : scope.names.lookup c1 = some .globalImplicit
  g2 : scope.names.lookup c2 = some .globalImplicit
  g3 : scope.names.lookup c3 = some .globalImplicit
theorem lam0_by {scope : Scope} {z c1 c2 c3 : Str} (h1 : scope.kind = .function) (h2 : scope.isCoroutine = false) (h3 : scope.isGenerator = false) (h4 : (scope.names.all fun q => !decide (q.2 = .cell) && !decide (q.2 = .free)) = true) (h5 : scope.names.lookup z = some .local)
    (h6 : scope.names.lookup c1 = some .globalImplicit) (h7 : scope.names.lookup c2 = some .globalImplicit) (h8 : scope.names.lookup c3 = some .globalImplicit) : Lam0 scope z c1 c2 c3 := by
  refine ⟨h1, h2, h3, fun q hq e => ?_, fun q hq e => ?_, h5, h6, h7, h8⟩
  · have := List.all_eq_true.mp h4 q hq
    rw [e] at this
    simp at this
  · have := List.all_eq_true.mp h4 q hq
    rw [e] at this
    simp at this
/-- a key of three whole numbers -/
def key3 {β : Type} (f : β → Int × Int × Int) (b : β) : PyData := .tuple [.int (f b).1, .int (f b).2.1, .int (f b).2.2]
section
variable {prog : Program} {w : World} {A : Around} {E : Value → Shared → Prop} {s : Shared}
theorem item_at {value slice : Expr} {env : Env} {m mg : Str → Option Value} {z c : Str} {t : Addr} {its : List Value} {n : Nat} {u v : Tok} {x : Int} {p1 p2 p3 : Pos} {Q : Value → Shared → Prop} (hk : env.scope.kind = .function) (hz : env.kindOf z = some .local) (hn : s.heap.Ns env.locals m) (hm : m z = some (.ref t))
    (hc : env.kindOf c = some .globalImplicit) (hg : s.heap.Ns env.globals mg) (hv : mg c = some (.int n u)) (ht : IsTup s.heap t its.toArray) (hx : its[n]? = some (.int x v)) (hf : n < 5000) (dz : (z == ("__debug__" : Str)) = false) (dc : (c == ("__debug__" : Str)) = false) (h : Q (.int x v) s) :
    wpAny (model prog w) A (eval (.Subscript (.Name z p1) (.Name c p2) p3) env) Q E s := by
  refine Subscript_ (wpAny_Name (wpAny_loadName_local hk hz hn hm (Calls.Name_function_global hk hc (Calls.loadGlobal_global hg hv ?_) dc)) dz)
  have hl : n < its.length := (List.getElem?_eq_some_iff.mp hx).1
  refine item_tupleT (j := n) ht (by omega) (by omega) ?_ hx h (by intros; rfl)
  rw [seqIndex_of (by omega) (by omega)]
  rfl
theorem keyR_eval {env : Env} {m mg : Str → Option Value} {z c1 c2 c3 : Str} {t : Addr} {its : List Value} {n1 n2 n3 kk : Nat} {u1 u2 u3 v1 v2 v3 : Tok} {x1 x2 x3 : Int} {a1 a2 a3 b1 b2 b3 d1 d2 d3 p6 : Pos} (hk : env.scope.kind = .function) (hz : env.kindOf z = some .local)
    (hn : s.heap.Ns env.locals m) (hm : m z = some (.ref t)) (hg : s.heap.Ns env.globals mg) (k1 : env.kindOf c1 = some .globalImplicit) (k2 : env.kindOf c2 = some .globalImplicit) (k3 : env.kindOf c3 = some .globalImplicit)
    (h1 : mg c1 = some (.int n1 u1)) (h2 : mg c2 = some (.int n2 u2)) (h3 : mg c3 = some (.int n3 u3)) (ht : IsTup s.heap t its.toArray) (e1 : its[n1]? = some (.int x1 v1)) (e2 : its[n2]? = some (.int x2 v2)) (e3 : its[n3]? = some (.int x3 v3))
    (hf : n1 < 5000 ∧ n2 < 5000 ∧ n3 < 5000) (dz : (z == ("__debug__" : Str)) = false) (dc1 : (c1 == ("__debug__" : Str)) = false) (dc2 : (c2 == ("__debug__" : Str)) = false) (dc3 : (c3 == ("__debug__" : Str)) = false) :
    wpAny (model prog w) A (eval (.Tuple [.Subscript (.Name z a1) (.Name c1 a2) a3, .Subscript (.Name z b1) (.Name c2 b2) b3, .Subscript (.Name z d1) (.Name c3 d2) d3] kk p6) env) (PySem.W.KeyPure (.tuple [.int x1, .int x2, .int x3]) s) E s := by
  refine wpAny_Tuple_spliced ?_
  show wpAny _ _ (spliced ((false, eval (.Subscript (.Name z a1) (.Name c1 a2) a3) env) :: backTo p6 (starEach [.Subscript (.Name z b1) (.Name c2 b2) b3, .Subscript (.Name z d1) (.Name c3 d2) d3] env))) _ _ s
  refine Calls.spliced_cons (item_at (value := .Name z a1) (slice := .Name c1 a2) hk hz hn hm k1 hg h1 ht e1 hf.1 dz dc1 ?_)
  show wpAny _ _ (spliced ((false, eval (.Subscript (.Name z b1) (.Name c2 b2) b3) env) :: backTo p6 (starEach [.Subscript (.Name z d1) (.Name c3 d2) d3] env))) _ _ s
  refine Calls.spliced_cons (item_at (value := .Name z b1) (slice := .Name c2 b2) hk hz hn hm k2 hg h2 ht e2 hf.2.1 dz dc2 ?_)
  show wpAny _ _ (spliced ((false, eval (.Subscript (.Name z d1) (.Name c3 d2) d3) env) :: backTo p6 (starEach [] env))) _ _ s
  refine Calls.spliced_cons (item_at (value := .Name z d1) (slice := .Name c3 d2) hk hz hn hm k3 hg h3 ht e3 hf.2.2 dz dc3 ?_)
  refine Calls.spliced_nil ⟨by show 3 ≤ sizeLine; decide, ?_⟩
  exact ⟨_, _, rfl, fun b o e => Heap.get?_push_of_some _ e, .tuple (as := []) (Heap.get?_push_size _ rfl) rfl rfl (.cons (as := []) (bs := []) (.int _ _) (.cons (as := []) (bs := []) (.int _ _) (.cons (as := []) (bs := []) (.int _ _) .nil)))⟩
end
/-- rows and the three places of the key -/
def tSortRow (K : PySem.W.Frag) (ta : TE) (n1 n2 n3 : Nat) (P : Addr) (q : Str) : TE := fun σ H Q => ta σ H fun x H1 => ∃ (l : Addr) (ts : List Addr) (f : Addr → Int × Int × Int), x = .ref l ∧ ts.length ≤ 5000 ∧ SqL K H1 l (ts.map V.ref) ∧
  (∀ t ∈ ts, ∃ xs, SqT K H1 t xs ∧ xs[n1]? = some (.int (f t).1) ∧ xs[n2]? = some (.int (f t).2.1) ∧ xs[n3]? = some (.int (f t).2.2)) ∧ TabS H1 P q ∧
  ∀ H2 p, ExtN H1 H2 → TabS H2 P q → H2 p = none → Q (.ref p) (upd H2 p (.lst ((ts.mergeSort (PySem.W.dataLe false (key3 f))).map V.ref)))
theorem sqT_ext {K : PySem.W.Frag} {H H' : Hp} {a : Addr} {xs : List V} (e : ExtN H H') (h : SqT K H a xs) : SqT K H' a xs := by
  rcases h with (h | ⟨o, h⟩) | h
  · exact .inl (.inl (e _ _ h fun ps z => nomatch z))
  · exact .inl (.inr ⟨o, e _ _ h fun ps z => nomatch z⟩)
  · exact .inr h
theorem sqL_ext {K : PySem.W.Frag} {H H' : Hp} {a : Addr} {xs : List V} (e : ExtN H H') (h : SqL K H a xs) : SqL K H' a xs := by
  rcases h with (h | ⟨o, h⟩) | h
  · exact .inl (.inl (e _ _ h fun ps z => nomatch z))
  · exact .inl (.inr ⟨o, e _ _ h fun ps z => nomatch z⟩)
  · exact .inr h
theorem each_refs : ∀ ts : List Addr, PySem.W.EachIs (fun v t => v = Value.ref t) (ts.map Value.ref) ts
  | [] => .nil
  | t :: ts => .cons rfl (each_refs ts)
section
variable {X : Cx}
theorem pe_sortedRow {c P : Addr} {k kk n1 n2 n3 : Nat} {u1 u2 u3 : Tok} {y : Str} {pn : Pos} {ta : TE} {params : Arguments} {scope : Scope} {z c1 c2 c3 : Str} {p a1 a2 a3 b1 b2 b3 d1 d2 d3 p6 lpos kpos pos : Pos} (hcalm : X.calm = true) (hg : Gl X "sorted") (hm : X.mg "sorted" = none) (ha : PE X (.Name y pn) ta)
    (TB : TabB X.base X.mg c P) (hcode : X.env.code = .ref c) (L : Lam0 scope z c1 c2 c3) (hdef : defaultsOf params X.env = ([], [])) (m1 : X.mg c1 = some (.int n1 u1)) (m2 : X.mg c2 = some (.int n2 u2)) (m3 : X.mg c3 = some (.int n3 u3)) (hf : n1 < 5000 ∧ n2 < 5000 ∧ n3 < 5000)
    (hbind : ∀ (q : Str) (b : Expr) (cl : List (Str × Addr)) (pm cv ctv v : Value), bindArgs (PySem.W.kla_fn "<lambda>" q params b scope cl pm cv ctv) ⟨[v], []⟩ = pure [(z, v)]) (hr : Room (k + 3) X.A)
    (dz : (z == ("__debug__" : Str)) = false) (dc1 : (c1 == ("__debug__" : Str)) = false) (dc2 : (c2 == ("__debug__" : Str)) = false) (dc3 : (c3 == ("__debug__" : Str)) = false):
    PE X (.Call (.Name "sorted" p) [.Name y pn] [⟨some "key", .Lambda params (.Tuple [.Subscript (.Name z a1) (.Name c1 a2) a3, .Subscript (.Name z b1) (.Name c2 b2) b3, .Subscript (.Name z d1) (.Name c3 d2) d3] kk p6) scope lpos, kpos⟩] pos)
      (tSortRow X.K ta n1 n2 n3 P (X.env.qual ++ "<lambda>")) := by
  refine ⟨fun pins s σ H Q I h => ?_⟩
  refine wpAny_Call_Name_kw (ld_blt I hg hm boot_sorted ?_)
  refine PyProof.Rows.callWith_kw ?_
  refine Calls.spliced_cons (thn (ha.run pins s σ H _ I h) fun v s2 ⟨x, H2, I2, rv, q⟩ => ?_)
  obtain ⟨l, ts, f, rfl, hn, hl, hts, hT, q⟩ := q
  cases (show v = Value.ref l from rv)
  refine Calls.spliced_nil ?_
  show wpAny _ _ (evalAll ((do let v ← eval (.Lambda params (.Tuple [.Subscript (.Name z a1) (.Name c1 a2) a3, .Subscript (.Name z b1) (.Name c2 b2) b3, .Subscript (.Name z d1) (.Name c3 d2) d3] kk p6) scope lpos) X.env; standAt pos; pure v) :: [])) _ _ _
  have hfree : ∀ q ∈ scope.names, q.2 = .free → ∃ c, X.env.cells.lookup q.1 = some c := fun q hq e => absurd e (L.nf q hq)
  refine wpAny_evalAll_cons (wpAny_bind (lam_make2 (T := [(P, X.env.qual ++ "<lambda>")]) I2 TB hcode (by simp) (fun pp hp _ => by simp at hp; rw [hp]) (fun pp hp => by simp at hp; rw [hp]; exact hT) hdef hfree
    fun g c' pm ctv H3 s4 I5 eN T5 hgf hfn hfr hco => wpAny_bind (wpAny_standAt (wpAny_pure (wpAny_evalAll_nil ?_)))))
  have hT3 : TabS H3 P (X.env.qual ++ "<lambda>") := T5 _ (List.mem_singleton.mpr rfl)
  obtain ⟨its, rv, pl, hz⟩ := I5.list (sqL_ext eN hl)
  have ei := refs_at rv
  subst ei
  obtain ⟨⟨oc, vs, t, hoc, hdc, hvc⟩, _, _⟩ := I5.hok c' _ hco
  refine PySem.W.sorted_key_data (f := .ref g) (bs := ts) (R := fun v t => v = Value.ref t) (b := false) (key3 f) pl.isList (each_refs ts) ?_ ?_ (Nat.le_trans hn (by decide)) ?_ (PyProof.Rows.ksk_s1 _ _) (fun x => PyProof.Rows.ksk_l1 _ _) (fun x => PyProof.Rows.ksk_t1 _ _) ?_ ?_
  · intro d hd d' hd'
    obtain ⟨i, _, rfl⟩ := List.mem_map.mp hd
    obtain ⟨j, _, rfl⟩ := List.mem_map.mp hd'
    rfl
  · exact PySem.W.Sortable.tuples fun b => ⟨_, _, rfl⟩
  · intro i _
    have := hr.units
    show X.A.units + 2 + 1 < cLine
    omega
  · -- a call of the lambda
    rintro v t' rfl ht' hp tk kp
    obtain ⟨xs, hxs, e1, e2, e3⟩ := hts t' ht'
    obtain ⟨tis, tv, tpl, _⟩ := I5.tuple (sqT_ext eN hxs)
    obtain ⟨w1, f1, v1, rfl⟩ := tv.get e1
    obtain ⟨w2, f2, v2, rfl⟩ := tv.get e2
    obtain ⟨w3, f3, v3, rfl⟩ := tv.get e3
    have dp := (hr.in1.in1 : Room (k + 1) X.A.in1.in1).depth
    refine wpAny_call (codeAny_mono (R := fun r s' => ∃ v, r = .ok (.ret v) ∧ PySem.W.KeyPure (key3 f t') { s4 with heap := hp, toks := tk } v s') ?_ fun r s' hq => ?_)
    · refine PySem.W.kla_callFunE dp (kp _ _ hgf) rfl L.co L.gen rfl ⟨c', oc, vs, t, rfl, kp _ _ hoc, hdc, hvc⟩ ?_
      rw [hbind]
      refine wpAny_pure (wpAny_newFunctionEnv L.nc (fun q hq => ?_) (fun h1 hn1 hsb => ⟨((I5.kept (t' := tk) kp).nolimit).fresh _ hsb, ?_⟩) L.kind)
      · rw [List.mem_singleton.mp hq]
        exact L.z
      · have k1 : ∀ b o, hp.get? b = some o → h1.get? b = some o := fun b o e => hsb.extBut b o (Nat.ne_of_lt (Heap.lt_size e)) (Heap.get?_push_of_some _ e)
        have gl : h1.Ns mainGlobals X.mg := I5.mod.glob.keeps fun b o e => k1 b o (kp b o (I5.bk b o e))
        refine PySem.W.kla_codeExpr (wpAny_mono (keyR_eval (t := t') (its := tis) L.kind L.z hn1 (by simp) (show Heap.Ns _ _ X.mg from gl) L.g1 L.g2 L.g3 m1 m2 m3 ?_ f1 f2 f3 hf dz dc1 dc2 dc3) (fun v s' hq => ?_) fun e s' hq => hq)
        · obtain ⟨o, ho, r⟩ := tpl
          exact ⟨o, k1 _ _ (kp _ _ ho), r⟩
        · obtain ⟨h', tk', e, kk', rd⟩ := hq
          exact ⟨v, rfl, h', tk', by rw [e], fun b o q => kk' b o (k1 b o q), rd⟩
    · obtain ⟨v, rfl, hq⟩ := hq
      exact hq
  · -- the new list
    intro out c1' h' tk kp fresh hD hlen each
    have hv : Vals ((ts.mergeSort (PySem.W.dataLe false (key3 f))).map V.ref) out := by
      clear hD hlen
      revert each
      generalize ts.mergeSort (PySem.W.dataLe false (key3 f)) = js
      intro each
      induction each with
      | nil => exact .nil
      | cons r _ ih => exact .cons r ih
    have hl2 : ((ts.mergeSort (PySem.W.dataLe false (key3 f))).map V.ref).length ≤ sizeLine := by
      rw [List.length_map, (List.mergeSort_perm _ _).length_eq]
      exact Nat.le_trans hn (by decide)
    exact ⟨.ref _, _, I5.laid kp (Nat.le_succ _) (show ObjOk X.prog X.w _ h' _ (.lst _) from ⟨hl2, out, c1', hv, hD⟩), rfl, q _ _ eN hT3 (I5.hok.fresh (Nat.le_succ _))⟩
end
end Lr
/-! sorted(keys, key=lambda key: (NAMES.index(key[0]), key[1])), NAMES a tuple of texts of the module -/
namespace Lka
open PySem PySem.Spec PyProof.Rows L2 LamX
structure LamK0 (scope : Scope) (z c : Str) : Prop where
  kind : scope.kind = .function
  co : scope.isCoroutine = false
  gen : scope.isGenerator = false
  nc : ∀ q ∈ scope.names, q.2 ≠ .cell
  nf : ∀ q ∈ scope.names, q.2 ≠ .free
  z : scope.names.lookup z = some .local
  g : scope.names.lookup c = some .globalImplicit
theorem lamK_by {scope : Scope} {z c : Str} (h1 : scope.kind = .function) (h2 : scope.isCoroutine = false) (h3 : scope.isGenerator = false) (h4 : (scope.names.all fun q => !decide (q.2 = .cell) && !decide (q.2 = .free)) = true) (h5 : scope.names.lookup z = some .local)
    (h6 : scope.names.lookup c = some .globalImplicit) : LamK0 scope z c := by
  refine ⟨h1, h2, h3, fun q hq e => ?_, fun q hq e => ?_, h5, h6⟩
  · have := List.all_eq_true.mp h4 q hq
    rw [e] at this
    simp at this
  · have := List.all_eq_true.mp h4 q hq
    rw [e] at this
    simp at this
/-- a key of two whole numbers -/
def key2 {β : Type} (f : β → Int × Int) (b : β) : PyData := .tuple [.int (f b).1, .int (f b).2]
/-- a tuple of texts that the module holds -/
def tupO (o : Obj) (ys : List Str) : Prop := o.dict = none ∧ o.cls = .type "tuple" ∧ ∃ its n, o.data = .seq its n ∧ StrsAre its.toList ys
def strsB : List Value → List Str → Bool
  | [], [] => true
  | .str x _ :: vs, y :: ys => decide (x = y) && strsB vs ys
  | _, _ => false
theorem strs_of : ∀ {vs : List Value} {ys : List Str}, strsB vs ys = true → StrsAre vs ys
  | [], [], _ => .nil
  | .str x t :: vs, y :: ys, h => by
    have h := Bool.and_eq_true_iff.mp h
    have e : x = y := of_decide_eq_true h.1
    subst e
    exact .cons _ _ (strs_of h.2)
def tupB (K : PySem.W.Frag) (a : Addr) (ys : List Str) : Bool := match List.lookup a K with
  | some ⟨.type id, none, .seq its n, sl⟩ => decide (id = "tuple") && strsB its.toList ys
  | _ => false
theorem tup_ok {K : PySem.W.Frag} {a : Addr} {ys : List Str} (h : tupB K a ys = true) : ∃ o, List.lookup a K = some o ∧ tupO o ys := by
  unfold tupB at h
  split at h
  · next id its n sl e =>
    have h := Bool.and_eq_true_iff.mp h
    have e2 : id = "tuple" := of_decide_eq_true h.1
    subst e2
    exact ⟨_, e, rfl, rfl, its, n, rfl, strs_of h.2⟩
  · cases h
section
variable {prog : Program} {w : World} {A : Around} {E : Value → Shared → Prop} {s : Shared}
theorem sub_at {env : Env} {m : Str → Option Value} {z : Str} {t : Addr} {its : List Value} {n kd : Nat} {v0 : Value} {p1 p2 p3 : Pos} {Q : Value → Shared → Prop} (hk : env.scope.kind = .function) (hz : env.kindOf z = some .local) (hn : s.heap.Ns env.locals m) (hm : m z = some (.ref t))
    (ht : IsTup s.heap t its.toArray) (hx : its[n]? = some v0) (hf : n < 5000) (dz : (z == ("__debug__" : Str)) = false) (h : Q v0 { s with toks := s.toks + 1 }) :
    wpAny (model prog w) A (eval (.Subscript (.Name z p1) (.Constant (.int n) kd p2) p3) env) Q E s := by
  refine Subscript_ (wpAny_Name (wpAny_loadName_local hk hz hn hm (wpAny_Constant_int ?_)) dz)
  have hl : n < its.length := (List.getElem?_eq_some_iff.mp hx).1
  refine item_tupleT (j := n) (show IsTup s.heap t its.toArray from ht) (by omega) (by omega) ?_ hx h (by intros; rfl)
  rw [seqIndex_of (by omega) (by omega)]
  rfl
theorem idx_at {env : Env} {m mg : Str → Option Value} {z c : Str} {t a : Addr} {its : List Value} {o : Obj} {ys : List Str} {y : Str} {u : Tok} {kd : Nat} {p1 p2 p3 p4 ap cp : Pos} {Q : Value → Shared → Prop} (hk : env.scope.kind = .function) (hz : env.kindOf z = some .local) (hn : s.heap.Ns env.locals m) (hm : m z = some (.ref t))
    (hc : env.kindOf c = some .globalImplicit) (hg : s.heap.Ns env.globals mg) (hv : mg c = some (.ref a)) (ha : s.heap.get? a = some o) (ho : tupO o ys)
    (ht : IsTup s.heap t its.toArray) (hx : its[0]? = some (.str y u)) (hy : y ∈ ys) (dz : (z == ("__debug__" : Str)) = false) (dc : (c == ("__debug__" : Str)) = false) (hline : (ap.endLine == cp.line) = true) (h : ∀ tk, Q (.int (ys.idxOf y : Nat) tk) { s with toks := tk + 1 }) :
    wpAny (model prog w) A (eval (.Call (.Attribute (.Name c p1) "index" ap) [.Subscript (.Name z p2) (.Constant (.int 0) kd p3) p4] [] cp) env) Q E s := by
  obtain ⟨cls, dd, dt, sl⟩ := o
  obtain ⟨h1, h2, is, n, h3, hs⟩ := ho
  simp only at h1 h2 h3
  subst h1 h2 h3
  refine wpAny_Call_method_late rfl rfl hline rfl (Calls.Name_function_global hk hc (Calls.loadGlobal_global hg hv ?_) dc)
  refine ⟨"tuple", "tuple.index", PySem.F.plainAttrs_tuple, PySem.F.slot_tuple_index, PySem.F.type_tuple_index, ⟨_, ha, rfl⟩, fun b e => ?_, Calls.callWith_builtin rfl (Calls.evalArgs_plain ?_)⟩
  · cases e
    exact ⟨_, ha, rfl⟩
  · refine Calls.spliced_cons (sub_at hk hz hn hm ht hx (by decide) dz ?_)
    refine Calls.spliced_nil ?_
    refine PySem.SeqAt.tuple_index_strs (vs := is.toList) ?_ hs hy (h _)
    exact ⟨_, ha, rfl, n, by simp⟩
theorem keyK_eval {env : Env} {m mg : Str → Option Value} {z c : Str} {t a : Addr} {its : List Value} {o : Obj} {ys : List Str} {y : Str} {x : Int} {u u2 : Tok} {k1 k2 kk : Nat} {p1 p2 p3 p4 p5 p6 p7 p8 ap cp : Pos} (hk : env.scope.kind = .function) (hz : env.kindOf z = some .local) (hn : s.heap.Ns env.locals m) (hm : m z = some (.ref t))
    (hc : env.kindOf c = some .globalImplicit) (hg : s.heap.Ns env.globals mg) (hv : mg c = some (.ref a)) (ha : s.heap.get? a = some o) (ho : tupO o ys)
    (ht : IsTup s.heap t its.toArray) (hx : its[0]? = some (.str y u)) (hx1 : its[1]? = some (.int x u2)) (hy : y ∈ ys) (dz : (z == ("__debug__" : Str)) = false) (dc : (c == ("__debug__" : Str)) = false) (hline : (ap.endLine == cp.line) = true) :
    wpAny (model prog w) A (eval (.Tuple [.Call (.Attribute (.Name c p1) "index" ap) [.Subscript (.Name z p2) (.Constant (.int 0) k1 p3) p4] [] cp, .Subscript (.Name z p5) (.Constant (.int 1) k2 p7) p8] kk p6) env) (PySem.W.KeyPure (.tuple [.int (ys.idxOf y : Nat), .int x]) s) E s := by
  refine wpAny_Tuple_spliced ?_
  show wpAny _ _ (spliced ((false, eval (.Call (.Attribute (.Name c p1) "index" ap) [.Subscript (.Name z p2) (.Constant (.int 0) k1 p3) p4] [] cp) env) :: backTo p6 (starEach [.Subscript (.Name z p5) (.Constant (.int 1) k2 p7) p8] env))) _ _ s
  refine Calls.spliced_cons (idx_at hk hz hn hm hc hg hv ha ho ht hx hy dz dc hline fun tk => ?_)
  show wpAny _ _ (spliced ((false, eval (.Subscript (.Name z p5) (.Constant (.int 1) k2 p7) p8) env) :: backTo p6 (starEach [] env))) _ _ _
  refine Calls.spliced_cons (sub_at hk hz (show Heap.Ns _ _ _ from hn) hm (show IsTup _ _ _ from ht) hx1 (by decide) dz ?_)
  refine Calls.spliced_nil ⟨by show 2 ≤ sizeLine; decide, ?_⟩
  exact ⟨_, _, rfl, fun b o e => Heap.get?_push_of_some _ e, .tuple (as := []) (Heap.get?_push_size _ rfl) rfl rfl (.cons (as := []) (bs := []) (.int _ _) (.cons (as := []) (bs := []) (.int _ _) .nil))⟩
end
/-- keys and the texts of the first item -/
def kIx (ys : List Str) (p : Str × Int) : Int × Int := (((ys.idxOf p.1 : Nat) : Int), p.2)
def tSortKey (K : PySem.W.Frag) (ta : TE) (ys : List Str) (P : Addr) (q : Str) : TE := fun σ H Q => ta σ H fun x H1 => ∃ (l : Addr) (ts : List Addr) (f : Addr → Str × Int), x = .ref l ∧ ts.length ≤ 5000 ∧ SqL K H1 l (ts.map V.ref) ∧
  (∀ t ∈ ts, (f t).1 ∈ ys ∧ SqT K H1 t [.str (f t).1, .int (f t).2]) ∧ TabS H1 P q ∧
  ∀ H2 p, ExtN H1 H2 → TabS H2 P q → H2 p = none → Q (.ref p) (upd H2 p (.lst ((ts.mergeSort (PySem.W.dataLe false (key2 fun t => kIx ys (f t)))).map V.ref)))
section
variable {X : Cx}
theorem pe_sortedKey {c P a : Addr} {k k1 k2 kk : Nat} {ys : List Str} {o : Obj} {y : Str} {pn : Pos} {ta : TE} {params : Arguments} {scope : Scope} {z c1 : Str} {p p1 p2 p3 p4 p5 p6 p7 p8 ap cp lpos kpos pos : Pos} (hcalm : X.calm = true) (hg : Gl X "sorted") (hm : X.mg "sorted" = none) (ha : PE X (.Name y pn) ta)
    (TB : TabB X.base X.mg c P) (hcode : X.env.code = .ref c) (L : LamK0 scope z c1) (hdef : defaultsOf params X.env = ([], [])) (m1 : X.mg c1 = some (.ref a)) (hK : List.lookup a X.K = some o) (hO : tupO o ys)
    (hbind : ∀ (q : Str) (b : Expr) (cl : List (Str × Addr)) (pm cv ctv v : Value), bindArgs (PySem.W.kla_fn "<lambda>" q params b scope cl pm cv ctv) ⟨[v], []⟩ = pure [(z, v)]) (hr : Room (k + 3) X.A)
    (dz : (z == ("__debug__" : Str)) = false) (dc1 : (c1 == ("__debug__" : Str)) = false) (hline : (ap.endLine == cp.line) = true := by rfl) :
    PE X (.Call (.Name "sorted" p) [.Name y pn] [⟨some "key", .Lambda params (.Tuple [.Call (.Attribute (.Name c1 p1) "index" ap) [.Subscript (.Name z p2) (.Constant (.int 0) k1 p3) p4] [] cp, .Subscript (.Name z p5) (.Constant (.int 1) k2 p7) p8] kk p6) scope lpos, kpos⟩] pos)
      (tSortKey X.K ta ys P (X.env.qual ++ "<lambda>")) := by
  refine ⟨fun pins s σ H Q I h => ?_⟩
  refine wpAny_Call_Name_kw (ld_blt I hg hm boot_sorted ?_)
  refine PyProof.Rows.callWith_kw ?_
  refine Calls.spliced_cons (thn (ha.run pins s σ H _ I h) fun v s2 ⟨x, H2, I2, rv, q⟩ => ?_)
  obtain ⟨l, ts, f, rfl, hn, hl, hts, hT, q⟩ := q
  cases (show v = Value.ref l from rv)
  refine Calls.spliced_nil ?_
  show wpAny _ _ (evalAll ((do let v ← eval (.Lambda params (.Tuple [.Call (.Attribute (.Name c1 p1) "index" ap) [.Subscript (.Name z p2) (.Constant (.int 0) k1 p3) p4] [] cp, .Subscript (.Name z p5) (.Constant (.int 1) k2 p7) p8] kk p6) scope lpos) X.env; standAt pos; pure v) :: [])) _ _ _
  have hfree : ∀ q ∈ scope.names, q.2 = .free → ∃ c, X.env.cells.lookup q.1 = some c := fun q hq e => absurd e (L.nf q hq)
  refine wpAny_evalAll_cons (wpAny_bind (lam_make2 (T := [(P, X.env.qual ++ "<lambda>")]) I2 TB hcode (by simp) (fun pp hp _ => by simp at hp; rw [hp]) (fun pp hp => by simp at hp; rw [hp]; exact hT) hdef hfree
    fun g c' pm ctv H3 s4 I5 eN T5 hgf hfn hfr hco => wpAny_bind (wpAny_standAt (wpAny_pure (wpAny_evalAll_nil ?_)))))
  have hT3 : TabS H3 P (X.env.qual ++ "<lambda>") := T5 _ (List.mem_singleton.mpr rfl)
  obtain ⟨its, rv, pl, hz⟩ := I5.list (Lr.sqL_ext eN hl)
  have ei := refs_at rv
  subst ei
  obtain ⟨⟨oc, vs, t, hoc, hdc, hvc⟩, _, _⟩ := I5.hok c' _ hco
  refine PySem.W.sorted_key_data (f := .ref g) (bs := ts) (R := fun v t => v = Value.ref t) (b := false) (key2 fun t => kIx ys (f t)) pl.isList (Lr.each_refs ts) ?_ ?_ (Nat.le_trans hn (by decide)) ?_ (PyProof.Rows.ksk_s1 _ _) (fun x => PyProof.Rows.ksk_l1 _ _) (fun x => PyProof.Rows.ksk_t1 _ _) ?_ ?_
  · intro d hd d' hd'
    obtain ⟨i, _, rfl⟩ := List.mem_map.mp hd
    obtain ⟨j, _, rfl⟩ := List.mem_map.mp hd'
    rfl
  · exact PySem.W.Sortable.tuples fun b => ⟨_, _, rfl⟩
  · intro i _
    have := hr.units
    show X.A.units + 2 + 1 < cLine
    omega
  · -- a call of the lambda
    rintro v t' rfl ht' hp tk kp
    obtain ⟨hy, hxs⟩ := hts t' ht'
    obtain ⟨tis, tv, tpl, _⟩ := I5.tuple (Lr.sqT_ext eN hxs)
    obtain ⟨w1, f1, v1, rfl⟩ := tv.get (i := 0) rfl
    obtain ⟨w2, f2, v2, rfl⟩ := tv.get (i := 1) rfl
    have dp := (hr.in1.in1 : Room (k + 1) X.A.in1.in1).depth
    refine wpAny_call (codeAny_mono (R := fun r s' => ∃ v, r = .ok (.ret v) ∧ PySem.W.KeyPure (key2 (fun t => kIx ys (f t)) t') { s4 with heap := hp, toks := tk } v s') ?_ fun r s' hq => ?_)
    · refine PySem.W.kla_callFunE dp (kp _ _ hgf) rfl L.co L.gen rfl ⟨c', oc, vs, t, rfl, kp _ _ hoc, hdc, hvc⟩ ?_
      rw [hbind]
      refine wpAny_pure (wpAny_newFunctionEnv L.nc (fun q hq => ?_) (fun h1 hn1 hsb => ⟨((I5.kept (t' := tk) kp).nolimit).fresh _ hsb, ?_⟩) L.kind)
      · rw [List.mem_singleton.mp hq]
        exact L.z
      · have k1 : ∀ b o, hp.get? b = some o → h1.get? b = some o := fun b o e => hsb.extBut b o (Nat.ne_of_lt (Heap.lt_size e)) (Heap.get?_push_of_some _ e)
        have gl : h1.Ns mainGlobals X.mg := I5.mod.glob.keeps fun b o e => k1 b o (kp b o (I5.bk b o e))
        refine PySem.W.kla_codeExpr (wpAny_mono (keyK_eval (t := t') (its := tis) L.kind L.z hn1 (by simp) L.g (show Heap.Ns _ _ X.mg from gl) m1 (k1 _ _ (kp _ _ (I5.bk _ _ (I5.mod.kin _ _ hK)))) hO ?_ f1 f2 hy dz dc1 hline) (fun v s' hq => ?_) fun e s' hq => hq)
        · obtain ⟨o, ho, r⟩ := tpl
          exact ⟨o, k1 _ _ (kp _ _ ho), r⟩
        · obtain ⟨h', tk', e, kk', rd⟩ := hq
          exact ⟨v, rfl, h', tk', by rw [e], fun b o q => kk' b o (k1 b o q), rd⟩
    · obtain ⟨v, rfl, hq⟩ := hq
      exact hq
  · -- the new list
    intro out c1' h' tk kp fresh hD hlen each
    have hv : Vals ((ts.mergeSort (PySem.W.dataLe false (key2 fun t => kIx ys (f t)))).map V.ref) out := by
      clear hD hlen
      revert each
      generalize ts.mergeSort (PySem.W.dataLe false (key2 fun t => kIx ys (f t))) = js
      intro each
      induction each with
      | nil => exact .nil
      | cons r _ ih => exact .cons r ih
    have hl2 : ((ts.mergeSort (PySem.W.dataLe false (key2 fun t => kIx ys (f t)))).map V.ref).length ≤ sizeLine := by
      rw [List.length_map, (List.mergeSort_perm _ _).length_eq]
      exact Nat.le_trans hn (by decide)
    exact ⟨.ref _, _, I5.laid kp (Nat.le_succ _) (show ObjOk X.prog X.w _ h' _ (.lst _) from ⟨hl2, out, c1', hv, hD⟩), rfl, q _ _ eN hT3 (I5.hok.fresh (Nat.le_succ _))⟩
end
end Lka
namespace Th
open PySem PySem.Spec PyProof.Rows L2
/-! the text -/
def topS (i : Nat) : Stmt := PySem.Challenge.pw_throughlines_k24_whole_papers_as_a_set.main.body.getD i (.Pass ⟨0, 0, 0, 0⟩)
abbrev FnP (K : PySem.W.Frag) (x : Str) (st : Stmt) (f : Addr) (fd : FuncData) : Prop := FunD K x x (defArgs st) (defBody st) (defScope st) [] [] f fd
abbrev s_newest_papers : Stmt := topS 4
abbrev N_newest_papers : List Str := ["papers", "found", "paper", "key", "kept"]
theorem sc_newest_papers : FnScope N_newest_papers ["papers"] (defScope s_newest_papers) := ⟨rfl, rfl, rfl, by decide +kernel, rfl, by decide +kernel, by decide +kernel⟩
abbrev s_standing : Stmt := topS 5
abbrev N_standing : List Str := ["papers", "kind", "newest", "keys", "key"]
theorem sc_standing : FnScope N_standing ["papers", "kind"] (defScope s_standing) := ⟨rfl, rfl, rfl, by decide +kernel, rfl, by decide +kernel, by decide +kernel⟩
abbrev s_clashing : Stmt := topS 6
abbrev N_clashing : List Str := ["papers", "newest", "clashed", "key"]
theorem sc_clashing : FnScope N_clashing ["papers"] (defScope s_clashing) := ⟨rfl, rfl, rfl, by decide +kernel, rfl, by decide +kernel, by decide +kernel⟩
abbrev s_l_bag : Stmt := topS 8
abbrev N_l_bag : List Str := ["_law_script", "_law_at", "_law_cell", "_law_great", "_law_primes"]
theorem sc_l_bag : FnScope N_l_bag ["_law_script", "_law_at"] (defScope s_l_bag) := ⟨rfl, rfl, rfl, by decide +kernel, rfl, by decide +kernel, by decide +kernel⟩
abbrev s_l_take : Stmt := topS 9
abbrev N_l_take : List Str := ["_law_bag_here", "_law_many", "_law_digit"]
theorem sc_l_take : FnScope N_l_take ["_law_bag_here", "_law_many"] (defScope s_l_take) := ⟨rfl, rfl, rfl, by decide +kernel, rfl, by decide +kernel, by decide +kernel⟩
abbrev s_l_names : Stmt := topS 10
abbrev N_l_names : List Str := ["_law_bag_here", "_law_many", "_law_head", "_law_tail", "_law_letters", "_law_stem", "_law_at", "_law_first", "_law_front", "_law_back", "_law_k"]
theorem sc_l_names : FnScope N_l_names ["_law_bag_here", "_law_many", "_law_head", "_law_tail"] (defScope s_l_names) := ⟨rfl, rfl, rfl, by decide +kernel, rfl, by decide +kernel, by decide +kernel⟩
abbrev s_l_net : Stmt := topS 11
abbrev N_l_net : List Str := ["_law_bag_here", "_law_many", "_law_signs", "_law_side", "_law_lines", "_law_some", "_law_stations", "_law_second", "_law_names_here", "_law_junctions", "_law_ties", "_law_k", "_law_sign", "_law_name", "_law_line_here", "_law_one"]
theorem sc_l_net : FnScope N_l_net ["_law_bag_here"] (defScope s_l_net) := ⟨rfl, rfl, rfl, by decide +kernel, rfl, by decide +kernel, by decide +kernel⟩
abbrev s_l_way : Stmt := topS 12
abbrev N_l_way : List Str := ["_law_bag_here", "_law_net_here", "_law_many", "_law_one", "_law_other", "_law_stations", "_law_second", "_law_k", "_law_low", "_law_high", "_law_found"]
theorem sc_l_way : FnScope N_l_way ["_law_bag_here", "_law_net_here"] (defScope s_l_way) := ⟨rfl, rfl, rfl, by decide +kernel, rfl, by decide +kernel, by decide +kernel⟩
abbrev s_l_house : Stmt := topS 13
abbrev N_l_house : List Str := ["_law_bag_here", "_law_net_here", "_law_ways", "_law_number_here", "_law_wagons", "_law_k", "_law_great", "_law_leasts", "_law_rules", "_law_line_here"]
theorem sc_l_house : FnScope N_l_house ["_law_bag_here"] (defScope s_l_house) := ⟨rfl, rfl, rfl, by decide +kernel, rfl, by decide +kernel, by decide +kernel⟩
abbrev s_l_day : Stmt := topS 14
abbrev N_l_day : List Str := ["_law_bag_here"]
theorem sc_l_day : FnScope N_l_day ["_law_bag_here"] (defScope s_l_day) := ⟨rfl, rfl, rfl, by decide +kernel, rfl, by decide +kernel, by decide +kernel⟩
abbrev s_l_sum : Stmt := topS 15
abbrev N_l_sum : List Str := ["_law_bag_here"]
theorem sc_l_sum : FnScope N_l_sum ["_law_bag_here"] (defScope s_l_sum) := ⟨rfl, rfl, rfl, by decide +kernel, rfl, by decide +kernel, by decide +kernel⟩
abbrev s_l_number : Stmt := topS 16
abbrev N_l_number : List Str := ["_law_bag_here"]
theorem sc_l_number : FnScope N_l_number ["_law_bag_here"] (defScope s_l_number) := ⟨rfl, rfl, rfl, by decide +kernel, rfl, by decide +kernel, by decide +kernel⟩
abbrev s_l_line : Stmt := topS 17
abbrev N_l_line : List Str := ["_law_bag_here", "_law_net_here"]
theorem sc_l_line : FnScope N_l_line ["_law_bag_here", "_law_net_here"] (defScope s_l_line) := ⟨rfl, rfl, rfl, by decide +kernel, rfl, by decide +kernel, by decide +kernel⟩
abbrev s_l_return : Stmt := topS 18
abbrev N_l_return : List Str := ["_law_bag_here", "_law_net_here", "_law_wagons", "_law_head", "_law_name", "_law_lines", "_law_wagon", "_law_over", "_law_seal"]
theorem sc_l_return : FnScope N_l_return ["_law_bag_here", "_law_net_here", "_law_wagons", "_law_head"] (defScope s_l_return) := ⟨rfl, rfl, rfl, by decide +kernel, rfl, by decide +kernel, by decide +kernel⟩
abbrev s_l_paper : Stmt := topS 19
abbrev N_l_paper : List Str := ["_law_bag_here", "_law_house_here", "_law_net_here", "_law_ways", "_law_wagons", "_law_rules", "_law_kind", "_law_number_here", "_law_edition", "_law_head", "_law_cartage", "_law_sums", "_law_days", "_law_how"]
theorem sc_l_paper : FnScope N_l_paper ["_law_bag_here", "_law_house_here"] (defScope s_l_paper) := ⟨rfl, rfl, rfl, by decide +kernel, rfl, by decide +kernel, by decide +kernel⟩
abbrev s_l_told : Stmt := topS 20
abbrev N_l_told : List Str := ["_law_papers", "_law_kinds", "_law_kind"]
theorem sc_l_told : FnScope N_l_told ["_law_papers"] (defScope s_l_told) := ⟨rfl, rfl, rfl, by decide +kernel, rfl, by decide +kernel, by decide +kernel⟩
abbrev s_l_turned : Stmt := topS 21
abbrev N_l_turned : List Str := ["_law_bag_here", "_law_papers", "_law_left", "_law_found", "_law_k"]
theorem sc_l_turned : FnScope N_l_turned ["_law_bag_here", "_law_papers"] (defScope s_l_turned) := ⟨rfl, rfl, rfl, by decide +kernel, rfl, by decide +kernel, by decide +kernel⟩
abbrev s_l_others : Stmt := topS 22
abbrev N_l_others : List Str := ["_law_told_here", "_law_kind", "_law_number_here", "_law_stand", "_law_some", "_law_paper_here", "_law_one"]
theorem sc_l_others : FnScope N_l_others ["_law_told_here", "_law_kind", "_law_number_here"] (defScope s_l_others) := ⟨rfl, rfl, rfl, by decide +kernel, rfl, by decide +kernel, by decide +kernel⟩
abbrev s_l_stands : Stmt := topS 23
abbrev N_l_stands : List Str := ["_law_papers", "_law_kind", "_law_number_here", "_law_paper_here"]
theorem sc_l_stands : FnScope N_l_stands ["_law_papers", "_law_kind", "_law_number_here"] (defScope s_l_stands) := ⟨rfl, rfl, rfl, by decide +kernel, rfl, by decide +kernel, by decide +kernel⟩
abbrev s_l_more : Stmt := topS 24
abbrev N_l_more : List Str := ["_law_bag_here", "_law_papers", "_law_kind", "_law_number_here", "_law_some", "_law_most", "_law_latest", "_law_told_here", "_law_rest", "_law_elder", "_law_newer", "_law_wraps", "_law_unlike", "_law_last", "_law_row", "_law_paper_here"]
theorem sc_l_more : FnScope N_l_more ["_law_bag_here", "_law_papers"] (defScope s_l_more) := ⟨rfl, rfl, rfl, by decide +kernel, rfl, by decide +kernel, by decide +kernel⟩
abbrev s_law : Stmt := topS 25
abbrev N_law : List Str := ["_law_script", "_law_house_here", "_law_papers", "_law_told_here", "_law_k", "_law_bag_here"]
theorem sc_law : FnScope N_law ["_law_script"] (defScope s_law) := ⟨rfl, rfl, rfl, by decide +kernel, rfl, by decide +kernel, by decide +kernel⟩
def KINDS_L : List Str := ["waybill", "return", "toll", "claim", "answer", "ruling", "withdrawal"]
structure Defs (K : PySem.W.Frag) (mg : Str → Option Value) where
  a_newest_papers : Addr
  d_newest_papers : FuncData
  F_newest_papers : FnP K "newest_papers" s_newest_papers a_newest_papers d_newest_papers
  g_newest_papers : mg "newest_papers" = some (.ref a_newest_papers)
  b_newest_papers : Binds K d_newest_papers ["papers"] []
  a_standing : Addr
  d_standing : FuncData
  F_standing : FnP K "standing" s_standing a_standing d_standing
  g_standing : mg "standing" = some (.ref a_standing)
  b_standing : Binds K d_standing ["papers", "kind"] []
  a_clashing : Addr
  d_clashing : FuncData
  F_clashing : FnP K "clashing" s_clashing a_clashing d_clashing
  g_clashing : mg "clashing" = some (.ref a_clashing)
  b_clashing : Binds K d_clashing ["papers"] []
  cc_clashing : Addr
  tp_clashing : Addr
  dc_clashing : d_clashing.code = .ref cc_clashing
  a_l_bag : Addr
  d_l_bag : FuncData
  F_l_bag : FnP K "_law_bag" s_l_bag a_l_bag d_l_bag
  g_l_bag : mg "_law_bag" = some (.ref a_l_bag)
  b_l_bag : Binds K d_l_bag ["_law_script", "_law_at"] []
  a_l_take : Addr
  d_l_take : FuncData
  F_l_take : FnP K "_law_take" s_l_take a_l_take d_l_take
  g_l_take : mg "_law_take" = some (.ref a_l_take)
  b_l_take : Binds K d_l_take ["_law_bag_here", "_law_many"] []
  a_l_names : Addr
  d_l_names : FuncData
  F_l_names : FnP K "_law_names" s_l_names a_l_names d_l_names
  g_l_names : mg "_law_names" = some (.ref a_l_names)
  b_l_names : Binds K d_l_names ["_law_bag_here", "_law_many", "_law_head", "_law_tail"] []
  a_l_net : Addr
  d_l_net : FuncData
  F_l_net : FnP K "_law_net" s_l_net a_l_net d_l_net
  g_l_net : mg "_law_net" = some (.ref a_l_net)
  b_l_net : Binds K d_l_net ["_law_bag_here"] []
  a_l_way : Addr
  d_l_way : FuncData
  F_l_way : FnP K "_law_way" s_l_way a_l_way d_l_way
  g_l_way : mg "_law_way" = some (.ref a_l_way)
  b_l_way : Binds K d_l_way ["_law_bag_here", "_law_net_here"] []
  a_l_house : Addr
  d_l_house : FuncData
  F_l_house : FnP K "_law_house" s_l_house a_l_house d_l_house
  g_l_house : mg "_law_house" = some (.ref a_l_house)
  b_l_house : Binds K d_l_house ["_law_bag_here"] []
  a_l_day : Addr
  d_l_day : FuncData
  F_l_day : FnP K "_law_day" s_l_day a_l_day d_l_day
  g_l_day : mg "_law_day" = some (.ref a_l_day)
  b_l_day : Binds K d_l_day ["_law_bag_here"] []
  a_l_sum : Addr
  d_l_sum : FuncData
  F_l_sum : FnP K "_law_sum" s_l_sum a_l_sum d_l_sum
  g_l_sum : mg "_law_sum" = some (.ref a_l_sum)
  b_l_sum : Binds K d_l_sum ["_law_bag_here"] []
  a_l_number : Addr
  d_l_number : FuncData
  F_l_number : FnP K "_law_number" s_l_number a_l_number d_l_number
  g_l_number : mg "_law_number" = some (.ref a_l_number)
  b_l_number : Binds K d_l_number ["_law_bag_here"] []
  a_l_line : Addr
  d_l_line : FuncData
  F_l_line : FnP K "_law_line" s_l_line a_l_line d_l_line
  g_l_line : mg "_law_line" = some (.ref a_l_line)
  b_l_line : Binds K d_l_line ["_law_bag_here", "_law_net_here"] []
  a_l_return : Addr
  d_l_return : FuncData
  F_l_return : FnP K "_law_return" s_l_return a_l_return d_l_return
  g_l_return : mg "_law_return" = some (.ref a_l_return)
  b_l_return : Binds K d_l_return ["_law_bag_here", "_law_net_here", "_law_wagons", "_law_head"] []
  a_l_paper : Addr
  d_l_paper : FuncData
  F_l_paper : FnP K "_law_paper" s_l_paper a_l_paper d_l_paper
  g_l_paper : mg "_law_paper" = some (.ref a_l_paper)
  b_l_paper : Binds K d_l_paper ["_law_bag_here", "_law_house_here"] []
  a_l_told : Addr
  d_l_told : FuncData
  F_l_told : FnP K "_law_told" s_l_told a_l_told d_l_told
  g_l_told : mg "_law_told" = some (.ref a_l_told)
  b_l_told : Binds K d_l_told ["_law_papers"] []
  a_l_turned : Addr
  d_l_turned : FuncData
  F_l_turned : FnP K "_law_turned" s_l_turned a_l_turned d_l_turned
  g_l_turned : mg "_law_turned" = some (.ref a_l_turned)
  b_l_turned : Binds K d_l_turned ["_law_bag_here", "_law_papers"] []
  a_l_others : Addr
  d_l_others : FuncData
  F_l_others : FnP K "_law_others" s_l_others a_l_others d_l_others
  g_l_others : mg "_law_others" = some (.ref a_l_others)
  b_l_others : Binds K d_l_others ["_law_told_here", "_law_kind", "_law_number_here"] []
  a_l_stands : Addr
  d_l_stands : FuncData
  F_l_stands : FnP K "_law_stands" s_l_stands a_l_stands d_l_stands
  g_l_stands : mg "_law_stands" = some (.ref a_l_stands)
  b_l_stands : Binds K d_l_stands ["_law_papers", "_law_kind", "_law_number_here"] []
  a_l_more : Addr
  d_l_more : FuncData
  F_l_more : FnP K "_law_more" s_l_more a_l_more d_l_more
  g_l_more : mg "_law_more" = some (.ref a_l_more)
  b_l_more : Binds K d_l_more ["_law_bag_here", "_law_papers"] []
  t_NUMBER : Tok
  c_NUMBER : mg "NUMBER" = some (.int 1 t_NUMBER)
  t_EDITION : Tok
  c_EDITION : mg "EDITION" = some (.int 2 t_EDITION)
  z_abs : mg "abs" = none
  z_int : mg "int" = none
  z_isinstance : mg "isinstance" = none
  z_len : mg "len" = none
  z_list : mg "list" = none
  z_max : mg "max" = none
  z_min : mg "min" = none
  z_range : mg "range" = none
  z_set : mg "set" = none
  z_sorted : mg "sorted" = none
  z_str : mg "str" = none
  z_tuple : mg "tuple" = none
  z_zip : mg "zip" = none
  a_KINDS : Addr
  o_KINDS : Obj
  g_KINDS : mg "KINDS" = some (.ref a_KINDS)
  k_KINDS : List.lookup a_KINDS K = some o_KINDS
  u_KINDS : Lka.tupO o_KINDS KINDS_L
end Th
namespace Th
open PySem PySem.Spec PyProof.Rows L2
section
variable {P : Program} {w : World} {K : PySem.W.Frag} {mg : Str → Option Value} {base : Heap} {k : Nat}
set_option maxHeartbeats 8000000 in
theorem ok_l_bag (T : Defs K mg) : FnOk P w K mg base CX0 (k + 1) T.a_l_bag T.d_l_bag ["_law_script", "_law_at"] (sp_bag K) := by
  refine T.F_l_bag.ok sc_l_bag (fun vs H Q E h => ?_) (fun cdv A outer s H vs Q E hr h => ?_)
  · obtain ⟨a, ns, i, rfl, _⟩ := h
    rfl
  · obtain ⟨a, ns, i, rfl, hS, hi, q⟩ := h
    refine ⟨_, PSs.nox
(pss_cons (ps_set (i := 2) sc_l_bag.nd rfl (.inl rfl) (pe_int))
    (Evl.pss_cut (ps_if (pt_cmpR op_gt (pe_callB (r := rLenS K) call_lenS (by rfl) T.z_len (by decide +kernel) (pa_cons (pv 0) pa_nil)) (pe_int) (nomark _))
      (pss_one (ps_set (i := 2) sc_l_bag.nd rfl (.inl rfl) (pe_ix (r := rIxL K) ix_list (pv 0) (pe_op op_mod (pv 1) (pe_callB (r := rLenS K) call_lenS (by rfl) T.z_len (by decide +kernel) (pa_cons (pv 0) pa_nil))) (fun _ _ => rfl))))
      pss_nil)
    (pss_cons (ps_set (i := 3) sc_l_bag.nd rfl (.inl rfl) (pe_int))
    (Evl.pss_cut (ps_if (PW.pt (pw_and (pt_cmpR op_ge (pe_callB call_abs (by rfl) T.z_abs (by decide +kernel) (pa_cons (pv 2) pa_nil)) (pe_op op_pow (pe_int) (pe_int)) (nomark _)) (pw_and1 (pt_cmpR op_lt (pv 1) (pe_callB (r := rLenS K) call_lenS (by rfl) T.z_len (by decide +kernel) (pa_cons (pv 0) pa_nil)) (nomark _)))))
      (pss_one (ps_set (i := 3) sc_l_bag.nd rfl (.inl rfl) (pe_callB call_abs (by rfl) T.z_abs (by decide +kernel) (pa_cons (pv 2) pa_nil))))
      pss_nil)
    (pss_cons (ps_set (i := 4) sc_l_bag.nd rfl (.inl rfl) (pe_tup (pa_cons (pe_int) (pa_cons (pe_int) (pa_cons (pe_int) (pa_cons (pe_int) (pa_cons (pe_int) (pa_cons (pe_int) (pa_cons (pe_int) (pa_cons (pe_int) pa_nil))))))))))
    (pss_one (ps_ret (pe_lst (pa_cons (pv 3) (pa_cons (pe_op op_mod (pe_op op_pow (pe_op op_add (pe_op op_add (pe_op op_mod (pv 2) (pe_int)) (pe_op op_mul (pe_int) (pv 1))) (pe_int)) (pe_int)) (pe_ix (r := rIxT K) ix_tup (pv 4) (pe_op op_mod (pv 1) (pe_int)) (fun _ _ => rfl))) pa_nil))))))))))
      , ?_⟩
    obtain ⟨pr, hp, hp0, hp1⟩ := primes_at i
    have lenV : (ns.map V.int).length = ns.length := List.length_map _
    refine ⟨fun σ H1 => ∃ c : Int, σ = [some (.ref a), some (.int i), some (.int c), none, none] ∧ H1 = H, ?_, fun σ H1 mid => ?_⟩
    · refine ⟨.ref a, rfl, a, _, rfl, .inl hS, _, 0, rfl, rfl, _, rfl, ite2 (fun e => ?_) (fun e => ⟨0, rfl, rfl⟩)⟩
      have lp : 0 < ns.length := by
        have := of_decide_eq_true e
        rw [lenV] at this
        omega
      have hm : i % ns.length < ns.length := Nat.mod_lt _ lp
      have g1 : (ns.map V.int)[i % ns.length]? = some (.int ns[i % ns.length]) := by
        rw [List.getElem?_map, List.getElem?_eq_getElem hm]
        rfl
      refine ⟨.ref a, rfl, .int i, rfl, .ref a, rfl, a, _, rfl, .inl hS, (i : Int), _, rfl, rfl, by rw [lenV]; omega, a, _, _, .int ns[i % ns.length], rfl, rfl, hS, ?_, _, rfl, rfl⟩
      rw [lenV, ← Int.natCast_emod]
      exact atI_nat g1
    obtain ⟨c, rfl, rfl⟩ := mid
    refine ⟨fun σ H2 => ∃ g : Int, 0 ≤ g ∧ σ = [some (.ref a), some (.int i), some (.int c), some (.int g), none] ∧ H2 = H1, ?_, fun σ H2 mid => ?_⟩
    · refine ⟨.int c, rfl, _, rfl, 10, 18, rfl, rfl, ⟨by decide, by decide, by decide⟩, _, _, rfl, rfl, _, rfl, ite2 (fun e => ?_) (fun e => ⟨0, by decide, rfl, rfl⟩)⟩
      refine ⟨.int i, rfl, .ref a, rfl, a, _, rfl, .inl hS, _, _, rfl, rfl, _, rfl, ite2 (fun e => ?_) (fun e => ⟨0, by decide, rfl, rfl⟩)⟩
      refine ⟨.int c, rfl, _, rfl, _, ?_, rfl, rfl⟩
      split <;> omega
    obtain ⟨g, hg, rfl, rfl⟩ := mid
    refine ⟨by show 8 ≤ sizeLine; decide, fun l nl => ?_⟩
    refine ⟨_, rfl, .int c, rfl, c, 2147483647, rfl, rfl, pA, .int i, rfl, 104729, i, rfl, rfl, .inl ⟨by decide, by decide⟩, _, _, rfl, rfl, _, 7, rfl, rfl, _, 5, rfl, rfl, ⟨by decide, by decide, ?_⟩, .ref l, rfl, .int i, rfl, i, 8, rfl, rfl, p8, l, _, _, _, rfl, rfl, SqT.of upd_same, hp, _, pr, rfl, rfl, hp0, by show 2 ≤ sizeLine; decide, fun p np => ?_⟩
    · omega
    · have s1 := same_upd (o := .tup [V.int 2147483629, .int 2147483587, .int 2147483579, .int 2147483563, .int 2147483549, .int 2147483543, .int 2147483497, .int 2147483489]) nl
      exact q _ p (s1.trans (same_upd np)) (s1.free np) ⟨g, _, upd_same, hg, Int.emod_nonneg _ (by omega), Int.lt_trans (Int.emod_lt_of_pos _ hp0) hp1⟩
end
section
variable {P : Program} {w : World} {K : PySem.W.Frag} {mg : Str → Option Value} {base : Heap} {k : Nat}
theorem ok_l_take (T : Defs K mg) : FnOk P w K mg base CX0 (k + 1) T.a_l_take T.d_l_take ["_law_bag_here", "_law_many"] sp_take := by
  refine T.F_l_take.ok sc_l_take (fun vs H Q E h => ?_) (fun cdv A outer s H vs Q E hr h => ?_)
  · obtain ⟨p, m, rfl, _⟩ := h
    rfl
  · obtain ⟨p, m, rfl, ⟨g, r, hp, g0, r0, r1⟩, m0, m1, q⟩ := h
    refine ⟨_, PSs.nox
(pss_cons (ps_if (pt_cmpR op_gt (pe_ix (r := rIxL K) ix_list (pv 0) (pe_int) (fun _ _ => rfl)) (pe_int) (nomark _))
      (pss_cons (ps_set (i := 2) sc_l_take.nd rfl (.inl rfl) (pe_op op_mod (pe_ix (r := rIxL K) ix_list (pv 0) (pe_int) (fun _ _ => rfl)) (pv 1)))
      (pss_cons (ps_asg (pe_op op_fdiv (pe_ix (r := rIxL K) ix_list (pv 0) (pe_int) (fun _ _ => rfl)) (pv 1)) (pg_sub (pv 0) (pe_int) set_list))
      (pss_one (ps_ret (pv 2)))))
      pss_nil)
    (pss_cons (ps_asg (pe_op op_mod (pe_op op_add (pe_op op_mul (pe_ix (r := rIxL K) ix_list (pv 0) (pe_int) (fun _ _ => rfl)) (pe_int)) (pe_int)) (pe_int)) (pg_sub (pv 0) (pe_int) set_list))
    (pss_one (ps_ret (pe_op op_mod (pe_op op_mod (pe_op op_pow (pe_op op_fdiv (pe_ix (r := rIxL K) ix_list (pv 0) (pe_int) (fun _ _ => rfl)) (pe_int)) (pe_int)) (pe_int)) (pv 1))))))
      , ?_⟩
    refine ⟨.ref p, rfl, p, _, 0, .int g, rfl, rfl, SqL.of hp, atI_nat (j := 0) rfl, _, 0, rfl, rfl, _, rfl, ite2 (fun e => ?_) (fun e => ?_)⟩
    · refine ⟨.ref p, rfl, p, _, 0, .int g, rfl, rfl, SqL.of hp, atI_nat (j := 0) rfl, .int m, rfl, g, m, rfl, rfl, m0, ?_⟩
      refine ⟨.ref p, rfl, p, _, 0, .int g, rfl, rfl, SqL.of hp, atI_nat (j := 0) rfl, .int m, rfl, g, m, rfl, rfl, ⟨m0, m1⟩, .ref p, rfl, p, _, 0, 0, rfl, rfl, hp, rfl, ?_⟩
      refine ⟨_, rfl, q _ _ Keep.upd ⟨_, _, upd_same, ?_, r0, r1⟩ (Int.emod_nonneg _ (by omega)) (Int.emod_lt_of_pos _ m0)⟩
      exact Int.ediv_nonneg g0 (by omega)
    · refine ⟨.ref p, rfl, p, _, 1, .int r, rfl, rfl, SqL.of hp, atI_nat (j := 1) rfl, r, 48271, rfl, rfl, .inr ⟨by decide, by decide⟩, _, 11, rfl, rfl, _, 2147483647, rfl, rfl, pA, .ref p, rfl, p, _, 1, 1, rfl, rfl, hp, rfl, ?_⟩
      have hz0 : 0 ≤ (r * 48271 + 11) % 2147483647 := Int.emod_nonneg _ (by decide)
      have hz1 : (r * 48271 + 11) % 2147483647 < 2147483647 := Int.emod_lt_of_pos _ (by decide)
      refine ⟨.ref p, rfl, p, _, 1, _, rfl, rfl, SqL.of upd_same, atI_nat (j := 1) rfl, (r * 48271 + 11) % 2147483647, 8, rfl, rfl, ⟨by decide, by decide⟩, _, 3, rfl, rfl, ⟨by decide, by decide, ?_⟩, _, 2147483629, rfl, rfl, pB, .int m, rfl, _, m, rfl, rfl, m0, ?_⟩
      · omega
      · exact q _ _ Keep.upd ⟨_, _, upd_same, g0, hz0, by omega⟩ (Int.emod_nonneg _ (by omega)) (Int.emod_lt_of_pos _ m0)
end
end Th
namespace Th
open PySem PySem.Spec PyProof.Rows L2
/-! drawn names of one stem, each with a letter of its own -/
def hNm (f : Nm) (d : Nat) (b : Nm) (k : Nat) : Nm := f ++ [97 + (d + k) % 26] ++ b
def hNms (f : Nm) (d : Nat) (b : Nm) (n : Nat) : List Nm := (List.range n).map (hNm f d b)
theorem hNms_len (f : Nm) (d : Nat) (b : Nm) (n : Nat) : (hNms f d b n).length = n := by unfold hNms; rw [List.length_map, List.length_range]
theorem hNms_at {f : Nm} {d : Nat} {b : Nm} {n k : Nat} (h : k < n) : (hNms f d b n)[k]? = some (hNm f d b k) := by
  unfold hNms
  rw [List.getElem?_map, List.getElem?_range h]
  rfl
theorem hNm_inj {f : Nm} {d : Nat} {b : Nm} {i j : Nat} (hi : i < 26) (hj : j < 26) (h : hNm f d b i = hNm f d b j) : i = j := by
  unfold hNm at h
  have h := List.append_cancel_right h
  have h := List.append_cancel_left h
  have h := (List.cons.inj h).1
  omega
theorem hNms_nd {f : Nm} {d : Nat} {b : Nm} {n : Nat} (h : n ≤ 26) : (hNms f d b n).Nodup := by
  rw [List.nodup_iff_pairwise_ne, List.pairwise_iff_getElem]
  intro i j hi hj hij e
  rw [hNms_len] at hi hj
  have e1 := hNms_at (f := f) (d := d) (b := b) hi
  have e2 := hNms_at (f := f) (d := d) (b := b) hj
  rw [List.getElem?_eq_getElem (by rw [hNms_len]; exact hi)] at e1
  rw [List.getElem?_eq_getElem (by rw [hNms_len]; exact hj)] at e2
  rw [Option.some.inj e1, Option.some.inj e2] at e
  have := hNm_inj (by omega) (by omega) e
  omega
/-- the stem's parts: with the sign ahead, or behind -/
structure HN (hd tl f b : Nm) : Prop where
  hf : ∃ f', f = hd ++ f'
  hb : ∃ b', b = b' ++ tl
  len : f.length + b.length ≤ 5 + hd.length + tl.length
  lf : Lower f
  lb : Lower b
theorem HN.nm {hd tl f b : Nm} (h : HN hd tl f b) (l : hd.length + tl.length ≤ 2) (d k : Nat) : IsNm (hNm f d b k) := by
  have := h.len
  refine ⟨by unfold hNm; rw [List.length_append, List.length_append, List.length_singleton]; omega, by unfold hNm; rw [List.length_append, List.length_append]; simp; omega, fun c hc => ?_⟩
  unfold hNm at hc
  rcases List.mem_append.mp hc with z | z
  · rcases List.mem_append.mp z with z | z
    · exact h.lf c z
    · rw [List.mem_singleton.mp z]; omega
  · exact h.lb c z
theorem HN.nms {hd tl f b : Nm} (h : HN hd tl f b) (l : hd.length + tl.length ≤ 2) (d n : Nat) : ∀ z ∈ hNms f d b n, IsNm z := fun z hz => by
  obtain ⟨k, _, rfl⟩ := List.mem_map.mp hz
  exact h.nm l d k
section
variable {P : Program} {w : World} {K : PySem.W.Frag} {mg : Str → Option Value} {base : Heap} {k : Nat}
def sp_l_names : Sp := fun vs H Q _ => ∃ (p : Addr) (n : Nat) (hd tl : Nm), vs = [.ref p, .int n, nS hd, nS tl] ∧ Bag H p ∧ n ≤ 26 ∧ Lower hd ∧ Lower tl ∧ hd.length + tl.length ≤ 2 ∧ ∀ (H' : Hp) (l : Addr) (f : Nm) (d : Nat) (b : Nm), Keep p H H' → Bag H' p → H l = none → H' l = some (.lst ((hNms f d b n).map nS)) → HN hd tl f b → Q (.ref l) H'
set_option maxHeartbeats 8000000 in
theorem ok_l_names (T : Defs K mg) : FnOk P w K mg base CX0 (k + 2) T.a_l_names T.d_l_names ["_law_bag_here", "_law_many", "_law_head", "_law_tail"] sp_l_names := by
  have G_l_take : FnOk P w K mg base CX0 (k + 1) _ _ _ _ := ok_l_take T
  refine T.F_l_names.ok sc_l_names (fun vs H Q E h => ?_) (fun cdv A outer s H vs Q E hr h => ?_)
  · obtain ⟨p, n, hd, tl, rfl, _⟩ := h
    rfl
  · obtain ⟨p, n, hd, tl, rfl, b, hn, lhd, ltl, hl1, q⟩ := h
    refine ⟨_, PSs.nox
(pss_cons (ps_set (i := 4) sc_l_names.nd rfl (.inr rfl) (pe_str))
    (pss_cons (ps_set (i := 5) sc_l_names.nd rfl (.inl rfl) (pe_join (pe_str) (pe_lc (own := [("_law_k", 10)]) (g := gName 10) rfl sc_l_names.nd (pi_range1 (by rfl) T.z_range (pa_cons (pe_call G_l_take hr (by rfl) T.g_l_take T.F_l_take.kp T.b_l_take .nil pass0 (pa_cons (pv 0) (pa_cons (pe_int) pa_nil))) pa_nil)) (blkOk_by (N := N_l_names) (sc := defScope s_l_names) (by decide +kernel)) (fun _ _ _ _ _ => (pg_name (i := 10) sc_l_names.nd rfl (.inl rfl))) (fun _ _ _ _ _ => pts_nil) (fun _ _ _ _ _ => (pe_ix ix_str (pv 4) (pe_call G_l_take hr (by rfl) T.g_l_take T.F_l_take.kp T.b_l_take .nil pass0 (pa_cons (pv 0) (pa_cons (pe_int) pa_nil))) (fun _ _ => rfl))))))
    (pss_cons (ps_asg (pe_tup (pa_cons (pe_call G_l_take hr (by rfl) T.g_l_take T.F_l_take.kp T.b_l_take .nil pass0 (pa_cons (pv 0) (pa_cons (pe_op op_add (pe_callB call_len_str (by rfl) T.z_len (by decide +kernel) (pa_cons (pv 5) pa_nil)) (pe_int)) pa_nil))) (pa_cons (pe_call G_l_take hr (by rfl) T.g_l_take T.F_l_take.kp T.b_l_take .nil pass0 (pa_cons (pv 0) (pa_cons (pe_int) pa_nil))) pa_nil))) (pg_tup rfl (pgs_cons (pg_name (i := 6) sc_l_names.nd rfl (.inl rfl)) (pgs_cons (pg_name (i := 7) sc_l_names.nd rfl (.inr rfl)) pgs_nil))))
    (pss_cons (ps_asg (pe_tup (pa_cons (pe_op op_add_str (pv 2) (pe_slice sl_str (pv 5) po_none (po_some (pv 6)))) (pa_cons (pe_op op_add_str (pe_slice sl_str (pv 5) (po_some (pv 6)) po_none) (pv 3)) pa_nil))) (pg_tup rfl (pgs_cons (pg_name (i := 8) sc_l_names.nd rfl (.inr rfl)) (pgs_cons (pg_name (i := 9) sc_l_names.nd rfl (.inr rfl)) pgs_nil))))
    (pss_one (ps_ret (pe_lc (own := [("_law_k", 10)]) (g := gName 10) rfl sc_l_names.nd (pi_range1 (by rfl) T.z_range (pa_cons (pv 1) pa_nil)) (blkOk_by (N := N_l_names) (sc := defScope s_l_names) (by decide +kernel)) (fun _ _ _ _ _ => (pg_name (i := 10) sc_l_names.nd rfl (.inl rfl))) (fun _ _ _ _ _ => pts_nil) (fun _ _ _ _ _ => (pe_op op_add_str (pe_op op_add_str (pv 8) (pe_ix ix_str (pv 4) (pe_op op_mod (pe_op op_add (pv 7) (pv 10)) (pe_int)) (fun _ _ => rfl))) (pv 9))))))))))
      , ?_⟩
    refine ⟨⟨_, rfl⟩, .ref p, rfl, p, 6, rfl, b, by decide, by decide, fun H4 sz k4 b4 z0 z1 => ?_⟩
    obtain ⟨sz, rfl⟩ : ∃ xn : Nat, sz = (xn : Int) := ⟨sz.toNat, by omega⟩
    have sz5 : sz ≤ 5 := by omega
    refine ⟨sz, rfl, by omega, by omega, fun D nD => ?_⟩
    have nDp : D ≠ p := b4.ne nD
    rw [Int.toNat_natCast]
    refine lc_it walk_range (fun j H5 => Keep p H4 H5 ∧ Bag H5 p ∧ ∃ cs : List Nat, cs.length = j ∧ Lower cs ∧ H5 D = some (.lst (((cs.map fun c => [c]).map SX.S).map V.str))) ⟨.of (same_upd nD), b4.keep (same_upd nD), [], rfl, fun c hc => by simp at hc, upd_same⟩ (fun _ _ _ _ => trivial) (fun j x H5 H6 hj pv y => ?_) (fun H5 pv => ?_)
    · obtain ⟨rfl, rfl⟩ := y
      obtain ⟨k5, b5, cs, hcl, hcs, eD⟩ := pv
      refine ⟨rfl, yes_ ?_⟩
      refine ⟨.str abc, rfl, .ref p, rfl, p, 26, rfl, b5, by decide, by decide, fun H7 d k7 b7 d0 d1 => ?_⟩
      refine ⟨abc, d, _, rfl, rfl, by decide +kernel, abc_at d0 d1, _, k7 _ _ nDp eD, by rw [List.length_map, List.length_map, List.length_map]; exact small5000 (by omega), (k5.trans k7).set nD, b7.at (upd_ne nDp.symm), cs ++ [97 + d.toNat], by rw [List.length_append, hcl]; rfl, fun c hc => ?_, by rw [upd_same, List.map_append, List.map_append, List.map_append]; rfl⟩
      rcases List.mem_append.mp hc with z | z
      · exact hcs c z
      · rw [List.mem_singleton.mp z]
        omega
    obtain ⟨k5, b5, cs, hcl, hcs, eD⟩ := pv
    have k05 := k4.trans k5
    refine ⟨_, D, (cs.map fun c => [c]).map SX.S, rfl, rfl, .inl (SqL.of eD), ?_, ?_⟩
    · rw [SX.lens, List.map_map, List.length_map, List.length_map]
      have e1 : (cs.map ((fun x : List Nat => x.length) ∘ fun c => [c])).sum = cs.length := by
        clear eD hcs hcl
        induction cs with
        | nil => rfl
        | cons c cs ih => rw [List.map_cons, List.sum_cons, ih, List.length_cons]; show 1 + _ = _; omega
      rw [e1]
      show cs.length + cs.length * 0 ≤ 16777216
      omega
    have ej : Txt.join (Str.ofString "") ((cs.map fun c => [c]).map SX.S) = SX.S cs := join_signs cs
    rw [ej]
    have cl8 : cs.length ≤ 5 := by omega
    have sline : ∀ {n : Nat}, n ≤ 100 → n ≤ sizeLine := fun h => Nat.le_of_lt (small5000 (by omega))
    -- at, first
    refine ⟨.ref p, rfl, .str (SX.S cs), rfl, _, rfl, sline (by rw [SX.S_len]; omega), _, 1, rfl, rfl, p, _, rfl, b5, by omega, by rw [SX.S_len]; omega, fun H6 at' k6 b6 a0 a1 => ?_⟩
    rw [SX.S_len] at a1
    obtain ⟨at', rfl⟩ : ∃ xn : Nat, at' = (xn : Int) := ⟨at'.toNat, by omega⟩
    refine ⟨.ref p, rfl, p, 26, rfl, b6, by decide, by decide, fun H7 fi k7 b7 f0 f1 => ?_⟩
    obtain ⟨fi, rfl⟩ : ∃ xn : Nat, fi = (xn : Int) := ⟨fi.toNat, by omega⟩
    refine ⟨two_sz, fun U nU => ?_⟩
    have sU := same_upd (o := .tup [.int (at' : Int), .int (fi : Int)]) nU
    refine ⟨U, _, rfl, SqT.of upd_same, rfl, _, _, rfl, _, [], rfl, rfl, ?_⟩
    have k07 := (k05.trans (k6.trans k7)).trans (.of sU)
    have b7 := b7.keep sU
    generalize upd H7 U (.tup [.int (at' : Int), .int (fi : Int)]) = H8 at k07 b7 ⊢
    -- front, back
    refine ⟨nS hd, rfl, .str (SX.S cs), rfl, .int (at' : Int), rfl, at', rfl, _, rfl, sline (by rw [SX.S_len]; omega), ?_⟩
    rw [Stm.cut_to]
    refine ⟨_, _, rfl, rfl, sline (by rw [SX.S_len, SX.S_len, List.length_take]; omega), ?_⟩
    rw [SX.S_cat]
    refine ⟨.str (SX.S cs), rfl, .int (at' : Int), rfl, at', rfl, _, rfl, sline (by rw [SX.S_len]; omega), ?_⟩
    rw [Stm.cut_of]
    refine ⟨nS tl, rfl, _, _, rfl, rfl, sline (by rw [SX.S_len, SX.S_len, List.length_drop]; omega), ?_⟩
    rw [SX.S_cat]
    refine ⟨two_sz, fun U2 nU2 => ?_⟩
    have sU2 := same_upd (o := .tup [nS (hd ++ cs.take at'), nS (cs.drop at' ++ tl)]) nU2
    refine ⟨U2, _, rfl, SqT.of upd_same, rfl, _, _, rfl, _, [], rfl, rfl, ?_⟩
    have k08 := k07.trans (.of sU2)
    have b8 := b7.keep sU2
    generalize upd H8 U2 (.tup [nS (hd ++ cs.take at'), nS (cs.drop at' ++ tl)]) = H9 at k08 b8 ⊢
    have hn' : HN hd tl (hd ++ cs.take at') (cs.drop at' ++ tl) := by
      refine ⟨⟨_, rfl⟩, ⟨_, rfl⟩, ?_, fun c hc => ?_, fun c hc => ?_⟩
      · rw [List.length_append, List.length_append, List.length_take, List.length_drop]
        omega
      · rcases List.mem_append.mp hc with z | z
        · exact lhd c z
        · exact hcs c (List.mem_of_mem_take z)
      · rcases List.mem_append.mp hc with z | z
        · exact hcs c (List.mem_of_mem_drop z)
        · exact ltl c z
    generalize hd ++ cs.take at' = f at hn' ⊢
    generalize cs.drop at' ++ tl = bk at hn' ⊢
    have fl := hn'.len
    refine ⟨.int n, rfl, n, rfl, by omega, by omega, fun L nL => ?_⟩
    rw [Int.toNat_natCast]
    refine lc_it (walk_range (lo := 0) (n := n)) (fun j Hx => Same H9 Hx ∧ Hx L = some (.lst ((hNms f fi bk j).map nS))) ⟨same_upd nL, upd_same⟩ (fun _ _ _ _ => trivial) (fun j x Hx Hx' hj pv y => ?_) (fun Hx pv => ?_)
    · have ex : x = V.int (j : Int) := by first | exact (y.1).trans (congrArg V.int (Int.zero_add _)) | exact (y.2).trans (congrArg V.int (Int.zero_add _))
      have eh : Hx' = Hx := by first | exact y.1 | exact y.2
      subst ex
      subst eh
      obtain ⟨sx, eL⟩ := pv
      have hm0 : 0 ≤ ((fi : Int) + (j : Int)) % 26 := Int.emod_nonneg _ (by decide)
      have hm1 : ((fi : Int) + (j : Int)) % 26 < 26 := Int.emod_lt_of_pos _ (by decide)
      have ei : (((fi : Int) + (j : Int)) % 26).toNat = (fi + j) % 26 := by omega
      refine ⟨rfl, yes_ ⟨nS f, rfl, .str abc, rfl, .int (fi : Int), rfl, .int (j : Int), rfl, _, _, rfl, rfl, _, 26, rfl, rfl, p26, abc, _, _, rfl, rfl, by decide +kernel, abc_at hm0 hm1, ?_⟩⟩
      rw [ei]
      refine ⟨_, _, rfl, rfl, sline (by rw [SX.S_len]; show _ + 1 ≤ 100; omega), ?_⟩
      rw [show SX.S f ++ Str.mk #[97 + (fi + j) % 26] = SX.S (f ++ [97 + (fi + j) % 26]) from SX.S_cat f [97 + (fi + j) % 26]]
      refine ⟨nS bk, rfl, _, _, rfl, rfl, sline (by rw [SX.S_len, SX.S_len, List.length_append]; show _ + 1 + _ ≤ 100; omega), ?_⟩
      rw [SX.S_cat]
      refine ⟨_, eL, by rw [List.length_map, hNms_len]; exact small5000 (by omega), same_set sx nL, ?_⟩
      rw [upd_same]
      unfold hNms
      rw [List.range_succ, List.map_append, List.map_append]
      rfl
    obtain ⟨sx, eL⟩ := pv
    exact q Hx L f fi bk (k08.trans (.of sx)) (b8.keep sx) (k08.free b nL b8) eL hn'
end
end Th
namespace Th
open PySem PySem.Spec PyProof.Rows L2
theorem up0 {H H' : Hp} {p : Addr} (s : Same H H') (n : H' p = none) : H p = none := by
  cases e : H p with
  | none => rfl
  | some o => rw [s _ _ e] at n; cases n
/-! a net at its address -/
/-- tuples stay, those whose object is known, too -/
structure TKF (H H' : Hp) : Prop where
  t : ∀ a xs, H a = some (.tup xs) → H' a = some (.tup xs)
  f : ∀ a o xs, H a = some (.frz o (.tup xs)) → H' a = some (.frz o (.tup xs))
instance {H H' : Hp} : CoeFun (TKF H H') fun _ => ∀ a xs, H a = some (.tup xs) → H' a = some (.tup xs) := ⟨TKF.t⟩
theorem TKF.of {H H' : Hp} (s : Same H H') : TKF H H' := ⟨fun a xs e => s a _ e, fun a o xs e => s a _ e⟩
theorem TKF.trans {H H' H2 : Hp} (a : TKF H H') (b : TKF H' H2) : TKF H H2 := ⟨fun c xs e => b.t c xs (a.t c xs e), fun c o xs e => b.f c o xs (a.f c o xs e)⟩
theorem TKF.keep {p : Addr} {H H' : Hp} (k : Keep p H H') (b : Bag H p) : TKF H H' := by
  obtain ⟨g, r, e', _⟩ := b
  exact ⟨fun a xs e => k a _ (fun z => by rw [z, e'] at e; cases e) e, fun a o xs e => k a _ (fun z => by rw [z, e'] at e; cases e) e⟩
theorem TKF.upd {c : Addr} {H : Hp} {o : HO} (h : ∀ xs, H c ≠ some (.tup xs)) (h2 : ∀ o' xs, H c ≠ some (.frz o' (.tup xs)) := by intro o' xs e; simp_all) : TKF H (upd H c o) :=
  ⟨fun a xs e => by rw [upd_ne (fun z => h xs (by rw [← z]; exact e))]; exact e, fun a o' xs e => by rw [upd_ne (fun z => h2 o' xs (by rw [← z]; exact e))]; exact e⟩
theorem TpF.tk {H H' : Hp} {a : Addr} {xs : List V} (h : TpF H a xs) (k : TKF H H') : TpF H' a xs := let ⟨o, e, d⟩ := h; ⟨o, k.f _ _ _ e, d⟩
def StAt (H : Hp) (a : Addr) (st : Nm × Nm) : Prop := H a = some (.tup [nS st.1, nS st.2])
def JnAt (H : Hp) (a : Addr) (jn : Nm × List Nm) : Prop := ∃ b, H a = some (.tup [nS jn.1, .ref b]) ∧ H b = some (.tup (jn.2.map nS))
structure Ti where
  a : Nm
  b : Nm
  ln : Nm
  ch : Nat
def TiAt (H : Hp) (x : Addr) (t : Ti) : Prop := H x = some (.tup [nS t.a, nS t.b, nS t.ln, .int t.ch])
/-- the net at its address -/
def NetAt (H : Hp) (r : Addr) (ls : List Nm) (sts : List (Nm × Nm)) (jns : List (Nm × List Nm)) (tis : List Ti) : Prop :=
  ∃ (a b c d : Addr) (sa ja ta : List Addr), H r = some (.tup [.ref a, .ref b, .ref c, .ref d]) ∧ TpF H a (ls.map nS) ∧ TpF H b (sa.map V.ref) ∧ Paired (StAt H) sa sts ∧
    TpF H c (ja.map V.ref) ∧ Paired (JnAt H) ja jns ∧ TpF H d (ta.map V.ref) ∧ Paired (TiAt H) ta tis
theorem NetAt.tk {H H' : Hp} {r : Addr} {ls : List Nm} {sts : List (Nm × Nm)} {jns : List (Nm × List Nm)} {tis : List Ti} (h : NetAt H r ls sts jns tis) (k : TKF H H') : NetAt H' r ls sts jns tis := by
  obtain ⟨a, b, c, d, sa, ja, ta, e1, e2, e3, e4, e5, e6, e7, e8⟩ := h
  exact ⟨a, b, c, d, sa, ja, ta, k _ _ e1, e2.tk k, e3.tk k, paired_imp e4 fun x _ y e => k _ _ e, e5.tk k, paired_imp e6 (fun x _ y ⟨z, f1, f2⟩ => ⟨z, k _ _ f1, k _ _ f2⟩), e7.tk k, paired_imp e8 fun x _ y e => k _ _ e⟩
/-! the drawn house's net -/
abbrev jV (js : List Nat) : List V := js.map fun j => V.int ((j : Nat) : Int)
theorem natsH {ns : List Int} (h : ∀ x ∈ ns, 0 ≤ x) : ns = (ns.map Int.toNat).map fun j => ((j : Nat) : Int) := by
  rw [List.map_map]
  conv => lhs; rw [← List.map_id ns]
  refine List.map_congr_left fun x hx => ?_
  have := h x hx
  show x = ((x.toNat : Nat) : Int)
  omega
theorem ints_natsH {ns : List Int} (h : ∀ x ∈ ns, 0 ≤ x) : ns.map V.int = jV (ns.map Int.toNat) := by
  conv => lhs; rw [natsH h]
  rw [List.map_map]
  rfl
theorem cut_takeH (xs : List V) (m : Nat) : cutV xs none (some (m : Int)) = xs.take m := by
  unfold cutV
  rw [HT.sIx_none, HT.sIx_nat]
  show (xs.drop 0).take (min m xs.length - 0) = xs.take m
  rw [List.drop_zero, Nat.sub_zero]
  by_cases h : m ≤ xs.length
  · rw [Nat.min_eq_left h]
  · rw [Nat.min_eq_right (by omega), List.take_length, List.take_of_length_le (by omega)]
def sgL (k : Nat) : List Nm := if k = 0 then [[115], [116], [106]] else [[107], [113], [122]]
def hdS (sd : Nat) (g : Nm) : Nm := if sd = 1 then g else []
def tlS (sd : Nat) (g : Nm) : Nm := if sd = 1 then [] else g
/-- the names' parts: lines, stations, second ones, junctions -/
structure HNs (k sd : Nat) (f0 b0 f1 b1 f2 b2 f3 b3 : Nm) : Prop where
  h0 : HN [] [] f0 b0
  h1 : HN (hdS sd ((sgL k).getD 0 [])) (tlS sd ((sgL k).getD 0 [])) f1 b1
  h2 : HN (hdS sd ((sgL k).getD 1 [])) (tlS sd ((sgL k).getD 1 [])) f2 b2
  h3 : HN (hdS sd ((sgL k).getD 2 [])) (tlS sd ((sgL k).getD 2 [])) f3 b3
def hSts (n m2 : Nat) (L S T : Nat → Nm) : List (Nm × Nm) := (List.range n).map (fun k => (S k, L k)) ++ (List.range m2).map fun k => (T k, L k)
def hJns (n : Nat) (L J : Nat → Nm) : List (Nm × List Nm) := (List.range (n - 1)).map fun k => (J k, [L k, L (k + 1)])
def hT1 (m : Nat) (L S J : Nat → Nm) : List (Nm × Nm × Nm) := ((List.range m).map fun k => [(S k, J k, L k), (J k, S (k + 1), L (k + 1))]).flatten
def hT2 (m : Nat) (L J : Nat → Nm) : List (Nm × Nm × Nm) := (List.range m).map fun k => (J k, J (k + 1), L (k + 1))
def hT3 (m : Nat) (L S T : Nat → Nm) : List (Nm × Nm × Nm) := (List.range m).map fun k => (T k, S k, L k)
def tiK (t : Ti) : Nm × Nm × Nm := (t.a, t.b, t.ln)
/-- further junctions: of the i-th name on, with lines in order, two at least -/
structure JxOk (n : Nat) (L J : Nat → Nm) (m : Nat) (x : Nm × List Nm) : Prop where
  at_ : ∃ k, k < m ∧ k < 3 ∧ x.1 = J (n - 1 + k)
  ls : ∃ js : List Nat, js.Pairwise (· < ·) ∧ (∀ j ∈ js, j < n) ∧ 2 ≤ js.length ∧ x.2 = js.map L
theorem JxOk.more {n : Nat} {L J : Nat → Nm} {m : Nat} {x : Nm × List Nm} (h : JxOk n L J m x) : JxOk n L J (m + 1) x := ⟨let ⟨k, a, b⟩ := h.at_; ⟨k, by omega, b⟩, h.ls⟩
theorem StAt.kp {p : Addr} {H H' : Hp} {a : Addr} {x : Nm × Nm} (h : StAt H a x) (k : Keep p H H') (b : Bag H p) : StAt H' a x := (TKF.keep k b).t _ _ h
theorem JnAt.kp {p : Addr} {H H' : Hp} {a : Addr} {x : Nm × List Nm} (h : JnAt H a x) (k : Keep p H H') (b : Bag H p) : JnAt H' a x := let ⟨c, h1, h2⟩ := h; ⟨c, (TKF.keep k b).t _ _ h1, (TKF.keep k b).t _ _ h2⟩
theorem TiAt.kp {p : Addr} {H H' : Hp} {a : Addr} {x : Ti} (h : TiAt H a x) (k : Keep p H H') (b : Bag H p) : TiAt H' a x := (TKF.keep k b).t _ _ h
theorem tk_updl {H : Hp} {F : Addr} {xs : List V} {o : HO} (e : H F = some (.lst xs)) : TKF H (upd H F o) := TKF.upd (fun ys z => by rw [e] at z; cases z) (fun o' ys z => by rw [e] at z; cases z)
/-- the lists of ties and junctions under way -/
structure TsS (H9 Hx : Hp) (p Ta D4 : Addr) (ta : List Addr) (tis : List Ti) (ja : List Addr) (jn : List (Nm × List Nm)) : Prop where
  k : Keep p H9 Hx
  b : Bag Hx p
  eT : Hx Ta = some (.lst (ta.map V.ref))
  hT : Paired (TiAt Hx) ta tis
  eD : Hx D4 = some (.lst (ja.map V.ref))
  hJ : Paired (JnAt Hx) ja jn
theorem TsS.keep {H9 Hx Hy : Hp} {p Ta D4 : Addr} {ta : List Addr} {tis : List Ti} {ja : List Addr} {jn : List (Nm × List Nm)} (h : TsS H9 Hx p Ta D4 ta tis ja jn) (nT : Ta ≠ p) (nD : D4 ≠ p) (k : Keep p Hx Hy) (b : Bag Hy p) : TsS H9 Hy p Ta D4 ta tis ja jn :=
  ⟨h.k.trans k, b, k _ _ nT h.eT, paired_imp h.hT fun a _ x e => e.kp k h.b, k _ _ nD h.eD, paired_imp h.hJ fun a _ x e => e.kp k h.b⟩
theorem TsS.addT {H9 Hx : Hp} {p Ta D4 u : Addr} {t : Ti} {ta : List Addr} {tis : List Ti} {ja : List Addr} {jn : List (Nm × List Nm)} (h : TsS H9 Hx p Ta D4 ta tis ja jn) (nT : Ta ≠ p) (n9 : H9 Ta = none) (ne : Ta ≠ D4) (hu : TiAt Hx u t) : TsS H9 (upd Hx Ta (.lst (ta.map V.ref ++ [.ref u]))) p Ta D4 (ta ++ [u]) (tis ++ [t]) ja jn := by
  have tk := tk_updl (o := .lst (ta.map V.ref ++ [.ref u])) h.eT
  exact ⟨h.k.set n9, h.b.at (upd_ne nT.symm), by rw [upd_same, List.map_append]; rfl, paired_snoc (paired_imp h.hT fun a _ x e => tk.t _ _ e) (tk.t _ _ hu), by rw [upd_ne ne.symm]; exact h.eD, paired_imp h.hJ fun a _ x ⟨c, h1, h2⟩ => ⟨c, tk.t _ _ h1, tk.t _ _ h2⟩⟩
theorem TsS.addJ {H9 Hx : Hp} {p Ta D4 u : Addr} {j : Nm × List Nm} {ta : List Addr} {tis : List Ti} {ja : List Addr} {jn : List (Nm × List Nm)} (h : TsS H9 Hx p Ta D4 ta tis ja jn) (nD : D4 ≠ p) (n9 : H9 D4 = none) (ne : Ta ≠ D4) (hu : JnAt Hx u j) : TsS H9 (upd Hx D4 (.lst (ja.map V.ref ++ [.ref u]))) p Ta D4 ta tis (ja ++ [u]) (jn ++ [j]) := by
  have tk := tk_updl (o := .lst (ja.map V.ref ++ [.ref u])) h.eD
  refine ⟨h.k.set n9, h.b.at (upd_ne nD.symm), by rw [upd_ne ne]; exact h.eT, paired_imp h.hT fun a _ x e => tk.t _ _ e, by rw [upd_same, List.map_append]; rfl, paired_snoc (paired_imp h.hJ fun a _ x ⟨c, h1, h2⟩ => ⟨c, tk.t _ _ h1, tk.t _ _ h2⟩) ?_⟩
  obtain ⟨c, h1, h2⟩ := hu
  exact ⟨c, tk.t _ _ h1, tk.t _ _ h2⟩
section
variable {P : Program} {w : World} {K : PySem.W.Frag} {mg : Str → Option Value} {base : Heap} {k : Nat}
/-- all that is known of the drawn net -/
def NetH (H : Hp) (r : Addr) (n m2 kk sd : Nat) (f0 b0 f1 b1 f2 b2 f3 b3 : Nm) (d0 d1 d2 d3 : Nat) (jx : List (Nm × List Nm)) (tis : List Ti) : Prop :=
  NetAt H r (hNms f0 d0 b0 n) (hSts n m2 (hNm f0 d0 b0) (hNm f1 d1 b1) (hNm f2 d2 b2)) (hJns n (hNm f0 d0 b0) (hNm f3 d3 b3) ++ jx) tis ∧ 1 ≤ n ∧ n ≤ 8 ∧ 1 ≤ m2 ∧ m2 ≤ n ∧ sd ≤ 1 ∧ HNs kk sd f0 b0 f1 b1 f2 b2 f3 b3 ∧ jx.length ≤ 3 ∧ (jx.map (·.1)).Nodup ∧ (∀ x ∈ jx, JxOk n (hNm f0 d0 b0) (hNm f3 d3 b3) 3 x) ∧
  tis.map tiK = hT1 (n - 1) (hNm f0 d0 b0) (hNm f1 d1 b1) (hNm f3 d3 b3) ++ hT2 (n - 2) (hNm f0 d0 b0) (hNm f3 d3 b3) ++ hT3 m2 (hNm f0 d0 b0) (hNm f1 d1 b1) (hNm f2 d2 b2) ∧ ∀ t ∈ tis, 1 ≤ t.ch ∧ t.ch ≤ 9999
def sp_l_net : Sp := fun vs H Q _ => ∃ (p : Addr), vs = [.ref p] ∧ Bag H p ∧ ∀ H' r n m2 kk sd f0 b0 f1 b1 f2 b2 f3 b3 d0 d1 d2 d3 jx tis, Keep p H H' → Bag H' p → NetH H' r n m2 kk sd f0 b0 f1 b1 f2 b2 f3 b3 d0 d1 d2 d3 jx tis → Q (.ref r) H'
/-- three lists of names -/
def NmsA (p D : Addr) (n sd : Nat) (H : Hp) (a : Addr) (g : Nm) : Prop := a ≠ p ∧ a ≠ D ∧ ∃ f d b, H a = some (.lst ((hNms f d b n).map nS)) ∧ HN (hdS sd g) (tlS sd g) f b
theorem hn_sz {n : Nat} (h : n ≤ 11) : n ≤ 26 := by omega
set_option maxHeartbeats 32000000 in
theorem ok_l_net (T : Defs K mg) : FnOk P w K mg base CX0 (k + 3) T.a_l_net T.d_l_net ["_law_bag_here"] sp_l_net := by
  have G_l_take : FnOk P w K mg base CX0 (k + 2) _ _ _ _ := ok_l_take (k := k + 1) T
  have G_l_names : FnOk P w K mg base CX0 (k + 2) _ _ _ _ := ok_l_names (k := k) T
  refine T.F_l_net.ok sc_l_net (fun vs H Q E h => ?_) (fun cdv A outer s H vs Q E hr h => ?_)
  · obtain ⟨p, rfl, _⟩ := h
    rfl
  · obtain ⟨p, rfl, b, q⟩ := h
    refine ⟨_, PSs.nox
(pss_cons (ps_set (i := 1) sc_l_net.nd rfl (.inr rfl) (pe_ix (r := rIxT K) ix_tup (pe_tup (pa_cons (pe_int) (pa_cons (pe_int) (pa_cons (pe_int) (pa_cons (pe_int) (pa_cons (pe_int) (pa_cons (pe_int) pa_nil))))))) (pe_call G_l_take hr (by rfl) T.g_l_take T.F_l_take.kp T.b_l_take .nil pass0 (pa_cons (pv 0) (pa_cons (pe_int) pa_nil))) (fun _ _ => rfl)))
    (Evl.pss_cut (ps_set (i := 2) sc_l_net.nd rfl (.inl rfl) (pe_ifExp (pt_cmpR op_eq (pe_call G_l_take hr (by rfl) T.g_l_take T.F_l_take.kp T.b_l_take .nil pass0 (pa_cons (pv 0) (pa_cons (pe_int) pa_nil))) (pe_int) (nomark _)) (pe_lst (pa_cons (pe_str) (pa_cons (pe_str) (pa_cons (pe_str) pa_nil)))) (pe_lst (pa_cons (pe_str) (pa_cons (pe_str) (pa_cons (pe_str) pa_nil))))))
    (pss_cons (ps_set (i := 3) sc_l_net.nd rfl (.inr rfl) (pe_call G_l_take hr (by rfl) T.g_l_take T.F_l_take.kp T.b_l_take .nil pass0 (pa_cons (pv 0) (pa_cons (pe_int) pa_nil))))
    (pss_cons (ps_set (i := 4) sc_l_net.nd rfl (.inr rfl) (pe_call G_l_names hr (by rfl) T.g_l_names T.F_l_names.kp T.b_l_names .nil pass0 (pa_cons (pv 0) (pa_cons (pv 1) (pa_cons (pe_str) (pa_cons (pe_str) pa_nil))))))
    (pss_cons (ps_setLc (i := 5) (own := [("_law_sign", 12)]) (g := gName 12) rfl sc_l_net.nd rfl rfl (sw_true rfl rfl rfl (by decide +kernel)) (pi_list (pv 2)) (blkOk_by (N := N_l_net) (sc := defScope s_l_net) (by decide +kernel)) (fun _ _ _ _ _ => (pg_name (i := 12) sc_l_net.nd rfl (.inl rfl))) (fun _ _ _ _ _ => pts_nil) (fun _ _ _ _ _ => (pe_call G_l_names hr (by rfl) T.g_l_names T.F_l_names.kp T.b_l_names .nil pass0 (pa_cons (pv 0) (pa_cons (pe_op op_add (pv 1) (pe_int)) (pa_cons (pe_op Stm.op_mulS01 (pv 12) (pv 3)) (pa_cons (pe_op Stm.op_mulS01 (pv 12) (pe_op op_sub (pe_int) (pv 3))) pa_nil)))))))
    (pss_cons (ps_setLc (i := 6) (own := [("_law_name", 13), ("_law_line_here", 14)]) (g := gTup K 2 (gCons (gName 13) (gCons (gName 14) gNil))) rfl sc_l_net.nd rfl rfl (sw_true rfl rfl rfl (by decide +kernel)) (pi_zip (by rfl) T.z_zip (pa_cons (pe_ix (r := rIxL K) ix_list (pv 5) (pe_int) (fun _ _ => rfl)) (pa_cons (pv 4) pa_nil))) (blkOk_by (N := N_l_net) (sc := defScope s_l_net) (by decide +kernel)) (fun _ _ _ _ _ => (pg_tup rfl (pgs_cons (pg_name (i := 13) sc_l_net.nd rfl (.inl rfl)) (pgs_cons (pg_name (i := 14) sc_l_net.nd rfl (.inl rfl)) pgs_nil)))) (fun _ _ _ _ _ => pts_nil) (fun _ _ _ _ _ => (pe_tup (pa_cons (pv 13) (pa_cons (pv 14) pa_nil)))))
    (pss_cons (ps_set (i := 7) sc_l_net.nd rfl (.inl rfl) (pe_slice sl_list (pe_lc (own := [("_law_name", 13), ("_law_line_here", 14)]) (g := gTup K 2 (gCons (gName 13) (gCons (gName 14) gNil))) rfl sc_l_net.nd (pi_zip (by rfl) T.z_zip (pa_cons (pe_ix (r := rIxL K) ix_list (pv 5) (pe_int) (fun _ _ => rfl)) (pa_cons (pv 4) pa_nil))) (blkOk_by (N := N_l_net) (sc := defScope s_l_net) (by decide +kernel)) (fun _ _ _ _ _ => (pg_tup rfl (pgs_cons (pg_name (i := 13) sc_l_net.nd rfl (.inl rfl)) (pgs_cons (pg_name (i := 14) sc_l_net.nd rfl (.inl rfl)) pgs_nil)))) (fun _ _ _ _ _ => pts_nil) (fun _ _ _ _ _ => (pe_tup (pa_cons (pv 13) (pa_cons (pv 14) pa_nil))))) po_none (po_some (pe_op op_add (pe_int) (pe_call G_l_take hr (by rfl) T.g_l_take T.F_l_take.kp T.b_l_take .nil pass0 (pa_cons (pv 0) (pa_cons (pv 1) pa_nil)))))))
    (pss_cons (ps_set (i := 8) sc_l_net.nd rfl (.inr rfl) (pe_ix (r := rIxL K) ix_list (pv 5) (pe_int) (fun _ _ => rfl)))
    (pss_cons (ps_setLc (i := 9) (own := [("_law_k", 11)]) (g := gName 11) rfl sc_l_net.nd rfl rfl (sw_true rfl rfl rfl (by decide +kernel)) (pi_range1 (by rfl) T.z_range (pa_cons (pe_op op_sub (pv 1) (pe_int)) pa_nil)) (blkOk_by (N := N_l_net) (sc := defScope s_l_net) (by decide +kernel)) (fun _ _ _ _ _ => (pg_name (i := 11) sc_l_net.nd rfl (.inl rfl))) (fun _ _ _ _ _ => pts_nil) (fun _ _ _ _ _ => (pe_tup (pa_cons (pe_ix (r := rIxL K) ix_list (pv 8) (pv 11) (fun _ _ => rfl)) (pa_cons (pe_tup (pa_cons (pe_ix (r := rIxL K) ix_list (pv 4) (pv 11) (fun _ _ => rfl)) (pa_cons (pe_ix (r := rIxL K) ix_list (pv 4) (pe_op op_add (pv 11) (pe_int)) (fun _ _ => rfl)) pa_nil))) pa_nil)))))
    (pss_cons (ps_set (i := 10) sc_l_net.nd rfl (.inl rfl) (pe_lst pa_nil))
    (pss_cons (ps_for PassesOwn.never rfl (pi_range1 (by rfl) T.z_range (pa_cons (pe_op op_sub (pv 1) (pe_int)) pa_nil)) (pg_name (i := 11) sc_l_net.nd rfl (.inl rfl))
      (pss_cons (ps_expr (pe_bm PySem.F.plainAttrs_list PySem.F.slot_list_append PySem.F.type_list_append mt_append (pv 10) (pa_cons (pe_tup (pa_cons (pe_ix (r := rIxT K) ix_tup (pe_ix (r := rIxL K) ix_list (pv 6) (pv 11) (fun _ _ => rfl)) (pe_int) (fun _ _ => rfl)) (pa_cons (pe_ix (r := rIxL K) ix_list (pv 8) (pv 11) (fun _ _ => rfl)) (pa_cons (pe_ix (r := rIxL K) ix_list (pv 4) (pv 11) (fun _ _ => rfl)) (pa_cons (pe_op op_add (pe_int) (pe_call G_l_take hr (by rfl) T.g_l_take T.F_l_take.kp T.b_l_take .nil pass0 (pa_cons (pv 0) (pa_cons (pe_int) pa_nil)))) pa_nil))))) pa_nil)))
      (pss_one (ps_expr (pe_bm PySem.F.plainAttrs_list PySem.F.slot_list_append PySem.F.type_list_append mt_append (pv 10) (pa_cons (pe_tup (pa_cons (pe_ix (r := rIxL K) ix_list (pv 8) (pv 11) (fun _ _ => rfl)) (pa_cons (pe_ix (r := rIxT K) ix_tup (pe_ix (r := rIxL K) ix_list (pv 6) (pe_op op_add (pv 11) (pe_int)) (fun _ _ => rfl)) (pe_int) (fun _ _ => rfl)) (pa_cons (pe_ix (r := rIxL K) ix_list (pv 4) (pe_op op_add (pv 11) (pe_int)) (fun _ _ => rfl)) (pa_cons (pe_op op_add (pe_int) (pe_call G_l_take hr (by rfl) T.g_l_take T.F_l_take.kp T.b_l_take .nil pass0 (pa_cons (pv 0) (pa_cons (pe_int) pa_nil)))) pa_nil))))) pa_nil))))))
    (pss_cons (ps_for PassesOwn.never rfl (pi_range1 (by rfl) T.z_range (pa_cons (pe_op op_sub (pv 1) (pe_int)) pa_nil)) (pg_name (i := 11) sc_l_net.nd rfl (.inl rfl))
      (pss_one (ps_expr (pe_bm PySem.F.plainAttrs_list PySem.F.slot_list_append PySem.F.type_list_append mt_append (pv 10) (pa_cons (pe_tup (pa_cons (pe_ix (r := rIxL K) ix_list (pv 8) (pv 11) (fun _ _ => rfl)) (pa_cons (pe_ix (r := rIxL K) ix_list (pv 8) (pe_op op_add (pv 11) (pe_int)) (fun _ _ => rfl)) (pa_cons (pe_ix (r := rIxL K) ix_list (pv 4) (pe_op op_add (pv 11) (pe_int)) (fun _ _ => rfl)) (pa_cons (pe_op op_add (pe_int) (pe_call G_l_take hr (by rfl) T.g_l_take T.F_l_take.kp T.b_l_take .nil pass0 (pa_cons (pv 0) (pa_cons (pe_int) pa_nil)))) pa_nil))))) pa_nil)))))
    (pss_cons (ps_for PassesOwn.never rfl (pi_range1 (by rfl) T.z_range (pa_cons (pe_callB (r := rLenS K) call_lenS (by rfl) T.z_len (by decide +kernel) (pa_cons (pv 7) pa_nil)) pa_nil)) (pg_name (i := 11) sc_l_net.nd rfl (.inl rfl))
      (pss_one (ps_expr (pe_bm PySem.F.plainAttrs_list PySem.F.slot_list_append PySem.F.type_list_append mt_append (pv 10) (pa_cons (pe_tup (pa_cons (pe_ix (r := rIxT K) ix_tup (pe_ix (r := rIxL K) ix_list (pv 7) (pv 11) (fun _ _ => rfl)) (pe_int) (fun _ _ => rfl)) (pa_cons (pe_ix (r := rIxT K) ix_tup (pe_ix (r := rIxL K) ix_list (pv 6) (pv 11) (fun _ _ => rfl)) (pe_int) (fun _ _ => rfl)) (pa_cons (pe_ix (r := rIxL K) ix_list (pv 4) (pv 11) (fun _ _ => rfl)) (pa_cons (pe_op op_add (pe_int) (pe_call G_l_take hr (by rfl) T.g_l_take T.F_l_take.kp T.b_l_take .nil pass0 (pa_cons (pv 0) (pa_cons (pe_int) pa_nil)))) pa_nil))))) pa_nil)))))
    (pss_cons (ps_for PassesOwn.never rfl (pi_range1 (by rfl) T.z_range (pa_cons (pe_op op_mul (pe_call G_l_take hr (by rfl) T.g_l_take T.F_l_take.kp T.b_l_take .nil pass0 (pa_cons (pv 0) (pa_cons (pe_int) pa_nil))) (pe_callTy call_int1 (by rfl) T.z_int (by decide +kernel) (pa_cons (pe_cmpR op_gt (pv 1) (pe_int) (nomark _)) pa_nil))) pa_nil)) (pg_name (i := 11) sc_l_net.nd rfl (.inl rfl))
      (pss_cons (ps_set (i := 5) sc_l_net.nd rfl (.inl rfl) (pe_callB (cr_sortedSet rfl) (by rfl) T.z_sorted (by decide +kernel) (pa_cons (pe_callTy (Sl.call_setI rfl) (by rfl) T.z_set (by decide +kernel) (pa_cons (pe_lst (pa_cons (pe_call G_l_take hr (by rfl) T.g_l_take T.F_l_take.kp T.b_l_take .nil pass0 (pa_cons (pv 0) (pa_cons (pv 1) pa_nil))) (pa_cons (pe_call G_l_take hr (by rfl) T.g_l_take T.F_l_take.kp T.b_l_take .nil pass0 (pa_cons (pv 0) (pa_cons (pv 1) pa_nil))) (pa_cons (pe_call G_l_take hr (by rfl) T.g_l_take T.F_l_take.kp T.b_l_take .nil pass0 (pa_cons (pv 0) (pa_cons (pv 1) pa_nil))) pa_nil)))) pa_nil)) pa_nil)))
      (pss_one (ps_if (pt_cmpR op_gt (pe_callB (r := rLenS K) call_lenS (by rfl) T.z_len (by decide +kernel) (pa_cons (pv 5) pa_nil)) (pe_int) (nomark _))
        (pss_one (ps_expr (pe_bm PySem.F.plainAttrs_list PySem.F.slot_list_append PySem.F.type_list_append mt_append (pv 9) (pa_cons (pe_tup (pa_cons (pe_ix (r := rIxL K) ix_list (pv 8) (pe_op op_add (pe_op op_sub (pv 1) (pe_int)) (pv 11)) (fun _ _ => rfl)) (pa_cons (pe_callTy call_tuple_of (by rfl) T.z_tuple (by decide +kernel) (pa_cons (pe_lc (own := [("_law_one", 15)]) (g := gName 15) rfl sc_l_net.nd (pi_list (pv 5)) (blkOk_by (N := N_l_net) (sc := defScope s_l_net) (by decide +kernel)) (fun _ _ _ _ _ => (pg_name (i := 15) sc_l_net.nd rfl (.inl rfl))) (fun _ _ _ _ _ => pts_nil) (fun _ _ _ _ _ => (pe_ix (r := rIxL K) ix_list (pv 4) (pv 15) (fun _ _ => rfl)))) pa_nil)) pa_nil))) pa_nil))))
        pss_nil))))
    (pss_one (ps_ret (pe_tup (pa_cons (pe_callTy (r := rTupF K) call_tuple_ofF (by rfl) T.z_tuple (by decide +kernel) (pa_cons (pv 4) pa_nil)) (pa_cons (pe_callTy (r := rTupF K) call_tuple_ofF (by rfl) T.z_tuple (by decide +kernel) (pa_cons (pe_op op_cat (pv 6) (pv 7)) pa_nil)) (pa_cons (pe_callTy (r := rTupF K) call_tuple_ofF (by rfl) T.z_tuple (by decide +kernel) (pa_cons (pv 9) pa_nil)) (pa_cons (pe_callTy (r := rTupF K) call_tuple_ofF (by rfl) T.z_tuple (by decide +kernel) (pa_cons (pv 10) pa_nil)) pa_nil)))))))))))))))))))))
      , ?_⟩
    -- many
    refine ⟨by show 6 ≤ sizeLine; decide, fun t nt => ?_⟩
    have st := same_upd (o := .tup [.int 3, .int 2, .int 4, .int 5, .int 8, .int 1]) nt
    have ntp := b.ne nt
    refine ⟨.ref p, rfl, p, 6, rfl, b.keep st, by decide, by decide, fun H1 c k1 b1 c0 c1 => ?_⟩
    obtain ⟨m0, hm0, em0⟩ := pick (ms := [3, 2, 4, 5, 8, 1]) c0 c1
    refine ⟨t, _, c, _, rfl, rfl, SqT.of (k1 _ _ ntp upd_same), em0, ?_⟩
    obtain ⟨n, rfl, n1, n8⟩ : ∃ n : Nat, m0 = (n : Int) ∧ 1 ≤ n ∧ n ≤ 8 := by
      simp only [List.mem_cons, List.not_mem_nil, or_false] at hm0
      exact ⟨m0.toNat, by omega, by omega, by omega⟩
    have k01 : Keep p H H1 := (Keep.of st).trans k1
    -- signs
    refine ⟨fun σ Hz => ∃ (G : Addr) (kk : Nat), σ = [some (.ref p), some (.int (n : Int)), some (.ref G), none, none, none, none, none, none, none, none, none, none, none, none, none] ∧ Keep p H Hz ∧ Bag Hz p ∧ G ≠ p ∧ Hz G = some (.lst ((sgL kk).map nS)), ?_, fun σ H2 mid => ?_⟩
    · refine ⟨.ref p, rfl, p, 2, rfl, b1, by decide, by decide, fun H2 c2 k2 b2 _ _ => ⟨rfl, _, rfl, ite2 (fun _ => ?_) (fun _ => ?_)⟩⟩
      · refine ⟨by show 3 ≤ sizeLine; decide, fun G nG => ?_⟩
        exact ⟨G, 0, rfl, (k01.trans k2).trans (.of (same_upd nG)), b2.keep (same_upd nG), b2.ne nG, upd_same⟩
      · refine ⟨by show 3 ≤ sizeLine; decide, fun G nG => ?_⟩
        exact ⟨G, 1, rfl, (k01.trans k2).trans (.of (same_upd nG)), b2.keep (same_upd nG), b2.ne nG, upd_same⟩
    obtain ⟨G, kk, rfl, k02, b2, nGp, eG⟩ := mid
    have sgl : (sgL kk).length = 3 := by unfold sgL; split <;> rfl
    have sglen : ∀ g ∈ sgL kk, g.length = 1 ∧ Lower g := fun g hg => by
      unfold sgL at hg
      split at hg <;> simp only [List.mem_cons, List.not_mem_nil, or_false] at hg <;> rcases hg with rfl | rfl | rfl <;> exact ⟨rfl, fun c hc => by rw [List.mem_singleton.mp hc]; omega⟩
    -- side
    refine ⟨.ref p, rfl, p, 2, rfl, b2, by decide, by decide, fun H3 sd k3 b3 s0 s1 => ?_⟩
    obtain ⟨sd, rfl⟩ : ∃ xn : Nat, sd = (xn : Int) := ⟨sd.toNat, by omega⟩
    have sd1 : sd ≤ 1 := by omega
    have eG3 := k3 _ _ nGp eG
    -- lines
    refine ⟨.ref p, rfl, .int (n : Int), rfl, p, n, [], [], rfl, b3, by omega, (fun c hc => by cases hc), (fun c hc => by cases hc), by show 0 + 0 ≤ 2; decide, fun H4 A0 f0 d0 b0 k4 b4 nA0 eA0 h0 => ?_⟩
    have nA0p : A0 ≠ p := b3.ne nA0
    have eG4 := k4 _ _ nGp eG3
    have k04 := (k02.trans k3).trans k4
    -- the others' names
    refine ⟨.ref G, rfl, G, rfl, ⟨_, SqL.of eG4⟩, fun So nSo => ?_⟩
    have nSop : So ≠ p := b4.ne nSo
    refine lc_it (walk_list (xs := (sgL kk).map nS)) (fun j Hx => Keep p H4 Hx ∧ Bag Hx p ∧ ∃ as : List Addr, Hx So = some (.lst (as.map V.ref)) ∧ Paired (NmsA p So (n + 3) sd Hx) as ((sgL kk).take j)) ⟨.of (same_upd nSo), b4.keep (same_upd nSo), [], upd_same, .nil⟩ (fun j Hx _ pv => SqL.of (pv.1 _ _ nGp eG4)) (fun j v Hx₀ Hx hj pv yy => ?_) (fun H5 pv => ?_)
    · obtain ⟨rfl, ey⟩ := yy
      obtain ⟨kx, bx, as, eSo, has⟩ := pv
      obtain ⟨g, eg, rfl⟩ : ∃ g, (sgL kk)[j]? = some g ∧ v = nS g := by
        rw [List.getElem?_map] at ey
        cases e : (sgL kk)[j]? with
        | none => rw [e] at ey; cases ey
        | some g => rw [e] at ey; exact ⟨g, rfl, (Option.some.inj ey).symm⟩
      obtain ⟨gl, glo⟩ := sglen g (List.mem_of_getElem? eg)
      rw [List.length_map, sgl] at hj
      have al := paired_len has
      rw [List.length_take, sgl] at al
      have mulS : ∀ z : Int, (z = 0 ∨ z = 1) → ∀ (Q : V → Hp → Prop) (Hy : Hp), Q (nS (if z = 1 then g else [])) Hy → Stm.rMulS01 (nS g) (.int z) Hy Q := fun z hz Q Hy h => by
        rcases hz with rfl | rfl
        · exact ⟨_, _, rfl, rfl, .inl ⟨rfl, h⟩⟩
        · exact ⟨_, _, rfl, rfl, .inr ⟨rfl, h⟩⟩
      refine ⟨rfl, yes_ ⟨.ref p, rfl, .int (n : Int), rfl, _, 3, rfl, rfl, nS g, rfl, .int (sd : Int), rfl, mulS _ (by omega) _ _ ?_⟩⟩
      refine ⟨nS g, rfl, .int (sd : Int), rfl, 1, _, rfl, rfl, mulS _ (by omega) _ _ ?_⟩
      rw [show (if ((sd : Nat) : Int) = 1 then g else []) = hdS sd g by unfold hdS; by_cases c : sd = 1 <;> simp [c]; omega, show (if (1 : Int) - ((sd : Nat) : Int) = 1 then g else []) = tlS sd g by unfold tlS; by_cases c : sd = 1 <;> simp [c]; omega]
      refine ⟨p, n + 3, hdS sd g, tlS sd g, by rw [show ((n + 3 : Nat) : Int) = (n : Int) + 3 by omega]; rfl, bx, by omega, ?_, ?_, ?_, fun Hy l f d bb ky by_ nl el hn => ?_⟩
      · unfold hdS; split; exact glo; exact fun c hc => by cases hc
      · unfold tlS; split; exact fun c hc => (by cases hc); exact glo
      · unfold hdS tlS; split <;> simp [gl]
      have nlSo : l ≠ So := fun z => by rw [z, eSo] at nl; cases nl
      have nlp := bx.ne nl
      refine ⟨_, ky _ _ nSop eSo, by rw [List.length_map]; exact small5000 (by omega), (kx.trans ky).set nSo, by_.at (upd_ne nSop.symm), as ++ [l], by rw [upd_same, List.map_append]; rfl, ?_⟩
      rw [List.take_add_one, eg]
      refine paired_snoc (paired_imp has fun a _ g ⟨h1, h2, f, d, bb, h3, h4⟩ => ⟨h1, h2, f, d, bb, by rw [upd_ne h2]; exact ky _ _ h1 h3, h4⟩) ⟨nlp, nlSo, f, d, bb, by rw [upd_ne nlSo]; exact el, hn⟩
    obtain ⟨k5, b5, as, eSo, has⟩ := pv
    rw [List.length_map, List.take_length] at has
    have k05 := k04.trans k5
    have eA05 := k5 _ _ nA0p eA0
    obtain ⟨g0, g1, g2, eg⟩ : ∃ g0 g1 g2, sgL kk = [g0, g1, g2] := by
      unfold sgL
      split <;> exact ⟨_, _, _, rfl⟩
    have hsg0 : (sgL kk).getD 0 [] = g0 := by rw [eg]; rfl
    have hsg1 : (sgL kk).getD 1 [] = g1 := by rw [eg]; rfl
    have hsg2 : (sgL kk).getD 2 [] = g2 := by rw [eg]; rfl
    rw [eg] at has
    cases has with
    | @cons a1 _ as _ q1 has =>
    cases has with
    | @cons a2 _ as _ q2 has =>
    cases has with
    | @cons a3 _ as _ q3 has =>
    cases has
    obtain ⟨na1p, na1S, f1, d1, b1', ea1, hn1⟩ := q1
    obtain ⟨na2p, na2S, f2, d2, b2', ea2, hn2⟩ := q2
    obtain ⟨na3p, na3S, f3, d3, b3', ea3, hn3⟩ := q3
    have hns : HNs kk sd f0 b0 f1 b1' f2 b2' f3 b3' := ⟨h0, by rw [hsg0]; exact hn1, by rw [hsg1]; exact hn2, by rw [hsg2]; exact hn3⟩
    clear h0 hn1 hn2 hn3 hsg0 hsg1 hsg2 eg sglen sgl
    have nmZ : ∀ (f : Nm) (d : Nat) (bb : Nm) (m k : Nat), k < m → ((hNms f d bb m).map nS)[k]? = some (nS (hNm f d bb k)) := fun f d bb m k h => by rw [List.getElem?_map, hNms_at h]; rfl
    have nmL : ∀ (f : Nm) (d : Nat) (bb : Nm) (m : Nat), ((hNms f d bb m).map nS).length = m := fun f d bb m => by rw [List.length_map, hNms_len]
    have nm_of : ∀ {f : Nm} {d : Nat} {bb : Nm} {m k : Nat} {v : V}, ((hNms f d bb m).map nS)[k]? = some v → k < m ∧ v = nS (hNm f d bb k) := fun {f d bb m k v} h => by
      have l := (List.getElem?_eq_some_iff.mp h).1
      rw [nmL] at l
      rw [nmZ _ _ _ _ _ l] at h
      exact ⟨l, (Option.some.inj h).symm⟩
    -- stations
    refine ⟨.ref So, rfl, So, _, (0 : Int), .ref a1, rfl, rfl, SqL.of eSo, rfl, .ref A0, rfl, a1, A0, _, _, rfl, SqL.of ea1, SqL.of eA05, fun D1 nD1 => ?_⟩
    refine lc_it (walk_zip (n := n) (xs := (hNms f1 d1 b1' (n + 3)).map nS) (ys := (hNms f0 d0 b0 n).map nS) (by rw [nmL, nmL]; omega)) (fun j Hx => Same H5 Hx ∧ ∃ sa : List Addr, Hx D1 = some (.lst (sa.map V.ref)) ∧ Paired (StAt Hx) sa ((List.range j).map fun k => (hNm f1 d1 b1' k, hNm f0 d0 b0 k))) ⟨same_upd nD1, [], upd_same, .nil⟩ (fun j Hx _ pv => ⟨SqL.of (pv.1 _ _ ea1), SqL.of (pv.1 _ _ eA05)⟩) (fun j v Hx Hx' hj pv yy => ?_) (fun H6 pv => ?_)
    · obtain ⟨U, xv, yv, rfl, nU, rfl, ex, ey⟩ := yy
      obtain ⟨sx, sa, eD, hsa⟩ := pv
      obtain ⟨_, rfl⟩ := nm_of (show ((hNms f1 d1 b1' (n + 3)).map nS)[j]? = some xv from ex)
      obtain ⟨_, rfl⟩ := nm_of (show ((hNms f0 d0 b0 n).map nS)[j]? = some yv from ey)
      have sU := same_upd (o := .tup [nS (hNm f1 d1 b1' j), nS (hNm f0 d0 b0 j)]) nU
      have sl := paired_len hsa
      rw [List.length_map, List.length_range] at sl
      refine ⟨U, _, rfl, SqT.of upd_same, rfl, _, _, rfl, _, [], rfl, rfl, rfl, yes_ ⟨_, rfl, _, rfl, two_sz, fun u nu => ?_⟩⟩
      have su := sU.trans (same_upd (o := .tup [nS (hNm f1 d1 b1' j), nS (hNm f0 d0 b0 j)]) nu)
      have eDu := su _ _ eD
      have tk := tk_updl (o := .lst (sa.map V.ref ++ [.ref u])) eDu
      refine ⟨_, eDu, by rw [List.length_map]; exact small5000 (by omega), same_set (sx.trans su) nD1, sa ++ [u], by rw [upd_same, List.map_append]; rfl, ?_⟩
      rw [List.range_succ, List.map_append]
      exact paired_snoc (paired_imp hsa fun a _ x h => tk.t _ _ (su _ _ h)) (tk.t _ _ upd_same)
    obtain ⟨s6, sa, eD1, hsa⟩ := pv
    have b6 := b5.keep s6
    have nD1p := b5.ne nD1
    have eSo6 := s6 _ _ eSo
    have ea26 := s6 _ _ ea2
    have eA06 := s6 _ _ eA05
    have sal := paired_len hsa
    rw [List.length_map, List.length_range] at sal
    -- the second ones
    refine ⟨.ref So, rfl, So, _, (1 : Int), .ref a2, rfl, rfl, SqL.of eSo6, rfl, .ref A0, rfl, a2, A0, _, _, rfl, SqL.of ea26, SqL.of eA06, fun D2 nD2 => ?_⟩
    refine lc_it (walk_zip (n := n) (xs := (hNms f2 d2 b2' (n + 3)).map nS) (ys := (hNms f0 d0 b0 n).map nS) (by rw [nmL, nmL]; omega)) (fun j Hx => Same H6 Hx ∧ ∃ sa : List Addr, Hx D2 = some (.lst (sa.map V.ref)) ∧ Paired (StAt Hx) sa ((List.range j).map fun k => (hNm f2 d2 b2' k, hNm f0 d0 b0 k))) ⟨same_upd nD2, [], upd_same, .nil⟩ (fun j Hx _ pv => ⟨SqL.of (pv.1 _ _ ea26), SqL.of (pv.1 _ _ eA06)⟩) (fun j v Hx Hx' hj pv yy => ?_) (fun H7 pv => ?_)
    · obtain ⟨U, xv, yv, rfl, nU, rfl, ex, ey⟩ := yy
      obtain ⟨sx, sa, eD, hsa⟩ := pv
      obtain ⟨_, rfl⟩ := nm_of (show ((hNms f2 d2 b2' (n + 3)).map nS)[j]? = some xv from ex)
      obtain ⟨_, rfl⟩ := nm_of (show ((hNms f0 d0 b0 n).map nS)[j]? = some yv from ey)
      have sU := same_upd (o := .tup [nS (hNm f2 d2 b2' j), nS (hNm f0 d0 b0 j)]) nU
      have sl := paired_len hsa
      rw [List.length_map, List.length_range] at sl
      refine ⟨U, _, rfl, SqT.of upd_same, rfl, _, _, rfl, _, [], rfl, rfl, rfl, yes_ ⟨_, rfl, _, rfl, two_sz, fun u nu => ?_⟩⟩
      have su := sU.trans (same_upd (o := .tup [nS (hNm f2 d2 b2' j), nS (hNm f0 d0 b0 j)]) nu)
      have eDu := su _ _ eD
      have tk := tk_updl (o := .lst (sa.map V.ref ++ [.ref u])) eDu
      refine ⟨_, eDu, by rw [List.length_map]; exact small5000 (by omega), same_set (sx.trans su) nD2, sa ++ [u], by rw [upd_same, List.map_append]; rfl, ?_⟩
      rw [List.range_succ, List.map_append]
      exact paired_snoc (paired_imp hsa fun a _ x h => tk.t _ _ (su _ _ h)) (tk.t _ _ upd_same)
    obtain ⟨s7, sb, eD2, hsb⟩ := pv
    have b7 := b6.keep s7
    have nD2p := b6.ne nD2
    have sbl := paired_len hsb
    rw [List.length_map, List.length_range] at sbl
    refine ⟨.ref p, rfl, .int (n : Int), rfl, p, n, rfl, b7, by omega, by omega, fun H8 c k8 b8 c0 c1 => ?_⟩
    obtain ⟨c, rfl⟩ : ∃ xn : Nat, c = (xn : Int) := ⟨c.toNat, by omega⟩
    refine ⟨1, (c : Int), rfl, rfl, _, rfl, D2, _, rfl, SqL.of (k8 _ _ nD2p eD2), fun D3 nD3 => ?_⟩
    rw [show (1 : Int) + (c : Int) = ((1 + c : Nat) : Int) by omega, cut_takeH, ← List.map_take]
    obtain ⟨m2, hm2⟩ : ∃ m2, m2 = 1 + c := ⟨_, rfl⟩
    rw [← hm2]
    have m21 : 1 ≤ m2 := by omega
    have m2n : m2 ≤ n := by omega
    clear hm2 c0 c1
    have sD3 := same_upd (o := .lst ((sb.take m2).map V.ref)) nD3
    have nD3p := b8.ne nD3
    have k58 : Keep p H5 (upd H8 D3 (.lst ((sb.take m2).map V.ref))) := (Keep.of (s6.trans s7)).trans (k8.trans (.of sD3))
    have b9 := b8.keep sD3
    have eD39 : (upd H8 D3 (.lst ((sb.take m2).map V.ref))) D3 = _ := upd_same
    have kk7 : Keep p H7 (upd H8 D3 (.lst ((sb.take m2).map V.ref))) := k8.trans (.of sD3)
    have hsb9 : Paired (StAt (upd H8 D3 (.lst ((sb.take m2).map V.ref)))) (sb.take m2) ((List.range m2).map fun k => (hNm f2 d2 b2' k, hNm f0 d0 b0 k)) := by
      have := paired_take m2 (paired_imp hsb fun a _ x h => h.kp kk7 b7)
      rw [← List.map_take, List.take_range, Nat.min_eq_left m2n] at this
      exact this
    have hsa9 : Paired (StAt (upd H8 D3 (.lst ((sb.take m2).map V.ref)))) sa _ := paired_imp hsa fun a _ x h => (show StAt H7 a x from s7 _ _ h).kp kk7 b7
    have eD19 := kk7 _ _ nD1p (s7 _ _ eD1)
    have eA09 := k58 _ _ nA0p eA05
    have ea39 := k58 _ _ na3p ea3
    have eSo9 := k58 _ _ nSop eSo
    have k09 := k05.trans k58
    clear hsa hsb eD2 eD1 ea26 eA06 eSo6
    have sb2 : (sb.take m2).length = m2 := by rw [List.length_take]; omega
    generalize sb.take m2 = sc at hsb9 eD39 sb2 k58 b9 kk7 hsa9 eD19 eA09 ea39 eSo9 k09 ⊢
    generalize upd H8 D3 (.lst (sc.map V.ref)) = H9 at hsb9 eD39 k58 b9 kk7 hsa9 eD19 eA09 ea39 eSo9 k09 ⊢
    clear kk7 k8 b8 sD3 nD3 s6 s7
    -- junctions
    refine ⟨.ref So, rfl, So, _, (2 : Int), .ref a3, rfl, rfl, SqL.of eSo9, rfl, ?_⟩
    refine ⟨.int (n : Int), rfl, _, 1, rfl, rfl, _, rfl, by omega, by omega, fun D4 nD4 => ?_⟩
    rw [show ((n : Int) - 1).toNat = n - 1 by omega]
    have nD4p := b9.ne nD4
    refine lc_it (walk_range (lo := 0) (n := n - 1)) (fun j Hx => Same H9 Hx ∧ ∃ ja : List Addr, Hx D4 = some (.lst (ja.map V.ref)) ∧ Paired (JnAt Hx) ja ((List.range j).map fun k => (hNm f3 d3 b3' k, [hNm f0 d0 b0 k, hNm f0 d0 b0 (k + 1)]))) ⟨same_upd nD4, [], upd_same, .nil⟩ (fun _ _ _ _ => trivial) (fun j x Hx Hx' hj pv y => ?_) (fun H10 pv => ?_)
    · have ex : x = V.int (j : Int) := by first | exact (y.1).trans (congrArg V.int (Int.zero_add _)) | exact (y.2).trans (congrArg V.int (Int.zero_add _))
      have eh : Hx' = Hx := by first | exact y.1 | exact y.2
      subst ex
      subst eh
      obtain ⟨sx, ja, eD, hja⟩ := pv
      have jl := paired_len hja
      rw [List.length_map, List.length_range] at jl
      refine ⟨rfl, yes_ ⟨.ref a3, rfl, .int (j : Int), rfl, a3, _, _, _, rfl, rfl, SqL.of (sx _ _ ea39), atI_nat (nmZ _ _ _ _ _ (by omega)), .ref A0, rfl, .int (j : Int), rfl, A0, _, _, _, rfl, rfl, SqL.of (sx _ _ eA09), atI_nat (nmZ _ _ _ _ _ (by omega)), .ref A0, rfl, .int (j : Int), rfl, _, 1, rfl, rfl, A0, _, _, nS (hNm f0 d0 b0 (j + 1)), rfl, rfl, SqL.of (sx _ _ eA09), ?_, two_sz, fun u nu => ?_⟩⟩
      · rw [show (j : Int) + 1 = ((j + 1 : Nat) : Int) by omega]
        exact atI_nat (nmZ _ _ _ _ _ (by omega))
      have su := same_upd (o := .tup [nS (hNm f0 d0 b0 j), nS (hNm f0 d0 b0 (j + 1))]) nu
      refine ⟨two_sz, fun v nv => ?_⟩
      have suv := su.trans (same_upd (o := .tup [nS (hNm f3 d3 b3' j), .ref u]) nv)
      have eDu := suv _ _ eD
      have tk := tk_updl (o := .lst (ja.map V.ref ++ [.ref v])) eDu
      refine ⟨_, eDu, by rw [List.length_map]; exact small5000 (by omega), same_set (sx.trans suv) nD4, ja ++ [v], by rw [upd_same, List.map_append]; rfl, ?_⟩
      rw [List.range_succ, List.map_append]
      exact paired_snoc (paired_imp hja fun a _ x ⟨c, h1, h2⟩ => ⟨c, tk.t _ _ (suv _ _ h1), tk.t _ _ (suv _ _ h2)⟩) ⟨u, tk.t _ _ upd_same, tk.t _ _ (same_upd nv _ _ upd_same)⟩
    obtain ⟨s10, ja, eD4, hja⟩ := pv
    have jal := paired_len hja
    rw [List.length_map, List.length_range] at jal
    -- ties
    refine ⟨Nat.zero_le _, fun Ta nTa => ?_⟩
    have s11 := s10.trans (same_upd (o := .lst []) nTa)
    have nTap : Ta ≠ p := (b9.keep s10).ne nTa
    have nTaD4 : Ta ≠ D4 := (ne_of_none eD4 nTa).symm
    have n9Ta : H9 Ta = none := up0 s10 nTa
    have b11 := b9.keep s11
    have eTa : (upd H10 Ta (.lst [])) Ta = some (.lst (([] : List Addr).map V.ref)) := upd_same
    have eD411 := same_upd (o := .lst []) nTa _ _ eD4
    have hja11 : Paired (JnAt (upd H10 Ta (.lst []))) ja _ := paired_imp hja fun a _ x ⟨c, h1, h2⟩ => ⟨c, same_upd nTa _ _ h1, same_upd nTa _ _ h2⟩
    have hn9 : ∀ {a : Addr} {xs : List V}, H9 a = some (.lst xs) → a ≠ Ta := fun h z => by rw [z, n9Ta] at h; cases h
    generalize upd H10 Ta (.lst []) = H11 at s11 b11 eTa eD411 hja11 ⊢
    clear hja eD4 s10 nTa
    have n9D4 : H9 D4 = none := nD4
    have h11 : TsS H9 (H11) p Ta D4 [] [] ja ((List.range (n - 1)).map fun k => (hNm f3 d3 b3' k, [hNm f0 d0 b0 k, hNm f0 d0 b0 (k + 1)])) := ⟨.of s11, b11, eTa, .nil, eD411, hja11⟩
    clear s11 b11 eTa eD411 hja11
    have chOk : ∀ (m : Int) (c : Int), m ≤ 9999 → 0 ≤ c → c < m → ∃ m : Nat, 1 + c = (m : Int) ∧ 1 ≤ m ∧ m ≤ 9999 := fun m c hm h0 h1 => ⟨(1 + c).toNat, by omega, by omega, by omega⟩
    have stat : ∀ {Hx : Hp}, Keep p H9 Hx → ∀ k, k < n → ∃ t, (sa.map V.ref)[k]? = some (.ref t) ∧ Hx t = some (.tup [nS (hNm f1 d1 b1' k), nS (hNm f0 d0 b0 k)]) := fun {Hx} kx k hk => by
      have e : sa[k]? = some sa[k] := List.getElem?_eq_getElem (by omega)
      obtain ⟨x, ex, hx⟩ := paired_get hsa9 e
      rw [List.getElem?_map, List.getElem?_range hk] at ex
      have ex := (Option.some.inj ex).symm
      subst ex
      exact ⟨sa[k], by rw [List.getElem?_map, e]; rfl, hx.kp kx b9⟩
    have secd : ∀ {Hx : Hp}, Keep p H9 Hx → ∀ k, k < m2 → ∃ t, (sc.map V.ref)[k]? = some (.ref t) ∧ Hx t = some (.tup [nS (hNm f2 d2 b2' k), nS (hNm f0 d0 b0 k)]) := fun {Hx} kx k hk => by
      have e : sc[k]? = some sc[k] := List.getElem?_eq_getElem (by omega)
      obtain ⟨x, ex, hx⟩ := paired_get hsb9 e
      rw [List.getElem?_map, List.getElem?_range hk] at ex
      have ex := (Option.some.inj ex).symm
      subst ex
      exact ⟨sc[k], by rw [List.getElem?_map, e]; rfl, hx.kp kx b9⟩
    refine ⟨.int (n : Int), rfl, _, 1, rfl, rfl, _, rfl, by omega, by omega, ?_⟩
    rw [show ((n : Int) - 1).toNat = n - 1 by omega]
    refine for_range (lo := 0) (n := n - 1) (fun i σ Hx => ∃ (y11 : Option V) (ta : List Addr) (tis : List Ti), σ = [some (.ref p), some (.int (n : Int)), some (.ref G), some (.int (sd : Int)), some (.ref A0), some (.ref So), some (.ref D1), some (.ref D3), some (.ref a3), some (.ref D4), some (.ref Ta), y11, none, none, none, none] ∧ TsS H9 Hx p Ta D4 ta tis ja ((List.range (n - 1)).map fun k => (hNm f3 d3 b3' k, [hNm f0 d0 b0 k, hNm f0 d0 b0 (k + 1)])) ∧ tis.map tiK = hT1 i (hNm f0 d0 b0) (hNm f1 d1 b1') (hNm f3 d3 b3') ∧ (∀ t ∈ tis, 1 ≤ t.ch ∧ t.ch ≤ 9999) ∧ tis.length = 2 * i)
      ⟨_, [], [], rfl, h11, rfl, fun t h => (by cases h), rfl⟩ (fun i σ Hx hi hp => ?_) (fun σ H12 hp => ?_)
    · obtain ⟨y11, ta, tis, rfl, hx, htk, htc, htl⟩ := hp
      have tal := paired_len hx.hT
      obtain ⟨st1, es1, ht1⟩ := stat hx.k i (by omega)
      have zi : V.int (0 + (i : Int)) = .int (i : Int) := by rw [Int.zero_add]
      refine ⟨.ref Ta, rfl, .inl ⟨rfl, _, SqL.of hx.eT⟩, .ref D1, rfl, .int (0 + (i : Int)), rfl, D1, _, _, .ref st1, rfl, rfl, SqL.of (hx.k _ _ nD1p eD19), by rw [Int.zero_add]; exact atI_nat es1, st1, _, (0 : Int), _, rfl, rfl, SqT.of ht1, rfl, .ref a3, rfl, .int (0 + (i : Int)), rfl, a3, _, _, _, rfl, rfl, SqL.of (hx.k _ _ na3p ea39), by rw [Int.zero_add]; exact atI_nat (nmZ _ _ _ _ _ (by omega)), .ref A0, rfl, .int (0 + (i : Int)), rfl, A0, _, _, _, rfl, rfl, SqL.of (hx.k _ _ nA0p eA09), by rw [Int.zero_add]; exact atI_nat (nmZ _ _ _ _ _ (by omega)), .ref p, rfl, p, 9999, rfl, hx.b, by decide, by decide, fun Hy c ky by_ c0 c1 => ?_⟩
      have hy := hx.keep nTap nD4p ky by_
      obtain ⟨ch, ech, ch1, ch2⟩ := chOk 9999 c (by omega) c0 c1
      refine ⟨1, c, rfl, rfl, four_sz, fun u nu => ?_⟩
      rw [show (fun i j : Int => V.int (i + j)) 1 c = V.int (ch : Int) from congrArg V.int ech]
      have su := same_upd (o := .tup [nS (hNm f1 d1 b1' i), nS (hNm f3 d3 b3' i), nS (hNm f0 d0 b0 i), .int (ch : Int)]) nu
      have hz := hy.keep nTap nD4p (.of su) (hy.b.keep su)
      have hu : TiAt (upd Hy u (.tup [nS (hNm f1 d1 b1' i), nS (hNm f3 d3 b3' i), nS (hNm f0 d0 b0 i), .int (ch : Int)])) u ⟨hNm f1 d1 b1' i, hNm f3 d3 b3' i, hNm f0 d0 b0 i, ch⟩ := upd_same
      refine ⟨Ta, _, _, rfl, rfl, hz.eT, by rw [List.length_map]; exact small5000 (by omega), ?_⟩
      have hw := hz.addT nTap n9Ta nTaD4 hu
      generalize upd (upd Hy u (.tup [nS (hNm f1 d1 b1' i), nS (hNm f3 d3 b3' i), nS (hNm f0 d0 b0 i), .int (ch : Int)])) Ta (.lst (ta.map V.ref ++ [.ref u])) = Hw at hw ⊢
      clear hx hy hz hu su
      obtain ⟨st2, es2, ht2⟩ := stat hw.k (i + 1) (by omega)
      have i1 : (0 : Int) + (i : Int) + 1 = ((i + 1 : Nat) : Int) := by omega
      refine ⟨.ref Ta, rfl, .inl ⟨rfl, _, SqL.of hw.eT⟩, .ref a3, rfl, .int (0 + (i : Int)), rfl, a3, _, _, _, rfl, rfl, SqL.of (hw.k _ _ na3p ea39), by rw [Int.zero_add]; exact atI_nat (nmZ _ _ _ _ _ (by omega)), .ref D1, rfl, .int (0 + (i : Int)), rfl, _, 1, rfl, rfl, D1, _, _, .ref st2, rfl, rfl, SqL.of (hw.k _ _ nD1p eD19), by rw [i1]; exact atI_nat es2, st2, _, (0 : Int), _, rfl, rfl, SqT.of ht2, rfl, .ref A0, rfl, .int (0 + (i : Int)), rfl, _, 1, rfl, rfl, A0, _, _, nS (hNm f0 d0 b0 (i + 1)), rfl, rfl, SqL.of (hw.k _ _ nA0p eA09), by rw [i1]; exact atI_nat (nmZ _ _ _ _ _ (by omega)), .ref p, rfl, p, 60, rfl, hw.b, by decide, by decide, fun Hy c ky by_ c0 c1 => ?_⟩
      have hy := hw.keep nTap nD4p ky by_
      obtain ⟨ch', ech', ch1', ch2'⟩ := chOk 60 c (by omega) c0 c1
      refine ⟨1, c, rfl, rfl, four_sz, fun u' nu' => ?_⟩
      rw [show (fun i j : Int => V.int (i + j)) 1 c = V.int (ch' : Int) from congrArg V.int ech']
      have su := same_upd (o := .tup [nS (hNm f3 d3 b3' i), nS (hNm f1 d1 b1' (i + 1)), nS (hNm f0 d0 b0 (i + 1)), .int (ch' : Int)]) nu'
      have hz := hy.keep nTap nD4p (.of su) (hy.b.keep su)
      have hu : TiAt (upd Hy u' (.tup [nS (hNm f3 d3 b3' i), nS (hNm f1 d1 b1' (i + 1)), nS (hNm f0 d0 b0 (i + 1)), .int (ch' : Int)])) u' ⟨hNm f3 d3 b3' i, hNm f1 d1 b1' (i + 1), hNm f0 d0 b0 (i + 1), ch'⟩ := upd_same
      refine ⟨Ta, _, _, rfl, rfl, hz.eT, by rw [List.length_map, List.length_append]; exact small5000 (by show _ + 1 ≤ 5000; omega), ?_⟩
      have hv := hz.addT nTap n9Ta nTaD4 hu
      refine ⟨_, _, _, rfl, hv, ?_, fun t ht => ?_, by rw [List.length_append, List.length_append, htl]; show 2 * i + 1 + 1 = _; omega⟩
      · rw [List.map_append, List.map_append, htk]
        unfold hT1
        rw [List.range_succ, List.map_append, List.flatten_append, List.append_assoc]
        rfl
      · rcases List.mem_append.mp ht with z | z
        · rcases List.mem_append.mp z with z | z
          · exact htc t z
          · rw [List.mem_singleton.mp z]; exact ⟨ch1, ch2⟩
        · rw [List.mem_singleton.mp z]; exact ⟨ch1', ch2'⟩
    obtain ⟨y11, ta, tis, rfl, h12, htk, htc, htl⟩ := hp
    refine ⟨.int (n : Int), rfl, _, 2, rfl, rfl, _, rfl, by omega, by omega, ?_⟩
    rw [show ((n : Int) - 2).toNat = n - 2 by omega]
    refine for_range (lo := 0) (n := n - 2) (fun i σ Hx => ∃ (y11 : Option V) (ta : List Addr) (tis : List Ti), σ = [some (.ref p), some (.int (n : Int)), some (.ref G), some (.int (sd : Int)), some (.ref A0), some (.ref So), some (.ref D1), some (.ref D3), some (.ref a3), some (.ref D4), some (.ref Ta), y11, none, none, none, none] ∧ TsS H9 Hx p Ta D4 ta tis ja ((List.range (n - 1)).map fun k => (hNm f3 d3 b3' k, [hNm f0 d0 b0 k, hNm f0 d0 b0 (k + 1)])) ∧ tis.map tiK = hT1 (n - 1) (hNm f0 d0 b0) (hNm f1 d1 b1') (hNm f3 d3 b3') ++ hT2 i (hNm f0 d0 b0) (hNm f3 d3 b3') ∧ (∀ t ∈ tis, 1 ≤ t.ch ∧ t.ch ≤ 9999) ∧ tis.length ≤ 14 + i)
      ⟨_, ta, tis, rfl, h12, by rw [htk]; exact (List.append_nil _).symm, htc, by omega⟩ (fun i σ Hx hi hp => ?_) (fun σ H13 hp => ?_)
    · obtain ⟨y11, ta, tis, rfl, hx, htk, htc, htl⟩ := hp
      have tal := paired_len hx.hT
      have i1 : (0 : Int) + (i : Int) + 1 = ((i + 1 : Nat) : Int) := by omega
      refine ⟨.ref Ta, rfl, .inl ⟨rfl, _, SqL.of hx.eT⟩, .ref a3, rfl, .int (0 + (i : Int)), rfl, a3, _, _, _, rfl, rfl, SqL.of (hx.k _ _ na3p ea39), by rw [Int.zero_add]; exact atI_nat (nmZ _ _ _ _ _ (by omega)), .ref a3, rfl, .int (0 + (i : Int)), rfl, _, 1, rfl, rfl, a3, _, _, nS (hNm f3 d3 b3' (i + 1)), rfl, rfl, SqL.of (hx.k _ _ na3p ea39), by rw [i1]; exact atI_nat (nmZ _ _ _ _ _ (by omega)), .ref A0, rfl, .int (0 + (i : Int)), rfl, _, 1, rfl, rfl, A0, _, _, nS (hNm f0 d0 b0 (i + 1)), rfl, rfl, SqL.of (hx.k _ _ nA0p eA09), by rw [i1]; exact atI_nat (nmZ _ _ _ _ _ (by omega)), .ref p, rfl, p, 60, rfl, hx.b, by decide, by decide, fun Hy c ky by_ c0 c1 => ?_⟩
      have hy := hx.keep nTap nD4p ky by_
      obtain ⟨ch', ech', ch1', ch2'⟩ := chOk 60 c (by omega) c0 c1
      refine ⟨1, c, rfl, rfl, four_sz, fun u' nu' => ?_⟩
      rw [show (fun i j : Int => V.int (i + j)) 1 c = V.int (ch' : Int) from congrArg V.int ech']
      have su := same_upd (o := .tup [nS (hNm f3 d3 b3' i), nS (hNm f3 d3 b3' (i + 1)), nS (hNm f0 d0 b0 (i + 1)), .int (ch' : Int)]) nu'
      have hz := hy.keep nTap nD4p (.of su) (hy.b.keep su)
      have hu : TiAt (upd Hy u' (.tup [nS (hNm f3 d3 b3' i), nS (hNm f3 d3 b3' (i + 1)), nS (hNm f0 d0 b0 (i + 1)), .int (ch' : Int)])) u' ⟨hNm f3 d3 b3' i, hNm f3 d3 b3' (i + 1), hNm f0 d0 b0 (i + 1), ch'⟩ := upd_same
      refine ⟨Ta, _, _, rfl, rfl, hz.eT, by rw [List.length_map]; exact small5000 (by omega), ?_⟩
      refine ⟨_, _, _, rfl, hz.addT nTap n9Ta nTaD4 hu, ?_, fun t ht => ?_, by rw [List.length_append]; show tis.length + 1 ≤ _; omega⟩
      · rw [List.map_append, htk]
        unfold hT2
        rw [List.range_succ, List.map_append, List.append_assoc]
        rfl
      · rcases List.mem_append.mp ht with z | z
        · exact htc t z
        · rw [List.mem_singleton.mp z]; exact ⟨ch1', ch2'⟩
    obtain ⟨y11, ta, tis, rfl, h13, htk, htc, htl⟩ := hp
    refine ⟨.ref D3, rfl, D3, _, rfl, .inl (SqL.of (h13.k _ _ nD3p eD39)), _, rfl, by rw [List.length_map]; omega, by rw [List.length_map]; omega, ?_⟩
    rw [List.length_map, sb2, Int.toNat_natCast]
    refine for_range (lo := 0) (n := m2) (fun i σ Hx => ∃ (y11 : Option V) (ta : List Addr) (tis : List Ti), σ = [some (.ref p), some (.int (n : Int)), some (.ref G), some (.int (sd : Int)), some (.ref A0), some (.ref So), some (.ref D1), some (.ref D3), some (.ref a3), some (.ref D4), some (.ref Ta), y11, none, none, none, none] ∧ TsS H9 Hx p Ta D4 ta tis ja ((List.range (n - 1)).map fun k => (hNm f3 d3 b3' k, [hNm f0 d0 b0 k, hNm f0 d0 b0 (k + 1)])) ∧ tis.map tiK = hT1 (n - 1) (hNm f0 d0 b0) (hNm f1 d1 b1') (hNm f3 d3 b3') ++ hT2 (n - 2) (hNm f0 d0 b0) (hNm f3 d3 b3') ++ hT3 i (hNm f0 d0 b0) (hNm f1 d1 b1') (hNm f2 d2 b2') ∧ (∀ t ∈ tis, 1 ≤ t.ch ∧ t.ch ≤ 9999) ∧ tis.length ≤ 20 + i)
      ⟨_, ta, tis, rfl, h13, by rw [htk]; exact (List.append_nil _).symm, htc, by omega⟩ (fun i σ Hx hi hp => ?_) (fun σ H14 hp => ?_)
    · obtain ⟨y11, ta, tis, rfl, hx, htk, htc, htl⟩ := hp
      have tal := paired_len hx.hT
      obtain ⟨st1, es1, ht1⟩ := stat hx.k i (by omega)
      obtain ⟨sc1, ec1, hc1⟩ := secd hx.k i hi
      refine ⟨.ref Ta, rfl, .inl ⟨rfl, _, SqL.of hx.eT⟩, .ref D3, rfl, .int (0 + (i : Int)), rfl, D3, _, _, .ref sc1, rfl, rfl, SqL.of (hx.k _ _ nD3p eD39), by rw [Int.zero_add]; exact atI_nat ec1, sc1, _, (0 : Int), _, rfl, rfl, SqT.of hc1, rfl, .ref D1, rfl, .int (0 + (i : Int)), rfl, D1, _, _, .ref st1, rfl, rfl, SqL.of (hx.k _ _ nD1p eD19), by rw [Int.zero_add]; exact atI_nat es1, st1, _, (0 : Int), _, rfl, rfl, SqT.of ht1, rfl, .ref A0, rfl, .int (0 + (i : Int)), rfl, A0, _, _, _, rfl, rfl, SqL.of (hx.k _ _ nA0p eA09), by rw [Int.zero_add]; exact atI_nat (nmZ _ _ _ _ _ (by omega)), .ref p, rfl, p, 60, rfl, hx.b, by decide, by decide, fun Hy c ky by_ c0 c1 => ?_⟩
      have hy := hx.keep nTap nD4p ky by_
      obtain ⟨ch', ech', ch1', ch2'⟩ := chOk 60 c (by omega) c0 c1
      refine ⟨1, c, rfl, rfl, four_sz, fun u' nu' => ?_⟩
      rw [show (fun i j : Int => V.int (i + j)) 1 c = V.int (ch' : Int) from congrArg V.int ech']
      have su := same_upd (o := .tup [nS (hNm f2 d2 b2' i), nS (hNm f1 d1 b1' i), nS (hNm f0 d0 b0 i), .int (ch' : Int)]) nu'
      have hz := hy.keep nTap nD4p (.of su) (hy.b.keep su)
      have hu : TiAt (upd Hy u' (.tup [nS (hNm f2 d2 b2' i), nS (hNm f1 d1 b1' i), nS (hNm f0 d0 b0 i), .int (ch' : Int)])) u' ⟨hNm f2 d2 b2' i, hNm f1 d1 b1' i, hNm f0 d0 b0 i, ch'⟩ := upd_same
      refine ⟨Ta, _, _, rfl, rfl, hz.eT, by rw [List.length_map]; exact small5000 (by omega), ?_⟩
      refine ⟨_, _, _, rfl, hz.addT nTap n9Ta nTaD4 hu, ?_, fun t ht => ?_, by rw [List.length_append]; show tis.length + 1 ≤ _; omega⟩
      · rw [List.map_append, htk]
        unfold hT3
        rw [List.range_succ, List.map_append, List.append_assoc]
        rfl
      · rcases List.mem_append.mp ht with z | z
        · exact htc t z
        · rw [List.mem_singleton.mp z]; exact ⟨ch1', ch2'⟩
    obtain ⟨y11, ta, tis, rfl, h14, htk, htc, htl⟩ := hp
    -- further junctions
    refine ⟨.ref p, rfl, p, 4, rfl, h14.b, by decide, by decide, fun H15 c k15 b15 c0 c1 => ?_⟩
    have h15 := h14.keep nTap nD4p k15 b15
    refine ⟨.int (n : Int), rfl, _, 2, rfl, rfl, .inr ⟨_, rfl, c, _, rfl, rfl, .inl ⟨by omega, by omega⟩, ?_⟩⟩
    obtain ⟨m, em, m3, mn⟩ : ∃ m : Nat, (c * if decide ((n : Int) > 2) = true then (1 : Int) else 0) = (m : Int) ∧ m ≤ 3 ∧ (0 < m → 2 < n) := by
      by_cases z : (n : Int) > 2
      · rw [if_pos (decide_eq_true z), Int.mul_one]
        exact ⟨c.toNat, by omega, by omega, fun _ => by omega⟩
      · rw [if_neg (fun w => z (of_decide_eq_true w)), Int.mul_zero]
        exact ⟨0, rfl, by decide, fun z => absurd z (by decide)⟩
    refine ⟨_, rfl, ?_, ?_, ?_⟩
    · show -(2 ^ 62) ≤ (c * if decide ((n : Int) > 2) = true then (1 : Int) else 0)
      rw [em]; omega
    · show (c * if decide ((n : Int) > 2) = true then (1 : Int) else 0) < 2 ^ 62
      rw [em]; omega
    rw [show (c * if decide ((n : Int) > 2) = true then (1 : Int) else 0).toNat = m by rw [em]; exact Int.toNat_natCast _]
    refine for_range (lo := 0) (n := m) (fun i σ Hx => ∃ (y5 y11 : Option V) (jxa : List Addr) (jx : List (Nm × List Nm)), σ = [some (.ref p), some (.int (n : Int)), some (.ref G), some (.int (sd : Int)), some (.ref A0), y5, some (.ref D1), some (.ref D3), some (.ref a3), some (.ref D4), some (.ref Ta), y11, none, none, none, none] ∧ TsS H9 Hx p Ta D4 ta tis (ja ++ jxa) (hJns n (hNm f0 d0 b0) (hNm f3 d3 b3') ++ jx) ∧ jx.length ≤ i ∧ (jx.map (·.1)).Nodup ∧ ∀ x ∈ jx, JxOk n (hNm f0 d0 b0) (hNm f3 d3 b3') i x)
      ⟨_, _, [], [], rfl, by rw [List.append_nil, List.append_nil]; exact h15, Nat.le_refl _, List.nodup_nil, fun x h => by cases h⟩ (fun i σ Hx hi hp => ?_) (fun σ H16 hp => ?_)
    · obtain ⟨y5, y11, jxa, jx, rfl, hx, jxl, jxn, jxo⟩ := hp
      have n2 : 2 < n := mn (by omega)
      refine ⟨.ref p, rfl, .int (n : Int), rfl, p, n, rfl, hx.b, by omega, by omega, fun Ha x1 ka ba x10 x11 => ?_⟩
      refine ⟨.ref p, rfl, .int (n : Int), rfl, p, n, rfl, ba, by omega, by omega, fun Hb x2 kb bb x20 x21 => ?_⟩
      refine ⟨.ref p, rfl, .int (n : Int), rfl, p, n, rfl, bb, by omega, by omega, fun Hc x3 kc bc x30 x31 => ?_⟩
      have hc := hx.keep nTap nD4p ((ka.trans kb).trans kc) bc
      refine ⟨by show 3 ≤ sizeLine; decide, fun S nS' => ?_⟩
      have sS := same_upd (o := .lst [.int x1, .int x2, .int x3]) nS'
      have hd := hc.keep nTap nD4p (.of sS) (hc.b.keep sS)
      have eS : (upd Hc S (.lst [.int x1, .int x2, .int x3])) S = some (.lst (([x1, x2, x3] : List Int).map V.int)) := upd_same
      generalize upd Hc S (.lst [.int x1, .int x2, .int x3]) = Hd at hd eS ⊢
      refine ⟨S, [x1, x2, x3], rfl, SqL.of eS, by show 3 ≤ 1000; decide, fun se c nse hc => ?_⟩
      have s1 := same_upd (o := SetO (cxOf CX0 P w K mg base N_l_net (Str.ofString "_law_net") (defScope s_l_net) T.a_l_net cdv A outer s H E).nox.w se (fun j => decide (j ∈ [x1, x2, x3])) c) nse
      have he := hd.keep nTap nD4p (.of s1) (hd.b.keep s1)
      refine ⟨se, _, c, rfl, upd_same, by have : [x1, x2, x3].length = 3 := rfl; omega, fun ns so pw mem len nso => ?_⟩
      have s2 := same_upd (o := .lst (ns.map V.int)) nso
      have hf := he.keep nTap nD4p (.of s2) (he.b.keep s2)
      have memx : ∀ x, x ∈ ns ↔ x ∈ [x1, x2, x3] := fun x => (mem x).trans decide_eq_true_iff
      have hns : ∀ x ∈ ns, 0 ≤ x ∧ x < n := fun x h => by
        have := (memx x).mp h
        simp only [List.mem_cons, List.not_mem_nil, or_false] at this
        omega
      have eso : (upd (upd Hd se (SetO (cxOf CX0 P w K mg base N_l_net (Str.ofString "_law_net") (defScope s_l_net) T.a_l_net cdv A outer s H E).nox.w se (fun j => decide (j ∈ [x1, x2, x3])) c)) so (.lst (ns.map V.int))) so = some (.lst (jV (ns.map Int.toNat))) := by
        rw [upd_same, ints_natsH fun x h => (hns x h).1]
      have nsD4 : so ≠ D4 := (ne_of_none he.eD nso).symm
      generalize upd (upd Hd se (SetO (cxOf CX0 P w K mg base N_l_net (Str.ofString "_law_net") (defScope s_l_net) T.a_l_net cdv A outer s H E).nox.w se (fun j => decide (j ∈ [x1, x2, x3])) c)) so (.lst (ns.map V.int)) = Hf at hf eso ⊢
      have hjs : ∀ j ∈ ns.map Int.toNat, j < n := fun j hj => by
        obtain ⟨x, hx, rfl⟩ := List.mem_map.mp hj
        have := hns x hx
        omega
      have hpw : (ns.map Int.toNat).Pairwise (· < ·) := by
        rw [List.pairwise_map]
        refine pw.imp_of_mem fun {a b} ha hb h => ?_
        have := hns a ha
        have := hns b hb
        omega
      have l3 : [x1, x2, x3].length = 3 := rfl
      have nl : (ns.map Int.toNat).length ≤ 3 := by rw [List.length_map]; omega
      generalize ns.map Int.toNat = js at eso hjs hpw nl
      have jlV : (jV js).length = js.length := List.length_map _
      refine ⟨.ref so, rfl, so, _, rfl, .inl (SqL.of eso), _, 1, rfl, rfl, _, rfl, ite2 (fun c2 => ?_) (fun c2 => ?_)⟩
      · have c2 := of_decide_eq_true c2
        rw [jlV] at c2
        refine ⟨.ref D4, rfl, .inl ⟨rfl, _, SqL.of hf.eD⟩, .ref a3, rfl, .int (n : Int), rfl, _, 1, rfl, rfl, .int (0 + (i : Int)), rfl, _, _, rfl, rfl, a3, _, _, nS (hNm f3 d3 b3' (n - 1 + i)), rfl, rfl, SqL.of (hf.k _ _ na3p ea39), ?_, .ref so, rfl, so, rfl, ⟨_, SqL.of eso⟩, fun M nM => ?_⟩
        · rw [show (n : Int) - 1 + (0 + (i : Int)) = ((n - 1 + i : Nat) : Int) by omega]
          exact atI_nat (nmZ _ _ _ _ _ (by omega))
        refine lc_it (walk_list (xs := jV js)) (fun j Hy => Same Hf Hy ∧ Hy M = some (.lst (((js.take j).map (hNm f0 d0 b0)).map nS))) ⟨same_upd nM, upd_same⟩ (fun j Hy _ pv => SqL.of (pv.1 _ _ eso)) (fun j v Hy₀ Hy hj pv yy => ?_) (fun Hg pv => ?_)
        · obtain ⟨rfl, ey⟩ := yy
          obtain ⟨sy, eM⟩ := pv
          rw [jlV] at hj
          have ev : v = .int ((js[j] : Nat) : Int) := by
            rw [List.getElem?_map, List.getElem?_eq_getElem hj] at ey
            exact (Option.some.inj ey).symm
          subst ev
          have hlt := hjs _ (List.getElem_mem hj)
          refine ⟨rfl, yes_ ⟨.ref A0, rfl, .int ((js[j] : Nat) : Int), rfl, A0, _, _, _, rfl, rfl, SqL.of (sy _ _ (hf.k _ _ nA0p eA09)), atI_nat (nmZ _ _ _ _ _ hlt), _, eM, by rw [List.length_map, List.length_map, List.length_take]; exact small5000 (by omega), same_set sy nM, ?_⟩⟩
          rw [upd_same, List.take_add_one, List.getElem?_eq_getElem hj, List.map_append, List.map_append]
          rfl
        obtain ⟨sg, eM⟩ := pv
        rw [jlV, List.take_length] at eM
        have hg := hf.keep nTap nD4p (.of sg) (hf.b.keep sg)
        refine ⟨M, _, rfl, .inl ⟨SqL.of eM, fun u nu => ⟨two_sz, fun v nv => ?_⟩⟩⟩
        have su := same_upd (o := .tup ((js.map (hNm f0 d0 b0)).map nS)) nu
        have sv := same_upd (o := .tup [nS (hNm f3 d3 b3' (n - 1 + i)), .ref u]) nv
        have suv := su.trans sv
        have hh := hg.keep nTap nD4p (.of suv) (hg.b.keep suv)
        have hj' : JnAt (upd (upd Hg u (.tup ((js.map (hNm f0 d0 b0)).map nS))) v (.tup [nS (hNm f3 d3 b3' (n - 1 + i)), .ref u])) v (hNm f3 d3 b3' (n - 1 + i), js.map (hNm f0 d0 b0)) := ⟨u, upd_same, sv _ _ upd_same⟩
        have jal2 := paired_len hh.hJ
        refine ⟨D4, _, _, rfl, rfl, hh.eD, ?_, ?_⟩
        · rw [List.length_map, jal2, List.length_append]
          unfold hJns
          rw [List.length_map, List.length_range]
          exact small5000 (by omega)
        refine ⟨_, _, jxa ++ [v], jx ++ [(hNm f3 d3 b3' (n - 1 + i), js.map (hNm f0 d0 b0))], rfl, ?_, by rw [List.length_append]; show jx.length + 1 ≤ _; omega, ?_, fun x hx' => ?_⟩
        · rw [← List.append_assoc, ← List.append_assoc]
          exact hh.addJ nD4p n9D4 nTaD4 hj'
        · rw [List.map_append]
          refine List.nodup_append.mpr ⟨jxn, List.pairwise_singleton _ _, fun a ha b hb => ?_⟩
          obtain ⟨x, hx', rfl⟩ := List.mem_map.mp ha
          have hb := List.mem_singleton.mp hb
          obtain ⟨k, hk, hk3, ek⟩ := (jxo x hx').at_
          intro z
          rw [ek, hb] at z
          have := hNm_inj (by omega) (by omega) z
          omega
        · rcases List.mem_append.mp hx' with z | z
          · exact (jxo x z).more
          · rw [List.mem_singleton.mp z]
            exact ⟨⟨i, by omega, by omega, rfl⟩, js, hpw, hjs, by omega, rfl⟩
      · exact ⟨_, _, jxa, jx, rfl, hf, by omega, jxn, fun x hx' => (jxo x hx').more⟩
    obtain ⟨y5, y11, jxa, jx, rfl, h16, jxl, jxn, jxo⟩ := hp
    have jxo3 : ∀ x ∈ jx, JxOk n (hNm f0 d0 b0) (hNm f3 d3 b3') 3 x := fun x hx => ⟨let ⟨k, a, b, c⟩ := (jxo x hx).at_; ⟨k, b, b, c⟩, (jxo x hx).ls⟩
    -- the four tuples
    refine ⟨.ref A0, rfl, A0, _, rfl, SqL.of (h16.k _ _ nA0p eA09), fun ra H17 _ s17 tra _ => ?_⟩
    have h17 := h16.keep nTap nD4p (.of s17) (h16.b.keep s17)
    refine ⟨.ref D1, rfl, .ref D3, rfl, D1, D3, _, _, rfl, rfl, h17.k _ _ nD1p eD19, h17.k _ _ nD3p eD39, by rw [List.length_map, List.length_map, sb2, sal]; exact Nat.le_of_lt (small5000 (by omega)), fun M nM => ?_⟩
    have sM := same_upd (o := .lst (sa.map V.ref ++ sc.map V.ref)) nM
    have h18 := h17.keep nTap nD4p (.of sM) (h17.b.keep sM)
    have eM : (upd H17 M (.lst (sa.map V.ref ++ sc.map V.ref))) M = some (.lst ((sa ++ sc).map V.ref)) := by rw [upd_same, List.map_append]
    have tra := tra.same sM
    generalize upd H17 M (.lst (sa.map V.ref ++ sc.map V.ref)) = H18 at h18 eM tra ⊢
    refine ⟨M, _, rfl, SqL.of eM, fun rb H19 _ s19 trb _ => ?_⟩
    have h19 := h18.keep nTap nD4p (.of s19) (h18.b.keep s19)
    have tra := tra.same s19
    refine ⟨.ref D4, rfl, D4, _, rfl, SqL.of h19.eD, fun rc H20 _ s20 trc _ => ?_⟩
    have h20 := h19.keep nTap nD4p (.of s20) (h19.b.keep s20)
    have tra := tra.same s20
    have trb := trb.same s20
    refine ⟨.ref Ta, rfl, Ta, _, rfl, SqL.of h20.eT, fun rd H21 _ s21 trd _ => ?_⟩
    have h21 := h20.keep nTap nD4p (.of s21) (h20.b.keep s21)
    have tra := tra.same s21
    have trb := trb.same s21
    have trc := trc.same s21
    refine ⟨four_sz, fun r nr => ?_⟩
    have sr := same_upd (o := .tup [.ref ra, .ref rb, .ref rc, .ref rd]) nr
    have h22 := h21.keep nTap nD4p (.of sr) (h21.b.keep sr)
    refine q _ r n m2 kk sd f0 b0 f1 b1' f2 b2' f3 b3' d0 d1 d2 d3 jx tis (k09.trans h22.k) h22.b ⟨⟨ra, rb, rc, rd, sa ++ sc, ja ++ jxa, ta, upd_same, tra.same sr, trb.same sr, ?_, trc.same sr, h22.hJ, trd.same sr, h22.hT⟩, n1, n8, m21, m2n, sd1, hns, by omega, jxn, jxo3, htk, htc⟩
    exact paired_append (paired_imp hsa9 fun a _ x h => h.kp h22.k b9) (paired_imp hsb9 fun a _ x h => h.kp h22.k b9)
end
end Th
namespace Th
open PySem PySem.Spec PyProof.Rows L2
/-! papers: of each kind and number the unlike ones of the greatest edition -/
theorem un65 {k : Nat} {A : Around} (h : Room k A) : A.units + 65 < cLine := by have := h.un; omega
structure Pp where
  kd : Str
  num : Int
  ed : Int
  rest : List PyData
def ppD (x : Pp) : PyData := .tuple (.str x.kd :: .int x.num :: .int x.ed :: x.rest)
structure PpOk (x : Pp) : Prop where
  lay : (ppD x).canLay0 = true
  dep : (ppD x).depth ≤ 10
def kdn (kd : Str) (n : Int) : List Key := [.inr kd, .inl n]
def ppK (x : Pp) : List Key := kdn x.kd x.num
theorem kdn_inj {a b : Str} {m n : Int} (h : kdn a m = kdn b n) : a = b ∧ m = n := by
  unfold kdn at h
  injection h with h1 h2
  injection h2 with h2 _
  exact ⟨Sum.inr.inj h1, Sum.inl.inj h2⟩
def isIn (acc : List Pp) (x : Pp) : Bool := (acc.map ppD).any fun z => z.eqv (ppD x)
def stepG (acc : List Pp) (x : Pp) : List Pp :=
  match acc with
  | [] => [x]
  | y :: _ => if y.ed < x.ed then [x] else if y.ed = x.ed ∧ isIn acc x = false then acc ++ [x] else acc
def addK {κ : Type} [DecidableEq κ] (ks : List κ) (k : κ) : List κ := if k ∈ ks then ks else ks ++ [k]
def stepK (ks : List (List Key)) (x : Pp) : List (List Key) := addK ks (ppK x)
def grp (ps : List Pp) (k : List Key) : List Pp := (ps.filter fun x => decide (ppK x = k)).foldl stepG []
def ksP (ps : List Pp) : List (List Key) := ps.foldl stepK []
theorem grp_snoc (ps : List Pp) (x : Pp) (k : List Key) : grp (ps ++ [x]) k = if ppK x = k then stepG (grp ps k) x else grp ps k := by
  unfold grp
  rw [List.filter_append, List.foldl_append]
  by_cases h : ppK x = k
  · rw [if_pos h, List.filter_cons_of_pos (by simp [h])]
    rfl
  · rw [if_neg h, List.filter_cons_of_neg (by simp [h])]
    rfl
theorem ksP_snoc (ps : List Pp) (x : Pp) : ksP (ps ++ [x]) = stepK (ksP ps) x := by
  unfold ksP
  rw [List.foldl_append]
  rfl
theorem snoc_ind {α : Type} {C : List α → Prop} (h0 : C []) (h1 : ∀ l x, C l → C (l ++ [x])) (l : List α) : C l := by
  have : ∀ n (l : List α), l.length = n → C l := fun n => by
    induction n with
    | zero => exact fun l e => by rw [List.eq_nil_of_length_eq_zero e]; exact h0
    | succ n ih =>
      intro l e
      have ne : l ≠ [] := fun z => by rw [z] at e; cases e
      rw [← List.dropLast_concat_getLast ne]
      exact h1 _ _ (ih _ (by rw [List.length_dropLast, e]; rfl))
  exact this _ l rfl
theorem stepG_ne (acc : List Pp) (x : Pp) : stepG acc x ≠ [] := by
  unfold stepG
  split
  · exact List.cons_ne_nil _ _
  · split
    · exact List.cons_ne_nil _ _
    · split
      · exact List.cons_ne_nil _ _
      · exact List.cons_ne_nil _ _
theorem mem_stepK {ks : List (List Key)} {x : Pp} {k : List Key} : k ∈ stepK ks x ↔ k ∈ ks ∨ k = ppK x := by
  unfold stepK addK
  split
  · next h => exact ⟨.inl, fun z => z.elim id fun e => e ▸ h⟩
  · rw [List.mem_append, List.mem_singleton]
theorem mem_ksP (ps : List Pp) (k : List Key) : k ∈ ksP ps ↔ ∃ x ∈ ps, ppK x = k := by
  refine snoc_ind (C := fun ps => k ∈ ksP ps ↔ ∃ x ∈ ps, ppK x = k) ⟨fun h => (by cases h), fun ⟨_, h, _⟩ => (by cases h)⟩ (fun l x ih => ?_) ps
  rw [ksP_snoc, mem_stepK, ih]
  refine ⟨fun h => h.elim (fun ⟨y, a, b⟩ => ⟨y, List.mem_append_left _ a, b⟩) fun e => ⟨x, List.mem_append_right _ (List.mem_singleton.mpr rfl), e.symm⟩, fun ⟨y, a, b⟩ => (List.mem_append.mp a).elim (fun a => .inl ⟨y, a, b⟩) fun a => .inr ?_⟩
  rw [← b, List.mem_singleton.mp a]
theorem grp_ne (ps : List Pp) (k : List Key) : grp ps k ≠ [] ↔ k ∈ ksP ps := by
  refine snoc_ind (C := fun ps => grp ps k ≠ [] ↔ k ∈ ksP ps) ⟨fun h => absurd rfl h, fun h => (by cases h)⟩ (fun l x ih => ?_) ps
  rw [ksP_snoc, mem_stepK, grp_snoc, ← ih]
  split
  · next h => exact ⟨fun _ => .inr h.symm, fun _ => stepG_ne _ _⟩
  · next h => exact ⟨.inl, fun z => z.elim id fun e => absurd e.symm h⟩
theorem ksP_nd (ps : List Pp) : (ksP ps).Nodup := by
  refine snoc_ind (C := fun ps => (ksP ps).Nodup) List.nodup_nil (fun l x ih => ?_) ps
  rw [ksP_snoc]
  unfold stepK addK
  split
  · exact ih
  · next h => exact List.nodup_append.mpr ⟨ih, List.nodup_cons.mpr ⟨List.not_mem_nil, List.nodup_nil⟩, fun u hu v hv e => h (by rw [List.mem_singleton.mp hv] at e; exact e ▸ hu)⟩
theorem ksP_len (ps : List Pp) : (ksP ps).length ≤ ps.length := by
  refine snoc_ind (C := fun ps => (ksP ps).length ≤ ps.length) (Nat.le_refl _) (fun l x ih => ?_) ps
  rw [ksP_snoc, List.length_append]
  unfold stepK addK
  split
  · exact Nat.le_succ_of_le ih
  · rw [List.length_append]; exact Nat.succ_le_succ ih
theorem mem_stepG {acc : List Pp} {x y : Pp} (h : y ∈ stepG acc x) : y = x ∨ y ∈ acc := by
  unfold stepG at h
  split at h
  · exact .inl (List.mem_singleton.mp h)
  · split at h
    · exact .inl (List.mem_singleton.mp h)
    · split at h
      · exact (List.mem_append.mp h).elim .inr fun h => .inl (List.mem_singleton.mp h)
      · exact .inr h
theorem mem_grp {ps : List Pp} {k : List Key} {y : Pp} : y ∈ grp ps k → y ∈ ps ∧ ppK y = k := by
  refine snoc_ind (C := fun ps => y ∈ grp ps k → y ∈ ps ∧ ppK y = k) (fun h => by cases h) (fun l x ih h => ?_) ps
  rw [grp_snoc] at h
  split at h
  · next e =>
    rcases mem_stepG h with rfl | h
    · exact ⟨List.mem_append_right _ (List.mem_singleton.mpr rfl), e⟩
    · exact ⟨List.mem_append_left _ (ih h).1, (ih h).2⟩
  · exact ⟨List.mem_append_left _ (ih h).1, (ih h).2⟩
theorem grp_len (ps : List Pp) (k : List Key) : (grp ps k).length ≤ ps.length := by
  refine snoc_ind (C := fun ps => (grp ps k).length ≤ ps.length) (Nat.le_refl _) (fun l x ih => ?_) ps
  rw [grp_snoc, List.length_append]
  have h2 : (stepG (grp l k) x).length ≤ (grp l k).length + 1 := by
    unfold stepG
    split
    · show 1 ≤ _; omega
    · split
      · show 1 ≤ _; omega
      · split
        · rw [List.length_append]; exact Nat.le_refl _
        · omega
  show _ ≤ l.length + 1
  split
  · omega
  · omega
theorem layAll_pp {ps : List Pp} (h : ∀ x ∈ ps, PpOk x) : PyData.canLayAll0 (ps.map ppD) = true := by
  induction ps with
  | nil => rfl
  | cons x ps ih => exact Bool.and_eq_true_iff.mpr ⟨(h x List.mem_cons_self).lay, ih fun y hy => h y (List.mem_cons_of_mem _ hy)⟩
theorem depthAll_pp {ps : List Pp} (h : ∀ x ∈ ps, PpOk x) : PyData.depthAll (ps.map ppD) ≤ 10 := by
  induction ps with
  | nil => exact Nat.zero_le _
  | cons x ps ih => exact Nat.max_le.mpr ⟨(h x List.mem_cons_self).dep, ih fun y hy => h y (List.mem_cons_of_mem _ hy)⟩
theorem shaped_pp {x : Pp} (h : PpOk x) : SeqAt.shaped (ppD x) = true := Bool.and_eq_true_iff.mpr ⟨h.lay, decide_eq_true (by have := h.dep; omega)⟩
theorem shaped_pps {ps : List Pp} (h : ∀ x ∈ ps, PpOk x) : SeqAt.shaped (.list (ps.map ppD)) = true := Bool.and_eq_true_iff.mpr ⟨layAll_pp h, decide_eq_true (Nat.le_trans (Nat.succ_le_succ (depthAll_pp h)) (by decide))⟩
theorem pp_inv {S : Addr → Prop} {H : Hp} {v : V} {x : Pp} (h : Dt S H v (ppD x)) : ∃ t zs, v = .ref t ∧ H t = some (.tup (.str x.kd :: .int x.num :: .int x.ed :: zs)) ∧ DtAll S H zs x.rest ∧ zs.length ≤ 5000 := by
  unfold ppD at h
  cases h with
  | tup s e n hd =>
    cases hd with
    | cons h1 hd =>
      cases h1
      cases hd with
      | cons h2 hd =>
        cases h2
        cases hd with
        | cons h3 hd =>
          cases h3
          exact ⟨_, _, rfl, e, hd, by simp only [List.length_cons] at n; omega⟩
theorem dtAll_snocA {S : Addr → Prop} {H : Hp} : ∀ {xs : List V} {ds : List PyData} {v : V} {d : PyData}, DtAll S H xs ds → Dt S H v d → DtAll S H (xs ++ [v]) (ds ++ [d])
  | _, _, _, _, .nil, r => .cons r .nil
  | _, _, _, _, .cons h hs, r => .cons h (dtAll_snocA hs r)
theorem valV_put {κ : Type} [DecidableEq κ] (kvs : List (κ × V)) (k : κ) (v : V) (k' : κ) : valV (putK kvs k v) k' = if k' = k then some v else valV kvs k' := by
  by_cases h : k' = k
  · subst h
    rw [if_pos rfl]
    unfold putK
    split
    · next a =>
      induction kvs with
      | nil => cases a
      | cons p kvs ih =>
        unfold valV
        rw [List.map_cons]
        by_cases e : p.1 = k'
        · rw [if_pos e, List.find?_cons_of_pos (by simp [e])]; rfl
        · rw [if_neg e, List.find?_cons_of_neg (by simp [e])]
          refine ih ?_
          rw [List.any_cons] at a
          simpa [e] using a
    · next a =>
      unfold valV
      have : kvs.find? (fun kv => decide (kv.1 = k')) = none := by
        rw [List.find?_eq_none]
        intro p hp z
        exact a (List.any_eq_true.mpr ⟨p, hp, z⟩)
      rw [List.find?_append, this]
      simp
  · rw [if_neg h]
    unfold putK
    split
    · next a =>
      clear a
      induction kvs with
      | nil => rfl
      | cons p kvs ih =>
        unfold valV at ih ⊢
        rw [List.map_cons]
        by_cases e : p.1 = k
        · rw [if_pos e, List.find?_cons_of_neg (by simp [e, Ne.symm h]), List.find?_cons_of_neg (by simp [e, Ne.symm h])]
          exact ih
        · rw [if_neg e]
          by_cases e2 : p.1 = k'
          · rw [List.find?_cons_of_pos (by simp [e2]), List.find?_cons_of_pos (by simp [e2])]
          · rw [List.find?_cons_of_neg (by simp [e2]), List.find?_cons_of_neg (by simp [e2])]
            exact ih
    · unfold valV
      rw [List.find?_append]
      cases kvs.find? (fun kv => decide (kv.1 = k')) with
      | some q => rfl
      | none =>
        rw [Option.none_or, List.find?_cons_of_neg (by simp [Ne.symm h])]
        rfl
theorem keys_put {κ : Type} [DecidableEq κ] (kvs : List (κ × V)) (k : κ) (v : V) : (putK kvs k v).map (·.1) = addK (kvs.map (·.1)) k := by
  unfold addK
  have iff : (kvs.any fun kv => decide (kv.1 = k)) = true ↔ k ∈ kvs.map (·.1) := by
    rw [List.any_eq_true, List.mem_map]
    exact ⟨fun ⟨x, a, b⟩ => ⟨x, a, of_decide_eq_true b⟩, fun ⟨x, a, b⟩ => ⟨x, a, decide_eq_true b⟩⟩
  unfold putK
  by_cases h : k ∈ kvs.map (·.1)
  · rw [if_pos h, if_pos (iff.mpr h), List.map_map]
    refine List.map_congr_left fun p _ => ?_
    show (if p.1 = k then (p.1, v) else p).1 = p.1
    split <;> rfl
  · rw [if_neg h, if_neg fun z => h (iff.mp z), List.map_append]
    rfl
theorem valV_none {κ : Type} [DecidableEq κ] {kvs : List (κ × V)} {k : κ} : valV kvs k = none ↔ k ∉ kvs.map (·.1) := by
  unfold valV
  rw [Option.map_eq_none_iff, List.find?_eq_none, List.mem_map]
  exact ⟨fun h ⟨p, a, b⟩ => h p a (decide_eq_true b), fun h p hp z => h ⟨p, hp, of_decide_eq_true z⟩⟩
/-- a dict of what stands, its lists' things laid in Hb -/
structure NpA (Hb H : Hp) (D : Addr) (ps : List Pp) (kvs : List (List Key × V)) : Prop where
  e : H D = some (.dT kvs)
  ks : kvs.map (·.1) = ksP ps
  v : ∀ k v, valV kvs k = some v → ∃ d vs, v = .ref d ∧ d ≠ D ∧ H d = some (.lst vs) ∧ DtAll SA Hb vs ((grp ps k).map ppD)
theorem NpA.same {Hb Hb' H H' : Hp} {D : Addr} {ps : List Pp} {kvs : List (List Key × V)} (h : NpA Hb H D ps kvs) (s : Same H H') (sb : Same Hb Hb') : NpA Hb' H' D ps kvs :=
  ⟨s _ _ h.e, h.ks, fun k v z => let ⟨d, vs, a, b, c, f⟩ := h.v k v z; ⟨d, vs, a, b, s _ _ c, f.same sb⟩⟩
/-- the dict with one more list -/
theorem NpA.put {Hb H : Hp} {D d : Addr} {ps : List Pp} {kvs : List (List Key × V)} {x : Pp} {vs : List V} (h : NpA Hb H D ps kvs) (nd : d ≠ D) (ed : H d = some (.lst vs)) (hd : DtAll SA Hb vs ((stepG (grp ps (ppK x)) x).map ppD)) :
    NpA Hb (upd H D (.dT (putK kvs (ppK x) (.ref d)))) D (ps ++ [x]) (putK kvs (ppK x) (.ref d)) := by
  refine ⟨upd_same, ?_, fun k v z => ?_⟩
  · rw [keys_put, h.ks, ksP_snoc]
    rfl
  · rw [valV_put] at z
    split at z
    · next e =>
      cases z
      subst e
      exact ⟨d, vs, rfl, nd, by rw [upd_ne nd]; exact ed, by rw [grp_snoc, if_pos rfl]; exact hd⟩
    · next e =>
      obtain ⟨d', vs', a, b, c, f⟩ := h.v k v z
      exact ⟨d', vs', a, b, by rw [upd_ne b]; exact c, by rw [grp_snoc, if_neg fun q => e q.symm]; exact f⟩
/-- ... and where it stays -/
theorem NpA.stay {Hb H : Hp} {D : Addr} {ps : List Pp} {kvs : List (List Key × V)} {x : Pp} (h : NpA Hb H D ps kvs) (e : stepG (grp ps (ppK x)) x = grp ps (ppK x)) : NpA Hb H D (ps ++ [x]) kvs := by
  refine ⟨h.e, ?_, fun k v z => ?_⟩
  · rw [h.ks, ksP_snoc]
    unfold stepK addK
    rw [if_pos]
    exact (grp_ne ps (ppK x)).mp (by rw [← e]; exact stepG_ne _ _)
  · obtain ⟨d', vs', a, b, c, f⟩ := h.v k v z
    refine ⟨d', vs', a, b, c, ?_⟩
    rw [grp_snoc]
    split
    · next q => rw [← q, e]; rw [← q] at f; exact f
    · exact f
/-- what is kept of a key -/
theorem NpA.at_ {Hb H : Hp} {D : Addr} {ps : List Pp} {kvs : List (List Key × V)} (h : NpA Hb H D ps kvs) (k : List Key) : (valV kvs k = none ∧ grp ps k = []) ∨ ∃ d vs, valV kvs k = some (.ref d) ∧ d ≠ D ∧ H d = some (.lst vs) ∧ DtAll SA Hb vs ((grp ps k).map ppD) ∧ grp ps k ≠ [] := by
  cases z : valV kvs k with
  | none =>
    refine .inl ⟨rfl, ?_⟩
    have := valV_none.mp z
    rw [h.ks] at this
    exact Classical.byContradiction fun g => this ((grp_ne ps k).mp g)
  | some v =>
    obtain ⟨d, vs, rfl, nd, e, f⟩ := h.v k v z
    refine .inr ⟨d, vs, rfl, nd, e, f, (grp_ne ps k).mpr ?_⟩
    rw [← h.ks]
    exact Classical.byContradiction fun g => by rw [valV_none.mpr g] at z; cases z
section
variable {P : Program} {w : World} {K : PySem.W.Frag} {mg : Str → Option Value} {base : Heap} {k : Nat}
def sp_newest_papers : Sp := fun vs H Q _ => ∃ (l : Addr) (xs : List V) (ps : List Pp), vs = [.ref l] ∧ H l = some (.lst xs) ∧ DtAll SA H xs (ps.map ppD) ∧ (∀ x ∈ ps, PpOk x) ∧ ps.length ≤ 2000 ∧
  ∀ H' D kvs, Same H H' → H D = none → NpA H' H' D ps kvs → Q (.ref D) H'
set_option maxHeartbeats 8000000 in
theorem ok_newest_papers (T : Defs K mg) : FnOk P w K mg base CX0 (k + 1) T.a_newest_papers T.d_newest_papers ["papers"] sp_newest_papers := by
  refine T.F_newest_papers.ok sc_newest_papers (fun vs H Q E h => ?_) (fun cdv A outer s H vs Q E hr h => ?_)
  · obtain ⟨l, xs, ps, rfl, _⟩ := h
    rfl
  · obtain ⟨l, xs, ps, rfl, el, hx, hok, hn, q⟩ := h
    refine ⟨_, PSs.nox
(pss_cons (ps_set (i := 1) sc_newest_papers.nd rfl (.inl rfl) (pe_dnewT))
    (pss_cons (ps_for PassesOwn.never rfl (pi_list (pv 0)) (pg_name (i := 2) sc_newest_papers.nd rfl (.inl rfl))
      (pss_cons (ps_set (i := 3) sc_newest_papers.nd rfl (.inl rfl) (pe_tup (pa_cons (pe_ix (r := rIxT K) ix_tup (pv 2) (pe_int) (fun _ _ => rfl)) (pa_cons (pe_ix (r := rIxT K) ix_tup (pv 2) (pe_glob (v := .int 1) (by rfl) T.c_NUMBER ⟨_, rfl⟩) (fun _ _ => rfl)) pa_nil))))
      (pss_cons (ps_set (i := 4) sc_newest_papers.nd rfl (.inl rfl) (pe_dget2 (hu_of hr) (pv 1) (pv 3) (pe_lst pa_nil) ⟨rfl, rfl, rfl, rfl⟩))
      (pss_one (ps_if (PW.pt (pw_or (pt_not (pt_truth (pv 4) (by intro _; rfl))) (pw_or1 (pt_cmpR op_lt (pe_ix (r := rIxT K) ix_tup (pe_ix (r := rIxL K) ix_list (pv 4) (pe_int) (fun _ _ => rfl)) (pe_glob (v := .int 2) (by rfl) T.c_EDITION ⟨_, rfl⟩) (fun _ _ => rfl)) (pe_ix (r := rIxT K) ix_tup (pv 2) (pe_glob (v := .int 2) (by rfl) T.c_EDITION ⟨_, rfl⟩) (fun _ _ => rfl)) (nomark _)))))
        (pss_one (ps_dput (hu_of hr) (pv 1) (pv 3) (pe_lst (pa_cons (pv 2) pa_nil)) (by rfl)))
        (pss_one (ps_if (PW.pt (pw_and (pt_cmpR op_eq (pe_ix (r := rIxT K) ix_tup (pe_ix (r := rIxL K) ix_list (pv 4) (pe_int) (fun _ _ => rfl)) (pe_glob (v := .int 2) (by rfl) T.c_EDITION ⟨_, rfl⟩) (fun _ _ => rfl)) (pe_ix (r := rIxT K) ix_tup (pv 2) (pe_glob (v := .int 2) (by rfl) T.c_EDITION ⟨_, rfl⟩) (fun _ _ => rfl)) (nomark _)) (pw_and1 (pt_cmpR (op_notInD (un65 hr)) (pv 2) (pv 4) (by rfl)))))
          (pss_one (ps_dput (hu_of hr) (pv 1) (pv 3) (pe_op op_cat (pv 4) (pe_lst (pa_cons (pv 2) pa_nil))) (by rfl)))
          pss_nil)))))))
    (pss_one (ps_ret (pv 1)))))
      , ?_⟩
    have xl : xs.length = ps.length := by rw [hx.len, List.length_map]
    refine fun D nD => ?_
    have s0 := same_upd (o := .dT []) nD
    refine ⟨.ref l, rfl, l, rfl, ⟨_, SqL.of (s0 _ _ el)⟩, ?_⟩
    refine for_it (walk_list (xs := xs)) (fun i σ H3 => ∃ (y2 y3 y4 : Option V) (kvs : List (List Key × V)), σ = [some (.ref l), some (.ref D), y2, y3, y4] ∧ Same H H3 ∧ NpA H H3 D (ps.take i) kvs)
      ⟨none, none, none, [], rfl, s0, upd_same, rfl, fun k v z => (by cases z)⟩ (fun i σ H3 _ hp => ?_) (fun i v σ H3₀ H3 hi hp' yy => ?_) (fun σ H3 hp' => ?_)
    · obtain ⟨_, _, _, _, _, s3, _⟩ := hp
      exact SqL.of (s3 _ _ el)
    · obtain ⟨rfl, ex⟩ := yy
      obtain ⟨y2, y3, y4, kvs, rfl, s3, np⟩ := hp'
      obtain ⟨d0, e0, hd0⟩ := hx.get ex
      obtain ⟨x, er, rfl⟩ : ∃ x, ps[i]? = some x ∧ ppD x = d0 := by
        rw [List.getElem?_map] at e0
        cases z : ps[i]? with
        | none => rw [z] at e0; cases e0
        | some x => rw [z] at e0; cases e0; exact ⟨x, rfl, rfl⟩
      have xok := hok x (List.mem_of_getElem? er)
      have hd0' := hd0
      obtain ⟨t, zs, rfl, et, hzs, _⟩ := pp_inv hd0'
      have et3 := s3 _ _ et
      have tk1 : ps.take (i + 1) = ps.take i ++ [x] := by rw [List.take_add_one, er]; rfl
      have gok : ∀ z ∈ grp (ps.take i) (ppK x), PpOk z := fun z hz => hok z (List.mem_of_mem_take (mem_grp hz).1)
      have gl := grp_len (ps.take i) (ppK x)
      have kl : kvs.length ≤ 2000 := by
        have h1 : kvs.length = (ksP (ps.take i)).length := by rw [← np.ks, List.length_map]
        have h2 := ksP_len (ps.take i)
        have h3 : (ps.take i).length ≤ ps.length := by rw [List.length_take]; omega
        omega
      rw [List.length_take] at gl
      refine ⟨.ref t, rfl, t, _, 0, .str x.kd, rfl, rfl, SqT.of et3, atI_nat (j := 0) rfl, ?_⟩
      refine ⟨.ref t, rfl, t, _, 1, .int x.num, rfl, rfl, SqT.of et3, atI_nat (j := 1) rfl, ?_⟩
      refine ⟨by show 2 ≤ sizeLine; decide, fun u nu => ?_⟩
      have s4 := same_upd (o := .tup [.str x.kd, .int x.num]) nu
      have eu : (upd H3 u (.tup [.str x.kd, .int x.num])) u = some (.tup ((ppK x).map kV)) := upd_same
      have np4 := np.same s4 (fun _ _ e => e)
      have s34 := s3.trans s4
      have nD4 : u ≠ D := fun e => by rw [e, np.e] at nu; cases nu
      generalize upd H3 u (.tup [.str x.kd, .int x.num]) = H4 at s4 eu np4 s34 ⊢
      refine ⟨.ref D, rfl, D, rfl, .inr ⟨_, .inl np4.e⟩, .ref u, rfl, by show 0 ≤ sizeLine; decide, fun em nem => ?_⟩
      have s5 := same_upd (o := .lst []) nem
      have eem : (upd H4 em (.lst [])) em = some (.lst []) := upd_same
      have np5 := np4.same s5 (fun _ _ e => e)
      have s35 := s34.trans s5
      have eu5 := s5 _ _ eu
      have nem5 : em ≠ D := fun e => by rw [e, np4.e] at nem; cases nem
      generalize upd H4 em (.lst []) = H5 at s5 eem np5 s35 eu5 ⊢
      refine ⟨_, DGet.t np5.e eu5, ?_⟩
      -- what is kept: a list, of the group
      obtain ⟨g, vs, eg, hg, hdg⟩ : ∃ g vs, ((valV kvs (ppK x)).getD (.ref em)) = .ref g ∧ H5 g = some (.lst vs) ∧ DtAll SA H vs ((grp (ps.take i) (ppK x)).map ppD) := by
        rcases np5.at_ (ppK x) with ⟨a, b⟩ | ⟨d, vs, a, _, c, f, _⟩
        · exact ⟨em, [], by rw [a]; rfl, eem, by rw [b]; exact .nil⟩
        · exact ⟨d, vs, by rw [a]; rfl, c, f⟩
      rw [eg]
      have vl : vs.length = (grp (ps.take i) (ppK x)).length := by rw [hdg.len, List.length_map]
      have et5 := s35 _ _ et
      have fin : ∀ (kvs' : List (List Key × V)) (H6 : Hp), Same H H6 → NpA H H6 D (ps.take i ++ [x]) kvs' → ∃ (y2 y3 y4 : Option V) (kvs : List (List Key × V)), [some (V.ref l), some (.ref D), some (.ref t), some (.ref u), some (.ref g)] = [some (.ref l), some (.ref D), y2, y3, y4] ∧ Same H H6 ∧ NpA H H6 D (ps.take (i + 1)) kvs := fun kvs' H6 a b => ⟨_, _, _, kvs', rfl, a, by rw [tk1]; exact b⟩
      have one : ∀ (H6 : Hp), stepG (grp (ps.take i) (ppK x)) x = [x] → ∀ d, d ≠ D → H6 d = some (.lst [.ref t]) → NpA H H6 D (ps.take i) kvs → NpA H (upd H6 D (.dT (putK kvs (ppK x) (.ref d)))) D (ps.take i ++ [x]) (putK kvs (ppK x) (.ref d)) := fun H6 e d nd ed n6 => n6.put nd ed (by rw [e]; exact .cons hd0 .nil)
      have put1 : stepG (grp (ps.take i) (ppK x)) x = [x] → ∀ d, H5 d = none → ∃ a H4, V.ref D = .ref a ∧ DPut (upd H5 d (.lst [.ref t])) a (.ref u) (.ref d) H4 ∧ ∃ (y2 y3 y4 : Option V) (kvs : List (List Key × V)), [some (V.ref l), some (.ref D), some (.ref t), some (.ref u), some (.ref g)] = [some (.ref l), some (.ref D), y2, y3, y4] ∧ Same H H4 ∧ NpA H H4 D (ps.take (i + 1)) kvs := fun es d nd => by
        have s6 := same_upd (o := .lst [.ref t]) nd
        have nd6 : d ≠ D := fun e => by rw [e, np5.e] at nd; cases nd
        have np6 := np5.same s6 (fun _ _ e => e)
        refine ⟨D, _, rfl, DPut.t (k := ppK x) np6.e (s6 _ _ eu5) (small5000 (by omega)), fin _ _ (same_set (s35.trans s6) nD) (one _ es d nd6 upd_same np6)⟩
      have same_ : stepG (grp (ps.take i) (ppK x)) x = grp (ps.take i) (ppK x) → ∃ (y2 y3 y4 : Option V) (kvs : List (List Key × V)), [some (V.ref l), some (.ref D), some (.ref t), some (.ref u), some (.ref g)] = [some (.ref l), some (.ref D), y2, y3, y4] ∧ Same H H5 ∧ NpA H H5 D (ps.take (i + 1)) kvs := fun e => fin _ _ s35 (np5.stay e)
      cases hgr : grp (ps.take i) (ppK x) with
      | nil =>
        have hv : vs = [] := List.eq_nil_of_length_eq_zero (by rw [vl, hgr]; rfl)
        subst hv
        refine ⟨.ref g, rfl, false, .inl ⟨[], SqL.of hg, rfl⟩, iteT (iteT ⟨.ref t, rfl, by show 1 ≤ sizeLine; decide, fun d nd => ?_⟩)⟩
        obtain ⟨a, H4, ea, hp, r⟩ := put1 (by rw [hgr]; rfl) d nd
        exact ⟨.ref D, rfl, .ref u, rfl, a, H4, ea, hp, r⟩
      | cons y gs =>
        have hd2 := hdg
        rw [hgr] at hd2
        obtain ⟨v0, vr, hv⟩ : ∃ v0 vr, vs = v0 :: vr := by cases hd2 with | cons _ _ => exact ⟨_, _, rfl⟩
        subst hv
        obtain ⟨t0, z0, e0, et0, _⟩ : ∃ t0 z0, v0 = .ref t0 ∧ H t0 = some (.tup (.str y.kd :: .int y.num :: .int y.ed :: z0)) ∧ True := by
          cases hd2 with
          | cons a _ =>
            obtain ⟨t0, z0, e, f, _⟩ := pp_inv a
            exact ⟨t0, z0, e, f, trivial⟩
        subst e0
        have et05 := s35 _ _ et0
        refine ⟨.ref g, rfl, true, .inl ⟨_, SqL.of hg, rfl⟩, iteF ⟨.ref g, rfl, g, _, 0, .ref t0, rfl, rfl, SqL.of hg, atI_nat (j := 0) rfl, t0, _, 2, .int y.ed, rfl, rfl, SqT.of et05, atI_nat (j := 2) rfl, .ref t, rfl, t, _, 2, .int x.ed, rfl, rfl, SqT.of et5, atI_nat (j := 2) rfl, y.ed, x.ed, rfl, rfl, _, rfl, ite2 (fun c => ?_) fun c => ?_⟩⟩
        · have lt := of_decide_eq_true c
          refine ⟨.ref t, rfl, by show 1 ≤ sizeLine; decide, fun d nd => ?_⟩
          obtain ⟨a, H4, ea, hp, r⟩ := put1 (by rw [hgr]; show (if y.ed < x.ed then _ else _) = _; rw [if_pos lt]) d nd
          exact ⟨.ref D, rfl, .ref u, rfl, a, H4, ea, hp, r⟩
        · have nlt : ¬ y.ed < x.ed := fun z => c (decide_eq_true z)
          have es0 : stepG (y :: gs) x = if y.ed = x.ed ∧ isIn (y :: gs) x = false then y :: gs ++ [x] else y :: gs := by
            show (if y.ed < x.ed then _ else _) = _
            rw [if_neg nlt]
          refine ⟨.ref g, rfl, g, _, 0, .ref t0, rfl, rfl, SqL.of hg, atI_nat (j := 0) rfl, t0, _, 2, .int y.ed, rfl, rfl, SqT.of et05, atI_nat (j := 2) rfl, .ref t, rfl, t, _, 2, .int x.ed, rfl, rfl, SqT.of et5, atI_nat (j := 2) rfl, rfl, _, rfl, ite2 (fun c2 => ?_) fun c2 => ?_⟩
          · have ee : y.ed = x.ed := by injection of_decide_eq_true c2
            refine ⟨.ref t, rfl, .ref g, rfl, ppD x, _, (hd0.same s35).dp, .lst (SqL.of hg) (hdg.same s35).dp, shaped_pp xok, shaped_pps gok, _, rfl, ite2 (fun c3 => ?_) fun c3 => ?_⟩
            · have ni : isIn (y :: gs) x = false := by
                unfold isIn
                rw [← hgr]
                simpa using c3
              have es : stepG (grp (ps.take i) (ppK x)) x = y :: gs ++ [x] := by rw [hgr, es0, if_pos ⟨ee, ni⟩]
              refine ⟨.ref g, rfl, .ref t, rfl, by show 1 ≤ sizeLine; decide, fun a na => ?_⟩
              have s6 := same_upd (o := .lst [.ref t]) na
              have ga : g ≠ a := fun e => by rw [e, na] at hg; cases hg
              refine ⟨g, a, _, _, rfl, rfl, s6 _ _ hg, upd_same, ?_, fun d nd => ?_⟩
              · show (V.ref t0 :: vr).length + 1 ≤ sizeLine
                exact Nat.le_of_lt (small5000 (by rw [List.length_cons] at vl ⊢; omega))
              · have s7 := same_upd (o := .lst ((.ref t0 :: vr) ++ [.ref t])) nd
                have np7 := (np5.same s6 (fun _ _ e => e)).same s7 (fun _ _ e => e)
                have nd7 : d ≠ D := fun e => by rw [e, s6 _ _ np5.e] at nd; cases nd
                have hdx : DtAll SA H ((.ref t0 :: vr) ++ [.ref t]) ((stepG (grp (ps.take i) (ppK x)) x).map ppD) := by
                  rw [es, List.map_append]
                  exact dtAll_snocA hd2 hd0
                exact ⟨.ref D, rfl, .ref u, rfl, D, _, rfl, DPut.t (k := ppK x) np7.e (s7 _ _ (s6 _ _ eu5)) (small5000 (by omega)), fin _ _ (same_set ((s35.trans s6).trans s7) nD) (np7.put nd7 upd_same hdx)⟩
            · have ni : isIn (y :: gs) x = true := by
                unfold isIn
                rw [← hgr]
                simpa using c3
              exact same_ (by rw [hgr, es0, if_neg fun z => by rw [ni] at z; cases z.2])
          · exact same_ (by rw [hgr, es0, if_neg fun z => c2 (decide_eq_true (by rw [z.1]))])
    · obtain ⟨y2, y3, y4, kvs, rfl, s3, np⟩ := hp'
      rw [xl, List.take_length] at np
      exact ⟨.ref D, rfl, q _ _ _ s3 nD (np.same (fun _ _ e => e) s3)⟩
end
end Th
namespace Th
open PySem PySem.Spec PyProof.Rows L2
/-! which papers stand, by number; the keys in order -/
def keyE (p : Str × Int) : PyData := .tuple [.str p.1, .int p.2]
theorem keyE_lt (a : Str) (m n : Int) : PySem.W.dataLt (keyE (a, m)) (keyE (a, n)) = decide (m < n) := by
  have e1 : PyData.eqv (.str a) (.str a) = true := by unfold PyData.eqv; simp
  have al : PySem.W.alike (.str a) (.str a) = true := rfl
  have al2 : PySem.W.alike (.int m) (.int n) = true := rfl
  show PySem.W.dataLt (.tuple [.str a, .int m]) (.tuple [.str a, .int n]) = _
  rw [Bool.eq_iff_iff, PySem.W.dataLt_tuple, PySem.W.dataLt_all_yes al e1]
  by_cases c : m = n
  · subst c
    have e2 : PyData.eqv (.int m) (.int m) = true := by unfold PyData.eqv; simp
    rw [PySem.W.dataLt_all_yes al2 e2]
    simp
    rfl
  · have e2 : PyData.eqv (.int m) (.int n) = false := by unfold PyData.eqv; simp [c]
    rw [PySem.W.dataLt_all_no al2 e2, PySem.W.dataLt_int]
def numLe (m n : Int) : Bool := decide (m ≤ n)
theorem keyE_le (a : Str) (m n : Int) : PySem.W.dataLe false keyE (a, m) (a, n) = numLe m n := by
  show (!PySem.W.dataLt (keyE (a, n)) (keyE (a, m))) = numLe m n
  rw [keyE_lt]
  unfold numLe
  by_cases c : m ≤ n
  · rw [decide_eq_true c, decide_eq_false (by omega)]; rfl
  · rw [decide_eq_false c, decide_eq_true (by omega)]; rfl
theorem sort_keys (a : Str) (ns : List Int) : (ns.map (Prod.mk a)).mergeSort (PySem.W.dataLe false keyE) = (ns.mergeSort numLe).map (Prod.mk a) :=
  (List.map_mergeSort (r := numLe) (s := PySem.W.dataLe false keyE) (f := Prod.mk a) (l := ns) fun m _ n _ => (keyE_le a m n).symm).symm
theorem numLe_sorted (ns : List Int) : (ns.mergeSort numLe).Pairwise (· ≤ ·) :=
  (List.pairwise_mergeSort (le := numLe) (fun a b c h1 h2 => decide_eq_true (Int.le_trans (of_decide_eq_true h1) (of_decide_eq_true h2))) (fun a b => by
    unfold numLe
    by_cases c : a ≤ b
    · rw [decide_eq_true c]; rfl
    · rw [decide_eq_false c, decide_eq_true (by omega : b ≤ a)]; rfl) ns).imp fun h => of_decide_eq_true h
theorem sort_filter (p : Int → Bool) (ns : List Int) : (ns.filter p).mergeSort numLe = (ns.mergeSort numLe).filter p :=
  List.Perm.eq_of_pairwise (le := (· ≤ ·)) (fun a b _ _ h1 h2 => Int.le_antisymm h1 h2) (numLe_sorted _) ((numLe_sorted ns).filter _) ((List.mergeSort_perm _ _).trans ((List.mergeSort_perm ns numLe).symm.filter p))
/-- the numbers of a kind among keys -/
def selK (kd : Str) (ks : List (List Key)) : List Int := ks.filterMap fun k => match k with
  | [.inr a, .inl n] => if a = kd then some n else none
  | _ => none
theorem selK_snoc (kd a : Str) (n : Int) (ks : List (List Key)) : selK kd (ks ++ [kdn a n]) = if a = kd then selK kd ks ++ [n] else selK kd ks := by
  unfold selK
  rw [List.filterMap_append]
  show ks.filterMap _ ++ [kdn a n].filterMap _ = _
  by_cases h : a = kd
  · rw [if_pos h]
    simp [kdn, h]
  · rw [if_neg h]
    simp [kdn, h]
def numsK (ps : List Pp) (kd : Str) : List Int := (selK kd (ksP ps)).mergeSort numLe
def cntK (ps : List Pp) (kd : Str) (n : Int) : Nat := (grp ps (kdn kd n)).length
def stOne (ps : List Pp) (kd : Str) (n : Int) : List Pp := match grp ps (kdn kd n) with
  | [x] => [x]
  | _ => []
def standL (ps : List Pp) (kd : Str) : List Pp := (((numsK ps kd).filter fun n => cntK ps kd n == 1).map (stOne ps kd)).flatten
theorem key_form {ps : List Pp} {k : List Key} (h : k ∈ ksP ps) : ∃ a n, k = kdn a n := by
  obtain ⟨x, _, e⟩ := (mem_ksP ps k).mp h
  exact ⟨x.kd, x.num, e.symm⟩
/-- a list under way, that holds key tuples of one kind -/
def KyA (H : Hp) (v : V) (p : Str × Int) : Prop := ∃ t, v = .ref t ∧ H t = some (.tup [.str p.1, .int p.2])
theorem KyA.same {H H' : Hp} {v : V} {p : Str × Int} (h : KyA H v p) (s : Same H H') : KyA H' v p := let ⟨t, a, b⟩ := h; ⟨t, a, s _ _ b⟩
theorem KyA.dp {K : PySem.W.Frag} {H : Hp} {v : V} {p : Str × Int} (h : KyA H v p) : Dp K H v (keyE p) := by
  obtain ⟨t, rfl, e⟩ := h
  exact .tup (SqT.of e) (.cons (.str _) (.cons (.int _) .nil))
theorem keys_alike (bs : List (Str × Int)) : PySem.W.AllAlike (bs.map keyE) := by
  intro d hd d' hd'
  obtain ⟨p, _, rfl⟩ := List.mem_map.mp hd
  obtain ⟨q, _, rfl⟩ := List.mem_map.mp hd'
  rfl
theorem keys_sortable (bs : List (Str × Int)) : PySem.W.Sortable (bs.map keyE) := PySem.W.Sortable.tuples fun b => ⟨_, _, rfl⟩
theorem same_unlock {H H' : Hp} {d : Addr} {u o : HO} (e : H d = some u) (s : Same (upd H d o) H') : Same H (upd H' d u) := fun b x hb => by
  by_cases h : b = d
  · subst h
    rw [upd_same]
    rw [e] at hb
    exact hb
  · rw [upd_ne h]
    exact s _ _ (by rw [upd_ne h]; exact hb)
theorem KyA.updl {H : Hp} {C : Addr} {zs : List V} {o : HO} {v : V} {p : Str × Int} (h : KyA H v p) (e : H C = some (.lst zs)) : KyA (upd H C o) v p := by
  obtain ⟨t, a, b⟩ := h
  exact ⟨t, a, by rw [upd_ne fun z => by rw [z, e] at b; cases b]; exact b⟩
theorem KyA.updd {H : Hp} {C : Addr} {kvs : List (List Key × V)} {od : Obj} {o : HO} {v : V} {p : Str × Int} (h : KyA H v p) (e : H C = some (.frz od (.dT kvs))) : KyA (upd H C o) v p := by
  obtain ⟨t, a, b⟩ := h
  exact ⟨t, a, by rw [upd_ne fun z => by rw [z, e] at b; cases b]; exact b⟩
/-- what is kept of a key of the dict, the dict locked -/
theorem NpA.locked {Hb H : Hp} {D : Addr} {ps : List Pp} {kvs : List (List Key × V)} (h : NpA Hb H D ps kvs) {k : List Key} (hk : k ∈ ksP ps) : ∃ d vs, valV kvs k = some (.ref d) ∧ d ≠ D ∧ H d = some (.lst vs) ∧ DtAll SA Hb vs ((grp ps k).map ppD) ∧ vs.length = (grp ps k).length := by
  rcases h.at_ k with ⟨_, b⟩ | ⟨d, vs, a, b, c, f, _⟩
  · exact absurd b ((grp_ne ps k).mpr hk)
  · exact ⟨d, vs, a, b, c, f, by rw [f.len, List.length_map]⟩
theorem dget_lock {H : Hp} {D t : Addr} {od : Obj} {kvs : List (List Key × V)} {k : List Key} (e : H D = some (.frz od (.dT kvs))) (et : H t = some (.tup (k.map kV))) : DGet H D (.ref t) (valV kvs k) := .inr ⟨kvs, k, t, .inr ⟨od, e⟩, rfl, et, rfl⟩
theorem selK_len (kd : Str) (ks : List (List Key)) : (selK kd ks).length ≤ ks.length := List.length_filterMap_le _ _
theorem mem_selK {kd : Str} {ks : List (List Key)} {n : Int} : n ∈ selK kd ks ↔ kdn kd n ∈ ks := by
  unfold selK
  rw [List.mem_filterMap]
  refine ⟨fun ⟨k, hk, e⟩ => ?_, fun h => ⟨_, h, by unfold kdn; simp⟩⟩
  split at e
  · next a m =>
    split at e
    · next c => cases e; rw [← c]; exact hk
    · cases e
  · cases e
theorem mem_numsK {ps : List Pp} {kd : Str} {n : Int} : n ∈ numsK ps kd ↔ kdn kd n ∈ ksP ps := (List.mergeSort_perm _ _).mem_iff.trans mem_selK
theorem stand_at {ps : List Pp} {kd : Str} {n : Int} (h : cntK ps kd n = 1) : ∃ x, grp ps (kdn kd n) = [x] ∧ stOne ps kd n = [x] := by
  unfold cntK at h
  match e : grp ps (kdn kd n), h with
  | [x], _ => exact ⟨x, rfl, by unfold stOne; rw [e]⟩
/-! standing: the kind's standing papers, by number -/
section
variable {P : Program} {w : World} {K : PySem.W.Frag} {mg : Str → Option Value} {base : Heap} {k : Nat}
def sp_standing : Sp := fun vs H Q _ => ∃ (l : Addr) (kd : Str) (xs : List V) (ps : List Pp), vs = [.ref l, .str kd] ∧ H l = some (.lst xs) ∧ DtAll SA H xs (ps.map ppD) ∧ (∀ x ∈ ps, PpOk x) ∧ ps.length ≤ 2000 ∧
  ∀ H' r zs, Same H H' → H r = none → H' r = some (.lst zs) → DtAll SA H' zs ((standL ps kd).map ppD) → Q (.ref r) H'
set_option maxHeartbeats 8000000 in
theorem ok_standing (T : Defs K mg) : FnOk P w K mg base CX0 (k + 2) T.a_standing T.d_standing ["papers", "kind"] sp_standing := by
  have G_newest_papers : FnOk P w K mg base CX0 (k + 1) _ _ _ _ := ok_newest_papers (k := k) T
  refine T.F_standing.ok sc_standing (fun vs H Q E h => ?_) (fun cdv A outer s H vs Q E hr h => ?_)
  · obtain ⟨l, kd, xs, ps, rfl, _⟩ := h
    rfl
  · obtain ⟨l, kd, xs, ps, rfl, el, hx, hok, hn, q⟩ := h
    refine ⟨_, PSs.nox
(pss_cons (ps_set (i := 2) sc_standing.nd rfl (.inr rfl) (pe_call G_newest_papers hr (by rfl) T.g_newest_papers T.F_newest_papers.kp T.b_newest_papers .nil pass0 (pa_cons (pv 0) pa_nil)))
    (pss_cons (ps_set (i := 3) sc_standing.nd rfl (.inl rfl) (pe_callB (r := rSortD keyE K) (cr_sortD keyE hr.units) (by rfl) T.z_sorted (by decide +kernel) (pa_cons (pe_lock (pe_lc (own := [("key", 4)]) (g := gName 4) rfl sc_standing.nd (pi_keys (pv 2)) (blkOk_by (N := N_standing) (sc := defScope s_standing) (by decide +kernel)) (fun _ _ _ _ _ => (pg_name (i := 4) sc_standing.nd rfl (.inl rfl))) (fun _ _ _ _ _ => pts_one (PW.pt (pw_and (pt_cmpR op_eq (pe_ix (r := rIxT K) ix_tup (pv 4) (pe_int) (fun _ _ => rfl)) (pv 1) (nomark _)) (pw_and1 (pt_cmpR op_eq (pe_callB (r := rLenS K) call_lenS (by rfl) T.z_len (by decide +kernel) (pa_cons (pe_dget (hu_of hr) (pv 2) (pv 4) (fun _ _ => rfl)) pa_nil)) (pe_int) (nomark _)))))) (fun _ _ _ _ _ => (pv 4)))) pa_nil)))
    (pss_one (ps_ret (pe_lc (own := [("key", 4)]) (g := gName 4) rfl sc_standing.nd (pi_list (pv 3)) (blkOk_by (N := N_standing) (sc := defScope s_standing) (by decide +kernel)) (fun _ _ _ _ _ => (pg_name (i := 4) sc_standing.nd rfl (.inl rfl))) (fun _ _ _ _ _ => pts_nil) (fun _ _ _ _ _ => (pe_ix (r := rIxL K) ix_list (pe_dget (hu_of hr) (pv 2) (pv 4) (fun _ _ => rfl)) (pe_int) (fun _ _ => rfl))))))))
      , ?_⟩
    refine ⟨.ref l, rfl, l, xs, ps, rfl, el, hx, hok, hn, fun H1 D kvs s1 nD np => ?_⟩
    have kn : kvs.length = (ksP ps).length := by rw [← np.ks, List.length_map]
    have kl := ksP_len ps
    refine ⟨D, _, np.e, trivial, fun od => ⟨.ref D, rfl, D, od, rfl, .inr ⟨kvs, upd_same, fun C nC => ?_⟩⟩⟩
    have eDl : (upd H1 D (.frz od (.dT kvs))) D = some (.frz od (.dT kvs)) := upd_same
    have gl : ∀ d vs, d ≠ D → H1 d = some (.lst vs) → (upd H1 D (.frz od (.dT kvs))) d = some (.lst vs) := fun d vs nd e => by rw [upd_ne nd]; exact e
    have un := fun H' => same_unlock (H' := H') (o := .frz od (.dT kvs)) np.e
    generalize upd H1 D (.frz od (.dT kvs)) = HL at nC eDl gl un ⊢
    refine lc_it (walk_keysT (kvs := kvs)) (fun j Hy => ∃ zs, Same HL Hy ∧ Hy C = some (.lst zs) ∧ Paired (KyA Hy) zs (((selK kd ((ksP ps).take j)).filter fun n => cntK ps kd n == 1).map (Prod.mk kd))) ⟨[], same_upd nC, upd_same, .nil⟩ (fun j Hy _ pv => by obtain ⟨_, sy, _⟩ := pv; exact sy _ _ eDl) (fun j v Hy₀ Hy hj pv yy => ?_) (fun Hy pv => ?_)
    · obtain ⟨rfl, key, v0, t, ek, rfl, et⟩ := yy
      obtain ⟨zs, sy, eC, hzs⟩ := pv
      have ek2 : (ksP ps)[j]? = some key := by rw [← np.ks, List.getElem?_map, ek]; rfl
      obtain ⟨a, n, rfl⟩ := key_form (List.mem_of_getElem? ek2)
      have tk1 : (ksP ps).take (j + 1) = (ksP ps).take j ++ [kdn a n] := by rw [List.take_add_one, ek2]; rfl
      have zl := paired_len hzs
      have zl2 : zs.length ≤ 2000 := by
        rw [zl, List.length_map]
        have h1 := List.length_filter_le (fun n => cntK ps kd n == 1) (selK kd ((ksP ps).take j))
        have h2 := selK_len kd ((ksP ps).take j)
        have h3 : ((ksP ps).take j).length ≤ (ksP ps).length := by rw [List.length_take]; omega
        omega
      refine ⟨rfl, .ref t, rfl, t, _, 0, .str a, rfl, rfl, SqT.of et, atI_nat (j := 0) rfl, .str kd, rfl, rfl, _, rfl, ite2 (fun c => ?_) fun c => ?_⟩
      · have ea : a = kd := by injection of_decide_eq_true c
        subst ea
        obtain ⟨d, vs, ev, nd, ed, hd, vl⟩ := np.locked (List.mem_of_getElem? ek2)
        have dg := dget_lock (k := kdn a n) (sy _ _ eDl) et
        rw [ev] at dg
        refine ⟨.ref D, rfl, .ref t, rfl, D, .ref d, rfl, dg, ?_⟩
        refine ⟨d, vs, rfl, .inl (SqL.of (sy _ _ (gl _ _ nd ed))), rfl, _, rfl, ite2 (fun c2 => ?_) fun c2 => ?_⟩
        · have c1 : cntK ps a n = 1 := by
            have : ((vs.length : Nat) : Int) = 1 := by injection of_decide_eq_true c2
            unfold cntK
            omega
          refine ⟨.ref t, rfl, zs, eC, small5000 (by omega), zs ++ [.ref t], same_set sy nC, upd_same, ?_⟩
          rw [tk1, selK_snoc, if_pos rfl, List.filter_append, List.filter_cons_of_pos (by simp [c1]), List.map_append]
          exact paired_snoc (paired_imp hzs fun v _ p h => h.updl eC) (KyA.updl ⟨t, rfl, et⟩ eC)
        · have c1 : cntK ps a n ≠ 1 := fun z => c2 (decide_eq_true (by rw [vl]; unfold cntK at z; rw [z]; rfl))
          refine ⟨zs, sy, eC, ?_⟩
          rw [tk1, selK_snoc, if_pos rfl, List.filter_append, List.filter_cons_of_neg (by simp [c1]), List.filter_nil, List.append_nil]
          exact hzs
      · have na : a ≠ kd := fun z => c (decide_eq_true (by rw [z]))
        refine ⟨zs, sy, eC, ?_⟩
        rw [tk1, selK_snoc, if_neg na]
        exact hzs
    obtain ⟨zs, sy, eC, hzs⟩ := pv
    rw [kn, List.take_length] at hzs
    have eDy := sy _ _ eDl
    refine ⟨eDy, ?_⟩
    have s2 := un _ sy
    have nCD : C ≠ D := fun z => by rw [z, eDl] at nC; cases nC
    have eC2 : (upd Hy D (.dT kvs)) C = some (.lst zs) := by rw [upd_ne nCD]; exact eC
    have hz2 : Paired (KyA (upd Hy D (.dT kvs))) zs _ := paired_imp hzs fun v _ p h => h.updd eDy
    generalize upd Hy D (.dT kvs) = H2 at s2 eC2 hz2 ⊢
    refine ⟨C, zs, _, KyA H2, rfl, SqL.of eC2, hz2, fun v b _ r => r.dp, keys_alike _, keys_sortable _, fun b _ => by exact Nat.le_of_ble_eq_true rfl, fun L ys nL hys => ?_⟩
    rw [sort_keys, sort_filter] at hys
    have hys : Paired (KyA H2) ys (((numsK ps kd).filter fun n => cntK ps kd n == 1).map (Prod.mk kd)) := hys
    have s3 := same_upd (o := .lst ys) nL
    have eL : (upd H2 L (.lst ys)) L = some (.lst ys) := upd_same
    have np3 := np.same (s2.trans s3) (s2.trans s3)
    have s13 := s1.trans (s2.trans s3)
    have hy3 := paired_imp hys fun v _ p h => h.same s3
    have nk : ∀ n ∈ (numsK ps kd).filter (fun n => cntK ps kd n == 1), kdn kd n ∈ ksP ps ∧ cntK ps kd n = 1 := fun n hn => ⟨mem_numsK.mp (List.mem_filter.mp hn).1, by simpa using (List.mem_filter.mp hn).2⟩
    have yl : ys.length = ((numsK ps kd).filter fun n => cntK ps kd n == 1).length := by rw [paired_len hy3, List.length_map]
    have y2 : ys.length ≤ 2000 := by
      rw [yl]
      have h1 := List.length_filter_le (fun n => cntK ps kd n == 1) (numsK ps kd)
      have h2 : (numsK ps kd).length = (selK kd (ksP ps)).length := List.length_mergeSort _
      have h3 := selK_len kd (ksP ps)
      omega
    unfold standL at q
    generalize (numsK ps kd).filter (fun n => cntK ps kd n == 1) = ns at hys hy3 nk yl q
    generalize upd H2 L (.lst ys) = H3 at s3 eL np3 s13 hy3 ⊢
    refine ⟨.ref L, rfl, L, rfl, ⟨_, SqL.of eL⟩, fun R nR => ?_⟩
    refine lc_it (walk_list (xs := ys)) (fun j Hy => ∃ zs, Same H3 Hy ∧ Hy R = some (.lst zs) ∧ DtAll SA H3 zs ((((ns.take j).map (stOne ps kd)).flatten).map ppD) ∧ zs.length = j) ⟨[], same_upd nR, upd_same, .nil, rfl⟩ (fun j Hy _ pv => by obtain ⟨_, sy, _⟩ := pv; exact SqL.of (sy _ _ eL)) (fun j v Hy₀ Hy hj pv yy => ?_) (fun Hy pv => ?_)
    · obtain ⟨rfl, ex⟩ := yy
      obtain ⟨zs, sy, eR, hzs, zl⟩ := pv
      obtain ⟨p, ep, hp⟩ := paired_get hy3 ex
      obtain ⟨n, en, rfl⟩ : ∃ n, ns[j]? = some n ∧ (kd, n) = p := by
        rw [List.getElem?_map] at ep
        cases z : ns[j]? with
        | none => rw [z] at ep; cases ep
        | some n => rw [z] at ep; cases ep; exact ⟨n, rfl, rfl⟩
      obtain ⟨t, rfl, et⟩ := hp
      obtain ⟨ik, c1⟩ := nk n (List.mem_of_getElem? en)
      obtain ⟨d, vs, ev, nd, ed, hd, vl⟩ := np3.locked ik
      obtain ⟨x, eg, es⟩ := stand_at c1
      rw [eg] at hd
      obtain ⟨v1, rfl⟩ : ∃ v1, vs = [v1] := by
        cases hd with
        | cons _ h => cases h with | nil => exact ⟨_, rfl⟩
      have hv1 : Dt SA H3 v1 (ppD x) := by cases hd with | cons h _ => exact h
      have dg := DGet.t (k := kdn kd n) (sy _ _ np3.e) (sy _ _ et)
      rw [ev] at dg
      refine ⟨rfl, yes_ ⟨.ref D, rfl, .ref t, rfl, D, .ref d, rfl, dg, d, [v1], 0, v1, rfl, rfl, SqL.of (sy _ _ ed), atI_nat (j := 0) rfl, zs, eR, small5000 (by omega), zs ++ [v1], same_set sy nR, upd_same, ?_, by rw [List.length_append, zl]; rfl⟩⟩
      rw [List.take_add_one, en, List.map_append, List.flatten_append, List.map_append]
      show DtAll SA H3 _ (_ ++ ((([n].map (stOne ps kd)).flatten).map ppD))
      rw [show ([n].map (stOne ps kd)).flatten = [x] by show ([stOne ps kd n]).flatten = _; rw [es]; rfl]
      exact dtAll_snocA hzs hv1
    obtain ⟨zs, sy, eR, hzs, _⟩ := pv
    rw [yl, List.take_length] at hzs
    exact q _ _ _ (s13.trans sy) (up0 s13 nR) eR (hzs.same sy)
end
end Th
namespace Th
open PySem PySem.Spec PyProof.Rows L2
/-! tables of code objects -/
open LamX in
theorem ExtN.seq {K : PySem.W.Frag} {H H' : Hp} {a : Addr} {xs : List V} (e : ExtN H H') (h : SqL K H a xs) : SqL K H' a xs := by
  rcases h with (h | ⟨o, h⟩) | h
  · exact .inl (.inl (e _ _ h fun _ z => nomatch z))
  · exact .inl (.inr ⟨o, e _ _ h fun _ z => nomatch z⟩)
  · exact .inr h
theorem ExtN.free {H H' : Hp} (e : LamX.ExtN H H') {l : Addr} (h : H' l = none) (ht : ∀ ps, H l ≠ some (.tbl ps)) : H l = none := by
  cases q : H l with
  | none => rfl
  | some o =>
    rw [e l o q (fun ps z => ht ps (by rw [q, z]))] at h
    cases h
theorem ExtN.lst {H H' : Hp} (e : LamX.ExtN H H') {l : Addr} {xs : List V} (h : H l = some (.lst xs)) : H' l = some (.lst xs) := e _ _ h fun _ z => nomatch z
theorem ExtN.tup {H H' : Hp} (e : LamX.ExtN H H') {l : Addr} {xs : List V} (h : H l = some (.tup xs)) : H' l = some (.tup xs) := e _ _ h fun _ z => nomatch z
theorem tab_upd {H : Hp} {P p : Addr} {q : Str} {o u : HO} (t : LamX.TabS H P q) (hp : H p = some o) (n1 : ∀ ps, o ≠ .tbl ps) (n2 : ∀ c, o ≠ LamX.CodeO c q) : LamX.TabS (upd H p u) P q := by
  obtain ⟨ps, h1, h2, h3⟩ := t
  refine ⟨ps, ?_, h2, fun pos cv hc => ?_⟩
  · rw [upd_ne (fun z => n1 ps (by rw [← z, h1] at hp; exact (Option.some.inj hp).symm))]
    exact h1
  · obtain ⟨c, e1, e2⟩ := h3 pos cv hc
    refine ⟨c, e1, ?_⟩
    rw [upd_ne (fun z => n2 c (by rw [← z, e2] at hp; exact (Option.some.inj hp).symm))]
    exact e2
theorem lst_ne_code {xs : List V} (c : Addr) (q : Str) : HO.lst xs ≠ LamX.CodeO c q := fun z => by unfold LamX.CodeO at z; cases z
theorem tab_lst {H : Hp} {P p : Addr} {q : Str} {xs : List V} {u : HO} (t : LamX.TabS H P q) (hp : H p = some (.lst xs)) : LamX.TabS (upd H p u) P q :=
  tab_upd t hp (fun _ z => nomatch z) fun c => lst_ne_code c q
theorem ext_fresh {H H' : Hp} {p : Addr} {u : HO} (n : H p = none) (e : LamX.ExtN H H') : LamX.ExtN H (upd H' p u) := fun b o h nt => by
  rw [upd_ne (ne_of_none h n)]
  exact e b o h nt
theorem cut_take (xs : List V) (m : Nat) : cutV xs none (some (m : Int)) = xs.take m := by
  unfold cutV
  rw [HT.sIx_none, HT.sIx_nat]
  show (xs.drop 0).take (min m xs.length - 0) = xs.take m
  rw [List.drop_zero, Nat.sub_zero]
  by_cases h : m ≤ xs.length
  · rw [Nat.min_eq_left h]
  · rw [Nat.min_eq_right (by omega), List.take_length, List.take_of_length_le (by omega)]
theorem sum_lt : ∀ (ws : List Int), (∀ w ∈ ws, 0 ≤ w ∧ w < 2 ^ 63) → 0 ≤ ws.sum ∧ ws.sum ≤ ws.length * 2 ^ 63
  | [], _ => by simp
  | w :: ws, h => by
    have h1 := h w (List.mem_cons_self ..)
    have h2 := sum_lt ws fun x hx => h x (List.mem_cons_of_mem _ hx)
    rw [List.sum_cons, List.length_cons]
    omega
theorem wide_ok {z : Int} (h0 : 0 < z) (h1 : z ≤ 1000 * 2 ^ 63) : CDivW 0 z := by
  refine ⟨h0, ?_⟩
  refine Nat.lt_of_le_of_lt ?_ (show 99 < 9000 by decide)
  have h2 : z.natAbs < 2 ^ 100 := by omega
  have h3 : z.natAbs ≠ 0 := by omega
  have := (Nat.log2_lt h3).mpr h2
  omega
section
variable {P : Program} {w : World} {K : PySem.W.Frag} {mg : Str → Option Value} {base : Heap} {k : Nat}
/-- the rule for a def whose code object is known -/
theorem okC {x : Str} {st : Stmt} {f : Addr} {fd : FuncData} {N ps : List Str} {sp : Sp} (F : FnP K x st f fd) (S : FnScope N ps (defScope st)) (len : ∀ vs H Q E, sp vs H Q E → vs.length = ps.length)
    (hb : ∀ (A : Around) (outer : List Env) (s : Shared) (H : Hp) (vs : List V) (Q : VK) (E : XK), Room k (A.deeper (envOfC x (defScope st) s.heap.objs.size f fd.code)) → sp vs H Q E →
      ∃ t, PSs (cxOf CX0 P w K mg base N x (defScope st) f fd.code A outer s H E) (defBody st) t ∧ t { nx := fun _ H' => Q .non H', rt := Q } (start N vs) H) : FnOk P w K mg base CX0 (k + 1) f fd ps sp := by
  obtain ⟨oc, od, dV, kV, doc, pm, an, cdv, ct, osl, rfl, lk, hcd, _, _⟩ := F.ex
  exact fn_of lk hcd S len fun A outer s H vs Q E hr hsp => hb A outer s H vs Q E hr hsp
end
theorem ext_keep {H H1 H2 : Hp} {p : Addr} (e : LamX.ExtN H H1) (k : Keep p H1 H2) (n : H p = none) : LamX.ExtN H H2 := fun b o h nt => k b o (ne_of_none h n) (e b o h nt)
theorem ext_upd {H H1 : Hp} {p : Addr} {u : HO} (e : LamX.ExtN H H1) (n : H p = none) : LamX.ExtN H (upd H1 p u) := fun b o h nt => by
  rw [upd_ne (ne_of_none h n)]
  exact e b o h nt
theorem ext_same {H H1 H2 : Hp} (e : LamX.ExtN H H1) (s : Same H1 H2) : LamX.ExtN H H2 := e.trans (.of s)
/-- a store to what was new behind H1 -/
theorem ext_upd2 {H H1 H2 : Hp} {p : Addr} {u : HO} (e1 : LamX.ExtN H H1) (n : H1 p = none) (e2 : LamX.ExtN H H2) : LamX.ExtN H (upd H2 p u) := fun b o h nt => by
  rw [upd_ne (ne_of_none (e1 b o h nt) n)]
  exact e2 b o h nt
theorem tab_keep {H H' : Hp} {P p : Addr} {q : Str} (t : LamX.TabS H P q) (k : Keep p H H') (b : Bag H p) : LamX.TabS H' P q := by
  obtain ⟨ps, h1, h2, h3⟩ := t
  obtain ⟨g, r, eb, _⟩ := b
  refine ⟨ps, k _ _ (fun z => by rw [z, eb] at h1; cases h1) h1, h2, fun pos cv hc => ?_⟩
  obtain ⟨c, e1, e2⟩ := h3 pos cv hc
  refine ⟨c, e1, k _ _ (fun z => ?_) e2⟩
  rw [z, eb] at e2
  exact lst_ne_code _ q (Option.some.inj e2)
/-- p is none of what stood, tables aside -/
def NewN (H : Hp) (p : Addr) : Prop := ∀ b o, H b = some o → (∀ ps, o ≠ .tbl ps) → b ≠ p
theorem NewN.of {H : Hp} {p : Addr} (h : H p = none) : NewN H p := fun b o hb _ => ne_of_none hb h
theorem NewN.back {H H1 : Hp} {p : Addr} (e : LamX.ExtN H H1) (h : H1 p = none) : NewN H p := fun b o hb nt => ne_of_none (e b o hb nt) h
theorem NewN.lst {H : Hp} {p b : Addr} {xs : List V} (n : NewN H p) (h : H b = some (.lst xs)) : b ≠ p := n b _ h fun _ z => nomatch z
theorem ext_upd3 {H H1 H2 : Hp} {p : Addr} {u : HO} (e1 : LamX.ExtN H H1) (n : NewN H1 p) (e2 : LamX.ExtN H H2) : LamX.ExtN H (upd H2 p u) := fun b o h nt => by
  rw [upd_ne (n b o (e1 b o h nt) nt)]
  exact e2 b o h nt
/-! clashing: the kinds and numbers of which none stands -/
theorem sort_paired {α β : Type} {R : α → β → Prop} {r : α → α → Bool} {s : β → β → Bool} {as : List α} {bs : List β} (h : Paired R as bs) (hrs : ∀ a b a' b', R a b → R a' b' → r a a' = s b b') : Paired R (as.mergeSort r) (bs.mergeSort s) := by
  have zz : ∀ {as : List α} {bs : List β}, Paired R as bs → (as.zip bs).map (·.1) = as ∧ (as.zip bs).map (·.2) = bs ∧ ∀ p ∈ as.zip bs, R p.1 p.2 := by
    intro as bs h
    induction h with
    | nil => exact ⟨rfl, rfl, fun p h => (by cases h)⟩
    | cons h t ih =>
      obtain ⟨a, b, c⟩ := ih
      refine ⟨by rw [List.zip_cons_cons, List.map_cons, a], by rw [List.zip_cons_cons, List.map_cons, b], fun p hp => ?_⟩
      rw [List.zip_cons_cons] at hp
      rcases List.mem_cons.mp hp with z | z
      · rw [z]; exact h
      · exact c p z
  have of : ∀ {ps : List (α × β)}, (∀ p ∈ ps, R p.1 p.2) → Paired R (ps.map (·.1)) (ps.map (·.2)) := by
    intro ps
    induction ps with
    | nil => exact fun _ => .nil
    | cons p ps ih => exact fun h => .cons (h p List.mem_cons_self) (ih fun q hq => h q (List.mem_cons_of_mem _ hq))
  obtain ⟨e1, e2, e3⟩ := zz h
  have m1 := List.map_mergeSort (r := fun p q : α × β => s p.2 q.2) (s := r) (f := fun p : α × β => p.1) (l := as.zip bs) fun a ha b hb => (hrs _ _ _ _ (e3 a ha) (e3 b hb)).symm
  have m2 := List.map_mergeSort (r := fun p q : α × β => s p.2 q.2) (s := s) (f := fun p : α × β => p.2) (l := as.zip bs) fun a ha b hb => rfl
  rw [e1] at m1
  rw [e2] at m2
  rw [← m1, ← m2]
  exact of fun p hp => e3 p ((List.mergeSort_perm _ _).mem_iff.mp hp)
def prsK (ks : List (List Key)) : List (Str × Int) := ks.filterMap fun k => match k with
  | [.inr a, .inl n] => some (a, n)
  | _ => none
theorem prsK_snoc (a : Str) (n : Int) (ks : List (List Key)) : prsK (ks ++ [kdn a n]) = prsK ks ++ [(a, n)] := by
  unfold prsK
  rw [List.filterMap_append]
  rfl
theorem mem_prsK {a : Str} {n : Int} {ks : List (List Key)} : (a, n) ∈ prsK ks ↔ kdn a n ∈ ks := by
  unfold prsK
  rw [List.mem_filterMap]
  refine ⟨fun ⟨k, hk, e⟩ => ?_, fun h => ⟨_, h, rfl⟩⟩
  split at e
  · cases e; exact hk
  · cases e
def twoK (ps : List Pp) (p : Str × Int) : Bool := decide (1 < cntK ps p.1 p.2)
def clashS (ps : List Pp) : List (Str × Int) := (prsK (ksP ps)).filter (twoK ps)
def clashLe : Str × Int → Str × Int → Bool := PySem.W.dataLe false (Lka.key2 (Lka.kIx KINDS_L))
def clashL (ps : List Pp) : List (Str × Int) := (clashS ps).mergeSort clashLe
theorem prs_len (ks : List (List Key)) : (prsK ks).length ≤ ks.length := List.length_filterMap_le _ _
def kyF (H : Hp) (t : Addr) : Str × Int := match H t with
  | some (.tup [.str a, .int n]) => (a, n)
  | _ => (("" : Str), 0)
theorem kyF_of {H : Hp} {t : Addr} {p : Str × Int} (e : H t = some (.tup [.str p.1, .int p.2])) : kyF H t = p := by
  unfold kyF
  rw [e]
theorem paired_refs {β : Type} {R : V → β → Prop} : ∀ {ts : List Addr} {bs : List β}, Paired (fun t b => R (.ref t) b) ts bs → Paired R (ts.map V.ref) bs
  | _, _, .nil => .nil
  | _, _, .cons h t => .cons h (paired_refs t)
section
variable {P : Program} {w : World} {K : PySem.W.Frag} {mg : Str → Option Value} {base : Heap} {k : Nat}
abbrev qCl : Str := (Str.ofString "clashing" ++ Str.ofString ".<locals>.") ++ Str.ofString "<lambda>"
abbrev TabC (T : Defs K mg) (H : Hp) : Prop := LamX.TabS H T.tp_clashing qCl
theorem tabC_same {T : Defs K mg} {H H' : Hp} (t : TabC T H) (s : Same H H') : TabC T H' := by
  obtain ⟨ps, h1, h2, h3⟩ := t
  exact ⟨ps, s _ _ h1, h2, fun pos cv hc => let ⟨c, e1, e2⟩ := h3 pos cv hc; ⟨c, e1, s _ _ e2⟩⟩
def sp_clashing (T : Defs K mg) : Sp := fun vs H Q _ => ∃ (l : Addr) (xs : List V) (ps : List Pp), vs = [.ref l] ∧ H l = some (.lst xs) ∧ DtAll SA H xs (ps.map ppD) ∧ (∀ x ∈ ps, PpOk x ∧ x.kd ∈ KINDS_L) ∧ ps.length ≤ 2000 ∧ TabC T H ∧
  ∀ H' r zs, LamX.ExtN H H' → TabC T H' → NewN H r → H' r = some (.lst zs) → Paired (KyA H') zs (clashL ps) → Q (.ref r) H'
set_option maxHeartbeats 8000000 in
theorem ok_clashing (T : Defs K mg) (TB : LamX.TabB base mg T.cc_clashing T.tp_clashing) : FnOk P w K mg base CX0 4 T.a_clashing T.d_clashing ["papers"] (sp_clashing T) := by
  have G_newest_papers : FnOk P w K mg base CX0 3 _ _ _ _ := ok_newest_papers (k := 2) T
  refine okC T.F_clashing sc_clashing (fun vs H Q E h => ?_) (fun A outer s H vs Q E hr h => ?_)
  · obtain ⟨l, xs, ps, rfl, _⟩ := h
    rfl
  · obtain ⟨l, xs, ps, rfl, el, hx, hok, hn, hT, q⟩ := h
    refine ⟨_, PSs.nox
(pss_cons (ps_set (i := 1) sc_clashing.nd rfl (.inr rfl) (pe_call G_newest_papers hr (by rfl) T.g_newest_papers T.F_newest_papers.kp T.b_newest_papers .nil pass0 (pa_cons (pv 0) pa_nil)))
    (pss_cons (ps_lock (ps_setLc (i := 2) (own := [("key", 3)]) (g := gName 3) rfl sc_clashing.nd rfl rfl (sw_true rfl rfl rfl (by decide +kernel)) (pi_keys (pv 1)) (blkOk_by (N := N_clashing) (sc := defScope s_clashing) (by decide +kernel)) (fun _ _ _ _ _ => (pg_name (i := 3) sc_clashing.nd rfl (.inl rfl))) (fun _ _ _ _ _ => pts_one (pt_cmpR op_gt (pe_callB (r := rLenS K) call_lenS (by rfl) T.z_len (by decide +kernel) (pa_cons (pe_dget (hu_of hr) (pv 1) (pv 3) (fun _ _ => rfl)) pa_nil)) (pe_int) (nomark _))) (fun _ _ _ _ _ => (pv 3))))
    (pss_one (ps_ret (Lka.pe_sortedKey (k := 0) (ys := KINDS_L) rfl (by rfl) T.z_sorted (pv 2) TB T.dc_clashing (Lka.lamK_by rfl rfl rfl (by decide +kernel) (by decide +kernel) (by decide +kernel)) rfl T.g_KINDS T.k_KINDS T.u_KINDS (fun _ _ _ _ _ _ _ => rfl) hr (by decide) (by decide))))))
      , ?_⟩
    refine ⟨.ref l, rfl, l, xs, ps, rfl, el, hx, fun x h => (hok x h).1, hn, fun H1 D kvs s1 nD np => ?_⟩
    have kn : kvs.length = (ksP ps).length := by rw [← np.ks, List.length_map]
    have kl := ksP_len ps
    refine ⟨D, _, np.e, trivial, fun od => ⟨.ref D, rfl, D, od, rfl, .inr ⟨kvs, upd_same, fun C nC => ?_⟩⟩⟩
    have eDl : (upd H1 D (.frz od (.dT kvs))) D = some (.frz od (.dT kvs)) := upd_same
    have gl : ∀ d vs, d ≠ D → H1 d = some (.lst vs) → (upd H1 D (.frz od (.dT kvs))) d = some (.lst vs) := fun d vs nd e => by rw [upd_ne nd]; exact e
    have un := fun H' => same_unlock (H' := H') (o := .frz od (.dT kvs)) np.e
    generalize upd H1 D (.frz od (.dT kvs)) = HL at nC eDl gl un ⊢
    refine lc_it (walk_keysT (kvs := kvs)) (fun j Hy => ∃ ts : List Addr, Same HL Hy ∧ Hy C = some (.lst (ts.map V.ref)) ∧ Paired (fun t p => KyA Hy (.ref t) p) ts ((prsK ((ksP ps).take j)).filter (twoK ps))) ⟨[], same_upd nC, upd_same, .nil⟩ (fun j Hy _ pv => by obtain ⟨_, sy, _⟩ := pv; exact sy _ _ eDl) (fun j v Hy₀ Hy hj pv yy => ?_) (fun Hy pv => ?_)
    · obtain ⟨rfl, key, v0, t, ek, rfl, et⟩ := yy
      obtain ⟨ts, sy, eC, hzs⟩ := pv
      have ek2 : (ksP ps)[j]? = some key := by rw [← np.ks, List.getElem?_map, ek]; rfl
      obtain ⟨a, n, rfl⟩ := key_form (List.mem_of_getElem? ek2)
      have tk1 : (ksP ps).take (j + 1) = (ksP ps).take j ++ [kdn a n] := by rw [List.take_add_one, ek2]; rfl
      have zl := paired_len hzs
      have zl2 : ts.length ≤ 2000 := by
        rw [zl]
        have h1 := List.length_filter_le (twoK ps) (prsK ((ksP ps).take j))
        have h2 := prs_len ((ksP ps).take j)
        have h3 : ((ksP ps).take j).length ≤ (ksP ps).length := by rw [List.length_take]; omega
        omega
      obtain ⟨d, vs, ev, nd, ed, hd, vl⟩ := np.locked (List.mem_of_getElem? ek2)
      have dg := dget_lock (k := kdn a n) (sy _ _ eDl) et
      rw [ev] at dg
      refine ⟨rfl, .ref D, rfl, .ref t, rfl, D, .ref d, rfl, dg, d, vs, rfl, .inl (SqL.of (sy _ _ (gl _ _ nd ed))), _, _, rfl, rfl, _, rfl, ite2 (fun c2 => ?_) fun c2 => ?_⟩
      · have c1 : twoK ps (a, n) = true := by
          have : (1 : Int) < ((vs.length : Nat) : Int) := of_decide_eq_true c2
          unfold twoK cntK
          exact decide_eq_true (by show 1 < (grp ps (kdn a n)).length; omega)
        refine ⟨.ref t, rfl, _, eC, by rw [List.length_map]; exact small5000 (by omega), ts ++ [t], same_set sy nC, by rw [upd_same, List.map_append]; rfl, ?_⟩
        rw [tk1, prsK_snoc, List.filter_append, List.filter_cons_of_pos c1]
        exact paired_snoc (paired_imp hzs fun v _ p h => h.updl eC) (KyA.updl ⟨t, rfl, et⟩ eC)
      · have c1 : twoK ps (a, n) = false := by
          unfold twoK cntK
          refine decide_eq_false fun z => c2 (decide_eq_true ?_)
          have z : 1 < (grp ps (kdn a n)).length := z
          show (1 : Int) < ((vs.length : Nat) : Int)
          omega
        refine ⟨ts, sy, eC, ?_⟩
        rw [tk1, prsK_snoc, List.filter_append, List.filter_cons_of_neg (by rw [c1]; decide), List.filter_nil, List.append_nil]
        exact hzs
    obtain ⟨ts, sy, eC, hzs⟩ := pv
    rw [kn, List.take_length] at hzs
    have eDy := sy _ _ eDl
    refine ⟨eDy, ?_⟩
    have s2 := un _ sy
    have nCD : C ≠ D := fun z => by rw [z, eDl] at nC; cases nC
    have eC2 : (upd Hy D (.dT kvs)) C = some (.lst (ts.map V.ref)) := by rw [upd_ne nCD]; exact eC
    have hz2 : Paired (fun t p => KyA (upd Hy D (.dT kvs)) (.ref t) p) ts _ := paired_imp hzs fun v _ p h => h.updd eDy
    generalize upd Hy D (.dT kvs) = H2 at s2 eC2 hz2 ⊢
    have s12 := s1.trans s2
    have tl := paired_len hz2
    have t2 : ts.length ≤ 5000 := by
      rw [tl]
      have h1 := List.length_filter_le (twoK ps) (prsK (ksP ps))
      have h2 := prs_len (ksP ps)
      omega
    have hz3 : Paired (fun t p => H2 t = some (.tup [.str p.1, .int p.2])) ts (clashS ps) := paired_imp hz2 fun t _ p ⟨t', e, h⟩ => by cases e; exact h
    refine ⟨.ref C, rfl, C, ts, kyF H2, rfl, t2, SqL.of eC2, fun t ht => ?_, tabC_same hT s12, fun H3 L e3 tb3 nL => ?_⟩
    · obtain ⟨i, hi⟩ := List.getElem?_of_mem ht
      obtain ⟨p, ep, hp⟩ := paired_get hz3 hi
      rw [kyF_of hp]
      refine ⟨?_, SqT.of hp⟩
      have hp2 := List.mem_of_getElem? ep
      unfold clashS at hp2
      obtain ⟨x, hx, e⟩ := (mem_ksP ps _).mp (mem_prsK.mp (List.mem_filter.mp (show (p.1, p.2) ∈ _ from hp2)).1)
      rw [← (kdn_inj e).1]
      exact (hok x hx).2
    · have hs := sort_paired (r := PySem.W.dataLe false (Lka.key2 fun t => Lka.kIx KINDS_L (kyF H2 t))) (s := clashLe) hz3 fun a b a' b' h h' => by
        unfold clashLe PySem.W.dataLe PySem.W.sortLe
        show (!PyProof.Rows.KeyOrd.blt _ _ _) = (!PyProof.Rows.KeyOrd.blt _ _ _)
        unfold Lka.key2
        simp only [kyF_of h, kyF_of h']
      have eN := (LamX.ExtN.of s12).trans e3
      have sL := same_upd (o := .lst ((ts.mergeSort (PySem.W.dataLe false (Lka.key2 fun t => Lka.kIx KINDS_L (kyF H2 t)))).map V.ref)) nL
      exact q _ L _ (ext_same eN sL) (tabC_same tb3 sL) (NewN.back eN nL) upd_same (paired_refs (paired_imp hs fun t _ p h => ⟨t, rfl, sL _ _ (e3 _ _ h fun _ z => nomatch z)⟩))
end
end Th
namespace Th
open PySem PySem.Spec PyProof.Rows L2
/-! days, sums, numbers, lines -/
section
variable {P : Program} {w : World} {K : PySem.W.Frag} {mg : Str → Option Value} {base : Heap} {k : Nat}
def sp_l_day : Sp := fun vs H Q _ => ∃ p : Addr, vs = [.ref p] ∧ Bag H p ∧ ∀ H' d, Keep p H H' → Bag H' p → 1 ≤ d → d ≤ 420 → Q (.int d) H'
theorem ok_l_day (T : Defs K mg) : FnOk P w K mg base CX0 (k + 2) T.a_l_day T.d_l_day ["_law_bag_here"] sp_l_day := by
  have G_l_take : FnOk P w K mg base CX0 (k + 1) _ _ _ _ := ok_l_take (k := k) T
  refine T.F_l_day.ok sc_l_day (fun vs H Q E h => ?_) (fun cdv A outer s H vs Q E hr h => ?_)
  · obtain ⟨p, rfl, _⟩ := h
    rfl
  · obtain ⟨p, rfl, b, q⟩ := h
    refine ⟨_, PSs.nox
(pss_one (ps_ret (pe_op op_add (pe_int) (pe_call G_l_take hr (by rfl) T.g_l_take T.F_l_take.kp T.b_l_take .nil pass0 (pa_cons (pv 0) (pa_cons (pe_ix (r := rIxT K) ix_tup (pe_tup (pa_cons (pe_int) (pa_cons (pe_int) (pa_cons (pe_int) pa_nil)))) (pe_call G_l_take hr (by rfl) T.g_l_take T.F_l_take.kp T.b_l_take .nil pass0 (pa_cons (pv 0) (pa_cons (pe_int) pa_nil))) (fun _ _ => rfl)) pa_nil))))))
      , ?_⟩
    refine ⟨.ref p, rfl, by show 3 ≤ sizeLine; decide, fun t nt => ?_⟩
    have st := same_upd (o := .tup [.int 60, .int 90, .int 420]) nt
    have bt := b.keep st
    refine ⟨.ref p, rfl, p, 3, rfl, bt, by decide, by decide, fun H1 c k1 b1 c0 c1 => ?_⟩
    obtain ⟨m, hm, em⟩ := pick (ms := [60, 90, 420]) c0 c1
    refine ⟨t, _, c, _, rfl, rfl, SqT.of (k1 _ _ (b.ne nt) upd_same), em, ?_⟩
    have hm : m = 60 ∨ m = 90 ∨ m = 420 := by simpa using hm
    refine ⟨p, m, rfl, b1, by omega, by omega, fun H2 d k2 b2 e0 e1 => ⟨1, d, rfl, rfl, q _ _ (((Keep.of st).trans k1).trans k2) b2 ?_ ?_⟩⟩
    · show 1 ≤ 1 + d; omega
    · show 1 + d ≤ 420; omega
def sp_l_num : Sp := fun vs H Q _ => ∃ p : Addr, vs = [.ref p] ∧ Bag H p ∧ ∀ H' d, Keep p H H' → Bag H' p → 0 ≤ d → d ≤ 1000000000 → Q (.int d) H'
theorem ok_l_sum (T : Defs K mg) : FnOk P w K mg base CX0 (k + 2) T.a_l_sum T.d_l_sum ["_law_bag_here"] sp_l_num := by
  have G_l_take : FnOk P w K mg base CX0 (k + 1) _ _ _ _ := ok_l_take (k := k) T
  refine T.F_l_sum.ok sc_l_sum (fun vs H Q E h => ?_) (fun cdv A outer s H vs Q E hr h => ?_)
  · obtain ⟨p, rfl, _⟩ := h
    rfl
  · obtain ⟨p, rfl, b, q⟩ := h
    refine ⟨_, PSs.nox
(pss_one (ps_ret (pe_ix (r := rIxT K) ix_tup (pe_tup (pa_cons (pe_call G_l_take hr (by rfl) T.g_l_take T.F_l_take.kp T.b_l_take .nil pass0 (pa_cons (pv 0) (pa_cons (pe_int) pa_nil))) (pa_cons (pe_call G_l_take hr (by rfl) T.g_l_take T.F_l_take.kp T.b_l_take .nil pass0 (pa_cons (pv 0) (pa_cons (pe_op op_pow (pe_int) (pe_int)) pa_nil))) (pa_cons (pe_call G_l_take hr (by rfl) T.g_l_take T.F_l_take.kp T.b_l_take .nil pass0 (pa_cons (pv 0) (pa_cons (pe_op op_add (pe_op op_pow (pe_int) (pe_int)) (pe_int)) pa_nil))) pa_nil)))) (pe_call G_l_take hr (by rfl) T.g_l_take T.F_l_take.kp T.b_l_take .nil pass0 (pa_cons (pv 0) (pa_cons (pe_int) pa_nil))) (fun _ _ => rfl))))
      , ?_⟩
    refine ⟨.ref p, rfl, p, 20, rfl, b, by decide, by decide, fun H1 x1 k1 b1 a0 a1 => ⟨.ref p, rfl, 10, 6, rfl, rfl, ⟨by decide, by decide, by decide⟩, p, _, rfl, b1, by decide, by decide, fun H2 x2 k2 b2 c0 c1 => ⟨.ref p, rfl, 10, 9, rfl, rfl, ⟨by decide, by decide, by decide⟩, _, 1, rfl, rfl, p, _, rfl, b2, by decide, by decide, fun H3 x3 k3 b3 e0 e1 => ⟨by show 3 ≤ sizeLine; decide, fun t nt => ?_⟩⟩⟩⟩
    have st := same_upd (o := .tup [.int x1, .int x2, .int x3]) nt
    refine ⟨.ref p, rfl, p, 3, rfl, b3.keep st, by decide, by decide, fun H4 c k4 b4 i0 i1 => ?_⟩
    obtain ⟨m, hm, em⟩ := pick (ms := [x1, x2, x3]) i0 i1
    refine ⟨t, _, c, _, rfl, rfl, SqT.of (k4 _ _ (b3.ne nt) upd_same), em, ?_⟩
    have hm : m = x1 ∨ m = x2 ∨ m = x3 := by simpa using hm
    have c1 : x2 < 10 ^ 6 := c1
    have e1 : x3 < 10 ^ 9 + 1 := e1
    exact q _ _ ((((k1.trans k2).trans k3).trans (.of st)).trans k4) b4 (by omega) (by omega)
theorem ok_l_number (T : Defs K mg) : FnOk P w K mg base CX0 (k + 2) T.a_l_number T.d_l_number ["_law_bag_here"] sp_l_num := by
  have G_l_take : FnOk P w K mg base CX0 (k + 1) _ _ _ _ := ok_l_take (k := k) T
  refine T.F_l_number.ok sc_l_number (fun vs H Q E h => ?_) (fun cdv A outer s H vs Q E hr h => ?_)
  · obtain ⟨p, rfl, _⟩ := h
    rfl
  · obtain ⟨p, rfl, b, q⟩ := h
    refine ⟨_, PSs.nox
(pss_one (ps_ret (pe_ix (r := rIxT K) ix_tup (pe_tup (pa_cons (pe_op op_add (pe_int) (pe_call G_l_take hr (by rfl) T.g_l_take T.F_l_take.kp T.b_l_take .nil pass0 (pa_cons (pv 0) (pa_cons (pe_int) pa_nil)))) (pa_cons (pe_op op_add (pe_int) (pe_call G_l_take hr (by rfl) T.g_l_take T.F_l_take.kp T.b_l_take .nil pass0 (pa_cons (pv 0) (pa_cons (pe_int) pa_nil)))) (pa_cons (pe_op op_add (pe_int) (pe_call G_l_take hr (by rfl) T.g_l_take T.F_l_take.kp T.b_l_take .nil pass0 (pa_cons (pv 0) (pa_cons (pe_int) pa_nil)))) pa_nil)))) (pe_call G_l_take hr (by rfl) T.g_l_take T.F_l_take.kp T.b_l_take .nil pass0 (pa_cons (pv 0) (pa_cons (pe_int) pa_nil))) (fun _ _ => rfl))))
      , ?_⟩
    refine ⟨.ref p, rfl, p, 4, rfl, b, by decide, by decide, fun H1 x1 k1 b1 a0 a1 => ⟨1, x1, rfl, rfl, .ref p, rfl, p, 9, rfl, b1, by decide, by decide, fun H2 x2 k2 b2 c0 c1 => ⟨1, x2, rfl, rfl, .ref p, rfl, p, 9999, rfl, b2, by decide, by decide, fun H3 x3 k3 b3 e0 e1 => ⟨1, x3, rfl, rfl, by show 3 ≤ sizeLine; decide, fun t nt => ?_⟩⟩⟩⟩
    have st := same_upd (o := .tup [.int (1 + x1), .int (1 + x2), .int (1 + x3)]) nt
    refine ⟨.ref p, rfl, p, 3, rfl, b3.keep st, by decide, by decide, fun H4 c k4 b4 i0 i1 => ?_⟩
    obtain ⟨m, hm, em⟩ := pick (ms := [1 + x1, 1 + x2, 1 + x3]) i0 i1
    refine ⟨t, _, c, _, rfl, rfl, SqT.of (k4 _ _ (b3.ne nt) upd_same), em, ?_⟩
    have hm : m = 1 + x1 ∨ m = 1 + x2 ∨ m = 1 + x3 := by simpa using hm
    exact q _ _ ((((k1.trans k2).trans k3).trans (.of st)).trans k4) b4 (by omega) (by omega)
def sp_l_line : Sp := fun vs H Q _ => ∃ (p r : Addr) (ls : List Nm) (sts : List (Nm × Nm)) (jns : List (Nm × List Nm)) (tis : List Ti), vs = [.ref p, .ref r] ∧ Bag H p ∧ NetAt H r ls sts jns tis ∧ 1 ≤ ls.length ∧ ls.length ≤ 8 ∧ ∀ H' z, Keep p H H' → Bag H' p → z ∈ ls → Q (nS z) H'
theorem ok_l_line (T : Defs K mg) : FnOk P w K mg base CX0 (k + 2) T.a_l_line T.d_l_line ["_law_bag_here", "_law_net_here"] sp_l_line := by
  have G_l_take : FnOk P w K mg base CX0 (k + 1) _ _ _ _ := ok_l_take (k := k) T
  refine T.F_l_line.ok sc_l_line (fun vs H Q E h => ?_) (fun cdv A outer s H vs Q E hr h => ?_)
  · obtain ⟨p, r, ls, sts, jns, tis, rfl, _⟩ := h
    rfl
  · obtain ⟨p, r, ls, sts, jns, tis, rfl, b, hnet, l1, l8, q⟩ := h
    obtain ⟨ra, rb, rc, rd, sa, ja, ta, er, hra, _⟩ := hnet
    refine ⟨_, PSs.nox
(pss_one (ps_ret (pe_ix (r := rIxT K) ix_tup (pe_ix (r := rIxT K) ix_tup (pv 1) (pe_int) (fun _ _ => rfl)) (pe_call G_l_take hr (by rfl) T.g_l_take T.F_l_take.kp T.b_l_take .nil pass0 (pa_cons (pv 0) (pa_cons (pe_callB (r := rLenS K) call_lenS (by rfl) T.z_len (by decide +kernel) (pa_cons (pe_ix (r := rIxT K) ix_tup (pv 1) (pe_int) (fun _ _ => rfl)) pa_nil)) pa_nil))) (fun _ _ => rfl))))
      , ?_⟩
    refine ⟨.ref r, rfl, r, _, 0, .ref ra, rfl, rfl, SqT.of er, atI_nat (j := 0) rfl, .ref p, rfl, .ref r, rfl, r, _, 0, .ref ra, rfl, rfl, SqT.of er, atI_nat (j := 0) rfl, ra, _, rfl, .inr hra.sq, p, _, rfl, b, by rw [List.length_map]; omega, by rw [List.length_map]; omega, fun H8 d k8 b8 d0 d1 => ?_⟩
    rw [List.length_map] at d1
    obtain ⟨d, rfl⟩ : ∃ xn : Nat, d = (xn : Int) := ⟨d.toNat, by omega⟩
    have dl : d < ls.length := by omega
    exact ⟨ra, _, d, nS ls[d], rfl, rfl, (hra.keep k8 b).sq, atI_nat (j := d) (by rw [List.getElem?_map, List.getElem?_eq_getElem dl]; rfl), q _ _ k8 b8 (List.getElem_mem dl)⟩
end
end Th
namespace Th
open PySem PySem.Spec PyProof.Rows L2
/-! a drawn way of the house's net -/
def hPath (S J : Nat → Nm) (i j : Nat) : List Nm := S i :: ((List.range (j - i)).map fun k => J (i + k)) ++ [S j]
def WayH (n m2 : Nat) (S T J : Nat → Nm) (gs : List Nm) : Prop := (∃ k, k < m2 ∧ (gs = [S k, T k] ∨ gs = [T k, S k])) ∨ ∃ i j, i < j ∧ j < n ∧ (gs = hPath S J i j ∨ gs = (hPath S J i j).reverse)
theorem cut_dropH (xs : List V) (m : Nat) : cutV xs (some (m : Int)) none = xs.drop m := by
  unfold cutV
  rw [HT.sIx_none, HT.sIx_nat]
  by_cases h : m ≤ xs.length
  · rw [Nat.min_eq_left h]
    exact List.take_of_length_le (by rw [List.length_drop]; omega)
  · rw [Nat.min_eq_right (by omega), Nat.sub_self, List.take_zero, List.drop_eq_nil_of_le (by omega)]
theorem paired_getR {α β : Type} {R : α → β → Prop} {as : List α} {bs : List β} (h : Paired R as bs) {j : Nat} {y : β} (e : bs[j]? = some y) : ∃ x, as[j]? = some x ∧ R x y := by
  have hl := paired_len h
  have jl : j < as.length := by rw [hl]; exact (List.getElem?_eq_some_iff.mp e).1
  obtain ⟨y', e', r⟩ := paired_get h (List.getElem?_eq_getElem jl)
  rw [e] at e'
  cases e'
  exact ⟨_, List.getElem?_eq_getElem jl, r⟩
section
variable {P : Program} {w : World} {K : PySem.W.Frag} {mg : Str → Option Value} {base : Heap} {k : Nat}
/-- a net's tuple and what it holds -/
def sp_l_way : Sp := fun vs H Q _ => ∃ (p r : Addr) (n m2 kk sd : Nat) (f0 b0 f1 b1 f2 b2 f3 b3 : Nm) (d0 d1 d2 d3 : Nat) (jx : List (Nm × List Nm)) (tis : List Ti), vs = [.ref p, .ref r] ∧ Bag H p ∧ NetH H r n m2 kk sd f0 b0 f1 b1 f2 b2 f3 b3 d0 d1 d2 d3 jx tis ∧
  ∀ (H' : Hp) (t : Addr) (gs : List Nm), Keep p H H' → Bag H' p → H' t = some (.tup (gs.map nS)) → WayH n m2 (hNm f1 d1 b1) (hNm f2 d2 b2) (hNm f3 d3 b3) gs → Q (.ref t) H'
set_option maxHeartbeats 8000000 in
theorem ok_l_way (T : Defs K mg) : FnOk P w K mg base CX0 (k + 2) T.a_l_way T.d_l_way ["_law_bag_here", "_law_net_here"] sp_l_way := by
  have G_l_take : FnOk P w K mg base CX0 (k + 1) _ _ _ _ := ok_l_take (k := k) T
  refine T.F_l_way.ok sc_l_way (fun vs H Q E h => ?_) (fun cdv A outer s H vs Q E hr h => ?_)
  · obtain ⟨p, r, n, m2, kk, sd, f0, b0, f1, b1, f2, b2, f3, b3, d0, d1, d2, d3, jx, tis, rfl, _⟩ := h
    rfl
  · obtain ⟨p, r, n, m2, kk, sd, f0, b0, f1, b1, f2, b2, f3, b3, d0, d1, d2, d3, jx, tis, rfl, b, hnet, q⟩ := h
    refine ⟨_, PSs.nox
(pss_cons (ps_set (i := 2) sc_l_way.nd rfl (.inl rfl) (pe_callB (r := rLenS K) call_lenS (by rfl) T.z_len (by decide +kernel) (pa_cons (pe_ix (r := rIxT K) ix_tup (pv 1) (pe_int) (fun _ _ => rfl)) pa_nil)))
    (pss_cons (ps_par (i := 3) (j := 4) (by rfl) sc_l_way.nd rfl rfl (by decide) rfl rfl (pa_cons (pe_call G_l_take hr (by rfl) T.g_l_take T.F_l_take.kp T.b_l_take .nil pass0 (pa_cons (pv 0) (pa_cons (pv 2) pa_nil))) (pa_cons (pe_call G_l_take hr (by rfl) T.g_l_take T.F_l_take.kp T.b_l_take .nil pass0 (pa_cons (pv 0) (pa_cons (pv 2) pa_nil))) pa_nil)) (by rfl))
    (pss_cons (ps_par (i := 5) (j := 6) (by rfl) sc_l_way.nd rfl rfl (by decide) rfl rfl (pa_cons (pe_slice (r := rSlT K) sl_tup (pe_ix (r := rIxT K) ix_tup (pv 1) (pe_int) (fun _ _ => rfl)) po_none (po_some (pv 2))) (pa_cons (pe_slice (r := rSlT K) sl_tup (pe_ix (r := rIxT K) ix_tup (pv 1) (pe_int) (fun _ _ => rfl)) (po_some (pv 2)) po_none) pa_nil)) (by rfl))
    (pss_cons (ps_if (pt_cmpR op_eq (pv 3) (pv 4) (nomark _))
      (pss_cons (ps_set (i := 7) sc_l_way.nd rfl (.inl rfl) (pe_op op_mod (pv 3) (pe_callB (r := rLenS K) call_lenS (by rfl) T.z_len (by decide +kernel) (pa_cons (pv 6) pa_nil))))
      (pss_one (ps_ret (Sr.pe_stpT (K := K) (pe_tup (pa_cons (pe_ix (r := rIxT K) ix_tup (pe_ix (r := rIxT K) ix_tup (pv 5) (pv 7) (fun _ _ => rfl)) (pe_int) (fun _ _ => rfl)) (pa_cons (pe_ix (r := rIxT K) ix_tup (pe_ix (r := rIxT K) ix_tup (pv 6) (pv 7) (fun _ _ => rfl)) (pe_int) (fun _ _ => rfl)) pa_nil))) (pe_op op_sub (pe_int) (pe_op op_mul (pe_int) (pe_call G_l_take hr (by rfl) T.g_l_take T.F_l_take.kp T.b_l_take .nil pass0 (pa_cons (pv 0) (pa_cons (pe_int) pa_nil)))))))))
      pss_nil)
    (pss_cons (ps_par (i := 8) (j := 9) (by rfl) sc_l_way.nd rfl rfl (by decide) rfl rfl (pa_cons (pe_callB (call_min2 rfl) (by rfl) T.z_min (by decide +kernel) (pa_cons (pv 3) (pa_cons (pv 4) pa_nil))) (pa_cons (pe_callB (call_max2 rfl) (by rfl) T.z_max (by decide +kernel) (pa_cons (pv 3) (pa_cons (pv 4) pa_nil))) pa_nil)) (by rfl))
    (pss_cons (ps_set (i := 10) sc_l_way.nd rfl (.inl rfl) (pe_op op_cat (pe_op op_cat (pe_lst (pa_cons (pe_ix (r := rIxT K) ix_tup (pe_ix (r := rIxT K) ix_tup (pv 5) (pv 8) (fun _ _ => rfl)) (pe_int) (fun _ _ => rfl)) pa_nil)) (pe_lc (own := [("_law_k", 7)]) (g := gName 7) rfl sc_l_way.nd (pi_range2 (by rfl) T.z_range (pa_cons (pv 8) (pa_cons (pv 9) pa_nil))) (blkOk_by (N := N_l_way) (sc := defScope s_l_way) (by decide +kernel)) (fun _ _ _ _ _ => (pg_name (i := 7) sc_l_way.nd rfl (.inl rfl))) (fun _ _ _ _ _ => pts_nil) (fun _ _ _ _ _ => (pe_ix (r := rIxT K) ix_tup (pe_ix (r := rIxT K) ix_tup (pe_ix (r := rIxT K) ix_tup (pv 1) (pe_int) (fun _ _ => rfl)) (pv 7) (fun _ _ => rfl)) (pe_int) (fun _ _ => rfl))))) (pe_lst (pa_cons (pe_ix (r := rIxT K) ix_tup (pe_ix (r := rIxT K) ix_tup (pv 5) (pv 9) (fun _ _ => rfl)) (pe_int) (fun _ _ => rfl)) pa_nil))))
    (pss_one (ps_ret (pe_callTy call_tuple_of (by rfl) T.z_tuple (by decide +kernel) (pa_cons (Sr.pe_stpL (pv 10) (pe_op op_sub (pe_int) (pe_op op_mul (pe_int) (pe_callTy call_int1 (by rfl) T.z_int (by decide +kernel) (pa_cons (pe_cmpR op_gt (pv 3) (pv 4) (nomark _)) pa_nil))))) pa_nil))))))))))
      , ?_⟩
    obtain ⟨net, n1, n8, m1, m2n, _⟩ := hnet
    have net0 := net
    obtain ⟨ra, rb, rc, rd, sa, ja, ta, er, hra, hrb, hsa, hrc, hja, _⟩ := net0
    have sal := paired_len hsa
    have jal := paired_len hja
    have hl : ((hNms f0 d0 b0 n).map nS).length = n := by unfold hNms; simp
    have sl : (sa.map V.ref).length = n + m2 := by rw [List.length_map, sal]; unfold hSts; simp
    refine ⟨.ref r, rfl, r, _, 0, .ref ra, rfl, rfl, SqT.of er, atI_nat (j := 0) rfl, ra, _, rfl, .inr hra.sq, ?_⟩
    rw [hl]
    refine ⟨.ref p, rfl, .int n, rfl, p, n, rfl, b, by omega, by omega, fun H1 x1 k1 b1' x10 x11 => ⟨.ref p, rfl, .int n, rfl, p, n, rfl, b1', by omega, by omega, fun H2 x2 k2 b2' x20 x21 => ?_⟩⟩
    obtain ⟨i1, rfl⟩ : ∃ xn : Nat, x1 = (xn : Int) := ⟨x1.toNat, by omega⟩
    obtain ⟨i2, rfl⟩ : ∃ xn : Nat, x2 = (xn : Int) := ⟨x2.toNat, by omega⟩
    have tk2 := (TKF.keep k1 b).trans (TKF.keep k2 b1')
    have k02 := k1.trans k2
    have er2 := tk2.t _ _ er
    have hrb2 : TpF H2 rb (sa.map V.ref) := (hrb.keep k1 b).keep k2 b1'
    have c1 : ¬ (HT.sIx (sa.map V.ref).length 0 none = 0 ∧ HT.sIx (sa.map V.ref).length (sa.map V.ref).length (some (n : Int)) = (sa.map V.ref).length) := by
      rw [HT.sIx_nat, sl]
      omega
    have c2 : ¬ (HT.sIx (sa.map V.ref).length 0 (some (n : Int)) = 0 ∧ HT.sIx (sa.map V.ref).length (sa.map V.ref).length none = (sa.map V.ref).length) := by
      rw [HT.sIx_nat, sl]
      omega
    refine ⟨_, _, rfl, .ref r, rfl, r, _, 1, .ref rb, rfl, rfl, SqT.of er2, atI_nat (j := 1) rfl, .int n, rfl, n, rfl, rb, _, rfl, hrb2.sq, c1, fun u5 nu5 => ?_⟩
    rw [cut_takeH]
    have s3 := same_upd (o := .tup ((sa.map V.ref).take n)) nu5
    have eu5 : (upd H2 u5 (.tup ((sa.map V.ref).take n))) u5 = some (.tup ((sa.map V.ref).take n)) := upd_same
    have bg3 := b2'.keep s3
    generalize upd H2 u5 (.tup ((sa.map V.ref).take n)) = H3 at s3 eu5 bg3 ⊢
    refine ⟨.ref r, rfl, r, _, 1, .ref rb, rfl, rfl, SqT.of (s3 _ _ er2), atI_nat (j := 1) rfl, .int n, rfl, n, rfl, rb, _, rfl, (hrb2.same s3).sq, c2, fun u6 nu6 => ⟨_, _, rfl, ?_⟩⟩
    rw [cut_dropH]
    have s4 := same_upd (o := .tup ((sa.map V.ref).drop n)) nu6
    have eu6 : (upd H3 u6 (.tup ((sa.map V.ref).drop n))) u6 = some (.tup ((sa.map V.ref).drop n)) := upd_same
    have b4 := bg3.keep s4
    have eu54 := s4 _ _ eu5
    have k04 := k02.trans (.of (s3.trans s4))
    have tk4 := tk2.trans (TKF.of (s3.trans s4))
    generalize upd H3 u6 (.tup ((sa.map V.ref).drop n)) = H4 at s4 eu6 b4 eu54 k04 tk4 ⊢
    have atS : ∀ j, j < n → ∃ s, atI ((sa.map V.ref).take n) ((j : Nat) : Int) = some (.ref s) ∧ H4 s = some (.tup [nS (hNm f1 d1 b1 j), nS (hNm f0 d0 b0 j)]) := fun j hj => by
      obtain ⟨s, e1, e2⟩ := paired_getR hsa (j := j) (y := (hNm f1 d1 b1 j, hNm f0 d0 b0 j)) (by
        unfold hSts
        rw [List.getElem?_append_left (by simpa using hj), List.getElem?_map, List.getElem?_range hj]
        rfl)
      exact ⟨s, atI_nat (j := j) (by rw [List.getElem?_take_of_lt hj, List.getElem?_map, e1]; rfl), tk4.t _ _ e2⟩
    have atT : ∀ j, j < m2 → ∃ s, atI ((sa.map V.ref).drop n) ((j : Nat) : Int) = some (.ref s) ∧ H4 s = some (.tup [nS (hNm f2 d2 b2 j), nS (hNm f0 d0 b0 j)]) := fun j hj => by
      obtain ⟨s, e1, e2⟩ := paired_getR hsa (j := n + j) (y := (hNm f2 d2 b2 j, hNm f0 d0 b0 j)) (by
        unfold hSts
        rw [List.getElem?_append_right (by simp), List.getElem?_map, List.length_map, List.length_range, Nat.add_sub_cancel_left, List.getElem?_range hj]
        rfl)
      exact ⟨s, atI_nat (j := j) (by rw [List.getElem?_drop, List.getElem?_map, e1]; rfl), tk4.t _ _ e2⟩
    have dl : ((sa.map V.ref).drop n).length = m2 := by rw [List.length_drop, sl]; omega
    refine ⟨.int i1, rfl, .int i2, rfl, rfl, _, rfl, ite2 (fun c => ?_) fun c => ?_⟩
    · refine ⟨.int i1, rfl, .ref u6, rfl, u6, _, rfl, .inr (SqT.of eu6), i1, _, rfl, rfl, by show (0 : Int) < _; rw [dl]; omega, ?_⟩
      rw [dl, show (fun i j : Int => V.int (i % j)) ((i1 : Nat) : Int) ((m2 : Nat) : Int) = V.int ((i1 % m2 : Nat) : Int) from rfl]
      have hk : i1 % m2 < m2 := Nat.mod_lt _ (by omega)
      generalize i1 % m2 = j at hk
      obtain ⟨s, es, hs⟩ := atS j (by omega)
      obtain ⟨t, et, ht⟩ := atT j hk
      refine ⟨.ref u5, rfl, .int j, rfl, u5, _, j, .ref s, rfl, rfl, SqT.of eu54, es, s, _, 0, nS (hNm f1 d1 b1 j), rfl, rfl, SqT.of hs, atI_nat (j := 0) rfl, .ref u6, rfl, .int j, rfl, u6, _, j, .ref t, rfl, rfl, SqT.of eu6, et, t, _, 0, nS (hNm f2 d2 b2 j), rfl, rfl, SqT.of ht, atI_nat (j := 0) rfl, by show 2 ≤ sizeLine; decide, fun w nw => ⟨w, rfl, ?_⟩⟩
      have s5 := same_upd (o := .tup [nS (hNm f1 d1 b1 j), nS (hNm f2 d2 b2 j)]) nw
      have nwp := b4.ne nw
      refine ⟨.ref p, rfl, p, 2, rfl, b4.keep s5, by decide, by decide, fun H5 d k5 b5 e0 e1 => ⟨2, d, rfl, rfl, .inl ⟨by decide, by decide⟩, 1, _, rfl, rfl, _, rfl, decide (d = 1), [nS (hNm f1 d1 b1 j), nS (hNm f2 d2 b2 j)], ?_, SqT.of (k5 _ _ nwp upd_same), fun _ => ?_, fun _ g ng => ?_⟩⟩
      · have : d = 0 ∨ d = 1 := by omega
        rcases this with rfl | rfl <;> rfl
      · exact q _ w [hNm f1 d1 b1 j, hNm f2 d2 b2 j] ((k04.trans (.of s5)).trans k5) b5 (k5 _ _ nwp upd_same) (.inl ⟨j, hk, .inl rfl⟩)
      · exact q _ g [hNm f2 d2 b2 j, hNm f1 d1 b1 j] (((k04.trans (.of s5)).trans k5).trans (.of (same_upd ng))) (b5.keep (same_upd ng)) upd_same (.inl ⟨j, hk, .inr rfl⟩)
    · have ne : i1 ≠ i2 := fun z => c (decide_eq_true (by rw [z]))
      obtain ⟨lo, hi, g1, g2, lt, hin⟩ : ∃ lo hi : Nat, (if ((i2 : Nat) : Int) < i1 then ((i2 : Nat) : Int) else i1) = lo ∧ (if ((i2 : Nat) : Int) > i1 then ((i2 : Nat) : Int) else i1) = hi ∧ lo < hi ∧ hi < n := by
        rcases Nat.lt_or_gt_of_ne ne with h | h
        · exact ⟨i1, i2, if_neg (by omega), if_pos (by omega), h, by omega⟩
        · exact ⟨i2, i1, if_pos (by omega), if_neg (by omega), h, by omega⟩
      refine ⟨.int i1, rfl, .int i2, rfl, i1, i2, rfl, .int i1, rfl, .int i2, rfl, i1, i2, rfl, _, _, rfl, ?_⟩
      rw [g1, g2]
      obtain ⟨s, es, hs⟩ := atS lo (by omega)
      obtain ⟨t, et, ht⟩ := atS hi hin
      refine ⟨.ref u5, rfl, .int lo, rfl, u5, _, lo, .ref s, rfl, rfl, SqT.of eu54, es, s, _, 0, nS (hNm f1 d1 b1 lo), rfl, rfl, SqT.of hs, atI_nat (j := 0) rfl, by show 1 ≤ sizeLine; decide, fun A nA => ?_⟩
      have s5 := same_upd (o := .lst [nS (hNm f1 d1 b1 lo)]) nA
      have eA : (upd H4 A (.lst [nS (hNm f1 d1 b1 lo)])) A = some (.lst [nS (hNm f1 d1 b1 lo)]) := upd_same
      have b5 := b4.keep s5
      have tk5 := tk4.trans (TKF.of s5)
      have k05 := k04.trans (.of s5)
      have eu55 := s5 _ _ eu54
      have ht5 := s5 _ _ ht
      generalize upd H4 A (.lst [nS (hNm f1 d1 b1 lo)]) = H5 at s5 eA b5 tk5 k05 eu55 ht5 ⊢
      have net5 := net.tk tk5
      obtain ⟨ra', rb', rc', rd', sa', ja', ta', er5, _, _, _, hrc5, hja5, _⟩ := net5
      refine ⟨.int lo, rfl, .int hi, rfl, lo, hi, rfl, ⟨by omega, by omega, by omega, by omega⟩, fun C nC => ?_⟩
      rw [show (((hi : Nat) : Int) - ((lo : Nat) : Int)).toNat = hi - lo by omega]
      refine lc_it (walk_range (lo := (lo : Int)) (n := hi - lo)) (fun j Hy => Same H5 Hy ∧ Hy C = some (.lst (((List.range j).map fun k => hNm f3 d3 b3 (lo + k)).map nS))) ⟨same_upd nC, upd_same⟩ (fun _ _ _ _ => trivial) (fun j x Hy Hy' hj pv yy => ?_) (fun Hy pv => ?_)
      · obtain ⟨rfl, rfl⟩ := yy
        obtain ⟨sy, eC⟩ := pv
        obtain ⟨jn, ej, hj2⟩ := paired_getR hja5 (j := lo + j) (y := (hNm f3 d3 b3 (lo + j), [hNm f0 d0 b0 (lo + j), hNm f0 d0 b0 (lo + j + 1)])) (by
          unfold hJns
          rw [List.getElem?_append_left (by simp; omega), List.getElem?_map, List.getElem?_range (by omega)]
          rfl)
        obtain ⟨cc, h1, _⟩ := hj2
        refine ⟨rfl, yes_ ⟨.ref r, rfl, r, _, 2, .ref rc', rfl, rfl, SqT.of (sy _ _ er5), atI_nat (j := 2) rfl, .int ((lo : Int) + j), rfl, rc', _, _, .ref jn, rfl, rfl, (hrc5.same sy).sq, ?_, jn, _, 0, nS (hNm f3 d3 b3 (lo + j)), rfl, rfl, SqT.of (sy _ _ h1), atI_nat (j := 0) rfl, _, eC, by rw [List.length_map, List.length_map, List.length_range]; exact small5000 (by omega), same_set sy nC, ?_⟩⟩
        · rw [show ((lo : Nat) : Int) + ((j : Nat) : Int) = ((lo + j : Nat) : Int) by omega]
          exact atI_nat (j := lo + j) (by rw [List.getElem?_map, ej]; rfl)
        · rw [upd_same, List.range_succ, List.map_append, List.map_append]
          rfl
      obtain ⟨sy, eC⟩ := pv
      refine ⟨A, C, _, _, rfl, rfl, sy _ _ eA, eC, by rw [List.length_map, List.length_map, List.length_range]; exact Nat.le_of_lt (small5000 (by show 1 + _ ≤ 5000; omega)), fun B nB => ?_⟩
      have s6 := same_upd (o := .lst ([nS (hNm f1 d1 b1 lo)] ++ ((List.range (hi - lo)).map fun k => hNm f3 d3 b3 (lo + k)).map nS)) nB
      have s56 := sy.trans s6
      have eB : (upd Hy B (.lst ([nS (hNm f1 d1 b1 lo)] ++ ((List.range (hi - lo)).map fun k => hNm f3 d3 b3 (lo + k)).map nS))) B = some (.lst ([nS (hNm f1 d1 b1 lo)] ++ ((List.range (hi - lo)).map fun k => hNm f3 d3 b3 (lo + k)).map nS)) := upd_same
      generalize upd Hy B (.lst ([nS (hNm f1 d1 b1 lo)] ++ ((List.range (hi - lo)).map fun k => hNm f3 d3 b3 (lo + k)).map nS)) = H6 at s6 s56 eB ⊢
      refine ⟨.ref u5, rfl, .int hi, rfl, u5, _, hi, .ref t, rfl, rfl, SqT.of (s56 _ _ eu55), et, t, _, 0, nS (hNm f1 d1 b1 hi), rfl, rfl, SqT.of (s56 _ _ ht5), atI_nat (j := 0) rfl, by show 1 ≤ sizeLine; decide, fun D nD => ?_⟩
      have s7 := same_upd (o := .lst [nS (hNm f1 d1 b1 hi)]) nD
      refine ⟨B, D, _, _, rfl, rfl, s7 _ _ eB, upd_same, by rw [List.length_append, List.length_map, List.length_map, List.length_range]; exact Nat.le_of_lt (small5000 (by show 1 + _ + 1 ≤ 5000; omega)), fun G nG => ?_⟩
      have hp : ([nS (hNm f1 d1 b1 lo)] ++ ((List.range (hi - lo)).map fun k => hNm f3 d3 b3 (lo + k)).map nS ++ [nS (hNm f1 d1 b1 hi)]) = (hPath (hNm f1 d1 b1) (hNm f3 d3 b3) lo hi).map nS := by
        unfold hPath
        simp
      rw [hp]
      have s8 := s7.trans (same_upd (o := .lst ((hPath (hNm f1 d1 b1) (hNm f3 d3 b3) lo hi).map nS)) nG)
      have s58 := s56.trans s8
      refine ⟨.ref G, rfl, G, rfl, .int i1, rfl, .int i2, rfl, i1, i2, rfl, rfl, .inr ⟨_, rfl, 2, _, rfl, rfl, .inl ⟨by decide, by decide⟩, 1, _, rfl, rfl, _, rfl, decide ((i1 : Int) > i2), (hPath (hNm f1 d1 b1) (hNm f3 d3 b3) lo hi).map nS, ?_, SqL.of upd_same, fun R nR => ⟨R, _, rfl, .inl ⟨SqL.of upd_same, fun w nw => ?_⟩⟩⟩⟩
      · by_cases h : (i1 : Int) > i2
        · simp only [h, decide_true]
          rfl
        · simp only [h, decide_false]
          rfl
      · by_cases h : (i1 : Int) > i2
        · exact q _ w (hPath (hNm f1 d1 b1) (hNm f3 d3 b3) lo hi).reverse (k05.trans (.of ((s58.trans (same_upd nR)).trans (same_upd nw)))) (b5.keep ((s58.trans (same_upd nR)).trans (same_upd nw))) (by rw [upd_same, decide_eq_true h, List.map_reverse]; rfl) (.inr ⟨lo, hi, lt, hin, .inr rfl⟩)
        · exact q _ w (hPath (hNm f1 d1 b1) (hNm f3 d3 b3) lo hi) (k05.trans (.of ((s58.trans (same_upd nR)).trans (same_upd nw)))) (b5.keep ((s58.trans (same_upd nR)).trans (same_upd nw))) (by rw [upd_same, decide_eq_false h]; rfl) (.inr ⟨lo, hi, lt, hin, .inl rfl⟩)
end
end Th
namespace Th
open PySem PySem.Spec PyProof.Rows L2
/-! the drawn house -/
theorem NetH.tk {H H' : Hp} {r : Addr} {n m2 kk sd : Nat} {f0 b0 f1 b1 f2 b2 f3 b3 : Nm} {d0 d1 d2 d3 : Nat} {jx : List (Nm × List Nm)} {tis : List Ti} (h : NetH H r n m2 kk sd f0 b0 f1 b1 f2 b2 f3 b3 d0 d1 d2 d3 jx tis) (k : TKF H H') : NetH H' r n m2 kk sd f0 b0 f1 b1 f2 b2 f3 b3 d0 d1 d2 d3 jx tis := ⟨h.1.tk k, h.2⟩
def WyA (H : Hp) (t : Addr) (gs : List Nm) : Prop := H t = some (.tup (gs.map nS))
def WgA (H : Hp) (t : Addr) (x : Int × Nm) : Prop := H t = some (.tup [.int x.1, nS x.2])
/-- rules: what is asked for the cartage and the like -/
structure RuA (H : Hp) (ru : Addr) (n : Nat) : Prop where
  ex : ∃ (a0 a1 a2 : Int) (le : Addr) (ls : List Int), H ru = some (.tup [.int a0, .int a1, .int a2, .ref le]) ∧ H le = some (.tup (ls.map V.int)) ∧ ls.length = n ∧ (0 ≤ a0 ∧ a0 ≤ 1000000000) ∧ (0 ≤ a1 ∧ a1 ≤ 30) ∧ (0 ≤ a2 ∧ a2 ≤ 1000000000) ∧ ∀ x ∈ ls, 0 ≤ x ∧ x ≤ 1000000000
/-- a house: the net, ways, wagons, rules -/
structure HouseAt (H : Hp) (h r wl gl ru : Addr) (ways : List (List Nm)) (wags : List (Int × Nm)) (n m2 : Nat) (L S T J : Nat → Nm) : Prop where
  e : H h = some (.tup [.ref r, .ref wl, .ref gl, .ref ru])
  w : ∃ wa : List Addr, H wl = some (.lst (wa.map V.ref)) ∧ Paired (WyA H) wa ways
  g : ∃ ga : List Addr, H gl = some (.lst (ga.map V.ref)) ∧ Paired (WgA H) ga wags
  ru : RuA H ru n
  wl : 1 ≤ ways.length ∧ ways.length ≤ 5
  gl : 1 ≤ wags.length ∧ wags.length ≤ 4
  wh : ∀ gs ∈ ways, WayH n m2 S T J gs
  gh : ∀ x ∈ wags, 1 ≤ x.1 ∧ x.1 ≤ 8000 ∧ ∃ k, k < n ∧ x.2 = L k
section
variable {P : Program} {w : World} {K : PySem.W.Frag} {mg : Str → Option Value} {base : Heap} {k : Nat}
def sp_l_house : Sp := fun vs H Q _ => ∃ p : Addr, vs = [.ref p] ∧ Bag H p ∧ ∀ H' h r wl gl ru ways wags n m2 kk sd f0 b0 f1 b1 f2 b2 f3 b3 d0 d1 d2 d3 jx tis, Keep p H H' → Bag H' p → NetH H' r n m2 kk sd f0 b0 f1 b1 f2 b2 f3 b3 d0 d1 d2 d3 jx tis → HouseAt H' h r wl gl ru ways wags n m2 (hNm f0 d0 b0) (hNm f1 d1 b1) (hNm f2 d2 b2) (hNm f3 d3 b3) → Q (.ref h) H'
set_option maxHeartbeats 8000000 in
theorem ok_l_house (T : Defs K mg) : FnOk P w K mg base CX0 (k + 4) T.a_l_house T.d_l_house ["_law_bag_here"] sp_l_house := by
  have G_l_take : FnOk P w K mg base CX0 (k + 3) _ _ _ _ := ok_l_take (k := k + 2) T
  have G_l_net : FnOk P w K mg base CX0 (k + 3) _ _ _ _ := ok_l_net (k := k) T
  have G_l_way : FnOk P w K mg base CX0 (k + 3) _ _ _ _ := ok_l_way (k := k + 1) T
  refine T.F_l_house.ok sc_l_house (fun vs H Q E h => ?_) (fun cdv A outer s H vs Q E hr h => ?_)
  · obtain ⟨p, rfl, _⟩ := h
    rfl
  · obtain ⟨p, rfl, b, q⟩ := h
    refine ⟨_, PSs.nox
(pss_cons (ps_set (i := 1) sc_l_house.nd rfl (.inr rfl) (pe_call G_l_net hr (by rfl) T.g_l_net T.F_l_net.kp T.b_l_net .nil pass0 (pa_cons (pv 0) pa_nil)))
    (pss_cons (ps_setLc (i := 2) (own := [("_law_k", 5)]) (g := gName 5) rfl sc_l_house.nd rfl rfl (sw_true rfl rfl rfl (by decide +kernel)) (pi_range1 (by rfl) T.z_range (pa_cons (pe_op op_add (pe_int) (pe_call G_l_take hr (by rfl) T.g_l_take T.F_l_take.kp T.b_l_take .nil pass0 (pa_cons (pv 0) (pa_cons (pe_int) pa_nil)))) pa_nil)) (blkOk_by (N := N_l_house) (sc := defScope s_l_house) (by decide +kernel)) (fun _ _ _ _ _ => (pg_name (i := 5) sc_l_house.nd rfl (.inl rfl))) (fun _ _ _ _ _ => pts_nil) (fun _ _ _ _ _ => (pe_call G_l_way hr (by rfl) T.g_l_way T.F_l_way.kp T.b_l_way .nil pass0 (pa_cons (pv 0) (pa_cons (pv 1) pa_nil)))))
    (pss_cons (ps_set (i := 3) sc_l_house.nd rfl (.inl rfl) (pe_op op_add (pe_int) (pe_call G_l_take hr (by rfl) T.g_l_take T.F_l_take.kp T.b_l_take .nil pass0 (pa_cons (pv 0) (pa_cons (pe_int) pa_nil)))))
    (pss_cons (ps_set (i := 4) sc_l_house.nd rfl (.inl rfl) (pe_lst pa_nil))
    (pss_cons (ps_for PassesOwn.never rfl (pi_range1 (by rfl) T.z_range (pa_cons (pe_op op_add (pe_int) (pe_call G_l_take hr (by rfl) T.g_l_take T.F_l_take.kp T.b_l_take .nil pass0 (pa_cons (pv 0) (pa_cons (pe_int) pa_nil)))) pa_nil)) (pg_name (i := 5) sc_l_house.nd rfl (.inl rfl))
      (pss_cons (ps_expr (pe_bm PySem.F.plainAttrs_list PySem.F.slot_list_append PySem.F.type_list_append mt_append (pv 4) (pa_cons (pe_tup (pa_cons (pv 3) (pa_cons (pe_ix (r := rIxT K) ix_tup (pe_ix (r := rIxT K) ix_tup (pv 1) (pe_int) (fun _ _ => rfl)) (pe_call G_l_take hr (by rfl) T.g_l_take T.F_l_take.kp T.b_l_take .nil pass0 (pa_cons (pv 0) (pa_cons (pe_callB (r := rLenS K) call_lenS (by rfl) T.z_len (by decide +kernel) (pa_cons (pe_ix (r := rIxT K) ix_tup (pv 1) (pe_int) (fun _ _ => rfl)) pa_nil)) pa_nil))) (fun _ _ => rfl)) pa_nil))) pa_nil)))
      (pss_one (ps_aug (i := 3) sc_l_house.nd rfl (.inl rfl) (pe_ix (r := rIxT K) ix_tup (pe_tup (pa_cons (pe_int) (pa_cons (pe_int) (pa_cons (pe_int) (pa_cons (pe_op op_add (pe_int) (pe_call G_l_take hr (by rfl) T.g_l_take T.F_l_take.kp T.b_l_take .nil pass0 (pa_cons (pv 0) (pa_cons (pe_int) pa_nil)))) pa_nil))))) (pe_call G_l_take hr (by rfl) T.g_l_take T.F_l_take.kp T.b_l_take .nil pass0 (pa_cons (pv 0) (pa_cons (pe_int) pa_nil))) (fun _ _ => rfl)) ip_add))))
    (pss_cons (ps_set (i := 6) sc_l_house.nd rfl (.inr rfl) (pe_ix (r := rIxT K) ix_tup (pe_tup (pa_cons (pe_int) (pa_cons (pe_int) (pa_cons (pe_op op_add (pe_op op_pow (pe_int) (pe_int)) (pe_int)) pa_nil)))) (pe_call G_l_take hr (by rfl) T.g_l_take T.F_l_take.kp T.b_l_take .nil pass0 (pa_cons (pv 0) (pa_cons (pe_int) pa_nil))) (fun _ _ => rfl)))
    (pss_cons (ps_set (i := 7) sc_l_house.nd rfl (.inl rfl) (pe_callTy call_tuple_of (by rfl) T.z_tuple (by decide +kernel) (pa_cons (pe_lc (own := [("_law_line_here", 9)]) (g := gName 9) rfl sc_l_house.nd (pi_tup (pe_ix (r := rIxT K) ix_tup (pv 1) (pe_int) (fun _ _ => rfl))) (blkOk_by (N := N_l_house) (sc := defScope s_l_house) (by decide +kernel)) (fun _ _ _ _ _ => (pg_name (i := 9) sc_l_house.nd rfl (.inl rfl))) (fun _ _ _ _ _ => pts_nil) (fun _ _ _ _ _ => (pe_op op_mul (pe_call G_l_take hr (by rfl) T.g_l_take T.F_l_take.kp T.b_l_take .nil pass0 (pa_cons (pv 0) (pa_cons (pv 6) pa_nil))) (pe_call G_l_take hr (by rfl) T.g_l_take T.F_l_take.kp T.b_l_take .nil pass0 (pa_cons (pv 0) (pa_cons (pe_int) pa_nil)))))) pa_nil)))
    (pss_cons (ps_set (i := 8) sc_l_house.nd rfl (.inl rfl) (pe_tup (pa_cons (pe_call G_l_take hr (by rfl) T.g_l_take T.F_l_take.kp T.b_l_take .nil pass0 (pa_cons (pv 0) (pa_cons (pv 6) pa_nil))) (pa_cons (pe_call G_l_take hr (by rfl) T.g_l_take T.F_l_take.kp T.b_l_take .nil pass0 (pa_cons (pv 0) (pa_cons (pe_int) pa_nil))) (pa_cons (pe_call G_l_take hr (by rfl) T.g_l_take T.F_l_take.kp T.b_l_take .nil pass0 (pa_cons (pv 0) (pa_cons (pv 6) pa_nil))) (pa_cons (pv 7) pa_nil))))))
    (pss_one (ps_ret (pe_tup (pa_cons (pv 1) (pa_cons (pv 2) (pa_cons (pv 4) (pa_cons (pv 8) pa_nil)))))))))))))))
      , ?_⟩
    refine ⟨.ref p, rfl, p, rfl, b, fun H1 r n m2 kk sd f0 b0 f1 b1 f2 b2 f3 b3 d0 d1 d2 d3 jx tis k1 bg1 net => ?_⟩
    have nn := net.2.1
    have n8 := net.2.2.1
    -- ways
    refine ⟨.ref p, rfl, p, 5, rfl, bg1, by decide, by decide, fun H2 c k2 bg2 c0 c1 => ⟨1, c, rfl, rfl, _, rfl, by show -2 ^ 62 ≤ 1 + c; omega, by show 1 + c < 2 ^ 62; omega, fun C nC => ?_⟩⟩
    obtain ⟨nw, enw, nw1, nw5⟩ : ∃ nw : Nat, ((fun i j : Int => i + j) 1 c).toNat = nw ∧ 1 ≤ nw ∧ nw ≤ 5 := ⟨_, rfl, by show 1 ≤ (1 + c).toNat; omega, by show (1 + c).toNat ≤ 5; omega⟩
    have k02 := k1.trans k2
    have tk2 := TKF.keep k2 bg1
    have net2 := net.tk tk2
    have nCp := bg2.ne nC
    have hnw : (1 + c).toNat = nw := enw
    rw [hnw]
    refine lc_it (walk_range (lo := 0) (n := nw)) (fun j Hy => Keep p H2 Hy ∧ Bag Hy p ∧ ∃ (wa : List Addr) (gss : List (List Nm)), Hy C = some (.lst (wa.map V.ref)) ∧ Paired (WyA Hy) wa gss ∧ (∀ gs ∈ gss, WayH n m2 (hNm f1 d1 b1) (hNm f2 d2 b2) (hNm f3 d3 b3) gs) ∧ wa.length = j) ⟨.of (same_upd nC), bg2.keep (same_upd nC), [], [], upd_same, .nil, fun x h => (by cases h), rfl⟩ (fun _ _ _ _ => trivial) (fun j x Hy Hy' hj pv yy => ?_) (fun Hy pv => ?_)
    · obtain ⟨rfl, rfl⟩ := yy
      obtain ⟨ky, by_, wa, gss, eC, hwa, hh, wl⟩ := pv
      refine ⟨rfl, yes_ ⟨.ref p, rfl, .ref r, rfl, p, r, n, m2, kk, sd, f0, b0, f1, b1, f2, b2, f3, b3, d0, d1, d2, d3, jx, tis, rfl, by_, net2.tk (TKF.keep ky bg2), fun H3 t gs k3 bg3 et hw => ?_⟩⟩
      have eC3 := k3 _ _ nCp eC
      have tk3 := TKF.keep k3 by_
      have tkC := tk_updl (o := .lst (wa.map V.ref ++ [.ref t])) eC3
      refine ⟨_, eC3, by rw [List.length_map]; exact small5000 (by omega), (ky.trans k3).set nC, bg3.at (upd_ne nCp.symm), wa ++ [t], gss ++ [gs], by rw [upd_same, List.map_append]; rfl, paired_snoc (paired_imp hwa fun _ _ _ h => (tk3.trans tkC).t _ _ h) (tkC.t _ _ et), fun x hx => ?_, by rw [List.length_append, wl]; rfl⟩
      rcases List.mem_append.mp hx with z | z
      · exact hh x z
      · rw [List.mem_singleton.mp z]; exact hw
    obtain ⟨ky, bg3, wa, gss, eC, hwa, hh, wl⟩ := pv
    have k03 := k02.trans ky
    have net3 := net2.tk (TKF.keep ky bg2)
    generalize Hy = H3 at ky bg3 eC hwa k03 net3 ⊢
    -- wagons
    refine ⟨.ref p, rfl, p, 4000, rfl, bg3, by decide, by decide, fun H4 nu k4 bg4 m0 m1 => ⟨1, nu, rfl, rfl, ?_⟩⟩
    have k04 := k03.trans k4
    have tk4 := TKF.keep k4 bg3
    have net4 := net3.tk tk4
    have eC4 := k4 _ _ nCp eC
    have hwa4 := paired_imp hwa fun _ _ _ h => tk4.t _ _ h
    refine ⟨by show 0 ≤ sizeLine; decide, fun D nD => ?_⟩
    have s5 := same_upd (o := .lst []) nD
    have eD : (upd H4 D (.lst [])) D = some (.lst []) := upd_same
    have nDp := bg4.ne nD
    have bg5 := bg4.keep s5
    generalize upd H4 D (.lst []) = H5 at s5 eD bg5 ⊢
    refine ⟨.ref p, rfl, p, 4, rfl, bg5, by decide, by decide, fun H6 c6 k6 bg6 g0 g1 => ⟨1, c6, rfl, rfl, _, rfl, by show -2 ^ 62 ≤ 1 + c6; omega, by show 1 + c6 < 2 ^ 62; omega, ?_⟩⟩
    obtain ⟨ng, eng, ng1, ng4⟩ : ∃ ng : Nat, (1 + c6).toNat = ng ∧ 1 ≤ ng ∧ ng ≤ 4 := ⟨_, rfl, by omega, by omega⟩
    show ∃ W, _
    have e1 : ((fun i j : Int => i + j) 1 c6).toNat = ng := eng
    rw [eng]
    refine for_range (lo := 0) (n := ng) (fun i σ Hx => ∃ (num : Int) (y5 : Option V) (ga : List Addr) (ws : List (Int × Nm)), σ = [some (.ref p), some (.ref r), some (.ref C), some (.int num), some (.ref D), y5, none, none, none, none] ∧ Keep p H4 Hx ∧ Bag Hx p ∧ Hx D = some (.lst (ga.map V.ref)) ∧ Paired (WgA Hx) ga ws ∧ (∀ x ∈ ws, 1 ≤ x.1 ∧ x.1 ≤ 8000 ∧ ∃ k, k < n ∧ x.2 = hNm f0 d0 b0 k) ∧ ga.length = i ∧ 1 ≤ num ∧ num ≤ 4000 + (i : Int) * 900)
      ⟨1 + nu, none, [], [], rfl, (Keep.of s5).trans k6, bg6, k6 _ _ nDp eD, .nil, fun x h => (by cases h), rfl, by omega, by omega⟩ (fun i σ Hx hi hp => ?_) (fun σ Hx hp => ?_)
    · obtain ⟨num, y5, ga, ws, rfl, kx, bx, eDx, hga, hws, gl, u1, u2⟩ := hp
      have net6 := net4.tk (TKF.keep kx bg4)
      obtain ⟨ra, rb, rc, rd, sa, ja, ta, er, hra, _⟩ := net6.1
      have hl : ((hNms f0 d0 b0 n).map nS).length = n := by unfold hNms; simp
      refine ⟨.ref D, rfl, .inl ⟨rfl, _, SqL.of eDx⟩, .int num, rfl, .ref r, rfl, r, _, 0, .ref ra, rfl, rfl, SqT.of er, atI_nat (j := 0) rfl, .ref p, rfl, .ref r, rfl, r, _, 0, .ref ra, rfl, rfl, SqT.of er, atI_nat (j := 0) rfl, ra, _, rfl, .inr hra.sq, p, _, rfl, bx, by rw [hl]; omega, by rw [hl]; omega, fun H7 d k7 bg7 e0 e1' => ?_⟩
      rw [hl] at e1'
      obtain ⟨d, rfl⟩ : ∃ xn : Nat, d = (xn : Int) := ⟨d.toNat, by omega⟩
      have dl : d < n := by omega
      have tk7 := TKF.keep k7 bx
      have eD7 := k7 _ _ nDp eDx
      refine ⟨ra, _, d, nS (hNm f0 d0 b0 d), rfl, rfl, (hra.keep k7 bx).sq, atI_nat (j := d) (by unfold hNms; rw [List.getElem?_map, List.getElem?_map, List.getElem?_range dl]; rfl), by show 2 ≤ sizeLine; decide, fun u nu' => ?_⟩
      have s8 := same_upd (o := .tup [.int num, nS (hNm f0 d0 b0 d)]) nu'
      have eu : (upd H7 u (.tup [.int num, nS (hNm f0 d0 b0 d)])) u = some (.tup [.int num, nS (hNm f0 d0 b0 d)]) := upd_same
      have bg8 := bg7.keep s8
      have k8 := (kx.trans k7).trans (.of s8)
      have tk8 := tk7.trans (TKF.of s8)
      have eD8 := s8 _ _ eD7
      generalize upd H7 u (.tup [.int num, nS (hNm f0 d0 b0 d)]) = H8 at s8 eu bg8 k8 tk8 eD8 ⊢
      refine ⟨D, _, _, rfl, rfl, eD8, by rw [List.length_map]; exact small5000 (by omega), ?_⟩
      have tkD := tk_updl (o := .lst (ga.map V.ref ++ [.ref u])) eD8
      have eD9 : (upd H8 D (.lst (ga.map V.ref ++ [.ref u]))) D = some (.lst ((ga ++ [u]).map V.ref)) := by rw [upd_same, List.map_append]; rfl
      have k9 : Keep p H4 (upd H8 D (.lst (ga.map V.ref ++ [.ref u]))) := k8.set nD
      have bg9 : Bag (upd H8 D (.lst (ga.map V.ref ++ [.ref u]))) p := bg8.at (upd_ne nDp.symm)
      have hga9 : Paired (WgA (upd H8 D (.lst (ga.map V.ref ++ [.ref u])))) (ga ++ [u]) (ws ++ [(num, hNm f0 d0 b0 d)]) := paired_snoc (paired_imp hga fun _ _ _ h => (tk8.trans tkD).t _ _ h) (tkD.t _ _ eu)
      generalize upd H8 D (.lst (ga.map V.ref ++ [.ref u])) = H9 at eD9 k9 bg9 hga9 ⊢
      have hws9 : ∀ x ∈ ws ++ [(num, hNm f0 d0 b0 d)], 1 ≤ x.1 ∧ x.1 ≤ 8000 ∧ ∃ k, k < n ∧ x.2 = hNm f0 d0 b0 k := fun x hx => by
        rcases List.mem_append.mp hx with z | z
        · exact hws x z
        · rw [List.mem_singleton.mp z]
          exact ⟨u1, by show num ≤ 8000; omega, d, dl, rfl⟩
      refine ⟨.int num, rfl, .ref p, rfl, p, 900, rfl, bg9, by decide, by decide, fun H10 st k10 bg10 t0 t1 => ⟨1, st, rfl, rfl, by show 4 ≤ sizeLine; decide, fun v nv => ?_⟩⟩
      have s11 := same_upd (o := .tup [.int 1, .int 10, .int 100, .int (1 + st)]) nv
      refine ⟨.ref p, rfl, p, 4, rfl, bg10.keep s11, by decide, by decide, fun H11 cc k11 bg11 h0 h1 => ?_⟩
      obtain ⟨m, hm, em⟩ := pick (ms := [1, 10, 100, 1 + st]) h0 h1
      have hm : m = 1 ∨ m = 10 ∨ m = 100 ∨ m = 1 + st := by simpa using hm
      have kk9 := (k10.trans (.of s11)).trans k11
      have tk11 := TKF.keep kk9 bg9
      refine ⟨v, _, cc, _, rfl, rfl, SqT.of (k11 _ _ (bg10.ne nv) upd_same), em, num, m, rfl, rfl, num + m, some (.int (0 + (i : Int))), ga ++ [u], ws ++ [(num, hNm f0 d0 b0 d)], rfl, k9.trans kk9, bg11, kk9 _ _ nDp eD9, paired_imp hga9 fun _ _ _ h => tk11.t _ _ h, hws9, by rw [List.length_append, gl]; rfl, by omega, by omega⟩
    · obtain ⟨num, y5, ga, ws, rfl, kx, bx, eDx, hga, hws, gl, _⟩ := hp
      have k0x := k04.trans kx
      have tkx := TKF.keep kx bg4
      have netx := net4.tk tkx
      have eCx := kx _ _ nCp eC4
      have hwax := paired_imp hwa4 fun _ _ _ h => tkx.t _ _ h
      have hgw := paired_len hga
      have hww := paired_len hwa
      -- how great
      refine ⟨10, 9, rfl, rfl, ⟨by decide, by decide, by decide⟩, _, 1, rfl, rfl, by show 3 ≤ sizeLine; decide, fun v nv => ?_⟩
      have s1 := same_upd (o := .tup [.int 10, .int 1000, .int 1000000001]) nv
      refine ⟨.ref p, rfl, p, 3, rfl, bx.keep s1, by decide, by decide, fun H7 cc k7 bg7 h0 h1 => ?_⟩
      obtain ⟨gr, hm, em⟩ := pick (ms := [10, 1000, 1000000001]) h0 h1
      have hm : gr = 10 ∨ gr = 1000 ∨ gr = 1000000001 := by simpa using hm
      refine ⟨v, _, cc, _, rfl, rfl, SqT.of (k7 _ _ (bx.ne nv) upd_same), em, ?_⟩
      have kx7 := (Keep.of s1).trans k7
      have tk7 := TKF.keep kx7 bx
      have net7 := netx.tk tk7
      obtain ⟨ra, rb, rc, rd, sa, ja, ta, er, hra, _⟩ := net7.1
      have hl : ((hNms f0 d0 b0 n).map nS).length = n := by unfold hNms; simp
      have gr0 : 0 < gr := by omega
      have gr1 : gr < 1073741824 := by omega
      -- leasts
      refine ⟨.ref r, rfl, r, _, 0, .ref ra, rfl, rfl, SqT.of er, atI_nat (j := 0) rfl, ra, rfl, ⟨_, hra.sq⟩, fun A nA => ?_⟩
      have nAp := bg7.ne nA
      refine lc_it (walk_tup (xs := (hNms f0 d0 b0 n).map nS)) (fun j Hy => Keep p H7 Hy ∧ Bag Hy p ∧ ∃ ls : List Int, Hy A = some (.lst (ls.map V.int)) ∧ ls.length = j ∧ ∀ x ∈ ls, 0 ≤ x ∧ x ≤ 1000000000) ⟨.of (same_upd nA), bg7.keep (same_upd nA), [], upd_same, rfl, fun x h => (by cases h)⟩ (fun j Hy _ pv => by obtain ⟨ky, _⟩ := pv; exact (hra.keep ky bg7).sq) (fun j x Hy Hy' hj pv yy => ?_) (fun Hy pv => ?_)
      · obtain ⟨rfl, ex⟩ := yy
        obtain ⟨ky, by_, ls, eA, ll, hls⟩ := pv
        rw [hl] at hj
        refine ⟨rfl, yes_ ⟨.ref p, rfl, .int gr, rfl, p, gr, rfl, by_, gr0, gr1, fun H8 x8 k8 bg8 x80 x81 => ⟨.ref p, rfl, p, 2, rfl, bg8, by decide, by decide, fun H9 x9 k9 bg9 x90 x91 => ⟨x8, x9, rfl, rfl, .inl ⟨by omega, by omega⟩, _, k9 _ _ nAp (k8 _ _ nAp eA), by rw [List.length_map]; exact small5000 (by omega), ((ky.trans k8).trans k9).set nA, bg9.at (upd_ne nAp.symm), ls ++ [x8 * x9], by rw [upd_same, List.map_append]; rfl, by rw [List.length_append, ll]; rfl, fun y hy => ?_⟩⟩⟩⟩
        rcases List.mem_append.mp hy with z | z
        · exact hls y z
        · rw [List.mem_singleton.mp z]
          have : x9 = 0 ∨ x9 = 1 := by omega
          rcases this with e | e <;> rw [e] <;> omega
      obtain ⟨ky, bg8, ls, eA, ll, hls⟩ := pv
      rw [hl] at ll
      refine ⟨A, _, rfl, .inl ⟨SqL.of eA, fun le nle => ?_⟩⟩
      have s9 := same_upd (o := .tup (ls.map V.int)) nle
      have ele : (upd Hy le (.tup (ls.map V.int))) le = some (.tup (ls.map V.int)) := upd_same
      have bg9 := bg8.keep s9
      have k79 := ky.trans (.of s9)
      generalize upd Hy le (.tup (ls.map V.int)) = H9 at s9 ele bg9 k79 ⊢
      -- rules
      refine ⟨.ref p, rfl, .int gr, rfl, p, gr, rfl, bg9, gr0, gr1, fun H10 a0 k10 bg10 a00 a01 => ⟨.ref p, rfl, p, 31, rfl, bg10, by decide, by decide, fun H11 a1 k11 bg11 a10 a11 => ⟨.ref p, rfl, .int gr, rfl, p, gr, rfl, bg11, gr0, gr1, fun H12 a2 k12 bg12 a20 a21 => ⟨.ref le, rfl, by show 4 ≤ sizeLine; decide, fun ru nru => ?_⟩⟩⟩⟩
      have s13 := same_upd (o := .tup [.int a0, .int a1, .int a2, .ref le]) nru
      have eru : (upd H12 ru (.tup [.int a0, .int a1, .int a2, .ref le])) ru = some (.tup [.int a0, .int a1, .int a2, .ref le]) := upd_same
      have k913 := ((k10.trans k11).trans k12).trans (.of s13)
      have bg13 := bg12.keep s13
      generalize upd H12 ru (.tup [.int a0, .int a1, .int a2, .ref le]) = H13 at s13 eru k913 bg13 ⊢
      refine ⟨.ref r, rfl, .ref C, rfl, .ref D, rfl, .ref ru, rfl, by show 4 ≤ sizeLine; decide, fun h nh => ?_⟩
      have s14 := same_upd (o := .tup [.ref r, .ref C, .ref D, .ref ru]) nh
      have kf : Keep p Hx _ := ((kx7.trans k79).trans k913).trans (.of s14)
      have tkf := TKF.keep kf bx
      have k9f := TKF.keep (k913.trans (.of s14)) bg9
      refine q _ h r C D ru gss ws n m2 kk sd f0 b0 f1 b1 f2 b2 f3 b3 d0 d1 d2 d3 jx tis (k0x.trans kf) (bg13.keep s14) (netx.tk tkf) ⟨upd_same, ⟨wa, kf _ _ nCp eCx, paired_imp hwax fun _ _ _ h => tkf.t _ _ h⟩, ⟨ga, kf _ _ nDp eDx, paired_imp hga fun _ _ _ h => tkf.t _ _ h⟩, ⟨a0, a1, a2, le, ls, s14 _ _ eru, k9f.t _ _ ele, ll, ⟨a00, by omega⟩, ⟨a10, by omega⟩, ⟨a20, by omega⟩, hls⟩, by omega, by omega, hh, hws⟩
end
end Th
namespace Th
open PySem PySem.Spec PyProof.Rows L2
/-! a drawn return -/
theorem pick2 {x y : Str} {d : Int} (h0 : 0 ≤ d) (h1 : d < 2) : ∃ z, (z = x ∨ z = y) ∧ atI [V.str x, V.str y] d = some (.str z) := by
  have : d = 0 ∨ d = 1 := by omega
  rcases this with rfl | rfl
  · exact ⟨x, .inl rfl, atI_nat (j := 0) rfl⟩
  · exact ⟨y, .inr rfl, atI_nat (j := 1) rfl⟩
section
variable {P : Program} {w : World} {K : PySem.W.Frag} {mg : Str → Option Value} {base : Heap} {k : Nat}
def sp_l_return : Sp := fun vs H Q _ => ∃ (p r wg hd : Addr) (ls : List Nm) (sts : List (Nm × Nm)) (jns : List (Nm × List Nm)) (tis : List Ti) (ga : List Addr) (ws : List (Int × Nm)) (kd : Str) (nu ed : Int), vs = [.ref p, .ref r, .ref wg, .ref hd] ∧ Bag H p ∧ NetAt H r ls sts jns tis ∧ 1 ≤ jns.length ∧ jns.length ≤ 100 ∧ (∀ j ∈ jns, 1 ≤ j.2.length ∧ j.2.length ≤ 8) ∧ wg ≠ p ∧ H wg = some (.lst (ga.map V.ref)) ∧ Paired (WgA H) ga ws ∧ 1 ≤ ws.length ∧ ws.length ≤ 4 ∧ H hd = some (.tup [.str kd, .int nu, .int ed]) ∧
  ∀ (H' : Hp) (t : Addr) (jn : Nm × List Nm) (dy hr wag : Int) (ov : Nm) (ld sl : Str), Keep p H H' → Bag H' p → jn ∈ jns → ov ∈ jn.2 → 1 ≤ dy → dy ≤ 420 → 0 ≤ hr → hr ≤ 23 → (ld = ("laden" : Str) ∨ ld = ("empty" : Str)) → (sl = ("whole" : Str) ∨ sl = ("broken" : Str)) → ((∃ x ∈ ws, wag = x.1) ∨ (1 ≤ wag ∧ wag ≤ 9999)) →
    H' t = some (.tup [.str kd, .int nu, .int ed, nS jn.1, .int dy, .int hr, .int wag, nS ov, .str ld, .str sl]) → Q (.ref t) H'
set_option maxHeartbeats 8000000 in
theorem ok_l_return (T : Defs K mg) : FnOk P w K mg base CX0 (k + 3) T.a_l_return T.d_l_return ["_law_bag_here", "_law_net_here", "_law_wagons", "_law_head"] sp_l_return := by
  have G_l_take : FnOk P w K mg base CX0 (k + 2) _ _ _ _ := ok_l_take (k := k + 1) T
  have G_l_day : FnOk P w K mg base CX0 (k + 2) _ _ _ _ := ok_l_day (k := k) T
  refine T.F_l_return.ok sc_l_return (fun vs H Q E h => ?_) (fun cdv A outer s H vs Q E hr h => ?_)
  · obtain ⟨p, r, wg, hd, ls, sts, jns, tis, ga, ws, kd, nu, ed, rfl, _⟩ := h
    rfl
  · obtain ⟨p, r, wg, hd, ls, sts, jns, tis, ga, ws, kd, nu, ed, rfl, b, hnet, j1, j100, hj, nwp, ewg, hga, w1, w4, ehd, q⟩ := h
    obtain ⟨ra, rb, rc, rd, sa, ja, ta, er, hra, hrb, hsa, hrc, hja, _⟩ := hnet
    refine ⟨_, PSs.nox
(pss_cons (ps_asg (pe_ix (r := rIxT K) ix_tup (pe_ix (r := rIxT K) ix_tup (pv 1) (pe_int) (fun _ _ => rfl)) (pe_call G_l_take hr (by rfl) T.g_l_take T.F_l_take.kp T.b_l_take .nil pass0 (pa_cons (pv 0) (pa_cons (pe_callB (r := rLenS K) call_lenS (by rfl) T.z_len (by decide +kernel) (pa_cons (pe_ix (r := rIxT K) ix_tup (pv 1) (pe_int) (fun _ _ => rfl)) pa_nil)) pa_nil))) (fun _ _ => rfl)) (pg_tup rfl (pgs_cons (pg_name (i := 4) sc_l_return.nd rfl (.inl rfl)) (pgs_cons (pg_name (i := 5) sc_l_return.nd rfl (.inl rfl)) pgs_nil))))
    (pss_cons (ps_set (i := 6) sc_l_return.nd rfl (.inl rfl) (pe_ix (r := rIxT K) ix_tup (pe_ix (r := rIxL K) ix_list (pv 2) (pe_call G_l_take hr (by rfl) T.g_l_take T.F_l_take.kp T.b_l_take .nil pass0 (pa_cons (pv 0) (pa_cons (pe_callB (r := rLenS K) call_lenS (by rfl) T.z_len (by decide +kernel) (pa_cons (pv 2) pa_nil)) pa_nil))) (fun _ _ => rfl)) (pe_int) (fun _ _ => rfl)))
    (Evl.pss_cut (ps_if (pt_cmpR op_eq (pe_call G_l_take hr (by rfl) T.g_l_take T.F_l_take.kp T.b_l_take .nil pass0 (pa_cons (pv 0) (pa_cons (pe_int) pa_nil))) (pe_int) (nomark _))
      (pss_one (ps_set (i := 6) sc_l_return.nd rfl (.inl rfl) (pe_op op_add (pe_int) (pe_call G_l_take hr (by rfl) T.g_l_take T.F_l_take.kp T.b_l_take .nil pass0 (pa_cons (pv 0) (pa_cons (pe_int) pa_nil))))))
      pss_nil)
    (pss_cons (ps_set (i := 7) sc_l_return.nd rfl (.inl rfl) (pe_ix (r := rIxT K) ix_tup (pv 5) (pe_call G_l_take hr (by rfl) T.g_l_take T.F_l_take.kp T.b_l_take .nil pass0 (pa_cons (pv 0) (pa_cons (pe_callB (r := rLenS K) call_lenS (by rfl) T.z_len (by decide +kernel) (pa_cons (pv 5) pa_nil)) pa_nil))) (fun _ _ => rfl)))
    (pss_cons (ps_set (i := 8) sc_l_return.nd rfl (.inl rfl) (pe_ix (r := rIxT K) ix_tup (pe_tup (pa_cons (pe_str) (pa_cons (pe_str) pa_nil))) (pe_call G_l_take hr (by rfl) T.g_l_take T.F_l_take.kp T.b_l_take .nil pass0 (pa_cons (pv 0) (pa_cons (pe_int) pa_nil))) (fun _ _ => rfl)))
    (pss_cons (ps_set (i := 3) sc_l_return.nd rfl (.inl rfl) (pe_op op_catT (pv 3) (pe_tup (pa_cons (pv 4) (pa_cons (pe_call G_l_day hr (by rfl) T.g_l_day T.F_l_day.kp T.b_l_day .nil pass0 (pa_cons (pv 0) pa_nil)) (pa_cons (pe_call G_l_take hr (by rfl) T.g_l_take T.F_l_take.kp T.b_l_take .nil pass0 (pa_cons (pv 0) (pa_cons (pe_int) pa_nil))) (pa_cons (pv 6) pa_nil)))))))
    (pss_one (ps_ret (pe_op op_catT (pv 3) (pe_tup (pa_cons (pv 7) (pa_cons (pe_ix (r := rIxT K) ix_tup (pe_tup (pa_cons (pe_str) (pa_cons (pe_str) pa_nil))) (pe_call G_l_take hr (by rfl) T.g_l_take T.F_l_take.kp T.b_l_take .nil pass0 (pa_cons (pv 0) (pa_cons (pe_int) pa_nil))) (fun _ _ => rfl)) (pa_cons (pv 8) pa_nil)))))))))))))
      , ?_⟩
    have jal := paired_len hja
    have gal := paired_len hga
    -- the junction
    refine ⟨.ref r, rfl, r, _, 2, .ref rc, rfl, rfl, SqT.of er, atI_nat (j := 2) rfl, .ref p, rfl, .ref r, rfl, r, _, 2, .ref rc, rfl, rfl, SqT.of er, atI_nat (j := 2) rfl, rc, _, rfl, .inr hrc.sq, p, _, rfl, b, by rw [List.length_map]; omega, by rw [List.length_map]; omega, fun H1 d k1 b1 d0 d1 => ?_⟩
    rw [List.length_map] at d1
    obtain ⟨d, rfl⟩ : ∃ xn : Nat, d = (xn : Int) := ⟨d.toNat, by omega⟩
    have dl : d < jns.length := by omega
    obtain ⟨ju, eju, hju⟩ := paired_getR hja (List.getElem?_eq_getElem dl)
    obtain ⟨cc, ej1, ej2⟩ := hju
    have jin := List.getElem_mem dl
    generalize jns[d] = jn at ej1 ej2 jin
    have tk1 := TKF.keep k1 b
    refine ⟨rc, _, d, .ref ju, rfl, rfl, (hrc.keep k1 b).sq, atI_nat (j := d) (by rw [List.getElem?_map, eju]; rfl), ju, _, rfl, SqT.of (tk1.t _ _ ej1), rfl, _, _, rfl, _, [], rfl, rfl, ?_⟩
    -- the wagon
    have ewg1 := k1 _ _ nwp ewg
    refine ⟨.ref wg, rfl, .ref p, rfl, .ref wg, rfl, wg, _, rfl, .inl (SqL.of ewg1), p, _, rfl, b1, by rw [List.length_map]; omega, by rw [List.length_map]; omega, fun H2 c k2 b2 c0 c1 => ?_⟩
    rw [List.length_map] at c1
    obtain ⟨c, rfl⟩ : ∃ xn : Nat, c = (xn : Int) := ⟨c.toNat, by omega⟩
    have cl : c < ws.length := by omega
    obtain ⟨gu, egu, hgu⟩ := paired_getR hga (List.getElem?_eq_getElem cl)
    have gin := List.getElem_mem cl
    generalize ws[c] = x at hgu gin
    have tk2 := tk1.trans (TKF.keep k2 b1)
    have k02 := k1.trans k2
    refine ⟨wg, _, c, .ref gu, rfl, rfl, SqL.of (k2 _ _ nwp ewg1), atI_nat (j := c) (by rw [List.getElem?_map, egu]; rfl), gu, _, 0, .int x.1, rfl, rfl, SqT.of (tk2.t _ _ hgu), atI_nat (j := 0) rfl, ?_⟩
    refine ⟨fun σ Hz => ∃ wag : Int, σ = [some (.ref p), some (.ref r), some (.ref wg), some (.ref hd), some (nS jn.1), some (.ref cc), some (.int wag), none, none] ∧ Keep p H2 Hz ∧ Bag Hz p ∧ ((∃ x ∈ ws, wag = x.1) ∨ (1 ≤ wag ∧ wag ≤ 9999)), ?_, fun σ H3 mid => ?_⟩
    · refine ⟨.ref p, rfl, p, 5, rfl, b2, by decide, by decide, fun H3 _ k3 b3 _ _ => ⟨rfl, _, rfl, ite2 (fun _ => ?_) fun _ => ?_⟩⟩
      · exact ⟨.ref p, rfl, p, 9999, rfl, b3, by decide, by decide, fun H4 m k4 b4 m0 m1 => ⟨1, m, rfl, rfl, _, rfl, k3.trans k4, b4, .inr ⟨by omega, by omega⟩⟩⟩
      · exact ⟨_, rfl, k3, b3, .inl ⟨x, gin, rfl⟩⟩
    obtain ⟨wag, rfl, k3, b3, hwag⟩ := mid
    have tk3 := tk2.trans (TKF.keep k3 b2)
    have k03 := k02.trans k3
    have ec3 := tk3.t _ _ ej2
    obtain ⟨jl1, jl8⟩ := hj jn jin
    -- over
    refine ⟨.ref cc, rfl, .ref p, rfl, .ref cc, rfl, cc, _, rfl, .inr (SqT.of ec3), p, _, rfl, b3, by rw [List.length_map]; omega, by rw [List.length_map]; omega, fun H4 e k4 b4 e0 e1 => ?_⟩
    rw [List.length_map] at e1
    obtain ⟨e, rfl⟩ : ∃ xn : Nat, e = (xn : Int) := ⟨e.toNat, by omega⟩
    have el : e < jn.2.length := by omega
    refine ⟨cc, _, e, nS jn.2[e], rfl, rfl, SqT.of ((TKF.keep k4 b3).t _ _ ec3), atI_nat (j := e) (by rw [List.getElem?_map, List.getElem?_eq_getElem el]; rfl), ?_⟩
    have ovin := List.getElem_mem el
    generalize jn.2[e] = ov at ovin
    -- the seal
    refine ⟨by show 2 ≤ sizeLine; decide, fun v nv => ?_⟩
    have s5 := same_upd (o := .tup [.str ("whole" : Str), .str ("broken" : Str)]) nv
    refine ⟨.ref p, rfl, p, 2, rfl, b4.keep s5, by decide, by decide, fun H5 f k5 b5 f0 f1 => ?_⟩
    obtain ⟨sl, hsl, esl⟩ := pick2 (x := ("whole" : Str)) (y := ("broken" : Str)) f0 f1
    refine ⟨v, _, f, _, rfl, rfl, SqT.of (k5 _ _ (b4.ne nv) upd_same), esl, ?_⟩
    have k05 := ((k03.trans k4).trans (.of s5)).trans k5
    have ehd5 := (TKF.keep k05 b).t _ _ ehd
    -- the head
    refine ⟨.ref hd, rfl, nS jn.1, rfl, .ref p, rfl, p, rfl, b5, fun H6 dy k6 b6 dy1 dy2 => ⟨.ref p, rfl, p, 24, rfl, b6, by decide, by decide, fun H7 ho k7 b7 ho0 ho1 => ⟨.int wag, rfl, by show 4 ≤ sizeLine; decide, fun u nu' => ?_⟩⟩⟩
    have s8 := same_upd (o := .tup [nS jn.1, .int dy, .int ho, .int wag]) nu'
    have k57 := k6.trans k7
    have ehd8 := s8 _ _ ((TKF.keep k57 b5).t _ _ ehd5)
    refine ⟨hd, u, _, _, rfl, rfl, SqT.of ehd8, SqT.of upd_same, by simp, by show 7 ≤ sizeLine; decide, fun h => (by cases h), fun _ g ng => ?_⟩
    have s9 := s8.trans (same_upd (o := .tup ([.str kd, .int nu, .int ed] ++ [nS jn.1, .int dy, .int ho, .int wag])) ng)
    have eg : (upd (upd H7 u (.tup [nS jn.1, .int dy, .int ho, .int wag])) g (.tup ([.str kd, .int nu, .int ed] ++ [nS jn.1, .int dy, .int ho, .int wag]))) g = some (.tup ([.str kd, .int nu, .int ed] ++ [nS jn.1, .int dy, .int ho, .int wag])) := upd_same
    have b9 := b7.keep s9
    have k09 := (k05.trans k57).trans (.of s9)
    generalize upd (upd H7 u (.tup [nS jn.1, .int dy, .int ho, .int wag])) g (.tup ([.str kd, .int nu, .int ed] ++ [nS jn.1, .int dy, .int ho, .int wag])) = H9 at s9 eg b9 k09 ⊢
    refine ⟨.ref g, rfl, nS ov, rfl, by show 2 ≤ sizeLine; decide, fun v2 nv2 => ?_⟩
    have s10 := same_upd (o := .tup [.str ("laden" : Str), .str ("empty" : Str)]) nv2
    refine ⟨.ref p, rfl, p, 2, rfl, b9.keep s10, by decide, by decide, fun H10 l k10 b10 l0 l1 => ?_⟩
    obtain ⟨ld, hld, eld⟩ := pick2 (x := ("laden" : Str)) (y := ("empty" : Str)) l0 l1
    have k910 := (Keep.of s10).trans k10
    have eg10 := (TKF.keep k910 b9).t _ _ eg
    refine ⟨v2, _, l, _, rfl, rfl, SqT.of (k10 _ _ (b9.ne nv2) upd_same), eld, .str sl, rfl, by show 3 ≤ sizeLine; decide, fun u2 nu2 => ?_⟩
    have s11 := same_upd (o := .tup [nS ov, .str ld, .str sl]) nu2
    refine ⟨g, u2, _, _, rfl, rfl, SqT.of (s11 _ _ eg10), SqT.of upd_same, by simp, by show 10 ≤ sizeLine; decide, fun h => (by cases h), fun _ t nt => ?_⟩
    exact q _ t jn dy ho wag ov ld sl (((k09.trans k910).trans (.of s11)).trans (.of (same_upd nt))) ((b10.keep s11).keep (same_upd nt)) jin ovin dy1 dy2 ho0 (by omega) hld hsl hwag upd_same
end
end Th
namespace Th
open PySem PySem.Spec PyProof.Rows L2
/-! a drawn paper of any kind -/
/-! data without lists: kept where tuples are -/
mutual
def noL : PyData → Bool
  | .list _ => false
  | .dict _ => false
  | .tuple ds => noLAll ds
  | .none => true
  | .bool _ => false
  | .int _ => true
  | .str _ => true
def noLAll : List PyData → Bool
  | [] => true
  | d :: ds => noL d && noLAll ds
end
mutual
theorem Dt.tkf {H H' : Hp} (k : TKF H H') : ∀ {v : V} {d : PyData}, Dt SA H v d → noL d = true → Dt SA H' v d
  | _, _, .non, _ => .non
  | _, _, .bl b, h => by simp [noL] at h
  | _, _, .int b, _ => .int b
  | _, _, .str b, _ => .str b
  | _, _, .lst s e l r, h => by simp [noL] at h
  | _, _, .tup s e l r, h => .tup s (k.t _ _ e) l (DtAll.tkf k r (by simpa [noL] using h))
theorem DtAll.tkf {H H' : Hp} (k : TKF H H') : ∀ {v : List V} {d : List PyData}, DtAll SA H v d → noLAll d = true → DtAll SA H' v d
  | _, _, .nil, _ => .nil
  | _, _, .cons a r, h => by
    simp only [noLAll, Bool.and_eq_true] at h
    exact .cons (Dt.tkf k a h.1) (DtAll.tkf k r h.2)
end
theorem noLAll_strs : ∀ ss : List Str, noLAll (ss.map PyData.str) = true
  | [] => rfl
  | s :: ss => by
    show (true && noLAll (ss.map PyData.str)) = true
    rw [noLAll_strs ss]
    rfl
theorem noL_rul (n : Int) (ss : List Str) : noLAll [.int n, .tuple (ss.map PyData.str)] = true := by
  show (true && (noLAll (ss.map PyData.str) && true)) = true
  rw [noLAll_strs]
  rfl
def jnD (j : Nm × List Nm) : PyData := .tuple [.str (SX.S j.1), .tuple ((j.2.map SX.S).map PyData.str)]
theorem layAll_nmsH : ∀ {zs : List Nm}, (∀ z ∈ zs, IsNm z) → PyData.canLayAll0 ((zs.map SX.S).map PyData.str) = true
  | [], _ => rfl
  | z :: zs, h => by
    refine Bool.and_eq_true_iff.mpr ⟨nm_ok (h z List.mem_cons_self), layAll_nmsH fun y hy => h y (List.mem_cons_of_mem _ hy)⟩
theorem depthAll_nmsH : ∀ zs : List Nm, PyData.depthAll ((zs.map SX.S).map PyData.str) = 0
  | [] => rfl
  | z :: zs => by
    show max 0 (PyData.depthAll ((zs.map SX.S).map PyData.str)) = 0
    rw [depthAll_nmsH zs]
    rfl
theorem layAll_jn : ∀ {js : List (Nm × List Nm)}, (∀ j ∈ js, IsNm j.1 ∧ ∀ z ∈ j.2, IsNm z) → PyData.canLayAll0 (js.map jnD) = true
  | [], _ => rfl
  | j :: js, h => by
    refine Bool.and_eq_true_iff.mpr ⟨?_, layAll_jn fun y hy => h y (List.mem_cons_of_mem _ hy)⟩
    show (PyData.strOk (SX.S j.1) && (PyData.canLayAll0 ((j.2.map SX.S).map PyData.str) && true)) = true
    rw [nm_ok (h j List.mem_cons_self).1, layAll_nmsH (h j List.mem_cons_self).2]
    rfl
theorem depthAll_jn : ∀ js : List (Nm × List Nm), PyData.depthAll (js.map jnD) ≤ 2
  | [] => Nat.zero_le _
  | j :: js => by
    refine Nat.max_le.mpr ⟨?_, depthAll_jn js⟩
    show max 0 (max (PyData.depthAll ((j.2.map SX.S).map PyData.str) + 1) 0) + 1 ≤ 2
    rw [depthAll_nmsH]
    decide
theorem shaped_jn {js : List (Nm × List Nm)} (h : ∀ j ∈ js, IsNm j.1 ∧ ∀ z ∈ j.2, IsNm z) : SeqAt.shaped (.tuple (js.map jnD)) = true := Bool.and_eq_true_iff.mpr ⟨layAll_jn h, decide_eq_true (by
  show PyData.depthAll (js.map jnD) + 1 ≤ 64
  have := depthAll_jn js
  omega)⟩
theorem dpAll_nmsH {K : PySem.W.Frag} {H : Hp} : ∀ zs : List Nm, DpAll K H (zs.map nS) ((zs.map SX.S).map PyData.str)
  | [] => .nil
  | z :: zs => .cons (.str _) (dpAll_nmsH zs)
theorem dpAll_jn {K : PySem.W.Frag} {H : Hp} : ∀ {as : List Addr} {js : List (Nm × List Nm)}, Paired (JnAt H) as js → DpAll K H (as.map V.ref) (js.map jnD)
  | _, _, .nil => .nil
  | _, _, .cons (b := j) ⟨c, h1, h2⟩ t => .cons (.tup (SqT.of h1) (.cons (.str _) (.cons (.tup (SqT.of h2) (dpAll_nmsH j.2)) .nil))) (dpAll_jn t)
theorem inc_len {n : Nat} : ∀ {js : List Nat} {lo : Nat}, js.Pairwise (· < ·) → (∀ j ∈ js, lo ≤ j ∧ j < n) → js = [] ∨ js.length + lo ≤ n
  | [], _, _, _ => .inl rfl
  | j :: js, lo, hp, h => by
    cases hp with
    | cons h1 h2 =>
      have hj := h j List.mem_cons_self
      rcases inc_len (lo := j + 1) h2 (fun x hx => ⟨h1 x hx, (h x (List.mem_cons_of_mem _ hx)).2⟩) with e | e
      · subst e
        refine .inr ?_
        show 0 + 1 + lo ≤ n
        omega
      · refine .inr ?_
        rw [List.length_cons]
        omega
/-- the junctions of a drawn house -/
theorem jns_ok {n kk sd : Nat} {f0 b0 f1 b1 f2 b2 f3 b3 : Nm} {d0 d3 : Nat} {jx : List (Nm × List Nm)} (hn : HNs kk sd f0 b0 f1 b1 f2 b2 f3 b3) (sd1 : sd ≤ 1) (n8 : n ≤ 8) (hjx : ∀ x ∈ jx, JxOk n (hNm f0 d0 b0) (hNm f3 d3 b3) 3 x) : ∀ j ∈ hJns n (hNm f0 d0 b0) (hNm f3 d3 b3) ++ jx, (IsNm j.1 ∧ ∀ z ∈ j.2, IsNm z) ∧ 1 ≤ j.2.length ∧ j.2.length ≤ 8 := by
  have l3 : (hdS sd ((sgL kk).getD 2 [])).length + (tlS sd ((sgL kk).getD 2 [])).length ≤ 2 := by
    have : ((sgL kk).getD 2 []).length = 1 := by unfold sgL; split <;> rfl
    unfold hdS tlS
    split
    · rw [this]; decide
    · rw [this]; decide
  have hJ := fun k => hn.h3.nm l3 d3 k
  have hL := fun k => hn.h0.nm (by decide) d0 k
  intro j hj
  rcases List.mem_append.mp hj with h | h
  · unfold hJns at h
    obtain ⟨k, _, rfl⟩ := List.mem_map.mp h
    refine ⟨⟨hJ k, fun z hz => ?_⟩, by show 1 ≤ 2; decide, by show 2 ≤ 8; decide⟩
    rcases List.mem_cons.mp hz with e | hz
    · rw [e]; exact hL k
    · rw [List.mem_singleton.mp hz]; exact hL (k + 1)
  · obtain ⟨k, _, _, e⟩ := (hjx j h).at_
    obtain ⟨js, hp, hb, h2, ej⟩ := (hjx j h).ls
    rw [e, ej]
    refine ⟨⟨hJ _, fun z hz => ?_⟩, by rw [List.length_map]; omega, ?_⟩
    · obtain ⟨m, _, rfl⟩ := List.mem_map.mp hz
      exact hL m
    · rw [List.length_map]
      rcases inc_len (lo := 0) hp (fun x hx => ⟨Nat.zero_le _, hb x hx⟩) with z | z
      · rw [z]; decide
      · omega
theorem pickS {ss : List Str} {d : Int} (h0 : 0 ≤ d) (h1 : d < (ss.length : Int)) : ∃ z, z ∈ ss ∧ atI (ss.map V.str) d = some (.str z) := by
  obtain ⟨n, rfl⟩ : ∃ n : Nat, d = (n : Int) := ⟨d.toNat, by omega⟩
  have hn : n < ss.length := by omega
  exact ⟨ss[n], List.getElem_mem hn, atI_nat (j := n) (by rw [List.getElem?_map, List.getElem?_eq_getElem hn]; rfl)⟩
theorem ppOk_of {x : Pp} (h : x.kd ∈ KINDS_L) (l : PyData.canLayAll0 x.rest = true) (d : PyData.depthAll x.rest ≤ 5) : PpOk x := by
  have k : PyData.strOk x.kd = true := (by decide +kernel : ∀ a ∈ KINDS_L, PyData.strOk a = true) _ h
  constructor
  · show (PyData.strOk x.kd && (true && (true && PyData.canLayAll0 x.rest))) = true
    rw [k, l]
    rfl
  · show max 0 (max 0 (max 0 (PyData.depthAll x.rest))) + 1 ≤ 10
    omega
section
variable {P : Program} {w : World} {K : PySem.W.Frag} {mg : Str → Option Value} {base : Heap} {k : Nat}
def sp_l_paper : Sp := fun vs H Q _ => ∃ (p h r wl gl ru : Addr) (ways : List (List Nm)) (wags : List (Int × Nm)) (n m2 kk sd : Nat) (f0 b0 f1 b1 f2 b2 f3 b3 : Nm) (d0 d1 d2 d3 : Nat) (jx : List (Nm × List Nm)) (tis : List Ti), vs = [.ref p, .ref h] ∧ Bag H p ∧ wl ≠ p ∧ gl ≠ p ∧ NetH H r n m2 kk sd f0 b0 f1 b1 f2 b2 f3 b3 d0 d1 d2 d3 jx tis ∧ HouseAt H h r wl gl ru ways wags n m2 (hNm f0 d0 b0) (hNm f1 d1 b1) (hNm f2 d2 b2) (hNm f3 d3 b3) ∧
  ∀ (H' : Hp) (t : Addr) (x : Pp), Keep p H H' → Bag H' p → Dt SA H' (.ref t) (ppD x) → PpOk x → x.kd ∈ KINDS_L → noLAll x.rest = true → x.rest ≠ [] → Q (.ref t) H'
set_option maxHeartbeats 8000000 in
theorem ok_l_paper (T : Defs K mg) : FnOk P w K mg base CX0 (k + 4) T.a_l_paper T.d_l_paper ["_law_bag_here", "_law_house_here"] sp_l_paper := by
  have G_l_take : FnOk P w K mg base CX0 (k + 3) _ _ _ _ := ok_l_take (k := k + 2) T
  have G_l_sum : FnOk P w K mg base CX0 (k + 3) _ _ _ _ := ok_l_sum (k := k + 1) T
  have G_l_day : FnOk P w K mg base CX0 (k + 3) _ _ _ _ := ok_l_day (k := k + 1) T
  have G_l_number : FnOk P w K mg base CX0 (k + 3) _ _ _ _ := ok_l_number (k := k + 1) T
  have G_l_line : FnOk P w K mg base CX0 (k + 3) _ _ _ _ := ok_l_line (k := k + 1) T
  have G_l_return : FnOk P w K mg base CX0 (k + 3) _ _ _ _ := ok_l_return (k := k) T
  refine T.F_l_paper.ok sc_l_paper (fun vs H Q E h => ?_) (fun cdv A outer s H vs Q E hr h => ?_)
  · obtain ⟨p, h, r, wl, gl, ru, ways, wags, n, m2, kk, sd, f0, b0, f1, b1, f2, b2, f3, b3, d0, d1, d2, d3, jx, tis, rfl, _⟩ := h
    rfl
  · obtain ⟨p, h, r, wl, gl, ru, ways, wags, n, m2, kk, sd, f0, b0, f1, b1, f2, b2, f3, b3, d0, d1, d2, d3, jx, tis, rfl, b, nwl, ngl, net, ho, q⟩ := h
    refine ⟨_, PSs.nox
(pss_cons (ps_asg (pv 1) (pg_tup rfl (pgs_cons (pg_name (i := 2) sc_l_paper.nd rfl (.inl rfl)) (pgs_cons (pg_name (i := 3) sc_l_paper.nd rfl (.inl rfl)) (pgs_cons (pg_name (i := 4) sc_l_paper.nd rfl (.inl rfl)) (pgs_cons (pg_name (i := 5) sc_l_paper.nd rfl (.inl rfl)) pgs_nil))))))
    (pss_cons (ps_set (i := 6) sc_l_paper.nd rfl (.inl rfl) (pe_ix (r := rIxT K) ix_tup (pe_tup (pa_cons (pe_str) (pa_cons (pe_str) (pa_cons (pe_str) (pa_cons (pe_str) (pa_cons (pe_str) (pa_cons (pe_str) (pa_cons (pe_str) (pa_cons (pe_str) pa_nil))))))))) (pe_call G_l_take hr (by rfl) T.g_l_take T.F_l_take.kp T.b_l_take .nil pass0 (pa_cons (pv 0) (pa_cons (pe_int) pa_nil))) (fun _ _ => rfl)))
    (Evl.pss_cut (ps_if (PW.pt (pw_and (pt_cmpR op_eq (pv 6) (pe_str) (nomark _)) (pw_and1 (pt_cmpR (r := rEqD K) (op_eqD hr.units) (pe_ix (r := rIxT K) ix_tup (pv 2) (pe_int) (fun _ _ => rfl)) (pe_tup pa_nil) (nomark _)))))
      (pss_one (ps_set (i := 6) sc_l_paper.nd rfl (.inl rfl) (pe_str)))
      pss_nil)
    (pss_cons (ps_par (i := 7) (j := 8) (by rfl) sc_l_paper.nd rfl rfl (by decide) rfl rfl (pa_cons (pe_call G_l_number hr (by rfl) T.g_l_number T.F_l_number.kp T.b_l_number .nil pass0 (pa_cons (pv 0) pa_nil)) (pa_cons (pe_op op_add (pe_int) (pe_call G_l_take hr (by rfl) T.g_l_take T.F_l_take.kp T.b_l_take .nil pass0 (pa_cons (pv 0) (pa_cons (pe_int) pa_nil)))) pa_nil)) (by rfl))
    (Evl.pss_cut (ps_if (pt_cmpR op_eq (pe_call G_l_take hr (by rfl) T.g_l_take T.F_l_take.kp T.b_l_take .nil pass0 (pa_cons (pv 0) (pa_cons (pe_int) pa_nil))) (pe_int) (nomark _))
      (pss_one (ps_set (i := 8) sc_l_paper.nd rfl (.inl rfl) (pe_op op_add (pe_int) (pe_call G_l_take hr (by rfl) T.g_l_take T.F_l_take.kp T.b_l_take .nil pass0 (pa_cons (pv 0) (pa_cons (pe_int) pa_nil))))))
      pss_nil)
    (pss_cons (ps_set (i := 9) sc_l_paper.nd rfl (.inl rfl) (pe_tup (pa_cons (pv 6) (pa_cons (pv 7) (pa_cons (pv 8) pa_nil)))))
    (pss_cons (ps_if (pt_cmpR op_eq (pv 6) (pe_str) (nomark _))
      (pss_cons (ps_set (i := 10) sc_l_paper.nd rfl (.inl rfl) (pe_tup (pa_cons (pe_call G_l_sum hr (by rfl) T.g_l_sum T.F_l_sum.kp T.b_l_sum .nil pass0 (pa_cons (pv 0) pa_nil)) (pa_cons (pe_call G_l_sum hr (by rfl) T.g_l_sum T.F_l_sum.kp T.b_l_sum .nil pass0 (pa_cons (pv 0) pa_nil)) pa_nil))))
      (pss_cons (ps_set (i := 11) sc_l_paper.nd rfl (.inl rfl) (pe_tup (pa_cons (pe_call G_l_take hr (by rfl) T.g_l_take T.F_l_take.kp T.b_l_take .nil pass0 (pa_cons (pv 0) (pa_cons (pe_callB (r := rLenS K) call_lenS (by rfl) T.z_len (by decide +kernel) (pa_cons (pv 3) pa_nil)) pa_nil))) (pa_cons (pe_call G_l_sum hr (by rfl) T.g_l_sum T.F_l_sum.kp T.b_l_sum .nil pass0 (pa_cons (pv 0) pa_nil)) (pa_cons (pe_call G_l_sum hr (by rfl) T.g_l_sum T.F_l_sum.kp T.b_l_sum .nil pass0 (pa_cons (pv 0) pa_nil)) (pa_cons (pv 10) pa_nil))))))
      (pss_one (ps_ret (pe_op op_catT (pe_op op_catT (pe_op op_catT (pv 9) (pe_tup (pa_cons (pe_call G_l_day hr (by rfl) T.g_l_day T.F_l_day.kp T.b_l_day .nil pass0 (pa_cons (pv 0) pa_nil)) pa_nil))) (pv 11)) (pe_tup (pa_cons (pe_ix (r := rIxT K) ix_tup (pe_ix (r := rIxL K) ix_list (pv 4) (pe_call G_l_take hr (by rfl) T.g_l_take T.F_l_take.kp T.b_l_take .nil pass0 (pa_cons (pv 0) (pa_cons (pe_callB (r := rLenS K) call_lenS (by rfl) T.z_len (by decide +kernel) (pa_cons (pv 4) pa_nil)) pa_nil))) (fun _ _ => rfl)) (pe_int) (fun _ _ => rfl)) pa_nil)))))))
      pss_nil)
    (pss_cons (ps_if (pt_cmpR op_eq (pv 6) (pe_str) (nomark _))
      (pss_one (ps_ret (pe_call G_l_return hr (by rfl) T.g_l_return T.F_l_return.kp T.b_l_return .nil pass0 (pa_cons (pv 0) (pa_cons (pv 2) (pa_cons (pv 4) (pa_cons (pv 9) pa_nil)))))))
      pss_nil)
    (pss_cons (ps_if (pt_cmpR op_eq (pv 6) (pe_str) (nomark _))
      (pss_cons (ps_set (i := 12) sc_l_paper.nd rfl (.inl rfl) (pe_callB cr_sorted (by rfl) T.z_sorted (by decide +kernel) (pa_cons (pe_lst (pa_cons (pe_call G_l_day hr (by rfl) T.g_l_day T.F_l_day.kp T.b_l_day .nil pass0 (pa_cons (pv 0) pa_nil)) (pa_cons (pe_call G_l_day hr (by rfl) T.g_l_day T.F_l_day.kp T.b_l_day .nil pass0 (pa_cons (pv 0) pa_nil)) pa_nil))) pa_nil)))
      (pss_one (ps_ret (pe_op op_catT (pv 9) (pe_tup (pa_cons (pe_call G_l_line hr (by rfl) T.g_l_line T.F_l_line.kp T.b_l_line .nil pass0 (pa_cons (pv 0) (pa_cons (pv 2) pa_nil))) (pa_cons (pe_ix (r := rIxL K) ix_list (pv 12) (pe_int) (fun _ _ => rfl)) (pa_cons (pe_ix (r := rIxL K) ix_list (pv 12) (pe_int) (fun _ _ => rfl)) (pa_cons (pe_call G_l_sum hr (by rfl) T.g_l_sum T.F_l_sum.kp T.b_l_sum .nil pass0 (pa_cons (pv 0) pa_nil)) pa_nil)))))))))
      pss_nil)
    (pss_cons (ps_set (i := 9) sc_l_paper.nd rfl (.inl rfl) (pe_op op_catT (pv 9) (pe_tup (pa_cons (pe_call G_l_number hr (by rfl) T.g_l_number T.F_l_number.kp T.b_l_number .nil pass0 (pa_cons (pv 0) pa_nil)) pa_nil))))
    (pss_cons (ps_if (pt_cmpR op_eq (pv 6) (pe_str) (nomark _))
      (pss_one (ps_ret (pe_op op_catT (pv 9) (pe_tup (pa_cons (pe_call G_l_sum hr (by rfl) T.g_l_sum T.F_l_sum.kp T.b_l_sum .nil pass0 (pa_cons (pv 0) pa_nil)) pa_nil)))))
      pss_nil)
    (pss_cons (ps_if (pt_cmpR op_eq (pv 6) (pe_str) (nomark _))
      (pss_one (ps_ret (pe_op op_catT (pv 9) (pe_tup (pa_cons (pe_call G_l_line hr (by rfl) T.g_l_line T.F_l_line.kp T.b_l_line .nil pass0 (pa_cons (pv 0) (pa_cons (pv 2) pa_nil))) pa_nil)))))
      pss_nil)
    (pss_cons (ps_if (pt_cmpR op_eq (pv 6) (pe_str) (nomark _))
      (pss_cons (ps_set (i := 13) sc_l_paper.nd rfl (.inl rfl) (pe_ix (r := rIxT K) ix_tup (pe_tup (pa_cons (pe_tup (pa_cons (pe_str) pa_nil)) (pa_cons (pe_tup (pa_cons (pe_str) pa_nil)) (pa_cons (pe_tup (pa_cons (pe_str) (pa_cons (pe_call G_l_line hr (by rfl) T.g_l_line T.F_l_line.kp T.b_l_line .nil pass0 (pa_cons (pv 0) (pa_cons (pv 2) pa_nil))) pa_nil))) pa_nil)))) (pe_call G_l_take hr (by rfl) T.g_l_take T.F_l_take.kp T.b_l_take .nil pass0 (pa_cons (pv 0) (pa_cons (pe_int) pa_nil))) (fun _ _ => rfl)))
      (pss_one (ps_ret (pe_op op_catT (pv 9) (pe_tup (pa_cons (pv 13) pa_nil))))))
      pss_nil)
    (pss_one (ps_ret (pv 9))))))))))))))))
      , ?_⟩
    have nn := net.2.1
    have n8 := net.2.2.1
    have sd1 := net.2.2.2.2.2.1
    have hns := net.2.2.2.2.2.2.1
    have hjx := net.2.2.2.2.2.2.2.2.2.1
    have jl3 := net.2.2.2.2.2.2.2.1
    have jok := jns_ok hns sd1 n8 hjx
    have jlen : (hJns n (hNm f0 d0 b0) (hNm f3 d3 b3) ++ jx).length ≤ 100 := by unfold hJns; simp; omega
    have nat := net.1
    have lsl : (hNms f0 d0 b0 n).length = n := by unfold hNms; simp
    have lnm : ∀ z ∈ hNms f0 d0 b0 n, IsNm z := hns.h0.nms (by decide) _ _
    generalize hJns n (hNm f0 d0 b0) (hNm f3 d3 b3) ++ jx = jns at jok jlen nat
    generalize hSts n m2 (hNm f0 d0 b0) (hNm f1 d1 b1) (hNm f2 d2 b2) = sts at nat
    refine ⟨.ref h, rfl, h, _, rfl, SqT.of ho.e, rfl, _, _, rfl, _, _, rfl, _, _, rfl, _, [], rfl, rfl, ?_⟩
    -- the kind
    refine ⟨by show 8 ≤ sizeLine; decide, fun v nv => ?_⟩
    have s1 := same_upd (o := .tup ([("waybill" : Str), ("return" : Str), ("toll" : Str), ("claim" : Str), ("answer" : Str), ("ruling" : Str), ("withdrawal" : Str), ("return" : Str)].map V.str)) nv
    refine ⟨.ref p, rfl, p, 8, rfl, b.keep s1, by decide, by decide, fun H1 c k1 bg1 c0 c1 => ?_⟩
    obtain ⟨kd0, hkd0, ekd0⟩ := pickS (ss := [("waybill" : Str), ("return" : Str), ("toll" : Str), ("claim" : Str), ("answer" : Str), ("ruling" : Str), ("withdrawal" : Str), ("return" : Str)]) c0 c1
    have hkd0 : kd0 ∈ KINDS_L := (by decide +kernel : ∀ a ∈ [("waybill" : Str), ("return" : Str), ("toll" : Str), ("claim" : Str), ("answer" : Str), ("ruling" : Str), ("withdrawal" : Str), ("return" : Str)], a ∈ KINDS_L) _ hkd0
    refine ⟨v, _, c, .str kd0, rfl, rfl, SqT.of (k1 _ _ (b.ne nv) upd_same), ekd0, ?_⟩
    have k01 := (Keep.of s1).trans k1
    have nat1 := nat.tk (TKF.keep k01 b)
    refine ⟨fun σ Hz => ∃ kd : Str, σ = [some (.ref p), some (.ref h), some (.ref r), some (.ref wl), some (.ref gl), some (.ref ru), some (.str kd), none, none, none, none, none, none, none] ∧ Keep p H1 Hz ∧ Bag Hz p ∧ kd ∈ KINDS_L ∧ (kd = ("return" : Str) → 1 ≤ jns.length), ?_, fun σ H2 mid => ?_⟩
    · refine ⟨.str kd0, rfl, rfl, _, rfl, ite2 (fun _ => ?_) fun c => ?_⟩
      · obtain ⟨ra, rb, rc, rd, sa, ja, ta, er, _, _, _, hrc, hja, _⟩ := nat1
        refine ⟨.ref r, rfl, r, _, 2, .ref rc, rfl, rfl, SqT.of er, atI_nat (j := 2) rfl, by show 0 ≤ sizeLine; decide, fun e ne => ?_⟩
        have s2 := same_upd (o := .tup []) ne
        refine ⟨.tuple (jns.map jnD), .tuple [], .tup (hrc.same s2).sq (dpAll_jn (paired_imp hja fun _ _ _ h => h.kp (Keep.of s2) bg1)), .tup (SqT.of upd_same) .nil, shaped_jn fun j hj => (jok j hj).1, by decide +kernel, _, rfl, ite2 (fun _ => ?_) fun c => ?_⟩
        · exact ⟨_, rfl, .of s2, bg1.keep s2, by decide +kernel, fun z => absurd z (by decide +kernel)⟩
        · refine ⟨_, rfl, .of s2, bg1.keep s2, hkd0, fun _ => ?_⟩
          cases jns with
          | nil => exact absurd rfl c
          | cons j js => exact Nat.succ_le_succ (Nat.zero_le _)
      · exact ⟨_, rfl, .refl _ _, bg1, hkd0, fun z => absurd (decide_eq_true (by rw [z])) c⟩
    obtain ⟨kd, rfl, k2, bg2, hkd, hret⟩ := mid
    -- the number and the edition
    refine ⟨.ref p, rfl, p, rfl, bg2, fun H3 nu k3 bg3 nu0 nu1 => ⟨.ref p, rfl, p, 3, rfl, bg3, by decide, by decide, fun H4 e1 k4 bg4 _ _ => ⟨1, e1, rfl, rfl, _, _, rfl, ?_⟩⟩⟩
    refine ⟨fun σ Hz => ∃ ed : Int, σ = [some (.ref p), some (.ref h), some (.ref r), some (.ref wl), some (.ref gl), some (.ref ru), some (.str kd), some (.int nu), some (.int ed), none, none, none, none, none] ∧ Keep p H4 Hz ∧ Bag Hz p, ?_, fun σ H5 mid => ?_⟩
    · refine ⟨.ref p, rfl, p, 4, rfl, bg4, by decide, by decide, fun H5 _ k5 bg5 _ _ => ⟨rfl, _, rfl, ite2 (fun _ => ?_) fun _ => ?_⟩⟩
      · exact ⟨.ref p, rfl, p, 99, rfl, bg5, by decide, by decide, fun H6 m k6 bg6 m0 m1 => ⟨1, m, rfl, rfl, _, rfl, k5.trans k6, bg6⟩⟩
      · exact ⟨_, rfl, k5, bg5⟩
    obtain ⟨ed, rfl, k5, bg5⟩ := mid
    have k05 := (((k01.trans k2).trans k3).trans k4).trans k5
    -- the head
    refine ⟨.str kd, rfl, .int nu, rfl, .int ed, rfl, by show 3 ≤ sizeLine; decide, fun hd nhd => ?_⟩
    have s6 := same_upd (o := .tup [.str kd, .int nu, .int ed]) nhd
    have ehd : (upd H5 hd (.tup [.str kd, .int nu, .int ed])) hd = some (.tup [.str kd, .int nu, .int ed]) := upd_same
    have bg6 := bg5.keep s6
    have k06 := k05.trans (.of s6)
    generalize upd H5 hd (.tup [.str kd, .int nu, .int ed]) = H6 at s6 ehd bg6 k06 ⊢
    have tk6 := TKF.keep k06 b
    have nat6 := nat.tk tk6
    obtain ⟨wa, ewl, hwa⟩ := ho.w
    obtain ⟨ga, egl, hga⟩ := ho.g
    have ewl6 := k06 _ _ nwl ewl
    have egl6 := k06 _ _ ngl egl
    have hga6 := paired_imp hga fun _ _ _ h => tk6.t _ _ h
    have wal := paired_len hwa
    have gal := paired_len hga
    obtain ⟨wl1, wl5⟩ := ho.wl
    obtain ⟨gl1, gl4⟩ := ho.gl
    have fin : ∀ (H' : Hp) (t : Addr) (zs : List V) (rest : List PyData), Keep p H6 H' → Bag H' p → H' t = some (.tup (.str kd :: .int nu :: .int ed :: zs)) → zs.length ≤ 100 → DtAll SA H' zs rest → PyData.canLayAll0 rest = true → PyData.depthAll rest ≤ 5 → noLAll rest = true → rest ≠ [] → Q (.ref t) H' := fun H' t zs rest k' b' e l dt la de nl ne => q H' t ⟨kd, nu, ed, rest⟩ (k06.trans k') b' (.tup trivial e (by simp only [List.length_cons]; omega) (.cons (.str _) (.cons (.int _) (.cons (.int _) dt)))) (ppOk_of hkd la de) hkd nl ne
    refine ⟨.str kd, rfl, rfl, _, rfl, ite2 (fun _ => ?_) fun _ => ?_⟩
    · -- a waybill
      refine ⟨.ref p, rfl, p, rfl, bg6, fun H7 x1 k7 bg7 _ _ => ⟨.ref p, rfl, p, rfl, bg7, fun H8 x2 k8 bg8 _ _ => ⟨by show 2 ≤ sizeLine; decide, fun ca nca => ?_⟩⟩⟩
      have s9 := same_upd (o := .tup [.int x1, .int x2]) nca
      have eca : (upd H8 ca (.tup [.int x1, .int x2])) ca = some (.tup [.int x1, .int x2]) := upd_same
      have bg9 := bg8.keep s9
      have k69 := (k7.trans k8).trans (.of s9)
      generalize upd H8 ca (.tup [.int x1, .int x2]) = H9 at s9 eca bg9 k69 ⊢
      have ewl9 := k69 _ _ nwl ewl6
      refine ⟨.ref p, rfl, .ref wl, rfl, wl, _, rfl, .inl (SqL.of ewl9), p, _, rfl, bg9, by rw [List.length_map]; omega, by rw [List.length_map]; omega, fun H10 y1 k10 bg10 _ _ => ⟨.ref p, rfl, p, rfl, bg10, fun H11 y2 k11 bg11 _ _ => ⟨.ref p, rfl, p, rfl, bg11, fun H12 y3 k12 bg12 _ _ => ⟨.ref ca, rfl, by show 4 ≤ sizeLine; decide, fun su nsu => ?_⟩⟩⟩⟩
      have s13 := same_upd (o := .tup [.int y1, .int y2, .int y3, .ref ca]) nsu
      have esu : (upd H12 su (.tup [.int y1, .int y2, .int y3, .ref ca])) su = some (.tup [.int y1, .int y2, .int y3, .ref ca]) := upd_same
      have bg13 := bg12.keep s13
      have k913 := ((k10.trans k11).trans k12).trans (.of s13)
      generalize upd H12 su (.tup [.int y1, .int y2, .int y3, .ref ca]) = H13 at s13 esu bg13 k913 ⊢
      have eca13 := (TKF.keep k913 bg9).t _ _ eca
      have k613 := k69.trans k913
      refine ⟨.ref hd, rfl, .ref p, rfl, p, rfl, bg13, fun H14 dy k14 bg14 _ _ => ⟨by show 1 ≤ sizeLine; decide, fun u nu' => ?_⟩⟩
      have s15 := same_upd (o := .tup [.int dy]) nu'
      have bg15 := bg14.keep s15
      have k1315 := k14.trans (.of s15)
      have k615 := k613.trans k1315
      have eu : (upd H14 u (.tup [.int dy])) u = some (.tup [.int dy]) := upd_same
      generalize upd H14 u (.tup [.int dy]) = H15 at s15 bg15 k1315 k615 eu ⊢
      refine ⟨hd, u, _, _, rfl, rfl, SqT.of ((TKF.keep k615 bg6).t _ _ ehd), SqT.of eu, by simp, by show 4 ≤ sizeLine; decide, fun h => (by cases h), fun _ a na => ?_⟩
      have s16 := same_upd (o := .tup ([.str kd, .int nu, .int ed] ++ [.int dy])) na
      have esu16 := s16 _ _ ((TKF.keep k1315 bg13).t _ _ esu)
      refine ⟨.ref su, rfl, a, su, _, _, rfl, rfl, SqT.of upd_same, SqT.of esu16, by simp, by show 8 ≤ sizeLine; decide, fun h => (by cases h), fun _ a2 na2 => ?_⟩
      have s17 := s16.trans (same_upd (o := .tup ([.str kd, .int nu, .int ed] ++ [.int dy] ++ [.int y1, .int y2, .int y3, .ref ca])) na2)
      have ea2 : (upd (upd H15 a (.tup ([.str kd, .int nu, .int ed] ++ [.int dy]))) a2 (.tup ([.str kd, .int nu, .int ed] ++ [.int dy] ++ [.int y1, .int y2, .int y3, .ref ca]))) a2 = some (.tup ([.str kd, .int nu, .int ed] ++ [.int dy] ++ [.int y1, .int y2, .int y3, .ref ca])) := upd_same
      have bg17 := bg15.keep s17
      have k1317 := k1315.trans (.of s17)
      have k617 := k615.trans (.of s17)
      generalize upd (upd H15 a (.tup ([.str kd, .int nu, .int ed] ++ [.int dy]))) a2 (.tup ([.str kd, .int nu, .int ed] ++ [.int dy] ++ [.int y1, .int y2, .int y3, .ref ca])) = H17 at s17 ea2 bg17 k1317 k617 ⊢
      have egl17 := k617 _ _ ngl egl6
      refine ⟨.ref gl, rfl, .ref p, rfl, .ref gl, rfl, gl, _, rfl, .inl (SqL.of egl17), p, _, rfl, bg17, by rw [List.length_map]; omega, by rw [List.length_map]; omega, fun H18 cw k18 bg18 cw0 cw1 => ?_⟩
      rw [List.length_map] at cw1
      obtain ⟨cw, rfl⟩ : ∃ xn : Nat, cw = (xn : Int) := ⟨cw.toNat, by omega⟩
      have cl : cw < wags.length := by omega
      obtain ⟨gu, egu, hgu⟩ := paired_getR hga6 (List.getElem?_eq_getElem cl)
      generalize wags[cw] = x at hgu
      have k618 := k617.trans k18
      have hgu18 := (TKF.keep k618 bg6).t _ _ hgu
      refine ⟨gl, _, cw, .ref gu, rfl, rfl, SqL.of (k18 _ _ ngl egl17), atI_nat (j := cw) (by rw [List.getElem?_map, egu]; rfl), gu, _, 0, .int x.1, rfl, rfl, SqT.of hgu18, atI_nat (j := 0) rfl, by show 1 ≤ sizeLine; decide, fun u2 nu2 => ?_⟩
      have s19 := same_upd (o := .tup [.int x.1]) nu2
      have ea219 := s19 _ _ ((TKF.keep k18 bg17).t _ _ ea2)
      refine ⟨a2, u2, _, _, rfl, rfl, SqT.of ea219, SqT.of upd_same, by simp, by show 9 ≤ sizeLine; decide, fun h => (by cases h), fun _ t nt => ?_⟩
      have s20 := s19.trans (same_upd (o := .tup ([.str kd, .int nu, .int ed] ++ [.int dy] ++ [.int y1, .int y2, .int y3, .ref ca] ++ [.int x.1])) nt)
      refine fin _ t [.int dy, .int y1, .int y2, .int y3, .ref ca, .int x.1] [.int dy, .int y1, .int y2, .int y3, .tuple [.int x1, .int x2], .int x.1] (k618.trans (.of s20)) (bg18.keep s20) upd_same (by show 6 ≤ 100; decide) (.cons (.int _) (.cons (.int _) (.cons (.int _) (.cons (.int _) (.cons (.tup trivial (s20 _ _ ((TKF.keep (k1317.trans k18) bg13).t _ _ eca13)) (by show 2 ≤ 5000; decide) (.cons (.int _) (.cons (.int _) .nil))) (.cons (.int _) .nil)))))) rfl (Nat.le_of_ble_eq_true rfl) rfl (List.cons_ne_nil _ _)
    refine ⟨.str kd, rfl, rfl, _, rfl, ite2 (fun c => ?_) fun _ => ?_⟩
    · -- a return
      have er : kd = ("return" : Str) := by injection of_decide_eq_true c
      refine ⟨.ref p, rfl, .ref r, rfl, .ref gl, rfl, .ref hd, rfl, p, r, gl, hd, _, _, jns, tis, ga, wags, kd, nu, ed, rfl, bg6, nat6, hret er, jlen, fun j hj => (jok j hj).2, ngl, egl6, hga6, gl1, gl4, ehd, fun H' t jn dy hr' wag ov ld sl k' b' jin oin _ _ _ _ hl hs _ et => ?_⟩
      refine fin H' t _ [.str (SX.S jn.1), .int dy, .int hr', .int wag, .str (SX.S ov), .str ld, .str sl] k' b' et (by show 7 ≤ 100; decide) (.cons (.str _) (.cons (.int _) (.cons (.int _) (.cons (.int _) (.cons (.str _) (.cons (.str _) (.cons (.str _) .nil))))))) ?_ (Nat.le_of_ble_eq_true rfl) rfl (List.cons_ne_nil _ _)
      show (PyData.strOk (SX.S jn.1) && (true && (true && (true && (PyData.strOk (SX.S ov) && (PyData.strOk ld && (PyData.strOk sl && true))))))) = true
      rw [nm_ok (jok jn jin).1.1, nm_ok ((jok jn jin).1.2 ov oin)]
      rcases hl with rfl | rfl <;> rcases hs with rfl | rfl <;> decide +kernel
    refine ⟨.str kd, rfl, rfl, _, rfl, ite2 (fun _ => ?_) fun _ => ?_⟩
    · -- a toll
      refine ⟨.ref p, rfl, p, rfl, bg6, fun H7 x1 k7 bg7 _ _ => ⟨.ref p, rfl, p, rfl, bg7, fun H8 x2 k8 bg8 _ _ => ⟨by show 2 ≤ sizeLine; decide, fun da nda => ?_⟩⟩⟩
      have s9 := same_upd (o := .lst [.int x1, .int x2]) nda
      refine ⟨da, [x1, x2], rfl, SqL.of upd_same, by show 2 < 64; decide, fun ns' so hp _ nso => ?_⟩
      obtain ⟨z1, z2, rfl⟩ : ∃ z1 z2, ns' = [z1, z2] := by
        have hl := hp.length_eq
        match ns', hl with
        | [z1, z2], _ => exact ⟨z1, z2, rfl⟩
      rw [show ([z1, z2] : List Int).map V.int = [.int z1, .int z2] from rfl]
      have s10 := s9.trans (same_upd (o := .lst [.int z1, .int z2]) nso)
      have eso : (upd (upd H8 da (.lst [.int x1, .int x2])) so (.lst [.int z1, .int z2])) so = some (.lst [.int z1, .int z2]) := upd_same
      have bg10 := bg8.keep s10
      have nsp := (bg8.keep s9).ne nso
      have k610 := (k7.trans k8).trans (.of s10)
      generalize upd (upd H8 da (.lst [.int x1, .int x2])) so (.lst [.int z1, .int z2]) = H10 at s10 eso bg10 k610 ⊢
      refine ⟨.ref hd, rfl, .ref p, rfl, .ref r, rfl, p, r, _, _, _, _, rfl, bg10, nat6.tk (TKF.keep k610 bg6), by omega, by omega, fun H11 z k11 bg11 hz => ?_⟩
      have eso11 := k11 _ _ nsp eso
      refine ⟨.ref so, rfl, so, _, 0, .int z1, rfl, rfl, SqL.of eso11, atI_nat (j := 0) rfl, .ref so, rfl, so, _, 1, .int z2, rfl, rfl, SqL.of eso11, atI_nat (j := 1) rfl, .ref p, rfl, p, rfl, bg11, fun H12 x3 k12 bg12 _ _ => ⟨by show 4 ≤ sizeLine; decide, fun u2 nu2 => ?_⟩⟩
      have s13 := same_upd (o := .tup [nS z, .int z1, .int z2, .int x3]) nu2
      have k612 := (k610.trans k11).trans k12
      refine ⟨hd, u2, _, _, rfl, rfl, SqT.of (s13 _ _ ((TKF.keep k612 bg6).t _ _ ehd)), SqT.of upd_same, by simp, by show 7 ≤ sizeLine; decide, fun h => (by cases h), fun _ t nt => ?_⟩
      have s14 := s13.trans (same_upd (o := .tup ([.str kd, .int nu, .int ed] ++ [nS z, .int z1, .int z2, .int x3])) nt)
      refine fin _ t [nS z, .int z1, .int z2, .int x3] [.str (SX.S z), .int z1, .int z2, .int x3] (k612.trans (.of s14)) (bg12.keep s14) upd_same (by show 4 ≤ 100; decide) (.cons (.str _) (.cons (.int _) (.cons (.int _) (.cons (.int _) .nil)))) ?_ (Nat.le_of_ble_eq_true rfl) rfl (List.cons_ne_nil _ _)
      show (PyData.strOk (SX.S z) && (true && (true && (true && true)))) = true
      rw [nm_ok (lnm z hz)]
      rfl
    -- of a number more
    refine ⟨.ref hd, rfl, .ref p, rfl, p, rfl, bg6, fun H7 x1 k7 bg7 _ _ => ⟨by show 1 ≤ sizeLine; decide, fun u nu' => ?_⟩⟩
    have s8 := same_upd (o := .tup [.int x1]) nu'
    have ehd8 := s8 _ _ ((TKF.keep k7 bg6).t _ _ ehd)
    refine ⟨hd, u, _, _, rfl, rfl, SqT.of ehd8, SqT.of upd_same, by simp, by show 4 ≤ sizeLine; decide, fun h => (by cases h), fun _ g ng => ?_⟩
    have s9 := s8.trans (same_upd (o := .tup ([.str kd, .int nu, .int ed] ++ [.int x1])) ng)
    have eg : (upd (upd H7 u (.tup [.int x1])) g (.tup ([.str kd, .int nu, .int ed] ++ [.int x1]))) g = some (.tup ([.str kd, .int nu, .int ed] ++ [.int x1])) := upd_same
    have bg9 := bg7.keep s9
    have k69 := k7.trans (.of s9)
    have nat9 := nat6.tk (TKF.keep k69 bg6)
    generalize upd (upd H7 u (.tup [.int x1])) g (.tup ([.str kd, .int nu, .int ed] ++ [.int x1])) = H9 at s9 eg bg9 k69 nat9 ⊢
    refine ⟨.str kd, rfl, rfl, _, rfl, ite2 (fun _ => ?_) fun _ => ?_⟩
    · -- a claim
      refine ⟨.ref g, rfl, .ref p, rfl, p, rfl, bg9, fun H10 x2 k10 bg10 _ _ => ⟨by show 1 ≤ sizeLine; decide, fun u2 nu2 => ?_⟩⟩
      have s11 := same_upd (o := .tup [.int x2]) nu2
      refine ⟨g, u2, _, _, rfl, rfl, SqT.of (s11 _ _ ((TKF.keep k10 bg9).t _ _ eg)), SqT.of upd_same, by simp, by show 5 ≤ sizeLine; decide, fun h => (by cases h), fun _ t nt => ?_⟩
      have s12 := s11.trans (same_upd (o := .tup ([.str kd, .int nu, .int ed] ++ [.int x1] ++ [.int x2])) nt)
      exact fin _ t [.int x1, .int x2] [.int x1, .int x2] ((k69.trans k10).trans (.of s12)) (bg10.keep s12) upd_same (by show 2 ≤ 100; decide) (.cons (.int _) (.cons (.int _) .nil)) rfl (Nat.le_of_ble_eq_true rfl) rfl (List.cons_ne_nil _ _)
    refine ⟨.str kd, rfl, rfl, _, rfl, ite2 (fun _ => ?_) fun _ => ?_⟩
    · -- an answer
      refine ⟨.ref g, rfl, .ref p, rfl, .ref r, rfl, p, r, _, _, _, _, rfl, bg9, nat9, by omega, by omega, fun H10 z k10 bg10 hz => ⟨by show 1 ≤ sizeLine; decide, fun u2 nu2 => ?_⟩⟩
      have s11 := same_upd (o := .tup [nS z]) nu2
      refine ⟨g, u2, _, _, rfl, rfl, SqT.of (s11 _ _ ((TKF.keep k10 bg9).t _ _ eg)), SqT.of upd_same, by simp, by show 5 ≤ sizeLine; decide, fun h => (by cases h), fun _ t nt => ?_⟩
      have s12 := s11.trans (same_upd (o := .tup ([.str kd, .int nu, .int ed] ++ [.int x1] ++ [nS z])) nt)
      refine fin _ t [.int x1, nS z] [.int x1, .str (SX.S z)] ((k69.trans k10).trans (.of s12)) (bg10.keep s12) upd_same (by show 2 ≤ 100; decide) (.cons (.int _) (.cons (.str _) .nil)) ?_ (Nat.le_of_ble_eq_true rfl) rfl (List.cons_ne_nil _ _)
      show (true && (PyData.strOk (SX.S z) && true)) = true
      rw [nm_ok (lnm z hz)]
      rfl
    refine ⟨.str kd, rfl, rfl, _, rfl, ite2 (fun _ => ?_) fun _ => ?_⟩
    · -- a ruling
      refine ⟨by show 1 ≤ sizeLine; decide, fun t1 q1 => ?_⟩
      have sa1 := same_upd (o := .tup [.str ("seals" : Str)]) q1
      have et1 : (upd H9 t1 (.tup [.str ("seals" : Str)])) t1 = some (.tup [.str ("seals" : Str)]) := upd_same
      have ba1 := bg9.keep sa1
      generalize upd H9 t1 (.tup [.str ("seals" : Str)]) = Ha at sa1 et1 ba1 ⊢
      refine ⟨by show 1 ≤ sizeLine; decide, fun t2 q2 => ?_⟩
      have sa2 := same_upd (o := .tup [.str ("none" : Str)]) q2
      have et2 : (upd Ha t2 (.tup [.str ("none" : Str)])) t2 = some (.tup [.str ("none" : Str)]) := upd_same
      have ba2 := ba1.keep sa2
      have et12 := sa2 _ _ et1
      have s92 := sa1.trans sa2
      generalize upd Ha t2 (.tup [.str ("none" : Str)]) = Hb at sa2 et2 ba2 et12 s92 ⊢
      refine ⟨.ref p, rfl, .ref r, rfl, p, r, _, _, _, _, rfl, ba2, nat9.tk (TKF.of s92), by omega, by omega, fun H10 z k10 bg10 hz => ⟨by show 2 ≤ sizeLine; decide, fun t3 q3 => ?_⟩⟩
      have sa3 := same_upd (o := .tup [.str ("line" : Str), nS z]) q3
      have et3 : (upd H10 t3 (.tup [.str ("line" : Str), nS z])) t3 = some (.tup [.str ("line" : Str), nS z]) := upd_same
      have ba3 := bg10.keep sa3
      have k3' := k10.trans (.of sa3)
      generalize upd H10 t3 (.tup [.str ("line" : Str), nS z]) = Hc at sa3 et3 ba3 k3' ⊢
      have tb := TKF.keep k3' ba2
      refine ⟨by show 3 ≤ sizeLine; decide, fun v3 nv3 => ?_⟩
      have sa4 := same_upd (o := .tup [.ref t1, .ref t2, .ref t3]) nv3
      refine ⟨.ref p, rfl, p, 3, rfl, ba3.keep sa4, by decide, by decide, fun H11 c k11 bg11 c0 c1 => ?_⟩
      have k4' := (Keep.of sa4).trans k11
      have td := TKF.keep k4' ba3
      obtain ⟨ti, ss, eti, hti, hok2, hl2⟩ : ∃ (ti : Addr) (ss : List Str), atI [V.ref t1, .ref t2, .ref t3] c = some (.ref ti) ∧ H11 ti = some (.tup (ss.map V.str)) ∧ PyData.canLayAll0 (ss.map PyData.str) = true ∧ ss.length ≤ 2 ∧ PyData.depthAll (ss.map PyData.str) ≤ 1 ∧ DtAll SA H11 (ss.map V.str) (ss.map PyData.str) := by
        have : c = 0 ∨ c = 1 ∨ c = 2 := by omega
        rcases this with rfl | rfl | rfl
        · exact ⟨t1, [("seals" : Str)], atI_nat (j := 0) rfl, td.t _ _ (tb.t _ _ et12), by decide +kernel, by decide, Nat.le_of_ble_eq_true rfl, .cons (.str _) .nil⟩
        · exact ⟨t2, [("none" : Str)], atI_nat (j := 1) rfl, td.t _ _ (tb.t _ _ et2), by decide +kernel, by decide, Nat.le_of_ble_eq_true rfl, .cons (.str _) .nil⟩
        · refine ⟨t3, [("line" : Str), SX.S z], atI_nat (j := 2) rfl, td.t _ _ et3, ?_, by show 2 ≤ 2; decide, Nat.le_of_ble_eq_true rfl, .cons (.str _) (.cons (.str _) .nil)⟩
          show (PyData.strOk ("line" : Str) && (PyData.strOk (SX.S z) && true)) = true
          rw [nm_ok (lnm z hz)]
          decide +kernel
      obtain ⟨hl2, hde, hdt⟩ := hl2
      refine ⟨v3, _, c, .ref ti, rfl, rfl, SqT.of (k11 _ _ (ba3.ne nv3) upd_same), eti, ?_⟩
      have k911 := ((Keep.of s92).trans k3').trans k4'
      refine ⟨.ref g, rfl, .ref ti, rfl, by show 1 ≤ sizeLine; decide, fun u2 nu2 => ?_⟩
      have s12 := same_upd (o := .tup [.ref ti]) nu2
      refine ⟨g, u2, _, _, rfl, rfl, SqT.of (s12 _ _ ((TKF.keep k911 bg9).t _ _ eg)), SqT.of upd_same, by simp, by show 5 ≤ sizeLine; decide, fun h => (by cases h), fun _ t nt => ?_⟩
      have s13 := s12.trans (same_upd (o := .tup ([.str kd, .int nu, .int ed] ++ [.int x1] ++ [.ref ti])) nt)
      refine fin _ t [.int x1, .ref ti] [.int x1, .tuple (ss.map PyData.str)] ((k69.trans k911).trans (.of s13)) (bg11.keep s13) upd_same (by show 2 ≤ 100; decide) (.cons (.int _) (.cons (.tup trivial (s13 _ _ hti) (by rw [List.length_map]; omega) (hdt.same s13)) .nil)) ?_ ?_ (noL_rul _ _) (List.cons_ne_nil _ _)
      · show (true && (PyData.canLayAll0 (ss.map PyData.str) && true)) = true
        rw [hok2]
        rfl
      · show max 0 (max (PyData.depthAll (ss.map PyData.str) + 1) 0) ≤ 5
        omega
    · exact ⟨.ref g, rfl, fin _ g [.int x1] [.int x1] k69 bg9 eg (by show 1 ≤ 100; decide) (.cons (.int _) .nil) rfl (Nat.le_of_ble_eq_true rfl) rfl (List.cons_ne_nil _ _)⟩
end
end Th
namespace Th
open PySem PySem.Spec PyProof.Rows L2
/-! the order of what clashes -/
theorem lt2 {d1 n1 d2 n2 : Int} : PySem.W.dataLt (.tuple [.int d1, .int n1]) (.tuple [.int d2, .int n2]) = true ↔ (d1 < d2 ∨ (d1 = d2 ∧ n1 < n2)) := by
  have al : ∀ m n : Int, PySem.W.alike (.int m) (.int n) = true := fun _ _ => rfl
  rw [PySem.W.dataLt_tuple]
  by_cases c1 : d1 = d2
  · have e1 : PyData.eqv (.int d1) (.int d2) = true := by unfold PyData.eqv; simp [c1]
    rw [PySem.W.dataLt_all_yes (al d1 d2) e1]
    by_cases c3 : n1 = n2
    · have e2 : PyData.eqv (.int n1) (.int n2) = true := by unfold PyData.eqv; simp [c3]
      rw [PySem.W.dataLt_all_yes (al n1 n2) e2]
      constructor
      · intro h; cases h
      · intro h; omega
    · have e3 : PyData.eqv (.int n1) (.int n2) = false := by unfold PyData.eqv; simp [c3]
      rw [PySem.W.dataLt_all_no (al n1 n2) e3, PySem.W.dataLt_int, decide_eq_true_eq]
      omega
  · have e1 : PyData.eqv (.int d1) (.int d2) = false := by unfold PyData.eqv; simp [c1]
    rw [PySem.W.dataLt_all_no (al d1 d2) e1, PySem.W.dataLt_int, decide_eq_true_eq]
    omega
def kdI (a : Str) : Nat := KINDS_L.idxOf a
/-- keys in order, no two alike -/
def KLt (a b : Str × Int) : Prop := kdI a.1 < kdI b.1 ∨ (kdI a.1 = kdI b.1 ∧ a.2 < b.2)
def KLe (a b : Str × Int) : Prop := kdI a.1 < kdI b.1 ∨ (kdI a.1 = kdI b.1 ∧ a.2 ≤ b.2)
theorem clashLe_le {a b : Str × Int} (h : clashLe a b = true) : KLe a b := by
  have h : (!PySem.W.dataLt (Lka.key2 (Lka.kIx KINDS_L) b) (Lka.key2 (Lka.kIx KINDS_L) a)) = true := h
  have k1 : ¬ PySem.W.dataLt (Lka.key2 (Lka.kIx KINDS_L) b) (Lka.key2 (Lka.kIx KINDS_L) a) = true := by
    intro z
    rw [z] at h
    cases h
  have k2 : ¬ (((kdI b.1 : Nat) : Int) < ((kdI a.1 : Nat) : Int) ∨ (((kdI b.1 : Nat) : Int) = ((kdI a.1 : Nat) : Int) ∧ b.2 < a.2)) := fun z => k1 (lt2.mpr z)
  unfold KLe
  omega
theorem selK_nd {ps : List Pp} (kd : Str) : (selK kd (ksP ps)).Nodup := by
  unfold selK
  rw [List.Nodup, List.pairwise_filterMap]
  refine (ksP_nd ps).imp fun {k k'} ne m hm m' hm' e => ne ?_
  subst e
  split at hm
  · next a n =>
    split at hm
    · next c =>
      cases hm
      split at hm'
      · next a' n' =>
        split at hm'
        · next c' => cases hm'; rw [c, c']
        · cases hm'
      · cases hm'
    · cases hm
  · cases hm
theorem numsK_lt (ps : List Pp) (kd : Str) : (numsK ps kd).Pairwise (· < ·) := by
  have h1 : (numsK ps kd).Nodup := (List.mergeSort_perm _ _).nodup_iff.mpr (selK_nd kd)
  have h2 : (numsK ps kd).Pairwise (· ≤ ·) := numLe_sorted _
  exact (List.pairwise_and_iff.mpr ⟨h1, h2⟩).imp fun ⟨a, b⟩ => by omega
/-- what clashes of a kind -/
def clsOf (ps : List Pp) (kd : Str) : List (Str × Int) := ((numsK ps kd).filter fun n => twoK ps (kd, n)).map (Prod.mk kd)
def clsTo (ps : List Pp) (kds : List Str) : List (Str × Int) := (kds.map (clsOf ps)).flatten
theorem mem_clsOf {ps : List Pp} {kd : Str} {p : Str × Int} : p ∈ clsOf ps kd ↔ p.1 = kd ∧ kdn kd p.2 ∈ ksP ps ∧ twoK ps p = true := by
  obtain ⟨a, n⟩ := p
  unfold clsOf
  rw [List.mem_map]
  constructor
  · rintro ⟨m, hm, e⟩
    cases e
    rw [List.mem_filter] at hm
    exact ⟨rfl, mem_numsK.mp hm.1, hm.2⟩
  · rintro ⟨e, h1, h2⟩
    have e : a = kd := e
    subst e
    exact ⟨n, List.mem_filter.mpr ⟨mem_numsK.mpr h1, h2⟩, rfl⟩
theorem clsOf_lt (ps : List Pp) (kd : Str) : (clsOf ps kd).Pairwise KLt := by
  unfold clsOf
  rw [List.pairwise_map]
  exact ((numsK_lt ps kd).filter _).imp fun h => .inr ⟨rfl, h⟩
theorem clsTo_lt (ps : List Pp) : ∀ {kds : List Str}, kds.Pairwise (fun a b => kdI a < kdI b) → (clsTo ps kds).Pairwise KLt
  | [], _ => .nil
  | kd :: kds, h => by
    cases h with
    | cons h1 h2 =>
      unfold clsTo
      rw [List.map_cons, List.flatten_cons, List.pairwise_append]
      refine ⟨clsOf_lt ps kd, clsTo_lt ps h2, fun a ha b hb => .inl ?_⟩
      rw [List.mem_flatten] at hb
      obtain ⟨l, hl, hb⟩ := hb
      obtain ⟨kd', hk, rfl⟩ := List.mem_map.mp hl
      rw [(mem_clsOf.mp ha).1, (mem_clsOf.mp hb).1]
      exact h1 kd' hk
theorem prs_nd (ps : List Pp) : (prsK (ksP ps)).Nodup := by
  unfold prsK
  rw [List.Nodup, List.pairwise_filterMap]
  refine (ksP_nd ps).imp fun {k k'} ne m hm m' hm' e => ne ?_
  subst e
  split at hm
  · cases hm
    split at hm'
    · cases hm'; rfl
    · cases hm'
  · cases hm
theorem kdI_inj {a b : Str} (ha : a ∈ KINDS_L) (hb : b ∈ KINDS_L) (h : kdI a = kdI b) : a = b := by
  exact (by decide +kernel : ∀ a ∈ KINDS_L, ∀ b ∈ KINDS_L, kdI a = kdI b → a = b) a ha b hb h
theorem ki_lt : KINDS_L.Pairwise (fun a b => kdI a < kdI b) := by decide +kernel
theorem sorted_uniq {ps : List Pp} {L : List (Str × Int)} (hk : ∀ x ∈ ps, x.kd ∈ KINDS_L) (lt : L.Pairwise KLt) (hin : ∀ p, p ∈ clashS ps ↔ p ∈ L) : clashL ps = L := by
  have nd : L.Nodup := lt.imp fun {a b} h e => by
    subst e
    unfold KLt at h
    omega
  have inK : ∀ p ∈ clashS ps, p.1 ∈ KINDS_L := fun p hp => by
    obtain ⟨x, hx, e⟩ := (mem_ksP ps _).mp (mem_prsK.mp (show (p.1, p.2) ∈ _ from (List.mem_filter.mp hp).1))
    rw [← (kdn_inj e).1]
    exact hk x hx
  have pm : (clashL ps).Perm (clashS ps) := List.mergeSort_perm _ _
  have tt := PySem.W.sortLe_total (PyProof.Rows.listOrd PyProof.Rows.itemOrd) false (fun r : Str × Int => PySem.W.keyToks (Lka.key2 (Lka.kIx KINDS_L) r))
  have pw : (clashL ps).Pairwise KLe := (List.pairwise_mergeSort (le := clashLe) (fun a b c => tt.trans a b c) (fun a b => Bool.or_eq_true_iff.mpr (tt.total a b)) (clashS ps)).imp clashLe_le
  refine List.Perm.eq_of_pairwise (le := KLe) (fun a b ha hb h1 h2 => ?_) pw (lt.imp fun {a b} h => ?_) (pm.trans ((List.perm_ext_iff_of_nodup ((prs_nd ps).filter _) nd).mpr hin))
  · have ha := inK a (pm.mem_iff.mp ha)
    have hb := inK b ((hin b).mpr hb)
    unfold KLe at h1 h2
    have e1 : a.1 = b.1 := kdI_inj ha hb (by omega)
    have e2 : a.2 = b.2 := by omega
    exact Prod.ext e1 e2
  · unfold KLt at h
    unfold KLe
    omega
theorem clash_all {ps : List Pp} (hk : ∀ x ∈ ps, x.kd ∈ KINDS_L) : clashL ps = clsTo ps KINDS_L := by
  refine sorted_uniq hk (clsTo_lt ps ki_lt) fun p => ?_
  unfold clashS clsTo
  rw [List.mem_filter, List.mem_flatten]
  constructor
  · rintro ⟨h1, h2⟩
    have h1 := mem_prsK.mp (show (p.1, p.2) ∈ _ from h1)
    obtain ⟨x, hx, e⟩ := (mem_ksP ps _).mp h1
    refine ⟨_, List.mem_map_of_mem (f := clsOf ps) (hk x hx), mem_clsOf.mpr ⟨((kdn_inj e).1).symm, ?_, h2⟩⟩
    rw [(kdn_inj e).1]
    exact h1
  · rintro ⟨l, hl, hp⟩
    obtain ⟨kd, _, rfl⟩ := List.mem_map.mp hl
    obtain ⟨e, h1, h2⟩ := mem_clsOf.mp hp
    refine ⟨show (p.1, p.2) ∈ _ from mem_prsK.mpr (by rw [e]; exact h1), h2⟩
theorem stand_none {ps : List Pp} {kd : Str} (h : ∀ x ∈ ps, x.kd ≠ kd) : standL ps kd = [] := by
  have : numsK ps kd = [] := List.eq_nil_iff_forall_not_mem.mpr fun n hn => by
    obtain ⟨x, hx, e⟩ := (mem_ksP ps _).mp (mem_numsK.mp hn)
    exact h x hx (kdn_inj e).1
  unfold standL
  rw [this]
  rfl
theorem mem_standL {ps : List Pp} {kd : Str} {x : Pp} (h : x ∈ standL ps kd) : x ∈ ps := by
  unfold standL at h
  obtain ⟨l, hl, hx⟩ := List.mem_flatten.mp h
  obtain ⟨n, hn, rfl⟩ := List.mem_map.mp hl
  obtain ⟨y, e1, e2⟩ := stand_at (by simpa using (List.mem_filter.mp hn).2)
  rw [e2, List.mem_singleton] at hx
  subst hx
  exact (mem_grp (k := kdn kd n) (by rw [e1]; exact List.mem_singleton.mpr rfl)).1
/-! who is of the greatest edition -/
mutual
theorem eqv_tr : ∀ x y z : PyData, PyData.eqv x y = true → PyData.eqv y z = true → PyData.eqv x z = true
  | .none, y, z, h1, h2 => by
    cases y <;> simp [PyData.eqv] at h1
    cases z <;> simp [PyData.eqv] at h2 ⊢
  | .bool a, y, z, h1, h2 => by
    cases y <;> simp [PyData.eqv] at h1 <;> cases z <;> simp [PyData.eqv] at h2 ⊢ <;> simp_all
    all_goals (first | done | (split at h2 <;> (first | (split <;> simp_all) | (cases a <;> simp_all))))
  | .int a, y, z, h1, h2 => by
    cases y <;> simp [PyData.eqv] at h1 <;> cases z <;> simp [PyData.eqv] at h2 ⊢ <;> simp_all
    all_goals (first | done | (split at h2 <;> (first | (split <;> simp_all) | (cases a <;> simp_all))))
  | .str a, y, z, h1, h2 => by
    cases y <;> simp [PyData.eqv] at h1 <;> cases z <;> simp [PyData.eqv] at h2 ⊢ <;> simp_all
  | .list a, y, z, h1, h2 => by
    cases y <;> simp only [PyData.eqv, reduceCtorEq] at h1 <;> cases z <;> simp only [PyData.eqv, reduceCtorEq] at h2 ⊢
    exact eqvAll_tr _ _ _ h1 h2
  | .tuple a, y, z, h1, h2 => by
    cases y <;> simp only [PyData.eqv, reduceCtorEq] at h1 <;> cases z <;> simp only [PyData.eqv, reduceCtorEq] at h2 ⊢
    exact eqvAll_tr _ _ _ h1 h2
  | .dict a, y, z, h1, h2 => by
    cases y <;> simp [PyData.eqv] at h1
theorem eqvAll_tr : ∀ x y z : List PyData, PyData.eqvAll x y = true → PyData.eqvAll y z = true → PyData.eqvAll x z = true
  | [], [], z, _, h2 => h2
  | [], _ :: _, _, h1, _ => by simp [PyData.eqvAll] at h1
  | _ :: _, [], _, h1, _ => by simp [PyData.eqvAll] at h1
  | _ :: _, _ :: _, [], _, h2 => by simp [PyData.eqvAll] at h2
  | x :: xs, y :: ys, z :: zs, h1, h2 => by
    simp only [PyData.eqvAll, Bool.and_eq_true] at h1 h2 ⊢
    exact ⟨eqv_tr x y z h1.1 h2.1, eqvAll_tr xs ys zs h1.2 h2.2⟩
end
/-- those of a key, those of them of the greatest edition, and whether all are like the first -/
def ofK (ps : List Pp) (k : List Key) : List Pp := ps.filter fun x => decide (ppK x = k)
def edsM (xs : List Pp) : Int := match xs with
  | [] => 0
  | x :: ys => Mx.maxI x.ed (ys.map (·.ed))
def grtL (xs : List Pp) : List Pp := xs.filter fun x => decide (x.ed = edsM xs)
def allAs (xs : List Pp) : Bool := match xs with
  | [] => true
  | y :: _ => xs.all fun x => (ppD x).eqv (ppD y)
theorem edsM_ge {xs : List Pp} {x : Pp} (h : x ∈ xs) : x.ed ≤ edsM xs := by
  cases xs with
  | nil => cases h
  | cons y ys =>
    obtain ⟨h1, h2⟩ := Mx.maxI_ge (ys.map (·.ed)) y.ed
    rcases List.mem_cons.mp h with e | e
    · rw [e]; exact h1
    · exact h2 _ (List.mem_map_of_mem (f := (·.ed)) e)
theorem edsM_mem {xs : List Pp} (h : xs ≠ []) : ∃ x ∈ xs, x.ed = edsM xs := by
  cases xs with
  | nil => exact absurd rfl h
  | cons y ys =>
    have h1 := Mx.maxI_mem (ys.map (·.ed)) y.ed
    rw [show y.ed :: ys.map (·.ed) = (y :: ys).map (·.ed) from rfl] at h1
    obtain ⟨x, hx, e⟩ := List.mem_map.mp h1
    exact ⟨x, hx, e⟩
theorem edsM_eq {xs : List Pp} {m : Int} (h1 : ∃ x ∈ xs, x.ed = m) (h2 : ∀ x ∈ xs, x.ed ≤ m) : edsM xs = m := by
  obtain ⟨x, hx, e⟩ := h1
  obtain ⟨y, hy, e2⟩ := edsM_mem (List.ne_nil_of_mem hx)
  have a := h2 y hy
  have b := edsM_ge hx
  omega
theorem mem_grtL {xs : List Pp} {x : Pp} : x ∈ grtL xs ↔ x ∈ xs ∧ ∀ y ∈ xs, y.ed ≤ x.ed := by
  unfold grtL
  rw [List.mem_filter, decide_eq_true_eq]
  constructor
  · rintro ⟨a, b⟩
    exact ⟨a, fun y hy => by rw [b]; exact edsM_ge hy⟩
  · rintro ⟨a, b⟩
    exact ⟨a, (edsM_eq ⟨x, a, rfl⟩ b).symm⟩
/-- what is kept of them, one behind another -/
structure Gs (xs acc : List Pp) : Prop where
  hd : acc.head? = (grtL xs).head?
  ins : ∀ y ∈ acc, y ∈ grtL xs
  one : acc.length = 1 ↔ (allAs (grtL xs) = true ∧ xs ≠ [])
theorem grtL_lt {xs : List Pp} {x : Pp} (h : xs ≠ []) (lt : edsM xs < x.ed) : grtL (xs ++ [x]) = [x] := by
  have e : edsM (xs ++ [x]) = x.ed := edsM_eq ⟨x, List.mem_append_right _ (List.mem_singleton.mpr rfl), rfl⟩ fun y hy => by
    rcases List.mem_append.mp hy with a | a
    · have := edsM_ge a; omega
    · rw [List.mem_singleton.mp a]; exact Int.le_refl _
  unfold grtL
  rw [e, List.filter_append]
  rw [List.filter_eq_nil_iff.mpr fun y hy => by have := edsM_ge hy; simp only [decide_eq_true_eq]; omega]
  simp
theorem grtL_ge {xs : List Pp} {x : Pp} (h : xs ≠ []) (ge : x.ed ≤ edsM xs) : grtL (xs ++ [x]) = grtL xs ++ if x.ed = edsM xs then [x] else [] := by
  obtain ⟨z, hz, ez⟩ := edsM_mem h
  have e : edsM (xs ++ [x]) = edsM xs := edsM_eq ⟨z, List.mem_append_left _ hz, ez⟩ fun y hy => by
    rcases List.mem_append.mp hy with a | a
    · exact edsM_ge a
    · rw [List.mem_singleton.mp a]; exact ge
  unfold grtL
  rw [e, List.filter_append]
  congr 1
  split
  · next c => rw [List.filter_cons_of_pos (by simp [c])]; rfl
  · next c => rw [List.filter_cons_of_neg (by simp [c])]; rfl
theorem grtL_ne {xs : List Pp} (h : xs ≠ []) : grtL xs ≠ [] := by
  obtain ⟨z, hz, ez⟩ := edsM_mem h
  exact List.ne_nil_of_mem (mem_grtL.mpr ⟨hz, fun y hy => by rw [ez]; exact edsM_ge hy⟩)
theorem allAs_one {x : Pp} (h : PpOk x) : allAs [x] = true := by
  unfold allAs
  simp only [List.all_cons, List.all_nil, Bool.and_true]
  exact SeqAt.eqv_refl _ h.lay
theorem allAs_snoc {y x : Pp} {ys : List Pp} : allAs (y :: ys ++ [x]) = (allAs (y :: ys) && (ppD x).eqv (ppD y)) := by
  unfold allAs
  rw [List.cons_append]
  simp only [List.all_cons, List.all_append, List.all_nil, Bool.and_true, Bool.and_assoc]
theorem gs_of : ∀ xs : List Pp, (∀ x ∈ xs, PpOk x) → Gs xs (xs.foldl stepG []) := fun xs => by
  refine snoc_ind (C := fun xs => (∀ x ∈ xs, PpOk x) → Gs xs (xs.foldl stepG [])) (fun _ => ⟨rfl, fun y h => (by cases h), ⟨fun h => (by cases h), fun h => absurd rfl h.2⟩⟩) (fun l x ih hok => ?_) xs
  · have ih := ih fun y hy => hok y (List.mem_append_left _ hy)
    have xok := hok x (List.mem_append_right _ (List.mem_singleton.mpr rfl))
    have nn : l ++ [x] ≠ [] := by simp
    rw [List.foldl_append]
    show Gs (l ++ [x]) (stepG (l.foldl stepG []) x)
    generalize l.foldl stepG [] = acc at ih
    have g1 : Gs (l ++ [x]) [x] → Gs (l ++ [x]) [x] := id
    have one : grtL (l ++ [x]) = [x] → Gs (l ++ [x]) [x] := fun e => ⟨by rw [e], fun y hy => by rw [e]; exact hy, ⟨fun _ => ⟨by rw [e]; exact allAs_one xok, nn⟩, fun _ => rfl⟩⟩
    by_cases hl : l = []
    · subst hl
      have : acc = [] := by
        have := ih.hd
        simpa [grtL] using this
      subst this
      exact one (by unfold grtL; rw [List.nil_append, List.filter_cons_of_pos (by simp [edsM, Mx.maxI])]; rfl)
    · obtain ⟨g, gs, eg⟩ := List.exists_cons_of_ne_nil (grtL_ne hl)
      have hh := ih.hd
      rw [eg] at hh
      obtain ⟨as, rfl⟩ : ∃ as, acc = g :: as := by
        cases acc with
        | nil => cases hh
        | cons a as => cases hh; exact ⟨as, rfl⟩
      have gin : g ∈ grtL l := by rw [eg]; exact List.mem_cons_self
      have ge : g.ed = edsM l := by
        have := (List.mem_filter.mp gin).2
        exact of_decide_eq_true this
      show Gs (l ++ [x]) (if g.ed < x.ed then [x] else if g.ed = x.ed ∧ isIn (g :: as) x = false then g :: as ++ [x] else g :: as)
      by_cases c1 : g.ed < x.ed
      · rw [if_pos c1]
        exact one (grtL_lt hl (by omega))
      · rw [if_neg c1]
        have ee := grtL_ge (x := x) hl (by omega)
        by_cases c2 : g.ed = x.ed
        · rw [if_pos (by omega), eg] at ee
          cases c3 : isIn (g :: as) x with
          | false =>
            rw [if_pos ⟨c2, rfl⟩]
            refine ⟨by rw [ee]; rfl, fun y hy => ?_, ⟨fun h => ?_, fun h => ?_⟩⟩
            · rw [ee, ← eg]
              rcases List.mem_append.mp hy with a | a
              · exact List.mem_append_left _ (ih.ins y a)
              · exact List.mem_append_right _ a
            · rw [List.length_append, List.length_cons] at h
              simp only [List.length_cons, List.length_nil] at h
              omega
            · rw [ee, allAs_snoc] at h
              have h := (Bool.and_eq_true_iff.mp h.1).2
              unfold isIn at c3
              rw [List.map_cons, List.any_cons, PySem.W.eqv_comm, h] at c3
              cases c3
          | true =>
            rw [if_neg fun z => by cases z.2]
            refine ⟨by rw [ee]; rfl, fun y hy => ?_, ⟨fun h => ⟨?_, nn⟩, fun h => ih.one.mpr ⟨?_, hl⟩⟩⟩
            · rw [ee, ← eg]
              exact List.mem_append_left _ (ih.ins y hy)
            · have a := (ih.one.mp h).1
              rw [eg] at a
              rw [ee, allAs_snoc, a, Bool.true_and, PySem.W.eqv_comm]
              have : as = [] := List.eq_nil_of_length_eq_zero (by rw [List.length_cons] at h; omega)
              rw [this] at c3
              unfold isIn at c3
              simpa using c3
            · rw [ee, allAs_snoc] at h
              rw [eg]
              exact (Bool.and_eq_true_iff.mp h.1).1
        · rw [if_neg fun z => c2 z.1]
          rw [if_neg (by omega), List.append_nil] at ee
          exact ⟨by rw [ee]; exact ih.hd, by rw [ee]; exact ih.ins, by rw [ee]; exact ⟨fun h => ⟨(ih.one.mp h).1, nn⟩, fun h => ih.one.mpr ⟨h.1, hl⟩⟩⟩
theorem grp_gs {ps : List Pp} (h : ∀ x ∈ ps, PpOk x) (k : List Key) : Gs (ofK ps k) (grp ps k) := gs_of _ fun x hx => h x (List.mem_filter.mp hx).1
theorem ofK_ne {ps : List Pp} {k : List Key} : ofK ps k ≠ [] ↔ k ∈ ksP ps := by
  rw [mem_ksP]
  constructor
  · intro h
    obtain ⟨x, xs, e⟩ := List.exists_cons_of_ne_nil h
    have : x ∈ ofK ps k := by rw [e]; exact List.mem_cons_self
    obtain ⟨a, b⟩ := List.mem_filter.mp this
    exact ⟨x, a, of_decide_eq_true b⟩
  · rintro ⟨x, hx, e⟩
    exact List.ne_nil_of_mem (List.mem_filter.mpr ⟨hx, decide_eq_true e⟩)
/-- by number the unlike ones of the greatest edition: who stands -/
def newK (ps : List Pp) (kd : Str) (n : Int) : List Pp := grtL (ofK ps (kdn kd n))
def fstL (xs : List Pp) : List Pp := xs.take 1
theorem cnt_one {ps : List Pp} (h : ∀ x ∈ ps, PpOk x) {kd : Str} {n : Int} (hn : n ∈ numsK ps kd) : (cntK ps kd n == 1) = allAs (newK ps kd n) := by
  have g := grp_gs h (kdn kd n)
  have ne := ofK_ne.mpr (mem_numsK.mp hn)
  unfold cntK newK
  rw [Bool.eq_iff_iff, beq_iff_eq, g.one]
  exact ⟨fun h => h.1, fun h => ⟨h, ne⟩⟩
theorem two_not {ps : List Pp} (h : ∀ x ∈ ps, PpOk x) {kd : Str} {n : Int} (hn : n ∈ numsK ps kd) : twoK ps (kd, n) = !allAs (newK ps kd n) := by
  rw [← cnt_one h hn]
  have ne := (grp_ne ps (kdn kd n)).mpr (mem_numsK.mp hn)
  have : 1 ≤ cntK ps kd n := by
    unfold cntK
    cases e : grp ps (kdn kd n) with
    | nil => exact absurd e ne
    | cons => rw [List.length_cons]; omega
  unfold twoK
  by_cases c : cntK ps kd n = 1
  · rw [c]; rfl
  · rw [decide_eq_true (by show 1 < cntK ps kd n; omega), show (cntK ps kd n == 1) = false by simpa using c]; rfl
theorem one_fst {ps : List Pp} (h : ∀ x ∈ ps, PpOk x) {kd : Str} {n : Int} (hn : cntK ps kd n = 1) : stOne ps kd n = fstL (newK ps kd n) := by
  obtain ⟨x, e1, e2⟩ := stand_at hn
  have g := grp_gs h (kdn kd n)
  have hh := g.hd
  rw [e1] at hh
  rw [e2]
  unfold newK fstL
  cases e : grtL (ofK ps (kdn kd n)) with
  | nil => rw [e] at hh; cases hh
  | cons y ys => rw [e] at hh; cases hh; rfl
theorem stand_eq {ps : List Pp} (h : ∀ x ∈ ps, PpOk x) (kd : Str) : standL ps kd = (((numsK ps kd).filter fun n => allAs (newK ps kd n)).map fun n => fstL (newK ps kd n)).flatten := by
  unfold standL
  rw [List.filter_congr fun n hn => cnt_one h hn]
  congr 1
  refine List.map_congr_left fun n hn => ?_
  obtain ⟨a, b⟩ := List.mem_filter.mp hn
  refine one_fst h ?_
  rw [← cnt_one h a] at b
  simpa using b
theorem clsOf_eq {ps : List Pp} (h : ∀ x ∈ ps, PpOk x) (kd : Str) : clsOf ps kd = ((numsK ps kd).filter fun n => !allAs (newK ps kd n)).map (Prod.mk kd) := by
  unfold clsOf
  rw [List.filter_congr fun n hn => two_not h hn]
/-- whether two unlike ones are of the greatest edition -/
def TwoOf (ps : List Pp) (k : List Key) : Prop := ∃ x y, x ∈ grtL (ofK ps k) ∧ y ∈ grtL (ofK ps k) ∧ (ppD x).eqv (ppD y) = false
theorem allAs_iff {xs : List Pp} (h : ∀ x ∈ xs, PpOk x) : allAs xs = true ↔ ∀ x ∈ xs, ∀ y ∈ xs, (ppD x).eqv (ppD y) = true := by
  cases xs with
  | nil => exact ⟨fun _ x hx => (by cases hx), fun _ => rfl⟩
  | cons z zs =>
    show ((z :: zs).all fun x => (ppD x).eqv (ppD z)) = true ↔ _
    rw [List.all_eq_true]
    refine ⟨fun a x hx y hy => eqv_tr _ _ _ (a x hx) (by rw [PySem.W.eqv_comm]; exact a y hy), fun a x hx => a x hx z List.mem_cons_self⟩
theorem mem_gk {ps : List Pp} {k : List Key} {x : Pp} : x ∈ grtL (ofK ps k) ↔ (x ∈ ps ∧ ppK x = k) ∧ ∀ y ∈ ps, ppK y = k → y.ed ≤ x.ed := by
  have a : ∀ x, x ∈ ofK ps k ↔ x ∈ ps ∧ ppK x = k := fun x => by unfold ofK; rw [List.mem_filter, decide_eq_true_eq]
  rw [mem_grtL, a]
  exact ⟨fun h => ⟨h.1, fun y hy e => h.2 y ((a y).mpr ⟨hy, e⟩)⟩, fun h => ⟨h.1, fun y hy => h.2 y ((a y).mp hy).1 ((a y).mp hy).2⟩⟩
/-- lists with the same members say the same -/
theorem numsK_set {ps qs : List Pp} (e : ∀ x, x ∈ ps ↔ x ∈ qs) (kd : Str) : numsK ps kd = numsK qs kd := by
  have m : ∀ n, n ∈ numsK ps kd ↔ n ∈ numsK qs kd := fun n => by
    rw [mem_numsK, mem_numsK, mem_ksP, mem_ksP]
    exact ⟨fun ⟨x, a, b⟩ => ⟨x, (e x).mp a, b⟩, fun ⟨x, a, b⟩ => ⟨x, (e x).mpr a, b⟩⟩
  have l1 := numsK_lt ps kd
  have l2 := numsK_lt qs kd
  exact List.Perm.eq_of_pairwise (le := (· < ·)) (fun a b _ _ h1 h2 => absurd h1 (by omega)) l1 l2 ((List.perm_ext_iff_of_nodup (l1.imp fun h => by omega) (l2.imp fun h => by omega)).mpr m)
theorem newK_set {ps qs : List Pp} (e : ∀ x, x ∈ ps ↔ x ∈ qs) (kd : Str) (n : Int) (x : Pp) : x ∈ newK ps kd n ↔ x ∈ newK qs kd n := by
  unfold newK
  rw [mem_gk, mem_gk, e]
  exact ⟨fun h => ⟨h.1, fun y hy => h.2 y ((e y).mpr hy)⟩, fun h => ⟨h.1, fun y hy => h.2 y ((e y).mp hy)⟩⟩
theorem newK_in {ps : List Pp} {kd : Str} {n : Int} {x : Pp} (h : x ∈ newK ps kd n) : x ∈ ps := (mem_gk.mp h).1.1
theorem allAs_set {ps qs : List Pp} (e : ∀ x, x ∈ ps ↔ x ∈ qs) (h : ∀ x ∈ ps, PpOk x) (kd : Str) (n : Int) : allAs (newK ps kd n) = allAs (newK qs kd n) := by
  rw [Bool.eq_iff_iff, allAs_iff fun x hx => h x (newK_in hx), allAs_iff fun x hx => h x ((e x).mpr (newK_in hx))]
  exact ⟨fun a x hx y hy => a x ((newK_set e kd n x).mpr hx) y ((newK_set e kd n y).mpr hy), fun a x hx y hy => a x ((newK_set e kd n x).mp hx) y ((newK_set e kd n y).mp hy)⟩
theorem clsTo_set {ps qs : List Pp} (e : ∀ x, x ∈ ps ↔ x ∈ qs) (h : ∀ x ∈ ps, PpOk x) (kds : List Str) : clsTo ps kds = clsTo qs kds := by
  unfold clsTo
  congr 1
  refine List.map_congr_left fun kd _ => ?_
  rw [clsOf_eq h, clsOf_eq fun x hx => h x ((e x).mpr hx), numsK_set e]
  congr 1
  exact List.filter_congr fun n _ => by rw [allAs_set e h]
end Th
namespace Th
open PySem PySem.Spec PyProof.Rows L2
/-! what is told hangs on who is of the greatest edition alone -/
mutual
theorem eqv_eq : ∀ x y : PyData, noL x = true → noL y = true → PyData.eqv x y = true → x = y
  | .none, y, _, _, h => by cases y <;> simp [PyData.eqv] at h; rfl
  | .bool _, _, h1, _, _ => by simp [noL] at h1
  | .int a, y, _, h2, h => by
    cases y <;> simp [PyData.eqv] at h
    · simp [noL] at h2
    · rw [h]
  | .str a, y, _, _, h => by
    cases y <;> simp [PyData.eqv] at h
    rw [h]
  | .list _, _, h1, _, _ => by simp [noL] at h1
  | .dict _, _, h1, _, _ => by simp [noL] at h1
  | .tuple a, y, h1, h2, h => by
    cases y <;> simp only [PyData.eqv, reduceCtorEq] at h
    simp only [noL] at h1 h2
    rw [eqvAll_eq _ _ h1 h2 h]
theorem eqvAll_eq : ∀ x y : List PyData, noLAll x = true → noLAll y = true → PyData.eqvAll x y = true → x = y
  | [], [], _, _, _ => rfl
  | [], _ :: _, _, _, h => by simp [PyData.eqvAll] at h
  | _ :: _, [], _, _, h => by simp [PyData.eqvAll] at h
  | x :: xs, y :: ys, h1, h2, h => by
    simp only [noLAll, PyData.eqvAll, Bool.and_eq_true] at h1 h2 h
    rw [eqv_eq x y h1.1 h2.1 h.1, eqvAll_eq xs ys h1.2 h2.2 h.2]
end
structure PwOk (x : Pp) : Prop where
  ok : PpOk x
  kd : x.kd ∈ KINDS_L
  nol : noLAll x.rest = true
  ne : x.rest ≠ []
theorem PwOk.noL {x : Pp} (o : PwOk x) : noL (ppD x) = true := by
  show (true && (true && (true && noLAll x.rest))) = true
  rw [o.nol]
  rfl
theorem ppD_inj {x y : Pp} (h : ppD x = ppD y) : x = y := by
  obtain ⟨a, b, c, d⟩ := x
  obtain ⟨a', b', c', d'⟩ := y
  unfold ppD at h
  injection h with h
  injection h with h1 h
  injection h with h2 h
  injection h with h3 h4
  injection h1 with h1
  injection h2 with h2
  injection h3 with h3
  subst h1 h2 h3 h4
  rfl
theorem pp_eqv {x y : Pp} (hx : PwOk x) (hy : PwOk y) : (ppD x).eqv (ppD y) = true ↔ x = y :=
  ⟨fun h => ppD_inj (eqv_eq _ _ hx.noL hy.noL h), fun h => by rw [h]; exact SeqAt.eqv_refl _ hy.ok.lay⟩
theorem allAs_pw {xs : List Pp} (h : ∀ x ∈ xs, PwOk x) : allAs xs = true ↔ ∀ x ∈ xs, ∀ y ∈ xs, x = y := by
  rw [allAs_iff fun x hx => (h x hx).ok]
  exact ⟨fun a x hx y hy => (pp_eqv (h x hx) (h y hy)).mp (a x hx y hy), fun a x hx y hy => (pp_eqv (h x hx) (h y hy)).mpr (a x hx y hy)⟩
theorem fst_set {xs ys : List Pp} (e : ∀ x, x ∈ xs ↔ x ∈ ys) (h : ∀ x ∈ xs, ∀ y ∈ xs, x = y) : fstL xs = fstL ys := by
  cases xs with
  | nil =>
    cases ys with
    | nil => rfl
    | cons y ys => exact absurd ((e y).mpr List.mem_cons_self) List.not_mem_nil
  | cons x xs =>
    cases ys with
    | nil => exact absurd ((e x).mp List.mem_cons_self) List.not_mem_nil
    | cons y ys =>
      have := h x List.mem_cons_self y ((e y).mpr List.mem_cons_self)
      subst this
      rfl
/-- the same are of the greatest edition of a key -/
def AgK (ps qs : List Pp) (k : List Key) : Prop := ∀ x, x ∈ grtL (ofK ps k) ↔ x ∈ grtL (ofK qs k)
theorem num_iff {ps : List Pp} {kd : Str} {n : Int} : n ∈ numsK ps kd ↔ ∃ x, x ∈ newK ps kd n := by
  rw [mem_numsK, ← ofK_ne]
  constructor
  · intro h
    obtain ⟨z, zs, e⟩ := List.exists_cons_of_ne_nil (grtL_ne h)
    exact ⟨z, by unfold newK; rw [e]; exact List.mem_cons_self⟩
  · rintro ⟨x, hx⟩ e
    unfold newK at hx
    rw [e] at hx
    cases hx
theorem newK_pw {ps : List Pp} (h : ∀ x ∈ ps, PwOk x) {kd : Str} {n : Int} : ∀ x ∈ newK ps kd n, PwOk x := fun x hx => h x (newK_in hx)
theorem allAs_ag {ps qs : List Pp} (hp : ∀ x ∈ ps, PwOk x) (hq : ∀ x ∈ qs, PwOk x) {kd : Str} {n : Int} (a : AgK ps qs (kdn kd n)) : allAs (newK ps kd n) = allAs (newK qs kd n) := by
  rw [Bool.eq_iff_iff, allAs_pw (newK_pw hp), allAs_pw (newK_pw hq)]
  exact ⟨fun h x hx y hy => h x ((a x).mpr hx) y ((a y).mpr hy), fun h x hx y hy => h x ((a x).mp hx) y ((a y).mp hy)⟩
theorem nums_ag {ps qs : List Pp} {kd : Str} {q : Int → Bool} (a : ∀ n, q n = true → AgK ps qs (kdn kd n)) : (numsK ps kd).filter q = (numsK qs kd).filter q := by
  have l1 := (numsK_lt ps kd).filter q
  have l2 := (numsK_lt qs kd).filter q
  refine List.Perm.eq_of_pairwise (le := (· < ·)) (fun a b _ _ h1 h2 => absurd h1 (by omega)) l1 l2 ((List.perm_ext_iff_of_nodup (l1.imp fun h => by omega) (l2.imp fun h => by omega)).mpr fun n => ?_)
  rw [List.mem_filter, List.mem_filter]
  constructor
  · rintro ⟨h1, h2⟩
    obtain ⟨x, hx⟩ := num_iff.mp h1
    exact ⟨num_iff.mpr ⟨x, (a n h2 x).mp hx⟩, h2⟩
  · rintro ⟨h1, h2⟩
    obtain ⟨x, hx⟩ := num_iff.mp h1
    exact ⟨num_iff.mpr ⟨x, (a n h2 x).mpr hx⟩, h2⟩
def standF (ps : List Pp) (kd : Str) (q : Int → Bool) : List Pp := ((((numsK ps kd).filter q).filter fun n => allAs (newK ps kd n)).map fun n => fstL (newK ps kd n)).flatten
def clsF (ps : List Pp) (kd : Str) (q : Int → Bool) : List (Str × Int) := (((numsK ps kd).filter q).filter fun n => !allAs (newK ps kd n)).map (Prod.mk kd)
theorem standF_ag {ps qs : List Pp} (hp : ∀ x ∈ ps, PwOk x) (hq : ∀ x ∈ qs, PwOk x) {kd : Str} {q : Int → Bool} (a : ∀ n, q n = true → AgK ps qs (kdn kd n)) : standF ps kd q = standF qs kd q := by
  unfold standF
  rw [nums_ag a]
  have e : ((numsK qs kd).filter q).filter (fun n => allAs (newK ps kd n)) = ((numsK qs kd).filter q).filter (fun n => allAs (newK qs kd n)) := List.filter_congr fun n hn => allAs_ag hp hq (a n (List.mem_filter.mp hn).2)
  rw [e]
  congr 1
  refine List.map_congr_left fun n hn => ?_
  obtain ⟨h1, h2⟩ := List.mem_filter.mp hn
  have ag := a n (List.mem_filter.mp h1).2
  refine fst_set ag ?_
  rw [← allAs_pw (newK_pw hp), allAs_ag hp hq ag]
  exact h2
theorem clsF_ag {ps qs : List Pp} (hp : ∀ x ∈ ps, PwOk x) (hq : ∀ x ∈ qs, PwOk x) {kd : Str} {q : Int → Bool} (a : ∀ n, q n = true → AgK ps qs (kdn kd n)) : clsF ps kd q = clsF qs kd q := by
  unfold clsF
  rw [nums_ag a]
  congr 1
  exact List.filter_congr fun n hn => by rw [allAs_ag hp hq (a n (List.mem_filter.mp hn).2)]
theorem stand_all {ps : List Pp} (h : ∀ x ∈ ps, PwOk x) (kd : Str) : standL ps kd = standF ps kd fun _ => true := by
  rw [stand_eq fun x hx => (h x hx).ok]
  unfold standF
  rw [List.filter_eq_self.mpr fun _ _ => rfl]
theorem cls_all {ps : List Pp} (h : ∀ x ∈ ps, PwOk x) (kd : Str) : clsOf ps kd = clsF ps kd fun _ => true := by
  rw [clsOf_eq fun x hx => (h x hx).ok]
  unfold clsF
  rw [List.filter_eq_self.mpr fun _ _ => rfl]
theorem fst_key {ps : List Pp} {kd : Str} {n : Int} {x : Pp} (h : x ∈ fstL (newK ps kd n)) : x.kd = kd ∧ x.num = n := by
  have := (mem_gk.mp (List.mem_of_mem_take h)).1.2
  exact kdn_inj this
theorem filter_flat {α : Type} (p : α → Bool) : ∀ ls : List (List α), ls.flatten.filter p = (ls.map fun l => l.filter p).flatten
  | [] => rfl
  | l :: ls => by rw [List.flatten_cons, List.filter_append, List.map_cons, List.flatten_cons, filter_flat p ls]
theorem pieces {α β : Type} (f : α → List β) (p : β → Bool) (q : α → Bool) (h : ∀ a, ∀ b ∈ f a, p b = q a) : ∀ as : List α, ((as.map f).flatten).filter p = ((as.filter q).map f).flatten
  | [] => rfl
  | a :: as => by
    rw [List.map_cons, List.flatten_cons, List.filter_append, pieces f p q h as]
    cases c : q a with
    | true =>
      rw [List.filter_eq_self.mpr fun b hb => by rw [h a b hb, c], List.filter_cons_of_pos c]
      rfl
    | false =>
      rw [List.filter_eq_nil_iff.mpr fun b hb => by rw [h a b hb, c]; decide, List.filter_cons_of_neg (by rw [c]; decide)]
      rfl
theorem stand_filter {ps : List Pp} (h : ∀ x ∈ ps, PwOk x) (kd : Str) (q : Int → Bool) (p : Pp → Bool) (hp : ∀ x, x.kd = kd → p x = q x.num) : (standL ps kd).filter p = standF ps kd q := by
  rw [stand_all h]
  unfold standF
  rw [pieces _ p q fun n x hx => by obtain ⟨a, b⟩ := fst_key hx; rw [hp x a, b]]
  congr 2
  rw [List.filter_filter, List.filter_filter, List.filter_filter]
  refine List.filter_congr fun n _ => ?_
  rw [Bool.and_true, Bool.and_comm]
theorem cls_filter {ps : List Pp} (h : ∀ x ∈ ps, PwOk x) (kd : Str) (q : Int → Bool) (p : Str × Int → Bool) (hp : ∀ n, p (kd, n) = q n) : (clsOf ps kd).filter p = clsF ps kd q := by
  rw [cls_all h]
  unfold clsF
  rw [List.filter_map]
  congr 1
  rw [List.filter_filter, List.filter_filter, List.filter_filter]
  refine List.filter_congr fun n _ => ?_
  show ((p (kd, n) && (!allAs (newK ps kd n))) && true) = _
  rw [hp n, Bool.and_true, Bool.and_comm]
/-- all that is told of papers -/
def toldL (ps : List Pp) : List PyData := (KINDS_L.map fun kd => .list ((standL ps kd).map ppD)) ++ [.list ((clsTo ps KINDS_L).map keyE)]
def othL (ps : List Pp) (kd : Str) (n : Int) : List PyData := (KINDS_L.map fun k => .list (((standL ps k).filter fun x => decide (ppK x ≠ kdn kd n)).map ppD)) ++ [.list (((clsTo ps KINDS_L).filter fun p => decide (p ≠ (kd, n))).map keyE)]
theorem told_ag {ps qs : List Pp} (hp : ∀ x ∈ ps, PwOk x) (hq : ∀ x ∈ qs, PwOk x) (a : ∀ k, AgK ps qs k) : toldL ps = toldL qs := by
  unfold toldL clsTo
  congr 1
  · refine List.map_congr_left fun kd _ => ?_
    rw [stand_all hp, stand_all hq, standF_ag hp hq fun n _ => a _]
  · congr 4
    refine List.map_congr_left fun kd _ => ?_
    rw [cls_all hp, cls_all hq, clsF_ag hp hq fun n _ => a _]
theorem oth_ag {ps qs : List Pp} {kd : Str} {n : Int} (hp : ∀ x ∈ ps, PwOk x) (hq : ∀ x ∈ qs, PwOk x) (a : ∀ k, k ≠ kdn kd n → AgK ps qs k) : othL ps kd n = othL qs kd n := by
  unfold othL clsTo
  congr 1
  · refine List.map_congr_left fun k _ => ?_
    have e : ∀ x : Pp, x.kd = k → decide (ppK x ≠ kdn kd n) = decide (kdn k x.num ≠ kdn kd n) := fun x e => by unfold ppK; rw [e]
    rw [stand_filter hp k (fun m => decide (kdn k m ≠ kdn kd n)) _ e, stand_filter hq k (fun m => decide (kdn k m ≠ kdn kd n)) _ e, standF_ag hp hq fun m hm => a _ (of_decide_eq_true hm)]
  · congr 3
    rw [filter_flat, filter_flat, List.map_map, List.map_map]
    congr 1
    refine List.map_congr_left fun k _ => ?_
    show (clsOf ps k).filter _ = (clsOf qs k).filter _
    have e : ∀ m : Int, decide ((k, m) ≠ (kd, n)) = decide (kdn k m ≠ kdn kd n) := fun m => by
      refine decide_eq_decide.mpr (not_congr ⟨fun z => by cases z; rfl, fun z => ?_⟩)
      obtain ⟨a, b⟩ := kdn_inj z
      rw [a, b]
    rw [cls_filter hp k (fun m => decide (kdn k m ≠ kdn kd n)) _ e, cls_filter hq k (fun m => decide (kdn k m ≠ kdn kd n)) _ e, clsF_ag hp hq fun m hm => a _ (of_decide_eq_true hm)]
/-- one number's, those that stand -/
def stdN (ps : List Pp) (kd : Str) (n : Int) : List Pp := (standL ps kd).filter fun x => decide (x.num = n)
theorem only_n {ns : List Int} {n : Int} (h : ns.Pairwise (· < ·)) : ns.filter (fun m => decide (m = n)) = if n ∈ ns then [n] else [] := by
  induction ns with
  | nil => rfl
  | cons m ns ih =>
    cases h with
    | cons h1 h2 =>
      have ih := ih h2
      by_cases c : m = n
      · subst c
        rw [List.filter_cons_of_pos (by simp), ih, if_neg fun z => absurd (h1 m z) (by omega), if_pos List.mem_cons_self]
      · rw [List.filter_cons_of_neg (by simp [c]), ih]
        by_cases z : n ∈ ns
        · rw [if_pos z, if_pos (List.mem_cons_of_mem _ z)]
        · rw [if_neg z, if_neg fun y => (List.mem_cons.mp y).elim (fun e => c e.symm) z]
theorem stdN_eq {ps : List Pp} (h : ∀ x ∈ ps, PwOk x) {kd : Str} {n : Int} (hn : n ∈ numsK ps kd) : stdN ps kd n = if allAs (newK ps kd n) = true then fstL (newK ps kd n) else [] := by
  unfold stdN
  rw [stand_filter h kd (fun m => decide (m = n)) _ fun x _ => rfl]
  unfold standF
  rw [only_n (numsK_lt ps kd), if_pos hn]
  split
  · next c => rw [List.filter_cons_of_pos (p := fun n => allAs (newK ps kd n)) c]; simp
  · next c => rw [List.filter_cons_of_neg (p := fun n => allAs (newK ps kd n)) c]; rfl
theorem cls_mem {ps : List Pp} (h : ∀ x ∈ ps, PwOk x) {kd : Str} {n : Int} (hk : kd ∈ KINDS_L) (hn : n ∈ numsK ps kd) : (kd, n) ∈ clsTo ps KINDS_L ↔ allAs (newK ps kd n) = false := by
  unfold clsTo
  rw [List.mem_flatten]
  constructor
  · rintro ⟨l, hl, hp⟩
    obtain ⟨k, _, rfl⟩ := List.mem_map.mp hl
    rw [clsOf_eq fun x hx => (h x hx).ok, List.mem_map] at hp
    obtain ⟨m, hm, e⟩ := hp
    cases e
    simpa using (List.mem_filter.mp hm).2
  · intro e
    refine ⟨_, List.mem_map_of_mem (f := clsOf ps) hk, ?_⟩
    rw [clsOf_eq fun x hx => (h x hx).ok]
    exact List.mem_map.mpr ⟨n, List.mem_filter.mpr ⟨hn, by rw [e]; rfl⟩, rfl⟩
/-! papers put on with -/
theorem ag_set {ps qs : List Pp} (e : ∀ x, x ∈ ps ↔ x ∈ qs) (k : List Key) : AgK ps qs k := fun x => by
  rw [mem_gk, mem_gk, e]
  exact ⟨fun h => ⟨h.1, fun y hy => h.2 y ((e y).mpr hy)⟩, fun h => ⟨h.1, fun y hy => h.2 y ((e y).mp hy)⟩⟩
theorem ag_other {ps rs es : List Pp} {k0 k : List Key} (hr : ∀ x, x ∈ rs ↔ x ∈ ps ∨ x ∈ es) (he : ∀ e ∈ es, ppK e = k0) (ne : k ≠ k0) : AgK rs ps k := fun x => by
  rw [mem_gk, mem_gk, hr]
  constructor
  · rintro ⟨⟨h1, h2⟩, h3⟩
    refine ⟨⟨h1.elim id fun z => absurd (h2.symm.trans (he x z)) ne, h2⟩, fun y hy => h3 y ((hr y).mpr (.inl hy))⟩
  · rintro ⟨⟨h1, h2⟩, h3⟩
    exact ⟨⟨.inl h1, h2⟩, fun y hy e => ((hr y).mp hy).elim (fun z => h3 y z e) fun z => absurd (e.symm.trans (he y z)) ne⟩
theorem ag_elder {ps rs es : List Pp} {k0 : List Key} (hr : ∀ x, x ∈ rs ↔ x ∈ ps ∨ x ∈ es) {y0 : Pp} (h0 : y0 ∈ ps) (k0y : ppK y0 = k0) (he : ∀ e ∈ es, e.ed < y0.ed) : AgK rs ps k0 := fun x => by
  rw [mem_gk, mem_gk, hr]
  constructor
  · rintro ⟨⟨h1, h2⟩, h3⟩
    have h := h3 y0 ((hr y0).mpr (.inl h0)) k0y
    exact ⟨⟨h1.elim id fun z => absurd (he x z) (by omega), h2⟩, fun y hy => h3 y ((hr y).mpr (.inl hy))⟩
  · rintro ⟨⟨h1, h2⟩, h3⟩
    have h := h3 y0 h0 k0y
    exact ⟨⟨.inl h1, h2⟩, fun y hy e => ((hr y).mp hy).elim (fun z => h3 y z e) fun z => by have := he y z; omega⟩
theorem top_iff {ps rs es : List Pp} {k0 : List Key} {m : Int} (hr : ∀ x, x ∈ rs ↔ x ∈ ps ∨ x ∈ es) (he : ∀ e ∈ es, ppK e = k0 ∧ e.ed ≤ m) (hp : ∀ y ∈ ps, ppK y = k0 → y.ed < m) (hm : ∃ e ∈ es, e.ed = m) (x : Pp) : x ∈ grtL (ofK rs k0) ↔ x ∈ es ∧ x.ed = m := by
  rw [mem_gk, hr]
  obtain ⟨e0, h0, em⟩ := hm
  constructor
  · rintro ⟨⟨h1, h2⟩, h3⟩
    have h := h3 e0 ((hr e0).mpr (.inr h0)) (he e0 h0).1
    rcases h1 with z | z
    · have := hp x z h2
      omega
    · have := (he x z).2
      exact ⟨z, by omega⟩
  · rintro ⟨h1, h2⟩
    refine ⟨⟨.inr h1, (he x h1).1⟩, fun y hy e => ?_⟩
    rcases (hr y).mp hy with z | z
    · have := hp y z e
      omega
    · have := (he y z).2
      omega
/-! a paper of a list -/
theorem dt_at {H : Hp} {xs : List V} {ps : List Pp} {j : Nat} {v : V} (h : DtAll SA H xs (ps.map ppD)) (ex : xs[j]? = some v) : ∃ x t zs, ps[j]? = some x ∧ v = .ref t ∧ H t = some (.tup (.str x.kd :: .int x.num :: .int x.ed :: zs)) ∧ Dt SA H v (ppD x) := by
  obtain ⟨d0, e0, hd0⟩ := h.get ex
  obtain ⟨x, er, rfl⟩ : ∃ x, ps[j]? = some x ∧ ppD x = d0 := by
    rw [List.getElem?_map] at e0
    cases z : ps[j]? with
    | none => rw [z] at e0; cases e0
    | some x => rw [z] at e0; cases e0; exact ⟨x, rfl, rfl⟩
  obtain ⟨t, zs, e, et, _⟩ := pp_inv hd0
  exact ⟨x, t, zs, er, e, et, hd0⟩
/-! lists of keys -/
theorem tkf_ext {H H' : Hp} (e : LamX.ExtN H H') : TKF H H' := ⟨fun a xs h => e _ _ h (fun _ z => nomatch z), fun a o xs h => e _ _ h (fun _ z => nomatch z)⟩
theorem dpAll_ky {K : PySem.W.Frag} {H : Hp} : ∀ {zs : List V} {bs : List (Str × Int)}, Paired (KyA H) zs bs → DpAll K H zs (bs.map keyE)
  | _, _, .nil => .nil
  | _, _, .cons h t => .cons h.dp (dpAll_ky t)
theorem layAll_ky {bs : List (Str × Int)} (h : ∀ p ∈ bs, PyData.strOk p.1 = true) : PyData.canLayAll0 (bs.map keyE) = true := by
  induction bs with
  | nil => rfl
  | cons p bs ih =>
    refine Bool.and_eq_true_iff.mpr ⟨?_, ih fun q hq => h q (List.mem_cons_of_mem _ hq)⟩
    show (PyData.strOk p.1 && (true && true)) = true
    rw [h p List.mem_cons_self]
    rfl
theorem depthAll_ky (bs : List (Str × Int)) : PyData.depthAll (bs.map keyE) ≤ 1 := by
  induction bs with
  | nil => exact Nat.zero_le _
  | cons p bs ih => exact Nat.max_le.mpr ⟨Nat.le_of_ble_eq_true rfl, ih⟩
theorem shaped_ky {bs : List (Str × Int)} (h : ∀ p ∈ bs, PyData.strOk p.1 = true) : SeqAt.shaped (.list (bs.map keyE)) = true := Bool.and_eq_true_iff.mpr ⟨layAll_ky h, decide_eq_true (Nat.le_trans (Nat.succ_le_succ (depthAll_ky bs)) (by decide))⟩
theorem KyA.ext {H H' : Hp} {v : V} {p : Str × Int} (h : KyA H v p) (e : LamX.ExtN H H') : KyA H' v p := let ⟨t, a, b⟩ := h; ⟨t, a, e _ _ b fun _ z => nomatch z⟩
theorem cls_ok {ps : List Pp} {kds : List Str} (hk : ∀ k ∈ kds, k ∈ KINDS_L) {p : Str × Int} (h : p ∈ clsTo ps kds) : PyData.strOk p.1 = true := by
  unfold clsTo at h
  obtain ⟨l, hl, hp⟩ := List.mem_flatten.mp h
  obtain ⟨kd, hkd, rfl⟩ := List.mem_map.mp hl
  rw [(mem_clsOf.mp hp).1]
  exact (by decide +kernel : ∀ a ∈ KINDS_L, PyData.strOk a = true) kd (hk _ hkd)
theorem clsOf_len {ps : List Pp} (kd : Str) : (clsOf ps kd).length ≤ ps.length := by
  unfold clsOf
  rw [List.length_map]
  have h1 := List.length_filter_le (fun n => twoK ps (kd, n)) (numsK ps kd)
  have h2 : (numsK ps kd).length = (selK kd (ksP ps)).length := List.length_mergeSort _
  have h3 := selK_len kd (ksP ps)
  have h4 := ksP_len ps
  omega
theorem clsTo_len {ps : List Pp} : ∀ kds : List Str, (clsTo ps kds).length ≤ kds.length * ps.length
  | [] => Nat.zero_le _
  | kd :: kds => by
    unfold clsTo
    rw [List.map_cons, List.flatten_cons, List.length_append, List.length_cons, Nat.succ_mul]
    have h1 := clsOf_len (ps := ps) kd
    have h2 := clsTo_len (ps := ps) kds
    unfold clsTo at h2
    omega
theorem clsTo_snoc (ps : List Pp) (kds : List Str) (kd : Str) : clsTo ps (kds ++ [kd]) = clsTo ps kds ++ clsOf ps kd := by
  unfold clsTo
  rw [List.map_append, List.flatten_append]
  simp
end Th
namespace Th
open PySem PySem.Spec PyProof.Rows L2
/-! list(xs), within a comprehension too -/
abbrev rListOf (K : PySem.W.Frag) : List V → Hp → VK → Prop := fun xs H Q => ∃ p ys, xs = [V.ref p] ∧ (SqL K H p ys ∨ SqT K H p ys) ∧ ∀ l, H l = none → Q (V.ref l) (upd H l (.lst ys))
/-! all that is told of papers -/
mutual
theorem Dt.ext {H H' : Hp} (e : LamX.ExtN H H') : ∀ {v : V} {d : PyData}, Dt SA H v d → Dt SA H' v d
  | _, _, .non => .non
  | _, _, .bl b => .bl b
  | _, _, .int b => .int b
  | _, _, .str b => .str b
  | _, _, .lst s h l r => .lst s (e _ _ h (fun _ z => nomatch z)) l (DtAll.ext e r)
  | _, _, .tup s h l r => .tup s (e _ _ h (fun _ z => nomatch z)) l (DtAll.ext e r)
theorem DtAll.ext {H H' : Hp} (e : LamX.ExtN H H') : ∀ {v : List V} {d : List PyData}, DtAll SA H v d → DtAll SA H' v d
  | _, _, .nil => .nil
  | _, _, .cons a r => .cons (Dt.ext e a) (DtAll.ext e r)
end
mutual
theorem Dt.off {H : Hp} {C : Addr} {ys : List V} (hC : H C = some (.lst ys)) : ∀ {v : V} {d : PyData}, Dt SA H v d → noL d = true → Dt (fun a => a ≠ C) H v d
  | _, _, .non, _ => .non
  | _, _, .bl b, _ => .bl b
  | _, _, .int b, _ => .int b
  | _, _, .str b, _ => .str b
  | _, _, .lst s e l r, h => by simp [noL] at h
  | _, _, .tup s e l r, h => .tup (fun z => by rw [z, hC] at e; cases e) e l (DtAll.off hC r (by simpa [noL] using h))
theorem DtAll.off {H : Hp} {C : Addr} {ys : List V} (hC : H C = some (.lst ys)) : ∀ {v : List V} {d : List PyData}, DtAll SA H v d → noLAll d = true → DtAll (fun a => a ≠ C) H v d
  | _, _, .nil, _ => .nil
  | _, _, .cons a r, h => by
    simp only [noLAll, Bool.and_eq_true] at h
    exact .cons (Dt.off hC a h.1) (DtAll.off hC r h.2)
end
theorem noL_pps {ps : List Pp} (h : ∀ x ∈ ps, PwOk x) : noLAll (ps.map ppD) = true := by
  induction ps with
  | nil => rfl
  | cons x ps ih =>
    show (noL (ppD x) && noLAll (ps.map ppD)) = true
    rw [(h x List.mem_cons_self).noL, ih fun y hy => h y (List.mem_cons_of_mem _ hy)]
    rfl
theorem same_via {H H1 H2 : Hp} {p : Addr} (s : Same H H1) (k : Keep p H1 H2) (n : H p = none) : Same H H2 := fun b o e => k b o (ne_of_none e n) (s b o e)
theorem sqL_same {K : PySem.W.Frag} {H H' : Hp} {a : Addr} {xs : List V} (s : Same H H') (h : SqL K H a xs) : SqL K H' a xs := by
  rcases h with (h | ⟨o, h⟩) | h
  · exact .inl (.inl (s _ _ h))
  · exact .inl (.inr ⟨o, s _ _ h⟩)
  · exact .inr h
theorem dtAll_snocS {S : Addr → Prop} {H : Hp} : ∀ {xs : List V} {ds : List PyData} {v : V} {d : PyData}, DtAll S H xs ds → Dt S H v d → DtAll S H (xs ++ [v]) (ds ++ [d])
  | _, _, _, _, .nil, r => .cons r .nil
  | _, _, _, _, .cons h hs, r => .cons h (dtAll_snocS hs r)
theorem dtAll_ky {H : Hp} : ∀ {zs : List V} {bs : List (Str × Int)}, Paired (KyA H) zs bs → DtAll SA H zs (bs.map keyE)
  | _, _, .nil => .nil
  | _, _, .cons ⟨t, e, h⟩ r => .cons (by rw [e]; exact .tup trivial h (by show 2 ≤ 5000; decide) (.cons (.str _) (.cons (.int _) .nil))) (dtAll_ky r)
theorem stand_len {ps : List Pp} (kd : Str) : (standL ps kd).length ≤ ps.length := by
  unfold standL
  have h2 : (numsK ps kd).length = (selK kd (ksP ps)).length := List.length_mergeSort _
  have h3 := selK_len kd (ksP ps)
  have h4 := ksP_len ps
  have h1 := List.length_filter_le (fun n => cntK ps kd n == 1) (numsK ps kd)
  have h5 : ∀ ns : List Int, ((ns.map (stOne ps kd)).flatten).length ≤ ns.length := fun ns => by
    induction ns with
    | nil => exact Nat.le_refl _
    | cons n ns ih =>
      rw [List.map_cons, List.flatten_cons, List.length_append, List.length_cons]
      have : (stOne ps kd n).length ≤ 1 := by
        unfold stOne
        split
        · exact Nat.le_refl _
        · exact Nat.zero_le _
      omega
  have := h5 ((numsK ps kd).filter fun n => cntK ps kd n == 1)
  omega
section
variable {P : Program} {w : World} {K : PySem.W.Frag} {mg : Str → Option Value} {base : Heap} {k : Nat}
def sp_l_told (T : Defs K mg) : Sp := fun vs H Q _ => ∃ (l : Addr) (xs : List V) (ps : List Pp), vs = [.ref l] ∧ H l = some (.lst xs) ∧ DtAll SA H xs (ps.map ppD) ∧ (∀ x ∈ ps, PwOk x) ∧ ps.length ≤ 500 ∧ TabC T H ∧
  ∀ H' r, LamX.ExtN H H' → TabC T H' → Dt SA H' (.ref r) (.list (toldL ps)) → Q (.ref r) H'
set_option maxHeartbeats 8000000 in
theorem ok_l_told (T : Defs K mg) (TB : LamX.TabB base mg T.cc_clashing T.tp_clashing) : FnOk P w K mg base CX0 5 T.a_l_told T.d_l_told ["_law_papers"] (sp_l_told T) := by
  have G_standing : FnOk P w K mg base CX0 4 _ _ _ _ := ok_standing (k := 2) T
  have G_clashing : FnOk P w K mg base CX0 4 _ _ _ _ := ok_clashing T TB
  refine T.F_l_told.ok sc_l_told (fun vs H Q E h => ?_) (fun cdv A outer s H vs Q E hr h => ?_)
  · obtain ⟨l, xs, ps, rfl, _⟩ := h
    rfl
  · obtain ⟨l, xs, ps, rfl, el, hx, hps, hn, hT, q⟩ := h
    refine ⟨_, PSs.nox
(pss_cons (ps_set (i := 1) sc_l_told.nd rfl (.inl rfl) (pe_tup (pa_cons (pe_str) (pa_cons (pe_str) (pa_cons (pe_str) (pa_cons (pe_str) (pa_cons (pe_str) (pa_cons (pe_str) (pa_cons (pe_str) pa_nil)))))))))
    (pss_one (ps_ret (pe_op op_cat (pe_lc (own := [("_law_kind", 2)]) (g := gName 2) rfl sc_l_told.nd (pi_tup (pv 1)) (blkOk_by (N := N_l_told) (sc := defScope s_l_told) (by decide +kernel)) (fun _ _ _ _ _ => (pg_name (i := 2) sc_l_told.nd rfl (.inl rfl))) (fun _ _ _ _ _ => pts_nil) (fun _ _ _ _ _ => (pe_call G_standing hr (by rfl) T.g_standing T.F_standing.kp T.b_standing .nil pass0 (pa_cons (pe_callTy (r := rListOf K) call_list_of (by rfl) T.z_list (by decide +kernel) (pa_cons (pv 0) pa_nil)) (pa_cons (pv 2) pa_nil))))) (pe_lst (pa_cons (pe_call G_clashing hr (by rfl) T.g_clashing T.F_clashing.kp T.b_clashing .nil pass0 (pa_cons (pe_callTy (r := rListOf K) call_list_of (by rfl) T.z_list (by decide +kernel) (pa_cons (pv 0) pa_nil)) pa_nil)) pa_nil))))))
      , ?_⟩
    have hok : ∀ x ∈ ps, PpOk x := fun x hx => (hps x hx).ok
    have hkd : ∀ x ∈ ps, x.kd ∈ KINDS_L := fun x hx => (hps x hx).kd
    refine ⟨by show 7 ≤ sizeLine; decide, fun U nU => ?_⟩
    have s1 := same_upd (o := .tup [.str ("waybill" : Str), .str ("return" : Str), .str ("toll" : Str), .str ("claim" : Str), .str ("answer" : Str), .str ("ruling" : Str), .str ("withdrawal" : Str)]) nU
    have eU : (upd H U (.tup [.str ("waybill" : Str), .str ("return" : Str), .str ("toll" : Str), .str ("claim" : Str), .str ("answer" : Str), .str ("ruling" : Str), .str ("withdrawal" : Str)])) U = some (.tup (KINDS_L.map V.str)) := upd_same
    generalize (upd H U (.tup [.str ("waybill" : Str), .str ("return" : Str), .str ("toll" : Str), .str ("claim" : Str), .str ("answer" : Str), .str ("ruling" : Str), .str ("withdrawal" : Str)])) = H1 at s1 eU ⊢
    refine ⟨.ref U, rfl, U, rfl, ⟨_, SqT.of eU⟩, fun C nC => ?_⟩
    refine lc_it (walk_tup (xs := KINDS_L.map V.str)) (fun j Hy => ∃ us, Same H1 Hy ∧ Hy C = some (.lst us) ∧ DtAll (fun a => a ≠ C) Hy us ((KINDS_L.take j).map fun kd => .list ((standL ps kd).map ppD)) ∧ us.length ≤ j) ⟨[], same_upd nC, upd_same, .nil, Nat.le_refl _⟩ (fun j Hy _ pv => by obtain ⟨_, sy, _⟩ := pv; exact SqT.of (sy _ _ eU)) (fun j v Hy₀ Hy hj pv yy => ?_) (fun Hy pv => ?_)
    · obtain ⟨rfl, ex⟩ := yy
      obtain ⟨us, sy, eC, hus, ul⟩ := pv
      obtain ⟨kd, ek, rfl⟩ : ∃ kd, KINDS_L[j]? = some kd ∧ v = .str kd := by
        rw [List.getElem?_map] at ex
        cases z : KINDS_L[j]? with
        | none => rw [z] at ex; cases ex
        | some n => rw [z] at ex; cases ex; exact ⟨n, rfl, rfl⟩
      have j7 : j < 7 := hj
      have tk3 : KINDS_L.take (j + 1) = KINDS_L.take j ++ [kd] := by rw [List.take_add_one, ek]; rfl
      have s1y := s1.trans sy
      refine ⟨rfl, yes_ ⟨.ref l, rfl, l, _, rfl, .inl (SqL.of (s1y _ _ el)), fun D nD => ?_⟩⟩
      have s2 := same_upd (o := .lst xs) nD
      have eD : (upd Hy D (.lst xs)) D = some (.lst xs) := upd_same
      have eCD := s2 _ _ eC
      generalize upd Hy D (.lst xs) = H3 at s2 eD eCD ⊢
      refine ⟨.str kd, rfl, D, kd, _, ps, rfl, eD, hx.same (s1y.trans s2), hok, by omega, fun H4 r zs s4 nr er hzs => ?_⟩
      have eC4 := s4 _ _ eCD
      have nrC : r ≠ C := fun z => by rw [z, eCD] at nr; cases nr
      have hst : ∀ x ∈ standL ps kd, PwOk x := fun x hx => hps x (mem_standL hx)
      have sl := stand_len (ps := ps) kd
      have zl : zs.length ≤ 5000 := by rw [hzs.len, List.length_map]; omega
      refine ⟨us, eC4, small5000 (by omega), us ++ [.ref r], same_set ((sy.trans s2).trans s4) nC, upd_same, ?_, by rw [List.length_append]; exact Nat.succ_le_succ ul⟩
      rw [tk3, List.map_append]
      have kp : ∀ a o, a ≠ C → H4 a = some o → (upd H4 C (.lst (us ++ [V.ref r]))) a = some o := fun a o n e => by rw [upd_ne n]; exact e
      exact dtAll_snocS (hus.mono (fun _ x => x) fun a o n e => kp a o n ((s2.trans s4) _ _ e)) (.lst nrC (kp _ _ nrC er) zl ((DtAll.off eC4 hzs (noL_pps hst)).mono (fun _ x => x) kp))
    obtain ⟨us, sy, eC, hus, ul⟩ := pv
    have ul : us.length ≤ 7 := ul
    rw [show (KINDS_L.map V.str).length = 7 from rfl, show KINDS_L.take 7 = KINDS_L from rfl] at hus
    have hus : DtAll SA Hy us (KINDS_L.map fun kd => .list ((standL ps kd).map ppD)) := hus.mono (fun _ _ => trivial) fun _ _ _ e => e
    have s1y := s1.trans sy
    refine ⟨.ref l, rfl, l, _, rfl, .inl (SqL.of (s1y _ _ el)), fun D nD => ?_⟩
    have s2 := same_upd (o := .lst xs) nD
    have eD : (upd Hy D (.lst xs)) D = some (.lst xs) := upd_same
    have s02 := s1y.trans s2
    generalize upd Hy D (.lst xs) = H3 at s2 eD s02 ⊢
    refine ⟨D, _, ps, rfl, eD, hx.same s02, fun x hx => ⟨hok x hx, hkd x hx⟩, by omega, tabC_same hT s02, fun H4 r zs e4 hT4 nr er hzs => ?_⟩
    rw [clash_all hkd] at hzs
    have cl := clsTo_len (ps := ps) KINDS_L
    have cl2 : KINDS_L.length * ps.length ≤ 7 * 500 := Nat.mul_le_mul (Nat.le_refl 7) hn
    have zl := paired_len hzs
    have e24 := (LamX.ExtN.of s2).trans e4
    have hus4 := DtAll.ext e24 hus
    have hr4 : Dt SA H4 (.ref r) (.list ((clsTo ps KINDS_L).map keyE)) := .lst trivial er (by omega) (dtAll_ky hzs)
    refine ⟨by show 1 ≤ sizeLine; decide, fun B nB => ?_⟩
    have s5 := same_upd (o := .lst [V.ref r]) nB
    have eB : (upd H4 B (.lst [V.ref r])) B = some (.lst [V.ref r]) := upd_same
    have eC5 := s5 _ _ (ExtN.lst e24 eC)
    have e05 := ((LamX.ExtN.of s02).trans e4).trans (.of s5)
    have hT5 := tabC_same hT4 s5
    have hus5 := hus4.same s5
    have hr5 := hr4.same s5
    generalize upd H4 B (.lst [V.ref r]) = H5 at s5 eB eC5 e05 hT5 hus5 hr5 ⊢
    refine ⟨C, B, _, _, rfl, rfl, eC5, eB, Nat.le_of_lt (small5000 (by simp only [List.length_cons, List.length_nil]; omega)), fun R nR => ?_⟩
    have s6 := same_upd (o := .lst (us ++ [V.ref r])) nR
    exact q _ _ (ext_same e05 s6) (tabC_same hT5 s6) (.lst trivial upd_same (by simp only [List.length_append, List.length_cons, List.length_nil]; omega) (dtAll_snocS (hus5.same s6) (hr5.same s6)))
end
end Th
namespace Th
open PySem PySem.Spec PyProof.Rows L2
section
variable {P : Program} {w : World} {K : PySem.W.Frag} {mg : Str → Option Value} {base : Heap} {k : Nat}
def sp_l_stands : Sp := fun vs H Q _ => ∃ (l : Addr) (kd : Str) (n : Int) (xs : List V) (ps : List Pp), vs = [.ref l, .str kd, .int n] ∧ H l = some (.lst xs) ∧ DtAll SA H xs (ps.map ppD) ∧ (∀ x ∈ ps, PwOk x) ∧ ps.length ≤ 500 ∧
  ∀ H' r, Same H H' → Dt SA H' (.ref r) (.list ((stdN ps kd n).map ppD)) → Q (.ref r) H'
set_option maxHeartbeats 8000000 in
theorem ok_l_stands (T : Defs K mg) : FnOk P w K mg base CX0 (k + 3) T.a_l_stands T.d_l_stands ["_law_papers", "_law_kind", "_law_number_here"] sp_l_stands := by
  have G_standing : FnOk P w K mg base CX0 (k + 2) _ _ _ _ := ok_standing (k := k) T
  refine T.F_l_stands.ok sc_l_stands (fun vs H Q E h => ?_) (fun cdv A outer s H vs Q E hr h => ?_)
  · obtain ⟨l, kd, n, xs, ps, rfl, _⟩ := h
    rfl
  · obtain ⟨l, kd, n, xs, ps, rfl, el, hx, hps, hn, q⟩ := h
    refine ⟨_, PSs.nox
(pss_one (ps_ret (pe_lc (own := [("_law_paper_here", 3)]) (g := gName 3) rfl sc_l_stands.nd (pi_list (pe_call G_standing hr (by rfl) T.g_standing T.F_standing.kp T.b_standing .nil pass0 (pa_cons (pe_callTy call_list_of (by rfl) T.z_list (by decide +kernel) (pa_cons (pv 0) pa_nil)) (pa_cons (pv 1) pa_nil)))) (blkOk_by (N := N_l_stands) (sc := defScope s_l_stands) (by decide +kernel)) (fun _ _ _ _ _ => (pg_name (i := 3) sc_l_stands.nd rfl (.inl rfl))) (fun _ _ _ _ _ => pts_one (pt_cmpR op_eq (pe_ix (r := rIxT K) ix_tup (pv 3) (pe_int) (fun _ _ => rfl)) (pv 2) (nomark _))) (fun _ _ _ _ _ => (pv 3)))))
      , ?_⟩
    have hok : ∀ x ∈ ps, PpOk x := fun x hx => (hps x hx).ok
    refine ⟨.ref l, rfl, l, _, rfl, .inl (SqL.of el), fun D nD => ?_⟩
    have s1 := same_upd (o := .lst xs) nD
    have eD : (upd H D (.lst xs)) D = some (.lst xs) := upd_same
    generalize upd H D (.lst xs) = H1 at s1 eD ⊢
    refine ⟨.str kd, rfl, D, kd, _, ps, rfl, eD, hx.same s1, hok, by omega, fun H2 R zs s2 nR eR hzs => ?_⟩
    refine ⟨R, rfl, ⟨_, SqL.of eR⟩, fun C nC => ?_⟩
    have zl : zs.length = (standL ps kd).length := by rw [hzs.len, List.length_map]
    have sl := stand_len (ps := ps) kd
    refine lc_it (walk_list (xs := zs)) (fun j Hy => ∃ us, Same H2 Hy ∧ Hy C = some (.lst us) ∧ DtAll SA H2 us ((((standL ps kd).take j).filter fun x => decide (x.num = n)).map ppD) ∧ us.length ≤ j) ⟨[], same_upd nC, upd_same, .nil, Nat.le_refl _⟩ (fun j Hy _ pv => by obtain ⟨_, sy, _⟩ := pv; exact SqL.of (sy _ _ eR)) (fun j v Hy₀ Hy hj pv yy => ?_) (fun Hy pv => ?_)
    · obtain ⟨rfl, ex⟩ := yy
      obtain ⟨us, sy, eC, hus, ul⟩ := pv
      obtain ⟨x, t, zs', er, rfl, et, hd⟩ := dt_at hzs ex
      have tk1 : (standL ps kd).take (j + 1) = (standL ps kd).take j ++ [x] := by rw [List.take_add_one, er]; rfl
      refine ⟨rfl, .ref t, rfl, t, _, 1, .int x.num, rfl, rfl, SqT.of (sy _ _ et), atI_nat (j := 1) rfl, .int n, rfl, rfl, _, rfl, ite2 (fun c => ?_) fun c => ?_⟩
      · have c : x.num = n := by injection of_decide_eq_true c
        refine ⟨.ref t, rfl, us, eC, small5000 (by omega), us ++ [.ref t], same_set sy nC, upd_same, ?_, by rw [List.length_append]; exact Nat.succ_le_succ ul⟩
        rw [tk1, List.filter_append, List.filter_cons_of_pos (by simp [c]), List.map_append]
        exact dtAll_snocA hus hd
      · have c : x.num ≠ n := fun z => c (decide_eq_true (by rw [z]))
        refine ⟨us, sy, eC, ?_, Nat.le_succ_of_le ul⟩
        rw [tk1, List.filter_append, List.filter_cons_of_neg (by simp [c]), List.filter_nil, List.append_nil]
        exact hus
    obtain ⟨us, sy, eC, hus, ul⟩ := pv
    rw [zl, List.take_length] at hus
    exact q _ _ ((s1.trans s2).trans sy) (.lst trivial eC (by omega) (hus.same sy))
end
end Th
namespace Th
open PySem PySem.Spec PyProof.Rows L2
/-! papers in another order, some again -/
theorem ix_natH {n k : Nat} (h : k < n) : ixN n (k : Int) = some k := by
  unfold ixN
  rw [if_pos (by omega), if_pos (by omega)]
  rfl
theorem dtAll_appH {S : Addr → Prop} {H : Hp} : ∀ {xs ys : List V} {ds es : List PyData}, DtAll S H xs ds → DtAll S H ys es → DtAll S H (xs ++ ys) (ds ++ es)
  | _, _, _, _, .nil, r => r
  | _, _, _, _, .cons h t, r => .cons h (dtAll_appH t r)
theorem mem_er {α : Type} : ∀ (n : Nat) (xs : List α) {x : α}, xs[n]? = some x → ∀ y, y ∈ xs ↔ y = x ∨ y ∈ xs.eraseIdx n
  | _, [], _, h, _ => by simp at h
  | 0, z :: zs, x, h, y => by
    have h : z = x := by simpa using h
    subst h
    rw [List.eraseIdx_zero, List.mem_cons]
    rfl
  | n + 1, z :: zs, x, h, y => by
    have h : zs[n]? = some x := by simpa using h
    rw [List.eraseIdx_cons_succ, List.mem_cons, List.mem_cons, mem_er n zs h y]
    exact ⟨fun a => a.elim (fun e => .inr (.inl e)) fun a => a.elim .inl fun e => .inr (.inr e), fun a => a.elim (fun e => .inr (.inl e)) fun a => a.elim .inl fun e => .inr (.inr e)⟩
theorem sqi {k n : Nat} (h : k < n) : seqIndex? (k : Int) n = some k := (ixN_seq (ix_natH h)).1
theorem dtAll_erase {S : Addr → Prop} {H : Hp} : ∀ (n : Nat) {xs : List V} {ds : List PyData}, DtAll S H xs ds → DtAll S H (xs.eraseIdx n) (ds.eraseIdx n)
  | _, _, _, .nil => .nil
  | 0, _, _, .cons _ t => t
  | n + 1, _, _, .cons r t => .cons r (dtAll_erase n t)
theorem map_eraseIdxH {α β : Type} (f : α → β) : ∀ (xs : List α) (n : Nat), (xs.eraseIdx n).map f = (xs.map f).eraseIdx n
  | [], _ => rfl
  | _ :: _, 0 => rfl
  | x :: xs, n + 1 => by rw [List.eraseIdx_cons_succ, List.map_cons, List.map_cons, List.eraseIdx_cons_succ, map_eraseIdxH f xs n]
section
variable {P : Program} {w : World} {K : PySem.W.Frag} {mg : Str → Option Value} {base : Heap} {k : Nat}
def sp_l_turned : Sp := fun vs H Q _ => ∃ (p l : Addr) (xs : List V) (ps : List Pp), vs = [.ref p, .ref l] ∧ Bag H p ∧ l ≠ p ∧ H l = some (.lst xs) ∧ DtAll SA H xs (ps.map ppD) ∧ (∀ x ∈ ps, PwOk x) ∧ ps ≠ [] ∧ ps.length ≤ 100 ∧
  ∀ (H' : Hp) (F : Addr) (zs : List V) (qs : List Pp), Keep p H H' → Bag H' p → H' F = some (.lst zs) → DtAll SA H' zs (qs.map ppD) → (∀ x, x ∈ qs ↔ x ∈ ps) → qs.length ≤ 110 → Q (.ref F) H'
set_option maxHeartbeats 8000000 in
theorem ok_l_turned (T : Defs K mg) : FnOk P w K mg base CX0 (k + 2) T.a_l_turned T.d_l_turned ["_law_bag_here", "_law_papers"] sp_l_turned := by
  have G_l_take : FnOk P w K mg base CX0 (k + 1) _ _ _ _ := ok_l_take (k := k) T
  refine T.F_l_turned.ok sc_l_turned (fun vs H Q E h => ?_) (fun cdv A outer s H vs Q E hr h => ?_)
  · obtain ⟨p, l, xs, ps, rfl, _⟩ := h
    rfl
  · obtain ⟨p, l, xs, ps, rfl, b, nlp, el, hx, hps, pne, hn, q⟩ := h
    refine ⟨_, PSs.nox
(pss_cons (ps_set (i := 2) sc_l_turned.nd rfl (.inl rfl) (pe_op op_cat (pv 1) (pe_lc (own := [("_law_k", 4)]) (g := gName 4) rfl sc_l_turned.nd (pi_range1 (by rfl) T.z_range (pa_cons (pe_call G_l_take hr (by rfl) T.g_l_take T.F_l_take.kp T.b_l_take .nil pass0 (pa_cons (pv 0) (pa_cons (pe_int) pa_nil))) pa_nil)) (blkOk_by (N := N_l_turned) (sc := defScope s_l_turned) (by decide +kernel)) (fun _ _ _ _ _ => (pg_name (i := 4) sc_l_turned.nd rfl (.inl rfl))) (fun _ _ _ _ _ => pts_nil) (fun _ _ _ _ _ => (pe_ix (r := rIxL K) ix_list (pv 1) (pe_call G_l_take hr (by rfl) T.g_l_take T.F_l_take.kp T.b_l_take .nil pass0 (pa_cons (pv 0) (pa_cons (pe_callB (r := rLenS K) call_lenS (by rfl) T.z_len (by decide +kernel) (pa_cons (pv 1) pa_nil)) pa_nil))) (fun _ _ => rfl))))))
    (pss_cons (ps_set (i := 3) sc_l_turned.nd rfl (.inl rfl) (pe_lst pa_nil))
    (pss_cons (ps_for PassesOwn.never rfl (pi_range1 (by rfl) T.z_range (pa_cons (pe_callB (r := rLenS K) call_lenS (by rfl) T.z_len (by decide +kernel) (pa_cons (pv 2) pa_nil)) pa_nil)) (pg_name (i := 4) sc_l_turned.nd rfl (.inl rfl))
      (pss_one (ps_expr (pe_bm PySem.F.plainAttrs_list PySem.F.slot_list_append PySem.F.type_list_append mt_append (pv 3) (pa_cons (pe_bm PySem.F.plainAttrs_list PySem.F.slot_list_pop PySem.F.type_list_pop mt_popAt (pv 2) (pa_cons (pe_call G_l_take hr (by rfl) T.g_l_take T.F_l_take.kp T.b_l_take .nil pass0 (pa_cons (pv 0) (pa_cons (pe_callB (r := rLenS K) call_lenS (by rfl) T.z_len (by decide +kernel) (pa_cons (pv 2) pa_nil)) pa_nil))) pa_nil)) pa_nil)))))
    (pss_one (ps_ret (pv 3))))))
      , ?_⟩
    have xl : xs.length = ps.length := by rw [hx.len, List.length_map]
    have pl0 : 0 < ps.length := List.length_pos_iff.mpr pne
    refine ⟨.ref l, rfl, .ref p, rfl, p, 6, rfl, b, by decide, by decide, fun H1 d k1 b1 d0 d6 => ?_⟩
    refine ⟨d, rfl, by omega, by omega, fun C nC => ?_⟩
    obtain ⟨m, rfl⟩ : ∃ m : Nat, d = (m : Int) := ⟨d.toNat, by omega⟩
    have nCp := b1.ne nC
    have nC0 := k1.free b nC b1
    rw [Int.toNat_natCast]
    refine lc_it (walk_range (lo := 0) (n := m)) (fun j Hy => Keep p H Hy ∧ Bag Hy p ∧ ∃ (us : List V) (es : List Pp), Hy C = some (.lst us) ∧ DtAll SA H us (es.map ppD) ∧ (∀ e ∈ es, e ∈ ps) ∧ es.length = j) ⟨k1.set nC0, b1.keep (same_upd nC), [], [], upd_same, .nil, fun x h => (by cases h), rfl⟩ (fun _ _ _ _ => trivial) (fun j x Hy Hy' hj pv yy => ?_) (fun Hy pv => ?_)
    · obtain ⟨rfl, rfl⟩ := yy
      obtain ⟨ky, by_, us, es, eC, hus, hes, ul⟩ := pv
      have ely := ky _ _ nlp el
      refine ⟨rfl, yes_ ⟨.ref l, rfl, .ref p, rfl, .ref l, rfl, l, _, rfl, .inl (SqL.of ely), p, _, rfl, by_, by rw [xl]; omega, by rw [xl]; omega, fun H3 e k3 b3 e0 e1 => ?_⟩⟩
      obtain ⟨n, rfl⟩ : ∃ n : Nat, e = (n : Int) := ⟨e.toNat, by omega⟩
      have nx : n < xs.length := by omega
      have hv := List.getElem?_eq_getElem nx
      obtain ⟨x, t, zs', er, ev, et, hd⟩ := dt_at hx hv
      have usl : us.length = j := by rw [hus.len, List.length_map, ul]
      have eC3 := k3 _ _ nCp eC
      refine ⟨l, xs, (n : Int), xs[n], rfl, rfl, SqL.of (k3 _ _ nlp ely), atI_nat hv, us, eC3, small5000 (by omega), (ky.trans k3).set nC0, b3.at (upd_ne nCp.symm), us ++ [xs[n]], es ++ [x], upd_same, ?_, fun e he => ?_, by rw [List.length_append, ul]; rfl⟩
      · rw [List.map_append]; exact dtAll_snocA hus hd
      · rcases List.mem_append.mp he with z | z
        · exact hes e z
        · rw [List.mem_singleton.mp z]; exact List.mem_of_getElem? er
    obtain ⟨ky, by_, us, es, eC, hus, hes, ul⟩ := pv
    have usl : us.length = m := by rw [hus.len, List.length_map, ul]
    refine ⟨l, C, xs, us, rfl, rfl, ky _ _ nlp el, eC, Nat.le_of_lt (small5000 (by omega)), fun L nL => ?_⟩
    have sL := same_upd (o := .lst (xs ++ us)) nL
    have nL0 := ky.free b nL by_
    have nLp := by_.ne nL
    have bL := by_.keep sL
    have kL := ky.trans (.of sL)
    have eL : (upd Hy L (.lst (xs ++ us))) L = some (.lst (xs ++ us)) := upd_same
    generalize upd Hy L (.lst (xs ++ us)) = H4 at sL bL kL eL ⊢
    refine ⟨by show 0 ≤ sizeLine; decide, fun F nF => ?_⟩
    have sF := same_upd (o := .lst []) nF
    have nF0 := kL.free b nF bL
    have nFp := bL.ne nF
    have nFL : F ≠ L := fun z => by rw [z, eL] at nF; cases nF
    have bF := bL.keep sF
    have kF := kL.trans (.of sF)
    have eF : (upd H4 F (.lst [])) F = some (.lst []) := upd_same
    have eL5 := sF _ _ eL
    generalize upd H4 F (.lst []) = H5 at sF bF kF eF eL5 ⊢
    refine ⟨.ref L, rfl, L, _, rfl, .inl (SqL.of eL5), ((xs ++ us).length : Int), rfl, ?_, ?_, ?_⟩
    · exact Int.le_trans (by decide) (Int.natCast_nonneg _)
    · rw [List.length_append]; omega
    rw [Int.toNat_natCast]
    have hxu : DtAll SA H (xs ++ us) ((ps ++ es).map ppD) := by
      rw [List.map_append]
      exact dtAll_appH hx hus
    refine for_range (lo := 0) (n := (xs ++ us).length) (fun i σ Hx => ∃ (y4 : Option V) (zf zl : List V) (qf ql : List Pp), σ = [some (.ref p), some (.ref l), some (.ref L), some (.ref F), y4] ∧ Keep p H Hx ∧ Bag Hx p ∧ Hx F = some (.lst zf) ∧ Hx L = some (.lst zl) ∧ DtAll SA H zf (qf.map ppD) ∧ DtAll SA H zl (ql.map ppD) ∧ (∀ x, (x ∈ qf ∨ x ∈ ql) ↔ x ∈ ps) ∧ qf.length = i ∧ qf.length + ql.length = (xs ++ us).length)
      ⟨none, [], xs ++ us, [], ps ++ es, rfl, kF, bF, eF, eL5, .nil, hxu, fun x => ⟨fun h => h.elim (fun z => (by cases z)) fun z => (List.mem_append.mp z).elim id (hes x), fun h => .inr (List.mem_append_left _ h)⟩, rfl, by simp only [List.length_append, List.length_nil]; omega⟩ (fun i σ Hx hi hp => ?_) (fun σ Hx hp => ?_)
    · obtain ⟨y4, zf, zl, qf, ql, rfl, kx, bx, eFx, eLx, hzf, hzl, hm, fl, tl⟩ := hp
      have zll : zl.length = ql.length := by rw [hzl.len, List.length_map]
      have zfl : zf.length = qf.length := by rw [hzf.len, List.length_map]
      have xul : (xs ++ us).length ≤ 106 := by rw [List.length_append]; omega
      refine ⟨.ref F, rfl, .inl ⟨rfl, _, SqL.of eFx⟩, .ref L, rfl, .inl ⟨rfl, _, SqL.of eLx⟩, .ref p, rfl, .ref L, rfl, L, _, rfl, .inl (SqL.of eLx), p, _, rfl, bx, by omega, by omega, fun H6 e k6 b6 e0 e1 => ?_⟩
      obtain ⟨n, rfl⟩ : ∃ n : Nat, e = (n : Int) := ⟨e.toNat, by omega⟩
      have nx : n < zl.length := by omega
      have hv := List.getElem?_eq_getElem nx
      obtain ⟨x, t, zs', er, ev, et, hd⟩ := dt_at hzl hv
      refine ⟨L, zl, (n : Int), n, zl[n], rfl, rfl, k6 _ _ nLp eLx, by omega, by omega, sqi nx, hv, ?_⟩
      have eF7 : (upd H6 L (.lst (zl.eraseIdx n))) F = some (.lst zf) := by rw [upd_ne nFL]; exact k6 _ _ nFp eFx
      refine ⟨F, _, _, rfl, rfl, eF7, small5000 (by omega), some (.int _), zf ++ [zl[n]], zl.eraseIdx n, qf ++ [x], ql.eraseIdx n, rfl, ((kx.trans k6).set nL0).set nF0, (b6.at (upd_ne nLp.symm)).at (upd_ne nFp.symm), upd_same, by rw [upd_ne nFL.symm]; exact upd_same, ?_, ?_, fun y => ?_, by rw [List.length_append, fl]; rfl, ?_⟩
      · rw [List.map_append]; exact dtAll_snocA hzf hd
      · rw [map_eraseIdxH]; exact dtAll_erase n hzl
      · have nq : n < ql.length := by omega
        rw [← hm y, mem_er n ql er y, List.mem_append, List.mem_singleton, or_assoc]
      · rw [List.length_append, List.length_eraseIdx, if_pos (by omega)]
        show qf.length + 1 + _ = _
        omega
    · obtain ⟨y4, zf, zl, qf, ql, rfl, kx, bx, eFx, eLx, hzf, hzl, hm, fl, tl⟩ := hp
      have q0 : ql = [] := List.eq_nil_of_length_eq_zero (by omega)
      subst q0
      refine ⟨_, rfl, q _ F zf qf kx bx eFx ?_ (fun x => ?_) ?_⟩
      · refine DtAll.tkf (.keep kx b) hzf (noL_pps fun x hx => hps x ((hm x).mp (.inl hx)))
      · rw [← hm x]
        exact ⟨.inl, fun h => h.elim id fun z => by cases z⟩
      · rw [List.length_append] at tl
        simp only [List.length_nil] at tl
        omega
end
end Th
namespace Th
open PySem PySem.Spec PyProof.Rows L2
/-! what is told of all but one number -/
theorem atI_lastH {xs : List V} {y : V} : atI (xs ++ [y]) (-1) = some y := by
  unfold atI ixN
  have e : (-1 + ((xs.length : Int) + 1)).toNat = xs.length := by omega
  simp
  rw [if_pos (by omega)]
  show (xs ++ [y])[(-1 + ((xs.length : Int) + 1)).toNat]? = some y
  rw [e]
  simp
theorem cut_m1 {us : List V} {v : V} (h : us.length = 7) : cutV (us ++ [v]) none (some (-1)) = us := by
  have l8 : (us ++ [v]).length = 8 := by rw [List.length_append, h]; rfl
  unfold cutV
  rw [l8]
  show ((us ++ [v]).drop 0).take 7 = us
  rw [List.drop_zero, ← h, List.take_left]
theorem kdn_two (kd : Str) (n : Int) : (kdn kd n).map kV = [V.str kd, .int n] := rfl
theorem key_eqv {a b : Str} {m n : Int} : (keyE (a, m)).eqv (keyE (b, n)) = decide (a = b ∧ m = n) := by
  show PyData.eqv (.tuple [.str a, .int m]) (.tuple [.str b, .int n]) = _
  simp only [PyData.eqv, PyData.eqvAll, Bool.and_true]
  rw [Bool.eq_iff_iff, Bool.and_eq_true, beq_iff_eq, beq_iff_eq, decide_eq_true_eq]
theorem key_shaped {a : Str} (m : Int) (h : PyData.strOk a = true) : SeqAt.shaped (keyE (a, m)) = true := by
  refine Bool.and_eq_true_iff.mpr ⟨?_, decide_eq_true (Nat.le_of_ble_eq_true rfl)⟩
  show (PyData.strOk a && (true && true)) = true
  rw [h]
  rfl
theorem kd_ok {kd : Str} (h : kd ∈ KINDS_L) : PyData.strOk kd = true := (by decide +kernel : ∀ a ∈ KINDS_L, PyData.strOk a = true) kd h
theorem dtAll_splitH {S : Addr → Prop} {H : Hp} : ∀ {ds es : List PyData} {us : List V}, DtAll S H us (ds ++ es) → ∃ u1 u2, us = u1 ++ u2 ∧ DtAll S H u1 ds ∧ DtAll S H u2 es
  | [], _, us, h => ⟨[], us, rfl, .nil, h⟩
  | d :: ds, es, us, h => by
    cases h with
    | cons a r =>
      obtain ⟨u1, u2, e, h1, h2⟩ := dtAll_splitH (ds := ds) r
      exact ⟨_ :: u1, u2, by rw [e]; rfl, .cons a h1, h2⟩
section
variable {P : Program} {w : World} {K : PySem.W.Frag} {mg : Str → Option Value} {base : Heap} {k : Nat}
def sp_l_others : Sp := fun vs H Q _ => ∃ (l : Addr) (kd : Str) (n : Int) (ps : List Pp), vs = [.ref l, .str kd, .int n] ∧ Dt SA H (.ref l) (.list (toldL ps)) ∧ (∀ x ∈ ps, PwOk x) ∧ kd ∈ KINDS_L ∧ ps.length ≤ 500 ∧
  ∀ H' r, Same H H' → Dt SA H' (.ref r) (.list (othL ps kd n)) → Q (.ref r) H'
set_option maxHeartbeats 8000000 in
theorem ok_l_others (T : Defs K mg) : FnOk P w K mg base CX0 (k + 1) T.a_l_others T.d_l_others ["_law_told_here", "_law_kind", "_law_number_here"] sp_l_others := by
  refine T.F_l_others.ok sc_l_others (fun vs H Q E h => ?_) (fun cdv A outer s H vs Q E hr h => ?_)
  · obtain ⟨l, kd, n, ps, rfl, _⟩ := h
    rfl
  · obtain ⟨l, kd, n, ps, rfl, hl, hps, hkd, hn, q⟩ := h
    refine ⟨_, PSs.nox
(pss_cons (ps_setLc (i := 3) (own := [("_law_some", 4)]) (g := gName 4) rfl sc_l_others.nd rfl rfl (sw_true rfl rfl rfl (by decide +kernel)) (pi_list (pe_slice sl_list (pv 0) po_none (po_some (pe_un un_neg (pe_int))))) (blkOk_by (N := N_l_others) (sc := defScope s_l_others) (by decide +kernel)) (fun _ _ _ _ _ => (pg_name (i := 4) sc_l_others.nd rfl (.inl rfl))) (fun _ _ _ _ _ => pts_nil) (fun _ _ _ _ _ => (pe_lc (own := [("_law_paper_here", 5)]) (g := gName 5) (wi := iList K _) rfl sc_l_others.nd (pi_list (pv 4)) (blkOk_by (N := N_l_others) (sc := { kind := .function, names := [(".0", .local), ("_law_some", .local), ("_law_kind", .cell), ("_law_number_here", .cell)], isGenerator := false, isCoroutine := false }) (by decide +kernel)) (fun _ _ _ _ _ => (pg_name (i := 5) sc_l_others.nd rfl (.inl rfl))) (fun _ _ _ _ _ => pts_one (pt_cmpR (r := rNeD K) (op_neD hr.units) (pe_slice (r := rSlT K) sl_tup (pv 5) po_none (po_some (pe_int))) (pe_tup (pa_cons (pv 1) (pa_cons (pv 2) pa_nil))) (nomark _))) (fun _ _ _ _ _ => (pv 5)))))
    (pss_one (ps_ret (pe_op op_cat (pv 3) (pe_lst (pa_cons (pe_lc (own := [("_law_one", 6)]) (g := gName 6) rfl sc_l_others.nd (pi_list (pe_ix (r := rIxL K) ix_list (pv 0) (pe_un un_neg (pe_int)) (fun _ _ => rfl))) (blkOk_by (N := N_l_others) (sc := defScope s_l_others) (by decide +kernel)) (fun _ _ _ _ _ => (pg_name (i := 6) sc_l_others.nd rfl (.inl rfl))) (fun _ _ _ _ _ => pts_one (pt_cmpR (r := rNeD K) (op_neD hr.units) (pv 6) (pe_tup (pa_cons (pv 1) (pa_cons (pv 2) pa_nil))) (nomark _))) (fun _ _ _ _ _ => (pv 6))) pa_nil))))))
      , ?_⟩
    obtain ⟨us, c, ws, el, eus, hus, ec, hws⟩ : ∃ (us : List V) (c : Addr) (ws : List V), H l = some (.lst (us ++ [.ref c])) ∧ us.length = 7 ∧ DtAll SA H us (KINDS_L.map fun kd => .list ((standL ps kd).map ppD)) ∧ H c = some (.lst ws) ∧ DtAll SA H ws ((clsTo ps KINDS_L).map keyE) := by
      cases hl with
      | lst _ e _ h =>
        unfold toldL at h
        have h7 : (KINDS_L.map fun kd => PyData.list ((standL ps kd).map ppD)).length = 7 := rfl
        obtain ⟨u1, u2, e1, h1, h2⟩ := dtAll_splitH (ds := KINDS_L.map fun kd => PyData.list ((standL ps kd).map ppD)) h
        cases h2 with
        | cons h3 h4 =>
          cases h4
          cases h3 with
          | lst _ ec _ hw =>
            exact ⟨u1, _, _, by rw [e, e1], by rw [h1.len, h7], h1, ec, hw⟩
    refine ⟨.ref l, rfl, 1, rfl, (-1 : Int), rfl, l, _, rfl, SqL.of el, fun M nM => ?_⟩
    rw [cut_m1 eus]
    have s1 := same_upd (o := .lst us) nM
    have eM : (upd H M (.lst us)) M = some (.lst us) := upd_same
    generalize upd H M (.lst us) = H1 at s1 eM ⊢
    refine ⟨M, rfl, ⟨_, SqL.of eM⟩, fun C nC => ?_⟩
    refine lc_it (walk_list (xs := us)) (fun j Hy => ∃ zs, Same H1 Hy ∧ Hy C = some (.lst zs) ∧ DtAll (fun a => a ≠ C) Hy zs ((KINDS_L.take j).map fun k => .list (((standL ps k).filter fun x => decide (ppK x ≠ kdn kd n)).map ppD)) ∧ zs.length ≤ j) ⟨[], same_upd nC, upd_same, .nil, Nat.le_refl _⟩ (fun j Hy _ pv => by obtain ⟨_, sy, _⟩ := pv; exact SqL.of (sy _ _ eM)) (fun j v Hy₀ Hy hj pv yy => ?_) (fun Hy pv => ?_)
    · obtain ⟨rfl, ex⟩ := yy
      obtain ⟨zs, sy, eC, hzs, zl⟩ := pv
      obtain ⟨d0, ed, hd0⟩ := hus.get ex
      obtain ⟨kd', ek, rfl⟩ : ∃ kd', KINDS_L[j]? = some kd' ∧ PyData.list ((standL ps kd').map ppD) = d0 := by
        rw [List.getElem?_map] at ed
        cases z : KINDS_L[j]? with
        | none => rw [z] at ed; cases ed
        | some n => rw [z] at ed; cases ed; exact ⟨n, rfl, rfl⟩
      obtain ⟨a, xs, rfl, ea, hxs⟩ : ∃ a xs, v = .ref a ∧ H a = some (.lst xs) ∧ DtAll SA H xs ((standL ps kd').map ppD) := by
        cases hd0 with
        | lst _ e _ h => exact ⟨_, _, rfl, e, h⟩
      have tk3 : KINDS_L.take (j + 1) = KINDS_L.take j ++ [kd'] := by rw [List.take_add_one, ek]; rfl
      have s1y := s1.trans sy
      have sl := stand_len (ps := ps) kd'
      have xl : xs.length = (standL ps kd').length := by rw [hxs.len, List.length_map]
      refine ⟨rfl, yes_ ⟨.ref a, rfl, a, rfl, ⟨_, SqL.of (s1y _ _ ea)⟩, fun B nB => ?_⟩⟩
      refine lc_it (walk_list (xs := xs)) (fun m Hz => ∃ bs, Same Hy Hz ∧ Hz B = some (.lst bs) ∧ DtAll SA H bs ((((standL ps kd').take m).filter fun x => decide (ppK x ≠ kdn kd n)).map ppD) ∧ bs.length ≤ m) ⟨[], same_upd nB, upd_same, .nil, Nat.le_refl _⟩ (fun m Hz _ pv => by obtain ⟨_, sz, _⟩ := pv; exact SqL.of ((s1y.trans sz) _ _ ea)) (fun m v Hz₀ Hz hm pv yy => ?_) (fun Hz pv => ?_)
      · obtain ⟨rfl, ex⟩ := yy
        obtain ⟨bs, sz, eB, hbs, bl⟩ := pv
        obtain ⟨x, t, zs', er, rfl, et, hd⟩ := dt_at hxs ex
        have tk1 : (standL ps kd').take (m + 1) = (standL ps kd').take m ++ [x] := by rw [List.take_add_one, er]; rfl
        have xok := hps x (mem_standL (List.mem_of_getElem? er))
        have etz := (s1y.trans sz) _ _ et
        have cut2 : ¬ (HT.sIx (V.str x.kd :: V.int x.num :: V.int x.ed :: zs').length 0 none = 0 ∧ HT.sIx (V.str x.kd :: V.int x.num :: V.int x.ed :: zs').length (V.str x.kd :: V.int x.num :: V.int x.ed :: zs').length (some 2) = (V.str x.kd :: V.int x.num :: V.int x.ed :: zs').length) := by
          rw [show (some (2 : Int)) = some ((2 : Nat) : Int) from rfl, HT.sIx_nat]
          simp only [List.length_cons]
          omega
        refine ⟨rfl, .ref t, rfl, 2, rfl, t, _, rfl, SqT.of etz, cut2, fun u nu => ?_⟩
        rw [show cutV (V.str x.kd :: V.int x.num :: V.int x.ed :: zs') none (some 2) = [.str x.kd, .int x.num] from cut_takeH _ 2]
        have su := same_upd (o := .tup [V.str x.kd, .int x.num]) nu
        have eu : (upd Hz u (.tup [V.str x.kd, .int x.num])) u = some (.tup [V.str x.kd, .int x.num]) := upd_same
        generalize upd Hz u (.tup [V.str x.kd, .int x.num]) = Hu at su eu ⊢
        refine ⟨.str kd, rfl, .int n, rfl, by show 2 ≤ sizeLine; decide, fun u2 nu2 => ?_⟩
        have su2 := same_upd (o := .tup [V.str kd, .int n]) nu2
        have eu2 : (upd Hu u2 (.tup [V.str kd, .int n])) u2 = some (.tup [V.str kd, .int n]) := upd_same
        have eu' := su2 _ _ eu
        have szu := (sz.trans su).trans su2
        have eBu := (su.trans su2) _ _ eB
        generalize upd Hu u2 (.tup [V.str kd, .int n]) = Hv at su2 eu2 eu' szu eBu ⊢
        refine ⟨keyE (x.kd, x.num), keyE (kd, n), .tup (SqT.of eu') (.cons (.str _) (.cons (.int _) .nil)), .tup (SqT.of eu2) (.cons (.str _) (.cons (.int _) .nil)), key_shaped _ (kd_ok xok.kd), key_shaped _ (kd_ok hkd), _, rfl, ?_⟩
        rw [key_eqv]
        refine ite2 (fun c => ?_) fun c => ?_
        · have c : ppK x ≠ kdn kd n := fun z => by
            obtain ⟨e1, e2⟩ := kdn_inj z
            rw [decide_eq_true ⟨e1, e2⟩] at c
            cases c
          refine ⟨.ref t, rfl, bs, eBu, small5000 (by omega), bs ++ [.ref t], same_set szu nB, upd_same, ?_, by rw [List.length_append]; exact Nat.succ_le_succ bl⟩
          rw [tk1, List.filter_append, List.filter_cons_of_pos (by simp [c]), List.map_append]
          exact dtAll_snocA hbs hd
        · have c : ppK x = kdn kd n := by
            have : x.kd = kd ∧ x.num = n := by simpa using c
            unfold ppK
            rw [this.1, this.2]
          refine ⟨bs, szu, eBu, ?_, Nat.le_succ_of_le bl⟩
          rw [tk1, List.filter_append, List.filter_cons_of_neg (by simp [c]), List.filter_nil, List.append_nil]
          exact hbs
      obtain ⟨bs, sz, eB, hbs, bl⟩ := pv
      rw [xl, List.take_length] at hbs
      have hj7 : j < 7 := by omega
      have eCz := sz _ _ eC
      have nBC : B ≠ C := fun z => by rw [z, eC] at nB; cases nB
      have hst : ∀ x ∈ (standL ps kd').filter (fun x => decide (ppK x ≠ kdn kd n)), PwOk x := fun x hx => hps x (mem_standL (List.mem_filter.mp hx).1)
      refine ⟨zs, eCz, small5000 (by omega), zs ++ [.ref B], same_set (sy.trans sz) nC, upd_same, ?_, by rw [List.length_append]; exact Nat.succ_le_succ zl⟩
      rw [tk3, List.map_append]
      have kp : ∀ a o, a ≠ C → Hz a = some o → (upd Hz C (.lst (zs ++ [V.ref B]))) a = some o := fun a o n e => by rw [upd_ne n]; exact e
      exact dtAll_snocS (hzs.mono (fun _ x => x) fun a o n e => kp a o n (sz _ _ e)) (.lst nBC (kp _ _ nBC eB) (by omega) ((DtAll.off eCz (hbs.same (s1y.trans sz)) (noL_pps hst)).mono (fun _ x => x) kp))
    obtain ⟨zs, sy, eC, hzs, zl⟩ := pv
    rw [eus] at zl
    rw [eus, show KINDS_L.take 7 = KINDS_L from rfl] at hzs
    have hzs : DtAll SA Hy zs (KINDS_L.map fun k => .list (((standL ps k).filter fun x => decide (ppK x ≠ kdn kd n)).map ppD)) := hzs.mono (fun _ _ => trivial) fun _ _ _ e => e
    have s1y := s1.trans sy
    have cl := clsTo_len (ps := ps) KINDS_L
    have cl2 : KINDS_L.length * ps.length ≤ 7 * 500 := Nat.mul_le_mul (Nat.le_refl 7) hn
    have wl : ws.length = (clsTo ps KINDS_L).length := by rw [hws.len, List.length_map]
    refine ⟨.ref C, rfl, .ref l, rfl, 1, rfl, l, _, -1, .ref c, rfl, rfl, SqL.of (s1y _ _ el), atI_lastH, c, rfl, ⟨_, SqL.of (s1y _ _ ec)⟩, fun C2 nC2 => ?_⟩
    refine lc_it (walk_list (xs := ws)) (fun j Hz => ∃ bs, Same Hy Hz ∧ Hz C2 = some (.lst bs) ∧ DtAll SA H bs ((((clsTo ps KINDS_L).take j).filter fun p => decide (p ≠ (kd, n))).map keyE) ∧ bs.length ≤ j) ⟨[], same_upd nC2, upd_same, .nil, Nat.le_refl _⟩ (fun m Hz _ pv => by obtain ⟨_, sz, _⟩ := pv; exact SqL.of ((s1y.trans sz) _ _ ec)) (fun j v Hz₀ Hz hj pv yy => ?_) (fun Hz pv => ?_)
    · obtain ⟨rfl, ex⟩ := yy
      obtain ⟨bs, sz, eB, hbs, bl⟩ := pv
      obtain ⟨d0, ed, hd0⟩ := hws.get ex
      obtain ⟨p, ek, rfl⟩ : ∃ p, (clsTo ps KINDS_L)[j]? = some p ∧ keyE p = d0 := by
        rw [List.getElem?_map] at ed
        cases z : (clsTo ps KINDS_L)[j]? with
        | none => rw [z] at ed; cases ed
        | some n => rw [z] at ed; cases ed; exact ⟨n, rfl, rfl⟩
      have tk1 : (clsTo ps KINDS_L).take (j + 1) = (clsTo ps KINDS_L).take j ++ [p] := by rw [List.take_add_one, ek]; rfl
      have pok := cls_ok (fun _ h => h) (List.mem_of_getElem? ek)
      refine ⟨rfl, v, rfl, .str kd, rfl, .int n, rfl, by show 2 ≤ sizeLine; decide, fun u2 nu2 => ?_⟩
      have su2 := same_upd (o := .tup [V.str kd, .int n]) nu2
      have eu2 : (upd Hz u2 (.tup [V.str kd, .int n])) u2 = some (.tup [V.str kd, .int n]) := upd_same
      have szu := sz.trans su2
      have eBu := su2 _ _ eB
      generalize upd Hz u2 (.tup [V.str kd, .int n]) = Hv at su2 eu2 szu eBu ⊢
      refine ⟨keyE p, keyE (kd, n), (hd0.same (s1y.trans szu)).dp, .tup (SqT.of eu2) (.cons (.str _) (.cons (.int _) .nil)), key_shaped (a := p.1) p.2 pok, key_shaped _ (kd_ok hkd), _, rfl, ?_⟩
      rw [show (keyE p).eqv (keyE (kd, n)) = _ from key_eqv (a := p.1) (m := p.2)]
      refine ite2 (fun c => ?_) fun c => ?_
      · have c : p ≠ (kd, n) := fun z => by
          subst z
          rw [decide_eq_true ⟨rfl, rfl⟩] at c
          cases c
        refine ⟨v, rfl, bs, eBu, small5000 (by omega), bs ++ [v], same_set szu nC2, upd_same, ?_, by rw [List.length_append]; exact Nat.succ_le_succ bl⟩
        rw [tk1, List.filter_append, List.filter_cons_of_pos (by simp [c]), List.map_append]
        exact dtAll_snocA hbs hd0
      · have c : p = (kd, n) := by
          have : p.1 = kd ∧ p.2 = n := by simpa using c
          exact Prod.ext this.1 this.2
        refine ⟨bs, szu, eBu, ?_, Nat.le_succ_of_le bl⟩
        rw [tk1, List.filter_append, List.filter_cons_of_neg (by simp [c]), List.filter_nil, List.append_nil]
        exact hbs
    obtain ⟨bs, sz, eB, hbs, bl⟩ := pv
    rw [wl, List.take_length] at hbs
    refine ⟨by show 1 ≤ sizeLine; decide, fun B nB => ?_⟩
    have s5 := same_upd (o := .lst [V.ref C2]) nB
    have eB5 : (upd Hz B (.lst [V.ref C2])) B = some (.lst [V.ref C2]) := upd_same
    have eC5 := s5 _ _ (sz _ _ eC)
    have s05 := (s1y.trans sz).trans s5
    have hr5 : Dt SA (upd Hz B (.lst [V.ref C2])) (.ref C2) (.list (((clsTo ps KINDS_L).filter fun p => decide (p ≠ (kd, n))).map keyE)) := .lst trivial (s5 _ _ eB) (by omega) (hbs.same s05)
    have hz5 := hzs.same (sz.trans s5)
    generalize upd Hz B (.lst [V.ref C2]) = H5 at s5 eB5 eC5 s05 hr5 hz5 ⊢
    refine ⟨C, B, _, _, rfl, rfl, eC5, eB5, Nat.le_of_lt (small5000 (by simp only [List.length_cons, List.length_nil]; omega)), fun R nR => ?_⟩
    have s6 := same_upd (o := .lst (zs ++ [V.ref C2])) nR
    exact q _ _ (s05.trans s6) (.lst trivial upd_same (by simp only [List.length_append, List.length_cons, List.length_nil]; omega) (dtAll_snocS (hz5.same s6) (hr5.same s6)))
end
end Th
namespace Th
open PySem PySem.Spec PyProof.Rows L2
/-! one alone of the greatest edition, or two -/
theorem fst_one {xs : List Pp} {z : Pp} (h : ∀ x, x ∈ xs ↔ x = z) : fstL xs = [z] := by
  refine fst_set (ys := [z]) (fun x => by rw [h, List.mem_singleton]) fun x hx y hy => ?_
  rw [(h x).mp hx, (h y).mp hy]
theorem std_one {rs : List Pp} (hr : ∀ x ∈ rs, PwOk x) {kd : Str} {n : Int} {z : Pp} (hk : kd ∈ KINDS_L) (h : ∀ x, x ∈ newK rs kd n ↔ x = z) : stdN rs kd n = [z] ∧ (kd, n) ∉ clsTo rs KINDS_L := by
  have hn : n ∈ numsK rs kd := num_iff.mpr ⟨z, (h z).mpr rfl⟩
  have aa : allAs (newK rs kd n) = true := (allAs_pw (newK_pw hr)).mpr fun x hx y hy => by rw [(h x).mp hx, (h y).mp hy]
  refine ⟨by rw [stdN_eq hr hn, if_pos aa, fst_one h], fun c => ?_⟩
  rw [cls_mem hr hk hn, aa] at c
  cases c
theorem std_two {rs : List Pp} (hr : ∀ x ∈ rs, PwOk x) {kd : Str} {n : Int} {u v : Pp} (hk : kd ∈ KINDS_L) (hu : u ∈ newK rs kd n) (hv : v ∈ newK rs kd n) (ne : u ≠ v) : stdN rs kd n = [] ∧ (kd, n) ∈ clsTo rs KINDS_L := by
  have hn : n ∈ numsK rs kd := num_iff.mpr ⟨u, hu⟩
  have aa : allAs (newK rs kd n) = false := by
    cases c : allAs (newK rs kd n) with
    | false => rfl
    | true => exact absurd ((allAs_pw (newK_pw hr)).mp c u hu v hv) ne
  refine ⟨by rw [stdN_eq hr hn, if_neg (by rw [aa]; decide)], ?_⟩
  rw [cls_mem hr hk hn]
  exact aa
theorem key_any (bs : List (Str × Int)) (kd : Str) (n : Int) : ((bs.map keyE).any fun z => z.eqv (keyE (kd, n))) = decide ((kd, n) ∈ bs) := by
  rw [Bool.eq_iff_iff, List.any_map, List.any_eq_true, decide_eq_true_eq]
  constructor
  · rintro ⟨p, hp, e⟩
    have e : (keyE (p.1, p.2)).eqv (keyE (kd, n)) = true := e
    rw [key_eqv, decide_eq_true_eq] at e
    rw [← e.1, ← e.2]
    exact hp
  · intro h
    refine ⟨(kd, n), h, ?_⟩
    show (keyE (kd, n)).eqv (keyE (kd, n)) = true
    rw [key_eqv]
    exact decide_eq_true ⟨rfl, rfl⟩
theorem list_shaped {ds : List PyData} (h : ∀ d ∈ ds, PyData.canLay0 d = true ∧ d.depth ≤ 30) : SeqAt.shaped (.list ds) = true := by
  have a : PyData.canLayAll0 ds = true ∧ PyData.depthAll ds ≤ 30 := by
    induction ds with
    | nil => exact ⟨rfl, Nat.zero_le _⟩
    | cons d ds ih =>
      obtain ⟨h1, h2⟩ := h d List.mem_cons_self
      obtain ⟨h3, h4⟩ := ih fun x hx => h x (List.mem_cons_of_mem _ hx)
      exact ⟨Bool.and_eq_true_iff.mpr ⟨h1, h3⟩, Nat.max_le.mpr ⟨h2, h4⟩⟩
  refine Bool.and_eq_true_iff.mpr ⟨a.1, decide_eq_true ?_⟩
  show PyData.depthAll ds + 1 ≤ 64
  omega
theorem pps_item {xs : List Pp} (h : ∀ x ∈ xs, PpOk x) : PyData.canLay0 (.list (xs.map ppD)) = true ∧ (PyData.list (xs.map ppD)).depth ≤ 30 := ⟨layAll_pp h, by
  show PyData.depthAll (xs.map ppD) + 1 ≤ 30
  have := depthAll_pp h
  omega⟩
theorem ky_item {bs : List (Str × Int)} (h : ∀ p ∈ bs, PyData.strOk p.1 = true) : PyData.canLay0 (.list (bs.map keyE)) = true ∧ (PyData.list (bs.map keyE)).depth ≤ 30 := ⟨layAll_ky h, by
  show PyData.depthAll (bs.map keyE) + 1 ≤ 30
  have := depthAll_ky bs
  omega⟩
theorem told_shaped {ps : List Pp} (h : ∀ x ∈ ps, PwOk x) : SeqAt.shaped (.list (toldL ps)) = true := by
  refine list_shaped fun d hd => ?_
  unfold toldL at hd
  rcases List.mem_append.mp hd with z | z
  · obtain ⟨kd, _, rfl⟩ := List.mem_map.mp z
    exact pps_item fun x hx => (h x (mem_standL hx)).ok
  · rw [List.mem_singleton.mp z]
    exact ky_item fun p hp => cls_ok (fun _ h => h) hp
theorem oth_shaped {ps : List Pp} (h : ∀ x ∈ ps, PwOk x) (kd : Str) (n : Int) : SeqAt.shaped (.list (othL ps kd n)) = true := by
  refine list_shaped fun d hd => ?_
  unfold othL at hd
  rcases List.mem_append.mp hd with z | z
  · obtain ⟨k, _, rfl⟩ := List.mem_map.mp z
    exact pps_item fun x hx => (h x (mem_standL (List.mem_filter.mp hx).1)).ok
  · rw [List.mem_singleton.mp z]
    exact ky_item fun p hp => cls_ok (fun _ h => h) (List.mem_filter.mp hp).1
theorem ne_self {d : PyData} (h : PyData.canLay0 d = true) : (!PyData.eqv d d) = false := by rw [SeqAt.eqv_refl d h]; rfl
theorem shaped_lay {d : PyData} (h : SeqAt.shaped d = true) : PyData.canLay0 d = true := (Bool.and_eq_true_iff.mp h).1
theorem told_elder {ps rs : List Pp} {el y0 : Pp} (hps : ∀ x ∈ ps, PwOk x) (hel : PwOk el) (hr : ∀ x, x ∈ rs ↔ x ∈ ps ∨ x ∈ [el]) (h0 : y0 ∈ ps) (hk : ppK el = ppK y0) (lt : el.ed < y0.ed) : toldL rs = toldL ps ∧ ∀ x ∈ rs, PwOk x := by
  have ho : ∀ x ∈ rs, PwOk x := fun x hx => ((hr x).mp hx).elim (hps x) fun z => by rw [List.mem_singleton.mp z]; exact hel
  refine ⟨told_ag ho hps fun k => ?_, ho⟩
  by_cases c : k = ppK y0
  · subst c
    exact ag_elder hr h0 rfl fun e he => by rw [List.mem_singleton.mp he]; exact lt
  · exact ag_other hr (fun e he => by rw [List.mem_singleton.mp he]; exact hk) c
theorem mem_app1 {ps : List Pp} {z x : Pp} : x ∈ ps ++ [z] ↔ x ∈ ps ∨ x ∈ [z] := List.mem_append
theorem mem_app2 {ps : List Pp} {z x : Pp} : x ∈ [z] ++ ps ↔ x ∈ ps ∨ x ∈ [z] := by rw [List.mem_append, Or.comm]
theorem PwOk.mk' {x y : Pp} (h : PwOk y) (k : x.kd ∈ KINDS_L) (r : x.rest = y.rest) : PwOk x := by
  have hl := h.ok.lay
  have hd := h.ok.dep
  have l2 : PyData.canLayAll0 y.rest = true := by
    have : (PyData.strOk y.kd && (true && (true && PyData.canLayAll0 y.rest))) = true := hl
    simpa using (Bool.and_eq_true_iff.mp this).2
  have d2 : max 0 (max 0 (max 0 (PyData.depthAll y.rest))) + 1 ≤ 10 := hd
  refine ⟨⟨?_, ?_⟩, k, by rw [r]; exact h.nol, by rw [r]; exact h.ne⟩
  · show (PyData.strOk x.kd && (true && (true && PyData.canLayAll0 x.rest))) = true
    rw [kd_ok k, r, l2]
    rfl
  · show max 0 (max 0 (max 0 (PyData.depthAll x.rest))) + 1 ≤ 10
    rw [r]
    exact d2
theorem pp_inv3 {S : Addr → Prop} {H : Hp} {v : V} {x : Pp} (h : Dt S H v (ppD x)) : ∃ t zs, v = .ref t ∧ H t = some (.tup (.str x.kd :: .int x.num :: .int x.ed :: zs)) ∧ DtAll S H zs x.rest ∧ zs.length + 3 ≤ 5000 := by
  unfold ppD at h
  cases h with
  | tup s e n hd =>
    cases hd with
    | cons h1 hd =>
      cases h1
      cases hd with
      | cons h2 hd =>
        cases h2
        cases hd with
        | cons h3 hd =>
          cases h3
          exact ⟨_, _, rfl, e, hd, n⟩
theorem pw_hd {y : Pp} {d0 d' : PyData} {tl : List PyData} {kd : Str} {n m : Int} (h : PwOk y) (k : kd ∈ KINDS_L) (e : y.rest = d0 :: tl) (c : d' = .str ("" : Str) ∨ ∃ i, d' = .int i) : PwOk ⟨kd, n, m, d' :: tl⟩ := by
  have hl := h.ok.lay
  have hd := h.ok.dep
  have hn := h.nol
  have l2 : PyData.canLayAll0 y.rest = true := by
    have : (PyData.strOk y.kd && (true && (true && PyData.canLayAll0 y.rest))) = true := hl
    simpa using (Bool.and_eq_true_iff.mp this).2
  have d2 : max 0 (max 0 (max 0 (PyData.depthAll y.rest))) + 1 ≤ 10 := hd
  rw [e] at l2 d2 hn
  have l3 : PyData.canLayAll0 tl = true := (Bool.and_eq_true_iff.mp (show (PyData.canLay0 d0 && PyData.canLayAll0 tl) = true from l2)).2
  have n3 : noLAll tl = true := (Bool.and_eq_true_iff.mp (show (noL d0 && noLAll tl) = true from hn)).2
  have d3 : PyData.depthAll tl ≤ 9 := by
    have : max 0 (max 0 (max 0 (max d0.depth (PyData.depthAll tl)))) + 1 ≤ 10 := d2
    omega
  have ld : PyData.canLay0 d' = true ∧ noL d' = true ∧ d'.depth = 0 := by
    rcases c with rfl | ⟨i, rfl⟩
    · exact ⟨by decide +kernel, rfl, rfl⟩
    · exact ⟨rfl, rfl, rfl⟩
  refine ⟨⟨?_, ?_⟩, k, ?_, List.cons_ne_nil _ _⟩
  · show (PyData.strOk kd && (true && (true && (PyData.canLay0 d' && PyData.canLayAll0 tl)))) = true
    rw [kd_ok k, ld.1, l3]
    rfl
  · show max 0 (max 0 (max 0 (max d'.depth (PyData.depthAll tl)))) + 1 ≤ 10
    rw [ld.2.2]
    omega
  · show (noL d' && noLAll tl) = true
    rw [ld.2.1, n3]
    rfl
/-! one number's papers put on with -/
section
variable {P : Program} {w : World} {K : PySem.W.Frag} {mg : Str → Option Value} {base : Heap} {k : Nat}
def sp_l_more (T : Defs K mg) : Sp := fun vs H Q _ => ∃ (p l : Addr) (xs : List V) (ps : List Pp), vs = [.ref p, .ref l] ∧ Bag H p ∧ l ≠ p ∧ H l = some (.lst xs) ∧ DtAll SA H xs (ps.map ppD) ∧ (∀ x ∈ ps, PwOk x) ∧ ps ≠ [] ∧ ps.length ≤ 100 ∧ TabC T H ∧
  ∀ H1 H', Keep p H H1 → LamX.ExtN H1 H' → TabC T H' → Q (.bl true) H'
set_option maxHeartbeats 16000000 in
theorem ok_l_more (T : Defs K mg) (TB : LamX.TabB base mg T.cc_clashing T.tp_clashing) : FnOk P w K mg base CX0 6 T.a_l_more T.d_l_more ["_law_bag_here", "_law_papers"] (sp_l_more T) := by
  have G_l_take : FnOk P w K mg base CX0 5 _ _ _ _ := ok_l_take (k := 4) T
  have G_l_told : FnOk P w K mg base CX0 5 _ _ _ _ := ok_l_told T TB
  have G_l_stands : FnOk P w K mg base CX0 5 _ _ _ _ := ok_l_stands (k := 2) T
  have G_l_others : FnOk P w K mg base CX0 5 _ _ _ _ := ok_l_others (k := 4) T
  have G_clashing : FnOk P w K mg base CX0 5 _ _ _ _ := (ok_clashing T TB).mono (by decide)
  refine T.F_l_more.ok sc_l_more (fun vs H Q E h => ?_) (fun cdv A outer s H vs Q E hr h => ?_)
  · obtain ⟨p, l, xs, ps, rfl, _⟩ := h
    rfl
  · obtain ⟨p, l, xs, ps, rfl, b, nlp, el, hx, hps, pne, hn, hT, q⟩ := h
    refine ⟨_, PSs.nox
(pss_cons (ps_asg (pe_slice (r := rSlT K) sl_tup (pe_ix (r := rIxL K) ix_list (pv 1) (pe_call G_l_take hr (by rfl) T.g_l_take T.F_l_take.kp T.b_l_take .nil pass0 (pa_cons (pv 0) (pa_cons (pe_callB (r := rLenS K) call_lenS (by rfl) T.z_len (by decide +kernel) (pa_cons (pv 1) pa_nil)) pa_nil))) (fun _ _ => rfl)) po_none (po_some (pe_int))) (pg_tup rfl (pgs_cons (pg_name (i := 2) sc_l_more.nd rfl (.inr rfl)) (pgs_cons (pg_name (i := 3) sc_l_more.nd rfl (.inr rfl)) pgs_nil))))
    (pss_cons (ps_setLc (i := 4) (own := [("_law_paper_here", 15)]) (g := gName 15) rfl sc_l_more.nd rfl rfl (sw_true rfl rfl rfl (by decide +kernel)) (pi_list (pv 1)) (blkOk_by (N := N_l_more) (sc := defScope s_l_more) (by decide +kernel)) (fun _ _ _ _ _ => (pg_name (i := 15) sc_l_more.nd rfl (.inl rfl))) (fun _ _ _ _ _ => pts_one (pt_cmpR (r := rEqD K) (op_eqD hr.units) (pe_slice (r := rSlT K) sl_tup (pv 15) po_none (po_some (pe_int))) (pe_tup (pa_cons (pv 2) (pa_cons (pv 3) pa_nil))) (nomark _))) (fun _ _ _ _ _ => (pv 15)))
    (pss_cons (ps_set (i := 5) sc_l_more.nd rfl (.inr rfl) (pe_callB (r := Mx.rMaxI K) (Mx.cr_maxI rfl hr.units) (by rfl) T.z_max (by decide +kernel) (pa_cons (pe_lc (own := [("_law_paper_here", 15)]) (g := gName 15) rfl sc_l_more.nd (pi_list (pv 4)) (blkOk_by (N := N_l_more) (sc := defScope s_l_more) (by decide +kernel)) (fun _ _ _ _ _ => (pg_name (i := 15) sc_l_more.nd rfl (.inl rfl))) (fun _ _ _ _ _ => pts_nil) (fun _ _ _ _ _ => (pe_ix (r := rIxT K) ix_tup (pv 15) (pe_int) (fun _ _ => rfl)))) pa_nil)))
    (pss_cons (ps_setLc (i := 6) (own := [("_law_paper_here", 15)]) (g := gName 15) rfl sc_l_more.nd rfl rfl (sw_true rfl rfl rfl (by decide +kernel)) (pi_list (pv 4)) (blkOk_by (N := N_l_more) (sc := defScope s_l_more) (by decide +kernel)) (fun _ _ _ _ _ => (pg_name (i := 15) sc_l_more.nd rfl (.inl rfl))) (fun _ _ _ _ _ => pts_one (pt_cmpR op_eq (pe_ix (r := rIxT K) ix_tup (pv 15) (pe_int) (fun _ _ => rfl)) (pv 5) (nomark _))) (fun _ _ _ _ _ => (pv 15)))
    (pss_cons (ps_set (i := 7) sc_l_more.nd rfl (.inl rfl) (pe_call G_l_told hr (by rfl) T.g_l_told T.F_l_told.kp T.b_l_told .nil pass0 (pa_cons (pv 1) pa_nil)))
    (pss_cons (ps_set (i := 8) sc_l_more.nd rfl (.inl rfl) (pe_slice (r := rSlT K) sl_tup (pe_ix (r := rIxL K) ix_list (pv 6) (pe_int) (fun _ _ => rfl)) (po_some (pe_int)) po_none))
    (Evl.pss_cut (ps_if (pt_cmpR op_gt (pv 5) (pe_int) (nomark _))
      (pss_cons (ps_set (i := 9) sc_l_more.nd rfl (.inl rfl) (pe_op op_catT (pe_tup (pa_cons (pv 2) (pa_cons (pv 3) (pa_cons (pe_op op_sub (pv 5) (pe_int)) pa_nil)))) (pe_slice (r := rSlT K) sl_tup (pe_ix (r := rIxL K) ix_list (pv 4) (pe_int) (fun _ _ => rfl)) (po_some (pe_int)) po_none)))
      (pss_one (ps_if (PW.pt (pw_or (pt_cmpR (r := rNeD K) (op_neD hr.units) (pe_call G_l_told hr (by rfl) T.g_l_told T.F_l_told.kp T.b_l_told .nil pass0 (pa_cons (pe_op op_cat (pv 1) (pe_lst (pa_cons (pv 9) pa_nil))) pa_nil)) (pv 7) (nomark _)) (pw_or1 (pt_cmpR (r := rNeD K) (op_neD hr.units) (pe_call G_l_told hr (by rfl) T.g_l_told T.F_l_told.kp T.b_l_told .nil pass0 (pa_cons (pe_op op_cat (pe_lst (pa_cons (pv 9) pa_nil)) (pv 1)) pa_nil)) (pv 7) (nomark _)))))
        (pss_one (ps_ret (pe_bl)))
        pss_nil)))
      pss_nil)
    (pss_cons (ps_if (pt_cmpR op_gt (pv 5) (pe_int) (nomark _))
      (pss_one (ps_ret (pe_bl)))
      pss_nil)
    (pss_cons (ps_set (i := 10) sc_l_more.nd rfl (.inl rfl) (pe_op op_catT (pe_tup (pa_cons (pv 2) (pa_cons (pv 3) (pa_cons (pe_op op_add (pv 5) (pe_int)) pa_nil)))) (pv 8)))
    (Evl.pss_cut (ps_set (i := 11) sc_l_more.nd rfl (.inl rfl) (pe_ifExp (pt_cmpR op_eq (pv 2) (pe_str) (nomark _)) (pe_int) (pe_int)))
    (Evl.pss_cut (ps_set (i := 12) sc_l_more.nd rfl (.inl rfl) (pe_op op_catT (pe_tup (pa_cons (pv 2) (pa_cons (pv 3) (pa_cons (pe_op op_add (pv 5) (pe_int)) (pa_cons (pe_ifExp (pt_val (pe_callB call_isi (by rfl) T.z_isinstance (by decide +kernel) (pa_cons (pe_ix (r := rIxT K) ix_tup (pv 8) (pe_int) (fun _ _ => rfl)) (pa_cons (pe_bltn (v := .ty "int") (by rfl) T.z_int (by decide +kernel) rfl) pa_nil)))) (pe_op op_add (pe_op op_mod (pe_ix (r := rIxT K) ix_tup (pv 8) (pe_int) (fun _ _ => rfl)) (pv 11)) (pe_int)) (pe_str)) pa_nil))))) (pe_slice (r := rSlT K) sl_tup (pv 8) (po_some (pe_int)) po_none)))
    (pss_cons (ps_set (i := 13) sc_l_more.nd rfl (.inl rfl) (pe_op op_catT (pe_tup (pa_cons (pv 2) (pa_cons (pv 3) (pa_cons (pe_op op_add (pv 5) (pe_int)) pa_nil)))) (pv 8)))
    (pss_cons (ps_for PassesOwn.never rfl (pi_tup (pe_tup (pa_cons (pe_op op_cat (pv 1) (pe_lst (pa_cons (pv 10) pa_nil))) (pa_cons (pe_op op_cat (pe_lst (pa_cons (pv 10) pa_nil)) (pv 1)) pa_nil)))) (pg_name (i := 14) sc_l_more.nd rfl (.inl rfl))
      (pss_cons (ps_if (PW.pt (pw_or (pt_cmpR (r := rNeD K) (op_neD hr.units) (pe_call G_l_stands hr (by rfl) T.g_l_stands T.F_l_stands.kp T.b_l_stands .nil pass0 (pa_cons (pv 14) (pa_cons (pv 2) (pa_cons (pv 3) pa_nil)))) (pe_lst (pa_cons (pv 10) pa_nil)) (nomark _)) (pw_or1 (pt_cmpR (op_inD (un65 hr)) (pe_tup (pa_cons (pv 2) (pa_cons (pv 3) pa_nil))) (pe_call G_clashing hr (by rfl) T.g_clashing T.F_clashing.kp T.b_clashing .nil pass0 (pa_cons (pe_callTy call_list_of (by rfl) T.z_list (by decide +kernel) (pa_cons (pv 14) pa_nil)) pa_nil)) (by rfl)))))
        (pss_one (ps_ret (pe_bl)))
        pss_nil)
      (pss_one (ps_if (pt_cmpR (r := rNeD K) (op_neD hr.units) (pe_call G_l_others hr (by rfl) T.g_l_others T.F_l_others.kp T.b_l_others .nil pass0 (pa_cons (pe_call G_l_told hr (by rfl) T.g_l_told T.F_l_told.kp T.b_l_told .nil pass0 (pa_cons (pv 14) pa_nil)) (pa_cons (pv 2) (pa_cons (pv 3) pa_nil)))) (pe_call G_l_others hr (by rfl) T.g_l_others T.F_l_others.kp T.b_l_others .nil pass0 (pa_cons (pv 7) (pa_cons (pv 2) (pa_cons (pv 3) pa_nil)))) (nomark _))
        (pss_one (ps_ret (pe_bl)))
        pss_nil))))
    (pss_cons (ps_if (PW.pt (pw_or (pt_cmpR (r := rEqD K) (op_eqD hr.units) (pv 12) (pv 10) (nomark _)) (pw_or1 (pt_val (pe_callB call_isi (by rfl) T.z_isinstance (by decide +kernel) (pa_cons (pe_ix (r := rIxT K) ix_tup (pv 12) (pe_int) (fun _ _ => rfl)) (pa_cons (pe_bltn (v := .ty "str") (by rfl) T.z_str (by decide +kernel) rfl) pa_nil)))))))
      (pss_one (ps_ret (pe_bl)))
      pss_nil)
    (pss_cons (ps_set (i := 14) sc_l_more.nd rfl (.inl rfl) (pe_op op_cat (pe_op op_cat (pe_lst (pa_cons (pv 12) pa_nil)) (pv 1)) (pe_lst (pa_cons (pv 10) pa_nil))))
    (pss_cons (ps_if (PW.pt (pw_or (pt_cmpR (r := rNeD K) (op_neD hr.units) (pe_call G_l_stands hr (by rfl) T.g_l_stands T.F_l_stands.kp T.b_l_stands .nil pass0 (pa_cons (pv 14) (pa_cons (pv 2) (pa_cons (pv 3) pa_nil)))) (pe_lst pa_nil) (nomark _)) (pw_or1 (pt_cmpR (op_notInD (un65 hr)) (pe_tup (pa_cons (pv 2) (pa_cons (pv 3) pa_nil))) (pe_call G_clashing hr (by rfl) T.g_clashing T.F_clashing.kp T.b_clashing .nil pass0 (pa_cons (pe_callTy call_list_of (by rfl) T.z_list (by decide +kernel) (pa_cons (pv 14) pa_nil)) pa_nil)) (by rfl)))))
      (pss_one (ps_ret (pe_bl)))
      pss_nil)
    (pss_one (ps_ret (pe_and (pe_cmpR (r := rEqD K) (op_eqD hr.units) (pe_call G_l_stands hr (by rfl) T.g_l_stands T.F_l_stands.kp T.b_l_stands .nil pass0 (pa_cons (pe_op op_cat (pe_lst (pa_cons (pv 13) pa_nil)) (pv 14)) (pa_cons (pv 2) (pa_cons (pv 3) pa_nil)))) (pe_lst (pa_cons (pv 13) pa_nil)) (nomark _)) (pe_one (pe_cmpR (r := rEqD K) (op_eqD hr.units) (pe_call G_l_told hr (by rfl) T.g_l_told T.F_l_told.kp T.b_l_told .nil pass0 (pa_cons (pe_op op_cat (pv 14) (pe_lst (pa_cons (pv 13) pa_nil))) pa_nil)) (pe_call G_l_told hr (by rfl) T.g_l_told T.F_l_told.kp T.b_l_told .nil pass0 (pa_cons (pe_op op_cat (pe_lst (pa_cons (pv 13) pa_nil)) (pv 14)) pa_nil)) (nomark _))))))))))))))))))))))
      , ?_⟩
    have xl : xs.length = ps.length := by rw [hx.len, List.length_map]
    have pl0 : 0 < ps.length := List.length_pos_iff.mpr pne
    refine ⟨.ref l, rfl, .ref p, rfl, .ref l, rfl, l, _, rfl, .inl (SqL.of el), p, _, rfl, b, by omega, by omega, fun H1 e k1 b1 e0 e1 => ?_⟩
    obtain ⟨i, rfl⟩ : ∃ i : Nat, e = (i : Int) := ⟨e.toNat, by omega⟩
    have ix : i < xs.length := by omega
    have hv := List.getElem?_eq_getElem ix
    have el1 := k1 _ _ nlp el
    have hx1 : DtAll SA H1 xs (ps.map ppD) := DtAll.tkf (.keep k1 b) hx (noL_pps hps)
    have hT1 : TabC T H1 := tab_keep hT k1 b
    obtain ⟨x0, t0, zs0, er0, ev, et0, hd0⟩ := dt_at hx1 hv
    have hv : xs[i]? = some (.ref t0) := by rw [hv, ev]
    have x0ok := hps x0 (List.mem_of_getElem? er0)
    have cutx : ∀ (x : Pp) (zs' : List V), ¬ (HT.sIx (V.str x.kd :: V.int x.num :: V.int x.ed :: zs').length 0 none = 0 ∧ HT.sIx (V.str x.kd :: V.int x.num :: V.int x.ed :: zs').length (V.str x.kd :: V.int x.num :: V.int x.ed :: zs').length (some 2) = (V.str x.kd :: V.int x.num :: V.int x.ed :: zs').length) := fun x zs' => by
      rw [show (some (2 : Int)) = some ((2 : Nat) : Int) from rfl, HT.sIx_nat]
      simp only [List.length_cons]
      omega
    have cutv : ∀ (x : Pp) (zs' : List V), cutV (V.str x.kd :: V.int x.num :: V.int x.ed :: zs') none (some 2) = [.str x.kd, .int x.num] := fun x zs' => cut_takeH _ 2
    refine ⟨l, xs, (i : Int), .ref t0, rfl, rfl, SqL.of el1, atI_nat hv, 2, rfl, t0, _, rfl, SqT.of et0, cutx _ _, fun u nu => ?_⟩
    rw [cutv]
    have s2 := same_upd (o := .tup [V.str x0.kd, .int x0.num]) nu
    have eu : (upd H1 u (.tup [V.str x0.kd, .int x0.num])) u = some (.tup [V.str x0.kd, .int x0.num]) := upd_same
    have k12 : LamX.ExtN H1 (upd H1 u (.tup [V.str x0.kd, .int x0.num])) := .of s2
    generalize upd H1 u (.tup [V.str x0.kd, .int x0.num]) = H2 at s2 eu k12 ⊢
    have hkd := x0ok.kd
    obtain ⟨kd, n, ekd, enum⟩ : ∃ kd n, kd = x0.kd ∧ n = x0.num := ⟨_, _, rfl, rfl⟩
    rw [← ekd] at eu hkd
    rw [← enum] at eu
    have k0x : ppK x0 = kdn kd n := by unfold ppK; rw [ekd, enum]
    refine ⟨u, _, rfl, SqT.of eu, rfl, _, _, rfl, _, _, rfl, rfl, ?_⟩
    have e02 := k12
    have hT2 : TabC T H2 := tabC_same hT1 s2
    have el2 := s2 _ _ el1
    -- those of the number
    refine ⟨.ref l, rfl, l, rfl, ⟨_, SqL.of el2⟩, fun So nSo => ?_⟩
    refine lc_it (walk_list (xs := xs)) (fun j Hy => ∃ us, Same H2 Hy ∧ Hy So = some (.lst us) ∧ DtAll SA H1 us ((ofK (ps.take j) (kdn kd n)).map ppD) ∧ us.length ≤ j) ⟨[], same_upd nSo, upd_same, .nil, Nat.le_refl _⟩ (fun j Hy _ pv => by obtain ⟨_, sy, _⟩ := pv; exact SqL.of (sy _ _ el2)) (fun j v Hy₀ Hy hj pv yy => ?_) (fun H3 pv => ?_)
    · obtain ⟨rfl, ex⟩ := yy
      obtain ⟨us, sy, eC, hus, ul⟩ := pv
      obtain ⟨x, t, zs', er, rfl, et, hd⟩ := dt_at hx1 ex
      have ety := (s2.trans sy) _ _ et
      have xok := hps x (List.mem_of_getElem? er)
      have tk1 : ps.take (j + 1) = ps.take j ++ [x] := by rw [List.take_add_one, er]; rfl
      refine ⟨rfl, .ref t, rfl, 2, rfl, t, _, rfl, SqT.of ety, cutx _ _, fun u1 nu1 => ?_⟩
      rw [cutv]
      have su := same_upd (o := .tup [V.str x.kd, .int x.num]) nu1
      have eu1 : (upd Hy u1 (.tup [V.str x.kd, .int x.num])) u1 = some (.tup [V.str x.kd, .int x.num]) := upd_same
      generalize upd Hy u1 (.tup [V.str x.kd, .int x.num]) = Hu at su eu1 ⊢
      refine ⟨.str kd, rfl, .int n, rfl, by show 2 ≤ sizeLine; decide, fun u2 nu2 => ?_⟩
      have su2 := same_upd (o := .tup [V.str kd, .int n]) nu2
      have eu2 : (upd Hu u2 (.tup [V.str kd, .int n])) u2 = some (.tup [V.str kd, .int n]) := upd_same
      have eu' := su2 _ _ eu1
      have szu := (sy.trans su).trans su2
      have eBu := (su.trans su2) _ _ eC
      generalize upd Hu u2 (.tup [V.str kd, .int n]) = Hv at su2 eu2 eu' szu eBu ⊢
      refine ⟨keyE (x.kd, x.num), keyE (kd, n), .tup (SqT.of eu') (.cons (.str _) (.cons (.int _) .nil)), .tup (SqT.of eu2) (.cons (.str _) (.cons (.int _) .nil)), key_shaped _ (kd_ok xok.kd), key_shaped _ (kd_ok hkd), _, rfl, ?_⟩
      rw [key_eqv]
      unfold ofK at hus ⊢
      refine ite2 (fun c => ?_) fun c => ?_
      · have c : ppK x = kdn kd n := by
          have := of_decide_eq_true c
          unfold ppK
          rw [this.1, this.2]
        refine ⟨.ref t, rfl, us, eBu, small5000 (by omega), us ++ [.ref t], same_set szu nSo, upd_same, ?_, by rw [List.length_append]; exact Nat.succ_le_succ ul⟩
        rw [tk1, List.filter_append, List.filter_cons_of_pos (by simp [c]), List.map_append]
        exact dtAll_snocA hus hd
      · have c : ppK x ≠ kdn kd n := fun z => c (decide_eq_true (kdn_inj z))
        refine ⟨us, szu, eBu, ?_, Nat.le_succ_of_le ul⟩
        rw [tk1, List.filter_append, List.filter_cons_of_neg (by simp [c]), List.filter_nil, List.append_nil]
        exact hus
    obtain ⟨us, s23, eSo, hus, ul⟩ := pv
    rw [xl, List.take_length] at hus
    have ne := ofK_ne.mpr ((mem_ksP ps _).mpr ⟨x0, List.mem_of_getElem? er0, k0x⟩)
    have hos : ∀ x ∈ ofK ps (kdn kd n), x ∈ ps ∧ ppK x = kdn kd n := fun x hx => ⟨(List.mem_filter.mp hx).1, of_decide_eq_true (List.mem_filter.mp hx).2⟩
    have s13 := s2.trans s23
    obtain ⟨o0, os', eos⟩ := List.exists_cons_of_ne_nil ne
    have ol : us.length = (o0 :: os').length := by rw [hus.len, List.length_map, eos]
    obtain ⟨most, emost⟩ : ∃ m, m = edsM (ofK ps (kdn kd n)) := ⟨_, rfl⟩
    -- the greatest edition
    refine ⟨.ref So, rfl, So, rfl, ⟨_, SqL.of eSo⟩, fun C5 nC5 => ?_⟩
    rw [eos] at hus
    refine lc_it (walk_list (xs := us)) (fun j Hy => Same H3 Hy ∧ Hy C5 = some (.lst ((((o0 :: os').take j).map (fun x : Pp => x.ed)).map V.int))) ⟨same_upd nC5, upd_same⟩ (fun j Hy _ pv => SqL.of (pv.1 _ _ eSo)) (fun j v Hy₀ Hy hj pv yy => ?_) (fun H5 pv => ?_)
    · obtain ⟨rfl, ex⟩ := yy
      obtain ⟨sy5, eC5⟩ := pv
      obtain ⟨x, t, zs', er, rfl, et, hd⟩ := dt_at hus ex
      have et := (s13.trans sy5) _ _ et
      have tk1 : (o0 :: os').take (j + 1) = (o0 :: os').take j ++ [x] := by rw [List.take_add_one, er]; rfl
      refine ⟨rfl, yes_ ⟨.ref t, rfl, t, _, 2, .int x.ed, rfl, rfl, SqT.of et, atI_nat (j := 2) rfl, _, eC5, small5000 (by rw [List.length_map, List.length_map, List.length_take]; omega), same_set sy5 nC5, ?_⟩⟩
      rw [tk1, List.map_append, List.map_append]
      exact upd_same
    obtain ⟨s35, eC5⟩ := pv
    rw [ol, List.take_length] at eC5
    refine ⟨C5, o0.ed, os'.map (fun x : Pp => x.ed), rfl, SqL.of eC5, ?_⟩
    rw [show Mx.maxI o0.ed (os'.map (fun x : Pp => x.ed)) = most by rw [emost, eos]; rfl]
    have eSo5 := s35 _ _ eSo
    have s15 := s13.trans s35
    -- the latest
    refine ⟨.ref So, rfl, So, rfl, ⟨_, SqL.of eSo5⟩, fun La nLa => ?_⟩
    refine lc_it (walk_list (xs := us)) (fun j Hy => ∃ ws, Same H5 Hy ∧ Hy La = some (.lst ws) ∧ DtAll SA H1 ws ((((o0 :: os').take j).filter fun x => decide (x.ed = most)).map ppD)) ⟨[], same_upd nLa, upd_same, .nil⟩ (fun j Hy _ pv => by obtain ⟨_, sy, _⟩ := pv; exact SqL.of (sy _ _ eSo5)) (fun j v Hy₀ Hy hj pv yy => ?_) (fun H6 pv => ?_)
    · obtain ⟨rfl, ex⟩ := yy
      obtain ⟨ws, sy6, eC6, hws⟩ := pv
      obtain ⟨x, t, zs', er, rfl, et, hd⟩ := dt_at hus ex
      have et := (s15.trans sy6) _ _ et
      have tk1 : (o0 :: os').take (j + 1) = (o0 :: os').take j ++ [x] := by rw [List.take_add_one, er]; rfl
      have wl : ws.length ≤ 200 := by
        rw [hws.len, List.length_map]
        have h1 := List.length_filter_le (fun x : Pp => decide (x.ed = most)) ((o0 :: os').take j)
        rw [List.length_take] at h1
        omega
      refine ⟨rfl, .ref t, rfl, t, _, 2, .int x.ed, rfl, rfl, SqT.of et, atI_nat (j := 2) rfl, .int most, rfl, rfl, _, rfl, ite2 (fun c => ?_) fun c => ?_⟩
      · have c : x.ed = most := by injection of_decide_eq_true c
        refine ⟨.ref t, rfl, ws, eC6, small5000 (by omega), ws ++ [.ref t], same_set sy6 nLa, upd_same, ?_⟩
        rw [tk1, List.filter_append, List.filter_cons_of_pos (by simp [c]), List.map_append]
        exact dtAll_snocA hws hd
      · have c : x.ed ≠ most := fun z => c (decide_eq_true (by rw [z]))
        refine ⟨ws, sy6, eC6, ?_⟩
        rw [tk1, List.filter_append, List.filter_cons_of_neg (by simp [c]), List.filter_nil, List.append_nil]
        exact hws
    obtain ⟨ws, s56, eLa, hws⟩ := pv
    rw [ol, List.take_length, ← eos, emost] at hws
    have hws : DtAll SA H1 ws ((grtL (ofK ps (kdn kd n))).map ppD) := hws
    rw [← eos] at hus
    have s16 := s15.trans s56
    have hT6 := tabC_same hT1 s16
    -- what is told of them
    refine ⟨.ref l, rfl, l, _, ps, rfl, s16 _ _ el1, hx1.same s16, hps, by omega, hT6, fun H7 Tq e67 hT7 hTq => ?_⟩
    have e17 := (LamX.ExtN.of s16).trans e67
    obtain ⟨y, gs', egs⟩ := List.exists_cons_of_ne_nil (grtL_ne ne)
    obtain ⟨w0, hw0, hwy⟩ : ∃ w0, ws[0]? = some w0 ∧ Dt SA H1 w0 (ppD y) := by
      rw [egs] at hws
      cases hws with
      | cons a _ => exact ⟨_, rfl, a⟩
    obtain ⟨ty, yr, rfl, ety, hyr, yrl⟩ := pp_inv3 hwy
    have yin : y ∈ grtL (ofK ps (kdn kd n)) := by rw [egs]; exact List.mem_cons_self
    have yk := hos y (mem_grtL.mp yin).1
    have yok := hps y yk.1
    have yed : y.ed = most := by rw [emost]; exact of_decide_eq_true (List.mem_filter.mp yin).2
    have top : ∀ x ∈ ps, ppK x = kdn kd n → x.ed ≤ most := fun x hx e => by rw [emost]; exact edsM_ge (List.mem_filter.mpr ⟨hx, decide_eq_true e⟩)
    have eLa7 := ExtN.lst e67 eLa
    have cutr : ∀ (x : Pp) (zs' : List V), ¬ (HT.sIx (V.str x.kd :: V.int x.num :: V.int x.ed :: zs').length 0 (some 3) = 0 ∧ HT.sIx (V.str x.kd :: V.int x.num :: V.int x.ed :: zs').length (V.str x.kd :: V.int x.num :: V.int x.ed :: zs').length none = (V.str x.kd :: V.int x.num :: V.int x.ed :: zs').length) := fun x zs' => by
      rw [show (some (3 : Int)) = some ((3 : Nat) : Int) from rfl, HT.sIx_nat]
      simp only [List.length_cons]
      omega
    have cutw : ∀ (x : Pp) (zs' : List V), cutV (V.str x.kd :: V.int x.num :: V.int x.ed :: zs') (some 3) none = zs' := fun x zs' => cut_dropH _ 3
    refine ⟨.ref La, rfl, La, _, 0, .ref ty, rfl, rfl, SqL.of eLa7, atI_nat (j := 0) hw0, 3, rfl, ty, _, rfl, SqT.of (ExtN.tup e17 ety), cutr _ _, fun Re nRe => ?_⟩
    rw [cutw]
    have s78 := same_upd (o := .tup yr) nRe
    have eRe : (upd H7 Re (.tup yr)) Re = some (.tup yr) := upd_same
    have e18 := ext_same e17 s78
    have hT8 := tabC_same hT7 s78
    have hTq8 := hTq.same s78
    have eSo8 := s78 _ _ (ExtN.lst e67 ((s35.trans s56) _ _ eSo))
    generalize upd H7 Re (.tup yr) = H8 at s78 eRe e18 hT8 hTq8 eSo8 ⊢
    have el8 := ExtN.lst e18 el1
    have hx8 := DtAll.ext e18 hx1
    have hyr8 := DtAll.ext e18 hyr
    have hus8 := DtAll.ext e18 hus
    have q8 : ∀ H', LamX.ExtN H8 H' → TabC T H' → Q (.bl true) H' := fun H' e t => q H1 H' k1 (e18.trans e) t
    have shT := told_shaped hps
    have tEq := ne_self (shaped_lay shT)
    refine ⟨fun σ Hx => ∃ y9 : Option V, σ = [some (.ref p), some (.ref l), some (.str kd), some (.int n), some (.ref So), some (.int most), some (.ref La), some (.ref Tq), some (.ref Re), y9, none, none, none, none, none, none] ∧ LamX.ExtN H8 Hx ∧ TabC T Hx, ?_, fun σ H9 mid => ?_⟩
    · refine ⟨.int most, rfl, most, 1, rfl, rfl, _, rfl, ite2 (fun c => ?_) fun _ => ⟨none, rfl, .of fun _ _ z => z, hT8⟩⟩
      have hus9 := hus8
      rw [eos] at hus9
      obtain ⟨w1, hw1, hwo⟩ : ∃ w1, us[0]? = some w1 ∧ Dt SA H8 w1 (ppD o0) := by
        cases hus9 with
        | cons a _ => exact ⟨_, rfl, a⟩
      obtain ⟨to, orr, rfl, eto, hor, orl⟩ := pp_inv3 hwo
      have oin := hos o0 (by rw [eos]; exact List.mem_cons_self)
      have ook := hps o0 oin.1
      refine ⟨.str kd, rfl, .int n, rfl, .int most, rfl, most, 1, rfl, rfl, by show 3 ≤ sizeLine; decide, fun A1 nA1 => ?_⟩
      dsimp only
      have sA := same_upd (o := .tup [V.str kd, .int n, .int (most - 1)]) nA1
      have eA : (upd H8 A1 (.tup [V.str kd, .int n, .int (most - 1)])) A1 = some (.tup [V.str kd, .int n, .int (most - 1)]) := upd_same
      generalize upd H8 A1 (.tup [V.str kd, .int n, .int (most - 1)]) = H9 at sA eA ⊢
      refine ⟨.ref So, rfl, So, _, 0, .ref to, rfl, rfl, SqL.of (sA _ _ eSo8), atI_nat (j := 0) hw1, 3, rfl, to, _, rfl, SqT.of (sA _ _ eto), cutr _ _, fun B1 nB1 => ?_⟩
      rw [cutw]
      have sB := same_upd (o := .tup orr) nB1
      have eB : (upd H9 B1 (.tup orr)) B1 = some (.tup orr) := upd_same
      have eA' := sB _ _ eA
      have sAB := sA.trans sB
      generalize upd H9 B1 (.tup orr) = H10 at sB eB eA' sAB ⊢
      have orn : orr ≠ [] := fun z => by
        have := hor.len
        rw [z] at this
        exact ook.ne (List.eq_nil_of_length_eq_zero this.symm)
      refine ⟨A1, B1, _, _, rfl, rfl, SqT.of eA', SqT.of eB, List.cons_ne_nil _ _, by show 3 + orr.length ≤ sizeLine; exact Nat.le_of_lt (small5000 (by omega)), fun z => absurd z orn, fun _ El nEl => ?_⟩
      have sE := same_upd (o := .tup ([V.str kd, .int n, .int (most - 1)] ++ orr)) nEl
      have s8E := sAB.trans sE
      have hEl : Dt SA (upd H10 El (.tup ([V.str kd, .int n, .int (most - 1)] ++ orr))) (.ref El) (ppD ⟨kd, n, most - 1, o0.rest⟩) := .tup trivial upd_same (by simp only [List.length_append, List.length_cons, List.length_nil]; omega) (.cons (.str _) (.cons (.int _) (.cons (.int _) (hor.same s8E))))
      generalize upd H10 El (.tup ([V.str kd, .int n, .int (most - 1)] ++ orr)) = H11 at sE s8E hEl ⊢
      have elok : PwOk ⟨kd, n, most - 1, o0.rest⟩ := ook.mk' hkd rfl
      have kel : ppK (⟨kd, n, most - 1, o0.rest⟩ : Pp) = ppK y := yk.2.symm
      have led : (⟨kd, n, most - 1, o0.rest⟩ : Pp).ed < y.ed := by rw [yed]; show most - 1 < most; omega
      generalize (⟨kd, n, most - 1, o0.rest⟩ : Pp) = el at hEl elok kel led
      -- told with it behind
      refine ⟨.ref l, rfl, .ref El, rfl, by show 1 ≤ sizeLine; decide, fun X1 nX1 => ?_⟩
      have sX := same_upd (o := .lst [V.ref El]) nX1
      have eX : (upd H11 X1 (.lst [V.ref El])) X1 = some (.lst [V.ref El]) := upd_same
      generalize upd H11 X1 (.lst [V.ref El]) = H12 at sX eX ⊢
      refine ⟨l, X1, _, _, rfl, rfl, (s8E.trans sX) _ _ el8, eX, Nat.le_of_lt (small5000 (by simp only [List.length_cons, List.length_nil]; omega)), fun R1 nR1 => ?_⟩
      have sR := same_upd (o := .lst (xs ++ [V.ref El])) nR1
      have eR : (upd H12 R1 (.lst (xs ++ [V.ref El]))) R1 = some (.lst (xs ++ [V.ref El])) := upd_same
      have s8R := (s8E.trans sX).trans sR
      have sER := sX.trans sR
      generalize upd H12 R1 (.lst (xs ++ [V.ref El])) = H13 at sR eR s8R sER ⊢
      obtain ⟨tE, tO⟩ := told_elder (rs := ps ++ [el]) hps elok (fun x => mem_app1) yk.1 kel led
      refine ⟨R1, _, ps ++ [el], rfl, eR, by rw [List.map_append]; exact dtAll_snocA (hx8.same s8R) (hEl.same sER), tO, by rw [List.length_append]; simp only [List.length_cons, List.length_nil]; omega, tabC_same hT8 s8R, fun H14 r14 e14 hT14 hr14 => ?_⟩
      rw [tE] at hr14
      have e814 := (LamX.ExtN.of s8R).trans e14
      have eE14 := (LamX.ExtN.of sER).trans e14
      refine ⟨.ref Tq, rfl, _, _, hr14.dp, (Dt.ext e814 hTq8).dp, shT, shT, _, rfl, ?_⟩
      rw [tEq]
      refine iteF ⟨.ref El, rfl, by show 1 ≤ sizeLine; decide, fun X2 nX2 => ?_⟩
      have hEl14 := Dt.ext eE14 hEl
      have sX2 := same_upd (o := .lst [V.ref El]) nX2
      have eX2 : (upd H14 X2 (.lst [V.ref El])) X2 = some (.lst [V.ref El]) := upd_same
      generalize upd H14 X2 (.lst [V.ref El]) = H15 at sX2 eX2 ⊢
      refine ⟨.ref l, rfl, X2, l, _, _, rfl, rfl, eX2, sX2 _ _ (ExtN.lst e814 el8), Nat.le_of_lt (small5000 (by simp only [List.length_cons, List.length_nil]; omega)), fun R2 nR2 => ?_⟩
      have sR2 := same_upd (o := .lst ([V.ref El] ++ xs)) nR2
      have eR2 : (upd H15 R2 (.lst ([V.ref El] ++ xs))) R2 = some (.lst ([V.ref El] ++ xs)) := upd_same
      have s1416 := sX2.trans sR2
      generalize upd H15 R2 (.lst ([V.ref El] ++ xs)) = H16 at sR2 eR2 s1416 ⊢
      have e816 := ext_same e814 s1416
      obtain ⟨tE2, tO2⟩ := told_elder (rs := [el] ++ ps) hps elok (fun x => mem_app2) yk.1 kel led
      refine ⟨R2, _, [el] ++ ps, rfl, eR2, .cons (hEl14.same s1416) (DtAll.ext e816 hx8), tO2, by rw [List.length_append]; simp only [List.length_cons, List.length_nil]; omega, tabC_same hT14 s1416, fun H17 r17 e17' hT17 hr17 => ?_⟩
      rw [tE2] at hr17
      have e817 := e816.trans e17'
      refine ⟨.ref Tq, rfl, _, _, hr17.dp, (Dt.ext e817 hTq8).dp, shT, shT, _, rfl, ?_⟩
      rw [tEq]
      exact iteF ⟨some (.ref El), rfl, e817, hT17⟩
    obtain ⟨y9, rfl, e89, hT9⟩ := mid
    refine ⟨.int most, rfl, most, 96, rfl, rfl, _, rfl, ite2 (fun _ => q8 _ e89 hT9) fun _ => ?_⟩
    have q9 : ∀ H', LamX.ExtN H9 H' → TabC T H' → Q (.bl true) H' := fun H' e t => q8 H' (e89.trans e) t
    have eRe9 := ExtN.tup e89 eRe
    have hyr9 := DtAll.ext e89 hyr8
    have yrn : yr ≠ [] := fun z => by
      have := hyr.len
      rw [z] at this
      exact yok.ne (List.eq_nil_of_length_eq_zero this.symm)
    -- the newer one
    refine ⟨.str kd, rfl, .int n, rfl, .int most, rfl, most, 1, rfl, rfl, by show 3 ≤ sizeLine; decide, fun A1 nA1 => ?_⟩
    dsimp only
    have sA := same_upd (o := .tup [V.str kd, .int n, .int (most + 1)]) nA1
    have eA : (upd H9 A1 (.tup [V.str kd, .int n, .int (most + 1)])) A1 = some (.tup [V.str kd, .int n, .int (most + 1)]) := upd_same
    generalize upd H9 A1 (.tup [V.str kd, .int n, .int (most + 1)]) = H10 at sA eA ⊢
    refine ⟨.ref Re, rfl, A1, Re, _, _, rfl, rfl, SqT.of eA, SqT.of (sA _ _ eRe9), List.cons_ne_nil _ _, by show 3 + yr.length ≤ sizeLine; exact Nat.le_of_lt (small5000 (by omega)), fun z => absurd z yrn, fun _ Nw nNw => ?_⟩
    have sN := same_upd (o := .tup ([V.str kd, .int n, .int (most + 1)] ++ yr)) nNw
    have s911 := sA.trans sN
    have hNw : Dt SA (upd H10 Nw (.tup ([V.str kd, .int n, .int (most + 1)] ++ yr))) (.ref Nw) (ppD ⟨kd, n, most + 1, y.rest⟩) := .tup trivial upd_same (by simp only [List.length_append, List.length_cons, List.length_nil]; omega) (.cons (.str _) (.cons (.int _) (.cons (.int _) (hyr9.same s911))))
    generalize upd H10 Nw (.tup ([V.str kd, .int n, .int (most + 1)] ++ yr)) = H11 at sN s911 hNw ⊢
    have eRe11 := s911 _ _ eRe9
    have hyr11 := hyr9.same s911
    have nwok : PwOk ⟨kd, n, most + 1, y.rest⟩ := yok.mk' hkd rfl
    generalize enw : (⟨kd, n, most + 1, y.rest⟩ : Pp) = nw at hNw nwok
    -- where it wraps
    refine ⟨fun σ Hx => ∃ wr : Int, 0 < wr ∧ σ = [some (.ref p), some (.ref l), some (.str kd), some (.int n), some (.ref So), some (.int most), some (.ref La), some (.ref Tq), some (.ref Re), y9, some (.ref Nw), some (.int wr), none, none, none, none] ∧ Hx = H11, ?_, fun σ Hx mid => ?_⟩
    · refine ⟨.str kd, rfl, rfl, _, rfl, ite2 (fun _ => ⟨420, by decide, rfl, rfl⟩) fun _ => ⟨9999, by decide, rfl, rfl⟩⟩
    obtain ⟨wr, wr0, rfl, rfl⟩ := mid
    obtain ⟨d0, tl, etl⟩ := List.exists_cons_of_ne_nil yok.ne
    obtain ⟨v0, vr, rfl⟩ : ∃ v0 vr, yr = v0 :: vr := by
      cases yr with
      | nil => exact absurd rfl yrn
      | cons a b => exact ⟨a, b, rfl⟩
    obtain ⟨hv0, hvr⟩ : Dt SA Hx v0 d0 ∧ DtAll SA Hx vr tl := by
      rw [etl] at hyr11
      cases hyr11 with
      | cons a b => exact ⟨a, b⟩
    have yrl' : vr.length + 4 ≤ 5000 := by
      simp only [List.length_cons] at yrl
      omega
    have ld0 : noL d0 = true := by
      have := yok.nol
      rw [etl] at this
      exact (Bool.and_eq_true_iff.mp (show (noL d0 && noLAll tl) = true from this)).1
    -- the unlike one
    refine ⟨fun σ Hz => ∃ (Un : Addr) (v' : V) (d' : PyData), σ = [some (.ref p), some (.ref l), some (.str kd), some (.int n), some (.ref So), some (.int most), some (.ref La), some (.ref Tq), some (.ref Re), y9, some (.ref Nw), some (.int wr), some (.ref Un), none, none, none] ∧ Same Hx Hz ∧ Hz Un = some (.tup (.str kd :: .int n :: .int (most + 1) :: v' :: vr)) ∧ ((v' = .str ("" : Str) ∧ d' = .str ("" : Str)) ∨ ∃ i, v' = .int i ∧ d' = .int i), ?_, fun σ H12 mid => ?_⟩
    · have cs : (∃ j, v0 = .int j) ∨ ∃ (ty : String), TyX K Hx v0 (.type ty) ∧ PySem.W.kitOne K (.type ty) (.type "int") = some false := by
        cases hv0 with
        | non => exact .inr ⟨"NoneType", .base .non, kit_ty (a := "NoneType") (b := "int") (r := false) (by decide +kernel)⟩
        | bl b => simp [noL] at ld0
        | int j => exact .inl ⟨j, rfl⟩
        | str z => exact .inr ⟨"str", .base (.str z), kit_ty (a := "str") (b := "int") (r := false) (by decide +kernel)⟩
        | lst _ _ _ _ => simp [noL] at ld0
        | tup _ e _ _ => exact .inr ⟨"tuple", .base (.tup e), kit_ty (a := "tuple") (b := "int") (r := false) (by decide +kernel)⟩
      refine ⟨.str kd, rfl, .int n, rfl, .int most, rfl, most, 1, rfl, rfl, .ref Re, rfl, Re, _, 0, v0, rfl, rfl, SqT.of eRe11, atI_nat (j := 0) rfl, ?_⟩
      rcases cs with ⟨j, rfl⟩ | ⟨ty, hty, hk⟩
      · refine ⟨.int j, .ty "int", _, _, _, rfl, .ty _, .base (.int j), kit_ty (a := "int") (b := "int") (r := true) (by decide +kernel), true, rfl, iteT ?_⟩
        refine ⟨.ref Re, rfl, Re, _, 0, .int j, rfl, rfl, SqT.of eRe11, atI_nat (j := 0) rfl, .int wr, rfl, j, wr, rfl, rfl, wr0, _, 1, rfl, rfl, ?_⟩
        dsimp only
        refine ⟨by show 4 ≤ sizeLine; decide, fun A2 nA2 => ?_⟩
        have sA2 := same_upd (o := .tup [V.str kd, .int n, .int (most + 1), V.int (j % wr + 1)]) nA2
        have eA2 : (upd Hx A2 (.tup [V.str kd, .int n, .int (most + 1), V.int (j % wr + 1)])) A2 = some (.tup [V.str kd, .int n, .int (most + 1), V.int (j % wr + 1)]) := upd_same
        have nA0 : ([V.str kd, .int n, .int (most + 1), V.int (j % wr + 1)] : List V) ≠ [] := List.cons_ne_nil _ _
        generalize upd Hx A2 (.tup [V.str kd, .int n, .int (most + 1), V.int (j % wr + 1)]) = H12 at sA2 eA2 ⊢
        refine ⟨.ref Re, rfl, 1, rfl, Re, _, rfl, SqT.of (sA2 _ _ eRe11), ?_, fun B2 nB2 => ?_⟩
        · rw [show (some (1 : Int)) = some ((1 : Nat) : Int) from rfl, HT.sIx_nat]
          simp only [List.length_cons]
          omega
        rw [show cutV (V.int j :: vr) (some 1) none = vr from cut_dropH _ 1]
        have sB2 := same_upd (o := .tup vr) nB2
        have eB2 : (upd H12 B2 (.tup vr)) B2 = some (.tup vr) := upd_same
        have eA3 := sB2 _ _ eA2
        have sAB2 := sA2.trans sB2
        generalize upd H12 B2 (.tup vr) = H13 at sB2 eB2 eA3 sAB2 ⊢
        refine ⟨A2, B2, _, _, rfl, rfl, SqT.of eA3, SqT.of eB2, nA0, by show 4 + vr.length ≤ sizeLine; exact Nat.le_of_lt (small5000 (by omega)), fun z => ?_, fun _ Un nUn => ?_⟩
        · subst z
          exact ⟨A2, V.int (j % wr + 1), PyData.int (j % wr + 1), rfl, sAB2, eA3, .inr ⟨_, rfl, rfl⟩⟩
        · exact ⟨Un, V.int (j % wr + 1), PyData.int (j % wr + 1), rfl, sAB2.trans (same_upd nUn), upd_same, .inr ⟨_, rfl, rfl⟩⟩
      · refine ⟨v0, .ty "int", _, _, _, rfl, .ty _, hty, hk, false, rfl, iteF ?_⟩
        refine ⟨by show 4 ≤ sizeLine; decide, fun A2 nA2 => ?_⟩
        have sA2 := same_upd (o := .tup [V.str kd, .int n, .int (most + 1), V.str ("" : Str)]) nA2
        have eA2 : (upd Hx A2 (.tup [V.str kd, .int n, .int (most + 1), V.str ("" : Str)])) A2 = some (.tup [V.str kd, .int n, .int (most + 1), V.str ("" : Str)]) := upd_same
        have nA0 : ([V.str kd, .int n, .int (most + 1), V.str ("" : Str)] : List V) ≠ [] := List.cons_ne_nil _ _
        generalize upd Hx A2 (.tup [V.str kd, .int n, .int (most + 1), V.str ("" : Str)]) = H12 at sA2 eA2 ⊢
        refine ⟨.ref Re, rfl, 1, rfl, Re, _, rfl, SqT.of (sA2 _ _ eRe11), ?_, fun B2 nB2 => ?_⟩
        · rw [show (some (1 : Int)) = some ((1 : Nat) : Int) from rfl, HT.sIx_nat]
          simp only [List.length_cons]
          omega
        rw [show cutV (v0 :: vr) (some 1) none = vr from cut_dropH _ 1]
        have sB2 := same_upd (o := .tup vr) nB2
        have eB2 : (upd H12 B2 (.tup vr)) B2 = some (.tup vr) := upd_same
        have eA3 := sB2 _ _ eA2
        have sAB2 := sA2.trans sB2
        generalize upd H12 B2 (.tup vr) = H13 at sB2 eB2 eA3 sAB2 ⊢
        refine ⟨A2, B2, _, _, rfl, rfl, SqT.of eA3, SqT.of eB2, nA0, by show 4 + vr.length ≤ sizeLine; exact Nat.le_of_lt (small5000 (by omega)), fun z => ?_, fun _ Un nUn => ?_⟩
        · subst z
          exact ⟨A2, V.str ("" : Str), PyData.str ("" : Str), rfl, sAB2, eA3, .inl ⟨rfl, rfl⟩⟩
        · exact ⟨Un, V.str ("" : Str), PyData.str ("" : Str), rfl, sAB2.trans (same_upd nUn), upd_same, .inl ⟨rfl, rfl⟩⟩
    obtain ⟨Un, v', d', rfl, s12, eUn, cs⟩ := mid
    have hv' : Dt SA H12 v' d' := by
      rcases cs with ⟨rfl, rfl⟩ | ⟨i, rfl, rfl⟩
      · exact .str _
      · exact .int _
    have hUn : Dt SA H12 (.ref Un) (ppD ⟨kd, n, most + 1, d' :: tl⟩) := .tup trivial eUn (by simp only [List.length_cons]; omega) (.cons (.str _) (.cons (.int _) (.cons (.int _) (.cons hv' (hvr.same s12)))))
    have unok : PwOk ⟨kd, n, most + 1, d' :: tl⟩ := pw_hd yok hkd etl (by
      rcases cs with ⟨_, rfl⟩ | ⟨i, _, rfl⟩
      · exact .inl rfl
      · exact .inr ⟨i, rfl⟩)
    generalize eun : (⟨kd, n, most + 1, d' :: tl⟩ : Pp) = un at hUn unok
    have s912 := s911.trans s12
    have eRe12 := s12 _ _ eRe11
    have hNw12 := hNw.same s12
    -- the last one
    refine ⟨.str kd, rfl, .int n, rfl, .int most, rfl, most, 2, rfl, rfl, by show 3 ≤ sizeLine; decide, fun A3 nA3 => ?_⟩
    dsimp only
    have sA3 := same_upd (o := .tup [V.str kd, .int n, .int (most + 2)]) nA3
    have eA3 : (upd H12 A3 (.tup [V.str kd, .int n, .int (most + 2)])) A3 = some (.tup [V.str kd, .int n, .int (most + 2)]) := upd_same
    generalize upd H12 A3 (.tup [V.str kd, .int n, .int (most + 2)]) = H13 at sA3 eA3 ⊢
    refine ⟨.ref Re, rfl, A3, Re, _, _, rfl, rfl, SqT.of eA3, SqT.of (sA3 _ _ eRe12), List.cons_ne_nil _ _, by show 3 + (v0 :: vr).length ≤ sizeLine; exact Nat.le_of_lt (small5000 (by omega)), fun z => absurd z yrn, fun _ Ls nLs => ?_⟩
    have sL := same_upd (o := .tup ([V.str kd, .int n, .int (most + 2)] ++ (v0 :: vr))) nLs
    have s1214 := sA3.trans sL
    have hLs : Dt SA (upd H13 Ls (.tup ([V.str kd, .int n, .int (most + 2)] ++ (v0 :: vr)))) (.ref Ls) (ppD ⟨kd, n, most + 2, y.rest⟩) := .tup trivial upd_same (by simp only [List.length_append, List.length_cons, List.length_nil]; omega) (.cons (.str _) (.cons (.int _) (.cons (.int _) (hyr9.same (s912.trans s1214)))))
    have eUn14 := s1214 _ _ eUn
    have hUn14 := hUn.same s1214
    have hNw14 := hNw12.same s1214
    have s914 := s912.trans s1214
    generalize upd H13 Ls (.tup ([V.str kd, .int n, .int (most + 2)] ++ (v0 :: vr))) = H14 at sL s1214 hLs eUn14 hUn14 hNw14 s914 ⊢
    have lsok : PwOk ⟨kd, n, most + 2, y.rest⟩ := yok.mk' hkd rfl
    generalize els : (⟨kd, n, most + 2, y.rest⟩ : Pp) = ls at hLs lsok
    have e814 := ext_same e89 s914
    have hT14 := tabC_same hT9 s914
    have el14 := ExtN.lst e814 el8
    have hx14 := DtAll.ext e814 hx8
    have hTq14 := Dt.ext e814 hTq8
    have knw : ppK nw = kdn kd n := by rw [← enw]; rfl
    have kun : ppK un = kdn kd n := by rw [← eun]; rfl
    have kls : ppK ls = kdn kd n := by rw [← els]; rfl
    have dnw : nw.ed = most + 1 := by rw [← enw]
    have dun : un.ed = most + 1 := by rw [← eun]
    have dls : ls.ed = most + 2 := by rw [← els]
    have q14 : ∀ H', LamX.ExtN H14 H' → TabC T H' → Q (.bl true) H' := fun H' e t => q8 H' (e814.trans e) t
    -- the two rows
    refine ⟨.ref l, rfl, .ref Nw, rfl, by show 1 ≤ sizeLine; decide, fun X1 nX1 => ?_⟩
    have sX := same_upd (o := .lst [V.ref Nw]) nX1
    have eX : (upd H14 X1 (.lst [V.ref Nw])) X1 = some (.lst [V.ref Nw]) := upd_same
    generalize upd H14 X1 (.lst [V.ref Nw]) = H15 at sX eX ⊢
    refine ⟨l, X1, _, _, rfl, rfl, sX _ _ el14, eX, Nat.le_of_lt (small5000 (by simp only [List.length_cons, List.length_nil]; omega)), fun R1 nR1 => ?_⟩
    have sR := same_upd (o := .lst (xs ++ [V.ref Nw])) nR1
    have eR1 : (upd H15 R1 (.lst (xs ++ [V.ref Nw]))) R1 = some (.lst (xs ++ [V.ref Nw])) := upd_same
    have s1416 := sX.trans sR
    generalize upd H15 R1 (.lst (xs ++ [V.ref Nw])) = H16 at sR eR1 s1416 ⊢
    refine ⟨.ref Nw, rfl, by show 1 ≤ sizeLine; decide, fun X2 nX2 => ?_⟩
    have sX2 := same_upd (o := .lst [V.ref Nw]) nX2
    have eX2 : (upd H16 X2 (.lst [V.ref Nw])) X2 = some (.lst [V.ref Nw]) := upd_same
    generalize upd H16 X2 (.lst [V.ref Nw]) = H17 at sX2 eX2 ⊢
    refine ⟨.ref l, rfl, X2, l, _, _, rfl, rfl, eX2, (s1416.trans sX2) _ _ el14, Nat.le_of_lt (small5000 (by simp only [List.length_cons, List.length_nil]; omega)), fun R2 nR2 => ?_⟩
    have sR2 := same_upd (o := .lst ([V.ref Nw] ++ xs)) nR2
    have eR2 : (upd H17 R2 (.lst ([V.ref Nw] ++ xs))) R2 = some (.lst ([V.ref Nw] ++ xs)) := upd_same
    have eR1' := (sX2.trans sR2) _ _ eR1
    have s1418 := (s1416.trans sX2).trans sR2
    generalize upd H17 R2 (.lst ([V.ref Nw] ++ xs)) = H18 at sR2 eR2 eR1' s1418 ⊢
    refine ⟨by show 2 ≤ sizeLine; decide, fun W nW => ⟨W, rfl, ⟨_, SqT.of upd_same⟩, ?_⟩⟩
    have sW := same_upd (o := .tup [V.ref R1, .ref R2]) nW
    have eW : (upd H18 W (.tup [V.ref R1, .ref R2])) W = some (.tup [V.ref R1, .ref R2]) := upd_same
    have eR1w := sW _ _ eR1'
    have eR2w := sW _ _ eR2
    have s1419 := s1418.trans sW
    generalize upd H18 W (.tup [V.ref R1, .ref R2]) = H19 at sW eW eR1w eR2w s1419 ⊢
    have hx19 := hx14.same s1419
    have hNw19 := hNw14.same s1419
    have hTq19 := hTq14.same s1419
    have hT19 := tabC_same hT14 s1419
    have rows : ∀ v ∈ [V.ref R1, V.ref R2], ∃ (R : Addr) (vs : List V) (qs : List Pp), v = .ref R ∧ H19 R = some (.lst vs) ∧ DtAll SA H19 vs (qs.map ppD) ∧ (∀ x, x ∈ qs ↔ x ∈ ps ∨ x ∈ [nw]) ∧ qs.length ≤ 200 := fun v hv => by
      simp only [List.mem_cons, List.not_mem_nil, or_false] at hv
      rcases hv with e | e
      · exact ⟨R1, _, ps ++ [nw], e, eR1w, by rw [List.map_append]; exact dtAll_snocA hx19 hNw19, fun x => mem_app1, by rw [List.length_append]; simp only [List.length_cons, List.length_nil]; omega⟩
      · exact ⟨R2, _, [nw] ++ ps, e, eR2w, .cons hNw19 hx19, fun x => mem_app2, by rw [List.length_append]; simp only [List.length_cons, List.length_nil]; omega⟩
    have below : ∀ y ∈ ps, ppK y = kdn kd n → y.ed < most + 1 := fun y hy e => by have := top y hy e; omega
    have nwSh : SeqAt.shaped (.list [ppD nw]) = true := shaped_pps (ps := [nw]) fun x hx => by rw [List.mem_singleton.mp hx]; exact nwok.ok
    refine for_it (walk_tup (xs := [V.ref R1, V.ref R2])) (fun i σ Hx => ∃ y14 : Option V, σ = [some (.ref p), some (.ref l), some (.str kd), some (.int n), some (.ref So), some (.int most), some (.ref La), some (.ref Tq), some (.ref Re), y9, some (.ref Nw), some (.int wr), some (.ref Un), some (.ref Ls), y14, none] ∧ LamX.ExtN H19 Hx ∧ TabC T Hx)
      ⟨none, rfl, .of fun _ _ z => z, hT19⟩ (fun i σ Hx _ hp => ?_) (fun i v σ Hx₀ Hy hi hp' yy => ?_) (fun σ Hy hp' => ?_)
    · obtain ⟨_, _, e, _⟩ := hp
      exact SqT.of (ExtN.tup e eW)
    · obtain ⟨rfl, ex⟩ := yy
      obtain ⟨y14, rfl, ey, hTy⟩ := hp'
      obtain ⟨R, vs, qs, rfl, eR, hvs, hqs, ql⟩ := rows v (List.mem_of_getElem? ex)
      have qok : ∀ x ∈ qs, PwOk x := fun x hx => ((hqs x).mp hx).elim (hps x) fun z => by rw [List.mem_singleton.mp z]; exact nwok
      have tnw : ∀ x, x ∈ newK qs kd n ↔ x = nw := fun x => by
        rw [show newK qs kd n = grtL (ofK qs (kdn kd n)) from rfl, top_iff hqs (m := most + 1) (fun e he => by rw [List.mem_singleton.mp he]; exact ⟨knw, Int.le_of_eq dnw⟩) below ⟨nw, List.mem_singleton.mpr rfl, dnw⟩]
        exact ⟨fun h => List.mem_singleton.mp h.1, fun h => by rw [h]; exact ⟨List.mem_singleton.mpr rfl, dnw⟩⟩
      obtain ⟨st1, cl1⟩ := std_one qok hkd tnw
      have ag : ∀ k, k ≠ kdn kd n → AgK qs ps k := fun k c => ag_other hqs (fun e he => by rw [List.mem_singleton.mp he]; exact knw) c
      refine ⟨.ref R, rfl, .str kd, rfl, .int n, rfl, R, kd, n, vs, qs, rfl, ExtN.lst ey eR, DtAll.ext ey hvs, qok, by omega, fun H20 r20 s20 hr20 => ?_⟩
      rw [st1] at hr20
      refine ⟨.ref Nw, rfl, by show 1 ≤ sizeLine; decide, fun B nB => ?_⟩
      have sB := same_upd (o := .lst [V.ref Nw]) nB
      have ey21 := ext_same ey (s20.trans sB)
      have hT21 := tabC_same hTy (s20.trans sB)
      have eB : (upd H20 B (.lst [V.ref Nw])) B = some (.lst [V.ref Nw]) := upd_same
      have hr21 := hr20.same sB
      generalize upd H20 B (.lst [V.ref Nw]) = H21 at sB ey21 hT21 eB hr21 ⊢
      refine ⟨_, .list [ppD nw], hr21.dp, .lst (SqL.of eB) (.cons (Dt.ext ey21 hNw19).dp .nil), nwSh, nwSh, _, rfl, ?_⟩
      rw [show (!PyData.eqv (.list ([nw].map ppD)) (.list [ppD nw])) = false from ne_self (shaped_lay nwSh)]
      refine iteF ⟨.str kd, rfl, .int n, rfl, by show 2 ≤ sizeLine; decide, fun u1 nu1 => ?_⟩
      have su := same_upd (o := .tup [V.str kd, .int n]) nu1
      have eu1 : (upd H21 u1 (.tup [V.str kd, .int n])) u1 = some (.tup [V.str kd, .int n]) := upd_same
      have ey22 := ext_same ey21 su
      have hT22 := tabC_same hT21 su
      generalize upd H21 u1 (.tup [V.str kd, .int n]) = H22 at su eu1 ey22 hT22 ⊢
      refine ⟨.ref R, rfl, R, _, rfl, .inl (SqL.of (ExtN.lst ey22 eR)), fun D nD => ?_⟩
      have sD := same_upd (o := .lst vs) nD
      have eD : (upd H22 D (.lst vs)) D = some (.lst vs) := upd_same
      have eu2 := sD _ _ eu1
      have ey23 := ext_same ey22 sD
      have hT23 := tabC_same hT22 sD
      generalize upd H22 D (.lst vs) = H23 at sD eD eu2 ey23 hT23 ⊢
      refine ⟨D, vs, qs, rfl, eD, DtAll.ext ey23 hvs, fun x hx => ⟨(qok x hx).ok, (qok x hx).kd⟩, by omega, hT23, fun H24 r24 zs24 e24 hT24 nr24 er24 hz24 => ?_⟩
      rw [clash_all fun x hx => (qok x hx).kd] at hz24
      have hcs : ∀ p ∈ clsTo qs KINDS_L, PyData.strOk p.1 = true := fun p hp => cls_ok (fun _ h => h) hp
      refine ⟨keyE (kd, n), (clsTo qs KINDS_L).map keyE, .tup (SqT.of (ExtN.tup e24 eu2)) (.cons (.str _) (.cons (.int _) .nil)), .lst (SqL.of er24) (dpAll_ky hz24), key_shaped _ (kd_ok hkd), shaped_ky hcs, _, rfl, ?_⟩
      rw [key_any, decide_eq_false cl1]
      refine iteF ?_
      have ey24 := ey23.trans e24
      refine ⟨.ref R, rfl, R, _, qs, rfl, ExtN.lst ey24 eR, DtAll.ext ey24 hvs, qok, by omega, hT24, fun H25 r25 e25 hT25 hr25 => ?_⟩
      refine ⟨.str kd, rfl, .int n, rfl, r25, kd, n, qs, rfl, hr25, qok, hkd, by omega, fun H26 r26 s26 hr26 => ?_⟩
      have ey26 := ext_same (ey24.trans e25) s26
      refine ⟨.ref Tq, rfl, .str kd, rfl, .int n, rfl, Tq, kd, n, ps, rfl, Dt.ext ey26 hTq19, hps, hkd, by omega, fun H27 r27 s27 hr27 => ?_⟩
      rw [oth_ag qok hps ag] at hr26
      refine ⟨_, _, (hr26.same s27).dp, hr27.dp, oth_shaped hps kd n, oth_shaped hps kd n, _, rfl, ?_⟩
      rw [ne_self (shaped_lay (oth_shaped hps kd n))]
      exact iteF ⟨some (.ref R), rfl, ext_same ey26 s27, tabC_same hT25 (s26.trans s27)⟩
    obtain ⟨y14, rfl, ey, hTy⟩ := hp'
    have e14y := (LamX.ExtN.of s1419).trans ey
    have qy : ∀ H', LamX.ExtN Hy H' → TabC T H' → Q (.bl true) H' := fun H' e t => q14 H' (e14y.trans e) t
    have hUny := Dt.ext e14y hUn14
    have hNwy := Dt.ext e14y hNw14
    have hLsy := Dt.ext e14y hLs
    have hxy := DtAll.ext e14y hx14
    have ely := ExtN.lst e14y el14
    have eUny := ExtN.tup e14y eUn14
    refine ⟨.ref Un, rfl, .ref Nw, rfl, ppD un, ppD nw, hUny.dp, hNwy.dp, shaped_pp unok.ok, shaped_pp nwok.ok, _, rfl, ite2 (fun _ => qy _ (.of fun _ _ z => z) hTy) fun c => ?_⟩
    have une : un ≠ nw := fun z => c ((pp_eqv unok nwok).mpr z)
    refine ⟨.ref Un, rfl, Un, _, 3, v', rfl, rfl, SqT.of eUny, atI_nat (j := 3) rfl, ?_⟩
    rcases cs with ⟨rfl, _⟩ | ⟨i0, rfl, _⟩
    · exact ⟨.str ("" : Str), .ty "str", _, _, _, rfl, .ty _, .base (.str _), kit_ty (a := "str") (b := "str") (r := true) (by decide +kernel), true, rfl, iteT (qy _ (.of fun _ _ z => z) hTy)⟩
    refine ⟨.int i0, .ty "str", _, _, _, rfl, .ty _, .base (.int _), kit_ty (a := "int") (b := "str") (r := false) (by decide +kernel), false, rfl, iteF ?_⟩
    -- two unlike ones
    refine ⟨.ref Un, rfl, by show 1 ≤ sizeLine; decide, fun X3 nX3 => ?_⟩
    have sX3 := same_upd (o := .lst [V.ref Un]) nX3
    have eX3 : (upd Hy X3 (.lst [V.ref Un])) X3 = some (.lst [V.ref Un]) := upd_same
    generalize upd Hy X3 (.lst [V.ref Un]) = H20 at sX3 eX3 ⊢
    refine ⟨.ref l, rfl, X3, l, _, _, rfl, rfl, eX3, sX3 _ _ ely, Nat.le_of_lt (small5000 (by simp only [List.length_cons, List.length_nil]; omega)), fun R3 nR3 => ?_⟩
    have sR3 := same_upd (o := .lst ([V.ref Un] ++ xs)) nR3
    have eR3 : (upd H20 R3 (.lst ([V.ref Un] ++ xs))) R3 = some (.lst ([V.ref Un] ++ xs)) := upd_same
    have sy21 := sX3.trans sR3
    generalize upd H20 R3 (.lst ([V.ref Un] ++ xs)) = H21 at sR3 eR3 sy21 ⊢
    refine ⟨.ref Nw, rfl, by show 1 ≤ sizeLine; decide, fun X4 nX4 => ?_⟩
    have sX4 := same_upd (o := .lst [V.ref Nw]) nX4
    have eX4 : (upd H21 X4 (.lst [V.ref Nw])) X4 = some (.lst [V.ref Nw]) := upd_same
    have eR3' := sX4 _ _ eR3
    have sy22 := sy21.trans sX4
    generalize upd H21 X4 (.lst [V.ref Nw]) = H22 at sX4 eX4 eR3' sy22 ⊢
    refine ⟨R3, X4, _, _, rfl, rfl, eR3', eX4, Nat.le_of_lt (small5000 (by simp only [List.length_append, List.length_cons, List.length_nil]; omega)), fun R4 nR4 => ?_⟩
    have sR4 := same_upd (o := .lst ([V.ref Un] ++ xs ++ [V.ref Nw])) nR4
    have eR4 : (upd H22 R4 (.lst ([V.ref Un] ++ xs ++ [V.ref Nw]))) R4 = some (.lst ([V.ref Un] ++ xs ++ [V.ref Nw])) := upd_same
    have sy23 := sy22.trans sR4
    generalize upd H22 R4 (.lst ([V.ref Un] ++ xs ++ [V.ref Nw])) = H23 at sR4 eR4 sy23 ⊢
    have ey23 : LamX.ExtN Hy H23 := .of sy23
    have hT23 := tabC_same hTy sy23
    obtain ⟨qs, eqs⟩ : ∃ qs, qs = [un] ++ ps ++ [nw] := ⟨_, rfl⟩
    have hvs : DtAll SA H23 ([V.ref Un] ++ xs ++ [V.ref Nw]) (qs.map ppD) := by
      rw [eqs, List.map_append]
      exact dtAll_snocA (.cons (hUny.same sy23) (hxy.same sy23)) (hNwy.same sy23)
    have hqs : ∀ x, x ∈ qs ↔ x ∈ ps ∨ x ∈ [un, nw] := fun x => by
      rw [eqs]
      simp only [List.mem_append, List.mem_cons, List.not_mem_nil, or_false]
      constructor
      · rintro ((h | h) | h)
        · exact .inr (.inl h)
        · exact .inl h
        · exact .inr (.inr h)
      · rintro (h | h | h)
        · exact .inl (.inr h)
        · exact .inl (.inl h)
        · exact .inr h
    have ql : qs.length ≤ 200 := by rw [eqs]; simp only [List.length_append, List.length_cons, List.length_nil]; omega
    have qok : ∀ x ∈ qs, PwOk x := fun x hx => ((hqs x).mp hx).elim (hps x) fun z => by
      simp only [List.mem_cons, List.not_mem_nil, or_false] at z
      rcases z with rfl | rfl
      · exact unok
      · exact nwok
    have es2 : ∀ e ∈ [un, nw], ppK e = kdn kd n ∧ e.ed = most + 1 := fun e he => by
      simp only [List.mem_cons, List.not_mem_nil, or_false] at he
      rcases he with rfl | rfl
      · exact ⟨kun, dun⟩
      · exact ⟨knw, dnw⟩
    have t2 := top_iff (rs := qs) hqs (m := most + 1) (fun e he => ⟨(es2 e he).1, Int.le_of_eq (es2 e he).2⟩) below ⟨nw, List.mem_cons_of_mem _ (List.mem_singleton.mpr rfl), dnw⟩
    obtain ⟨st2, cl2⟩ := std_two qok hkd (u := un) (v := nw) (n := n) ((t2 un).mpr ⟨List.mem_cons_self, dun⟩) ((t2 nw).mpr ⟨List.mem_cons_of_mem _ (List.mem_singleton.mpr rfl), dnw⟩) une
    refine ⟨.ref R4, rfl, .str kd, rfl, .int n, rfl, R4, kd, n, _, qs, rfl, eR4, hvs, qok, by omega, fun H24 r24 s24 hr24 => ?_⟩
    rw [st2] at hr24
    refine ⟨by show 0 ≤ sizeLine; decide, fun B nB => ?_⟩
    have sB := same_upd (o := .lst []) nB
    have eB : (upd H24 B (.lst [])) B = some (.lst []) := upd_same
    have s2325 := s24.trans sB
    have hr25 := hr24.same sB
    generalize upd H24 B (.lst []) = H25 at sB eB s2325 hr25 ⊢
    refine ⟨_, .list [], hr25.dp, .lst (SqL.of eB) .nil, by decide +kernel, by decide +kernel, _, rfl, ?_⟩
    rw [show (!PyData.eqv (.list (([] : List Pp).map ppD)) (.list [])) = false from rfl]
    refine iteF ⟨.str kd, rfl, .int n, rfl, by show 2 ≤ sizeLine; decide, fun u1 nu1 => ?_⟩
    have su := same_upd (o := .tup [V.str kd, .int n]) nu1
    have eu1 : (upd H25 u1 (.tup [V.str kd, .int n])) u1 = some (.tup [V.str kd, .int n]) := upd_same
    have s2326 := s2325.trans su
    generalize upd H25 u1 (.tup [V.str kd, .int n]) = H26 at su eu1 s2326 ⊢
    refine ⟨.ref R4, rfl, R4, _, rfl, .inl (SqL.of (s2326 _ _ eR4)), fun D nD => ?_⟩
    have sD := same_upd (o := .lst ([V.ref Un] ++ xs ++ [V.ref Nw])) nD
    have eD : (upd H26 D (.lst ([V.ref Un] ++ xs ++ [V.ref Nw]))) D = some (.lst ([V.ref Un] ++ xs ++ [V.ref Nw])) := upd_same
    have eu2 := sD _ _ eu1
    have s2327 := s2326.trans sD
    generalize upd H26 D (.lst ([V.ref Un] ++ xs ++ [V.ref Nw])) = H27 at sD eD eu2 s2327 ⊢
    refine ⟨D, _, qs, rfl, eD, hvs.same s2327, fun x hx => ⟨(qok x hx).ok, (qok x hx).kd⟩, by omega, tabC_same hT23 s2327, fun H28 r28 zs28 e28 hT28 nr28 er28 hz28 => ?_⟩
    rw [clash_all fun x hx => (qok x hx).kd] at hz28
    have hcs : ∀ p ∈ clsTo qs KINDS_L, PyData.strOk p.1 = true := fun p hp => cls_ok (fun _ h => h) hp
    refine ⟨keyE (kd, n), (clsTo qs KINDS_L).map keyE, .tup (SqT.of (ExtN.tup e28 eu2)) (.cons (.str _) (.cons (.int _) .nil)), .lst (SqL.of er28) (dpAll_ky hz28), key_shaped _ (kd_ok hkd), shaped_ky hcs, _, rfl, ?_⟩
    rw [key_any, decide_eq_true cl2]
    refine iteF ?_
    have e2328 := (LamX.ExtN.of s2327).trans e28
    have ey28 := ey23.trans e2328
    have hLs28 := Dt.ext ey28 hLsy
    have eR428 := ExtN.lst e2328 eR4
    have hvs28 := DtAll.ext e2328 hvs
    refine ⟨.ref Ls, rfl, by show 1 ≤ sizeLine; decide, fun X5 nX5 => ?_⟩
    have sX5 := same_upd (o := .lst [V.ref Ls]) nX5
    have eX5 : (upd H28 X5 (.lst [V.ref Ls])) X5 = some (.lst [V.ref Ls]) := upd_same
    generalize upd H28 X5 (.lst [V.ref Ls]) = H29 at sX5 eX5 ⊢
    refine ⟨.ref R4, rfl, X5, R4, _, _, rfl, rfl, eX5, sX5 _ _ eR428, Nat.le_of_lt (small5000 (by simp only [List.length_append, List.length_cons, List.length_nil]; omega)), fun R5 nR5 => ?_⟩
    have sR5 := same_upd (o := .lst ([V.ref Ls] ++ ([V.ref Un] ++ xs ++ [V.ref Nw]))) nR5
    have eR5 : (upd H29 R5 (.lst ([V.ref Ls] ++ ([V.ref Un] ++ xs ++ [V.ref Nw])))) R5 = some (.lst ([V.ref Ls] ++ ([V.ref Un] ++ xs ++ [V.ref Nw]))) := upd_same
    have s2830 := sX5.trans sR5
    generalize upd H29 R5 (.lst ([V.ref Ls] ++ ([V.ref Un] ++ xs ++ [V.ref Nw]))) = H30 at sR5 eR5 s2830 ⊢
    have hT30 := tabC_same hT28 s2830
    have hq1 : ∀ x, x ∈ [ls] ++ qs ↔ x ∈ ps ∨ x ∈ [un, nw, ls] := fun x => by
      rw [List.mem_append, hqs]
      simp only [List.mem_cons, List.not_mem_nil, or_false]
      constructor
      · rintro (h | h | h | h)
        · exact .inr (.inr (.inr h))
        · exact .inl h
        · exact .inr (.inl h)
        · exact .inr (.inr (.inl h))
      · rintro (h | h | h | h)
        · exact .inr (.inl h)
        · exact .inr (.inr (.inl h))
        · exact .inr (.inr (.inr h))
        · exact .inl h
    have qok1 : ∀ x ∈ [ls] ++ qs, PwOk x := fun x hx => (List.mem_append.mp hx).elim (fun z => by rw [List.mem_singleton.mp z]; exact lsok) (qok x)
    have qok2 : ∀ x ∈ qs ++ [ls], PwOk x := fun x hx => (List.mem_append.mp hx).elim (qok x) fun z => by rw [List.mem_singleton.mp z]; exact lsok
    have below2 : ∀ y ∈ ps, ppK y = kdn kd n → y.ed < most + 2 := fun y hy e => by have := top y hy e; omega
    have es3 : ∀ e ∈ [un, nw, ls], ppK e = kdn kd n ∧ e.ed ≤ most + 2 ∧ (e.ed = most + 2 → e = ls) := fun e he => by
      simp only [List.mem_cons, List.not_mem_nil, or_false] at he
      rcases he with rfl | rfl | rfl
      · exact ⟨kun, by omega, fun z => by omega⟩
      · exact ⟨knw, by omega, fun z => by omega⟩
      · exact ⟨kls, by omega, fun _ => rfl⟩
    have lin : ls ∈ [un, nw, ls] := List.mem_cons_of_mem _ (List.mem_cons_of_mem _ (List.mem_singleton.mpr rfl))
    have t3 : ∀ x, x ∈ newK ([ls] ++ qs) kd n ↔ x = ls := fun x => by
      rw [show newK ([ls] ++ qs) kd n = grtL (ofK ([ls] ++ qs) (kdn kd n)) from rfl, top_iff hq1 (m := most + 2) (fun e he => ⟨(es3 e he).1, (es3 e he).2.1⟩) below2 ⟨ls, lin, dls⟩]
      exact ⟨fun h => (es3 x h.1).2.2 h.2, fun h => by rw [h]; exact ⟨lin, dls⟩⟩
    obtain ⟨st3, _⟩ := std_one qok1 hkd t3
    have tsame : toldL (qs ++ [ls]) = toldL ([ls] ++ qs) := told_ag qok2 qok1 fun k => ag_set (fun x => by rw [List.mem_append, List.mem_append, Or.comm]) k
    have lsSh : SeqAt.shaped (.list [ppD ls]) = true := shaped_pps (ps := [ls]) fun x hx => by rw [List.mem_singleton.mp hx]; exact lsok.ok
    refine ⟨.str kd, rfl, .int n, rfl, R5, kd, n, _, [ls] ++ qs, rfl, eR5, .cons (hLs28.same s2830) (hvs28.same s2830), qok1, by rw [List.length_append]; simp only [List.length_cons, List.length_nil]; omega, fun H31 r31 s31 hr31 => ?_⟩
    rw [st3] at hr31
    have s2831 := s2830.trans s31
    refine ⟨.ref Ls, rfl, by show 1 ≤ sizeLine; decide, fun B2 nB2 => ?_⟩
    have sB2 := same_upd (o := .lst [V.ref Ls]) nB2
    have eB2 : (upd H31 B2 (.lst [V.ref Ls])) B2 = some (.lst [V.ref Ls]) := upd_same
    have s2832 := s2831.trans sB2
    have hr32 := hr31.same sB2
    generalize upd H31 B2 (.lst [V.ref Ls]) = H32 at sB2 eB2 s2832 hr32 ⊢
    refine ⟨_, .list [ppD ls], hr32.dp, .lst (SqL.of eB2) (.cons (hLs28.same s2832).dp .nil), lsSh, lsSh, ?_⟩
    rw [show PyData.eqv (.list ([ls].map ppD)) (.list [ppD ls]) = true from SeqAt.eqv_refl _ (shaped_lay lsSh)]
    refine ⟨true, rfl, iteT ?_⟩
    -- told of both orders
    refine ⟨.ref R4, rfl, .ref Ls, rfl, by show 1 ≤ sizeLine; decide, fun X6 nX6 => ?_⟩
    have sX6 := same_upd (o := .lst [V.ref Ls]) nX6
    have eX6 : (upd H32 X6 (.lst [V.ref Ls])) X6 = some (.lst [V.ref Ls]) := upd_same
    have s2833 := s2832.trans sX6
    generalize upd H32 X6 (.lst [V.ref Ls]) = H33 at sX6 eX6 s2833 ⊢
    refine ⟨R4, X6, _, _, rfl, rfl, s2833 _ _ eR428, eX6, Nat.le_of_lt (small5000 (by simp only [List.length_append, List.length_cons, List.length_nil]; omega)), fun R6 nR6 => ?_⟩
    have sR6 := same_upd (o := .lst ([V.ref Un] ++ xs ++ [V.ref Nw] ++ [V.ref Ls])) nR6
    have eR6 : (upd H33 R6 (.lst ([V.ref Un] ++ xs ++ [V.ref Nw] ++ [V.ref Ls]))) R6 = some (.lst ([V.ref Un] ++ xs ++ [V.ref Nw] ++ [V.ref Ls])) := upd_same
    have s2834 := s2833.trans sR6
    generalize upd H33 R6 (.lst ([V.ref Un] ++ xs ++ [V.ref Nw] ++ [V.ref Ls])) = H34 at sR6 eR6 s2834 ⊢
    have hT34 := tabC_same hT28 s2834
    refine ⟨R6, _, qs ++ [ls], rfl, eR6, by rw [List.map_append]; exact dtAll_snocA (hvs28.same s2834) (hLs28.same s2834), qok2, by rw [List.length_append]; simp only [List.length_cons, List.length_nil]; omega, hT34, fun H35 r35 e35 hT35 hr35 => ?_⟩
    have e2835 := (LamX.ExtN.of s2834).trans e35
    refine ⟨.ref Ls, rfl, by show 1 ≤ sizeLine; decide, fun X7 nX7 => ?_⟩
    have sX7 := same_upd (o := .lst [V.ref Ls]) nX7
    have eX7 : (upd H35 X7 (.lst [V.ref Ls])) X7 = some (.lst [V.ref Ls]) := upd_same
    generalize upd H35 X7 (.lst [V.ref Ls]) = H36 at sX7 eX7 ⊢
    refine ⟨.ref R4, rfl, X7, R4, _, _, rfl, rfl, eX7, sX7 _ _ (ExtN.lst e2835 eR428), Nat.le_of_lt (small5000 (by simp only [List.length_append, List.length_cons, List.length_nil]; omega)), fun R7 nR7 => ?_⟩
    have sR7 := same_upd (o := .lst ([V.ref Ls] ++ ([V.ref Un] ++ xs ++ [V.ref Nw]))) nR7
    have eR7 : (upd H36 R7 (.lst ([V.ref Ls] ++ ([V.ref Un] ++ xs ++ [V.ref Nw])))) R7 = some (.lst ([V.ref Ls] ++ ([V.ref Un] ++ xs ++ [V.ref Nw]))) := upd_same
    have s3537 := sX7.trans sR7
    generalize upd H36 R7 (.lst ([V.ref Ls] ++ ([V.ref Un] ++ xs ++ [V.ref Nw]))) = H37 at sR7 eR7 s3537 ⊢
    have e2837 := ext_same e2835 s3537
    refine ⟨R7, _, [ls] ++ qs, rfl, eR7, .cons (Dt.ext e2837 hLs28) (DtAll.ext e2837 hvs28), qok1, by rw [List.length_append]; simp only [List.length_cons, List.length_nil]; omega, tabC_same hT35 s3537, fun H38 r38 e38 hT38 hr38 => ?_⟩
    rw [tsame] at hr35
    have e3538 := (LamX.ExtN.of s3537).trans e38
    refine ⟨_, _, (Dt.ext e3538 hr35).dp, hr38.dp, told_shaped qok1, told_shaped qok1, ?_⟩
    rw [SeqAt.eqv_refl _ (shaped_lay (told_shaped qok1))]
    exact qy _ (ey28.trans (e2837.trans e38)) hT38
end
end Th
namespace Th
open PySem PySem.Spec PyProof.Rows L2
/-! the law: papers as a set -/
theorem Bag.ext {H H' : Hp} {p : Addr} (b : Bag H p) (e : LamX.ExtN H H') : Bag H' p := by
  obtain ⟨g, r, h, a⟩ := b
  exact ⟨g, r, ExtN.lst e h, a⟩
theorem HouseAt.same {H H' : Hp} {h r wl gl ru : Addr} {ways : List (List Nm)} {wags : List (Int × Nm)} {n m2 : Nat} {L S T J : Nat → Nm} (a : HouseAt H h r wl gl ru ways wags n m2 L S T J) (s : Same H H') : HouseAt H' h r wl gl ru ways wags n m2 L S T J := by
  obtain ⟨e, ⟨wa, w1, w2⟩, ⟨ga, g1, g2⟩, ⟨a0, a1, a2, le, ls, r1, r2, r3⟩, c1, c2, c3, c4⟩ := a
  exact ⟨s _ _ e, ⟨wa, s _ _ w1, paired_imp w2 fun _ _ _ z => s _ _ z⟩, ⟨ga, s _ _ g1, paired_imp g2 fun _ _ _ z => s _ _ z⟩, ⟨a0, a1, a2, le, ls, s _ _ r1, s _ _ r2, r3⟩, c1, c2, c3, c4⟩
section
variable {P : Program} {w : World} {K : PySem.W.Frag} {mg : Str → Option Value} {base : Heap} {k : Nat}
def sp_law (T : Defs K mg) : Sp := fun vs H Q _ => ∃ (a : Addr) (ns : List Int), vs = [.ref a] ∧ SqL K H a (ns.map V.int) ∧ ns.length ≤ 63 ∧ TabC T H ∧ ∀ H', Q (.bl true) H'
set_option maxHeartbeats 16000000 in
theorem ok_law {f : Addr} {fd : FuncData} (F : FnP K "law" s_law f fd) (T : Defs K mg) (TB : LamX.TabB base mg T.cc_clashing T.tp_clashing) : FnOk P w K mg base CX0 7 f fd ["_law_script"] (sp_law T) := by
  have G_l_bag : FnOk P w K mg base CX0 6 _ _ _ _ := ok_l_bag (k := 5) T
  have G_l_house : FnOk P w K mg base CX0 6 _ _ _ _ := ok_l_house (k := 2) T
  have G_l_paper : FnOk P w K mg base CX0 6 _ _ _ _ := ok_l_paper (k := 2) T
  have G_l_told : FnOk P w K mg base CX0 6 _ _ _ _ := (ok_l_told T TB).mono (by decide)
  have G_l_turned : FnOk P w K mg base CX0 6 _ _ _ _ := ok_l_turned (k := 4) T
  have G_l_more : FnOk P w K mg base CX0 6 _ _ _ _ := ok_l_more T TB
  refine F.ok sc_law (fun vs H Q E h => ?_) (fun cdv A outer s H vs Q E hr h => ?_)
  · obtain ⟨a, ns, rfl, _⟩ := h
    rfl
  · obtain ⟨a, ns, rfl, hS, hlen, hT, q⟩ := h
    refine ⟨_, PSs.nox
(pss_cons (ps_set (i := 1) sc_law.nd rfl (.inr rfl) (pe_call G_l_house hr (by rfl) T.g_l_house T.F_l_house.kp T.b_l_house .nil pass0 (pa_cons (pe_call G_l_bag hr (by rfl) T.g_l_bag T.F_l_bag.kp T.b_l_bag .nil pass0 (pa_cons (pv 0) (pa_cons (pe_int) pa_nil))) pa_nil)))
    (pss_cons (ps_setLc (i := 2) (own := [("_law_k", 4)]) (g := gName 4) rfl sc_law.nd rfl rfl (sw_true rfl rfl rfl (by decide +kernel)) (pi_range1 (by rfl) T.z_range (pa_cons (pe_callB (call_max2 rfl) (by rfl) T.z_max (by decide +kernel) (pa_cons (pe_int) (pa_cons (pe_callB (call_min2 rfl) (by rfl) T.z_min (by decide +kernel) (pa_cons (pe_int) (pa_cons (pe_op op_sub (pe_callB (r := rLenS K) call_lenS (by rfl) T.z_len (by decide +kernel) (pa_cons (pv 0) pa_nil)) (pe_int)) pa_nil))) pa_nil))) pa_nil)) (blkOk_by (N := N_law) (sc := defScope s_law) (by decide +kernel)) (fun _ _ _ _ _ => (pg_name (i := 4) sc_law.nd rfl (.inl rfl))) (fun _ _ _ _ _ => pts_nil) (fun _ _ _ _ _ => (pe_call G_l_paper hr (by rfl) T.g_l_paper T.F_l_paper.kp T.b_l_paper .nil pass0 (pa_cons (pe_call G_l_bag hr (by rfl) T.g_l_bag T.F_l_bag.kp T.b_l_bag .nil pass0 (pa_cons (pv 0) (pa_cons (pe_op op_add (pe_int) (pv 4)) pa_nil))) (pa_cons (pv 1) pa_nil)))))
    (pss_cons (ps_set (i := 3) sc_law.nd rfl (.inl rfl) (pe_call G_l_told hr (by rfl) T.g_l_told T.F_l_told.kp T.b_l_told .nil pass0 (pa_cons (pv 2) pa_nil)))
    (pss_cons (ps_for PassesOwn.never rfl (pi_range1 (by rfl) T.z_range (pa_cons (pe_int) pa_nil)) (pg_name (i := 4) sc_law.nd rfl (.inl rfl))
      (pss_cons (ps_set (i := 5) sc_law.nd rfl (.inl rfl) (pe_call G_l_bag hr (by rfl) T.g_l_bag T.F_l_bag.kp T.b_l_bag .nil pass0 (pa_cons (pv 0) (pa_cons (pe_op op_add (pe_int) (pv 4)) pa_nil))))
      (pss_one (ps_if (PW.pt (pw_or (pt_cmpR (r := rNeD K) (op_neD hr.units) (pe_call G_l_told hr (by rfl) T.g_l_told T.F_l_told.kp T.b_l_told .nil pass0 (pa_cons (pe_call G_l_turned hr (by rfl) T.g_l_turned T.F_l_turned.kp T.b_l_turned .nil pass0 (pa_cons (pv 5) (pa_cons (pv 2) pa_nil))) pa_nil)) (pv 3) (nomark _)) (pw_or1 (pt_not (pt_truth (pe_call G_l_more hr (by rfl) T.g_l_more T.F_l_more.kp T.b_l_more .nil pass0 (pa_cons (pv 5) (pa_cons (pv 2) pa_nil))) (by intro _; rfl))))))
        (pss_one (ps_ret (pe_bl)))
        pss_nil))))
    (pss_one (ps_ret (pe_bl)))))))
      , ?_⟩
    refine ⟨.ref a, rfl, a, ns, 0, rfl, hS, by decide, fun H1 p s1 np b1 => ⟨p, rfl, b1, fun H2 h r wl gl ru ways wags n m2 kk sd f0 b0 f1 b1' f2 b2' f3 b3' d0 d1 d2 d3 jx tis k2 b2 net hh => ?_⟩⟩
    have s02 := same_via s1 k2 np
    have hT2 := tabC_same hT s02
    have hS2 := sqL_same s02 hS
    have em0 : ∀ lc : Int, lc < 63 → ∃ m : Nat, 10 ≤ m ∧ m < 64 ∧ (if (if lc < 40 then lc else 40) > 10 then (if lc < 40 then lc else 40) else 10) = (m : Int) := fun lc hl => by
      refine ⟨(if (if lc < 40 then lc else 40) > 10 then (if lc < 40 then lc else 40) else 10).toNat, ?_, ?_, ?_⟩
      · split <;> split <;> omega
      · split <;> split <;> omega
      · split <;> split <;> omega
    obtain ⟨m, hm0, hm, em⟩ := em0 (((ns.map V.int).length : Int) - 1) (by rw [List.length_map]; omega)
    refine ⟨.ref a, rfl, a, _, rfl, .inl hS2, _, 1, rfl, rfl, 40, _, rfl, 10, _, rfl, m, by show [V.int _] = _; rw [em], ?_, ?_, fun F nF => ?_⟩
    · exact Int.le_trans (by decide) (Int.natCast_nonneg _)
    · omega
    rw [Int.toNat_natCast]
    refine lc_it (walk_range (lo := 0) (n := m)) (fun j Hy => ∃ (zs : List V) (ps : List Pp), Same H2 Hy ∧ Hy F = some (.lst zs) ∧ DtAll SA Hy zs (ps.map ppD) ∧ (∀ x ∈ ps, PwOk x) ∧ ps.length = j) ⟨[], [], same_upd nF, upd_same, .nil, fun x h => (by cases h), rfl⟩ (fun _ _ _ _ => trivial) (fun j x Hy Hy' hj pv yy => ?_) (fun Hy pv => ?_)
    · obtain ⟨rfl, rfl⟩ := yy
      obtain ⟨zs, ps, sy, eF, hzs, hps, pl⟩ := pv
      have zl : zs.length = j := by rw [hzs.len, List.length_map, pl]
      rw [show (fun i : Nat => V.int (0 + (i : Int))) = fun i : Nat => V.int (i : Int) from funext fun i => by rw [Int.zero_add]]
      refine ⟨rfl, yes_ ⟨.ref a, rfl, .int j, rfl, 1, j, rfl, rfl, a, ns, 1 + j, by show [V.ref a, V.int (1 + (j : Int))] = [V.ref a, V.int ((1 + j : Nat) : Int)]; rw [Int.natCast_add]; rfl, sqL_same sy hS2, by omega, fun H3 p3 s3 np3 b3 => ?_⟩⟩
      have s23 := sy.trans s3
      have hne : ∀ (g : Addr) (xs : List V), H2 g = some (.lst xs) → g ≠ p3 := fun g xs e => ne_of_none (sy _ _ e) np3
      refine ⟨.ref h, rfl, p3, h, r, wl, gl, ru, ways, wags, n, m2, kk, sd, f0, b0, f1, b1', f2, b2', f3, b3', d0, d1, d2, d3, jx, tis, rfl, b3, ?_, ?_, net.tk (.of s23), hh.same s23, fun H4 t x k4 b4 hx hok hkd hnl hre => ?_⟩
      · obtain ⟨wa, e, _⟩ := hh.w; exact hne _ _ e
      · obtain ⟨ga, e, _⟩ := hh.g; exact hne _ _ e
      have s4 := same_via s3 k4 np3
      have eF4 := s4 _ _ eF
      have xok : PwOk x := ⟨hok, hkd, hnl, hre⟩
      have tk : TKF H4 (upd H4 F (.lst (zs ++ [V.ref t]))) := TKF.upd (fun xs e => by rw [eF4] at e; cases e) (fun o xs e => by rw [eF4] at e; cases e)
      refine ⟨zs, eF4, small5000 (by omega), zs ++ [.ref t], ps ++ [x], same_set (sy.trans s4) nF, upd_same, ?_, fun x hx => ?_, by rw [List.length_append, pl]; rfl⟩
      · rw [List.map_append]
        exact dtAll_snocA (DtAll.tkf tk (hzs.same s4) (noL_pps hps)) (Dt.tkf tk hx xok.noL)
      · rcases List.mem_append.mp hx with z | z
        · exact hps x z
        · rw [List.mem_singleton.mp z]; exact xok
    obtain ⟨zs, ps, sy, eF, hzs, hps, pl⟩ := pv
    have pne : ps ≠ [] := fun z => by rw [z] at pl; have : 0 = m := pl; omega
    refine ⟨.ref F, rfl, F, zs, ps, rfl, eF, hzs, hps, by omega, tabC_same hT2 sy, fun H6 Tq e6 hT6 hTq => ?_⟩
    have shT := told_shaped hps
    have tEq := ne_self (shaped_lay shT)
    have hS6 := ExtN.seq ((LamX.ExtN.of sy).trans e6) hS2
    have eF6 := ExtN.lst e6 eF
    have hzs6 := DtAll.ext e6 hzs
    refine ⟨2, rfl, by decide, by decide, ?_⟩
    refine for_range (lo := 0) (n := 2) (fun i σ Hx => ∃ y4 y5 : Option V, σ = [some (.ref a), some (.ref h), some (.ref F), some (.ref Tq), y4, y5] ∧ LamX.ExtN H6 Hx ∧ TabC T Hx)
      ⟨none, none, rfl, .of fun _ _ z => z, hT6⟩ (fun i σ Hx hi hp => ?_) (fun σ Hx hp => ?_)
    · obtain ⟨y4, y5, rfl, ex, hTx⟩ := hp
      rw [Int.zero_add]
      refine ⟨.ref a, rfl, .int i, rfl, 50, i, rfl, rfl, a, ns, 50 + i, by show [V.ref a, V.int (50 + (i : Int))] = [V.ref a, V.int ((50 + i : Nat) : Int)]; rw [Int.natCast_add]; rfl, ExtN.seq ex hS6, by omega, fun H7 p7 s7 np7 b7 => ?_⟩
      have e67 := ext_same ex s7
      have nFp : F ≠ p7 := ne_of_none (ExtN.lst ex eF6) np7
      refine ⟨.ref p7, rfl, .ref F, rfl, p7, F, zs, ps, rfl, b7, nFp, ExtN.lst e67 eF6, DtAll.ext e67 hzs6, hps, pne, by omega, fun H8 F8 zs8 qs k8 b8 eF8 hzs8 hq hql => ?_⟩
      have sx8 := same_via s7 k8 np7
      have hT8 := tabC_same hTx sx8
      have qok : ∀ x ∈ qs, PwOk x := fun x hx => hps x ((hq x).mp hx)
      have tq : toldL qs = toldL ps := told_ag qok hps fun k => ag_set hq k
      refine ⟨F8, zs8, qs, rfl, eF8, hzs8, qok, by omega, hT8, fun H9 r9 e9 hT9 hr9 => ?_⟩
      rw [tq] at hr9
      have ex9 : LamX.ExtN Hx H9 := (LamX.ExtN.of sx8).trans e9
      have e69 := ex.trans ex9
      refine ⟨.ref Tq, rfl, _, _, hr9.dp, (Dt.ext e69 hTq).dp, shT, shT, _, rfl, ?_⟩
      rw [tEq]
      refine iteF ⟨.ref p7, rfl, .ref F, rfl, p7, F, zs, ps, rfl, Bag.ext b8 e9, nFp, ExtN.lst e69 eF6, DtAll.ext e69 hzs6, hps, pne, by omega, hT9, fun H10 H11 k10 e11 hT11 => ⟨true, rfl, iteF ⟨_, _, rfl, ex.trans ((ext_keep ex9 k10 np7).trans e11), hT11⟩⟩⟩
    · obtain ⟨y4, y5, rfl, ex, hTx⟩ := hp
      exact q _
end
end Th
namespace Th
open PySem PySem.Spec PyProof.Rows L2
def dd_newest_papers : He.DefD := ⟨("newest_papers", none), "newest_papers", "newest_papers", defArgs s_newest_papers, defBody s_newest_papers, defScope s_newest_papers, [], []⟩
def dd_standing : He.DefD := ⟨("standing", none), "standing", "standing", defArgs s_standing, defBody s_standing, defScope s_standing, [], []⟩
def dd_clashing : He.DefD := ⟨("clashing", none), "clashing", "clashing", defArgs s_clashing, defBody s_clashing, defScope s_clashing, [], []⟩
def dd_l_bag : He.DefD := ⟨("_law_bag", none), "_law_bag", "_law_bag", defArgs s_l_bag, defBody s_l_bag, defScope s_l_bag, [], []⟩
def dd_l_take : He.DefD := ⟨("_law_take", none), "_law_take", "_law_take", defArgs s_l_take, defBody s_l_take, defScope s_l_take, [], []⟩
def dd_l_names : He.DefD := ⟨("_law_names", none), "_law_names", "_law_names", defArgs s_l_names, defBody s_l_names, defScope s_l_names, [], []⟩
def dd_l_net : He.DefD := ⟨("_law_net", none), "_law_net", "_law_net", defArgs s_l_net, defBody s_l_net, defScope s_l_net, [], []⟩
def dd_l_way : He.DefD := ⟨("_law_way", none), "_law_way", "_law_way", defArgs s_l_way, defBody s_l_way, defScope s_l_way, [], []⟩
def dd_l_house : He.DefD := ⟨("_law_house", none), "_law_house", "_law_house", defArgs s_l_house, defBody s_l_house, defScope s_l_house, [], []⟩
def dd_l_day : He.DefD := ⟨("_law_day", none), "_law_day", "_law_day", defArgs s_l_day, defBody s_l_day, defScope s_l_day, [], []⟩
def dd_l_sum : He.DefD := ⟨("_law_sum", none), "_law_sum", "_law_sum", defArgs s_l_sum, defBody s_l_sum, defScope s_l_sum, [], []⟩
def dd_l_number : He.DefD := ⟨("_law_number", none), "_law_number", "_law_number", defArgs s_l_number, defBody s_l_number, defScope s_l_number, [], []⟩
def dd_l_line : He.DefD := ⟨("_law_line", none), "_law_line", "_law_line", defArgs s_l_line, defBody s_l_line, defScope s_l_line, [], []⟩
def dd_l_return : He.DefD := ⟨("_law_return", none), "_law_return", "_law_return", defArgs s_l_return, defBody s_l_return, defScope s_l_return, [], []⟩
def dd_l_paper : He.DefD := ⟨("_law_paper", none), "_law_paper", "_law_paper", defArgs s_l_paper, defBody s_l_paper, defScope s_l_paper, [], []⟩
def dd_l_told : He.DefD := ⟨("_law_told", none), "_law_told", "_law_told", defArgs s_l_told, defBody s_l_told, defScope s_l_told, [], []⟩
def dd_l_turned : He.DefD := ⟨("_law_turned", none), "_law_turned", "_law_turned", defArgs s_l_turned, defBody s_l_turned, defScope s_l_turned, [], []⟩
def dd_l_others : He.DefD := ⟨("_law_others", none), "_law_others", "_law_others", defArgs s_l_others, defBody s_l_others, defScope s_l_others, [], []⟩
def dd_l_stands : He.DefD := ⟨("_law_stands", none), "_law_stands", "_law_stands", defArgs s_l_stands, defBody s_l_stands, defScope s_l_stands, [], []⟩
def dd_l_more : He.DefD := ⟨("_law_more", none), "_law_more", "_law_more", defArgs s_l_more, defBody s_l_more, defScope s_l_more, [], []⟩
def dd_law : He.DefD := ⟨("law", none), "law", "law", defArgs s_law, defBody s_law, defScope s_law, [], []⟩
def fn : List He.DefD := [dd_newest_papers, dd_standing, dd_clashing, dd_l_bag, dd_l_take, dd_l_names, dd_l_net, dd_l_way, dd_l_house, dd_l_day, dd_l_sum, dd_l_number, dd_l_line, dd_l_return, dd_l_paper, dd_l_told, dd_l_turned, dd_l_others, dd_l_stands, dd_l_more, dd_law]
def fa : List He.Fa := .glo "newest_papers" :: .glo "standing" :: .glo "clashing" :: .glo "_law_bag" :: .glo "_law_take" :: .glo "_law_names" :: .glo "_law_net" :: .glo "_law_way" :: .glo "_law_house" :: .glo "_law_day" :: .glo "_law_sum" :: .glo "_law_number" :: .glo "_law_line" :: .glo "_law_return" :: .glo "_law_paper" :: .glo "_law_told" :: .glo "_law_turned" :: .glo "_law_others" :: .glo "_law_stands" :: .glo "_law_more" :: .glo "law" :: .int "NUMBER" 1 :: .int "EDITION" 2 :: .free "abs" :: .free "int" :: .free "isinstance" :: .free "len" :: .free "list" :: .free "max" :: .free "min" :: .free "range" :: .free "set" :: .free "sorted" :: .free "str" :: .free "tuple" :: .free "zip" :: .glo "KINDS" :: []
def tf : List He.Defn := [("clashing", none)]
def exb : PySem.W.Frag → Bool := fun K => Lka.tupB K (He.ga K "KINDS") KINDS_L
abbrev R : PySem.W.OpenRow := PySem.W.OpenLaw.row PySem.Challenge.rw_throughlines_k24_whole_papers_as_a_set
abbrev hk : PySem.W.Hook := He.hookX 4 fa fn [] tf exb
def ob (s : PySem.W.SharedT) : He.AlX := He.obsX 4 fa fn [] tf exb (HandSHeadRun.getT s)
theorem ob_eq (s : PySem.W.SharedT) : ob s = hk.obs s.abs := He.obsX_eq (HandSHeadRun.getT_eq s)
def loose : List PySem.Str := "newest_papers" :: "standing" :: "clashing" :: "_law_bag" :: "_law_take" :: "_law_names" :: "_law_net" :: "_law_way" :: "_law_house" :: "_law_day" :: "_law_sum" :: "_law_number" :: "_law_line" :: "_law_return" :: "_law_paper" :: "_law_told" :: "_law_turned" :: "_law_others" :: "_law_stands" :: "_law_more" :: "NUMBER" :: "EDITION" :: "KINDS" :: []
set_option maxHeartbeats 0 in
theorem run (w : World) : HandSHeadRun.RunEq R (PySem.W.view R.prog [25]) hk ob 2000 loose w := by
  intro os
  kernel_rfl
/-- a def's code object, by its function's data -/
theorem code_ref {K : PySem.W.Frag} {x : Str} {st : Stmt} {p : He.Defn} {fd : FuncData} (F : FnP K x st (He.fAd K p) fd) : fd.code = .ref (He.cT K p).1 := by
  obtain ⟨oc, od, dV, kV, doc, pm, an, cdv, ct, osl, rfl, lk, hcd, _, _⟩ := F.ex
  obtain ⟨c, e⟩ := He.codeIn_ref hcd
  have h := He.codeOf_eq lk (show _ = Value.ref c from e)
  show cdv = _
  rw [e]
  show Value.ref c = Value.ref (He.codeOf K p)
  rw [h]
theorem facts {w : World} {K : PySem.W.Frag} {h : Heap} {mg : Str → Option Value} {f : Addr} (X : K.In h) (G : h.Ns mainGlobals mg) (hfa : mg ("law" : Str) = some (.ref f)) (c' : He.SaysX fa fn [] tf exb w h K) :
    LamX.LawAtS PySem.Challenge.rw_throughlines_k24_whole_papers_as_a_set w K CX0 7 63 "_law_script" mg f h := by
  have c := c'.t.d
  obtain ⟨d_newest_papers, F_newest_papers⟩ := c.def_ 0 (d := dd_newest_papers) rfl
  have b_newest_papers : Binds K d_newest_papers ["papers"] [] := FunD.bindsN F_newest_papers fun _ _ _ _ _ _ us hl => match us, hl with | [_], _ => rfl
  obtain ⟨d_standing, F_standing⟩ := c.def_ 1 (d := dd_standing) rfl
  have b_standing : Binds K d_standing ["papers", "kind"] [] := FunD.bindsN F_standing fun _ _ _ _ _ _ us hl => match us, hl with | [_, _], _ => rfl
  obtain ⟨d_clashing, F_clashing⟩ := c.def_ 2 (d := dd_clashing) rfl
  have b_clashing : Binds K d_clashing ["papers"] [] := FunD.bindsN F_clashing fun _ _ _ _ _ _ us hl => match us, hl with | [_], _ => rfl
  obtain ⟨d_l_bag, F_l_bag⟩ := c.def_ 3 (d := dd_l_bag) rfl
  have b_l_bag : Binds K d_l_bag ["_law_script", "_law_at"] [] := FunD.bindsN F_l_bag fun _ _ _ _ _ _ us hl => match us, hl with | [_, _], _ => rfl
  obtain ⟨d_l_take, F_l_take⟩ := c.def_ 4 (d := dd_l_take) rfl
  have b_l_take : Binds K d_l_take ["_law_bag_here", "_law_many"] [] := FunD.bindsN F_l_take fun _ _ _ _ _ _ us hl => match us, hl with | [_, _], _ => rfl
  obtain ⟨d_l_names, F_l_names⟩ := c.def_ 5 (d := dd_l_names) rfl
  have b_l_names : Binds K d_l_names ["_law_bag_here", "_law_many", "_law_head", "_law_tail"] [] := FunD.bindsN F_l_names fun _ _ _ _ _ _ us hl => match us, hl with | [_, _, _, _], _ => rfl
  obtain ⟨d_l_net, F_l_net⟩ := c.def_ 6 (d := dd_l_net) rfl
  have b_l_net : Binds K d_l_net ["_law_bag_here"] [] := FunD.bindsN F_l_net fun _ _ _ _ _ _ us hl => match us, hl with | [_], _ => rfl
  obtain ⟨d_l_way, F_l_way⟩ := c.def_ 7 (d := dd_l_way) rfl
  have b_l_way : Binds K d_l_way ["_law_bag_here", "_law_net_here"] [] := FunD.bindsN F_l_way fun _ _ _ _ _ _ us hl => match us, hl with | [_, _], _ => rfl
  obtain ⟨d_l_house, F_l_house⟩ := c.def_ 8 (d := dd_l_house) rfl
  have b_l_house : Binds K d_l_house ["_law_bag_here"] [] := FunD.bindsN F_l_house fun _ _ _ _ _ _ us hl => match us, hl with | [_], _ => rfl
  obtain ⟨d_l_day, F_l_day⟩ := c.def_ 9 (d := dd_l_day) rfl
  have b_l_day : Binds K d_l_day ["_law_bag_here"] [] := FunD.bindsN F_l_day fun _ _ _ _ _ _ us hl => match us, hl with | [_], _ => rfl
  obtain ⟨d_l_sum, F_l_sum⟩ := c.def_ 10 (d := dd_l_sum) rfl
  have b_l_sum : Binds K d_l_sum ["_law_bag_here"] [] := FunD.bindsN F_l_sum fun _ _ _ _ _ _ us hl => match us, hl with | [_], _ => rfl
  obtain ⟨d_l_number, F_l_number⟩ := c.def_ 11 (d := dd_l_number) rfl
  have b_l_number : Binds K d_l_number ["_law_bag_here"] [] := FunD.bindsN F_l_number fun _ _ _ _ _ _ us hl => match us, hl with | [_], _ => rfl
  obtain ⟨d_l_line, F_l_line⟩ := c.def_ 12 (d := dd_l_line) rfl
  have b_l_line : Binds K d_l_line ["_law_bag_here", "_law_net_here"] [] := FunD.bindsN F_l_line fun _ _ _ _ _ _ us hl => match us, hl with | [_, _], _ => rfl
  obtain ⟨d_l_return, F_l_return⟩ := c.def_ 13 (d := dd_l_return) rfl
  have b_l_return : Binds K d_l_return ["_law_bag_here", "_law_net_here", "_law_wagons", "_law_head"] [] := FunD.bindsN F_l_return fun _ _ _ _ _ _ us hl => match us, hl with | [_, _, _, _], _ => rfl
  obtain ⟨d_l_paper, F_l_paper⟩ := c.def_ 14 (d := dd_l_paper) rfl
  have b_l_paper : Binds K d_l_paper ["_law_bag_here", "_law_house_here"] [] := FunD.bindsN F_l_paper fun _ _ _ _ _ _ us hl => match us, hl with | [_, _], _ => rfl
  obtain ⟨d_l_told, F_l_told⟩ := c.def_ 15 (d := dd_l_told) rfl
  have b_l_told : Binds K d_l_told ["_law_papers"] [] := FunD.bindsN F_l_told fun _ _ _ _ _ _ us hl => match us, hl with | [_], _ => rfl
  obtain ⟨d_l_turned, F_l_turned⟩ := c.def_ 16 (d := dd_l_turned) rfl
  have b_l_turned : Binds K d_l_turned ["_law_bag_here", "_law_papers"] [] := FunD.bindsN F_l_turned fun _ _ _ _ _ _ us hl => match us, hl with | [_, _], _ => rfl
  obtain ⟨d_l_others, F_l_others⟩ := c.def_ 17 (d := dd_l_others) rfl
  have b_l_others : Binds K d_l_others ["_law_told_here", "_law_kind", "_law_number_here"] [] := FunD.bindsN F_l_others fun _ _ _ _ _ _ us hl => match us, hl with | [_, _, _], _ => rfl
  obtain ⟨d_l_stands, F_l_stands⟩ := c.def_ 18 (d := dd_l_stands) rfl
  have b_l_stands : Binds K d_l_stands ["_law_papers", "_law_kind", "_law_number_here"] [] := FunD.bindsN F_l_stands fun _ _ _ _ _ _ us hl => match us, hl with | [_, _, _], _ => rfl
  obtain ⟨d_l_more, F_l_more⟩ := c.def_ 19 (d := dd_l_more) rfl
  have b_l_more : Binds K d_l_more ["_law_bag_here", "_law_papers"] [] := FunD.bindsN F_l_more fun _ _ _ _ _ _ us hl => match us, hl with | [_, _], _ => rfl
  obtain ⟨d_law, F_law⟩ := c.def_ 20 (d := dd_law) rfl
  obtain ⟨t_NUMBER, c_NUMBER⟩ := He.int_ok X G (c.fact 21 (f := .int "NUMBER" 1) rfl)
  obtain ⟨t_EDITION, c_EDITION⟩ := He.int_ok X G (c.fact 22 (f := .int "EDITION" 2) rfl)
  obtain ⟨o_KINDS, k_KINDS, u_KINDS⟩ := Lka.tup_ok c'.more
  let T : Defs K mg := {
    a_newest_papers := _,
    d_newest_papers := d_newest_papers,
    F_newest_papers := F_newest_papers,
    g_newest_papers := He.glo_ok X G (c.fact 0 (f := .glo "newest_papers") rfl),
    b_newest_papers := b_newest_papers,
    a_standing := _,
    d_standing := d_standing,
    F_standing := F_standing,
    g_standing := He.glo_ok X G (c.fact 1 (f := .glo "standing") rfl),
    b_standing := b_standing,
    a_clashing := _,
    d_clashing := d_clashing,
    F_clashing := F_clashing,
    g_clashing := He.glo_ok X G (c.fact 2 (f := .glo "clashing") rfl),
    b_clashing := b_clashing,
    cc_clashing := (He.cT K ("clashing", none)).1,
    tp_clashing := (He.cT K ("clashing", none)).2,
    dc_clashing := code_ref (x := "clashing") (st := s_clashing) (p := ("clashing", none)) F_clashing,
    a_l_bag := _,
    d_l_bag := d_l_bag,
    F_l_bag := F_l_bag,
    g_l_bag := He.glo_ok X G (c.fact 3 (f := .glo "_law_bag") rfl),
    b_l_bag := b_l_bag,
    a_l_take := _,
    d_l_take := d_l_take,
    F_l_take := F_l_take,
    g_l_take := He.glo_ok X G (c.fact 4 (f := .glo "_law_take") rfl),
    b_l_take := b_l_take,
    a_l_names := _,
    d_l_names := d_l_names,
    F_l_names := F_l_names,
    g_l_names := He.glo_ok X G (c.fact 5 (f := .glo "_law_names") rfl),
    b_l_names := b_l_names,
    a_l_net := _,
    d_l_net := d_l_net,
    F_l_net := F_l_net,
    g_l_net := He.glo_ok X G (c.fact 6 (f := .glo "_law_net") rfl),
    b_l_net := b_l_net,
    a_l_way := _,
    d_l_way := d_l_way,
    F_l_way := F_l_way,
    g_l_way := He.glo_ok X G (c.fact 7 (f := .glo "_law_way") rfl),
    b_l_way := b_l_way,
    a_l_house := _,
    d_l_house := d_l_house,
    F_l_house := F_l_house,
    g_l_house := He.glo_ok X G (c.fact 8 (f := .glo "_law_house") rfl),
    b_l_house := b_l_house,
    a_l_day := _,
    d_l_day := d_l_day,
    F_l_day := F_l_day,
    g_l_day := He.glo_ok X G (c.fact 9 (f := .glo "_law_day") rfl),
    b_l_day := b_l_day,
    a_l_sum := _,
    d_l_sum := d_l_sum,
    F_l_sum := F_l_sum,
    g_l_sum := He.glo_ok X G (c.fact 10 (f := .glo "_law_sum") rfl),
    b_l_sum := b_l_sum,
    a_l_number := _,
    d_l_number := d_l_number,
    F_l_number := F_l_number,
    g_l_number := He.glo_ok X G (c.fact 11 (f := .glo "_law_number") rfl),
    b_l_number := b_l_number,
    a_l_line := _,
    d_l_line := d_l_line,
    F_l_line := F_l_line,
    g_l_line := He.glo_ok X G (c.fact 12 (f := .glo "_law_line") rfl),
    b_l_line := b_l_line,
    a_l_return := _,
    d_l_return := d_l_return,
    F_l_return := F_l_return,
    g_l_return := He.glo_ok X G (c.fact 13 (f := .glo "_law_return") rfl),
    b_l_return := b_l_return,
    a_l_paper := _,
    d_l_paper := d_l_paper,
    F_l_paper := F_l_paper,
    g_l_paper := He.glo_ok X G (c.fact 14 (f := .glo "_law_paper") rfl),
    b_l_paper := b_l_paper,
    a_l_told := _,
    d_l_told := d_l_told,
    F_l_told := F_l_told,
    g_l_told := He.glo_ok X G (c.fact 15 (f := .glo "_law_told") rfl),
    b_l_told := b_l_told,
    a_l_turned := _,
    d_l_turned := d_l_turned,
    F_l_turned := F_l_turned,
    g_l_turned := He.glo_ok X G (c.fact 16 (f := .glo "_law_turned") rfl),
    b_l_turned := b_l_turned,
    a_l_others := _,
    d_l_others := d_l_others,
    F_l_others := F_l_others,
    g_l_others := He.glo_ok X G (c.fact 17 (f := .glo "_law_others") rfl),
    b_l_others := b_l_others,
    a_l_stands := _,
    d_l_stands := d_l_stands,
    F_l_stands := F_l_stands,
    g_l_stands := He.glo_ok X G (c.fact 18 (f := .glo "_law_stands") rfl),
    b_l_stands := b_l_stands,
    a_l_more := _,
    d_l_more := d_l_more,
    F_l_more := F_l_more,
    g_l_more := He.glo_ok X G (c.fact 19 (f := .glo "_law_more") rfl),
    b_l_more := b_l_more,
    t_NUMBER := t_NUMBER,
    c_NUMBER := c_NUMBER,
    t_EDITION := t_EDITION,
    c_EDITION := c_EDITION,
    z_abs := He.free_ok X G (c.fact 23 (f := .free "abs") rfl),
    z_int := He.free_ok X G (c.fact 24 (f := .free "int") rfl),
    z_isinstance := He.free_ok X G (c.fact 25 (f := .free "isinstance") rfl),
    z_len := He.free_ok X G (c.fact 26 (f := .free "len") rfl),
    z_list := He.free_ok X G (c.fact 27 (f := .free "list") rfl),
    z_max := He.free_ok X G (c.fact 28 (f := .free "max") rfl),
    z_min := He.free_ok X G (c.fact 29 (f := .free "min") rfl),
    z_range := He.free_ok X G (c.fact 30 (f := .free "range") rfl),
    z_set := He.free_ok X G (c.fact 31 (f := .free "set") rfl),
    z_sorted := He.free_ok X G (c.fact 32 (f := .free "sorted") rfl),
    z_str := He.free_ok X G (c.fact 33 (f := .free "str") rfl),
    z_tuple := He.free_ok X G (c.fact 34 (f := .free "tuple") rfl),
    z_zip := He.free_ok X G (c.fact 35 (f := .free "zip") rfl),
    a_KINDS := _,
    o_KINDS := o_KINDS,
    g_KINDS := He.glo_ok X G (c.fact 36 (f := .glo "KINDS") rfl),
    k_KINDS := k_KINDS,
    u_KINDS := u_KINDS }
  have e := hfa.symm.trans (He.glo_ok X G (c.fact 20 (f := .glo "law") rfl))
  cases e
  have b := FunD.bindsA (ps := ["_law_script"]) F_law fun _ _ _ _ _ _ us hl => match us, hl with | [_], _ => rfl
  refine ⟨d_law, tf.map (He.cT K), sp_law T, fun p hp => ?_, fun p hp => ?_, fun p hp => ?_, fun s v => b s [v] rfl, fun H a ns hl _ hH hS => ⟨a, ns, rfl, hS, hl, LamX.TabS.nil (hH (He.cT K ("clashing", none)) (List.mem_map_of_mem (f := He.cT K) (List.mem_of_getElem? (l := tf) (i := 0) rfl))), fun _ => rfl⟩, fun base _ _ hTB => ok_law F_law T (hTB (He.cT K ("clashing", none)) (List.mem_map_of_mem (f := He.cT K) (List.mem_of_getElem? (l := tf) (i := 0) rfl)))⟩
  · obtain ⟨q, hq, rfl⟩ := List.mem_map.mp hp
    exact c'.empty q hq
  · obtain ⟨q, hq, rfl⟩ := List.mem_map.mp hp
    exact c'.out q hq
  · obtain ⟨q, hq, rfl⟩ := List.mem_map.mp hp
    exact PySem.W.codeHd_of_K X (c'.hd q hq)
end Th
open PySem PySem.W PySem.Calls PyProof.Rows
set_option maxHeartbeats 0 in
theorem PySem.Challenge.cw_throughlines_k24_whole_papers_as_a_set_holds : PySem.Challenge.rw_throughlines_k24_whole_papers_as_a_set.Holds := by
  w_on; o_law
  refine HandSHeadRun.head_any (r := OpenLaw.row PySem.Challenge.rw_throughlines_k24_whole_papers_as_a_set) (q := view (OpenLaw.row PySem.Challenge.rw_throughlines_k24_whole_papers_as_a_set).prog [25]) (H := Th.hk) (ob := Th.ob) (M := 2000) (loose := Th.loose) (d := HandSHeadRun.topDef (OpenLaw.row PySem.Challenge.rw_throughlines_k24_whole_papers_as_a_set).prog 25) (kwd := []) Th.ob_eq
    (by kernel_rfl) (fun s => by kernel_rfl) Th.run (by kernel_rfl) (by kernel_rfl) (by kernel_rfl) (by rfl) (by first | assumption | decide +kernel) (by decide +kernel) ⟨rfl, rfl, rfl, rfl, rfl, by decide +kernel⟩ ?hw ?hc
  case hw => w_witness2
  case hc =>
    refine LamX.walk_ofTsE (l := PySem.Challenge.rw_throughlines_k24_whole_papers_as_a_set) (n := 63) (k := 7) (x := "_law_script") (CX := fun _ => L2.CX0) rfl (by decide) (by kernel_rfl) ⟨rfl, by decide, by decide⟩ ?F (fun _ _ _ _ _ z => z)
    intro w mg fa h Y G hmg0
    obtain ⟨K, KX, c⟩ := Y
    have hmg : mg ("law" : PySem.Str) = some (.ref fa) := by
      have e : (HandSHeadRun.topDef (OpenLaw.row PySem.Challenge.rw_throughlines_k24_whole_papers_as_a_set).prog 25).name = ("law" : PySem.Str) := by kernel_rfl
      rw [← e]
      exact hmg0
    exact ⟨K, KX, Th.facts KX G hmg c⟩
