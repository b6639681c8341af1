import PyProof.Rows.All
import Wide.All
import OpenK.AllK
import Wide.FinOn
import KE.KStateDown
import Lean
import HandS.ForMost
import HandS.More
import HandS.WordsExc
import HandS.Defaults
import HandS.IsInst
import HandS.Zip
import HandS.Walk
import HandS.Wide
import HandS.Flow
import HandS.Evl
import HandS.Strs
import HandS.SetFor
import HandS.DictComp
import HandS.Set
import HandS.SetBool
import KE.DatumOrd
import HandS.TupAny
import HandS.Codes
import KE.KDictPairs
import KE.SortData
import KE.KDictZip
import KE.KItemsList
import HandS.Lambda
import KE.GoesZip
import KE.GoesMore
import KE.GoesEnum
import KE.GoesEnumKw
import HandS.Dict
import KE.KDictLaws
import KE.DataCmp
import PyProof.StrOps2
import HandS.Text
import HandS.Style
import HandS.ReCall
import KE.KRevSl
import KE.SortKeyHeap
import KE.KLam
import HandS.Conv
import HandS.EndTab
import HandS.HeadWalk
import HandS.HeadHook4
import KE.KIndexOf
import HandS.Deep
import PyProof.Rows.IntBool
import HandS.DictTup
import HandS.CallLocal
import HandS.Head0
import HandS.Head1
import HandS.Head2
import HandS.HeadEnd
import HandS.HeadHook1
import HandS.HeadHook2
import PySem.Challenge.RW_throughlines_k21_papers_faults
set_option Elab.async false
set_option linter.all false
set_option maxRecDepth 100000
set_option maxHeartbeats 4000000
namespace Th
open PySem PySem.Spec PyProof.Rows L2
/-! heaps -/
theorem same_upd {H : Hp} {p : Addr} {o : HO} (h : H p = none) : Same H (upd H p o) := fun b x e => by
  rw [upd_ne (ne_of_none e h)]
  exact e
/-- all but p stays -/
def Keep (p : Addr) (H H' : Hp) : Prop := ∀ b o, b ≠ p → H b = some o → H' b = some o
theorem Keep.refl (p : Addr) (H : Hp) : Keep p H H := fun _ _ _ h => h
theorem Keep.trans {p : Addr} {H H1 H2 : Hp} (a : Keep p H H1) (b : Keep p H1 H2) : Keep p H H2 := fun c o n h => b c o n (a c o n h)
theorem Keep.of {p : Addr} {H H1 : Hp} (a : Same H H1) : Keep p H H1 := fun c o _ h => a c o h
theorem Keep.upd {p : Addr} {H : Hp} {o : HO} : Keep p H (upd H p o) := fun c o n h => by rw [upd_ne n]; exact h
/-- the bag of draws at p -/
def Bag (H : Hp) (p : Addr) : Prop := ∃ g r : Int, H p = some (.lst [.int g, .int r]) ∧ 0 ≤ g ∧ 0 ≤ r ∧ r < 2147483648
theorem Bag.keep {H H' : Hp} {p : Addr} (b : Bag H p) (s : Same H H') : Bag H' p := by
  obtain ⟨g, r, e, h⟩ := b
  exact ⟨g, r, s _ _ e, h⟩
theorem Bag.some {H : Hp} {p : Addr} (b : Bag H p) : ∃ o, H p = Option.some o := by
  obtain ⟨g, r, e, _⟩ := b
  exact ⟨_, e⟩
theorem Bag.ne {H : Hp} {p q : Addr} (b : Bag H p) (h : H q = none) : q ≠ p := by
  obtain ⟨g, r, e, _⟩ := b
  exact (ne_of_none e h).symm
theorem p8 : (0 : Int) < 8 := by decide
theorem pA : (0 : Int) < 2147483647 := by decide
theorem pB : (0 : Int) < 2147483629 := by decide
theorem primes_at (i : Nat) : ∃ pr : Int, atI [V.int 2147483629, .int 2147483587, .int 2147483579, .int 2147483563, .int 2147483549, .int 2147483543, .int 2147483497, .int 2147483489] ((i : Int) % 8) = some (.int pr) ∧ 0 < pr ∧ pr < 2147483648 := by
  have e : ((i : Int) % 8) = ((i % 8 : Nat) : Int) := by omega
  rw [e]
  have h : i % 8 < 8 := Nat.mod_lt _ (by decide)
  generalize i % 8 = j at h
  have c : j = 0 ∨ j = 1 ∨ j = 2 ∨ j = 3 ∨ j = 4 ∨ j = 5 ∨ j = 6 ∨ j = 7 := by omega
  rcases c with rfl | rfl | rfl | rfl | rfl | rfl | rfl | rfl
  all_goals exact ⟨_, atI_nat rfl, by decide, by decide⟩
def sp_bag (K : PySem.W.Frag) : Sp := fun vs H Q _ => ∃ (a : Addr) (ns : List Int) (i : Nat), vs = [.ref a, .int i] ∧ SqL K H a (ns.map V.int) ∧ i < 1000000 ∧ ∀ H' p, Same H H' → H p = none → Bag H' p → Q (.ref p) H'
def sp_take : Sp := fun vs H Q _ => ∃ (p : Addr) (m : Int), vs = [.ref p, .int m] ∧ Bag H p ∧ 0 < m ∧ m < 1073741824 ∧ ∀ H' d, Keep p H H' → Bag H' p → 0 ≤ d → d < m → Q (.int d) H'
/-! data that is tracked, at addresses of which S holds -/
mutual
inductive Dt (S : Addr → Prop) (H : Hp) : V → PyData → Prop
  | non : Dt S H .non .none
  | bl (b : Bool) : Dt S H (.bl b) (.bool b)
  | int (i : Int) : Dt S H (.int i) (.int i)
  | str (x : Str) : Dt S H (.str x) (.str x)
  | lst {a : Addr} {xs : List V} {ds : List PyData} : S a → H a = some (.lst xs) → xs.length ≤ 5000 → DtAll S H xs ds → Dt S H (.ref a) (.list ds)
  | tup {a : Addr} {xs : List V} {ds : List PyData} : S a → H a = some (.tup xs) → xs.length ≤ 5000 → DtAll S H xs ds → Dt S H (.ref a) (.tuple ds)
inductive DtAll (S : Addr → Prop) (H : Hp) : List V → List PyData → Prop
  | nil : DtAll S H [] []
  | cons {v : V} {vs : List V} {d : PyData} {ds : List PyData} : Dt S H v d → DtAll S H vs ds → DtAll S H (v :: vs) (d :: ds)
end
mutual
theorem Dt.mono {S S' : Addr → Prop} {H H' : Hp} (hS : ∀ a, S a → S' a) (hh : ∀ a o, S a → H a = some o → H' a = some o) : ∀ {v : V} {d : PyData}, Dt S H v d → Dt S' H' v d
  | _, _, .non => .non
  | _, _, .bl b => .bl b
  | _, _, .int b => .int b
  | _, _, .str b => .str b
  | _, _, .lst s e l r => .lst (hS _ s) (hh _ _ s e) l (DtAll.mono hS hh r)
  | _, _, .tup s e l r => .tup (hS _ s) (hh _ _ s e) l (DtAll.mono hS hh r)
theorem DtAll.mono {S S' : Addr → Prop} {H H' : Hp} (hS : ∀ a, S a → S' a) (hh : ∀ a o, S a → H a = some o → H' a = some o) : ∀ {v : List V} {d : List PyData}, DtAll S H v d → DtAll S' H' v d
  | _, _, .nil => .nil
  | _, _, .cons a r => .cons (Dt.mono hS hh a) (DtAll.mono hS hh r)
end
mutual
theorem Dt.dp {K : PySem.W.Frag} {S : Addr → Prop} {H : Hp} : ∀ {v : V} {d : PyData}, Dt S H v d → Dp K H v d
  | _, _, .non => .non
  | _, _, .bl b => .bl b
  | _, _, .int b => .int b
  | _, _, .str b => .str b
  | _, _, .lst s e l r => .lst (SqL.of e) (DtAll.dp r)
  | _, _, .tup s e l r => .tup (SqT.of e) (DtAll.dp r)
theorem DtAll.dp {K : PySem.W.Frag} {S : Addr → Prop} {H : Hp} : ∀ {v : List V} {d : List PyData}, DtAll S H v d → DpAll K H v d
  | _, _, .nil => .nil
  | _, _, .cons a r => .cons (Dt.dp a) (DtAll.dp r)
end
abbrev SA : Addr → Prop := fun _ => True
theorem Dt.same {H H' : Hp} {v : V} {d : PyData} (s : Same H H') (h : Dt SA H v d) : Dt SA H' v d := h.mono (fun _ x => x) fun a o _ e => s a o e
theorem DtAll.same {H H' : Hp} {v : List V} {d : List PyData} (s : Same H H') (h : DtAll SA H v d) : DtAll SA H' v d := h.mono (fun _ x => x) fun a o _ e => s a o e
theorem DtAll.len {S : Addr → Prop} {H : Hp} : ∀ {v : List V} {d : List PyData}, DtAll S H v d → v.length = d.length
  | _, _, .nil => rfl
  | _, _, .cons _ r => congrArg Nat.succ r.len
theorem DtAll.get {S : Addr → Prop} {H : Hp} : ∀ {v : List V} {d : List PyData} {i : Nat} {x : V}, DtAll S H v d → v[i]? = some x → ∃ e, d[i]? = some e ∧ Dt S H x e
  | _, _, _, _, .nil, h => by simp at h
  | _, _, 0, _, .cons a r, h => by
    have e := Option.some.inj h
    subst e
    exact ⟨_, rfl, a⟩
  | _, _, i + 1, _, .cons a r, h => r.get (i := i) h
/-! depth, what may be laid -/
theorem depth_mem : ∀ {ds : List PyData} {i : Nat} {d : PyData}, ds[i]? = some d → PyData.depth d ≤ PyData.depthAll ds
  | [], _, _, h => by simp at h
  | x :: xs, 0, d, h => by
    have e := Option.some.inj h
    subst e
    rw [PyData.depthAll]
    exact Nat.le_max_left _ _
  | x :: xs, i + 1, d, h => by
    rw [PyData.depthAll]
    exact Nat.le_trans (depth_mem (i := i) h) (Nat.le_max_right _ _)
theorem lay_mem : ∀ {ds : List PyData} {i : Nat} {d : PyData}, PyData.canLayAll0 ds = true → ds[i]? = some d → PyData.canLay0 d = true
  | [], _, _, _, h => by simp at h
  | x :: xs, 0, d, c, h => by
    have e := Option.some.inj h
    subst e
    rw [PyData.canLayAll0, Bool.and_eq_true_iff] at c
    exact c.1
  | x :: xs, i + 1, d, c, h => by
    rw [PyData.canLayAll0, Bool.and_eq_true_iff] at c
    exact lay_mem (i := i) c.2 h
/-! the types -/
def tyN : PyData → String
  | .none => "NoneType"
  | .bool _ => "bool"
  | .int _ => "int"
  | .str _ => "str"
  | .list _ => "list"
  | .tuple _ => "tuple"
  | .dict _ => "dict"
theorem Dt.ty {K : PySem.W.Frag} {S : Addr → Prop} {H : Hp} {v : V} {d : PyData} (h : Dt S H v d) : TyX K H v (.type (tyN d)) := by
  cases h with
  | non => exact .base .non
  | bl b => exact .base (.bl b)
  | int b => exact .base (.int b)
  | str b => exact .base (.str b)
  | lst s e l r => exact .base (.lst e)
  | tup s e l r => exact .base (.tup e)
def isB : PyData → Bool
  | .bool _ => true
  | _ => false
def isSeq : PyData → Bool
  | .list _ => true
  | .tuple _ => true
  | _ => false
theorem kit_bool {K : PySem.W.Frag} {S : Addr → Prop} {H : Hp} {v : V} {d : PyData} (h : Dt S H v d) : PySem.W.kitOne K (.type (tyN d)) (.type "bool") = some (isB d) := by
  cases h with
  | non => exact kit_ty (a := "NoneType") (b := "bool") (r := false) (by decide +kernel)
  | bl b => exact kit_ty (a := "bool") (b := "bool") (r := true) (by decide +kernel)
  | int b => exact kit_ty (a := "int") (b := "bool") (r := false) (by decide +kernel)
  | str b => exact kit_ty (a := "str") (b := "bool") (r := false) (by decide +kernel)
  | lst s e l r => exact kit_ty (a := "list") (b := "bool") (r := false) (by decide +kernel)
  | tup s e l r => exact kit_ty (a := "tuple") (b := "bool") (r := false) (by decide +kernel)
theorem kit2 {K : PySem.W.Frag} {n : String} (h1 : kitB n "list" = some false) (h2 : kitB n "tuple" = some false) : PySem.W.kitAny K (.type n) [.type "list", .type "tuple"] = some false :=
  kitAny_cons (b := false) (kit_ty h1) (fun _ => kitAny_cons (b := false) (kit_ty h2) (fun _ => kitAny_nil) (fun z => nomatch z)) (fun z => nomatch z)
theorem kit_seq {K : PySem.W.Frag} {S : Addr → Prop} {H : Hp} {v : V} {d : PyData} (h : Dt S H v d) : PySem.W.kitAny K (.type (tyN d)) [.type "list", .type "tuple"] = some (isSeq d) := by
  cases h with
  | non => exact kit2 (n := "NoneType") (by decide +kernel) (by decide +kernel)
  | bl b => exact kit2 (n := "bool") (by decide +kernel) (by decide +kernel)
  | int b => exact kit2 (n := "int") (by decide +kernel) (by decide +kernel)
  | str b => exact kit2 (n := "str") (by decide +kernel) (by decide +kernel)
  | lst s e l r => exact kitAny_cons (b := true) (kit_ty (a := "list") (by decide +kernel)) (fun z => nomatch z) (fun _ => rfl)
  | tup s e l r => exact kitAny_cons (b := false) (kit_ty (a := "tuple") (by decide +kernel)) (fun _ => kitAny_cons (b := true) (kit_ty (a := "tuple") (by decide +kernel)) (fun z => nomatch z) (fun _ => rfl)) (fun z => nomatch z)
/-! zip of two tuples, walked -/
theorem walk_zipT {K : PySem.W.Frag} {a b : Addr} {xs ys : List V} {n : Nat} (hn : n = min xs.length ys.length) : Walk (RZ.ItzT K a b) n (fun H => SqT K H a xs ∧ SqT K H b ys) (YPair (fun i => xs[i]?) (fun i => ys[i]?)) := by
  subst hn
  refine ⟨fun i _ hi q => ?_, fun _ q => ⟨xs, ys, q.1, q.2, by omega⟩, fun i H v H' _ q y => ?_⟩
  · have h1 : i < xs.length := by omega
    have h2 : i < ys.length := by omega
    exact ⟨xs, ys, xs[i], ys[i], q.1, q.2, by simp [h1], by simp [h2]⟩
  · obtain ⟨T, x, z, h1, h2, h3, h4, h5⟩ := y
    exact ⟨T, x, z, h1, h2, h3, h4 xs q.1, h5 ys q.2⟩
theorem yes_ {σ : L2.St} {H : Hp} {A B : Hp → Prop} (h : A H) : tYes σ H fun b H3 => if b = true then A H3 else B H3 := by
  show if true = true then A H else B H
  exact iteT h
theorem small5000 {n : Nat} (h : n ≤ 5000) : n < sizeLine := Nat.lt_of_le_of_lt h (by decide)
/-- told and due are the same data, of a depth below n: True -/
def sp_like (n : Nat) : Sp := fun vs H Q _ => ∃ (v u : V) (d : PyData), vs = [v, u] ∧ Dt SA H v d ∧ Dt SA H u d ∧ d.canLay0 = true ∧ d.depth < n ∧ n ≤ 60 ∧ ∀ H', Same H H' → Q (.bl true) H'
/-- xs[i] read for an augmented store, i from 0 on -/
theorem get_listN {X : Cx} : PGet X (fun o i H Q => ∃ (p : Addr) (xs : List V) (j : Nat) (v : V), o = .ref p ∧ i = .int j ∧ H p = some (.lst xs) ∧ xs[j]? = some v ∧ Q v H) := by
  intro pins s σ H o i ov iv Q I ro ri h
  obtain ⟨p, xs, j, v, rfl, rfl, hp, hx, q⟩ := h
  cases (show ov = Value.ref p from ro)
  obtain ⟨t, rfl⟩ := ri
  obtain ⟨its, r, pl, hz⟩ := I.list (SqL.of hp)
  obtain ⟨u, eu, ru⟩ := r.get hx
  have hj : j < xs.length := (List.getElem?_eq_some_iff.mp hx).1
  have h63 := line63
  exact wpAny_getItem_list pl.isList (by omega) (by omega) (by simpa using eu) ⟨v, H, I, ru, q⟩
/-- the d-th of some whole numbers -/
theorem pick {ms : List Int} {d : Int} (h0 : 0 ≤ d) (h1 : d < ms.length) : ∃ m ∈ ms, atI (ms.map V.int) d = some (.int m) := by
  obtain ⟨j, rfl⟩ : ∃ j : Nat, d = (j : Int) := ⟨d.toNat, by omega⟩
  have hj : j < ms.length := by omega
  refine ⟨ms[j], List.getElem_mem hj, atI_nat ?_⟩
  rw [List.getElem?_map, List.getElem?_eq_getElem hj]
  rfl
theorem Bag.at {H H' : Hp} {p : Addr} (b : Bag H p) (e : H' p = H p) : Bag H' p := by
  obtain ⟨g, r, h, k⟩ := b
  exact ⟨g, r, e.trans h, k⟩
theorem Keep.new {p q : Addr} {H H' : Hp} {o : HO} (k : Keep p H H') (n : H' q = none) : Keep p H (L2.upd H' q o) := k.trans (.of (same_upd n))
theorem Keep.free {p q : Addr} {H H' : Hp} (k : Keep p H H') (b : Bag H p) (h : H' q = none) (b' : Bag H' p) : H q = none := by
  cases e : H q with
  | none => rfl
  | some o =>
    by_cases z : q = p
    · rw [z] at h
      obtain ⟨g, r, e', _⟩ := b'
      rw [e'] at h
      cases h
    · rw [k q o z e] at h
      cases h
theorem rep_one {α : Type} (x : α) (m : Nat) : (List.replicate m [x]).flatten = List.replicate m x := by
  induction m with
  | zero => rfl
  | succ m ih => rw [List.replicate_succ, List.flatten_cons, ih, List.replicate_succ]; rfl
/-! lists of whole numbers as data -/
abbrev dI (zs : List Int) : PyData := .list (zs.map PyData.int)
theorem dtAll_ints {S : Addr → Prop} {H : Hp} : ∀ zs : List Int, DtAll S H (zs.map V.int) (zs.map PyData.int)
  | [] => .nil
  | z :: zs => .cons (.int z) (dtAll_ints zs)
theorem dt_ints {H : Hp} {x : Addr} {zs : List Int} (h : H x = some (.lst (zs.map V.int))) (hl : zs.length ≤ 5000) : Dt SA H (.ref x) (dI zs) := .lst trivial h (by rw [List.length_map]; exact hl) (dtAll_ints zs)
theorem layAll_ints : ∀ zs : List Int, PyData.canLayAll0 (zs.map PyData.int) = true
  | [] => rfl
  | z :: zs => by rw [List.map_cons, PyData.canLayAll0, layAll_ints zs]; rfl
theorem lay_ints (zs : List Int) : (dI zs).canLay0 = true := layAll_ints zs
theorem depthAll_ints : ∀ zs : List Int, PyData.depthAll (zs.map PyData.int) = 0
  | [] => rfl
  | z :: zs => by rw [List.map_cons, PyData.depthAll, depthAll_ints zs]; rfl
theorem depth_ints (zs : List Int) : (dI zs).depth = 1 := by
  show PyData.depthAll (zs.map PyData.int) + 1 = 1
  rw [depthAll_ints]
theorem shaped_ints (zs : List Int) : SeqAt.shaped (dI zs) = true := Bool.and_eq_true_iff.mpr ⟨lay_ints zs, decide_eq_true (by rw [depth_ints]; decide)⟩
theorem eqv_ints (zs : List Int) : PyData.eqv (dI zs) (dI zs) = true := SeqAt.eqv_refl _ (lay_ints zs)
/-! len by a reading that names K -/
def rLenS (K : PySem.W.Frag) : List V → Hp → VK → Prop := fun xs H Q => ∃ (p : Addr) (ys : List V), xs = [.ref p] ∧ (SqL K H p ys ∨ SqT K H p ys) ∧ Q (.int ys.length) H
theorem call_lenS {X : Cx} : CallR X (.builtin "len") (rLenS X.K) := call_len_seq
theorem nn_sum : ∀ {ws : List Int}, (∀ w ∈ ws, 0 ≤ w) → 0 ≤ ws.sum
  | [], _ => by simp
  | w :: ws, h => by
    have h1 := h w (List.mem_cons_self ..)
    have h2 := nn_sum (ws := ws) fun x hx => h x (List.mem_cons_of_mem _ hx)
    rw [List.sum_cons]
    omega
theorem pos_sum : ∀ {ws : List Int} {j : Nat} {x : Int}, (∀ w ∈ ws, 0 ≤ w) → ws[j]? = some x → 0 < x → 0 < ws.sum
  | [], _, _, _, h, _ => by simp at h
  | w :: ws, 0, x, hw, h, hx => by
    have e : w = x := Option.some.inj h
    have h2 := nn_sum (ws := ws) fun x hx => hw x (List.mem_cons_of_mem _ hx)
    rw [List.sum_cons]
    omega
  | w :: ws, j + 1, x, hw, h, hx => by
    have h1 := hw w (List.mem_cons_self ..)
    have h2 := pos_sum (ws := ws) (j := j) (x := x) (fun x hx => hw x (List.mem_cons_of_mem _ hx)) h hx
    rw [List.sum_cons]
    omega
theorem cut_ints (ws : List Int) (lo hi : Option Int) : ∃ ys : List Int, cutV (ws.map V.int) lo hi = ys.map V.int := by
  unfold cutV
  exact ⟨(ws.drop _).take _, by rw [List.map_take, List.map_drop]⟩
end Th
namespace Sl
open PySem PySem.Spec PyProof.Rows L2
/-- the object of a set just made -/
abbrev set0 (w : World) : Obj := { cls := .type "set", dict := none, data := .set #[] 0 (.fresh 0 0 (!w.params.followText "set-order")) }
section
variable {P : Program} {w : World} {A : Around} {E : Value → Shared → Prop} {s : Shared}
set_option maxHeartbeats 8000000 in
/-- set(xs) of a list of whole numbers -/
theorem set_of_ints {l : Addr} {its : Array Value} (ns : List Int) {Q : Value → Shared → Prop} (nh : A.handled = none) (il : s.heap.IsList l its) (ii : IntsAre its.toList ns) (nb : ns.length + 1 < scanBound)
    (fin : ∀ (g : Heap) (tk c : Nat), SetR w g s.heap.objs.size (fun j => decide (j ∈ ns)) c → c ≤ ns.length → (∀ b o, s.heap.get? b = some o → g.get? b = some o) → Q (.ref s.heap.objs.size) { s with heap := g, toks := tk }) :
    wpAny (model P w) A (call (.type "set") [.ref l]) Q E s := by
  have isz : its.size = ns.length := by
    have z := IntsAre.length ii
    rwa [Array.length_toList] at z
  obtain ⟨_, _, mro⟩ := F.called_set.mro
  have m1 := F.called_set.made
  have m2 := F.called_set.sub
  have m3 := F.called_set.notType
  have m4 := F.called_set.canCreate
  have m5 := F.typeCall_set_1 (.ref l)
  refine wpAny_call (codeAny_of_tree (?_ : wpAny _ _ (callAny (.type "set") _) _ _ _))
  refine wpAny_pure ⟨Code.quiet_builtin _ (by decide +kernel), codeAny_builtin F.entry_type_call ?_⟩
  rw [Around.under_plain (weight_type_call_type "set" [.ref l] []) rfl]
  repeat (any_goals (first | assumption | wp_step))
  refine codeAny_mono (code_set_led1 (.ref l) (E := E) (Q₁ := fun ob z => ob = .ref s.heap.objs.size ∧ z = { s with heap := s.heap.push (set0 w) }) ⟨rfl, rfl⟩) fun r z hz => ?_
  cases r with
  | error e => exact hz
  | ok fl =>
    cases fl with
    | ret ob =>
      obtain ⟨rfl, rfl⟩ := hz
      have zS : (s.heap.push (set0 w)).get? s.heap.objs.size = some (set0 w) := Heap.get?_push_size _ rfl
      have zT : Shared.TypeIs { s with heap := s.heap.push (set0 w) } (.ref s.heap.objs.size) "set" := ⟨_, zS, rfl⟩
      have n1 := F.called_set.init.lookup
      have n2 := F.called_set.init.bind (.ref s.heap.objs.size)
      repeat (any_goals (first | assumption | wp_step))
      refine codeAny_mono (codeAny_call_builtin (R := wants (fun r z => r = .none ∧ ∃ g tk c, z = { s with heap := g, toks := tk } ∧ SetR w g s.heap.objs.size (fun j => decide (j ∈ ns)) c ∧ c ≤ ns.length ∧ ∀ b o, s.heap.get? b = some o → g.get? b = some o) E)
        F.called_set.init.plain F.entry_set_init (check_set_init_1 zT ?_)) fun r2 z2 hz2 => ?_
      · obtain ⟨⟨oc, od, odt, osl⟩, ol, c1, nl, c2⟩ := il
        simp only at c1 c2
        subst c1 c2
        have ol2 : (s.heap.push (set0 w)).get? l = some { cls := .type "list", dict := od, data := .seq its nl, slots := osl } := Heap.get?_push_of_some _ ol
        have k1 := F.sub_list_set
        have k2 := F.sub_list_frozenset
        have k3 : (Value.type "list" == Value.type "dict") = false := by decide
        have il2 : (s.heap.push (set0 w)).IsList l its := ⟨_, ol2, rfl, nl, rfl⟩
        unfold Builtin.«set.__init__» noKeywords Builtin.Frozenset.updateFrom
        generalize ePI : pyIter = PI
        wp_walk
        subst ePI
        refine wpAny_pyIter_list il2 (wpAny_bind (wpAny_runValue ?_))
        have lS : l < s.heap.objs.size := Heap.lt_size ol
        have h3 : A.in1.in1.in1.handled = none := by simp [nh]
        have nI : l ≠ (s.heap.push (set0 w)).objs.size := by
          rw [Heap.size_push]
          exact Nat.ne_of_lt (Nat.lt_succ_of_lt lS)
        have nf : s.heap.objs.size ∉ [(s.heap.push (set0 w)).objs.size, l] := by
          rw [Heap.size_push]
          simp only [List.mem_cons, List.not_mem_nil, or_false, not_or]
          exact ⟨Nat.ne_of_lt (Nat.lt_succ_self _), Nat.ne_of_gt lS⟩
        have vl : ∀ (i : Nat) (v : Value), its[i]? = some v → ∃ k t, ns[i]? = some k ∧ v = .int k t := fun i v hv => by
          have hi : i < ns.length := by rw [← isz]; exact (Array.getElem?_eq_some_iff.mp hv).1
          obtain ⟨t, e⟩ := IntsAre.int_at ii i v (by rw [Array.getElem?_toList]; exact hv)
          refine ⟨ns[i], t, List.getElem?_eq_getElem hi, ?_⟩
          rw [e, List.getD_eq_getElem?_getD, List.getElem?_eq_getElem hi] <;> rfl
        refine set_update_ints ((Walks.list h3 _ l nI its).toS) s.heap.objs.size nf ns isz nb vl (its.size - 0) 0 _ (by omega) (Nat.zero_le _) ⟨⟨_, Heap.get?_push_size _ rfl, rfl, rfl⟩, il2.push _⟩ ?zStart ?zEnd
        case zStart => exact ⟨0, Nat.le_refl 0, setR_new_at (Heap.get?_push_of_some _ zS)⟩
        case zEnd =>
          intro z c hm hc hS
          obtain ⟨g, gg, dd, tk, os⟩ := z
          have e1 : gg = s.gens := hm.gens
          have e2 : dd = s.drawn := hm.drawn
          have e3 : os = s.os := hm.os
          subst e1 e2 e3
          refine wpAny_pure (?_ : wpAny _ _ (ret Value.none) _ _ _)
          rw [isz] at hc
          refine wpAny_pure ⟨rfl, g, tk, c, rfl, hS, hc, fun b o e => ?_⟩
          have b0 : b < s.heap.objs.size := Heap.lt_size e
          refine hm.heap b o ?_ (Heap.get?_push_of_some _ (Heap.get?_push_of_some _ e))
          rw [Heap.size_push]
          simp only [List.mem_cons, List.not_mem_nil, or_false, not_or]
          exact ⟨Nat.ne_of_lt b0, Nat.ne_of_lt (Nat.lt_succ_of_lt b0)⟩
      · cases r2 with
        | error e => exact hz2
        | ok f2 =>
          cases f2 with
          | ret r =>
            obtain ⟨rfl, g, tk, c, rfl, q1, q2, q3⟩ := hz2
            repeat (any_goals (first | assumption | wp_step))
            exact fin _ _ _ q1 q2 q3
          | _ => exact hz2.elim
    | _ => exact hz.elim
end
def rSetI (K : PySem.W.Frag) (w : World) : List V → Hp → VK → Prop := fun xs H Q => ∃ (l : Addr) (ns : List Int), xs = [.ref l] ∧ SqL K H l (ns.map V.int) ∧ ns.length ≤ 1000 ∧ ∀ p c, H p = none → c ≤ ns.length → Q (.ref p) (upd H p (SetO w p (fun j => decide (j ∈ ns)) c))
theorem call_setI {X : Cx} (hc : X.calm = true) : CallR X (.type "set") (rSetI X.K X.w) := by
  intro pins s σ H xs us Q I r h
  obtain ⟨l, ns, rfl, hs, hl, q⟩ := h
  rw [Vals.ref1 r]
  obtain ⟨its, rv, pl, hz⟩ := I.list hs
  refine set_of_ints ns (I.ok.hd hc) pl.isList (ints_of_vals rv) (by unfold scanBound; omega) fun g tk c R hcn k => ?_
  exact ⟨.ref _, _, I.laid (t' := tk) k (Nat.le_refl _) (setO_new R), rfl, q _ c (I.hok.fresh (Nat.le_refl _)) hcn⟩
end Sl
/-! y = {k: v for .. in ..}, y a local name of a def -/
namespace Ds
open PySem PySem.Spec PyProof.Rows L2
section
variable {X : Cx}
theorem ps_setDc {i : Nat} {y : Str} {py : Pos} {kx vx tg iter : Expr} {ifs : List Expr} {scope : Scope} {own : List (Str × Nat)} {pos spos : Pos} {wi : TI} {g : TG} {tt : TT} {tk tv : TE} (hc : X.calm = true) (hN : X.N.Nodup) (hy : X.N[i]? = some y) (hyl : X.env.scope.names.lookup y = some .local)
    (hsw : swapsWith (.DictComp kx vx [⟨tg, iter, ifs, 0⟩] scope pos) (some (.Name y py)) spos.line X.env = pure true) (hi : PI X tg iter wi) (ok : BlkOk X.N X.env.scope scope own)
    (hg : ∀ (s : Shared) (H : Hp) (C : Addr) (cl : List (Str × Addr)) (fp : List Addr), PG (X.blk s H scope (compEnvC scope cl C X.env) fp) tg g) (ht : ∀ (s : Shared) (H : Hp) (C : Addr) (cl : List (Str × Addr)) (fp : List Addr), PTs (X.blk s H scope (compEnvC scope cl C X.env) fp) ifs tt)
    (hk : ∀ (s : Shared) (H : Hp) (C : Addr) (cl : List (Str × Addr)) (fp : List Addr), PE (X.blk s H scope (compEnvC scope cl C X.env) fp) kx tk)
    (he : ∀ (s : Shared) (H : Hp) (C : Addr) (cl : List (Str × Addr)) (fp : List Addr), PE (X.blk s H scope (compEnvC scope cl C X.env) fp) vx tv) (hs : ∀ x, foldedSetIterable iter X.env x = pure x := by intro _; rfl) :
    PS X (.Assign [.Name y py] (.DictComp kx vx [⟨tg, iter, ifs, 0⟩] scope pos) spos) (tAsg (tDc wi g tt tk tv (own.map (·.2))) (gName i)) := by
  refine ⟨fun pins s σ H D I h => ?_⟩
  rw [exec_Assign_Name_used _ _ _ _ hsw]
  refine wpAny_bind (wpAny_standAt (wpAny_bind ?_))
  show wpAny _ X.A (do let _ ← comprehension (.DictComp kx vx [⟨tg, iter, ifs, 0⟩] scope pos) scope X.env (firstIterPos [⟨tg, iter, ifs, 0⟩] pos) newDict false (eval iter X.env) (some (assign (.Name y py) X.env))) _ _ s
  have h : tDc wi g tt tk tv (own.map (·.2)) σ H (fun x H1 => gName i x σ H1 D.nx) := h
  refine wpAny_bind (thn (dc_core (Qf := fun _ s' => SP X pins D .next s') hc hN I hi ok hg ht hk he hs h fun L C s' m H' I' q hn f => ?_) fun _ s' hq => wpAny_pure (wpAny_pure hq))
  show wpAny _ _ (assign (.Name y py) X.env (.ref L)) _ _ _
  refine wpAny_assign_Name (store_ok2 (v := V.ref L) I' hN hy (.inl hyl) rfl (fun s2 I2 ⟨a, sb, ha⟩ => ?_) (.inr hyl))
  obtain ⟨f0, f1, f2, f3, f4, f5⟩ := f
  have haC : C ≠ a := by
    rcases ha with z | z
    · rw [z]; exact f1
    · exact fun e => f4 y a z e.symm
  refine ⟨m, hn.sameBut sb haC, fun h3 sb3 => ?_⟩
  exact ⟨_, H', I2.turned (t' := s2.toks) (fun b o hb e => (sb3.2 b hb).trans e) f0 f1 f3 f4 f5, q⟩
theorem sw_trueD {kx vx : Expr} {gs : List Comprehension} {scope : Scope} {pos py : Pos} {y : Str} {l : Nat} {env : Env} (hk : env.scope.kind = .function) (hy : env.scope.names.lookup y = some .local) (hl : (py.line == pos.line) = true)
    (ha : (scope.names.any fun (n, k) => n == y && (k == .local || k == .cell)) = false) : swapsWith (.DictComp kx vx gs scope pos) (some (.Name y py)) l env = pure true := by
  have ky : env.kindOf y = some .local := hy
  have hb : env.blockKind = .function := by unfold Env.blockKind; rw [hk]; rfl
  unfold swapsWith
  simp only [hb, ky, ha, Expr.pos, hl]
  rfl
end
end Ds
/-! sets of texts: their members as a list; a comprehension of two clauses; sorted of it -/
namespace Ss
open PySem PySem.Spec PyProof.Rows L2
def kOf (e : Int × Value) : Str := match e.2 with
  | .str k _ => k
  | _ => ⟨#[]⟩
def Gd (w : World) (e : Int × Value) : Prop := ∃ k tk, e.2 = Value.str k tk ∧ e.1 = hashStr w k
def addL (L : List Str) (k : Str) : List Str := if k ∈ L then L else k :: L
theorem mem_addL {L : List Str} {k x : Str} : x ∈ addL L k ↔ x = k ∨ x ∈ L := by
  unfold addL
  split
  · exact ⟨.inr, fun z => z.elim (fun e => by rw [e]; assumption) id⟩
  · exact List.mem_cons
theorem nd_addL {L : List Str} {k : Str} (h : L.Nodup) : (addL L k).Nodup := by
  unfold addL
  split
  · exact h
  · exact List.nodup_cons.mpr ⟨by assumption, h⟩
abbrev Led (w : World) (t : SetTable) : Prop := w.params.followText "set-order" = true ∨ t.led = true
/-- the set of texts at a, its members the list L -/
def SetS (w : World) (h : Heap) (a : Addr) (L : List Str) : Prop := ∃ o es ep t, h.get? a = some o ∧ o.ExactSet ∧ o.data = .set es ep t ∧ (∀ e ∈ es.toList, Gd w e) ∧ (es.toList.map kOf).Perm L ∧ L.Nodup ∧ es.size < scanBound ∧ t.fits es.size = true ∧ Ris t.place.toList ∧ Led w t
section
variable {P : Program} {w : World} {A : Around} {E : Value → Shared → Prop} {s : Shared} {a : Addr} {L : List Str} {h h' : Heap}
theorem isS (k : Str) (u : Tok) : (PySem.strKind P w).is k (.str k u) = true := by show Value.isStrOf k (.str k u) = true; simp [Value.isStrOf]
theorem SetS.at (R : SetS w h a L) (k : ∀ o, h.get? a = some o → h'.get? a = some o) : SetS w h' a L := let ⟨o, es, ep, t, ho, r⟩ := R; ⟨o, es, ep, t, k o ho, r⟩
theorem gd_elems {l : List (Int × Value)} (g : ∀ e ∈ l, Gd w e) : ElemsOf (PySem.strKind P w) l := fun e he => let ⟨k, tk, h1, h2⟩ := g e he; ⟨⟨k, h1 ▸ isS k tk, h2⟩, by rw [h1]; rfl⟩
theorem gd_is {e : Int × Value} (g : Gd w e) (k : Str) : (PySem.strKind P w).is k e.2 = true ↔ kOf e = k := by
  obtain ⟨k0, tk, h1, -⟩ := g
  have ek : kOf e = k0 := by unfold kOf; rw [h1]
  rw [ek, h1]
  constructor
  · intro z
    obtain ⟨t, et⟩ := Value.isStrOf_shape (x := k) (v := .str k0 tk) z
    injection et
  · intro z
    rw [z]
    exact isS k tk
theorem gd_mem {l : List (Int × Value)} (g : ∀ e ∈ l, Gd w e) (k : Str) : k ∈ l.map kOf ↔ ∃ e ∈ l, (PySem.strKind P w).is k e.2 = true :=
  ⟨fun z => let ⟨e, he, q⟩ := List.mem_map.mp z; ⟨e, he, (gd_is (g e he) k).2 q⟩, fun ⟨e, he, q⟩ => List.mem_map.mpr ⟨e, he, (gd_is (g e he) k).1 q⟩⟩
theorem SetS.len (R : SetS w h a L) : ∀ {o es ep t}, h.get? a = some o → o.data = .set es ep t → es.size = L.length := by
  obtain ⟨o', es', ep', t', ho', _, hd', _, pm, _⟩ := R
  intro o es ep t ho hd
  rw [ho'] at ho
  cases ho
  rw [hd'] at hd
  cases hd
  have z := pm.length_eq
  rw [List.length_map, Array.length_toList] at z
  exact z
theorem SetS.setOf (R : SetS w h a L) : h.SetOf (PySem.strKind P w) a (fun k => decide (k ∈ L)) L.length := by
  have hlen := @SetS.len _ _ _ _ R
  obtain ⟨o, es, ep, t, ho, hx, hd, g, pm, nd, hb, hf, -⟩ := R
  exact ⟨o, es, ep, t, ho, hx, hd, gd_elems g, fun k => by rw [decide_eq_true_eq, ← pm.mem_iff]; exact gd_mem g k, hb, hf, hlen ho hd⟩
theorem putS {o : Obj} {es es' : Array (Int × Value)} {ep : Nat} {t t' : SetTable} (ho : h.get? a = some o) (hd : o.data = .set es ep t) : (h.update a (Obj.putSet es' t')).get? a = some { o with data := .set es' (ep + 1) t' } := by
  have z := Heap.get?_update_self (Obj.putSet es' t') ho (by rw [putSet_of es' t' hd]; rfl)
  rwa [putSet_of es' t' hd] at z
/-- the store behind an add, with the table laid anew where it is too full -/
theorem tailS {g : Bool → Sem Unit} (hg : ∀ (b : Bool) (s1 : Shared) (Q1 : Unit → Shared → Prop), Q1 () s1 → wpAny (model P w) A (g b) Q1 E s1) {o : Obj} {es : Array (Int × Value)} {ep : Nat} {t : SetTable} (ho : s.heap.get? a = some o) (hex : o.ExactSet) (hd : o.data = .set es ep t)
    {fs : Array (Int × Value)} {u : SetTable} {M : List Str} (gf : ∀ e ∈ fs.toList, Gd w e) (pf : (fs.toList.map kOf).Perm M) (nf : M.Nodup) (bf : fs.size < scanBound) (ff : u.fits fs.size = true) (rf : Ris u.place.toList) (lf : Led w u) {dm : Bool} {R : Option Bool → Shared → Prop}
    (hR : ∀ h', Heap.SameBut a s.heap h' → SetS w h' a M → R (some true) { s with heap := h' }) :
    wpAny (model P w) A (do
        storeSet a fs u
        if (!dm && u.tooFull) = true then do
            g (relayAll u fs (SetTable.grown fs.size)).2.2
            storeSet a (relayAll u fs (SetTable.grown fs.size)).1 (relayAll u fs (SetTable.grown fs.size)).2.1
            pure (some true)
          else pure (some true)) R E s := by
  refine wpAny_bind (wpAny_storeSet_of ho hd ?_ (fits_of_scanBound bf))
  have h1 := putS (es' := fs) (t' := u) ho hd
  have b1 := Heap.SameBut.update s.heap a (Obj.putSet fs u)
  split
  · have pm := relayAll_perm u fs (SetTable.grown fs.size)
    have f3 := relayAll_fits u fs (SetTable.grown fs.size)
    have r3 := relayAll_ris u fs (SetTable.grown fs.size)
    have l3 := relayAll_led u fs (SetTable.grown fs.size)
    generalize relayAll u fs (SetTable.grown fs.size) = Z at pm f3 r3 l3 ⊢
    obtain ⟨gs, v, gave⟩ := Z
    dsimp only at pm f3 r3 l3 ⊢
    have hz : gs.size = fs.size := by
      have z := pm.length_eq
      rwa [Array.length_toList, Array.length_toList] at z
    have bg : gs.size < scanBound := hz ▸ bf
    refine wpAny_bind (hg _ _ _ (wpAny_bind (wpAny_storeSet_of h1 rfl ?_ (fits_of_scanBound bg))))
    have h2 := putS (es' := gs) (t' := v) h1 rfl
    exact wpAny_pure (hR _ (b1.trans (Heap.SameBut.update _ a _)) ⟨_, gs, _, v, h2, hex, rfl, fun e he => gf e (pm.mem_iff.mp he), (pm.map kOf).trans pf, nf, bg, f3, r3, lf.imp id fun z => l3.trans z⟩)
  · exact wpAny_pure (hR _ b1 ⟨_, fs, _, u, h1, hex, rfl, gf, pf, nf, bf, ff, rf, lf⟩)
theorem addS_hashed {k : Str} {tk : Tok} {Q : Bool → Shared → Prop} (R : SetS w s.heap a L) (room : L.length + 1 < scanBound)
    (hQ : ∀ h' b, Heap.SameBut a s.heap h' → SetS w h' a (addL L k) → Q b { s with heap := h' }) : wpAny (model P w) A (setAddHashed a (.str k tk) ((PySem.strKind P w).hash k)) Q E s := by
  have hlen := @SetS.len _ _ _ _ R
  obtain ⟨o, es, ep, t, ho, hex, hd, g, pmL, nd, hb, hf, hr, hl⟩ := R
  have hn : es.size = L.length := hlen ho hd
  have hsc : (Value.str k tk).scannable = true := rfl
  have hel : ElemsOf (PySem.strKind P w) es.toList := gd_elems g
  unfold setAddHashed setAddHashedIn
  refine wpAny_holding (wpAny_bind (wpAny_setState_of ho hd hf ?_))
  dsimp only
  rw [byScan_of hsc hb hel]
  simp only [↓reduceIte]
  unfold setAddByScan
  refine wpAny_bind (wpAny_bind (wpAny_rule (wpAny_bind (wpAny_setScan_of (isS k tk) ho hd hf hel ?_))))
  cases hfi : List.findIdx? (fun e => (PySem.strKind P w).is k e.2) es.toList with
  | some j =>
    dsimp only
    obtain ⟨hj, pj, -⟩ := List.findIdx?_eq_some_iff_getElem.mp hfi
    have hk : k ∈ L := pmL.mem_iff.mp ((gd_mem (P := P) g k).2 ⟨es.toList[j], List.getElem_mem hj, pj⟩)
    have eL : addL L k = L := by unfold addL; rw [if_pos hk]
    exact wpAny_pure (wpAny_pure (hQ s.heap _ (Heap.SameBut.refl a s.heap) ⟨o, es, ep, t, ho, hex, hd, g, by rw [eL]; exact pmL, nd_addL nd, hb, hf, hr, hl⟩))
  | none =>
    dsimp only
    have hk : k ∉ L := fun z => by
      obtain ⟨e, he, q⟩ := (gd_mem (P := P) g k).1 (pmL.mem_iff.mpr z)
      have c := List.findIdx?_eq_none_iff.mp hfi e he
      rw [q] at c
      cases c
    have eL : addL L k = k :: L := by unfold addL; rw [if_neg hk]
    have pm := layNew_perm t es ((PySem.strKind P w).hash k) (.str k tk)
    have f1 := layNew_fits t es ((PySem.strKind P w).hash k) (.str k tk)
    have r1 := layNew_ris t es ((PySem.strKind P w).hash k) (.str k tk) hr
    have l1 := layNew_led t es ((PySem.strKind P w).hash k) (.str k tk)
    generalize layNew t es ((PySem.strKind P w).hash k) (.str k tk) = Z at pm f1 r1 l1 ⊢
    obtain ⟨fs, u, dm, gave⟩ := Z
    dsimp only at pm f1 r1 l1 ⊢
    rw [Array.toList_push] at pm
    have pc : fs.toList.Perm (((PySem.strKind P w).hash k, Value.str k tk) :: es.toList) := pm.trans (List.perm_append_singleton _ _)
    have pf : (fs.toList.map kOf).Perm (addL L k) := by rw [eL]; exact (pc.map kOf).trans (pmL.cons k)
    have gf : ∀ e ∈ fs.toList, Gd w e := fun e he => (List.mem_cons.mp (pc.mem_iff.mp he)).elim (fun z => z ▸ ⟨k, tk, rfl, rfl⟩) (g e)
    have hz : fs.size = L.length + 1 := by rw [← Array.length_toList, pc.length_eq, List.length_cons, Array.length_toList, hn]
    have bf : fs.size < scanBound := hz ▸ room
    have lf : Led w u := hl.imp id fun z => l1.trans z
    have gw : ∀ (b : Bool) (s1 : Shared) (Q1 : Unit → Shared → Prop), Q1 () s1 → wpAny (model P w) A (match b with | true => rule "set.scan.the-table-gave-way" | false => pure ()) Q1 E s1 :=
      fun b s1 Q1 z => by cases b <;> first | exact wpAny_pure z | exact wpAny_rule z
    refine wpAny_bind (gw _ _ _ ?_)
    split
    · refine wpAny_bind ?_
      rw [hashByValue_scannable 8 hsc]
      refine wpAny_pure ?_
      refine tailS ?_ ho hex hd gf pf (nd_addL nd) bf ?_ ?_ ?_ fun h' sb r => by dsimp only; exact wpAny_pure (hQ h' _ sb r)
      · intro b s1 Q1 z; cases b <;> first | exact wpAny_pure z | exact wpAny_rule z
      · first | (split <;> first | exact f1 | exact SetTable.fits_plain_off f1) | exact f1
      · first | (split <;> exact r1) | exact r1
      · first | (split <;> exact lf) | exact lf
    · refine wpAny_bind (wpAny_pure ?_)
      simp only [↓reduceIte]
      refine tailS ?_ ho hex hd gf pf (nd_addL nd) bf f1 r1 lf ?_
      · intro b s1 Q1 z; cases b <;> first | exact wpAny_pure z | exact wpAny_rule z
      · intro h' sb r; dsimp only; exact wpAny_pure (hQ h' _ sb r)
theorem addS {k : Str} {tk : Tok} {Q : Value → Shared → Prop} (R : SetS w s.heap a L) (room : L.length + 1 < scanBound)
    (hQ : ∀ h', Heap.SameBut a s.heap h' → SetS w h' a (addL L k) → Q .none { s with heap := h', toks := s.toks + 1 }) : wpAny (model P w) A (call (.builtin "set.add") [.ref a, .str k tk]) Q E s := by
  have hS : s.heap.SetOf (PySem.strKind P w) a (fun k => decide (k ∈ L)) L.length := R.setOf
  refine wpAny_call_entry F.slot_set_add hS.typeIs F.entry_set_add ?_ (F.args_set_add_2 _ _)
  unfold Builtin.«set.add» Builtin.Frozenset.oneOther
  simp only [List.isEmpty_nil, bind_assoc]
  unfold Builtin.Frozenset.addrOf setAdd
  refine wpAny_bind (wpAny_pure ?_)
  try dsimp only
  refine wpAny_bind (wpAny_pure ?_)
  try dsimp only
  refine wpAny_bind (wpAny_holding (wpAny_bind ((PySem.strKind P w).pyHash (isS k tk) ?_)))
  refine addS_hashed (s := { s with toks := s.toks + 1 }) R room fun h' b sb r => ?_
  show wpAny _ _ (ret Value.none) _ _ _
  exact wpAny_pure ⟨_, rfl, hQ h' sb r⟩
end
/-! a comprehension of two clauses -/
abbrev SC2 (elt t0 i0 t1 i1 : Expr) (f0 f1 : List Expr) (sc : Scope) (pos : Pos) : Expr := .SetComp elt [⟨t0, i0, f0, 0⟩, ⟨t1, i1, f1, 0⟩] sc pos
abbrev Tests (prog : Program) (w : World) (A : Around) (fs : List Expr) (env : Env) (Q : Bool → Shared → Prop) (E : Value → Shared → Prop) (s : Shared) : Prop :=
  wpAny (model prog w) A (forIn fs true fun c r => if r = true then do let ok ← isTrue c env (eval c env); pure (ForInStep.yield ok) else pure (ForInStep.yield r)) Q E s
section
variable {prog : Program} {w : World} {A : Around} {R : Result → Shared → Prop} {s : Shared} {elt t0 i0 t1 i1 : Expr} {f0 f1 : List Expr} {sc : Scope} {pos : Pos} {it acc : Value} {env : Env}
theorem turnOut : compTurn (SC2 elt t0 i0 t1 i1 f0 f1 sc pos) 0 it acc env = (do
      standAt i0.pos
      match ← pyNext it with
      | none => pure (.done .next)
      | some v =>
        letOwnedTupleGo t0 it v
        assign t0 env v
        let mut ok := true
        for c in f0 do
          if ok then ok ← isTrue c env (eval c env)
        if ok then
          let x ← eval i1 env
          standAt i1.pos
          let x ← foldedSetIterable i1 env x
          let _ ← runOwn (.compStart (SC2 elt t0 i0 t1 i1 f0 f1 sc pos) 1 (← holding [x] (pyIter x)) acc env) env
        again (.compLoop (SC2 elt t0 i0 t1 i1 f0 f1 sc pos) 0 it acc env)) := by rfl
theorem turnIn : compTurn (SC2 elt t0 i0 t1 i1 f0 f1 sc pos) 1 it acc env = (do
      standAt i1.pos
      match ← pyNext it with
      | none => pure (.done .next)
      | some v =>
        letOwnedTupleGo t1 it v
        assign t1 env v
        let mut ok := true
        for c in f1 do
          if ok then ok ← isTrue c env (eval c env)
        if ok then
          (do let v ← eval elt env; standAt elt.pos; let _ ← call (.builtin "set.add") [acc, v])
        again (.compLoop (SC2 elt t0 i0 t1 i1 f0 f1 sc pos) 1 it acc env)) := by rfl
abbrev Er (prog : Program) (w : World) (A : Around) (env : Env) (R : Result → Shared → Prop) : Value → Shared → Prop := notedBy (model prog w) A env fun e s' => R (.error e) s'
theorem loopOut (hs : ∀ x, foldedSetIterable i1 env x = pure x) (I : Nat → Shared → Prop)
    (turn : ∀ n s, I n s → wpAny (model prog w) A (pyNext it) (fun r s1 => match r with
      | none => R (.ok .next) s1
      | some v => wpAny (model prog w) A (letOwnedTupleGo t0 it v) (fun _ s2 => wpAny (model prog w) A (assign t0 env v) (fun _ s3 => Tests prog w A f0 env (fun ok s4 =>
            if ok = true then wpAny (model prog w) A (eval i1 env) (fun x s5 => wpAny (model prog w) A (pyIter x) (fun it1 s6 => codeAny (model prog w) A (.compStart (SC2 elt t0 i0 t1 i1 f0 f1 sc pos) 1 it1 acc env) (fun r s' => match r with
                | .ok _ => ∃ m, m < n ∧ I m s'
                | .error _ => False) s6) (Er prog w A env R) s5) (Er prog w A env R) s4
            else ∃ m, m < n ∧ I m s4) (Er prog w A env R) s3) (Er prog w A env R) s2) (Er prog w A env R) s1) (Er prog w A env R) s) (n : Nat) (h : I n s) :
    codeAny (model prog w) A (.compLoop (SC2 elt t0 i0 t1 i1 f0 f1 sc pos) 0 it acc env) R s := by
  refine codeAny_loop rfl I (fun n s hI => ?_) n h
  show wpAny _ A ((compTurn (SC2 elt t0 i0 t1 i1 f0 f1 sc pos) 0 it acc env).onRaise (fun x => do noteFrame x env; theTreesLotGoes x)) _ _ s
  refine wpAny_noted ?_
  rw [turnOut]
  refine wpAny_bind (wpAny_standAt (wpAny_bind (wpAny_mono (turn n s hI) (fun r s1 h1 => ?_) fun _ _ z => z)))
  cases r with
  | none => exact wpAny_pure h1
  | some v =>
    refine wpAny_bind (wpAny_mono h1 (fun _ s2 h2 => wpAny_bind (wpAny_mono h2 (fun _ s3 h3 => wpAny_bind (wpAny_mono h3 (fun ok s4 h4 => ?_) fun _ _ z => z)) fun _ _ z => z)) fun _ _ z => z)
    cases ok with
    | false => exact wpAny_pure ⟨rfl, h4⟩
    | true =>
      refine wpAny_bind (wpAny_mono h4 (fun x s5 h5 => wpAny_bind (wpAny_standAt (wpAny_bind (wpAny_of_eq (hs x) (wpAny_bind (wpAny_holding (wpAny_mono h5 (fun it1 s6 h6 => ?_) fun _ _ z => z))))))) fun _ _ z => z)
      refine wpAny_bind (wpAny_runOwn ?_)
      rw [Around.mark_none]
      refine codeAny_mono h6 fun r s' hr => ?_
      cases r with
      | ok f => first | exact wpAny_pure ⟨rfl, hr⟩ | exact wpAny_bind (wpAny_pure (wpAny_pure ⟨rfl, hr⟩))
      | error e => exact hr.elim
theorem loopIn (I : Nat → Shared → Prop)
    (turn : ∀ n s, I n s → wpAny (model prog w) A (pyNext it) (fun r s1 => match r with
      | none => R (.ok .next) s1
      | some v => wpAny (model prog w) A (letOwnedTupleGo t1 it v) (fun _ s2 => wpAny (model prog w) A (assign t1 env v) (fun _ s3 => Tests prog w A f1 env (fun ok s4 =>
            if ok = true then wpAny (model prog w) A (eval elt env) (fun x s5 => wpAny (model prog w) A (call (.builtin "set.add") [acc, x]) (fun _ s6 => ∃ m, m < n ∧ I m s6) (Er prog w A env R) s5) (Er prog w A env R) s4
            else ∃ m, m < n ∧ I m s4) (Er prog w A env R) s3) (Er prog w A env R) s2) (Er prog w A env R) s1) (Er prog w A env R) s) (n : Nat) (h : I n s) :
    codeAny (model prog w) A (.compLoop (SC2 elt t0 i0 t1 i1 f0 f1 sc pos) 1 it acc env) R s := by
  refine codeAny_loop rfl I (fun n s hI => ?_) n h
  show wpAny _ A ((compTurn (SC2 elt t0 i0 t1 i1 f0 f1 sc pos) 1 it acc env).onRaise (fun x => do noteFrame x env; theTreesLotGoes x)) _ _ s
  refine wpAny_noted ?_
  rw [turnIn]
  refine wpAny_bind (wpAny_standAt (wpAny_bind (wpAny_mono (turn n s hI) (fun r s1 h1 => ?_) fun _ _ z => z)))
  cases r with
  | none => exact wpAny_pure h1
  | some v =>
    refine wpAny_bind (wpAny_mono h1 (fun _ s2 h2 => wpAny_bind (wpAny_mono h2 (fun _ s3 h3 => wpAny_bind (wpAny_mono h3 (fun ok s4 h4 => ?_) fun _ _ z => z)) fun _ _ z => z)) fun _ _ z => z)
    cases ok with
    | false => exact wpAny_pure ⟨rfl, h4⟩
    | true => exact wpAny_bind (wpAny_bind (wpAny_mono h4 (fun x s5 h5 => wpAny_bind (wpAny_standAt (wpAny_bind (wpAny_mono h5 (fun _ s6 h6 => wpAny_pure (wpAny_pure ⟨rfl, h6⟩)) fun _ _ z => z)))) fun _ _ z => z))
theorem startIn (h0 : codeAny (model prog w) A (.compLoop (SC2 elt t0 i0 t1 i1 f0 f1 sc pos) 1 it acc env) R s)
    (h : wpAny (model prog w) A (pyIter it) (fun it' s' => codeAny (model prog w) A (.compLoop (SC2 elt t0 i0 t1 i1 f0 f1 sc pos) 1 it' acc env) R s') (Er prog w A env R) s) :
    codeAny (model prog w) A (.compStart (SC2 elt t0 i0 t1 i1 f0 f1 sc pos) 1 it acc env) R s := by
  refine codeAny_of_tree ?_
  show wpAny _ _ ((compStart (SC2 elt t0 i0 t1 i1 f0 f1 sc pos) 1 it acc env).onRaise (fun x => do noteFrame x env; standAt theWindowsPlace)) _ _ s
  refine wpAny_notedAt ?_
  unfold compStart
  show wpAny _ _ (ask >>= _) _ _ s
  refine wpAny_bind (wpAny_askSetting (wpAny_ite ?_))
  split
  · first | exact wpAny_bind (wpAny_pure (wpAny_pure (And.intro rfl h0))) | exact wpAny_pure (And.intro rfl h0)
  · first
      | exact wpAny_bind (wpAny_rule (wpAny_bind (wpAny_standAt (wpAny_bind (wpAny_mono h (fun it' s' z => wpAny_pure (And.intro rfl z)) fun _ _ z => z)))))
      | (refine wpAny_bind (wpAny_rule ?_); show wpAny _ _ (standAt i1.pos >>= _) _ _ s; exact wpAny_bind (wpAny_standAt (wpAny_bind (wpAny_mono h (fun it' s' z => wpAny_pure (And.intro rfl z)) fun _ _ z => z))))
end
/-! as a tracked thing -/
def SetSO (w : World) (a : Addr) (L : List Str) : HO := .ext fun h => SetS w h a L
theorem setSO_new {w : World} {P : Program} {H : Hp} {h : Heap} {a : Addr} {L : List Str} (R : SetS w h a L) : ObjOk P w H h a (SetSO w a L) := let ⟨o, _, _, _, ho, _⟩ := id R; ⟨R, ⟨o, ho⟩, fun h1 h2 p k => SetS.at p k⟩
abbrev emptySet (w : World) : Obj := { cls := .type "set", dict := none, data := .set #[] 0 (.fresh 0 0 (!w.params.followText "set-order")) }
theorem setS_fresh {h : Heap} (w : World) : SetS w (h.push (emptySet w)) h.objs.size [] :=
  ⟨_, #[], 0, _, Heap.get?_push_size _ rfl, ⟨rfl, rfl, rfl⟩, rfl, (fun e he => by simp at he), (by simp), .nil, (by decide), (by rfl), List.Pairwise.nil, by
    show _ ∨ (!w.params.followText "set-order") = true
    cases w.params.followText "set-order"
    · exact .inr rfl
    · exact .inl rfl⟩
section
variable {X : Cx}
theorem setSO_get {pins : List (Addr × Obj)} {σ : L2.St} {H : Hp} {s : Shared} {a : Addr} {L : List Str} (I : Inv X pins σ H s) (ha : H a = some (SetSO X.w a L)) : SetS X.w s.heap a L := (I.hok a _ ha).1
theorem addS_ok {pins : List (Addr × Obj)} {σ : L2.St} {H : Hp} {s : Shared} {E : Value → Shared → Prop} {D : Addr} {L : List Str} {y : Str} {u : Tok} {Q : Value → Shared → Prop} (I : Inv X pins σ H s) (hD : H D = some (SetSO X.w D L)) (room : L.length + 1 < scanBound)
    (h : ∀ s', Inv X pins σ (upd H D (SetSO X.w D (addL L y))) s' → Q .none s') : wpAny (model X.prog X.w) X.A (call (.builtin "set.add") [.ref D, .str y u]) Q E s :=
  addS (setSO_get I hD) room fun h' sb new => h _ (I.write (e := D) (t' := s.toks + 1) (by rw [hD]; trivial) (.inl rfl) (fun b o hb e => (sb.2 b hb).trans e) (let ⟨o, _, _, _, ho, _⟩ := id new; ⟨o, ho⟩) (setSO_new new))
/-- {elt for tg in iter if .. for tg1 in iter1 if ..}, elt a text: D the new set -/
def tSc2 (w : World) (wi : TI) (g : TG) (tt : TT) (wi1 : TI) (g1 : TG) (tt1 : TT) (te : TE) (vs vs1 : List Nat) : TE := fun σ H Q => wi σ H fun J H1 => ∀ D, H1 D = none → ∃ W : Nat → Nat → Hp → Prop, (∃ m, W 0 m (upd H1 D (SetSO w D []))) ∧ ∀ i m H, W i m H →
  (J.stop i H ∧ Q (.ref D) H) ∨ (J.go i H ∧ ∃ Nx : Hp → Prop, (∀ H', Nx H' → ∃ m', m' < m ∧ W (i + 1) m' H') ∧ ∀ x H', J.yld i H x H' → g x (wipe σ vs) H' fun σ2 H2 => wipe σ2 vs = wipe σ vs ∧ tt σ2 H2 fun b H3 =>
    if b = true then wi1 σ2 H3 fun J1 H4 => ∃ W1 : Nat → Nat → Hp → Prop, (∃ m, W1 0 m H4) ∧ ∀ j k H, W1 j k H →
      (J1.stop j H ∧ Nx H) ∨ (J1.go j H ∧ ∃ Nx1 : Hp → Prop, (∀ H', Nx1 H' → ∃ k', k' < k ∧ W1 (j + 1) k' H') ∧ ∀ x H', J1.yld j H x H' → g1 x (wipe σ2 vs1) H' fun σ3 H5 => wipe σ3 vs1 = wipe σ2 vs1 ∧ tt1 σ3 H5 fun b H6 =>
        if b = true then te σ3 H6 fun y H7 => ∃ k L, y = .str k ∧ H7 D = some (SetSO w D L) ∧ L.length + 1 < scanBound ∧ Nx1 (upd H7 D (SetSO w D (addL L k))) else Nx1 H6)
    else Nx H3)
abbrev Blk (X : Cx) (sc : Scope) (s : Shared) (H : Hp) (C : Addr) (cl : List (PySem.Str × Addr)) (fp : List Addr) : Cx := X.blk s H sc (compEnvC sc cl C X.env) fp
theorem sc2_core {pins : List (Addr × Obj)} {s : Shared} {σ : L2.St} {H : Hp} {Q : VK} {elt tg iter tg1 iter1 : Expr} {ifs ifs1 : List Expr} {sc : Scope} {own : List (PySem.Str × Nat)} {vs1 : List Nat} {pos pos' : Pos} {wi wi1 : TI} {g g1 : TG} {tt tt1 : TT} {te : TE} {use : Option (Value → Sem Unit)} {Qf : Value → Shared → Prop}
    (hc : X.calm = true) (hN : X.N.Nodup) (I : Inv X pins σ H s) (hi : PI X tg iter wi) (ok : BlkOk X.N X.env.scope sc own) (hv : ∀ i ∈ vs1, i ∈ own.map (·.2))
    (hg : ∀ s H C cl fp, PG (Blk X sc s H C cl fp) tg g) (ht : ∀ s H C cl fp, PTs (Blk X sc s H C cl fp) ifs tt) (he : ∀ s H C cl fp, PE (Blk X sc s H C cl fp) elt te) (hs : ∀ x, foldedSetIterable iter X.env x = pure x)
    (hi1 : ∀ s H C cl fp, PI (Blk X sc s H C cl fp) tg1 iter1 wi1) (hg1 : ∀ s H C cl fp, PG (Blk X sc s H C cl fp) tg1 g1) (ht1 : ∀ s H C cl fp, PTs (Blk X sc s H C cl fp) ifs1 tt1) (hs1 : ∀ env x, foldedSetIterable iter1 env x = pure x)
    (h : tSc2 X.w wi g tt wi1 g1 tt1 te (own.map (·.2)) vs1 σ H Q)
    (hRR : ∀ D C s' m H', Inv X pins σ H' s' → Q (.ref D) H' → s'.heap.Ns C m → FpOk X pins H' C → compPost (model X.prog X.w) X.A X.xe use Qf (.ref D) C (.ok .next) s') :
    wpAny (model X.prog X.w) X.A (comprehension (SC2 elt tg iter tg1 iter1 ifs ifs1 sc pos) sc X.env pos' (newSet (.type "set")) false (eval iter X.env) use) Qf X.xe s := by
  have hfree : ∀ y ∈ sc.names, y.2 = .free → ∃ c, X.env.cells.lookup y.1 = some c := fun y hy e => (ok.free y hy e).elim (fun k => I.ok.has _ (.inl k)) fun k => I.ok.has _ (.inr k)
  refine wpAny_comprehension_free (use := use) rfl hs (closure_ok hfree) ok.kind (fun y hy e => by rw [ok.uniq y hy, e]) (thn (hi.run pins s σ H _ I h) fun xv s1 hx => thn hx fun itv s2 h2 => ?_)
  obtain ⟨it, fp, tn, J, H2, e, I2, T, st2, f2, q⟩ := h2
  subst e
  refine PpSet.newSet_ok (newEnv_comp ?_)
  generalize hD : s2.heap.objs.size = D
  have hDn : H2 D = none := I2.hok.fresh (Nat.le_of_eq hD)
  obtain ⟨W, ⟨m0, w0⟩, turn⟩ := q D hDn
  generalize hs3 : ({ s2 with heap := s2.heap.push (emptySet X.w) } : Shared) = s3
  have I3 : Inv X pins σ (upd H2 D (SetSO X.w D [])) s3 := by
    rw [← hs3]
    exact I2.laid (t' := s2.toks) (fun b o e => Heap.get?_push_of_some _ e) (Nat.le_of_eq hD) (hD ▸ setSO_new (setS_fresh X.w))
  have h3 : s3.heap = s2.heap.push (emptySet X.w) := by rw [← hs3]
  have sz : ∀ b ∈ fp, b < s2.heap.objs.size := fun b hb => let ⟨o, e, _⟩ := T.obj _ _ st2 b hb; Heap.lt_size e
  have f3 : ∀ b ∈ fp, FpOk X pins (upd H2 D (SetSO X.w D [])) b ∧ b < s3.heap.objs.size := fun b hb =>
    ⟨⟨by rw [upd_ne (by rw [← hD]; exact Nat.ne_of_lt (sz b hb))]; exact (f2 b hb).1, (f2 b hb).2⟩, by rw [h3, Heap.size_push]; exact Nat.lt_succ_of_lt (sz b hb)⟩
  have st3 : tn 0 s3.heap := T.keep _ _ _ st2 fun b _ o e => by rw [h3]; exact Heap.get?_push_of_some _ e
  have I4 := block_start I3 ok hN f3
  generalize hcl : cellsFrom (s3.heap.objs.size + 1) sc.names (cloFrom X.env.cells sc.names []) = cl at I4
  have pg : PG (X.blk s3 (upd H2 D (SetSO X.w D [])) sc (compEnvC sc cl s3.heap.objs.size X.env) fp) tg g := hg s3 _ _ cl fp
  have pt : PTs (X.blk s3 (upd H2 D (SetSO X.w D [])) sc (compEnvC sc cl s3.heap.objs.size X.env) fp) ifs tt := ht s3 _ _ cl fp
  have pe : PE (X.blk s3 (upd H2 D (SetSO X.w D [])) sc (compEnvC sc cl s3.heap.objs.size X.env) fp) elt te := he s3 _ _ cl fp
  have pi1 : PI (X.blk s3 (upd H2 D (SetSO X.w D [])) sc (compEnvC sc cl s3.heap.objs.size X.env) fp) tg1 iter1 wi1 := hi1 s3 _ _ cl fp
  have pg1 : PG (X.blk s3 (upd H2 D (SetSO X.w D [])) sc (compEnvC sc cl s3.heap.objs.size X.env) fp) tg1 g1 := hg1 s3 _ _ cl fp
  have pt1 : PTs (X.blk s3 (upd H2 D (SetSO X.w D [])) sc (compEnvC sc cl s3.heap.objs.size X.env) fp) ifs1 tt1 := ht1 s3 _ _ cl fp
  show codeAny _ _ (.compStart (SC2 elt tg iter tg1 iter1 ifs ifs1 sc pos) 0 (.ref it) (.ref D) (compEnvC sc cl s3.heap.objs.size X.env)) (compPost (model X.prog X.w) X.A X.xe use Qf (.ref D) s3.heap.objs.size) { s3 with heap := pushCells (s3.heap.push { cls := .type "dict", data := .dict #[] }) sc.names }
  have nfp : ∀ b ∈ fp, (upd H2 D (SetSO X.w D [])) b = none := fun b hb => (f3 b hb).1.1
  generalize hce : compEnvC sc cl s3.heap.objs.size X.env = ce at I4 pg pt pe pi1 pg1 pt1 ⊢
  have cL : ce.locals = s3.heap.objs.size := by subst hce; rfl
  generalize hH3 : upd H2 D (SetSO X.w D []) = H3 at I3 I4 pg pt pe pi1 pg1 pt1 w0 nfp f3
  generalize hs4 : ({ s3 with heap := pushCells (s3.heap.push { cls := .type "dict", data := .dict #[] }) sc.names } : Shared) = s4 at I4 ⊢
  have st4 : tn 0 s4.heap := T.keep _ _ _ st3 fun b _ o e => by rw [← hs4]; exact pushCells_keeps _ _ _ _ (Heap.get?_push_of_some _ e)
  have stat : ∀ {σ' : L2.St} {H' : Hp} {s' : Shared}, Inv (X.blk s3 H3 sc ce fp) [] σ' H' s' → (∀ b ∈ fp, H' b = none) → ∀ b ∈ fp, FpOk (X.blk s3 H3 sc ce fp) [] H' b := fun I' hn b hb =>
    ⟨hn b hb, (I'.ok.exf b hb).1, I'.ok.exfs b hb, .inl hb, fun x c e => (I'.ok.exf b hb).2 x c e, fun p hp => absurd (show p ∈ ([] : List (Addr × Obj)) ++ [] from hp) (by simp)⟩
  have loop : codeAny (model X.prog X.w) X.A (.compLoop (SC2 elt tg iter tg1 iter1 ifs ifs1 sc pos) 0 (.ref it) (.ref D) ce) (compPost (model X.prog X.w) X.A X.xe use Qf (.ref D) s3.heap.objs.size) s4 := by
    refine loopOut (hs1 ce) (fun n s' => ∃ i H', Inv (X.blk s3 H3 sc ce fp) [] (wipe σ (own.map (·.2))) H' s' ∧ tn i s'.heap ∧ (∀ b ∈ fp, H' b = none) ∧ W i n H') ?_ m0 ⟨0, H3, I4, st4, nfp, w0⟩
    rintro n s5 ⟨i, H5, I5, st5, n5, w5⟩
    rcases turn i n H5 w5 with ⟨stop, qq⟩ | ⟨go, Nx, hNx, step⟩
    · refine thnF (T.done (X.blk s3 H3 sc ce fp) rfl rfl rfl hc i [] s5 _ H5 (fun _ _ => False) I5 (stat I5 n5) st5 stop) fun r s6 ⟨hr, I6⟩ => ?_
      subst hr
      have I7 : Inv X pins σ H5 s6 := I3.call' (ch := fp) I6.os I6.base I6.hok I6.bare fun b hb => let z := (f3 b hb).1.2; ⟨z.2.2.1, z.1, z.2.2.2.1, z.2.2.2.2⟩
      have nC : H5 s3.heap.objs.size = none := cL ▸ (show H5 ce.locals = none from I6.free)
      obtain ⟨m, hn, -⟩ := I6.loc
      exact hRR D s3.heap.objs.size s6 m H5 I7 qq (cL ▸ (show s6.heap.Ns ce.locals m from hn)) (I3.fpOk (Nat.le_refl _) nC)
    · refine thnF (T.item (X.blk s3 H3 sc ce fp) rfl rfl rfl hc i [] s5 _ H5 (fun _ _ => False) I5 (stat I5 n5) st5 go) fun r s6 ⟨u, hr, h6⟩ => ?_
      subst hr
      refine thnF h6 fun _ s7 ⟨x, H7, I7, r7, y7, st7, n7⟩ => ?_
      have I7' := I7.pinned (stat I7 n7) (T.obj _ _ st7)
      refine thnF (pg.run _ s7 _ H7 x u _ I7' r7 (step x H7 y7)) fun _ s8 ⟨σ8, H8, I8, hw8, q8⟩ => thnF (pt.run _ s8 σ8 H8 _ I8 q8) fun b s9 ⟨H9, I9, q9⟩ => ?_
      have fin : ∀ {σ9 : L2.St} {s' : Shared} {H' : Hp}, Inv (X.blk s3 H3 sc ce fp) ([] ++ pinsAt fp s7.heap) σ9 H' s' → (wipe σ (own.map (·.2))).length = σ9.length → (∀ (j : Nat) v, (wipe σ (own.map (·.2)))[j]? = some (some v) → σ9[j]? = some (some v)) → Nx H' →
          ∃ m, m < n ∧ ∃ i H', Inv (X.blk s3 H3 sc ce fp) [] (wipe σ (own.map (·.2))) H' s' ∧ tn i s'.heap ∧ (∀ b ∈ fp, H' b = none) ∧ W i m H' := fun {σ9 s' H'} I' hl hk nx => by
        obtain ⟨m', hm, w'⟩ := hNx H' nx
        have pin' : ∀ b ∈ fp, ∀ o, s7.heap.get? b = some o → s'.heap.get? b = some o ∧ H' b = none := fun b hb o e =>
          let z := I'.pin (b, o) (List.mem_append_right _ (List.mem_append_right _ (mem_pinsAt hb e))); ⟨z.1, z.2.1⟩
        exact ⟨m', hm, i + 1, H', (I'.unpinned (pins := [])).weak hl hk, T.keep _ _ _ st7 fun b hb o e => (pin' b hb o e).1, fun b hb => let ⟨o, e, _⟩ := T.obj _ _ st7 b hb; (pin' b hb o e).2, w'⟩
      have hl8 : (wipe σ (own.map (·.2))).length = σ8.length := by rw [← hw8, wipe_length]
      have hk8 : ∀ (j : Nat) v, (wipe σ (own.map (·.2)))[j]? = some (some v) → σ8[j]? = some (some v) := fun j v e => (wipe_some (hw8 ▸ e)).1
      have hk9 : ∀ (j : Nat) v, (wipe σ (own.map (·.2)))[j]? = some (some v) → (wipe σ8 vs1)[j]? = some (some v) := fun j v e => by
        rw [← hw8] at e
        rw [wipe_out fun z => (wipe_some e).2 (hv j z)]
        exact (wipe_some e).1
      cases b with
      | false => simp only [Bool.false_eq_true, if_false] at q9 ⊢; exact fin I9 hl8 hk8 q9
      | true =>
        simp only [if_true] at q9 ⊢
        refine thnF (pi1.run _ s9 σ8 H9 _ I9 q9) fun xv s10 hx => thnF hx fun itv s11 h11 => ?_
        obtain ⟨it1, fp1, tn1, J1, H11, e1, I11, T1, st11, f11, W1, ⟨m1, w1⟩, turn1⟩ := h11
        subst e1
        have stat1 : ∀ {H' : Hp}, (∀ b ∈ fp1, H' b = none) → ∀ b ∈ fp1, FpOk (X.blk s3 H3 sc ce fp) ([] ++ pinsAt fp s7.heap) H' b := fun hn b hb => ⟨hn b hb, (f11 b hb).2⟩
        have loop1 : codeAny (model X.prog X.w) X.A (.compLoop (SC2 elt tg iter tg1 iter1 ifs ifs1 sc pos) 1 (.ref it1) (.ref D) ce)
            (fun r s' => match r with
              | .ok _ => ∃ m, m < n ∧ ∃ i H', Inv (X.blk s3 H3 sc ce fp) [] (wipe σ (own.map (·.2))) H' s' ∧ tn i s'.heap ∧ (∀ b ∈ fp, H' b = none) ∧ W i m H'
              | .error _ => False) s11 := by
          refine loopIn (fun k s' => ∃ j H', Inv (X.blk s3 H3 sc ce fp) ([] ++ pinsAt fp s7.heap) (wipe σ8 vs1) H' s' ∧ tn1 j s'.heap ∧ (∀ b ∈ fp1, H' b = none) ∧ W1 j k H') ?_ m1 ⟨0, H11, I11.weak (wipe_length _ _) (fun j v e => (wipe_some e).1), st11, fun b hb => (f11 b hb).1, w1⟩
          rintro k s12 ⟨j, H12, I12, st12, n12, w12⟩
          rcases turn1 j k H12 w12 with ⟨stop1, nx1⟩ | ⟨go1, Nx1, hNx1, step1⟩
          · refine thnF (T1.done (X.blk s3 H3 sc ce fp) rfl rfl rfl hc j _ s12 (wipe σ8 vs1) H12 (fun _ _ => False) I12 (stat1 n12) st12 stop1) fun r s13 ⟨hr, I13⟩ => ?_
            subst hr
            exact fin I13 (hl8.trans (wipe_length σ8 vs1).symm) hk9 nx1
          · refine thnF (T1.item (X.blk s3 H3 sc ce fp) rfl rfl rfl hc j _ s12 (wipe σ8 vs1) H12 (fun _ _ => False) I12 (stat1 n12) st12 go1) fun r s13 ⟨u1, hr, h13⟩ => ?_
            subst hr
            refine thnF h13 fun _ s14 ⟨x1, H14, I14, r14, y14, st14, n14⟩ => ?_
            have I14' := I14.pinned (stat1 n14) (T1.obj _ _ st14)
            refine thnF (pg1.run _ s14 (wipe σ8 vs1) H14 x1 u1 _ I14' r14 (step1 x1 H14 y14)) fun _ s15 ⟨σ15, H15, I15, hw15, q15⟩ => thnF (pt1.run _ s15 σ15 H15 _ I15 q15) fun b1 s16 ⟨H16, I16, q16⟩ => ?_
            have fin1 : ∀ {s' : Shared} {H' : Hp}, Inv (X.blk s3 H3 sc ce fp) (([] ++ pinsAt fp s7.heap) ++ pinsAt fp1 s14.heap) σ15 H' s' → Nx1 H' → ∃ m, m < k ∧ ∃ j H', Inv (X.blk s3 H3 sc ce fp) ([] ++ pinsAt fp s7.heap) (wipe σ8 vs1) H' s' ∧ tn1 j s'.heap ∧ (∀ b ∈ fp1, H' b = none) ∧ W1 j m H' := fun {s' H'} I' nx => by
              obtain ⟨m', hm, w'⟩ := hNx1 H' nx
              have pin' : ∀ b ∈ fp1, ∀ o, s14.heap.get? b = some o → s'.heap.get? b = some o ∧ H' b = none := fun b hb o e =>
                let z := I'.pin (b, o) (List.mem_append_right _ (List.mem_append_right _ (mem_pinsAt hb e))); ⟨z.1, z.2.1⟩
              exact ⟨m', hm, j + 1, H', I'.unpinned.weak (by rw [← hw15, wipe_length]) (fun j v e => (wipe_some (hw15 ▸ e)).1), T1.keep _ _ _ st14 fun b hb o e => (pin' b hb o e).1, fun b hb => let ⟨o, e, _⟩ := T1.obj _ _ st14 b hb; (pin' b hb o e).2, w'⟩
            cases b1 with
            | false => simp only [Bool.false_eq_true, if_false] at q16 ⊢; exact fin1 I16 q16
            | true =>
              simp only [if_true] at q16 ⊢
              refine thnF (pe.run _ s16 σ15 H16 _ I16 q16) fun z s17 ⟨yv, H17, I17, r17, ky, L17, ey, hD17, hz17, nx⟩ => ?_
              subst ey
              obtain ⟨tk, rfl⟩ := r17
              exact addS_ok (X := X.blk s3 H3 sc ce fp) I17 hD17 hz17 fun s18 I18 => fin1 I18 nx
        exact startIn loop1 (T1.self X.A 0 _ _ _ st11 loop1)
  exact PpSet.codeAny_compStart_set loop (T.self X.A 0 _ _ _ st4 loop)
/-- as a value -/
theorem pe_sc2 {elt tg iter tg1 iter1 : Expr} {ifs ifs1 : List Expr} {sc : Scope} {own : List (PySem.Str × Nat)} {vs1 : List Nat} {pos : Pos} {wi wi1 : TI} {g g1 : TG} {tt tt1 : TT} {te : TE} (hc : X.calm = true) (hN : X.N.Nodup) (hi : PI X tg iter wi) (ok : BlkOk X.N X.env.scope sc own) (hv : ∀ i ∈ vs1, i ∈ own.map (·.2))
    (hg : ∀ s H C cl fp, PG (Blk X sc s H C cl fp) tg g) (ht : ∀ s H C cl fp, PTs (Blk X sc s H C cl fp) ifs tt) (hi1 : ∀ s H C cl fp, PI (Blk X sc s H C cl fp) tg1 iter1 wi1) (hg1 : ∀ s H C cl fp, PG (Blk X sc s H C cl fp) tg1 g1) (ht1 : ∀ s H C cl fp, PTs (Blk X sc s H C cl fp) ifs1 tt1)
    (he : ∀ s H C cl fp, PE (Blk X sc s H C cl fp) elt te) (hs : ∀ x, foldedSetIterable iter X.env x = pure x := by intro _; rfl) (hs1 : ∀ env x, foldedSetIterable iter1 env x = pure x := by intro _ _; rfl) :
    PE X (SC2 elt tg iter tg1 iter1 ifs ifs1 sc pos) (tSc2 X.w wi g tt wi1 g1 tt1 te (own.map (·.2)) vs1) := by
  refine ⟨fun pins s σ H Q I h => ?_⟩
  rw [PpSet.eval_SetComp]
  refine sc2_core hc hN I hi ok hv hg ht he hs hi1 hg1 ht1 hs1 h fun D C s' m H' I' q hn f => ⟨m, hn, fun h'' sb => ?_⟩
  obtain ⟨f0, f1, f2, f3, f4, f5⟩ := f
  exact ⟨.ref D, H', I'.turned (t' := s'.toks) (fun b o hb e => (sb.2 b hb).trans e) f0 f1 f3 f4 f5, rfl, q⟩
/-- sorted of such a set, fewer than 64 members -/
def rSortS (w : World) : List V → Hp → VK → Prop := fun vs H Q => ∃ (a : Addr) (L : List Str), vs = [V.ref a] ∧ H a = some (SetSO w a L) ∧ L.length < 64 ∧ ∀ (ys : List Str) (p : Addr), ys.Perm L → sortedS ys = true → H p = none → Q (.ref p) (upd H p (.lst (ys.map V.str)))
theorem strs_of : ∀ (l : List Value), (∀ v ∈ l, ∃ k tk, v = Value.str k tk) → StrsAre l (l.map fun v => kOf (0, v))
  | [], _ => .nil
  | v :: l, h => by
    obtain ⟨k, tk, rfl⟩ := h v List.mem_cons_self
    exact .cons k tk (strs_of l fun u hu => h u (List.mem_cons_of_mem _ hu))
theorem cr_sortS (hc : X.calm = true) : CallR X (.builtin "sorted") (rSortS X.w) := by
  intro pins s σ H vs us Q I r h
  obtain ⟨a, L, rfl, ha, h64, q⟩ := h
  have R := setSO_get I ha
  have hlen := @SetS.len _ _ _ _ R
  rw [Vals.ref1 r]
  obtain ⟨o, es, ep, t, ho, hex, hd, g, pmL, nd, hb, hf, hr, hl⟩ := R
  have hn : es.size = L.length := hlen ho hd
  refine Calls.call_function_entry kind_sorted plain_sorted entry_sorted (args_sorted1 _) ?_
  unfold Builtin.«sorted»
  refine wpAny_bind (m := checkCount "sorted" 1 1 _) (wpAny_pure (wpAny_bind (collect_set (A := X.A.in1) (I.ok.hd hc) ⟨o, ho, hex.1, hd⟩ hf hb hr hl fun s1 ws k1 hz g1 o1 pm => ?_)))
  have hvl : ws.length = L.length := by rw [pm.length_eq, List.length_map, Array.length_toList]; exact hn
  have hS : StrsAre ws (ws.map fun v => kOf (0, v)) := strs_of ws fun v hv => by
    obtain ⟨e, he, z⟩ := List.mem_map.mp (pm.mem_iff.mp hv)
    obtain ⟨k, tk, h1, -⟩ := g e he
    exact ⟨k, tk, by rw [← z]; exact h1⟩
  have pk : (ws.map fun v => kOf (0, v)).Perm L := by
    have z := pm.map fun v => kOf (0, v)
    rw [List.map_map] at z
    exact z.trans pmL
  have I1 : Inv X pins σ H s1 := by
    have e : s1 = { s with heap := s1.heap, gens := s1.gens, drawn := s1.drawn, toks := s1.toks } := by cases s1; cases s; cases o1; rfl
    rw [e]
    exact I.call (ch := []) (Un.kept k1) (I.hok.kept k1) (by rw [g1]; exact I.bare) (fun _ z => nomatch z)
  refine wpAny_bind (wpAny_newList ?_ (by rw [hvl, sizeLine_eq]; omega))
  have hoL : (s1.heap.push (seqObj "list" ws.toArray 0)).get? s1.heap.objs.size = some (seqObj "list" ws.toArray 0) := Heap.get?_push_size _ rfl
  refine wpAny_bind (wpAny_holding (wpAny_call_entry slot_list_sort ⟨_, hoL, rfl⟩ entry_list_sort (list_sort_treeK strKind_oneLt (s := { s1 with heap := s1.heap.push (seqObj "list" ws.toArray 0) }) hoL hS.keysOf (fun v₁ v₂ rest e => keyKind_strs (by rw [← e]; exact hS)) (by rw [hvl]; exact h64) fun st' hp hs => ⟨_, rfl, ?_⟩) (args_list_sort _)))
  obtain ⟨ys, y1, y2, y3⟩ := sorted_out_str hS hp hs
  obtain ⟨e', he'⟩ := sortedHeap_at (vs := ws) (out := (arrOf st').map (·.2)) hoL
  have hl2 : (ys.map V.str).length ≤ sizeLine := by
    rw [List.length_map, y2.length_eq, pk.length_eq, sizeLine_eq]
    omega
  refine wpAny_pure ⟨_, rfl, .ref s1.heap.objs.size, upd H s1.heap.objs.size (.lst (ys.map V.str)), I1.laid (t' := s1.toks) (fun b u e => ?_) (Nat.le_refl _) (show ObjOk X.prog X.w _ _ _ (.lst (ys.map V.str)) from ⟨hl2, ((arrOf st').map (·.2)).toList, e', vals_of_strs y1, by rw [Array.toArray_toList]; exact he'⟩), rfl, q ys _ (y2.trans pk) y3 (I1.hok.fresh (Nat.le_refl _))⟩
  show (sortedHeap (s1.heap.push (seqObj "list" ws.toArray 0)) s1.heap.objs.size ws _).get? b = some u
  have hlt := Heap.lt_size e
  rw [sortedHeap_old (Nat.ne_of_lt hlt) (by rw [size_push']; exact Nat.lt_succ_of_lt hlt)]
  exact Heap.get?_push_of_some _ e
end
/-- walked: the outer clause -/
theorem sc2_it {J : It} {n : Nat} {G : Hp → Prop} {Y : Nat → Hp → V → Hp → Prop} (wk : Walk J n G Y) {w : World} {g g1 : TG} {tt tt1 : TT} {wi1 : TI} {te : TE} {vs vs1 : List Nat} {σ : L2.St} {H1 : Hp} {D : Addr} {Qd : Hp → Prop} (Pv : Nat → Hp → Prop) (h0 : Pv 0 (upd H1 D (SetSO w D []))) (hG : ∀ i H, i ≤ n → Pv i H → G H)
    (hs : ∀ i x H H', i < n → Pv i H → Y i H x H' → g x (wipe σ vs) H' fun σ2 H2 => wipe σ2 vs = wipe σ vs ∧ tt σ2 H2 fun b H3 =>
      if b = true then wi1 σ2 H3 fun J1 H4 => ∃ W1 : Nat → Nat → Hp → Prop, (∃ m, W1 0 m H4) ∧ ∀ j k H, W1 j k H →
        (J1.stop j H ∧ Pv (i + 1) H) ∨ (J1.go j H ∧ ∃ Nx1 : Hp → Prop, (∀ H', Nx1 H' → ∃ k', k' < k ∧ W1 (j + 1) k' H') ∧ ∀ x H', J1.yld j H x H' → g1 x (wipe σ2 vs1) H' fun σ3 H5 => wipe σ3 vs1 = wipe σ2 vs1 ∧ tt1 σ3 H5 fun b H6 =>
          if b = true then te σ3 H6 fun y H7 => ∃ k L, y = .str k ∧ H7 D = some (SetSO w D L) ∧ L.length + 1 < scanBound ∧ Nx1 (upd H7 D (SetSO w D (addL L k))) else Nx1 H6)
      else Pv (i + 1) H3) (hd : ∀ H, Pv n H → Qd H) :
    ∃ W : Nat → Nat → Hp → Prop, (∃ m, W 0 m (upd H1 D (SetSO w D []))) ∧ ∀ i m H, W i m H →
      (J.stop i H ∧ Qd H) ∨ (J.go i H ∧ ∃ Nx : Hp → Prop, (∀ H', Nx H' → ∃ m', m' < m ∧ W (i + 1) m' H') ∧ ∀ x H', J.yld i H x H' → g x (wipe σ vs) H' fun σ2 H2 => wipe σ2 vs = wipe σ vs ∧ tt σ2 H2 fun b H3 =>
        if b = true then wi1 σ2 H3 fun J1 H4 => ∃ W1 : Nat → Nat → Hp → Prop, (∃ m, W1 0 m H4) ∧ ∀ j k H, W1 j k H →
          (J1.stop j H ∧ Nx H) ∨ (J1.go j H ∧ ∃ Nx1 : Hp → Prop, (∀ H', Nx1 H' → ∃ k', k' < k ∧ W1 (j + 1) k' H') ∧ ∀ x H', J1.yld j H x H' → g1 x (wipe σ2 vs1) H' fun σ3 H5 => wipe σ3 vs1 = wipe σ2 vs1 ∧ tt1 σ3 H5 fun b H6 =>
            if b = true then te σ3 H6 fun y H7 => ∃ k L, y = .str k ∧ H7 D = some (SetSO w D L) ∧ L.length + 1 < scanBound ∧ Nx1 (upd H7 D (SetSO w D (addL L k))) else Nx1 H6)
        else Nx H3) := by
  refine ⟨fun i m H => m = n - i ∧ i ≤ n ∧ Pv i H, ⟨n, by simp, Nat.zero_le _, h0⟩, ?_⟩
  rintro i m H ⟨rfl, hi, p⟩
  have q := hG i H hi p
  by_cases c : i < n
  · exact .inr ⟨wk.goes i H c q, Pv (i + 1), fun H' p' => ⟨n - (i + 1), by omega, rfl, c, p'⟩, fun x H' y => hs i x H H' c p (wk.yields i H x H' c q y)⟩
  · obtain rfl : i = n := by omega
    exact .inl ⟨wk.stops H q, hd H p⟩
/-- walked: the inner clause -/
theorem in2_it {J1 : It} {n : Nat} {G : Hp → Prop} {Y : Nat → Hp → V → Hp → Prop} (wk : Walk J1 n G Y) {w : World} {g1 : TG} {tt1 : TT} {te : TE} {vs1 : List Nat} {σ2 : L2.St} {H4 : Hp} {D : Addr} {Nx : Hp → Prop} (Pv : Nat → Hp → Prop) (h0 : Pv 0 H4) (hG : ∀ i H, i ≤ n → Pv i H → G H)
    (hs : ∀ i x H H', i < n → Pv i H → Y i H x H' → g1 x (wipe σ2 vs1) H' fun σ3 H5 => wipe σ3 vs1 = wipe σ2 vs1 ∧ tt1 σ3 H5 fun b H6 =>
      if b = true then te σ3 H6 fun y H7 => ∃ k L, y = .str k ∧ H7 D = some (SetSO w D L) ∧ L.length + 1 < scanBound ∧ Pv (i + 1) (upd H7 D (SetSO w D (addL L k))) else Pv (i + 1) H6) (hd : ∀ H, Pv n H → Nx H) :
    ∃ W1 : Nat → Nat → Hp → Prop, (∃ m, W1 0 m H4) ∧ ∀ j k H, W1 j k H →
      (J1.stop j H ∧ Nx H) ∨ (J1.go j H ∧ ∃ Nx1 : Hp → Prop, (∀ H', Nx1 H' → ∃ k', k' < k ∧ W1 (j + 1) k' H') ∧ ∀ x H', J1.yld j H x H' → g1 x (wipe σ2 vs1) H' fun σ3 H5 => wipe σ3 vs1 = wipe σ2 vs1 ∧ tt1 σ3 H5 fun b H6 =>
        if b = true then te σ3 H6 fun y H7 => ∃ k L, y = .str k ∧ H7 D = some (SetSO w D L) ∧ L.length + 1 < scanBound ∧ Nx1 (upd H7 D (SetSO w D (addL L k))) else Nx1 H6) := by
  refine ⟨fun i m H => m = n - i ∧ i ≤ n ∧ Pv i H, ⟨n, by simp, Nat.zero_le _, h0⟩, ?_⟩
  rintro i m H ⟨rfl, hi, p⟩
  have q := hG i H hi p
  by_cases c : i < n
  · exact .inr ⟨wk.goes i H c q, Pv (i + 1), fun H' p' => ⟨n - (i + 1), by omega, rfl, c, p'⟩, fun x H' y => hs i x H H' c p (wk.yields i H x H' c q y)⟩
  · obtain rfl : i = n := by omega
    exact .inl ⟨wk.stops H q, hd H p⟩
end Ss
/-! min of a list of data that can be compared: which of them it is -/
namespace Md
open PySem PySem.Spec PyProof.Rows L2
open PySem.W (DatumOrd Datum minOf AlikeAll readsAll_len readsAll_atA cmpIn_lt iter_listW moved_old argBest_fold dataLt)
section
variable {α : Type} [DecidableEq α] [DatumOrd α]
theorem minOf_mem (x : α) : ∀ ys : List α, minOf x ys ∈ x :: ys := by
  intro ys
  unfold minOf
  induction ys generalizing x with
  | nil => exact List.mem_singleton.mpr rfl
  | cons y r ih =>
    rw [List.foldl_cons]
    have h := ih (if DatumOrd.lt y x = true then y else x)
    rcases List.mem_cons.mp h with z | z
    · rw [z]
      split
      · exact List.mem_cons_of_mem _ List.mem_cons_self
      · exact List.mem_cons_self
    · exact List.mem_cons_of_mem _ (List.mem_cons_of_mem _ z)
theorem minOf_le (ir : ∀ a : α, DatumOrd.lt a a = false) (asy : ∀ a b : α, DatumOrd.lt a b = true → DatumOrd.lt b a = false) (tr : ∀ a b c : α, DatumOrd.lt a b = false → DatumOrd.lt b c = false → DatumOrd.lt a c = false) (x : α) : ∀ ys : List α, ∀ z ∈ x :: ys, DatumOrd.lt z (minOf x ys) = false := by
  intro ys
  unfold minOf
  induction ys generalizing x with
  | nil =>
    intro z hz
    rw [List.mem_singleton.mp hz]
    exact ir x
  | cons y r ih =>
    intro z hz
    rw [List.foldl_cons]
    have h := ih (if DatumOrd.lt y x = true then y else x)
    by_cases c : DatumOrd.lt y x = true
    · rw [if_pos c] at h ⊢
      rcases List.mem_cons.mp hz with e | hz
      · rw [e]
        exact tr x y _ (asy y x c) (h y List.mem_cons_self)
      · exact h z hz
    · rw [if_neg c] at h ⊢
      have c : DatumOrd.lt y x = false := by
        cases q : DatumOrd.lt y x with
        | false => rfl
        | true => exact absurd q c
      rcases List.mem_cons.mp hz with e | hz
      · rw [e]
        exact h x List.mem_cons_self
      · rcases List.mem_cons.mp hz with e | hz
        · rw [e]
          exact tr y x _ c (h x List.mem_cons_self)
        · exact h z (List.mem_cons_of_mem _ hz)
end
/-- min(xs): the item at a place of the least -/
def rMinG (α : Type) [DecidableEq α] [DatumOrd α] (K : PySem.W.Frag) : List V → Hp → VK → Prop := fun vs H Q => ∃ (a : Addr) (xs : List V) (x : α) (ys : List α), vs = [.ref a] ∧ SqL K H a xs ∧ DpAll K H xs ((x :: ys).map Datum.toD) ∧ Datum.depth α ≤ 60 ∧
  ∀ (i : Nat) (v : V), xs[i]? = some v → (x :: ys)[i]? = some (minOf x ys) → Q v H
theorem cr_minG {X : Cx} {α : Type} [DecidableEq α] [DatumOrd α] (hc : X.calm = true) (hu : X.A.units + 64 < cLine) : CallR X (.builtin "min") (rMinG α X.K) := by
  intro pins s σ H vs us Q I r h
  obtain ⟨a, xs, x, ys, rfl, hs, hd, hdep, q⟩ := h
  obtain ⟨its, rv, hl, -⟩ := I.list hs
  rw [Vals.ref1 r]
  obtain ⟨as, hr⟩ := Dp.readsAll I _ _ _ hd rv
  have hl : s.heap.IsList a its.toArray := hl.isList
  have hr' : ReadsAll s.heap its.toArray.toList (Datum.toD x :: ys.map Datum.toD) as := hr
  have hn : its.toArray.size = ys.length + 1 := by rw [readsAll_len hr']; simp
  have hdd : PyData.depthAll (Datum.toD x :: ys.map Datum.toD) ≤ 60 := Nat.le_trans (PySem.W.depthAll_map (x :: ys)) hdep
  refine PySem.call_min_walkH (iter_listW (A := X.A.in1) (I.ok.hd hc) hl fun s2 e W st hfp hw hk => ?_)
  refine ⟨_, _, _, _, _, _, _, s.heap, _, rfl, W, st, hfp, by omega, hw, hk, cmpIn_lt (A := X.A.in1) hr' (PySem.W.alikeAll_datum (x :: ys)) (by show X.A.units + 1 + _ < _; omega), fun v s' hP m => ?_⟩
  obtain ⟨h', tk, rfl, hk'⟩ := moved_old e rfl m
  have e1 : its.toArray.size - 1 = (ys.map Datum.toD (α := α)).length := by rw [List.length_map]; omega
  rw [e1] at hP
  have f := argBest_fold dataLt PyData.none (Datum.toD x) (ys.map Datum.toD) (ys.map Datum.toD).length (Nat.le_refl _)
  generalize argBest (fun i j => dataLt ((Datum.toD x :: ys.map Datum.toD).getD i .none) ((Datum.toD x :: ys.map Datum.toD).getD j .none)) (ys.map Datum.toD).length = j at f hP
  rw [List.take_length] at f
  have f2 : (Datum.toD x :: ys.map Datum.toD).getD j .none = Datum.toD (minOf x ys) := f.2.trans (PySem.W.minD_map x ys)
  have hj : j < (x :: ys).length := by
    have := f.1
    rw [List.length_map] at this
    rw [List.length_cons]
    omega
  have g : (x :: ys)[j]? = some (minOf x ys) := by
    rw [List.getElem?_eq_getElem hj]
    congr 1
    have z : (Datum.toD x :: ys.map Datum.toD)[j]? = some (Datum.toD (x :: ys)[j]) := by
      show ((x :: ys).map Datum.toD)[j]? = _
      rw [List.getElem?_map, List.getElem?_eq_getElem hj]
      rfl
    rw [List.getD_eq_getElem?_getD, z] at f2
    have f3 : Datum.toD (x :: ys)[j] = Datum.toD (minOf x ys) := f2
    have f4 := Datum.eqv (x :: ys)[j] (minOf x ys)
    have f5 := Datum.eqv (minOf x ys) (minOf x ys)
    rw [f3, f5] at f4
    have : decide ((x :: ys)[j] = minOf x ys) = true := by rw [← f4]; exact decide_eq_true rfl
    exact of_decide_eq_true this
  have hP : its[j]? = some v := by simpa using hP
  have hjx : j < xs.length := by
    rw [rv.length]
    exact (List.getElem?_eq_some_iff.mp hP).1
  obtain ⟨u0, hu0, ru0⟩ := Vals.get rv (List.getElem?_eq_getElem hjx)
  rw [hP] at hu0
  cases hu0
  exact ⟨xs[j], H, I.kept hk', ru0, q j _ (List.getElem?_eq_getElem hjx) g⟩
end Md
/-! shortest roads as mathematics: steps to a goal, the least of the shortest -/
namespace Rm
abbrev Nd := List Nat
section
variable (R : Nd → Nd → Prop) (F : Nd → Prop)
/-- a walk of n steps to a goal -/
def Wk : Nat → Nd → Prop
  | 0, x => F x
  | n + 1, x => ∃ y, R x y ∧ Wk n y
/-- it is n steps away -/
def Ds (n : Nat) (x : Nd) : Prop := Wk R F n x ∧ ∀ m, m < n → ¬ Wk R F m x
variable {R F}
theorem Ds.eq {n m : Nat} {x : Nd} (h : Ds R F n x) (k : Ds R F m x) : n = m := by
  rcases Nat.lt_trichotomy n m with c | c | c
  · exact absurd h.1 (k.2 n c)
  · exact c
  · exact absurd k.1 (h.2 m c)
theorem wk_ds : ∀ (n : Nat) {x : Nd}, Wk R F n x → ∃ m, m ≤ n ∧ Ds R F m x := by
  intro n
  induction n using Nat.strongRecOn with
  | ind n ih =>
    intro x h
    by_cases c : ∃ m, m < n ∧ Wk R F m x
    · obtain ⟨m, hm, hw⟩ := c
      obtain ⟨k, hk, hd⟩ := ih m hm hw
      exact ⟨k, by omega, hd⟩
    · exact ⟨n, Nat.le_refl _, h, fun m hm hw => c ⟨m, hm, hw⟩⟩
theorem Ds.down {n : Nat} {x : Nd} (h : Ds R F (n + 1) x) : ∃ y, R x y ∧ Ds R F n y := by
  obtain ⟨⟨y, h1, h2⟩, hm⟩ := h
  exact ⟨y, h1, h2, fun m hmn hw => hm (m + 1) (by omega) ⟨y, h1, hw⟩⟩
theorem Ds.next {n : Nat} {x y : Nd} (h : Ds R F (n + 1) x) (r : R x y) (w : Wk R F n y) : Ds R F n y := ⟨w, fun m hm hw => h.2 (m + 1) (by omega) ⟨y, r, hw⟩⟩
theorem ds_succ {n : Nat} {x : Nd} : Ds R F (n + 1) x ↔ (∃ y, R x y ∧ Ds R F n y) ∧ ∀ m, m ≤ n → ¬ Ds R F m x := by
  constructor
  · intro h
    exact ⟨h.down, fun m hm hd => by have := h.eq hd; omega⟩
  · rintro ⟨⟨y, h1, h2⟩, hm⟩
    refine ⟨⟨y, h1, h2.1⟩, fun m hmn hw => ?_⟩
    obtain ⟨k, hk, hd⟩ := wk_ds m hw
    exact hm k (by omega) hd
theorem ds_zero {x : Nd} : Ds R F 0 x ↔ F x := ⟨fun h => h.1, fun h => ⟨h, fun m hm => absurd hm (Nat.not_lt_zero _)⟩⟩
theorem ds_none {m : Nat} (h : ∀ x, ¬ Ds R F m x) : ∀ n x, m ≤ n → ¬ Ds R F n x := by
  intro n
  induction n with
  | zero =>
    intro x hm
    have : m = 0 := by omega
    subst this
    exact h x
  | succ n ih =>
    intro x hm hd
    by_cases c : m = n + 1
    · subst c
      exact h x hd
    · obtain ⟨y, _, hy⟩ := hd.down
      exact ih y (by omega) hy
/-- the least of those with a property -/
def Lst (P : Nd → Prop) (y : Nd) : Prop := P y ∧ ∀ z, P z → ¬ z < y
theorem Lst.eq {P : Nd → Prop} {y z : Nd} (a : Lst P y) (b : Lst P z) : y = z := List.le_antisymm (List.not_lt.mp (a.2 z b.1)) (List.not_lt.mp (b.2 y a.1))
variable (R F)
/-- the least of the shortest roads -/
def Gr : Nat → Nd → List Nd → Prop
  | 0, x, r => F x ∧ r = [x]
  | n + 1, x, r => ∃ y t, Lst (fun y => R x y ∧ Ds R F n y) y ∧ Gr n y t ∧ r = x :: t
variable {R F}
theorem Gr.eq : ∀ {n : Nat} {x : Nd} {r t : List Nd}, Gr R F n x r → Gr R F n x t → r = t
  | 0, _, _, _, h, k => h.2.trans k.2.symm
  | n + 1, x, _, _, ⟨y, r, h1, h2, h3⟩, ⟨z, t, k1, k2, k3⟩ => by
    have := h1.eq k1
    subst this
    rw [h3, k3, h2.eq k2]
theorem Gr.len : ∀ {n : Nat} {x : Nd} {r : List Nd}, Gr R F n x r → r.length = n + 1
  | 0, _, _, h => by rw [h.2]; rfl
  | n + 1, _, _, ⟨y, t, _, h2, h3⟩ => by rw [h3, List.length_cons, h2.len]
theorem Gr.head : ∀ {n : Nat} {x : Nd} {r : List Nd}, Gr R F n x r → r.head? = some x
  | 0, _, _, h => by rw [h.2]; rfl
  | n + 1, _, _, ⟨y, t, _, h2, h3⟩ => by rw [h3]; rfl
theorem Gr.last : ∀ {n : Nat} {x : Nd} {r : List Nd}, Gr R F n x r → ∃ z, r.getLast? = some z ∧ F z
  | 0, x, _, h => ⟨x, by rw [h.2]; rfl, h.1⟩
  | n + 1, x, _, ⟨y, t, _, h2, h3⟩ => by
    obtain ⟨z, e, f⟩ := h2.last
    refine ⟨z, ?_, f⟩
    rw [h3]
    cases t with
    | nil => cases e
    | cons a t => rw [List.getLast?_cons_cons]; exact e
/-- a walk, its places told: p begins with x and its neighbours are related -/
def Pth (R : Nd → Nd → Prop) : Nd → List Nd → Prop
  | x, [] => False
  | x, [y] => x = y
  | x, y :: z :: t => x = y ∧ R x z ∧ Pth R z (z :: t)
theorem pth_cons {x : Nd} {p : List Nd} (h : Pth R x p) : ∃ t, p = x :: t := by
  match p, h with
  | [y], h => exact ⟨[], by rw [show x = y from h]⟩
  | y :: z :: t, h => exact ⟨z :: t, by rw [h.1]⟩
theorem pth_snoc : ∀ {p : List Nd} {x z : Nd}, Pth R x p → (∀ y, p.getLast? = some y → R y z) → Pth R x (p ++ [z])
  | [y], x, z, h, k => ⟨h, by rw [show x = y from h]; exact k y rfl, rfl⟩
  | y :: w :: t, x, z, h, k => ⟨h.1, h.2.1, pth_snoc (p := w :: t) h.2.2 fun y' e => k y' (by rw [List.getLast?_cons_cons]; exact e)⟩
theorem pth_init : ∀ {p : List Nd} {x z : Nd}, p ≠ [] → Pth R x (p ++ [z]) → Pth R x p ∧ ∀ y, p.getLast? = some y → R y z
  | [y], x, z, _, h => ⟨h.1, fun y' e => by
      have : y = y' := Option.some.inj e
      rw [← this, ← h.1]
      exact h.2.1⟩
  | y :: w :: t, x, z, _, h => by
    obtain ⟨h1, h2⟩ := pth_init (p := w :: t) (by simp) h.2.2
    exact ⟨⟨h.1, h.2.1, h1⟩, fun y' e => h2 y' (by rw [List.getLast?_cons_cons] at e; exact e)⟩
theorem pth_wk : ∀ {p : List Nd} {x z : Nd}, Pth R x p → p.getLast? = some z → F z → Wk R F (p.length - 1) x
  | [y], x, z, h, e, f => by
    have : y = z := Option.some.inj e
    show F x
    rw [show x = y from h, this]
    exact f
  | y :: w :: t, x, z, h, e, f => ⟨w, h.2.1, pth_wk (p := w :: t) h.2.2 (by rw [List.getLast?_cons_cons] at e; exact e) f⟩
theorem gr_pth : ∀ {n : Nat} {x : Nd} {r : List Nd}, Gr R F n x r → Pth R x r
  | 0, x, _, h => by rw [h.2]; rfl
  | n + 1, x, _, ⟨y, t, h1, h2, h3⟩ => by
    have hp := gr_pth h2
    obtain ⟨u, rfl⟩ := pth_cons hp
    rw [h3]
    exact ⟨rfl, h1.1.1, hp⟩
/-- on it each is nearer than the one ahead -/
theorem gr_ds : ∀ {n : Nat} {x : Nd} {r : List Nd}, Gr R F n x r → Ds R F n x → ∀ (i : Nat) (z : Nd), r[i]? = some z → i ≤ n ∧ Ds R F (n - i) z
  | 0, x, _, h, d, i, z, e => by
    rw [h.2] at e
    match i, e with
    | 0, e =>
      have : x = z := Option.some.inj e
      rw [← this]
      exact ⟨Nat.le_refl _, d⟩
  | n + 1, x, _, ⟨y, t, h1, h2, h3⟩, d, i, z, e => by
    rw [h3] at e
    match i, e with
    | 0, e =>
      have : x = z := Option.some.inj e
      rw [← this]
      exact ⟨Nat.zero_le _, d⟩
    | i + 1, e =>
      obtain ⟨h4, h5⟩ := gr_ds h2 h1.1.2 i z e
      exact ⟨by omega, by rw [show n + 1 - (i + 1) = n - i by omega]; exact h5⟩
theorem gr_nodup {n : Nat} {x : Nd} {r : List Nd} (h : Gr R F n x r) (d : Ds R F n x) : r.Nodup := by
  rw [List.nodup_iff_pairwise_ne, List.pairwise_iff_getElem]
  intro i j hi hj hij e
  obtain ⟨h1, h2⟩ := gr_ds h d i _ (List.getElem?_eq_getElem hi)
  obtain ⟨h3, h4⟩ := gr_ds h d j _ (List.getElem?_eq_getElem hj)
  rw [e] at h2
  have := h2.eq h4
  omega
end
/-- the order of roads: the first unlike places, else the shorter -/
def rLt : List Nd → List Nd → Bool
  | [], [] => false
  | [], _ :: _ => true
  | _ :: _, [] => false
  | x :: xs, y :: ys => if x = y then rLt xs ys else decide (x < y)
theorem rLt_self : ∀ a : List Nd, rLt a a = false
  | [] => rfl
  | x :: xs => by
    show (if x = x then rLt xs xs else decide (x < x)) = false
    rw [if_pos rfl, rLt_self xs]
theorem lt_asym {x y : Nd} (h : x < y) : ¬ y < x := fun k => List.lt_irrefl _ (List.lt_trans h k)
theorem rLt_asy : ∀ a b : List Nd, rLt a b = true → rLt b a = false
  | [], [], h => by cases h
  | [], _ :: _, _ => rfl
  | _ :: _, [], h => by cases h
  | x :: xs, y :: ys, h => by
    have h : (if x = y then rLt xs ys else decide (x < y)) = true := h
    show (if y = x then rLt ys xs else decide (y < x)) = false
    by_cases c : x = y
    · rw [if_pos c] at h
      rw [if_pos c.symm]
      exact rLt_asy xs ys h
    · rw [if_neg c] at h
      rw [if_neg (fun z => c z.symm)]
      exact decide_eq_false (lt_asym (of_decide_eq_true h))
theorem rLt_tr : ∀ a b c : List Nd, rLt a b = false → rLt b c = false → rLt a c = false
  | [], [], _, _, k => k
  | [], _ :: _, _, h, _ => by cases h
  | _ :: _, _, [], _, _ => rfl
  | _ :: _, [], _ :: _, _, k => by cases k
  | x :: xs, y :: ys, z :: zs, h, k => by
    have h : (if x = y then rLt xs ys else decide (x < y)) = false := h
    have k : (if y = z then rLt ys zs else decide (y < z)) = false := k
    show (if x = z then rLt xs zs else decide (x < z)) = false
    by_cases c : x = y
    · subst c
      rw [if_pos rfl] at h
      by_cases c2 : x = z
      · rw [if_pos c2] at k ⊢
        exact rLt_tr xs ys zs h k
      · rw [if_neg c2] at k ⊢
        exact k
    · rw [if_neg c] at h
      have h := List.not_lt.mp (of_decide_eq_false h)
      by_cases c2 : y = z
      · subst c2
        rw [if_neg c]
        exact decide_eq_false (List.not_lt.mpr h)
      · rw [if_neg c2] at k
        have k := List.not_lt.mp (of_decide_eq_false k)
        have hk := List.le_trans k h
        by_cases c3 : x = z
        · subst c3
          exact absurd (List.le_antisymm h k) (fun e => c e.symm)
        · rw [if_neg c3]
          exact decide_eq_false (List.not_lt.mpr hk)
theorem rLt_anti : ∀ a b : List Nd, rLt a b = false → rLt b a = false → a = b
  | [], [], _, _ => rfl
  | [], _ :: _, h, _ => by cases h
  | _ :: _, [], _, k => by cases k
  | x :: xs, y :: ys, h, k => by
    have h : (if x = y then rLt xs ys else decide (x < y)) = false := h
    have k : (if y = x then rLt ys xs else decide (y < x)) = false := k
    by_cases c : x = y
    · subst c
      rw [if_pos rfl] at h k
      rw [rLt_anti xs ys h k]
    · rw [if_neg c] at h
      rw [if_neg (fun z => c z.symm)] at k
      exact absurd (List.le_antisymm (List.not_lt.mp (of_decide_eq_false k)) (List.not_lt.mp (of_decide_eq_false h))) c
/-- none of the roads of as many steps is less -/
theorem gr_least {R : Nd → Nd → Prop} {F : Nd → Prop} : ∀ {n : Nat} {x : Nd} {r p : List Nd} {z : Nd}, Gr R F n x r → Ds R F n x → Pth R x p → p.length = n + 1 → p.getLast? = some z → F z → rLt p r = false
  | 0, x, _, p, z, h, d, hp, hl, e, f => by
    obtain ⟨t, rfl⟩ := pth_cons hp
    have : t = [] := List.eq_nil_of_length_eq_zero (by rw [List.length_cons] at hl; omega)
    rw [h.2, this]
    exact rLt_self _
  | n + 1, x, _, p, z, ⟨y, t, h1, h2, h3⟩, d, hp, hl, e, f => by
    match p, hp, hl, e with
    | y' :: w :: u, hp, hl, e =>
      have e2 : (w :: u).getLast? = some z := by rw [List.getLast?_cons_cons] at e; exact e
      have l2 : (w :: u).length = n + 1 := by rw [List.length_cons] at hl; omega
      have hw : Wk R F n w := by
        have := pth_wk hp.2.2 e2 f
        rw [l2] at this
        exact this
      have dw : Ds R F n w := d.next hp.2.1 hw
      have nl : ¬ w < y := h1.2 w ⟨hp.2.1, dw⟩
      rw [h3, ← hp.1]
      show (if x = x then rLt (w :: u) t else decide (x < x)) = false
      rw [if_pos rfl]
      obtain ⟨t', rfl⟩ := pth_cons (gr_pth h2)
      by_cases c : w = y
      · subst c
        exact gr_least h2 dw hp.2.2 l2 e2 f
      · show (if w = y then rLt u t' else decide (w < y)) = false
        rw [if_neg c]
        exact decide_eq_false nl
/-- among finitely many there is a least -/
theorem lst_ex : ∀ {ls : List Nd} {P : Nd → Prop}, (∀ y, P y → y ∈ ls) → (∃ y, P y) → ∃ y, Lst P y
  | [], P, h, ⟨y, hy⟩ => by cases h y hy
  | a :: r, P, h, ⟨y, hy⟩ => by
    by_cases c : ∃ z, P z ∧ z ≠ a
    · obtain ⟨y, hy, hl⟩ := lst_ex (ls := r) (P := fun z => P z ∧ z ≠ a) (fun z hz => (List.mem_cons.mp (h z hz.1)).elim (fun e => absurd e hz.2) id) c
      by_cases ha : P a ∧ a < y
      · refine ⟨a, ha.1, fun z hz hlt => ?_⟩
        by_cases e : z = a
        · rw [e] at hlt
          exact List.lt_irrefl _ hlt
        · exact hl z ⟨hz, e⟩ (List.lt_trans hlt ha.2)
      · refine ⟨y, hy.1, fun z hz hlt => ?_⟩
        by_cases e : z = a
        · rw [e] at hlt hz
          exact ha ⟨hz, hlt⟩
        · exact hl z ⟨hz, e⟩ hlt
    · have : ∀ z, P z → z = a := fun z hz => Classical.byContradiction fun e => c ⟨z, hz, e⟩
      have e := this y hy
      refine ⟨y, hy, fun z hz hlt => ?_⟩
      rw [this z hz, e] at hlt
      exact List.lt_irrefl _ hlt
theorem gr_ex {R : Nd → Nd → Prop} {F : Nd → Prop} {ls : List Nd} (hf : ∀ n y, Ds R F n y → y ∈ ls) : ∀ (n : Nat) {x : Nd}, Ds R F n x → ∃ r, Gr R F n x r
  | 0, x, h => ⟨[x], h.1, rfl⟩
  | n + 1, x, h => by
    obtain ⟨y, hy⟩ := lst_ex (ls := ls) (P := fun y => R x y ∧ Ds R F n y) (fun y hy => hf n y hy.2) h.down
    obtain ⟨t, ht⟩ := gr_ex hf n hy.1.2
    exact ⟨x :: t, y, t, hy, ht, rfl⟩
theorem pth_mem {R : Nd → Nd → Prop} {ls : List Nd} (hr : ∀ y z, R y z → z ∈ ls) : ∀ {p : List Nd} {x : Nd}, Pth R x p → x ∈ ls → ∀ z ∈ p, z ∈ ls
  | [y], x, h, hx, z, hz => by
    rw [List.mem_singleton.mp hz, ← show x = y from h]
    exact hx
  | y :: w :: t, x, h, hx, z, hz => by
    rcases List.mem_cons.mp hz with e | e
    · rw [e, ← h.1]
      exact hx
    · exact pth_mem hr (p := w :: t) h.2.2 (hr _ _ h.2.1) z e
theorem ne_snoc {α : Type} {p : List α} (h : p ≠ []) : ∃ q z, p = q ++ [z] := ⟨p.dropLast, p.getLast h, (List.dropLast_concat_getLast h).symm⟩
/-- roads of unlike places, t steps long -/
def SP (R : Nd → Nd → Prop) (x : Nd) (t : Nat) (p : List Nd) : Prop := Pth R x p ∧ p.length = t + 1 ∧ p.Nodup
theorem sp_zero {R : Nd → Nd → Prop} {x : Nd} {p : List Nd} : SP R x 0 p ↔ p = [x] := by
  constructor
  · rintro ⟨h1, h2, _⟩
    obtain ⟨t, rfl⟩ := pth_cons h1
    rw [List.eq_nil_of_length_eq_zero (l := t) (by rw [List.length_cons] at h2; omega)]
  · rintro rfl
    exact ⟨rfl, rfl, by simp⟩
theorem SP.ne {R : Nd → Nd → Prop} {x : Nd} {t : Nat} {p : List Nd} (h : SP R x t p) : p ≠ [] := fun e => by
  have := h.2.1
  rw [e] at this
  cases this
theorem sp_succ {R : Nd → Nd → Prop} {x : Nd} {t : Nat} {q : List Nd} : SP R x (t + 1) q ↔ ∃ p y z, SP R x t p ∧ p.getLast? = some y ∧ (z ≠ y ∧ R y z) ∧ z ∉ p ∧ q = p ++ [z] := by
  constructor
  · intro h
    obtain ⟨p, z, rfl⟩ := ne_snoc h.ne
    obtain ⟨h1, h2, h3⟩ := h
    rw [List.length_append, List.length_singleton] at h2
    have pn : p ≠ [] := fun e => by rw [e] at h2; simp at h2
    obtain ⟨h4, h5⟩ := pth_init pn h1
    obtain ⟨p', y, rfl⟩ := ne_snoc pn
    obtain ⟨n1, n2, n3⟩ := List.nodup_append.mp h3
    have zn : z ∉ p' ++ [y] := fun hz => n3 z hz z (List.mem_singleton.mpr rfl) rfl
    have ey : (p' ++ [y]).getLast? = some y := by simp
    exact ⟨p' ++ [y], y, z, ⟨h4, by omega, n1⟩, ey, ⟨fun e => zn (by rw [e]; simp), h5 y ey⟩, zn, rfl⟩
  · rintro ⟨p, y, z, ⟨h1, h2, h3⟩, hy, ⟨_, hr⟩, hz, rfl⟩
    refine ⟨pth_snoc h1 fun y' e => ?_, by rw [List.length_append, List.length_singleton, h2], List.nodup_append.mpr ⟨h3, by simp, fun a ha b hb e => ?_⟩⟩
    · rw [hy] at e
      have : y = y' := Option.some.inj e
      rw [← this]
      exact hr
    · rw [List.mem_singleton.mp hb] at e
      rw [e] at ha
      exact hz ha
end Rm
/-! tuple + tuple and slices of tuples, whichever object comes -/
namespace Th
open PySem PySem.Spec PyProof.Rows L2
def rCatS (K : PySem.W.Frag) : R2 := fun x y H Q => ∃ (a b : Addr) (xs ys : List V), x = .ref a ∧ y = .ref b ∧ H a = some (.tup xs) ∧ H b = some (.tup ys) ∧ xs.length + ys.length ≤ sizeLine ∧ ∀ (c : Addr) (H' : Hp), Same H H' → H' c = some (.tup (xs ++ ys)) → Q (.ref c) H'
theorem op_catS {X : Cx} : OpR X (binaryOp .Add) (rCatS X.K) := by
  intro pins s σ H x y v u Q I rx ry h
  obtain ⟨a, b, xs, ys, rfl, rfl, hx, hy, hz, h⟩ := h
  exact op_catA pins s σ H _ _ v u Q I rx ry ⟨a, b, xs, ys, rfl, rfl, SqT.of hx, SqT.of hy, hz, fun e => h b H (.refl _) (by rw [hy, e]; rfl), fun _ e => h a H (.refl _) (by rw [hx, e, List.append_nil]), fun _ _ p np => h p _ (same_upd np) upd_same⟩
def rSlS (K : PySem.W.Frag) : V → Option Int → Option Int → Hp → VK → Prop := fun x lo hi H Q => ∃ (a : Addr) (xs : List V), x = .ref a ∧ H a = some (.tup xs) ∧ ∀ (c : Addr) (H' : Hp), Same H H' → H' c = some (.tup (cutV xs lo hi)) → Q (.ref c) H'
theorem sl_tupS {X : Cx} : SlR X (rSlS X.K) := by
  intro pins s σ H x v vl vu lo hi sl Q I rx hs pl pu h
  obtain ⟨a, xs, rfl, hx, h⟩ := h
  exact sl_tupA pins s σ H _ v vl vu lo hi sl Q I rx hs pl pu ⟨a, xs, rfl, SqT.of hx, fun e => h a H (.refl _) (by rw [hx]; unfold cutV; rw [e.1, e.2, List.drop_zero, Nat.sub_zero, List.take_length]), fun _ p np => h p _ (same_upd np) upd_same⟩
end Th
namespace Th
open PySem PySem.Spec PyProof.Rows L2
/-! names, pairs, what stays -/
abbrev nS (l : List Nat) : V := .str (SX.S l)
def Lower (l : List Nat) : Prop := ∀ c ∈ l, 97 ≤ c ∧ c ≤ 122
/-- a name: one to eight letters -/
def IsNm (l : List Nat) : Prop := 1 ≤ l.length ∧ l.length ≤ 8 ∧ Lower l
abbrev abc : Str := Str.ofString "abcdefghijklmnopqrstuvwxyz"
theorem abc_list : abc.cps.toList = (List.range 26).map (97 + ·) := by decide +kernel
theorem abc_at {d : Int} (h0 : 0 ≤ d) (h1 : d < 26) : atI abc.cps.toList d = some (97 + d.toNat) := by
  obtain ⟨j, rfl⟩ : ∃ j : Nat, d = (j : Int) := ⟨d.toNat, by omega⟩
  refine atI_nat ?_
  rw [abc_list, List.getElem?_map, List.getElem?_range (by omega)]
  rfl
theorem joinL_one : ∀ cs : List Nat, TL.joinL [] (cs.map fun c => [c]) = cs
  | [] => rfl
  | [_] => rfl
  | c :: d :: cs => by
    show [c] ++ ([] ++ TL.joinL [] ((d :: cs).map fun c => [c])) = _
    rw [joinL_one (d :: cs)]
    rfl
theorem join_signs (cs : List Nat) : Txt.join (SX.S []) ((cs.map fun c => [c]).map SX.S) = SX.S cs := by rw [SX.join_S, joinL_one]
theorem p26 : (0 : Int) < 26 := by decide
theorem paired_snoc {α β : Type} {R : α → β → Prop} : ∀ {as : List α} {bs : List β} {a : α} {b : β}, Paired R as bs → R a b → Paired R (as ++ [a]) (bs ++ [b])
  | _, _, _, _, .nil, r => .cons r .nil
  | _, _, _, _, .cons q t, r => .cons q (paired_snoc t r)
theorem paired_imp {α β : Type} {R S : α → β → Prop} : ∀ {as : List α} {bs : List β}, Paired R as bs → (∀ a ∈ as, ∀ b, R a b → S a b) → Paired S as bs
  | _, _, .nil, _ => .nil
  | _, _, .cons q t, f => .cons (f _ (List.mem_cons_self ..) _ q) (paired_imp t fun a ha b r => f a (List.mem_cons_of_mem _ ha) b r)
theorem paired_get {α β : Type} {R : α → β → Prop} : ∀ {as : List α} {bs : List β} {i : Nat} {a : α}, Paired R as bs → as[i]? = some a → ∃ b, bs[i]? = some b ∧ R a b
  | _, _, _, _, .nil, h => by simp at h
  | _, _, 0, _, .cons q t, h => by
    have e := Option.some.inj h
    subst e
    exact ⟨_, rfl, q⟩
  | _, _, i + 1, _, .cons q t, h => paired_get (i := i) t h
theorem paired_len {α β : Type} {R : α → β → Prop} : ∀ {as : List α} {bs : List β}, Paired R as bs → as.length = bs.length
  | _, _, .nil => rfl
  | _, _, .cons _ t => congrArg Nat.succ (paired_len t)
theorem one_sz {x : V} : [x].length ≤ sizeLine := by show 1 ≤ sizeLine; decide
theorem paired_append {α β : Type} {R : α → β → Prop} : ∀ {as cs : List α} {bs ds : List β}, Paired R as bs → Paired R cs ds → Paired R (as ++ cs) (bs ++ ds)
  | _, _, _, _, .nil, h => h
  | _, _, _, _, .cons q t, h => .cons q (paired_append t h)
theorem paired_take {α β : Type} {R : α → β → Prop} : ∀ {as : List α} {bs : List β} (n : Nat), Paired R as bs → Paired R (as.take n) (bs.take n)
  | _, _, 0, _ => by rw [List.take_zero, List.take_zero]; exact .nil
  | _, _, n + 1, .nil => .nil
  | _, _, n + 1, .cons q t => .cons q (paired_take n t)
theorem cut_to (xs : List V) (j : Nat) : cutV xs none (some (j : Int)) = xs.take j := by
  unfold cutV
  rw [HT.sIx_none, HT.sIx_nat, List.drop_zero, Nat.sub_zero]
  by_cases h : j ≤ xs.length
  · rw [Nat.min_eq_left h]
  · rw [Nat.min_eq_right (by omega), List.take_of_length_le (Nat.le_refl _), List.take_of_length_le (by omega)]
abbrev Nm := List Nat
def TK (H H' : Hp) : Prop := ∀ a xs, H a = some (.tup xs) → H' a = some (.tup xs)
theorem TK.of {H H' : Hp} (s : Same H H') : TK H H' := fun a xs e => s a _ e
theorem TK.trans {H H' H2 : Hp} (a : TK H H') (b : TK H' H2) : TK H H2 := fun c xs e => b c xs (a c xs e)
theorem TK.keep {p : Addr} {H H' : Hp} (k : Keep p H H') (b : Bag H p) : TK H H' := fun a xs e => k a _ (fun z => by
  obtain ⟨g, r, e', _⟩ := b
  rw [z, e'] at e
  cases e) e
theorem TK.upd {c : Addr} {H : Hp} {o : HO} (h : ∀ xs, H c ≠ some (.tup xs)) : TK H (upd H c o) := fun a xs e => by
  rw [upd_ne (fun z => h xs (by rw [← z]; exact e))]
  exact e
theorem Keep.set {p S : Addr} {H H' : Hp} {o : HO} (k : Keep p H H') (n : H S = none) : Keep p H (L2.upd H' S o) := fun c o nc ec => by
  rw [upd_ne (ne_of_none ec n)]
  exact k c o nc ec
theorem same_set {S : Addr} {H H' : Hp} {o : HO} (k : Same H H') (n : H S = none) : Same H (upd H' S o) := fun c o ec => by
  rw [upd_ne (ne_of_none ec n)]
  exact k c o ec
theorem two_sz {x y : V} : [x, y].length ≤ sizeLine := by show 2 ≤ sizeLine; decide
theorem four_sz {x y z u : V} : [x, y, z, u].length ≤ sizeLine := by show 4 ≤ sizeLine; decide
theorem paired_drop {α β : Type} {R : α → β → Prop} : ∀ {as : List α} {bs : List β} (n : Nat), Paired R as bs → Paired R (as.drop n) (bs.drop n)
  | _, _, 0, h => h
  | _, _, n + 1, .nil => .nil
  | _, _, n + 1, .cons q t => paired_drop n t
theorem paired_ins {α β : Type} {R : α → β → Prop} {as : List α} {bs : List β} (n : Nat) {a : α} {b : β} (h : Paired R as bs) (r : R a b) : Paired R (as.take n ++ [a] ++ as.drop n) (bs.take n ++ [b] ++ bs.drop n) :=
  paired_append (paired_append (paired_take n h) (.cons r .nil)) (paired_drop n h)
theorem perm_ins {α : Type} (xs : List α) (n : Nat) (x : α) : (xs.take n ++ [x] ++ xs.drop n).Perm (xs ++ [x]) := by
  have h1 : (xs.take n ++ [x] ++ xs.drop n).Perm (x :: (xs.take n ++ xs.drop n)) := by
    rw [List.append_assoc]
    exact List.perm_middle
  rw [List.take_append_drop] at h1
  exact h1.trans (List.perm_append_comm (l₁ := [x]) (l₂ := xs))
theorem ins_map {xs : List Addr} {n : Nat} {x : Addr} : (xs.map V.ref).take n ++ [V.ref x] ++ (xs.map V.ref).drop n = (xs.take n ++ [x] ++ xs.drop n).map V.ref := by
  simp only [List.map_append, List.map_take, List.map_drop, List.map_cons, List.map_nil]
theorem nodup_inj {α : Type} {zs : List α} (h : zs.Nodup) {x y : Nat} {z : α} (h1 : zs[x]? = some z) (h2 : zs[y]? = some z) : x = y := by
  rw [List.nodup_iff_pairwise_ne, List.pairwise_iff_getElem] at h
  obtain ⟨l1, g1⟩ := List.getElem?_eq_some_iff.mp h1
  obtain ⟨l2, g2⟩ := List.getElem?_eq_some_iff.mp h2
  rcases Nat.lt_trichotomy x y with c | c | c
  · exact absurd (g1.trans g2.symm) (h x y l1 l2 c)
  · exact c
  · exact absurd (g2.trans g1.symm) (h y x l2 l1 c)
theorem nm_ok {z : Nm} (h : IsNm z) : PyData.strOk (SX.S z) = true := by
  unfold PyData.strOk
  rw [Array.all_eq_true']
  intro c hc
  have hc : c ∈ z := by simpa [SX.S] using hc
  have := h.2.2 c hc
  exact decide_eq_true (by omega)
end Th
/-! tuples told with their objects; dict of such; sorted of data -/
namespace Th
open PySem PySem.Spec PyProof.Rows L2
/-- the tuple xs at a, its object known to be plain -/
def TpF (H : Hp) (a : Addr) (xs : List V) : Prop := ∃ o : Obj, H a = some (.frz o (.tup xs)) ∧ o.dict = none
theorem TpF.sq {K : PySem.W.Frag} {H : Hp} {a : Addr} {xs : List V} (h : TpF H a xs) : SqT K H a xs := let ⟨o, e, _⟩ := h; .inl (.inr ⟨o, e⟩)
theorem TpF.same {H H' : Hp} {a : Addr} {xs : List V} (h : TpF H a xs) (s : Same H H') : TpF H' a xs := let ⟨o, e, d⟩ := h; ⟨o, s _ _ e, d⟩
theorem TpF.keep {p : Addr} {H H' : Hp} {a : Addr} {xs : List V} (h : TpF H a xs) (k : Keep p H H') (b : Bag H p) : TpF H' a xs := by
  obtain ⟨o, e, d⟩ := h
  refine ⟨o, k _ _ (fun z => ?_) e, d⟩
  obtain ⟨g, r, e', _⟩ := b
  rw [z, e'] at e
  cases e
def rTupF (K : PySem.W.Frag) : List V → Hp → VK → Prop := fun xs H Q => ∃ (p : Addr) (ys : List V), xs = [.ref p] ∧ SqL K H p ys ∧ ∀ (l : Addr) (H' : Hp), H l = none → Same H H' → TpF H' l ys → (∀ q, q ≠ l → H' q = H q) → Q (.ref l) H'
theorem call_tuple_ofF {X : Cx} : CallR X (.type "tuple") (rTupF X.K) := by
  intro pins s σ H xs us Q I r h
  obtain ⟨p, ys, rfl, hq, q⟩ := h
  obtain ⟨u, rfl, rx⟩ := vals1 r
  cases rx
  obtain ⟨its, r', pl, hz⟩ := I.list hq
  have hlen := r'.length
  refine call_tuple_list pl.isList (fun h' kp => ?_) (by simp only [List.size_toArray] <;> omega)
  have I1 : Inv X pins σ H { s with heap := h' } := I.kept (t' := s.toks) kp
  have I2 : Inv X pins σ (upd H h'.objs.size (.frz { cls := .type "tuple", data := .seq its.toArray } (.tup ys))) { s with heap := h'.push { cls := .type "tuple", data := .seq its.toArray } } :=
    I1.laid (t' := s.toks) (fun b o e => Heap.get?_push_of_some _ e) (Nat.le_refl _) (show ObjOk X.prog X.w _ _ _ (.frz _ (.tup ys)) from ⟨Heap.get?_push_size _ rfl, hz, its, r', IsTup.new _ _⟩)
  have nl := I1.hok.fresh (Nat.le_refl h'.objs.size)
  exact ⟨.ref h'.objs.size, _, I2, rfl, q _ _ nl (same_upd nl) ⟨_, upd_same, rfl⟩ fun q hq => upd_ne hq⟩
theorem choose_list {α β : Type} : ∀ {xs : List α} {R : Nat → α → β → Prop}, (∀ j x, xs[j]? = some x → ∃ y, R j x y) → ∃ ys : List β, ys.length = xs.length ∧ ∀ j y, ys[j]? = some y → ∃ x, xs[j]? = some x ∧ R j x y
  | [], _, _ => ⟨[], rfl, fun j y e => by simp at e⟩
  | x :: xs, R, h => by
    obtain ⟨y, hy⟩ := h 0 x rfl
    obtain ⟨ys, h1, h2⟩ := choose_list (xs := xs) (R := fun j => R (j + 1)) fun j x e => h (j + 1) x e
    refine ⟨y :: ys, by rw [List.length_cons, h1, List.length_cons], fun j z e => ?_⟩
    match j, e with
    | 0, e =>
      have : y = z := Option.some.inj e
      subst this
      exact ⟨x, rfl, hy⟩
    | j + 1, e => exact h2 j z e
def rDictF (K : PySem.W.Frag) : List V → Hp → VK → Prop := fun xs H Q => ∃ (a : Addr) (ps : List Addr) (kvs : List (Key × V)), xs = [.ref a] ∧ TpF H a (ps.map V.ref) ∧ Paired (fun p kv => SqT K H p [kV kv.1, kv.2]) ps kvs ∧
    ∀ p, H p = none → Q (.ref p) (upd H p (.dK (mergeK [] kvs)))
theorem call_dictF {X : Cx} (hcalm : X.calm = true) : CallR X (.type "dict") (rDictF X.K) := by
  intro pins s σ H xs us Q I r h
  obtain ⟨a, ps, kvs, rfl, ⟨ob, hob, hnd⟩, hp, q⟩ := h
  obtain ⟨u, rfl, rx⟩ := vals1 r
  cases rx
  obtain ⟨hg, hz, its, rv, o', ho', hc, n, hdat⟩ := (show ObjOk X.prog X.w H s.heap a (.frz ob (.tup (ps.map V.ref))) from I.hok a _ hob)
  rw [hg] at ho'
  cases ho'
  have ei := refs_at rv
  subst ei
  rw [List.length_map] at hz
  obtain ⟨prs, rel, hl, hpr⟩ := pairs_of I hp
  obtain ⟨vv, hvl, hvv⟩ := choose_list (R := fun j (q : Key × Value) (k : Value) => ∃ b, ps[j]? = some b ∧ IsTup s.heap b #[k, q.2] ∧ keyIs q.1 k = true) (xs := prs) fun j q e => let ⟨b, u, h⟩ := hpr j q e; ⟨u, b, h⟩
  have len : (vv.zip (prs.map (·.2))).length = ps.length := by rw [List.length_zip, List.length_map, hvl, hl]; omega
  have each : ∀ j k v, (vv.zip (prs.map (·.2)))[j]? = some (k, v) → ∃ (b : Addr) (q : Key × Value), ps[j]? = some b ∧ prs[j]? = some q ∧ v = q.2 ∧ IsTup s.heap b #[k, v] ∧ keyIs q.1 k = true := fun j k v e => by
    rw [List.getElem?_zip_eq_some, List.getElem?_map] at e
    obtain ⟨q, hq, b, h1, h2, h3⟩ := hvv j k e.1
    rw [hq] at e
    have : q.2 = v := Option.some.inj e.2
    subst this
    exact ⟨b, q, h1, hq, rfl, h2, h3⟩
  have P := PairArg.tuple (prog := X.prog) (w := X.w) a (ps.map Value.ref).toArray (fun j => ps.getD j 0) (vv.zip (prs.map (·.2)))
  refine PySem.call_dict_pairs (knd := mixKind X.prog X.w) (kvs := prs) P (I.ok.hd hcalm) ⟨⟨ob, n, hg, hc, hnd, hdat⟩, ?_, fun j k v e => ?_⟩ ⟨by rw [len, hl], fun j k v e => ?_⟩ ?_ fun h' tk hd' k => ?_
  · rw [List.size_toArray, List.length_map, len]
  · obtain ⟨b, q, h1, h2, h3, h4, h5⟩ := each j k v e
    refine ⟨?_, .inl ?_⟩
    · show (ps.map Value.ref).toArray[j]? = some (Value.ref (ps.getD j 0))
      rw [List.getD_eq_getElem?_getD, h1]
      simp [h1]
    · show s.heap.IsTuple (ps.getD j 0) #[k, v]
      rw [List.getD_eq_getElem?_getD, h1]
      exact h4
  · obtain ⟨b, q, h1, h2, h3, h4, h5⟩ := each j k v e
    exact ⟨q.1, by rw [h2, h3], h5⟩
  · rw [len]
    exact hz
  · have hm : (s.heap.objs.size == sysModules) = false := beq_eq_false_iff_ne.mpr (Nat.ne_of_gt I.big)
    have hlen : (mergeK [] kvs).length ≤ sizeLine := by
      refine Nat.le_trans (length_mergeK kvs []) ?_
      rw [List.length_nil, Nat.zero_add, rel.length, hl]
      exact hz
    exact ⟨.ref s.heap.objs.size, upd H s.heap.objs.size (.dK (mergeK [] kvs)), I.laid (t' := tk) (fun b o e => k b o (by simp) e) (Nat.le_refl _) (show ObjOk X.prog X.w _ _ _ (.dK (mergeK [] kvs)) from ⟨hlen, hm, merged [] prs, KV.merge rel .nil, hd'⟩), rfl, q _ (I.hok.fresh (Nat.le_refl _))⟩
/-- what such a dict tells, the keys unlike -/
theorem val_mergeK : ∀ (kvs acc : List (Key × V)) (k : Key), valV (mergeK acc kvs) k = match kvs.reverse.find? (fun p => decide (p.1 = k)) with | some p => some p.2 | none => valV acc k
  | [], acc, k => rfl
  | p :: kvs, acc, k => by
    show valV (mergeK (putK acc p.1 p.2) kvs) k = _
    rw [val_mergeK kvs, valV_put, List.reverse_cons, List.find?_append]
    cases h : kvs.reverse.find? (fun p => decide (p.1 = k)) with
    | some q => rfl
    | none =>
      show (if k = p.1 then some p.2 else valV acc k) = _
      by_cases c : k = p.1
      · rw [if_pos c]
        simp [c]
      · rw [if_neg c]
        have : ¬ p.1 = k := fun e => c e.symm
        simp [this]
theorem val_merge_nd {kvs : List (Key × V)} (nd : (kvs.map (·.1)).Nodup) {k : Key} {v : V} (h : (k, v) ∈ kvs) : valV (mergeK [] kvs) k = some v := by
  rw [val_mergeK]
  have : kvs.reverse.find? (fun p => decide (p.1 = k)) = some (k, v) := by
    cases f : kvs.reverse.find? (fun p => decide (p.1 = k)) with
    | none =>
      have := List.find?_eq_none.mp f (k, v) (List.mem_reverse.mpr h)
      simp at this
    | some q =>
      have hq : q.1 = k := by
        have := List.find?_some f
        exact of_decide_eq_true this
      have hm : q ∈ kvs := List.mem_reverse.mp (List.mem_of_find?_eq_some f)
      obtain ⟨i, hi⟩ := List.getElem?_of_mem h
      obtain ⟨j, hj⟩ := List.getElem?_of_mem hm
      have e1 : (kvs.map (·.1))[i]? = some k := by rw [List.getElem?_map, hi]; rfl
      have e2 : (kvs.map (·.1))[j]? = some k := by rw [List.getElem?_map, hj, ← hq]; rfl
      have l1 := (List.getElem?_eq_some_iff.mp e1).1
      have ij : i = j := (List.getElem?_inj l1 nd).mp (e1.trans e2.symm)
      subst ij
      rw [hi] at hj
      exact hj.symm
  rw [this]
/-- sorted of data -/
def rSortD {β : Type} (enc : β → PyData) (K : PySem.W.Frag) : List V → Hp → VK → Prop := fun vs H Q => ∃ (a : Addr) (xs : List V) (bs : List β) (R : V → β → Prop), vs = [.ref a] ∧ SqL K H a xs ∧ Paired R xs bs ∧ (∀ v b, b ∈ bs → R v b → Dp K H v (enc b)) ∧ PySem.W.AllAlike (bs.map enc) ∧ PySem.W.Sortable (bs.map enc) ∧ (∀ b ∈ bs, (enc b).depth ≤ 60) ∧
  ∀ (p : Addr) (ys : List V), H p = none → Paired R ys (bs.mergeSort (PySem.W.dataLe false enc)) → Q (.ref p) (upd H p (.lst ys))
theorem each_of {β : Type} {R : V → β → Prop} {S : Value → β → Prop} : ∀ {xs : List V} {us : List Value} {bs : List β}, Vals xs us → Paired R xs bs → (∀ v u b, b ∈ bs → RelV v u → R v b → S u b) → PySem.W.EachIs S us bs
  | _, _, _, .nil, .nil, _ => .nil
  | _, _, _, .cons r rs, .cons h hs, k => .cons (k _ _ _ List.mem_cons_self r h) (each_of rs hs fun v u b hb => k v u b (List.mem_cons_of_mem _ hb))
theorem of_each {β : Type} {R : V → β → Prop} : ∀ {us : List Value} {bs : List β}, PySem.W.EachIs (fun u b => ∃ v, RelV v u ∧ R v b) us bs → ∃ xs, Vals xs us ∧ Paired R xs bs
  | _, _, .nil => ⟨[], .nil, .nil⟩
  | _, _, .cons ⟨v, r, h⟩ hs => let ⟨xs, h1, h2⟩ := of_each hs; ⟨v :: xs, .cons r h1, .cons h h2⟩
theorem cr_sortD {X : Cx} {β : Type} (enc : β → PyData) (hu : X.A.units + 64 < cLine) : CallR X (.builtin "sorted") (rSortD enc X.K) := by
  intro pins s σ H vs us Q I r h
  obtain ⟨a, xs, bs, R, rfl, hs, hR, hd, hal, hk, hdep, q⟩ := h
  obtain ⟨its, rv, hl, hz⟩ := I.list hs
  rw [Vals.ref1 r]
  have lb : its.length = bs.length := by rw [← rv.length, hR.length]
  refine PySem.W.sorted_data (enc := enc) (bs := bs) (R := fun u b => ∃ v, RelV v u ∧ R v b) hl.isList (each_of rv hR fun v u b _ r h => ⟨v, r, h⟩) (each_of rv hR fun v u b hb r h => Dp.reads I (enc b) v u (hd v b hb h) r) hal hk (by rw [← lb, ← rv.length]; exact hz) (fun b hb => by have := hdep b hb; omega) fun out hlen hout => ?_
  obtain ⟨ys, h1, h2⟩ := of_each hout
  obtain ⟨ep, he⟩ := sortedAll_at s.heap its out.toArray
  have hly : ys.length ≤ sizeLine := by
    rw [h1.length, hlen, ← lb, ← rv.length]
    exact hz
  exact ⟨.ref _, upd H (s.heap.objs.size + 1) (.lst ys), I.laid (t' := s.toks) (fun _ _ => sortedAll_old) (Nat.le_succ _) (show ObjOk X.prog X.w _ _ _ (.lst ys) from ⟨hly, out, ep, h1, he⟩), rfl, q _ ys (I.hok.fresh (Nat.le_succ _)) h2⟩
end Th
/-! list(zip(xs, ys)), xs and ys lists of one length: a new list of new tuples -/
namespace Lz
open PySem PySem.Spec PyProof.Rows L2
theorem no_len : typeLookup (.type "zip") "__len__" = pure none := am_miss_of_fast (by decide +kernel)
theorem no_hint : typeLookup (.type "zip") "__length_hint__" = pure none := am_miss_of_fast (by decide +kernel)
structure ZS (z TI TO i1 i2 l1 l2 S : Addr) (xs ys : Array Value) (i : Nat) (h : Heap) : Prop where
  ti : IsPair h TI (.ref i1) (.ref i2)
  a1 : h.IsListIter i1 l1 i
  a2 : h.IsListIter i2 l2 i
  b1 : h.IsList l1 xs
  b2 : h.IsList l2 ys
  zz : (IsZip h z TI TO .none ∧ ∃ a b, IsPair h TO a b) ∨ ∃ T f oT, IsZipHeld h z TI TO T f ∧ h.get? T = some oT ∧ T ≠ z ∧ T ≠ i1 ∧ T ≠ i2 ∧ T ≠ S
structure Off (z TI TO i1 i2 l1 l2 S : Addr) : Prop where
  z : z ≠ S
  ti : TI ≠ S
  to' : TO ≠ S
  i1 : i1 ≠ S
  i2 : i2 ≠ S
  l1 : l1 ≠ S
  l2 : l2 ≠ S
theorem ZS.frame {z TI TO i1 i2 l1 l2 S : Addr} {xs ys : Array Value} {i : Nat} {h h' : Heap} (O : Off z TI TO i1 i2 l1 l2 S) (st : ZS z TI TO i1 i2 l1 l2 S xs ys i h) (hk : ∀ b o, b ≠ S → h.get? b = some o → h'.get? b = some o) : ZS z TI TO i1 i2 l1 l2 S xs ys i h' := by
  refine ⟨hk _ _ O.ti st.ti, st.a1.at fun o e => hk _ o O.i1 e, st.a2.at fun o e => hk _ o O.i2 e, st.b1.at fun o e => hk _ o O.l1 e, st.b2.at fun o e => hk _ o O.l2 e, ?_⟩
  rcases st.zz with ⟨hz, a, b, hTO⟩ | ⟨T, f, oT, hz, hT, r1, r2, r3, r4⟩
  · exact .inl ⟨hk _ _ O.z hz, a, b, hk _ _ O.to' hTO⟩
  · exact .inr ⟨T, f, oT, hk _ _ O.z hz, hk _ _ r4 hT, r1, r2, r3, r4⟩
structure ZG (xs ys : Array Value) (lo : Addr) (h : Heap) (as : List Addr) : Prop where
  rise : as.Pairwise (· < ·)
  above : ∀ a ∈ as, lo < a
  pairs : ∀ (j : Nat) (a : Addr), as[j]? = some a → ∃ x y, xs[j]? = some x ∧ ys[j]? = some y ∧ h.get? a = some { cls := .type "tuple", data := .seq #[x, y] }
theorem ZG.there {xs ys : Array Value} {lo : Addr} {h : Heap} {as : List Addr} (g : ZG xs ys lo h as) {a : Addr} (ha : a ∈ as) : a < h.objs.size := by
  obtain ⟨j, hj⟩ := List.mem_iff_getElem?.mp ha
  obtain ⟨_, _, _, _, e⟩ := g.pairs j a hj
  exact Heap.lt_size e
section
variable {prog : Program} {w : World} {A : Around} {E : Value → Shared → Prop} {s : Shared} {z TI TO i1 i2 l1 l2 S : Addr} {xs ys : Array Value} {i : Nat}
theorem z_item {x y : Value} {Q : Option Value → Shared → Prop} (D : ZipApart z TI TO i1 i2 l1 l2) (st : ZS z TI TO i1 i2 l1 l2 S xs ys i s.heap) (hS : S < s.heap.objs.size) (ex : xs[i]? = some x) (ey : ys[i]? = some y)
    (hQ : ∀ h', ZS z TI TO i1 i2 l1 l2 S xs ys (i + 1) h' → IsPair h' s.heap.objs.size x y → (∀ c o, c ≠ z → c ≠ TO → c ≠ i1 → c ≠ i2 → s.heap.get? c = some o → h'.get? c = some o) → Q (some (.ref s.heap.objs.size)) { s with heap := h' }) :
    wpAny (model prog w) A (pyNext (.ref z)) Q E s := by
  obtain ⟨hTI, h1, h2, hl1, hl2, hz⟩ := st
  have lt : ∀ {c o}, s.heap.get? c = some o → s.heap.objs.size ≠ c := fun e => Nat.ne_of_gt (Heap.lt_size e)
  have n1 : s.heap.objs.size ≠ i1 := let ⟨_, e, _⟩ := h1; lt e
  have n2 : s.heap.objs.size ≠ i2 := let ⟨_, e, _⟩ := h2; lt e
  rcases hz with ⟨hz, a, b, hTO⟩ | ⟨T, f, oT, hz, hT, r1, r2, r3, r4⟩
  · refine wpAny_pyNext_zip_item D hz hTI hTO h1 h2 hl1 hl2 ex ey fun h' a1 a2 a3 a4 a5 a6 hk => ?_
    exact hQ h' ⟨hk _ _ D.TIz D.TITO D.TIi1 D.TIi2 hTI, a3, a4, hl1.at fun o e => hk _ o D.l1z D.l1TO D.l1i1 D.l1i2 e, hl2.at fun o e => hk _ o D.l2z D.l2TO D.l2i1 D.l2i2 e, .inr ⟨s.heap.objs.size, false, _, a1, a5, lt hz, n1, n2, Nat.ne_of_gt hS⟩⟩ a5 hk
  · refine wpAny_pyNext_zip_item_held D hz hT hTI h1 h2 hl1 hl2 ex ey fun h' a1 a3 a4 a5 a6 hk => ?_
    exact hQ h' ⟨hk _ _ D.TIz D.TIi1 D.TIi2 hTI, a3, a4, hl1.at fun o e => hk _ o D.l1z D.l1i1 D.l1i2 e, hl2.at fun o e => hk _ o D.l2z D.l2i1 D.l2i2 e, .inr ⟨T, true, oT, a1, hk _ _ r1 r2 r3 hT, r1, r2, r3, r4⟩⟩ a5 fun c o c1 _ c3 c4 e => hk c o c1 c3 c4 e
theorem z_done {Q : Option Value → Shared → Prop} (hA : A.handled = none) (D : ZipApart z TI TO i1 i2 l1 l2) (st : ZS z TI TO i1 i2 l1 l2 S xs ys i s.heap) (hend : xs[i]? = none ∨ ys[i]? = none)
    (hQ : ∀ h', (∀ c o, c ≠ z → c ≠ TO → c ≠ i1 → c ≠ i2 → s.heap.get? c = some o → h'.get? c = some o) → Q none { s with heap := h' }) : wpAny (model prog w) A (pyNext (.ref z)) Q E s := by
  obtain ⟨hTI, h1, h2, hl1, hl2, hz⟩ := st
  rcases hz with ⟨hz, a, b, hTO⟩ | ⟨T, f, oT, hz, hT, r1, r2, r3, r4⟩
  · exact wpAny_pyNext_zip_end hA D hz hTI hTO h1 h2 hl1 hl2 hend fun h' hk => hQ h' hk
  · exact wpAny_pyNext_zip_end_held hA D hz hT hTI h1 h2 hl1 hl2 hend fun h' hk => hQ h' fun c o c1 _ c3 c4 e => hk c o c1 c3 c4 e
theorem z_loop {R : Result → Shared → Prop} (hh : A.handled = none) (D : ZipApart z TI TO i1 i2 l1 l2) (O : Off z TI TO i1 i2 l1 l2 S) (lz : z < S) (lt : TO < S) (li1 : i1 < S) (li2 : i2 < S) {n : Nat} (hx : xs.size = n) (hy : ys.size = n) (hn : n ≤ sizeLine) (res : Value) {h₁ : Heap}
    (hR : ∀ h' tk acc c as, (∀ b o, b ≠ S → b ≠ z → b ≠ TO → b ≠ i1 → b ≠ i2 → h₁.get? b = some o → h'.get? b = some o) → h'.get? S = some { cls := .type "list", dict := none, data := .seq acc c, slots := #[] } → as.length = n → ZG xs ys S h' as →
      acc.toList = as.map Value.ref → R (.ok (.ret res)) { s with heap := h', toks := tk }) :
    ∀ (k i : Nat) (h : Heap) (tk c : Nat) (acc : Array Value) (as : List Addr), n - i = k → i ≤ n → ZS z TI TO i1 i2 l1 l2 S xs ys i h → (∀ b o, b ≠ S → b ≠ z → b ≠ TO → b ≠ i1 → b ≠ i2 → h₁.get? b = some o → h.get? b = some o) →
      h.get? S = some { cls := .type "list", dict := none, data := .seq acc c, slots := #[] } → acc.toList = as.map Value.ref → as.length = i → ZG xs ys S h as →
      codeAny (model prog w) A (.builtin "list.extend.loop" ⟨[.ref S, .ref z, res], []⟩) R { s with heap := h, toks := tk } := by
  intro k
  induction k with
  | zero =>
    intro i h tk c acc as hk hi hst hkeep hS hacc hal hG
    refine codeAny_builtin PySem.F.entry_extend_loop ?_
    rw [Around.under_plainId PySem.F.plain_extend_loop _]
    show wpAny _ A.in1 (pyNext (.ref z) >>= _) _ _ _
    refine wpAny_bind (z_done (s := { s with heap := h, toks := tk }) (A := A.in1) hh D hst (.inl (Array.getElem?_eq_none (by omega))) fun h' he => ?_)
    refine wpAny_pure (hR h' tk acc c as (fun b o h1 h2 h3 h4 h5 e => he b o h2 h3 h4 h5 (hkeep b o h1 h2 h3 h4 h5 e)) (he S _ O.z.symm O.to'.symm O.i1.symm O.i2.symm hS) (by omega) ⟨hG.rise, hG.above, fun j a hj => ?_⟩ hacc)
    obtain ⟨x, y, e1, e2, e3⟩ := hG.pairs j a hj
    have ab := hG.above a (List.mem_of_getElem? hj)
    exact ⟨x, y, e1, e2, he a _ (Nat.ne_of_gt (Nat.lt_trans lz ab)) (Nat.ne_of_gt (Nat.lt_trans lt ab)) (Nat.ne_of_gt (Nat.lt_trans li1 ab)) (Nat.ne_of_gt (Nat.lt_trans li2 ab)) e3⟩
  | succ k ih =>
    intro i h tk c acc as hk hi hst hkeep hS hacc hal hG
    have hlt : i < n := by omega
    obtain ⟨x, ex⟩ : ∃ p, xs[i]? = some p := ⟨xs[i], Array.getElem?_eq_getElem (by omega)⟩
    obtain ⟨y, ey⟩ : ∃ p, ys[i]? = some p := ⟨ys[i], Array.getElem?_eq_getElem (by omega)⟩
    have hsz : acc.size = i := by rw [← Array.length_toList, hacc, List.length_map, hal]
    have hSl : S < h.objs.size := Heap.lt_size hS
    refine codeAny_builtin PySem.F.entry_extend_loop ?_
    rw [Around.under_plainId PySem.F.plain_extend_loop _]
    show wpAny _ A.in1 (pyNext (.ref z) >>= _) _ _ _
    refine wpAny_bind (z_item (s := { s with heap := h, toks := tk }) (S := S) D hst hSl ex ey fun h' hst' ht hkp => ?_)
    dsimp only at ht hkp ⊢
    have hS' := hkp S _ O.z.symm O.to'.symm O.i1.symm O.i2.symm hS
    have up : ∀ b o, b ≠ S → h'.get? b = some o → (h'.update S (Obj.mapSeq (·.push (Value.ref h.objs.size)))).get? b = some o := fun b o hb e => (Heap.get?_update_other _ _ (Ne.symm hb)).trans e
    show wpAny _ A.in1 (updateSeq S (·.push (Value.ref h.objs.size)) >>= _) _ _ _
    refine wpAny_bind ?_
    refine wpAny_updateSeq hS' rfl (wpAny_pure ⟨plainId_quiet PySem.F.plain_extend_loop _, ih (i + 1) _ tk _ (acc.push (Value.ref h.objs.size)) (as ++ [h.objs.size]) (by omega) hlt (hst'.frame O up)
      (fun b o h1 h2 h3 h4 h5 e => up b o h1 (hkp b o h2 h3 h4 h5 (hkeep b o h1 h2 h3 h4 h5 e))) (Heap.get?_update_self _ hS' rfl) (by rw [Array.toList_push, hacc, List.map_append]; rfl) (by rw [List.length_append, hal]; rfl) ⟨?_, ?_, ?_⟩⟩) (by rw [hsz]; omega) (by show (acc.push (Value.ref h.objs.size)).size ≤ sizeLine + 1; rw [Array.size_push, hsz]; omega)
    · refine List.pairwise_append.mpr ⟨hG.rise, List.pairwise_singleton _ _, fun a ha b hb => ?_⟩
      rw [List.mem_singleton.mp hb]
      exact hG.there ha
    · intro a ha
      rcases List.mem_append.mp ha with ha | ha
      · exact hG.above a ha
      · rw [List.mem_singleton.mp ha]
        exact hSl
    · intro j b hj
      rcases Nat.lt_trichotomy j as.length with h1 | h1 | h1
      · rw [List.getElem?_append_left h1] at hj
        obtain ⟨x', y', e1, e2, e3⟩ := hG.pairs j b hj
        have ab := hG.above b (List.mem_of_getElem? hj)
        exact ⟨x', y', e1, e2, up b _ (Nat.ne_of_gt ab) (hkp b _ (Nat.ne_of_gt (Nat.lt_trans lz ab)) (Nat.ne_of_gt (Nat.lt_trans lt ab)) (Nat.ne_of_gt (Nat.lt_trans li1 ab)) (Nat.ne_of_gt (Nat.lt_trans li2 ab)) e3)⟩
      · subst h1
        have hb : h.objs.size = b := by simpa using hj
        subst hb
        exact ⟨x, y, by rw [hal]; exact ex, by rw [hal]; exact ey, up _ _ (Nat.ne_of_gt hSl) ht⟩
      · have hnone : (as ++ [h.objs.size])[j]? = none := List.getElem?_eq_none (by rw [List.length_append, List.length_singleton]; omega)
        rw [hnone] at hj
        cases hj
theorem z_hint (hT : s.TypeIs (.ref z) "zip") {Q : Bool → Shared → Prop} (h : Q true s) : wpAny (model prog w) A (Builtin.List.listLengthHint (.ref z)) Q E s := by
  unfold Builtin.List.listLengthHint
  refine wpAny_bind (wpAny_specialOf hT no_len ?_)
  show wpAny _ _ (specialOf (Value.ref z) (Str.ofString "__length_hint__") >>= _) _ _ _
  refine wpAny_bind (wpAny_specialOf hT no_hint ?_)
  exact wpAny_pure h
theorem z_extend {R : Result → Shared → Prop} (hh : A.handled = none) (D : ZipApart z TI TO i1 i2 l1 l2) (O : Off z TI TO i1 i2 l1 l2 S) (lz : z < S) (lt : TO < S) (li1 : i1 < S) (li2 : i2 < S) {n : Nat} (hx : xs.size = n) (hy : ys.size = n) (hn : n ≤ sizeLine) (res : Value) (c₀ : Nat)
    (hz : IsZip s.heap z TI TO .none) (st : ZS z TI TO i1 i2 l1 l2 S xs ys 0 s.heap) (hS : s.heap.get? S = some { cls := .type "list", data := .seq #[] c₀ })
    (hR : ∀ h' tk acc c as, (∀ b o, b ≠ S → b ≠ z → b ≠ TO → b ≠ i1 → b ≠ i2 → s.heap.get? b = some o → h'.get? b = some o) → h'.get? S = some { cls := .type "list", dict := none, data := .seq acc c, slots := #[] } → as.length = n → ZG xs ys S h' as →
      acc.toList = as.map Value.ref → R (.ok (.ret res)) { s with heap := h', toks := tk }) :
    wpAny (model prog w) A.in1 (Builtin.List.listExtendWith (.ref S) (.ref z) res)
      (fun fin s' => match fin with | .done f => R (.ok f) s' | .again c' => c'.quiet = true ∧ codeAny (model prog w) A c' R s') (fun e s' => R (.error e) s') s := by
  have hT : s.TypeIs (.ref z) "zip" := ⟨_, hz, rfl⟩
  have key : ∀ (h : Heap) (c₁ tk : Nat), (∀ b o, b ≠ S → s.heap.get? b = some o → h.get? b = some o) → h.get? S = some { cls := .type "list", data := .seq #[] c₁ } → codeAny (model prog w) A (.builtin "list.extend.loop" ⟨[.ref S, .ref z, res], []⟩) R { s with heap := h, toks := tk } := by
    intro h c₁ tk hk hS₁
    exact z_loop (s := s) (h₁ := s.heap) hh D O lz lt li1 li2 hx hy hn res hR n 0 h tk c₁ #[] [] (Nat.sub_zero _) (Nat.zero_le _) (st.frame O hk) (fun b o hb _ _ _ _ e => hk b o hb e) hS₁ rfl rfl ⟨List.Pairwise.nil, (fun _ ha => nomatch ha), (fun j a hj => by simp at hj)⟩
  unfold Builtin.List.listExtendWith
  refine wpAny_bind (wpAny_typeOf (T := "zip") hT ?_)
  have h1 : Builtin.List.listSameRef (.ref S) (.ref z) = false := by simp [Builtin.List.listSameRef, O.z.symm]
  have h2 : (Value.type "zip" == Value.type "list") = false := by decide
  have h3 : (Value.type "zip" == Value.type "tuple") = false := by decide
  simp only [h1, h2, h3, Bool.or_false, Bool.false_eq_true, if_false]
  refine wpAny_bind (wpAny_pyIter_zip hz ?_)
  refine wpAny_bind (wpAny_holding (z_hint hT ?_))
  refine wpAny_ite_split (fun _ => ?_) (fun _ => wpAny_pure ⟨plainId_quiet PySem.F.plain_extend_loop _, key _ c₀ _ (fun b o _ e => e) hS⟩)
  refine wpAny_bind (wpAny_rule ?_)
  refine wpAny_bind ?_
  show wpAny _ _ (updateSeq S (·.push .none) >>= fun _ => updateSeq S (·.pop)) _ _ _
  refine wpAny_bind (wpAny_updateSeq hS rfl ?_)
  have hS₂ := Heap.get?_update_self (Obj.mapSeq (·.push Value.none)) hS rfl
  refine wpAny_updateSeq (hz := by seq_fits) hS₂ rfl ?_
  have hS₃ := Heap.get?_update_self (Obj.mapSeq (·.pop)) hS₂ rfl
  refine wpAny_pure ⟨plainId_quiet PySem.F.plain_extend_loop _, key _ _ _ (fun b o hb e => ?_) hS₃⟩
  exact (Heap.get?_update_other _ _ (Ne.symm hb)).trans ((Heap.get?_update_other _ _ (Ne.symm hb)).trans e)
theorem z_init {R : Result → Shared → Prop} (hh : A.handled = none) (D : ZipApart z TI TO i1 i2 l1 l2) (O : Off z TI TO i1 i2 l1 l2 S) (lz : z < S) (lt : TO < S) (li1 : i1 < S) (li2 : i2 < S) {n : Nat} (hx : xs.size = n) (hy : ys.size = n) (hn : n ≤ sizeLine)
    (hz : IsZip s.heap z TI TO .none) (st : ZS z TI TO i1 i2 l1 l2 S xs ys 0 s.heap) (hS : s.heap.get? S = some { cls := .type "list", data := .seq #[] })
    (hR : ∀ h' tk acc c as, (∀ b o, b ≠ S → b ≠ z → b ≠ TO → b ≠ i1 → b ≠ i2 → s.heap.get? b = some o → h'.get? b = some o) → h'.get? S = some { cls := .type "list", dict := none, data := .seq acc c, slots := #[] } → as.length = n → ZG xs ys S h' as →
      acc.toList = as.map Value.ref → R (.ok (.ret .none)) { s with heap := h', toks := tk }) :
    wpAny (model prog w) A.in1 (Builtin.«list.__init__» ⟨[.ref S, .ref z], []⟩)
      (fun fin s' => match fin with | .done f => R (.ok f) s' | .again c' => c'.quiet = true ∧ codeAny (model prog w) A c' R s') (fun e s' => R (.error e) s') s := by
  show wpAny _ _ (do let old ← Builtin.List.listItems (.ref S); Builtin.List.listUpdate (.ref S) (fun _ => #[]); letGo old.toList.reverse; Builtin.List.listExtendWith (.ref S) (.ref z) .none) _ _ s
  refine wpAny_bind ?_
  unfold Builtin.List.listItems
  refine wpAny_bind (wpAny_seqItems hS rfl (wpAny_pure ?_))
  show wpAny _ _ (updateSeq S (fun _ => #[]) >>= fun _ => letGo (#[] : Array Value).toList.reverse >>= fun _ => Builtin.List.listExtendWith (.ref S) (.ref z) .none) _ _ s
  refine wpAny_bind (wpAny_updateSeq hS rfl ?_)
  have hS₂ := Heap.get?_update_self (Obj.mapSeq (fun _ => (#[] : Array Value))) hS rfl
  have oth : ∀ b o, b ≠ S → s.heap.get? b = some o → (s.heap.update S (Obj.mapSeq (fun _ => (#[] : Array Value)))).get? b = some o :=
    fun b o hb e => (Heap.get?_update_other _ _ (Ne.symm hb)).trans e
  refine wpAny_bind (wpAny_letGo ?_)
  refine z_extend hh D O lz lt li1 li2 hx hy hn .none _ (oth _ _ O.z hz) (st.frame O oth) hS₂ (fun h' tk acc c as hk hS' hl hG hacc => ?_)
  exact hR h' tk acc c as (fun b o hb h2 h3 h4 h5 e => hk b o hb h2 h3 h4 h5 (oth b o hb e)) hS' hl hG hacc
theorem z_call {Q : Value → Shared → Prop} (hh : A.handled = none) (D : ZipApart z TI TO i1 i2 l1 l2) {n : Nat} (hx : xs.size = n) (hy : ys.size = n) (hn : n ≤ sizeLine)
    (hz : IsZip s.heap z TI TO .none) (hTI : IsPair s.heap TI (.ref i1) (.ref i2)) {va vb : Value} (hTO : IsPair s.heap TO va vb) (h1 : s.heap.IsListIter i1 l1 0) (h2 : s.heap.IsListIter i2 l2 0) (hl1 : s.heap.IsList l1 xs) (hl2 : s.heap.IsList l2 ys)
    (hQ : ∀ h' tk acc c as, (∀ b o, b ≠ z → b ≠ TO → b ≠ i1 → b ≠ i2 → s.heap.get? b = some o → h'.get? b = some o) → h'.get? s.heap.objs.size = some { cls := .type "list", dict := none, data := .seq acc c, slots := #[] } → as.length = n → ZG xs ys s.heap.objs.size h' as →
      acc.toList = as.map Value.ref → Q (.ref s.heap.objs.size) { s with heap := h', toks := tk }) :
    wpAny (model prog w) A (call (.type "list") [.ref z]) Q E s := by
  refine callType_codes (Q₁ := fun obj s₁ => obj = .ref s.heap.objs.size ∧ s₁ = { s with heap := s.heap.push { cls := .type "list", data := .seq #[] } }) PySem.F.called_list (PySem.F.typeCall_list_1 _) PySem.F.entry_list_init
    (code_list_new _ ⟨rfl, rfl⟩) fun obj s₁ h₁ => ?_
  obtain ⟨rfl, rfl⟩ := h₁
  have hS : (s.heap.push { cls := .type "list", data := .seq #[] }).get? s.heap.objs.size = some { cls := .type "list", data := .seq #[] } := Heap.get?_push_size _ rfl
  have lz := Heap.lt_size hz
  have lti := Heap.lt_size hTI
  have lt := Heap.lt_size hTO
  obtain ⟨_, e1, _⟩ := id h1
  obtain ⟨_, e2, _⟩ := id h2
  obtain ⟨_, e3, _⟩ := id hl1
  obtain ⟨_, e4, _⟩ := id hl2
  have li1 := Heap.lt_size e1
  have li2 := Heap.lt_size e2
  have ll1 := Heap.lt_size e3
  have ll2 := Heap.lt_size e4
  have O : Off z TI TO i1 i2 l1 l2 s.heap.objs.size := ⟨Nat.ne_of_lt lz, Nat.ne_of_lt lti, Nat.ne_of_lt lt, Nat.ne_of_lt li1, Nat.ne_of_lt li2, Nat.ne_of_lt ll1, Nat.ne_of_lt ll2⟩
  refine ⟨⟨_, hS, rfl⟩, PySem.F.args_list_init_2 _ _, z_init (A := A.in1) hh D O lz lt li1 li2 hx hy hn (Heap.get?_push_of_some _ hz) ⟨Heap.get?_push_of_some _ hTI, h1.at fun o e => Heap.get?_push_of_some _ e, h2.at fun o e => Heap.get?_push_of_some _ e, hl1.at fun o e => Heap.get?_push_of_some _ e, hl2.at fun o e => Heap.get?_push_of_some _ e, .inl ⟨Heap.get?_push_of_some _ hz, _, _, Heap.get?_push_of_some _ hTO⟩⟩ hS (fun h' tk acc c as hk hS' hl hG hacc => ?_)⟩
  exact ⟨rfl, hQ h' tk acc c as (fun b o b1 b2 b3 b4 e => hk b o (Nat.ne_of_lt (Heap.lt_size e)) b1 b2 b3 b4 (Heap.get?_push_of_some _ e)) hS' hl hG hacc⟩
end
/-- the tuples at their addresses -/
def putP : Hp → List Addr → List (V × V) → Hp
  | H, a :: as, p :: ps => putP (upd H a (.tup [p.1, p.2])) as ps
  | H, _, _ => H
theorem putP_off {b : Addr} : ∀ (as : List Addr) (ps : List (V × V)) (H : Hp), b ∉ as → putP H as ps b = H b
  | [], _, _, _ => rfl
  | _ :: _, [], _, _ => rfl
  | a :: as, p :: ps, H, h => by
    show putP (upd H a (.tup [p.1, p.2])) as ps b = H b
    rw [putP_off as ps _ (fun z => h (List.mem_cons_of_mem _ z)), upd_ne (fun z => h (by rw [z]; exact List.mem_cons_self))]
/-- as many tuples as pairs, each its pair -/
abbrev Tups (H : Hp) : List Addr → List (V × V) → Prop := Paired fun t q => H t = some (.tup [q.1, q.2])
theorem putP_at : ∀ (as : List Addr) (ps : List (V × V)) (H : Hp), as.length = ps.length → as.Nodup → Tups (putP H as ps) as ps
  | [], [], _, _, _ => .nil
  | [], _ :: _, _, h, _ => by cases h
  | _ :: _, [], _, h, _ => by cases h
  | a :: as, p :: ps, H, h, hn => by
    have hn' := List.nodup_cons.mp hn
    refine .cons ?_ (putP_at as ps (upd H a (.tup [p.1, p.2])) (Nat.succ.inj h) hn'.2)
    show putP (upd H a (.tup [p.1, p.2])) as ps a = some (.tup [p.1, p.2])
    rw [putP_off as ps _ hn'.1, upd_same]
theorem paired_ix {α β : Type} {F : α → β → Prop} : ∀ {xs : List α} {ys : List β}, Paired F xs ys → ∀ {x : α}, x ∈ xs → ∃ (j : Nat) (y : β), xs[j]? = some x ∧ ys[j]? = some y ∧ F x y
  | _, _, .cons h t, x, hx => by
    rcases List.mem_cons.mp hx with e | hx
    · rw [e]
      exact ⟨0, _, rfl, rfl, h⟩
    · obtain ⟨j, y, e1, e2, e3⟩ := paired_ix t hx
      exact ⟨j + 1, y, e1, e2, e3⟩
theorem refs_vals : ∀ as : List Addr, Vals (as.map V.ref) (as.map Value.ref)
  | [] => .nil
  | _ :: as => .cons rfl (refs_vals as)
section
variable {X : Cx}
theorem z_laid {pins : List (Addr × Obj)} {σ : L2.St} {H : Hp} {s : Shared} {h' : Heap} {tk : Nat} {S : Addr} {vs us : List V} {xs ys : List Value} {acc : Array Value} {c : Nat} {as : List Addr} (I : Inv X pins σ H s) (hS0 : s.heap.objs.size ≤ S) (rx : Vals vs xs) (ry : Vals us ys) (hlen : vs.length = us.length) (hz : vs.length ≤ sizeLine)
    (hk : ∀ b o, s.heap.get? b = some o → h'.get? b = some o) (hS : h'.get? S = some { cls := .type "list", dict := none, data := .seq acc c, slots := #[] }) (hl : as.length = vs.length) (hG : ZG xs.toArray ys.toArray S h' as) (hacc : acc.toList = as.map Value.ref) :
    ∃ H' : Hp, Same H H' ∧ H S = none ∧ (∀ t ∈ as, H t = none) ∧ S ∉ as ∧ as.Nodup ∧ H' S = some (.lst (as.map V.ref)) ∧ Tups H' as (vs.zip us) ∧ Inv X pins σ H' { s with heap := h', toks := tk } := by
  have hSn : S ∉ as := fun z => Nat.lt_irrefl _ (hG.above _ z)
  have nd : as.Nodup := List.Pairwise.imp (fun {a b} (h : a < b) => Nat.ne_of_lt h) hG.rise
  have new : ∀ t ∈ as, H t = none := fun t ht => I.hok.fresh (Nat.le_trans hS0 (Nat.le_of_lt (hG.above t ht)))
  have newS : H S = none := I.hok.fresh hS0
  have lz : (vs.zip us).length = vs.length := by rw [List.length_zip]; omega
  have atP := putP_at as (vs.zip us) (upd H S (.lst (as.map V.ref))) (by omega) nd
  have off : ∀ b, b ∉ as → b ≠ S → putP (upd H S (.lst (as.map V.ref))) as (vs.zip us) b = H b := fun b h1 h2 => by rw [putP_off as _ _ h1, upd_ne h2]
  have low : ∀ b o, s.heap.get? b = some o → b ∉ as ∧ b ≠ S := fun b o e => ⟨fun z => absurd (Heap.lt_size e) (Nat.not_lt.mpr (Nat.le_trans hS0 (Nat.le_of_lt (hG.above b z)))), Nat.ne_of_lt (Nat.lt_of_lt_of_le (Heap.lt_size e) hS0)⟩
  have kp : ∀ b u, H b = some u → (putP (upd H S (.lst (as.map V.ref))) as (vs.zip us)) b = some u := fun b u e => by
    rw [off b (fun z => by rw [new b z] at e; cases e) (fun z => by rw [z, newS] at e; cases e)]
    exact e
  have eS : putP (upd H S (.lst (as.map V.ref))) as (vs.zip us) S = some (.lst (as.map V.ref)) := by rw [putP_off as _ _ hSn, upd_same]
  refine ⟨putP (upd H S (.lst (as.map V.ref))) as (vs.zip us), kp, newS, new, hSn, nd, eS, atP, ?_⟩
  refine I.call' (ch := []) rfl ⟨fun b o q _ _ _ => hk b o q, fun b o q _ _ _ => ⟨o.slots, hk b o q⟩, fun b o q n _ => ?_, fun b o q _ => ⟨o, hk b o q⟩, fun b xs q => kp b _ q, fun b o u q => kp b _ q, fun b ps q => ⟨#[], by rw [kp b _ q]; simp⟩⟩ (fun b u q => ?_) I.bare fun b z => by simp at z
  · obtain ⟨z1, z2⟩ := low b o q
    rw [off b z1 z2]
    exact n
  · by_cases hb : b ∈ as
    · obtain ⟨j, pk, e1, e2, e3⟩ := paired_ix atP hb
      rw [e3] at q
      cases q
      obtain ⟨x, y, f1, f2, f3⟩ := hG.pairs j b e1
      rw [List.getElem?_zip_eq_some] at e2
      obtain ⟨x', g1, r1⟩ := rx.get e2.1
      obtain ⟨y', g2, r2⟩ := ry.get e2.2
      have f1 : xs[j]? = some x := by simpa using f1
      have f2 : ys[j]? = some y := by simpa using f2
      rw [f1] at g1
      rw [f2] at g2
      cases g1
      cases g2
      exact ⟨by show 2 ≤ sizeLine; decide, [x, y], .cons r1 (.cons r2 .nil), ⟨_, f3, rfl, _, rfl⟩⟩
    · by_cases hb2 : b = S
      · rw [hb2] at q ⊢
        rw [eS] at q
        cases q
        refine ⟨by rw [List.length_map]; omega, acc.toList, c, by rw [hacc]; exact refs_vals as, ?_⟩
        rw [Array.toArray_toList]
        exact hS
      · rw [off b hb hb2] at q
        exact (I.hok b u q).stay (fun d v _ y => hk d v y) (fun d y => kp d _ y) fun d xs y => kp d _ y
/-- list(zip(xs, ys)) -/
def tListZip (K : PySem.W.Frag) (ta : TA) : TE := fun σ H Q => ta σ H fun vs H1 => ∃ (a b : Addr) (xs ys : List V), vs = [.ref a, .ref b] ∧ SqL K H1 a xs ∧ SqL K H1 b ys ∧ xs.length = ys.length ∧ xs.length ≤ 5000 ∧
  ∀ (H' : Hp) (p : Addr) (ts : List Addr), Same H1 H' → H1 p = none → (∀ t ∈ ts, H1 t = none) → p ∉ ts → ts.Nodup → H' p = some (.lst (ts.map V.ref)) → Tups H' ts (xs.zip ys) → Q (.ref p) H'
theorem pe_listZip {e1 e2 : Expr} {ta : TA} {p p2 pos pos2 : Pos} (hcalm : X.calm = true) (hg : Gl X "list") (hm : X.mg "list" = none) (hgz : Gl X "zip") (hmz : X.mg "zip" = none) (ha : PA X [e1, e2] ta)
    (hs : starEach [e1, e2] X.env = (false, eval e1 X.env) :: starEach [e2] X.env := by rfl) (hpl : (backTo pos2 (starEach [e2] X.env)).any (·.1) = false := by rfl) :
    PE X (.Call (.Name "list" p) [.Call (.Name "zip" p2) [e1, e2] [] pos2] [] pos) (tListZip X.K ta) := by
  refine ⟨fun pins s σ H Q I h => ?_⟩
  refine Call_ (ld_blt I hg hm PyProof.Rows.boot_list (PyProof.Rows.callWith_type1 (args_cons (Call_ (ld_blt I hgz hmz PyProof.Rows.boot_zip (PyProof.Rows.callWith_type1 (thn (ha.run pos2 pins s σ H _ I h) fun us s1 ⟨vs, H1, I1, r1, q1⟩ => ?_) hs hpl))) (by rfl)) (by rfl)))
  obtain ⟨a, b, xs, ys, rfl, sa, sb, hl, hk, q⟩ := q1
  obtain ⟨u1, u2, rfl, ra, rb⟩ := vals2 r1
  cases (show u1 = Value.ref a from ra)
  cases (show u2 = Value.ref b from rb)
  obtain ⟨its, rv, p1, _⟩ := I1.list sa
  obtain ⟨its2, rv2, p2', _⟩ := I1.list sb
  have n1 := rv.length
  have n2 := rv2.length
  refine call_zip_2 p1.isList p2'.isList fun h1 hz hTI hTO i1 i2 hsz hk1 => args_nil ?_
  have D := PySem.W.ktu_apart s1.heap.objs.size a b p1.lt p2'.lt
  refine z_call (s := { s1 with heap := h1 }) (n := xs.length) (I1.ok.hd hcalm) D (by rw [List.size_toArray]; omega) (by rw [List.size_toArray]; omega) (Nat.le_trans hk (by decide)) hz hTI hTO i1 i2 (p1.isList.at fun o e => hk1 _ o e) (p2'.isList.at fun o e => hk1 _ o e) fun h' tk acc c as hkp hS hla hG hacc => ?_
  have k : ∀ c o, s1.heap.get? c = some o → h'.get? c = some o := fun c o e => by
    have lt := Heap.lt_size e
    exact hkp c o (Nat.ne_of_lt (Nat.lt_of_lt_of_le lt (Nat.le_add_right _ _))) (Nat.ne_of_lt (Nat.lt_of_lt_of_le lt (Nat.le_add_right _ _))) (Nat.ne_of_lt lt) (Nat.ne_of_lt (Nat.lt_of_lt_of_le lt (Nat.le_add_right _ _))) (hk1 c o e)
  obtain ⟨H', t1, t2, t3, t4, t5, t6, t7, J⟩ := z_laid (tk := tk) I1 (S := h1.objs.size) (by omega) rv rv2 hl (Nat.le_trans hk (by decide)) k hS hla hG hacc
  exact ⟨.ref _, H', J, rfl, q H' _ as t1 t2 t3 t4 t5 t6 t7⟩
end
end Lz
/-! enumerate(xs, start=k) of a list -/
namespace Es
open PySem PySem.Spec PyProof.Rows L2
def IteS (K : PySem.W.Frag) (k : Int) (a : Addr) : It :=
  ⟨fun i H => ∃ (xs : List V) (x : V), SqL K H a xs ∧ xs[i]? = some x, fun i H v H' => ∃ T x, v = .ref T ∧ H T = none ∧ H' = upd H T (.tup [.int (k + (i : Nat)), x]) ∧ ∀ xs, SqL K H a xs → xs[i]? = some x, fun i H => ∃ xs : List V, SqL K H a xs ∧ xs.length = i⟩
theorem turn_enumS {P : Program} {w : World} {K : PySem.W.Frag} {elts : List Expr} {kk : Nat} {tpos : Pos} (k : Int) (a e it : Addr) (hai : a ≠ it) (hae : e ≠ a) :
    Turn P w K (.Tuple elts kk tpos) (IteS K k a) [e, it] e (fun i h => (∃ old, IsEnum h e it (k + ((i : Nat) : Int)) old) ∧ h.IsListIter it a i ∧ e ≠ it) where
  mem := by simp
  obj := fun i h st b hb => by
    obtain ⟨⟨old, he⟩, ⟨o, ho, hc, hd⟩, _⟩ := st
    have e' : b = e ∨ b = it := by simpa using hb
    rcases e' with z | z
    · rw [z]; exact ⟨_, he, fun v q => nomatch q⟩
    · rw [z]; exact ⟨o, ho, fun v q => by rw [hd] at q; cases q⟩
  keep := fun i h h' st k => let ⟨⟨old, he⟩, hi, hne⟩ := st; ⟨⟨old, k e (by simp) _ he⟩, hi.at fun o q => k it (by simp) o q, hne⟩
  item := by
    intro X hP hw hK hc i pins s σ H E I hf st hg
    subst hP hw hK
    obtain ⟨⟨old, he⟩, hit, hne⟩ := st
    obtain ⟨xs, x, hq, hx⟩ := hg
    obtain ⟨its, rv, p, hz⟩ := I.list hq
    obtain ⟨u, hu, ru⟩ := rv.get hx
    have hel : e < s.heap.objs.size := Heap.lt_size he
    have hil : it < s.heap.objs.size := by obtain ⟨_, q, _⟩ := hit; exact Heap.lt_size q
    have hA : X.A.in1.handled = none := I.ok.hd hc
    have lt1 : i < its.toArray.size := by have := (List.getElem?_eq_some_iff.mp hu).1; simpa using this
    refine wpAny_pyNext_enum_itemC (Draws.list hA it a hai its.toArray) he ⟨hit, p.isList⟩ lt1 hne (by simp; exact ⟨hne, hae⟩) fun y h' tk hy ho hit' hT hsz hk => ?_
    have f1 : y = u := Option.some.inj (hy.symm.trans (by simpa using hu))
    subst f1
    refine ⟨_, rfl, wpAny_letOwnedTupleGo_enum (s := { s with heap := h', toks := tk + 1 }) ho fun h'' he' sb => ?_⟩
    have hT2 : h''.get? s.heap.objs.size = some { cls := .type "tuple", data := .seq #[.int (k + (i : Int)) tk, y] } := (sb.2 _ (Nat.ne_of_gt hel)).trans hT
    have new : ObjOk X.prog X.w (upd H s.heap.objs.size (.tup [.int (k + (i : Nat)), x])) h'' s.heap.objs.size (.tup [.int (k + (i : Nat)), x]) :=
      ⟨by show 2 ≤ sizeLine; decide, [.int (k + (i : Int)) tk, y], .cons ⟨_, rfl⟩ (.cons ru .nil), ⟨_, hT2, rfl, _, rfl⟩⟩
    have I1 : Inv X pins σ (upd H s.heap.objs.size (.tup [.int (k + (i : Nat)), x])) { s with heap := h'', toks := tk + 1 } :=
      I.turnedNew (t' := tk + 1) (ch := [e, it]) (fun b ob hb q => (sb.2 b (fun z => hb (by simp [z]))).trans (hk b ob (fun z => hb (by simp [z])) (fun z => hb (by simp [z])) q)) hf (Nat.le_refl _) new
    refine ⟨.ref s.heap.objs.size, _, I1, rfl, ⟨_, x, rfl, I.hok.fresh (Nat.le_refl _), rfl, fun ys hy => by rw [I.list_inj hy hq]; exact hx⟩, ⟨⟨y, ?_⟩, hit'.1.at fun o q => (sb.2 it (Ne.symm hne)).trans q, hne⟩, fun b hb => ?_⟩
    · have e1 : k + ((i + 1 : Nat) : Int) = k + (i : Int) + 1 := by omega
      rw [e1]; exact he'
    · have hb' : b < s.heap.objs.size := by
        have e' : b = e ∨ b = it := by simpa using hb
        rcases e' with z | z
        · rw [z]; exact hel
        · rw [z]; exact hil
      rw [upd_ne (Nat.ne_of_lt hb')]
      exact (hf b hb).1
  done := by
    intro X hP hw hK hc i pins s σ H E I hf st hg
    subst hP hw hK
    obtain ⟨⟨old, he⟩, hit, hne⟩ := st
    obtain ⟨xs, hq, hx⟩ := hg
    obtain ⟨its, rv, p, hz⟩ := I.list hq
    obtain ⟨f0, f1, f2, f3, f4, f5⟩ := hf it (by simp)
    have hl := rv.length
    have hA : X.A.in1.handled = none := I.ok.hd hc
    have l1 : its.toArray.size = i := by rw [← hx, hl]; simp
    subst l1
    exact wpAny_pyNext_enum_endD (Draws.list hA it a hai its.toArray) he ⟨hit, p.isList⟩ fun h' eb => ⟨rfl, I.turned (t' := s.toks) (fun b o hb q => eb b o hb q) f0 f1 f3 f4 f5⟩
  self := fun A i s Q E st h => let ⟨⟨_, he⟩, _⟩ := st; wpAny_pyIter_enum he h
section
variable {M : Model} {A : Around} {E : Value → Shared → Prop} {s : Shared} {env : Env}
theorem callWith_type_kwB {pos : Pos} {T : String} {first : List Value} {args : List (Bool × Sem Value)} {keywords : List (Option Str × Sem Value)} {Q : Value → Shared → Prop}
    (hplain : args.any (·.1) = false) (hkw : keywords.any (·.1.isNone) = false)
    (h : wpAny M A (evalArgs (.type T) true args keywords) (fun a s₁ => wpAny M A (call (.type T) (first ++ a.pos) a.kw) Q E s₁) E s) :
    wpAny M A (callWith pos (.type T) first args keywords) Q E s := by
  unfold callWith
  refine wpAny_bind (wpAny_holding (wpAny_mono h (fun a s₁ h₁ => wpAny_bind (wpAny_standAt ?_)) fun _ _ x => x))
  simp only [hplain, hkw, Bool.or_false]
  refine wpAny_bind (wpAny_pure ?_)
  exact wpAny_bind (wpAny_mono h₁ (fun r s₂ hr => wpAny_bind (wpAny_holding (wpAny_point (wpAny_pure hr)))) fun _ _ x => x)
theorem callWith_kwT {pos : Pos} {T : String} {e : Expr} {rest : List Expr} {kws : List Keyword} {Q : Value → Shared → Prop}
    (h : wpAny M A (spliced (backTo pos (starEach (e :: rest) env))) (fun vs s₁ => wpAny M A (evalAll ((backToKw pos (keywordEach kws env)).map (·.2)))
      (fun kvs s₂ => wpAny M A (call (.type T) vs (((backToKw pos (keywordEach kws env)).filterMap (·.1)).zip kvs)) Q E s₂) E s₁) E s)
    (he : backTo pos (starEach (e :: rest) env) = (false, eval e env) :: backTo pos (starEach rest env) := by rfl)
    (hplain : (backTo pos (starEach (e :: rest) env)).any (·.1) = false := by rfl)
    (hall : (backToKw pos (keywordEach kws env)).all (·.1.isSome) = true := by rfl)
    (hkw : (backToKw pos (keywordEach kws env)).any (·.1.isNone) = false := by rfl) :
    wpAny M A (callWith pos (.type T) [] (backTo pos (starEach (e :: rest) env)) (backToKw pos (keywordEach kws env))) Q E s := by
  refine callWith_type_kwB hplain hkw ?_
  rw [he] at h ⊢
  exact evalArgs_kwB hall h
end
def iEnumS (K : PySem.W.Frag) (k : Int) (te : TE) : TI := fun σ H R => te σ H fun v H1 => ∃ a xs, v = .ref a ∧ SqL K H1 a xs ∧ R (IteS K k a) H1
theorem pi_enumS {X : Cx} {y : Str} {pn : Pos} {te : TE} {k : Int} {kc : Nat} {p pos tpos cpos kpos : Pos} {elts : List Expr} {kk : Nat} (hg : Gl X "enumerate") (hm : X.mg "enumerate" = none) (ha : PE X (.Name y pn) te) (hk0 : -(2 ^ 63) ≤ k) (hk1 : k < 2 ^ 63) :
    PI X (.Tuple elts kk tpos) (.Call (.Name "enumerate" p) [.Name y pn] [⟨some "start", .Constant (.int k) kc cpos, kpos⟩] pos) (iEnumS X.K k te) := by
  refine ⟨fun pins s σ H R I h => ?_⟩
  refine wpAny_Call_Name_kw (ld_blt I hg hm boot_enumerate ?_)
  refine callWith_kwT ?_
  refine Calls.spliced_cons (thn (ha.run pins s σ H _ I h) fun v s1 ⟨x, H1, I1, rv, q⟩ => ?_)
  obtain ⟨a, xs, rfl, hl, q⟩ := q
  cases (show v = Value.ref a from rv)
  refine Calls.spliced_nil ?_
  show wpAny _ _ (evalAll ((do let v ← eval (.Constant (.int k) kc cpos) X.env; standAt pos; pure v) :: [])) _ _ _
  refine wpAny_evalAll_cons (wpAny_bind (thn ((pe_int (X := X)).run pins s1 σ H1 (fun v H2 => v = .int k ∧ H2 = H1) I1 ⟨rfl, rfl⟩) fun v2 s2 ⟨x2, H2, I2, r2, e2, e3⟩ => wpAny_bind (wpAny_standAt (wpAny_pure (wpAny_evalAll_nil ?_)))))
  subst e2 e3
  obtain ⟨t, rfl⟩ := r2
  obtain ⟨its, rv', p', hz⟩ := I2.list hl
  refine enum_begins_start (begins_list a its.toArray) p'.isList hk0 hk1 fun h' he hit hsz hk => wpAny_pyIter_enum he ?_
  have I3 : Inv X pins σ H2 { s2 with heap := h' } := I2.kept (t' := s2.toks) hk
  have la := p'.lt
  refine ⟨s2.heap.objs.size + 1, [s2.heap.objs.size + 1, s2.heap.objs.size], _, _, H2, rfl, I3, turn_enumS k a (s2.heap.objs.size + 1) s2.heap.objs.size (Nat.ne_of_lt la) (Nat.ne_of_gt (Nat.lt_succ_of_lt la)), ⟨⟨.none, by rw [show k + ((0 : Nat) : Int) = k by omega]; exact he⟩, ⟨_, hit, rfl, rfl⟩, Nat.succ_ne_self _⟩, fun b hb => ?_, q⟩
  have e' : b = s2.heap.objs.size + 1 ∨ b = s2.heap.objs.size := by simpa using hb
  have hle : s2.heap.objs.size ≤ b := by
    rcases e' with z | z
    · rw [z]; exact Nat.le_add_right _ _
    · rw [z]; exact Nat.le_refl _
  exact I2.fpOk hle (I2.hok.fresh hle)
theorem walk_enumS {K : PySem.W.Frag} {k : Int} {a : Addr} {xs : List V} : Walk (IteS K k a) xs.length (fun H => SqL K H a xs) (YPair (fun i => some (.int (k + (i : Nat)))) (fun i => xs[i]?)) := by
  refine ⟨fun i _ hi q => ⟨xs, xs[i], q, by simp [hi]⟩, fun _ q => ⟨xs, q, rfl⟩, fun i H v H' _ q y => ?_⟩
  obtain ⟨T, x, h1, h2, h3, h4⟩ := y
  exact ⟨T, .int (k + (i : Nat)), x, h1, h2, h3, rfl, h4 xs q⟩
end Es
/-! max of a list of ints -/
namespace Mx
open PySem PySem.Spec PyProof.Rows L2
def maxI (x : Int) (ys : List Int) : Int := ys.foldl max x
theorem maxI_ge : ∀ (ys : List Int) (x : Int), x ≤ maxI x ys ∧ ∀ y ∈ ys, y ≤ maxI x ys
  | [], x => ⟨Int.le_refl _, fun y hy => by cases hy⟩
  | y :: ys, x => by
    obtain ⟨h1, h2⟩ := maxI_ge ys (max x y)
    show x ≤ maxI (max x y) ys ∧ _
    refine ⟨by omega, fun z hz => ?_⟩
    show z ≤ maxI (max x y) ys
    rcases List.mem_cons.mp hz with e | e
    · rw [e]; omega
    · exact h2 z e
theorem maxI_mem : ∀ (ys : List Int) (x : Int), maxI x ys ∈ x :: ys
  | [], x => List.mem_singleton.mpr rfl
  | y :: ys, x => by
    have h := maxI_mem ys (max x y)
    show maxI (max x y) ys ∈ _
    rcases List.mem_cons.mp h with e | e
    · rw [e]
      by_cases c : x ≤ y
      · rw [Int.max_eq_right c]; exact List.mem_cons_of_mem _ List.mem_cons_self
      · rw [Int.max_eq_left (by omega)]; exact List.mem_cons_self
    · exact List.mem_cons_of_mem _ (List.mem_cons_of_mem _ e)
theorem dpAll_ints {K : PySem.W.Frag} {H : Hp} : ∀ zs : List Int, DpAll K H (zs.map V.int) (zs.map PyData.int)
  | [] => .nil
  | z :: zs => .cons (.int z) (dpAll_ints zs)
theorem depthI : ∀ zs : List Int, PyData.depthAll (zs.map PyData.int) = 0
  | [] => rfl
  | z :: zs => by rw [List.map_cons, PyData.depthAll, depthI zs]; rfl
/-- max(xs), a list of ints -/
def rMaxI (K : PySem.W.Frag) : List V → Hp → VK → Prop := fun vs H Q => ∃ (a : Addr) (x : Int) (ys : List Int), vs = [.ref a] ∧ SqL K H a ((x :: ys).map V.int) ∧ Q (.int (maxI x ys)) H
theorem cr_maxI {X : Cx} (hc : X.calm = true) (hu : X.A.units + 64 < cLine) : CallR X (.builtin "max") (rMaxI X.K) := by
  intro pins s σ H vs us Q I r h
  obtain ⟨a, x, ys, rfl, hs, q⟩ := h
  obtain ⟨its, rv, hl, -⟩ := I.list hs
  rw [Vals.ref1 r]
  obtain ⟨as, hr⟩ := Dp.readsAll I _ _ _ (dpAll_ints (x :: ys)) rv
  have hl : s.heap.IsList a its.toArray := hl.isList
  have hr' : ReadsAll s.heap its.toArray.toList (PyData.int x :: ys.map PyData.int) as := hr
  refine PySem.W.max_list_data (I.ok.hd hc) hl hr' (PySem.W.alikeAll_datum (α := Int) (x :: ys)) ?_ fun i v h' tk bs hv rd hk => ?_
  · have : PyData.depthAll (PyData.int x :: ys.map PyData.int) = 0 := depthI (x :: ys)
    rw [this]
    omega
  · rw [PySem.W.maxD_ints] at rd
    cases rd
    exact ⟨.int (maxI x ys), H, I.kept hk, ⟨_, rfl⟩, q⟩
end Mx
/-! d.update(d2) of two dicts; x < y of data -/
namespace Du
open PySem PySem.Spec PyProof.Rows L2
section
variable {X : Cx}
def rDUpd : V → List V → Hp → VK → Prop := fun x vs H Q => ∃ (a b : Addr) (kvs more : List (Key × V)), x = .ref a ∧ vs = [.ref b] ∧ H a = some (.dK kvs) ∧ H b = some (.dK more) ∧ a ≠ b ∧ kvs.length + more.length ≤ sizeLine ∧ Q .non (upd H a (.dK (mergeK kvs more)))
theorem mt_dupd : MtR X "dict.update" rDUpd := by
  intro pins s σ H x vs v us Q I rx rv h
  obtain ⟨a, b, kvs, more, rfl, rfl, ea, eb, hne, hsz, q⟩ := h
  obtain rfl : v = Value.ref a := rx
  obtain ⟨u, rfl, ru⟩ := rv.one
  obtain rfl : u = Value.ref b := ru
  obtain ⟨z, hd, vs1, rel1, dd1⟩ := dk_of I.hok ea
  obtain ⟨z2, hd2, vs2, rel2, dd2⟩ := dk_of I.hok eb
  refine call_meetsIn PySem.F.slot_dict_update dd1.typeIs PySem.F.entry_dict_update (PySem.F.args_dict_update_2 _ _) (meets_dict_update (mixKind X.prog X.w) a b hne hd2) ⟨vs1, vs2, dd1, dd2, by rw [← rel1.length, ← rel2.length]; exact hsz, fun h' dd' _ hs => ?_⟩
  have he : ∃ q, h'.get? a = some q := let ⟨q, _, _, hq, _⟩ := dd'; ⟨q, hq⟩
  refine ⟨.non, _, d_write (t' := s.toks) I (by rw [ea]; exact True.intro) hs he (dk_new ?_ hd (KV.merge rel2 rel1) dd'), rfl, q⟩
  refine Nat.le_trans (length_mergeK more kvs) ?_
  omega
/-- x < y, both data of one kind -/
def rLtG (α : Type) [DecidableEq α] [PySem.W.DatumOrd α] (K : PySem.W.Frag) : R2 := fun x y H Q => ∃ a b : α, Dp K H x (PySem.W.Datum.toD a) ∧ Dp K H y (PySem.W.Datum.toD b) ∧ PySem.W.Datum.toD a ≠ PyData.none ∧ PySem.W.Datum.depth α ≤ 60 ∧ Q (.bl (PySem.W.DatumOrd.lt a b)) H
theorem op_ltG (α : Type) [DecidableEq α] [PySem.W.DatumOrd α] (hu : X.A.units + 64 < cLine) : OpR X (compareOp .Lt) (rLtG α X.K) := by
  intro pins s σ H x y v u Q I rx ry h
  obtain ⟨a, b, hd, he, hn, hdep, q⟩ := h
  obtain ⟨as, r1⟩ := Dp.reads I _ x v hd rx
  obtain ⟨bs, r2⟩ := Dp.reads I _ y u he ry
  refine PySem.W.lt_data r1 r2 (PySem.W.DatumOrd.alike a b) hn ?_ ⟨.bl _, H, I, rfl, ?_⟩
  · refine PySem.W.room_datum (PySem.W.Datum.depth_le a) (by omega)
  · rw [PySem.W.DatumOrd.lt_eq]; exact q
end
end Du
/-! a text times 0 or 1; parts of texts given by their codes -/
namespace Stm
open PySem PySem.Spec PyProof.Rows L2
def rMulS01 : R2 := fun x y H Q => ∃ (z : Str) (n : Int), x = .str z ∧ y = .int n ∧ ((n = 0 ∧ Q (.str (SX.S [])) H) ∨ (n = 1 ∧ Q (.str z) H))
theorem op_mulS01 {X : Cx} : OpR X (binaryOp .Mult) rMulS01 := by
  intro pins s σ H x y v u Q I rx ry h
  obtain ⟨z, n, rfl, rfl, h⟩ := h
  obtain ⟨t, rfl⟩ := rx
  obtain ⟨t2, rfl⟩ := ry
  rcases h with ⟨rfl, q⟩ | ⟨rfl, q⟩
  · exact P.mul_str_none (by decide) (by decide) ⟨.str (SX.S []), H, I.kept (t' := s.toks + 1) (fun b o e => e), ⟨_, rfl⟩, q⟩
  · refine P.mul_str (by decide) (fun _ h => absurd h (by simp)) (fun _ h => absurd h (by simp)) ?_
    exact ⟨.str z, H, I, ⟨_, rfl⟩, q⟩
theorem cut_S (l : List Nat) (lo hi : Option Int) : cutS (SX.S l) lo hi = SX.S ((l.drop (HT.sIx l.length 0 lo)).take (HT.sIx l.length l.length hi - HT.sIx l.length 0 lo)) := by
  unfold cutS
  rw [SX.S_len]
theorem cut_to (l : List Nat) (n : Nat) : cutS (SX.S l) none (some (n : Int)) = SX.S (l.take n) := by
  rw [cut_S, HT.sIx_none, HT.sIx_nat]
  show SX.S ((l.drop 0).take (min n l.length - 0)) = _
  rw [List.drop_zero, Nat.sub_zero]
  by_cases h : n ≤ l.length
  · rw [Nat.min_eq_left h]
  · rw [Nat.min_eq_right (by omega), List.take_length, List.take_of_length_le (by omega)]
theorem cut_of (l : List Nat) (n : Nat) : cutS (SX.S l) (some (n : Int)) none = SX.S (l.drop n) := by
  rw [cut_S, HT.sIx_none, HT.sIx_nat]
  by_cases h : n ≤ l.length
  · rw [Nat.min_eq_left h, List.take_of_length_le (by rw [List.length_drop]; exact Nat.le_refl _)]
  · rw [Nat.min_eq_right (by omega), List.drop_length, List.drop_of_length_le (by omega), List.take_nil]
end Stm
namespace Dz
open PySem PySem.Spec PyProof.Rows L2
/-- dict(zip(xs, ys)), xs whole numbers -/
def tDictZip (K : PySem.W.Frag) (ta : TA) : TE := fun σ H Q => ta σ H fun vs H1 => ∃ (a b : Addr) (ks : List Int) (xs : List V), vs = [.ref a, .ref b] ∧ SqL K H1 a (ks.map V.int) ∧ SqL K H1 b xs ∧ ks.length = xs.length ∧ ks.length ≤ 5000 ∧
  ∀ p, H1 p = none → Q (.ref p) (upd H1 p (.dK (mergeK [] ((ks.map (Sum.inl : Int → Key)).zip xs))))
section
variable {X : Cx}
theorem kv_zip : ∀ {ks : List Int} {xs : List V} {us : List Value}, Vals xs us → KV ((ks.map (Sum.inl : Int → Key)).zip xs) ((ks.map (Sum.inl : Int → Key)).zip us)
  | [], _, _, _ => .nil
  | _ :: _, [], [], .nil => .nil
  | k :: ks, x :: xs, u :: us, .cons r t => .cons ⟨rfl, r⟩ (kv_zip t)
theorem pe_dictZip {e1 e2 : Expr} {ta : TA} {p p2 pos pos2 : Pos} (hcalm : X.calm = true) (hg : Gl X "dict") (hm : X.mg "dict" = none) (hgz : Gl X "zip") (hmz : X.mg "zip" = none) (ha : PA X [e1, e2] ta)
    (hs : starEach [e1, e2] X.env = (false, eval e1 X.env) :: starEach [e2] X.env := by rfl) (hpl : (backTo pos2 (starEach [e2] X.env)).any (·.1) = false := by rfl) :
    PE X (.Call (.Name "dict" p) [.Call (.Name "zip" p2) [e1, e2] [] pos2] [] pos) (tDictZip X.K ta) := by
  refine ⟨fun pins s σ H Q I h => ?_⟩
  refine Call_ (ld_blt I hg hm boot_dict (PyProof.Rows.callWith_type1 (args_cons (Call_ (ld_blt I hgz hmz PyProof.Rows.boot_zip (PyProof.Rows.callWith_type1 (thn (ha.run pos2 pins s σ H _ I h) fun us s1 ⟨vs, H1, I1, r1, q1⟩ => ?_) hs hpl))) (by rfl)) (by rfl)))
  obtain ⟨a, b, ks, xs, rfl, sa, sb, hl, hk, q⟩ := q1
  obtain ⟨u1, u2, rfl, ra, rb⟩ := vals2 r1
  cases (show u1 = Value.ref a from ra)
  cases (show u2 = Value.ref b from rb)
  obtain ⟨its, rv, p1, _⟩ := I1.list sa
  obtain ⟨its2, rv2, p2', _⟩ := I1.list sb
  have l1 := rv.length
  have l2 := rv2.length
  rw [List.length_map] at l1
  refine call_zip_2 p1.isList p2'.isList fun h1 hz hTI hTO i1 i2 hsz hk1 => args_nil ?_
  have P := PairArg.zip (prog := X.prog) (w := X.w) (s1.heap.objs.size + 4) (s1.heap.objs.size + 2) (s1.heap.objs.size + 3) s1.heap.objs.size (s1.heap.objs.size + 1) a b (PySem.W.ktu_apart s1.heap.objs.size a b p1.lt p2'.lt) its.toArray its2.toArray
  have hn : min its.toArray.size its2.toArray.size = ks.length := by
    rw [List.size_toArray, List.size_toArray]
    omega
  refine PySem.call_dict_pairs (knd := mixKind X.prog X.w) (kvs := (ks.map (Sum.inl : Int → Key)).zip its2) P (I1.ok.hd hcalm) ⟨hz, hTI, ⟨_, _, hTO⟩, i1, i2, p1.isList.at fun o e => hk1 _ o e, p2'.isList.at fun o e => hk1 _ o e⟩ ?_ ?_ fun h2 tk hd hk2 => ?_
  · refine ⟨by rw [List.length_zip, List.length_map]; omega, fun i key v hr => ?_⟩
    obtain ⟨e1, e2⟩ := hr
    have e1 : its[i]? = some key := by simpa using e1
    have e2 : its2[i]? = some v := by simpa using e2
    have hi : i < ks.length := by
      have := (List.getElem?_eq_some_iff.mp e1).1
      omega
    obtain ⟨w0, e3, t, rfl⟩ := rv.get (i := i) (x := .int ks[i]) (by rw [List.getElem?_map, List.getElem?_eq_getElem hi]; rfl)
    rw [e1] at e3
    cases e3
    refine ⟨Sum.inl ks[i], ?_, keyIs_int _ t⟩
    rw [List.getElem?_zip_eq_some]
    exact ⟨by rw [List.getElem?_map, List.getElem?_eq_getElem hi]; rfl, e2⟩
  · rw [hn]
    exact Nat.le_trans hk (by decide)
  · have k : ∀ c o, s1.heap.get? c = some o → h2.get? c = some o := fun c o e => by
      refine hk2 c o ?_ (hk1 c o e)
      have lt := Heap.lt_size e
      simp only [List.mem_cons, List.not_mem_nil, or_false]
      intro hc
      rcases hc with z | z | z | z
      all_goals (rw [z] at lt; first | exact absurd lt (Nat.not_lt.mpr (Nat.le_add_right _ _)) | exact absurd lt (Nat.lt_irrefl _))
    have hp : s1.heap.objs.size ≤ h1.objs.size := by rw [hsz]; exact Nat.le_add_right _ _
    have hm : (h1.objs.size == sysModules) = false := beq_eq_false_iff_ne.mpr (Nat.ne_of_gt (Nat.lt_of_lt_of_le I1.big hp))
    have hlen : (mergeK [] ((ks.map (Sum.inl : Int → Key)).zip xs)).length ≤ sizeLine := by
      refine Nat.le_trans (length_mergeK _ []) ?_
      rw [List.length_nil, Nat.zero_add, List.length_zip, List.length_map]
      exact Nat.le_trans (Nat.le_trans (Nat.min_le_left _ _) hk) (by decide)
    exact ⟨.ref h1.objs.size, _, I1.laid (t' := tk) k hp (show ObjOk X.prog X.w _ _ _ (.dK (mergeK [] ((ks.map (Sum.inl : Int → Key)).zip xs))) from ⟨hlen, hm, _, KV.merge (kv_zip rv2) .nil, hd⟩), rfl, q _ (I1.hok.fresh hp)⟩
end
/-- what such a dict tells, where the value hangs on the key -/
theorem val_merge (g : Nat → Int) (n : Nat) : ∀ (ps : List Nat) (acc : List (Key × V)), valV (mergeK acc (ps.map fun i => ((Sum.inl ((i : Nat) : Int) : Key), V.int (g i)))) (Sum.inl ((n : Nat) : Int)) = if n ∈ ps then some (.int (g n)) else valV acc (Sum.inl ((n : Nat) : Int))
  | [], acc => by rw [if_neg (by simp)]; rfl
  | x :: ps, acc => by
    show valV (mergeK (putK acc (Sum.inl ((x : Nat) : Int)) (V.int (g x))) (ps.map fun i => ((Sum.inl ((i : Nat) : Int) : Key), V.int (g i)))) _ = _
    rw [val_merge g n ps, valV_put]
    by_cases h : n ∈ ps
    · rw [if_pos h, if_pos (List.mem_cons_of_mem _ h)]
    · rw [if_neg h]
      by_cases e : n = x
      · subst e
        rw [if_pos rfl, if_pos (List.mem_cons_self ..)]
      · rw [if_neg (fun z => e (by have := Sum.inl.inj z; omega)), if_neg (fun z => (List.mem_cons.mp z).elim e h)]
end Dz
/-! t[1::-1] of a tuple of four: a new tuple of its second and its first thing -/
namespace Rt
open PySem PySem.Spec PyProof.Rows L2 HT
section
variable {prog : Program} {w : World} {A : Around} {E : Value → Shared → Prop} {s : Shared}
theorem applied {sl : Addr} {vl vu vs : Value} {Q : Int × Int × Nat → Shared → Prop} (hs : s.heap.IsSliceOf sl vl vu vs) (pl : IsPart vl (some 1)) (pu : IsPart vu none) (ps : IsPart vs (some (-1)))
    (h : Q (1, -1, 2) s) : wpAny (model prog w) A (Builtin.Slice.sliceApplied (.ref sl) (pure 4)) Q E s := by
  obtain ⟨os, hos, hcs, hds⟩ := id hs
  unfold Builtin.Slice.sliceApplied Builtin.Slice.sliceFields
  refine wpAny_bind (wpAny_bind (wpAny_field hos hds (x := vl) rfl (wpAny_bind (wpAny_field hos hds (x := vu) rfl (wpAny_bind (wpAny_field hos hds (x := vs) rfl (wpAny_pure ?_)))))))
  refine wpAny_bind (slicePart_ ps ?_)
  show wpAny _ _ (if ((-1 : Int) == 0) = true then _ else _) _ _ s
  rw [if_neg (by decide)]
  refine wpAny_bind (slicePart_ pl (wpAny_bind (slicePart_ pu (wpAny_bind (wpAny_pure ?_)))))
  exact wpAny_pure h
theorem item4 {t sl : Addr} {x0 x1 x2 x3 : Value} {vl vu vs : Value} {Q : Value → Shared → Prop} (ht : IsTup s.heap t #[x0, x1, x2, x3]) (hs : s.heap.IsSliceOf sl vl vu vs) (pl : IsPart vl (some 1)) (pu : IsPart vu none) (ps : IsPart vs (some (-1)))
    (h : Q (.ref s.heap.objs.size) { s with heap := s.heap.push { cls := .type "tuple", data := .seq #[x1, x0] } }) : wpAny (model prog w) A (getItem (.ref t) (.ref sl)) Q E s := by
  have htake : sizeOk (.seq #[x1, x0]) := by
    show 2 ≤ sizeLine
    decide
  obtain ⟨os, hos, hcs, hds⟩ := id hs
  have hTs : s.TypeIs (.ref sl) "slice" := ⟨os, hos, hcs⟩
  unfold getItem
  try with_reducible refine wpAny_holding ?_
  first | refine wpAny_bind (wpAny_pure ?_) | skip
  refine wpAny_bind (wpAny_sequenceKey ht.typeIs (by decide) ?_)
  refine wpAny_bind (wpAny_callSpecial?_slot (name := Str.ofString "__getitem__") ht.typeIs PyProof.Rows.slot_tuple_getitem
    (wpAny_call_entry PyProof.Rows.slot_tuple_getitem ht.typeIs entry_tuple_getitem ?_ (args_tuple_getitem _ _)))
  show wpAny _ _ (Builtin.Tuple.tupleItemsOf (.ref t) >>= _) _ _ s
  refine wpAny_bind (tupleItemsOf_ ht ?_)
  refine wpAny_bind (wpAny_typeOf hTs ?_)
  rw [if_pos (by decide)]
  refine wpAny_bind (applied hs pl pu ps ?_)
  show wpAny _ _ (if ((1 : Int) == 0 && (-1 : Int) == 1 && (2 : Nat) == 4) = true then _ else _) _ _ s
  rw [if_neg (by decide)]
  first
    | exact wpAny_bind (m := Builtin.Tuple.tupleExact _) (wpAny_newObj_type (wpAny_pure ⟨_, rfl, wpAny_pure h⟩) htake)
    | exact wpAny_bind (m := Builtin.Tuple.tupleExact _) (wpAny_newObj_type (wpAny_bind (wpAny_pure (wpAny_pure ⟨_, rfl, wpAny_pure h⟩))) htake)
    | exact wpAny_bind (wpAny_bind (m := Builtin.Tuple.tupleExact _) (wpAny_newObj_type (wpAny_pure (wpAny_pure ⟨_, rfl, wpAny_pure h⟩)) htake))
    | exact wpAny_bind (wpAny_bind (m := Builtin.Tuple.tupleExact _) (wpAny_newObj_type (wpAny_pure ⟨_, rfl, wpAny_pure h⟩) htake))
end
section
variable {X : Cx}
def tRev2 (K : PySem.W.Frag) (te : TE) : TE := fun σ H Q => te σ H fun x H1 => ∃ a x0 x1 x2 x3, x = .ref a ∧ SqT K H1 a [x0, x1, x2, x3] ∧ ∀ p, H1 p = none → Q (.ref p) (upd H1 p (.tup [x1, x0]))
theorem pe_rev2 {e : Expr} {te : TE} {k0 k : Nat} {p0 p1 p2 p3 pos : Pos} (he : PE X e te) : PE X (.Subscript e (.Slice (some (.Constant (.int 1) k0 p0)) none (some (.UnaryOp .USub (.Constant (.int 1) k p1) p2)) p3) pos) (tRev2 X.K te) := by
  refine ⟨fun pins s σ H Q I h => ?_⟩
  refine Subscript_ (thn (he.run pins s σ H _ I h) fun v s1 ⟨x, H1, I1, r1, q1⟩ => ?_)
  obtain ⟨a, x0, x1, x2, x3, ex, hx, q⟩ := q1
  subst ex
  cases r1
  have hlo : PO X (some (.Constant (.int 1) k0 p0)) (tPart (tC (.int 1))) := po_some pe_int
  have hst : PO X (some (.UnaryOp .USub (.Constant (.int 1) k p1) p2)) (tPart (tUn (rU fun i => .int (-i)) (tC (.int 1)))) := po_some (pe_un un_neg pe_int)
  refine wpAny_Slice (thn (hlo.run pins s1 σ H1 (fun o H2 => o = some 1 ∧ H2 = H1) I1 ⟨1, rfl, rfl, rfl⟩) fun vl s2 ⟨l, H2, I2, pl, el, e2⟩ => ?_)
  subst el e2
  refine thn (po_none.run pins s2 σ H2 (fun o H3 => o = none ∧ H3 = H2) I2 ⟨rfl, rfl⟩) fun vu s3 ⟨u, H3, I3, pu, eu, e3⟩ => ?_
  subst eu e3
  refine thn (hst.run pins s3 σ H3 (fun o H4 => o = some (-1) ∧ H4 = H3) I3 ⟨1, rfl, -1, rfl, rfl, rfl⟩) fun vs s4 ⟨o, H4, I4, ps, eo, e4⟩ => ?_
  subst eo e4
  have I5 : Inv X pins σ H4 { s4 with heap := s4.heap.push { cls := .type "slice", data := .fields #[vl, vu, vs] } } := I4.kept (t' := s4.toks) fun b ob q => Heap.get?_push_of_some _ q
  obtain ⟨its, r, ht, hz⟩ := I5.tuple hx
  show wpAny (model X.prog X.w) X.A (subscriptTail e (.Slice (some (.Constant (.int 1) k0 p0)) none (some (.UnaryOp .USub (.Constant (.int 1) k p1) p2)) p3) (.ref a) (.ref s4.heap.objs.size)) (EP X pins σ Q) X.xe { s4 with heap := s4.heap.push { cls := .type "slice", data := .fields #[vl, vu, vs] } }
  refine tail_any (ops := [.ref a, .ref s4.heap.objs.size]) ht.typeIs (PyProof.Rows.slot_tuple_getitem.lookup) ?_ (by with_unfolding_all rfl)
  cases r with
  | cons r0 r =>
    cases r with
    | cons r1 r =>
      cases r with
      | cons r2 r =>
        cases r with
        | cons r3 r =>
          cases r
          refine item4 ht (Heap.IsSliceOf.new _ vl vu vs) pl pu ps ?_
          refine ⟨.ref _, _, I5.laid (t' := s4.toks) (o := .tup [x1, x0]) (fun b ob q => Heap.get?_push_of_some _ q) (Nat.le_refl _) ?_, rfl, q _ (I5.hok.fresh (Nat.le_refl _))⟩
          exact ⟨by show 2 ≤ sizeLine; decide, _, .cons r1 (.cons r0 .nil), IsTup.new _ _⟩
end
end Rt
/-! slices of tuples whose object is known; t.index(x) of such; t[::-1] of a tuple -/
namespace Tw
open PySem PySem.Spec PyProof.Rows L2 HT Th
section
variable {X : Cx}
def tyTp (x : V) (H : Hp) : Prop := ∃ a xs, x = .ref a ∧ TpF H a xs
theorem ty_tp : TyOk X "tuple" tyTp := by
  intro pins σ H s x v I r ty
  obtain ⟨a, xs, rfl, ob, hob, hnd⟩ := ty
  cases r
  obtain ⟨hg, hz, its, rv, o', ho', hc, n, hdat⟩ := (show ObjOk X.prog X.w H s.heap a (.frz ob (.tup xs)) from I.hok a _ hob)
  refine ⟨⟨o', ho', hc⟩, fun b e => ?_⟩
  cases e
  exact ⟨ob, hg, hnd⟩
def rIdxT (K : PySem.W.Frag) : V → List V → Hp → VK → Prop := fun x xs H Q => ∃ p, ∃ ys : List Str, ∃ z j, x = .ref p ∧ xs = [.str z] ∧ SqT K H p (ys.map V.str) ∧ ys[j]? = some z ∧ (∀ m, m < j → ys[m]? ≠ some z) ∧ Q (.int (j : Nat)) H
theorem mt_tidx : MtR X "tuple.index" (rIdxT X.K) := mt_tup_index
def rSlF (K : PySem.W.Frag) : V → Option Int → Option Int → Hp → VK → Prop := fun x lo hi H Q => ∃ a xs, x = .ref a ∧ SqT K H a xs ∧ ¬ (HT.sIx xs.length 0 lo = 0 ∧ HT.sIx xs.length xs.length hi = xs.length) ∧
  ∀ (p : Addr) (H' : Hp), H p = none → Same H H' → TpF H' p (cutV xs lo hi) → (∀ q, q ≠ p → H' q = H q) → Q (.ref p) H'
theorem sl_tupF : SlR X (rSlF X.K) := by
  intro pins s σ H x v vl vu lo hi sl Q I rx hs pl pu h
  obtain ⟨a, xs, rfl, hx, hw, q⟩ := h
  cases rx
  obtain ⟨its, r, ht, hz⟩ := I.tuple hx
  have hlen : its.toArray.size = xs.length := by rw [List.size_toArray]; exact r.length.symm
  refine ⟨"tuple", _, PyProof.Rows.slot_tuple_getitem.lookup, ht.typeIs, ?_⟩
  refine HT.getItem_tuple_cut ht hs pl pu (by rw [hlen]; exact hw) ?_ (by rw [hlen]; exact hz)
  rw [hlen]
  have nl := I.hok.fresh (Nat.le_refl s.heap.objs.size)
  refine ⟨.ref s.heap.objs.size, upd H s.heap.objs.size (.frz { cls := .type "tuple", data := .seq ((its.toArray.toList.drop (HT.sIx xs.length 0 lo)).take (HT.sIx xs.length xs.length hi - HT.sIx xs.length 0 lo)).toArray } (.tup (cutV xs lo hi))), I.laid (t' := s.toks) (fun b ob q => Heap.get?_push_of_some _ q) (Nat.le_refl _) ?_, rfl, q _ _ nl (same_upd nl) ⟨_, upd_same, rfl⟩ fun q hq => upd_ne hq⟩
  exact ⟨Heap.get?_push_size _ rfl, Nat.le_trans (cutV_length xs lo hi) hz, _, (r.drop (HT.sIx xs.length 0 lo)).take (HT.sIx xs.length xs.length hi - HT.sIx xs.length 0 lo), IsTup.new _ _⟩
end
section
variable {prog : Program} {w : World} {A : Around} {E : Value → Shared → Prop} {s : Shared}
theorem places (n : Nat) : Builtin.Slice.slicePlaces ((n : Int) - 1) (-1) (-1) = n := by
  unfold Builtin.Slice.slicePlaces
  rw [if_neg (by decide)]
  by_cases h : (n : Int) - 1 > -1
  · rw [if_pos h]
    have e : ((n : Int) - 1 - -1 - 1) / (- -1) + 1 = (n : Int) := by
      rw [show (- -1 : Int) = 1 by decide, Int.ediv_one]
      omega
    rw [e]
    rfl
  · rw [if_neg h]
    have : n = 0 := by omega
    subst this
    rfl
theorem applied {sl : Addr} {n : Nat} {vl vu vs : Value} {Q : Int × Int × Nat → Shared → Prop} (hs : s.heap.IsSliceOf sl vl vu vs) (pl : IsPart vl none) (pu : IsPart vu none) (ps : IsPart vs (some (-1)))
    (h : Q ((n : Int) - 1, -1, n) s) : wpAny (model prog w) A (Builtin.Slice.sliceApplied (.ref sl) (pure (n : Int))) Q E s := by
  obtain ⟨os, hos, hcs, hds⟩ := id hs
  unfold Builtin.Slice.sliceApplied Builtin.Slice.sliceFields
  refine wpAny_bind (wpAny_bind (wpAny_field hos hds (x := vl) rfl (wpAny_bind (wpAny_field hos hds (x := vu) rfl (wpAny_bind (wpAny_field hos hds (x := vs) rfl (wpAny_pure ?_)))))))
  refine wpAny_bind (slicePart_ ps ?_)
  show wpAny _ _ (if ((-1 : Int) == 0) = true then _ else _) _ _ s
  rw [if_neg (by decide)]
  refine wpAny_bind (slicePart_ pl (wpAny_bind (slicePart_ pu (wpAny_bind (wpAny_pure ?_)))))
  have e : Builtin.Slice.sliceAdjust none none (-1) (n : Int) = ((n : Int) - 1, -1) := by
    unfold Builtin.Slice.sliceAdjust
    simp
  show wpAny _ _ (match Builtin.Slice.sliceAdjust none none (-1) (n : Int) with | (lo, hi) => pure (lo, (-1 : Int), Builtin.Slice.slicePlaces lo hi (-1))) Q E s
  rw [e]
  refine wpAny_pure ?_
  show Q (_, _, Builtin.Slice.slicePlaces ((n : Int) - 1) (-1) (-1)) s
  rw [places]
  exact h
theorem fm_congr {α β : Type} {f g : α → Option β} : ∀ {l : List α}, (∀ x ∈ l, f x = g x) → l.filterMap f = l.filterMap g
  | [], _ => rfl
  | x :: l, h => by
    rw [List.filterMap_cons, List.filterMap_cons, h x List.mem_cons_self, fm_congr fun y hy => h y (List.mem_cons_of_mem _ hy)]
theorem back (xs : Array Value) : ((List.range xs.size).filterMap fun (k : Nat) => xs[(((xs.size : Int) - 1) + (k : Int) * (-1)).toNat]?) = xs.toList.reverse := by
  have e : ((List.range xs.size).filterMap fun (k : Nat) => xs[(((xs.size : Int) - 1) + (k : Int) * (-1)).toNat]?) = ((List.range xs.size).map fun k => xs.size - 1 - k).filterMap (xs[·]?) := by
    rw [List.filterMap_map]
    refine fm_congr fun k hk => ?_
    have := List.mem_range.mp hk
    show _ = xs[xs.size - 1 - k]?
    congr 1
    omega
  rw [e, PySem.W.krv_range, List.filterMap_reverse, PySem.W.krv_all]
theorem item_rev {t sl : Addr} {items : Array Value} {vl vu vs : Value} {Q : Value → Shared → Prop} (ht : IsTup s.heap t items) (hs : s.heap.IsSliceOf sl vl vu vs) (pl : IsPart vl none) (pu : IsPart vu none) (ps : IsPart vs (some (-1))) (hz : items.size ≤ sizeLine)
    (h : Q (.ref s.heap.objs.size) { s with heap := s.heap.push { cls := .type "tuple", data := .seq items.toList.reverse.toArray } }) : wpAny (model prog w) A (getItem (.ref t) (.ref sl)) Q E s := by
  have htake : sizeOk (.seq items.toList.reverse.toArray) := by
    show items.toList.reverse.toArray.size ≤ sizeLine
    simpa using hz
  obtain ⟨os, hos, hcs, hds⟩ := id hs
  have hTs : s.TypeIs (.ref sl) "slice" := ⟨os, hos, hcs⟩
  unfold getItem
  try with_reducible refine wpAny_holding ?_
  first | refine wpAny_bind (wpAny_pure ?_) | skip
  refine wpAny_bind (wpAny_sequenceKey ht.typeIs (by decide) ?_)
  refine wpAny_bind (wpAny_callSpecial?_slot (name := Str.ofString "__getitem__") ht.typeIs PyProof.Rows.slot_tuple_getitem
    (wpAny_call_entry PyProof.Rows.slot_tuple_getitem ht.typeIs entry_tuple_getitem ?_ (args_tuple_getitem _ _)))
  show wpAny _ _ (Builtin.Tuple.tupleItemsOf (.ref t) >>= _) _ _ s
  refine wpAny_bind (tupleItemsOf_ ht ?_)
  refine wpAny_bind (wpAny_typeOf hTs ?_)
  rw [if_pos (by decide)]
  refine wpAny_bind (applied hs pl pu ps ?_)
  show wpAny _ _ (if (((items.size : Int) - 1) == 0 && (-1 : Int) == 1 && items.size == items.size) = true then _ else _) _ _ s
  rw [if_neg (by simp)]
  show wpAny _ _ (Builtin.Tuple.tupleExact ((List.range items.size).filterMap fun (k : Nat) => items[(((items.size : Int) - 1) + (k : Int) * (-1)).toNat]?).toArray >>= _) _ _ s
  rw [back]
  first
    | exact wpAny_bind (m := Builtin.Tuple.tupleExact _) (wpAny_newObj_type (wpAny_pure ⟨_, rfl, wpAny_pure h⟩) htake)
    | exact wpAny_bind (m := Builtin.Tuple.tupleExact _) (wpAny_newObj_type (wpAny_bind (wpAny_pure (wpAny_pure ⟨_, rfl, wpAny_pure h⟩))) htake)
    | exact wpAny_bind (wpAny_bind (m := Builtin.Tuple.tupleExact _) (wpAny_newObj_type (wpAny_pure (wpAny_pure ⟨_, rfl, wpAny_pure h⟩)) htake))
    | exact wpAny_bind (wpAny_bind (m := Builtin.Tuple.tupleExact _) (wpAny_newObj_type (wpAny_pure ⟨_, rfl, wpAny_pure h⟩) htake))
end
section
variable {X : Cx}
def tRevT (K : PySem.W.Frag) (te : TE) : TE := fun σ H Q => te σ H fun x H1 => ∃ a xs, x = .ref a ∧ SqT K H1 a xs ∧ ∀ p, H1 p = none → Q (.ref p) (upd H1 p (.tup xs.reverse))
theorem pe_revT {K : PySem.W.Frag} {e : Expr} {te : TE} {k : Nat} {p1 p2 p3 pos : Pos} (he : PE X e te) (hK : X.K = K := by rfl) : PE X (.Subscript e (.Slice none none (some (.UnaryOp .USub (.Constant (.int 1) k p1) p2)) p3) pos) (tRevT K te) := by
  subst hK
  refine ⟨fun pins s σ H Q I h => ?_⟩
  refine Subscript_ (thn (he.run pins s σ H _ I h) fun v s1 ⟨x, H1, I1, r1, q1⟩ => ?_)
  obtain ⟨a, xs, ex, hx, q⟩ := q1
  subst ex
  cases r1
  have hst : PO X (some (.UnaryOp .USub (.Constant (.int 1) k p1) p2)) (tPart (tUn (rU fun i => .int (-i)) (tC (.int 1)))) := po_some (pe_un un_neg pe_int)
  refine wpAny_Slice (thn (po_none.run pins s1 σ H1 (fun o H2 => o = none ∧ H2 = H1) I1 ⟨rfl, rfl⟩) fun vl s2 ⟨l, H2, I2, pl, el, e2⟩ => ?_)
  subst el e2
  refine thn (po_none.run pins s2 σ H2 (fun o H3 => o = none ∧ H3 = H2) I2 ⟨rfl, rfl⟩) fun vu s3 ⟨u, H3, I3, pu, eu, e3⟩ => ?_
  subst eu e3
  refine thn (hst.run pins s3 σ H3 (fun o H4 => o = some (-1) ∧ H4 = H3) I3 ⟨1, rfl, -1, rfl, rfl, rfl⟩) fun vs s4 ⟨o, H4, I4, ps, eo, e4⟩ => ?_
  subst eo e4
  have I5 : Inv X pins σ H4 { s4 with heap := s4.heap.push { cls := .type "slice", data := .fields #[vl, vu, vs] } } := I4.kept (t' := s4.toks) fun b ob q => Heap.get?_push_of_some _ q
  obtain ⟨its, r, ht, hz⟩ := I5.tuple hx
  have hlen := r.length
  show wpAny (model X.prog X.w) X.A (subscriptTail e (.Slice none none (some (.UnaryOp .USub (.Constant (.int 1) k p1) p2)) p3) (.ref a) (.ref s4.heap.objs.size)) (EP X pins σ Q) X.xe { s4 with heap := s4.heap.push { cls := .type "slice", data := .fields #[vl, vu, vs] } }
  refine tail_any (ops := [.ref a, .ref s4.heap.objs.size]) ht.typeIs (PyProof.Rows.slot_tuple_getitem.lookup) ?_ (by with_unfolding_all rfl)
  refine item_rev ht (Heap.IsSliceOf.new _ vl vu vs) pl pu ps (by rw [List.size_toArray]; omega) ?_
  refine ⟨.ref _, _, I5.laid (t' := s4.toks) (o := .tup xs.reverse) (fun b ob q => Heap.get?_push_of_some _ q) (Nat.le_refl _) ?_, rfl, q _ (I5.hok.fresh (Nat.le_refl _))⟩
  exact ⟨by rw [List.length_reverse]; exact hz, _, r.reverse, IsTup.new _ _⟩
end
end Tw
/-! xs[::e] and t[::e] where e comes to 1 or -1 -/
namespace Sr
open PySem PySem.Spec PyProof.Rows L2 HT Th
def bI (b : Bool) : Int := if b then -1 else 1
theorem range1 (n : Nat) : sliceRange (0 : Int) n 1 = List.range n := by
  unfold sliceRange
  rw [if_pos (by decide)]
  by_cases h : (0 : Int) < n
  · have e : (((n : Int) - 0 + 1 - 1) / 1).toNat = n := by rw [Int.ediv_one]; omega
    have h' : 0 < n := by omega
    simp
    rw [if_pos h']
    rfl
  · have : n = 0 := by omega
    subst this
    simp
theorem pick1 (items : Array Value) : slicePick items none none (some 1) = items := by
  unfold slicePick
  have e : sliceBounds none none (some 1) items.size = ((0 : Int), (items.size : Int), 1) := by
    first
    | rfl
    | simp [sliceBounds]
  rw [e]
  show ((sliceRange (0 : Int) (items.size : Int) 1).filterMap (items[·]?)).toArray = _
  rw [range1, PySem.W.krv_all]
theorem pick_bI (items : Array Value) : ∀ b : Bool, slicePick items none none (some (bI b)) = (if b then items.toList.reverse.toArray else items)
  | true => PySem.W.krv_pick items
  | false => pick1 items
section
variable {X : Cx}
def tStpL (K : PySem.W.Frag) (te ts : TE) : TE := fun σ H Q => te σ H fun x H1 => ∃ a, x = .ref a ∧ tPart ts σ H1 fun o H2 => ∃ (b : Bool) (xs : List V), o = some (bI b) ∧ SqL K H2 a xs ∧ ∀ p, H2 p = none → Q (.ref p) (upd H2 p (.lst (if b then xs.reverse else xs)))
theorem pe_stpL {e e2 : Expr} {te ts : TE} {p3 pos : Pos} (he : PE X e te) (h2 : PE X e2 ts) : PE X (.Subscript e (.Slice none none (some e2) p3) pos) (tStpL X.K te ts) := by
  refine ⟨fun pins s σ H Q I h => ?_⟩
  refine Subscript_ (thn (he.run pins s σ H _ I h) fun v s1 ⟨x, H1, I1, r1, q1⟩ => ?_)
  obtain ⟨a, ex, q⟩ := q1
  subst ex
  cases r1
  have hst : PO X (some e2) (tPart ts) := po_some h2
  refine wpAny_Slice (thn (po_none.run pins s1 σ H1 (fun o H2 => o = none ∧ H2 = H1) I1 ⟨rfl, rfl⟩) fun vl s2 ⟨l, H2, I2, pl, el, e2'⟩ => ?_)
  subst el e2'
  refine thn (po_none.run pins s2 σ H2 (fun o H3 => o = none ∧ H3 = H2) I2 ⟨rfl, rfl⟩) fun vu s3 ⟨u, H3, I3, pu, eu, e3⟩ => ?_
  subst eu e3
  refine thn (hst.run pins s3 σ H3 (fun o H4 => ∃ (b : Bool) (xs : List V), o = some (bI b) ∧ SqL X.K H4 a xs ∧ ∀ p, H4 p = none → Q (.ref p) (upd H4 p (.lst (if b then xs.reverse else xs)))) I3 q) fun vs s4 ⟨o, H4, I4, ps, hb⟩ => ?_
  obtain ⟨b, xs, eo, hx, q⟩ := hb
  subst eo
  have I5 : Inv X pins σ H4 { s4 with heap := s4.heap.push { cls := .type "slice", data := .fields #[vl, vu, vs] } } := I4.kept (t' := s4.toks) fun b ob q => Heap.get?_push_of_some _ q
  obtain ⟨its, r, ht, hz⟩ := I5.list hx
  have hlen := r.length
  show wpAny (model X.prog X.w) X.A (subscriptTail e (.Slice none none (some e2) p3) (.ref a) (.ref s4.heap.objs.size)) (EP X pins σ Q) X.xe { s4 with heap := s4.heap.push { cls := .type "slice", data := .fields #[vl, vu, vs] } }
  refine tail_any (ops := [.ref a, .ref s4.heap.objs.size]) ht.isList.typeIs (PySem.slot_list_getitem.lookup) ?_ (by with_unfolding_all rfl)
  refine wpAny_getItem_list_slice ht.isList (Heap.IsSliceOf.new _ vl vu vs) pl pu ps (by cases b <;> decide) ?_ (by rw [List.size_toArray]; omega)
  rw [pick_bI]
  cases b with
  | true =>
    refine ⟨.ref _, _, I5.laid (t' := s4.toks) (o := .lst xs.reverse) (fun b ob q => Heap.get?_push_of_some _ q) (Nat.le_refl _) ?_, rfl, q _ (I5.hok.fresh (Nat.le_refl _))⟩
    exact ⟨by rw [List.length_reverse]; exact hz, _, 0, r.reverse, Heap.get?_push_size _ rfl⟩
  | false =>
    refine ⟨.ref _, _, I5.laid (t' := s4.toks) (o := .lst xs) (fun b ob q => Heap.get?_push_of_some _ q) (Nat.le_refl _) ?_, rfl, q _ (I5.hok.fresh (Nat.le_refl _))⟩
    exact ⟨hz, _, 0, r, Heap.get?_push_size _ rfl⟩
end
section
variable {prog : Program} {w : World} {A : Around} {E : Value → Shared → Prop} {s : Shared}
theorem applied1 {sl : Addr} {n : Nat} {vl vu vs : Value} {Q : Int × Int × Nat → Shared → Prop} (hs : s.heap.IsSliceOf sl vl vu vs) (pl : IsPart vl none) (pu : IsPart vu none) (ps : IsPart vs (some 1))
    (h : Q ((0 : Int), 1, n) s) : wpAny (model prog w) A (Builtin.Slice.sliceApplied (.ref sl) (pure (n : Int))) Q E s := by
  obtain ⟨os, hos, hcs, hds⟩ := id hs
  unfold Builtin.Slice.sliceApplied Builtin.Slice.sliceFields
  refine wpAny_bind (wpAny_bind (wpAny_field hos hds (x := vl) rfl (wpAny_bind (wpAny_field hos hds (x := vu) rfl (wpAny_bind (wpAny_field hos hds (x := vs) rfl (wpAny_pure ?_)))))))
  refine wpAny_bind (slicePart_ ps ?_)
  show wpAny _ _ (if ((1 : Int) == 0) = true then _ else _) _ _ s
  rw [if_neg (by decide)]
  refine wpAny_bind (slicePart_ pl (wpAny_bind (slicePart_ pu (wpAny_bind (wpAny_pure ?_)))))
  have e : Builtin.Slice.sliceAdjust none none 1 (n : Int) = ((0 : Int), (n : Int)) := by
    unfold Builtin.Slice.sliceAdjust
    simp
  show wpAny _ _ (match Builtin.Slice.sliceAdjust none none 1 (n : Int) with | (lo, hi) => pure (lo, (1 : Int), Builtin.Slice.slicePlaces lo hi 1)) Q E s
  rw [e]
  refine wpAny_pure ?_
  show Q (_, _, Builtin.Slice.slicePlaces (0 : Int) (n : Int) 1) s
  have e2 : Builtin.Slice.slicePlaces (0 : Int) (n : Int) 1 = n := by
    unfold Builtin.Slice.slicePlaces
    rw [if_pos (by decide)]
    by_cases c : (0 : Int) < n
    · have c' : 0 < n := by omega
      simp
      rw [if_pos c']
      omega
    · have : n = 0 := by omega
      subst this
      simp
  rw [e2]
  exact h
theorem item_one {t sl : Addr} {items : Array Value} {vl vu vs : Value} {Q : Value → Shared → Prop} (ht : IsTup s.heap t items) (hs : s.heap.IsSliceOf sl vl vu vs) (pl : IsPart vl none) (pu : IsPart vu none) (ps : IsPart vs (some 1))
    (h : Q (.ref t) s) : wpAny (model prog w) A (getItem (.ref t) (.ref sl)) Q E s := by
  obtain ⟨os, hos, hcs, hds⟩ := id hs
  have hTs : s.TypeIs (.ref sl) "slice" := ⟨os, hos, hcs⟩
  unfold getItem
  try with_reducible refine wpAny_holding ?_
  first | refine wpAny_bind (wpAny_pure ?_) | skip
  refine wpAny_bind (wpAny_sequenceKey ht.typeIs (by decide) ?_)
  refine wpAny_bind (wpAny_callSpecial?_slot (name := Str.ofString "__getitem__") ht.typeIs PyProof.Rows.slot_tuple_getitem
    (wpAny_call_entry PyProof.Rows.slot_tuple_getitem ht.typeIs entry_tuple_getitem ?_ (args_tuple_getitem _ _)))
  show wpAny _ _ (Builtin.Tuple.tupleItemsOf (.ref t) >>= _) _ _ s
  refine wpAny_bind (tupleItemsOf_ ht ?_)
  refine wpAny_bind (wpAny_typeOf hTs ?_)
  rw [if_pos (by decide)]
  refine wpAny_bind (applied1 hs pl pu ps ?_)
  show wpAny _ _ (if ((0 : Int) == 0 && (1 : Int) == 1 && items.size == items.size) = true then _ else _) _ _ s
  rw [if_pos (by simp)]
  refine wpAny_bind ?_
  unfold Builtin.Tuple.tupleIsExact
  refine wpAny_bind (wpAny_typeOf ht.typeIs ?_)
  refine wpAny_pure ?_
  rw [if_pos (by decide)]
  first
    | exact wpAny_bind (wpAny_rule (wpAny_pure ⟨_, rfl, wpAny_pure h⟩))
    | exact wpAny_bind (wpAny_rule (wpAny_pure ⟨_, rfl, h⟩))
    | exact wpAny_bind (wpAny_rule ⟨_, rfl, wpAny_pure h⟩)
end
section
variable {X : Cx}
/-- t[::e]: the tuple itself where e comes to 1 -/
def tStpT (K : PySem.W.Frag) (te ts : TE) : TE := fun σ H Q => te σ H fun x H1 => ∃ a, x = .ref a ∧ tPart ts σ H1 fun o H2 => ∃ (b : Bool) (xs : List V), o = some (bI b) ∧ SqT K H2 a xs ∧ (b = false → Q (.ref a) H2) ∧ (b = true → ∀ p, H2 p = none → Q (.ref p) (upd H2 p (.tup xs.reverse)))
theorem pe_stpT {K : PySem.W.Frag} {e e2 : Expr} {te ts : TE} {p3 pos : Pos} (he : PE X e te) (h2 : PE X e2 ts) (hK : X.K = K := by rfl) : PE X (.Subscript e (.Slice none none (some e2) p3) pos) (tStpT K te ts) := by
  subst hK
  refine ⟨fun pins s σ H Q I h => ?_⟩
  refine Subscript_ (thn (he.run pins s σ H _ I h) fun v s1 ⟨x, H1, I1, r1, q1⟩ => ?_)
  obtain ⟨a, ex, q⟩ := q1
  subst ex
  cases r1
  have hst : PO X (some e2) (tPart ts) := po_some h2
  refine wpAny_Slice (thn (po_none.run pins s1 σ H1 (fun o H2 => o = none ∧ H2 = H1) I1 ⟨rfl, rfl⟩) fun vl s2 ⟨l, H2, I2, pl, el, e2'⟩ => ?_)
  subst el e2'
  refine thn (po_none.run pins s2 σ H2 (fun o H3 => o = none ∧ H3 = H2) I2 ⟨rfl, rfl⟩) fun vu s3 ⟨u, H3, I3, pu, eu, e3⟩ => ?_
  subst eu e3
  refine thn (hst.run pins s3 σ H3 (fun o H4 => ∃ (b : Bool) (xs : List V), o = some (bI b) ∧ SqT X.K H4 a xs ∧ (b = false → Q (.ref a) H4) ∧ (b = true → ∀ p, H4 p = none → Q (.ref p) (upd H4 p (.tup xs.reverse)))) I3 q) fun vs s4 ⟨o, H4, I4, ps, hb⟩ => ?_
  obtain ⟨b, xs, eo, hx, q1, q2⟩ := hb
  subst eo
  have I5 : Inv X pins σ H4 { s4 with heap := s4.heap.push { cls := .type "slice", data := .fields #[vl, vu, vs] } } := I4.kept (t' := s4.toks) fun b ob q => Heap.get?_push_of_some _ q
  obtain ⟨its, r, ht, hz⟩ := I5.tuple hx
  have hlen := r.length
  show wpAny (model X.prog X.w) X.A (subscriptTail e (.Slice none none (some e2) p3) (.ref a) (.ref s4.heap.objs.size)) (EP X pins σ Q) X.xe { s4 with heap := s4.heap.push { cls := .type "slice", data := .fields #[vl, vu, vs] } }
  refine tail_any (ops := [.ref a, .ref s4.heap.objs.size]) ht.typeIs (PyProof.Rows.slot_tuple_getitem.lookup) ?_ (by with_unfolding_all rfl)
  cases b with
  | true =>
    refine Tw.item_rev ht (Heap.IsSliceOf.new _ vl vu vs) pl pu ps (by rw [List.size_toArray]; omega) ?_
    refine ⟨.ref _, _, I5.laid (t' := s4.toks) (o := .tup xs.reverse) (fun b ob q => Heap.get?_push_of_some _ q) (Nat.le_refl _) ?_, rfl, q2 rfl _ (I5.hok.fresh (Nat.le_refl _))⟩
    exact ⟨by rw [List.length_reverse]; exact hz, _, r.reverse, IsTup.new _ _⟩
  | false =>
    refine item_one ht (Heap.IsSliceOf.new _ vl vu vs) pl pu ps ?_
    exact ⟨.ref a, H4, I5, rfl, q1 rfl⟩
end
end Sr
/-! sorted(rows, key=lambda row: (row[A], row[B], row[C])), A, B, C whole numbers of the module -/
namespace Lr
open PySem PySem.Spec PyProof.Rows L2 LamX
structure Lam0 (scope : Scope) (z c1 c2 c3 : Str) : Prop where
  kind : scope.kind = .function
  co : scope.isCoroutine = false
  gen : scope.isGenerator = false
  nc : ∀ q ∈ scope.names, q.2 ≠ .cell
  nf : ∀ q ∈ scope.names, q.2 ≠ .free
  z : scope.names.lookup z = some .local
  g1 : scope.names.lookup c1 = some .globalImplicit
  g2 : scope.names.lookup c2 = some .globalImplicit
  g3 : scope.names.lookup c3 = some .globalImplicit
theorem lam0_by {scope : Scope} {z c1 c2 c3 : Str} (h1 : scope.kind = .function) (h2 : scope.isCoroutine = false) (h3 : scope.isGenerator = false) (h4 : (scope.names.all fun q => !decide (q.2 = .cell) && !decide (q.2 = .free)) = true) (h5 : scope.names.lookup z = some .local)
    (h6 : scope.names.lookup c1 = some .globalImplicit) (h7 : scope.names.lookup c2 = some .globalImplicit) (h8 : scope.names.lookup c3 = some .globalImplicit) : Lam0 scope z c1 c2 c3 := by
  refine ⟨h1, h2, h3, fun q hq e => ?_, fun q hq e => ?_, h5, h6, h7, h8⟩
  · have := List.all_eq_true.mp h4 q hq
    rw [e] at this
    simp at this
  · have := List.all_eq_true.mp h4 q hq
    rw [e] at this
    simp at this
/-- a key of three whole numbers -/
def key3 {β : Type} (f : β → Int × Int × Int) (b : β) : PyData := .tuple [.int (f b).1, .int (f b).2.1, .int (f b).2.2]
section
variable {prog : Program} {w : World} {A : Around} {E : Value → Shared → Prop} {s : Shared}
theorem item_at {value slice : Expr} {env : Env} {m mg : Str → Option Value} {z c : Str} {t : Addr} {its : List Value} {n : Nat} {u v : Tok} {x : Int} {p1 p2 p3 : Pos} {Q : Value → Shared → Prop} (hk : env.scope.kind = .function) (hz : env.kindOf z = some .local) (hn : s.heap.Ns env.locals m) (hm : m z = some (.ref t))
    (hc : env.kindOf c = some .globalImplicit) (hg : s.heap.Ns env.globals mg) (hv : mg c = some (.int n u)) (ht : IsTup s.heap t its.toArray) (hx : its[n]? = some (.int x v)) (hf : n < 5000) (dz : (z == ("__debug__" : Str)) = false) (dc : (c == ("__debug__" : Str)) = false) (h : Q (.int x v) s) :
    wpAny (model prog w) A (eval (.Subscript (.Name z p1) (.Name c p2) p3) env) Q E s := by
  refine Subscript_ (wpAny_Name (wpAny_loadName_local hk hz hn hm (Calls.Name_function_global hk hc (Calls.loadGlobal_global hg hv ?_) dc)) dz)
  have hl : n < its.length := (List.getElem?_eq_some_iff.mp hx).1
  refine item_tupleT (j := n) ht (by omega) (by omega) ?_ hx h (by intros; rfl)
  rw [seqIndex_of (by omega) (by omega)]
  rfl
theorem keyR_eval {env : Env} {m mg : Str → Option Value} {z c1 c2 c3 : Str} {t : Addr} {its : List Value} {n1 n2 n3 kk : Nat} {u1 u2 u3 v1 v2 v3 : Tok} {x1 x2 x3 : Int} {a1 a2 a3 b1 b2 b3 d1 d2 d3 p6 : Pos} (hk : env.scope.kind = .function) (hz : env.kindOf z = some .local)
    (hn : s.heap.Ns env.locals m) (hm : m z = some (.ref t)) (hg : s.heap.Ns env.globals mg) (k1 : env.kindOf c1 = some .globalImplicit) (k2 : env.kindOf c2 = some .globalImplicit) (k3 : env.kindOf c3 = some .globalImplicit)
    (h1 : mg c1 = some (.int n1 u1)) (h2 : mg c2 = some (.int n2 u2)) (h3 : mg c3 = some (.int n3 u3)) (ht : IsTup s.heap t its.toArray) (e1 : its[n1]? = some (.int x1 v1)) (e2 : its[n2]? = some (.int x2 v2)) (e3 : its[n3]? = some (.int x3 v3))
    (hf : n1 < 5000 ∧ n2 < 5000 ∧ n3 < 5000) (dz : (z == ("__debug__" : Str)) = false) (dc1 : (c1 == ("__debug__" : Str)) = false) (dc2 : (c2 == ("__debug__" : Str)) = false) (dc3 : (c3 == ("__debug__" : Str)) = false) :
    wpAny (model prog w) A (eval (.Tuple [.Subscript (.Name z a1) (.Name c1 a2) a3, .Subscript (.Name z b1) (.Name c2 b2) b3, .Subscript (.Name z d1) (.Name c3 d2) d3] kk p6) env) (PySem.W.KeyPure (.tuple [.int x1, .int x2, .int x3]) s) E s := by
  refine wpAny_Tuple_spliced ?_
  show wpAny _ _ (spliced ((false, eval (.Subscript (.Name z a1) (.Name c1 a2) a3) env) :: backTo p6 (starEach [.Subscript (.Name z b1) (.Name c2 b2) b3, .Subscript (.Name z d1) (.Name c3 d2) d3] env))) _ _ s
  refine Calls.spliced_cons (item_at (value := .Name z a1) (slice := .Name c1 a2) hk hz hn hm k1 hg h1 ht e1 hf.1 dz dc1 ?_)
  show wpAny _ _ (spliced ((false, eval (.Subscript (.Name z b1) (.Name c2 b2) b3) env) :: backTo p6 (starEach [.Subscript (.Name z d1) (.Name c3 d2) d3] env))) _ _ s
  refine Calls.spliced_cons (item_at (value := .Name z b1) (slice := .Name c2 b2) hk hz hn hm k2 hg h2 ht e2 hf.2.1 dz dc2 ?_)
  show wpAny _ _ (spliced ((false, eval (.Subscript (.Name z d1) (.Name c3 d2) d3) env) :: backTo p6 (starEach [] env))) _ _ s
  refine Calls.spliced_cons (item_at (value := .Name z d1) (slice := .Name c3 d2) hk hz hn hm k3 hg h3 ht e3 hf.2.2 dz dc3 ?_)
  refine Calls.spliced_nil ⟨by show 3 ≤ sizeLine; decide, ?_⟩
  exact ⟨_, _, rfl, fun b o e => Heap.get?_push_of_some _ e, .tuple (as := []) (Heap.get?_push_size _ rfl) rfl rfl (.cons (as := []) (bs := []) (.int _ _) (.cons (as := []) (bs := []) (.int _ _) (.cons (as := []) (bs := []) (.int _ _) .nil)))⟩
end
/-- rows and the three places of the key -/
def tSortRow (K : PySem.W.Frag) (ta : TE) (n1 n2 n3 : Nat) (P : Addr) (q : Str) : TE := fun σ H Q => ta σ H fun x H1 => ∃ (l : Addr) (ts : List Addr) (f : Addr → Int × Int × Int), x = .ref l ∧ ts.length ≤ 5000 ∧ SqL K H1 l (ts.map V.ref) ∧
  (∀ t ∈ ts, ∃ xs, SqT K H1 t xs ∧ xs[n1]? = some (.int (f t).1) ∧ xs[n2]? = some (.int (f t).2.1) ∧ xs[n3]? = some (.int (f t).2.2)) ∧ TabS H1 P q ∧
  ∀ H2 p, ExtN H1 H2 → TabS H2 P q → H2 p = none → Q (.ref p) (upd H2 p (.lst ((ts.mergeSort (PySem.W.dataLe false (key3 f))).map V.ref)))
theorem sqT_ext {K : PySem.W.Frag} {H H' : Hp} {a : Addr} {xs : List V} (e : ExtN H H') (h : SqT K H a xs) : SqT K H' a xs := by
  rcases h with (h | ⟨o, h⟩) | h
  · exact .inl (.inl (e _ _ h fun ps z => nomatch z))
  · exact .inl (.inr ⟨o, e _ _ h fun ps z => nomatch z⟩)
  · exact .inr h
theorem sqL_ext {K : PySem.W.Frag} {H H' : Hp} {a : Addr} {xs : List V} (e : ExtN H H') (h : SqL K H a xs) : SqL K H' a xs := by
  rcases h with (h | ⟨o, h⟩) | h
  · exact .inl (.inl (e _ _ h fun ps z => nomatch z))
  · exact .inl (.inr ⟨o, e _ _ h fun ps z => nomatch z⟩)
  · exact .inr h
theorem each_refs : ∀ ts : List Addr, PySem.W.EachIs (fun v t => v = Value.ref t) (ts.map Value.ref) ts
  | [] => .nil
  | t :: ts => .cons rfl (each_refs ts)
section
variable {X : Cx}
theorem pe_sortedRow {c P : Addr} {k kk n1 n2 n3 : Nat} {u1 u2 u3 : Tok} {y : Str} {pn : Pos} {ta : TE} {params : Arguments} {scope : Scope} {z c1 c2 c3 : Str} {p a1 a2 a3 b1 b2 b3 d1 d2 d3 p6 lpos kpos pos : Pos} (hcalm : X.calm = true) (hg : Gl X "sorted") (hm : X.mg "sorted" = none) (ha : PE X (.Name y pn) ta)
    (TB : TabB X.base X.mg c P) (hcode : X.env.code = .ref c) (L : Lam0 scope z c1 c2 c3) (hdef : defaultsOf params X.env = ([], [])) (m1 : X.mg c1 = some (.int n1 u1)) (m2 : X.mg c2 = some (.int n2 u2)) (m3 : X.mg c3 = some (.int n3 u3)) (hf : n1 < 5000 ∧ n2 < 5000 ∧ n3 < 5000)
    (hbind : ∀ (q : Str) (b : Expr) (cl : List (Str × Addr)) (pm cv ctv v : Value), bindArgs (PySem.W.kla_fn "<lambda>" q params b scope cl pm cv ctv) ⟨[v], []⟩ = pure [(z, v)]) (hr : Room (k + 3) X.A)
    (dz : (z == ("__debug__" : Str)) = false) (dc1 : (c1 == ("__debug__" : Str)) = false) (dc2 : (c2 == ("__debug__" : Str)) = false) (dc3 : (c3 == ("__debug__" : Str)) = false):
    PE X (.Call (.Name "sorted" p) [.Name y pn] [⟨some "key", .Lambda params (.Tuple [.Subscript (.Name z a1) (.Name c1 a2) a3, .Subscript (.Name z b1) (.Name c2 b2) b3, .Subscript (.Name z d1) (.Name c3 d2) d3] kk p6) scope lpos, kpos⟩] pos)
      (tSortRow X.K ta n1 n2 n3 P (X.env.qual ++ "<lambda>")) := by
  refine ⟨fun pins s σ H Q I h => ?_⟩
  refine wpAny_Call_Name_kw (ld_blt I hg hm boot_sorted ?_)
  refine PyProof.Rows.callWith_kw ?_
  refine Calls.spliced_cons (thn (ha.run pins s σ H _ I h) fun v s2 ⟨x, H2, I2, rv, q⟩ => ?_)
  obtain ⟨l, ts, f, rfl, hn, hl, hts, hT, q⟩ := q
  cases (show v = Value.ref l from rv)
  refine Calls.spliced_nil ?_
  show wpAny _ _ (evalAll ((do let v ← eval (.Lambda params (.Tuple [.Subscript (.Name z a1) (.Name c1 a2) a3, .Subscript (.Name z b1) (.Name c2 b2) b3, .Subscript (.Name z d1) (.Name c3 d2) d3] kk p6) scope lpos) X.env; standAt pos; pure v) :: [])) _ _ _
  have hfree : ∀ q ∈ scope.names, q.2 = .free → ∃ c, X.env.cells.lookup q.1 = some c := fun q hq e => absurd e (L.nf q hq)
  refine wpAny_evalAll_cons (wpAny_bind (lam_make2 (T := [(P, X.env.qual ++ "<lambda>")]) I2 TB hcode (by simp) (fun pp hp _ => by simp at hp; rw [hp]) (fun pp hp => by simp at hp; rw [hp]; exact hT) hdef hfree
    fun g c' pm ctv H3 s4 I5 eN T5 hgf hfn hfr hco => wpAny_bind (wpAny_standAt (wpAny_pure (wpAny_evalAll_nil ?_)))))
  have hT3 : TabS H3 P (X.env.qual ++ "<lambda>") := T5 _ (List.mem_singleton.mpr rfl)
  obtain ⟨its, rv, pl, hz⟩ := I5.list (sqL_ext eN hl)
  have ei := refs_at rv
  subst ei
  obtain ⟨⟨oc, vs, t, hoc, hdc, hvc⟩, _, _⟩ := I5.hok c' _ hco
  refine PySem.W.sorted_key_data (f := .ref g) (bs := ts) (R := fun v t => v = Value.ref t) (b := false) (key3 f) pl.isList (each_refs ts) ?_ ?_ (Nat.le_trans hn (by decide)) ?_ (PyProof.Rows.ksk_s1 _ _) (fun x => PyProof.Rows.ksk_l1 _ _) (fun x => PyProof.Rows.ksk_t1 _ _) ?_ ?_
  · intro d hd d' hd'
    obtain ⟨i, _, rfl⟩ := List.mem_map.mp hd
    obtain ⟨j, _, rfl⟩ := List.mem_map.mp hd'
    rfl
  · exact PySem.W.Sortable.tuples fun b => ⟨_, _, rfl⟩
  · intro i _
    have := hr.units
    show X.A.units + 2 + 1 < cLine
    omega
  · -- a call of the lambda
    rintro v t' rfl ht' hp tk kp
    obtain ⟨xs, hxs, e1, e2, e3⟩ := hts t' ht'
    obtain ⟨tis, tv, tpl, _⟩ := I5.tuple (sqT_ext eN hxs)
    obtain ⟨w1, f1, v1, rfl⟩ := tv.get e1
    obtain ⟨w2, f2, v2, rfl⟩ := tv.get e2
    obtain ⟨w3, f3, v3, rfl⟩ := tv.get e3
    have dp := (hr.in1.in1 : Room (k + 1) X.A.in1.in1).depth
    refine wpAny_call (codeAny_mono (R := fun r s' => ∃ v, r = .ok (.ret v) ∧ PySem.W.KeyPure (key3 f t') { s4 with heap := hp, toks := tk } v s') ?_ fun r s' hq => ?_)
    · refine PySem.W.kla_callFunE dp (kp _ _ hgf) rfl L.co L.gen rfl ⟨c', oc, vs, t, rfl, kp _ _ hoc, hdc, hvc⟩ ?_
      rw [hbind]
      refine wpAny_pure (wpAny_newFunctionEnv L.nc (fun q hq => ?_) (fun h1 hn1 hsb => ⟨((I5.kept (t' := tk) kp).nolimit).fresh _ hsb, ?_⟩) L.kind)
      · rw [List.mem_singleton.mp hq]
        exact L.z
      · have k1 : ∀ b o, hp.get? b = some o → h1.get? b = some o := fun b o e => hsb.extBut b o (Nat.ne_of_lt (Heap.lt_size e)) (Heap.get?_push_of_some _ e)
        have gl : h1.Ns mainGlobals X.mg := I5.mod.glob.keeps fun b o e => k1 b o (kp b o (I5.bk b o e))
        refine PySem.W.kla_codeExpr (wpAny_mono (keyR_eval (t := t') (its := tis) L.kind L.z hn1 (by simp) (show Heap.Ns _ _ X.mg from gl) L.g1 L.g2 L.g3 m1 m2 m3 ?_ f1 f2 f3 hf dz dc1 dc2 dc3) (fun v s' hq => ?_) fun e s' hq => hq)
        · obtain ⟨o, ho, r⟩ := tpl
          exact ⟨o, k1 _ _ (kp _ _ ho), r⟩
        · obtain ⟨h', tk', e, kk', rd⟩ := hq
          exact ⟨v, rfl, h', tk', by rw [e], fun b o q => kk' b o (k1 b o q), rd⟩
    · obtain ⟨v, rfl, hq⟩ := hq
      exact hq
  · -- the new list
    intro out c1' h' tk kp fresh hD hlen each
    have hv : Vals ((ts.mergeSort (PySem.W.dataLe false (key3 f))).map V.ref) out := by
      clear hD hlen
      revert each
      generalize ts.mergeSort (PySem.W.dataLe false (key3 f)) = js
      intro each
      induction each with
      | nil => exact .nil
      | cons r _ ih => exact .cons r ih
    have hl2 : ((ts.mergeSort (PySem.W.dataLe false (key3 f))).map V.ref).length ≤ sizeLine := by
      rw [List.length_map, (List.mergeSort_perm _ _).length_eq]
      exact Nat.le_trans hn (by decide)
    exact ⟨.ref _, _, I5.laid kp (Nat.le_succ _) (show ObjOk X.prog X.w _ h' _ (.lst _) from ⟨hl2, out, c1', hv, hD⟩), rfl, q _ _ eN hT3 (I5.hok.fresh (Nat.le_succ _))⟩
end
end Lr
/-! sorted(keys, key=lambda key: (NAMES.index(key[0]), key[1])), NAMES a tuple of texts of the module -/
namespace Lka
open PySem PySem.Spec PyProof.Rows L2 LamX
structure LamK0 (scope : Scope) (z c : Str) : Prop where
  kind : scope.kind = .function
  co : scope.isCoroutine = false
  gen : scope.isGenerator = false
  nc : ∀ q ∈ scope.names, q.2 ≠ .cell
  nf : ∀ q ∈ scope.names, q.2 ≠ .free
  z : scope.names.lookup z = some .local
  g : scope.names.lookup c = some .globalImplicit
theorem lamK_by {scope : Scope} {z c : Str} (h1 : scope.kind = .function) (h2 : scope.isCoroutine = false) (h3 : scope.isGenerator = false) (h4 : (scope.names.all fun q => !decide (q.2 = .cell) && !decide (q.2 = .free)) = true) (h5 : scope.names.lookup z = some .local)
    (h6 : scope.names.lookup c = some .globalImplicit) : LamK0 scope z c := by
  refine ⟨h1, h2, h3, fun q hq e => ?_, fun q hq e => ?_, h5, h6⟩
  · have := List.all_eq_true.mp h4 q hq
    rw [e] at this
    simp at this
  · have := List.all_eq_true.mp h4 q hq
    rw [e] at this
    simp at this
/-- a key of two whole numbers -/
def key2 {β : Type} (f : β → Int × Int) (b : β) : PyData := .tuple [.int (f b).1, .int (f b).2]
/-- a tuple of texts that the module holds -/
def tupO (o : Obj) (ys : List Str) : Prop := o.dict = none ∧ o.cls = .type "tuple" ∧ ∃ its n, o.data = .seq its n ∧ StrsAre its.toList ys
def strsB : List Value → List Str → Bool
  | [], [] => true
  | .str x _ :: vs, y :: ys => decide (x = y) && strsB vs ys
  | _, _ => false
theorem strs_of : ∀ {vs : List Value} {ys : List Str}, strsB vs ys = true → StrsAre vs ys
  | [], [], _ => .nil
  | .str x t :: vs, y :: ys, h => by
    have h := Bool.and_eq_true_iff.mp h
    have e : x = y := of_decide_eq_true h.1
    subst e
    exact .cons _ _ (strs_of h.2)
def tupB (K : PySem.W.Frag) (a : Addr) (ys : List Str) : Bool := match List.lookup a K with
  | some ⟨.type id, none, .seq its n, sl⟩ => decide (id = "tuple") && strsB its.toList ys
  | _ => false
theorem tup_ok {K : PySem.W.Frag} {a : Addr} {ys : List Str} (h : tupB K a ys = true) : ∃ o, List.lookup a K = some o ∧ tupO o ys := by
  unfold tupB at h
  split at h
  · next id its n sl e =>
    have h := Bool.and_eq_true_iff.mp h
    have e2 : id = "tuple" := of_decide_eq_true h.1
    subst e2
    exact ⟨_, e, rfl, rfl, its, n, rfl, strs_of h.2⟩
  · cases h
section
variable {prog : Program} {w : World} {A : Around} {E : Value → Shared → Prop} {s : Shared}
theorem sub_at {env : Env} {m : Str → Option Value} {z : Str} {t : Addr} {its : List Value} {n kd : Nat} {v0 : Value} {p1 p2 p3 : Pos} {Q : Value → Shared → Prop} (hk : env.scope.kind = .function) (hz : env.kindOf z = some .local) (hn : s.heap.Ns env.locals m) (hm : m z = some (.ref t))
    (ht : IsTup s.heap t its.toArray) (hx : its[n]? = some v0) (hf : n < 5000) (dz : (z == ("__debug__" : Str)) = false) (h : Q v0 { s with toks := s.toks + 1 }) :
    wpAny (model prog w) A (eval (.Subscript (.Name z p1) (.Constant (.int n) kd p2) p3) env) Q E s := by
  refine Subscript_ (wpAny_Name (wpAny_loadName_local hk hz hn hm (wpAny_Constant_int ?_)) dz)
  have hl : n < its.length := (List.getElem?_eq_some_iff.mp hx).1
  refine item_tupleT (j := n) (show IsTup s.heap t its.toArray from ht) (by omega) (by omega) ?_ hx h (by intros; rfl)
  rw [seqIndex_of (by omega) (by omega)]
  rfl
theorem idx_at {env : Env} {m mg : Str → Option Value} {z c : Str} {t a : Addr} {its : List Value} {o : Obj} {ys : List Str} {y : Str} {u : Tok} {kd : Nat} {p1 p2 p3 p4 ap cp : Pos} {Q : Value → Shared → Prop} (hk : env.scope.kind = .function) (hz : env.kindOf z = some .local) (hn : s.heap.Ns env.locals m) (hm : m z = some (.ref t))
    (hc : env.kindOf c = some .globalImplicit) (hg : s.heap.Ns env.globals mg) (hv : mg c = some (.ref a)) (ha : s.heap.get? a = some o) (ho : tupO o ys)
    (ht : IsTup s.heap t its.toArray) (hx : its[0]? = some (.str y u)) (hy : y ∈ ys) (dz : (z == ("__debug__" : Str)) = false) (dc : (c == ("__debug__" : Str)) = false) (hline : (ap.endLine == cp.line) = true) (h : ∀ tk, Q (.int (ys.idxOf y : Nat) tk) { s with toks := tk + 1 }) :
    wpAny (model prog w) A (eval (.Call (.Attribute (.Name c p1) "index" ap) [.Subscript (.Name z p2) (.Constant (.int 0) kd p3) p4] [] cp) env) Q E s := by
  obtain ⟨cls, dd, dt, sl⟩ := o
  obtain ⟨h1, h2, is, n, h3, hs⟩ := ho
  simp only at h1 h2 h3
  subst h1 h2 h3
  refine wpAny_Call_method_late rfl rfl hline rfl (Calls.Name_function_global hk hc (Calls.loadGlobal_global hg hv ?_) dc)
  refine ⟨"tuple", "tuple.index", PySem.F.plainAttrs_tuple, PySem.F.slot_tuple_index, PySem.F.type_tuple_index, ⟨_, ha, rfl⟩, fun b e => ?_, Calls.callWith_builtin rfl (Calls.evalArgs_plain ?_)⟩
  · cases e
    exact ⟨_, ha, rfl⟩
  · refine Calls.spliced_cons (sub_at hk hz hn hm ht hx (by decide) dz ?_)
    refine Calls.spliced_nil ?_
    refine PySem.SeqAt.tuple_index_strs (vs := is.toList) ?_ hs hy (h _)
    exact ⟨_, ha, rfl, n, by simp⟩
theorem keyK_eval {env : Env} {m mg : Str → Option Value} {z c : Str} {t a : Addr} {its : List Value} {o : Obj} {ys : List Str} {y : Str} {x : Int} {u u2 : Tok} {k1 k2 kk : Nat} {p1 p2 p3 p4 p5 p6 p7 p8 ap cp : Pos} (hk : env.scope.kind = .function) (hz : env.kindOf z = some .local) (hn : s.heap.Ns env.locals m) (hm : m z = some (.ref t))
    (hc : env.kindOf c = some .globalImplicit) (hg : s.heap.Ns env.globals mg) (hv : mg c = some (.ref a)) (ha : s.heap.get? a = some o) (ho : tupO o ys)
    (ht : IsTup s.heap t its.toArray) (hx : its[0]? = some (.str y u)) (hx1 : its[1]? = some (.int x u2)) (hy : y ∈ ys) (dz : (z == ("__debug__" : Str)) = false) (dc : (c == ("__debug__" : Str)) = false) (hline : (ap.endLine == cp.line) = true) :
    wpAny (model prog w) A (eval (.Tuple [.Call (.Attribute (.Name c p1) "index" ap) [.Subscript (.Name z p2) (.Constant (.int 0) k1 p3) p4] [] cp, .Subscript (.Name z p5) (.Constant (.int 1) k2 p7) p8] kk p6) env) (PySem.W.KeyPure (.tuple [.int (ys.idxOf y : Nat), .int x]) s) E s := by
  refine wpAny_Tuple_spliced ?_
  show wpAny _ _ (spliced ((false, eval (.Call (.Attribute (.Name c p1) "index" ap) [.Subscript (.Name z p2) (.Constant (.int 0) k1 p3) p4] [] cp) env) :: backTo p6 (starEach [.Subscript (.Name z p5) (.Constant (.int 1) k2 p7) p8] env))) _ _ s
  refine Calls.spliced_cons (idx_at hk hz hn hm hc hg hv ha ho ht hx hy dz dc hline fun tk => ?_)
  show wpAny _ _ (spliced ((false, eval (.Subscript (.Name z p5) (.Constant (.int 1) k2 p7) p8) env) :: backTo p6 (starEach [] env))) _ _ _
  refine Calls.spliced_cons (sub_at hk hz (show Heap.Ns _ _ _ from hn) hm (show IsTup _ _ _ from ht) hx1 (by decide) dz ?_)
  refine Calls.spliced_nil ⟨by show 2 ≤ sizeLine; decide, ?_⟩
  exact ⟨_, _, rfl, fun b o e => Heap.get?_push_of_some _ e, .tuple (as := []) (Heap.get?_push_size _ rfl) rfl rfl (.cons (as := []) (bs := []) (.int _ _) (.cons (as := []) (bs := []) (.int _ _) .nil))⟩
end
/-- keys and the texts of the first item -/
def kIx (ys : List Str) (p : Str × Int) : Int × Int := (((ys.idxOf p.1 : Nat) : Int), p.2)
def tSortKey (K : PySem.W.Frag) (ta : TE) (ys : List Str) (P : Addr) (q : Str) : TE := fun σ H Q => ta σ H fun x H1 => ∃ (l : Addr) (ts : List Addr) (f : Addr → Str × Int), x = .ref l ∧ ts.length ≤ 5000 ∧ SqL K H1 l (ts.map V.ref) ∧
  (∀ t ∈ ts, (f t).1 ∈ ys ∧ SqT K H1 t [.str (f t).1, .int (f t).2]) ∧ TabS H1 P q ∧
  ∀ H2 p, ExtN H1 H2 → TabS H2 P q → H2 p = none → Q (.ref p) (upd H2 p (.lst ((ts.mergeSort (PySem.W.dataLe false (key2 fun t => kIx ys (f t)))).map V.ref)))
section
variable {X : Cx}
theorem pe_sortedKey {c P a : Addr} {k k1 k2 kk : Nat} {ys : List Str} {o : Obj} {y : Str} {pn : Pos} {ta : TE} {params : Arguments} {scope : Scope} {z c1 : Str} {p p1 p2 p3 p4 p5 p6 p7 p8 ap cp lpos kpos pos : Pos} (hcalm : X.calm = true) (hg : Gl X "sorted") (hm : X.mg "sorted" = none) (ha : PE X (.Name y pn) ta)
    (TB : TabB X.base X.mg c P) (hcode : X.env.code = .ref c) (L : LamK0 scope z c1) (hdef : defaultsOf params X.env = ([], [])) (m1 : X.mg c1 = some (.ref a)) (hK : List.lookup a X.K = some o) (hO : tupO o ys)
    (hbind : ∀ (q : Str) (b : Expr) (cl : List (Str × Addr)) (pm cv ctv v : Value), bindArgs (PySem.W.kla_fn "<lambda>" q params b scope cl pm cv ctv) ⟨[v], []⟩ = pure [(z, v)]) (hr : Room (k + 3) X.A)
    (dz : (z == ("__debug__" : Str)) = false) (dc1 : (c1 == ("__debug__" : Str)) = false) (hline : (ap.endLine == cp.line) = true := by rfl) :
    PE X (.Call (.Name "sorted" p) [.Name y pn] [⟨some "key", .Lambda params (.Tuple [.Call (.Attribute (.Name c1 p1) "index" ap) [.Subscript (.Name z p2) (.Constant (.int 0) k1 p3) p4] [] cp, .Subscript (.Name z p5) (.Constant (.int 1) k2 p7) p8] kk p6) scope lpos, kpos⟩] pos)
      (tSortKey X.K ta ys P (X.env.qual ++ "<lambda>")) := by
  refine ⟨fun pins s σ H Q I h => ?_⟩
  refine wpAny_Call_Name_kw (ld_blt I hg hm boot_sorted ?_)
  refine PyProof.Rows.callWith_kw ?_
  refine Calls.spliced_cons (thn (ha.run pins s σ H _ I h) fun v s2 ⟨x, H2, I2, rv, q⟩ => ?_)
  obtain ⟨l, ts, f, rfl, hn, hl, hts, hT, q⟩ := q
  cases (show v = Value.ref l from rv)
  refine Calls.spliced_nil ?_
  show wpAny _ _ (evalAll ((do let v ← eval (.Lambda params (.Tuple [.Call (.Attribute (.Name c1 p1) "index" ap) [.Subscript (.Name z p2) (.Constant (.int 0) k1 p3) p4] [] cp, .Subscript (.Name z p5) (.Constant (.int 1) k2 p7) p8] kk p6) scope lpos) X.env; standAt pos; pure v) :: [])) _ _ _
  have hfree : ∀ q ∈ scope.names, q.2 = .free → ∃ c, X.env.cells.lookup q.1 = some c := fun q hq e => absurd e (L.nf q hq)
  refine wpAny_evalAll_cons (wpAny_bind (lam_make2 (T := [(P, X.env.qual ++ "<lambda>")]) I2 TB hcode (by simp) (fun pp hp _ => by simp at hp; rw [hp]) (fun pp hp => by simp at hp; rw [hp]; exact hT) hdef hfree
    fun g c' pm ctv H3 s4 I5 eN T5 hgf hfn hfr hco => wpAny_bind (wpAny_standAt (wpAny_pure (wpAny_evalAll_nil ?_)))))
  have hT3 : TabS H3 P (X.env.qual ++ "<lambda>") := T5 _ (List.mem_singleton.mpr rfl)
  obtain ⟨its, rv, pl, hz⟩ := I5.list (Lr.sqL_ext eN hl)
  have ei := refs_at rv
  subst ei
  obtain ⟨⟨oc, vs, t, hoc, hdc, hvc⟩, _, _⟩ := I5.hok c' _ hco
  refine PySem.W.sorted_key_data (f := .ref g) (bs := ts) (R := fun v t => v = Value.ref t) (b := false) (key2 fun t => kIx ys (f t)) pl.isList (Lr.each_refs ts) ?_ ?_ (Nat.le_trans hn (by decide)) ?_ (PyProof.Rows.ksk_s1 _ _) (fun x => PyProof.Rows.ksk_l1 _ _) (fun x => PyProof.Rows.ksk_t1 _ _) ?_ ?_
  · intro d hd d' hd'
    obtain ⟨i, _, rfl⟩ := List.mem_map.mp hd
    obtain ⟨j, _, rfl⟩ := List.mem_map.mp hd'
    rfl
  · exact PySem.W.Sortable.tuples fun b => ⟨_, _, rfl⟩
  · intro i _
    have := hr.units
    show X.A.units + 2 + 1 < cLine
    omega
  · -- a call of the lambda
    rintro v t' rfl ht' hp tk kp
    obtain ⟨hy, hxs⟩ := hts t' ht'
    obtain ⟨tis, tv, tpl, _⟩ := I5.tuple (Lr.sqT_ext eN hxs)
    obtain ⟨w1, f1, v1, rfl⟩ := tv.get (i := 0) rfl
    obtain ⟨w2, f2, v2, rfl⟩ := tv.get (i := 1) rfl
    have dp := (hr.in1.in1 : Room (k + 1) X.A.in1.in1).depth
    refine wpAny_call (codeAny_mono (R := fun r s' => ∃ v, r = .ok (.ret v) ∧ PySem.W.KeyPure (key2 (fun t => kIx ys (f t)) t') { s4 with heap := hp, toks := tk } v s') ?_ fun r s' hq => ?_)
    · refine PySem.W.kla_callFunE dp (kp _ _ hgf) rfl L.co L.gen rfl ⟨c', oc, vs, t, rfl, kp _ _ hoc, hdc, hvc⟩ ?_
      rw [hbind]
      refine wpAny_pure (wpAny_newFunctionEnv L.nc (fun q hq => ?_) (fun h1 hn1 hsb => ⟨((I5.kept (t' := tk) kp).nolimit).fresh _ hsb, ?_⟩) L.kind)
      · rw [List.mem_singleton.mp hq]
        exact L.z
      · have k1 : ∀ b o, hp.get? b = some o → h1.get? b = some o := fun b o e => hsb.extBut b o (Nat.ne_of_lt (Heap.lt_size e)) (Heap.get?_push_of_some _ e)
        have gl : h1.Ns mainGlobals X.mg := I5.mod.glob.keeps fun b o e => k1 b o (kp b o (I5.bk b o e))
        refine PySem.W.kla_codeExpr (wpAny_mono (keyK_eval (t := t') (its := tis) L.kind L.z hn1 (by simp) L.g (show Heap.Ns _ _ X.mg from gl) m1 (k1 _ _ (kp _ _ (I5.bk _ _ (I5.mod.kin _ _ hK)))) hO ?_ f1 f2 hy dz dc1 hline) (fun v s' hq => ?_) fun e s' hq => hq)
        · obtain ⟨o, ho, r⟩ := tpl
          exact ⟨o, k1 _ _ (kp _ _ ho), r⟩
        · obtain ⟨h', tk', e, kk', rd⟩ := hq
          exact ⟨v, rfl, h', tk', by rw [e], fun b o q => kk' b o (k1 b o q), rd⟩
    · obtain ⟨v, rfl, hq⟩ := hq
      exact hq
  · -- the new list
    intro out c1' h' tk kp fresh hD hlen each
    have hv : Vals ((ts.mergeSort (PySem.W.dataLe false (key2 fun t => kIx ys (f t)))).map V.ref) out := by
      clear hD hlen
      revert each
      generalize ts.mergeSort (PySem.W.dataLe false (key2 fun t => kIx ys (f t))) = js
      intro each
      induction each with
      | nil => exact .nil
      | cons r _ ih => exact .cons r ih
    have hl2 : ((ts.mergeSort (PySem.W.dataLe false (key2 fun t => kIx ys (f t)))).map V.ref).length ≤ sizeLine := by
      rw [List.length_map, (List.mergeSort_perm _ _).length_eq]
      exact Nat.le_trans hn (by decide)
    exact ⟨.ref _, _, I5.laid kp (Nat.le_succ _) (show ObjOk X.prog X.w _ h' _ (.lst _) from ⟨hl2, out, c1', hv, hD⟩), rfl, q _ _ eN hT3 (I5.hok.fresh (Nat.le_succ _))⟩
end
end Lka
/-! dicts of the module: what stands at a key; tuples of texts that stand there -/
namespace DicK
open PySem PySem.Spec PyProof.Rows L2
def refAt (K : PySem.W.Frag) (d : Addr) (z : Str) : Addr := match PySem.W.nsIn K d z with
  | some (some (.ref a)) => a
  | _ => 0
theorem vals_strs : ∀ {its : List Value} {ys : List Str}, StrsAre its ys → Vals (ys.map V.str) its
  | _, _, .nil => .nil
  | _, _, .cons x t h => .cons ⟨t, rfl⟩ (vals_strs h)
theorem sqT {K : PySem.W.Frag} {H : Hp} {a : Addr} {o : Obj} {ys : List Str} (h : List.lookup a K = some o) (u : Lka.tupO o ys) (n : ys.length ≤ 100) : SqT K H a (ys.map V.str) := by
  obtain ⟨_, hc, its, m, hd, hs⟩ := u
  have v := vals_strs hs
  refine .inr ⟨o, its, m, h, hc, hd, ?_, v⟩
  have := v.length
  rw [List.length_map] at this
  have e : its.size = its.toList.length := by simp
  rw [e, ← this]
  exact Nat.le_trans n (by decide)
end DicK
/-! enumerate(t, start=k) of a tuple -/
namespace Et
open Es (callWith_type_kwB callWith_kwT)
open PySem PySem.Spec PyProof.Rows L2
def IteT (K : PySem.W.Frag) (k : Int) (a : Addr) : It :=
  ⟨fun i H => ∃ (xs : List V) (x : V), SqT K H a xs ∧ xs[i]? = some x, fun i H v H' => ∃ T x, v = .ref T ∧ H T = none ∧ H' = upd H T (.tup [.int (k + (i : Nat)), x]) ∧ ∀ xs, SqT K H a xs → xs[i]? = some x, fun i H => ∃ xs : List V, SqT K H a xs ∧ xs.length = i⟩
theorem turn_enumT {P : Program} {w : World} {K : PySem.W.Frag} {elts : List Expr} {kk : Nat} {tpos : Pos} (k : Int) (a e it : Addr) (hai : a ≠ it) (hae : e ≠ a) :
    Turn P w K (.Tuple elts kk tpos) (IteT K k a) [e, it] e (fun i h => (∃ old, IsEnum h e it (k + ((i : Nat) : Int)) old) ∧ h.IsTupleIter it a i ∧ e ≠ it) where
  mem := by simp
  obj := fun i h st b hb => by
    obtain ⟨⟨old, he⟩, ⟨o, ho, hc, hd⟩, _⟩ := st
    have e' : b = e ∨ b = it := by simpa using hb
    rcases e' with z | z
    · rw [z]; exact ⟨_, he, fun v q => nomatch q⟩
    · rw [z]; exact ⟨o, ho, fun v q => by rw [hd] at q; cases q⟩
  keep := fun i h h' st k => let ⟨⟨old, he⟩, hi, hne⟩ := st; ⟨⟨old, k e (by simp) _ he⟩, hi.at fun o q => k it (by simp) o q, hne⟩
  item := by
    intro X hP hw hK hc i pins s σ H E I hf st hg
    subst hP hw hK
    obtain ⟨⟨old, he⟩, hit, hne⟩ := st
    obtain ⟨xs, x, hq, hx⟩ := hg
    obtain ⟨its, rv, p, hz⟩ := I.tuple hq
    obtain ⟨u, hu, ru⟩ := rv.get hx
    have hel : e < s.heap.objs.size := Heap.lt_size he
    have hil : it < s.heap.objs.size := by obtain ⟨_, q, _⟩ := hit; exact Heap.lt_size q
    have hA : X.A.in1.handled = none := I.ok.hd hc
    have lt1 : i < its.toArray.size := by have := (List.getElem?_eq_some_iff.mp hu).1; simpa using this
    refine wpAny_pyNext_enum_itemC (Draws.tuple hA it a hai its.toArray) he ⟨hit, p⟩ lt1 hne (by simp; exact ⟨hne, hae⟩) fun y h' tk hy ho hit' hT hsz hk => ?_
    have f1 : y = u := Option.some.inj (hy.symm.trans (by simpa using hu))
    subst f1
    refine ⟨_, rfl, wpAny_letOwnedTupleGo_enum (s := { s with heap := h', toks := tk + 1 }) ho fun h'' he' sb => ?_⟩
    have hT2 : h''.get? s.heap.objs.size = some { cls := .type "tuple", data := .seq #[.int (k + (i : Int)) tk, y] } := (sb.2 _ (Nat.ne_of_gt hel)).trans hT
    have new : ObjOk X.prog X.w (upd H s.heap.objs.size (.tup [.int (k + (i : Nat)), x])) h'' s.heap.objs.size (.tup [.int (k + (i : Nat)), x]) :=
      ⟨by show 2 ≤ sizeLine; decide, [.int (k + (i : Int)) tk, y], .cons ⟨_, rfl⟩ (.cons ru .nil), ⟨_, hT2, rfl, _, rfl⟩⟩
    have I1 : Inv X pins σ (upd H s.heap.objs.size (.tup [.int (k + (i : Nat)), x])) { s with heap := h'', toks := tk + 1 } :=
      I.turnedNew (t' := tk + 1) (ch := [e, it]) (fun b ob hb q => (sb.2 b (fun z => hb (by simp [z]))).trans (hk b ob (fun z => hb (by simp [z])) (fun z => hb (by simp [z])) q)) hf (Nat.le_refl _) new
    refine ⟨.ref s.heap.objs.size, _, I1, rfl, ⟨_, x, rfl, I.hok.fresh (Nat.le_refl _), rfl, fun ys hy => by rw [I.tuple_inj hy hq]; exact hx⟩, ⟨⟨y, ?_⟩, hit'.1.at fun o q => (sb.2 it (Ne.symm hne)).trans q, hne⟩, fun b hb => ?_⟩
    · have e1 : k + ((i + 1 : Nat) : Int) = k + (i : Int) + 1 := by omega
      rw [e1]; exact he'
    · have hb' : b < s.heap.objs.size := by
        have e' : b = e ∨ b = it := by simpa using hb
        rcases e' with z | z
        · rw [z]; exact hel
        · rw [z]; exact hil
      rw [upd_ne (Nat.ne_of_lt hb')]
      exact (hf b hb).1
  done := by
    intro X hP hw hK hc i pins s σ H E I hf st hg
    subst hP hw hK
    obtain ⟨⟨old, he⟩, hit, hne⟩ := st
    obtain ⟨xs, hq, hx⟩ := hg
    obtain ⟨its, rv, p, hz⟩ := I.tuple hq
    obtain ⟨f0, f1, f2, f3, f4, f5⟩ := hf it (by simp)
    have hl := rv.length
    have hA : X.A.in1.handled = none := I.ok.hd hc
    have l1 : its.toArray.size = i := by rw [← hx, hl]; simp
    subst l1
    exact wpAny_pyNext_enum_endD (Draws.tuple hA it a hai its.toArray) he ⟨hit, p⟩ fun h' eb => ⟨rfl, I.turned (t' := s.toks) (fun b o hb q => eb b o hb q) f0 f1 f3 f4 f5⟩
  self := fun A i s Q E st h => let ⟨⟨_, he⟩, _⟩ := st; wpAny_pyIter_enum he h
def iEnumT (K : PySem.W.Frag) (k : Int) (te : TE) : TI := fun σ H R => te σ H fun v H1 => ∃ a xs, v = .ref a ∧ SqT K H1 a xs ∧ R (IteT K k a) H1
theorem pi_enumT {X : Cx} {y : Str} {pn : Pos} {te : TE} {k : Int} {kc : Nat} {p pos tpos cpos kpos : Pos} {elts : List Expr} {kk : Nat} (hg : Gl X "enumerate") (hm : X.mg "enumerate" = none) (ha : PE X (.Name y pn) te) (hk0 : -(2 ^ 63) ≤ k) (hk1 : k < 2 ^ 63) :
    PI X (.Tuple elts kk tpos) (.Call (.Name "enumerate" p) [.Name y pn] [⟨some "start", .Constant (.int k) kc cpos, kpos⟩] pos) (iEnumT X.K k te) := by
  refine ⟨fun pins s σ H R I h => ?_⟩
  refine wpAny_Call_Name_kw (ld_blt I hg hm boot_enumerate ?_)
  refine callWith_kwT ?_
  refine Calls.spliced_cons (thn (ha.run pins s σ H _ I h) fun v s1 ⟨x, H1, I1, rv, q⟩ => ?_)
  obtain ⟨a, xs, rfl, hl, q⟩ := q
  cases (show v = Value.ref a from rv)
  refine Calls.spliced_nil ?_
  show wpAny _ _ (evalAll ((do let v ← eval (.Constant (.int k) kc cpos) X.env; standAt pos; pure v) :: [])) _ _ _
  refine wpAny_evalAll_cons (wpAny_bind (thn ((pe_int (X := X)).run pins s1 σ H1 (fun v H2 => v = .int k ∧ H2 = H1) I1 ⟨rfl, rfl⟩) fun v2 s2 ⟨x2, H2, I2, r2, e2, e3⟩ => wpAny_bind (wpAny_standAt (wpAny_pure (wpAny_evalAll_nil ?_)))))
  subst e2 e3
  obtain ⟨t, rfl⟩ := r2
  obtain ⟨its, rv', p', hz⟩ := I2.tuple hl
  refine enum_begins_start (begins_tuple a its.toArray) p' hk0 hk1 fun h' he hit hsz hk => wpAny_pyIter_enum he ?_
  have I3 : Inv X pins σ H2 { s2 with heap := h' } := I2.kept (t' := s2.toks) hk
  have la := p'.lt
  refine ⟨s2.heap.objs.size + 1, [s2.heap.objs.size + 1, s2.heap.objs.size], _, _, H2, rfl, I3, turn_enumT k a (s2.heap.objs.size + 1) s2.heap.objs.size (Nat.ne_of_lt la) (Nat.ne_of_gt (Nat.lt_succ_of_lt la)), ⟨⟨.none, by rw [show k + ((0 : Nat) : Int) = k by omega]; exact he⟩, ⟨_, hit, rfl, rfl⟩, Nat.succ_ne_self _⟩, fun b hb => ?_, q⟩
  have e' : b = s2.heap.objs.size + 1 ∨ b = s2.heap.objs.size := by simpa using hb
  have hle : s2.heap.objs.size ≤ b := by
    rcases e' with z | z
    · rw [z]; exact Nat.le_add_right _ _
    · rw [z]; exact Nat.le_refl _
  exact I2.fpOk hle (I2.hok.fresh hle)
theorem walk_enumT {K : PySem.W.Frag} {k : Int} {a : Addr} {xs : List V} : Walk (IteT K k a) xs.length (fun H => SqT K H a xs) (YPair (fun i => some (.int (k + (i : Nat)))) (fun i => xs[i]?)) := by
  refine ⟨fun i _ hi q => ⟨xs, xs[i], q, by simp [hi]⟩, fun _ q => ⟨xs, q, rfl⟩, fun i H v H' _ q y => ?_⟩
  obtain ⟨T, x, h1, h2, h3, h4⟩ := y
  exact ⟨T, .int (k + (i : Nat)), x, h1, h2, h3, rfl, h4 xs q⟩
end Et
/-! x in t, t a tuple, of data of any depth; bool or int beside comparisons of any data -/
namespace InT
open PySem PySem.Spec PyProof.Rows L2
section
variable {X : Cx}
def rInT (K : PySem.W.Frag) : R2 := fun x y H Q => ∃ d ds, Dp K H x d ∧ Dp K H y (.tuple ds) ∧ SeqAt.shaped d = true ∧ SeqAt.shaped (.tuple ds) = true ∧ Q (.bl (ds.any fun z => PyData.eqv z d)) H
def rNotInT (K : PySem.W.Frag) : R2 := fun x y H Q => ∃ d ds, Dp K H x d ∧ Dp K H y (.tuple ds) ∧ SeqAt.shaped d = true ∧ SeqAt.shaped (.tuple ds) = true ∧ Q (.bl (!ds.any fun z => PyData.eqv z d)) H
theorem op_inT (hu : X.A.units + 65 < cLine) : OpR X (compareOp .In) (rInT X.K) := by
  intro pins s σ H x y v u Q I rx ry h
  obtain ⟨d, ds, hd, he, sd, se, q⟩ := h
  obtain ⟨as, r1⟩ := Dp.reads I d x v hd rx
  obtain ⟨bs, r2⟩ := Dp.reads I (.tuple ds) y u he ry
  exact SeqAt.in_tuple_reads r2 r1 (SeqAt.canLay_of_shaped se) (SeqAt.canLay_of_shaped sd) (room_in_shaped sd hu) ⟨.bl _, H, I, rfl, q⟩
theorem op_notInT (hu : X.A.units + 65 < cLine) : OpR X (compareOp .NotIn) (rNotInT X.K) := by
  intro pins s σ H x y v u Q I rx ry h
  obtain ⟨d, ds, hd, he, sd, se, q⟩ := h
  obtain ⟨as, r1⟩ := Dp.reads I d x v hd rx
  obtain ⟨bs, r2⟩ := Dp.reads I (.tuple ds) y u he ry
  exact SeqAt.notIn_tuple_reads r2 r1 (SeqAt.canLay_of_shaped se) (SeqAt.canLay_of_shaped sd) (room_in_shaped sd hu) ⟨.bl _, H, I, rfl, q⟩
/-- list(x) of a list, a tuple or a dict by its keys -/
def rListA (K : PySem.W.Frag) : List V → Hp → VK → Prop := fun xs H Q => ∃ (a : Addr) (ys : List V), xs = [.ref a] ∧ ((SqL K H a ys ∨ SqT K H a ys) ∨ ∃ kvs : List (Key × V), Rd H a (.dK kvs) ∧ ys = kvs.map fun kv => kV kv.1) ∧ ∀ p, H p = none → Q (.ref p) (upd H p (.lst ys))
theorem call_listA (hcalm : X.calm = true) : CallR X (.type "list") (rListA X.K) := by
  intro pins s σ H xs us Q I r h
  obtain ⟨a, ys, rfl, h | ⟨kvs, hk, rfl⟩, q⟩ := h
  · exact call_list_of pins s σ H _ us Q I r ⟨a, ys, rfl, h, q⟩
  · exact call_listD hcalm pins s σ H _ us Q I r ⟨a, kvs, rfl, hk, q⟩
end
end InT
/-! rules for one of two kinds of things; bool + int -/
namespace Mx2
open PySem PySem.Spec PyProof.Rows L2
section
variable {X : Cx}
theorem op_or {f : Value → Value → Sem Value} {r1 r2 : R2} (h1 : OpR X f r1) (h2 : OpR X f r2) : OpR X f (fun x y H Q => r1 x y H Q ∨ r2 x y H Q) := by
  intro pins s σ H x y v u Q I rx ry h
  rcases h with h | h
  · exact h1 pins s σ H x y v u Q I rx ry h
  · exact h2 pins s σ H x y v u Q I rx ry h
theorem sl_or {r1 r2 : V → Option Int → Option Int → Hp → VK → Prop} (h1 : SlR X r1) (h2 : SlR X r2) : SlR X (fun x lo hi H Q => r1 x lo hi H Q ∨ r2 x lo hi H Q) := by
  intro pins s σ H x v vl vu lo hi sl Q I rx hs pl pu h
  rcases h with h | h
  · exact h1 pins s σ H x v vl vu lo hi sl Q I rx hs pl pu h
  · exact h2 pins s σ H x v vl vu lo hi sl Q I rx hs pl pu h
def bI (b : Bool) : Int := if b = true then 1 else 0
/-- a whole number or a bool, and a whole number -/
def rAddBI : R2 := fun x y H Q => ∃ i j : Int, (x = .int i ∨ ∃ b : Bool, x = .bl b ∧ i = bI b) ∧ y = .int j ∧ Q (.int (i + j)) H
theorem op_addBI : OpR X (binaryOp .Add) rAddBI := by
  intro pins s σ H x y v u Q I rx ry h
  obtain ⟨i, j, hx, rfl, q⟩ := h
  obtain ⟨t', rfl⟩ := ry
  rcases hx with rfl | ⟨b, rfl, rfl⟩
  · obtain ⟨t, rfl⟩ := rx
    exact add_int ⟨.int _, H, I.tok _, ⟨_, rfl⟩, q⟩
  · cases rx
    exact IntBool.add_bool_int ⟨.int _, H, I.tok _, ⟨_, rfl⟩, q⟩
/-- a tuple of any kind or a text: sums and slices -/
def rCatM (K : PySem.W.Frag) : R2 := fun x y H Q => Th.rCatS K x y H Q ∨ (fun x y (H : Hp) (Q : VK) => ∃ i j : Str, x = .str i ∧ y = .str j ∧ i.length + j.length ≤ sizeLine ∧ Q (.str (i ++ j)) H) x y H Q
theorem op_catM : OpR X (binaryOp .Add) (rCatM X.K) := op_or Th.op_catS op_add_str
def rSlM (K : PySem.W.Frag) : V → Option Int → Option Int → Hp → VK → Prop := fun x lo hi H Q => Th.rSlS K x lo hi H Q ∨ L2.rSlS x lo hi H Q
theorem sl_M : SlR X (rSlM X.K) := sl_or Th.sl_tupS sl_str
end
end Mx2
namespace Th
open PySem PySem.Spec PyProof.Rows L2
/-! the text -/
def topS (i : Nat) : Stmt := PySem.Challenge.pw_throughlines_k21_papers_faults.main.body.getD i (.Pass ⟨0, 0, 0, 0⟩)
abbrev FnP (K : PySem.W.Frag) (x : Str) (st : Stmt) (f : Addr) (fd : FuncData) : Prop := FunD K x x (defArgs st) (defBody st) (defScope st) [] [] f fd
abbrev s_is_whole : Stmt := topS 1
abbrev N_is_whole : List Str := ["thing"]
theorem sc_is_whole : FnScope N_is_whole ["thing"] (defScope s_is_whole) := ⟨rfl, rfl, rfl, by decide +kernel, rfl, by decide +kernel, by decide +kernel⟩
abbrev s_is_whole_between : Stmt := topS 2
abbrev N_is_whole_between : List Str := ["thing", "least", "most"]
theorem sc_is_whole_between : FnScope N_is_whole_between ["thing", "least", "most"] (defScope s_is_whole_between) := ⟨rfl, rfl, rfl, by decide +kernel, rfl, by decide +kernel, by decide +kernel⟩
abbrev s_is_tuple : Stmt := topS 3
abbrev N_is_tuple : List Str := ["thing", "fewest", "most"]
theorem sc_is_tuple : FnScope N_is_tuple ["thing", "fewest", "most"] (defScope s_is_tuple) := ⟨rfl, rfl, rfl, by decide +kernel, rfl, by decide +kernel, by decide +kernel⟩
abbrev s_lines_by_place : Stmt := topS 5
abbrev N_lines_by_place : List Str := ["stations", "junctions", "found", "name", "joined", "line"]
theorem sc_lines_by_place : FnScope N_lines_by_place ["stations", "junctions"] (defScope s_lines_by_place) := ⟨rfl, rfl, rfl, by decide +kernel, rfl, by decide +kernel, by decide +kernel⟩
abbrev s_lines_at : Stmt := topS 6
abbrev N_lines_at : List Str := ["net", "place", "lines", "stations", "junctions", "ties"]
theorem sc_lines_at : FnScope N_lines_at ["net", "place"] (defScope s_lines_at) := ⟨rfl, rfl, rfl, by decide +kernel, rfl, by decide +kernel, by decide +kernel⟩
abbrev s_is_number : Stmt := topS 17
abbrev N_is_number : List Str := ["house", "paper", "thing"]
theorem sc_is_number : FnScope N_is_number ["house", "paper", "thing"] (defScope s_is_number) := ⟨rfl, rfl, rfl, by decide +kernel, rfl, by decide +kernel, by decide +kernel⟩
abbrev s_is_edition : Stmt := topS 18
abbrev N_is_edition : List Str := ["house", "paper", "thing"]
theorem sc_is_edition : FnScope N_is_edition ["house", "paper", "thing"] (defScope s_is_edition) := ⟨rfl, rfl, rfl, by decide +kernel, rfl, by decide +kernel, by decide +kernel⟩
abbrev s_is_day : Stmt := topS 19
abbrev N_is_day : List Str := ["house", "paper", "thing"]
theorem sc_is_day : FnScope N_is_day ["house", "paper", "thing"] (defScope s_is_day) := ⟨rfl, rfl, rfl, by decide +kernel, rfl, by decide +kernel, by decide +kernel⟩
abbrev s_is_last_day : Stmt := topS 20
abbrev N_is_last_day : List Str := ["house", "paper", "thing"]
theorem sc_is_last_day : FnScope N_is_last_day ["house", "paper", "thing"] (defScope s_is_last_day) := ⟨rfl, rfl, rfl, by decide +kernel, rfl, by decide +kernel, by decide +kernel⟩
abbrev s_is_hour : Stmt := topS 21
abbrev N_is_hour : List Str := ["house", "paper", "thing"]
theorem sc_is_hour : FnScope N_is_hour ["house", "paper", "thing"] (defScope s_is_hour) := ⟨rfl, rfl, rfl, by decide +kernel, rfl, by decide +kernel, by decide +kernel⟩
abbrev s_is_sum : Stmt := topS 22
abbrev N_is_sum : List Str := ["house", "paper", "thing"]
theorem sc_is_sum : FnScope N_is_sum ["house", "paper", "thing"] (defScope s_is_sum) := ⟨rfl, rfl, rfl, by decide +kernel, rfl, by decide +kernel, by decide +kernel⟩
abbrev s_is_cartage : Stmt := topS 23
abbrev N_is_cartage : List Str := ["house", "paper", "thing", "pence"]
theorem sc_is_cartage : FnScope N_is_cartage ["house", "paper", "thing"] (defScope s_is_cartage) := ⟨rfl, rfl, rfl, by decide +kernel, rfl, by decide +kernel, by decide +kernel⟩
abbrev s_is_way_number : Stmt := topS 24
abbrev N_is_way_number : List Str := ["house", "paper", "thing", "net", "ways", "wagons"]
theorem sc_is_way_number : FnScope N_is_way_number ["house", "paper", "thing"] (defScope s_is_way_number) := ⟨rfl, rfl, rfl, by decide +kernel, rfl, by decide +kernel, by decide +kernel⟩
abbrev s_is_own_wagon : Stmt := topS 25
abbrev N_is_own_wagon : List Str := ["house", "paper", "thing", "net", "ways", "wagons", "number", "line"]
theorem sc_is_own_wagon : FnScope N_is_own_wagon ["house", "paper", "thing"] (defScope s_is_own_wagon) := ⟨rfl, rfl, rfl, by decide +kernel, rfl, by decide +kernel, by decide +kernel⟩
abbrev s_is_junction_name : Stmt := topS 26
abbrev N_is_junction_name : List Str := ["house", "paper", "thing", "net", "ways", "wagons", "name", "joined"]
theorem sc_is_junction_name : FnScope N_is_junction_name ["house", "paper", "thing"] (defScope s_is_junction_name) := ⟨rfl, rfl, rfl, by decide +kernel, rfl, by decide +kernel, by decide +kernel⟩
abbrev s_is_over : Stmt := topS 27
abbrev N_is_over : List Str := ["house", "paper", "thing", "net", "ways", "wagons"]
theorem sc_is_over : FnScope N_is_over ["house", "paper", "thing"] (defScope s_is_over) := ⟨rfl, rfl, rfl, by decide +kernel, rfl, by decide +kernel, by decide +kernel⟩
abbrev s_is_load : Stmt := topS 28
abbrev N_is_load : List Str := ["house", "paper", "thing"]
theorem sc_is_load : FnScope N_is_load ["house", "paper", "thing"] (defScope s_is_load) := ⟨rfl, rfl, rfl, by decide +kernel, rfl, by decide +kernel, by decide +kernel⟩
abbrev s_is_seal : Stmt := topS 29
abbrev N_is_seal : List Str := ["house", "paper", "thing"]
theorem sc_is_seal : FnScope N_is_seal ["house", "paper", "thing"] (defScope s_is_seal) := ⟨rfl, rfl, rfl, by decide +kernel, rfl, by decide +kernel, by decide +kernel⟩
abbrev s_is_line : Stmt := topS 30
abbrev N_is_line : List Str := ["house", "paper", "thing", "net", "ways", "wagons"]
theorem sc_is_line : FnScope N_is_line ["house", "paper", "thing"] (defScope s_is_line) := ⟨rfl, rfl, rfl, by decide +kernel, rfl, by decide +kernel, by decide +kernel⟩
abbrev s_is_ruling : Stmt := topS 31
abbrev N_is_ruling : List Str := ["house", "paper", "thing"]
theorem sc_is_ruling : FnScope N_is_ruling ["house", "paper", "thing"] (defScope s_is_ruling) := ⟨rfl, rfl, rfl, by decide +kernel, rfl, by decide +kernel, by decide +kernel⟩
abbrev s_fault : Stmt := topS 33
abbrev N_fault : List Str := ["net", "ways", "wagons", "thing", "words", "house", "at", "word", "check"]
theorem sc_fault : FnScope N_fault ["net", "ways", "wagons", "thing"] (defScope s_fault) := ⟨rfl, rfl, rfl, by decide +kernel, rfl, by decide +kernel, by decide +kernel⟩
abbrev s_l_bag : Stmt := topS 35
abbrev N_l_bag : List Str := ["_law_script", "_law_at", "_law_cell", "_law_great", "_law_primes"]
theorem sc_l_bag : FnScope N_l_bag ["_law_script", "_law_at"] (defScope s_l_bag) := ⟨rfl, rfl, rfl, by decide +kernel, rfl, by decide +kernel, by decide +kernel⟩
abbrev s_l_take : Stmt := topS 36
abbrev N_l_take : List Str := ["_law_bag_here", "_law_many", "_law_digit"]
theorem sc_l_take : FnScope N_l_take ["_law_bag_here", "_law_many"] (defScope s_l_take) := ⟨rfl, rfl, rfl, by decide +kernel, rfl, by decide +kernel, by decide +kernel⟩
abbrev s_l_names : Stmt := topS 37
abbrev N_l_names : List Str := ["_law_bag_here", "_law_many", "_law_head", "_law_tail", "_law_letters", "_law_stem", "_law_at", "_law_first", "_law_front", "_law_back", "_law_k"]
theorem sc_l_names : FnScope N_l_names ["_law_bag_here", "_law_many", "_law_head", "_law_tail"] (defScope s_l_names) := ⟨rfl, rfl, rfl, by decide +kernel, rfl, by decide +kernel, by decide +kernel⟩
abbrev s_l_net : Stmt := topS 38
abbrev N_l_net : List Str := ["_law_bag_here", "_law_many", "_law_signs", "_law_side", "_law_lines", "_law_some", "_law_stations", "_law_second", "_law_names_here", "_law_junctions", "_law_ties", "_law_k", "_law_sign", "_law_name", "_law_line_here", "_law_one"]
theorem sc_l_net : FnScope N_l_net ["_law_bag_here"] (defScope s_l_net) := ⟨rfl, rfl, rfl, by decide +kernel, rfl, by decide +kernel, by decide +kernel⟩
abbrev s_l_way : Stmt := topS 39
abbrev N_l_way : List Str := ["_law_bag_here", "_law_net_here", "_law_many", "_law_one", "_law_other", "_law_stations", "_law_second", "_law_k", "_law_low", "_law_high", "_law_found"]
theorem sc_l_way : FnScope N_l_way ["_law_bag_here", "_law_net_here"] (defScope s_l_way) := ⟨rfl, rfl, rfl, by decide +kernel, rfl, by decide +kernel, by decide +kernel⟩
abbrev s_l_house : Stmt := topS 40
abbrev N_l_house : List Str := ["_law_bag_here", "_law_net_here", "_law_ways", "_law_number_here", "_law_wagons", "_law_k", "_law_great", "_law_leasts", "_law_rules", "_law_line_here"]
theorem sc_l_house : FnScope N_l_house ["_law_bag_here"] (defScope s_l_house) := ⟨rfl, rfl, rfl, by decide +kernel, rfl, by decide +kernel, by decide +kernel⟩
abbrev s_l_day : Stmt := topS 41
abbrev N_l_day : List Str := ["_law_bag_here"]
theorem sc_l_day : FnScope N_l_day ["_law_bag_here"] (defScope s_l_day) := ⟨rfl, rfl, rfl, by decide +kernel, rfl, by decide +kernel, by decide +kernel⟩
abbrev s_l_sum : Stmt := topS 42
abbrev N_l_sum : List Str := ["_law_bag_here"]
theorem sc_l_sum : FnScope N_l_sum ["_law_bag_here"] (defScope s_l_sum) := ⟨rfl, rfl, rfl, by decide +kernel, rfl, by decide +kernel, by decide +kernel⟩
abbrev s_l_number : Stmt := topS 43
abbrev N_l_number : List Str := ["_law_bag_here"]
theorem sc_l_number : FnScope N_l_number ["_law_bag_here"] (defScope s_l_number) := ⟨rfl, rfl, rfl, by decide +kernel, rfl, by decide +kernel, by decide +kernel⟩
abbrev s_l_line : Stmt := topS 44
abbrev N_l_line : List Str := ["_law_bag_here", "_law_net_here"]
theorem sc_l_line : FnScope N_l_line ["_law_bag_here", "_law_net_here"] (defScope s_l_line) := ⟨rfl, rfl, rfl, by decide +kernel, rfl, by decide +kernel, by decide +kernel⟩
abbrev s_l_return : Stmt := topS 45
abbrev N_l_return : List Str := ["_law_bag_here", "_law_net_here", "_law_wagons", "_law_head", "_law_name", "_law_lines", "_law_wagon", "_law_over", "_law_seal"]
theorem sc_l_return : FnScope N_l_return ["_law_bag_here", "_law_net_here", "_law_wagons", "_law_head"] (defScope s_l_return) := ⟨rfl, rfl, rfl, by decide +kernel, rfl, by decide +kernel, by decide +kernel⟩
abbrev s_l_paper : Stmt := topS 46
abbrev N_l_paper : List Str := ["_law_bag_here", "_law_house_here", "_law_net_here", "_law_ways", "_law_wagons", "_law_rules", "_law_kind", "_law_number_here", "_law_edition", "_law_head", "_law_cartage", "_law_sums", "_law_days", "_law_how"]
theorem sc_l_paper : FnScope N_l_paper ["_law_bag_here", "_law_house_here"] (defScope s_l_paper) := ⟨rfl, rfl, rfl, by decide +kernel, rfl, by decide +kernel, by decide +kernel⟩
abbrev s_l_whole : Stmt := topS 47
abbrev N_l_whole : List Str := ["_law_thing", "_law_low", "_law_high"]
theorem sc_l_whole : FnScope N_l_whole ["_law_thing", "_law_low", "_law_high"] (defScope s_l_whole) := ⟨rfl, rfl, rfl, by decide +kernel, rfl, by decide +kernel, by decide +kernel⟩
abbrev s_l_in : Stmt := topS 48
abbrev N_l_in : List Str := ["_law_thing", "_law_some"]
theorem sc_l_in : FnScope N_l_in ["_law_thing", "_law_some"] (defScope s_l_in) := ⟨rfl, rfl, rfl, by decide +kernel, rfl, by decide +kernel, by decide +kernel⟩
abbrev s_l_waybill_fault : Stmt := topS 49
abbrev N_l_waybill_fault : List Str := ["_law_house_here", "_law_thing", "_law_looks", "_law_good", "_law_one", "_law_number_here", "_law_line_here"]
theorem sc_l_waybill_fault : FnScope N_l_waybill_fault ["_law_house_here", "_law_thing"] (defScope s_l_waybill_fault) := ⟨rfl, rfl, rfl, by decide +kernel, rfl, by decide +kernel, by decide +kernel⟩
abbrev s_l_return_fault : Stmt := topS 50
abbrev N_l_return_fault : List Str := ["_law_net_here", "_law_thing", "_law_names_here", "_law_looks"]
theorem sc_l_return_fault : FnScope N_l_return_fault ["_law_net_here", "_law_thing"] (defScope s_l_return_fault) := ⟨rfl, rfl, rfl, by decide +kernel, rfl, by decide +kernel, by decide +kernel⟩
abbrev s_l_toll_fault : Stmt := topS 51
abbrev N_l_toll_fault : List Str := ["_law_net_here", "_law_thing", "_law_looks"]
theorem sc_l_toll_fault : FnScope N_l_toll_fault ["_law_net_here", "_law_thing"] (defScope s_l_toll_fault) := ⟨rfl, rfl, rfl, by decide +kernel, rfl, by decide +kernel, by decide +kernel⟩
abbrev s_l_last_good : Stmt := topS 52
abbrev N_l_last_good : List Str := ["_law_net_here", "_law_thing", "_law_last"]
theorem sc_l_last_good : FnScope N_l_last_good ["_law_net_here", "_law_thing"] (defScope s_l_last_good) := ⟨rfl, rfl, rfl, by decide +kernel, rfl, by decide +kernel, by decide +kernel⟩
abbrev s_l_fault : Stmt := topS 53
abbrev N_l_fault : List Str := ["_law_house_here", "_law_thing", "_law_counts"]
theorem sc_l_fault : FnScope N_l_fault ["_law_house_here", "_law_thing"] (defScope s_l_fault) := ⟨rfl, rfl, rfl, by decide +kernel, rfl, by decide +kernel, by decide +kernel⟩
abbrev s_l_any : Stmt := topS 54
abbrev N_l_any : List Str := ["_law_bag_here", "_law_house_here", "_law_net_here", "_law_some"]
theorem sc_l_any : FnScope N_l_any ["_law_bag_here", "_law_house_here"] (defScope s_l_any) := ⟨rfl, rfl, rfl, by decide +kernel, rfl, by decide +kernel, by decide +kernel⟩
abbrev s_l_stepped : Stmt := topS 55
abbrev N_l_stepped : List Str := ["_law_part", "_law_step"]
theorem sc_l_stepped : FnScope N_l_stepped ["_law_part", "_law_step"] (defScope s_l_stepped) := ⟨rfl, rfl, rfl, by decide +kernel, rfl, by decide +kernel, by decide +kernel⟩
abbrev s_l_bent : Stmt := topS 56
abbrev N_l_bent : List Str := ["_law_bag_here", "_law_house_here", "_law_paper_here", "_law_way_here", "_law_at", "_law_thing", "_law_step", "_law_other"]
theorem sc_l_bent : FnScope N_l_bent ["_law_bag_here", "_law_house_here", "_law_paper_here"] (defScope s_l_bent) := ⟨rfl, rfl, rfl, by decide +kernel, rfl, by decide +kernel, by decide +kernel⟩
abbrev s_law : Stmt := topS 57
abbrev N_law : List Str := ["_law_script", "_law_house_here", "_law_net_here", "_law_ways", "_law_wagons", "_law_rules", "_law_k", "_law_bag_here", "_law_spoils", "_law_last", "_law_thing", "_law_turn", "_law_due", "_law_handed", "_law_told"]
theorem sc_law : FnScope N_law ["_law_script"] (defScope s_law) := ⟨rfl, rfl, rfl, by decide +kernel, rfl, by decide +kernel, by decide +kernel⟩
def KINDS_L : List Str := ["waybill", "return", "toll", "claim", "answer", "ruling", "withdrawal"]
structure Defs (K : PySem.W.Frag) (mg : Str → Option Value) where
  a_is_whole : Addr
  d_is_whole : FuncData
  F_is_whole : FnP K "is_whole" s_is_whole a_is_whole d_is_whole
  g_is_whole : mg "is_whole" = some (.ref a_is_whole)
  b_is_whole : Binds K d_is_whole ["thing"] []
  a_is_whole_between : Addr
  d_is_whole_between : FuncData
  F_is_whole_between : FnP K "is_whole_between" s_is_whole_between a_is_whole_between d_is_whole_between
  g_is_whole_between : mg "is_whole_between" = some (.ref a_is_whole_between)
  b_is_whole_between : Binds K d_is_whole_between ["thing", "least", "most"] []
  a_is_tuple : Addr
  d_is_tuple : FuncData
  F_is_tuple : FnP K "is_tuple" s_is_tuple a_is_tuple d_is_tuple
  g_is_tuple : mg "is_tuple" = some (.ref a_is_tuple)
  b_is_tuple : Binds K d_is_tuple ["thing", "fewest", "most"] []
  a_lines_by_place : Addr
  d_lines_by_place : FuncData
  F_lines_by_place : FnP K "lines_by_place" s_lines_by_place a_lines_by_place d_lines_by_place
  g_lines_by_place : mg "lines_by_place" = some (.ref a_lines_by_place)
  b_lines_by_place : Binds K d_lines_by_place ["stations", "junctions"] []
  a_lines_at : Addr
  d_lines_at : FuncData
  F_lines_at : FnP K "lines_at" s_lines_at a_lines_at d_lines_at
  g_lines_at : mg "lines_at" = some (.ref a_lines_at)
  b_lines_at : Binds K d_lines_at ["net", "place"] []
  a_is_number : Addr
  d_is_number : FuncData
  F_is_number : FnP K "is_number" s_is_number a_is_number d_is_number
  g_is_number : mg "is_number" = some (.ref a_is_number)
  b_is_number : Binds K d_is_number ["house", "paper", "thing"] []
  a_is_edition : Addr
  d_is_edition : FuncData
  F_is_edition : FnP K "is_edition" s_is_edition a_is_edition d_is_edition
  g_is_edition : mg "is_edition" = some (.ref a_is_edition)
  b_is_edition : Binds K d_is_edition ["house", "paper", "thing"] []
  a_is_day : Addr
  d_is_day : FuncData
  F_is_day : FnP K "is_day" s_is_day a_is_day d_is_day
  g_is_day : mg "is_day" = some (.ref a_is_day)
  b_is_day : Binds K d_is_day ["house", "paper", "thing"] []
  a_is_last_day : Addr
  d_is_last_day : FuncData
  F_is_last_day : FnP K "is_last_day" s_is_last_day a_is_last_day d_is_last_day
  g_is_last_day : mg "is_last_day" = some (.ref a_is_last_day)
  b_is_last_day : Binds K d_is_last_day ["house", "paper", "thing"] []
  a_is_hour : Addr
  d_is_hour : FuncData
  F_is_hour : FnP K "is_hour" s_is_hour a_is_hour d_is_hour
  g_is_hour : mg "is_hour" = some (.ref a_is_hour)
  b_is_hour : Binds K d_is_hour ["house", "paper", "thing"] []
  a_is_sum : Addr
  d_is_sum : FuncData
  F_is_sum : FnP K "is_sum" s_is_sum a_is_sum d_is_sum
  g_is_sum : mg "is_sum" = some (.ref a_is_sum)
  b_is_sum : Binds K d_is_sum ["house", "paper", "thing"] []
  a_is_cartage : Addr
  d_is_cartage : FuncData
  F_is_cartage : FnP K "is_cartage" s_is_cartage a_is_cartage d_is_cartage
  g_is_cartage : mg "is_cartage" = some (.ref a_is_cartage)
  b_is_cartage : Binds K d_is_cartage ["house", "paper", "thing"] []
  a_is_way_number : Addr
  d_is_way_number : FuncData
  F_is_way_number : FnP K "is_way_number" s_is_way_number a_is_way_number d_is_way_number
  g_is_way_number : mg "is_way_number" = some (.ref a_is_way_number)
  b_is_way_number : Binds K d_is_way_number ["house", "paper", "thing"] []
  a_is_own_wagon : Addr
  d_is_own_wagon : FuncData
  F_is_own_wagon : FnP K "is_own_wagon" s_is_own_wagon a_is_own_wagon d_is_own_wagon
  g_is_own_wagon : mg "is_own_wagon" = some (.ref a_is_own_wagon)
  b_is_own_wagon : Binds K d_is_own_wagon ["house", "paper", "thing"] []
  a_is_junction_name : Addr
  d_is_junction_name : FuncData
  F_is_junction_name : FnP K "is_junction_name" s_is_junction_name a_is_junction_name d_is_junction_name
  g_is_junction_name : mg "is_junction_name" = some (.ref a_is_junction_name)
  b_is_junction_name : Binds K d_is_junction_name ["house", "paper", "thing"] []
  a_is_over : Addr
  d_is_over : FuncData
  F_is_over : FnP K "is_over" s_is_over a_is_over d_is_over
  g_is_over : mg "is_over" = some (.ref a_is_over)
  b_is_over : Binds K d_is_over ["house", "paper", "thing"] []
  a_is_load : Addr
  d_is_load : FuncData
  F_is_load : FnP K "is_load" s_is_load a_is_load d_is_load
  g_is_load : mg "is_load" = some (.ref a_is_load)
  b_is_load : Binds K d_is_load ["house", "paper", "thing"] []
  a_is_seal : Addr
  d_is_seal : FuncData
  F_is_seal : FnP K "is_seal" s_is_seal a_is_seal d_is_seal
  g_is_seal : mg "is_seal" = some (.ref a_is_seal)
  b_is_seal : Binds K d_is_seal ["house", "paper", "thing"] []
  a_is_line : Addr
  d_is_line : FuncData
  F_is_line : FnP K "is_line" s_is_line a_is_line d_is_line
  g_is_line : mg "is_line" = some (.ref a_is_line)
  b_is_line : Binds K d_is_line ["house", "paper", "thing"] []
  a_is_ruling : Addr
  d_is_ruling : FuncData
  F_is_ruling : FnP K "is_ruling" s_is_ruling a_is_ruling d_is_ruling
  g_is_ruling : mg "is_ruling" = some (.ref a_is_ruling)
  b_is_ruling : Binds K d_is_ruling ["house", "paper", "thing"] []
  a_fault : Addr
  d_fault : FuncData
  F_fault : FnP K "fault" s_fault a_fault d_fault
  g_fault : mg "fault" = some (.ref a_fault)
  b_fault : Binds K d_fault ["net", "ways", "wagons", "thing"] []
  a_l_bag : Addr
  d_l_bag : FuncData
  F_l_bag : FnP K "_law_bag" s_l_bag a_l_bag d_l_bag
  g_l_bag : mg "_law_bag" = some (.ref a_l_bag)
  b_l_bag : Binds K d_l_bag ["_law_script", "_law_at"] []
  a_l_take : Addr
  d_l_take : FuncData
  F_l_take : FnP K "_law_take" s_l_take a_l_take d_l_take
  g_l_take : mg "_law_take" = some (.ref a_l_take)
  b_l_take : Binds K d_l_take ["_law_bag_here", "_law_many"] []
  a_l_names : Addr
  d_l_names : FuncData
  F_l_names : FnP K "_law_names" s_l_names a_l_names d_l_names
  g_l_names : mg "_law_names" = some (.ref a_l_names)
  b_l_names : Binds K d_l_names ["_law_bag_here", "_law_many", "_law_head", "_law_tail"] []
  a_l_net : Addr
  d_l_net : FuncData
  F_l_net : FnP K "_law_net" s_l_net a_l_net d_l_net
  g_l_net : mg "_law_net" = some (.ref a_l_net)
  b_l_net : Binds K d_l_net ["_law_bag_here"] []
  a_l_way : Addr
  d_l_way : FuncData
  F_l_way : FnP K "_law_way" s_l_way a_l_way d_l_way
  g_l_way : mg "_law_way" = some (.ref a_l_way)
  b_l_way : Binds K d_l_way ["_law_bag_here", "_law_net_here"] []
  a_l_house : Addr
  d_l_house : FuncData
  F_l_house : FnP K "_law_house" s_l_house a_l_house d_l_house
  g_l_house : mg "_law_house" = some (.ref a_l_house)
  b_l_house : Binds K d_l_house ["_law_bag_here"] []
  a_l_day : Addr
  d_l_day : FuncData
  F_l_day : FnP K "_law_day" s_l_day a_l_day d_l_day
  g_l_day : mg "_law_day" = some (.ref a_l_day)
  b_l_day : Binds K d_l_day ["_law_bag_here"] []
  a_l_sum : Addr
  d_l_sum : FuncData
  F_l_sum : FnP K "_law_sum" s_l_sum a_l_sum d_l_sum
  g_l_sum : mg "_law_sum" = some (.ref a_l_sum)
  b_l_sum : Binds K d_l_sum ["_law_bag_here"] []
  a_l_number : Addr
  d_l_number : FuncData
  F_l_number : FnP K "_law_number" s_l_number a_l_number d_l_number
  g_l_number : mg "_law_number" = some (.ref a_l_number)
  b_l_number : Binds K d_l_number ["_law_bag_here"] []
  a_l_line : Addr
  d_l_line : FuncData
  F_l_line : FnP K "_law_line" s_l_line a_l_line d_l_line
  g_l_line : mg "_law_line" = some (.ref a_l_line)
  b_l_line : Binds K d_l_line ["_law_bag_here", "_law_net_here"] []
  a_l_return : Addr
  d_l_return : FuncData
  F_l_return : FnP K "_law_return" s_l_return a_l_return d_l_return
  g_l_return : mg "_law_return" = some (.ref a_l_return)
  b_l_return : Binds K d_l_return ["_law_bag_here", "_law_net_here", "_law_wagons", "_law_head"] []
  a_l_paper : Addr
  d_l_paper : FuncData
  F_l_paper : FnP K "_law_paper" s_l_paper a_l_paper d_l_paper
  g_l_paper : mg "_law_paper" = some (.ref a_l_paper)
  b_l_paper : Binds K d_l_paper ["_law_bag_here", "_law_house_here"] []
  a_l_whole : Addr
  d_l_whole : FuncData
  F_l_whole : FnP K "_law_whole" s_l_whole a_l_whole d_l_whole
  g_l_whole : mg "_law_whole" = some (.ref a_l_whole)
  b_l_whole : Binds K d_l_whole ["_law_thing", "_law_low", "_law_high"] []
  a_l_in : Addr
  d_l_in : FuncData
  F_l_in : FnP K "_law_in" s_l_in a_l_in d_l_in
  g_l_in : mg "_law_in" = some (.ref a_l_in)
  b_l_in : Binds K d_l_in ["_law_thing", "_law_some"] []
  a_l_waybill_fault : Addr
  d_l_waybill_fault : FuncData
  F_l_waybill_fault : FnP K "_law_waybill_fault" s_l_waybill_fault a_l_waybill_fault d_l_waybill_fault
  g_l_waybill_fault : mg "_law_waybill_fault" = some (.ref a_l_waybill_fault)
  b_l_waybill_fault : Binds K d_l_waybill_fault ["_law_house_here", "_law_thing"] []
  a_l_return_fault : Addr
  d_l_return_fault : FuncData
  F_l_return_fault : FnP K "_law_return_fault" s_l_return_fault a_l_return_fault d_l_return_fault
  g_l_return_fault : mg "_law_return_fault" = some (.ref a_l_return_fault)
  b_l_return_fault : Binds K d_l_return_fault ["_law_net_here", "_law_thing"] []
  a_l_toll_fault : Addr
  d_l_toll_fault : FuncData
  F_l_toll_fault : FnP K "_law_toll_fault" s_l_toll_fault a_l_toll_fault d_l_toll_fault
  g_l_toll_fault : mg "_law_toll_fault" = some (.ref a_l_toll_fault)
  b_l_toll_fault : Binds K d_l_toll_fault ["_law_net_here", "_law_thing"] []
  a_l_last_good : Addr
  d_l_last_good : FuncData
  F_l_last_good : FnP K "_law_last_good" s_l_last_good a_l_last_good d_l_last_good
  g_l_last_good : mg "_law_last_good" = some (.ref a_l_last_good)
  b_l_last_good : Binds K d_l_last_good ["_law_net_here", "_law_thing"] []
  a_l_fault : Addr
  d_l_fault : FuncData
  F_l_fault : FnP K "_law_fault" s_l_fault a_l_fault d_l_fault
  g_l_fault : mg "_law_fault" = some (.ref a_l_fault)
  b_l_fault : Binds K d_l_fault ["_law_house_here", "_law_thing"] []
  a_l_any : Addr
  d_l_any : FuncData
  F_l_any : FnP K "_law_any" s_l_any a_l_any d_l_any
  g_l_any : mg "_law_any" = some (.ref a_l_any)
  b_l_any : Binds K d_l_any ["_law_bag_here", "_law_house_here"] []
  a_l_stepped : Addr
  d_l_stepped : FuncData
  F_l_stepped : FnP K "_law_stepped" s_l_stepped a_l_stepped d_l_stepped
  g_l_stepped : mg "_law_stepped" = some (.ref a_l_stepped)
  b_l_stepped : Binds K d_l_stepped ["_law_part", "_law_step"] []
  a_l_bent : Addr
  d_l_bent : FuncData
  F_l_bent : FnP K "_law_bent" s_l_bent a_l_bent d_l_bent
  g_l_bent : mg "_law_bent" = some (.ref a_l_bent)
  b_l_bent : Binds K d_l_bent ["_law_bag_here", "_law_house_here", "_law_paper_here"] []
  t_MOST_PENCE : Tok
  c_MOST_PENCE : mg "MOST_PENCE" = some (.int 1000000000 t_MOST_PENCE)
  t_LAST_DAY : Tok
  c_LAST_DAY : mg "LAST_DAY" = some (.int 420 t_LAST_DAY)
  t_LAST_HOUR : Tok
  c_LAST_HOUR : mg "LAST_HOUR" = some (.int 23 t_LAST_HOUR)
  t_LAST_NUMBER : Tok
  c_LAST_NUMBER : mg "LAST_NUMBER" = some (.int 9999 t_LAST_NUMBER)
  t_LAST_EDITION : Tok
  c_LAST_EDITION : mg "LAST_EDITION" = some (.int 99 t_LAST_EDITION)
  t_JUNCTION : Tok
  c_JUNCTION : mg "JUNCTION" = some (.int 3 t_JUNCTION)
  t_FIRST_DAY : Tok
  c_FIRST_DAY : mg "FIRST_DAY" = some (.int 4 t_FIRST_DAY)
  z_abs : mg "abs" = none
  z_all : mg "all" = none
  z_any : mg "any" = none
  z_bool : mg "bool" = none
  z_dict : mg "dict" = none
  z_enumerate : mg "enumerate" = none
  z_int : mg "int" = none
  z_isinstance : mg "isinstance" = none
  z_len : mg "len" = none
  z_list : mg "list" = none
  z_max : mg "max" = none
  z_min : mg "min" = none
  z_range : mg "range" = none
  z_set : mg "set" = none
  z_sorted : mg "sorted" = none
  z_str : mg "str" = none
  z_tuple : mg "tuple" = none
  z_zip : mg "zip" = none
  a_KINDS : Addr
  o_KINDS : Obj
  g_KINDS : mg "KINDS" = some (.ref a_KINDS)
  k_KINDS : List.lookup a_KINDS K = some o_KINDS
  u_KINDS : Lka.tupO o_KINDS KINDS_L
  a_THINGS : Addr
  g_THINGS : mg "THINGS" = some (.ref a_THINGS)
  a_THINGS_0 : Addr
  o_THINGS_0 : Obj
  k_THINGS_0 : List.lookup a_THINGS_0 K = some o_THINGS_0
  u_THINGS_0 : Lka.tupO o_THINGS_0 ["number", "edition", "day", "way", "sum", "sum", "cartage", "own wagon"]
  a_THINGS_1 : Addr
  o_THINGS_1 : Obj
  k_THINGS_1 : List.lookup a_THINGS_1 K = some o_THINGS_1
  u_THINGS_1 : Lka.tupO o_THINGS_1 ["number", "edition", "junction", "day", "hour", "number", "over", "load", "seal"]
  a_THINGS_2 : Addr
  o_THINGS_2 : Obj
  k_THINGS_2 : List.lookup a_THINGS_2 K = some o_THINGS_2
  u_THINGS_2 : Lka.tupO o_THINGS_2 ["number", "edition", "line", "day", "last day", "sum"]
  a_THINGS_3 : Addr
  o_THINGS_3 : Obj
  k_THINGS_3 : List.lookup a_THINGS_3 K = some o_THINGS_3
  u_THINGS_3 : Lka.tupO o_THINGS_3 ["number", "edition", "number", "sum"]
  a_THINGS_4 : Addr
  o_THINGS_4 : Obj
  k_THINGS_4 : List.lookup a_THINGS_4 K = some o_THINGS_4
  u_THINGS_4 : Lka.tupO o_THINGS_4 ["number", "edition", "number", "line"]
  a_THINGS_5 : Addr
  o_THINGS_5 : Obj
  k_THINGS_5 : List.lookup a_THINGS_5 K = some o_THINGS_5
  u_THINGS_5 : Lka.tupO o_THINGS_5 ["number", "edition", "number", "ruling"]
  a_THINGS_6 : Addr
  o_THINGS_6 : Obj
  k_THINGS_6 : List.lookup a_THINGS_6 K = some o_THINGS_6
  u_THINGS_6 : Lka.tupO o_THINGS_6 ["number", "edition", "number"]
  a_CHECKS : Addr
  g_CHECKS : mg "CHECKS" = some (.ref a_CHECKS)
  cnd_CHECKS : [a_is_number, a_is_edition, a_is_day, a_is_last_day, a_is_hour, a_is_sum, a_is_cartage, a_is_way_number, a_is_own_wagon, a_is_junction_name, a_is_over, a_is_load, a_is_seal, a_is_line, a_is_ruling].Nodup
  kp_is_number : PySem.W.keepIn K (.ref a_is_number) = true
  kp_is_edition : PySem.W.keepIn K (.ref a_is_edition) = true
  kp_is_day : PySem.W.keepIn K (.ref a_is_day) = true
  kp_is_last_day : PySem.W.keepIn K (.ref a_is_last_day) = true
  kp_is_hour : PySem.W.keepIn K (.ref a_is_hour) = true
  kp_is_sum : PySem.W.keepIn K (.ref a_is_sum) = true
  kp_is_cartage : PySem.W.keepIn K (.ref a_is_cartage) = true
  kp_is_way_number : PySem.W.keepIn K (.ref a_is_way_number) = true
  kp_is_own_wagon : PySem.W.keepIn K (.ref a_is_own_wagon) = true
  kp_is_junction_name : PySem.W.keepIn K (.ref a_is_junction_name) = true
  kp_is_over : PySem.W.keepIn K (.ref a_is_over) = true
  kp_is_load : PySem.W.keepIn K (.ref a_is_load) = true
  kp_is_seal : PySem.W.keepIn K (.ref a_is_seal) = true
  kp_is_line : PySem.W.keepIn K (.ref a_is_line) = true
  kp_is_ruling : PySem.W.keepIn K (.ref a_is_ruling) = true
structure DicT (w : World) {K : PySem.W.Frag} {mg : Str → Option Value} (T : Defs K mg) : Prop where
  d_THINGS_0 : KDct K w T.a_THINGS "waybill" (.ref T.a_THINGS_0)
  d_THINGS_1 : KDct K w T.a_THINGS "return" (.ref T.a_THINGS_1)
  d_THINGS_2 : KDct K w T.a_THINGS "toll" (.ref T.a_THINGS_2)
  d_THINGS_3 : KDct K w T.a_THINGS "claim" (.ref T.a_THINGS_3)
  d_THINGS_4 : KDct K w T.a_THINGS "answer" (.ref T.a_THINGS_4)
  d_THINGS_5 : KDct K w T.a_THINGS "ruling" (.ref T.a_THINGS_5)
  d_THINGS_6 : KDct K w T.a_THINGS "withdrawal" (.ref T.a_THINGS_6)
  d_CHECKS_0 : KDct K w T.a_CHECKS "number" (.ref T.a_is_number)
  d_CHECKS_1 : KDct K w T.a_CHECKS "edition" (.ref T.a_is_edition)
  d_CHECKS_2 : KDct K w T.a_CHECKS "day" (.ref T.a_is_day)
  d_CHECKS_3 : KDct K w T.a_CHECKS "last day" (.ref T.a_is_last_day)
  d_CHECKS_4 : KDct K w T.a_CHECKS "hour" (.ref T.a_is_hour)
  d_CHECKS_5 : KDct K w T.a_CHECKS "sum" (.ref T.a_is_sum)
  d_CHECKS_6 : KDct K w T.a_CHECKS "cartage" (.ref T.a_is_cartage)
  d_CHECKS_7 : KDct K w T.a_CHECKS "way" (.ref T.a_is_way_number)
  d_CHECKS_8 : KDct K w T.a_CHECKS "own wagon" (.ref T.a_is_own_wagon)
  d_CHECKS_9 : KDct K w T.a_CHECKS "junction" (.ref T.a_is_junction_name)
  d_CHECKS_10 : KDct K w T.a_CHECKS "over" (.ref T.a_is_over)
  d_CHECKS_11 : KDct K w T.a_CHECKS "load" (.ref T.a_is_load)
  d_CHECKS_12 : KDct K w T.a_CHECKS "seal" (.ref T.a_is_seal)
  d_CHECKS_13 : KDct K w T.a_CHECKS "line" (.ref T.a_is_line)
  d_CHECKS_14 : KDct K w T.a_CHECKS "ruling" (.ref T.a_is_ruling)
end Th
namespace Th
open PySem PySem.Spec PyProof.Rows L2
section
variable {P : Program} {w : World} {K : PySem.W.Frag} {mg : Str → Option Value} {base : Heap} {k : Nat}
set_option maxHeartbeats 8000000 in
theorem ok_l_bag (T : Defs K mg) : FnOk P w K mg base CX0 (k + 1) T.a_l_bag T.d_l_bag ["_law_script", "_law_at"] (sp_bag K) := by
  refine T.F_l_bag.ok sc_l_bag (fun vs H Q E h => ?_) (fun cdv A outer s H vs Q E hr h => ?_)
  · obtain ⟨a, ns, i, rfl, _⟩ := h
    rfl
  · obtain ⟨a, ns, i, rfl, hS, hi, q⟩ := h
    refine ⟨_, PSs.nox
(pss_cons (ps_set (i := 2) sc_l_bag.nd rfl (.inl rfl) (pe_int))
    (Evl.pss_cut (ps_if (pt_cmpR op_gt (pe_callB (r := rLenS K) call_lenS (by rfl) T.z_len (by decide +kernel) (pa_cons (pv 0) pa_nil)) (pe_int) (nomark _))
      (pss_one (ps_set (i := 2) sc_l_bag.nd rfl (.inl rfl) (pe_ix (r := rIxL K) ix_list (pv 0) (pe_op op_mod (pv 1) (pe_callB (r := rLenS K) call_lenS (by rfl) T.z_len (by decide +kernel) (pa_cons (pv 0) pa_nil))) (fun _ _ => rfl))))
      pss_nil)
    (pss_cons (ps_set (i := 3) sc_l_bag.nd rfl (.inl rfl) (pe_int))
    (Evl.pss_cut (ps_if (PW.pt (pw_and (pt_cmpR op_ge (pe_callB call_abs (by rfl) T.z_abs (by decide +kernel) (pa_cons (pv 2) pa_nil)) (pe_op op_pow (pe_int) (pe_int)) (nomark _)) (pw_and1 (pt_cmpR op_lt (pv 1) (pe_callB (r := rLenS K) call_lenS (by rfl) T.z_len (by decide +kernel) (pa_cons (pv 0) pa_nil)) (nomark _)))))
      (pss_one (ps_set (i := 3) sc_l_bag.nd rfl (.inl rfl) (pe_callB call_abs (by rfl) T.z_abs (by decide +kernel) (pa_cons (pv 2) pa_nil))))
      pss_nil)
    (pss_cons (ps_set (i := 4) sc_l_bag.nd rfl (.inl rfl) (pe_tup (pa_cons (pe_int) (pa_cons (pe_int) (pa_cons (pe_int) (pa_cons (pe_int) (pa_cons (pe_int) (pa_cons (pe_int) (pa_cons (pe_int) (pa_cons (pe_int) pa_nil))))))))))
    (pss_one (ps_ret (pe_lst (pa_cons (pv 3) (pa_cons (pe_op op_mod (pe_op op_pow (pe_op op_add (pe_op op_add (pe_op op_mod (pv 2) (pe_int)) (pe_op op_mul (pe_int) (pv 1))) (pe_int)) (pe_int)) (pe_ix (r := rIxT K) ix_tup (pv 4) (pe_op op_mod (pv 1) (pe_int)) (fun _ _ => rfl))) pa_nil))))))))))
      , ?_⟩
    obtain ⟨pr, hp, hp0, hp1⟩ := primes_at i
    have lenV : (ns.map V.int).length = ns.length := List.length_map _
    refine ⟨fun σ H1 => ∃ c : Int, σ = [some (.ref a), some (.int i), some (.int c), none, none] ∧ H1 = H, ?_, fun σ H1 mid => ?_⟩
    · refine ⟨.ref a, rfl, a, _, rfl, .inl hS, _, 0, rfl, rfl, _, rfl, ite2 (fun e => ?_) (fun e => ⟨0, rfl, rfl⟩)⟩
      have lp : 0 < ns.length := by
        have := of_decide_eq_true e
        rw [lenV] at this
        omega
      have hm : i % ns.length < ns.length := Nat.mod_lt _ lp
      have g1 : (ns.map V.int)[i % ns.length]? = some (.int ns[i % ns.length]) := by
        rw [List.getElem?_map, List.getElem?_eq_getElem hm]
        rfl
      refine ⟨.ref a, rfl, .int i, rfl, .ref a, rfl, a, _, rfl, .inl hS, (i : Int), _, rfl, rfl, by rw [lenV]; omega, a, _, _, .int ns[i % ns.length], rfl, rfl, hS, ?_, _, rfl, rfl⟩
      rw [lenV, ← Int.natCast_emod]
      exact atI_nat g1
    obtain ⟨c, rfl, rfl⟩ := mid
    refine ⟨fun σ H2 => ∃ g : Int, 0 ≤ g ∧ σ = [some (.ref a), some (.int i), some (.int c), some (.int g), none] ∧ H2 = H1, ?_, fun σ H2 mid => ?_⟩
    · refine ⟨.int c, rfl, _, rfl, 10, 18, rfl, rfl, ⟨by decide, by decide, by decide⟩, _, _, rfl, rfl, _, rfl, ite2 (fun e => ?_) (fun e => ⟨0, by decide, rfl, rfl⟩)⟩
      refine ⟨.int i, rfl, .ref a, rfl, a, _, rfl, .inl hS, _, _, rfl, rfl, _, rfl, ite2 (fun e => ?_) (fun e => ⟨0, by decide, rfl, rfl⟩)⟩
      refine ⟨.int c, rfl, _, rfl, _, ?_, rfl, rfl⟩
      split <;> omega
    obtain ⟨g, hg, rfl, rfl⟩ := mid
    refine ⟨by show 8 ≤ sizeLine; decide, fun l nl => ?_⟩
    refine ⟨_, rfl, .int c, rfl, c, 2147483647, rfl, rfl, pA, .int i, rfl, 104729, i, rfl, rfl, .inl ⟨by decide, by decide⟩, _, _, rfl, rfl, _, 7, rfl, rfl, _, 5, rfl, rfl, ⟨by decide, by decide, ?_⟩, .ref l, rfl, .int i, rfl, i, 8, rfl, rfl, p8, l, _, _, _, rfl, rfl, SqT.of upd_same, hp, _, pr, rfl, rfl, hp0, by show 2 ≤ sizeLine; decide, fun p np => ?_⟩
    · omega
    · have s1 := same_upd (o := .tup [V.int 2147483629, .int 2147483587, .int 2147483579, .int 2147483563, .int 2147483549, .int 2147483543, .int 2147483497, .int 2147483489]) nl
      exact q _ p (s1.trans (same_upd np)) (s1.free np) ⟨g, _, upd_same, hg, Int.emod_nonneg _ (by omega), Int.lt_trans (Int.emod_lt_of_pos _ hp0) hp1⟩
end
section
variable {P : Program} {w : World} {K : PySem.W.Frag} {mg : Str → Option Value} {base : Heap} {k : Nat}
theorem ok_l_take (T : Defs K mg) : FnOk P w K mg base CX0 (k + 1) T.a_l_take T.d_l_take ["_law_bag_here", "_law_many"] sp_take := by
  refine T.F_l_take.ok sc_l_take (fun vs H Q E h => ?_) (fun cdv A outer s H vs Q E hr h => ?_)
  · obtain ⟨p, m, rfl, _⟩ := h
    rfl
  · obtain ⟨p, m, rfl, ⟨g, r, hp, g0, r0, r1⟩, m0, m1, q⟩ := h
    refine ⟨_, PSs.nox
(pss_cons (ps_if (pt_cmpR op_gt (pe_ix (r := rIxL K) ix_list (pv 0) (pe_int) (fun _ _ => rfl)) (pe_int) (nomark _))
      (pss_cons (ps_set (i := 2) sc_l_take.nd rfl (.inl rfl) (pe_op op_mod (pe_ix (r := rIxL K) ix_list (pv 0) (pe_int) (fun _ _ => rfl)) (pv 1)))
      (pss_cons (ps_asg (pe_op op_fdiv (pe_ix (r := rIxL K) ix_list (pv 0) (pe_int) (fun _ _ => rfl)) (pv 1)) (pg_sub (pv 0) (pe_int) set_list))
      (pss_one (ps_ret (pv 2)))))
      pss_nil)
    (pss_cons (ps_asg (pe_op op_mod (pe_op op_add (pe_op op_mul (pe_ix (r := rIxL K) ix_list (pv 0) (pe_int) (fun _ _ => rfl)) (pe_int)) (pe_int)) (pe_int)) (pg_sub (pv 0) (pe_int) set_list))
    (pss_one (ps_ret (pe_op op_mod (pe_op op_mod (pe_op op_pow (pe_op op_fdiv (pe_ix (r := rIxL K) ix_list (pv 0) (pe_int) (fun _ _ => rfl)) (pe_int)) (pe_int)) (pe_int)) (pv 1))))))
      , ?_⟩
    refine ⟨.ref p, rfl, p, _, 0, .int g, rfl, rfl, SqL.of hp, atI_nat (j := 0) rfl, _, 0, rfl, rfl, _, rfl, ite2 (fun e => ?_) (fun e => ?_)⟩
    · refine ⟨.ref p, rfl, p, _, 0, .int g, rfl, rfl, SqL.of hp, atI_nat (j := 0) rfl, .int m, rfl, g, m, rfl, rfl, m0, ?_⟩
      refine ⟨.ref p, rfl, p, _, 0, .int g, rfl, rfl, SqL.of hp, atI_nat (j := 0) rfl, .int m, rfl, g, m, rfl, rfl, ⟨m0, m1⟩, .ref p, rfl, p, _, 0, 0, rfl, rfl, hp, rfl, ?_⟩
      refine ⟨_, rfl, q _ _ Keep.upd ⟨_, _, upd_same, ?_, r0, r1⟩ (Int.emod_nonneg _ (by omega)) (Int.emod_lt_of_pos _ m0)⟩
      exact Int.ediv_nonneg g0 (by omega)
    · refine ⟨.ref p, rfl, p, _, 1, .int r, rfl, rfl, SqL.of hp, atI_nat (j := 1) rfl, r, 48271, rfl, rfl, .inr ⟨by decide, by decide⟩, _, 11, rfl, rfl, _, 2147483647, rfl, rfl, pA, .ref p, rfl, p, _, 1, 1, rfl, rfl, hp, rfl, ?_⟩
      have hz0 : 0 ≤ (r * 48271 + 11) % 2147483647 := Int.emod_nonneg _ (by decide)
      have hz1 : (r * 48271 + 11) % 2147483647 < 2147483647 := Int.emod_lt_of_pos _ (by decide)
      refine ⟨.ref p, rfl, p, _, 1, _, rfl, rfl, SqL.of upd_same, atI_nat (j := 1) rfl, (r * 48271 + 11) % 2147483647, 8, rfl, rfl, ⟨by decide, by decide⟩, _, 3, rfl, rfl, ⟨by decide, by decide, ?_⟩, _, 2147483629, rfl, rfl, pB, .int m, rfl, _, m, rfl, rfl, m0, ?_⟩
      · omega
      · exact q _ _ Keep.upd ⟨_, _, upd_same, g0, hz0, by omega⟩ (Int.emod_nonneg _ (by omega)) (Int.emod_lt_of_pos _ m0)
end
end Th
namespace Th
open PySem PySem.Spec PyProof.Rows L2
/-! drawn names of one stem, each with a letter of its own -/
def hNm (f : Nm) (d : Nat) (b : Nm) (k : Nat) : Nm := f ++ [97 + (d + k) % 26] ++ b
def hNms (f : Nm) (d : Nat) (b : Nm) (n : Nat) : List Nm := (List.range n).map (hNm f d b)
theorem hNms_len (f : Nm) (d : Nat) (b : Nm) (n : Nat) : (hNms f d b n).length = n := by unfold hNms; rw [List.length_map, List.length_range]
theorem hNms_at {f : Nm} {d : Nat} {b : Nm} {n k : Nat} (h : k < n) : (hNms f d b n)[k]? = some (hNm f d b k) := by
  unfold hNms
  rw [List.getElem?_map, List.getElem?_range h]
  rfl
theorem hNm_inj {f : Nm} {d : Nat} {b : Nm} {i j : Nat} (hi : i < 26) (hj : j < 26) (h : hNm f d b i = hNm f d b j) : i = j := by
  unfold hNm at h
  have h := List.append_cancel_right h
  have h := List.append_cancel_left h
  have h := (List.cons.inj h).1
  omega
theorem hNms_nd {f : Nm} {d : Nat} {b : Nm} {n : Nat} (h : n ≤ 26) : (hNms f d b n).Nodup := by
  rw [List.nodup_iff_pairwise_ne, List.pairwise_iff_getElem]
  intro i j hi hj hij e
  rw [hNms_len] at hi hj
  have e1 := hNms_at (f := f) (d := d) (b := b) hi
  have e2 := hNms_at (f := f) (d := d) (b := b) hj
  rw [List.getElem?_eq_getElem (by rw [hNms_len]; exact hi)] at e1
  rw [List.getElem?_eq_getElem (by rw [hNms_len]; exact hj)] at e2
  rw [Option.some.inj e1, Option.some.inj e2] at e
  have := hNm_inj (by omega) (by omega) e
  omega
/-- the stem's parts: with the sign ahead, or behind -/
structure HN (hd tl f b : Nm) : Prop where
  hf : ∃ f', f = hd ++ f'
  hb : ∃ b', b = b' ++ tl
  len : f.length + b.length ≤ 5 + hd.length + tl.length
  lf : Lower f
  lb : Lower b
theorem HN.nm {hd tl f b : Nm} (h : HN hd tl f b) (l : hd.length + tl.length ≤ 2) (d k : Nat) : IsNm (hNm f d b k) := by
  have := h.len
  refine ⟨by unfold hNm; rw [List.length_append, List.length_append, List.length_singleton]; omega, by unfold hNm; rw [List.length_append, List.length_append]; simp; omega, fun c hc => ?_⟩
  unfold hNm at hc
  rcases List.mem_append.mp hc with z | z
  · rcases List.mem_append.mp z with z | z
    · exact h.lf c z
    · rw [List.mem_singleton.mp z]; omega
  · exact h.lb c z
theorem HN.nms {hd tl f b : Nm} (h : HN hd tl f b) (l : hd.length + tl.length ≤ 2) (d n : Nat) : ∀ z ∈ hNms f d b n, IsNm z := fun z hz => by
  obtain ⟨k, _, rfl⟩ := List.mem_map.mp hz
  exact h.nm l d k
section
variable {P : Program} {w : World} {K : PySem.W.Frag} {mg : Str → Option Value} {base : Heap} {k : Nat}
def sp_l_names : Sp := fun vs H Q _ => ∃ (p : Addr) (n : Nat) (hd tl : Nm), vs = [.ref p, .int n, nS hd, nS tl] ∧ Bag H p ∧ n ≤ 26 ∧ Lower hd ∧ Lower tl ∧ hd.length + tl.length ≤ 2 ∧ ∀ (H' : Hp) (l : Addr) (f : Nm) (d : Nat) (b : Nm), Keep p H H' → Bag H' p → H l = none → H' l = some (.lst ((hNms f d b n).map nS)) → HN hd tl f b → Q (.ref l) H'
set_option maxHeartbeats 8000000 in
theorem ok_l_names (T : Defs K mg) : FnOk P w K mg base CX0 (k + 2) T.a_l_names T.d_l_names ["_law_bag_here", "_law_many", "_law_head", "_law_tail"] sp_l_names := by
  have G_l_take : FnOk P w K mg base CX0 (k + 1) _ _ _ _ := ok_l_take T
  refine T.F_l_names.ok sc_l_names (fun vs H Q E h => ?_) (fun cdv A outer s H vs Q E hr h => ?_)
  · obtain ⟨p, n, hd, tl, rfl, _⟩ := h
    rfl
  · obtain ⟨p, n, hd, tl, rfl, b, hn, lhd, ltl, hl1, q⟩ := h
    refine ⟨_, PSs.nox
(pss_cons (ps_set (i := 4) sc_l_names.nd rfl (.inr rfl) (pe_str))
    (pss_cons (ps_set (i := 5) sc_l_names.nd rfl (.inl rfl) (pe_join (pe_str) (pe_lc (own := [("_law_k", 10)]) (g := gName 10) rfl sc_l_names.nd (pi_range1 (by rfl) T.z_range (pa_cons (pe_call G_l_take hr (by rfl) T.g_l_take T.F_l_take.kp T.b_l_take .nil pass0 (pa_cons (pv 0) (pa_cons (pe_int) pa_nil))) pa_nil)) (blkOk_by (N := N_l_names) (sc := defScope s_l_names) (by decide +kernel)) (fun _ _ _ _ _ => (pg_name (i := 10) sc_l_names.nd rfl (.inl rfl))) (fun _ _ _ _ _ => pts_nil) (fun _ _ _ _ _ => (pe_ix ix_str (pv 4) (pe_call G_l_take hr (by rfl) T.g_l_take T.F_l_take.kp T.b_l_take .nil pass0 (pa_cons (pv 0) (pa_cons (pe_int) pa_nil))) (fun _ _ => rfl))))))
    (pss_cons (ps_asg (pe_tup (pa_cons (pe_call G_l_take hr (by rfl) T.g_l_take T.F_l_take.kp T.b_l_take .nil pass0 (pa_cons (pv 0) (pa_cons (pe_op op_add (pe_callB call_len_str (by rfl) T.z_len (by decide +kernel) (pa_cons (pv 5) pa_nil)) (pe_int)) pa_nil))) (pa_cons (pe_call G_l_take hr (by rfl) T.g_l_take T.F_l_take.kp T.b_l_take .nil pass0 (pa_cons (pv 0) (pa_cons (pe_int) pa_nil))) pa_nil))) (pg_tup rfl (pgs_cons (pg_name (i := 6) sc_l_names.nd rfl (.inl rfl)) (pgs_cons (pg_name (i := 7) sc_l_names.nd rfl (.inr rfl)) pgs_nil))))
    (pss_cons (ps_asg (pe_tup (pa_cons (pe_op op_add_str (pv 2) (pe_slice sl_str (pv 5) po_none (po_some (pv 6)))) (pa_cons (pe_op op_add_str (pe_slice sl_str (pv 5) (po_some (pv 6)) po_none) (pv 3)) pa_nil))) (pg_tup rfl (pgs_cons (pg_name (i := 8) sc_l_names.nd rfl (.inr rfl)) (pgs_cons (pg_name (i := 9) sc_l_names.nd rfl (.inr rfl)) pgs_nil))))
    (pss_one (ps_ret (pe_lc (own := [("_law_k", 10)]) (g := gName 10) rfl sc_l_names.nd (pi_range1 (by rfl) T.z_range (pa_cons (pv 1) pa_nil)) (blkOk_by (N := N_l_names) (sc := defScope s_l_names) (by decide +kernel)) (fun _ _ _ _ _ => (pg_name (i := 10) sc_l_names.nd rfl (.inl rfl))) (fun _ _ _ _ _ => pts_nil) (fun _ _ _ _ _ => (pe_op op_add_str (pe_op op_add_str (pv 8) (pe_ix ix_str (pv 4) (pe_op op_mod (pe_op op_add (pv 7) (pv 10)) (pe_int)) (fun _ _ => rfl))) (pv 9))))))))))
      , ?_⟩
    refine ⟨⟨_, rfl⟩, .ref p, rfl, p, 6, rfl, b, by decide, by decide, fun H4 sz k4 b4 z0 z1 => ?_⟩
    obtain ⟨sz, rfl⟩ : ∃ xn : Nat, sz = (xn : Int) := ⟨sz.toNat, by omega⟩
    have sz5 : sz ≤ 5 := by omega
    refine ⟨sz, rfl, by omega, by omega, fun D nD => ?_⟩
    have nDp : D ≠ p := b4.ne nD
    rw [Int.toNat_natCast]
    refine lc_it walk_range (fun j H5 => Keep p H4 H5 ∧ Bag H5 p ∧ ∃ cs : List Nat, cs.length = j ∧ Lower cs ∧ H5 D = some (.lst (((cs.map fun c => [c]).map SX.S).map V.str))) ⟨.of (same_upd nD), b4.keep (same_upd nD), [], rfl, fun c hc => by simp at hc, upd_same⟩ (fun _ _ _ _ => trivial) (fun j x H5 H6 hj pv y => ?_) (fun H5 pv => ?_)
    · obtain ⟨rfl, rfl⟩ := y
      obtain ⟨k5, b5, cs, hcl, hcs, eD⟩ := pv
      refine ⟨rfl, yes_ ?_⟩
      refine ⟨.str abc, rfl, .ref p, rfl, p, 26, rfl, b5, by decide, by decide, fun H7 d k7 b7 d0 d1 => ?_⟩
      refine ⟨abc, d, _, rfl, rfl, by decide +kernel, abc_at d0 d1, _, k7 _ _ nDp eD, by rw [List.length_map, List.length_map, List.length_map]; exact small5000 (by omega), (k5.trans k7).set nD, b7.at (upd_ne nDp.symm), cs ++ [97 + d.toNat], by rw [List.length_append, hcl]; rfl, fun c hc => ?_, by rw [upd_same, List.map_append, List.map_append, List.map_append]; rfl⟩
      rcases List.mem_append.mp hc with z | z
      · exact hcs c z
      · rw [List.mem_singleton.mp z]
        omega
    obtain ⟨k5, b5, cs, hcl, hcs, eD⟩ := pv
    have k05 := k4.trans k5
    refine ⟨_, D, (cs.map fun c => [c]).map SX.S, rfl, rfl, .inl (SqL.of eD), ?_, ?_⟩
    · rw [SX.lens, List.map_map, List.length_map, List.length_map]
      have e1 : (cs.map ((fun x : List Nat => x.length) ∘ fun c => [c])).sum = cs.length := by
        clear eD hcs hcl
        induction cs with
        | nil => rfl
        | cons c cs ih => rw [List.map_cons, List.sum_cons, ih, List.length_cons]; show 1 + _ = _; omega
      rw [e1]
      show cs.length + cs.length * 0 ≤ 16777216
      omega
    have ej : Txt.join (Str.ofString "") ((cs.map fun c => [c]).map SX.S) = SX.S cs := join_signs cs
    rw [ej]
    have cl8 : cs.length ≤ 5 := by omega
    have sline : ∀ {n : Nat}, n ≤ 100 → n ≤ sizeLine := fun h => Nat.le_of_lt (small5000 (by omega))
    -- at, first
    refine ⟨.ref p, rfl, .str (SX.S cs), rfl, _, rfl, sline (by rw [SX.S_len]; omega), _, 1, rfl, rfl, p, _, rfl, b5, by omega, by rw [SX.S_len]; omega, fun H6 at' k6 b6 a0 a1 => ?_⟩
    rw [SX.S_len] at a1
    obtain ⟨at', rfl⟩ : ∃ xn : Nat, at' = (xn : Int) := ⟨at'.toNat, by omega⟩
    refine ⟨.ref p, rfl, p, 26, rfl, b6, by decide, by decide, fun H7 fi k7 b7 f0 f1 => ?_⟩
    obtain ⟨fi, rfl⟩ : ∃ xn : Nat, fi = (xn : Int) := ⟨fi.toNat, by omega⟩
    refine ⟨two_sz, fun U nU => ?_⟩
    have sU := same_upd (o := .tup [.int (at' : Int), .int (fi : Int)]) nU
    refine ⟨U, _, rfl, SqT.of upd_same, rfl, _, _, rfl, _, [], rfl, rfl, ?_⟩
    have k07 := (k05.trans (k6.trans k7)).trans (.of sU)
    have b7 := b7.keep sU
    generalize upd H7 U (.tup [.int (at' : Int), .int (fi : Int)]) = H8 at k07 b7 ⊢
    -- front, back
    refine ⟨nS hd, rfl, .str (SX.S cs), rfl, .int (at' : Int), rfl, at', rfl, _, rfl, sline (by rw [SX.S_len]; omega), ?_⟩
    rw [Stm.cut_to]
    refine ⟨_, _, rfl, rfl, sline (by rw [SX.S_len, SX.S_len, List.length_take]; omega), ?_⟩
    rw [SX.S_cat]
    refine ⟨.str (SX.S cs), rfl, .int (at' : Int), rfl, at', rfl, _, rfl, sline (by rw [SX.S_len]; omega), ?_⟩
    rw [Stm.cut_of]
    refine ⟨nS tl, rfl, _, _, rfl, rfl, sline (by rw [SX.S_len, SX.S_len, List.length_drop]; omega), ?_⟩
    rw [SX.S_cat]
    refine ⟨two_sz, fun U2 nU2 => ?_⟩
    have sU2 := same_upd (o := .tup [nS (hd ++ cs.take at'), nS (cs.drop at' ++ tl)]) nU2
    refine ⟨U2, _, rfl, SqT.of upd_same, rfl, _, _, rfl, _, [], rfl, rfl, ?_⟩
    have k08 := k07.trans (.of sU2)
    have b8 := b7.keep sU2
    generalize upd H8 U2 (.tup [nS (hd ++ cs.take at'), nS (cs.drop at' ++ tl)]) = H9 at k08 b8 ⊢
    have hn' : HN hd tl (hd ++ cs.take at') (cs.drop at' ++ tl) := by
      refine ⟨⟨_, rfl⟩, ⟨_, rfl⟩, ?_, fun c hc => ?_, fun c hc => ?_⟩
      · rw [List.length_append, List.length_append, List.length_take, List.length_drop]
        omega
      · rcases List.mem_append.mp hc with z | z
        · exact lhd c z
        · exact hcs c (List.mem_of_mem_take z)
      · rcases List.mem_append.mp hc with z | z
        · exact hcs c (List.mem_of_mem_drop z)
        · exact ltl c z
    generalize hd ++ cs.take at' = f at hn' ⊢
    generalize cs.drop at' ++ tl = bk at hn' ⊢
    have fl := hn'.len
    refine ⟨.int n, rfl, n, rfl, by omega, by omega, fun L nL => ?_⟩
    rw [Int.toNat_natCast]
    refine lc_it (walk_range (lo := 0) (n := n)) (fun j Hx => Same H9 Hx ∧ Hx L = some (.lst ((hNms f fi bk j).map nS))) ⟨same_upd nL, upd_same⟩ (fun _ _ _ _ => trivial) (fun j x Hx Hx' hj pv y => ?_) (fun Hx pv => ?_)
    · have ex : x = V.int (j : Int) := by first | exact (y.1).trans (congrArg V.int (Int.zero_add _)) | exact (y.2).trans (congrArg V.int (Int.zero_add _))
      have eh : Hx' = Hx := by first | exact y.1 | exact y.2
      subst ex
      subst eh
      obtain ⟨sx, eL⟩ := pv
      have hm0 : 0 ≤ ((fi : Int) + (j : Int)) % 26 := Int.emod_nonneg _ (by decide)
      have hm1 : ((fi : Int) + (j : Int)) % 26 < 26 := Int.emod_lt_of_pos _ (by decide)
      have ei : (((fi : Int) + (j : Int)) % 26).toNat = (fi + j) % 26 := by omega
      refine ⟨rfl, yes_ ⟨nS f, rfl, .str abc, rfl, .int (fi : Int), rfl, .int (j : Int), rfl, _, _, rfl, rfl, _, 26, rfl, rfl, p26, abc, _, _, rfl, rfl, by decide +kernel, abc_at hm0 hm1, ?_⟩⟩
      rw [ei]
      refine ⟨_, _, rfl, rfl, sline (by rw [SX.S_len]; show _ + 1 ≤ 100; omega), ?_⟩
      rw [show SX.S f ++ Str.mk #[97 + (fi + j) % 26] = SX.S (f ++ [97 + (fi + j) % 26]) from SX.S_cat f [97 + (fi + j) % 26]]
      refine ⟨nS bk, rfl, _, _, rfl, rfl, sline (by rw [SX.S_len, SX.S_len, List.length_append]; show _ + 1 + _ ≤ 100; omega), ?_⟩
      rw [SX.S_cat]
      refine ⟨_, eL, by rw [List.length_map, hNms_len]; exact small5000 (by omega), same_set sx nL, ?_⟩
      rw [upd_same]
      unfold hNms
      rw [List.range_succ, List.map_append, List.map_append]
      rfl
    obtain ⟨sx, eL⟩ := pv
    exact q Hx L f fi bk (k08.trans (.of sx)) (b8.keep sx) (k08.free b nL b8) eL hn'
end
end Th
namespace Th
open PySem PySem.Spec PyProof.Rows L2
theorem up0 {H H' : Hp} {p : Addr} (s : Same H H') (n : H' p = none) : H p = none := by
  cases e : H p with
  | none => rfl
  | some o => rw [s _ _ e] at n; cases n
/-! a net at its address -/
/-- tuples stay, those whose object is known, too -/
structure TKF (H H' : Hp) : Prop where
  t : ∀ a xs, H a = some (.tup xs) → H' a = some (.tup xs)
  f : ∀ a o xs, H a = some (.frz o (.tup xs)) → H' a = some (.frz o (.tup xs))
instance {H H' : Hp} : CoeFun (TKF H H') fun _ => ∀ a xs, H a = some (.tup xs) → H' a = some (.tup xs) := ⟨TKF.t⟩
theorem TKF.of {H H' : Hp} (s : Same H H') : TKF H H' := ⟨fun a xs e => s a _ e, fun a o xs e => s a _ e⟩
theorem TKF.trans {H H' H2 : Hp} (a : TKF H H') (b : TKF H' H2) : TKF H H2 := ⟨fun c xs e => b.t c xs (a.t c xs e), fun c o xs e => b.f c o xs (a.f c o xs e)⟩
theorem TKF.keep {p : Addr} {H H' : Hp} (k : Keep p H H') (b : Bag H p) : TKF H H' := by
  obtain ⟨g, r, e', _⟩ := b
  exact ⟨fun a xs e => k a _ (fun z => by rw [z, e'] at e; cases e) e, fun a o xs e => k a _ (fun z => by rw [z, e'] at e; cases e) e⟩
theorem TKF.upd {c : Addr} {H : Hp} {o : HO} (h : ∀ xs, H c ≠ some (.tup xs)) (h2 : ∀ o' xs, H c ≠ some (.frz o' (.tup xs)) := by intro o' xs e; simp_all) : TKF H (upd H c o) :=
  ⟨fun a xs e => by rw [upd_ne (fun z => h xs (by rw [← z]; exact e))]; exact e, fun a o' xs e => by rw [upd_ne (fun z => h2 o' xs (by rw [← z]; exact e))]; exact e⟩
theorem TpF.tk {H H' : Hp} {a : Addr} {xs : List V} (h : TpF H a xs) (k : TKF H H') : TpF H' a xs := let ⟨o, e, d⟩ := h; ⟨o, k.f _ _ _ e, d⟩
def StAt (H : Hp) (a : Addr) (st : Nm × Nm) : Prop := H a = some (.tup [nS st.1, nS st.2])
def JnAt (H : Hp) (a : Addr) (jn : Nm × List Nm) : Prop := ∃ b, H a = some (.tup [nS jn.1, .ref b]) ∧ H b = some (.tup (jn.2.map nS))
structure Ti where
  a : Nm
  b : Nm
  ln : Nm
  ch : Nat
def TiAt (H : Hp) (x : Addr) (t : Ti) : Prop := H x = some (.tup [nS t.a, nS t.b, nS t.ln, .int t.ch])
/-- the net at its address -/
def NetAt (H : Hp) (r : Addr) (ls : List Nm) (sts : List (Nm × Nm)) (jns : List (Nm × List Nm)) (tis : List Ti) : Prop :=
  ∃ (a b c d : Addr) (sa ja ta : List Addr), H r = some (.tup [.ref a, .ref b, .ref c, .ref d]) ∧ TpF H a (ls.map nS) ∧ TpF H b (sa.map V.ref) ∧ Paired (StAt H) sa sts ∧
    TpF H c (ja.map V.ref) ∧ Paired (JnAt H) ja jns ∧ TpF H d (ta.map V.ref) ∧ Paired (TiAt H) ta tis
theorem NetAt.tk {H H' : Hp} {r : Addr} {ls : List Nm} {sts : List (Nm × Nm)} {jns : List (Nm × List Nm)} {tis : List Ti} (h : NetAt H r ls sts jns tis) (k : TKF H H') : NetAt H' r ls sts jns tis := by
  obtain ⟨a, b, c, d, sa, ja, ta, e1, e2, e3, e4, e5, e6, e7, e8⟩ := h
  exact ⟨a, b, c, d, sa, ja, ta, k _ _ e1, e2.tk k, e3.tk k, paired_imp e4 fun x _ y e => k _ _ e, e5.tk k, paired_imp e6 (fun x _ y ⟨z, f1, f2⟩ => ⟨z, k _ _ f1, k _ _ f2⟩), e7.tk k, paired_imp e8 fun x _ y e => k _ _ e⟩
/-! the drawn house's net -/
abbrev jV (js : List Nat) : List V := js.map fun j => V.int ((j : Nat) : Int)
theorem natsH {ns : List Int} (h : ∀ x ∈ ns, 0 ≤ x) : ns = (ns.map Int.toNat).map fun j => ((j : Nat) : Int) := by
  rw [List.map_map]
  conv => lhs; rw [← List.map_id ns]
  refine List.map_congr_left fun x hx => ?_
  have := h x hx
  show x = ((x.toNat : Nat) : Int)
  omega
theorem ints_natsH {ns : List Int} (h : ∀ x ∈ ns, 0 ≤ x) : ns.map V.int = jV (ns.map Int.toNat) := by
  conv => lhs; rw [natsH h]
  rw [List.map_map]
  rfl
theorem cut_takeH (xs : List V) (m : Nat) : cutV xs none (some (m : Int)) = xs.take m := by
  unfold cutV
  rw [HT.sIx_none, HT.sIx_nat]
  show (xs.drop 0).take (min m xs.length - 0) = xs.take m
  rw [List.drop_zero, Nat.sub_zero]
  by_cases h : m ≤ xs.length
  · rw [Nat.min_eq_left h]
  · rw [Nat.min_eq_right (by omega), List.take_length, List.take_of_length_le (by omega)]
def sgL (k : Nat) : List Nm := if k = 0 then [[115], [116], [106]] else [[107], [113], [122]]
def hdS (sd : Nat) (g : Nm) : Nm := if sd = 1 then g else []
def tlS (sd : Nat) (g : Nm) : Nm := if sd = 1 then [] else g
/-- the names' parts: lines, stations, second ones, junctions -/
structure HNs (k sd : Nat) (f0 b0 f1 b1 f2 b2 f3 b3 : Nm) : Prop where
  h0 : HN [] [] f0 b0
  h1 : HN (hdS sd ((sgL k).getD 0 [])) (tlS sd ((sgL k).getD 0 [])) f1 b1
  h2 : HN (hdS sd ((sgL k).getD 1 [])) (tlS sd ((sgL k).getD 1 [])) f2 b2
  h3 : HN (hdS sd ((sgL k).getD 2 [])) (tlS sd ((sgL k).getD 2 [])) f3 b3
def hSts (n m2 : Nat) (L S T : Nat → Nm) : List (Nm × Nm) := (List.range n).map (fun k => (S k, L k)) ++ (List.range m2).map fun k => (T k, L k)
def hJns (n : Nat) (L J : Nat → Nm) : List (Nm × List Nm) := (List.range (n - 1)).map fun k => (J k, [L k, L (k + 1)])
def hT1 (m : Nat) (L S J : Nat → Nm) : List (Nm × Nm × Nm) := ((List.range m).map fun k => [(S k, J k, L k), (J k, S (k + 1), L (k + 1))]).flatten
def hT2 (m : Nat) (L J : Nat → Nm) : List (Nm × Nm × Nm) := (List.range m).map fun k => (J k, J (k + 1), L (k + 1))
def hT3 (m : Nat) (L S T : Nat → Nm) : List (Nm × Nm × Nm) := (List.range m).map fun k => (T k, S k, L k)
def tiK (t : Ti) : Nm × Nm × Nm := (t.a, t.b, t.ln)
/-- further junctions: of the i-th name on, with lines in order, two at least -/
structure JxOk (n : Nat) (L J : Nat → Nm) (m : Nat) (x : Nm × List Nm) : Prop where
  at_ : ∃ k, k < m ∧ k < 3 ∧ x.1 = J (n - 1 + k)
  ls : ∃ js : List Nat, js.Pairwise (· < ·) ∧ (∀ j ∈ js, j < n) ∧ 2 ≤ js.length ∧ x.2 = js.map L
theorem JxOk.more {n : Nat} {L J : Nat → Nm} {m : Nat} {x : Nm × List Nm} (h : JxOk n L J m x) : JxOk n L J (m + 1) x := ⟨let ⟨k, a, b⟩ := h.at_; ⟨k, by omega, b⟩, h.ls⟩
theorem StAt.kp {p : Addr} {H H' : Hp} {a : Addr} {x : Nm × Nm} (h : StAt H a x) (k : Keep p H H') (b : Bag H p) : StAt H' a x := (TKF.keep k b).t _ _ h
theorem JnAt.kp {p : Addr} {H H' : Hp} {a : Addr} {x : Nm × List Nm} (h : JnAt H a x) (k : Keep p H H') (b : Bag H p) : JnAt H' a x := let ⟨c, h1, h2⟩ := h; ⟨c, (TKF.keep k b).t _ _ h1, (TKF.keep k b).t _ _ h2⟩
theorem TiAt.kp {p : Addr} {H H' : Hp} {a : Addr} {x : Ti} (h : TiAt H a x) (k : Keep p H H') (b : Bag H p) : TiAt H' a x := (TKF.keep k b).t _ _ h
theorem tk_updl {H : Hp} {F : Addr} {xs : List V} {o : HO} (e : H F = some (.lst xs)) : TKF H (upd H F o) := TKF.upd (fun ys z => by rw [e] at z; cases z) (fun o' ys z => by rw [e] at z; cases z)
/-- the lists of ties and junctions under way -/
structure TsS (H9 Hx : Hp) (p Ta D4 : Addr) (ta : List Addr) (tis : List Ti) (ja : List Addr) (jn : List (Nm × List Nm)) : Prop where
  k : Keep p H9 Hx
  b : Bag Hx p
  eT : Hx Ta = some (.lst (ta.map V.ref))
  hT : Paired (TiAt Hx) ta tis
  eD : Hx D4 = some (.lst (ja.map V.ref))
  hJ : Paired (JnAt Hx) ja jn
theorem TsS.keep {H9 Hx Hy : Hp} {p Ta D4 : Addr} {ta : List Addr} {tis : List Ti} {ja : List Addr} {jn : List (Nm × List Nm)} (h : TsS H9 Hx p Ta D4 ta tis ja jn) (nT : Ta ≠ p) (nD : D4 ≠ p) (k : Keep p Hx Hy) (b : Bag Hy p) : TsS H9 Hy p Ta D4 ta tis ja jn :=
  ⟨h.k.trans k, b, k _ _ nT h.eT, paired_imp h.hT fun a _ x e => e.kp k h.b, k _ _ nD h.eD, paired_imp h.hJ fun a _ x e => e.kp k h.b⟩
theorem TsS.addT {H9 Hx : Hp} {p Ta D4 u : Addr} {t : Ti} {ta : List Addr} {tis : List Ti} {ja : List Addr} {jn : List (Nm × List Nm)} (h : TsS H9 Hx p Ta D4 ta tis ja jn) (nT : Ta ≠ p) (n9 : H9 Ta = none) (ne : Ta ≠ D4) (hu : TiAt Hx u t) : TsS H9 (upd Hx Ta (.lst (ta.map V.ref ++ [.ref u]))) p Ta D4 (ta ++ [u]) (tis ++ [t]) ja jn := by
  have tk := tk_updl (o := .lst (ta.map V.ref ++ [.ref u])) h.eT
  exact ⟨h.k.set n9, h.b.at (upd_ne nT.symm), by rw [upd_same, List.map_append]; rfl, paired_snoc (paired_imp h.hT fun a _ x e => tk.t _ _ e) (tk.t _ _ hu), by rw [upd_ne ne.symm]; exact h.eD, paired_imp h.hJ fun a _ x ⟨c, h1, h2⟩ => ⟨c, tk.t _ _ h1, tk.t _ _ h2⟩⟩
theorem TsS.addJ {H9 Hx : Hp} {p Ta D4 u : Addr} {j : Nm × List Nm} {ta : List Addr} {tis : List Ti} {ja : List Addr} {jn : List (Nm × List Nm)} (h : TsS H9 Hx p Ta D4 ta tis ja jn) (nD : D4 ≠ p) (n9 : H9 D4 = none) (ne : Ta ≠ D4) (hu : JnAt Hx u j) : TsS H9 (upd Hx D4 (.lst (ja.map V.ref ++ [.ref u]))) p Ta D4 ta tis (ja ++ [u]) (jn ++ [j]) := by
  have tk := tk_updl (o := .lst (ja.map V.ref ++ [.ref u])) h.eD
  refine ⟨h.k.set n9, h.b.at (upd_ne nD.symm), by rw [upd_ne ne]; exact h.eT, paired_imp h.hT fun a _ x e => tk.t _ _ e, by rw [upd_same, List.map_append]; rfl, paired_snoc (paired_imp h.hJ fun a _ x ⟨c, h1, h2⟩ => ⟨c, tk.t _ _ h1, tk.t _ _ h2⟩) ?_⟩
  obtain ⟨c, h1, h2⟩ := hu
  exact ⟨c, tk.t _ _ h1, tk.t _ _ h2⟩
section
variable {P : Program} {w : World} {K : PySem.W.Frag} {mg : Str → Option Value} {base : Heap} {k : Nat}
/-- all that is known of the drawn net -/
def NetH (H : Hp) (r : Addr) (n m2 kk sd : Nat) (f0 b0 f1 b1 f2 b2 f3 b3 : Nm) (d0 d1 d2 d3 : Nat) (jx : List (Nm × List Nm)) (tis : List Ti) : Prop :=
  NetAt H r (hNms f0 d0 b0 n) (hSts n m2 (hNm f0 d0 b0) (hNm f1 d1 b1) (hNm f2 d2 b2)) (hJns n (hNm f0 d0 b0) (hNm f3 d3 b3) ++ jx) tis ∧ 1 ≤ n ∧ n ≤ 8 ∧ 1 ≤ m2 ∧ m2 ≤ n ∧ sd ≤ 1 ∧ HNs kk sd f0 b0 f1 b1 f2 b2 f3 b3 ∧ jx.length ≤ 3 ∧ (jx.map (·.1)).Nodup ∧ (∀ x ∈ jx, JxOk n (hNm f0 d0 b0) (hNm f3 d3 b3) 3 x) ∧
  tis.map tiK = hT1 (n - 1) (hNm f0 d0 b0) (hNm f1 d1 b1) (hNm f3 d3 b3) ++ hT2 (n - 2) (hNm f0 d0 b0) (hNm f3 d3 b3) ++ hT3 m2 (hNm f0 d0 b0) (hNm f1 d1 b1) (hNm f2 d2 b2) ∧ ∀ t ∈ tis, 1 ≤ t.ch ∧ t.ch ≤ 9999
def sp_l_net : Sp := fun vs H Q _ => ∃ (p : Addr), vs = [.ref p] ∧ Bag H p ∧ ∀ H' r n m2 kk sd f0 b0 f1 b1 f2 b2 f3 b3 d0 d1 d2 d3 jx tis, Keep p H H' → Bag H' p → NetH H' r n m2 kk sd f0 b0 f1 b1 f2 b2 f3 b3 d0 d1 d2 d3 jx tis → Q (.ref r) H'
/-- three lists of names -/
def NmsA (p D : Addr) (n sd : Nat) (H : Hp) (a : Addr) (g : Nm) : Prop := a ≠ p ∧ a ≠ D ∧ ∃ f d b, H a = some (.lst ((hNms f d b n).map nS)) ∧ HN (hdS sd g) (tlS sd g) f b
theorem hn_sz {n : Nat} (h : n ≤ 11) : n ≤ 26 := by omega
set_option maxHeartbeats 32000000 in
theorem ok_l_net (T : Defs K mg) : FnOk P w K mg base CX0 (k + 3) T.a_l_net T.d_l_net ["_law_bag_here"] sp_l_net := by
  have G_l_take : FnOk P w K mg base CX0 (k + 2) _ _ _ _ := ok_l_take (k := k + 1) T
  have G_l_names : FnOk P w K mg base CX0 (k + 2) _ _ _ _ := ok_l_names (k := k) T
  refine T.F_l_net.ok sc_l_net (fun vs H Q E h => ?_) (fun cdv A outer s H vs Q E hr h => ?_)
  · obtain ⟨p, rfl, _⟩ := h
    rfl
  · obtain ⟨p, rfl, b, q⟩ := h
    refine ⟨_, PSs.nox
(pss_cons (ps_set (i := 1) sc_l_net.nd rfl (.inr rfl) (pe_ix (r := rIxT K) ix_tup (pe_tup (pa_cons (pe_int) (pa_cons (pe_int) (pa_cons (pe_int) (pa_cons (pe_int) (pa_cons (pe_int) (pa_cons (pe_int) pa_nil))))))) (pe_call G_l_take hr (by rfl) T.g_l_take T.F_l_take.kp T.b_l_take .nil pass0 (pa_cons (pv 0) (pa_cons (pe_int) pa_nil))) (fun _ _ => rfl)))
    (Evl.pss_cut (ps_set (i := 2) sc_l_net.nd rfl (.inl rfl) (pe_ifExp (pt_cmpR op_eq (pe_call G_l_take hr (by rfl) T.g_l_take T.F_l_take.kp T.b_l_take .nil pass0 (pa_cons (pv 0) (pa_cons (pe_int) pa_nil))) (pe_int) (nomark _)) (pe_lst (pa_cons (pe_str) (pa_cons (pe_str) (pa_cons (pe_str) pa_nil)))) (pe_lst (pa_cons (pe_str) (pa_cons (pe_str) (pa_cons (pe_str) pa_nil))))))
    (pss_cons (ps_set (i := 3) sc_l_net.nd rfl (.inr rfl) (pe_call G_l_take hr (by rfl) T.g_l_take T.F_l_take.kp T.b_l_take .nil pass0 (pa_cons (pv 0) (pa_cons (pe_int) pa_nil))))
    (pss_cons (ps_set (i := 4) sc_l_net.nd rfl (.inr rfl) (pe_call G_l_names hr (by rfl) T.g_l_names T.F_l_names.kp T.b_l_names .nil pass0 (pa_cons (pv 0) (pa_cons (pv 1) (pa_cons (pe_str) (pa_cons (pe_str) pa_nil))))))
    (pss_cons (ps_setLc (i := 5) (own := [("_law_sign", 12)]) (g := gName 12) rfl sc_l_net.nd rfl rfl (sw_true rfl rfl rfl (by decide +kernel)) (pi_list (pv 2)) (blkOk_by (N := N_l_net) (sc := defScope s_l_net) (by decide +kernel)) (fun _ _ _ _ _ => (pg_name (i := 12) sc_l_net.nd rfl (.inl rfl))) (fun _ _ _ _ _ => pts_nil) (fun _ _ _ _ _ => (pe_call G_l_names hr (by rfl) T.g_l_names T.F_l_names.kp T.b_l_names .nil pass0 (pa_cons (pv 0) (pa_cons (pe_op op_add (pv 1) (pe_int)) (pa_cons (pe_op Stm.op_mulS01 (pv 12) (pv 3)) (pa_cons (pe_op Stm.op_mulS01 (pv 12) (pe_op op_sub (pe_int) (pv 3))) pa_nil)))))))
    (pss_cons (ps_setLc (i := 6) (own := [("_law_name", 13), ("_law_line_here", 14)]) (g := gTup K 2 (gCons (gName 13) (gCons (gName 14) gNil))) rfl sc_l_net.nd rfl rfl (sw_true rfl rfl rfl (by decide +kernel)) (pi_zip (by rfl) T.z_zip (pa_cons (pe_ix (r := rIxL K) ix_list (pv 5) (pe_int) (fun _ _ => rfl)) (pa_cons (pv 4) pa_nil))) (blkOk_by (N := N_l_net) (sc := defScope s_l_net) (by decide +kernel)) (fun _ _ _ _ _ => (pg_tup rfl (pgs_cons (pg_name (i := 13) sc_l_net.nd rfl (.inl rfl)) (pgs_cons (pg_name (i := 14) sc_l_net.nd rfl (.inl rfl)) pgs_nil)))) (fun _ _ _ _ _ => pts_nil) (fun _ _ _ _ _ => (pe_tup (pa_cons (pv 13) (pa_cons (pv 14) pa_nil)))))
    (pss_cons (ps_set (i := 7) sc_l_net.nd rfl (.inl rfl) (pe_slice sl_list (pe_lc (own := [("_law_name", 13), ("_law_line_here", 14)]) (g := gTup K 2 (gCons (gName 13) (gCons (gName 14) gNil))) rfl sc_l_net.nd (pi_zip (by rfl) T.z_zip (pa_cons (pe_ix (r := rIxL K) ix_list (pv 5) (pe_int) (fun _ _ => rfl)) (pa_cons (pv 4) pa_nil))) (blkOk_by (N := N_l_net) (sc := defScope s_l_net) (by decide +kernel)) (fun _ _ _ _ _ => (pg_tup rfl (pgs_cons (pg_name (i := 13) sc_l_net.nd rfl (.inl rfl)) (pgs_cons (pg_name (i := 14) sc_l_net.nd rfl (.inl rfl)) pgs_nil)))) (fun _ _ _ _ _ => pts_nil) (fun _ _ _ _ _ => (pe_tup (pa_cons (pv 13) (pa_cons (pv 14) pa_nil))))) po_none (po_some (pe_op op_add (pe_int) (pe_call G_l_take hr (by rfl) T.g_l_take T.F_l_take.kp T.b_l_take .nil pass0 (pa_cons (pv 0) (pa_cons (pv 1) pa_nil)))))))
    (pss_cons (ps_set (i := 8) sc_l_net.nd rfl (.inr rfl) (pe_ix (r := rIxL K) ix_list (pv 5) (pe_int) (fun _ _ => rfl)))
    (pss_cons (ps_setLc (i := 9) (own := [("_law_k", 11)]) (g := gName 11) rfl sc_l_net.nd rfl rfl (sw_true rfl rfl rfl (by decide +kernel)) (pi_range1 (by rfl) T.z_range (pa_cons (pe_op op_sub (pv 1) (pe_int)) pa_nil)) (blkOk_by (N := N_l_net) (sc := defScope s_l_net) (by decide +kernel)) (fun _ _ _ _ _ => (pg_name (i := 11) sc_l_net.nd rfl (.inl rfl))) (fun _ _ _ _ _ => pts_nil) (fun _ _ _ _ _ => (pe_tup (pa_cons (pe_ix (r := rIxL K) ix_list (pv 8) (pv 11) (fun _ _ => rfl)) (pa_cons (pe_tup (pa_cons (pe_ix (r := rIxL K) ix_list (pv 4) (pv 11) (fun _ _ => rfl)) (pa_cons (pe_ix (r := rIxL K) ix_list (pv 4) (pe_op op_add (pv 11) (pe_int)) (fun _ _ => rfl)) pa_nil))) pa_nil)))))
    (pss_cons (ps_set (i := 10) sc_l_net.nd rfl (.inl rfl) (pe_lst pa_nil))
    (pss_cons (ps_for PassesOwn.never rfl (pi_range1 (by rfl) T.z_range (pa_cons (pe_op op_sub (pv 1) (pe_int)) pa_nil)) (pg_name (i := 11) sc_l_net.nd rfl (.inl rfl))
      (pss_cons (ps_expr (pe_bm PySem.F.plainAttrs_list PySem.F.slot_list_append PySem.F.type_list_append mt_append (pv 10) (pa_cons (pe_tup (pa_cons (pe_ix (r := rIxT K) ix_tup (pe_ix (r := rIxL K) ix_list (pv 6) (pv 11) (fun _ _ => rfl)) (pe_int) (fun _ _ => rfl)) (pa_cons (pe_ix (r := rIxL K) ix_list (pv 8) (pv 11) (fun _ _ => rfl)) (pa_cons (pe_ix (r := rIxL K) ix_list (pv 4) (pv 11) (fun _ _ => rfl)) (pa_cons (pe_op op_add (pe_int) (pe_call G_l_take hr (by rfl) T.g_l_take T.F_l_take.kp T.b_l_take .nil pass0 (pa_cons (pv 0) (pa_cons (pe_int) pa_nil)))) pa_nil))))) pa_nil)))
      (pss_one (ps_expr (pe_bm PySem.F.plainAttrs_list PySem.F.slot_list_append PySem.F.type_list_append mt_append (pv 10) (pa_cons (pe_tup (pa_cons (pe_ix (r := rIxL K) ix_list (pv 8) (pv 11) (fun _ _ => rfl)) (pa_cons (pe_ix (r := rIxT K) ix_tup (pe_ix (r := rIxL K) ix_list (pv 6) (pe_op op_add (pv 11) (pe_int)) (fun _ _ => rfl)) (pe_int) (fun _ _ => rfl)) (pa_cons (pe_ix (r := rIxL K) ix_list (pv 4) (pe_op op_add (pv 11) (pe_int)) (fun _ _ => rfl)) (pa_cons (pe_op op_add (pe_int) (pe_call G_l_take hr (by rfl) T.g_l_take T.F_l_take.kp T.b_l_take .nil pass0 (pa_cons (pv 0) (pa_cons (pe_int) pa_nil)))) pa_nil))))) pa_nil))))))
    (pss_cons (ps_for PassesOwn.never rfl (pi_range1 (by rfl) T.z_range (pa_cons (pe_op op_sub (pv 1) (pe_int)) pa_nil)) (pg_name (i := 11) sc_l_net.nd rfl (.inl rfl))
      (pss_one (ps_expr (pe_bm PySem.F.plainAttrs_list PySem.F.slot_list_append PySem.F.type_list_append mt_append (pv 10) (pa_cons (pe_tup (pa_cons (pe_ix (r := rIxL K) ix_list (pv 8) (pv 11) (fun _ _ => rfl)) (pa_cons (pe_ix (r := rIxL K) ix_list (pv 8) (pe_op op_add (pv 11) (pe_int)) (fun _ _ => rfl)) (pa_cons (pe_ix (r := rIxL K) ix_list (pv 4) (pe_op op_add (pv 11) (pe_int)) (fun _ _ => rfl)) (pa_cons (pe_op op_add (pe_int) (pe_call G_l_take hr (by rfl) T.g_l_take T.F_l_take.kp T.b_l_take .nil pass0 (pa_cons (pv 0) (pa_cons (pe_int) pa_nil)))) pa_nil))))) pa_nil)))))
    (pss_cons (ps_for PassesOwn.never rfl (pi_range1 (by rfl) T.z_range (pa_cons (pe_callB (r := rLenS K) call_lenS (by rfl) T.z_len (by decide +kernel) (pa_cons (pv 7) pa_nil)) pa_nil)) (pg_name (i := 11) sc_l_net.nd rfl (.inl rfl))
      (pss_one (ps_expr (pe_bm PySem.F.plainAttrs_list PySem.F.slot_list_append PySem.F.type_list_append mt_append (pv 10) (pa_cons (pe_tup (pa_cons (pe_ix (r := rIxT K) ix_tup (pe_ix (r := rIxL K) ix_list (pv 7) (pv 11) (fun _ _ => rfl)) (pe_int) (fun _ _ => rfl)) (pa_cons (pe_ix (r := rIxT K) ix_tup (pe_ix (r := rIxL K) ix_list (pv 6) (pv 11) (fun _ _ => rfl)) (pe_int) (fun _ _ => rfl)) (pa_cons (pe_ix (r := rIxL K) ix_list (pv 4) (pv 11) (fun _ _ => rfl)) (pa_cons (pe_op op_add (pe_int) (pe_call G_l_take hr (by rfl) T.g_l_take T.F_l_take.kp T.b_l_take .nil pass0 (pa_cons (pv 0) (pa_cons (pe_int) pa_nil)))) pa_nil))))) pa_nil)))))
    (pss_cons (ps_for PassesOwn.never rfl (pi_range1 (by rfl) T.z_range (pa_cons (pe_op op_mul (pe_call G_l_take hr (by rfl) T.g_l_take T.F_l_take.kp T.b_l_take .nil pass0 (pa_cons (pv 0) (pa_cons (pe_int) pa_nil))) (pe_callTy call_int1 (by rfl) T.z_int (by decide +kernel) (pa_cons (pe_cmpR op_gt (pv 1) (pe_int) (nomark _)) pa_nil))) pa_nil)) (pg_name (i := 11) sc_l_net.nd rfl (.inl rfl))
      (pss_cons (ps_set (i := 5) sc_l_net.nd rfl (.inl rfl) (pe_callB (cr_sortedSet rfl) (by rfl) T.z_sorted (by decide +kernel) (pa_cons (pe_callTy (Sl.call_setI rfl) (by rfl) T.z_set (by decide +kernel) (pa_cons (pe_lst (pa_cons (pe_call G_l_take hr (by rfl) T.g_l_take T.F_l_take.kp T.b_l_take .nil pass0 (pa_cons (pv 0) (pa_cons (pv 1) pa_nil))) (pa_cons (pe_call G_l_take hr (by rfl) T.g_l_take T.F_l_take.kp T.b_l_take .nil pass0 (pa_cons (pv 0) (pa_cons (pv 1) pa_nil))) (pa_cons (pe_call G_l_take hr (by rfl) T.g_l_take T.F_l_take.kp T.b_l_take .nil pass0 (pa_cons (pv 0) (pa_cons (pv 1) pa_nil))) pa_nil)))) pa_nil)) pa_nil)))
      (pss_one (ps_if (pt_cmpR op_gt (pe_callB (r := rLenS K) call_lenS (by rfl) T.z_len (by decide +kernel) (pa_cons (pv 5) pa_nil)) (pe_int) (nomark _))
        (pss_one (ps_expr (pe_bm PySem.F.plainAttrs_list PySem.F.slot_list_append PySem.F.type_list_append mt_append (pv 9) (pa_cons (pe_tup (pa_cons (pe_ix (r := rIxL K) ix_list (pv 8) (pe_op op_add (pe_op op_sub (pv 1) (pe_int)) (pv 11)) (fun _ _ => rfl)) (pa_cons (pe_callTy call_tuple_of (by rfl) T.z_tuple (by decide +kernel) (pa_cons (pe_lc (own := [("_law_one", 15)]) (g := gName 15) rfl sc_l_net.nd (pi_list (pv 5)) (blkOk_by (N := N_l_net) (sc := defScope s_l_net) (by decide +kernel)) (fun _ _ _ _ _ => (pg_name (i := 15) sc_l_net.nd rfl (.inl rfl))) (fun _ _ _ _ _ => pts_nil) (fun _ _ _ _ _ => (pe_ix (r := rIxL K) ix_list (pv 4) (pv 15) (fun _ _ => rfl)))) pa_nil)) pa_nil))) pa_nil))))
        pss_nil))))
    (pss_one (ps_ret (pe_tup (pa_cons (pe_callTy (r := rTupF K) call_tuple_ofF (by rfl) T.z_tuple (by decide +kernel) (pa_cons (pv 4) pa_nil)) (pa_cons (pe_callTy (r := rTupF K) call_tuple_ofF (by rfl) T.z_tuple (by decide +kernel) (pa_cons (pe_op op_cat (pv 6) (pv 7)) pa_nil)) (pa_cons (pe_callTy (r := rTupF K) call_tuple_ofF (by rfl) T.z_tuple (by decide +kernel) (pa_cons (pv 9) pa_nil)) (pa_cons (pe_callTy (r := rTupF K) call_tuple_ofF (by rfl) T.z_tuple (by decide +kernel) (pa_cons (pv 10) pa_nil)) pa_nil)))))))))))))))))))))
      , ?_⟩
    -- many
    refine ⟨by show 6 ≤ sizeLine; decide, fun t nt => ?_⟩
    have st := same_upd (o := .tup [.int 3, .int 2, .int 4, .int 5, .int 8, .int 1]) nt
    have ntp := b.ne nt
    refine ⟨.ref p, rfl, p, 6, rfl, b.keep st, by decide, by decide, fun H1 c k1 b1 c0 c1 => ?_⟩
    obtain ⟨m0, hm0, em0⟩ := pick (ms := [3, 2, 4, 5, 8, 1]) c0 c1
    refine ⟨t, _, c, _, rfl, rfl, SqT.of (k1 _ _ ntp upd_same), em0, ?_⟩
    obtain ⟨n, rfl, n1, n8⟩ : ∃ n : Nat, m0 = (n : Int) ∧ 1 ≤ n ∧ n ≤ 8 := by
      simp only [List.mem_cons, List.not_mem_nil, or_false] at hm0
      exact ⟨m0.toNat, by omega, by omega, by omega⟩
    have k01 : Keep p H H1 := (Keep.of st).trans k1
    -- signs
    refine ⟨fun σ Hz => ∃ (G : Addr) (kk : Nat), σ = [some (.ref p), some (.int (n : Int)), some (.ref G), none, none, none, none, none, none, none, none, none, none, none, none, none] ∧ Keep p H Hz ∧ Bag Hz p ∧ G ≠ p ∧ Hz G = some (.lst ((sgL kk).map nS)), ?_, fun σ H2 mid => ?_⟩
    · refine ⟨.ref p, rfl, p, 2, rfl, b1, by decide, by decide, fun H2 c2 k2 b2 _ _ => ⟨rfl, _, rfl, ite2 (fun _ => ?_) (fun _ => ?_)⟩⟩
      · refine ⟨by show 3 ≤ sizeLine; decide, fun G nG => ?_⟩
        exact ⟨G, 0, rfl, (k01.trans k2).trans (.of (same_upd nG)), b2.keep (same_upd nG), b2.ne nG, upd_same⟩
      · refine ⟨by show 3 ≤ sizeLine; decide, fun G nG => ?_⟩
        exact ⟨G, 1, rfl, (k01.trans k2).trans (.of (same_upd nG)), b2.keep (same_upd nG), b2.ne nG, upd_same⟩
    obtain ⟨G, kk, rfl, k02, b2, nGp, eG⟩ := mid
    have sgl : (sgL kk).length = 3 := by unfold sgL; split <;> rfl
    have sglen : ∀ g ∈ sgL kk, g.length = 1 ∧ Lower g := fun g hg => by
      unfold sgL at hg
      split at hg <;> simp only [List.mem_cons, List.not_mem_nil, or_false] at hg <;> rcases hg with rfl | rfl | rfl <;> exact ⟨rfl, fun c hc => by rw [List.mem_singleton.mp hc]; omega⟩
    -- side
    refine ⟨.ref p, rfl, p, 2, rfl, b2, by decide, by decide, fun H3 sd k3 b3 s0 s1 => ?_⟩
    obtain ⟨sd, rfl⟩ : ∃ xn : Nat, sd = (xn : Int) := ⟨sd.toNat, by omega⟩
    have sd1 : sd ≤ 1 := by omega
    have eG3 := k3 _ _ nGp eG
    -- lines
    refine ⟨.ref p, rfl, .int (n : Int), rfl, p, n, [], [], rfl, b3, by omega, (fun c hc => by cases hc), (fun c hc => by cases hc), by show 0 + 0 ≤ 2; decide, fun H4 A0 f0 d0 b0 k4 b4 nA0 eA0 h0 => ?_⟩
    have nA0p : A0 ≠ p := b3.ne nA0
    have eG4 := k4 _ _ nGp eG3
    have k04 := (k02.trans k3).trans k4
    -- the others' names
    refine ⟨.ref G, rfl, G, rfl, ⟨_, SqL.of eG4⟩, fun So nSo => ?_⟩
    have nSop : So ≠ p := b4.ne nSo
    refine lc_it (walk_list (xs := (sgL kk).map nS)) (fun j Hx => Keep p H4 Hx ∧ Bag Hx p ∧ ∃ as : List Addr, Hx So = some (.lst (as.map V.ref)) ∧ Paired (NmsA p So (n + 3) sd Hx) as ((sgL kk).take j)) ⟨.of (same_upd nSo), b4.keep (same_upd nSo), [], upd_same, .nil⟩ (fun j Hx _ pv => SqL.of (pv.1 _ _ nGp eG4)) (fun j v Hx₀ Hx hj pv yy => ?_) (fun H5 pv => ?_)
    · obtain ⟨rfl, ey⟩ := yy
      obtain ⟨kx, bx, as, eSo, has⟩ := pv
      obtain ⟨g, eg, rfl⟩ : ∃ g, (sgL kk)[j]? = some g ∧ v = nS g := by
        rw [List.getElem?_map] at ey
        cases e : (sgL kk)[j]? with
        | none => rw [e] at ey; cases ey
        | some g => rw [e] at ey; exact ⟨g, rfl, (Option.some.inj ey).symm⟩
      obtain ⟨gl, glo⟩ := sglen g (List.mem_of_getElem? eg)
      rw [List.length_map, sgl] at hj
      have al := paired_len has
      rw [List.length_take, sgl] at al
      have mulS : ∀ z : Int, (z = 0 ∨ z = 1) → ∀ (Q : V → Hp → Prop) (Hy : Hp), Q (nS (if z = 1 then g else [])) Hy → Stm.rMulS01 (nS g) (.int z) Hy Q := fun z hz Q Hy h => by
        rcases hz with rfl | rfl
        · exact ⟨_, _, rfl, rfl, .inl ⟨rfl, h⟩⟩
        · exact ⟨_, _, rfl, rfl, .inr ⟨rfl, h⟩⟩
      refine ⟨rfl, yes_ ⟨.ref p, rfl, .int (n : Int), rfl, _, 3, rfl, rfl, nS g, rfl, .int (sd : Int), rfl, mulS _ (by omega) _ _ ?_⟩⟩
      refine ⟨nS g, rfl, .int (sd : Int), rfl, 1, _, rfl, rfl, mulS _ (by omega) _ _ ?_⟩
      rw [show (if ((sd : Nat) : Int) = 1 then g else []) = hdS sd g by unfold hdS; by_cases c : sd = 1 <;> simp [c]; omega, show (if (1 : Int) - ((sd : Nat) : Int) = 1 then g else []) = tlS sd g by unfold tlS; by_cases c : sd = 1 <;> simp [c]; omega]
      refine ⟨p, n + 3, hdS sd g, tlS sd g, by rw [show ((n + 3 : Nat) : Int) = (n : Int) + 3 by omega]; rfl, bx, by omega, ?_, ?_, ?_, fun Hy l f d bb ky by_ nl el hn => ?_⟩
      · unfold hdS; split; exact glo; exact fun c hc => by cases hc
      · unfold tlS; split; exact fun c hc => (by cases hc); exact glo
      · unfold hdS tlS; split <;> simp [gl]
      have nlSo : l ≠ So := fun z => by rw [z, eSo] at nl; cases nl
      have nlp := bx.ne nl
      refine ⟨_, ky _ _ nSop eSo, by rw [List.length_map]; exact small5000 (by omega), (kx.trans ky).set nSo, by_.at (upd_ne nSop.symm), as ++ [l], by rw [upd_same, List.map_append]; rfl, ?_⟩
      rw [List.take_add_one, eg]
      refine paired_snoc (paired_imp has fun a _ g ⟨h1, h2, f, d, bb, h3, h4⟩ => ⟨h1, h2, f, d, bb, by rw [upd_ne h2]; exact ky _ _ h1 h3, h4⟩) ⟨nlp, nlSo, f, d, bb, by rw [upd_ne nlSo]; exact el, hn⟩
    obtain ⟨k5, b5, as, eSo, has⟩ := pv
    rw [List.length_map, List.take_length] at has
    have k05 := k04.trans k5
    have eA05 := k5 _ _ nA0p eA0
    obtain ⟨g0, g1, g2, eg⟩ : ∃ g0 g1 g2, sgL kk = [g0, g1, g2] := by
      unfold sgL
      split <;> exact ⟨_, _, _, rfl⟩
    have hsg0 : (sgL kk).getD 0 [] = g0 := by rw [eg]; rfl
    have hsg1 : (sgL kk).getD 1 [] = g1 := by rw [eg]; rfl
    have hsg2 : (sgL kk).getD 2 [] = g2 := by rw [eg]; rfl
    rw [eg] at has
    cases has with
    | @cons a1 _ as _ q1 has =>
    cases has with
    | @cons a2 _ as _ q2 has =>
    cases has with
    | @cons a3 _ as _ q3 has =>
    cases has
    obtain ⟨na1p, na1S, f1, d1, b1', ea1, hn1⟩ := q1
    obtain ⟨na2p, na2S, f2, d2, b2', ea2, hn2⟩ := q2
    obtain ⟨na3p, na3S, f3, d3, b3', ea3, hn3⟩ := q3
    have hns : HNs kk sd f0 b0 f1 b1' f2 b2' f3 b3' := ⟨h0, by rw [hsg0]; exact hn1, by rw [hsg1]; exact hn2, by rw [hsg2]; exact hn3⟩
    clear h0 hn1 hn2 hn3 hsg0 hsg1 hsg2 eg sglen sgl
    have nmZ : ∀ (f : Nm) (d : Nat) (bb : Nm) (m k : Nat), k < m → ((hNms f d bb m).map nS)[k]? = some (nS (hNm f d bb k)) := fun f d bb m k h => by rw [List.getElem?_map, hNms_at h]; rfl
    have nmL : ∀ (f : Nm) (d : Nat) (bb : Nm) (m : Nat), ((hNms f d bb m).map nS).length = m := fun f d bb m => by rw [List.length_map, hNms_len]
    have nm_of : ∀ {f : Nm} {d : Nat} {bb : Nm} {m k : Nat} {v : V}, ((hNms f d bb m).map nS)[k]? = some v → k < m ∧ v = nS (hNm f d bb k) := fun {f d bb m k v} h => by
      have l := (List.getElem?_eq_some_iff.mp h).1
      rw [nmL] at l
      rw [nmZ _ _ _ _ _ l] at h
      exact ⟨l, (Option.some.inj h).symm⟩
    -- stations
    refine ⟨.ref So, rfl, So, _, (0 : Int), .ref a1, rfl, rfl, SqL.of eSo, rfl, .ref A0, rfl, a1, A0, _, _, rfl, SqL.of ea1, SqL.of eA05, fun D1 nD1 => ?_⟩
    refine lc_it (walk_zip (n := n) (xs := (hNms f1 d1 b1' (n + 3)).map nS) (ys := (hNms f0 d0 b0 n).map nS) (by rw [nmL, nmL]; omega)) (fun j Hx => Same H5 Hx ∧ ∃ sa : List Addr, Hx D1 = some (.lst (sa.map V.ref)) ∧ Paired (StAt Hx) sa ((List.range j).map fun k => (hNm f1 d1 b1' k, hNm f0 d0 b0 k))) ⟨same_upd nD1, [], upd_same, .nil⟩ (fun j Hx _ pv => ⟨SqL.of (pv.1 _ _ ea1), SqL.of (pv.1 _ _ eA05)⟩) (fun j v Hx Hx' hj pv yy => ?_) (fun H6 pv => ?_)
    · obtain ⟨U, xv, yv, rfl, nU, rfl, ex, ey⟩ := yy
      obtain ⟨sx, sa, eD, hsa⟩ := pv
      obtain ⟨_, rfl⟩ := nm_of (show ((hNms f1 d1 b1' (n + 3)).map nS)[j]? = some xv from ex)
      obtain ⟨_, rfl⟩ := nm_of (show ((hNms f0 d0 b0 n).map nS)[j]? = some yv from ey)
      have sU := same_upd (o := .tup [nS (hNm f1 d1 b1' j), nS (hNm f0 d0 b0 j)]) nU
      have sl := paired_len hsa
      rw [List.length_map, List.length_range] at sl
      refine ⟨U, _, rfl, SqT.of upd_same, rfl, _, _, rfl, _, [], rfl, rfl, rfl, yes_ ⟨_, rfl, _, rfl, two_sz, fun u nu => ?_⟩⟩
      have su := sU.trans (same_upd (o := .tup [nS (hNm f1 d1 b1' j), nS (hNm f0 d0 b0 j)]) nu)
      have eDu := su _ _ eD
      have tk := tk_updl (o := .lst (sa.map V.ref ++ [.ref u])) eDu
      refine ⟨_, eDu, by rw [List.length_map]; exact small5000 (by omega), same_set (sx.trans su) nD1, sa ++ [u], by rw [upd_same, List.map_append]; rfl, ?_⟩
      rw [List.range_succ, List.map_append]
      exact paired_snoc (paired_imp hsa fun a _ x h => tk.t _ _ (su _ _ h)) (tk.t _ _ upd_same)
    obtain ⟨s6, sa, eD1, hsa⟩ := pv
    have b6 := b5.keep s6
    have nD1p := b5.ne nD1
    have eSo6 := s6 _ _ eSo
    have ea26 := s6 _ _ ea2
    have eA06 := s6 _ _ eA05
    have sal := paired_len hsa
    rw [List.length_map, List.length_range] at sal
    -- the second ones
    refine ⟨.ref So, rfl, So, _, (1 : Int), .ref a2, rfl, rfl, SqL.of eSo6, rfl, .ref A0, rfl, a2, A0, _, _, rfl, SqL.of ea26, SqL.of eA06, fun D2 nD2 => ?_⟩
    refine lc_it (walk_zip (n := n) (xs := (hNms f2 d2 b2' (n + 3)).map nS) (ys := (hNms f0 d0 b0 n).map nS) (by rw [nmL, nmL]; omega)) (fun j Hx => Same H6 Hx ∧ ∃ sa : List Addr, Hx D2 = some (.lst (sa.map V.ref)) ∧ Paired (StAt Hx) sa ((List.range j).map fun k => (hNm f2 d2 b2' k, hNm f0 d0 b0 k))) ⟨same_upd nD2, [], upd_same, .nil⟩ (fun j Hx _ pv => ⟨SqL.of (pv.1 _ _ ea26), SqL.of (pv.1 _ _ eA06)⟩) (fun j v Hx Hx' hj pv yy => ?_) (fun H7 pv => ?_)
    · obtain ⟨U, xv, yv, rfl, nU, rfl, ex, ey⟩ := yy
      obtain ⟨sx, sa, eD, hsa⟩ := pv
      obtain ⟨_, rfl⟩ := nm_of (show ((hNms f2 d2 b2' (n + 3)).map nS)[j]? = some xv from ex)
      obtain ⟨_, rfl⟩ := nm_of (show ((hNms f0 d0 b0 n).map nS)[j]? = some yv from ey)
      have sU := same_upd (o := .tup [nS (hNm f2 d2 b2' j), nS (hNm f0 d0 b0 j)]) nU
      have sl := paired_len hsa
      rw [List.length_map, List.length_range] at sl
      refine ⟨U, _, rfl, SqT.of upd_same, rfl, _, _, rfl, _, [], rfl, rfl, rfl, yes_ ⟨_, rfl, _, rfl, two_sz, fun u nu => ?_⟩⟩
      have su := sU.trans (same_upd (o := .tup [nS (hNm f2 d2 b2' j), nS (hNm f0 d0 b0 j)]) nu)
      have eDu := su _ _ eD
      have tk := tk_updl (o := .lst (sa.map V.ref ++ [.ref u])) eDu
      refine ⟨_, eDu, by rw [List.length_map]; exact small5000 (by omega), same_set (sx.trans su) nD2, sa ++ [u], by rw [upd_same, List.map_append]; rfl, ?_⟩
      rw [List.range_succ, List.map_append]
      exact paired_snoc (paired_imp hsa fun a _ x h => tk.t _ _ (su _ _ h)) (tk.t _ _ upd_same)
    obtain ⟨s7, sb, eD2, hsb⟩ := pv
    have b7 := b6.keep s7
    have nD2p := b6.ne nD2
    have sbl := paired_len hsb
    rw [List.length_map, List.length_range] at sbl
    refine ⟨.ref p, rfl, .int (n : Int), rfl, p, n, rfl, b7, by omega, by omega, fun H8 c k8 b8 c0 c1 => ?_⟩
    obtain ⟨c, rfl⟩ : ∃ xn : Nat, c = (xn : Int) := ⟨c.toNat, by omega⟩
    refine ⟨1, (c : Int), rfl, rfl, _, rfl, D2, _, rfl, SqL.of (k8 _ _ nD2p eD2), fun D3 nD3 => ?_⟩
    rw [show (1 : Int) + (c : Int) = ((1 + c : Nat) : Int) by omega, cut_takeH, ← List.map_take]
    obtain ⟨m2, hm2⟩ : ∃ m2, m2 = 1 + c := ⟨_, rfl⟩
    rw [← hm2]
    have m21 : 1 ≤ m2 := by omega
    have m2n : m2 ≤ n := by omega
    clear hm2 c0 c1
    have sD3 := same_upd (o := .lst ((sb.take m2).map V.ref)) nD3
    have nD3p := b8.ne nD3
    have k58 : Keep p H5 (upd H8 D3 (.lst ((sb.take m2).map V.ref))) := (Keep.of (s6.trans s7)).trans (k8.trans (.of sD3))
    have b9 := b8.keep sD3
    have eD39 : (upd H8 D3 (.lst ((sb.take m2).map V.ref))) D3 = _ := upd_same
    have kk7 : Keep p H7 (upd H8 D3 (.lst ((sb.take m2).map V.ref))) := k8.trans (.of sD3)
    have hsb9 : Paired (StAt (upd H8 D3 (.lst ((sb.take m2).map V.ref)))) (sb.take m2) ((List.range m2).map fun k => (hNm f2 d2 b2' k, hNm f0 d0 b0 k)) := by
      have := paired_take m2 (paired_imp hsb fun a _ x h => h.kp kk7 b7)
      rw [← List.map_take, List.take_range, Nat.min_eq_left m2n] at this
      exact this
    have hsa9 : Paired (StAt (upd H8 D3 (.lst ((sb.take m2).map V.ref)))) sa _ := paired_imp hsa fun a _ x h => (show StAt H7 a x from s7 _ _ h).kp kk7 b7
    have eD19 := kk7 _ _ nD1p (s7 _ _ eD1)
    have eA09 := k58 _ _ nA0p eA05
    have ea39 := k58 _ _ na3p ea3
    have eSo9 := k58 _ _ nSop eSo
    have k09 := k05.trans k58
    clear hsa hsb eD2 eD1 ea26 eA06 eSo6
    have sb2 : (sb.take m2).length = m2 := by rw [List.length_take]; omega
    generalize sb.take m2 = sc at hsb9 eD39 sb2 k58 b9 kk7 hsa9 eD19 eA09 ea39 eSo9 k09 ⊢
    generalize upd H8 D3 (.lst (sc.map V.ref)) = H9 at hsb9 eD39 k58 b9 kk7 hsa9 eD19 eA09 ea39 eSo9 k09 ⊢
    clear kk7 k8 b8 sD3 nD3 s6 s7
    -- junctions
    refine ⟨.ref So, rfl, So, _, (2 : Int), .ref a3, rfl, rfl, SqL.of eSo9, rfl, ?_⟩
    refine ⟨.int (n : Int), rfl, _, 1, rfl, rfl, _, rfl, by omega, by omega, fun D4 nD4 => ?_⟩
    rw [show ((n : Int) - 1).toNat = n - 1 by omega]
    have nD4p := b9.ne nD4
    refine lc_it (walk_range (lo := 0) (n := n - 1)) (fun j Hx => Same H9 Hx ∧ ∃ ja : List Addr, Hx D4 = some (.lst (ja.map V.ref)) ∧ Paired (JnAt Hx) ja ((List.range j).map fun k => (hNm f3 d3 b3' k, [hNm f0 d0 b0 k, hNm f0 d0 b0 (k + 1)]))) ⟨same_upd nD4, [], upd_same, .nil⟩ (fun _ _ _ _ => trivial) (fun j x Hx Hx' hj pv y => ?_) (fun H10 pv => ?_)
    · have ex : x = V.int (j : Int) := by first | exact (y.1).trans (congrArg V.int (Int.zero_add _)) | exact (y.2).trans (congrArg V.int (Int.zero_add _))
      have eh : Hx' = Hx := by first | exact y.1 | exact y.2
      subst ex
      subst eh
      obtain ⟨sx, ja, eD, hja⟩ := pv
      have jl := paired_len hja
      rw [List.length_map, List.length_range] at jl
      refine ⟨rfl, yes_ ⟨.ref a3, rfl, .int (j : Int), rfl, a3, _, _, _, rfl, rfl, SqL.of (sx _ _ ea39), atI_nat (nmZ _ _ _ _ _ (by omega)), .ref A0, rfl, .int (j : Int), rfl, A0, _, _, _, rfl, rfl, SqL.of (sx _ _ eA09), atI_nat (nmZ _ _ _ _ _ (by omega)), .ref A0, rfl, .int (j : Int), rfl, _, 1, rfl, rfl, A0, _, _, nS (hNm f0 d0 b0 (j + 1)), rfl, rfl, SqL.of (sx _ _ eA09), ?_, two_sz, fun u nu => ?_⟩⟩
      · rw [show (j : Int) + 1 = ((j + 1 : Nat) : Int) by omega]
        exact atI_nat (nmZ _ _ _ _ _ (by omega))
      have su := same_upd (o := .tup [nS (hNm f0 d0 b0 j), nS (hNm f0 d0 b0 (j + 1))]) nu
      refine ⟨two_sz, fun v nv => ?_⟩
      have suv := su.trans (same_upd (o := .tup [nS (hNm f3 d3 b3' j), .ref u]) nv)
      have eDu := suv _ _ eD
      have tk := tk_updl (o := .lst (ja.map V.ref ++ [.ref v])) eDu
      refine ⟨_, eDu, by rw [List.length_map]; exact small5000 (by omega), same_set (sx.trans suv) nD4, ja ++ [v], by rw [upd_same, List.map_append]; rfl, ?_⟩
      rw [List.range_succ, List.map_append]
      exact paired_snoc (paired_imp hja fun a _ x ⟨c, h1, h2⟩ => ⟨c, tk.t _ _ (suv _ _ h1), tk.t _ _ (suv _ _ h2)⟩) ⟨u, tk.t _ _ upd_same, tk.t _ _ (same_upd nv _ _ upd_same)⟩
    obtain ⟨s10, ja, eD4, hja⟩ := pv
    have jal := paired_len hja
    rw [List.length_map, List.length_range] at jal
    -- ties
    refine ⟨Nat.zero_le _, fun Ta nTa => ?_⟩
    have s11 := s10.trans (same_upd (o := .lst []) nTa)
    have nTap : Ta ≠ p := (b9.keep s10).ne nTa
    have nTaD4 : Ta ≠ D4 := (ne_of_none eD4 nTa).symm
    have n9Ta : H9 Ta = none := up0 s10 nTa
    have b11 := b9.keep s11
    have eTa : (upd H10 Ta (.lst [])) Ta = some (.lst (([] : List Addr).map V.ref)) := upd_same
    have eD411 := same_upd (o := .lst []) nTa _ _ eD4
    have hja11 : Paired (JnAt (upd H10 Ta (.lst []))) ja _ := paired_imp hja fun a _ x ⟨c, h1, h2⟩ => ⟨c, same_upd nTa _ _ h1, same_upd nTa _ _ h2⟩
    have hn9 : ∀ {a : Addr} {xs : List V}, H9 a = some (.lst xs) → a ≠ Ta := fun h z => by rw [z, n9Ta] at h; cases h
    generalize upd H10 Ta (.lst []) = H11 at s11 b11 eTa eD411 hja11 ⊢
    clear hja eD4 s10 nTa
    have n9D4 : H9 D4 = none := nD4
    have h11 : TsS H9 (H11) p Ta D4 [] [] ja ((List.range (n - 1)).map fun k => (hNm f3 d3 b3' k, [hNm f0 d0 b0 k, hNm f0 d0 b0 (k + 1)])) := ⟨.of s11, b11, eTa, .nil, eD411, hja11⟩
    clear s11 b11 eTa eD411 hja11
    have chOk : ∀ (m : Int) (c : Int), m ≤ 9999 → 0 ≤ c → c < m → ∃ m : Nat, 1 + c = (m : Int) ∧ 1 ≤ m ∧ m ≤ 9999 := fun m c hm h0 h1 => ⟨(1 + c).toNat, by omega, by omega, by omega⟩
    have stat : ∀ {Hx : Hp}, Keep p H9 Hx → ∀ k, k < n → ∃ t, (sa.map V.ref)[k]? = some (.ref t) ∧ Hx t = some (.tup [nS (hNm f1 d1 b1' k), nS (hNm f0 d0 b0 k)]) := fun {Hx} kx k hk => by
      have e : sa[k]? = some sa[k] := List.getElem?_eq_getElem (by omega)
      obtain ⟨x, ex, hx⟩ := paired_get hsa9 e
      rw [List.getElem?_map, List.getElem?_range hk] at ex
      have ex := (Option.some.inj ex).symm
      subst ex
      exact ⟨sa[k], by rw [List.getElem?_map, e]; rfl, hx.kp kx b9⟩
    have secd : ∀ {Hx : Hp}, Keep p H9 Hx → ∀ k, k < m2 → ∃ t, (sc.map V.ref)[k]? = some (.ref t) ∧ Hx t = some (.tup [nS (hNm f2 d2 b2' k), nS (hNm f0 d0 b0 k)]) := fun {Hx} kx k hk => by
      have e : sc[k]? = some sc[k] := List.getElem?_eq_getElem (by omega)
      obtain ⟨x, ex, hx⟩ := paired_get hsb9 e
      rw [List.getElem?_map, List.getElem?_range hk] at ex
      have ex := (Option.some.inj ex).symm
      subst ex
      exact ⟨sc[k], by rw [List.getElem?_map, e]; rfl, hx.kp kx b9⟩
    refine ⟨.int (n : Int), rfl, _, 1, rfl, rfl, _, rfl, by omega, by omega, ?_⟩
    rw [show ((n : Int) - 1).toNat = n - 1 by omega]
    refine for_range (lo := 0) (n := n - 1) (fun i σ Hx => ∃ (y11 : Option V) (ta : List Addr) (tis : List Ti), σ = [some (.ref p), some (.int (n : Int)), some (.ref G), some (.int (sd : Int)), some (.ref A0), some (.ref So), some (.ref D1), some (.ref D3), some (.ref a3), some (.ref D4), some (.ref Ta), y11, none, none, none, none] ∧ TsS H9 Hx p Ta D4 ta tis ja ((List.range (n - 1)).map fun k => (hNm f3 d3 b3' k, [hNm f0 d0 b0 k, hNm f0 d0 b0 (k + 1)])) ∧ tis.map tiK = hT1 i (hNm f0 d0 b0) (hNm f1 d1 b1') (hNm f3 d3 b3') ∧ (∀ t ∈ tis, 1 ≤ t.ch ∧ t.ch ≤ 9999) ∧ tis.length = 2 * i)
      ⟨_, [], [], rfl, h11, rfl, fun t h => (by cases h), rfl⟩ (fun i σ Hx hi hp => ?_) (fun σ H12 hp => ?_)
    · obtain ⟨y11, ta, tis, rfl, hx, htk, htc, htl⟩ := hp
      have tal := paired_len hx.hT
      obtain ⟨st1, es1, ht1⟩ := stat hx.k i (by omega)
      have zi : V.int (0 + (i : Int)) = .int (i : Int) := by rw [Int.zero_add]
      refine ⟨.ref Ta, rfl, .inl ⟨rfl, _, SqL.of hx.eT⟩, .ref D1, rfl, .int (0 + (i : Int)), rfl, D1, _, _, .ref st1, rfl, rfl, SqL.of (hx.k _ _ nD1p eD19), by rw [Int.zero_add]; exact atI_nat es1, st1, _, (0 : Int), _, rfl, rfl, SqT.of ht1, rfl, .ref a3, rfl, .int (0 + (i : Int)), rfl, a3, _, _, _, rfl, rfl, SqL.of (hx.k _ _ na3p ea39), by rw [Int.zero_add]; exact atI_nat (nmZ _ _ _ _ _ (by omega)), .ref A0, rfl, .int (0 + (i : Int)), rfl, A0, _, _, _, rfl, rfl, SqL.of (hx.k _ _ nA0p eA09), by rw [Int.zero_add]; exact atI_nat (nmZ _ _ _ _ _ (by omega)), .ref p, rfl, p, 9999, rfl, hx.b, by decide, by decide, fun Hy c ky by_ c0 c1 => ?_⟩
      have hy := hx.keep nTap nD4p ky by_
      obtain ⟨ch, ech, ch1, ch2⟩ := chOk 9999 c (by omega) c0 c1
      refine ⟨1, c, rfl, rfl, four_sz, fun u nu => ?_⟩
      rw [show (fun i j : Int => V.int (i + j)) 1 c = V.int (ch : Int) from congrArg V.int ech]
      have su := same_upd (o := .tup [nS (hNm f1 d1 b1' i), nS (hNm f3 d3 b3' i), nS (hNm f0 d0 b0 i), .int (ch : Int)]) nu
      have hz := hy.keep nTap nD4p (.of su) (hy.b.keep su)
      have hu : TiAt (upd Hy u (.tup [nS (hNm f1 d1 b1' i), nS (hNm f3 d3 b3' i), nS (hNm f0 d0 b0 i), .int (ch : Int)])) u ⟨hNm f1 d1 b1' i, hNm f3 d3 b3' i, hNm f0 d0 b0 i, ch⟩ := upd_same
      refine ⟨Ta, _, _, rfl, rfl, hz.eT, by rw [List.length_map]; exact small5000 (by omega), ?_⟩
      have hw := hz.addT nTap n9Ta nTaD4 hu
      generalize upd (upd Hy u (.tup [nS (hNm f1 d1 b1' i), nS (hNm f3 d3 b3' i), nS (hNm f0 d0 b0 i), .int (ch : Int)])) Ta (.lst (ta.map V.ref ++ [.ref u])) = Hw at hw ⊢
      clear hx hy hz hu su
      obtain ⟨st2, es2, ht2⟩ := stat hw.k (i + 1) (by omega)
      have i1 : (0 : Int) + (i : Int) + 1 = ((i + 1 : Nat) : Int) := by omega
      refine ⟨.ref Ta, rfl, .inl ⟨rfl, _, SqL.of hw.eT⟩, .ref a3, rfl, .int (0 + (i : Int)), rfl, a3, _, _, _, rfl, rfl, SqL.of (hw.k _ _ na3p ea39), by rw [Int.zero_add]; exact atI_nat (nmZ _ _ _ _ _ (by omega)), .ref D1, rfl, .int (0 + (i : Int)), rfl, _, 1, rfl, rfl, D1, _, _, .ref st2, rfl, rfl, SqL.of (hw.k _ _ nD1p eD19), by rw [i1]; exact atI_nat es2, st2, _, (0 : Int), _, rfl, rfl, SqT.of ht2, rfl, .ref A0, rfl, .int (0 + (i : Int)), rfl, _, 1, rfl, rfl, A0, _, _, nS (hNm f0 d0 b0 (i + 1)), rfl, rfl, SqL.of (hw.k _ _ nA0p eA09), by rw [i1]; exact atI_nat (nmZ _ _ _ _ _ (by omega)), .ref p, rfl, p, 60, rfl, hw.b, by decide, by decide, fun Hy c ky by_ c0 c1 => ?_⟩
      have hy := hw.keep nTap nD4p ky by_
      obtain ⟨ch', ech', ch1', ch2'⟩ := chOk 60 c (by omega) c0 c1
      refine ⟨1, c, rfl, rfl, four_sz, fun u' nu' => ?_⟩
      rw [show (fun i j : Int => V.int (i + j)) 1 c = V.int (ch' : Int) from congrArg V.int ech']
      have su := same_upd (o := .tup [nS (hNm f3 d3 b3' i), nS (hNm f1 d1 b1' (i + 1)), nS (hNm f0 d0 b0 (i + 1)), .int (ch' : Int)]) nu'
      have hz := hy.keep nTap nD4p (.of su) (hy.b.keep su)
      have hu : TiAt (upd Hy u' (.tup [nS (hNm f3 d3 b3' i), nS (hNm f1 d1 b1' (i + 1)), nS (hNm f0 d0 b0 (i + 1)), .int (ch' : Int)])) u' ⟨hNm f3 d3 b3' i, hNm f1 d1 b1' (i + 1), hNm f0 d0 b0 (i + 1), ch'⟩ := upd_same
      refine ⟨Ta, _, _, rfl, rfl, hz.eT, by rw [List.length_map, List.length_append]; exact small5000 (by show _ + 1 ≤ 5000; omega), ?_⟩
      have hv := hz.addT nTap n9Ta nTaD4 hu
      refine ⟨_, _, _, rfl, hv, ?_, fun t ht => ?_, by rw [List.length_append, List.length_append, htl]; show 2 * i + 1 + 1 = _; omega⟩
      · rw [List.map_append, List.map_append, htk]
        unfold hT1
        rw [List.range_succ, List.map_append, List.flatten_append, List.append_assoc]
        rfl
      · rcases List.mem_append.mp ht with z | z
        · rcases List.mem_append.mp z with z | z
          · exact htc t z
          · rw [List.mem_singleton.mp z]; exact ⟨ch1, ch2⟩
        · rw [List.mem_singleton.mp z]; exact ⟨ch1', ch2'⟩
    obtain ⟨y11, ta, tis, rfl, h12, htk, htc, htl⟩ := hp
    refine ⟨.int (n : Int), rfl, _, 2, rfl, rfl, _, rfl, by omega, by omega, ?_⟩
    rw [show ((n : Int) - 2).toNat = n - 2 by omega]
    refine for_range (lo := 0) (n := n - 2) (fun i σ Hx => ∃ (y11 : Option V) (ta : List Addr) (tis : List Ti), σ = [some (.ref p), some (.int (n : Int)), some (.ref G), some (.int (sd : Int)), some (.ref A0), some (.ref So), some (.ref D1), some (.ref D3), some (.ref a3), some (.ref D4), some (.ref Ta), y11, none, none, none, none] ∧ TsS H9 Hx p Ta D4 ta tis ja ((List.range (n - 1)).map fun k => (hNm f3 d3 b3' k, [hNm f0 d0 b0 k, hNm f0 d0 b0 (k + 1)])) ∧ tis.map tiK = hT1 (n - 1) (hNm f0 d0 b0) (hNm f1 d1 b1') (hNm f3 d3 b3') ++ hT2 i (hNm f0 d0 b0) (hNm f3 d3 b3') ∧ (∀ t ∈ tis, 1 ≤ t.ch ∧ t.ch ≤ 9999) ∧ tis.length ≤ 14 + i)
      ⟨_, ta, tis, rfl, h12, by rw [htk]; exact (List.append_nil _).symm, htc, by omega⟩ (fun i σ Hx hi hp => ?_) (fun σ H13 hp => ?_)
    · obtain ⟨y11, ta, tis, rfl, hx, htk, htc, htl⟩ := hp
      have tal := paired_len hx.hT
      have i1 : (0 : Int) + (i : Int) + 1 = ((i + 1 : Nat) : Int) := by omega
      refine ⟨.ref Ta, rfl, .inl ⟨rfl, _, SqL.of hx.eT⟩, .ref a3, rfl, .int (0 + (i : Int)), rfl, a3, _, _, _, rfl, rfl, SqL.of (hx.k _ _ na3p ea39), by rw [Int.zero_add]; exact atI_nat (nmZ _ _ _ _ _ (by omega)), .ref a3, rfl, .int (0 + (i : Int)), rfl, _, 1, rfl, rfl, a3, _, _, nS (hNm f3 d3 b3' (i + 1)), rfl, rfl, SqL.of (hx.k _ _ na3p ea39), by rw [i1]; exact atI_nat (nmZ _ _ _ _ _ (by omega)), .ref A0, rfl, .int (0 + (i : Int)), rfl, _, 1, rfl, rfl, A0, _, _, nS (hNm f0 d0 b0 (i + 1)), rfl, rfl, SqL.of (hx.k _ _ nA0p eA09), by rw [i1]; exact atI_nat (nmZ _ _ _ _ _ (by omega)), .ref p, rfl, p, 60, rfl, hx.b, by decide, by decide, fun Hy c ky by_ c0 c1 => ?_⟩
      have hy := hx.keep nTap nD4p ky by_
      obtain ⟨ch', ech', ch1', ch2'⟩ := chOk 60 c (by omega) c0 c1
      refine ⟨1, c, rfl, rfl, four_sz, fun u' nu' => ?_⟩
      rw [show (fun i j : Int => V.int (i + j)) 1 c = V.int (ch' : Int) from congrArg V.int ech']
      have su := same_upd (o := .tup [nS (hNm f3 d3 b3' i), nS (hNm f3 d3 b3' (i + 1)), nS (hNm f0 d0 b0 (i + 1)), .int (ch' : Int)]) nu'
      have hz := hy.keep nTap nD4p (.of su) (hy.b.keep su)
      have hu : TiAt (upd Hy u' (.tup [nS (hNm f3 d3 b3' i), nS (hNm f3 d3 b3' (i + 1)), nS (hNm f0 d0 b0 (i + 1)), .int (ch' : Int)])) u' ⟨hNm f3 d3 b3' i, hNm f3 d3 b3' (i + 1), hNm f0 d0 b0 (i + 1), ch'⟩ := upd_same
      refine ⟨Ta, _, _, rfl, rfl, hz.eT, by rw [List.length_map]; exact small5000 (by omega), ?_⟩
      refine ⟨_, _, _, rfl, hz.addT nTap n9Ta nTaD4 hu, ?_, fun t ht => ?_, by rw [List.length_append]; show tis.length + 1 ≤ _; omega⟩
      · rw [List.map_append, htk]
        unfold hT2
        rw [List.range_succ, List.map_append, List.append_assoc]
        rfl
      · rcases List.mem_append.mp ht with z | z
        · exact htc t z
        · rw [List.mem_singleton.mp z]; exact ⟨ch1', ch2'⟩
    obtain ⟨y11, ta, tis, rfl, h13, htk, htc, htl⟩ := hp
    refine ⟨.ref D3, rfl, D3, _, rfl, .inl (SqL.of (h13.k _ _ nD3p eD39)), _, rfl, by rw [List.length_map]; omega, by rw [List.length_map]; omega, ?_⟩
    rw [List.length_map, sb2, Int.toNat_natCast]
    refine for_range (lo := 0) (n := m2) (fun i σ Hx => ∃ (y11 : Option V) (ta : List Addr) (tis : List Ti), σ = [some (.ref p), some (.int (n : Int)), some (.ref G), some (.int (sd : Int)), some (.ref A0), some (.ref So), some (.ref D1), some (.ref D3), some (.ref a3), some (.ref D4), some (.ref Ta), y11, none, none, none, none] ∧ TsS H9 Hx p Ta D4 ta tis ja ((List.range (n - 1)).map fun k => (hNm f3 d3 b3' k, [hNm f0 d0 b0 k, hNm f0 d0 b0 (k + 1)])) ∧ tis.map tiK = hT1 (n - 1) (hNm f0 d0 b0) (hNm f1 d1 b1') (hNm f3 d3 b3') ++ hT2 (n - 2) (hNm f0 d0 b0) (hNm f3 d3 b3') ++ hT3 i (hNm f0 d0 b0) (hNm f1 d1 b1') (hNm f2 d2 b2') ∧ (∀ t ∈ tis, 1 ≤ t.ch ∧ t.ch ≤ 9999) ∧ tis.length ≤ 20 + i)
      ⟨_, ta, tis, rfl, h13, by rw [htk]; exact (List.append_nil _).symm, htc, by omega⟩ (fun i σ Hx hi hp => ?_) (fun σ H14 hp => ?_)
    · obtain ⟨y11, ta, tis, rfl, hx, htk, htc, htl⟩ := hp
      have tal := paired_len hx.hT
      obtain ⟨st1, es1, ht1⟩ := stat hx.k i (by omega)
      obtain ⟨sc1, ec1, hc1⟩ := secd hx.k i hi
      refine ⟨.ref Ta, rfl, .inl ⟨rfl, _, SqL.of hx.eT⟩, .ref D3, rfl, .int (0 + (i : Int)), rfl, D3, _, _, .ref sc1, rfl, rfl, SqL.of (hx.k _ _ nD3p eD39), by rw [Int.zero_add]; exact atI_nat ec1, sc1, _, (0 : Int), _, rfl, rfl, SqT.of hc1, rfl, .ref D1, rfl, .int (0 + (i : Int)), rfl, D1, _, _, .ref st1, rfl, rfl, SqL.of (hx.k _ _ nD1p eD19), by rw [Int.zero_add]; exact atI_nat es1, st1, _, (0 : Int), _, rfl, rfl, SqT.of ht1, rfl, .ref A0, rfl, .int (0 + (i : Int)), rfl, A0, _, _, _, rfl, rfl, SqL.of (hx.k _ _ nA0p eA09), by rw [Int.zero_add]; exact atI_nat (nmZ _ _ _ _ _ (by omega)), .ref p, rfl, p, 60, rfl, hx.b, by decide, by decide, fun Hy c ky by_ c0 c1 => ?_⟩
      have hy := hx.keep nTap nD4p ky by_
      obtain ⟨ch', ech', ch1', ch2'⟩ := chOk 60 c (by omega) c0 c1
      refine ⟨1, c, rfl, rfl, four_sz, fun u' nu' => ?_⟩
      rw [show (fun i j : Int => V.int (i + j)) 1 c = V.int (ch' : Int) from congrArg V.int ech']
      have su := same_upd (o := .tup [nS (hNm f2 d2 b2' i), nS (hNm f1 d1 b1' i), nS (hNm f0 d0 b0 i), .int (ch' : Int)]) nu'
      have hz := hy.keep nTap nD4p (.of su) (hy.b.keep su)
      have hu : TiAt (upd Hy u' (.tup [nS (hNm f2 d2 b2' i), nS (hNm f1 d1 b1' i), nS (hNm f0 d0 b0 i), .int (ch' : Int)])) u' ⟨hNm f2 d2 b2' i, hNm f1 d1 b1' i, hNm f0 d0 b0 i, ch'⟩ := upd_same
      refine ⟨Ta, _, _, rfl, rfl, hz.eT, by rw [List.length_map]; exact small5000 (by omega), ?_⟩
      refine ⟨_, _, _, rfl, hz.addT nTap n9Ta nTaD4 hu, ?_, fun t ht => ?_, by rw [List.length_append]; show tis.length + 1 ≤ _; omega⟩
      · rw [List.map_append, htk]
        unfold hT3
        rw [List.range_succ, List.map_append, List.append_assoc]
        rfl
      · rcases List.mem_append.mp ht with z | z
        · exact htc t z
        · rw [List.mem_singleton.mp z]; exact ⟨ch1', ch2'⟩
    obtain ⟨y11, ta, tis, rfl, h14, htk, htc, htl⟩ := hp
    -- further junctions
    refine ⟨.ref p, rfl, p, 4, rfl, h14.b, by decide, by decide, fun H15 c k15 b15 c0 c1 => ?_⟩
    have h15 := h14.keep nTap nD4p k15 b15
    refine ⟨.int (n : Int), rfl, _, 2, rfl, rfl, .inr ⟨_, rfl, c, _, rfl, rfl, .inl ⟨by omega, by omega⟩, ?_⟩⟩
    obtain ⟨m, em, m3, mn⟩ : ∃ m : Nat, (c * if decide ((n : Int) > 2) = true then (1 : Int) else 0) = (m : Int) ∧ m ≤ 3 ∧ (0 < m → 2 < n) := by
      by_cases z : (n : Int) > 2
      · rw [if_pos (decide_eq_true z), Int.mul_one]
        exact ⟨c.toNat, by omega, by omega, fun _ => by omega⟩
      · rw [if_neg (fun w => z (of_decide_eq_true w)), Int.mul_zero]
        exact ⟨0, rfl, by decide, fun z => absurd z (by decide)⟩
    refine ⟨_, rfl, ?_, ?_, ?_⟩
    · show -(2 ^ 62) ≤ (c * if decide ((n : Int) > 2) = true then (1 : Int) else 0)
      rw [em]; omega
    · show (c * if decide ((n : Int) > 2) = true then (1 : Int) else 0) < 2 ^ 62
      rw [em]; omega
    rw [show (c * if decide ((n : Int) > 2) = true then (1 : Int) else 0).toNat = m by rw [em]; exact Int.toNat_natCast _]
    refine for_range (lo := 0) (n := m) (fun i σ Hx => ∃ (y5 y11 : Option V) (jxa : List Addr) (jx : List (Nm × List Nm)), σ = [some (.ref p), some (.int (n : Int)), some (.ref G), some (.int (sd : Int)), some (.ref A0), y5, some (.ref D1), some (.ref D3), some (.ref a3), some (.ref D4), some (.ref Ta), y11, none, none, none, none] ∧ TsS H9 Hx p Ta D4 ta tis (ja ++ jxa) (hJns n (hNm f0 d0 b0) (hNm f3 d3 b3') ++ jx) ∧ jx.length ≤ i ∧ (jx.map (·.1)).Nodup ∧ ∀ x ∈ jx, JxOk n (hNm f0 d0 b0) (hNm f3 d3 b3') i x)
      ⟨_, _, [], [], rfl, by rw [List.append_nil, List.append_nil]; exact h15, Nat.le_refl _, List.nodup_nil, fun x h => by cases h⟩ (fun i σ Hx hi hp => ?_) (fun σ H16 hp => ?_)
    · obtain ⟨y5, y11, jxa, jx, rfl, hx, jxl, jxn, jxo⟩ := hp
      have n2 : 2 < n := mn (by omega)
      refine ⟨.ref p, rfl, .int (n : Int), rfl, p, n, rfl, hx.b, by omega, by omega, fun Ha x1 ka ba x10 x11 => ?_⟩
      refine ⟨.ref p, rfl, .int (n : Int), rfl, p, n, rfl, ba, by omega, by omega, fun Hb x2 kb bb x20 x21 => ?_⟩
      refine ⟨.ref p, rfl, .int (n : Int), rfl, p, n, rfl, bb, by omega, by omega, fun Hc x3 kc bc x30 x31 => ?_⟩
      have hc := hx.keep nTap nD4p ((ka.trans kb).trans kc) bc
      refine ⟨by show 3 ≤ sizeLine; decide, fun S nS' => ?_⟩
      have sS := same_upd (o := .lst [.int x1, .int x2, .int x3]) nS'
      have hd := hc.keep nTap nD4p (.of sS) (hc.b.keep sS)
      have eS : (upd Hc S (.lst [.int x1, .int x2, .int x3])) S = some (.lst (([x1, x2, x3] : List Int).map V.int)) := upd_same
      generalize upd Hc S (.lst [.int x1, .int x2, .int x3]) = Hd at hd eS ⊢
      refine ⟨S, [x1, x2, x3], rfl, SqL.of eS, by show 3 ≤ 1000; decide, fun se c nse hc => ?_⟩
      have s1 := same_upd (o := SetO (cxOf CX0 P w K mg base N_l_net (Str.ofString "_law_net") (defScope s_l_net) T.a_l_net cdv A outer s H E).nox.w se (fun j => decide (j ∈ [x1, x2, x3])) c) nse
      have he := hd.keep nTap nD4p (.of s1) (hd.b.keep s1)
      refine ⟨se, _, c, rfl, upd_same, by have : [x1, x2, x3].length = 3 := rfl; omega, fun ns so pw mem len nso => ?_⟩
      have s2 := same_upd (o := .lst (ns.map V.int)) nso
      have hf := he.keep nTap nD4p (.of s2) (he.b.keep s2)
      have memx : ∀ x, x ∈ ns ↔ x ∈ [x1, x2, x3] := fun x => (mem x).trans decide_eq_true_iff
      have hns : ∀ x ∈ ns, 0 ≤ x ∧ x < n := fun x h => by
        have := (memx x).mp h
        simp only [List.mem_cons, List.not_mem_nil, or_false] at this
        omega
      have eso : (upd (upd Hd se (SetO (cxOf CX0 P w K mg base N_l_net (Str.ofString "_law_net") (defScope s_l_net) T.a_l_net cdv A outer s H E).nox.w se (fun j => decide (j ∈ [x1, x2, x3])) c)) so (.lst (ns.map V.int))) so = some (.lst (jV (ns.map Int.toNat))) := by
        rw [upd_same, ints_natsH fun x h => (hns x h).1]
      have nsD4 : so ≠ D4 := (ne_of_none he.eD nso).symm
      generalize upd (upd Hd se (SetO (cxOf CX0 P w K mg base N_l_net (Str.ofString "_law_net") (defScope s_l_net) T.a_l_net cdv A outer s H E).nox.w se (fun j => decide (j ∈ [x1, x2, x3])) c)) so (.lst (ns.map V.int)) = Hf at hf eso ⊢
      have hjs : ∀ j ∈ ns.map Int.toNat, j < n := fun j hj => by
        obtain ⟨x, hx, rfl⟩ := List.mem_map.mp hj
        have := hns x hx
        omega
      have hpw : (ns.map Int.toNat).Pairwise (· < ·) := by
        rw [List.pairwise_map]
        refine pw.imp_of_mem fun {a b} ha hb h => ?_
        have := hns a ha
        have := hns b hb
        omega
      have l3 : [x1, x2, x3].length = 3 := rfl
      have nl : (ns.map Int.toNat).length ≤ 3 := by rw [List.length_map]; omega
      generalize ns.map Int.toNat = js at eso hjs hpw nl
      have jlV : (jV js).length = js.length := List.length_map _
      refine ⟨.ref so, rfl, so, _, rfl, .inl (SqL.of eso), _, 1, rfl, rfl, _, rfl, ite2 (fun c2 => ?_) (fun c2 => ?_)⟩
      · have c2 := of_decide_eq_true c2
        rw [jlV] at c2
        refine ⟨.ref D4, rfl, .inl ⟨rfl, _, SqL.of hf.eD⟩, .ref a3, rfl, .int (n : Int), rfl, _, 1, rfl, rfl, .int (0 + (i : Int)), rfl, _, _, rfl, rfl, a3, _, _, nS (hNm f3 d3 b3' (n - 1 + i)), rfl, rfl, SqL.of (hf.k _ _ na3p ea39), ?_, .ref so, rfl, so, rfl, ⟨_, SqL.of eso⟩, fun M nM => ?_⟩
        · rw [show (n : Int) - 1 + (0 + (i : Int)) = ((n - 1 + i : Nat) : Int) by omega]
          exact atI_nat (nmZ _ _ _ _ _ (by omega))
        refine lc_it (walk_list (xs := jV js)) (fun j Hy => Same Hf Hy ∧ Hy M = some (.lst (((js.take j).map (hNm f0 d0 b0)).map nS))) ⟨same_upd nM, upd_same⟩ (fun j Hy _ pv => SqL.of (pv.1 _ _ eso)) (fun j v Hy₀ Hy hj pv yy => ?_) (fun Hg pv => ?_)
        · obtain ⟨rfl, ey⟩ := yy
          obtain ⟨sy, eM⟩ := pv
          rw [jlV] at hj
          have ev : v = .int ((js[j] : Nat) : Int) := by
            rw [List.getElem?_map, List.getElem?_eq_getElem hj] at ey
            exact (Option.some.inj ey).symm
          subst ev
          have hlt := hjs _ (List.getElem_mem hj)
          refine ⟨rfl, yes_ ⟨.ref A0, rfl, .int ((js[j] : Nat) : Int), rfl, A0, _, _, _, rfl, rfl, SqL.of (sy _ _ (hf.k _ _ nA0p eA09)), atI_nat (nmZ _ _ _ _ _ hlt), _, eM, by rw [List.length_map, List.length_map, List.length_take]; exact small5000 (by omega), same_set sy nM, ?_⟩⟩
          rw [upd_same, List.take_add_one, List.getElem?_eq_getElem hj, List.map_append, List.map_append]
          rfl
        obtain ⟨sg, eM⟩ := pv
        rw [jlV, List.take_length] at eM
        have hg := hf.keep nTap nD4p (.of sg) (hf.b.keep sg)
        refine ⟨M, _, rfl, .inl ⟨SqL.of eM, fun u nu => ⟨two_sz, fun v nv => ?_⟩⟩⟩
        have su := same_upd (o := .tup ((js.map (hNm f0 d0 b0)).map nS)) nu
        have sv := same_upd (o := .tup [nS (hNm f3 d3 b3' (n - 1 + i)), .ref u]) nv
        have suv := su.trans sv
        have hh := hg.keep nTap nD4p (.of suv) (hg.b.keep suv)
        have hj' : JnAt (upd (upd Hg u (.tup ((js.map (hNm f0 d0 b0)).map nS))) v (.tup [nS (hNm f3 d3 b3' (n - 1 + i)), .ref u])) v (hNm f3 d3 b3' (n - 1 + i), js.map (hNm f0 d0 b0)) := ⟨u, upd_same, sv _ _ upd_same⟩
        have jal2 := paired_len hh.hJ
        refine ⟨D4, _, _, rfl, rfl, hh.eD, ?_, ?_⟩
        · rw [List.length_map, jal2, List.length_append]
          unfold hJns
          rw [List.length_map, List.length_range]
          exact small5000 (by omega)
        refine ⟨_, _, jxa ++ [v], jx ++ [(hNm f3 d3 b3' (n - 1 + i), js.map (hNm f0 d0 b0))], rfl, ?_, by rw [List.length_append]; show jx.length + 1 ≤ _; omega, ?_, fun x hx' => ?_⟩
        · rw [← List.append_assoc, ← List.append_assoc]
          exact hh.addJ nD4p n9D4 nTaD4 hj'
        · rw [List.map_append]
          refine List.nodup_append.mpr ⟨jxn, List.pairwise_singleton _ _, fun a ha b hb => ?_⟩
          obtain ⟨x, hx', rfl⟩ := List.mem_map.mp ha
          have hb := List.mem_singleton.mp hb
          obtain ⟨k, hk, hk3, ek⟩ := (jxo x hx').at_
          intro z
          rw [ek, hb] at z
          have := hNm_inj (by omega) (by omega) z
          omega
        · rcases List.mem_append.mp hx' with z | z
          · exact (jxo x z).more
          · rw [List.mem_singleton.mp z]
            exact ⟨⟨i, by omega, by omega, rfl⟩, js, hpw, hjs, by omega, rfl⟩
      · exact ⟨_, _, jxa, jx, rfl, hf, by omega, jxn, fun x hx' => (jxo x hx').more⟩
    obtain ⟨y5, y11, jxa, jx, rfl, h16, jxl, jxn, jxo⟩ := hp
    have jxo3 : ∀ x ∈ jx, JxOk n (hNm f0 d0 b0) (hNm f3 d3 b3') 3 x := fun x hx => ⟨let ⟨k, a, b, c⟩ := (jxo x hx).at_; ⟨k, b, b, c⟩, (jxo x hx).ls⟩
    -- the four tuples
    refine ⟨.ref A0, rfl, A0, _, rfl, SqL.of (h16.k _ _ nA0p eA09), fun ra H17 _ s17 tra _ => ?_⟩
    have h17 := h16.keep nTap nD4p (.of s17) (h16.b.keep s17)
    refine ⟨.ref D1, rfl, .ref D3, rfl, D1, D3, _, _, rfl, rfl, h17.k _ _ nD1p eD19, h17.k _ _ nD3p eD39, by rw [List.length_map, List.length_map, sb2, sal]; exact Nat.le_of_lt (small5000 (by omega)), fun M nM => ?_⟩
    have sM := same_upd (o := .lst (sa.map V.ref ++ sc.map V.ref)) nM
    have h18 := h17.keep nTap nD4p (.of sM) (h17.b.keep sM)
    have eM : (upd H17 M (.lst (sa.map V.ref ++ sc.map V.ref))) M = some (.lst ((sa ++ sc).map V.ref)) := by rw [upd_same, List.map_append]
    have tra := tra.same sM
    generalize upd H17 M (.lst (sa.map V.ref ++ sc.map V.ref)) = H18 at h18 eM tra ⊢
    refine ⟨M, _, rfl, SqL.of eM, fun rb H19 _ s19 trb _ => ?_⟩
    have h19 := h18.keep nTap nD4p (.of s19) (h18.b.keep s19)
    have tra := tra.same s19
    refine ⟨.ref D4, rfl, D4, _, rfl, SqL.of h19.eD, fun rc H20 _ s20 trc _ => ?_⟩
    have h20 := h19.keep nTap nD4p (.of s20) (h19.b.keep s20)
    have tra := tra.same s20
    have trb := trb.same s20
    refine ⟨.ref Ta, rfl, Ta, _, rfl, SqL.of h20.eT, fun rd H21 _ s21 trd _ => ?_⟩
    have h21 := h20.keep nTap nD4p (.of s21) (h20.b.keep s21)
    have tra := tra.same s21
    have trb := trb.same s21
    have trc := trc.same s21
    refine ⟨four_sz, fun r nr => ?_⟩
    have sr := same_upd (o := .tup [.ref ra, .ref rb, .ref rc, .ref rd]) nr
    have h22 := h21.keep nTap nD4p (.of sr) (h21.b.keep sr)
    refine q _ r n m2 kk sd f0 b0 f1 b1' f2 b2' f3 b3' d0 d1 d2 d3 jx tis (k09.trans h22.k) h22.b ⟨⟨ra, rb, rc, rd, sa ++ sc, ja ++ jxa, ta, upd_same, tra.same sr, trb.same sr, ?_, trc.same sr, h22.hJ, trd.same sr, h22.hT⟩, n1, n8, m21, m2n, sd1, hns, by omega, jxn, jxo3, htk, htc⟩
    exact paired_append (paired_imp hsa9 fun a _ x h => h.kp h22.k b9) (paired_imp hsb9 fun a _ x h => h.kp h22.k b9)
end
end Th
namespace Th
open PySem PySem.Spec PyProof.Rows L2
/-! papers as data -/
theorem un65 {k : Nat} {A : Around} (h : Room k A) : A.units + 65 < cLine := by have := h.un; omega
structure Pp where
  kd : Str
  num : Int
  ed : Int
  rest : List PyData
def ppD (x : Pp) : PyData := .tuple (.str x.kd :: .int x.num :: .int x.ed :: x.rest)
structure PpOk (x : Pp) : Prop where
  lay : (ppD x).canLay0 = true
  dep : (ppD x).depth ≤ 10
theorem shaped_pp {x : Pp} (h : PpOk x) : SeqAt.shaped (ppD x) = true := Bool.and_eq_true_iff.mpr ⟨h.lay, decide_eq_true (by have := h.dep; omega)⟩
theorem pp_inv {S : Addr → Prop} {H : Hp} {v : V} {x : Pp} (h : Dt S H v (ppD x)) : ∃ t zs, v = .ref t ∧ H t = some (.tup (.str x.kd :: .int x.num :: .int x.ed :: zs)) ∧ DtAll S H zs x.rest ∧ zs.length ≤ 5000 := by
  unfold ppD at h
  cases h with
  | tup s e n hd =>
    cases hd with
    | cons h1 hd =>
      cases h1
      cases hd with
      | cons h2 hd =>
        cases h2
        cases hd with
        | cons h3 hd =>
          cases h3
          exact ⟨_, _, rfl, e, hd, by simp only [List.length_cons] at n; omega⟩
theorem dtAll_snocA {S : Addr → Prop} {H : Hp} : ∀ {xs : List V} {ds : List PyData} {v : V} {d : PyData}, DtAll S H xs ds → Dt S H v d → DtAll S H (xs ++ [v]) (ds ++ [d])
  | _, _, _, _, .nil, r => .cons r .nil
  | _, _, _, _, .cons h hs, r => .cons h (dtAll_snocA hs r)
/-! the program's lines_by_place, lines_at -/
def ent (sts : List (Nm × Nm)) (jns : List (Nm × List Nm)) : List (Nm × List Nm) := sts.map (fun s => (s.1, [s.2])) ++ jns
def lkF (es : List (Nm × List Nm)) (y : Nm) : Option (List Nm) := es.foldl (fun acc e => if y = e.1 then some e.2 else acc) none
theorem lkF_snoc (es : List (Nm × List Nm)) (e : Nm × List Nm) (y : Nm) : lkF (es ++ [e]) y = if y = e.1 then some e.2 else lkF es y := by
  unfold lkF
  rw [List.foldl_append]
  rfl
/-- what a dict tells of the places -/
structure DV (H : Hp) (kvs : List (Key × V)) (es : List (Nm × List Nm)) : Prop where
  no : ∀ z, lkF es z = none → valV kvs (Sum.inr (SX.S z)) = none
  yes : ∀ z l, lkF es z = some l → ∃ a, valV kvs (Sum.inr (SX.S z)) = some (.ref a) ∧ H a = some (.tup (l.map nS))
  ks : ∃ zs : List Nm, kvs.map (·.1) = (zs.map SX.S).map Sum.inr ∧ zs.length ≤ es.length ∧ (es ≠ [] → zs ≠ []) ∧ ∀ z ∈ zs, (lkF es z).isSome = true
theorem DV.tk {H H' : Hp} {kvs : List (Key × V)} {es : List (Nm × List Nm)} (h : DV H kvs es) (k : TKF H H') : DV H' kvs es :=
  ⟨h.no, fun z l e => let ⟨a, h1, h2⟩ := h.yes z l e; ⟨a, h1, k _ _ h2⟩, h.ks⟩
theorem DV.nil {H : Hp} : DV H [] [] := ⟨fun _ _ => rfl, fun z l e => (by cases e), [], rfl, Nat.le_refl _, fun h => absurd rfl h, fun z h => (by cases h)⟩
theorem DV.put {H : Hp} {kvs : List (Key × V)} {es : List (Nm × List Nm)} (h : DV H kvs es) {z : Nm} {l : List Nm} {a : Addr} (e : H a = some (.tup (l.map nS))) : DV H (putK kvs (Sum.inr (SX.S z)) (.ref a)) (es ++ [(z, l)]) := by
  refine ⟨fun y hy => ?_, fun y m hy => ?_, ?_⟩
  · rw [lkF_snoc] at hy
    rw [valV_put]
    by_cases c : y = z
    · rw [if_pos c] at hy
      cases hy
    · rw [if_neg c] at hy
      rw [if_neg (fun q => c (SX.S_inj (Sum.inr.inj q)))]
      exact h.no y hy
  · rw [lkF_snoc] at hy
    rw [valV_put]
    by_cases c : y = z
    · rw [if_pos c] at hy
      have := Option.some.inj hy
      subst this
      rw [if_pos (by rw [c])]
      exact ⟨a, rfl, e⟩
    · rw [if_neg c] at hy
      rw [if_neg (fun q => c (SX.S_inj (Sum.inr.inj q)))]
      exact h.yes y m hy
  · obtain ⟨zs, h1, h2, h3, h4⟩ := h.ks
    cases hv : valV kvs (Sum.inr (SX.S z)) with
    | none =>
      rw [putK_new _ hv]
      refine ⟨zs ++ [z], by rw [List.map_append, h1, List.map_append, List.map_append]; rfl, by rw [List.length_append, List.length_append]; show _ + 1 ≤ _ + 1; omega, fun _ => by simp, fun y hy => ?_⟩
      rw [lkF_snoc]
      by_cases c : y = z
      · rw [if_pos c]
        rfl
      · rw [if_neg c]
        rcases List.mem_append.mp hy with q | q
        · exact h4 y q
        · exact absurd (List.mem_singleton.mp q) c
    | some v =>
      refine ⟨zs, ?_, by rw [List.length_append]; omega, fun _ q => ?_, fun y hy => ?_⟩
      · have ha : (kvs.any fun kv => decide (kv.1 = (Sum.inr (SX.S z) : Key))) = true := by
          rw [valV_any, hv]
          rfl
        unfold putK
        rw [if_pos ha, List.map_map, ← h1]
        refine List.map_congr_left fun kv _ => ?_
        show (if kv.1 = Sum.inr (SX.S z) then (kv.1, V.ref a) else kv).1 = kv.1
        split <;> rfl
      · rw [q] at h1
        rw [List.map_eq_nil_iff.mp h1] at hv
        cases hv
      · rw [lkF_snoc]
        by_cases c : y = z
        · rw [if_pos c]
          rfl
        · rw [if_neg c]
          exact h4 y hy
section
variable {P : Program} {w : World} {K : PySem.W.Frag} {mg : Str → Option Value} {base : Heap} {k : Nat}
def sp_lines_by_place : Sp := fun vs H Q _ => ∃ (b c : Addr) (sa ja : List Addr) (sts : List (Nm × Nm)) (jns : List (Nm × List Nm)), vs = [.ref b, .ref c] ∧ TpF H b (sa.map V.ref) ∧ Paired (StAt H) sa sts ∧ TpF H c (ja.map V.ref) ∧ Paired (JnAt H) ja jns ∧ sts.length ≤ 100 ∧ jns.length ≤ 100 ∧
  ∀ H' d kvs, Same H H' → H d = none → H' d = some (.dK kvs) → DV H' kvs (ent sts jns) → Q (.ref d) H'
theorem DV.len {H : Hp} {kvs : List (Key × V)} {es : List (Nm × List Nm)} (h : DV H kvs es) : kvs.length ≤ es.length := by
  obtain ⟨zs, h1, h2, _⟩ := h.ks
  have := congrArg List.length h1
  rw [List.length_map, List.length_map, List.length_map] at this
  omega
set_option maxHeartbeats 8000000 in
theorem ok_lines_by_place (T : Defs K mg) : FnOk P w K mg base CX0 (k + 1) T.a_lines_by_place T.d_lines_by_place ["stations", "junctions"] sp_lines_by_place := by
  refine T.F_lines_by_place.ok sc_lines_by_place (fun vs H Q E h => ?_) (fun cdv A outer s H vs Q E hr h => ?_)
  · obtain ⟨b, c, sa, ja, sts, jns, rfl, _⟩ := h
    rfl
  · obtain ⟨b, c, sa, ja, sts, jns, rfl, eb, hS, ec, hJ, l1, l2, q⟩ := h
    refine ⟨_, PSs.nox
(pss_cons (Ds.ps_setDc (i := 2) (own := [("name", 3), ("line", 5)]) (g := gTup K 2 (gCons (gName 3) (gCons (gName 5) gNil))) rfl sc_lines_by_place.nd rfl rfl (Ds.sw_trueD rfl rfl rfl (by decide +kernel)) (pi_tup (pv 0)) (blkOk_by (N := N_lines_by_place) (sc := defScope s_lines_by_place) (by decide +kernel)) (fun _ _ _ _ _ => (pg_tup rfl (pgs_cons (pg_name (i := 3) sc_lines_by_place.nd rfl (.inl rfl)) (pgs_cons (pg_name (i := 5) sc_lines_by_place.nd rfl (.inl rfl)) pgs_nil)))) (fun _ _ _ _ _ => pts_nil) (fun _ _ _ _ _ => (pv 3)) (fun _ _ _ _ _ => (pe_tup (pa_cons (pv 5) pa_nil))))
    (pss_cons (ps_for PassesOwn.never rfl (pi_tup (pv 1)) (pg_tup rfl (pgs_cons (pg_name (i := 3) sc_lines_by_place.nd rfl (.inl rfl)) (pgs_cons (pg_name (i := 4) sc_lines_by_place.nd rfl (.inl rfl)) pgs_nil)))
      (pss_one (ps_dput (hu_of hr) (pv 2) (pv 3) (pv 4) (by rfl))))
    (pss_one (ps_ret (pv 2)))))
      , ?_⟩
    have sl := paired_len hS
    have jl := paired_len hJ
    refine ⟨.ref b, rfl, b, rfl, ⟨_, eb.sq⟩, fun D nD => ?_⟩
    have nDt : ∀ {H' : Hp} {o : HO} {kvs : List (Key × V)}, H' D = some (.dK kvs) → TKF H' (upd H' D o) := fun e => .upd fun xs z => by rw [e] at z; cases z
    refine dc_tup (xs := sa.map V.ref) (fun i H3 => Same H H3 ∧ ∃ kvs, H3 D = some (.dK kvs) ∧ DV H3 kvs ((sts.take i).map fun s => (s.1, [s.2]))) ⟨same_upd nD, [], upd_same, DV.nil⟩ (fun i H3 _ pv => (eb.same pv.1).sq) (fun i x H3 ex pv => ?_) (fun H3 pv => ?_)
    · obtain ⟨s3, kvs, eD, dv⟩ := pv
      obtain ⟨u, eu, rfl⟩ : ∃ u, sa[i]? = some u ∧ x = .ref u := by
        rw [List.getElem?_map] at ex
        cases h : sa[i]? with
        | none => rw [h] at ex; cases ex
        | some t => rw [h] at ex; exact ⟨t, rfl, (Option.some.inj ex).symm⟩
      obtain ⟨st, est, hu⟩ := paired_get hS eu
      refine ⟨u, _, rfl, SqT.of (s3 _ _ hu), rfl, _, _, rfl, _, [], rfl, rfl, rfl, yes_ ?_⟩
      refine ⟨nS st.1, rfl, nS st.2, rfl, one_sz, fun u1 n1 => ?_⟩
      have eD1 := same_upd (o := .tup [nS st.2]) n1 _ _ eD
      have ilt : i < sts.length := (List.getElem?_eq_some_iff.mp est).1
      refine ⟨kvs, Sum.inr (SX.S st.1), rfl, eD1, ?_, same_set (s3.trans (same_upd n1)) nD, _, upd_same, ?_⟩
      · refine small5000 (Nat.le_trans dv.len ?_)
        rw [List.length_map, List.length_take]
        omega
      · rw [List.take_add_one, est, List.map_append]
        exact ((dv.tk (.of (same_upd n1))).put (l := [st.2]) upd_same).tk (nDt eD1)
    obtain ⟨s3, kvs, eD, dv⟩ := pv
    rw [List.length_map, sl, List.take_length] at dv
    refine ⟨.ref c, rfl, c, rfl, ⟨_, (ec.same s3).sq⟩, ?_⟩
    refine for_it (walk_tup (xs := ja.map V.ref)) (fun i σ H4 => ∃ (y3 y4 y5 : Option V), σ = [some (.ref b), some (.ref c), some (.ref D), y3, y4, y5] ∧ Same H H4 ∧ ∃ kvs, H4 D = some (.dK kvs) ∧ DV H4 kvs ((sts.map fun s => (s.1, [s.2])) ++ jns.take i))
      ⟨_, _, _, rfl, s3, kvs, eD, by rw [List.take_zero, List.append_nil]; exact dv⟩ (fun i σ H4 _ hp => ?_) (fun i v σ H4₀ H4 hi hp yy => ?_) (fun σ H4 hp => ?_)
    · obtain ⟨_, _, _, _, s4, _⟩ := hp
      exact (ec.same s4).sq
    · obtain ⟨rfl, ex⟩ := yy
      obtain ⟨y3, y4, y5, rfl, s4, kvs, eD, dv⟩ := hp
      obtain ⟨u, eu, rfl⟩ : ∃ u, ja[i]? = some u ∧ v = .ref u := by
        rw [List.getElem?_map] at ex
        cases h : ja[i]? with
        | none => rw [h] at ex; cases ex
        | some t => rw [h] at ex; exact ⟨t, rfl, (Option.some.inj ex).symm⟩
      obtain ⟨jn, ejn, jt, hu, hjt⟩ := paired_get hJ eu
      have ilt : i < jns.length := (List.getElem?_eq_some_iff.mp ejn).1
      refine ⟨u, _, rfl, SqT.of (s4 _ _ hu), rfl, _, _, rfl, _, [], rfl, rfl, ?_⟩
      refine ⟨.ref jt, rfl, .ref D, rfl, nS jn.1, rfl, D, _, rfl, DPut.k (k := Sum.inr (SX.S jn.1)) eD ?_, ?_⟩
      · refine small5000 (Nat.le_trans dv.len ?_)
        rw [List.length_append, List.length_map, List.length_take]
        omega
      · refine ⟨_, _, _, rfl, same_set s4 nD, _, upd_same, ?_⟩
        rw [List.take_add_one, ejn, ← List.append_assoc]
        exact (dv.put (s4 _ _ hjt)).tk (nDt eD)
    · obtain ⟨y3, y4, y5, rfl, s4, kvs, eD, dv⟩ := hp
      rw [List.length_map, jl, List.take_length] at dv
      exact ⟨.ref D, rfl, q _ D kvs s4 nD eD dv⟩
def sp_lines_at : Sp := fun vs H Q _ => ∃ (r : Addr) (z : Nm) (ls : List Nm) (sts : List (Nm × Nm)) (jns : List (Nm × List Nm)) (tis : List Ti), vs = [.ref r, nS z] ∧ NetAt H r ls sts jns tis ∧ sts.length ≤ 100 ∧ jns.length ≤ 100 ∧
  ∀ H' u, Same H H' → H' u = some (.tup (((lkF (ent sts jns) z).getD []).map nS)) → Q (.ref u) H'
set_option maxHeartbeats 8000000 in
theorem ok_lines_at (T : Defs K mg) : FnOk P w K mg base CX0 (k + 2) T.a_lines_at T.d_lines_at ["net", "place"] sp_lines_at := by
  have G_lines_by_place : FnOk P w K mg base CX0 (k + 1) _ _ _ _ := ok_lines_by_place T
  refine T.F_lines_at.ok sc_lines_at (fun vs H Q E h => ?_) (fun cdv A outer s H vs Q E hr h => ?_)
  · obtain ⟨r, z, ls, sts, jns, tis, rfl, _⟩ := h
    rfl
  · obtain ⟨r, z, ls, sts, jns, tis, rfl, hnet, l1, l2, q⟩ := h
    refine ⟨_, PSs.nox
(pss_cons (ps_asg (pv 0) (pg_tup rfl (pgs_cons (pg_name (i := 2) sc_lines_at.nd rfl (.inl rfl)) (pgs_cons (pg_name (i := 3) sc_lines_at.nd rfl (.inl rfl)) (pgs_cons (pg_name (i := 4) sc_lines_at.nd rfl (.inl rfl)) (pgs_cons (pg_name (i := 5) sc_lines_at.nd rfl (.inl rfl)) pgs_nil))))))
    (pss_one (ps_ret (pe_dget2 (hu_of hr) (pe_call G_lines_by_place hr (by rfl) T.g_lines_by_place T.F_lines_by_place.kp T.b_lines_by_place .nil pass0 (pa_cons (pv 3) (pa_cons (pv 4) pa_nil))) (pv 1) (pe_tup pa_nil) ⟨rfl, rfl, rfl, rfl⟩))))
      , ?_⟩
    obtain ⟨a, b, c, d, sa, ja, ta, er, ea, eb, hS, ec, hJ, ed, hti⟩ := id hnet
    refine ⟨.ref r, rfl, r, _, rfl, SqT.of er, rfl, _, _, rfl, _, _, rfl, _, _, rfl, _, [], rfl, rfl, ?_⟩
    refine ⟨.ref b, rfl, .ref c, rfl, b, c, sa, ja, sts, jns, rfl, eb, hS, ec, hJ, l1, l2, fun H' dd kvs s' nd ed' dv => ?_⟩
    refine ⟨dd, rfl, .inl ⟨kvs, .inl ed'⟩, nS z, rfl, Nat.zero_le _, fun e ne => ?_⟩
    refine ⟨_, DGet.k (k := Sum.inr (SX.S z)) (same_upd ne _ _ ed'), ?_⟩
    cases h : lkF (ent sts jns) z with
    | none =>
      rw [dv.no z h]
      refine q _ e (s'.trans (same_upd ne)) ?_
      rw [h]
      exact upd_same
    | some l =>
      obtain ⟨u, h1, h2⟩ := dv.yes z l h
      rw [h1]
      refine q _ u (s'.trans (same_upd ne)) ?_
      rw [h]
      exact same_upd ne _ _ h2
end
end Th
namespace Th
open PySem PySem.Spec PyProof.Rows L2
/-! days, sums, numbers, lines -/
section
variable {P : Program} {w : World} {K : PySem.W.Frag} {mg : Str → Option Value} {base : Heap} {k : Nat}
def sp_l_day : Sp := fun vs H Q _ => ∃ p : Addr, vs = [.ref p] ∧ Bag H p ∧ ∀ H' d, Keep p H H' → Bag H' p → 1 ≤ d → d ≤ 420 → Q (.int d) H'
theorem ok_l_day (T : Defs K mg) : FnOk P w K mg base CX0 (k + 2) T.a_l_day T.d_l_day ["_law_bag_here"] sp_l_day := by
  have G_l_take : FnOk P w K mg base CX0 (k + 1) _ _ _ _ := ok_l_take (k := k) T
  refine T.F_l_day.ok sc_l_day (fun vs H Q E h => ?_) (fun cdv A outer s H vs Q E hr h => ?_)
  · obtain ⟨p, rfl, _⟩ := h
    rfl
  · obtain ⟨p, rfl, b, q⟩ := h
    refine ⟨_, PSs.nox
(pss_one (ps_ret (pe_op op_add (pe_int) (pe_call G_l_take hr (by rfl) T.g_l_take T.F_l_take.kp T.b_l_take .nil pass0 (pa_cons (pv 0) (pa_cons (pe_ix (r := rIxT K) ix_tup (pe_tup (pa_cons (pe_int) (pa_cons (pe_int) (pa_cons (pe_int) pa_nil)))) (pe_call G_l_take hr (by rfl) T.g_l_take T.F_l_take.kp T.b_l_take .nil pass0 (pa_cons (pv 0) (pa_cons (pe_int) pa_nil))) (fun _ _ => rfl)) pa_nil))))))
      , ?_⟩
    refine ⟨.ref p, rfl, by show 3 ≤ sizeLine; decide, fun t nt => ?_⟩
    have st := same_upd (o := .tup [.int 60, .int 90, .int 420]) nt
    have bt := b.keep st
    refine ⟨.ref p, rfl, p, 3, rfl, bt, by decide, by decide, fun H1 c k1 b1 c0 c1 => ?_⟩
    obtain ⟨m, hm, em⟩ := pick (ms := [60, 90, 420]) c0 c1
    refine ⟨t, _, c, _, rfl, rfl, SqT.of (k1 _ _ (b.ne nt) upd_same), em, ?_⟩
    have hm : m = 60 ∨ m = 90 ∨ m = 420 := by simpa using hm
    refine ⟨p, m, rfl, b1, by omega, by omega, fun H2 d k2 b2 e0 e1 => ⟨1, d, rfl, rfl, q _ _ (((Keep.of st).trans k1).trans k2) b2 ?_ ?_⟩⟩
    · show 1 ≤ 1 + d; omega
    · show 1 + d ≤ 420; omega
def sp_l_num : Sp := fun vs H Q _ => ∃ p : Addr, vs = [.ref p] ∧ Bag H p ∧ ∀ H' d, Keep p H H' → Bag H' p → 0 ≤ d → d ≤ 1000000000 → Q (.int d) H'
theorem ok_l_sum (T : Defs K mg) : FnOk P w K mg base CX0 (k + 2) T.a_l_sum T.d_l_sum ["_law_bag_here"] sp_l_num := by
  have G_l_take : FnOk P w K mg base CX0 (k + 1) _ _ _ _ := ok_l_take (k := k) T
  refine T.F_l_sum.ok sc_l_sum (fun vs H Q E h => ?_) (fun cdv A outer s H vs Q E hr h => ?_)
  · obtain ⟨p, rfl, _⟩ := h
    rfl
  · obtain ⟨p, rfl, b, q⟩ := h
    refine ⟨_, PSs.nox
(pss_one (ps_ret (pe_ix (r := rIxT K) ix_tup (pe_tup (pa_cons (pe_call G_l_take hr (by rfl) T.g_l_take T.F_l_take.kp T.b_l_take .nil pass0 (pa_cons (pv 0) (pa_cons (pe_int) pa_nil))) (pa_cons (pe_call G_l_take hr (by rfl) T.g_l_take T.F_l_take.kp T.b_l_take .nil pass0 (pa_cons (pv 0) (pa_cons (pe_op op_pow (pe_int) (pe_int)) pa_nil))) (pa_cons (pe_call G_l_take hr (by rfl) T.g_l_take T.F_l_take.kp T.b_l_take .nil pass0 (pa_cons (pv 0) (pa_cons (pe_op op_add (pe_op op_pow (pe_int) (pe_int)) (pe_int)) pa_nil))) pa_nil)))) (pe_call G_l_take hr (by rfl) T.g_l_take T.F_l_take.kp T.b_l_take .nil pass0 (pa_cons (pv 0) (pa_cons (pe_int) pa_nil))) (fun _ _ => rfl))))
      , ?_⟩
    refine ⟨.ref p, rfl, p, 20, rfl, b, by decide, by decide, fun H1 x1 k1 b1 a0 a1 => ⟨.ref p, rfl, 10, 6, rfl, rfl, ⟨by decide, by decide, by decide⟩, p, _, rfl, b1, by decide, by decide, fun H2 x2 k2 b2 c0 c1 => ⟨.ref p, rfl, 10, 9, rfl, rfl, ⟨by decide, by decide, by decide⟩, _, 1, rfl, rfl, p, _, rfl, b2, by decide, by decide, fun H3 x3 k3 b3 e0 e1 => ⟨by show 3 ≤ sizeLine; decide, fun t nt => ?_⟩⟩⟩⟩
    have st := same_upd (o := .tup [.int x1, .int x2, .int x3]) nt
    refine ⟨.ref p, rfl, p, 3, rfl, b3.keep st, by decide, by decide, fun H4 c k4 b4 i0 i1 => ?_⟩
    obtain ⟨m, hm, em⟩ := pick (ms := [x1, x2, x3]) i0 i1
    refine ⟨t, _, c, _, rfl, rfl, SqT.of (k4 _ _ (b3.ne nt) upd_same), em, ?_⟩
    have hm : m = x1 ∨ m = x2 ∨ m = x3 := by simpa using hm
    have c1 : x2 < 10 ^ 6 := c1
    have e1 : x3 < 10 ^ 9 + 1 := e1
    exact q _ _ ((((k1.trans k2).trans k3).trans (.of st)).trans k4) b4 (by omega) (by omega)
theorem ok_l_number (T : Defs K mg) : FnOk P w K mg base CX0 (k + 2) T.a_l_number T.d_l_number ["_law_bag_here"] sp_l_num := by
  have G_l_take : FnOk P w K mg base CX0 (k + 1) _ _ _ _ := ok_l_take (k := k) T
  refine T.F_l_number.ok sc_l_number (fun vs H Q E h => ?_) (fun cdv A outer s H vs Q E hr h => ?_)
  · obtain ⟨p, rfl, _⟩ := h
    rfl
  · obtain ⟨p, rfl, b, q⟩ := h
    refine ⟨_, PSs.nox
(pss_one (ps_ret (pe_ix (r := rIxT K) ix_tup (pe_tup (pa_cons (pe_op op_add (pe_int) (pe_call G_l_take hr (by rfl) T.g_l_take T.F_l_take.kp T.b_l_take .nil pass0 (pa_cons (pv 0) (pa_cons (pe_int) pa_nil)))) (pa_cons (pe_op op_add (pe_int) (pe_call G_l_take hr (by rfl) T.g_l_take T.F_l_take.kp T.b_l_take .nil pass0 (pa_cons (pv 0) (pa_cons (pe_int) pa_nil)))) (pa_cons (pe_op op_add (pe_int) (pe_call G_l_take hr (by rfl) T.g_l_take T.F_l_take.kp T.b_l_take .nil pass0 (pa_cons (pv 0) (pa_cons (pe_int) pa_nil)))) pa_nil)))) (pe_call G_l_take hr (by rfl) T.g_l_take T.F_l_take.kp T.b_l_take .nil pass0 (pa_cons (pv 0) (pa_cons (pe_int) pa_nil))) (fun _ _ => rfl))))
      , ?_⟩
    refine ⟨.ref p, rfl, p, 4, rfl, b, by decide, by decide, fun H1 x1 k1 b1 a0 a1 => ⟨1, x1, rfl, rfl, .ref p, rfl, p, 9, rfl, b1, by decide, by decide, fun H2 x2 k2 b2 c0 c1 => ⟨1, x2, rfl, rfl, .ref p, rfl, p, 9999, rfl, b2, by decide, by decide, fun H3 x3 k3 b3 e0 e1 => ⟨1, x3, rfl, rfl, by show 3 ≤ sizeLine; decide, fun t nt => ?_⟩⟩⟩⟩
    have st := same_upd (o := .tup [.int (1 + x1), .int (1 + x2), .int (1 + x3)]) nt
    refine ⟨.ref p, rfl, p, 3, rfl, b3.keep st, by decide, by decide, fun H4 c k4 b4 i0 i1 => ?_⟩
    obtain ⟨m, hm, em⟩ := pick (ms := [1 + x1, 1 + x2, 1 + x3]) i0 i1
    refine ⟨t, _, c, _, rfl, rfl, SqT.of (k4 _ _ (b3.ne nt) upd_same), em, ?_⟩
    have hm : m = 1 + x1 ∨ m = 1 + x2 ∨ m = 1 + x3 := by simpa using hm
    exact q _ _ ((((k1.trans k2).trans k3).trans (.of st)).trans k4) b4 (by omega) (by omega)
def sp_l_line : Sp := fun vs H Q _ => ∃ (p r : Addr) (ls : List Nm) (sts : List (Nm × Nm)) (jns : List (Nm × List Nm)) (tis : List Ti), vs = [.ref p, .ref r] ∧ Bag H p ∧ NetAt H r ls sts jns tis ∧ 1 ≤ ls.length ∧ ls.length ≤ 8 ∧ ∀ H' z, Keep p H H' → Bag H' p → z ∈ ls → Q (nS z) H'
theorem ok_l_line (T : Defs K mg) : FnOk P w K mg base CX0 (k + 2) T.a_l_line T.d_l_line ["_law_bag_here", "_law_net_here"] sp_l_line := by
  have G_l_take : FnOk P w K mg base CX0 (k + 1) _ _ _ _ := ok_l_take (k := k) T
  refine T.F_l_line.ok sc_l_line (fun vs H Q E h => ?_) (fun cdv A outer s H vs Q E hr h => ?_)
  · obtain ⟨p, r, ls, sts, jns, tis, rfl, _⟩ := h
    rfl
  · obtain ⟨p, r, ls, sts, jns, tis, rfl, b, hnet, l1, l8, q⟩ := h
    obtain ⟨ra, rb, rc, rd, sa, ja, ta, er, hra, _⟩ := hnet
    refine ⟨_, PSs.nox
(pss_one (ps_ret (pe_ix (r := rIxT K) ix_tup (pe_ix (r := rIxT K) ix_tup (pv 1) (pe_int) (fun _ _ => rfl)) (pe_call G_l_take hr (by rfl) T.g_l_take T.F_l_take.kp T.b_l_take .nil pass0 (pa_cons (pv 0) (pa_cons (pe_callB (r := rLenS K) call_lenS (by rfl) T.z_len (by decide +kernel) (pa_cons (pe_ix (r := rIxT K) ix_tup (pv 1) (pe_int) (fun _ _ => rfl)) pa_nil)) pa_nil))) (fun _ _ => rfl))))
      , ?_⟩
    refine ⟨.ref r, rfl, r, _, 0, .ref ra, rfl, rfl, SqT.of er, atI_nat (j := 0) rfl, .ref p, rfl, .ref r, rfl, r, _, 0, .ref ra, rfl, rfl, SqT.of er, atI_nat (j := 0) rfl, ra, _, rfl, .inr hra.sq, p, _, rfl, b, by rw [List.length_map]; omega, by rw [List.length_map]; omega, fun H8 d k8 b8 d0 d1 => ?_⟩
    rw [List.length_map] at d1
    obtain ⟨d, rfl⟩ : ∃ xn : Nat, d = (xn : Int) := ⟨d.toNat, by omega⟩
    have dl : d < ls.length := by omega
    exact ⟨ra, _, d, nS ls[d], rfl, rfl, (hra.keep k8 b).sq, atI_nat (j := d) (by rw [List.getElem?_map, List.getElem?_eq_getElem dl]; rfl), q _ _ k8 b8 (List.getElem_mem dl)⟩
end
end Th
namespace Th
open PySem PySem.Spec PyProof.Rows L2
/-! a drawn way of the house's net -/
def hPath (S J : Nat → Nm) (i j : Nat) : List Nm := S i :: ((List.range (j - i)).map fun k => J (i + k)) ++ [S j]
def WayH (n m2 : Nat) (S T J : Nat → Nm) (gs : List Nm) : Prop := (∃ k, k < m2 ∧ (gs = [S k, T k] ∨ gs = [T k, S k])) ∨ ∃ i j, i < j ∧ j < n ∧ (gs = hPath S J i j ∨ gs = (hPath S J i j).reverse)
theorem cut_dropH (xs : List V) (m : Nat) : cutV xs (some (m : Int)) none = xs.drop m := by
  unfold cutV
  rw [HT.sIx_none, HT.sIx_nat]
  by_cases h : m ≤ xs.length
  · rw [Nat.min_eq_left h]
    exact List.take_of_length_le (by rw [List.length_drop]; omega)
  · rw [Nat.min_eq_right (by omega), Nat.sub_self, List.take_zero, List.drop_eq_nil_of_le (by omega)]
theorem paired_getR {α β : Type} {R : α → β → Prop} {as : List α} {bs : List β} (h : Paired R as bs) {j : Nat} {y : β} (e : bs[j]? = some y) : ∃ x, as[j]? = some x ∧ R x y := by
  have hl := paired_len h
  have jl : j < as.length := by rw [hl]; exact (List.getElem?_eq_some_iff.mp e).1
  obtain ⟨y', e', r⟩ := paired_get h (List.getElem?_eq_getElem jl)
  rw [e] at e'
  cases e'
  exact ⟨_, List.getElem?_eq_getElem jl, r⟩
section
variable {P : Program} {w : World} {K : PySem.W.Frag} {mg : Str → Option Value} {base : Heap} {k : Nat}
/-- a net's tuple and what it holds -/
def sp_l_way : Sp := fun vs H Q _ => ∃ (p r : Addr) (n m2 kk sd : Nat) (f0 b0 f1 b1 f2 b2 f3 b3 : Nm) (d0 d1 d2 d3 : Nat) (jx : List (Nm × List Nm)) (tis : List Ti), vs = [.ref p, .ref r] ∧ Bag H p ∧ NetH H r n m2 kk sd f0 b0 f1 b1 f2 b2 f3 b3 d0 d1 d2 d3 jx tis ∧
  ∀ (H' : Hp) (t : Addr) (gs : List Nm), Keep p H H' → Bag H' p → H' t = some (.tup (gs.map nS)) → WayH n m2 (hNm f1 d1 b1) (hNm f2 d2 b2) (hNm f3 d3 b3) gs → Q (.ref t) H'
set_option maxHeartbeats 8000000 in
theorem ok_l_way (T : Defs K mg) : FnOk P w K mg base CX0 (k + 2) T.a_l_way T.d_l_way ["_law_bag_here", "_law_net_here"] sp_l_way := by
  have G_l_take : FnOk P w K mg base CX0 (k + 1) _ _ _ _ := ok_l_take (k := k) T
  refine T.F_l_way.ok sc_l_way (fun vs H Q E h => ?_) (fun cdv A outer s H vs Q E hr h => ?_)
  · obtain ⟨p, r, n, m2, kk, sd, f0, b0, f1, b1, f2, b2, f3, b3, d0, d1, d2, d3, jx, tis, rfl, _⟩ := h
    rfl
  · obtain ⟨p, r, n, m2, kk, sd, f0, b0, f1, b1, f2, b2, f3, b3, d0, d1, d2, d3, jx, tis, rfl, b, hnet, q⟩ := h
    refine ⟨_, PSs.nox
(pss_cons (ps_set (i := 2) sc_l_way.nd rfl (.inl rfl) (pe_callB (r := rLenS K) call_lenS (by rfl) T.z_len (by decide +kernel) (pa_cons (pe_ix (r := rIxT K) ix_tup (pv 1) (pe_int) (fun _ _ => rfl)) pa_nil)))
    (pss_cons (ps_par (i := 3) (j := 4) (by rfl) sc_l_way.nd rfl rfl (by decide) rfl rfl (pa_cons (pe_call G_l_take hr (by rfl) T.g_l_take T.F_l_take.kp T.b_l_take .nil pass0 (pa_cons (pv 0) (pa_cons (pv 2) pa_nil))) (pa_cons (pe_call G_l_take hr (by rfl) T.g_l_take T.F_l_take.kp T.b_l_take .nil pass0 (pa_cons (pv 0) (pa_cons (pv 2) pa_nil))) pa_nil)) (by rfl))
    (pss_cons (ps_par (i := 5) (j := 6) (by rfl) sc_l_way.nd rfl rfl (by decide) rfl rfl (pa_cons (pe_slice (r := rSlT K) sl_tup (pe_ix (r := rIxT K) ix_tup (pv 1) (pe_int) (fun _ _ => rfl)) po_none (po_some (pv 2))) (pa_cons (pe_slice (r := rSlT K) sl_tup (pe_ix (r := rIxT K) ix_tup (pv 1) (pe_int) (fun _ _ => rfl)) (po_some (pv 2)) po_none) pa_nil)) (by rfl))
    (pss_cons (ps_if (pt_cmpR op_eq (pv 3) (pv 4) (nomark _))
      (pss_cons (ps_set (i := 7) sc_l_way.nd rfl (.inl rfl) (pe_op op_mod (pv 3) (pe_callB (r := rLenS K) call_lenS (by rfl) T.z_len (by decide +kernel) (pa_cons (pv 6) pa_nil))))
      (pss_one (ps_ret (Sr.pe_stpT (K := K) (pe_tup (pa_cons (pe_ix (r := rIxT K) ix_tup (pe_ix (r := rIxT K) ix_tup (pv 5) (pv 7) (fun _ _ => rfl)) (pe_int) (fun _ _ => rfl)) (pa_cons (pe_ix (r := rIxT K) ix_tup (pe_ix (r := rIxT K) ix_tup (pv 6) (pv 7) (fun _ _ => rfl)) (pe_int) (fun _ _ => rfl)) pa_nil))) (pe_op op_sub (pe_int) (pe_op op_mul (pe_int) (pe_call G_l_take hr (by rfl) T.g_l_take T.F_l_take.kp T.b_l_take .nil pass0 (pa_cons (pv 0) (pa_cons (pe_int) pa_nil)))))))))
      pss_nil)
    (pss_cons (ps_par (i := 8) (j := 9) (by rfl) sc_l_way.nd rfl rfl (by decide) rfl rfl (pa_cons (pe_callB (call_min2 rfl) (by rfl) T.z_min (by decide +kernel) (pa_cons (pv 3) (pa_cons (pv 4) pa_nil))) (pa_cons (pe_callB (call_max2 rfl) (by rfl) T.z_max (by decide +kernel) (pa_cons (pv 3) (pa_cons (pv 4) pa_nil))) pa_nil)) (by rfl))
    (pss_cons (ps_set (i := 10) sc_l_way.nd rfl (.inl rfl) (pe_op op_cat (pe_op op_cat (pe_lst (pa_cons (pe_ix (r := rIxT K) ix_tup (pe_ix (r := rIxT K) ix_tup (pv 5) (pv 8) (fun _ _ => rfl)) (pe_int) (fun _ _ => rfl)) pa_nil)) (pe_lc (own := [("_law_k", 7)]) (g := gName 7) rfl sc_l_way.nd (pi_range2 (by rfl) T.z_range (pa_cons (pv 8) (pa_cons (pv 9) pa_nil))) (blkOk_by (N := N_l_way) (sc := defScope s_l_way) (by decide +kernel)) (fun _ _ _ _ _ => (pg_name (i := 7) sc_l_way.nd rfl (.inl rfl))) (fun _ _ _ _ _ => pts_nil) (fun _ _ _ _ _ => (pe_ix (r := rIxT K) ix_tup (pe_ix (r := rIxT K) ix_tup (pe_ix (r := rIxT K) ix_tup (pv 1) (pe_int) (fun _ _ => rfl)) (pv 7) (fun _ _ => rfl)) (pe_int) (fun _ _ => rfl))))) (pe_lst (pa_cons (pe_ix (r := rIxT K) ix_tup (pe_ix (r := rIxT K) ix_tup (pv 5) (pv 9) (fun _ _ => rfl)) (pe_int) (fun _ _ => rfl)) pa_nil))))
    (pss_one (ps_ret (pe_callTy call_tuple_of (by rfl) T.z_tuple (by decide +kernel) (pa_cons (Sr.pe_stpL (pv 10) (pe_op op_sub (pe_int) (pe_op op_mul (pe_int) (pe_callTy call_int1 (by rfl) T.z_int (by decide +kernel) (pa_cons (pe_cmpR op_gt (pv 3) (pv 4) (nomark _)) pa_nil))))) pa_nil))))))))))
      , ?_⟩
    obtain ⟨net, n1, n8, m1, m2n, _⟩ := hnet
    have net0 := net
    obtain ⟨ra, rb, rc, rd, sa, ja, ta, er, hra, hrb, hsa, hrc, hja, _⟩ := net0
    have sal := paired_len hsa
    have jal := paired_len hja
    have hl : ((hNms f0 d0 b0 n).map nS).length = n := by unfold hNms; simp
    have sl : (sa.map V.ref).length = n + m2 := by rw [List.length_map, sal]; unfold hSts; simp
    refine ⟨.ref r, rfl, r, _, 0, .ref ra, rfl, rfl, SqT.of er, atI_nat (j := 0) rfl, ra, _, rfl, .inr hra.sq, ?_⟩
    rw [hl]
    refine ⟨.ref p, rfl, .int n, rfl, p, n, rfl, b, by omega, by omega, fun H1 x1 k1 b1' x10 x11 => ⟨.ref p, rfl, .int n, rfl, p, n, rfl, b1', by omega, by omega, fun H2 x2 k2 b2' x20 x21 => ?_⟩⟩
    obtain ⟨i1, rfl⟩ : ∃ xn : Nat, x1 = (xn : Int) := ⟨x1.toNat, by omega⟩
    obtain ⟨i2, rfl⟩ : ∃ xn : Nat, x2 = (xn : Int) := ⟨x2.toNat, by omega⟩
    have tk2 := (TKF.keep k1 b).trans (TKF.keep k2 b1')
    have k02 := k1.trans k2
    have er2 := tk2.t _ _ er
    have hrb2 : TpF H2 rb (sa.map V.ref) := (hrb.keep k1 b).keep k2 b1'
    have c1 : ¬ (HT.sIx (sa.map V.ref).length 0 none = 0 ∧ HT.sIx (sa.map V.ref).length (sa.map V.ref).length (some (n : Int)) = (sa.map V.ref).length) := by
      rw [HT.sIx_nat, sl]
      omega
    have c2 : ¬ (HT.sIx (sa.map V.ref).length 0 (some (n : Int)) = 0 ∧ HT.sIx (sa.map V.ref).length (sa.map V.ref).length none = (sa.map V.ref).length) := by
      rw [HT.sIx_nat, sl]
      omega
    refine ⟨_, _, rfl, .ref r, rfl, r, _, 1, .ref rb, rfl, rfl, SqT.of er2, atI_nat (j := 1) rfl, .int n, rfl, n, rfl, rb, _, rfl, hrb2.sq, c1, fun u5 nu5 => ?_⟩
    rw [cut_takeH]
    have s3 := same_upd (o := .tup ((sa.map V.ref).take n)) nu5
    have eu5 : (upd H2 u5 (.tup ((sa.map V.ref).take n))) u5 = some (.tup ((sa.map V.ref).take n)) := upd_same
    have bg3 := b2'.keep s3
    generalize upd H2 u5 (.tup ((sa.map V.ref).take n)) = H3 at s3 eu5 bg3 ⊢
    refine ⟨.ref r, rfl, r, _, 1, .ref rb, rfl, rfl, SqT.of (s3 _ _ er2), atI_nat (j := 1) rfl, .int n, rfl, n, rfl, rb, _, rfl, (hrb2.same s3).sq, c2, fun u6 nu6 => ⟨_, _, rfl, ?_⟩⟩
    rw [cut_dropH]
    have s4 := same_upd (o := .tup ((sa.map V.ref).drop n)) nu6
    have eu6 : (upd H3 u6 (.tup ((sa.map V.ref).drop n))) u6 = some (.tup ((sa.map V.ref).drop n)) := upd_same
    have b4 := bg3.keep s4
    have eu54 := s4 _ _ eu5
    have k04 := k02.trans (.of (s3.trans s4))
    have tk4 := tk2.trans (TKF.of (s3.trans s4))
    generalize upd H3 u6 (.tup ((sa.map V.ref).drop n)) = H4 at s4 eu6 b4 eu54 k04 tk4 ⊢
    have atS : ∀ j, j < n → ∃ s, atI ((sa.map V.ref).take n) ((j : Nat) : Int) = some (.ref s) ∧ H4 s = some (.tup [nS (hNm f1 d1 b1 j), nS (hNm f0 d0 b0 j)]) := fun j hj => by
      obtain ⟨s, e1, e2⟩ := paired_getR hsa (j := j) (y := (hNm f1 d1 b1 j, hNm f0 d0 b0 j)) (by
        unfold hSts
        rw [List.getElem?_append_left (by simpa using hj), List.getElem?_map, List.getElem?_range hj]
        rfl)
      exact ⟨s, atI_nat (j := j) (by rw [List.getElem?_take_of_lt hj, List.getElem?_map, e1]; rfl), tk4.t _ _ e2⟩
    have atT : ∀ j, j < m2 → ∃ s, atI ((sa.map V.ref).drop n) ((j : Nat) : Int) = some (.ref s) ∧ H4 s = some (.tup [nS (hNm f2 d2 b2 j), nS (hNm f0 d0 b0 j)]) := fun j hj => by
      obtain ⟨s, e1, e2⟩ := paired_getR hsa (j := n + j) (y := (hNm f2 d2 b2 j, hNm f0 d0 b0 j)) (by
        unfold hSts
        rw [List.getElem?_append_right (by simp), List.getElem?_map, List.length_map, List.length_range, Nat.add_sub_cancel_left, List.getElem?_range hj]
        rfl)
      exact ⟨s, atI_nat (j := j) (by rw [List.getElem?_drop, List.getElem?_map, e1]; rfl), tk4.t _ _ e2⟩
    have dl : ((sa.map V.ref).drop n).length = m2 := by rw [List.length_drop, sl]; omega
    refine ⟨.int i1, rfl, .int i2, rfl, rfl, _, rfl, ite2 (fun c => ?_) fun c => ?_⟩
    · refine ⟨.int i1, rfl, .ref u6, rfl, u6, _, rfl, .inr (SqT.of eu6), i1, _, rfl, rfl, by show (0 : Int) < _; rw [dl]; omega, ?_⟩
      rw [dl, show (fun i j : Int => V.int (i % j)) ((i1 : Nat) : Int) ((m2 : Nat) : Int) = V.int ((i1 % m2 : Nat) : Int) from rfl]
      have hk : i1 % m2 < m2 := Nat.mod_lt _ (by omega)
      generalize i1 % m2 = j at hk
      obtain ⟨s, es, hs⟩ := atS j (by omega)
      obtain ⟨t, et, ht⟩ := atT j hk
      refine ⟨.ref u5, rfl, .int j, rfl, u5, _, j, .ref s, rfl, rfl, SqT.of eu54, es, s, _, 0, nS (hNm f1 d1 b1 j), rfl, rfl, SqT.of hs, atI_nat (j := 0) rfl, .ref u6, rfl, .int j, rfl, u6, _, j, .ref t, rfl, rfl, SqT.of eu6, et, t, _, 0, nS (hNm f2 d2 b2 j), rfl, rfl, SqT.of ht, atI_nat (j := 0) rfl, by show 2 ≤ sizeLine; decide, fun w nw => ⟨w, rfl, ?_⟩⟩
      have s5 := same_upd (o := .tup [nS (hNm f1 d1 b1 j), nS (hNm f2 d2 b2 j)]) nw
      have nwp := b4.ne nw
      refine ⟨.ref p, rfl, p, 2, rfl, b4.keep s5, by decide, by decide, fun H5 d k5 b5 e0 e1 => ⟨2, d, rfl, rfl, .inl ⟨by decide, by decide⟩, 1, _, rfl, rfl, _, rfl, decide (d = 1), [nS (hNm f1 d1 b1 j), nS (hNm f2 d2 b2 j)], ?_, SqT.of (k5 _ _ nwp upd_same), fun _ => ?_, fun _ g ng => ?_⟩⟩
      · have : d = 0 ∨ d = 1 := by omega
        rcases this with rfl | rfl <;> rfl
      · exact q _ w [hNm f1 d1 b1 j, hNm f2 d2 b2 j] ((k04.trans (.of s5)).trans k5) b5 (k5 _ _ nwp upd_same) (.inl ⟨j, hk, .inl rfl⟩)
      · exact q _ g [hNm f2 d2 b2 j, hNm f1 d1 b1 j] (((k04.trans (.of s5)).trans k5).trans (.of (same_upd ng))) (b5.keep (same_upd ng)) upd_same (.inl ⟨j, hk, .inr rfl⟩)
    · have ne : i1 ≠ i2 := fun z => c (decide_eq_true (by rw [z]))
      obtain ⟨lo, hi, g1, g2, lt, hin⟩ : ∃ lo hi : Nat, (if ((i2 : Nat) : Int) < i1 then ((i2 : Nat) : Int) else i1) = lo ∧ (if ((i2 : Nat) : Int) > i1 then ((i2 : Nat) : Int) else i1) = hi ∧ lo < hi ∧ hi < n := by
        rcases Nat.lt_or_gt_of_ne ne with h | h
        · exact ⟨i1, i2, if_neg (by omega), if_pos (by omega), h, by omega⟩
        · exact ⟨i2, i1, if_pos (by omega), if_neg (by omega), h, by omega⟩
      refine ⟨.int i1, rfl, .int i2, rfl, i1, i2, rfl, .int i1, rfl, .int i2, rfl, i1, i2, rfl, _, _, rfl, ?_⟩
      rw [g1, g2]
      obtain ⟨s, es, hs⟩ := atS lo (by omega)
      obtain ⟨t, et, ht⟩ := atS hi hin
      refine ⟨.ref u5, rfl, .int lo, rfl, u5, _, lo, .ref s, rfl, rfl, SqT.of eu54, es, s, _, 0, nS (hNm f1 d1 b1 lo), rfl, rfl, SqT.of hs, atI_nat (j := 0) rfl, by show 1 ≤ sizeLine; decide, fun A nA => ?_⟩
      have s5 := same_upd (o := .lst [nS (hNm f1 d1 b1 lo)]) nA
      have eA : (upd H4 A (.lst [nS (hNm f1 d1 b1 lo)])) A = some (.lst [nS (hNm f1 d1 b1 lo)]) := upd_same
      have b5 := b4.keep s5
      have tk5 := tk4.trans (TKF.of s5)
      have k05 := k04.trans (.of s5)
      have eu55 := s5 _ _ eu54
      have ht5 := s5 _ _ ht
      generalize upd H4 A (.lst [nS (hNm f1 d1 b1 lo)]) = H5 at s5 eA b5 tk5 k05 eu55 ht5 ⊢
      have net5 := net.tk tk5
      obtain ⟨ra', rb', rc', rd', sa', ja', ta', er5, _, _, _, hrc5, hja5, _⟩ := net5
      refine ⟨.int lo, rfl, .int hi, rfl, lo, hi, rfl, ⟨by omega, by omega, by omega, by omega⟩, fun C nC => ?_⟩
      rw [show (((hi : Nat) : Int) - ((lo : Nat) : Int)).toNat = hi - lo by omega]
      refine lc_it (walk_range (lo := (lo : Int)) (n := hi - lo)) (fun j Hy => Same H5 Hy ∧ Hy C = some (.lst (((List.range j).map fun k => hNm f3 d3 b3 (lo + k)).map nS))) ⟨same_upd nC, upd_same⟩ (fun _ _ _ _ => trivial) (fun j x Hy Hy' hj pv yy => ?_) (fun Hy pv => ?_)
      · obtain ⟨rfl, rfl⟩ := yy
        obtain ⟨sy, eC⟩ := pv
        obtain ⟨jn, ej, hj2⟩ := paired_getR hja5 (j := lo + j) (y := (hNm f3 d3 b3 (lo + j), [hNm f0 d0 b0 (lo + j), hNm f0 d0 b0 (lo + j + 1)])) (by
          unfold hJns
          rw [List.getElem?_append_left (by simp; omega), List.getElem?_map, List.getElem?_range (by omega)]
          rfl)
        obtain ⟨cc, h1, _⟩ := hj2
        refine ⟨rfl, yes_ ⟨.ref r, rfl, r, _, 2, .ref rc', rfl, rfl, SqT.of (sy _ _ er5), atI_nat (j := 2) rfl, .int ((lo : Int) + j), rfl, rc', _, _, .ref jn, rfl, rfl, (hrc5.same sy).sq, ?_, jn, _, 0, nS (hNm f3 d3 b3 (lo + j)), rfl, rfl, SqT.of (sy _ _ h1), atI_nat (j := 0) rfl, _, eC, by rw [List.length_map, List.length_map, List.length_range]; exact small5000 (by omega), same_set sy nC, ?_⟩⟩
        · rw [show ((lo : Nat) : Int) + ((j : Nat) : Int) = ((lo + j : Nat) : Int) by omega]
          exact atI_nat (j := lo + j) (by rw [List.getElem?_map, ej]; rfl)
        · rw [upd_same, List.range_succ, List.map_append, List.map_append]
          rfl
      obtain ⟨sy, eC⟩ := pv
      refine ⟨A, C, _, _, rfl, rfl, sy _ _ eA, eC, by rw [List.length_map, List.length_map, List.length_range]; exact Nat.le_of_lt (small5000 (by show 1 + _ ≤ 5000; omega)), fun B nB => ?_⟩
      have s6 := same_upd (o := .lst ([nS (hNm f1 d1 b1 lo)] ++ ((List.range (hi - lo)).map fun k => hNm f3 d3 b3 (lo + k)).map nS)) nB
      have s56 := sy.trans s6
      have eB : (upd Hy B (.lst ([nS (hNm f1 d1 b1 lo)] ++ ((List.range (hi - lo)).map fun k => hNm f3 d3 b3 (lo + k)).map nS))) B = some (.lst ([nS (hNm f1 d1 b1 lo)] ++ ((List.range (hi - lo)).map fun k => hNm f3 d3 b3 (lo + k)).map nS)) := upd_same
      generalize upd Hy B (.lst ([nS (hNm f1 d1 b1 lo)] ++ ((List.range (hi - lo)).map fun k => hNm f3 d3 b3 (lo + k)).map nS)) = H6 at s6 s56 eB ⊢
      refine ⟨.ref u5, rfl, .int hi, rfl, u5, _, hi, .ref t, rfl, rfl, SqT.of (s56 _ _ eu55), et, t, _, 0, nS (hNm f1 d1 b1 hi), rfl, rfl, SqT.of (s56 _ _ ht5), atI_nat (j := 0) rfl, by show 1 ≤ sizeLine; decide, fun D nD => ?_⟩
      have s7 := same_upd (o := .lst [nS (hNm f1 d1 b1 hi)]) nD
      refine ⟨B, D, _, _, rfl, rfl, s7 _ _ eB, upd_same, by rw [List.length_append, List.length_map, List.length_map, List.length_range]; exact Nat.le_of_lt (small5000 (by show 1 + _ + 1 ≤ 5000; omega)), fun G nG => ?_⟩
      have hp : ([nS (hNm f1 d1 b1 lo)] ++ ((List.range (hi - lo)).map fun k => hNm f3 d3 b3 (lo + k)).map nS ++ [nS (hNm f1 d1 b1 hi)]) = (hPath (hNm f1 d1 b1) (hNm f3 d3 b3) lo hi).map nS := by
        unfold hPath
        simp
      rw [hp]
      have s8 := s7.trans (same_upd (o := .lst ((hPath (hNm f1 d1 b1) (hNm f3 d3 b3) lo hi).map nS)) nG)
      have s58 := s56.trans s8
      refine ⟨.ref G, rfl, G, rfl, .int i1, rfl, .int i2, rfl, i1, i2, rfl, rfl, .inr ⟨_, rfl, 2, _, rfl, rfl, .inl ⟨by decide, by decide⟩, 1, _, rfl, rfl, _, rfl, decide ((i1 : Int) > i2), (hPath (hNm f1 d1 b1) (hNm f3 d3 b3) lo hi).map nS, ?_, SqL.of upd_same, fun R nR => ⟨R, _, rfl, .inl ⟨SqL.of upd_same, fun w nw => ?_⟩⟩⟩⟩
      · by_cases h : (i1 : Int) > i2
        · simp only [h, decide_true]
          rfl
        · simp only [h, decide_false]
          rfl
      · by_cases h : (i1 : Int) > i2
        · exact q _ w (hPath (hNm f1 d1 b1) (hNm f3 d3 b3) lo hi).reverse (k05.trans (.of ((s58.trans (same_upd nR)).trans (same_upd nw)))) (b5.keep ((s58.trans (same_upd nR)).trans (same_upd nw))) (by rw [upd_same, decide_eq_true h, List.map_reverse]; rfl) (.inr ⟨lo, hi, lt, hin, .inr rfl⟩)
        · exact q _ w (hPath (hNm f1 d1 b1) (hNm f3 d3 b3) lo hi) (k05.trans (.of ((s58.trans (same_upd nR)).trans (same_upd nw)))) (b5.keep ((s58.trans (same_upd nR)).trans (same_upd nw))) (by rw [upd_same, decide_eq_false h]; rfl) (.inr ⟨lo, hi, lt, hin, .inl rfl⟩)
end
end Th
namespace Th
open PySem PySem.Spec PyProof.Rows L2
/-! the drawn house -/
theorem NetH.tk {H H' : Hp} {r : Addr} {n m2 kk sd : Nat} {f0 b0 f1 b1 f2 b2 f3 b3 : Nm} {d0 d1 d2 d3 : Nat} {jx : List (Nm × List Nm)} {tis : List Ti} (h : NetH H r n m2 kk sd f0 b0 f1 b1 f2 b2 f3 b3 d0 d1 d2 d3 jx tis) (k : TKF H H') : NetH H' r n m2 kk sd f0 b0 f1 b1 f2 b2 f3 b3 d0 d1 d2 d3 jx tis := ⟨h.1.tk k, h.2⟩
def WyA (H : Hp) (t : Addr) (gs : List Nm) : Prop := H t = some (.tup (gs.map nS))
def WgA (H : Hp) (t : Addr) (x : Int × Nm) : Prop := H t = some (.tup [.int x.1, nS x.2])
/-- rules: what is asked for the cartage and the like -/
structure RuA (H : Hp) (ru : Addr) (n : Nat) : Prop where
  ex : ∃ (a0 a1 a2 : Int) (le : Addr) (ls : List Int), H ru = some (.tup [.int a0, .int a1, .int a2, .ref le]) ∧ H le = some (.tup (ls.map V.int)) ∧ ls.length = n ∧ (0 ≤ a0 ∧ a0 ≤ 1000000000) ∧ (0 ≤ a1 ∧ a1 ≤ 30) ∧ (0 ≤ a2 ∧ a2 ≤ 1000000000) ∧ ∀ x ∈ ls, 0 ≤ x ∧ x ≤ 1000000000
/-- a house: the net, ways, wagons, rules -/
structure HouseAt (H : Hp) (h r wl gl ru : Addr) (ways : List (List Nm)) (wags : List (Int × Nm)) (n m2 : Nat) (L S T J : Nat → Nm) : Prop where
  e : H h = some (.tup [.ref r, .ref wl, .ref gl, .ref ru])
  w : ∃ wa : List Addr, H wl = some (.lst (wa.map V.ref)) ∧ Paired (WyA H) wa ways
  g : ∃ ga : List Addr, H gl = some (.lst (ga.map V.ref)) ∧ Paired (WgA H) ga wags
  ru : RuA H ru n
  wl : 1 ≤ ways.length ∧ ways.length ≤ 5
  gl : 1 ≤ wags.length ∧ wags.length ≤ 4
  wh : ∀ gs ∈ ways, WayH n m2 S T J gs
  gh : ∀ x ∈ wags, 1 ≤ x.1 ∧ x.1 ≤ 8000 ∧ ∃ k, k < n ∧ x.2 = L k
section
variable {P : Program} {w : World} {K : PySem.W.Frag} {mg : Str → Option Value} {base : Heap} {k : Nat}
def sp_l_house : Sp := fun vs H Q _ => ∃ p : Addr, vs = [.ref p] ∧ Bag H p ∧ ∀ H' h r wl gl ru ways wags n m2 kk sd f0 b0 f1 b1 f2 b2 f3 b3 d0 d1 d2 d3 jx tis, Keep p H H' → Bag H' p → NetH H' r n m2 kk sd f0 b0 f1 b1 f2 b2 f3 b3 d0 d1 d2 d3 jx tis → HouseAt H' h r wl gl ru ways wags n m2 (hNm f0 d0 b0) (hNm f1 d1 b1) (hNm f2 d2 b2) (hNm f3 d3 b3) → Q (.ref h) H'
set_option maxHeartbeats 8000000 in
theorem ok_l_house (T : Defs K mg) : FnOk P w K mg base CX0 (k + 4) T.a_l_house T.d_l_house ["_law_bag_here"] sp_l_house := by
  have G_l_take : FnOk P w K mg base CX0 (k + 3) _ _ _ _ := ok_l_take (k := k + 2) T
  have G_l_net : FnOk P w K mg base CX0 (k + 3) _ _ _ _ := ok_l_net (k := k) T
  have G_l_way : FnOk P w K mg base CX0 (k + 3) _ _ _ _ := ok_l_way (k := k + 1) T
  refine T.F_l_house.ok sc_l_house (fun vs H Q E h => ?_) (fun cdv A outer s H vs Q E hr h => ?_)
  · obtain ⟨p, rfl, _⟩ := h
    rfl
  · obtain ⟨p, rfl, b, q⟩ := h
    refine ⟨_, PSs.nox
(pss_cons (ps_set (i := 1) sc_l_house.nd rfl (.inr rfl) (pe_call G_l_net hr (by rfl) T.g_l_net T.F_l_net.kp T.b_l_net .nil pass0 (pa_cons (pv 0) pa_nil)))
    (pss_cons (ps_setLc (i := 2) (own := [("_law_k", 5)]) (g := gName 5) rfl sc_l_house.nd rfl rfl (sw_true rfl rfl rfl (by decide +kernel)) (pi_range1 (by rfl) T.z_range (pa_cons (pe_op op_add (pe_int) (pe_call G_l_take hr (by rfl) T.g_l_take T.F_l_take.kp T.b_l_take .nil pass0 (pa_cons (pv 0) (pa_cons (pe_int) pa_nil)))) pa_nil)) (blkOk_by (N := N_l_house) (sc := defScope s_l_house) (by decide +kernel)) (fun _ _ _ _ _ => (pg_name (i := 5) sc_l_house.nd rfl (.inl rfl))) (fun _ _ _ _ _ => pts_nil) (fun _ _ _ _ _ => (pe_call G_l_way hr (by rfl) T.g_l_way T.F_l_way.kp T.b_l_way .nil pass0 (pa_cons (pv 0) (pa_cons (pv 1) pa_nil)))))
    (pss_cons (ps_set (i := 3) sc_l_house.nd rfl (.inl rfl) (pe_op op_add (pe_int) (pe_call G_l_take hr (by rfl) T.g_l_take T.F_l_take.kp T.b_l_take .nil pass0 (pa_cons (pv 0) (pa_cons (pe_int) pa_nil)))))
    (pss_cons (ps_set (i := 4) sc_l_house.nd rfl (.inl rfl) (pe_lst pa_nil))
    (pss_cons (ps_for PassesOwn.never rfl (pi_range1 (by rfl) T.z_range (pa_cons (pe_op op_add (pe_int) (pe_call G_l_take hr (by rfl) T.g_l_take T.F_l_take.kp T.b_l_take .nil pass0 (pa_cons (pv 0) (pa_cons (pe_int) pa_nil)))) pa_nil)) (pg_name (i := 5) sc_l_house.nd rfl (.inl rfl))
      (pss_cons (ps_expr (pe_bm PySem.F.plainAttrs_list PySem.F.slot_list_append PySem.F.type_list_append mt_append (pv 4) (pa_cons (pe_tup (pa_cons (pv 3) (pa_cons (pe_ix (r := rIxT K) ix_tup (pe_ix (r := rIxT K) ix_tup (pv 1) (pe_int) (fun _ _ => rfl)) (pe_call G_l_take hr (by rfl) T.g_l_take T.F_l_take.kp T.b_l_take .nil pass0 (pa_cons (pv 0) (pa_cons (pe_callB (r := rLenS K) call_lenS (by rfl) T.z_len (by decide +kernel) (pa_cons (pe_ix (r := rIxT K) ix_tup (pv 1) (pe_int) (fun _ _ => rfl)) pa_nil)) pa_nil))) (fun _ _ => rfl)) pa_nil))) pa_nil)))
      (pss_one (ps_aug (i := 3) sc_l_house.nd rfl (.inl rfl) (pe_ix (r := rIxT K) ix_tup (pe_tup (pa_cons (pe_int) (pa_cons (pe_int) (pa_cons (pe_int) (pa_cons (pe_op op_add (pe_int) (pe_call G_l_take hr (by rfl) T.g_l_take T.F_l_take.kp T.b_l_take .nil pass0 (pa_cons (pv 0) (pa_cons (pe_int) pa_nil)))) pa_nil))))) (pe_call G_l_take hr (by rfl) T.g_l_take T.F_l_take.kp T.b_l_take .nil pass0 (pa_cons (pv 0) (pa_cons (pe_int) pa_nil))) (fun _ _ => rfl)) ip_add))))
    (pss_cons (ps_set (i := 6) sc_l_house.nd rfl (.inr rfl) (pe_ix (r := rIxT K) ix_tup (pe_tup (pa_cons (pe_int) (pa_cons (pe_int) (pa_cons (pe_op op_add (pe_op op_pow (pe_int) (pe_int)) (pe_int)) pa_nil)))) (pe_call G_l_take hr (by rfl) T.g_l_take T.F_l_take.kp T.b_l_take .nil pass0 (pa_cons (pv 0) (pa_cons (pe_int) pa_nil))) (fun _ _ => rfl)))
    (pss_cons (ps_set (i := 7) sc_l_house.nd rfl (.inl rfl) (pe_callTy call_tuple_of (by rfl) T.z_tuple (by decide +kernel) (pa_cons (pe_lc (own := [("_law_line_here", 9)]) (g := gName 9) rfl sc_l_house.nd (pi_tup (pe_ix (r := rIxT K) ix_tup (pv 1) (pe_int) (fun _ _ => rfl))) (blkOk_by (N := N_l_house) (sc := defScope s_l_house) (by decide +kernel)) (fun _ _ _ _ _ => (pg_name (i := 9) sc_l_house.nd rfl (.inl rfl))) (fun _ _ _ _ _ => pts_nil) (fun _ _ _ _ _ => (pe_op op_mul (pe_call G_l_take hr (by rfl) T.g_l_take T.F_l_take.kp T.b_l_take .nil pass0 (pa_cons (pv 0) (pa_cons (pv 6) pa_nil))) (pe_call G_l_take hr (by rfl) T.g_l_take T.F_l_take.kp T.b_l_take .nil pass0 (pa_cons (pv 0) (pa_cons (pe_int) pa_nil)))))) pa_nil)))
    (pss_cons (ps_set (i := 8) sc_l_house.nd rfl (.inl rfl) (pe_tup (pa_cons (pe_call G_l_take hr (by rfl) T.g_l_take T.F_l_take.kp T.b_l_take .nil pass0 (pa_cons (pv 0) (pa_cons (pv 6) pa_nil))) (pa_cons (pe_call G_l_take hr (by rfl) T.g_l_take T.F_l_take.kp T.b_l_take .nil pass0 (pa_cons (pv 0) (pa_cons (pe_int) pa_nil))) (pa_cons (pe_call G_l_take hr (by rfl) T.g_l_take T.F_l_take.kp T.b_l_take .nil pass0 (pa_cons (pv 0) (pa_cons (pv 6) pa_nil))) (pa_cons (pv 7) pa_nil))))))
    (pss_one (ps_ret (pe_tup (pa_cons (pv 1) (pa_cons (pv 2) (pa_cons (pv 4) (pa_cons (pv 8) pa_nil)))))))))))))))
      , ?_⟩
    refine ⟨.ref p, rfl, p, rfl, b, fun H1 r n m2 kk sd f0 b0 f1 b1 f2 b2 f3 b3 d0 d1 d2 d3 jx tis k1 bg1 net => ?_⟩
    have nn := net.2.1
    have n8 := net.2.2.1
    -- ways
    refine ⟨.ref p, rfl, p, 5, rfl, bg1, by decide, by decide, fun H2 c k2 bg2 c0 c1 => ⟨1, c, rfl, rfl, _, rfl, by show -2 ^ 62 ≤ 1 + c; omega, by show 1 + c < 2 ^ 62; omega, fun C nC => ?_⟩⟩
    obtain ⟨nw, enw, nw1, nw5⟩ : ∃ nw : Nat, ((fun i j : Int => i + j) 1 c).toNat = nw ∧ 1 ≤ nw ∧ nw ≤ 5 := ⟨_, rfl, by show 1 ≤ (1 + c).toNat; omega, by show (1 + c).toNat ≤ 5; omega⟩
    have k02 := k1.trans k2
    have tk2 := TKF.keep k2 bg1
    have net2 := net.tk tk2
    have nCp := bg2.ne nC
    have hnw : (1 + c).toNat = nw := enw
    rw [hnw]
    refine lc_it (walk_range (lo := 0) (n := nw)) (fun j Hy => Keep p H2 Hy ∧ Bag Hy p ∧ ∃ (wa : List Addr) (gss : List (List Nm)), Hy C = some (.lst (wa.map V.ref)) ∧ Paired (WyA Hy) wa gss ∧ (∀ gs ∈ gss, WayH n m2 (hNm f1 d1 b1) (hNm f2 d2 b2) (hNm f3 d3 b3) gs) ∧ wa.length = j) ⟨.of (same_upd nC), bg2.keep (same_upd nC), [], [], upd_same, .nil, fun x h => (by cases h), rfl⟩ (fun _ _ _ _ => trivial) (fun j x Hy Hy' hj pv yy => ?_) (fun Hy pv => ?_)
    · obtain ⟨rfl, rfl⟩ := yy
      obtain ⟨ky, by_, wa, gss, eC, hwa, hh, wl⟩ := pv
      refine ⟨rfl, yes_ ⟨.ref p, rfl, .ref r, rfl, p, r, n, m2, kk, sd, f0, b0, f1, b1, f2, b2, f3, b3, d0, d1, d2, d3, jx, tis, rfl, by_, net2.tk (TKF.keep ky bg2), fun H3 t gs k3 bg3 et hw => ?_⟩⟩
      have eC3 := k3 _ _ nCp eC
      have tk3 := TKF.keep k3 by_
      have tkC := tk_updl (o := .lst (wa.map V.ref ++ [.ref t])) eC3
      refine ⟨_, eC3, by rw [List.length_map]; exact small5000 (by omega), (ky.trans k3).set nC, bg3.at (upd_ne nCp.symm), wa ++ [t], gss ++ [gs], by rw [upd_same, List.map_append]; rfl, paired_snoc (paired_imp hwa fun _ _ _ h => (tk3.trans tkC).t _ _ h) (tkC.t _ _ et), fun x hx => ?_, by rw [List.length_append, wl]; rfl⟩
      rcases List.mem_append.mp hx with z | z
      · exact hh x z
      · rw [List.mem_singleton.mp z]; exact hw
    obtain ⟨ky, bg3, wa, gss, eC, hwa, hh, wl⟩ := pv
    have k03 := k02.trans ky
    have net3 := net2.tk (TKF.keep ky bg2)
    generalize Hy = H3 at ky bg3 eC hwa k03 net3 ⊢
    -- wagons
    refine ⟨.ref p, rfl, p, 4000, rfl, bg3, by decide, by decide, fun H4 nu k4 bg4 m0 m1 => ⟨1, nu, rfl, rfl, ?_⟩⟩
    have k04 := k03.trans k4
    have tk4 := TKF.keep k4 bg3
    have net4 := net3.tk tk4
    have eC4 := k4 _ _ nCp eC
    have hwa4 := paired_imp hwa fun _ _ _ h => tk4.t _ _ h
    refine ⟨by show 0 ≤ sizeLine; decide, fun D nD => ?_⟩
    have s5 := same_upd (o := .lst []) nD
    have eD : (upd H4 D (.lst [])) D = some (.lst []) := upd_same
    have nDp := bg4.ne nD
    have bg5 := bg4.keep s5
    generalize upd H4 D (.lst []) = H5 at s5 eD bg5 ⊢
    refine ⟨.ref p, rfl, p, 4, rfl, bg5, by decide, by decide, fun H6 c6 k6 bg6 g0 g1 => ⟨1, c6, rfl, rfl, _, rfl, by show -2 ^ 62 ≤ 1 + c6; omega, by show 1 + c6 < 2 ^ 62; omega, ?_⟩⟩
    obtain ⟨ng, eng, ng1, ng4⟩ : ∃ ng : Nat, (1 + c6).toNat = ng ∧ 1 ≤ ng ∧ ng ≤ 4 := ⟨_, rfl, by omega, by omega⟩
    show ∃ W, _
    have e1 : ((fun i j : Int => i + j) 1 c6).toNat = ng := eng
    rw [eng]
    refine for_range (lo := 0) (n := ng) (fun i σ Hx => ∃ (num : Int) (y5 : Option V) (ga : List Addr) (ws : List (Int × Nm)), σ = [some (.ref p), some (.ref r), some (.ref C), some (.int num), some (.ref D), y5, none, none, none, none] ∧ Keep p H4 Hx ∧ Bag Hx p ∧ Hx D = some (.lst (ga.map V.ref)) ∧ Paired (WgA Hx) ga ws ∧ (∀ x ∈ ws, 1 ≤ x.1 ∧ x.1 ≤ 8000 ∧ ∃ k, k < n ∧ x.2 = hNm f0 d0 b0 k) ∧ ga.length = i ∧ 1 ≤ num ∧ num ≤ 4000 + (i : Int) * 900)
      ⟨1 + nu, none, [], [], rfl, (Keep.of s5).trans k6, bg6, k6 _ _ nDp eD, .nil, fun x h => (by cases h), rfl, by omega, by omega⟩ (fun i σ Hx hi hp => ?_) (fun σ Hx hp => ?_)
    · obtain ⟨num, y5, ga, ws, rfl, kx, bx, eDx, hga, hws, gl, u1, u2⟩ := hp
      have net6 := net4.tk (TKF.keep kx bg4)
      obtain ⟨ra, rb, rc, rd, sa, ja, ta, er, hra, _⟩ := net6.1
      have hl : ((hNms f0 d0 b0 n).map nS).length = n := by unfold hNms; simp
      refine ⟨.ref D, rfl, .inl ⟨rfl, _, SqL.of eDx⟩, .int num, rfl, .ref r, rfl, r, _, 0, .ref ra, rfl, rfl, SqT.of er, atI_nat (j := 0) rfl, .ref p, rfl, .ref r, rfl, r, _, 0, .ref ra, rfl, rfl, SqT.of er, atI_nat (j := 0) rfl, ra, _, rfl, .inr hra.sq, p, _, rfl, bx, by rw [hl]; omega, by rw [hl]; omega, fun H7 d k7 bg7 e0 e1' => ?_⟩
      rw [hl] at e1'
      obtain ⟨d, rfl⟩ : ∃ xn : Nat, d = (xn : Int) := ⟨d.toNat, by omega⟩
      have dl : d < n := by omega
      have tk7 := TKF.keep k7 bx
      have eD7 := k7 _ _ nDp eDx
      refine ⟨ra, _, d, nS (hNm f0 d0 b0 d), rfl, rfl, (hra.keep k7 bx).sq, atI_nat (j := d) (by unfold hNms; rw [List.getElem?_map, List.getElem?_map, List.getElem?_range dl]; rfl), by show 2 ≤ sizeLine; decide, fun u nu' => ?_⟩
      have s8 := same_upd (o := .tup [.int num, nS (hNm f0 d0 b0 d)]) nu'
      have eu : (upd H7 u (.tup [.int num, nS (hNm f0 d0 b0 d)])) u = some (.tup [.int num, nS (hNm f0 d0 b0 d)]) := upd_same
      have bg8 := bg7.keep s8
      have k8 := (kx.trans k7).trans (.of s8)
      have tk8 := tk7.trans (TKF.of s8)
      have eD8 := s8 _ _ eD7
      generalize upd H7 u (.tup [.int num, nS (hNm f0 d0 b0 d)]) = H8 at s8 eu bg8 k8 tk8 eD8 ⊢
      refine ⟨D, _, _, rfl, rfl, eD8, by rw [List.length_map]; exact small5000 (by omega), ?_⟩
      have tkD := tk_updl (o := .lst (ga.map V.ref ++ [.ref u])) eD8
      have eD9 : (upd H8 D (.lst (ga.map V.ref ++ [.ref u]))) D = some (.lst ((ga ++ [u]).map V.ref)) := by rw [upd_same, List.map_append]; rfl
      have k9 : Keep p H4 (upd H8 D (.lst (ga.map V.ref ++ [.ref u]))) := k8.set nD
      have bg9 : Bag (upd H8 D (.lst (ga.map V.ref ++ [.ref u]))) p := bg8.at (upd_ne nDp.symm)
      have hga9 : Paired (WgA (upd H8 D (.lst (ga.map V.ref ++ [.ref u])))) (ga ++ [u]) (ws ++ [(num, hNm f0 d0 b0 d)]) := paired_snoc (paired_imp hga fun _ _ _ h => (tk8.trans tkD).t _ _ h) (tkD.t _ _ eu)
      generalize upd H8 D (.lst (ga.map V.ref ++ [.ref u])) = H9 at eD9 k9 bg9 hga9 ⊢
      have hws9 : ∀ x ∈ ws ++ [(num, hNm f0 d0 b0 d)], 1 ≤ x.1 ∧ x.1 ≤ 8000 ∧ ∃ k, k < n ∧ x.2 = hNm f0 d0 b0 k := fun x hx => by
        rcases List.mem_append.mp hx with z | z
        · exact hws x z
        · rw [List.mem_singleton.mp z]
          exact ⟨u1, by show num ≤ 8000; omega, d, dl, rfl⟩
      refine ⟨.int num, rfl, .ref p, rfl, p, 900, rfl, bg9, by decide, by decide, fun H10 st k10 bg10 t0 t1 => ⟨1, st, rfl, rfl, by show 4 ≤ sizeLine; decide, fun v nv => ?_⟩⟩
      have s11 := same_upd (o := .tup [.int 1, .int 10, .int 100, .int (1 + st)]) nv
      refine ⟨.ref p, rfl, p, 4, rfl, bg10.keep s11, by decide, by decide, fun H11 cc k11 bg11 h0 h1 => ?_⟩
      obtain ⟨m, hm, em⟩ := pick (ms := [1, 10, 100, 1 + st]) h0 h1
      have hm : m = 1 ∨ m = 10 ∨ m = 100 ∨ m = 1 + st := by simpa using hm
      have kk9 := (k10.trans (.of s11)).trans k11
      have tk11 := TKF.keep kk9 bg9
      refine ⟨v, _, cc, _, rfl, rfl, SqT.of (k11 _ _ (bg10.ne nv) upd_same), em, num, m, rfl, rfl, num + m, some (.int (0 + (i : Int))), ga ++ [u], ws ++ [(num, hNm f0 d0 b0 d)], rfl, k9.trans kk9, bg11, kk9 _ _ nDp eD9, paired_imp hga9 fun _ _ _ h => tk11.t _ _ h, hws9, by rw [List.length_append, gl]; rfl, by omega, by omega⟩
    · obtain ⟨num, y5, ga, ws, rfl, kx, bx, eDx, hga, hws, gl, _⟩ := hp
      have k0x := k04.trans kx
      have tkx := TKF.keep kx bg4
      have netx := net4.tk tkx
      have eCx := kx _ _ nCp eC4
      have hwax := paired_imp hwa4 fun _ _ _ h => tkx.t _ _ h
      have hgw := paired_len hga
      have hww := paired_len hwa
      -- how great
      refine ⟨10, 9, rfl, rfl, ⟨by decide, by decide, by decide⟩, _, 1, rfl, rfl, by show 3 ≤ sizeLine; decide, fun v nv => ?_⟩
      have s1 := same_upd (o := .tup [.int 10, .int 1000, .int 1000000001]) nv
      refine ⟨.ref p, rfl, p, 3, rfl, bx.keep s1, by decide, by decide, fun H7 cc k7 bg7 h0 h1 => ?_⟩
      obtain ⟨gr, hm, em⟩ := pick (ms := [10, 1000, 1000000001]) h0 h1
      have hm : gr = 10 ∨ gr = 1000 ∨ gr = 1000000001 := by simpa using hm
      refine ⟨v, _, cc, _, rfl, rfl, SqT.of (k7 _ _ (bx.ne nv) upd_same), em, ?_⟩
      have kx7 := (Keep.of s1).trans k7
      have tk7 := TKF.keep kx7 bx
      have net7 := netx.tk tk7
      obtain ⟨ra, rb, rc, rd, sa, ja, ta, er, hra, _⟩ := net7.1
      have hl : ((hNms f0 d0 b0 n).map nS).length = n := by unfold hNms; simp
      have gr0 : 0 < gr := by omega
      have gr1 : gr < 1073741824 := by omega
      -- leasts
      refine ⟨.ref r, rfl, r, _, 0, .ref ra, rfl, rfl, SqT.of er, atI_nat (j := 0) rfl, ra, rfl, ⟨_, hra.sq⟩, fun A nA => ?_⟩
      have nAp := bg7.ne nA
      refine lc_it (walk_tup (xs := (hNms f0 d0 b0 n).map nS)) (fun j Hy => Keep p H7 Hy ∧ Bag Hy p ∧ ∃ ls : List Int, Hy A = some (.lst (ls.map V.int)) ∧ ls.length = j ∧ ∀ x ∈ ls, 0 ≤ x ∧ x ≤ 1000000000) ⟨.of (same_upd nA), bg7.keep (same_upd nA), [], upd_same, rfl, fun x h => (by cases h)⟩ (fun j Hy _ pv => by obtain ⟨ky, _⟩ := pv; exact (hra.keep ky bg7).sq) (fun j x Hy Hy' hj pv yy => ?_) (fun Hy pv => ?_)
      · obtain ⟨rfl, ex⟩ := yy
        obtain ⟨ky, by_, ls, eA, ll, hls⟩ := pv
        rw [hl] at hj
        refine ⟨rfl, yes_ ⟨.ref p, rfl, .int gr, rfl, p, gr, rfl, by_, gr0, gr1, fun H8 x8 k8 bg8 x80 x81 => ⟨.ref p, rfl, p, 2, rfl, bg8, by decide, by decide, fun H9 x9 k9 bg9 x90 x91 => ⟨x8, x9, rfl, rfl, .inl ⟨by omega, by omega⟩, _, k9 _ _ nAp (k8 _ _ nAp eA), by rw [List.length_map]; exact small5000 (by omega), ((ky.trans k8).trans k9).set nA, bg9.at (upd_ne nAp.symm), ls ++ [x8 * x9], by rw [upd_same, List.map_append]; rfl, by rw [List.length_append, ll]; rfl, fun y hy => ?_⟩⟩⟩⟩
        rcases List.mem_append.mp hy with z | z
        · exact hls y z
        · rw [List.mem_singleton.mp z]
          have : x9 = 0 ∨ x9 = 1 := by omega
          rcases this with e | e <;> rw [e] <;> omega
      obtain ⟨ky, bg8, ls, eA, ll, hls⟩ := pv
      rw [hl] at ll
      refine ⟨A, _, rfl, .inl ⟨SqL.of eA, fun le nle => ?_⟩⟩
      have s9 := same_upd (o := .tup (ls.map V.int)) nle
      have ele : (upd Hy le (.tup (ls.map V.int))) le = some (.tup (ls.map V.int)) := upd_same
      have bg9 := bg8.keep s9
      have k79 := ky.trans (.of s9)
      generalize upd Hy le (.tup (ls.map V.int)) = H9 at s9 ele bg9 k79 ⊢
      -- rules
      refine ⟨.ref p, rfl, .int gr, rfl, p, gr, rfl, bg9, gr0, gr1, fun H10 a0 k10 bg10 a00 a01 => ⟨.ref p, rfl, p, 31, rfl, bg10, by decide, by decide, fun H11 a1 k11 bg11 a10 a11 => ⟨.ref p, rfl, .int gr, rfl, p, gr, rfl, bg11, gr0, gr1, fun H12 a2 k12 bg12 a20 a21 => ⟨.ref le, rfl, by show 4 ≤ sizeLine; decide, fun ru nru => ?_⟩⟩⟩⟩
      have s13 := same_upd (o := .tup [.int a0, .int a1, .int a2, .ref le]) nru
      have eru : (upd H12 ru (.tup [.int a0, .int a1, .int a2, .ref le])) ru = some (.tup [.int a0, .int a1, .int a2, .ref le]) := upd_same
      have k913 := ((k10.trans k11).trans k12).trans (.of s13)
      have bg13 := bg12.keep s13
      generalize upd H12 ru (.tup [.int a0, .int a1, .int a2, .ref le]) = H13 at s13 eru k913 bg13 ⊢
      refine ⟨.ref r, rfl, .ref C, rfl, .ref D, rfl, .ref ru, rfl, by show 4 ≤ sizeLine; decide, fun h nh => ?_⟩
      have s14 := same_upd (o := .tup [.ref r, .ref C, .ref D, .ref ru]) nh
      have kf : Keep p Hx _ := ((kx7.trans k79).trans k913).trans (.of s14)
      have tkf := TKF.keep kf bx
      have k9f := TKF.keep (k913.trans (.of s14)) bg9
      refine q _ h r C D ru gss ws n m2 kk sd f0 b0 f1 b1 f2 b2 f3 b3 d0 d1 d2 d3 jx tis (k0x.trans kf) (bg13.keep s14) (netx.tk tkf) ⟨upd_same, ⟨wa, kf _ _ nCp eCx, paired_imp hwax fun _ _ _ h => tkf.t _ _ h⟩, ⟨ga, kf _ _ nDp eDx, paired_imp hga fun _ _ _ h => tkf.t _ _ h⟩, ⟨a0, a1, a2, le, ls, s14 _ _ eru, k9f.t _ _ ele, ll, ⟨a00, by omega⟩, ⟨a10, by omega⟩, ⟨a20, by omega⟩, hls⟩, by omega, by omega, hh, hws⟩
end
end Th
namespace Th
open PySem PySem.Spec PyProof.Rows L2
/-! a drawn return -/
theorem pick2 {x y : Str} {d : Int} (h0 : 0 ≤ d) (h1 : d < 2) : ∃ z, (z = x ∨ z = y) ∧ atI [V.str x, V.str y] d = some (.str z) := by
  have : d = 0 ∨ d = 1 := by omega
  rcases this with rfl | rfl
  · exact ⟨x, .inl rfl, atI_nat (j := 0) rfl⟩
  · exact ⟨y, .inr rfl, atI_nat (j := 1) rfl⟩
section
variable {P : Program} {w : World} {K : PySem.W.Frag} {mg : Str → Option Value} {base : Heap} {k : Nat}
def sp_l_return : Sp := fun vs H Q _ => ∃ (p r wg hd : Addr) (ls : List Nm) (sts : List (Nm × Nm)) (jns : List (Nm × List Nm)) (tis : List Ti) (ga : List Addr) (ws : List (Int × Nm)) (kd : Str) (nu ed : Int), vs = [.ref p, .ref r, .ref wg, .ref hd] ∧ Bag H p ∧ NetAt H r ls sts jns tis ∧ 1 ≤ jns.length ∧ jns.length ≤ 100 ∧ (∀ j ∈ jns, 1 ≤ j.2.length ∧ j.2.length ≤ 8) ∧ wg ≠ p ∧ H wg = some (.lst (ga.map V.ref)) ∧ Paired (WgA H) ga ws ∧ 1 ≤ ws.length ∧ ws.length ≤ 4 ∧ H hd = some (.tup [.str kd, .int nu, .int ed]) ∧
  ∀ (H' : Hp) (t : Addr) (jn : Nm × List Nm) (dy hr wag : Int) (ov : Nm) (ld sl : Str), Keep p H H' → Bag H' p → jn ∈ jns → ov ∈ jn.2 → 1 ≤ dy → dy ≤ 420 → 0 ≤ hr → hr ≤ 23 → (ld = ("laden" : Str) ∨ ld = ("empty" : Str)) → (sl = ("whole" : Str) ∨ sl = ("broken" : Str)) → ((∃ x ∈ ws, wag = x.1) ∨ (1 ≤ wag ∧ wag ≤ 9999)) →
    H' t = some (.tup [.str kd, .int nu, .int ed, nS jn.1, .int dy, .int hr, .int wag, nS ov, .str ld, .str sl]) → Q (.ref t) H'
set_option maxHeartbeats 8000000 in
theorem ok_l_return (T : Defs K mg) : FnOk P w K mg base CX0 (k + 3) T.a_l_return T.d_l_return ["_law_bag_here", "_law_net_here", "_law_wagons", "_law_head"] sp_l_return := by
  have G_l_take : FnOk P w K mg base CX0 (k + 2) _ _ _ _ := ok_l_take (k := k + 1) T
  have G_l_day : FnOk P w K mg base CX0 (k + 2) _ _ _ _ := ok_l_day (k := k) T
  refine T.F_l_return.ok sc_l_return (fun vs H Q E h => ?_) (fun cdv A outer s H vs Q E hr h => ?_)
  · obtain ⟨p, r, wg, hd, ls, sts, jns, tis, ga, ws, kd, nu, ed, rfl, _⟩ := h
    rfl
  · obtain ⟨p, r, wg, hd, ls, sts, jns, tis, ga, ws, kd, nu, ed, rfl, b, hnet, j1, j100, hj, nwp, ewg, hga, w1, w4, ehd, q⟩ := h
    obtain ⟨ra, rb, rc, rd, sa, ja, ta, er, hra, hrb, hsa, hrc, hja, _⟩ := hnet
    refine ⟨_, PSs.nox
(pss_cons (ps_asg (pe_ix (r := rIxT K) ix_tup (pe_ix (r := rIxT K) ix_tup (pv 1) (pe_int) (fun _ _ => rfl)) (pe_call G_l_take hr (by rfl) T.g_l_take T.F_l_take.kp T.b_l_take .nil pass0 (pa_cons (pv 0) (pa_cons (pe_callB (r := rLenS K) call_lenS (by rfl) T.z_len (by decide +kernel) (pa_cons (pe_ix (r := rIxT K) ix_tup (pv 1) (pe_int) (fun _ _ => rfl)) pa_nil)) pa_nil))) (fun _ _ => rfl)) (pg_tup rfl (pgs_cons (pg_name (i := 4) sc_l_return.nd rfl (.inl rfl)) (pgs_cons (pg_name (i := 5) sc_l_return.nd rfl (.inl rfl)) pgs_nil))))
    (pss_cons (ps_set (i := 6) sc_l_return.nd rfl (.inl rfl) (pe_ix (r := rIxT K) ix_tup (pe_ix (r := rIxL K) ix_list (pv 2) (pe_call G_l_take hr (by rfl) T.g_l_take T.F_l_take.kp T.b_l_take .nil pass0 (pa_cons (pv 0) (pa_cons (pe_callB (r := rLenS K) call_lenS (by rfl) T.z_len (by decide +kernel) (pa_cons (pv 2) pa_nil)) pa_nil))) (fun _ _ => rfl)) (pe_int) (fun _ _ => rfl)))
    (Evl.pss_cut (ps_if (pt_cmpR op_eq (pe_call G_l_take hr (by rfl) T.g_l_take T.F_l_take.kp T.b_l_take .nil pass0 (pa_cons (pv 0) (pa_cons (pe_int) pa_nil))) (pe_int) (nomark _))
      (pss_one (ps_set (i := 6) sc_l_return.nd rfl (.inl rfl) (pe_op op_add (pe_int) (pe_call G_l_take hr (by rfl) T.g_l_take T.F_l_take.kp T.b_l_take .nil pass0 (pa_cons (pv 0) (pa_cons (pe_int) pa_nil))))))
      pss_nil)
    (pss_cons (ps_set (i := 7) sc_l_return.nd rfl (.inl rfl) (pe_ix (r := rIxT K) ix_tup (pv 5) (pe_call G_l_take hr (by rfl) T.g_l_take T.F_l_take.kp T.b_l_take .nil pass0 (pa_cons (pv 0) (pa_cons (pe_callB (r := rLenS K) call_lenS (by rfl) T.z_len (by decide +kernel) (pa_cons (pv 5) pa_nil)) pa_nil))) (fun _ _ => rfl)))
    (pss_cons (ps_set (i := 8) sc_l_return.nd rfl (.inl rfl) (pe_ix (r := rIxT K) ix_tup (pe_tup (pa_cons (pe_str) (pa_cons (pe_str) pa_nil))) (pe_call G_l_take hr (by rfl) T.g_l_take T.F_l_take.kp T.b_l_take .nil pass0 (pa_cons (pv 0) (pa_cons (pe_int) pa_nil))) (fun _ _ => rfl)))
    (pss_cons (ps_set (i := 3) sc_l_return.nd rfl (.inl rfl) (pe_op op_catT (pv 3) (pe_tup (pa_cons (pv 4) (pa_cons (pe_call G_l_day hr (by rfl) T.g_l_day T.F_l_day.kp T.b_l_day .nil pass0 (pa_cons (pv 0) pa_nil)) (pa_cons (pe_call G_l_take hr (by rfl) T.g_l_take T.F_l_take.kp T.b_l_take .nil pass0 (pa_cons (pv 0) (pa_cons (pe_int) pa_nil))) (pa_cons (pv 6) pa_nil)))))))
    (pss_one (ps_ret (pe_op op_catT (pv 3) (pe_tup (pa_cons (pv 7) (pa_cons (pe_ix (r := rIxT K) ix_tup (pe_tup (pa_cons (pe_str) (pa_cons (pe_str) pa_nil))) (pe_call G_l_take hr (by rfl) T.g_l_take T.F_l_take.kp T.b_l_take .nil pass0 (pa_cons (pv 0) (pa_cons (pe_int) pa_nil))) (fun _ _ => rfl)) (pa_cons (pv 8) pa_nil)))))))))))))
      , ?_⟩
    have jal := paired_len hja
    have gal := paired_len hga
    -- the junction
    refine ⟨.ref r, rfl, r, _, 2, .ref rc, rfl, rfl, SqT.of er, atI_nat (j := 2) rfl, .ref p, rfl, .ref r, rfl, r, _, 2, .ref rc, rfl, rfl, SqT.of er, atI_nat (j := 2) rfl, rc, _, rfl, .inr hrc.sq, p, _, rfl, b, by rw [List.length_map]; omega, by rw [List.length_map]; omega, fun H1 d k1 b1 d0 d1 => ?_⟩
    rw [List.length_map] at d1
    obtain ⟨d, rfl⟩ : ∃ xn : Nat, d = (xn : Int) := ⟨d.toNat, by omega⟩
    have dl : d < jns.length := by omega
    obtain ⟨ju, eju, hju⟩ := paired_getR hja (List.getElem?_eq_getElem dl)
    obtain ⟨cc, ej1, ej2⟩ := hju
    have jin := List.getElem_mem dl
    generalize jns[d] = jn at ej1 ej2 jin
    have tk1 := TKF.keep k1 b
    refine ⟨rc, _, d, .ref ju, rfl, rfl, (hrc.keep k1 b).sq, atI_nat (j := d) (by rw [List.getElem?_map, eju]; rfl), ju, _, rfl, SqT.of (tk1.t _ _ ej1), rfl, _, _, rfl, _, [], rfl, rfl, ?_⟩
    -- the wagon
    have ewg1 := k1 _ _ nwp ewg
    refine ⟨.ref wg, rfl, .ref p, rfl, .ref wg, rfl, wg, _, rfl, .inl (SqL.of ewg1), p, _, rfl, b1, by rw [List.length_map]; omega, by rw [List.length_map]; omega, fun H2 c k2 b2 c0 c1 => ?_⟩
    rw [List.length_map] at c1
    obtain ⟨c, rfl⟩ : ∃ xn : Nat, c = (xn : Int) := ⟨c.toNat, by omega⟩
    have cl : c < ws.length := by omega
    obtain ⟨gu, egu, hgu⟩ := paired_getR hga (List.getElem?_eq_getElem cl)
    have gin := List.getElem_mem cl
    generalize ws[c] = x at hgu gin
    have tk2 := tk1.trans (TKF.keep k2 b1)
    have k02 := k1.trans k2
    refine ⟨wg, _, c, .ref gu, rfl, rfl, SqL.of (k2 _ _ nwp ewg1), atI_nat (j := c) (by rw [List.getElem?_map, egu]; rfl), gu, _, 0, .int x.1, rfl, rfl, SqT.of (tk2.t _ _ hgu), atI_nat (j := 0) rfl, ?_⟩
    refine ⟨fun σ Hz => ∃ wag : Int, σ = [some (.ref p), some (.ref r), some (.ref wg), some (.ref hd), some (nS jn.1), some (.ref cc), some (.int wag), none, none] ∧ Keep p H2 Hz ∧ Bag Hz p ∧ ((∃ x ∈ ws, wag = x.1) ∨ (1 ≤ wag ∧ wag ≤ 9999)), ?_, fun σ H3 mid => ?_⟩
    · refine ⟨.ref p, rfl, p, 5, rfl, b2, by decide, by decide, fun H3 _ k3 b3 _ _ => ⟨rfl, _, rfl, ite2 (fun _ => ?_) fun _ => ?_⟩⟩
      · exact ⟨.ref p, rfl, p, 9999, rfl, b3, by decide, by decide, fun H4 m k4 b4 m0 m1 => ⟨1, m, rfl, rfl, _, rfl, k3.trans k4, b4, .inr ⟨by omega, by omega⟩⟩⟩
      · exact ⟨_, rfl, k3, b3, .inl ⟨x, gin, rfl⟩⟩
    obtain ⟨wag, rfl, k3, b3, hwag⟩ := mid
    have tk3 := tk2.trans (TKF.keep k3 b2)
    have k03 := k02.trans k3
    have ec3 := tk3.t _ _ ej2
    obtain ⟨jl1, jl8⟩ := hj jn jin
    -- over
    refine ⟨.ref cc, rfl, .ref p, rfl, .ref cc, rfl, cc, _, rfl, .inr (SqT.of ec3), p, _, rfl, b3, by rw [List.length_map]; omega, by rw [List.length_map]; omega, fun H4 e k4 b4 e0 e1 => ?_⟩
    rw [List.length_map] at e1
    obtain ⟨e, rfl⟩ : ∃ xn : Nat, e = (xn : Int) := ⟨e.toNat, by omega⟩
    have el : e < jn.2.length := by omega
    refine ⟨cc, _, e, nS jn.2[e], rfl, rfl, SqT.of ((TKF.keep k4 b3).t _ _ ec3), atI_nat (j := e) (by rw [List.getElem?_map, List.getElem?_eq_getElem el]; rfl), ?_⟩
    have ovin := List.getElem_mem el
    generalize jn.2[e] = ov at ovin
    -- the seal
    refine ⟨by show 2 ≤ sizeLine; decide, fun v nv => ?_⟩
    have s5 := same_upd (o := .tup [.str ("whole" : Str), .str ("broken" : Str)]) nv
    refine ⟨.ref p, rfl, p, 2, rfl, b4.keep s5, by decide, by decide, fun H5 f k5 b5 f0 f1 => ?_⟩
    obtain ⟨sl, hsl, esl⟩ := pick2 (x := ("whole" : Str)) (y := ("broken" : Str)) f0 f1
    refine ⟨v, _, f, _, rfl, rfl, SqT.of (k5 _ _ (b4.ne nv) upd_same), esl, ?_⟩
    have k05 := ((k03.trans k4).trans (.of s5)).trans k5
    have ehd5 := (TKF.keep k05 b).t _ _ ehd
    -- the head
    refine ⟨.ref hd, rfl, nS jn.1, rfl, .ref p, rfl, p, rfl, b5, fun H6 dy k6 b6 dy1 dy2 => ⟨.ref p, rfl, p, 24, rfl, b6, by decide, by decide, fun H7 ho k7 b7 ho0 ho1 => ⟨.int wag, rfl, by show 4 ≤ sizeLine; decide, fun u nu' => ?_⟩⟩⟩
    have s8 := same_upd (o := .tup [nS jn.1, .int dy, .int ho, .int wag]) nu'
    have k57 := k6.trans k7
    have ehd8 := s8 _ _ ((TKF.keep k57 b5).t _ _ ehd5)
    refine ⟨hd, u, _, _, rfl, rfl, SqT.of ehd8, SqT.of upd_same, by simp, by show 7 ≤ sizeLine; decide, fun h => (by cases h), fun _ g ng => ?_⟩
    have s9 := s8.trans (same_upd (o := .tup ([.str kd, .int nu, .int ed] ++ [nS jn.1, .int dy, .int ho, .int wag])) ng)
    have eg : (upd (upd H7 u (.tup [nS jn.1, .int dy, .int ho, .int wag])) g (.tup ([.str kd, .int nu, .int ed] ++ [nS jn.1, .int dy, .int ho, .int wag]))) g = some (.tup ([.str kd, .int nu, .int ed] ++ [nS jn.1, .int dy, .int ho, .int wag])) := upd_same
    have b9 := b7.keep s9
    have k09 := (k05.trans k57).trans (.of s9)
    generalize upd (upd H7 u (.tup [nS jn.1, .int dy, .int ho, .int wag])) g (.tup ([.str kd, .int nu, .int ed] ++ [nS jn.1, .int dy, .int ho, .int wag])) = H9 at s9 eg b9 k09 ⊢
    refine ⟨.ref g, rfl, nS ov, rfl, by show 2 ≤ sizeLine; decide, fun v2 nv2 => ?_⟩
    have s10 := same_upd (o := .tup [.str ("laden" : Str), .str ("empty" : Str)]) nv2
    refine ⟨.ref p, rfl, p, 2, rfl, b9.keep s10, by decide, by decide, fun H10 l k10 b10 l0 l1 => ?_⟩
    obtain ⟨ld, hld, eld⟩ := pick2 (x := ("laden" : Str)) (y := ("empty" : Str)) l0 l1
    have k910 := (Keep.of s10).trans k10
    have eg10 := (TKF.keep k910 b9).t _ _ eg
    refine ⟨v2, _, l, _, rfl, rfl, SqT.of (k10 _ _ (b9.ne nv2) upd_same), eld, .str sl, rfl, by show 3 ≤ sizeLine; decide, fun u2 nu2 => ?_⟩
    have s11 := same_upd (o := .tup [nS ov, .str ld, .str sl]) nu2
    refine ⟨g, u2, _, _, rfl, rfl, SqT.of (s11 _ _ eg10), SqT.of upd_same, by simp, by show 10 ≤ sizeLine; decide, fun h => (by cases h), fun _ t nt => ?_⟩
    exact q _ t jn dy ho wag ov ld sl (((k09.trans k910).trans (.of s11)).trans (.of (same_upd nt))) ((b10.keep s11).keep (same_upd nt)) jin ovin dy1 dy2 ho0 (by omega) hld hsl hwag upd_same
end
end Th
namespace Th
open PySem PySem.Spec PyProof.Rows L2
/-! a drawn paper of any kind -/
/-! data without lists: kept where tuples are -/
mutual
def noL : PyData → Bool
  | .list _ => false
  | .dict _ => false
  | .tuple ds => noLAll ds
  | .none => true
  | .bool _ => false
  | .int _ => true
  | .str _ => true
def noLAll : List PyData → Bool
  | [] => true
  | d :: ds => noL d && noLAll ds
end
mutual
theorem Dt.tkf {H H' : Hp} (k : TKF H H') : ∀ {v : V} {d : PyData}, Dt SA H v d → noL d = true → Dt SA H' v d
  | _, _, .non, _ => .non
  | _, _, .bl b, h => by simp [noL] at h
  | _, _, .int b, _ => .int b
  | _, _, .str b, _ => .str b
  | _, _, .lst s e l r, h => by simp [noL] at h
  | _, _, .tup s e l r, h => .tup s (k.t _ _ e) l (DtAll.tkf k r (by simpa [noL] using h))
theorem DtAll.tkf {H H' : Hp} (k : TKF H H') : ∀ {v : List V} {d : List PyData}, DtAll SA H v d → noLAll d = true → DtAll SA H' v d
  | _, _, .nil, _ => .nil
  | _, _, .cons a r, h => by
    simp only [noLAll, Bool.and_eq_true] at h
    exact .cons (Dt.tkf k a h.1) (DtAll.tkf k r h.2)
end
/-! data whose texts and tuples are short -/
mutual
def srt (N : Nat) : PyData → Bool
  | .list ds => decide (ds.length ≤ N) && srtAll N ds
  | .dict _ => false
  | .tuple ds => decide (ds.length ≤ N) && srtAll N ds
  | .none => true
  | .bool _ => true
  | .int _ => true
  | .str s => decide (s.length ≤ N)
def srtAll (N : Nat) : List PyData → Bool
  | [] => true
  | d :: ds => srt N d && srtAll N ds
end
theorem nm_srt {z : Nm} (h : IsNm z) : decide ((SX.S z).length ≤ 100) = true := by
  refine decide_eq_true ?_
  have := h.2.1
  have e : (SX.S z).length = z.length := List.size_toArray
  omega
theorem noLAll_strs : ∀ ss : List Str, noLAll (ss.map PyData.str) = true
  | [] => rfl
  | s :: ss => by
    show (true && noLAll (ss.map PyData.str)) = true
    rw [noLAll_strs ss]
    rfl
theorem noL_rul (n : Int) (ss : List Str) : noLAll [.int n, .tuple (ss.map PyData.str)] = true := by
  show (true && (noLAll (ss.map PyData.str) && true)) = true
  rw [noLAll_strs]
  rfl
def jnD (j : Nm × List Nm) : PyData := .tuple [.str (SX.S j.1), .tuple ((j.2.map SX.S).map PyData.str)]
theorem layAll_nmsH : ∀ {zs : List Nm}, (∀ z ∈ zs, IsNm z) → PyData.canLayAll0 ((zs.map SX.S).map PyData.str) = true
  | [], _ => rfl
  | z :: zs, h => by
    refine Bool.and_eq_true_iff.mpr ⟨nm_ok (h z List.mem_cons_self), layAll_nmsH fun y hy => h y (List.mem_cons_of_mem _ hy)⟩
theorem depthAll_nmsH : ∀ zs : List Nm, PyData.depthAll ((zs.map SX.S).map PyData.str) = 0
  | [] => rfl
  | z :: zs => by
    show max 0 (PyData.depthAll ((zs.map SX.S).map PyData.str)) = 0
    rw [depthAll_nmsH zs]
    rfl
theorem layAll_jn : ∀ {js : List (Nm × List Nm)}, (∀ j ∈ js, IsNm j.1 ∧ ∀ z ∈ j.2, IsNm z) → PyData.canLayAll0 (js.map jnD) = true
  | [], _ => rfl
  | j :: js, h => by
    refine Bool.and_eq_true_iff.mpr ⟨?_, layAll_jn fun y hy => h y (List.mem_cons_of_mem _ hy)⟩
    show (PyData.strOk (SX.S j.1) && (PyData.canLayAll0 ((j.2.map SX.S).map PyData.str) && true)) = true
    rw [nm_ok (h j List.mem_cons_self).1, layAll_nmsH (h j List.mem_cons_self).2]
    rfl
theorem depthAll_jn : ∀ js : List (Nm × List Nm), PyData.depthAll (js.map jnD) ≤ 2
  | [] => Nat.zero_le _
  | j :: js => by
    refine Nat.max_le.mpr ⟨?_, depthAll_jn js⟩
    show max 0 (max (PyData.depthAll ((j.2.map SX.S).map PyData.str) + 1) 0) + 1 ≤ 2
    rw [depthAll_nmsH]
    decide
theorem shaped_jn {js : List (Nm × List Nm)} (h : ∀ j ∈ js, IsNm j.1 ∧ ∀ z ∈ j.2, IsNm z) : SeqAt.shaped (.tuple (js.map jnD)) = true := Bool.and_eq_true_iff.mpr ⟨layAll_jn h, decide_eq_true (by
  show PyData.depthAll (js.map jnD) + 1 ≤ 64
  have := depthAll_jn js
  omega)⟩
theorem dpAll_nmsH {K : PySem.W.Frag} {H : Hp} : ∀ zs : List Nm, DpAll K H (zs.map nS) ((zs.map SX.S).map PyData.str)
  | [] => .nil
  | z :: zs => .cons (.str _) (dpAll_nmsH zs)
theorem dpAll_jn {K : PySem.W.Frag} {H : Hp} : ∀ {as : List Addr} {js : List (Nm × List Nm)}, Paired (JnAt H) as js → DpAll K H (as.map V.ref) (js.map jnD)
  | _, _, .nil => .nil
  | _, _, .cons (b := j) ⟨c, h1, h2⟩ t => .cons (.tup (SqT.of h1) (.cons (.str _) (.cons (.tup (SqT.of h2) (dpAll_nmsH j.2)) .nil))) (dpAll_jn t)
theorem inc_len {n : Nat} : ∀ {js : List Nat} {lo : Nat}, js.Pairwise (· < ·) → (∀ j ∈ js, lo ≤ j ∧ j < n) → js = [] ∨ js.length + lo ≤ n
  | [], _, _, _ => .inl rfl
  | j :: js, lo, hp, h => by
    cases hp with
    | cons h1 h2 =>
      have hj := h j List.mem_cons_self
      rcases inc_len (lo := j + 1) h2 (fun x hx => ⟨h1 x hx, (h x (List.mem_cons_of_mem _ hx)).2⟩) with e | e
      · subst e
        refine .inr ?_
        show 0 + 1 + lo ≤ n
        omega
      · refine .inr ?_
        rw [List.length_cons]
        omega
/-- the junctions of a drawn house -/
theorem jns_ok {n kk sd : Nat} {f0 b0 f1 b1 f2 b2 f3 b3 : Nm} {d0 d3 : Nat} {jx : List (Nm × List Nm)} (hn : HNs kk sd f0 b0 f1 b1 f2 b2 f3 b3) (sd1 : sd ≤ 1) (n8 : n ≤ 8) (hjx : ∀ x ∈ jx, JxOk n (hNm f0 d0 b0) (hNm f3 d3 b3) 3 x) : ∀ j ∈ hJns n (hNm f0 d0 b0) (hNm f3 d3 b3) ++ jx, (IsNm j.1 ∧ ∀ z ∈ j.2, IsNm z) ∧ 1 ≤ j.2.length ∧ j.2.length ≤ 8 := by
  have l3 : (hdS sd ((sgL kk).getD 2 [])).length + (tlS sd ((sgL kk).getD 2 [])).length ≤ 2 := by
    have : ((sgL kk).getD 2 []).length = 1 := by unfold sgL; split <;> rfl
    unfold hdS tlS
    split
    · rw [this]; decide
    · rw [this]; decide
  have hJ := fun k => hn.h3.nm l3 d3 k
  have hL := fun k => hn.h0.nm (by decide) d0 k
  intro j hj
  rcases List.mem_append.mp hj with h | h
  · unfold hJns at h
    obtain ⟨k, _, rfl⟩ := List.mem_map.mp h
    refine ⟨⟨hJ k, fun z hz => ?_⟩, by show 1 ≤ 2; decide, by show 2 ≤ 8; decide⟩
    rcases List.mem_cons.mp hz with e | hz
    · rw [e]; exact hL k
    · rw [List.mem_singleton.mp hz]; exact hL (k + 1)
  · obtain ⟨k, _, _, e⟩ := (hjx j h).at_
    obtain ⟨js, hp, hb, h2, ej⟩ := (hjx j h).ls
    rw [e, ej]
    refine ⟨⟨hJ _, fun z hz => ?_⟩, by rw [List.length_map]; omega, ?_⟩
    · obtain ⟨m, _, rfl⟩ := List.mem_map.mp hz
      exact hL m
    · rw [List.length_map]
      rcases inc_len (lo := 0) hp (fun x hx => ⟨Nat.zero_le _, hb x hx⟩) with z | z
      · rw [z]; decide
      · omega
theorem pickS {ss : List Str} {d : Int} (h0 : 0 ≤ d) (h1 : d < (ss.length : Int)) : ∃ z, z ∈ ss ∧ atI (ss.map V.str) d = some (.str z) := by
  obtain ⟨n, rfl⟩ : ∃ n : Nat, d = (n : Int) := ⟨d.toNat, by omega⟩
  have hn : n < ss.length := by omega
  exact ⟨ss[n], List.getElem_mem hn, atI_nat (j := n) (by rw [List.getElem?_map, List.getElem?_eq_getElem hn]; rfl)⟩
theorem ppOk_of {x : Pp} (h : x.kd ∈ KINDS_L) (l : PyData.canLayAll0 x.rest = true) (d : PyData.depthAll x.rest ≤ 5) : PpOk x := by
  have k : PyData.strOk x.kd = true := (by decide +kernel : ∀ a ∈ KINDS_L, PyData.strOk a = true) _ h
  constructor
  · show (PyData.strOk x.kd && (true && (true && PyData.canLayAll0 x.rest))) = true
    rw [k, l]
    rfl
  · show max 0 (max 0 (max 0 (PyData.depthAll x.rest))) + 1 ≤ 10
    omega
section
variable {P : Program} {w : World} {K : PySem.W.Frag} {mg : Str → Option Value} {base : Heap} {k : Nat}
def sp_l_paper : Sp := fun vs H Q _ => ∃ (p h r wl gl ru : Addr) (ways : List (List Nm)) (wags : List (Int × Nm)) (n m2 kk sd : Nat) (f0 b0 f1 b1 f2 b2 f3 b3 : Nm) (d0 d1 d2 d3 : Nat) (jx : List (Nm × List Nm)) (tis : List Ti), vs = [.ref p, .ref h] ∧ Bag H p ∧ wl ≠ p ∧ gl ≠ p ∧ NetH H r n m2 kk sd f0 b0 f1 b1 f2 b2 f3 b3 d0 d1 d2 d3 jx tis ∧ HouseAt H h r wl gl ru ways wags n m2 (hNm f0 d0 b0) (hNm f1 d1 b1) (hNm f2 d2 b2) (hNm f3 d3 b3) ∧
  ∀ (H' : Hp) (t : Addr) (x : Pp), Keep p H H' → Bag H' p → Dt SA H' (.ref t) (ppD x) → PpOk x → x.kd ∈ KINDS_L → noLAll x.rest = true → x.rest ≠ [] → srtAll 100 x.rest = true ∧ x.rest.length ≤ 100 → Q (.ref t) H'
set_option maxHeartbeats 8000000 in
theorem ok_l_paper (T : Defs K mg) : FnOk P w K mg base CX0 (k + 4) T.a_l_paper T.d_l_paper ["_law_bag_here", "_law_house_here"] sp_l_paper := by
  have G_l_take : FnOk P w K mg base CX0 (k + 3) _ _ _ _ := ok_l_take (k := k + 2) T
  have G_l_sum : FnOk P w K mg base CX0 (k + 3) _ _ _ _ := ok_l_sum (k := k + 1) T
  have G_l_day : FnOk P w K mg base CX0 (k + 3) _ _ _ _ := ok_l_day (k := k + 1) T
  have G_l_number : FnOk P w K mg base CX0 (k + 3) _ _ _ _ := ok_l_number (k := k + 1) T
  have G_l_line : FnOk P w K mg base CX0 (k + 3) _ _ _ _ := ok_l_line (k := k + 1) T
  have G_l_return : FnOk P w K mg base CX0 (k + 3) _ _ _ _ := ok_l_return (k := k) T
  refine T.F_l_paper.ok sc_l_paper (fun vs H Q E h => ?_) (fun cdv A outer s H vs Q E hr h => ?_)
  · obtain ⟨p, h, r, wl, gl, ru, ways, wags, n, m2, kk, sd, f0, b0, f1, b1, f2, b2, f3, b3, d0, d1, d2, d3, jx, tis, rfl, _⟩ := h
    rfl
  · obtain ⟨p, h, r, wl, gl, ru, ways, wags, n, m2, kk, sd, f0, b0, f1, b1, f2, b2, f3, b3, d0, d1, d2, d3, jx, tis, rfl, b, nwl, ngl, net, ho, q⟩ := h
    refine ⟨_, PSs.nox
(pss_cons (ps_asg (pv 1) (pg_tup rfl (pgs_cons (pg_name (i := 2) sc_l_paper.nd rfl (.inl rfl)) (pgs_cons (pg_name (i := 3) sc_l_paper.nd rfl (.inl rfl)) (pgs_cons (pg_name (i := 4) sc_l_paper.nd rfl (.inl rfl)) (pgs_cons (pg_name (i := 5) sc_l_paper.nd rfl (.inl rfl)) pgs_nil))))))
    (pss_cons (ps_set (i := 6) sc_l_paper.nd rfl (.inl rfl) (pe_ix (r := rIxT K) ix_tup (pe_tup (pa_cons (pe_str) (pa_cons (pe_str) (pa_cons (pe_str) (pa_cons (pe_str) (pa_cons (pe_str) (pa_cons (pe_str) (pa_cons (pe_str) (pa_cons (pe_str) pa_nil))))))))) (pe_call G_l_take hr (by rfl) T.g_l_take T.F_l_take.kp T.b_l_take .nil pass0 (pa_cons (pv 0) (pa_cons (pe_int) pa_nil))) (fun _ _ => rfl)))
    (Evl.pss_cut (ps_if (PW.pt (pw_and (pt_cmpR op_eq (pv 6) (pe_str) (nomark _)) (pw_and1 (pt_cmpR (r := rEqD K) (op_eqD hr.units) (pe_ix (r := rIxT K) ix_tup (pv 2) (pe_int) (fun _ _ => rfl)) (pe_tup pa_nil) (nomark _)))))
      (pss_one (ps_set (i := 6) sc_l_paper.nd rfl (.inl rfl) (pe_str)))
      pss_nil)
    (pss_cons (ps_par (i := 7) (j := 8) (by rfl) sc_l_paper.nd rfl rfl (by decide) rfl rfl (pa_cons (pe_call G_l_number hr (by rfl) T.g_l_number T.F_l_number.kp T.b_l_number .nil pass0 (pa_cons (pv 0) pa_nil)) (pa_cons (pe_op op_add (pe_int) (pe_call G_l_take hr (by rfl) T.g_l_take T.F_l_take.kp T.b_l_take .nil pass0 (pa_cons (pv 0) (pa_cons (pe_int) pa_nil)))) pa_nil)) (by rfl))
    (Evl.pss_cut (ps_if (pt_cmpR op_eq (pe_call G_l_take hr (by rfl) T.g_l_take T.F_l_take.kp T.b_l_take .nil pass0 (pa_cons (pv 0) (pa_cons (pe_int) pa_nil))) (pe_int) (nomark _))
      (pss_one (ps_set (i := 8) sc_l_paper.nd rfl (.inl rfl) (pe_op op_add (pe_int) (pe_call G_l_take hr (by rfl) T.g_l_take T.F_l_take.kp T.b_l_take .nil pass0 (pa_cons (pv 0) (pa_cons (pe_int) pa_nil))))))
      pss_nil)
    (pss_cons (ps_set (i := 9) sc_l_paper.nd rfl (.inl rfl) (pe_tup (pa_cons (pv 6) (pa_cons (pv 7) (pa_cons (pv 8) pa_nil)))))
    (pss_cons (ps_if (pt_cmpR op_eq (pv 6) (pe_str) (nomark _))
      (pss_cons (ps_set (i := 10) sc_l_paper.nd rfl (.inl rfl) (pe_tup (pa_cons (pe_call G_l_sum hr (by rfl) T.g_l_sum T.F_l_sum.kp T.b_l_sum .nil pass0 (pa_cons (pv 0) pa_nil)) (pa_cons (pe_call G_l_sum hr (by rfl) T.g_l_sum T.F_l_sum.kp T.b_l_sum .nil pass0 (pa_cons (pv 0) pa_nil)) pa_nil))))
      (pss_cons (ps_set (i := 11) sc_l_paper.nd rfl (.inl rfl) (pe_tup (pa_cons (pe_call G_l_take hr (by rfl) T.g_l_take T.F_l_take.kp T.b_l_take .nil pass0 (pa_cons (pv 0) (pa_cons (pe_callB (r := rLenS K) call_lenS (by rfl) T.z_len (by decide +kernel) (pa_cons (pv 3) pa_nil)) pa_nil))) (pa_cons (pe_call G_l_sum hr (by rfl) T.g_l_sum T.F_l_sum.kp T.b_l_sum .nil pass0 (pa_cons (pv 0) pa_nil)) (pa_cons (pe_call G_l_sum hr (by rfl) T.g_l_sum T.F_l_sum.kp T.b_l_sum .nil pass0 (pa_cons (pv 0) pa_nil)) (pa_cons (pv 10) pa_nil))))))
      (pss_one (ps_ret (pe_op op_catT (pe_op op_catT (pe_op op_catT (pv 9) (pe_tup (pa_cons (pe_call G_l_day hr (by rfl) T.g_l_day T.F_l_day.kp T.b_l_day .nil pass0 (pa_cons (pv 0) pa_nil)) pa_nil))) (pv 11)) (pe_tup (pa_cons (pe_ix (r := rIxT K) ix_tup (pe_ix (r := rIxL K) ix_list (pv 4) (pe_call G_l_take hr (by rfl) T.g_l_take T.F_l_take.kp T.b_l_take .nil pass0 (pa_cons (pv 0) (pa_cons (pe_callB (r := rLenS K) call_lenS (by rfl) T.z_len (by decide +kernel) (pa_cons (pv 4) pa_nil)) pa_nil))) (fun _ _ => rfl)) (pe_int) (fun _ _ => rfl)) pa_nil)))))))
      pss_nil)
    (pss_cons (ps_if (pt_cmpR op_eq (pv 6) (pe_str) (nomark _))
      (pss_one (ps_ret (pe_call G_l_return hr (by rfl) T.g_l_return T.F_l_return.kp T.b_l_return .nil pass0 (pa_cons (pv 0) (pa_cons (pv 2) (pa_cons (pv 4) (pa_cons (pv 9) pa_nil)))))))
      pss_nil)
    (pss_cons (ps_if (pt_cmpR op_eq (pv 6) (pe_str) (nomark _))
      (pss_cons (ps_set (i := 12) sc_l_paper.nd rfl (.inl rfl) (pe_callB cr_sorted (by rfl) T.z_sorted (by decide +kernel) (pa_cons (pe_lst (pa_cons (pe_call G_l_day hr (by rfl) T.g_l_day T.F_l_day.kp T.b_l_day .nil pass0 (pa_cons (pv 0) pa_nil)) (pa_cons (pe_call G_l_day hr (by rfl) T.g_l_day T.F_l_day.kp T.b_l_day .nil pass0 (pa_cons (pv 0) pa_nil)) pa_nil))) pa_nil)))
      (pss_one (ps_ret (pe_op op_catT (pv 9) (pe_tup (pa_cons (pe_call G_l_line hr (by rfl) T.g_l_line T.F_l_line.kp T.b_l_line .nil pass0 (pa_cons (pv 0) (pa_cons (pv 2) pa_nil))) (pa_cons (pe_ix (r := rIxL K) ix_list (pv 12) (pe_int) (fun _ _ => rfl)) (pa_cons (pe_ix (r := rIxL K) ix_list (pv 12) (pe_int) (fun _ _ => rfl)) (pa_cons (pe_call G_l_sum hr (by rfl) T.g_l_sum T.F_l_sum.kp T.b_l_sum .nil pass0 (pa_cons (pv 0) pa_nil)) pa_nil)))))))))
      pss_nil)
    (pss_cons (ps_set (i := 9) sc_l_paper.nd rfl (.inl rfl) (pe_op op_catT (pv 9) (pe_tup (pa_cons (pe_call G_l_number hr (by rfl) T.g_l_number T.F_l_number.kp T.b_l_number .nil pass0 (pa_cons (pv 0) pa_nil)) pa_nil))))
    (pss_cons (ps_if (pt_cmpR op_eq (pv 6) (pe_str) (nomark _))
      (pss_one (ps_ret (pe_op op_catT (pv 9) (pe_tup (pa_cons (pe_call G_l_sum hr (by rfl) T.g_l_sum T.F_l_sum.kp T.b_l_sum .nil pass0 (pa_cons (pv 0) pa_nil)) pa_nil)))))
      pss_nil)
    (pss_cons (ps_if (pt_cmpR op_eq (pv 6) (pe_str) (nomark _))
      (pss_one (ps_ret (pe_op op_catT (pv 9) (pe_tup (pa_cons (pe_call G_l_line hr (by rfl) T.g_l_line T.F_l_line.kp T.b_l_line .nil pass0 (pa_cons (pv 0) (pa_cons (pv 2) pa_nil))) pa_nil)))))
      pss_nil)
    (pss_cons (ps_if (pt_cmpR op_eq (pv 6) (pe_str) (nomark _))
      (pss_cons (ps_set (i := 13) sc_l_paper.nd rfl (.inl rfl) (pe_ix (r := rIxT K) ix_tup (pe_tup (pa_cons (pe_tup (pa_cons (pe_str) pa_nil)) (pa_cons (pe_tup (pa_cons (pe_str) pa_nil)) (pa_cons (pe_tup (pa_cons (pe_str) (pa_cons (pe_call G_l_line hr (by rfl) T.g_l_line T.F_l_line.kp T.b_l_line .nil pass0 (pa_cons (pv 0) (pa_cons (pv 2) pa_nil))) pa_nil))) pa_nil)))) (pe_call G_l_take hr (by rfl) T.g_l_take T.F_l_take.kp T.b_l_take .nil pass0 (pa_cons (pv 0) (pa_cons (pe_int) pa_nil))) (fun _ _ => rfl)))
      (pss_one (ps_ret (pe_op op_catT (pv 9) (pe_tup (pa_cons (pv 13) pa_nil))))))
      pss_nil)
    (pss_one (ps_ret (pv 9))))))))))))))))
      , ?_⟩
    have nn := net.2.1
    have n8 := net.2.2.1
    have sd1 := net.2.2.2.2.2.1
    have hns := net.2.2.2.2.2.2.1
    have hjx := net.2.2.2.2.2.2.2.2.2.1
    have jl3 := net.2.2.2.2.2.2.2.1
    have jok := jns_ok hns sd1 n8 hjx
    have jlen : (hJns n (hNm f0 d0 b0) (hNm f3 d3 b3) ++ jx).length ≤ 100 := by unfold hJns; simp; omega
    have nat := net.1
    have lsl : (hNms f0 d0 b0 n).length = n := by unfold hNms; simp
    have lnm : ∀ z ∈ hNms f0 d0 b0 n, IsNm z := hns.h0.nms (by decide) _ _
    generalize hJns n (hNm f0 d0 b0) (hNm f3 d3 b3) ++ jx = jns at jok jlen nat
    generalize hSts n m2 (hNm f0 d0 b0) (hNm f1 d1 b1) (hNm f2 d2 b2) = sts at nat
    refine ⟨.ref h, rfl, h, _, rfl, SqT.of ho.e, rfl, _, _, rfl, _, _, rfl, _, _, rfl, _, [], rfl, rfl, ?_⟩
    -- the kind
    refine ⟨by show 8 ≤ sizeLine; decide, fun v nv => ?_⟩
    have s1 := same_upd (o := .tup ([("waybill" : Str), ("return" : Str), ("toll" : Str), ("claim" : Str), ("answer" : Str), ("ruling" : Str), ("withdrawal" : Str), ("return" : Str)].map V.str)) nv
    refine ⟨.ref p, rfl, p, 8, rfl, b.keep s1, by decide, by decide, fun H1 c k1 bg1 c0 c1 => ?_⟩
    obtain ⟨kd0, hkd0, ekd0⟩ := pickS (ss := [("waybill" : Str), ("return" : Str), ("toll" : Str), ("claim" : Str), ("answer" : Str), ("ruling" : Str), ("withdrawal" : Str), ("return" : Str)]) c0 c1
    have hkd0 : kd0 ∈ KINDS_L := (by decide +kernel : ∀ a ∈ [("waybill" : Str), ("return" : Str), ("toll" : Str), ("claim" : Str), ("answer" : Str), ("ruling" : Str), ("withdrawal" : Str), ("return" : Str)], a ∈ KINDS_L) _ hkd0
    refine ⟨v, _, c, .str kd0, rfl, rfl, SqT.of (k1 _ _ (b.ne nv) upd_same), ekd0, ?_⟩
    have k01 := (Keep.of s1).trans k1
    have nat1 := nat.tk (TKF.keep k01 b)
    refine ⟨fun σ Hz => ∃ kd : Str, σ = [some (.ref p), some (.ref h), some (.ref r), some (.ref wl), some (.ref gl), some (.ref ru), some (.str kd), none, none, none, none, none, none, none] ∧ Keep p H1 Hz ∧ Bag Hz p ∧ kd ∈ KINDS_L ∧ (kd = ("return" : Str) → 1 ≤ jns.length), ?_, fun σ H2 mid => ?_⟩
    · refine ⟨.str kd0, rfl, rfl, _, rfl, ite2 (fun _ => ?_) fun c => ?_⟩
      · obtain ⟨ra, rb, rc, rd, sa, ja, ta, er, _, _, _, hrc, hja, _⟩ := nat1
        refine ⟨.ref r, rfl, r, _, 2, .ref rc, rfl, rfl, SqT.of er, atI_nat (j := 2) rfl, by show 0 ≤ sizeLine; decide, fun e ne => ?_⟩
        have s2 := same_upd (o := .tup []) ne
        refine ⟨.tuple (jns.map jnD), .tuple [], .tup (hrc.same s2).sq (dpAll_jn (paired_imp hja fun _ _ _ h => h.kp (Keep.of s2) bg1)), .tup (SqT.of upd_same) .nil, shaped_jn fun j hj => (jok j hj).1, by decide +kernel, _, rfl, ite2 (fun _ => ?_) fun c => ?_⟩
        · exact ⟨_, rfl, .of s2, bg1.keep s2, by decide +kernel, fun z => absurd z (by decide +kernel)⟩
        · refine ⟨_, rfl, .of s2, bg1.keep s2, hkd0, fun _ => ?_⟩
          cases jns with
          | nil => exact absurd rfl c
          | cons j js => exact Nat.succ_le_succ (Nat.zero_le _)
      · exact ⟨_, rfl, .refl _ _, bg1, hkd0, fun z => absurd (decide_eq_true (by rw [z])) c⟩
    obtain ⟨kd, rfl, k2, bg2, hkd, hret⟩ := mid
    -- the number and the edition
    refine ⟨.ref p, rfl, p, rfl, bg2, fun H3 nu k3 bg3 nu0 nu1 => ⟨.ref p, rfl, p, 3, rfl, bg3, by decide, by decide, fun H4 e1 k4 bg4 _ _ => ⟨1, e1, rfl, rfl, _, _, rfl, ?_⟩⟩⟩
    refine ⟨fun σ Hz => ∃ ed : Int, σ = [some (.ref p), some (.ref h), some (.ref r), some (.ref wl), some (.ref gl), some (.ref ru), some (.str kd), some (.int nu), some (.int ed), none, none, none, none, none] ∧ Keep p H4 Hz ∧ Bag Hz p, ?_, fun σ H5 mid => ?_⟩
    · refine ⟨.ref p, rfl, p, 4, rfl, bg4, by decide, by decide, fun H5 _ k5 bg5 _ _ => ⟨rfl, _, rfl, ite2 (fun _ => ?_) fun _ => ?_⟩⟩
      · exact ⟨.ref p, rfl, p, 99, rfl, bg5, by decide, by decide, fun H6 m k6 bg6 m0 m1 => ⟨1, m, rfl, rfl, _, rfl, k5.trans k6, bg6⟩⟩
      · exact ⟨_, rfl, k5, bg5⟩
    obtain ⟨ed, rfl, k5, bg5⟩ := mid
    have k05 := (((k01.trans k2).trans k3).trans k4).trans k5
    -- the head
    refine ⟨.str kd, rfl, .int nu, rfl, .int ed, rfl, by show 3 ≤ sizeLine; decide, fun hd nhd => ?_⟩
    have s6 := same_upd (o := .tup [.str kd, .int nu, .int ed]) nhd
    have ehd : (upd H5 hd (.tup [.str kd, .int nu, .int ed])) hd = some (.tup [.str kd, .int nu, .int ed]) := upd_same
    have bg6 := bg5.keep s6
    have k06 := k05.trans (.of s6)
    generalize upd H5 hd (.tup [.str kd, .int nu, .int ed]) = H6 at s6 ehd bg6 k06 ⊢
    have tk6 := TKF.keep k06 b
    have nat6 := nat.tk tk6
    obtain ⟨wa, ewl, hwa⟩ := ho.w
    obtain ⟨ga, egl, hga⟩ := ho.g
    have ewl6 := k06 _ _ nwl ewl
    have egl6 := k06 _ _ ngl egl
    have hga6 := paired_imp hga fun _ _ _ h => tk6.t _ _ h
    have wal := paired_len hwa
    have gal := paired_len hga
    obtain ⟨wl1, wl5⟩ := ho.wl
    obtain ⟨gl1, gl4⟩ := ho.gl
    have fin : ∀ (H' : Hp) (t : Addr) (zs : List V) (rest : List PyData), Keep p H6 H' → Bag H' p → H' t = some (.tup (.str kd :: .int nu :: .int ed :: zs)) → zs.length ≤ 100 → DtAll SA H' zs rest → PyData.canLayAll0 rest = true → PyData.depthAll rest ≤ 5 → noLAll rest = true → rest ≠ [] → srtAll 100 rest = true → Q (.ref t) H' := fun H' t zs rest k' b' e l dt la de nl ne sr => q H' t ⟨kd, nu, ed, rest⟩ (k06.trans k') b' (.tup trivial e (by simp only [List.length_cons]; omega) (.cons (.str _) (.cons (.int _) (.cons (.int _) dt)))) (ppOk_of hkd la de) hkd nl ne ⟨sr, by show rest.length ≤ 100; rw [← dt.len]; exact l⟩
    refine ⟨.str kd, rfl, rfl, _, rfl, ite2 (fun _ => ?_) fun _ => ?_⟩
    · -- a waybill
      refine ⟨.ref p, rfl, p, rfl, bg6, fun H7 x1 k7 bg7 _ _ => ⟨.ref p, rfl, p, rfl, bg7, fun H8 x2 k8 bg8 _ _ => ⟨by show 2 ≤ sizeLine; decide, fun ca nca => ?_⟩⟩⟩
      have s9 := same_upd (o := .tup [.int x1, .int x2]) nca
      have eca : (upd H8 ca (.tup [.int x1, .int x2])) ca = some (.tup [.int x1, .int x2]) := upd_same
      have bg9 := bg8.keep s9
      have k69 := (k7.trans k8).trans (.of s9)
      generalize upd H8 ca (.tup [.int x1, .int x2]) = H9 at s9 eca bg9 k69 ⊢
      have ewl9 := k69 _ _ nwl ewl6
      refine ⟨.ref p, rfl, .ref wl, rfl, wl, _, rfl, .inl (SqL.of ewl9), p, _, rfl, bg9, by rw [List.length_map]; omega, by rw [List.length_map]; omega, fun H10 y1 k10 bg10 _ _ => ⟨.ref p, rfl, p, rfl, bg10, fun H11 y2 k11 bg11 _ _ => ⟨.ref p, rfl, p, rfl, bg11, fun H12 y3 k12 bg12 _ _ => ⟨.ref ca, rfl, by show 4 ≤ sizeLine; decide, fun su nsu => ?_⟩⟩⟩⟩
      have s13 := same_upd (o := .tup [.int y1, .int y2, .int y3, .ref ca]) nsu
      have esu : (upd H12 su (.tup [.int y1, .int y2, .int y3, .ref ca])) su = some (.tup [.int y1, .int y2, .int y3, .ref ca]) := upd_same
      have bg13 := bg12.keep s13
      have k913 := ((k10.trans k11).trans k12).trans (.of s13)
      generalize upd H12 su (.tup [.int y1, .int y2, .int y3, .ref ca]) = H13 at s13 esu bg13 k913 ⊢
      have eca13 := (TKF.keep k913 bg9).t _ _ eca
      have k613 := k69.trans k913
      refine ⟨.ref hd, rfl, .ref p, rfl, p, rfl, bg13, fun H14 dy k14 bg14 _ _ => ⟨by show 1 ≤ sizeLine; decide, fun u nu' => ?_⟩⟩
      have s15 := same_upd (o := .tup [.int dy]) nu'
      have bg15 := bg14.keep s15
      have k1315 := k14.trans (.of s15)
      have k615 := k613.trans k1315
      have eu : (upd H14 u (.tup [.int dy])) u = some (.tup [.int dy]) := upd_same
      generalize upd H14 u (.tup [.int dy]) = H15 at s15 bg15 k1315 k615 eu ⊢
      refine ⟨hd, u, _, _, rfl, rfl, SqT.of ((TKF.keep k615 bg6).t _ _ ehd), SqT.of eu, by simp, by show 4 ≤ sizeLine; decide, fun h => (by cases h), fun _ a na => ?_⟩
      have s16 := same_upd (o := .tup ([.str kd, .int nu, .int ed] ++ [.int dy])) na
      have esu16 := s16 _ _ ((TKF.keep k1315 bg13).t _ _ esu)
      refine ⟨.ref su, rfl, a, su, _, _, rfl, rfl, SqT.of upd_same, SqT.of esu16, by simp, by show 8 ≤ sizeLine; decide, fun h => (by cases h), fun _ a2 na2 => ?_⟩
      have s17 := s16.trans (same_upd (o := .tup ([.str kd, .int nu, .int ed] ++ [.int dy] ++ [.int y1, .int y2, .int y3, .ref ca])) na2)
      have ea2 : (upd (upd H15 a (.tup ([.str kd, .int nu, .int ed] ++ [.int dy]))) a2 (.tup ([.str kd, .int nu, .int ed] ++ [.int dy] ++ [.int y1, .int y2, .int y3, .ref ca]))) a2 = some (.tup ([.str kd, .int nu, .int ed] ++ [.int dy] ++ [.int y1, .int y2, .int y3, .ref ca])) := upd_same
      have bg17 := bg15.keep s17
      have k1317 := k1315.trans (.of s17)
      have k617 := k615.trans (.of s17)
      generalize upd (upd H15 a (.tup ([.str kd, .int nu, .int ed] ++ [.int dy]))) a2 (.tup ([.str kd, .int nu, .int ed] ++ [.int dy] ++ [.int y1, .int y2, .int y3, .ref ca])) = H17 at s17 ea2 bg17 k1317 k617 ⊢
      have egl17 := k617 _ _ ngl egl6
      refine ⟨.ref gl, rfl, .ref p, rfl, .ref gl, rfl, gl, _, rfl, .inl (SqL.of egl17), p, _, rfl, bg17, by rw [List.length_map]; omega, by rw [List.length_map]; omega, fun H18 cw k18 bg18 cw0 cw1 => ?_⟩
      rw [List.length_map] at cw1
      obtain ⟨cw, rfl⟩ : ∃ xn : Nat, cw = (xn : Int) := ⟨cw.toNat, by omega⟩
      have cl : cw < wags.length := by omega
      obtain ⟨gu, egu, hgu⟩ := paired_getR hga6 (List.getElem?_eq_getElem cl)
      generalize wags[cw] = x at hgu
      have k618 := k617.trans k18
      have hgu18 := (TKF.keep k618 bg6).t _ _ hgu
      refine ⟨gl, _, cw, .ref gu, rfl, rfl, SqL.of (k18 _ _ ngl egl17), atI_nat (j := cw) (by rw [List.getElem?_map, egu]; rfl), gu, _, 0, .int x.1, rfl, rfl, SqT.of hgu18, atI_nat (j := 0) rfl, by show 1 ≤ sizeLine; decide, fun u2 nu2 => ?_⟩
      have s19 := same_upd (o := .tup [.int x.1]) nu2
      have ea219 := s19 _ _ ((TKF.keep k18 bg17).t _ _ ea2)
      refine ⟨a2, u2, _, _, rfl, rfl, SqT.of ea219, SqT.of upd_same, by simp, by show 9 ≤ sizeLine; decide, fun h => (by cases h), fun _ t nt => ?_⟩
      have s20 := s19.trans (same_upd (o := .tup ([.str kd, .int nu, .int ed] ++ [.int dy] ++ [.int y1, .int y2, .int y3, .ref ca] ++ [.int x.1])) nt)
      refine fin _ t [.int dy, .int y1, .int y2, .int y3, .ref ca, .int x.1] [.int dy, .int y1, .int y2, .int y3, .tuple [.int x1, .int x2], .int x.1] (k618.trans (.of s20)) (bg18.keep s20) upd_same (by show 6 ≤ 100; decide) (.cons (.int _) (.cons (.int _) (.cons (.int _) (.cons (.int _) (.cons (.tup trivial (s20 _ _ ((TKF.keep (k1317.trans k18) bg13).t _ _ eca13)) (by show 2 ≤ 5000; decide) (.cons (.int _) (.cons (.int _) .nil))) (.cons (.int _) .nil)))))) rfl (Nat.le_of_ble_eq_true rfl) rfl (List.cons_ne_nil _ _) rfl
    refine ⟨.str kd, rfl, rfl, _, rfl, ite2 (fun c => ?_) fun _ => ?_⟩
    · -- a return
      have er : kd = ("return" : Str) := by injection of_decide_eq_true c
      refine ⟨.ref p, rfl, .ref r, rfl, .ref gl, rfl, .ref hd, rfl, p, r, gl, hd, _, _, jns, tis, ga, wags, kd, nu, ed, rfl, bg6, nat6, hret er, jlen, fun j hj => (jok j hj).2, ngl, egl6, hga6, gl1, gl4, ehd, fun H' t jn dy hr' wag ov ld sl k' b' jin oin _ _ _ _ hl hs _ et => ?_⟩
      refine fin H' t _ [.str (SX.S jn.1), .int dy, .int hr', .int wag, .str (SX.S ov), .str ld, .str sl] k' b' et (by show 7 ≤ 100; decide) (.cons (.str _) (.cons (.int _) (.cons (.int _) (.cons (.int _) (.cons (.str _) (.cons (.str _) (.cons (.str _) .nil))))))) ?_ (Nat.le_of_ble_eq_true rfl) rfl (List.cons_ne_nil _ _) ?_
      · show (PyData.strOk (SX.S jn.1) && (true && (true && (true && (PyData.strOk (SX.S ov) && (PyData.strOk ld && (PyData.strOk sl && true))))))) = true
        rw [nm_ok (jok jn jin).1.1, nm_ok ((jok jn jin).1.2 ov oin)]
        rcases hl with rfl | rfl <;> rcases hs with rfl | rfl <;> decide +kernel
      · show (decide ((SX.S jn.1).length ≤ 100) && (true && (true && (true && (decide ((SX.S ov).length ≤ 100) && (decide (ld.length ≤ 100) && (decide (sl.length ≤ 100) && true))))))) = true
        rw [nm_srt (jok jn jin).1.1, nm_srt ((jok jn jin).1.2 ov oin)]
        rcases hl with rfl | rfl <;> rcases hs with rfl | rfl <;> decide +kernel
    refine ⟨.str kd, rfl, rfl, _, rfl, ite2 (fun _ => ?_) fun _ => ?_⟩
    · -- a toll
      refine ⟨.ref p, rfl, p, rfl, bg6, fun H7 x1 k7 bg7 _ _ => ⟨.ref p, rfl, p, rfl, bg7, fun H8 x2 k8 bg8 _ _ => ⟨by show 2 ≤ sizeLine; decide, fun da nda => ?_⟩⟩⟩
      have s9 := same_upd (o := .lst [.int x1, .int x2]) nda
      refine ⟨da, [x1, x2], rfl, SqL.of upd_same, by show 2 < 64; decide, fun ns' so hp _ nso => ?_⟩
      obtain ⟨z1, z2, rfl⟩ : ∃ z1 z2, ns' = [z1, z2] := by
        have hl := hp.length_eq
        match ns', hl with
        | [z1, z2], _ => exact ⟨z1, z2, rfl⟩
      rw [show ([z1, z2] : List Int).map V.int = [.int z1, .int z2] from rfl]
      have s10 := s9.trans (same_upd (o := .lst [.int z1, .int z2]) nso)
      have eso : (upd (upd H8 da (.lst [.int x1, .int x2])) so (.lst [.int z1, .int z2])) so = some (.lst [.int z1, .int z2]) := upd_same
      have bg10 := bg8.keep s10
      have nsp := (bg8.keep s9).ne nso
      have k610 := (k7.trans k8).trans (.of s10)
      generalize upd (upd H8 da (.lst [.int x1, .int x2])) so (.lst [.int z1, .int z2]) = H10 at s10 eso bg10 k610 ⊢
      refine ⟨.ref hd, rfl, .ref p, rfl, .ref r, rfl, p, r, _, _, _, _, rfl, bg10, nat6.tk (TKF.keep k610 bg6), by omega, by omega, fun H11 z k11 bg11 hz => ?_⟩
      have eso11 := k11 _ _ nsp eso
      refine ⟨.ref so, rfl, so, _, 0, .int z1, rfl, rfl, SqL.of eso11, atI_nat (j := 0) rfl, .ref so, rfl, so, _, 1, .int z2, rfl, rfl, SqL.of eso11, atI_nat (j := 1) rfl, .ref p, rfl, p, rfl, bg11, fun H12 x3 k12 bg12 _ _ => ⟨by show 4 ≤ sizeLine; decide, fun u2 nu2 => ?_⟩⟩
      have s13 := same_upd (o := .tup [nS z, .int z1, .int z2, .int x3]) nu2
      have k612 := (k610.trans k11).trans k12
      refine ⟨hd, u2, _, _, rfl, rfl, SqT.of (s13 _ _ ((TKF.keep k612 bg6).t _ _ ehd)), SqT.of upd_same, by simp, by show 7 ≤ sizeLine; decide, fun h => (by cases h), fun _ t nt => ?_⟩
      have s14 := s13.trans (same_upd (o := .tup ([.str kd, .int nu, .int ed] ++ [nS z, .int z1, .int z2, .int x3])) nt)
      refine fin _ t [nS z, .int z1, .int z2, .int x3] [.str (SX.S z), .int z1, .int z2, .int x3] (k612.trans (.of s14)) (bg12.keep s14) upd_same (by show 4 ≤ 100; decide) (.cons (.str _) (.cons (.int _) (.cons (.int _) (.cons (.int _) .nil)))) ?_ (Nat.le_of_ble_eq_true rfl) rfl (List.cons_ne_nil _ _) ?_
      · show (PyData.strOk (SX.S z) && (true && (true && (true && true)))) = true
        rw [nm_ok (lnm z hz)]
        rfl
      · show (decide ((SX.S z).length ≤ 100) && (true && (true && (true && true)))) = true
        rw [nm_srt (lnm z hz)]
        rfl
    -- of a number more
    refine ⟨.ref hd, rfl, .ref p, rfl, p, rfl, bg6, fun H7 x1 k7 bg7 _ _ => ⟨by show 1 ≤ sizeLine; decide, fun u nu' => ?_⟩⟩
    have s8 := same_upd (o := .tup [.int x1]) nu'
    have ehd8 := s8 _ _ ((TKF.keep k7 bg6).t _ _ ehd)
    refine ⟨hd, u, _, _, rfl, rfl, SqT.of ehd8, SqT.of upd_same, by simp, by show 4 ≤ sizeLine; decide, fun h => (by cases h), fun _ g ng => ?_⟩
    have s9 := s8.trans (same_upd (o := .tup ([.str kd, .int nu, .int ed] ++ [.int x1])) ng)
    have eg : (upd (upd H7 u (.tup [.int x1])) g (.tup ([.str kd, .int nu, .int ed] ++ [.int x1]))) g = some (.tup ([.str kd, .int nu, .int ed] ++ [.int x1])) := upd_same
    have bg9 := bg7.keep s9
    have k69 := k7.trans (.of s9)
    have nat9 := nat6.tk (TKF.keep k69 bg6)
    generalize upd (upd H7 u (.tup [.int x1])) g (.tup ([.str kd, .int nu, .int ed] ++ [.int x1])) = H9 at s9 eg bg9 k69 nat9 ⊢
    refine ⟨.str kd, rfl, rfl, _, rfl, ite2 (fun _ => ?_) fun _ => ?_⟩
    · -- a claim
      refine ⟨.ref g, rfl, .ref p, rfl, p, rfl, bg9, fun H10 x2 k10 bg10 _ _ => ⟨by show 1 ≤ sizeLine; decide, fun u2 nu2 => ?_⟩⟩
      have s11 := same_upd (o := .tup [.int x2]) nu2
      refine ⟨g, u2, _, _, rfl, rfl, SqT.of (s11 _ _ ((TKF.keep k10 bg9).t _ _ eg)), SqT.of upd_same, by simp, by show 5 ≤ sizeLine; decide, fun h => (by cases h), fun _ t nt => ?_⟩
      have s12 := s11.trans (same_upd (o := .tup ([.str kd, .int nu, .int ed] ++ [.int x1] ++ [.int x2])) nt)
      exact fin _ t [.int x1, .int x2] [.int x1, .int x2] ((k69.trans k10).trans (.of s12)) (bg10.keep s12) upd_same (by show 2 ≤ 100; decide) (.cons (.int _) (.cons (.int _) .nil)) rfl (Nat.le_of_ble_eq_true rfl) rfl (List.cons_ne_nil _ _) rfl
    refine ⟨.str kd, rfl, rfl, _, rfl, ite2 (fun _ => ?_) fun _ => ?_⟩
    · -- an answer
      refine ⟨.ref g, rfl, .ref p, rfl, .ref r, rfl, p, r, _, _, _, _, rfl, bg9, nat9, by omega, by omega, fun H10 z k10 bg10 hz => ⟨by show 1 ≤ sizeLine; decide, fun u2 nu2 => ?_⟩⟩
      have s11 := same_upd (o := .tup [nS z]) nu2
      refine ⟨g, u2, _, _, rfl, rfl, SqT.of (s11 _ _ ((TKF.keep k10 bg9).t _ _ eg)), SqT.of upd_same, by simp, by show 5 ≤ sizeLine; decide, fun h => (by cases h), fun _ t nt => ?_⟩
      have s12 := s11.trans (same_upd (o := .tup ([.str kd, .int nu, .int ed] ++ [.int x1] ++ [nS z])) nt)
      refine fin _ t [.int x1, nS z] [.int x1, .str (SX.S z)] ((k69.trans k10).trans (.of s12)) (bg10.keep s12) upd_same (by show 2 ≤ 100; decide) (.cons (.int _) (.cons (.str _) .nil)) ?_ (Nat.le_of_ble_eq_true rfl) rfl (List.cons_ne_nil _ _) ?_
      · show (true && (PyData.strOk (SX.S z) && true)) = true
        rw [nm_ok (lnm z hz)]
        rfl
      · show (true && (decide ((SX.S z).length ≤ 100) && true)) = true
        rw [nm_srt (lnm z hz)]
        rfl
    refine ⟨.str kd, rfl, rfl, _, rfl, ite2 (fun _ => ?_) fun _ => ?_⟩
    · -- a ruling
      refine ⟨by show 1 ≤ sizeLine; decide, fun t1 q1 => ?_⟩
      have sa1 := same_upd (o := .tup [.str ("seals" : Str)]) q1
      have et1 : (upd H9 t1 (.tup [.str ("seals" : Str)])) t1 = some (.tup [.str ("seals" : Str)]) := upd_same
      have ba1 := bg9.keep sa1
      generalize upd H9 t1 (.tup [.str ("seals" : Str)]) = Ha at sa1 et1 ba1 ⊢
      refine ⟨by show 1 ≤ sizeLine; decide, fun t2 q2 => ?_⟩
      have sa2 := same_upd (o := .tup [.str ("none" : Str)]) q2
      have et2 : (upd Ha t2 (.tup [.str ("none" : Str)])) t2 = some (.tup [.str ("none" : Str)]) := upd_same
      have ba2 := ba1.keep sa2
      have et12 := sa2 _ _ et1
      have s92 := sa1.trans sa2
      generalize upd Ha t2 (.tup [.str ("none" : Str)]) = Hb at sa2 et2 ba2 et12 s92 ⊢
      refine ⟨.ref p, rfl, .ref r, rfl, p, r, _, _, _, _, rfl, ba2, nat9.tk (TKF.of s92), by omega, by omega, fun H10 z k10 bg10 hz => ⟨by show 2 ≤ sizeLine; decide, fun t3 q3 => ?_⟩⟩
      have sa3 := same_upd (o := .tup [.str ("line" : Str), nS z]) q3
      have et3 : (upd H10 t3 (.tup [.str ("line" : Str), nS z])) t3 = some (.tup [.str ("line" : Str), nS z]) := upd_same
      have ba3 := bg10.keep sa3
      have k3' := k10.trans (.of sa3)
      generalize upd H10 t3 (.tup [.str ("line" : Str), nS z]) = Hc at sa3 et3 ba3 k3' ⊢
      have tb := TKF.keep k3' ba2
      refine ⟨by show 3 ≤ sizeLine; decide, fun v3 nv3 => ?_⟩
      have sa4 := same_upd (o := .tup [.ref t1, .ref t2, .ref t3]) nv3
      refine ⟨.ref p, rfl, p, 3, rfl, ba3.keep sa4, by decide, by decide, fun H11 c k11 bg11 c0 c1 => ?_⟩
      have k4' := (Keep.of sa4).trans k11
      have td := TKF.keep k4' ba3
      obtain ⟨ti, ss, eti, hti, hok2, hl2⟩ : ∃ (ti : Addr) (ss : List Str), atI [V.ref t1, .ref t2, .ref t3] c = some (.ref ti) ∧ H11 ti = some (.tup (ss.map V.str)) ∧ PyData.canLayAll0 (ss.map PyData.str) = true ∧ ss.length ≤ 2 ∧ PyData.depthAll (ss.map PyData.str) ≤ 1 ∧ DtAll SA H11 (ss.map V.str) (ss.map PyData.str) ∧ srtAll 100 (ss.map PyData.str) = true := by
        have : c = 0 ∨ c = 1 ∨ c = 2 := by omega
        rcases this with rfl | rfl | rfl
        · exact ⟨t1, [("seals" : Str)], atI_nat (j := 0) rfl, td.t _ _ (tb.t _ _ et12), by decide +kernel, by decide, Nat.le_of_ble_eq_true rfl, .cons (.str _) .nil, by decide +kernel⟩
        · exact ⟨t2, [("none" : Str)], atI_nat (j := 1) rfl, td.t _ _ (tb.t _ _ et2), by decide +kernel, by decide, Nat.le_of_ble_eq_true rfl, .cons (.str _) .nil, by decide +kernel⟩
        · refine ⟨t3, [("line" : Str), SX.S z], atI_nat (j := 2) rfl, td.t _ _ et3, ?_, by show 2 ≤ 2; decide, Nat.le_of_ble_eq_true rfl, .cons (.str _) (.cons (.str _) .nil), ?_⟩
          · show (PyData.strOk ("line" : Str) && (PyData.strOk (SX.S z) && true)) = true
            rw [nm_ok (lnm z hz)]
            decide +kernel
          · show (decide (("line" : Str).length ≤ 100) && (decide ((SX.S z).length ≤ 100) && true)) = true
            rw [nm_srt (lnm z hz)]
            decide +kernel
      obtain ⟨hl2, hde, hdt, hsr⟩ := hl2
      refine ⟨v3, _, c, .ref ti, rfl, rfl, SqT.of (k11 _ _ (ba3.ne nv3) upd_same), eti, ?_⟩
      have k911 := ((Keep.of s92).trans k3').trans k4'
      refine ⟨.ref g, rfl, .ref ti, rfl, by show 1 ≤ sizeLine; decide, fun u2 nu2 => ?_⟩
      have s12 := same_upd (o := .tup [.ref ti]) nu2
      refine ⟨g, u2, _, _, rfl, rfl, SqT.of (s12 _ _ ((TKF.keep k911 bg9).t _ _ eg)), SqT.of upd_same, by simp, by show 5 ≤ sizeLine; decide, fun h => (by cases h), fun _ t nt => ?_⟩
      have s13 := s12.trans (same_upd (o := .tup ([.str kd, .int nu, .int ed] ++ [.int x1] ++ [.ref ti])) nt)
      refine fin _ t [.int x1, .ref ti] [.int x1, .tuple (ss.map PyData.str)] ((k69.trans k911).trans (.of s13)) (bg11.keep s13) upd_same (by show 2 ≤ 100; decide) (.cons (.int _) (.cons (.tup trivial (s13 _ _ hti) (by rw [List.length_map]; omega) (hdt.same s13)) .nil)) ?_ ?_ (noL_rul _ _) (List.cons_ne_nil _ _) ?_
      · show (true && (PyData.canLayAll0 (ss.map PyData.str) && true)) = true
        rw [hok2]
        rfl
      · show max 0 (max (PyData.depthAll (ss.map PyData.str) + 1) 0) ≤ 5
        omega
      · show (true && ((decide ((ss.map PyData.str).length ≤ 100) && srtAll 100 (ss.map PyData.str)) && true)) = true
        rw [hsr, decide_eq_true (by rw [List.length_map]; omega)]
        rfl
    · exact ⟨.ref g, rfl, fin _ g [.int x1] [.int x1] k69 bg9 eg (by show 1 ≤ 100; decide) (.cons (.int _) .nil) rfl (Nat.le_of_ble_eq_true rfl) rfl (List.cons_ne_nil _ _) rfl⟩
end
end Th
namespace Th
open PySem PySem.Spec PyProof.Rows L2
/-! any things: their types, whole numbers, tuples -/
def isiI : PyData → Bool
  | .int _ => true
  | .bool _ => true
  | _ => false
def isiB : PyData → Bool
  | .bool _ => true
  | _ => false
def isiT : PyData → Bool
  | .tuple _ => true
  | _ => false
def isiS : PyData → Bool
  | .str _ => true
  | _ => false
def isiL : PyData → Bool
  | .list _ => true
  | _ => false
theorem kit_I {K : PySem.W.Frag} : ∀ d : PyData, PySem.W.kitOne K (.type (tyN d)) (.type "int") = some (isiI d)
  | .none => kit_ty (a := "NoneType") (b := "int") (r := false) (by decide +kernel)
  | .bool _ => kit_ty (a := "bool") (b := "int") (r := true) (by decide +kernel)
  | .int _ => kit_ty (a := "int") (b := "int") (r := true) (by decide +kernel)
  | .str _ => kit_ty (a := "str") (b := "int") (r := false) (by decide +kernel)
  | .list _ => kit_ty (a := "list") (b := "int") (r := false) (by decide +kernel)
  | .tuple _ => kit_ty (a := "tuple") (b := "int") (r := false) (by decide +kernel)
  | .dict _ => kit_ty (a := "dict") (b := "int") (r := false) (by decide +kernel)
theorem kit_B {K : PySem.W.Frag} : ∀ d : PyData, PySem.W.kitOne K (.type (tyN d)) (.type "bool") = some (isiB d)
  | .none => kit_ty (a := "NoneType") (b := "bool") (r := false) (by decide +kernel)
  | .bool _ => kit_ty (a := "bool") (b := "bool") (r := true) (by decide +kernel)
  | .int _ => kit_ty (a := "int") (b := "bool") (r := false) (by decide +kernel)
  | .str _ => kit_ty (a := "str") (b := "bool") (r := false) (by decide +kernel)
  | .list _ => kit_ty (a := "list") (b := "bool") (r := false) (by decide +kernel)
  | .tuple _ => kit_ty (a := "tuple") (b := "bool") (r := false) (by decide +kernel)
  | .dict _ => kit_ty (a := "dict") (b := "bool") (r := false) (by decide +kernel)
theorem kit_T {K : PySem.W.Frag} : ∀ d : PyData, PySem.W.kitOne K (.type (tyN d)) (.type "tuple") = some (isiT d)
  | .none => kit_ty (a := "NoneType") (b := "tuple") (r := false) (by decide +kernel)
  | .bool _ => kit_ty (a := "bool") (b := "tuple") (r := false) (by decide +kernel)
  | .int _ => kit_ty (a := "int") (b := "tuple") (r := false) (by decide +kernel)
  | .str _ => kit_ty (a := "str") (b := "tuple") (r := false) (by decide +kernel)
  | .list _ => kit_ty (a := "list") (b := "tuple") (r := false) (by decide +kernel)
  | .tuple _ => kit_ty (a := "tuple") (b := "tuple") (r := true) (by decide +kernel)
  | .dict _ => kit_ty (a := "dict") (b := "tuple") (r := false) (by decide +kernel)
theorem kit_S {K : PySem.W.Frag} : ∀ d : PyData, PySem.W.kitOne K (.type (tyN d)) (.type "str") = some (isiS d)
  | .none => kit_ty (a := "NoneType") (b := "str") (r := false) (by decide +kernel)
  | .bool _ => kit_ty (a := "bool") (b := "str") (r := false) (by decide +kernel)
  | .int _ => kit_ty (a := "int") (b := "str") (r := false) (by decide +kernel)
  | .str _ => kit_ty (a := "str") (b := "str") (r := true) (by decide +kernel)
  | .list _ => kit_ty (a := "list") (b := "str") (r := false) (by decide +kernel)
  | .tuple _ => kit_ty (a := "tuple") (b := "str") (r := false) (by decide +kernel)
  | .dict _ => kit_ty (a := "dict") (b := "str") (r := false) (by decide +kernel)
theorem kit_L {K : PySem.W.Frag} : ∀ d : PyData, PySem.W.kitOne K (.type (tyN d)) (.type "list") = some (isiL d)
  | .none => kit_ty (a := "NoneType") (b := "list") (r := false) (by decide +kernel)
  | .bool _ => kit_ty (a := "bool") (b := "list") (r := false) (by decide +kernel)
  | .int _ => kit_ty (a := "int") (b := "list") (r := false) (by decide +kernel)
  | .str _ => kit_ty (a := "str") (b := "list") (r := false) (by decide +kernel)
  | .list _ => kit_ty (a := "list") (b := "list") (r := true) (by decide +kernel)
  | .tuple _ => kit_ty (a := "tuple") (b := "list") (r := false) (by decide +kernel)
  | .dict _ => kit_ty (a := "dict") (b := "list") (r := false) (by decide +kernel)
def wholeD : PyData → Bool
  | .int _ => true
  | _ => false
def betD (d : PyData) (lo hi : Int) : Bool := match d with
  | .int i => decide (lo ≤ i) && decide (i ≤ hi)
  | _ => false
def tupD (d : PyData) (lo hi : Int) : Bool := match d with
  | .tuple ds => decide (lo ≤ (ds.length : Int)) && decide ((ds.length : Int) ≤ hi)
  | _ => false
section
variable {P : Program} {w : World} {K : PySem.W.Frag} {mg : Str → Option Value} {base : Heap} {k : Nat}
def sp_is_whole : Sp := fun vs H Q _ => ∃ v d, vs = [v] ∧ Dt SA H v d ∧ Q (.bl (wholeD d)) H
theorem ok_is_whole (T : Defs K mg) : FnOk P w K mg base CX0 (k + 1) T.a_is_whole T.d_is_whole ["thing"] sp_is_whole := by
  refine T.F_is_whole.ok sc_is_whole (fun vs H Q E h => ?_) (fun cdv A outer s H vs Q E hr h => ?_)
  · obtain ⟨v, d, rfl, _⟩ := h
    rfl
  · obtain ⟨v, d, rfl, hv, q⟩ := h
    refine ⟨_, PSs.nox
(pss_one (ps_ret (pe_and (pe_callB call_isi (by rfl) T.z_isinstance (by decide +kernel) (pa_cons (pv 0) (pa_cons (pe_bltn (v := .ty "int") (by rfl) T.z_int (by decide +kernel) rfl) pa_nil))) (pe_one (pe_not (pe_callB call_isi (by rfl) T.z_isinstance (by decide +kernel) (pa_cons (pv 0) (pa_cons (pe_bltn (v := .ty "bool") (by rfl) T.z_bool (by decide +kernel) rfl) pa_nil))))))))
      , ?_⟩
    refine ⟨v, rfl, v, .ty "int", _, _, _, rfl, .ty _, hv.ty, kit_I d, isiI d, rfl, ?_⟩
    cases d with
    | int i => exact iteT ⟨v, rfl, v, .ty "bool", _, _, _, rfl, .ty _, Dt.ty (K := K) hv, kit_B (K := K) (.int i), false, rfl, q⟩
    | bool b => exact iteT ⟨v, rfl, v, .ty "bool", _, _, _, rfl, .ty _, Dt.ty (K := K) hv, kit_B (K := K) (.bool b), true, rfl, q⟩
    | none => exact iteF q
    | str _ => exact iteF q
    | list _ => exact iteF q
    | tuple _ => exact iteF q
    | dict _ => exact iteF q
def sp_is_between : Sp := fun vs H Q _ => ∃ v d lo hi, vs = [v, .int lo, .int hi] ∧ Dt SA H v d ∧ Q (.bl (betD d lo hi)) H
theorem ok_is_whole_between (T : Defs K mg) : FnOk P w K mg base CX0 (k + 2) T.a_is_whole_between T.d_is_whole_between ["thing", "least", "most"] sp_is_between := by
  have G_is_whole : FnOk P w K mg base CX0 (k + 1) _ _ _ _ := ok_is_whole (k := k) T
  refine T.F_is_whole_between.ok sc_is_whole_between (fun vs H Q E h => ?_) (fun cdv A outer s H vs Q E hr h => ?_)
  · obtain ⟨v, d, lo, hi, rfl, _⟩ := h
    rfl
  · obtain ⟨v, d, lo, hi, rfl, hv, q⟩ := h
    refine ⟨_, PSs.nox
(pss_one (ps_ret (pe_and (pe_call G_is_whole hr (by rfl) T.g_is_whole T.F_is_whole.kp T.b_is_whole .nil pass0 (pa_cons (pv 0) pa_nil)) (pe_one (pe_chain op_le op_le (pv 1) (pv 0) (pv 2))))))
      , ?_⟩
    refine ⟨v, rfl, v, d, rfl, hv, wholeD d, rfl, ?_⟩
    cases d with
    | int i =>
      cases hv
      refine iteT ⟨.int lo, rfl, .int i, rfl, lo, i, rfl, rfl, decide (lo ≤ i), rfl, ite2 (fun c => ?_) fun c => ?_⟩
      · refine ⟨.int hi, rfl, i, hi, rfl, rfl, ?_⟩
        have e : betD (.int i) lo hi = decide (i ≤ hi) := by show (decide (lo ≤ i) && decide (i ≤ hi)) = _; rw [c, Bool.true_and]
        rw [e] at q
        exact q
      · have e : betD (.int i) lo hi = false := by show (decide (lo ≤ i) && decide (i ≤ hi)) = _; rw [show decide (lo ≤ i) = false by simpa using c, Bool.false_and]
        rw [e] at q
        exact q
    | bool b => exact iteF q
    | none => exact iteF q
    | str _ => exact iteF q
    | list _ => exact iteF q
    | tuple _ => exact iteF q
    | dict _ => exact iteF q
def sp_is_tuple : Sp := fun vs H Q _ => ∃ v d lo hi, vs = [v, .int lo, .int hi] ∧ Dt SA H v d ∧ Q (.bl (tupD d lo hi)) H
theorem ok_is_tuple (T : Defs K mg) : FnOk P w K mg base CX0 (k + 1) T.a_is_tuple T.d_is_tuple ["thing", "fewest", "most"] sp_is_tuple := by
  refine T.F_is_tuple.ok sc_is_tuple (fun vs H Q E h => ?_) (fun cdv A outer s H vs Q E hr h => ?_)
  · obtain ⟨v, d, lo, hi, rfl, _⟩ := h
    rfl
  · obtain ⟨v, d, lo, hi, rfl, hv, q⟩ := h
    refine ⟨_, PSs.nox
(pss_one (ps_ret (pe_and (pe_callB call_isi (by rfl) T.z_isinstance (by decide +kernel) (pa_cons (pv 0) (pa_cons (pe_bltn (v := .ty "tuple") (by rfl) T.z_tuple (by decide +kernel) rfl) pa_nil))) (pe_one (pe_chain op_le op_le (pv 1) (pe_callB (r := rLenS K) call_lenS (by rfl) T.z_len (by decide +kernel) (pa_cons (pv 0) pa_nil)) (pv 2))))))
      , ?_⟩
    refine ⟨v, rfl, v, .ty "tuple", _, _, _, rfl, .ty _, hv.ty, kit_T d, isiT d, rfl, ?_⟩
    cases d with
    | tuple ds =>
      obtain ⟨a, xs, rfl, e, hxs⟩ : ∃ a xs, v = .ref a ∧ H a = some (.tup xs) ∧ DtAll SA H xs ds := by
        cases hv with
        | tup _ e _ r => exact ⟨_, _, rfl, e, r⟩
      have xl := hxs.len
      refine iteT ⟨.int lo, rfl, .ref a, rfl, a, _, rfl, .inr (SqT.of e), lo, _, rfl, rfl, decide (lo ≤ (xs.length : Int)), rfl, ite2 (fun c => ?_) fun c => ?_⟩
      · refine ⟨.int hi, rfl, _, hi, rfl, rfl, ?_⟩
        have e : tupD (.tuple ds) lo hi = decide ((xs.length : Int) ≤ hi) := by show (decide (lo ≤ (ds.length : Int)) && decide ((ds.length : Int) ≤ hi)) = _; rw [← xl, c, Bool.true_and]
        rw [e] at q
        exact q
      · have e : tupD (.tuple ds) lo hi = false := by show (decide (lo ≤ (ds.length : Int)) && decide ((ds.length : Int) ≤ hi)) = _; rw [← xl, show decide (lo ≤ (xs.length : Int)) = false by simpa using c, Bool.false_and]
        rw [e] at q
        exact q
    | bool b => exact iteF q
    | none => exact iteF q
    | str _ => exact iteF q
    | list _ => exact iteF q
    | int _ => exact iteF q
    | dict _ => exact iteF q
end
end Th
namespace Th
open PySem PySem.Spec PyProof.Rows L2
/-! a house, and what its papers' things are asked -/
structure HD where
  ls : List Nm
  sts : List (Nm × Nm)
  jns : List (Nm × List Nm)
  tis : List Ti
  nw : Nat
  wags : List (Int × Nm)
def WgT (H : Hp) (t : Addr) (x : Int × Nm) : Prop := H t = some (.tup [.int x.1, nS x.2])
structure HsAt (H : Hp) (h : Addr) (x : HD) : Prop where
  ex : ∃ (r wl gl : Addr) (ws : List V) (ga : List Addr), H h = some (.tup [.ref r, .ref wl, .ref gl]) ∧ NetAt H r x.ls x.sts x.jns x.tis ∧ H wl = some (.lst ws) ∧ ws.length = x.nw ∧ H gl = some (.lst (ga.map V.ref)) ∧ Paired (WgT H) ga x.wags
theorem HsAt.same {H H' : Hp} {h : Addr} {x : HD} (a : HsAt H h x) (s : Same H H') : HsAt H' h x := by
  obtain ⟨r, wl, gl, ws, ga, e1, e2, e3, e4, e5, e6⟩ := a.ex
  exact ⟨r, wl, gl, ws, ga, s _ _ e1, e2.tk (.of s), s _ _ e3, e4, s _ _ e5, paired_imp e6 fun _ _ _ z => s _ _ z⟩
structure HsOk (x : HD) : Prop where
  ls : (∀ z ∈ x.ls, IsNm z) ∧ x.ls.length ≤ 100
  js : (∀ j ∈ x.jns, IsNm j.1 ∧ (∀ z ∈ j.2, IsNm z) ∧ j.2.length ≤ 100) ∧ x.jns.length ≤ 100
  ss : x.sts.length ≤ 100
  gs : x.wags.length ≤ 100
  nd : (x.jns.map (·.1)).Nodup
def strIn (ss : List Str) (d : PyData) : Bool := (ss.map PyData.str).any fun z => z.eqv d
def cartD (d : PyData) : Bool := match d with
  | .tuple [a, b] => betD a 0 1000000000 && betD b 0 1000000000
  | _ => false
def lineD (x : HD) (d : PyData) : Bool := strIn (x.ls.map SX.S) d
def rulD (x : HD) (d : PyData) : Bool := match d with
  | .tuple [a] => PyData.eqv (.str ("seals" : Str)) a || PyData.eqv (.str ("none" : Str)) a
  | .tuple [a, b] => PyData.eqv a (.str ("line" : Str)) && lineD x b
  | _ => false
def overD (x : HD) (pds : List PyData) (d : PyData) : Option Bool := match (pds[3]? : Option PyData) with
  | some (PyData.str s) => (x.jns.find? fun j => decide (SX.S j.1 = s)).map fun j => strIn (j.2.map SX.S) d
  | _ => none
def lastD (pds : List PyData) (d : PyData) : Option Bool := match (pds[4]? : Option PyData) with
  | some (PyData.int f) => some (match d with
    | .int i => (decide (1 ≤ i) && decide (i ≤ 420)) && decide (f ≤ i)
    | _ => false)
  | _ => none
abbrev CkF : Type := HD → List PyData → PyData → Option Bool
def ckI : Nat → CkF
  | 0 => fun _ _ d => some (betD d 1 9999)
  | 1 => fun _ _ d => some (betD d 1 99)
  | 2 => fun _ _ d => some (betD d 1 420)
  | 3 => fun _ pds d => lastD pds d
  | 4 => fun _ _ d => some (betD d 0 23)
  | 5 => fun _ _ d => some (betD d 0 1000000000)
  | 6 => fun _ _ d => some (cartD d)
  | 7 => fun x _ d => some (betD d 0 ((x.nw : Int) - 1))
  | 8 => fun x _ d => some (wholeD d && (x.wags.map fun g => PyData.int g.1).any fun z => z.eqv d)
  | 9 => fun x _ d => some (strIn (x.jns.map fun j => SX.S j.1) d)
  | 10 => fun x pds d => overD x pds d
  | 11 => fun _ _ d => some (strIn [("laden" : Str), ("empty" : Str)] d)
  | 12 => fun _ _ d => some (strIn [("whole" : Str), ("broken" : Str)] d)
  | 13 => fun x _ d => some (lineD x d)
  | 14 => fun x _ d => some (rulD x d)
  | _ => fun _ _ _ => none
theorem strs_lay {ss : List Str} (h : ∀ s ∈ ss, PyData.strOk s = true) : PyData.canLayAll0 (ss.map PyData.str) = true := by
  induction ss with
  | nil => rfl
  | cons s ss ih => exact Bool.and_eq_true_iff.mpr ⟨h s List.mem_cons_self, ih fun z hz => h z (List.mem_cons_of_mem _ hz)⟩
theorem strs_dep (ss : List Str) : PyData.depthAll (ss.map PyData.str) = 0 := by
  induction ss with
  | nil => rfl
  | cons s ss ih => show max 0 (PyData.depthAll (ss.map PyData.str)) = 0; rw [ih]; rfl
theorem strs_tup {ss : List Str} (h : ∀ s ∈ ss, PyData.strOk s = true) : SeqAt.shaped (.tuple (ss.map PyData.str)) = true := Bool.and_eq_true_iff.mpr ⟨strs_lay h, decide_eq_true (by show PyData.depthAll (ss.map PyData.str) + 1 ≤ 64; rw [strs_dep]; decide)⟩
theorem strs_lst {ss : List Str} (h : ∀ s ∈ ss, PyData.strOk s = true) : SeqAt.shaped (.list (ss.map PyData.str)) = true := strs_tup h
theorem dpAll_strs {K : PySem.W.Frag} {H : Hp} : ∀ ss : List Str, DpAll K H (ss.map V.str) (ss.map PyData.str)
  | [] => .nil
  | s :: ss => .cons (.str s) (dpAll_strs ss)
section
variable {P : Program} {w : World} {K : PySem.W.Frag} {mg : Str → Option Value} {base : Heap} {k : Nat}
def sp_ck (f : CkF) : Sp := fun vs H Q _ => ∃ (h p : Addr) (v : V) (x : HD) (pds : List PyData) (d : PyData) (b : Bool), vs = [.ref h, .ref p, v] ∧ HsAt H h x ∧ HsOk x ∧ Dt SA H (.ref p) (.tuple pds) ∧ Dt SA H v d ∧ SeqAt.shaped d = true ∧ f x pds d = some b ∧ ∀ H', Same H H' → Q (.bl b) H'
theorem ok_is_number (T : Defs K mg) : FnOk P w K mg base CX0 (k + 3) T.a_is_number T.d_is_number ["house", "paper", "thing"] (sp_ck (ckI 0)) := by
  have G_is_whole_between : FnOk P w K mg base CX0 (k + 2) _ _ _ _ := ok_is_whole_between (k := k) T
  refine T.F_is_number.ok sc_is_number (fun vs H Q E h => ?_) (fun cdv A outer s H vs Q E hr h => ?_)
  · obtain ⟨h, p, v, x, pds, d, b, rfl, _⟩ := h
    rfl
  · obtain ⟨h, p, v, x, pds, d, b, rfl, hh, hx, hp, hv, sd, e, q⟩ := h
    refine ⟨_, PSs.nox
(pss_one (ps_ret (pe_call G_is_whole_between hr (by rfl) T.g_is_whole_between T.F_is_whole_between.kp T.b_is_whole_between .nil pass0 (pa_cons (pv 2) (pa_cons (pe_int) (pa_cons (pe_glob (v := .int 9999) (by rfl) T.c_LAST_NUMBER ⟨_, rfl⟩) pa_nil))))))
      , ?_⟩
    cases e
    exact ⟨v, rfl, v, d, 1, 9999, rfl, hv, q _ fun _ _ z => z⟩
theorem ok_is_edition (T : Defs K mg) : FnOk P w K mg base CX0 (k + 3) T.a_is_edition T.d_is_edition ["house", "paper", "thing"] (sp_ck (ckI 1)) := by
  have G_is_whole_between : FnOk P w K mg base CX0 (k + 2) _ _ _ _ := ok_is_whole_between (k := k) T
  refine T.F_is_edition.ok sc_is_edition (fun vs H Q E h => ?_) (fun cdv A outer s H vs Q E hr h => ?_)
  · obtain ⟨h, p, v, x, pds, d, b, rfl, _⟩ := h
    rfl
  · obtain ⟨h, p, v, x, pds, d, b, rfl, hh, hx, hp, hv, sd, e, q⟩ := h
    refine ⟨_, PSs.nox
(pss_one (ps_ret (pe_call G_is_whole_between hr (by rfl) T.g_is_whole_between T.F_is_whole_between.kp T.b_is_whole_between .nil pass0 (pa_cons (pv 2) (pa_cons (pe_int) (pa_cons (pe_glob (v := .int 99) (by rfl) T.c_LAST_EDITION ⟨_, rfl⟩) pa_nil))))))
      , ?_⟩
    cases e
    exact ⟨v, rfl, v, d, 1, 99, rfl, hv, q _ fun _ _ z => z⟩
theorem ok_is_day (T : Defs K mg) : FnOk P w K mg base CX0 (k + 3) T.a_is_day T.d_is_day ["house", "paper", "thing"] (sp_ck (ckI 2)) := by
  have G_is_whole_between : FnOk P w K mg base CX0 (k + 2) _ _ _ _ := ok_is_whole_between (k := k) T
  refine T.F_is_day.ok sc_is_day (fun vs H Q E h => ?_) (fun cdv A outer s H vs Q E hr h => ?_)
  · obtain ⟨h, p, v, x, pds, d, b, rfl, _⟩ := h
    rfl
  · obtain ⟨h, p, v, x, pds, d, b, rfl, hh, hx, hp, hv, sd, e, q⟩ := h
    refine ⟨_, PSs.nox
(pss_one (ps_ret (pe_call G_is_whole_between hr (by rfl) T.g_is_whole_between T.F_is_whole_between.kp T.b_is_whole_between .nil pass0 (pa_cons (pv 2) (pa_cons (pe_int) (pa_cons (pe_glob (v := .int 420) (by rfl) T.c_LAST_DAY ⟨_, rfl⟩) pa_nil))))))
      , ?_⟩
    cases e
    exact ⟨v, rfl, v, d, 1, 420, rfl, hv, q _ fun _ _ z => z⟩
theorem ok_is_hour (T : Defs K mg) : FnOk P w K mg base CX0 (k + 3) T.a_is_hour T.d_is_hour ["house", "paper", "thing"] (sp_ck (ckI 4)) := by
  have G_is_whole_between : FnOk P w K mg base CX0 (k + 2) _ _ _ _ := ok_is_whole_between (k := k) T
  refine T.F_is_hour.ok sc_is_hour (fun vs H Q E h => ?_) (fun cdv A outer s H vs Q E hr h => ?_)
  · obtain ⟨h, p, v, x, pds, d, b, rfl, _⟩ := h
    rfl
  · obtain ⟨h, p, v, x, pds, d, b, rfl, hh, hx, hp, hv, sd, e, q⟩ := h
    refine ⟨_, PSs.nox
(pss_one (ps_ret (pe_call G_is_whole_between hr (by rfl) T.g_is_whole_between T.F_is_whole_between.kp T.b_is_whole_between .nil pass0 (pa_cons (pv 2) (pa_cons (pe_int) (pa_cons (pe_glob (v := .int 23) (by rfl) T.c_LAST_HOUR ⟨_, rfl⟩) pa_nil))))))
      , ?_⟩
    cases e
    exact ⟨v, rfl, v, d, 0, 23, rfl, hv, q _ fun _ _ z => z⟩
theorem ok_is_sum (T : Defs K mg) : FnOk P w K mg base CX0 (k + 3) T.a_is_sum T.d_is_sum ["house", "paper", "thing"] (sp_ck (ckI 5)) := by
  have G_is_whole_between : FnOk P w K mg base CX0 (k + 2) _ _ _ _ := ok_is_whole_between (k := k) T
  refine T.F_is_sum.ok sc_is_sum (fun vs H Q E h => ?_) (fun cdv A outer s H vs Q E hr h => ?_)
  · obtain ⟨h, p, v, x, pds, d, b, rfl, _⟩ := h
    rfl
  · obtain ⟨h, p, v, x, pds, d, b, rfl, hh, hx, hp, hv, sd, e, q⟩ := h
    refine ⟨_, PSs.nox
(pss_one (ps_ret (pe_call G_is_whole_between hr (by rfl) T.g_is_whole_between T.F_is_whole_between.kp T.b_is_whole_between .nil pass0 (pa_cons (pv 2) (pa_cons (pe_int) (pa_cons (pe_glob (v := .int 1000000000) (by rfl) T.c_MOST_PENCE ⟨_, rfl⟩) pa_nil))))))
      , ?_⟩
    cases e
    exact ⟨v, rfl, v, d, 0, 1000000000, rfl, hv, q _ fun _ _ z => z⟩
theorem ok_is_last_day (T : Defs K mg) : FnOk P w K mg base CX0 (k + 4) T.a_is_last_day T.d_is_last_day ["house", "paper", "thing"] (sp_ck (ckI 3)) := by
  have G_is_day : FnOk P w K mg base CX0 (k + 3) _ _ _ _ := ok_is_day (k := k) T
  refine T.F_is_last_day.ok sc_is_last_day (fun vs H Q E h => ?_) (fun cdv A outer s H vs Q E hr h => ?_)
  · obtain ⟨h, p, v, x, pds, d, b, rfl, _⟩ := h
    rfl
  · obtain ⟨h, p, v, x, pds, d, b, rfl, hh, hx, hp, hv, sd, e, q⟩ := h
    refine ⟨_, PSs.nox
(pss_one (ps_ret (pe_and (pe_call G_is_day hr (by rfl) T.g_is_day T.F_is_day.kp T.b_is_day .nil pass0 (pa_cons (pv 0) (pa_cons (pv 1) (pa_cons (pv 2) pa_nil)))) (pe_one (pe_cmpR op_le (pe_ix (r := rIxT K) ix_tup (pv 1) (pe_glob (v := .int 4) (by rfl) T.c_FIRST_DAY ⟨_, rfl⟩) (fun _ _ => rfl)) (pv 2) (nomark _))))))
      , ?_⟩
    refine ⟨.ref h, rfl, .ref p, rfl, v, rfl, h, p, v, x, pds, d, _, rfl, hh, hx, hp, hv, sd, rfl, fun H1 s1 => ?_⟩
    obtain ⟨f, ef, e⟩ : ∃ f, pds[4]? = some (.int f) ∧ some (match d with
      | .int i => (decide (1 ≤ i) && decide (i ≤ 420)) && decide (f ≤ i)
      | _ => false) = some b := by
      have e : lastD pds d = some b := e
      unfold lastD at e
      split at e
      · next f ef => exact ⟨f, ef, e⟩
      · cases e
    have e := Option.some.inj e
    cases d with
    | int i =>
      refine ⟨betD (.int i) 1 420, rfl, ?_⟩
      have e : ((decide (1 ≤ i) && decide (i ≤ 420)) && decide (f ≤ i)) = b := e
      cases c : betD (.int i) 1 420 with
      | false =>
        have c : (decide (1 ≤ i) && decide (i ≤ 420)) = false := c
        rw [c, Bool.false_and] at e
        subst e
        exact iteF (q _ s1)
      | true =>
        have c : (decide (1 ≤ i) && decide (i ≤ 420)) = true := c
        rw [c, Bool.true_and] at e
        subst e
        obtain ⟨pvs, ep, hpv⟩ : ∃ pvs, H p = some (.tup pvs) ∧ DtAll SA H pvs pds := by
          cases hp with
          | tup _ e _ r => exact ⟨_, e, r⟩
        obtain ⟨u, eu, hu⟩ : ∃ u, pvs[4]? = some u ∧ u = .int f := by
          have l := hpv.len
          have lt : 4 < pvs.length := by rw [l]; exact (List.getElem?_eq_some_iff.mp ef).1
          obtain ⟨d0, e0, h0⟩ := hpv.get (List.getElem?_eq_getElem lt)
          rw [ef] at e0
          cases e0
          exact ⟨_, List.getElem?_eq_getElem lt, by generalize pvs[4] = u at h0; cases h0; rfl⟩
        cases hv
        exact iteT ⟨.ref p, rfl, p, _, 4, u, rfl, rfl, SqT.of (s1 _ _ ep), atI_nat (j := 4) eu, .int i, rfl, f, i, by rw [hu], rfl, q _ s1⟩
    | bool b => subst e; exact ⟨false, rfl, iteF (q _ s1)⟩
    | none => subst e; exact ⟨false, rfl, iteF (q _ s1)⟩
    | str _ => subst e; exact ⟨false, rfl, iteF (q _ s1)⟩
    | list _ => subst e; exact ⟨false, rfl, iteF (q _ s1)⟩
    | tuple _ => subst e; exact ⟨false, rfl, iteF (q _ s1)⟩
    | dict _ => subst e; exact ⟨false, rfl, iteF (q _ s1)⟩
end
end Th
namespace Th
open PySem PySem.Spec PyProof.Rows L2
/-! the other checks -/
theorem shaped_item {ds : List PyData} {d : PyData} (h : SeqAt.shaped (.tuple ds) = true) (hd : d ∈ ds) : SeqAt.shaped d = true := by
  obtain ⟨i, hi, e⟩ := List.getElem_of_mem hd
  have ei : ds[i]? = some d := by rw [List.getElem?_eq_getElem hi, e]
  obtain ⟨h1, h2⟩ := Bool.and_eq_true_iff.mp h
  have h2 := of_decide_eq_true h2
  have h3 : PyData.depthAll ds + 1 ≤ 64 := h2
  have h4 := depth_mem ei
  exact Bool.and_eq_true_iff.mpr ⟨lay_mem h1 ei, decide_eq_true (by omega)⟩
theorem lk_jn {sts : List (Nm × Nm)} {jns : List (Nm × List Nm)} {j : Nm × List Nm} (nd : (jns.map (·.1)).Nodup) (hj : j ∈ jns) : lkF (ent sts jns) j.1 = some j.2 := by
  have snoc : ∀ (n : Nat) (jns : List (Nm × List Nm)), jns.length = n → (jns.map (·.1)).Nodup → j ∈ jns → lkF (ent sts jns) j.1 = some j.2 := fun n => by
    induction n with
    | zero => intro js e _ h; rw [List.eq_nil_of_length_eq_zero e] at h; cases h
    | succ n ih =>
      intro js e nd hj
      have ne : js ≠ [] := fun z => by rw [z] at e; cases e
      have e2 := List.dropLast_concat_getLast ne
      generalize js.dropLast = a at e2
      generalize js.getLast ne = b at e2
      subst e2
      rw [show ent sts (a ++ [b]) = ent sts a ++ [b] from (List.append_assoc _ _ _).symm, lkF_snoc]
      rw [List.map_append] at nd
      obtain ⟨nd1, _, nd3⟩ := List.nodup_append.mp nd
      rcases List.mem_append.mp hj with z | z
      · rw [if_neg fun q => nd3 j.1 (List.mem_map_of_mem (f := (·.1)) z) b.1 (by simp) q]
        exact ih a (by simp at e; exact e) nd1 z
      · rw [List.mem_singleton.mp z, if_pos rfl]
  exact snoc _ jns rfl nd hj
theorem eqv_tup1 (x a : PyData) : PyData.eqv (.tuple [x]) (.tuple [a]) = PyData.eqv x a := by
  show PyData.eqvAll [x] [a] = _
  show (PyData.eqv x a && true) = _
  rw [Bool.and_true]
theorem any_two (x y a : PyData) : ([PyData.tuple [x], .tuple [y]].any fun z => z.eqv (.tuple [a])) = (PyData.eqv x a || PyData.eqv y a) := by
  show (PyData.eqv (.tuple [x]) (.tuple [a]) || (PyData.eqv (.tuple [y]) (.tuple [a]) || false)) = _
  rw [eqv_tup1, eqv_tup1, Bool.or_false]
theorem eqv_tupn (x a b : PyData) (c : List PyData) : PyData.eqv (.tuple [x]) (.tuple (a :: b :: c)) = false := by
  show PyData.eqvAll [x] (a :: b :: c) = _
  show (PyData.eqv x a && false) = _
  rw [Bool.and_false]
theorem any_no (x y : PyData) {d : PyData} (n : ∀ a, d ≠ .tuple [a]) : ([PyData.tuple [x], .tuple [y]].any fun z => z.eqv d) = false := by
  show (PyData.eqv (.tuple [x]) d || (PyData.eqv (.tuple [y]) d || false)) = _
  cases d with
  | tuple ds =>
    match ds, n with
    | [], _ => rfl
    | [a], n => exact absurd rfl (n a)
    | a :: b :: c, _ => rw [eqv_tupn, eqv_tupn]; rfl
  | _ => rfl
theorem nms_strok {zs : List Nm} (h : ∀ z ∈ zs, IsNm z) : ∀ s ∈ zs.map SX.S, PyData.strOk s = true := fun s hs => by
  obtain ⟨z, hz, rfl⟩ := List.mem_map.mp hs
  exact nm_ok (h z hz)
theorem dpAll_nms {K : PySem.W.Frag} {H : Hp} (zs : List Nm) : DpAll K H (zs.map nS) ((zs.map SX.S).map PyData.str) := by
  induction zs with
  | nil => exact .nil
  | cons z zs ih => exact .cons (.str _) ih
theorem int_lay (is : List Int) : PyData.canLayAll0 (is.map PyData.int) = true := by
  induction is with
  | nil => rfl
  | cons i is ih => exact ih
theorem int_dep (is : List Int) : PyData.depthAll (is.map PyData.int) = 0 := by
  induction is with
  | nil => rfl
  | cons s ss ih => show max 0 (PyData.depthAll (ss.map PyData.int)) = 0; rw [ih]; rfl
section
variable {P : Program} {w : World} {K : PySem.W.Frag} {mg : Str → Option Value} {base : Heap} {k : Nat}
set_option maxHeartbeats 8000000 in
theorem ok_is_cartage (T : Defs K mg) : FnOk P w K mg base CX0 (k + 4) T.a_is_cartage T.d_is_cartage ["house", "paper", "thing"] (sp_ck (ckI 6)) := by
  have G_is_tuple : FnOk P w K mg base CX0 (k + 3) _ _ _ _ := ok_is_tuple (k := k + 2) T
  have G_is_sum : FnOk P w K mg base CX0 (k + 3) _ _ _ _ := ok_is_sum (k := k) T
  refine T.F_is_cartage.ok sc_is_cartage (fun vs H Q E h => ?_) (fun cdv A outer s H vs Q E hr h => ?_)
  · obtain ⟨h, p, v, x, pds, d, b, rfl, _⟩ := h
    rfl
  · obtain ⟨h, p, v, x, pds, d, b, rfl, hh, hx, hp, hv, sd, e, q⟩ := h
    refine ⟨_, PSs.nox
(pss_one (ps_ret (pe_and (pe_call G_is_tuple hr (by rfl) T.g_is_tuple T.F_is_tuple.kp T.b_is_tuple .nil pass0 (pa_cons (pv 2) (pa_cons (pe_int) (pa_cons (pe_int) pa_nil)))) (pe_one (pe_callB (r := rAll K) (cr_all rfl) (by rfl) T.z_all (by decide +kernel) (pa_cons (pe_lc (own := [("pence", 3)]) (g := gName 3) rfl sc_is_cartage.nd (pi_tup (pv 2)) (blkOk_by (N := N_is_cartage) (sc := defScope s_is_cartage) (by decide +kernel)) (fun _ _ _ _ _ => (pg_name (i := 3) sc_is_cartage.nd rfl (.inl rfl))) (fun _ _ _ _ _ => pts_nil) (fun _ _ _ _ _ => (pe_call G_is_sum hr (by rfl) T.g_is_sum T.F_is_sum.kp T.b_is_sum .nil pass0 (pa_cons (pv 0) (pa_cons (pv 1) (pa_cons (pv 3) pa_nil)))))) pa_nil))))))
      , ?_⟩
    have e : cartD d = b := Option.some.inj e
    refine ⟨v, rfl, v, d, 2, 2, rfl, hv, tupD d 2 2, rfl, ite2 (fun c => ?_) fun c => ?_⟩
    · obtain ⟨a0, b0, rfl⟩ : ∃ a0 b0, d = .tuple [a0, b0] := by
        cases d with
        | tuple ds =>
          have c : (decide ((2 : Int) ≤ (ds.length : Int)) && decide ((ds.length : Int) ≤ 2)) = true := c
          obtain ⟨c1, c2⟩ := Bool.and_eq_true_iff.mp c
          have c1 := of_decide_eq_true c1
          have c2 := of_decide_eq_true c2
          match ds, c1, c2 with
          | [a0, b0], _, _ => exact ⟨a0, b0, rfl⟩
          | [], c1, _ => simp at c1
          | [_], c1, _ => simp at c1
          | _ :: _ :: _ :: _, _, c2 => simp at c2; omega
        | _ => cases c
      obtain ⟨t, pvs, rfl, et, hpv⟩ : ∃ t pvs, v = .ref t ∧ H t = some (.tup pvs) ∧ DtAll SA H pvs [a0, b0] := by
        cases hv with
        | tup _ e _ r => exact ⟨_, _, rfl, e, r⟩
      have pl : pvs.length = 2 := hpv.len
      refine ⟨.ref t, rfl, t, rfl, ⟨_, SqT.of et⟩, fun B nB => ?_⟩
      refine lc_it (walk_tup (xs := pvs)) (fun j Hy => Same H Hy ∧ Hy B = some (.lst ((([a0, b0].take j).map fun z => betD z 0 1000000000).map V.bl))) ⟨same_upd nB, upd_same⟩ (fun j Hy _ pv => SqT.of (pv.1 _ _ et)) (fun j v Hy₀ Hy hj pv yy => ?_) (fun Hy pv => ?_)
      · obtain ⟨rfl, ex⟩ := yy
        obtain ⟨sy, eB⟩ := pv
        obtain ⟨d1, ed, hd1⟩ := hpv.get ex
        have tk1 : [a0, b0].take (j + 1) = [a0, b0].take j ++ [d1] := by rw [List.take_add_one, ed]; rfl
        refine ⟨rfl, yes_ ⟨.ref h, rfl, .ref p, rfl, v, rfl, h, p, v, x, pds, d1, _, rfl, hh.same sy, hx, hp.same sy, hd1.same sy, shaped_item sd (List.mem_of_getElem? ed), rfl, fun H2 s2 => ?_⟩⟩
        refine ⟨_, s2 _ _ eB, small5000 (by rw [List.length_map, List.length_map, List.length_take]; simp only [List.length_cons, List.length_nil]; omega), same_set (sy.trans s2) nB, ?_⟩
        rw [tk1, List.map_append, List.map_append]
        exact upd_same
      obtain ⟨sy, eB⟩ := pv
      rw [pl] at eB
      refine ⟨B, [betD a0 0 1000000000, betD b0 0 1000000000], rfl, SqL.of eB, ?_⟩
      rw [show ([betD a0 0 1000000000, betD b0 0 1000000000] : List Bool).all id = b by
        rw [← e]
        show (betD a0 0 1000000000 && (betD b0 0 1000000000 && true)) = (betD a0 0 1000000000 && betD b0 0 1000000000)
        rw [Bool.and_true]]
      exact q _ sy
    · have : b = false := by
        rw [← e]
        cases d with
        | tuple ds =>
          match ds, c with
          | [], _ => rfl
          | [_], _ => rfl
          | [a0, b0], c => exact absurd (show tupD (.tuple [a0, b0]) 2 2 = true from rfl) c
          | _ :: _ :: _ :: _, _ => rfl
        | _ => rfl
      subst this
      exact q _ fun _ _ z => z
set_option maxHeartbeats 8000000 in
theorem ok_is_way_number (T : Defs K mg) : FnOk P w K mg base CX0 (k + 3) T.a_is_way_number T.d_is_way_number ["house", "paper", "thing"] (sp_ck (ckI 7)) := by
  have G_is_whole_between : FnOk P w K mg base CX0 (k + 2) _ _ _ _ := ok_is_whole_between (k := k) T
  refine T.F_is_way_number.ok sc_is_way_number (fun vs H Q E h => ?_) (fun cdv A outer s H vs Q E hr h => ?_)
  · obtain ⟨h, p, v, x, pds, d, b, rfl, _⟩ := h
    rfl
  · obtain ⟨h, p, v, x, pds, d, b, rfl, hh, hx, hp, hv, sd, e, q⟩ := h
    refine ⟨_, PSs.nox
(pss_cons (ps_asg (pv 0) (pg_tup rfl (pgs_cons (pg_name (i := 3) sc_is_way_number.nd rfl (.inl rfl)) (pgs_cons (pg_name (i := 4) sc_is_way_number.nd rfl (.inl rfl)) (pgs_cons (pg_name (i := 5) sc_is_way_number.nd rfl (.inl rfl)) pgs_nil)))))
    (pss_one (ps_ret (pe_call G_is_whole_between hr (by rfl) T.g_is_whole_between T.F_is_whole_between.kp T.b_is_whole_between .nil pass0 (pa_cons (pv 2) (pa_cons (pe_int) (pa_cons (pe_op op_sub (pe_callB (r := rLenS K) call_lenS (by rfl) T.z_len (by decide +kernel) (pa_cons (pv 4) pa_nil)) (pe_int)) pa_nil)))))))
      , ?_⟩
    obtain ⟨r, wl, gl, ws, ga, e1, e2, e3, e4, e5, e6⟩ := hh.ex
    have e : betD d 0 ((x.nw : Int) - 1) = b := Option.some.inj e
    rw [← e4] at e
    refine ⟨.ref h, rfl, h, _, rfl, SqT.of e1, rfl, _, _, rfl, _, _, rfl, _, [], rfl, rfl, ?_⟩
    refine ⟨v, rfl, .ref wl, rfl, wl, _, rfl, .inl (SqL.of e3), _, 1, rfl, rfl, v, d, 0, _, rfl, hv, ?_⟩
    rw [e]
    exact q _ fun _ _ z => z
set_option maxHeartbeats 8000000 in
theorem ok_is_own_wagon (T : Defs K mg) : FnOk P w K mg base CX0 (k + 2) T.a_is_own_wagon T.d_is_own_wagon ["house", "paper", "thing"] (sp_ck (ckI 8)) := by
  have G_is_whole : FnOk P w K mg base CX0 (k + 1) _ _ _ _ := ok_is_whole (k := k) T
  refine T.F_is_own_wagon.ok sc_is_own_wagon (fun vs H Q E h => ?_) (fun cdv A outer s H vs Q E hr h => ?_)
  · obtain ⟨h, p, v, x, pds, d, b, rfl, _⟩ := h
    rfl
  · obtain ⟨h, p, v, x, pds, d, b, rfl, hh, hx, hp, hv, sd, e, q⟩ := h
    refine ⟨_, PSs.nox
(pss_cons (ps_asg (pv 0) (pg_tup rfl (pgs_cons (pg_name (i := 3) sc_is_own_wagon.nd rfl (.inl rfl)) (pgs_cons (pg_name (i := 4) sc_is_own_wagon.nd rfl (.inl rfl)) (pgs_cons (pg_name (i := 5) sc_is_own_wagon.nd rfl (.inl rfl)) pgs_nil)))))
    (pss_one (ps_ret (pe_and (pe_call G_is_whole hr (by rfl) T.g_is_whole T.F_is_whole.kp T.b_is_whole .nil pass0 (pa_cons (pv 2) pa_nil)) (pe_one (pe_cmpR (op_inD (un65 hr)) (pv 2) (pe_lc (own := [("number", 6), ("line", 7)]) (g := gTup K 2 (gCons (gName 6) (gCons (gName 7) gNil))) rfl sc_is_own_wagon.nd (pi_list (pv 5)) (blkOk_by (N := N_is_own_wagon) (sc := defScope s_is_own_wagon) (by decide +kernel)) (fun _ _ _ _ _ => (pg_tup rfl (pgs_cons (pg_name (i := 6) sc_is_own_wagon.nd rfl (.inl rfl)) (pgs_cons (pg_name (i := 7) sc_is_own_wagon.nd rfl (.inl rfl)) pgs_nil)))) (fun _ _ _ _ _ => pts_nil) (fun _ _ _ _ _ => (pv 6))) (by rfl)))))))
      , ?_⟩
    obtain ⟨r, wl, gl, ws, ga, e1, e2, e3, e4, e5, e6⟩ := hh.ex
    have e : (wholeD d && (x.wags.map fun g => PyData.int g.1).any fun z => z.eqv d) = b := Option.some.inj e
    refine ⟨.ref h, rfl, h, _, rfl, SqT.of e1, rfl, _, _, rfl, _, _, rfl, _, [], rfl, rfl, ?_⟩
    refine ⟨v, rfl, v, d, rfl, hv, wholeD d, rfl, ite2 (fun c => ?_) fun c => ?_⟩
    · rw [c, Bool.true_and] at e
      have gl6 := paired_len e6
      have ggs := hx.gs
      refine ⟨v, rfl, .ref gl, rfl, gl, rfl, ⟨_, SqL.of e5⟩, fun B nB => ?_⟩
      refine lc_it (walk_list (xs := ga.map V.ref)) (fun j Hy => Same H Hy ∧ Hy B = some (.lst (((x.wags.take j).map fun g => g.1).map V.int))) ⟨same_upd nB, upd_same⟩ (fun j Hy _ pv => SqL.of (pv.1 _ _ e5)) (fun j v Hy₀ Hy hj pv yy => ?_) (fun Hy pv => ?_)
      · obtain ⟨rfl, ex⟩ := yy
        obtain ⟨sy, eB⟩ := pv
        obtain ⟨u, eu, rfl⟩ : ∃ u, ga[j]? = some u ∧ v = .ref u := by
          rw [List.getElem?_map] at ex
          cases h : ga[j]? with
          | none => rw [h] at ex; cases ex
          | some t => rw [h] at ex; exact ⟨t, rfl, (Option.some.inj ex).symm⟩
        obtain ⟨g, eg, hu⟩ := paired_get e6 eu
        have tk1 : x.wags.take (j + 1) = x.wags.take j ++ [g] := by rw [List.take_add_one, eg]; rfl
        refine ⟨u, _, rfl, SqT.of (sy _ _ hu), rfl, _, _, rfl, _, [], rfl, rfl, rfl, yes_ ⟨.int g.1, rfl, _, eB, small5000 (by rw [List.length_map, List.length_map, List.length_take]; omega), same_set sy nB, ?_⟩⟩
        rw [tk1, List.map_append, List.map_append]
        exact upd_same
      obtain ⟨sy, eB⟩ := pv
      rw [List.length_map, gl6, List.take_length] at eB
      refine ⟨d, (x.wags.map fun g => g.1).map PyData.int, (hv.same sy).dp, .lst (SqL.of eB) (Mx.dpAll_ints _), sd, Bool.and_eq_true_iff.mpr ⟨int_lay _, decide_eq_true (by show PyData.depthAll _ + 1 ≤ 64; rw [int_dep]; decide)⟩, ?_⟩
      rw [show ((x.wags.map fun g => g.1).map PyData.int) = x.wags.map fun g => PyData.int g.1 from List.map_map, e]
      exact q _ sy
    · have c : wholeD d = false := by simpa using c
      rw [c, Bool.false_and] at e
      subst e
      exact q _ fun _ _ z => z
set_option maxHeartbeats 8000000 in
theorem ok_is_junction_name (T : Defs K mg) : FnOk P w K mg base CX0 (k + 1) T.a_is_junction_name T.d_is_junction_name ["house", "paper", "thing"] (sp_ck (ckI 9)) := by
  refine T.F_is_junction_name.ok sc_is_junction_name (fun vs H Q E h => ?_) (fun cdv A outer s H vs Q E hr h => ?_)
  · obtain ⟨h, p, v, x, pds, d, b, rfl, _⟩ := h
    rfl
  · obtain ⟨h, p, v, x, pds, d, b, rfl, hh, hx, hp, hv, sd, e, q⟩ := h
    refine ⟨_, PSs.nox
(pss_cons (ps_asg (pv 0) (pg_tup rfl (pgs_cons (pg_name (i := 3) sc_is_junction_name.nd rfl (.inl rfl)) (pgs_cons (pg_name (i := 4) sc_is_junction_name.nd rfl (.inl rfl)) (pgs_cons (pg_name (i := 5) sc_is_junction_name.nd rfl (.inl rfl)) pgs_nil)))))
    (pss_one (ps_ret (pe_cmpR (op_inD (un65 hr)) (pv 2) (pe_lc (own := [("name", 6), ("joined", 7)]) (g := gTup K 2 (gCons (gName 6) (gCons (gName 7) gNil))) rfl sc_is_junction_name.nd (pi_tup (pe_ix (r := rIxT K) ix_tup (pv 3) (pe_int) (fun _ _ => rfl))) (blkOk_by (N := N_is_junction_name) (sc := defScope s_is_junction_name) (by decide +kernel)) (fun _ _ _ _ _ => (pg_tup rfl (pgs_cons (pg_name (i := 6) sc_is_junction_name.nd rfl (.inl rfl)) (pgs_cons (pg_name (i := 7) sc_is_junction_name.nd rfl (.inl rfl)) pgs_nil)))) (fun _ _ _ _ _ => pts_nil) (fun _ _ _ _ _ => (pv 6))) (by rfl)))))
      , ?_⟩
    obtain ⟨r, wl, gl, ws, ga, e1, e2, e3, e4, e5, e6⟩ := hh.ex
    obtain ⟨na, nb, nc, nd, sa, ja, ta, er, ea, eb, hS, ec, hJ, ed, hti⟩ := e2
    have e : strIn (x.jns.map fun j => SX.S j.1) d = b := Option.some.inj e
    have jl := paired_len hJ
    have jjs := hx.js.2
    refine ⟨.ref h, rfl, h, _, rfl, SqT.of e1, rfl, _, _, rfl, _, _, rfl, _, [], rfl, rfl, ?_⟩
    refine ⟨v, rfl, .ref r, rfl, r, _, 2, .ref nc, rfl, rfl, SqT.of er, atI_nat (j := 2) rfl, nc, rfl, ⟨_, ec.sq⟩, fun B nB => ?_⟩
    refine lc_it (walk_tup (xs := ja.map V.ref)) (fun j Hy => Same H Hy ∧ Hy B = some (.lst (((x.jns.take j).map fun j => SX.S j.1).map V.str))) ⟨same_upd nB, upd_same⟩ (fun j Hy _ pv => (ec.same pv.1).sq) (fun j v Hy₀ Hy hj pv yy => ?_) (fun Hy pv => ?_)
    · obtain ⟨rfl, ex⟩ := yy
      obtain ⟨sy, eB⟩ := pv
      obtain ⟨u, eu, rfl⟩ : ∃ u, ja[j]? = some u ∧ v = .ref u := by
        rw [List.getElem?_map] at ex
        cases h : ja[j]? with
        | none => rw [h] at ex; cases ex
        | some t => rw [h] at ex; exact ⟨t, rfl, (Option.some.inj ex).symm⟩
      obtain ⟨g, eg, jt, hu, hjt⟩ := paired_get hJ eu
      have tk1 : x.jns.take (j + 1) = x.jns.take j ++ [g] := by rw [List.take_add_one, eg]; rfl
      refine ⟨u, _, rfl, SqT.of (sy _ _ hu), rfl, _, _, rfl, _, [], rfl, rfl, rfl, yes_ ⟨nS g.1, rfl, _, eB, small5000 (by rw [List.length_map, List.length_map, List.length_take]; omega), same_set sy nB, ?_⟩⟩
      rw [tk1, List.map_append, List.map_append]
      exact upd_same
    obtain ⟨sy, eB⟩ := pv
    rw [List.length_map, jl, List.take_length] at eB
    have so : ∀ s ∈ x.jns.map (fun j => SX.S j.1), PyData.strOk s = true := fun s hs => by
      obtain ⟨j, hj, rfl⟩ := List.mem_map.mp hs
      exact nm_ok (hx.js.1 j hj).1
    refine ⟨d, (x.jns.map fun j => SX.S j.1).map PyData.str, (hv.same sy).dp, .lst (SqL.of eB) (dpAll_strs _), sd, strs_lst so, ?_⟩
    rw [show ((x.jns.map fun j => SX.S j.1).map PyData.str).any (fun z => z.eqv d) = b from e]
    exact q _ sy
set_option maxHeartbeats 8000000 in
theorem ok_is_over (T : Defs K mg) : FnOk P w K mg base CX0 (k + 3) T.a_is_over T.d_is_over ["house", "paper", "thing"] (sp_ck (ckI 10)) := by
  have G_lines_at : FnOk P w K mg base CX0 (k + 2) _ _ _ _ := ok_lines_at (k := k) T
  refine T.F_is_over.ok sc_is_over (fun vs H Q E h => ?_) (fun cdv A outer s H vs Q E hr h => ?_)
  · obtain ⟨h, p, v, x, pds, d, b, rfl, _⟩ := h
    rfl
  · obtain ⟨h, p, v, x, pds, d, b, rfl, hh, hx, hp, hv, sd, e, q⟩ := h
    refine ⟨_, PSs.nox
(pss_cons (ps_asg (pv 0) (pg_tup rfl (pgs_cons (pg_name (i := 3) sc_is_over.nd rfl (.inl rfl)) (pgs_cons (pg_name (i := 4) sc_is_over.nd rfl (.inl rfl)) (pgs_cons (pg_name (i := 5) sc_is_over.nd rfl (.inl rfl)) pgs_nil)))))
    (pss_one (ps_ret (pe_cmpR (InT.op_inT (un65 hr)) (pv 2) (pe_call G_lines_at hr (by rfl) T.g_lines_at T.F_lines_at.kp T.b_lines_at .nil pass0 (pa_cons (pv 3) (pa_cons (pe_ix (r := rIxT K) ix_tup (pv 1) (pe_glob (v := .int 3) (by rfl) T.c_JUNCTION ⟨_, rfl⟩) (fun _ _ => rfl)) pa_nil))) (by rfl)))))
      , ?_⟩
    obtain ⟨r, wl, gl, ws, ga, e1, e2, e3, e4, e5, e6⟩ := hh.ex
    obtain ⟨z, ez, j, hj, ej, e⟩ : ∃ z, pds[3]? = some (.str z) ∧ ∃ j, j ∈ x.jns ∧ SX.S j.1 = z ∧ strIn (j.2.map SX.S) d = b := by
      have e : overD x pds d = some b := e
      unfold overD at e
      split at e
      · next z ez =>
        refine ⟨z, ez, ?_⟩
        cases f : x.jns.find? (fun j => decide (SX.S j.1 = z)) with
        | none => rw [f] at e; cases e
        | some j =>
          rw [f] at e
          exact ⟨j, List.mem_of_find?_eq_some f, of_decide_eq_true (List.find?_some (p := fun j : Nm × List Nm => decide (SX.S j.1 = z)) f), Option.some.inj e⟩
      · cases e
    obtain ⟨pvs, ep, hpv⟩ : ∃ pvs, H p = some (.tup pvs) ∧ DtAll SA H pvs pds := by
      cases hp with
      | tup _ e _ r => exact ⟨_, e, r⟩
    have eu : pvs[3]? = some (nS j.1) := by
      have l := hpv.len
      have lt : 3 < pvs.length := by rw [l]; exact (List.getElem?_eq_some_iff.mp ez).1
      obtain ⟨d0, e0, h0⟩ := hpv.get (List.getElem?_eq_getElem lt)
      rw [ez] at e0
      cases e0
      rw [List.getElem?_eq_getElem lt]
      generalize pvs[3] = u at h0
      cases h0
      rw [← ej]
    refine ⟨.ref h, rfl, h, _, rfl, SqT.of e1, rfl, _, _, rfl, _, _, rfl, _, [], rfl, rfl, ?_⟩
    refine ⟨v, rfl, .ref r, rfl, .ref p, rfl, p, _, 3, nS j.1, rfl, rfl, SqT.of ep, atI_nat (j := 3) eu, r, j.1, x.ls, x.sts, x.jns, x.tis, rfl, e2, hx.ss, hx.js.2, fun H2 u s2 eu2 => ?_⟩
    rw [lk_jn hx.nd hj] at eu2
    refine ⟨d, (j.2.map SX.S).map PyData.str, (hv.same s2).dp, .tup (SqT.of eu2) (dpAll_nms _), sd, strs_tup (nms_strok (hx.js.1 j hj).2.1), ?_⟩
    rw [show ((j.2.map SX.S).map PyData.str).any (fun z => z.eqv d) = b from e]
    exact q _ s2
theorem ok_is_line (T : Defs K mg) : FnOk P w K mg base CX0 (k + 1) T.a_is_line T.d_is_line ["house", "paper", "thing"] (sp_ck (ckI 13)) := by
  refine T.F_is_line.ok sc_is_line (fun vs H Q E h => ?_) (fun cdv A outer s H vs Q E hr h => ?_)
  · obtain ⟨h, p, v, x, pds, d, b, rfl, _⟩ := h
    rfl
  · obtain ⟨h, p, v, x, pds, d, b, rfl, hh, hx, hp, hv, sd, e, q⟩ := h
    refine ⟨_, PSs.nox
(pss_cons (ps_asg (pv 0) (pg_tup rfl (pgs_cons (pg_name (i := 3) sc_is_line.nd rfl (.inl rfl)) (pgs_cons (pg_name (i := 4) sc_is_line.nd rfl (.inl rfl)) (pgs_cons (pg_name (i := 5) sc_is_line.nd rfl (.inl rfl)) pgs_nil)))))
    (pss_one (ps_ret (pe_cmpR (InT.op_inT (un65 hr)) (pv 2) (pe_ix (r := rIxT K) ix_tup (pv 3) (pe_int) (fun _ _ => rfl)) (by rfl)))))
      , ?_⟩
    obtain ⟨r, wl, gl, ws, ga, e1, e2, e3, e4, e5, e6⟩ := hh.ex
    obtain ⟨na, nb, nc, nd, sa, ja, ta, er, ea, eb, hS, ec, hJ, ed, hti⟩ := e2
    have e : strIn (x.ls.map SX.S) d = b := Option.some.inj e
    refine ⟨.ref h, rfl, h, _, rfl, SqT.of e1, rfl, _, _, rfl, _, _, rfl, _, [], rfl, rfl, ?_⟩
    refine ⟨v, rfl, .ref r, rfl, r, _, 0, .ref na, rfl, rfl, SqT.of er, atI_nat (j := 0) rfl, d, (x.ls.map SX.S).map PyData.str, hv.dp, .tup ea.sq (dpAll_nms _), sd, strs_tup (nms_strok hx.ls.1), ?_⟩
    rw [show ((x.ls.map SX.S).map PyData.str).any (fun z => z.eqv d) = b from e]
    exact q _ fun _ _ z => z
theorem ok_is_load (T : Defs K mg) : FnOk P w K mg base CX0 (k + 1) T.a_is_load T.d_is_load ["house", "paper", "thing"] (sp_ck (ckI 11)) := by
  refine T.F_is_load.ok sc_is_load (fun vs H Q E h => ?_) (fun cdv A outer s H vs Q E hr h => ?_)
  · obtain ⟨h, p, v, x, pds, d, b, rfl, _⟩ := h
    rfl
  · obtain ⟨h, p, v, x, pds, d, b, rfl, hh, hx, hp, hv, sd, e, q⟩ := h
    refine ⟨_, PSs.nox
(pss_one (ps_ret (pe_cmpR (InT.op_inT (un65 hr)) (pv 2) (pe_tup (pa_cons (pe_str) (pa_cons (pe_str) pa_nil))) (by rfl))))
      , ?_⟩
    have e : strIn [("laden" : Str), ("empty" : Str)] d = b := Option.some.inj e
    refine ⟨v, rfl, by show 2 ≤ sizeLine; decide, fun u nu => ?_⟩
    have su := same_upd (o := .tup [.str ("laden" : Str), .str ("empty" : Str)]) nu
    refine ⟨d, [.str ("laden" : Str), .str ("empty" : Str)], (hv.same su).dp, .tup (SqT.of upd_same) (.cons (.str _) (.cons (.str _) .nil)), sd, by decide +kernel, ?_⟩
    rw [show ([PyData.str ("laden" : Str), .str ("empty" : Str)].any fun z => z.eqv d) = b from e]
    exact q _ su
theorem ok_is_seal (T : Defs K mg) : FnOk P w K mg base CX0 (k + 1) T.a_is_seal T.d_is_seal ["house", "paper", "thing"] (sp_ck (ckI 12)) := by
  refine T.F_is_seal.ok sc_is_seal (fun vs H Q E h => ?_) (fun cdv A outer s H vs Q E hr h => ?_)
  · obtain ⟨h, p, v, x, pds, d, b, rfl, _⟩ := h
    rfl
  · obtain ⟨h, p, v, x, pds, d, b, rfl, hh, hx, hp, hv, sd, e, q⟩ := h
    refine ⟨_, PSs.nox
(pss_one (ps_ret (pe_cmpR (InT.op_inT (un65 hr)) (pv 2) (pe_tup (pa_cons (pe_str) (pa_cons (pe_str) pa_nil))) (by rfl))))
      , ?_⟩
    have e : strIn [("whole" : Str), ("broken" : Str)] d = b := Option.some.inj e
    refine ⟨v, rfl, by show 2 ≤ sizeLine; decide, fun u nu => ?_⟩
    have su := same_upd (o := .tup [.str ("whole" : Str), .str ("broken" : Str)]) nu
    refine ⟨d, [.str ("whole" : Str), .str ("broken" : Str)], (hv.same su).dp, .tup (SqT.of upd_same) (.cons (.str _) (.cons (.str _) .nil)), sd, by decide +kernel, ?_⟩
    rw [show ([PyData.str ("whole" : Str), .str ("broken" : Str)].any fun z => z.eqv d) = b from e]
    exact q _ su
set_option maxHeartbeats 8000000 in
theorem ok_is_ruling (T : Defs K mg) : FnOk P w K mg base CX0 (k + 2) T.a_is_ruling T.d_is_ruling ["house", "paper", "thing"] (sp_ck (ckI 14)) := by
  have G_is_tuple : FnOk P w K mg base CX0 (k + 1) _ _ _ _ := ok_is_tuple (k := k) T
  have G_is_line : FnOk P w K mg base CX0 (k + 1) _ _ _ _ := ok_is_line (k := k) T
  refine T.F_is_ruling.ok sc_is_ruling (fun vs H Q E h => ?_) (fun cdv A outer s H vs Q E hr h => ?_)
  · obtain ⟨h, p, v, x, pds, d, b, rfl, _⟩ := h
    rfl
  · obtain ⟨h, p, v, x, pds, d, b, rfl, hh, hx, hp, hv, sd, e, q⟩ := h
    refine ⟨_, PSs.nox
(pss_cons (ps_if (pt_cmpR (InT.op_inT (un65 hr)) (pv 2) (pe_tup (pa_cons (pe_tup (pa_cons (pe_str) pa_nil)) (pa_cons (pe_tup (pa_cons (pe_str) pa_nil)) pa_nil))) (by rfl))
      (pss_one (ps_ret (pe_bl)))
      pss_nil)
    (pss_one (ps_ret (pe_and (pe_call G_is_tuple hr (by rfl) T.g_is_tuple T.F_is_tuple.kp T.b_is_tuple .nil pass0 (pa_cons (pv 2) (pa_cons (pe_int) (pa_cons (pe_int) pa_nil)))) (pe_and (pe_cmpR (r := rEqD K) (op_eqD hr.units) (pe_ix (r := rIxT K) ix_tup (pv 2) (pe_int) (fun _ _ => rfl)) (pe_str) (nomark _)) (pe_one (pe_call G_is_line hr (by rfl) T.g_is_line T.F_is_line.kp T.b_is_line .nil pass0 (pa_cons (pv 0) (pa_cons (pv 1) (pa_cons (pe_ix (r := rIxT K) ix_tup (pv 2) (pe_int) (fun _ _ => rfl)) pa_nil))))))))))
      , ?_⟩
    have e : rulD x d = b := Option.some.inj e
    refine ⟨v, rfl, by show 1 ≤ sizeLine; decide, fun u1 nu1 => ?_⟩
    have s1 := same_upd (o := .tup [.str ("seals" : Str)]) nu1
    have eu1 : (upd H u1 (.tup [.str ("seals" : Str)])) u1 = some (.tup [.str ("seals" : Str)]) := upd_same
    generalize upd H u1 (.tup [.str ("seals" : Str)]) = H1 at s1 eu1 ⊢
    refine ⟨by show 1 ≤ sizeLine; decide, fun u2 nu2 => ?_⟩
    have s2 := same_upd (o := .tup [.str ("none" : Str)]) nu2
    have eu2 : (upd H1 u2 (.tup [.str ("none" : Str)])) u2 = some (.tup [.str ("none" : Str)]) := upd_same
    generalize upd H1 u2 (.tup [.str ("none" : Str)]) = H2 at s2 eu2 ⊢
    refine ⟨by show 2 ≤ sizeLine; decide, fun u3 nu3 => ?_⟩
    have s3 := same_upd (o := .tup [.ref u1, .ref u2]) nu3
    have eu3 : (upd H2 u3 (.tup [.ref u1, .ref u2])) u3 = some (.tup [.ref u1, .ref u2]) := upd_same
    have eu1' := (s2.trans s3) _ _ eu1
    have eu2' := s3 _ _ eu2
    have s03 := (s1.trans s2).trans s3
    generalize upd H2 u3 (.tup [.ref u1, .ref u2]) = H3 at s3 eu3 eu1' eu2' s03 ⊢
    refine ⟨d, [.tuple [.str ("seals" : Str)], .tuple [.str ("none" : Str)]], (hv.same s03).dp, .tup (SqT.of eu3) (.cons (.tup (SqT.of eu1') (.cons (.str _) .nil)) (.cons (.tup (SqT.of eu2') (.cons (.str _) .nil)) .nil)), sd, by decide +kernel, _, rfl, ?_⟩
    have one : ∀ a, ([PyData.tuple [.str ("seals" : Str)], .tuple [.str ("none" : Str)]].any fun z => z.eqv (.tuple [a])) = (PyData.eqv (.str ("seals" : Str)) a || PyData.eqv (.str ("none" : Str)) a) := fun a => by
      exact any_two _ _ a
    have other : (∀ a, d ≠ .tuple [a]) → ([PyData.tuple [.str ("seals" : Str)], .tuple [.str ("none" : Str)]].any fun z => z.eqv d) = false := fun n => any_no _ _ n
    refine ite2 (fun c => ?_) fun c => ?_
    · have : b = true := by
        by_cases n : ∀ a, d ≠ .tuple [a]
        · rw [other n] at c; cases c
        · obtain ⟨a, ea⟩ := Classical.not_forall.mp n
          have ea : d = .tuple [a] := Classical.not_not.mp ea
          subst ea
          rw [one] at c
          rw [← e]
          exact c
      subst this
      exact q _ s03
    · refine ⟨v, rfl, v, d, 2, 2, rfl, hv.same s03, tupD d 2 2, rfl, ite2 (fun c2 => ?_) fun c2 => ?_⟩
      · obtain ⟨a0, b0, rfl⟩ : ∃ a0 b0, d = .tuple [a0, b0] := by
          cases d with
          | tuple ds =>
            have c2 : (decide ((2 : Int) ≤ (ds.length : Int)) && decide ((ds.length : Int) ≤ 2)) = true := c2
            obtain ⟨c1, c2⟩ := Bool.and_eq_true_iff.mp c2
            have c1 := of_decide_eq_true c1
            have c2 := of_decide_eq_true c2
            match ds, c1, c2 with
            | [a0, b0], _, _ => exact ⟨a0, b0, rfl⟩
            | [], c1, _ => simp at c1
            | [_], c1, _ => simp at c1
            | _ :: _ :: _ :: _, _, c2 => simp at c2; omega
          | _ => cases c2
        obtain ⟨t, pvs, rfl, et, hpv⟩ : ∃ t pvs, v = .ref t ∧ H t = some (.tup pvs) ∧ DtAll SA H pvs [a0, b0] := by
          cases hv with
          | tup _ e _ r => exact ⟨_, _, rfl, e, r⟩
        obtain ⟨v1, v2, rfl, h1, h2⟩ : ∃ v1 v2, pvs = [v1, v2] ∧ Dt SA H v1 a0 ∧ Dt SA H v2 b0 := by
          cases hpv with
          | cons x1 r => cases r with
            | cons x2 r => cases r; exact ⟨_, _, rfl, x1, x2⟩
        have e : (PyData.eqv a0 (.str ("line" : Str)) && lineD x b0) = b := e
        refine ⟨.ref t, rfl, t, _, 0, v1, rfl, rfl, SqT.of (s03 _ _ et), atI_nat (j := 0) rfl, a0, .str ("line" : Str), (h1.same s03).dp, .str _, shaped_item sd List.mem_cons_self, by decide +kernel, PyData.eqv a0 (.str ("line" : Str)), rfl, ite2 (fun c3 => ?_) fun c3 => ?_⟩
        · rw [c3, Bool.true_and] at e
          refine ⟨.ref h, rfl, .ref p, rfl, .ref t, rfl, t, _, 1, v2, rfl, rfl, SqT.of (s03 _ _ et), atI_nat (j := 1) rfl, h, p, v2, x, pds, b0, _, rfl, hh.same s03, hx, hp.same s03, h2.same s03, shaped_item sd (List.mem_cons_of_mem _ List.mem_cons_self), rfl, fun H4 s4 => ?_⟩
          rw [e]
          exact q _ (s03.trans s4)
        · rw [show PyData.eqv a0 (.str ("line" : Str)) = false by simpa using c3, Bool.false_and] at e
          subst e
          exact q _ s03
      · have : b = false := by
          rw [← e]
          cases d with
          | tuple ds =>
            match ds, c, c2 with
            | [], _, _ => rfl
            | [a], c, _ => rw [one a] at c; exact (by simpa using c : (PyData.eqv (.str ("seals" : Str)) a || PyData.eqv (.str ("none" : Str)) a) = false)
            | [a0, b0], _, c2 => exact absurd (show tupD (.tuple [a0, b0]) 2 2 = true from rfl) c2
            | _ :: _ :: _ :: _, _, _ => rfl
          | _ => rfl
        subst this
        exact q _ s03
end
end Th
namespace Th
open PySem PySem.Spec PyProof.Rows L2
/-! the fault of a thing -/
def wordsK : Nat → List Nat
  | 0 => [0, 1, 2, 7, 5, 5, 6, 8]
  | 1 => [0, 1, 9, 2, 4, 0, 10, 11, 12]
  | 2 => [0, 1, 13, 2, 3, 5]
  | 3 => [0, 1, 0, 5]
  | 4 => [0, 1, 0, 13]
  | 5 => [0, 1, 0, 14]
  | 6 => [0, 1, 0]
  | _ => []
def WD : List Str := ["number", "edition", "day", "last day", "hour", "sum", "cartage", "way", "own wagon", "junction", "over", "load", "seal", "line", "ruling"]
def kindI (s : Str) : Nat := KINDS_L.idxOf s
def runCk (x : HD) (pds : List PyData) : List Nat → List PyData → Nat → Int
  | j :: js, d :: ds, n => if ckI j x pds d = some true then runCk x pds js ds (n + 1) else (n : Int)
  | _, _, _ => -1
def fltD (x : HD) (d : PyData) : Int := match d with
  | .tuple (.str kd :: rest) => if kd ∈ KINDS_L then (if rest.length = (wordsK (kindI kd)).length then runCk x (.str kd :: rest) (wordsK (kindI kd)) rest 1 else 0) else 0
  | _ => 0
def lookS : List (Addr × Sp) → Addr → Option Sp
  | [], _ => none
  | p :: r, f => if f = p.1 then some p.2 else lookS r f
theorem lookS_mem {f : Addr} {sp : Sp} : ∀ {l : List (Addr × Sp)}, lookS l f = some sp → (f, sp) ∈ l
  | [], h => by cases h
  | p :: r, h => by
    unfold lookS at h
    split at h
    · next c => cases h; rw [c]; exact List.mem_cons_self
    · exact List.mem_cons_of_mem _ (lookS_mem h)
theorem lookS_at : ∀ {l : List (Addr × Sp)}, (l.map (·.1)).Nodup → ∀ {p : Addr × Sp}, p ∈ l → lookS l p.1 = some p.2
  | [], _, p, h => by cases h
  | q :: r, nd, p, h => by
    rw [List.map_cons] at nd
    obtain ⟨n1, n2⟩ := List.nodup_cons.mp nd
    unfold lookS
    rcases List.mem_cons.mp h with e | h
    · rw [e, if_pos rfl]
    · rw [if_neg fun z => n1 (by rw [← z]; exact List.mem_map_of_mem (f := (·.1)) h)]
      exact lookS_at n2 h
section
variable {P : Program} {w : World} {K : PySem.W.Frag} {mg : Str → Option Value} {base : Heap} {k : Nat}
def ckL (T : Defs K mg) : List (Addr × Sp) := [(T.a_is_number, sp_ck (ckI 0)), (T.a_is_edition, sp_ck (ckI 1)), (T.a_is_day, sp_ck (ckI 2)), (T.a_is_last_day, sp_ck (ckI 3)), (T.a_is_hour, sp_ck (ckI 4)), (T.a_is_sum, sp_ck (ckI 5)), (T.a_is_cartage, sp_ck (ckI 6)), (T.a_is_way_number, sp_ck (ckI 7)), (T.a_is_own_wagon, sp_ck (ckI 8)), (T.a_is_junction_name, sp_ck (ckI 9)), (T.a_is_over, sp_ck (ckI 10)), (T.a_is_load, sp_ck (ckI 11)), (T.a_is_seal, sp_ck (ckI 12)), (T.a_is_line, sp_ck (ckI 13)), (T.a_is_ruling, sp_ck (ckI 14))]
abbrev ckS (T : Defs K mg) : Addr → Option Sp := lookS (ckL T)
theorem ckS_at (T : Defs K mg) {j : Nat} {p : Addr × Sp} (h : (ckL T)[j]? = some p) : ckS T p.1 = some p.2 := lookS_at (l := ckL T) (show ((ckL T).map (·.1)).Nodup from T.cnd_CHECKS) (List.mem_of_getElem? h)
theorem held_ck (T : Defs K mg) : ∀ f sp, ckS T f = some sp → Held P w K mg base (k + 4) f sp := fun f sp h => by
  have m := lookS_mem h
  unfold ckL at m
  simp only [List.mem_cons, List.not_mem_nil, or_false, Prod.mk.injEq] at m
  rcases m with ⟨rfl, rfl⟩ | ⟨rfl, rfl⟩ | ⟨rfl, rfl⟩ | ⟨rfl, rfl⟩ | ⟨rfl, rfl⟩ | ⟨rfl, rfl⟩ | ⟨rfl, rfl⟩ | ⟨rfl, rfl⟩ | ⟨rfl, rfl⟩ | ⟨rfl, rfl⟩ | ⟨rfl, rfl⟩ | ⟨rfl, rfl⟩ | ⟨rfl, rfl⟩ | ⟨rfl, rfl⟩ | ⟨rfl, rfl⟩
  · exact ⟨_, _, ok_is_number (k := k + 1) T, T.kp_is_number, T.b_is_number⟩
  · exact ⟨_, _, ok_is_edition (k := k + 1) T, T.kp_is_edition, T.b_is_edition⟩
  · exact ⟨_, _, ok_is_day (k := k + 1) T, T.kp_is_day, T.b_is_day⟩
  · exact ⟨_, _, ok_is_last_day (k := k) T, T.kp_is_last_day, T.b_is_last_day⟩
  · exact ⟨_, _, ok_is_hour (k := k + 1) T, T.kp_is_hour, T.b_is_hour⟩
  · exact ⟨_, _, ok_is_sum (k := k + 1) T, T.kp_is_sum, T.b_is_sum⟩
  · exact ⟨_, _, ok_is_cartage (k := k) T, T.kp_is_cartage, T.b_is_cartage⟩
  · exact ⟨_, _, ok_is_way_number (k := k + 1) T, T.kp_is_way_number, T.b_is_way_number⟩
  · exact ⟨_, _, ok_is_own_wagon (k := k + 2) T, T.kp_is_own_wagon, T.b_is_own_wagon⟩
  · exact ⟨_, _, ok_is_junction_name (k := k + 3) T, T.kp_is_junction_name, T.b_is_junction_name⟩
  · exact ⟨_, _, ok_is_over (k := k + 1) T, T.kp_is_over, T.b_is_over⟩
  · exact ⟨_, _, ok_is_load (k := k + 3) T, T.kp_is_load, T.b_is_load⟩
  · exact ⟨_, _, ok_is_seal (k := k + 3) T, T.kp_is_seal, T.b_is_seal⟩
  · exact ⟨_, _, ok_is_line (k := k + 3) T, T.kp_is_line, T.b_is_line⟩
  · exact ⟨_, _, ok_is_ruling (k := k + 2) T, T.kp_is_ruling, T.b_is_ruling⟩
/-- what stands in CHECKS at a word -/
theorem chk_at (T : Defs K mg) (DT : DicT w T) : ∀ j, j < 15 → ∃ z f, WD[j]? = some z ∧ KDct K w T.a_CHECKS z (.ref f) ∧ ckS T f = some (sp_ck (ckI j))
  | 0, _ => ⟨_, _, rfl, DT.d_CHECKS_0, ckS_at T (j := 0) rfl⟩
  | 1, _ => ⟨_, _, rfl, DT.d_CHECKS_1, ckS_at T (j := 1) rfl⟩
  | 2, _ => ⟨_, _, rfl, DT.d_CHECKS_2, ckS_at T (j := 2) rfl⟩
  | 3, _ => ⟨_, _, rfl, DT.d_CHECKS_3, ckS_at T (j := 3) rfl⟩
  | 4, _ => ⟨_, _, rfl, DT.d_CHECKS_4, ckS_at T (j := 4) rfl⟩
  | 5, _ => ⟨_, _, rfl, DT.d_CHECKS_5, ckS_at T (j := 5) rfl⟩
  | 6, _ => ⟨_, _, rfl, DT.d_CHECKS_6, ckS_at T (j := 6) rfl⟩
  | 7, _ => ⟨_, _, rfl, DT.d_CHECKS_7, ckS_at T (j := 7) rfl⟩
  | 8, _ => ⟨_, _, rfl, DT.d_CHECKS_8, ckS_at T (j := 8) rfl⟩
  | 9, _ => ⟨_, _, rfl, DT.d_CHECKS_9, ckS_at T (j := 9) rfl⟩
  | 10, _ => ⟨_, _, rfl, DT.d_CHECKS_10, ckS_at T (j := 10) rfl⟩
  | 11, _ => ⟨_, _, rfl, DT.d_CHECKS_11, ckS_at T (j := 11) rfl⟩
  | 12, _ => ⟨_, _, rfl, DT.d_CHECKS_12, ckS_at T (j := 12) rfl⟩
  | 13, _ => ⟨_, _, rfl, DT.d_CHECKS_13, ckS_at T (j := 13) rfl⟩
  | 14, _ => ⟨_, _, rfl, DT.d_CHECKS_14, ckS_at T (j := 14) rfl⟩
  | n + 15, h => absurd h (by omega)
/-- what stands in THINGS at a kind -/
theorem thg_at (T : Defs K mg) (DT : DicT w T) {kd : Str} (h : kd ∈ KINDS_L)   : kindI kd < 7 ∧ ∃ t, KDct K w T.a_THINGS kd (.ref t) ∧ ∀ H : Hp, SqT K H t (((wordsK (kindI kd)).map fun j => WD.getD j ("" : Str)).map V.str) := by
  unfold KINDS_L at h
  simp only [List.mem_cons, List.not_mem_nil, or_false] at h
  rcases h with rfl | rfl | rfl | rfl | rfl | rfl | rfl
  · exact ⟨by decide +kernel, _, DT.d_THINGS_0, fun H => by rw [show kindI _ = 0 by decide +kernel]; exact DicK.sqT T.k_THINGS_0 T.u_THINGS_0 (by decide)⟩
  · exact ⟨by decide +kernel, _, DT.d_THINGS_1, fun H => by rw [show kindI _ = 1 by decide +kernel]; exact DicK.sqT T.k_THINGS_1 T.u_THINGS_1 (by decide)⟩
  · exact ⟨by decide +kernel, _, DT.d_THINGS_2, fun H => by rw [show kindI _ = 2 by decide +kernel]; exact DicK.sqT T.k_THINGS_2 T.u_THINGS_2 (by decide)⟩
  · exact ⟨by decide +kernel, _, DT.d_THINGS_3, fun H => by rw [show kindI _ = 3 by decide +kernel]; exact DicK.sqT T.k_THINGS_3 T.u_THINGS_3 (by decide)⟩
  · exact ⟨by decide +kernel, _, DT.d_THINGS_4, fun H => by rw [show kindI _ = 4 by decide +kernel]; exact DicK.sqT T.k_THINGS_4 T.u_THINGS_4 (by decide)⟩
  · exact ⟨by decide +kernel, _, DT.d_THINGS_5, fun H => by rw [show kindI _ = 5 by decide +kernel]; exact DicK.sqT T.k_THINGS_5 T.u_THINGS_5 (by decide)⟩
  · exact ⟨by decide +kernel, _, DT.d_THINGS_6, fun H => by rw [show kindI _ = 6 by decide +kernel]; exact DicK.sqT T.k_THINGS_6 T.u_THINGS_6 (by decide)⟩
end
end Th
namespace Th
open PySem PySem.Spec PyProof.Rows L2
theorem runCk_at {x : HD} {pds : List PyData} {j : Nat} {d : PyData} : ∀ {js : List Nat} {ds : List PyData} {i : Nat} (n : Nat), (∀ m, m < i → ∀ j d, js[m]? = some j → ds[m]? = some d → ckI j x pds d = some true) → js[i]? = some j → ds[i]? = some d → ckI j x pds d ≠ some true → runCk x pds js ds n = ((n + i : Nat) : Int)
  | [], _, _, _, _, h, _, _ => by simp at h
  | _ :: _, [], _, _, _, _, h, _ => by simp at h
  | j0 :: js, d0 :: ds, 0, n, _, h1, h2, h3 => by
    have h1 : j0 = j := by simpa using h1
    have h2 : d0 = d := by simpa using h2
    subst h1 h2
    unfold runCk
    rw [if_neg h3]
    rfl
  | j0 :: js, d0 :: ds, i + 1, n, hp, h1, h2, h3 => by
    unfold runCk
    rw [if_pos (hp 0 (by omega) j0 d0 rfl rfl), runCk_at (i := i) (n + 1) (fun m hm j d a b => hp (m + 1) (by omega) j d a b) (by simpa using h1) (by simpa using h2) h3]
    congr 1
    omega
theorem runCk_all {x : HD} {pds : List PyData} : ∀ {js : List Nat} {ds : List PyData} (n : Nat), (∀ (m j : Nat) (d : PyData), js[m]? = some j → ds[m]? = some d → ckI j x pds d = some true) → runCk x pds js ds n = -1
  | [], _, _, _ => rfl
  | _ :: _, [], _, _ => rfl
  | j0 :: js, d0 :: ds, n, hp => by
    unfold runCk
    rw [if_pos (hp 0 j0 d0 rfl rfl)]
    exact runCk_all (n + 1) fun m j d a b => hp (m + 1) j d a b
theorem bet_int {d : PyData} {lo hi : Int} (h : betD d lo hi = true) : ∃ i, d = .int i := by
  cases d with
  | int i => exact ⟨i, rfl⟩
  | _ => cases h
theorem strIn_str {ss : List Str} {d : PyData} (h : strIn ss d = true) : ∃ s, d = .str s ∧ s ∈ ss := by
  unfold strIn at h
  obtain ⟨z, hz, e⟩ := List.any_eq_true.mp h
  obtain ⟨s, hs, rfl⟩ := List.mem_map.mp hz
  cases d with
  | str t =>
    have e : (s == t) = true := by simpa [PyData.eqv] using e
    exact ⟨t, rfl, by rw [← beq_iff_eq.mp e]; exact hs⟩
  | _ => simp [PyData.eqv] at e
theorem ck_some {x : HD} {kd : Str} {rest : List PyData} {q i j : Nat} {d : PyData} (hq : q < 7) (hj : (wordsK q)[i]? = some j) (hl : rest.length = (wordsK q).length) (prev : ∀ m, m < i → ∀ j d, (wordsK q)[m]? = some j → rest[m]? = some d → ckI j x (.str kd :: rest) d = some true) : ∃ b, ckI j x (.str kd :: rest) d = some b := by
  have hi : i < 9 := by
    have h1 := (List.getElem?_eq_some_iff.mp hj).1
    have h2 := (by decide : ∀ q < 7, (wordsK q).length ≤ 9) q hq
    omega
  have j15 : j < 15 := (by decide : ∀ q < 7, ∀ j ∈ wordsK q, j < 15) q hq j (List.mem_of_getElem? hj)
  by_cases c3 : j = 3
  · subst c3
    obtain ⟨rfl, rfl⟩ := (by decide : ∀ q < 7, ∀ i < 9, (wordsK q)[i]? = some 3 → q = 2 ∧ i = 4) q hq i hi hj
    have l : 3 < rest.length := by rw [hl]; decide
    have p := prev 3 (by omega) 2 rest[3] rfl (List.getElem?_eq_getElem l)
    obtain ⟨f, ef⟩ := bet_int (Option.some.inj (show some (betD rest[3] 1 420) = some true from p))
    have e4 : (PyData.str kd :: rest)[4]? = some (.int f) := by
      rw [List.getElem?_cons_succ, List.getElem?_eq_getElem l, ef]
    show ∃ b, lastD (.str kd :: rest) d = some b
    cases h : lastD (.str kd :: rest) d with
    | some b => exact ⟨b, rfl⟩
    | none =>
      unfold lastD at h
      rw [e4] at h
      cases h
  · by_cases c10 : j = 10
    · subst c10
      obtain ⟨rfl, rfl⟩ := (by decide : ∀ q < 7, ∀ i < 9, (wordsK q)[i]? = some 10 → q = 1 ∧ i = 6) q hq i hi hj
      have l : 2 < rest.length := by rw [hl]; decide
      have p := prev 2 (by omega) 9 rest[2] rfl (List.getElem?_eq_getElem l)
      obtain ⟨s, es, hs⟩ := strIn_str (Option.some.inj (show some (strIn (x.jns.map fun j => SX.S j.1) rest[2]) = some true from p))
      have e3 : (PyData.str kd :: rest)[3]? = some (.str s) := by
        rw [List.getElem?_cons_succ, List.getElem?_eq_getElem l, es]
      obtain ⟨jn, hjn, ej⟩ := List.mem_map.mp hs
      have f : ∃ j', x.jns.find? (fun j => decide (SX.S j.1 = s)) = some j' := by
        cases f : x.jns.find? (fun j => decide (SX.S j.1 = s)) with
        | none => exact absurd (decide_eq_true ej) (List.find?_eq_none.mp f jn hjn)
        | some j' => exact ⟨j', rfl⟩
      obtain ⟨j', f⟩ := f
      show ∃ b, overD x (.str kd :: rest) d = some b
      cases h : overD x (.str kd :: rest) d with
      | some b => exact ⟨b, rfl⟩
      | none =>
        unfold overD at h
        rw [e3] at h
        have h : ((x.jns.find? fun j => decide (SX.S j.1 = s)).map fun j => strIn (j.2.map SX.S) d) = none := h
        rw [f] at h
        cases h
    · match j, j15, c3, c10 with
      | 0, _, _, _ => exact ⟨_, rfl⟩
      | 1, _, _, _ => exact ⟨_, rfl⟩
      | 2, _, _, _ => exact ⟨_, rfl⟩
      | 3, _, c, _ => exact absurd rfl c
      | 4, _, _, _ => exact ⟨_, rfl⟩
      | 5, _, _, _ => exact ⟨_, rfl⟩
      | 6, _, _, _ => exact ⟨_, rfl⟩
      | 7, _, _, _ => exact ⟨_, rfl⟩
      | 8, _, _, _ => exact ⟨_, rfl⟩
      | 9, _, _, _ => exact ⟨_, rfl⟩
      | 10, _, _, c => exact absurd rfl c
      | 11, _, _, _ => exact ⟨_, rfl⟩
      | 12, _, _, _ => exact ⟨_, rfl⟩
      | 13, _, _, _ => exact ⟨_, rfl⟩
      | 14, _, _, _ => exact ⟨_, rfl⟩
      | n + 15, h, _, _ => omega
section
variable {P : Program} {w : World} {K : PySem.W.Frag} {mg : Str → Option Value} {base : Heap} {k : Nat}
def sp_fault : Sp := fun vs H Q _ => ∃ (r wl gl : Addr) (v : V) (x : HD) (d : PyData) (ws : List V) (ga : List Addr), vs = [.ref r, .ref wl, .ref gl, v] ∧ NetAt H r x.ls x.sts x.jns x.tis ∧ H wl = some (.lst ws) ∧ ws.length = x.nw ∧ H gl = some (.lst (ga.map V.ref)) ∧ Paired (WgT H) ga x.wags ∧ HsOk x ∧ Dt SA H v d ∧ SeqAt.shaped d = true ∧
  ∀ H', Same H H' → Q (.int (fltD x d)) H'
set_option maxHeartbeats 8000000 in
theorem ok_fault (T : Defs K mg) (DT : DicT w T) : FnOk P w K mg base CX0 (k + 5) T.a_fault T.d_fault ["net", "ways", "wagons", "thing"] sp_fault := by
  have G_check : ∀ f sp, ckS T f = some sp → Held P w K mg base (k + 4) f sp := held_ck (k := k) T
  refine T.F_fault.ok sc_fault (fun vs H Q E h => ?_) (fun cdv A outer s H vs Q E hr h => ?_)
  · obtain ⟨r, wl, gl, v, x, d, ws, ga, rfl, _⟩ := h
    rfl
  · obtain ⟨r, wl, gl, v, x, d, ws, ga, rfl, hnet, ewl, hnw, egl, hga, hx, hv, sd, q⟩ := h
    refine ⟨_, PSs.nox
(pss_cons (ps_if (PW.pt (pw_or (pt_not (pt_val (pe_callB call_isi (by rfl) T.z_isinstance (by decide +kernel) (pa_cons (pv 3) (pa_cons (pe_bltn (v := .ty "tuple") (by rfl) T.z_tuple (by decide +kernel) rfl) pa_nil))))) (pw_or (pt_not (pt_truth (pv 3) (by intro _; rfl))) (pw_or1 (pt_cmpR (InT.op_notInT (un65 hr)) (pe_ix (r := rIxT K) ix_tup (pv 3) (pe_int) (fun _ _ => rfl)) (pe_glob (v := .ref T.a_KINDS) (by rfl) T.g_KINDS rfl) (by rfl))))))
      (pss_one (ps_ret (pe_int)))
      pss_nil)
    (pss_cons (ps_set (i := 4) sc_fault.nd rfl (.inl rfl) (pe_ix (r := rIxD K w) ix_kdict (pe_glob (v := .ref T.a_THINGS) (by rfl) T.g_THINGS rfl) (pe_ix (r := rIxT K) ix_tup (pv 3) (pe_int) (fun _ _ => rfl)) (fun _ _ => rfl)))
    (pss_cons (ps_if (pt_cmpR op_ne (pe_callB (r := rLenS K) call_lenS (by rfl) T.z_len (by decide +kernel) (pa_cons (pv 3) pa_nil)) (pe_op op_add (pe_callB (r := rLenS K) call_lenS (by rfl) T.z_len (by decide +kernel) (pa_cons (pv 4) pa_nil)) (pe_int)) (nomark _))
      (pss_one (ps_ret (pe_int)))
      pss_nil)
    (pss_cons (ps_set (i := 5) sc_fault.nd rfl (.inl rfl) (pe_tup (pa_cons (pv 0) (pa_cons (pv 1) (pa_cons (pv 2) pa_nil)))))
    (pss_cons (ps_for PassesOwn.never rfl (Et.pi_enumT (by rfl) T.z_enumerate (pv 4) (by decide) (by decide)) (pg_tup rfl (pgs_cons (pg_name (i := 6) sc_fault.nd rfl (.inl rfl)) (pgs_cons (pg_name (i := 7) sc_fault.nd rfl (.inl rfl)) pgs_nil)))
      (pss_cons (ps_set (i := 8) sc_fault.nd rfl (.inl rfl) (pe_ix (r := rIxD K w) ix_kdict (pe_glob (v := .ref T.a_CHECKS) (by rfl) T.g_CHECKS rfl) (pv 7) (fun _ _ => rfl)))
      (pss_one (ps_if (pt_not (pt_truth (pe_callA (i := 8) G_check hr rfl (.inl rfl) (pa_cons (pv 5) (pa_cons (pv 3) (pa_cons (pe_ix (r := rIxT K) ix_tup (pv 3) (pv 6) (fun _ _ => rfl)) pa_nil)))) (by intro _; rfl)))
        (pss_one (ps_ret (pv 6)))
        pss_nil))))
    (pss_one (ps_ret (pe_un un_neg (pe_int)))))))))
      , ?_⟩
    refine ⟨v, rfl, v, .ty "tuple", _, _, _, rfl, .ty _, hv.ty, kit_T d, isiT d, rfl, ?_⟩
    have ret0 : fltD x d = 0 → Q (.int 0) H := fun e => by rw [← e]; exact q _ fun _ _ z => z
    cases d with
    | none => exact iteT (ret0 rfl)
    | bool _ => exact iteT (ret0 rfl)
    | int _ => exact iteT (ret0 rfl)
    | str _ => exact iteT (ret0 rfl)
    | list _ => exact iteT (ret0 rfl)
    | dict _ => exact iteT (ret0 rfl)
    | tuple ds =>
      obtain ⟨t, pvs, rfl, et, hpv⟩ : ∃ t pvs, v = .ref t ∧ H t = some (.tup pvs) ∧ DtAll SA H pvs ds := by
        cases hv with
        | tup _ e _ r => exact ⟨_, _, rfl, e, r⟩
      refine iteF ⟨.ref t, rfl, !pvs.isEmpty, .inr (.inl ⟨pvs, SqT.of et, rfl⟩), ?_⟩
      cases hpv with
      | nil => exact iteT (ret0 rfl)
      | cons h0 hr' =>
        rename_i v0 pvs d0 rest
        have kSh : SeqAt.shaped (.tuple (KINDS_L.map PyData.str)) = true := strs_tup (by decide +kernel)
        refine iteF ⟨.ref t, rfl, t, _, 0, v0, rfl, rfl, SqT.of et, atI_nat (j := 0) rfl, d0, KINDS_L.map PyData.str, h0.dp, .tup (DicK.sqT T.k_KINDS T.u_KINDS (by decide)) (dpAll_strs _), shaped_item sd List.mem_cons_self, kSh, _, rfl, ?_⟩
        cases c : strIn KINDS_L d0 with
        | false =>
          rw [show (KINDS_L.map PyData.str).any (fun z => z.eqv d0) = false from c]
          refine iteT (ret0 ?_)
          cases d0 with
          | str kd =>
            have : kd ∉ KINDS_L := fun z => by
              have : strIn KINDS_L (.str kd) = true := List.any_eq_true.mpr ⟨.str kd, List.mem_map_of_mem (f := PyData.str) z, by simp [PyData.eqv]⟩
              rw [this] at c
              cases c
            show (if kd ∈ KINDS_L then _ else _) = _
            rw [if_neg this]
          | _ => rfl
        | true =>
          rw [show (KINDS_L.map PyData.str).any (fun z => z.eqv d0) = true from c]
          obtain ⟨kd, rfl, hkd⟩ := strIn_str c
          refine iteF ?_
          obtain ⟨q7, tw, kdc, hsq⟩ := thg_at T DT hkd
          cases h0
          have rl := hr'.len
          have fe : fltD x (.tuple (.str kd :: rest)) = if rest.length = (wordsK (kindI kd)).length then runCk x (.str kd :: rest) (wordsK (kindI kd)) rest 1 else 0 := by
            show (if kd ∈ KINDS_L then _ else _) = _
            rw [if_pos hkd]
          generalize kindI kd = qq at q7 hsq fe
          refine ⟨.ref t, rfl, t, _, 0, .str kd, rfl, rfl, SqT.of et, atI_nat (j := 0) rfl, T.a_THINGS, kd, .ref tw, rfl, rfl, kdc, ?_⟩
          refine ⟨.ref t, rfl, t, _, rfl, .inr (SqT.of et), .ref tw, rfl, tw, _, rfl, .inr (hsq H), _, 1, rfl, rfl, rfl, _, rfl, ?_⟩
          have wl_ : (((wordsK qq).map fun j => WD.getD j ("" : Str)).map V.str).length = (wordsK qq).length := by rw [List.length_map, List.length_map]
          refine ite2 (fun c => ?_) fun c => ?_
          · refine ret0 ?_
            rw [fe, if_neg fun z => ?_]
            rw [show (V.str kd :: pvs).length = (((wordsK qq).map fun j => WD.getD j ("" : Str)).map V.str).length + 1 by rw [wl_, List.length_cons, rl, z]] at c
            have c2 : (!decide (V.int (((((wordsK qq).map fun j => WD.getD j ("" : Str)).map V.str).length + 1 : Nat) : Int) = V.int (((((wordsK qq).map fun j => WD.getD j ("" : Str)).map V.str).length : Int) + 1))) = true := c
            rw [decide_eq_true (by rw [Int.natCast_add]; rfl)] at c2
            cases c2
          · have hl : rest.length = (wordsK qq).length := by
              have c2 : (!decide (V.int ((V.str kd :: pvs).length : Int) = V.int (((((wordsK qq).map fun j => WD.getD j ("" : Str)).map V.str).length : Int) + 1))) = false := by simpa using c
              have c3 : V.int ((V.str kd :: pvs).length : Int) = V.int (((((wordsK qq).map fun j => WD.getD j ("" : Str)).map V.str).length : Int) + 1) := by simpa using c2
              injection c3 with c3
              rw [wl_, List.length_cons, rl] at c3
              omega
            rw [if_pos hl] at fe
            refine ⟨.ref r, rfl, .ref wl, rfl, .ref gl, rfl, by show 3 ≤ sizeLine; decide, fun h nh => ?_⟩
            have s1 := same_upd (o := .tup [V.ref r, .ref wl, .ref gl]) nh
            have hh : HsAt (upd H h (.tup [V.ref r, .ref wl, .ref gl])) h x := ⟨r, wl, gl, ws, ga, upd_same, hnet.tk (.of s1), s1 _ _ ewl, hnw, s1 _ _ egl, paired_imp hga fun _ _ _ z => s1 _ _ z⟩
            generalize upd H h (.tup [V.ref r, .ref wl, .ref gl]) = H1 at s1 hh ⊢
            refine ⟨.ref tw, rfl, tw, _, rfl, hsq H1, ?_⟩
            refine for_it (Et.walk_enumT (xs := ((wordsK qq).map fun j => WD.getD j ("" : Str)).map V.str)) (fun i σ Hx => ∃ (y6 y7 y8 : Option V), σ = [some (.ref r), some (.ref wl), some (.ref gl), some (.ref t), some (.ref tw), some (.ref h), y6, y7, y8] ∧ Same H1 Hx ∧ ∀ m, m < i → ∀ j d, (wordsK qq)[m]? = some j → rest[m]? = some d → ckI j x (.str kd :: rest) d = some true)
              ⟨none, none, none, rfl, fun _ _ e => e, fun m hm => by omega⟩ (fun i σ Hx _ hp => hsq Hx) (fun i v σ Hx₀ Hx hi hp' yy => ?_) (fun σ Hx hp' => ?_)
            · obtain ⟨U, xv, yv, rfl, nU, rfl, ex, ey⟩ := yy
              have ex : xv = .int (1 + (i : Int)) := (Option.some.inj ex).symm
              subst ex
              obtain ⟨y6, y7, y8, rfl, sx, prev⟩ := hp'
              rw [wl_] at hi
              have ei := List.getElem?_eq_getElem hi
              generalize (wordsK qq)[i] = j at ei
              have j15 : j < 15 := (by decide : ∀ q < 7, ∀ j ∈ wordsK q, j < 15) qq q7 j (List.mem_of_getElem? ei)
              obtain ⟨z, f, ez, kdc2, eS⟩ := chk_at T DT j j15
              have ey : (((wordsK qq).map fun j => WD.getD j ("" : Str)).map V.str)[i]? = some yv := ey
              have ey : yv = .str z := by
                rw [List.getElem?_map, List.getElem?_map, ei] at ey
                have ey := Option.some.inj ey
                rw [← ey]
                show V.str (WD.getD j ("" : Str)) = _
                rw [List.getD_eq_getElem?_getD, ez]
                rfl
              subst ey
              have sU := same_upd (o := .tup [V.int (1 + (i : Int)), .str z]) nU
              have sxU := sx.trans sU
              have ri : i < rest.length := by rw [hl]; exact hi
              have er := List.getElem?_eq_getElem ri
              generalize rest[i] = d at er
              obtain ⟨v1, ev1, hv1⟩ : ∃ v1, pvs[i]? = some v1 ∧ Dt SA H v1 d := by
                have pi : i < pvs.length := by rw [rl]; exact ri
                obtain ⟨d', e', h'⟩ := hr'.get (List.getElem?_eq_getElem pi)
                rw [er] at e'
                cases e'
                exact ⟨_, List.getElem?_eq_getElem pi, h'⟩
              obtain ⟨b, eb⟩ := ck_some (d := d) q7 ei hl prev
              have s0U := s1.trans sxU
              refine ⟨U, _, rfl, SqT.of upd_same, rfl, _, _, rfl, _, [], rfl, rfl, ?_⟩
              generalize upd Hx₀ U (.tup [V.int (1 + (i : Int)), .str z]) = H2 at sU sxU s0U ⊢
              refine ⟨.str z, rfl, T.a_CHECKS, z, .ref f, rfl, rfl, kdc2, ?_⟩
              refine ⟨f, _, rfl, eS, .ref h, rfl, .ref t, rfl, .ref t, rfl, .int (1 + (i : Int)), rfl, t, _, 1 + (i : Int), v1, rfl, rfl, SqT.of (s0U _ _ et), ?_, h, t, v1, x, .str kd :: rest, d, b, rfl, hh.same sxU, hx, hv.same s0U, hv1.same s0U, shaped_item sd (List.mem_cons_of_mem _ (List.mem_of_getElem? er)), eb, fun H3 s3 => ⟨b, rfl, ?_⟩⟩
              · rw [show (1 + (i : Int)) = ((i + 1 : Nat) : Int) by omega]
                exact atI_nat (by rw [List.getElem?_cons_succ]; exact ev1)
              · cases b with
                | true =>
                  refine iteF ⟨_, _, _, rfl, sxU.trans s3, fun m hm j' d' a1 a2 => ?_⟩
                  by_cases c4 : m = i
                  · subst c4
                    rw [ei] at a1
                    rw [er] at a2
                    cases a1
                    cases a2
                    exact eb
                  · exact prev m (by omega) j' d' a1 a2
                | false =>
                  refine iteT ?_
                  rw [runCk_at (n := 1) prev ei er (by rw [eb]; simp)] at fe
                  have := q _ (s0U.trans s3)
                  rw [fe, Int.natCast_add] at this
                  exact ⟨.int (1 + (i : Int)), rfl, this⟩
            · obtain ⟨y6, y7, y8, rfl, sx, prev⟩ := hp'
              rw [wl_] at prev
              rw [runCk_all 1 fun m j d a b => prev m (List.getElem?_eq_some_iff.mp a).1 j d a b] at fe
              have := q _ (s1.trans sx)
              rw [fe] at this
              exact ⟨1, rfl, this⟩
end
end Th
namespace Th
open PySem PySem.Spec PyProof.Rows L2
/-! the law's own faults: whole numbers, texts among some -/
section
variable {P : Program} {w : World} {K : PySem.W.Frag} {mg : Str → Option Value} {base : Heap} {k : Nat}
theorem ok_l_whole (T : Defs K mg) : FnOk P w K mg base CX0 (k + 1) T.a_l_whole T.d_l_whole ["_law_thing", "_law_low", "_law_high"] sp_is_between := by
  refine T.F_l_whole.ok sc_l_whole (fun vs H Q E h => ?_) (fun cdv A outer s H vs Q E hr h => ?_)
  · obtain ⟨v, d, lo, hi, rfl, _⟩ := h
    rfl
  · obtain ⟨v, d, lo, hi, rfl, hv, q⟩ := h
    refine ⟨_, PSs.nox
(pss_one (ps_ret (pe_and (pe_callB call_isi (by rfl) T.z_isinstance (by decide +kernel) (pa_cons (pv 0) (pa_cons (pe_bltn (v := .ty "int") (by rfl) T.z_int (by decide +kernel) rfl) pa_nil))) (pe_and (pe_not (pe_callB call_isi (by rfl) T.z_isinstance (by decide +kernel) (pa_cons (pv 0) (pa_cons (pe_bltn (v := .ty "bool") (by rfl) T.z_bool (by decide +kernel) rfl) pa_nil)))) (pe_one (pe_chain op_le op_le (pv 1) (pv 0) (pv 2)))))))
      , ?_⟩
    refine ⟨v, rfl, v, .ty "int", _, _, _, rfl, .ty _, hv.ty, kit_I d, isiI d, rfl, ?_⟩
    cases d with
    | int i =>
      refine iteT ⟨v, rfl, v, .ty "bool", _, _, _, rfl, .ty _, Dt.ty (K := K) hv, kit_B (K := K) (.int i), false, rfl, true, rfl, iteT ?_⟩
      cases hv
      refine ⟨.int lo, rfl, .int i, rfl, lo, i, rfl, rfl, decide (lo ≤ i), rfl, ite2 (fun c => ?_) fun c => ?_⟩
      · refine ⟨.int hi, rfl, i, hi, rfl, rfl, ?_⟩
        have e : betD (.int i) lo hi = decide (i ≤ hi) := by show (decide (lo ≤ i) && decide (i ≤ hi)) = _; rw [c, Bool.true_and]
        rw [e] at q
        exact q
      · have e : betD (.int i) lo hi = false := by show (decide (lo ≤ i) && decide (i ≤ hi)) = _; rw [show decide (lo ≤ i) = false by simpa using c, Bool.false_and]
        rw [e] at q
        exact q
    | bool b => exact iteT ⟨v, rfl, v, .ty "bool", _, _, _, rfl, .ty _, Dt.ty (K := K) hv, kit_B (K := K) (.bool b), true, rfl, false, rfl, iteF q⟩
    | none => exact iteF q
    | str _ => exact iteF q
    | list _ => exact iteF q
    | tuple _ => exact iteF q
    | dict _ => exact iteF q
/-- some texts: a list, a tuple or a dict of them -/
def sp_l_in (K : PySem.W.Frag) : Sp := fun vs H Q _ => ∃ (v : V) (d : PyData) (l : Addr) (ss : List Str), vs = [v, .ref l] ∧ ((SqL K H l (ss.map V.str) ∨ SqT K H l (ss.map V.str)) ∨ ∃ kvs : List (Key × V), Rd H l (.dK kvs) ∧ ss.map V.str = kvs.map fun kv => kV kv.1) ∧ Dt SA H v d ∧ SeqAt.shaped d = true ∧ (∀ s ∈ ss, PyData.strOk s = true) ∧ ∀ H', Same H H' → Q (.bl (strIn ss d)) H'
set_option maxHeartbeats 8000000 in
theorem ok_l_in (T : Defs K mg) : FnOk P w K mg base CX0 (k + 1) T.a_l_in T.d_l_in ["_law_thing", "_law_some"] (sp_l_in K) := by
  refine T.F_l_in.ok sc_l_in (fun vs H Q E h => ?_) (fun cdv A outer s H vs Q E hr h => ?_)
  · obtain ⟨v, d, l, ss, rfl, _⟩ := h
    rfl
  · obtain ⟨v, d, l, ss, rfl, hl, hv, sd, hn, q⟩ := h
    refine ⟨_, PSs.nox
(pss_one (ps_ret (pe_and (pe_callB call_isi (by rfl) T.z_isinstance (by decide +kernel) (pa_cons (pv 0) (pa_cons (pe_bltn (v := .ty "str") (by rfl) T.z_str (by decide +kernel) rfl) pa_nil))) (pe_one (pe_cmpR (op_inD (un65 hr)) (pv 0) (pe_callTy (InT.call_listA rfl) (by rfl) T.z_list (by decide +kernel) (pa_cons (pv 1) pa_nil)) (by rfl))))))
      , ?_⟩
    refine ⟨v, rfl, v, .ty "str", _, _, _, rfl, .ty _, hv.ty, kit_S d, isiS d, rfl, ?_⟩
    have no : (∀ s, d ≠ .str s) → Q (.bl false) H := fun n => by
      have e : strIn ss d = false := by
        cases c : strIn ss d with
        | false => rfl
        | true => obtain ⟨s, e, _⟩ := strIn_str c; exact absurd e (n s)
      rw [← e]
      exact q _ fun _ _ z => z
    cases d with
    | str z =>
      cases hv
      refine iteT ⟨.str z, rfl, .ref l, rfl, l, ss.map V.str, rfl, hl, fun L nL => ?_⟩
      have sL := same_upd (o := .lst (ss.map V.str)) nL
      exact ⟨.str z, ss.map PyData.str, .str _, .lst (SqL.of upd_same) (dpAll_strs ss), sd, strs_lst hn, q _ sL⟩
    | int _ => exact iteF (no fun _ z => by cases z)
    | bool b => exact iteF (no fun _ z => by cases z)
    | none => exact iteF (no fun _ z => by cases z)
    | list _ => exact iteF (no fun _ z => by cases z)
    | tuple _ => exact iteF (no fun _ z => by cases z)
    | dict _ => exact iteF (no fun _ z => by cases z)
end
end Th
namespace Th
open PySem PySem.Spec PyProof.Rows L2
/-! the law's own faults, kind by kind -/
theorem idx_true (bs : List Bool) : (true :: bs).idxOf false = bs.idxOf false + 1 := by
  rw [List.idxOf_cons]
  rfl
def fstF (bs : List Bool) : Int := if false ∈ bs then 3 + ((bs.idxOf false : Nat) : Int) else -1
theorem run_bools {x : HD} {pds : List PyData} : ∀ {js : List Nat} {ds : List PyData} {bs : List Bool} (n : Nat), js.length = bs.length → ds.length = bs.length → (∀ m : Nat, (∀ m' : Nat, m' < m → bs[m']? = some true) → ∀ (j : Nat) (d : PyData) (b : Bool), js[m]? = some j → ds[m]? = some d → bs[m]? = some b → ckI j x pds d = some b) → runCk x pds js ds n = if false ∈ bs then ((n + bs.idxOf false : Nat) : Int) else -1
  | [], [], [], _, _, _, _ => rfl
  | j :: js, d :: ds, b :: bs, n, h1, h2, h => by
    have h0 := h 0 (fun m' z => absurd z (Nat.not_lt_zero _)) j d b rfl rfl rfl
    unfold runCk
    rw [h0]
    cases b with
    | false =>
      rw [if_neg (by decide), if_pos List.mem_cons_self]
      rfl
    | true =>
      rw [if_pos rfl, run_bools (bs := bs) (n + 1) (by simpa using h1) (by simpa using h2) fun m hm j d b a1 a2 a3 => h (m + 1) (fun m' hm' => by
        cases m' with
        | zero => rfl
        | succ m' => exact hm m' (by omega)) j d b a1 a2 a3]
      by_cases c : false ∈ bs
      · rw [if_pos c, if_pos (List.mem_cons_of_mem _ c), idx_true]
        congr 1
        omega
      · rw [if_neg c, if_neg fun z => c ((List.mem_cons.mp z).elim (fun e => by cases e) id)]
  | [], _ :: _, _, _, h1, h2, _ => by simp at h1; rw [← h1] at h2; cases h2
  | _ :: _, [], _, _, h1, h2, _ => by simp at h2; rw [← h2] at h1; cases h1
  | [], [], _ :: _, _, h1, _, _ => by cases h1
  | _ :: _, _ :: _, [], _, h1, _, _ => by cases h1
theorem fst_run {x : HD} {pds : List PyData} {js : List Nat} {ds : List PyData} {bs : List Bool} (h1 : js.length = bs.length) (h2 : ds.length = bs.length) (h : ∀ m : Nat, (∀ m' : Nat, m' < m → bs[m']? = some true) → ∀ (j : Nat) (d : PyData) (b : Bool), js[m]? = some j → ds[m]? = some d → bs[m]? = some b → ckI j x pds d = some b) : fstF bs = runCk x pds js ds 3 := by
  rw [run_bools 3 h1 h2 h]
  unfold fstF
  split
  · rw [Int.natCast_add]; rfl
  · rfl
theorem wag_eq (d : PyData) (gs : List (Int × Nm)) : (gs.map fun g => betD d g.1 g.1).any id = (wholeD d && (gs.map fun g => PyData.int g.1).any fun z => z.eqv d) := by
  cases d with
  | int i =>
    show _ = (true && _)
    rw [Bool.true_and]
    induction gs with
    | nil => rfl
    | cons g gs ih =>
      rw [List.map_cons, List.map_cons, List.any_cons, List.any_cons, ih]
      congr 1
      show (decide (g.1 ≤ i) && decide (i ≤ g.1)) = (g.1 == i)
      rw [Bool.eq_iff_iff, Bool.and_eq_true, decide_eq_true_eq, decide_eq_true_eq, beq_iff_eq]
      omega
  | _ =>
    show _ = (false && _)
    rw [Bool.false_and]
    rw [List.any_eq_false]
    intro z hz
    obtain ⟨g, _, e⟩ := List.mem_map.mp hz
    subst e
    exact (by decide : ¬ (id false) = true)
theorem in_false : ∀ bs : List Bool, inV (.bl false) (bs.map V.bl) = decide (false ∈ bs)
  | [] => rfl
  | b :: bs => by
    show (eqV (.bl b) (.bl false) || inV (.bl false) (bs.map V.bl)) = _
    rw [in_false bs]
    cases b with
    | false => rw [show eqV (.bl false) (.bl false) = true from by decide, Bool.true_or, decide_eq_true List.mem_cons_self]
    | true =>
      rw [show eqV (.bl true) (.bl false) = false from rfl, Bool.false_or]
      by_cases c : false ∈ bs
      · rw [decide_eq_true c, decide_eq_true (List.mem_cons_of_mem _ c)]
      · rw [decide_eq_false c, decide_eq_false fun z => c ((List.mem_cons.mp z).elim (fun e => by cases e) id)]
theorem all_flatB : ∀ bs : List Bool, (bs.map V.bl).all flatV = true
  | [] => rfl
  | _ :: bs => all_flatB bs
theorem idx_get {bs : List Bool} (h : false ∈ bs) : bs[bs.idxOf false]? = some false := by
  rw [List.getElem?_eq_getElem (List.idxOf_lt_length_of_mem h)]
  congr 1
  exact List.getElem_idxOf _
theorem idx_lt : ∀ {bs : List Bool} {m : Nat} {b : Bool}, m < bs.idxOf false → bs[m]? = some b → b = true
  | [], _, _, _, h => by cases h
  | c :: bs, m, b, h1, h2 => by
    cases c with
    | false => rw [List.idxOf_cons_self] at h1; omega
    | true =>
      rw [idx_true] at h1
      cases m with
      | zero => simpa using h2.symm
      | succ m => exact idx_lt (bs := bs) (m := m) (by omega) (by simpa using h2)
theorem look_end {K : PySem.W.Frag} {σ : L2.St} {n : Nat} {L : Addr} {bs : List Bool} {H : Hp} {QQ : VK} (hs : σ[n]? = some (some (.ref L))) (e : H L = some (.lst (bs.map V.bl))) (q : QQ (.int (fstF bs)) H) :
    tIf (tTest (tOp (rIn K false) (tC (V.bl false)) (tVar n))) (tOp (rI0 fun i j => V.int (i + j)) (tC (V.int 3)) (tBM K "list" (rIndex K) (tVar n) (tCons (tC (V.bl false)) tNil))) (tUn (rU fun i => V.int (-i)) (tC (V.int 1))) σ H QQ := by
  refine ⟨.ref L, hs, L, _, rfl, .inl (SqL.of e), rfl, all_flatB bs, inV (.bl false) (bs.map V.bl), rfl, ?_⟩
  rw [in_false]
  by_cases c : false ∈ bs
  · rw [decide_eq_true c]
    unfold fstF at q
    rw [if_pos c] at q
    refine iteT ⟨.ref L, hs, .inl ⟨rfl, _, SqL.of e⟩, L, _, _, bs.idxOf false, .bl false, rfl, rfl, SqL.of e, rfl, all_flatB bs, by rw [List.getElem?_map, idx_get c]; rfl, by decide, fun m z hm hz => ?_, 3, _, rfl, rfl, q⟩
    rw [List.getElem?_map] at hz
    cases y : bs[m]? with
    | none => rw [y] at hz; cases hz
    | some b =>
      rw [y] at hz
      cases hz
      rw [idx_lt hm y]
      decide
  · rw [decide_eq_false c]
    unfold fstF at q
    rw [if_neg c] at q
    exact iteF ⟨1, rfl, q⟩
def good2 (d : PyData) : Bool := match d with
  | .tuple ds => decide ((ds.length : Int) = 2)
  | _ => false
theorem good2_two {d : PyData} (h : good2 d = true) : ∃ a b, d = .tuple [a, b] := by
  cases d with
  | tuple ds =>
    have h : (ds.length : Int) = 2 := of_decide_eq_true h
    match ds, h with
    | [a, b], _ => exact ⟨a, b, rfl⟩
    | [], h => simp at h
    | [_], h => simp at h
    | _ :: _ :: _ :: _, h => simp at h; omega
  | _ => cases h
theorem cart_not {d : PyData} (h : good2 d = false) : cartD d = false := by
  cases d with
  | tuple ds =>
    match ds, h with
    | [], _ => rfl
    | [_], _ => rfl
    | [a, b], h => cases h
    | _ :: _ :: _ :: _, _ => rfl
  | _ => rfl
/-- the law's house -/
structure LhAt (H : Hp) (h : Addr) (x : HD) : Prop where
  ex : ∃ (r wl gl ru : Addr) (ws : List V) (ga : List Addr), H h = some (.tup [.ref r, .ref wl, .ref gl, .ref ru]) ∧ NetAt H r x.ls x.sts x.jns x.tis ∧ H wl = some (.lst ws) ∧ ws.length = x.nw ∧ H gl = some (.lst (ga.map V.ref)) ∧ Paired (WgT H) ga x.wags
section
variable {P : Program} {w : World} {K : PySem.W.Frag} {mg : Str → Option Value} {base : Heap} {k : Nat}
def sp_l_waybill : Sp := fun vs H Q _ => ∃ (h t : Addr) (x : HD) (pvs : List V) (p0 p1 p2 p3 p4 p5 p6 p7 p8 : PyData), vs = [.ref h, .ref t] ∧ LhAt H h x ∧ HsOk x ∧ H t = some (.tup pvs) ∧ DtAll SA H pvs [p0, p1, p2, p3, p4, p5, p6, p7, p8] ∧ SeqAt.shaped (.tuple [p0, p1, p2, p3, p4, p5, p6, p7, p8]) = true ∧
  ∀ H', Same H H' → Q (.int (runCk x [p0, p1, p2, p3, p4, p5, p6, p7, p8] [2, 7, 5, 5, 6, 8] [p3, p4, p5, p6, p7, p8] 3)) H'
set_option maxHeartbeats 16000000 in
theorem ok_l_waybill_fault (T : Defs K mg) : FnOk P w K mg base CX0 (k + 2) T.a_l_waybill_fault T.d_l_waybill_fault ["_law_house_here", "_law_thing"] sp_l_waybill := by
  have G_l_whole : FnOk P w K mg base CX0 (k + 1) _ _ _ _ := ok_l_whole (k := k) T
  refine T.F_l_waybill_fault.ok sc_l_waybill_fault (fun vs H Q E h => ?_) (fun cdv A outer s H vs Q E hr h => ?_)
  · obtain ⟨h, t, x, pvs, p0, p1, p2, p3, p4, p5, p6, p7, p8, rfl, _⟩ := h
    rfl
  · obtain ⟨h, t, x, pvs, p0, p1, p2, p3, p4, p5, p6, p7, p8, rfl, hh, hx, et, hpv, sd, q⟩ := h
    refine ⟨_, PSs.nox
(pss_cons (ps_set (i := 2) sc_l_waybill_fault.nd rfl (.inl rfl) (pe_lst (pa_cons (pe_call G_l_whole hr (by rfl) T.g_l_whole T.F_l_whole.kp T.b_l_whole .nil pass0 (pa_cons (pe_ix (r := rIxT K) ix_tup (pv 1) (pe_int) (fun _ _ => rfl)) (pa_cons (pe_int) (pa_cons (pe_int) pa_nil)))) (pa_cons (pe_call G_l_whole hr (by rfl) T.g_l_whole T.F_l_whole.kp T.b_l_whole .nil pass0 (pa_cons (pe_ix (r := rIxT K) ix_tup (pv 1) (pe_int) (fun _ _ => rfl)) (pa_cons (pe_int) (pa_cons (pe_op op_sub (pe_callB (r := rLenS K) call_lenS (by rfl) T.z_len (by decide +kernel) (pa_cons (pe_ix (r := rIxT K) ix_tup (pv 0) (pe_int) (fun _ _ => rfl)) pa_nil)) (pe_int)) pa_nil)))) pa_nil))))
    (pss_cons (ps_set (i := 2) sc_l_waybill_fault.nd rfl (.inl rfl) (pe_op op_cat (pv 2) (pe_lc (own := [("_law_one", 4)]) (g := gName 4) rfl sc_l_waybill_fault.nd (pi_tup (pe_slice (r := rSlT K) sl_tup (pv 1) (po_some (pe_int)) (po_some (pe_int)))) (blkOk_by (N := N_l_waybill_fault) (sc := defScope s_l_waybill_fault) (by decide +kernel)) (fun _ _ _ _ _ => (pg_name (i := 4) sc_l_waybill_fault.nd rfl (.inl rfl))) (fun _ _ _ _ _ => pts_nil) (fun _ _ _ _ _ => (pe_call G_l_whole hr (by rfl) T.g_l_whole T.F_l_whole.kp T.b_l_whole .nil pass0 (pa_cons (pv 4) (pa_cons (pe_int) (pa_cons (pe_op op_pow (pe_int) (pe_int)) pa_nil))))))))
    (Evl.pss_cut (ps_set (i := 3) sc_l_waybill_fault.nd rfl (.inl rfl) (pe_and (pe_callB call_isi (by rfl) T.z_isinstance (by decide +kernel) (pa_cons (pe_ix (r := rIxT K) ix_tup (pv 1) (pe_int) (fun _ _ => rfl)) (pa_cons (pe_bltn (v := .ty "tuple") (by rfl) T.z_tuple (by decide +kernel) rfl) pa_nil))) (pe_one (pe_cmpR op_eq (pe_callB (r := rLenS K) call_lenS (by rfl) T.z_len (by decide +kernel) (pa_cons (pe_ix (r := rIxT K) ix_tup (pv 1) (pe_int) (fun _ _ => rfl)) pa_nil)) (pe_int) (nomark _)))))
    (pss_cons (ps_expr (pe_bm PySem.F.plainAttrs_list PySem.F.slot_list_append PySem.F.type_list_append mt_append (pv 2) (pa_cons (pe_and (pv 3) (pe_one (pe_callB (r := rAll K) (cr_all rfl) (by rfl) T.z_all (by decide +kernel) (pa_cons (pe_lc (own := [("_law_one", 4)]) (g := gName 4) rfl sc_l_waybill_fault.nd (pi_tup (pe_ix (r := rIxT K) ix_tup (pv 1) (pe_int) (fun _ _ => rfl))) (blkOk_by (N := N_l_waybill_fault) (sc := defScope s_l_waybill_fault) (by decide +kernel)) (fun _ _ _ _ _ => (pg_name (i := 4) sc_l_waybill_fault.nd rfl (.inl rfl))) (fun _ _ _ _ _ => pts_nil) (fun _ _ _ _ _ => (pe_call G_l_whole hr (by rfl) T.g_l_whole T.F_l_whole.kp T.b_l_whole .nil pass0 (pa_cons (pv 4) (pa_cons (pe_int) (pa_cons (pe_op op_pow (pe_int) (pe_int)) pa_nil)))))) pa_nil)))) pa_nil)))
    (pss_cons (ps_expr (pe_bm PySem.F.plainAttrs_list PySem.F.slot_list_append PySem.F.type_list_append mt_append (pv 2) (pa_cons (pe_callB (r := rAny K) (cr_any rfl) (by rfl) T.z_any (by decide +kernel) (pa_cons (pe_lc (own := [("_law_number_here", 5), ("_law_line_here", 6)]) (g := gTup K 2 (gCons (gName 5) (gCons (gName 6) gNil))) rfl sc_l_waybill_fault.nd (pi_list (pe_ix (r := rIxT K) ix_tup (pv 0) (pe_int) (fun _ _ => rfl))) (blkOk_by (N := N_l_waybill_fault) (sc := defScope s_l_waybill_fault) (by decide +kernel)) (fun _ _ _ _ _ => (pg_tup rfl (pgs_cons (pg_name (i := 5) sc_l_waybill_fault.nd rfl (.inl rfl)) (pgs_cons (pg_name (i := 6) sc_l_waybill_fault.nd rfl (.inl rfl)) pgs_nil)))) (fun _ _ _ _ _ => pts_nil) (fun _ _ _ _ _ => (pe_call G_l_whole hr (by rfl) T.g_l_whole T.F_l_whole.kp T.b_l_whole .nil pass0 (pa_cons (pe_ix (r := rIxT K) ix_tup (pv 1) (pe_int) (fun _ _ => rfl)) (pa_cons (pv 5) (pa_cons (pv 5) pa_nil)))))) pa_nil)) pa_nil)))
    (pss_one (ps_ret (pe_ifExp (pt_cmpR (r := rIn K false) op_in_seq (pe_bl) (pv 2) (by rfl)) (pe_op op_add (pe_int) (pe_bm PySem.F.plainAttrs_list PySem.F.slot_list_index PySem.F.type_list_index mt_index (pv 2) (pa_cons (pe_bl) pa_nil))) (pe_un un_neg (pe_int))))))))))
      , ?_⟩
    obtain ⟨r, wl, gl, ru, ws, ga, e1, hnet, ewl, hnw, egl, hga⟩ := hh.ex
    obtain ⟨v0, v1, v2, v3, v4, v5, v6, v7, v8, rfl, h3, h4, h5, h6, h7, h8⟩ : ∃ v0 v1 v2 v3 v4 v5 v6 v7 v8, pvs = [v0, v1, v2, v3, v4, v5, v6, v7, v8] ∧ Dt SA H v3 p3 ∧ Dt SA H v4 p4 ∧ Dt SA H v5 p5 ∧ Dt SA H v6 p6 ∧ Dt SA H v7 p7 ∧ Dt SA H v8 p8 := by
      cases hpv with
      | cons _ z => cases z with
        | cons _ z => cases z with
          | cons _ z => cases z with
            | cons h3 z => cases z with
              | cons h4 z => cases z with
                | cons h5 z => cases z with
                  | cons h6 z => cases z with
                    | cons h7 z => cases z with
                      | cons h8 z =>
                        cases z
                        exact ⟨_, _, _, _, _, _, _, _, _, rfl, h3, h4, h5, h6, h7, h8⟩
    refine ⟨.ref t, rfl, t, _, 3, v3, rfl, rfl, SqT.of et, atI_nat (j := 3) rfl, v3, p3, 1, 420, rfl, h3, ?_⟩
    refine ⟨.ref t, rfl, t, _, 4, v4, rfl, rfl, SqT.of et, atI_nat (j := 4) rfl, .ref h, rfl, h, _, 1, .ref wl, rfl, rfl, SqT.of e1, atI_nat (j := 1) rfl, wl, _, rfl, .inl (SqL.of ewl), _, 1, rfl, rfl, v4, p4, 0, _, rfl, h4, ?_⟩
    refine ⟨by show 2 ≤ sizeLine; decide, fun L nL => ?_⟩
    have sL := same_upd (o := .lst [V.bl (betD p3 1 420), V.bl (betD p4 0 ((ws.length : Int) - 1))]) nL
    have eL : (upd H L (.lst [V.bl (betD p3 1 420), V.bl (betD p4 0 ((ws.length : Int) - 1))])) L = some (.lst [V.bl (betD p3 1 420), V.bl (betD p4 0 ((ws.length : Int) - 1))]) := upd_same
    generalize upd H L (.lst [V.bl (betD p3 1 420), V.bl (betD p4 0 ((ws.length : Int) - 1))]) = H1 at sL eL ⊢
    have et1 := sL _ _ et
    refine ⟨.ref L, rfl, .ref t, rfl, 5, rfl, 7, rfl, t, _, rfl, SqT.of et1, by show ¬ ((5 : Nat) = 0 ∧ (7 : Nat) = 9); decide, fun U nU => ?_⟩
    rw [show cutV [v0, v1, v2, v3, v4, v5, v6, v7, v8] (some 5) (some 7) = [v5, v6] from rfl]
    have sU := same_upd (o := .tup [v5, v6]) nU
    have eU : (upd H1 U (.tup [v5, v6])) U = some (.tup [v5, v6]) := upd_same
    have eL2 := sU _ _ eL
    have s02 := sL.trans sU
    generalize upd H1 U (.tup [v5, v6]) = H2 at sU eU eL2 s02 ⊢
    have h56 : DtAll SA H [v5, v6] [p5, p6] := .cons h5 (.cons h6 .nil)
    have p9 : ((10 : Int) ^ (9 : Int).toNat) = 1000000000 := by decide
    refine ⟨U, rfl, ⟨_, SqT.of eU⟩, fun C nC => ?_⟩
    refine lc_it (walk_tup (xs := [v5, v6])) (fun j Hy => Same H2 Hy ∧ Hy C = some (.lst ((([p5, p6].take j).map fun z => betD z 0 1000000000).map V.bl))) ⟨same_upd nC, upd_same⟩ (fun j Hy _ pv => SqT.of (pv.1 _ _ eU)) (fun j v Hy₀ Hy hj pv yy => ?_) (fun H3 pv => ?_)
    · obtain ⟨rfl, ex⟩ := yy
      obtain ⟨sy, eC⟩ := pv
      obtain ⟨d1, ed, hd1⟩ := h56.get ex
      have tk1 : [p5, p6].take (j + 1) = [p5, p6].take j ++ [d1] := by rw [List.take_add_one, ed]; rfl
      refine ⟨rfl, yes_ ⟨v, rfl, 10, 9, rfl, rfl, ⟨by decide, by decide, by decide⟩, v, d1, 0, _, rfl, hd1.same (s02.trans sy), ?_⟩⟩
      rw [p9]
      refine ⟨_, eC, small5000 (by rw [List.length_map, List.length_map, List.length_take]; simp only [List.length_cons, List.length_nil]; omega), same_set sy nC, ?_⟩
      rw [tk1, List.map_append, List.map_append]
      exact upd_same
    obtain ⟨s23, eC⟩ := pv
    have s03 := s02.trans s23
    have eL3 := s23 _ _ eL2
    refine ⟨L, C, _, _, rfl, rfl, eL3, eC, by show 4 ≤ sizeLine; decide, fun M nM => ?_⟩
    have sM := same_upd (o := .lst ([V.bl (betD p3 1 420), V.bl (betD p4 0 ((ws.length : Int) - 1))] ++ ((([p5, p6].take 2).map fun z => betD z 0 1000000000).map V.bl))) nM
    have eM : (upd H3 M (.lst ([V.bl (betD p3 1 420), V.bl (betD p4 0 ((ws.length : Int) - 1))] ++ ((([p5, p6].take 2).map fun z => betD z 0 1000000000).map V.bl)))) M = some (.lst ([betD p3 1 420, betD p4 0 ((x.nw : Int) - 1), betD p5 0 1000000000, betD p6 0 1000000000].map V.bl)) := by rw [← hnw]; exact upd_same
    have s04 := s03.trans sM
    generalize upd H3 M (.lst ([V.bl (betD p3 1 420), V.bl (betD p4 0 ((ws.length : Int) - 1))] ++ ((([p5, p6].take [v5, v6].length).map fun z => betD z 0 1000000000).map V.bl))) = H4 at sM eM s04 ⊢
    have et4 := s04 _ _ et
    have h7_4 := h7.same s04
    refine ⟨fun σ Hx => σ = [some (.ref h), some (.ref t), some (.ref M), some (.bl (good2 p7)), none, none, none] ∧ Hx = H4, ?_, fun σ Hx mid => ?_⟩
    · refine ⟨.ref t, rfl, t, _, 7, v7, rfl, rfl, SqT.of et4, atI_nat (j := 7) rfl, v7, .ty "tuple", _, _, _, rfl, .ty _, Dt.ty (K := K) h7_4, kit_T (K := K) p7, isiT p7, rfl, ?_⟩
      cases p7 with
      | tuple ds =>
        obtain ⟨a, xs, rfl, e, hxs⟩ : ∃ a xs, v7 = .ref a ∧ H4 a = some (.tup xs) ∧ DtAll SA H4 xs ds := by
          cases h7_4 with
          | tup _ e _ r => exact ⟨_, _, rfl, e, r⟩
        refine iteT ⟨.ref t, rfl, t, _, 7, .ref a, rfl, rfl, SqT.of et4, atI_nat (j := 7) rfl, a, _, rfl, .inr (SqT.of e), rfl, ?_, rfl⟩
        rw [hxs.len]
        have : decide (V.int (ds.length : Int) = V.int 2) = good2 (.tuple ds) := by
          show _ = decide ((ds.length : Int) = 2)
          exact decide_eq_decide.mpr ⟨fun z => by injection z, fun z => by rw [z]⟩
        rw [this]
        rfl
      | none => exact iteF ⟨rfl, rfl⟩
      | bool _ => exact iteF ⟨rfl, rfl⟩
      | int _ => exact iteF ⟨rfl, rfl⟩
      | str _ => exact iteF ⟨rfl, rfl⟩
      | list _ => exact iteF ⟨rfl, rfl⟩
      | dict _ => exact iteF ⟨rfl, rfl⟩
    obtain ⟨rfl, rfl⟩ := mid
    refine ⟨.ref M, rfl, .inl ⟨rfl, _, SqL.of eM⟩, .bl (good2 p7), rfl, good2 p7, rfl, ?_⟩
    cases g : good2 p7
    case' true =>
      obtain ⟨a0, b0, rfl⟩ := good2_two g
      obtain ⟨u, xs, rfl, eu, hxs⟩ : ∃ a xs, v7 = .ref a ∧ Hx a = some (.tup xs) ∧ DtAll SA Hx xs [a0, b0] := by
        cases h7_4 with
        | tup _ e _ r => exact ⟨_, _, rfl, e, r⟩
      refine iteT ⟨.ref t, rfl, t, _, 7, .ref u, rfl, rfl, SqT.of et4, atI_nat (j := 7) rfl, u, rfl, ⟨_, SqT.of eu⟩, fun B nB => ?_⟩
      have xl : xs.length = 2 := hxs.len
      refine lc_it (walk_tup (xs := xs)) (fun j Hy => Same Hx Hy ∧ Hy B = some (.lst ((([a0, b0].take j).map fun z => betD z 0 1000000000).map V.bl))) ⟨same_upd nB, upd_same⟩ (fun j Hy _ pv => SqT.of (pv.1 _ _ eu)) (fun j v Hy₀ Hy hj pv yy => ?_) (fun Hz pv => ?_)
      · obtain ⟨rfl, ex⟩ := yy
        obtain ⟨sy, eB⟩ := pv
        obtain ⟨d1, ed, hd1⟩ := hxs.get ex
        have tk1 : [a0, b0].take (j + 1) = [a0, b0].take j ++ [d1] := by rw [List.take_add_one, ed]; rfl
        refine ⟨rfl, yes_ ⟨v, rfl, 10, 9, rfl, rfl, ⟨by decide, by decide, by decide⟩, v, d1, 0, _, rfl, hd1.same sy, ?_⟩⟩
        rw [p9]
        refine ⟨_, eB, small5000 (by rw [List.length_map, List.length_map, List.length_take]; simp only [List.length_cons, List.length_nil]; omega), same_set sy nB, ?_⟩
        rw [tk1, List.map_append, List.map_append]
        exact upd_same
      obtain ⟨sz, eB⟩ := pv
      rw [xl] at eB
      refine ⟨B, [betD a0 0 1000000000, betD b0 0 1000000000], rfl, SqL.of eB, ?_⟩
      have ec : ([betD a0 0 1000000000, betD b0 0 1000000000] : List Bool).all id = cartD (.tuple [a0, b0]) := by
        show (betD a0 0 1000000000 && (betD b0 0 1000000000 && true)) = (betD a0 0 1000000000 && betD b0 0 1000000000)
        rw [Bool.and_true]
      rw [ec]
      have eMz := sz _ _ eM
      have s0z := s04.trans sz
      clear eB nB ec et4 h7_4 eu hxs sz
      generalize PyData.tuple [a0, b0] = p7 at q sd ⊢
      clear g
      refine ⟨M, _, _, rfl, rfl, eMz, by show 4 < sizeLine; decide, ?_⟩
      have nM0 : H M = none := s03.free nM
      have s05 := same_set (o := .lst ([betD p3 1 420, betD p4 0 ((x.nw : Int) - 1), betD p5 0 1000000000, betD p6 0 1000000000].map V.bl ++ [V.bl (cartD p7)])) s0z nM0
      have eM5 : (upd Hz M (.lst ([betD p3 1 420, betD p4 0 ((x.nw : Int) - 1), betD p5 0 1000000000, betD p6 0 1000000000].map V.bl ++ [V.bl (cartD p7)]))) M = some (.lst ([betD p3 1 420, betD p4 0 ((x.nw : Int) - 1), betD p5 0 1000000000, betD p6 0 1000000000, cartD p7].map V.bl)) := upd_same
      generalize upd Hz M (.lst ([betD p3 1 420, betD p4 0 ((x.nw : Int) - 1), betD p5 0 1000000000, betD p6 0 1000000000].map V.bl ++ [V.bl (cartD p7)])) = H5 at s05 eM5 ⊢
      have egl5 := s05 _ _ egl
      have gl6 := paired_len hga
      have ggs := hx.gs
      refine ⟨.ref M, rfl, .inl ⟨rfl, _, SqL.of eM5⟩, .ref h, rfl, h, _, 2, .ref gl, rfl, rfl, SqT.of (s05 _ _ e1), atI_nat (j := 2) rfl, gl, rfl, ⟨_, SqL.of egl5⟩, fun B2 nB2 => ?_⟩
      refine lc_it (walk_list (xs := ga.map V.ref)) (fun j Hy => Same H5 Hy ∧ Hy B2 = some (.lst (((x.wags.take j).map fun g => betD p8 g.1 g.1).map V.bl))) ⟨same_upd nB2, upd_same⟩ (fun j Hy _ pv => SqL.of (pv.1 _ _ egl5)) (fun j v Hy₀ Hy hj pv yy => ?_) (fun H6 pv => ?_)
      · obtain ⟨rfl, ex⟩ := yy
        obtain ⟨sy, eB2⟩ := pv
        obtain ⟨u, eu, rfl⟩ : ∃ u, ga[j]? = some u ∧ v = .ref u := by
          rw [List.getElem?_map] at ex
          cases h : ga[j]? with
          | none => rw [h] at ex; cases ex
          | some t => rw [h] at ex; exact ⟨t, rfl, (Option.some.inj ex).symm⟩
        obtain ⟨g, eg, hu⟩ := paired_get hga eu
        have tk1 : x.wags.take (j + 1) = x.wags.take j ++ [g] := by rw [List.take_add_one, eg]; rfl
        have sy0 := s05.trans sy
        refine ⟨u, _, rfl, SqT.of (sy0 _ _ hu), rfl, _, _, rfl, _, [], rfl, rfl, rfl, yes_ ⟨.ref t, rfl, t, _, 8, v8, rfl, rfl, SqT.of (sy0 _ _ et), atI_nat (j := 8) rfl, .int g.1, rfl, .int g.1, rfl, v8, p8, g.1, g.1, rfl, h8.same sy0, _, eB2, small5000 (by rw [List.length_map, List.length_map, List.length_take]; omega), same_set sy nB2, ?_⟩⟩
        rw [tk1, List.map_append, List.map_append]
        exact upd_same
      obtain ⟨sy, eB2⟩ := pv
      rw [List.length_map, gl6, List.take_length] at eB2
      refine ⟨B2, _, rfl, SqL.of eB2, ?_⟩
      rw [wag_eq]
      have eM6 := sy _ _ eM5
      have s06 := s05.trans sy
      refine ⟨M, _, _, rfl, rfl, eM6, by show 5 < sizeLine; decide, ?_⟩
      have s07 := same_set (o := .lst ([betD p3 1 420, betD p4 0 ((x.nw : Int) - 1), betD p5 0 1000000000, betD p6 0 1000000000, cartD p7].map V.bl ++ [V.bl (wholeD p8 && (x.wags.map fun g => PyData.int g.1).any fun z => z.eqv p8)])) s06 nM0
      have eM7 : (upd H6 M (.lst ([betD p3 1 420, betD p4 0 ((x.nw : Int) - 1), betD p5 0 1000000000, betD p6 0 1000000000, cartD p7].map V.bl ++ [V.bl (wholeD p8 && (x.wags.map fun g => PyData.int g.1).any fun z => z.eqv p8)]))) M = some (.lst ([betD p3 1 420, betD p4 0 ((x.nw : Int) - 1), betD p5 0 1000000000, betD p6 0 1000000000, cartD p7, (wholeD p8 && (x.wags.map fun g => PyData.int g.1).any fun z => z.eqv p8)].map V.bl)) := upd_same
      refine look_end (K := K) (n := 2) ?_ eM7 ?_
      · rfl
      rw [fst_run (x := x) (pds := [p0, p1, p2, p3, p4, p5, p6, p7, p8]) (js := [2, 7, 5, 5, 6, 8]) (ds := [p3, p4, p5, p6, p7, p8]) rfl rfl fun m hm j d b a1 a2 a3 => ?_]
      · exact q _ s07
      · match m, a1, a2, a3 with
        | 0, a1, a2, a3 => cases a1; cases a2; cases a3; rfl
        | 1, a1, a2, a3 => cases a1; cases a2; cases a3; rfl
        | 2, a1, a2, a3 => cases a1; cases a2; cases a3; rfl
        | 3, a1, a2, a3 => cases a1; cases a2; cases a3; rfl
        | 4, a1, a2, a3 => cases a1; cases a2; cases a3; rfl
        | 5, a1, a2, a3 => cases a1; cases a2; cases a3; rfl
        | n + 6, a1, _, _ => cases a1
    case' false =>
      refine iteF ?_
      have ec := cart_not g
      have eMz := eM
      have s0z := s04
      clear g
      generalize Hx = Hz at eMz s0z ⊢
      refine ⟨M, _, _, rfl, rfl, eMz, by show 4 < sizeLine; decide, ?_⟩
      have nM0 : H M = none := s03.free nM
      have s05 := same_set (o := .lst ([betD p3 1 420, betD p4 0 ((x.nw : Int) - 1), betD p5 0 1000000000, betD p6 0 1000000000].map V.bl ++ [V.bl (false)])) s0z nM0
      have eM5 : (upd Hz M (.lst ([betD p3 1 420, betD p4 0 ((x.nw : Int) - 1), betD p5 0 1000000000, betD p6 0 1000000000].map V.bl ++ [V.bl (false)]))) M = some (.lst ([betD p3 1 420, betD p4 0 ((x.nw : Int) - 1), betD p5 0 1000000000, betD p6 0 1000000000, false].map V.bl)) := upd_same
      generalize upd Hz M (.lst ([betD p3 1 420, betD p4 0 ((x.nw : Int) - 1), betD p5 0 1000000000, betD p6 0 1000000000].map V.bl ++ [V.bl (false)])) = H5 at s05 eM5 ⊢
      have egl5 := s05 _ _ egl
      have gl6 := paired_len hga
      have ggs := hx.gs
      refine ⟨.ref M, rfl, .inl ⟨rfl, _, SqL.of eM5⟩, .ref h, rfl, h, _, 2, .ref gl, rfl, rfl, SqT.of (s05 _ _ e1), atI_nat (j := 2) rfl, gl, rfl, ⟨_, SqL.of egl5⟩, fun B2 nB2 => ?_⟩
      refine lc_it (walk_list (xs := ga.map V.ref)) (fun j Hy => Same H5 Hy ∧ Hy B2 = some (.lst (((x.wags.take j).map fun g => betD p8 g.1 g.1).map V.bl))) ⟨same_upd nB2, upd_same⟩ (fun j Hy _ pv => SqL.of (pv.1 _ _ egl5)) (fun j v Hy₀ Hy hj pv yy => ?_) (fun H6 pv => ?_)
      · obtain ⟨rfl, ex⟩ := yy
        obtain ⟨sy, eB2⟩ := pv
        obtain ⟨u, eu, rfl⟩ : ∃ u, ga[j]? = some u ∧ v = .ref u := by
          rw [List.getElem?_map] at ex
          cases h : ga[j]? with
          | none => rw [h] at ex; cases ex
          | some t => rw [h] at ex; exact ⟨t, rfl, (Option.some.inj ex).symm⟩
        obtain ⟨g, eg, hu⟩ := paired_get hga eu
        have tk1 : x.wags.take (j + 1) = x.wags.take j ++ [g] := by rw [List.take_add_one, eg]; rfl
        have sy0 := s05.trans sy
        refine ⟨u, _, rfl, SqT.of (sy0 _ _ hu), rfl, _, _, rfl, _, [], rfl, rfl, rfl, yes_ ⟨.ref t, rfl, t, _, 8, v8, rfl, rfl, SqT.of (sy0 _ _ et), atI_nat (j := 8) rfl, .int g.1, rfl, .int g.1, rfl, v8, p8, g.1, g.1, rfl, h8.same sy0, _, eB2, small5000 (by rw [List.length_map, List.length_map, List.length_take]; omega), same_set sy nB2, ?_⟩⟩
        rw [tk1, List.map_append, List.map_append]
        exact upd_same
      obtain ⟨sy, eB2⟩ := pv
      rw [List.length_map, gl6, List.take_length] at eB2
      refine ⟨B2, _, rfl, SqL.of eB2, ?_⟩
      rw [wag_eq]
      have eM6 := sy _ _ eM5
      have s06 := s05.trans sy
      refine ⟨M, _, _, rfl, rfl, eM6, by show 5 < sizeLine; decide, ?_⟩
      have s07 := same_set (o := .lst ([betD p3 1 420, betD p4 0 ((x.nw : Int) - 1), betD p5 0 1000000000, betD p6 0 1000000000, false].map V.bl ++ [V.bl (wholeD p8 && (x.wags.map fun g => PyData.int g.1).any fun z => z.eqv p8)])) s06 nM0
      have eM7 : (upd H6 M (.lst ([betD p3 1 420, betD p4 0 ((x.nw : Int) - 1), betD p5 0 1000000000, betD p6 0 1000000000, false].map V.bl ++ [V.bl (wholeD p8 && (x.wags.map fun g => PyData.int g.1).any fun z => z.eqv p8)]))) M = some (.lst ([betD p3 1 420, betD p4 0 ((x.nw : Int) - 1), betD p5 0 1000000000, betD p6 0 1000000000, false, (wholeD p8 && (x.wags.map fun g => PyData.int g.1).any fun z => z.eqv p8)].map V.bl)) := upd_same
      refine look_end (K := K) (n := 2) ?_ eM7 ?_
      · rfl
      rw [fst_run (x := x) (pds := [p0, p1, p2, p3, p4, p5, p6, p7, p8]) (js := [2, 7, 5, 5, 6, 8]) (ds := [p3, p4, p5, p6, p7, p8]) rfl rfl fun m hm j d b a1 a2 a3 => ?_]
      · exact q _ s07
      · match m, a1, a2, a3 with
        | 0, a1, a2, a3 => cases a1; cases a2; cases a3; rfl
        | 1, a1, a2, a3 => cases a1; cases a2; cases a3; rfl
        | 2, a1, a2, a3 => cases a1; cases a2; cases a3; rfl
        | 3, a1, a2, a3 => cases a1; cases a2; cases a3; rfl
        | 4, a1, a2, a3 => cases a1; cases a2; cases a3; exact congrArg some ec
        | 5, a1, a2, a3 => cases a1; cases a2; cases a3; rfl
        | n + 6, a1, _, _ => cases a1
end
end Th
namespace Th
open PySem PySem.Spec PyProof.Rows L2
/-! the law's own faults of tolls and returns -/
theorem map_nS (zs : List Nm) : (zs.map SX.S).map V.str = zs.map nS := List.map_map
theorem last_bet {d : PyData} {f : Int} (h : 1 ≤ f) : betD d f 420 = (match d with
    | .int i => (decide (1 ≤ i) && decide (i ≤ 420)) && decide (f ≤ i)
    | _ => false) := by
  cases d with
  | int i =>
    show (decide (f ≤ i) && decide (i ≤ 420)) = ((decide (1 ≤ i) && decide (i ≤ 420)) && decide (f ≤ i))
    by_cases c1 : f ≤ i
    · rw [decide_eq_true c1, decide_eq_true (by omega : 1 ≤ i), Bool.true_and, Bool.and_true]
    · rw [decide_eq_false c1, Bool.false_and, Bool.and_false]
  | _ => rfl
section
variable {P : Program} {w : World} {K : PySem.W.Frag} {mg : Str → Option Value} {base : Heap} {k : Nat}
def sp_l_toll : Sp := fun vs H Q _ => ∃ (r t : Addr) (x : HD) (pvs : List V) (p0 p1 p2 p3 p4 p5 p6 : PyData), vs = [.ref r, .ref t] ∧ NetAt H r x.ls x.sts x.jns x.tis ∧ HsOk x ∧ H t = some (.tup pvs) ∧ DtAll SA H pvs [p0, p1, p2, p3, p4, p5, p6] ∧ SeqAt.shaped (.tuple [p0, p1, p2, p3, p4, p5, p6]) = true ∧
  ∀ H', Same H H' → Q (.int (runCk x [p0, p1, p2, p3, p4, p5, p6] [13, 2, 3, 5] [p3, p4, p5, p6] 3)) H'
set_option maxHeartbeats 16000000 in
theorem ok_l_toll_fault (T : Defs K mg) : FnOk P w K mg base CX0 (k + 2) T.a_l_toll_fault T.d_l_toll_fault ["_law_net_here", "_law_thing"] sp_l_toll := by
  have G_l_whole : FnOk P w K mg base CX0 (k + 1) _ _ _ _ := ok_l_whole (k := k) T
  have G_l_in : FnOk P w K mg base CX0 (k + 1) _ _ _ _ := ok_l_in (k := k) T
  refine T.F_l_toll_fault.ok sc_l_toll_fault (fun vs H Q E h => ?_) (fun cdv A outer s H vs Q E hr h => ?_)
  · obtain ⟨r, t, x, pvs, p0, p1, p2, p3, p4, p5, p6, rfl, _⟩ := h
    rfl
  · obtain ⟨r, t, x, pvs, p0, p1, p2, p3, p4, p5, p6, rfl, hnet, hx, et, hpv, sd, q⟩ := h
    refine ⟨_, PSs.nox
(pss_cons (ps_set (i := 2) sc_l_toll_fault.nd rfl (.inl rfl) (pe_lst (pa_cons (pe_call G_l_in hr (by rfl) T.g_l_in T.F_l_in.kp T.b_l_in .nil pass0 (pa_cons (pe_ix (r := rIxT K) ix_tup (pv 1) (pe_int) (fun _ _ => rfl)) (pa_cons (pe_ix (r := rIxT K) ix_tup (pv 0) (pe_int) (fun _ _ => rfl)) pa_nil))) (pa_cons (pe_call G_l_whole hr (by rfl) T.g_l_whole T.F_l_whole.kp T.b_l_whole .nil pass0 (pa_cons (pe_ix (r := rIxT K) ix_tup (pv 1) (pe_int) (fun _ _ => rfl)) (pa_cons (pe_int) (pa_cons (pe_int) pa_nil)))) pa_nil))))
    (pss_cons (ps_expr (pe_bm PySem.F.plainAttrs_list PySem.F.slot_list_append PySem.F.type_list_append mt_append (pv 2) (pa_cons (pe_and (pe_ix (r := rIxL K) ix_list (pv 2) (pe_int) (fun _ _ => rfl)) (pe_one (pe_call G_l_whole hr (by rfl) T.g_l_whole T.F_l_whole.kp T.b_l_whole .nil pass0 (pa_cons (pe_ix (r := rIxT K) ix_tup (pv 1) (pe_int) (fun _ _ => rfl)) (pa_cons (pe_ix (r := rIxT K) ix_tup (pv 1) (pe_int) (fun _ _ => rfl)) (pa_cons (pe_int) pa_nil)))))) pa_nil)))
    (pss_cons (ps_expr (pe_bm PySem.F.plainAttrs_list PySem.F.slot_list_append PySem.F.type_list_append mt_append (pv 2) (pa_cons (pe_call G_l_whole hr (by rfl) T.g_l_whole T.F_l_whole.kp T.b_l_whole .nil pass0 (pa_cons (pe_ix (r := rIxT K) ix_tup (pv 1) (pe_int) (fun _ _ => rfl)) (pa_cons (pe_int) (pa_cons (pe_op op_pow (pe_int) (pe_int)) pa_nil)))) pa_nil)))
    (pss_one (ps_ret (pe_ifExp (pt_cmpR (r := rIn K false) op_in_seq (pe_bl) (pv 2) (by rfl)) (pe_op op_add (pe_int) (pe_bm PySem.F.plainAttrs_list PySem.F.slot_list_index PySem.F.type_list_index mt_index (pv 2) (pa_cons (pe_bl) pa_nil))) (pe_un un_neg (pe_int))))))))
      , ?_⟩
    obtain ⟨na, nb, nc, nd, sa, ja, ta, er, ea, eb, hS, ec, hJ, ed, hti⟩ := id hnet
    obtain ⟨v0, v1, v2, v3, v4, v5, v6, rfl, h3, h4, h5, h6⟩ : ∃ v0 v1 v2 v3 v4 v5 v6, pvs = [v0, v1, v2, v3, v4, v5, v6] ∧ Dt SA H v3 p3 ∧ Dt SA H v4 p4 ∧ Dt SA H v5 p5 ∧ Dt SA H v6 p6 := by
      cases hpv with
      | cons _ z => cases z with
        | cons _ z => cases z with
          | cons _ z => cases z with
            | cons h3 z => cases z with
              | cons h4 z => cases z with
                | cons h5 z => cases z with
                  | cons h6 z =>
                    cases z
                    exact ⟨_, _, _, _, _, _, _, rfl, h3, h4, h5, h6⟩
    have p9 : ((10 : Int) ^ (9 : Int).toNat) = 1000000000 := by decide
    refine ⟨.ref t, rfl, t, _, 3, v3, rfl, rfl, SqT.of et, atI_nat (j := 3) rfl, .ref r, rfl, r, _, 0, .ref na, rfl, rfl, SqT.of er, atI_nat (j := 0) rfl, v3, p3, na, x.ls.map SX.S, rfl, .inl (.inr (by rw [map_nS]; exact ea.sq)), h3, shaped_item sd (by simp), nms_strok hx.ls.1, fun H1 s1 => ?_⟩
    have et1 := s1 _ _ et
    refine ⟨.ref t, rfl, t, _, 4, v4, rfl, rfl, SqT.of et1, atI_nat (j := 4) rfl, v4, p4, 1, 420, rfl, h4.same s1, ?_⟩
    refine ⟨by show 2 ≤ sizeLine; decide, fun M nM => ?_⟩
    have sM := same_upd (o := .lst [V.bl (strIn (x.ls.map SX.S) p3), V.bl (betD p4 1 420)]) nM
    have eM : (upd H1 M (.lst [V.bl (strIn (x.ls.map SX.S) p3), V.bl (betD p4 1 420)])) M = some (.lst ([strIn (x.ls.map SX.S) p3, betD p4 1 420].map V.bl)) := upd_same
    have nM0 : H M = none := s1.free nM
    have s02 := s1.trans sM
    generalize upd H1 M (.lst [V.bl (strIn (x.ls.map SX.S) p3), V.bl (betD p4 1 420)]) = H2 at sM eM s02 ⊢
    have et2 := s02 _ _ et
    refine ⟨.ref M, rfl, .inl ⟨rfl, _, SqL.of eM⟩, .ref M, rfl, M, _, 1, .bl (betD p4 1 420), rfl, rfl, SqL.of eM, atI_nat (j := 1) rfl, betD p4 1 420, rfl, ?_⟩
    cases g : betD p4 1 420
    case' true =>
      obtain ⟨f, rfl⟩ := bet_int g
      have f1 : 1 ≤ f := of_decide_eq_true (Bool.and_eq_true_iff.mp (show (decide (1 ≤ f) && decide (f ≤ 420)) = true from g)).1
      cases h4
      rw [g] at eM
      refine iteT ⟨.ref t, rfl, t, _, 5, v5, rfl, rfl, SqT.of et2, atI_nat (j := 5) rfl, .ref t, rfl, t, _, 4, .int f, rfl, rfl, SqT.of et2, atI_nat (j := 4) rfl, v5, p5, f, 420, rfl, h5.same s02, ?_⟩
      refine ⟨M, _, _, rfl, rfl, eM, by show 2 < sizeLine; decide, ?_⟩
      have s03 := same_set (o := .lst ([strIn (x.ls.map SX.S) p3, true].map V.bl ++ [V.bl (betD p5 f 420)])) s02 nM0
      have eM3 : (upd H2 M (.lst ([strIn (x.ls.map SX.S) p3, true].map V.bl ++ [V.bl (betD p5 f 420)]))) M = some (.lst ([strIn (x.ls.map SX.S) p3, true, (betD p5 f 420)].map V.bl)) := upd_same
      generalize upd H2 M (.lst ([strIn (x.ls.map SX.S) p3, true].map V.bl ++ [V.bl (betD p5 f 420)])) = H3 at s03 eM3 ⊢
      refine ⟨.ref M, rfl, .inl ⟨rfl, _, SqL.of eM3⟩, .ref t, rfl, t, _, 6, v6, rfl, rfl, SqT.of (s03 _ _ et), atI_nat (j := 6) rfl, 10, 9, rfl, rfl, ⟨by decide, by decide, by decide⟩, v6, p6, 0, _, rfl, h6.same s03, ?_⟩
      rw [p9]
      refine ⟨M, _, _, rfl, rfl, eM3, by show 3 < sizeLine; decide, ?_⟩
      have s04 := same_set (o := .lst ([strIn (x.ls.map SX.S) p3, true, (betD p5 f 420)].map V.bl ++ [V.bl (betD p6 0 1000000000)])) s03 nM0
      have eM4 : (upd H3 M (.lst ([strIn (x.ls.map SX.S) p3, true, (betD p5 f 420)].map V.bl ++ [V.bl (betD p6 0 1000000000)]))) M = some (.lst ([strIn (x.ls.map SX.S) p3, true, (betD p5 f 420), betD p6 0 1000000000].map V.bl)) := upd_same
      refine look_end (K := K) (n := 2) ?_ eM4 ?_
      · rfl
      rw [fst_run (x := x) (pds := [p0, p1, p2, p3, .int f, p5, p6]) (js := [13, 2, 3, 5]) (ds := [p3, .int f, p5, p6]) rfl rfl fun m hm j d b a1 a2 a3 => ?_]
      · exact q _ s04
      · match m, a1, a2, a3 with
        | 0, a1, a2, a3 => cases a1; cases a2; cases a3; rfl
        | 1, a1, a2, a3 => cases a1; cases a2; cases a3; exact congrArg some g
        | 2, a1, a2, a3 => cases a1; cases a2; cases a3; exact congrArg some (last_bet f1).symm
        | 3, a1, a2, a3 => cases a1; cases a2; cases a3; rfl
        | n + 4, a1, _, _ => cases a1
    case' false =>
      rw [g] at eM
      refine iteF ?_
      refine ⟨M, _, _, rfl, rfl, eM, by show 2 < sizeLine; decide, ?_⟩
      have s03 := same_set (o := .lst ([strIn (x.ls.map SX.S) p3, false].map V.bl ++ [V.bl false])) s02 nM0
      have eM3 : (upd H2 M (.lst ([strIn (x.ls.map SX.S) p3, false].map V.bl ++ [V.bl false]))) M = some (.lst ([strIn (x.ls.map SX.S) p3, false, false].map V.bl)) := upd_same
      generalize upd H2 M (.lst ([strIn (x.ls.map SX.S) p3, false].map V.bl ++ [V.bl false])) = H3 at s03 eM3 ⊢
      refine ⟨.ref M, rfl, .inl ⟨rfl, _, SqL.of eM3⟩, .ref t, rfl, t, _, 6, v6, rfl, rfl, SqT.of (s03 _ _ et), atI_nat (j := 6) rfl, 10, 9, rfl, rfl, ⟨by decide, by decide, by decide⟩, v6, p6, 0, _, rfl, h6.same s03, ?_⟩
      rw [p9]
      refine ⟨M, _, _, rfl, rfl, eM3, by show 3 < sizeLine; decide, ?_⟩
      have s04 := same_set (o := .lst ([strIn (x.ls.map SX.S) p3, false, false].map V.bl ++ [V.bl (betD p6 0 1000000000)])) s03 nM0
      have eM4 : (upd H3 M (.lst ([strIn (x.ls.map SX.S) p3, false, false].map V.bl ++ [V.bl (betD p6 0 1000000000)]))) M = some (.lst ([strIn (x.ls.map SX.S) p3, false, false, betD p6 0 1000000000].map V.bl)) := upd_same
      refine look_end (K := K) (n := 2) ?_ eM4 ?_
      · rfl
      rw [fst_run (x := x) (pds := [p0, p1, p2, p3, p4, p5, p6]) (js := [13, 2, 3, 5]) (ds := [p3, p4, p5, p6]) rfl rfl fun m hm j d b a1 a2 a3 => ?_]
      · exact q _ s04
      · match m, a1, a2, a3 with
        | 0, a1, a2, a3 => cases a1; cases a2; cases a3; rfl
        | 1, a1, a2, a3 => cases a1; cases a2; cases a3; exact congrArg some g
        | 2, a1, a2, a3 => cases a1; cases a2; cases a3; exact absurd (hm 1 (by omega)) (fun z => by cases z)
        | 3, a1, a2, a3 => cases a1; cases a2; cases a3; rfl
        | n + 4, a1, _, _ => cases a1
end
end Th
namespace Th
open PySem PySem.Spec PyProof.Rows L2
theorem merge_nd : ∀ (more acc : List (Key × V)), ((acc ++ more).map (·.1)).Nodup → mergeK acc more = acc ++ more
  | [], acc, _ => by rw [List.append_nil]; rfl
  | x :: r, acc, h => by
    have e : putK acc x.1 x.2 = acc ++ [x] := by
      unfold putK
      rw [if_neg]
      intro z
      obtain ⟨y, hy, e⟩ := List.any_eq_true.mp z
      have e : y.1 = x.1 := of_decide_eq_true e
      rw [List.map_append, List.map_cons] at h
      exact (List.nodup_append.mp h).2.2 y.1 (List.mem_map_of_mem hy) x.1 List.mem_cons_self e
    show mergeK (putK acc x.1 x.2) r = _
    rw [e, merge_nd r (acc ++ [x]) (by rw [List.append_assoc]; exact h), List.append_assoc]
    rfl
/-- dict of the junctions -/
theorem jn_dictA {K : PySem.W.Frag} {H : Hp} {ja : List Addr} {jns : List (Nm × List Nm)} (h : Paired (JnAt H) ja jns) : ∃ kvs : List (Key × V), Paired (fun p kv => SqT K H p [kV kv.1, kv.2]) ja kvs ∧ kvs.map (·.1) = (jns.map (·.1)).map (fun z => Sum.inr (SX.S z)) ∧ ∀ j ∈ jns, ∃ t, (Sum.inr (SX.S j.1), V.ref t) ∈ kvs ∧ H t = some (.tup (j.2.map nS)) := by
  induction h with
  | nil => exact ⟨[], .nil, rfl, fun j hj => (by cases hj)⟩
  | @cons x j ja jns hx _ ih =>
    obtain ⟨kvs, h1, h2, h3⟩ := ih
    obtain ⟨t, e1, e2⟩ := hx
    refine ⟨(Sum.inr (SX.S j.1), .ref t) :: kvs, .cons (SqT.of e1) h1, by rw [List.map_cons, List.map_cons, List.map_cons, h2], fun i hi => ?_⟩
    rcases List.mem_cons.mp hi with h | h
    · rw [h]
      exact ⟨t, List.mem_cons_self, e2⟩
    · obtain ⟨t', h4, h5⟩ := h3 i h
      exact ⟨t', List.mem_cons_of_mem _ h4, h5⟩
theorem jn_keys_nd {jns : List (Nm × List Nm)} {kvs : List (Key × V)} (h : kvs.map (·.1) = (jns.map (·.1)).map (fun z => Sum.inr (SX.S z))) (nd : (jns.map (·.1)).Nodup) : (kvs.map (·.1)).Nodup := by
  rw [h, List.nodup_iff_pairwise_ne, List.pairwise_map]
  exact (List.nodup_iff_pairwise_ne.mp nd).imp fun n e => n (SX.S_inj (Sum.inr.inj e))
theorem jn_keys {jns : List (Nm × List Nm)} {kvs : List (Key × V)} (h : kvs.map (·.1) = (jns.map (·.1)).map (fun z => (Sum.inr (SX.S z) : Key))) : (jns.map fun j => SX.S j.1).map V.str = kvs.map fun kv => kV kv.1 := by
  have : kvs.map (fun kv => kV kv.1) = (kvs.map (·.1)).map kV := by rw [List.map_map]; rfl
  rw [this, h, List.map_map, List.map_map, List.map_map]
  rfl
section
variable {P : Program} {w : World} {K : PySem.W.Frag} {mg : Str → Option Value} {base : Heap} {k : Nat}
def sp_l_retf : Sp := fun vs H Q _ => ∃ (r t : Addr) (x : HD) (pvs : List V) (p0 p1 p2 p3 p4 p5 p6 p7 p8 p9 : PyData), vs = [.ref r, .ref t] ∧ NetAt H r x.ls x.sts x.jns x.tis ∧ HsOk x ∧ H t = some (.tup pvs) ∧ DtAll SA H pvs [p0, p1, p2, p3, p4, p5, p6, p7, p8, p9] ∧ SeqAt.shaped (.tuple [p0, p1, p2, p3, p4, p5, p6, p7, p8, p9]) = true ∧
  ∀ H', Same H H' → Q (.int (runCk x [p0, p1, p2, p3, p4, p5, p6, p7, p8, p9] [9, 2, 4, 0, 10, 11, 12] [p3, p4, p5, p6, p7, p8, p9] 3)) H'
set_option maxHeartbeats 16000000 in
theorem ok_l_return_fault (T : Defs K mg) : FnOk P w K mg base CX0 (k + 2) T.a_l_return_fault T.d_l_return_fault ["_law_net_here", "_law_thing"] sp_l_retf := by
  have G_l_whole : FnOk P w K mg base CX0 (k + 1) _ _ _ _ := ok_l_whole (k := k) T
  have G_l_in : FnOk P w K mg base CX0 (k + 1) _ _ _ _ := ok_l_in (k := k) T
  refine T.F_l_return_fault.ok sc_l_return_fault (fun vs H Q E h => ?_) (fun cdv A outer s H vs Q E hr h => ?_)
  · obtain ⟨r, t, x, pvs, p0, p1, p2, p3, p4, p5, p6, p7, p8, p9, rfl, _⟩ := h
    rfl
  · obtain ⟨r, t, x, pvs, p0, p1, p2, p3, p4, p5, p6, p7, p8, p9, rfl, hnet, hx, et, hpv, sd, q⟩ := h
    refine ⟨_, PSs.nox
(pss_cons (ps_set (i := 2) sc_l_return_fault.nd rfl (.inl rfl) (pe_callTy (r := rDictF K) (call_dictF rfl) (by rfl) T.z_dict (by decide +kernel) (pa_cons (pe_ix (r := rIxT K) ix_tup (pv 0) (pe_int) (fun _ _ => rfl)) pa_nil)))
    (pss_cons (ps_set (i := 3) sc_l_return_fault.nd rfl (.inl rfl) (pe_lst (pa_cons (pe_call G_l_in hr (by rfl) T.g_l_in T.F_l_in.kp T.b_l_in .nil pass0 (pa_cons (pe_ix (r := rIxT K) ix_tup (pv 1) (pe_int) (fun _ _ => rfl)) (pa_cons (pv 2) pa_nil))) (pa_cons (pe_call G_l_whole hr (by rfl) T.g_l_whole T.F_l_whole.kp T.b_l_whole .nil pass0 (pa_cons (pe_ix (r := rIxT K) ix_tup (pv 1) (pe_int) (fun _ _ => rfl)) (pa_cons (pe_int) (pa_cons (pe_int) pa_nil)))) (pa_cons (pe_call G_l_whole hr (by rfl) T.g_l_whole T.F_l_whole.kp T.b_l_whole .nil pass0 (pa_cons (pe_ix (r := rIxT K) ix_tup (pv 1) (pe_int) (fun _ _ => rfl)) (pa_cons (pe_int) (pa_cons (pe_int) pa_nil)))) pa_nil)))))
    (pss_cons (ps_expr (pe_bm PySem.F.plainAttrs_list PySem.F.slot_list_append PySem.F.type_list_append mt_append (pv 3) (pa_cons (pe_call G_l_whole hr (by rfl) T.g_l_whole T.F_l_whole.kp T.b_l_whole .nil pass0 (pa_cons (pe_ix (r := rIxT K) ix_tup (pv 1) (pe_int) (fun _ _ => rfl)) (pa_cons (pe_int) (pa_cons (pe_int) pa_nil)))) pa_nil)))
    (pss_cons (ps_expr (pe_bm PySem.F.plainAttrs_list PySem.F.slot_list_append PySem.F.type_list_append mt_append (pv 3) (pa_cons (pe_and (pe_ix (r := rIxL K) ix_list (pv 3) (pe_int) (fun _ _ => rfl)) (pe_one (pe_call G_l_in hr (by rfl) T.g_l_in T.F_l_in.kp T.b_l_in .nil pass0 (pa_cons (pe_ix (r := rIxT K) ix_tup (pv 1) (pe_int) (fun _ _ => rfl)) (pa_cons (pe_dget (hu_of hr) (pv 2) (pe_ix (r := rIxT K) ix_tup (pv 1) (pe_int) (fun _ _ => rfl)) (fun _ _ => rfl)) pa_nil))))) pa_nil)))
    (pss_cons (ps_set (i := 3) sc_l_return_fault.nd rfl (.inl rfl) (pe_op op_cat (pv 3) (pe_lst (pa_cons (pe_call G_l_in hr (by rfl) T.g_l_in T.F_l_in.kp T.b_l_in .nil pass0 (pa_cons (pe_ix (r := rIxT K) ix_tup (pv 1) (pe_int) (fun _ _ => rfl)) (pa_cons (pe_lst (pa_cons (pe_str) (pa_cons (pe_str) pa_nil))) pa_nil))) (pa_cons (pe_call G_l_in hr (by rfl) T.g_l_in T.F_l_in.kp T.b_l_in .nil pass0 (pa_cons (pe_ix (r := rIxT K) ix_tup (pv 1) (pe_int) (fun _ _ => rfl)) (pa_cons (pe_lst (pa_cons (pe_str) (pa_cons (pe_str) pa_nil))) pa_nil))) pa_nil)))))
    (pss_one (ps_ret (pe_ifExp (pt_cmpR (r := rIn K false) op_in_seq (pe_bl) (pv 3) (by rfl)) (pe_op op_add (pe_int) (pe_bm PySem.F.plainAttrs_list PySem.F.slot_list_index PySem.F.type_list_index mt_index (pv 3) (pa_cons (pe_bl) pa_nil))) (pe_un un_neg (pe_int))))))))))
      , ?_⟩
    obtain ⟨na, nb, nc, nd, sa, ja, ta, er, ea, eb, hS, ec, hJ, ed, hti⟩ := id hnet
    obtain ⟨v0, v1, v2, v3, v4, v5, v6, v7, v8, v9, rfl, h3, h4, h5, h6, h7, h8, h9⟩ : ∃ v0 v1 v2 v3 v4 v5 v6 v7 v8 v9, pvs = [v0, v1, v2, v3, v4, v5, v6, v7, v8, v9] ∧ Dt SA H v3 p3 ∧ Dt SA H v4 p4 ∧ Dt SA H v5 p5 ∧ Dt SA H v6 p6 ∧ Dt SA H v7 p7 ∧ Dt SA H v8 p8 ∧ Dt SA H v9 p9 := by
      cases hpv with
      | cons _ z => cases z with
        | cons _ z => cases z with
          | cons _ z => cases z with
            | cons h3 z => cases z with
              | cons h4 z => cases z with
                | cons h5 z => cases z with
                  | cons h6 z => cases z with
                    | cons h7 z => cases z with
                      | cons h8 z => cases z with
                        | cons h9 z =>
                          cases z
                          exact ⟨_, _, _, _, _, _, _, _, _, _, rfl, h3, h4, h5, h6, h7, h8, h9⟩
    obtain ⟨kvs, hkv, hks, hmem⟩ := jn_dictA (K := K) hJ
    have hmg : mergeK [] kvs = kvs := merge_nd _ [] (by rw [List.nil_append]; exact jn_keys_nd hks hx.nd)
    have so : ∀ s ∈ x.jns.map (fun j => SX.S j.1), PyData.strOk s = true := fun s hs => by
      obtain ⟨j, hj, rfl⟩ := List.mem_map.mp hs
      exact nm_ok (hx.js.1 j hj).1
    refine ⟨.ref r, rfl, r, _, 2, .ref nc, rfl, rfl, SqT.of er, atI_nat (j := 2) rfl, nc, ja, kvs, rfl, ec, hkv, fun dd ndd => ?_⟩
    rw [hmg]
    have s1 := same_upd (o := .dK kvs) ndd
    have ed1 : (upd H dd (.dK kvs)) dd = some (.dK kvs) := upd_same
    generalize upd H dd (.dK kvs) = H1 at s1 ed1 ⊢
    have et1 := s1 _ _ et
    refine ⟨.ref t, rfl, t, _, 3, v3, rfl, rfl, SqT.of et1, atI_nat (j := 3) rfl, .ref dd, rfl, v3, p3, dd, x.jns.map (fun j => SX.S j.1), rfl, .inr ⟨kvs, .inl ed1, jn_keys hks⟩, h3.same s1, shaped_item sd (by simp), so, fun H2 s2 => ?_⟩
    have s02 := s1.trans s2
    have et2 := s02 _ _ et
    refine ⟨.ref t, rfl, t, _, 4, v4, rfl, rfl, SqT.of et2, atI_nat (j := 4) rfl, v4, p4, 1, 420, rfl, h4.same s02, ?_⟩
    refine ⟨.ref t, rfl, t, _, 5, v5, rfl, rfl, SqT.of et2, atI_nat (j := 5) rfl, v5, p5, 0, 23, rfl, h5.same s02, ?_⟩
    refine ⟨by show 3 ≤ sizeLine; decide, fun M nM => ?_⟩
    have sM := same_upd (o := .lst [V.bl (strIn (x.jns.map fun j => SX.S j.1) p3), V.bl (betD p4 1 420), V.bl (betD p5 0 23)]) nM
    have eM : (upd H2 M (.lst [V.bl (strIn (x.jns.map fun j => SX.S j.1) p3), V.bl (betD p4 1 420), V.bl (betD p5 0 23)])) M = some (.lst ([strIn (x.jns.map fun j => SX.S j.1) p3, betD p4 1 420, betD p5 0 23].map V.bl)) := upd_same
    have nM0 : H M = none := s02.free nM
    have s0M := s02.trans sM
    generalize upd H2 M (.lst [V.bl (strIn (x.jns.map fun j => SX.S j.1) p3), V.bl (betD p4 1 420), V.bl (betD p5 0 23)]) = Hm at sM eM s0M ⊢
    have ed2 : Hm dd = some (.dK kvs) := (s2.trans sM) _ _ ed1
    have nMd : dd ≠ M := fun z => by rw [z, eM] at ed2; cases ed2
    refine ⟨.ref M, rfl, .inl ⟨rfl, _, SqL.of eM⟩, .ref t, rfl, t, _, 6, v6, rfl, rfl, SqT.of (s0M _ _ et), atI_nat (j := 6) rfl, v6, p6, 1, 9999, rfl, h6.same s0M, ?_⟩
    refine ⟨M, _, _, rfl, rfl, eM, by show 3 < sizeLine; decide, ?_⟩
    have s03 := same_set (o := .lst ([strIn (x.jns.map fun j => SX.S j.1) p3, betD p4 1 420, betD p5 0 23].map V.bl ++ [V.bl (betD p6 1 9999)])) s0M nM0
    have ed3 : (upd Hm M (.lst ([strIn (x.jns.map fun j => SX.S j.1) p3, betD p4 1 420, betD p5 0 23].map V.bl ++ [V.bl (betD p6 1 9999)]))) dd = some (.dK kvs) := by rw [upd_ne nMd]; exact ed2
    have eM3 : (upd Hm M (.lst ([strIn (x.jns.map fun j => SX.S j.1) p3, betD p4 1 420, betD p5 0 23].map V.bl ++ [V.bl (betD p6 1 9999)]))) M = some (.lst ([strIn (x.jns.map fun j => SX.S j.1) p3, betD p4 1 420, betD p5 0 23, betD p6 1 9999].map V.bl)) := upd_same
    generalize upd Hm M (.lst ([strIn (x.jns.map fun j => SX.S j.1) p3, betD p4 1 420, betD p5 0 23].map V.bl ++ [V.bl (betD p6 1 9999)])) = H3 at s03 ed3 eM3 ⊢
    clear eM
    have eM := eM3
    clear eM3
    refine ⟨.ref M, rfl, .inl ⟨rfl, _, SqL.of eM⟩, .ref M, rfl, M, _, 0, .bl (strIn (x.jns.map fun j => SX.S j.1) p3), rfl, rfl, SqL.of eM, atI_nat (j := 0) rfl, strIn (x.jns.map fun j => SX.S j.1) p3, rfl, ?_⟩
    cases g : strIn (x.jns.map fun j => SX.S j.1) p3
    case' true =>
      rw [g] at eM
      obtain ⟨s0, rfl, hs0⟩ := strIn_str g
      obtain ⟨jn, hjn, fj, ej⟩ : ∃ jn, jn ∈ x.jns ∧ x.jns.find? (fun j => decide (SX.S j.1 = s0)) = some jn ∧ SX.S jn.1 = s0 := by
        cases f : x.jns.find? (fun j => decide (SX.S j.1 = s0)) with
        | none =>
          obtain ⟨j, hj, e⟩ := List.mem_map.mp hs0
          exact absurd (decide_eq_true e) (List.find?_eq_none.mp f j hj)
        | some j => exact ⟨j, List.mem_of_find?_eq_some f, rfl, of_decide_eq_true (List.find?_some (p := fun j : Nm × List Nm => decide (SX.S j.1 = s0)) f)⟩
      obtain ⟨jt, hjt1, hjt2⟩ := hmem jn hjn
      cases h3
      have vv : valV kvs (Sum.inr s0) = some (.ref jt) := by
        rw [← hmg, ← ej]
        exact val_merge_nd (jn_keys_nd hks hx.nd) hjt1
      refine iteT ⟨.ref t, rfl, t, _, 7, v7, rfl, rfl, SqT.of (s03 _ _ et), atI_nat (j := 7) rfl, .ref dd, rfl, .ref t, rfl, t, _, 3, .str s0, rfl, rfl, SqT.of (s03 _ _ et), atI_nat (j := 3) rfl, dd, .ref jt, rfl, by rw [← vv]; exact DGet.k (k := Sum.inr s0) ed3, v7, p7, jt, jn.2.map SX.S, rfl, .inl (.inr (by rw [map_nS]; exact SqT.of (s03 _ _ hjt2))), h7.same s03, shaped_item sd (by simp), nms_strok (hx.js.1 jn hjn).2.1, fun H4 s4 => ?_⟩
      have eM4 := s4 _ _ eM
      have s04 := s03.trans s4
      clear eM s03
      have eM := eM4
      have s03 := s04
      generalize H4 = H3 at eM s03 ⊢
      refine ⟨M, _, _, rfl, rfl, eM, by show 4 < sizeLine; decide, ?_⟩
      have s5 := same_set (o := .lst ([true, betD p4 1 420, betD p5 0 23, betD p6 1 9999].map V.bl ++ [V.bl (strIn (jn.2.map SX.S) p7)])) s03 nM0
      have eM5 : (upd H3 M (.lst ([true, betD p4 1 420, betD p5 0 23, betD p6 1 9999].map V.bl ++ [V.bl (strIn (jn.2.map SX.S) p7)]))) M = some (.lst ([true, betD p4 1 420, betD p5 0 23, betD p6 1 9999, (strIn (jn.2.map SX.S) p7)].map V.bl)) := upd_same
      generalize upd H3 M (.lst ([true, betD p4 1 420, betD p5 0 23, betD p6 1 9999].map V.bl ++ [V.bl (strIn (jn.2.map SX.S) p7)])) = H5 at s5 eM5 ⊢
      refine ⟨.ref M, rfl, .ref t, rfl, t, _, 8, v8, rfl, rfl, SqT.of (s5 _ _ et), atI_nat (j := 8) rfl, by show 2 ≤ sizeLine; decide, fun A1 nA1 => ?_⟩
      have sA := same_upd (o := .lst [.str ("laden" : Str), .str ("empty" : Str)]) nA1
      refine ⟨v8, p8, A1, [("laden" : Str), ("empty" : Str)], rfl, .inl (.inl (SqL.of upd_same)), h8.same (s5.trans sA), shaped_item sd (by simp), by decide +kernel, fun H6 s6 => ?_⟩
      have s56 := sA.trans s6
      refine ⟨.ref t, rfl, t, _, 9, v9, rfl, rfl, SqT.of ((s5.trans s56) _ _ et), atI_nat (j := 9) rfl, by show 2 ≤ sizeLine; decide, fun A2 nA2 => ?_⟩
      have sA2 := same_upd (o := .lst [.str ("whole" : Str), .str ("broken" : Str)]) nA2
      refine ⟨v9, p9, A2, [("whole" : Str), ("broken" : Str)], rfl, .inl (.inl (SqL.of upd_same)), h9.same ((s5.trans s56).trans sA2), shaped_item sd (by simp), by decide +kernel, fun H7 s7 => ?_⟩
      have s57 := s56.trans (sA2.trans s7)
      refine ⟨by show 2 ≤ sizeLine; decide, fun N nN => ?_⟩
      have sN := same_upd (o := .lst [V.bl (strIn [("laden" : Str), ("empty" : Str)] p8), V.bl (strIn [("whole" : Str), ("broken" : Str)] p9)]) nN
      have eN : (upd H7 N (.lst [V.bl (strIn [("laden" : Str), ("empty" : Str)] p8), V.bl (strIn [("whole" : Str), ("broken" : Str)] p9)])) N = some (.lst [V.bl (strIn [("laden" : Str), ("empty" : Str)] p8), V.bl (strIn [("whole" : Str), ("broken" : Str)] p9)]) := upd_same
      have eM8 := (s57.trans sN) _ _ eM5
      have s08 := s5.trans (s57.trans sN)
      generalize upd H7 N (.lst [V.bl (strIn [("laden" : Str), ("empty" : Str)] p8), V.bl (strIn [("whole" : Str), ("broken" : Str)] p9)]) = H8 at sN eN eM8 s08 ⊢
      refine ⟨M, N, _, _, rfl, rfl, eM8, eN, by show 7 ≤ sizeLine; decide, fun R nR => ?_⟩
      have sR := same_upd (o := .lst ([true, betD p4 1 420, betD p5 0 23, betD p6 1 9999, (strIn (jn.2.map SX.S) p7)].map V.bl ++ [V.bl (strIn [("laden" : Str), ("empty" : Str)] p8), V.bl (strIn [("whole" : Str), ("broken" : Str)] p9)])) nR
      have eR : (upd H8 R (.lst ([true, betD p4 1 420, betD p5 0 23, betD p6 1 9999, (strIn (jn.2.map SX.S) p7)].map V.bl ++ [V.bl (strIn [("laden" : Str), ("empty" : Str)] p8), V.bl (strIn [("whole" : Str), ("broken" : Str)] p9)]))) R = some (.lst ([true, betD p4 1 420, betD p5 0 23, betD p6 1 9999, (strIn (jn.2.map SX.S) p7), strIn [("laden" : Str), ("empty" : Str)] p8, strIn [("whole" : Str), ("broken" : Str)] p9].map V.bl)) := upd_same
      refine look_end (K := K) (n := 3) ?_ eR ?_
      · rfl
      rw [fst_run (x := x) (pds := [p0, p1, p2, .str s0, p4, p5, p6, p7, p8, p9]) (js := [9, 2, 4, 0, 10, 11, 12]) (ds := [.str s0, p4, p5, p6, p7, p8, p9]) rfl rfl fun m hm j d b a1 a2 a3 => ?_]
      · exact q _ (s08.trans sR)
      · match m, a1, a2, a3 with
        | 0, a1, a2, a3 => cases a1; cases a2; cases a3; exact congrArg some g
        | 1, a1, a2, a3 => cases a1; cases a2; cases a3; rfl
        | 2, a1, a2, a3 => cases a1; cases a2; cases a3; rfl
        | 3, a1, a2, a3 => cases a1; cases a2; cases a3; rfl
        | 4, a1, a2, a3 => cases a1; cases a2; cases a3; show overD x [p0, p1, p2, .str s0, p4, p5, p6, p7, p8, p9] p7 = _; unfold overD; show (x.jns.find? fun j => decide (SX.S j.1 = s0)).map _ = _; rw [fj]; rfl
        | 5, a1, a2, a3 => cases a1; cases a2; cases a3; rfl
        | 6, a1, a2, a3 => cases a1; cases a2; cases a3; rfl
        | n + 7, a1, _, _ => cases a1
    case' false =>
      rw [g] at eM
      refine iteF ?_
      refine ⟨M, _, _, rfl, rfl, eM, by show 4 < sizeLine; decide, ?_⟩
      have s5 := same_set (o := .lst ([false, betD p4 1 420, betD p5 0 23, betD p6 1 9999].map V.bl ++ [V.bl false])) s03 nM0
      have eM5 : (upd H3 M (.lst ([false, betD p4 1 420, betD p5 0 23, betD p6 1 9999].map V.bl ++ [V.bl false]))) M = some (.lst ([false, betD p4 1 420, betD p5 0 23, betD p6 1 9999, false].map V.bl)) := upd_same
      generalize upd H3 M (.lst ([false, betD p4 1 420, betD p5 0 23, betD p6 1 9999].map V.bl ++ [V.bl false])) = H5 at s5 eM5 ⊢
      refine ⟨.ref M, rfl, .ref t, rfl, t, _, 8, v8, rfl, rfl, SqT.of (s5 _ _ et), atI_nat (j := 8) rfl, by show 2 ≤ sizeLine; decide, fun A1 nA1 => ?_⟩
      have sA := same_upd (o := .lst [.str ("laden" : Str), .str ("empty" : Str)]) nA1
      refine ⟨v8, p8, A1, [("laden" : Str), ("empty" : Str)], rfl, .inl (.inl (SqL.of upd_same)), h8.same (s5.trans sA), shaped_item sd (by simp), by decide +kernel, fun H6 s6 => ?_⟩
      have s56 := sA.trans s6
      refine ⟨.ref t, rfl, t, _, 9, v9, rfl, rfl, SqT.of ((s5.trans s56) _ _ et), atI_nat (j := 9) rfl, by show 2 ≤ sizeLine; decide, fun A2 nA2 => ?_⟩
      have sA2 := same_upd (o := .lst [.str ("whole" : Str), .str ("broken" : Str)]) nA2
      refine ⟨v9, p9, A2, [("whole" : Str), ("broken" : Str)], rfl, .inl (.inl (SqL.of upd_same)), h9.same ((s5.trans s56).trans sA2), shaped_item sd (by simp), by decide +kernel, fun H7 s7 => ?_⟩
      have s57 := s56.trans (sA2.trans s7)
      refine ⟨by show 2 ≤ sizeLine; decide, fun N nN => ?_⟩
      have sN := same_upd (o := .lst [V.bl (strIn [("laden" : Str), ("empty" : Str)] p8), V.bl (strIn [("whole" : Str), ("broken" : Str)] p9)]) nN
      have eN : (upd H7 N (.lst [V.bl (strIn [("laden" : Str), ("empty" : Str)] p8), V.bl (strIn [("whole" : Str), ("broken" : Str)] p9)])) N = some (.lst [V.bl (strIn [("laden" : Str), ("empty" : Str)] p8), V.bl (strIn [("whole" : Str), ("broken" : Str)] p9)]) := upd_same
      have eM8 := (s57.trans sN) _ _ eM5
      have s08 := s5.trans (s57.trans sN)
      generalize upd H7 N (.lst [V.bl (strIn [("laden" : Str), ("empty" : Str)] p8), V.bl (strIn [("whole" : Str), ("broken" : Str)] p9)]) = H8 at sN eN eM8 s08 ⊢
      refine ⟨M, N, _, _, rfl, rfl, eM8, eN, by show 7 ≤ sizeLine; decide, fun R nR => ?_⟩
      have sR := same_upd (o := .lst ([false, betD p4 1 420, betD p5 0 23, betD p6 1 9999, false].map V.bl ++ [V.bl (strIn [("laden" : Str), ("empty" : Str)] p8), V.bl (strIn [("whole" : Str), ("broken" : Str)] p9)])) nR
      have eR : (upd H8 R (.lst ([false, betD p4 1 420, betD p5 0 23, betD p6 1 9999, false].map V.bl ++ [V.bl (strIn [("laden" : Str), ("empty" : Str)] p8), V.bl (strIn [("whole" : Str), ("broken" : Str)] p9)]))) R = some (.lst ([false, betD p4 1 420, betD p5 0 23, betD p6 1 9999, false, strIn [("laden" : Str), ("empty" : Str)] p8, strIn [("whole" : Str), ("broken" : Str)] p9].map V.bl)) := upd_same
      refine look_end (K := K) (n := 3) ?_ eR ?_
      · rfl
      rw [fst_run (x := x) (pds := [p0, p1, p2, p3, p4, p5, p6, p7, p8, p9]) (js := [9, 2, 4, 0, 10, 11, 12]) (ds := [p3, p4, p5, p6, p7, p8, p9]) rfl rfl fun m hm j d b a1 a2 a3 => ?_]
      · exact q _ (s08.trans sR)
      · match m, a1, a2, a3 with
        | 0, a1, a2, a3 => cases a1; cases a2; cases a3; exact congrArg some g
        | 1, a1, a2, a3 => cases a1; cases a2; cases a3; rfl
        | 2, a1, a2, a3 => cases a1; cases a2; cases a3; rfl
        | 3, a1, a2, a3 => cases a1; cases a2; cases a3; rfl
        | 4, a1, a2, a3 => cases a1; cases a2; cases a3; exact absurd (hm 0 (by omega)) (fun z => by cases z)
        | 5, a1, a2, a3 => cases a1; cases a2; cases a3; rfl
        | 6, a1, a2, a3 => cases a1; cases a2; cases a3; rfl
        | n + 7, a1, _, _ => cases a1
end
end Th
namespace Th
open PySem PySem.Spec PyProof.Rows L2
/-! the law's own faults: the last thing, the whole -/
def goodL (x : HD) (kd : Str) (d : PyData) : Bool := if kd = ("claim" : Str) then betD d 0 1000000000 else if kd = ("answer" : Str) then lineD x d else rulD x d
theorem strIn_mem {ss : List Str} {s : Str} : strIn ss (.str s) = decide (s ∈ ss) := by
  rw [Bool.eq_iff_iff, decide_eq_true_eq]
  constructor
  · intro h
    obtain ⟨t, e, m⟩ := strIn_str h
    cases e
    exact m
  · intro h
    exact List.any_eq_true.mpr ⟨.str s, List.mem_map_of_mem (f := PyData.str) h, by simp [PyData.eqv]⟩
theorem eqv_strs {a : PyData} {s : Str} (h : PyData.eqv a (.str s) = true) : a = .str s := by
  cases a with
  | str t => have : (t == s) = true := by simpa [PyData.eqv] using h
             rw [beq_iff_eq.mp this]
  | _ => simp [PyData.eqv] at h
theorem str_eqv (s : Str) (a : PyData) : PyData.eqv (.str s) a = strIn [s] a := by
  unfold strIn
  show _ = (PyData.eqv (.str s) a || false)
  rw [Bool.or_false]
section
variable {P : Program} {w : World} {K : PySem.W.Frag} {mg : Str → Option Value} {base : Heap} {k : Nat}
def sp_l_good : Sp := fun vs H Q _ => ∃ (r t : Addr) (x : HD) (pvs : List V) (kd : Str) (p1 p2 p3 p4 : PyData), vs = [.ref r, .ref t] ∧ NetAt H r x.ls x.sts x.jns x.tis ∧ HsOk x ∧ H t = some (.tup pvs) ∧ DtAll SA H pvs [.str kd, p1, p2, p3, p4] ∧ SeqAt.shaped (.tuple [.str kd, p1, p2, p3, p4]) = true ∧
  ∀ H', Same H H' → Q (.bl (goodL x kd p4)) H'
set_option maxHeartbeats 16000000 in
theorem ok_l_last_good (T : Defs K mg) : FnOk P w K mg base CX0 (k + 2) T.a_l_last_good T.d_l_last_good ["_law_net_here", "_law_thing"] sp_l_good := by
  have G_l_whole : FnOk P w K mg base CX0 (k + 1) _ _ _ _ := ok_l_whole (k := k) T
  have G_l_in : FnOk P w K mg base CX0 (k + 1) _ _ _ _ := ok_l_in (k := k) T
  refine T.F_l_last_good.ok sc_l_last_good (fun vs H Q E h => ?_) (fun cdv A outer s H vs Q E hr h => ?_)
  · obtain ⟨r, t, x, pvs, kd, p1, p2, p3, p4, rfl, _⟩ := h
    rfl
  · obtain ⟨r, t, x, pvs, kd, p1, p2, p3, p4, rfl, hnet, hx, et, hpv, sd, q⟩ := h
    refine ⟨_, PSs.nox
(pss_cons (ps_set (i := 2) sc_l_last_good.nd rfl (.inl rfl) (pe_ix (r := rIxT K) ix_tup (pv 1) (pe_int) (fun _ _ => rfl)))
    (pss_cons (ps_if (pt_cmpR op_eq (pe_ix (r := rIxT K) ix_tup (pv 1) (pe_int) (fun _ _ => rfl)) (pe_str) (nomark _))
      (pss_one (ps_ret (pe_call G_l_whole hr (by rfl) T.g_l_whole T.F_l_whole.kp T.b_l_whole .nil pass0 (pa_cons (pv 2) (pa_cons (pe_int) (pa_cons (pe_op op_pow (pe_int) (pe_int)) pa_nil))))))
      pss_nil)
    (pss_cons (ps_if (pt_cmpR op_eq (pe_ix (r := rIxT K) ix_tup (pv 1) (pe_int) (fun _ _ => rfl)) (pe_str) (nomark _))
      (pss_one (ps_ret (pe_call G_l_in hr (by rfl) T.g_l_in T.F_l_in.kp T.b_l_in .nil pass0 (pa_cons (pv 2) (pa_cons (pe_ix (r := rIxT K) ix_tup (pv 0) (pe_int) (fun _ _ => rfl)) pa_nil)))))
      pss_nil)
    (pss_cons (ps_if (PW.pt (pw_or (pt_not (pt_val (pe_callB call_isi (by rfl) T.z_isinstance (by decide +kernel) (pa_cons (pv 2) (pa_cons (pe_bltn (v := .ty "tuple") (by rfl) T.z_tuple (by decide +kernel) rfl) pa_nil))))) (pw_or (pt_cmpR (r := rIn K true) op_notIn_seq (pe_callB (r := rLenS K) call_lenS (by rfl) T.z_len (by decide +kernel) (pa_cons (pv 2) pa_nil)) (pe_tup (pa_cons (pe_int) (pa_cons (pe_int) pa_nil))) (by rfl)) (pw_or1 (pt_not (pt_truth (pe_call G_l_in hr (by rfl) T.g_l_in T.F_l_in.kp T.b_l_in .nil pass0 (pa_cons (pe_ix (r := rIxT K) ix_tup (pv 2) (pe_int) (fun _ _ => rfl)) (pa_cons (pe_lst (pa_cons (pe_str) (pa_cons (pe_str) (pa_cons (pe_str) pa_nil)))) pa_nil))) (by intro _; rfl)))))))
      (pss_one (ps_ret (pe_bl)))
      pss_nil)
    (pss_cons (ps_if (pt_cmpR (r := rEqD K) (op_eqD hr.units) (pe_ix (r := rIxT K) ix_tup (pv 2) (pe_int) (fun _ _ => rfl)) (pe_str) (nomark _))
      (pss_one (ps_ret (pe_and (pe_cmpR op_eq (pe_callB (r := rLenS K) call_lenS (by rfl) T.z_len (by decide +kernel) (pa_cons (pv 2) pa_nil)) (pe_int) (nomark _)) (pe_one (pe_call G_l_in hr (by rfl) T.g_l_in T.F_l_in.kp T.b_l_in .nil pass0 (pa_cons (pe_ix (r := rIxT K) ix_tup (pv 2) (pe_int) (fun _ _ => rfl)) (pa_cons (pe_ix (r := rIxT K) ix_tup (pv 0) (pe_int) (fun _ _ => rfl)) pa_nil)))))))
      pss_nil)
    (pss_one (ps_ret (pe_cmpR op_eq (pe_callB (r := rLenS K) call_lenS (by rfl) T.z_len (by decide +kernel) (pa_cons (pv 2) pa_nil)) (pe_int) (nomark _)))))))))
      , ?_⟩
    obtain ⟨na, nb, nc, nd, sa, ja, ta, er, ea, eb, hS, ec, hJ, ed, hti⟩ := id hnet
    obtain ⟨v1, v2, v3, v4, rfl, h4⟩ : ∃ v1 v2 v3 v4, pvs = [.str kd, v1, v2, v3, v4] ∧ Dt SA H v4 p4 := by
      cases hpv with
      | cons h0 z => cases h0; cases z with
        | cons _ z => cases z with
          | cons _ z => cases z with
            | cons h3 z => cases z with
              | cons h4 z =>
                cases z
                exact ⟨_, _, _, _, rfl, h4⟩
    have s4 : SeqAt.shaped p4 = true := shaped_item sd (by simp)
    have p9 : ((10 : Int) ^ (9 : Int).toNat) = 1000000000 := by decide
    refine ⟨.ref t, rfl, t, _, 4, v4, rfl, rfl, SqT.of et, atI_nat (j := 4) rfl, ?_⟩
    refine ⟨.ref t, rfl, t, _, 0, .str kd, rfl, rfl, SqT.of et, atI_nat (j := 0) rfl, rfl, _, rfl, ite2 (fun c => ?_) fun c => ?_⟩
    · have c : kd = ("claim" : Str) := by injection of_decide_eq_true c
      have q' := q
      unfold goodL at q'
      rw [if_pos c] at q'
      refine ⟨v4, rfl, 10, 9, rfl, rfl, ⟨by decide, by decide, by decide⟩, v4, p4, 0, _, rfl, h4, ?_⟩
      rw [p9]
      exact q' _ fun _ _ z => z
    have n1 : kd ≠ ("claim" : Str) := fun z => c (decide_eq_true (by rw [z]))
    unfold goodL at q
    rw [if_neg n1] at q
    refine ⟨.ref t, rfl, t, _, 0, .str kd, rfl, rfl, SqT.of et, atI_nat (j := 0) rfl, rfl, _, rfl, ite2 (fun c => ?_) fun c => ?_⟩
    · have c : kd = ("answer" : Str) := by injection of_decide_eq_true c
      rw [if_pos c] at q
      exact ⟨v4, rfl, .ref r, rfl, r, _, 0, .ref na, rfl, rfl, SqT.of er, atI_nat (j := 0) rfl, v4, p4, na, x.ls.map SX.S, rfl, .inl (.inr (by rw [map_nS]; exact ea.sq)), h4, s4, nms_strok hx.ls.1, fun H1 s1 => q _ s1⟩
    have n2 : kd ≠ ("answer" : Str) := fun z => c (decide_eq_true (by rw [z]))
    rw [if_neg n2] at q
    clear c
    -- a ruling
    refine ⟨v4, rfl, v4, .ty "tuple", _, _, _, rfl, .ty _, h4.ty, kit_T p4, isiT p4, rfl, ?_⟩
    have retF : rulD x p4 = false → Q (.bl false) H := fun e => by rw [← e]; exact q _ fun _ _ z => z
    cases p4 with
    | none => exact iteT (retF rfl)
    | bool _ => exact iteT (retF rfl)
    | int _ => exact iteT (retF rfl)
    | str _ => exact iteT (retF rfl)
    | list _ => exact iteT (retF rfl)
    | dict _ => exact iteT (retF rfl)
    | tuple ds =>
      obtain ⟨u, xs, rfl, eu, hxs⟩ : ∃ a xs, v4 = .ref a ∧ H a = some (.tup xs) ∧ DtAll SA H xs ds := by
        cases h4 with
        | tup _ e _ r => exact ⟨_, _, rfl, e, r⟩
      have xl := hxs.len
      refine iteF ⟨.ref u, rfl, u, _, rfl, .inr (SqT.of eu), by show 2 ≤ sizeLine; decide, fun o no => ?_⟩
      have so := same_upd (o := .tup [V.int 1, .int 2]) no
      have eo : (upd H o (.tup [V.int 1, .int 2])) o = some (.tup [V.int 1, .int 2]) := upd_same
      generalize upd H o (.tup [V.int 1, .int 2]) = H1 at so eo ⊢
      have retF1 : rulD x (.tuple ds) = false → ∀ H', Same H1 H' → Q (.bl false) H' := fun e H' s => by rw [← e]; exact q _ (so.trans s)
      refine ⟨o, _, rfl, .inr (SqT.of eo), rfl, rfl, _, rfl, ?_⟩
      cases hxs with
      | nil => exact iteT (retF1 rfl _ fun _ _ z => z)
      | cons ha hr' =>
        rename_i va xs a ds
        have ha1 := ha.same so
        have sa : SeqAt.shaped a = true := shaped_item s4 List.mem_cons_self
        cases hr' with
        | nil =>
          refine iteF ⟨.ref u, rfl, u, _, 0, va, rfl, rfl, SqT.of (so _ _ eu), atI_nat (j := 0) rfl, by show 3 ≤ sizeLine; decide, fun A2 nA2 => ?_⟩
          have sA := same_upd (o := .lst [.str ("seals" : Str), .str ("none" : Str), .str ("line" : Str)]) nA2
          refine ⟨va, a, A2, [("seals" : Str), ("none" : Str), ("line" : Str)], rfl, .inl (.inl (SqL.of upd_same)), ha1.same sA, sa, by decide +kernel, fun H3 s3 => ?_⟩
          have s13 := sA.trans s3
          have s03 := so.trans s13
          have rd : rulD x (.tuple [a]) = (PyData.eqv (.str ("seals" : Str)) a || PyData.eqv (.str ("none" : Str)) a) := rfl
          cases g : strIn [("seals" : Str), ("none" : Str), ("line" : Str)] a with
          | false =>
            refine ⟨false, rfl, iteT (retF1 ?_ _ s13)⟩
            rw [rd, str_eqv, str_eqv]
            cases a with
            | str z =>
              rw [strIn_mem] at g ⊢
              rw [strIn_mem]
              have g := of_decide_eq_false g
              rw [decide_eq_false fun y => g (by rw [List.mem_singleton.mp y]; simp), decide_eq_false fun y => g (by rw [List.mem_singleton.mp y]; simp)]
              rfl
            | _ => rfl
          | true =>
            obtain ⟨z, rfl, hz⟩ := strIn_str g
            refine ⟨true, rfl, iteF ⟨.ref u, rfl, u, _, 0, va, rfl, rfl, SqT.of (s03 _ _ eu), atI_nat (j := 0) rfl, .str z, .str ("line" : Str), (ha.same s03).dp, .str _, sa, by decide +kernel, _, rfl, ite2 (fun c3 => ?_) fun c3 => ?_⟩⟩
            · have ez : z = ("line" : Str) := by have := eqv_strs c3; injection this
              refine ⟨.ref u, rfl, u, _, rfl, .inr (SqT.of (s03 _ _ eu)), rfl, false, rfl, iteF (retF1 ?_ _ s13)⟩
              rw [rd, ez]
              decide +kernel
            · refine ⟨.ref u, rfl, u, _, rfl, .inr (SqT.of (s03 _ _ eu)), rfl, ?_⟩
              have e1 : rulD x (.tuple [.str z]) = true := by
                rw [rd, str_eqv, str_eqv, strIn_mem, strIn_mem]
                simp only [List.mem_cons, List.not_mem_nil, or_false] at hz
                rcases hz with rfl | rfl | rfl
                · simp
                · simp
                · exact absurd (SeqAt.eqv_refl (.str ("line" : Str)) (by decide +kernel)) c3
              have := q _ s03
              rw [e1] at this
              exact this
        | cons hb hr2 =>
          rename_i vb xs b ds
          have sb : SeqAt.shaped b = true := shaped_item s4 (List.mem_cons_of_mem _ List.mem_cons_self)
          cases hr2 with
          | nil =>
            refine iteF ⟨.ref u, rfl, u, _, 0, va, rfl, rfl, SqT.of (so _ _ eu), atI_nat (j := 0) rfl, by show 3 ≤ sizeLine; decide, fun A2 nA2 => ?_⟩
            have sA := same_upd (o := .lst [.str ("seals" : Str), .str ("none" : Str), .str ("line" : Str)]) nA2
            refine ⟨va, a, A2, [("seals" : Str), ("none" : Str), ("line" : Str)], rfl, .inl (.inl (SqL.of upd_same)), ha1.same sA, sa, by decide +kernel, fun H3 s3 => ?_⟩
            have s13 := sA.trans s3
            have s03 := so.trans s13
            have rd : rulD x (.tuple [a, b]) = (PyData.eqv a (.str ("line" : Str)) && lineD x b) := rfl
            have noLine : PyData.eqv a (.str ("line" : Str)) = false → rulD x (.tuple [a, b]) = false := fun e => by rw [rd, e, Bool.false_and]
            cases g : strIn [("seals" : Str), ("none" : Str), ("line" : Str)] a with
            | false =>
              refine ⟨false, rfl, iteT (retF1 (noLine ?_) _ s13)⟩
              cases e : PyData.eqv a (.str ("line" : Str)) with
              | false => rfl
              | true =>
                rw [eqv_strs e, strIn_mem] at g
                exact absurd g (by decide +kernel)
            | true =>
              refine ⟨true, rfl, iteF ⟨.ref u, rfl, u, _, 0, va, rfl, rfl, SqT.of (s03 _ _ eu), atI_nat (j := 0) rfl, a, .str ("line" : Str), (ha.same s03).dp, .str _, sa, by decide +kernel, _, rfl, ite2 (fun c3 => ?_) fun c3 => ?_⟩⟩
              · refine ⟨.ref u, rfl, u, _, rfl, .inr (SqT.of (s03 _ _ eu)), rfl, true, rfl, iteT ⟨.ref u, rfl, u, _, 1, vb, rfl, rfl, SqT.of (s03 _ _ eu), atI_nat (j := 1) rfl, .ref r, rfl, r, _, 0, .ref na, rfl, rfl, SqT.of (s03 _ _ er), atI_nat (j := 0) rfl, vb, b, na, x.ls.map SX.S, rfl, .inl (.inr (by rw [map_nS]; exact (ea.same s03).sq)), hb.same s03, sb, nms_strok hx.ls.1, fun H4 s4' => ?_⟩⟩
                have := q _ (s03.trans s4')
                rw [rd, show PyData.eqv a (.str ("line" : Str)) = true from c3, Bool.true_and] at this
                exact this
              · refine ⟨.ref u, rfl, u, _, rfl, .inr (SqT.of (s03 _ _ eu)), rfl, ?_⟩
                have := q _ s03
                rw [noLine (by simpa using c3)] at this
                exact this
          | cons hc hr3 =>
            rename_i vc xs c0 ds
            have l3 : ∀ n : Nat, inV (V.int ((n + 3 : Nat) : Int)) [V.int 1, V.int 2] = false := fun n => by
              show (decide ((1 : Int) = ((n + 3 : Nat) : Int)) || (decide ((2 : Int) = ((n + 3 : Nat) : Int)) || false)) = false
              rw [decide_eq_false (by omega), decide_eq_false (by omega)]
              rfl
            have e3 : (!inV (V.int ((va :: vb :: vc :: xs).length : Int)) [V.int 1, V.int 2]) = true := by
              rw [show (va :: vb :: vc :: xs).length = xs.length + 3 from rfl, l3]
              rfl
            show (if (!inV (V.int ((va :: vb :: vc :: xs).length : Int)) [V.int 1, V.int 2]) = true then _ else _)
            rw [e3]
            exact iteT (retF1 rfl _ fun _ _ z => z)
end
end Th
namespace Th
open PySem PySem.Spec PyProof.Rows L2
/-! the law's own fault -/
/-- how many things a paper of a kind has -/
def CNT : List (Key × V) := [(.inr ("waybill" : Str), .int 9), (.inr ("return" : Str), .int 10), (.inr ("toll" : Str), .int 7), (.inr ("claim" : Str), .int 5), (.inr ("answer" : Str), .int 5), (.inr ("ruling" : Str), .int 5), (.inr ("withdrawal" : Str), .int 4)]
theorem cnt_merge : mergeK [] CNT = CNT := merge_nd _ [] (by decide +kernel)
theorem cnt_in {kd : Str} (h : kd ∈ KINDS_L) : valV CNT (.inr kd) = some (.int (((wordsK (kindI kd)).length : Int) + 1)) := by
  unfold KINDS_L at h
  simp only [List.mem_cons, List.not_mem_nil, or_false] at h
  rcases h with rfl | rfl | rfl | rfl | rfl | rfl | rfl <;> decide +kernel
theorem cnt_out {kd : Str} (h : kd ∉ KINDS_L) : valV CNT (.inr kd) = none := by
  unfold valV
  rw [Option.map_eq_none_iff, List.find?_eq_none]
  intro p hp z
  have e : p.1 = .inr kd := of_decide_eq_true z
  have m : p.1 ∈ CNT.map (·.1) := List.mem_map_of_mem hp
  rw [e, show CNT.map (·.1) = KINDS_L.map Sum.inr from rfl] at m
  obtain ⟨y, hy, ey⟩ := List.mem_map.mp m
  exact h (by rw [← Sum.inr.inj ey]; exact hy)
theorem run_two {x : HD} {pds : List PyData} {js : List Nat} {d1 d2 : PyData} {ds : List PyData} : runCk x pds (0 :: 1 :: js) (d1 :: d2 :: ds) 1 = if betD d1 1 9999 = true then (if betD d2 1 99 = true then runCk x pds js ds 3 else 2) else 1 := by
  show (if some (betD d1 1 9999) = some true then (if some (betD d2 1 99) = some true then runCk x pds js ds 3 else ((1 + 1 : Nat) : Int)) else ((1 : Nat) : Int)) = _
  cases betD d1 1 9999 <;> cases betD d2 1 99 <;> rfl
theorem run_one {x : HD} {pds : List PyData} {j : Nat} {d : PyData} {b : Bool} {n : Nat} (h : ckI j x pds d = some b) : runCk x pds [j] [d] n = if b = true then -1 else (n : Int) := by
  show (if ckI j x pds d = some true then (-1 : Int) else (n : Int)) = _
  rw [h]
  cases b <;> rfl
theorem words01 {q : Nat} (h : q < 7) : ∃ js, wordsK q = 0 :: 1 :: js := by
  match q, h with
  | 0, _ => exact ⟨_, rfl⟩
  | 1, _ => exact ⟨_, rfl⟩
  | 2, _ => exact ⟨_, rfl⟩
  | 3, _ => exact ⟨_, rfl⟩
  | 4, _ => exact ⟨_, rfl⟩
  | 5, _ => exact ⟨_, rfl⟩
  | 6, _ => exact ⟨_, rfl⟩
section
variable {P : Program} {w : World} {K : PySem.W.Frag} {mg : Str → Option Value} {base : Heap} {k : Nat}
def sp_l_fault : Sp := fun vs H Q _ => ∃ (h : Addr) (v : V) (x : HD) (d : PyData), vs = [.ref h, v] ∧ LhAt H h x ∧ HsOk x ∧ Dt SA H v d ∧ SeqAt.shaped d = true ∧
  ∀ H', Same H H' → Q (.int (fltD x d)) H'
set_option maxHeartbeats 16000000 in
theorem ok_l_fault (T : Defs K mg) : FnOk P w K mg base CX0 (k + 3) T.a_l_fault T.d_l_fault ["_law_house_here", "_law_thing"] sp_l_fault := by
  have G_l_whole : FnOk P w K mg base CX0 (k + 2) _ _ _ _ := ok_l_whole (k := k + 1) T
  have G_l_waybill_fault : FnOk P w K mg base CX0 (k + 2) _ _ _ _ := ok_l_waybill_fault (k := k) T
  have G_l_return_fault : FnOk P w K mg base CX0 (k + 2) _ _ _ _ := ok_l_return_fault (k := k) T
  have G_l_toll_fault : FnOk P w K mg base CX0 (k + 2) _ _ _ _ := ok_l_toll_fault (k := k) T
  have G_l_last_good : FnOk P w K mg base CX0 (k + 2) _ _ _ _ := ok_l_last_good (k := k) T
  refine T.F_l_fault.ok sc_l_fault (fun vs H Q E h => ?_) (fun cdv A outer s H vs Q E hr h => ?_)
  · obtain ⟨h, v, x, d, rfl, _⟩ := h
    rfl
  · obtain ⟨h, v, x, d, rfl, hh, hx, hv, sd, q⟩ := h
    refine ⟨_, PSs.nox
(pss_cons (ps_set (i := 2) sc_l_fault.nd rfl (.inl rfl) (pe_disp (pps_cons (pe_str) (pe_int) (pps_cons (pe_str) (pe_int) (pps_cons (pe_str) (pe_int) (pps_cons (pe_str) (pe_int) (pps_cons (pe_str) (pe_int) (pps_cons (pe_str) (pe_int) (pps_cons (pe_str) (pe_int) pps_nil))))))) rfl rfl (by simp) (by decide)))
    (pss_cons (ps_if (PW.pt (pw_or (pt_not (pt_val (pe_callB call_isi (by rfl) T.z_isinstance (by decide +kernel) (pa_cons (pv 1) (pa_cons (pe_bltn (v := .ty "tuple") (by rfl) T.z_tuple (by decide +kernel) rfl) pa_nil))))) (pw_or (pt_cmpR op_eq (pe_callB (r := rLenS K) call_lenS (by rfl) T.z_len (by decide +kernel) (pa_cons (pv 1) pa_nil)) (pe_int) (nomark _)) (pw_or1 (pt_not (pt_val (pe_callB call_isi (by rfl) T.z_isinstance (by decide +kernel) (pa_cons (pe_ix (r := rIxT K) ix_tup (pv 1) (pe_int) (fun _ _ => rfl)) (pa_cons (pe_bltn (v := .ty "str") (by rfl) T.z_str (by decide +kernel) rfl) pa_nil)))))))))
      (pss_one (ps_ret (pe_int)))
      pss_nil)
    (pss_cons (ps_if (pt_cmpR op_ne (pe_callB (r := rLenS K) call_lenS (by rfl) T.z_len (by decide +kernel) (pa_cons (pv 1) pa_nil)) (pe_dget2 (hu_of hr) (pv 2) (pe_ix (r := rIxT K) ix_tup (pv 1) (pe_int) (fun _ _ => rfl)) (pe_int) ⟨rfl, rfl, rfl, rfl⟩) (nomark _))
      (pss_one (ps_ret (pe_int)))
      pss_nil)
    (pss_cons (ps_if (pt_not (pt_truth (pe_call G_l_whole hr (by rfl) T.g_l_whole T.F_l_whole.kp T.b_l_whole .nil pass0 (pa_cons (pe_ix (r := rIxT K) ix_tup (pv 1) (pe_int) (fun _ _ => rfl)) (pa_cons (pe_int) (pa_cons (pe_int) pa_nil)))) (by intro _; rfl)))
      (pss_one (ps_ret (pe_int)))
      pss_nil)
    (pss_cons (ps_if (pt_not (pt_truth (pe_call G_l_whole hr (by rfl) T.g_l_whole T.F_l_whole.kp T.b_l_whole .nil pass0 (pa_cons (pe_ix (r := rIxT K) ix_tup (pv 1) (pe_int) (fun _ _ => rfl)) (pa_cons (pe_int) (pa_cons (pe_int) pa_nil)))) (by intro _; rfl)))
      (pss_one (ps_ret (pe_int)))
      pss_nil)
    (pss_cons (ps_if (pt_cmpR op_eq (pe_ix (r := rIxT K) ix_tup (pv 1) (pe_int) (fun _ _ => rfl)) (pe_str) (nomark _))
      (pss_one (ps_ret (pe_call G_l_waybill_fault hr (by rfl) T.g_l_waybill_fault T.F_l_waybill_fault.kp T.b_l_waybill_fault .nil pass0 (pa_cons (pv 0) (pa_cons (pv 1) pa_nil)))))
      pss_nil)
    (pss_cons (ps_if (pt_cmpR op_eq (pe_ix (r := rIxT K) ix_tup (pv 1) (pe_int) (fun _ _ => rfl)) (pe_str) (nomark _))
      (pss_one (ps_ret (pe_call G_l_return_fault hr (by rfl) T.g_l_return_fault T.F_l_return_fault.kp T.b_l_return_fault .nil pass0 (pa_cons (pe_ix (r := rIxT K) ix_tup (pv 0) (pe_int) (fun _ _ => rfl)) (pa_cons (pv 1) pa_nil)))))
      pss_nil)
    (pss_cons (ps_if (pt_cmpR op_eq (pe_ix (r := rIxT K) ix_tup (pv 1) (pe_int) (fun _ _ => rfl)) (pe_str) (nomark _))
      (pss_one (ps_ret (pe_call G_l_toll_fault hr (by rfl) T.g_l_toll_fault T.F_l_toll_fault.kp T.b_l_toll_fault .nil pass0 (pa_cons (pe_ix (r := rIxT K) ix_tup (pv 0) (pe_int) (fun _ _ => rfl)) (pa_cons (pv 1) pa_nil)))))
      pss_nil)
    (pss_cons (ps_if (pt_not (pt_truth (pe_call G_l_whole hr (by rfl) T.g_l_whole T.F_l_whole.kp T.b_l_whole .nil pass0 (pa_cons (pe_ix (r := rIxT K) ix_tup (pv 1) (pe_int) (fun _ _ => rfl)) (pa_cons (pe_int) (pa_cons (pe_int) pa_nil)))) (by intro _; rfl)))
      (pss_one (ps_ret (pe_int)))
      pss_nil)
    (pss_one (ps_ret (pe_ifExp (PW.pt (pw_or (pt_cmpR op_eq (pe_ix (r := rIxT K) ix_tup (pv 1) (pe_int) (fun _ _ => rfl)) (pe_str) (nomark _)) (pw_or1 (pt_truth (pe_call G_l_last_good hr (by rfl) T.g_l_last_good T.F_l_last_good.kp T.b_l_last_good .nil pass0 (pa_cons (pe_ix (r := rIxT K) ix_tup (pv 0) (pe_int) (fun _ _ => rfl)) (pa_cons (pv 1) pa_nil))) (by intro _; rfl))))) (pe_un un_neg (pe_int)) (pe_int)))))))))))))
      , ?_⟩
    obtain ⟨r, wl, gl, ru, ws, ga, e1, hnet, ewl, hnw, egl, hga⟩ := id hh.ex
    refine fun D nD => ⟨upd_same, CNT, rfl, by decide, ?_⟩
    rw [cnt_merge]
    have sD0 := same_upd (o := .dK []) nD
    have sD : Same H (upd (upd H D (.dK [])) D (.dK CNT)) := same_set sD0 nD
    have eD : (upd (upd H D (.dK [])) D (.dK CNT)) D = some (.dK CNT) := upd_same
    generalize upd (upd H D (.dK [])) D (.dK CNT) = H1 at sD eD ⊢
    have hv1 := hv.same sD
    have ret0 : fltD x d = 0 → Q (.int 0) H1 := fun e => by rw [← e]; exact q _ sD
    refine ⟨v, rfl, v, .ty "tuple", _, _, _, rfl, .ty _, hv1.ty, kit_T d, isiT d, rfl, ?_⟩
    cases d with
    | none => exact iteT (ret0 rfl)
    | bool _ => exact iteT (ret0 rfl)
    | int _ => exact iteT (ret0 rfl)
    | str _ => exact iteT (ret0 rfl)
    | list _ => exact iteT (ret0 rfl)
    | dict _ => exact iteT (ret0 rfl)
    | tuple ds =>
      obtain ⟨t, pvs, rfl, et0, hpv0⟩ : ∃ t pvs, v = .ref t ∧ H t = some (.tup pvs) ∧ DtAll SA H pvs ds := by
        cases hv with
        | tup _ e _ r => exact ⟨_, _, rfl, e, r⟩
      have et := sD _ _ et0
      have hpv := hpv0.same sD
      have netD := hnet.tk (.of sD)
      refine iteF ⟨.ref t, rfl, t, _, rfl, .inr (SqT.of et), rfl, _, rfl, ?_⟩
      cases hpv with
      | nil => exact iteT (ret0 rfl)
      | cons h0 hr' =>
        rename_i v0 pvs d0 rest
        refine ite2 (fun c => ?_) fun _ => ?_
        · have c : V.int (((v0 :: pvs).length : Nat) : Int) = V.int 0 := of_decide_eq_true c
          injection c with c
          rw [List.length_cons] at c
          omega
        refine ⟨.ref t, rfl, t, _, 0, v0, rfl, rfl, SqT.of et, atI_nat (j := 0) rfl, v0, .ty "str", _, _, _, rfl, .ty _, h0.ty, kit_S d0, isiS d0, rfl, ?_⟩
        cases d0 with
        | none => exact iteT (ret0 rfl)
        | bool _ => exact iteT (ret0 rfl)
        | int _ => exact iteT (ret0 rfl)
        | tuple _ => exact iteT (ret0 rfl)
        | list _ => exact iteT (ret0 rfl)
        | dict _ => exact iteT (ret0 rfl)
        | str kd =>
          cases h0
          have rl := hr'.len
          refine iteF ⟨.ref t, rfl, t, _, rfl, .inr (SqT.of et), .ref D, rfl, D, rfl, .inl ⟨CNT, .inl eD⟩, .ref t, rfl, t, _, 0, .str kd, rfl, rfl, SqT.of et, atI_nat (j := 0) rfl, _, DGet.k (k := Sum.inr kd) eD, ?_⟩
          by_cases hk : kd ∈ KINDS_L
          · rw [cnt_in hk]
            have fe : fltD x (.tuple (.str kd :: rest)) = if rest.length = (wordsK (kindI kd)).length then runCk x (.str kd :: rest) (wordsK (kindI kd)) rest 1 else 0 := by
              show (if kd ∈ KINDS_L then _ else _) = _
              rw [if_pos hk]
            refine ⟨rfl, _, rfl, ite2 (fun c => ?_) fun c => ?_⟩
            · refine ret0 ?_
              rw [fe, if_neg fun z => ?_]
              have c2 : (!decide (V.int (((V.str kd :: pvs).length : Nat) : Int) = V.int (((wordsK (kindI kd)).length : Int) + 1))) = true := c
              rw [decide_eq_true (by rw [List.length_cons, rl, z, Int.natCast_add]; rfl)] at c2
              cases c2
            · have hl : rest.length = (wordsK (kindI kd)).length := by
                have c2 : (!decide (V.int (((V.str kd :: pvs).length : Nat) : Int) = V.int (((wordsK (kindI kd)).length : Int) + 1))) = false := by simpa using c
                have c3 : V.int (((V.str kd :: pvs).length : Nat) : Int) = V.int (((wordsK (kindI kd)).length : Int) + 1) := by simpa using c2
                injection c3 with c3
                rw [List.length_cons, rl] at c3
                omega
              rw [if_pos hl] at fe
              clear c
              have q7 : kindI kd < 7 := (by decide +kernel : ∀ a ∈ KINDS_L, kindI a < 7) kd hk
              obtain ⟨js, ejs⟩ := words01 q7
              obtain ⟨d1, d2, ds, rfl⟩ : ∃ d1 d2 ds, rest = d1 :: d2 :: ds := by
                rw [ejs] at hl
                match rest, hl with
                | [], hl => simp at hl
                | [_], hl => simp at hl
                | a :: b :: c, _ => exact ⟨a, b, c, rfl⟩
              obtain ⟨v1, v2, pvs, rfl, h1, h2, h3⟩ : ∃ v1 v2 ps, pvs = v1 :: v2 :: ps ∧ Dt SA H1 v1 d1 ∧ Dt SA H1 v2 d2 ∧ DtAll SA H1 ps ds := by
                cases hr' with
                | cons a z => cases z with
                  | cons b z => exact ⟨_, _, _, rfl, a, b, z⟩
              rw [ejs, run_two] at fe
              refine ⟨.ref t, rfl, t, _, 1, v1, rfl, rfl, SqT.of et, atI_nat (j := 1) rfl, v1, d1, 1, 9999, rfl, h1, betD d1 1 9999, rfl, ?_⟩
              cases g1 : betD d1 1 9999 with
              | false =>
                rw [g1, if_neg (by decide)] at fe
                have := q _ sD
                rw [fe] at this
                exact iteT this
              | true =>
                rw [g1, if_pos rfl] at fe
                refine iteF ⟨.ref t, rfl, t, _, 2, v2, rfl, rfl, SqT.of et, atI_nat (j := 2) rfl, v2, d2, 1, 99, rfl, h2, betD d2 1 99, rfl, ?_⟩
                cases g2 : betD d2 1 99 with
                | false =>
                  rw [g2, if_neg (by decide)] at fe
                  have := q _ sD
                  rw [fe] at this
                  exact iteT this
                | true =>
                  rw [g2, if_pos rfl] at fe
                  refine iteF ?_
                  rw [fe] at q
                  clear fe
                  have q1 := fun H' (s' : Same H1 H') => q H' (sD.trans s')
                  unfold KINDS_L at hk
                  simp only [List.mem_cons, List.not_mem_nil, or_false] at hk
                  rcases hk with rfl | rfl | rfl | rfl | rfl | rfl | rfl
                  · rw [show kindI ("waybill" : Str) = 0 by decide +kernel] at ejs hl
                    cases ejs
                    obtain ⟨d3, d4, d5, d6, d7, d8, rfl⟩ : ∃ d3 d4 d5 d6 d7 d8, ds = [d3, d4, d5, d6, d7, d8] := by
                      match ds, hl with
                      | [d3, d4, d5, d6, d7, d8], _ => exact ⟨d3, d4, d5, d6, d7, d8, rfl⟩
                    refine ⟨.ref t, rfl, t, _, 0, .str _, rfl, rfl, SqT.of et, atI_nat (j := 0) rfl, rfl, _, rfl, ite2 (fun _ => ?_) fun c => absurd (by decide +kernel) c⟩
                    exact ⟨.ref h, rfl, .ref t, rfl, h, t, x, _, .str _, d1, d2, d3, d4, d5, d6, d7, d8, rfl, ⟨r, wl, gl, ru, ws, ga, sD _ _ e1, netD, sD _ _ ewl, hnw, sD _ _ egl, paired_imp hga fun _ _ _ z => sD _ _ z⟩, hx, et, .cons (.str _) (.cons h1 (.cons h2 h3)), sd, q1⟩
                  · rw [show kindI ("return" : Str) = 1 by decide +kernel] at ejs hl
                    cases ejs
                    obtain ⟨d3, d4, d5, d6, d7, d8, d9, rfl⟩ : ∃ d3 d4 d5 d6 d7 d8 d9, ds = [d3, d4, d5, d6, d7, d8, d9] := by
                      match ds, hl with
                      | [d3, d4, d5, d6, d7, d8, d9], _ => exact ⟨d3, d4, d5, d6, d7, d8, d9, rfl⟩
                    refine ⟨.ref t, rfl, t, _, 0, .str _, rfl, rfl, SqT.of et, atI_nat (j := 0) rfl, rfl, _, rfl, ite2 (fun c => absurd c (by decide +kernel)) fun _ => ?_⟩
                    refine ⟨.ref t, rfl, t, _, 0, .str _, rfl, rfl, SqT.of et, atI_nat (j := 0) rfl, rfl, _, rfl, ite2 (fun _ => ?_) fun c => absurd (by decide +kernel) c⟩
                    exact ⟨.ref h, rfl, h, _, 0, .ref r, rfl, rfl, SqT.of (sD _ _ e1), atI_nat (j := 0) rfl, .ref t, rfl, r, t, x, _, .str _, d1, d2, d3, d4, d5, d6, d7, d8, d9, rfl, netD, hx, et, .cons (.str _) (.cons h1 (.cons h2 h3)), sd, q1⟩
                  · rw [show kindI ("toll" : Str) = 2 by decide +kernel] at ejs hl
                    cases ejs
                    obtain ⟨d3, d4, d5, d6, rfl⟩ : ∃ d3 d4 d5 d6, ds = [d3, d4, d5, d6] := by
                      match ds, hl with
                      | [d3, d4, d5, d6], _ => exact ⟨d3, d4, d5, d6, rfl⟩
                    refine ⟨.ref t, rfl, t, _, 0, .str _, rfl, rfl, SqT.of et, atI_nat (j := 0) rfl, rfl, _, rfl, ite2 (fun c => absurd c (by decide +kernel)) fun _ => ?_⟩
                    refine ⟨.ref t, rfl, t, _, 0, .str _, rfl, rfl, SqT.of et, atI_nat (j := 0) rfl, rfl, _, rfl, ite2 (fun c => absurd c (by decide +kernel)) fun _ => ?_⟩
                    refine ⟨.ref t, rfl, t, _, 0, .str _, rfl, rfl, SqT.of et, atI_nat (j := 0) rfl, rfl, _, rfl, ite2 (fun _ => ?_) fun c => absurd (by decide +kernel) c⟩
                    exact ⟨.ref h, rfl, h, _, 0, .ref r, rfl, rfl, SqT.of (sD _ _ e1), atI_nat (j := 0) rfl, .ref t, rfl, r, t, x, _, .str _, d1, d2, d3, d4, d5, d6, rfl, netD, hx, et, .cons (.str _) (.cons h1 (.cons h2 h3)), sd, q1⟩
                  · rw [show kindI ("claim" : Str) = 3 by decide +kernel] at ejs hl
                    cases ejs
                    obtain ⟨d3, d4, rfl⟩ : ∃ d3 d4, ds = [d3, d4] := by
                      match ds, hl with
                      | [d3, d4], _ => exact ⟨d3, d4, rfl⟩
                    refine ⟨.ref t, rfl, t, _, 0, .str _, rfl, rfl, SqT.of et, atI_nat (j := 0) rfl, rfl, _, rfl, ite2 (fun c => absurd c (by decide +kernel)) fun _ => ?_⟩
                    refine ⟨.ref t, rfl, t, _, 0, .str _, rfl, rfl, SqT.of et, atI_nat (j := 0) rfl, rfl, _, rfl, ite2 (fun c => absurd c (by decide +kernel)) fun _ => ?_⟩
                    refine ⟨.ref t, rfl, t, _, 0, .str _, rfl, rfl, SqT.of et, atI_nat (j := 0) rfl, rfl, _, rfl, ite2 (fun c => absurd c (by decide +kernel)) fun _ => ?_⟩
                    obtain ⟨v3, p3, rfl, hd3, h4⟩ : ∃ v ps, pvs = v :: ps ∧ Dt SA H1 v d3 ∧ DtAll SA H1 ps _ := by
                      cases h3 with
                      | cons a z => exact ⟨_, _, rfl, a, z⟩
                    refine ⟨.ref t, rfl, t, _, 3, v3, rfl, rfl, SqT.of et, atI_nat (j := 3) rfl, v3, d3, 1, 9999, rfl, hd3, betD d3 1 9999, rfl, ?_⟩
                    have e2 : runCk x [.str ("claim" : Str), d1, d2, d3, d4] [0, 5] [d3, d4] 3 = if betD d3 1 9999 = true then runCk x [.str ("claim" : Str), d1, d2, d3, d4] [5] [d4] 4 else 3 := by
                      show (if some (betD d3 1 9999) = some true then _ else ((3 : Nat) : Int)) = _
                      cases betD d3 1 9999 <;> rfl
                    rw [e2] at q1
                    cases g3 : betD d3 1 9999 with
                    | false =>
                      rw [g3, if_neg (by decide)] at q1
                      exact iteT (q1 _ fun _ _ z => z)
                    | true =>
                      rw [g3, if_pos rfl] at q1
                      have e3 : goodL x ("claim" : Str) d4 = (match ckI 5 x [.str ("claim" : Str), d1, d2, d3, d4] d4 with | some b => b | none => false) := by
                        unfold goodL
                        rw [if_pos rfl]
                        rfl
                      rw [run_one (x := x) (b := goodL x ("claim" : Str) d4) (by rw [e3]; rfl)] at q1
                      refine iteF ⟨.ref t, rfl, t, _, 0, .str _, rfl, rfl, SqT.of et, atI_nat (j := 0) rfl, rfl, _, rfl, ite2 (fun c => absurd c (by decide +kernel)) fun _ => ?_⟩
                      refine ⟨.ref h, rfl, h, _, 0, .ref r, rfl, rfl, SqT.of (sD _ _ e1), atI_nat (j := 0) rfl, .ref t, rfl, r, t, x, _, ("claim" : Str), d1, d2, d3, d4, rfl, netD, hx, et, .cons (.str _) (.cons h1 (.cons h2 (.cons hd3 h4))), sd, fun H2 s2 => ⟨goodL x ("claim" : Str) d4, rfl, ?_⟩⟩
                      have := q1 _ s2
                      cases g4 : goodL x ("claim" : Str) d4 with
                      | true =>
                        rw [g4, if_pos rfl] at this
                        exact iteT ⟨1, rfl, this⟩
                      | false =>
                        rw [g4, if_neg (by decide)] at this
                        exact iteF this
                  · rw [show kindI ("answer" : Str) = 4 by decide +kernel] at ejs hl
                    cases ejs
                    obtain ⟨d3, d4, rfl⟩ : ∃ d3 d4, ds = [d3, d4] := by
                      match ds, hl with
                      | [d3, d4], _ => exact ⟨d3, d4, rfl⟩
                    refine ⟨.ref t, rfl, t, _, 0, .str _, rfl, rfl, SqT.of et, atI_nat (j := 0) rfl, rfl, _, rfl, ite2 (fun c => absurd c (by decide +kernel)) fun _ => ?_⟩
                    refine ⟨.ref t, rfl, t, _, 0, .str _, rfl, rfl, SqT.of et, atI_nat (j := 0) rfl, rfl, _, rfl, ite2 (fun c => absurd c (by decide +kernel)) fun _ => ?_⟩
                    refine ⟨.ref t, rfl, t, _, 0, .str _, rfl, rfl, SqT.of et, atI_nat (j := 0) rfl, rfl, _, rfl, ite2 (fun c => absurd c (by decide +kernel)) fun _ => ?_⟩
                    obtain ⟨v3, p3, rfl, hd3, h4⟩ : ∃ v ps, pvs = v :: ps ∧ Dt SA H1 v d3 ∧ DtAll SA H1 ps _ := by
                      cases h3 with
                      | cons a z => exact ⟨_, _, rfl, a, z⟩
                    refine ⟨.ref t, rfl, t, _, 3, v3, rfl, rfl, SqT.of et, atI_nat (j := 3) rfl, v3, d3, 1, 9999, rfl, hd3, betD d3 1 9999, rfl, ?_⟩
                    have e2 : runCk x [.str ("answer" : Str), d1, d2, d3, d4] [0, 13] [d3, d4] 3 = if betD d3 1 9999 = true then runCk x [.str ("answer" : Str), d1, d2, d3, d4] [13] [d4] 4 else 3 := by
                      show (if some (betD d3 1 9999) = some true then _ else ((3 : Nat) : Int)) = _
                      cases betD d3 1 9999 <;> rfl
                    rw [e2] at q1
                    cases g3 : betD d3 1 9999 with
                    | false =>
                      rw [g3, if_neg (by decide)] at q1
                      exact iteT (q1 _ fun _ _ z => z)
                    | true =>
                      rw [g3, if_pos rfl] at q1
                      have e3 : goodL x ("answer" : Str) d4 = (match ckI 13 x [.str ("answer" : Str), d1, d2, d3, d4] d4 with | some b => b | none => false) := by
                        unfold goodL
                        rw [if_neg (by decide +kernel), if_pos rfl]
                        rfl
                      rw [run_one (x := x) (b := goodL x ("answer" : Str) d4) (by rw [e3]; rfl)] at q1
                      refine iteF ⟨.ref t, rfl, t, _, 0, .str _, rfl, rfl, SqT.of et, atI_nat (j := 0) rfl, rfl, _, rfl, ite2 (fun c => absurd c (by decide +kernel)) fun _ => ?_⟩
                      refine ⟨.ref h, rfl, h, _, 0, .ref r, rfl, rfl, SqT.of (sD _ _ e1), atI_nat (j := 0) rfl, .ref t, rfl, r, t, x, _, ("answer" : Str), d1, d2, d3, d4, rfl, netD, hx, et, .cons (.str _) (.cons h1 (.cons h2 (.cons hd3 h4))), sd, fun H2 s2 => ⟨goodL x ("answer" : Str) d4, rfl, ?_⟩⟩
                      have := q1 _ s2
                      cases g4 : goodL x ("answer" : Str) d4 with
                      | true =>
                        rw [g4, if_pos rfl] at this
                        exact iteT ⟨1, rfl, this⟩
                      | false =>
                        rw [g4, if_neg (by decide)] at this
                        exact iteF this
                  · rw [show kindI ("ruling" : Str) = 5 by decide +kernel] at ejs hl
                    cases ejs
                    obtain ⟨d3, d4, rfl⟩ : ∃ d3 d4, ds = [d3, d4] := by
                      match ds, hl with
                      | [d3, d4], _ => exact ⟨d3, d4, rfl⟩
                    refine ⟨.ref t, rfl, t, _, 0, .str _, rfl, rfl, SqT.of et, atI_nat (j := 0) rfl, rfl, _, rfl, ite2 (fun c => absurd c (by decide +kernel)) fun _ => ?_⟩
                    refine ⟨.ref t, rfl, t, _, 0, .str _, rfl, rfl, SqT.of et, atI_nat (j := 0) rfl, rfl, _, rfl, ite2 (fun c => absurd c (by decide +kernel)) fun _ => ?_⟩
                    refine ⟨.ref t, rfl, t, _, 0, .str _, rfl, rfl, SqT.of et, atI_nat (j := 0) rfl, rfl, _, rfl, ite2 (fun c => absurd c (by decide +kernel)) fun _ => ?_⟩
                    obtain ⟨v3, p3, rfl, hd3, h4⟩ : ∃ v ps, pvs = v :: ps ∧ Dt SA H1 v d3 ∧ DtAll SA H1 ps _ := by
                      cases h3 with
                      | cons a z => exact ⟨_, _, rfl, a, z⟩
                    refine ⟨.ref t, rfl, t, _, 3, v3, rfl, rfl, SqT.of et, atI_nat (j := 3) rfl, v3, d3, 1, 9999, rfl, hd3, betD d3 1 9999, rfl, ?_⟩
                    have e2 : runCk x [.str ("ruling" : Str), d1, d2, d3, d4] [0, 14] [d3, d4] 3 = if betD d3 1 9999 = true then runCk x [.str ("ruling" : Str), d1, d2, d3, d4] [14] [d4] 4 else 3 := by
                      show (if some (betD d3 1 9999) = some true then _ else ((3 : Nat) : Int)) = _
                      cases betD d3 1 9999 <;> rfl
                    rw [e2] at q1
                    cases g3 : betD d3 1 9999 with
                    | false =>
                      rw [g3, if_neg (by decide)] at q1
                      exact iteT (q1 _ fun _ _ z => z)
                    | true =>
                      rw [g3, if_pos rfl] at q1
                      have e3 : goodL x ("ruling" : Str) d4 = (match ckI 14 x [.str ("ruling" : Str), d1, d2, d3, d4] d4 with | some b => b | none => false) := by
                        unfold goodL
                        rw [if_neg (by decide +kernel), if_neg (by decide +kernel)]
                        rfl
                      rw [run_one (x := x) (b := goodL x ("ruling" : Str) d4) (by rw [e3]; rfl)] at q1
                      refine iteF ⟨.ref t, rfl, t, _, 0, .str _, rfl, rfl, SqT.of et, atI_nat (j := 0) rfl, rfl, _, rfl, ite2 (fun c => absurd c (by decide +kernel)) fun _ => ?_⟩
                      refine ⟨.ref h, rfl, h, _, 0, .ref r, rfl, rfl, SqT.of (sD _ _ e1), atI_nat (j := 0) rfl, .ref t, rfl, r, t, x, _, ("ruling" : Str), d1, d2, d3, d4, rfl, netD, hx, et, .cons (.str _) (.cons h1 (.cons h2 (.cons hd3 h4))), sd, fun H2 s2 => ⟨goodL x ("ruling" : Str) d4, rfl, ?_⟩⟩
                      have := q1 _ s2
                      cases g4 : goodL x ("ruling" : Str) d4 with
                      | true =>
                        rw [g4, if_pos rfl] at this
                        exact iteT ⟨1, rfl, this⟩
                      | false =>
                        rw [g4, if_neg (by decide)] at this
                        exact iteF this
                  · rw [show kindI ("withdrawal" : Str) = 6 by decide +kernel] at ejs hl
                    cases ejs
                    obtain ⟨d3, rfl⟩ : ∃ d3, ds = [d3] := by
                      match ds, hl with
                      | [d3], _ => exact ⟨d3, rfl⟩
                    refine ⟨.ref t, rfl, t, _, 0, .str _, rfl, rfl, SqT.of et, atI_nat (j := 0) rfl, rfl, _, rfl, ite2 (fun c => absurd c (by decide +kernel)) fun _ => ?_⟩
                    refine ⟨.ref t, rfl, t, _, 0, .str _, rfl, rfl, SqT.of et, atI_nat (j := 0) rfl, rfl, _, rfl, ite2 (fun c => absurd c (by decide +kernel)) fun _ => ?_⟩
                    refine ⟨.ref t, rfl, t, _, 0, .str _, rfl, rfl, SqT.of et, atI_nat (j := 0) rfl, rfl, _, rfl, ite2 (fun c => absurd c (by decide +kernel)) fun _ => ?_⟩
                    obtain ⟨v3, p3, rfl, hd3, h4⟩ : ∃ v ps, pvs = v :: ps ∧ Dt SA H1 v d3 ∧ DtAll SA H1 ps _ := by
                      cases h3 with
                      | cons a z => exact ⟨_, _, rfl, a, z⟩
                    refine ⟨.ref t, rfl, t, _, 3, v3, rfl, rfl, SqT.of et, atI_nat (j := 3) rfl, v3, d3, 1, 9999, rfl, hd3, betD d3 1 9999, rfl, ?_⟩
                    rw [run_one (x := x) (pds := [_, d1, d2, d3]) (b := betD d3 1 9999) rfl] at q1
                    cases g3 : betD d3 1 9999 with
                    | false =>
                      rw [g3, if_neg (by decide)] at q1
                      exact iteT (q1 _ fun _ _ z => z)
                    | true =>
                      rw [g3, if_pos rfl] at q1
                      refine iteF ⟨.ref t, rfl, t, _, 0, .str _, rfl, rfl, SqT.of et, atI_nat (j := 0) rfl, rfl, _, rfl, ite2 (fun _ => ?_) fun c => absurd (by decide +kernel) c⟩
                      exact iteT ⟨1, rfl, q1 _ fun _ _ z => z⟩
          · rw [cnt_out hk]
            refine ⟨rfl, _, rfl, ite2 (fun _ => ?_) fun c => ?_⟩
            · refine ret0 ?_
              show (if kd ∈ KINDS_L then _ else _) = _
              rw [if_neg hk]
            · have c2 : (!decide (V.int (((V.str kd :: pvs).length : Nat) : Int) = V.int 0)) = false := by simpa using c
              have c3 : V.int (((V.str kd :: pvs).length : Nat) : Int) = V.int 0 := by simpa using c2
              injection c3 with c3
              rw [List.length_cons] at c3
              omega
end
end Th
namespace Th
open PySem PySem.Spec PyProof.Rows L2
/-! any data: parts of it, put otherwise by a step -/
abbrev SN (p : Addr) : Addr → Prop := fun a => a ≠ p
theorem Dt.keepN {p : Addr} {H H' : Hp} {v : V} {d : PyData} (k : Keep p H H') (h : Dt (SN p) H v d) : Dt (SN p) H' v d := h.mono (fun _ x => x) fun a o na e => k a o na e
theorem DtAll.keepM {p : Addr} {H H' : Hp} {v : List V} {d : List PyData} (k : Keep p H H') (h : DtAll (SN p) H v d) : DtAll (SN p) H' v d := h.mono (fun _ x => x) fun a o na e => k a o na e
theorem Dt.sa {p : Addr} {H : Hp} {v : V} {d : PyData} (h : Dt (SN p) H v d) : Dt SA H v d := h.mono (fun _ _ => trivial) fun _ _ _ e => e
section
variable {S : Addr → Prop} {H : Hp}
theorem dtL_app : ∀ {xs : List V} {ds : List PyData} {ys : List V} {es : List PyData}, DtAll S H xs ds → DtAll S H ys es → DtAll S H (xs ++ ys) (ds ++ es)
  | _, _, _, _, .nil, r => r
  | _, _, _, _, .cons h t, r => .cons h (dtL_app t r)
theorem dtL_take : ∀ (n : Nat) {xs : List V} {ds : List PyData}, DtAll S H xs ds → DtAll S H (xs.take n) (ds.take n)
  | 0, _, _, _ => .nil
  | _ + 1, _, _, .nil => .nil
  | n + 1, _, _, .cons h t => .cons h (dtL_take n t)
theorem dtL_drop : ∀ (n : Nat) {xs : List V} {ds : List PyData}, DtAll S H xs ds → DtAll S H (xs.drop n) (ds.drop n)
  | 0, _, _, h => h
  | _ + 1, _, _, .nil => .nil
  | n + 1, _, _, .cons _ t => dtL_drop n t
theorem dtL_cut {xs : List V} {ds : List PyData} (h : DtAll S H xs ds) (lo hi : Option Int) : ∃ es, DtAll S H (cutV xs lo hi) es ∧ es.length ≤ ds.length ∧ ∀ e ∈ es, e ∈ ds := by
  have := (dtL_take (HT.sIx xs.length xs.length hi - HT.sIx xs.length 0 lo) (dtL_drop (HT.sIx xs.length 0 lo) h))
  refine ⟨_, this, ?_, fun e he => List.mem_of_mem_drop (List.mem_of_mem_take he)⟩
  rw [List.length_take, List.length_drop]
  omega
end
/-- data that can be laid, of little depth, short -/
def TmE (N m : Nat) (d : PyData) : Prop := d.canLay0 = true ∧ d.depth ≤ m ∧ srt N d = true
theorem lay_iff : ∀ ds : List PyData, PyData.canLayAll0 ds = true ↔ ∀ d ∈ ds, d.canLay0 = true
  | [] => ⟨fun _ _ h => (by cases h), fun _ => rfl⟩
  | d :: ds => by
    show (d.canLay0 && PyData.canLayAll0 ds) = true ↔ _
    rw [Bool.and_eq_true, lay_iff ds, List.forall_mem_cons]
theorem dep_iff (m : Nat) : ∀ ds : List PyData, PyData.depthAll ds ≤ m ↔ ∀ d ∈ ds, d.depth ≤ m
  | [] => ⟨fun _ _ h => (by cases h), fun _ => Nat.zero_le _⟩
  | d :: ds => by
    show max d.depth (PyData.depthAll ds) ≤ m ↔ _
    rw [Nat.max_le, dep_iff m ds, List.forall_mem_cons]
theorem srt_iff (N : Nat) : ∀ ds : List PyData, srtAll N ds = true ↔ ∀ d ∈ ds, srt N d = true
  | [] => ⟨fun _ _ h => (by cases h), fun _ => rfl⟩
  | d :: ds => by
    show (srt N d && srtAll N ds) = true ↔ _
    rw [Bool.and_eq_true, srt_iff N ds, List.forall_mem_cons]
theorem tme_tup {N m : Nat} {ds : List PyData} : TmE N (m + 1) (.tuple ds) ↔ ds.length ≤ N ∧ ∀ d ∈ ds, TmE N m d := by
  constructor
  · rintro ⟨h1, h2, h3⟩
    have h2 : PyData.depthAll ds + 1 ≤ m + 1 := h2
    have h3 : (decide (ds.length ≤ N) && srtAll N ds) = true := h3
    rw [Bool.and_eq_true] at h3
    exact ⟨of_decide_eq_true h3.1, fun d hd => ⟨(lay_iff ds).mp h1 d hd, (dep_iff m ds).mp (by omega) d hd, (srt_iff N ds).mp h3.2 d hd⟩⟩
  · rintro ⟨h1, h2⟩
    refine ⟨(lay_iff ds).mpr fun d hd => (h2 d hd).1, ?_, ?_⟩
    · show PyData.depthAll ds + 1 ≤ m + 1
      have := (dep_iff m ds).mpr fun d hd => (h2 d hd).2.1
      omega
    · show (decide (ds.length ≤ N) && srtAll N ds) = true
      rw [Bool.and_eq_true]
      exact ⟨decide_eq_true h1, (srt_iff N ds).mpr fun d hd => (h2 d hd).2.2⟩
mutual
theorem srt_mono {N M : Nat} (h : N ≤ M) : ∀ d : PyData, srt N d = true → srt M d = true
  | .none, _ => rfl
  | .bool _, _ => rfl
  | .int _, _ => rfl
  | .str s, e => by
    have e : s.length ≤ N := of_decide_eq_true e
    exact decide_eq_true (by omega)
  | .list ds, e => by
    have e : (decide (ds.length ≤ N) && srtAll N ds) = true := e
    rw [Bool.and_eq_true] at e
    have e1 : ds.length ≤ N := of_decide_eq_true e.1
    show (decide (ds.length ≤ M) && srtAll M ds) = true
    rw [Bool.and_eq_true]
    exact ⟨decide_eq_true (by omega), srtAll_mono h ds e.2⟩
  | .tuple ds, e => by
    have e : (decide (ds.length ≤ N) && srtAll N ds) = true := e
    rw [Bool.and_eq_true] at e
    have e1 : ds.length ≤ N := of_decide_eq_true e.1
    show (decide (ds.length ≤ M) && srtAll M ds) = true
    rw [Bool.and_eq_true]
    exact ⟨decide_eq_true (by omega), srtAll_mono h ds e.2⟩
  | .dict _, e => by simp [srt] at e
theorem srtAll_mono {N M : Nat} (h : N ≤ M) : ∀ ds : List PyData, srtAll N ds = true → srtAll M ds = true
  | [], _ => rfl
  | d :: ds, e => by
    have e : (srt N d && srtAll N ds) = true := e
    rw [Bool.and_eq_true] at e
    show (srt M d && srtAll M ds) = true
    rw [Bool.and_eq_true]
    exact ⟨srt_mono h d e.1, srtAll_mono h ds e.2⟩
end
theorem TmE.mono {N M m l : Nat} {d : PyData} (h : TmE N m d) (h1 : N ≤ M) (h2 : m ≤ l) : TmE M l d := ⟨h.1, Nat.le_trans h.2.1 h2, srt_mono h1 d h.2.2⟩
theorem TmE.shaped {N m : Nat} {d : PyData} (h : TmE N m d) (h2 : m ≤ 64) : SeqAt.shaped d = true := Bool.and_eq_true_iff.mpr ⟨h.1, decide_eq_true (Nat.le_trans h.2.1 h2)⟩
theorem ok_cutS {z : Str} (h : PyData.strOk z = true) (lo hi : Option Int) : PyData.strOk (cutS z lo hi) = true := by
  unfold PyData.strOk at h ⊢
  rw [Array.all_eq_true'] at h ⊢
  intro c hc
  refine h c ?_
  have hc : c ∈ (((z.cps.toList.drop (HT.sIx z.length 0 lo)).take (HT.sIx z.length z.length hi - HT.sIx z.length 0 lo)).toArray) := hc
  rw [List.mem_toArray] at hc
  exact Array.mem_toList_iff.mp (List.mem_of_mem_drop (List.mem_of_mem_take hc))
theorem ok_appS {x y : Str} (h : PyData.strOk x = true) (h2 : PyData.strOk y = true) : PyData.strOk (x ++ y) = true := by
  unfold PyData.strOk at h h2 ⊢
  rw [Array.all_eq_true'] at h h2 ⊢
  intro c hc
  have hc : c ∈ x.cps ++ y.cps := hc
  rcases Array.mem_append.mp hc with q | q
  · exact h c q
  · exact h2 c q
theorem len_appS (x y : Str) : (x ++ y).length = x.length + y.length := Array.size_append
def isTS (d : PyData) : Bool := isiT d || isiS d
theorem kit_TS {K : PySem.W.Frag} (d : PyData) : PySem.W.kitAny K (.type (tyN d)) [.type "tuple", .type "str"] = some (isTS d) := by
  unfold isTS
  cases e : isiT d with
  | true => exact kitAny_cons (b := true) (by rw [kit_T, e]) (fun z => nomatch z) (fun _ => rfl)
  | false =>
    refine kitAny_cons (b := false) (by rw [kit_T, e]) (fun _ => ?_) (fun z => nomatch z)
    cases e2 : isiS d with
    | true => exact kitAny_cons (b := true) (by rw [kit_S, e2]) (fun z => nomatch z) (fun _ => rfl)
    | false => exact kitAny_cons (b := false) (by rw [kit_S, e2]) (fun _ => kitAny_nil) (fun z => nomatch z)
section
variable {P : Program} {w : World} {K : PySem.W.Frag} {mg : Str → Option Value} {base : Heap} {k : Nat}
def sp_l_stepped : Sp := fun vs H Q _ => ∃ (v : V) (d : PyData) (i : Int) (p : Addr) (zs : List V) (N m : Nat), vs = [v, .int i] ∧ Dt (SN p) H v d ∧ TmE N m d ∧ N ≤ 1000 ∧ H p = some (.lst zs) ∧ ∀ H' v' d', Same H H' → Dt (SN p) H' v' d' → TmE (N + N) m d' → Q v' H'
set_option maxHeartbeats 8000000 in
theorem ok_l_stepped (T : Defs K mg) : FnOk P w K mg base CX0 (k + 1) T.a_l_stepped T.d_l_stepped ["_law_part", "_law_step"] sp_l_stepped := by
  refine T.F_l_stepped.ok sc_l_stepped (fun vs H Q E h => ?_) (fun cdv A outer s H vs Q E hr h => ?_)
  · obtain ⟨v, d, i, p, zs, N, m, rfl, _⟩ := h
    rfl
  · obtain ⟨v, d, i, p, zs, N, m, rfl, hv, ht, hN, hp, q⟩ := h
    refine ⟨_, PSs.nox
(pss_cons (ps_if (pt_val (pe_callB call_isi (by rfl) T.z_isinstance (by decide +kernel) (pa_cons (pv 0) (pa_cons (pe_bltn (v := .ty "int") (by rfl) T.z_int (by decide +kernel) rfl) pa_nil))))
      (pss_one (ps_ret (pe_op Mx2.op_addBI (pv 0) (pv 1))))
      pss_nil)
    (pss_cons (ps_if (pt_not (pt_val (pe_callB call_isiT (by rfl) T.z_isinstance (by decide +kernel) (pa_cons (pv 0) (pa_cons (pe_tup (pa_cons (pe_bltn (v := .ty "tuple") (by rfl) T.z_tuple (by decide +kernel) rfl) (pa_cons (pe_bltn (v := .ty "str") (by rfl) T.z_str (by decide +kernel) rfl) pa_nil))) pa_nil)))))
      (pss_one (ps_ret (pv 0)))
      pss_nil)
    (pss_one (ps_ret (pe_ifExp (pt_cmpR op_lt (pv 1) (pe_int) (nomark _)) (pe_slice (r := Mx2.rSlM K) Mx2.sl_M (pv 0) (po_some (pe_int)) po_none) (pe_op Mx2.op_catM (pv 0) (pe_slice (r := Mx2.rSlM K) Mx2.sl_M (pv 0) po_none (po_some (pe_int)))))))))
      , ?_⟩
    have dsh : ∀ {x : PyData}, TmE N m x → TmE (N + N) m x := fun h => h.mono (by omega) (Nat.le_refl _)
    have lz : ∀ z : Int, TmE N m (.int z) := fun z => ⟨rfl, Nat.zero_le _, rfl⟩
    refine ⟨v, rfl, v, .ty "int", _, _, _, rfl, .ty _, hv.sa.ty, kit_I d, isiI d, rfl, ?_⟩
    have two : 2 ≤ sizeLine := by decide
    have same0 : ∀ {t : Addr}, H t = none → Same H (upd H t (.tup [.ty "tuple", .ty "str"])) := fun nt => same_upd nt
    have rest : isiI d = false → isTS d = false → Q v H := fun _ _ => q H v d (fun _ _ e => e) hv (dsh ht)
    cases hv with
    | int j => exact iteT ⟨.int j, rfl, .int i, rfl, j, i, .inl rfl, rfl, q H _ _ (fun _ _ e => e) (.int _) (dsh (lz _))⟩
    | bl b => exact iteT ⟨.bl b, rfl, .int i, rfl, Mx2.bI b, i, .inr ⟨b, rfl, rfl⟩, rfl, q H _ _ (fun _ _ e => e) (.int _) (dsh (lz _))⟩
    | non => exact iteF ⟨_, rfl, two, fun t nt => ⟨_, t, [.ty "tuple", .ty "str"], _, _, _, rfl, upd_same, .cons (.ty _) (.cons (.ty _) .nil), Dt.ty (S := SA) .non, kit_TS _, _, rfl, iteT ⟨_, rfl, q _ _ _ (same0 nt) .non (dsh ht)⟩⟩⟩
    | lst s e l r => 
      refine iteF ⟨_, rfl, two, fun t nt => ?_⟩
      have hv2 : Dt (SN p) (upd H t (.tup [.ty "tuple", .ty "str"])) _ _ := (Dt.lst s e l r).keepN (Keep.of (same0 nt))
      exact ⟨_, t, [.ty "tuple", .ty "str"], _, _, _, rfl, upd_same, .cons (.ty _) (.cons (.ty _) .nil), hv2.sa.ty, kit_TS _, _, rfl, iteT ⟨_, rfl, q _ _ _ (same0 nt) hv2 (dsh ht)⟩⟩
    | str z =>
      obtain ⟨ok1, _, ok2⟩ := ht
      have ok2 : z.length ≤ N := of_decide_eq_true ok2
      have sz : z.length ≤ sizeLine := Nat.le_trans ok2 (Nat.le_trans hN (by decide))
      refine iteF ⟨_, rfl, two, fun t nt => ⟨_, t, [.ty "tuple", .ty "str"], _, _, _, rfl, upd_same, .cons (.ty _) (.cons (.ty _) .nil), Dt.ty (S := SA) (.str z), kit_TS _, _, rfl, iteF ?_⟩⟩
      refine ⟨.int i, rfl, i, 0, rfl, rfl, _, rfl, ite2 (fun _ => ?_) fun _ => ?_⟩
      · refine ⟨.str z, rfl, (1 : Int), rfl, .inr ⟨z, rfl, sz, q _ _ (.str (cutS z (some 1) none)) (same0 nt) (.str _) ⟨ok_cutS ok1 _ _, Nat.zero_le _, decide_eq_true ?_⟩⟩⟩
        exact Nat.le_trans (cutS_length z _ _) (by omega)
      · have lc := cutS_length z none (some 1)
        refine ⟨.str z, rfl, .str z, rfl, (1 : Int), rfl, .inr ⟨z, rfl, sz, .inr ⟨z, cutS z none (some 1), rfl, rfl, Nat.le_trans (Nat.add_le_add ok2 (Nat.le_trans lc ok2)) (Nat.le_trans (Nat.add_le_add hN hN) (by decide)), q _ _ (.str (z ++ cutS z none (some 1))) (same0 nt) (.str _) ⟨ok_appS ok1 (ok_cutS ok1 _ _), Nat.zero_le _, decide_eq_true ?_⟩⟩⟩⟩
        rw [len_appS]
        omega
    | @tup a xs ds s e l r =>
      obtain ⟨m, rfl⟩ : ∃ m', m = m' + 1 := ⟨m - 1, by
        have h2 : PyData.depthAll ds + 1 ≤ m := ht.2.1
        omega⟩
      obtain ⟨ln, al⟩ := tme_tup.mp ht
      have le := r.len
      refine iteF ⟨_, rfl, two, fun t nt => ?_⟩
      have hv2 : Dt (SN p) (upd H t (.tup [.ty "tuple", .ty "str"])) (.ref a) (.tuple ds) := (Dt.tup s e l r).keepN (Keep.of (same0 nt))
      refine ⟨_, t, [.ty "tuple", .ty "str"], _, _, _, rfl, upd_same, .cons (.ty _) (.cons (.ty _) .nil), hv2.sa.ty, kit_TS _, _, rfl, iteF ?_⟩
      have s1 := same0 nt
      have e1 := s1 _ _ e
      have r1 : DtAll (SN p) (upd H t (.tup [.ty "tuple", .ty "str"])) xs ds := r.keepM (Keep.of s1)
      have p1 := s1 _ _ hp
      generalize upd H t (.tup [.ty "tuple", .ty "str"]) = H1 at s1 e1 r1 p1 hv2 ⊢
      have ne : ∀ {G : Hp} {c : Addr} {ys : List V}, Same H1 G → G c = some (.tup ys) → c ≠ p := fun sG eG z => by
        rw [z, sG _ _ p1] at eG
        cases eG
      refine ⟨.int i, rfl, i, 0, rfl, rfl, _, rfl, ite2 (fun _ => ?_) fun _ => ?_⟩
      · refine ⟨.ref a, rfl, (1 : Int), rfl, .inl ⟨a, xs, rfl, e1, fun c G sG eG => ?_⟩⟩
        obtain ⟨es, de, le2, me⟩ := dtL_cut (r1.keepM (Keep.of sG)) (some 1) none
        refine q _ _ (.tuple es) (s1.trans sG) (.tup (ne sG eG) eG (Nat.le_trans (cutV_length _ _ _) l) de) (tme_tup.mpr ⟨by omega, fun d hd => (al d (me d hd)).mono (by omega) (Nat.le_refl _)⟩)
      · refine ⟨.ref a, rfl, .ref a, rfl, (1 : Int), rfl, .inl ⟨a, xs, rfl, e1, fun c G sG eG => ?_⟩⟩
        obtain ⟨es, de, le2, me⟩ := dtL_cut (r1.keepM (Keep.of sG)) none (some 1)
        have lc := cutV_length xs none (some 1)
        refine .inl ⟨a, c, xs, _, rfl, rfl, sG _ _ e1, eG, Nat.le_trans (Nat.add_le_add (le ▸ ln) (Nat.le_trans lc (le ▸ ln))) (Nat.le_trans (Nat.add_le_add hN hN) (by decide)), fun c2 G2 sG2 eG2 => ?_⟩
        refine q _ _ (.tuple (ds ++ es)) ((s1.trans sG).trans sG2) (.tup (ne (sG.trans sG2) eG2) eG2 (by rw [List.length_append]; omega) (dtL_app (r1.keepM (Keep.of (sG.trans sG2))) (de.keepM (Keep.of sG2)))) (tme_tup.mpr ⟨by rw [List.length_append]; omega, fun d hd => ?_⟩)
        rcases List.mem_append.mp hd with q1 | q1
        · exact (al d q1).mono (by omega) (Nat.le_refl _)
        · exact (al d (me d q1)).mono (by omega) (Nat.le_refl _)
end
end Th
namespace Th
open PySem PySem.Spec PyProof.Rows L2
/-! any thing, drawn -/
theorem net_names {K : PySem.W.Frag} {H : Hp} {r : Addr} {x : Nm} {ls : List Nm} {y : Nm × Nm} {sts : List (Nm × Nm)} {jns : List (Nm × List Nm)} {tis : List Ti} (h : NetAt H r (x :: ls) (y :: sts) jns tis) :
    ∃ (a b c d u : Addr) (us : List V), H r = some (.tup [.ref a, .ref b, .ref c, .ref d]) ∧ SqT K H a (nS x :: ls.map nS) ∧ SqT K H b (.ref u :: us) ∧ H u = some (.tup [nS y.1, nS y.2]) := by
  obtain ⟨a, b, c, d, sa, ja, ta, e1, e2, e3, e4, _⟩ := h
  cases e4 with
  | cons s t => exact ⟨a, b, c, d, _, _, e1, e2.sq, e3.sq, s⟩
theorem dtL_ints {S : Addr → Prop} {H : Hp} : ∀ is : List Int, DtAll S H (is.map V.int) (is.map PyData.int)
  | [] => .nil
  | i :: is => .cons (.int i) (dtL_ints is)
theorem dtC {S : Addr → Prop} {H : Hp} {v : V} {vs : List V} {d : PyData} {ds : List PyData} (h : DtAll S H (v :: vs) (d :: ds)) : Dt S H v d ∧ DtAll S H vs ds := by
  cases h with
  | cons a b => exact ⟨a, b⟩
theorem gr_t {p A : Addr} {H G : Hp} {vs : List V} {ds : List PyData} {xs : List V} {es : List PyData} (b : Bag H p) (sG : Same H G) (all : DtAll (SN p) G vs ds) (nA : G A = none) (l : xs.length ≤ 5000) (hx : DtAll (SN p) G xs es) :
    Same H (upd G A (.tup xs)) ∧ DtAll (SN p) (upd G A (.tup xs)) (.ref A :: vs) (.tuple es :: ds) :=
  ⟨sG.trans (same_upd nA), .cons (.tup ((b.keep sG).ne nA) upd_same l (hx.keepM (Keep.of (same_upd nA)))) (all.keepM (Keep.of (same_upd nA)))⟩
theorem gr_l {p A : Addr} {H G : Hp} {vs : List V} {ds : List PyData} {xs : List V} {es : List PyData} (b : Bag H p) (sG : Same H G) (all : DtAll (SN p) G vs ds) (nA : G A = none) (l : xs.length ≤ 5000) (hx : DtAll (SN p) G xs es) :
    Same H (upd G A (.lst xs)) ∧ DtAll (SN p) (upd G A (.lst xs)) (.ref A :: vs) (.list es :: ds) :=
  ⟨sG.trans (same_upd nA), .cons (.lst ((b.keep sG).ne nA) upd_same l (hx.keepM (Keep.of (same_upd nA)))) (all.keepM (Keep.of (same_upd nA)))⟩
def anyI : List Int := [-1, 0, 1, 2, 23, 24, 30, 99, 100, 420, 421, 9999, 10000, 10 ^ 9, 10 ^ 9 + 1, 10 ^ 40]
def anysD (x y : Str) : List PyData := [.none, .bool true, .bool false] ++ anyI.map PyData.int ++
  [.str "", .str "a", .str "whole", .str "laden", .str "seals", .str "none", .str "line", .str x, .str y, .list [], .tuple [], .list [.int 1], .tuple [.int 1, .int 2]] ++
  [.tuple [.str "seals"], .tuple [.str "none"], .tuple [.str "line", .str x], .tuple [.str "line"], .tuple [.str "line", .str "Zz"], .tuple [.int 0, .int (10 ^ 9 + 1)], .tuple [.bool true, .int 0]] ++
  [.tuple [.str "none", .int 1], .list [.str x], .tuple [.str "seals", .str "none"], .tuple [.list []], .tuple [.str "line", .list [.int 1]]]
section
variable {P : Program} {w : World} {K : PySem.W.Frag} {mg : Str → Option Value} {base : Heap} {k : Nat}
def sp_l_any : Sp := fun vs H Q _ => ∃ (p h r : Addr) (hz : List V) (x : Nm) (ls : List Nm) (y : Nm × Nm) (sts : List (Nm × Nm)) (jns : List (Nm × List Nm)) (tis : List Ti), vs = [.ref p, .ref h] ∧ Bag H p ∧ H h = some (.tup (.ref r :: hz)) ∧ NetAt H r (x :: ls) (y :: sts) jns tis ∧
  ∀ H' v d, Keep p H H' → Bag H' p → Dt (SN p) H' v d → d ∈ anysD (SX.S x) (SX.S y.1) → Q v H'
set_option maxHeartbeats 8000000 in
theorem ok_l_any (T : Defs K mg) : FnOk P w K mg base CX0 (k + 2) T.a_l_any T.d_l_any ["_law_bag_here", "_law_house_here"] sp_l_any := by
  have G_l_take : FnOk P w K mg base CX0 (k + 1) _ _ _ _ := ok_l_take T
  refine T.F_l_any.ok sc_l_any (fun vs H Q E h => ?_) (fun cdv A outer s H vs Q E hr h => ?_)
  · obtain ⟨p, h, r, hz, x, ls, y, sts, jns, tis, rfl, _⟩ := h
    rfl
  · obtain ⟨p, h, r, hz, x, ls, y, sts, jns, tis, rfl, b, eh, nat, q⟩ := h
    refine ⟨_, PSs.nox
(pss_cons (ps_set (i := 2) sc_l_any.nd rfl (.inl rfl) (pe_ix (r := rIxT K) ix_tup (pv 1) (pe_int) (fun _ _ => rfl)))
    (pss_cons (ps_set (i := 3) sc_l_any.nd rfl (.inl rfl) (pe_lst (pa_cons (pe_non) (pa_cons (pe_bl) (pa_cons (pe_bl) (pa_cons (pe_un un_neg (pe_int)) (pa_cons (pe_int) (pa_cons (pe_int) (pa_cons (pe_int) (pa_cons (pe_int) (pa_cons (pe_int) (pa_cons (pe_int) (pa_cons (pe_int) (pa_cons (pe_int) (pa_cons (pe_int) (pa_cons (pe_int) (pa_cons (pe_int) (pa_cons (pe_int) (pa_cons (pe_op op_pow (pe_int) (pe_int)) (pa_cons (pe_op op_add (pe_op op_pow (pe_int) (pe_int)) (pe_int)) (pa_cons (pe_op op_pow (pe_int) (pe_int)) pa_nil)))))))))))))))))))))
    (pss_cons (ps_set (i := 3) sc_l_any.nd rfl (.inl rfl) (pe_op op_cat (pv 3) (pe_lst (pa_cons (pe_str) (pa_cons (pe_str) (pa_cons (pe_str) (pa_cons (pe_str) (pa_cons (pe_str) (pa_cons (pe_str) (pa_cons (pe_str) (pa_cons (pe_ix (r := rIxT K) ix_tup (pe_ix (r := rIxT K) ix_tup (pv 2) (pe_int) (fun _ _ => rfl)) (pe_int) (fun _ _ => rfl)) (pa_cons (pe_ix (r := rIxT K) ix_tup (pe_ix (r := rIxT K) ix_tup (pe_ix (r := rIxT K) ix_tup (pv 2) (pe_int) (fun _ _ => rfl)) (pe_int) (fun _ _ => rfl)) (pe_int) (fun _ _ => rfl)) (pa_cons (pe_lst pa_nil) (pa_cons (pe_tup pa_nil) (pa_cons (pe_lst (pa_cons (pe_int) pa_nil)) (pa_cons (pe_tup (pa_cons (pe_int) (pa_cons (pe_int) pa_nil))) pa_nil))))))))))))))))
    (pss_cons (ps_set (i := 3) sc_l_any.nd rfl (.inl rfl) (pe_op op_cat (pv 3) (pe_lst (pa_cons (pe_tup (pa_cons (pe_str) pa_nil)) (pa_cons (pe_tup (pa_cons (pe_str) pa_nil)) (pa_cons (pe_tup (pa_cons (pe_str) (pa_cons (pe_ix (r := rIxT K) ix_tup (pe_ix (r := rIxT K) ix_tup (pv 2) (pe_int) (fun _ _ => rfl)) (pe_int) (fun _ _ => rfl)) pa_nil))) (pa_cons (pe_tup (pa_cons (pe_str) pa_nil)) (pa_cons (pe_tup (pa_cons (pe_str) (pa_cons (pe_str) pa_nil))) (pa_cons (pe_tup (pa_cons (pe_int) (pa_cons (pe_op op_add (pe_op op_pow (pe_int) (pe_int)) (pe_int)) pa_nil))) (pa_cons (pe_tup (pa_cons (pe_bl) (pa_cons (pe_int) pa_nil))) pa_nil))))))))))
    (pss_one (ps_ret (pe_ix (r := rIxL K) ix_list (pe_op op_cat (pv 3) (pe_lst (pa_cons (pe_tup (pa_cons (pe_str) (pa_cons (pe_int) pa_nil))) (pa_cons (pe_lst (pa_cons (pe_ix (r := rIxT K) ix_tup (pe_ix (r := rIxT K) ix_tup (pv 2) (pe_int) (fun _ _ => rfl)) (pe_int) (fun _ _ => rfl)) pa_nil)) (pa_cons (pe_tup (pa_cons (pe_str) (pa_cons (pe_str) pa_nil))) (pa_cons (pe_tup (pa_cons (pe_lst pa_nil) pa_nil)) (pa_cons (pe_tup (pa_cons (pe_str) (pa_cons (pe_lst (pa_cons (pe_int) pa_nil)) pa_nil))) pa_nil))))))) (pe_call G_l_take hr (by rfl) T.g_l_take T.F_l_take.kp T.b_l_take .nil pass0 (pa_cons (pv 0) (pa_cons (pe_int) pa_nil))) (fun _ _ => rfl))))))))
      , ?_⟩
    have small : ∀ n : Nat, n ≤ 100 → n ≤ 5000 := fun n h => by omega
    have cp1 : CPow 10 9 := ⟨by decide, by decide, by decide⟩
    have cp2 : CPow 10 40 := ⟨by decide, by decide, by decide⟩
    refine ⟨.ref h, rfl, h, _, 0, .ref r, rfl, rfl, SqT.of eh, atI_nat (j := 0) rfl, 1, rfl, 10, 9, rfl, rfl, cp1, 10, 9, rfl, rfl, cp1, _, 1, rfl, rfl, 10, 40, rfl, rfl, cp2, by show 19 ≤ sizeLine; decide, fun S1 n1 => ?_⟩
    have v1 : V := .non
    generalize eL1 : ([V.non, .bl true, .bl false] ++ anyI.map V.int : List V) = L1
    have d1 : ∀ G, DtAll (SN p) G L1 ([.none, .bool true, .bool false] ++ anyI.map PyData.int) := fun G => eL1 ▸ .cons .non (.cons (.bl _) (.cons (.bl _) (dtL_ints _)))
    have len1 : L1.length = 19 := eL1 ▸ rfl
    have eS : (upd H S1 (.lst L1)) S1 = some (.lst L1) := upd_same
    have s : Same H (upd H S1 (.lst L1)) := same_upd n1
    have all : DtAll (SN p) (upd H S1 (.lst L1)) [] [] := .nil
    have go : ∀ G : Hp, G = upd H S1 (.lst L1) → G = upd H S1 (.lst [V.non, .bl true, .bl false, (fun i => V.int (-i)) 1, .int 0, .int 1, .int 2, .int 23, .int 24, .int 30, .int 99, .int 100, .int 420, .int 421, .int 9999, .int 10000, (fun i j : Int => V.int (i ^ j.toNat)) 10 9, (fun i j : Int => V.int (i + j)) (10 ^ (9 : Int).toNat) 1, (fun i j : Int => V.int (i ^ j.toNat)) 10 40]) := fun _ e => e.trans (by rw [← eL1]; rfl)
    rw [← go _ rfl]
    generalize upd H S1 (.lst L1) = G at s all eS ⊢
    clear go eL1
    obtain ⟨ia, ib, ic, id, iu, us, er, sa, sb, eu⟩ := net_names (K := K) (nat.tk (TKF.of s))
    refine ⟨.ref S1, rfl, .ref r, rfl, r, _, 0, .ref ia, rfl, rfl, SqT.of er, atI_nat (j := 0) rfl, ia, _, 0, nS x, rfl, rfl, sa, atI_nat (j := 0) rfl, .ref r, rfl, r, _, 1, .ref ib, rfl, rfl, SqT.of er, atI_nat (j := 1) rfl, ib, _, 0, .ref iu, rfl, rfl, sb, atI_nat (j := 0) rfl, iu, _, 0, nS y.1, rfl, rfl, SqT.of eu, atI_nat (j := 0) rfl, by show 0 ≤ sizeLine; decide, fun A1 nA1 => ?_⟩
    obtain ⟨s', all⟩ := gr_l (A := A1) (xs := []) (es := []) b s all nA1 (small 0 (by decide)) .nil
    have eS := same_upd (o := .lst []) nA1 _ _ eS
    have s := s'; clear s'
    generalize upd G A1 (.lst []) = G at s all eS ⊢
    refine ⟨by show 0 ≤ sizeLine; decide, fun A2 nA2 => ?_⟩
    obtain ⟨s', all⟩ := gr_t (A := A2) (xs := []) (es := []) b s all nA2 (small 0 (by decide)) .nil
    have eS := same_upd (o := .tup []) nA2 _ _ eS
    have s := s'; clear s'
    generalize upd G A2 (.tup []) = G at s all eS ⊢
    refine ⟨by show 1 ≤ sizeLine; decide, fun A3 nA3 => ?_⟩
    obtain ⟨s', all⟩ := gr_l (A := A3) (xs := [V.int 1]) (es := [.int 1]) b s all nA3 (small 1 (by decide)) (.cons (.int _) .nil)
    have eS := same_upd (o := .lst [V.int 1]) nA3 _ _ eS
    have s := s'; clear s'
    generalize upd G A3 (.lst [V.int 1]) = G at s all eS ⊢
    refine ⟨by show 2 ≤ sizeLine; decide, fun A4 nA4 => ?_⟩
    obtain ⟨s', all⟩ := gr_t (A := A4) (xs := [V.int 1, .int 2]) (es := [.int 1, .int 2]) b s all nA4 (small 2 (by decide)) (.cons (.int _) (.cons (.int _) .nil))
    have eS := same_upd (o := .tup [V.int 1, .int 2]) nA4 _ _ eS
    have s := s'; clear s'
    generalize upd G A4 (.tup [V.int 1, .int 2]) = G at s all eS ⊢
    refine ⟨by show 13 ≤ sizeLine; decide, fun B2 nB2 => ?_⟩
    have u := same_upd (o := .lst [V.str ("" : Str), .str ("a" : Str), .str ("whole" : Str), .str ("laden" : Str), .str ("seals" : Str), .str ("none" : Str), .str ("line" : Str), nS x, nS y.1, .ref A1, .ref A2, .ref A3, .ref A4]) nB2
    have eB2 : (upd G B2 (.lst [V.str ("" : Str), .str ("a" : Str), .str ("whole" : Str), .str ("laden" : Str), .str ("seals" : Str), .str ("none" : Str), .str ("line" : Str), nS x, nS y.1, .ref A1, .ref A2, .ref A3, .ref A4])) B2 = some (.lst [V.str ("" : Str), .str ("a" : Str), .str ("whole" : Str), .str ("laden" : Str), .str ("seals" : Str), .str ("none" : Str), .str ("line" : Str), nS x, nS y.1, .ref A1, .ref A2, .ref A3, .ref A4]) := upd_same
    have s := s.trans u
    have all := all.keepM (Keep.of u)
    have eS := u _ _ eS
    generalize upd G B2 (.lst [V.str ("" : Str), .str ("a" : Str), .str ("whole" : Str), .str ("laden" : Str), .str ("seals" : Str), .str ("none" : Str), .str ("line" : Str), nS x, nS y.1, .ref A1, .ref A2, .ref A3, .ref A4]) = G at s all eB2 eS ⊢
    clear u
    refine ⟨S1, B2, _, _, rfl, rfl, eS, eB2, by rw [len1]; exact Nat.le_of_ble_eq_true rfl, fun S2 nS2 => ?_⟩
    have u := same_upd (o := .lst (L1 ++ [V.str ("" : Str), .str ("a" : Str), .str ("whole" : Str), .str ("laden" : Str), .str ("seals" : Str), .str ("none" : Str), .str ("line" : Str), nS x, nS y.1, .ref A1, .ref A2, .ref A3, .ref A4])) nS2
    have eS : (upd G S2 (.lst (L1 ++ [V.str ("" : Str), .str ("a" : Str), .str ("whole" : Str), .str ("laden" : Str), .str ("seals" : Str), .str ("none" : Str), .str ("line" : Str), nS x, nS y.1, .ref A1, .ref A2, .ref A3, .ref A4]))) S2 = some (.lst (L1 ++ [V.str ("" : Str), .str ("a" : Str), .str ("whole" : Str), .str ("laden" : Str), .str ("seals" : Str), .str ("none" : Str), .str ("line" : Str), nS x, nS y.1, .ref A1, .ref A2, .ref A3, .ref A4])) := upd_same
    have s := s.trans u
    have all := all.keepM (Keep.of u)
    generalize upd G S2 (.lst (L1 ++ [V.str ("" : Str), .str ("a" : Str), .str ("whole" : Str), .str ("laden" : Str), .str ("seals" : Str), .str ("none" : Str), .str ("line" : Str), nS x, nS y.1, .ref A1, .ref A2, .ref A3, .ref A4])) = G at s all eS ⊢
    clear u
    obtain ⟨ia, ib, ic, id, iu, us, er, sa, sb, eu⟩ := net_names (K := K) (nat.tk (TKF.of s))
    refine ⟨.ref S2, rfl, by show 1 ≤ sizeLine; decide, fun C1 nC1 => ?_⟩
    obtain ⟨s', all⟩ := gr_t (A := C1) (xs := [V.str ("seals" : Str)]) (es := [.str "seals"]) b s all nC1 (small 1 (by decide)) (.cons (.str _) .nil)
    have eS := same_upd (o := .tup [V.str ("seals" : Str)]) nC1 _ _ eS
    have s := s'; clear s'
    generalize upd G C1 (.tup [V.str ("seals" : Str)]) = G at s all eS ⊢
    refine ⟨by show 1 ≤ sizeLine; decide, fun C2 nC2 => ?_⟩
    obtain ⟨s', all⟩ := gr_t (A := C2) (xs := [V.str ("none" : Str)]) (es := [.str "none"]) b s all nC2 (small 1 (by decide)) (.cons (.str _) .nil)
    have eS := same_upd (o := .tup [V.str ("none" : Str)]) nC2 _ _ eS
    have s := s'; clear s'
    generalize upd G C2 (.tup [V.str ("none" : Str)]) = G at s all eS ⊢
    obtain ⟨ia, ib, ic, id, iu, us, er, sa, sb, eu⟩ := net_names (K := K) (nat.tk (TKF.of s))
    refine ⟨.ref r, rfl, r, _, 0, .ref ia, rfl, rfl, SqT.of er, atI_nat (j := 0) rfl, ia, _, 0, nS x, rfl, rfl, sa, atI_nat (j := 0) rfl, by show 2 ≤ sizeLine; decide, fun C3 nC3 => ?_⟩
    obtain ⟨s', all⟩ := gr_t (A := C3) (xs := [V.str ("line" : Str), nS x]) (es := [.str "line", .str (SX.S x)]) b s all nC3 (small 2 (by decide)) (.cons (.str _) (.cons (.str _) .nil))
    have eS := same_upd (o := .tup [V.str ("line" : Str), nS x]) nC3 _ _ eS
    have s := s'; clear s'
    generalize upd G C3 (.tup [V.str ("line" : Str), nS x]) = G at s all eS ⊢
    refine ⟨by show 1 ≤ sizeLine; decide, fun C4 nC4 => ?_⟩
    obtain ⟨s', all⟩ := gr_t (A := C4) (xs := [V.str ("line" : Str)]) (es := [.str "line"]) b s all nC4 (small 1 (by decide)) (.cons (.str _) .nil)
    have eS := same_upd (o := .tup [V.str ("line" : Str)]) nC4 _ _ eS
    have s := s'; clear s'
    generalize upd G C4 (.tup [V.str ("line" : Str)]) = G at s all eS ⊢
    refine ⟨by show 2 ≤ sizeLine; decide, fun C5 nC5 => ?_⟩
    obtain ⟨s', all⟩ := gr_t (A := C5) (xs := [V.str ("line" : Str), .str ("Zz" : Str)]) (es := [.str "line", .str "Zz"]) b s all nC5 (small 2 (by decide)) (.cons (.str _) (.cons (.str _) .nil))
    have eS := same_upd (o := .tup [V.str ("line" : Str), .str ("Zz" : Str)]) nC5 _ _ eS
    have s := s'; clear s'
    generalize upd G C5 (.tup [V.str ("line" : Str), .str ("Zz" : Str)]) = G at s all eS ⊢
    refine ⟨10, 9, rfl, rfl, cp1, _, 1, rfl, rfl, by show 2 ≤ sizeLine; decide, fun C6 nC6 => ?_⟩
    obtain ⟨s', all⟩ := gr_t (A := C6) (xs := [V.int 0, (fun i j : Int => V.int (i + j)) (10 ^ (9 : Int).toNat) 1]) (es := [.int 0, .int (10 ^ 9 + 1)]) b s all nC6 (small 2 (by decide)) (.cons (.int _) (.cons (.int _) .nil))
    have eS := same_upd (o := .tup [V.int 0, (fun i j : Int => V.int (i + j)) (10 ^ (9 : Int).toNat) 1]) nC6 _ _ eS
    have s := s'; clear s'
    generalize upd G C6 (.tup [V.int 0, (fun i j : Int => V.int (i + j)) (10 ^ (9 : Int).toNat) 1]) = G at s all eS ⊢
    refine ⟨by show 2 ≤ sizeLine; decide, fun C7 nC7 => ?_⟩
    obtain ⟨s', all⟩ := gr_t (A := C7) (xs := [V.bl true, .int 0]) (es := [.bool true, .int 0]) b s all nC7 (small 2 (by decide)) (.cons (.bl _) (.cons (.int _) .nil))
    have eS := same_upd (o := .tup [V.bl true, .int 0]) nC7 _ _ eS
    have s := s'; clear s'
    generalize upd G C7 (.tup [V.bl true, .int 0]) = G at s all eS ⊢
    refine ⟨by show 7 ≤ sizeLine; decide, fun B3 nB3 => ?_⟩
    have u := same_upd (o := .lst [V.ref C1, .ref C2, .ref C3, .ref C4, .ref C5, .ref C6, .ref C7]) nB3
    have eB3 : (upd G B3 (.lst [V.ref C1, .ref C2, .ref C3, .ref C4, .ref C5, .ref C6, .ref C7])) B3 = some (.lst [V.ref C1, .ref C2, .ref C3, .ref C4, .ref C5, .ref C6, .ref C7]) := upd_same
    have s := s.trans u
    have all := all.keepM (Keep.of u)
    have eS := u _ _ eS
    generalize upd G B3 (.lst [V.ref C1, .ref C2, .ref C3, .ref C4, .ref C5, .ref C6, .ref C7]) = G at s all eB3 eS ⊢
    clear u
    refine ⟨S2, B3, _, _, rfl, rfl, eS, eB3, by rw [List.length_append, len1]; exact Nat.le_of_ble_eq_true rfl, fun S3 nS3 => ?_⟩
    have u := same_upd (o := .lst ((L1 ++ [V.str ("" : Str), .str ("a" : Str), .str ("whole" : Str), .str ("laden" : Str), .str ("seals" : Str), .str ("none" : Str), .str ("line" : Str), nS x, nS y.1, .ref A1, .ref A2, .ref A3, .ref A4]) ++ [V.ref C1, .ref C2, .ref C3, .ref C4, .ref C5, .ref C6, .ref C7])) nS3
    have eS : (upd G S3 (.lst ((L1 ++ [V.str ("" : Str), .str ("a" : Str), .str ("whole" : Str), .str ("laden" : Str), .str ("seals" : Str), .str ("none" : Str), .str ("line" : Str), nS x, nS y.1, .ref A1, .ref A2, .ref A3, .ref A4]) ++ [V.ref C1, .ref C2, .ref C3, .ref C4, .ref C5, .ref C6, .ref C7]))) S3 = some (.lst ((L1 ++ [V.str ("" : Str), .str ("a" : Str), .str ("whole" : Str), .str ("laden" : Str), .str ("seals" : Str), .str ("none" : Str), .str ("line" : Str), nS x, nS y.1, .ref A1, .ref A2, .ref A3, .ref A4]) ++ [V.ref C1, .ref C2, .ref C3, .ref C4, .ref C5, .ref C6, .ref C7])) := upd_same
    have s := s.trans u
    have all := all.keepM (Keep.of u)
    generalize upd G S3 (.lst ((L1 ++ [V.str ("" : Str), .str ("a" : Str), .str ("whole" : Str), .str ("laden" : Str), .str ("seals" : Str), .str ("none" : Str), .str ("line" : Str), nS x, nS y.1, .ref A1, .ref A2, .ref A3, .ref A4]) ++ [V.ref C1, .ref C2, .ref C3, .ref C4, .ref C5, .ref C6, .ref C7])) = G at s all eS ⊢
    clear u
    refine ⟨.ref S3, rfl, by show 2 ≤ sizeLine; decide, fun D1 nD1 => ?_⟩
    obtain ⟨s', all⟩ := gr_t (A := D1) (xs := [V.str ("none" : Str), .int 1]) (es := [.str "none", .int 1]) b s all nD1 (small 2 (by decide)) (.cons (.str _) (.cons (.int _) .nil))
    have eS := same_upd (o := .tup [V.str ("none" : Str), .int 1]) nD1 _ _ eS
    have s := s'; clear s'
    generalize upd G D1 (.tup [V.str ("none" : Str), .int 1]) = G at s all eS ⊢
    obtain ⟨ia, ib, ic, id, iu, us, er, sa, sb, eu⟩ := net_names (K := K) (nat.tk (TKF.of s))
    refine ⟨.ref r, rfl, r, _, 0, .ref ia, rfl, rfl, SqT.of er, atI_nat (j := 0) rfl, ia, _, 0, nS x, rfl, rfl, sa, atI_nat (j := 0) rfl, by show 1 ≤ sizeLine; decide, fun D2 nD2 => ?_⟩
    obtain ⟨s', all⟩ := gr_l (A := D2) (xs := [nS x]) (es := [.str (SX.S x)]) b s all nD2 (small 1 (by decide)) (.cons (.str _) .nil)
    have eS := same_upd (o := .lst [nS x]) nD2 _ _ eS
    have s := s'; clear s'
    generalize upd G D2 (.lst [nS x]) = G at s all eS ⊢
    refine ⟨by show 2 ≤ sizeLine; decide, fun D3 nD3 => ?_⟩
    obtain ⟨s', all⟩ := gr_t (A := D3) (xs := [V.str ("seals" : Str), .str ("none" : Str)]) (es := [.str "seals", .str "none"]) b s all nD3 (small 2 (by decide)) (.cons (.str _) (.cons (.str _) .nil))
    have eS := same_upd (o := .tup [V.str ("seals" : Str), .str ("none" : Str)]) nD3 _ _ eS
    have s := s'; clear s'
    generalize upd G D3 (.tup [V.str ("seals" : Str), .str ("none" : Str)]) = G at s all eS ⊢
    refine ⟨by show 0 ≤ sizeLine; decide, fun D4 nD4 => ?_⟩
    obtain ⟨s', all⟩ := gr_l (A := D4) (xs := []) (es := []) b s all nD4 (small 0 (by decide)) .nil
    have eS := same_upd (o := .lst []) nD4 _ _ eS
    have s := s'; clear s'
    generalize upd G D4 (.lst []) = G at s all eS ⊢
    refine ⟨by show 1 ≤ sizeLine; decide, fun D5 nD5 => ?_⟩
    obtain ⟨s', all⟩ := gr_t (A := D5) (xs := [V.ref D4]) (es := [.list []]) b s all nD5 (small 1 (by decide)) (.cons (dtC all).1 .nil)
    have eS := same_upd (o := .tup [V.ref D4]) nD5 _ _ eS
    have s := s'; clear s'
    generalize upd G D5 (.tup [V.ref D4]) = G at s all eS ⊢
    refine ⟨by show 1 ≤ sizeLine; decide, fun D6 nD6 => ?_⟩
    obtain ⟨s', all⟩ := gr_l (A := D6) (xs := [V.int 1]) (es := [.int 1]) b s all nD6 (small 1 (by decide)) (.cons (.int _) .nil)
    have eS := same_upd (o := .lst [V.int 1]) nD6 _ _ eS
    have s := s'; clear s'
    generalize upd G D6 (.lst [V.int 1]) = G at s all eS ⊢
    refine ⟨by show 2 ≤ sizeLine; decide, fun D7 nD7 => ?_⟩
    obtain ⟨s', all⟩ := gr_t (A := D7) (xs := [V.str ("line" : Str), .ref D6]) (es := [.str "line", .list [.int 1]]) b s all nD7 (small 2 (by decide)) (.cons (.str _) (.cons (dtC all).1 .nil))
    have eS := same_upd (o := .tup [V.str ("line" : Str), .ref D6]) nD7 _ _ eS
    have s := s'; clear s'
    generalize upd G D7 (.tup [V.str ("line" : Str), .ref D6]) = G at s all eS ⊢
    refine ⟨by show 5 ≤ sizeLine; decide, fun B4 nB4 => ?_⟩
    have u := same_upd (o := .lst [V.ref D1, .ref D2, .ref D3, .ref D5, .ref D7]) nB4
    have eB4 : (upd G B4 (.lst [V.ref D1, .ref D2, .ref D3, .ref D5, .ref D7])) B4 = some (.lst [V.ref D1, .ref D2, .ref D3, .ref D5, .ref D7]) := upd_same
    have s := s.trans u
    have all := all.keepM (Keep.of u)
    have eS := u _ _ eS
    generalize upd G B4 (.lst [V.ref D1, .ref D2, .ref D3, .ref D5, .ref D7]) = G at s all eB4 eS ⊢
    clear u
    refine ⟨S3, B4, _, _, rfl, rfl, eS, eB4, by rw [List.length_append, List.length_append, len1]; exact Nat.le_of_ble_eq_true rfl, fun S4 nS4 => ?_⟩
    have u := same_upd (o := .lst ((L1 ++ [V.str ("" : Str), .str ("a" : Str), .str ("whole" : Str), .str ("laden" : Str), .str ("seals" : Str), .str ("none" : Str), .str ("line" : Str), nS x, nS y.1, .ref A1, .ref A2, .ref A3, .ref A4] ++ [V.ref C1, .ref C2, .ref C3, .ref C4, .ref C5, .ref C6, .ref C7]) ++ [V.ref D1, .ref D2, .ref D3, .ref D5, .ref D7])) nS4
    have eS : (upd G S4 (.lst ((L1 ++ [V.str ("" : Str), .str ("a" : Str), .str ("whole" : Str), .str ("laden" : Str), .str ("seals" : Str), .str ("none" : Str), .str ("line" : Str), nS x, nS y.1, .ref A1, .ref A2, .ref A3, .ref A4] ++ [V.ref C1, .ref C2, .ref C3, .ref C4, .ref C5, .ref C6, .ref C7]) ++ [V.ref D1, .ref D2, .ref D3, .ref D5, .ref D7]))) S4 = some (.lst ((L1 ++ [V.str ("" : Str), .str ("a" : Str), .str ("whole" : Str), .str ("laden" : Str), .str ("seals" : Str), .str ("none" : Str), .str ("line" : Str), nS x, nS y.1, .ref A1, .ref A2, .ref A3, .ref A4] ++ [V.ref C1, .ref C2, .ref C3, .ref C4, .ref C5, .ref C6, .ref C7]) ++ [V.ref D1, .ref D2, .ref D3, .ref D5, .ref D7])) := upd_same
    have s := s.trans u
    have all := all.keepM (Keep.of u)
    generalize upd G S4 (.lst ((L1 ++ [V.str ("" : Str), .str ("a" : Str), .str ("whole" : Str), .str ("laden" : Str), .str ("seals" : Str), .str ("none" : Str), .str ("line" : Str), nS x, nS y.1, .ref A1, .ref A2, .ref A3, .ref A4] ++ [V.ref C1, .ref C2, .ref C3, .ref C4, .ref C5, .ref C6, .ref C7]) ++ [V.ref D1, .ref D2, .ref D3, .ref D5, .ref D7])) = G at s all eS ⊢
    clear u
    refine ⟨.ref p, rfl, p, 44, rfl, b.keep s, by decide, by decide, fun H9 c k9 b9 c0 c1 => ?_⟩
    have nS4 : S4 ≠ p := fun z => by
      obtain ⟨g, r', e', _⟩ := b.keep s
      rw [z, e'] at eS
      have := congrArg (fun o => match o with | some (HO.lst xs) => xs.length | _ => 0) eS
      simp [len1] at this
    have eS := k9 _ _ nS4 eS
    have all := all.keepM k9
    obtain ⟨hD7, all⟩ := dtC all
    obtain ⟨hD6, all⟩ := dtC all
    obtain ⟨hD5, all⟩ := dtC all
    obtain ⟨hD4, all⟩ := dtC all
    obtain ⟨hD3, all⟩ := dtC all
    obtain ⟨hD2, all⟩ := dtC all
    obtain ⟨hD1, all⟩ := dtC all
    obtain ⟨hC7, all⟩ := dtC all
    obtain ⟨hC6, all⟩ := dtC all
    obtain ⟨hC5, all⟩ := dtC all
    obtain ⟨hC4, all⟩ := dtC all
    obtain ⟨hC3, all⟩ := dtC all
    obtain ⟨hC2, all⟩ := dtC all
    obtain ⟨hC1, all⟩ := dtC all
    obtain ⟨hA4, all⟩ := dtC all
    obtain ⟨hA3, all⟩ := dtC all
    obtain ⟨hA2, all⟩ := dtC all
    obtain ⟨hA1, all⟩ := dtC all
    have full : DtAll (SN p) H9 (L1 ++ [V.str ("" : Str), .str ("a" : Str), .str ("whole" : Str), .str ("laden" : Str), .str ("seals" : Str), .str ("none" : Str), .str ("line" : Str), nS x, nS y.1, .ref A1, .ref A2, .ref A3, .ref A4] ++ [V.ref C1, .ref C2, .ref C3, .ref C4, .ref C5, .ref C6, .ref C7] ++ [V.ref D1, .ref D2, .ref D3, .ref D5, .ref D7]) (anysD (SX.S x) (SX.S y.1)) := dtL_app (dtL_app (dtL_app (d1 H9) (.cons (.str _) (.cons (.str _) (.cons (.str _) (.cons (.str _) (.cons (.str _) (.cons (.str _) (.cons (.str _) (.cons (.str _) (.cons (.str _) (.cons hA1 (.cons hA2 (.cons hA3 (.cons hA4 .nil)))))))))))))) (.cons hC1 (.cons hC2 (.cons hC3 (.cons hC4 (.cons hC5 (.cons hC6 (.cons hC7 .nil)))))))) (.cons hD1 (.cons hD2 (.cons hD3 (.cons hD5 (.cons hD7 .nil)))))
    have lf : (L1 ++ [V.str ("" : Str), .str ("a" : Str), .str ("whole" : Str), .str ("laden" : Str), .str ("seals" : Str), .str ("none" : Str), .str ("line" : Str), nS x, nS y.1, .ref A1, .ref A2, .ref A3, .ref A4] ++ [V.ref C1, .ref C2, .ref C3, .ref C4, .ref C5, .ref C6, .ref C7] ++ [V.ref D1, .ref D2, .ref D3, .ref D5, .ref D7]).length = 44 := by rw [List.length_append, List.length_append, List.length_append, len1]; rfl
    obtain ⟨n, rfl⟩ : ∃ n : Nat, c = (n : Int) := ⟨c.toNat, by omega⟩
    obtain ⟨v, ev⟩ : ∃ v, (L1 ++ [V.str ("" : Str), .str ("a" : Str), .str ("whole" : Str), .str ("laden" : Str), .str ("seals" : Str), .str ("none" : Str), .str ("line" : Str), nS x, nS y.1, .ref A1, .ref A2, .ref A3, .ref A4] ++ [V.ref C1, .ref C2, .ref C3, .ref C4, .ref C5, .ref C6, .ref C7] ++ [V.ref D1, .ref D2, .ref D3, .ref D5, .ref D7])[n]? = some v := ⟨_, List.getElem?_eq_getElem (by rw [lf]; omega)⟩
    obtain ⟨d, ed, hd⟩ := full.get ev
    exact ⟨S4, _, _, v, rfl, rfl, SqL.of eS, atI_nat ev, q _ v d ((Keep.of s).trans k9) b9 hd (List.mem_of_getElem? ed)⟩
end
end Th
namespace Th
open PySem PySem.Spec PyProof.Rows L2
/-! a thing bent -/
theorem fmA {q : PyData → Prop} {d : PyData} {ds : List PyData} (h : q d) (t : ∀ z ∈ ds, q z) : ∀ z ∈ d :: ds, q z := List.forall_mem_cons.mpr ⟨h, t⟩
theorem fmAp {q : PyData → Prop} {ds es : List PyData} (h : ∀ z ∈ ds, q z) (t : ∀ z ∈ es, q z) : ∀ z ∈ ds ++ es, q z := fun z hz => (List.mem_append.mp hz).elim (h z) (t z)
theorem tme_cl (L : List PyData) (h1 : PyData.canLayAll0 L = true) (h2 : PyData.depthAll L ≤ 3) (h3 : srtAll 100 L = true) : ∀ d ∈ L, TmE 100 3 d := fun d hd => ⟨(lay_iff L).mp h1 d hd, (dep_iff 3 L).mp h2 d hd, (srt_iff 100 L).mp h3 d hd⟩
set_option maxRecDepth 100000 in
theorem tme_any {x y : Str} (hx : PyData.strOk x = true) (sx : decide (x.length ≤ 100) = true) (hy : PyData.strOk y = true) (sy : decide (y.length ≤ 100) = true) : ∀ d ∈ anysD x y, TmE 100 3 d := by
  unfold anysD
  refine fmAp (fmAp (fmAp (tme_cl _ (by decide +kernel) (by decide +kernel) (by decide +kernel)) ?_) ?_) ?_
  · exact (fmA ⟨by decide +kernel, by decide +kernel, by decide +kernel⟩ (fmA ⟨by decide +kernel, by decide +kernel, by decide +kernel⟩ (fmA ⟨by decide +kernel, by decide +kernel, by decide +kernel⟩ (fmA ⟨by decide +kernel, by decide +kernel, by decide +kernel⟩ (fmA ⟨by decide +kernel, by decide +kernel, by decide +kernel⟩ (fmA ⟨by decide +kernel, by decide +kernel, by decide +kernel⟩ (fmA ⟨by decide +kernel, by decide +kernel, by decide +kernel⟩ (fmA ⟨hx, Nat.zero_le _, sx⟩ (fmA ⟨hy, Nat.zero_le _, sy⟩ (fmA ⟨by decide +kernel, by decide +kernel, by decide +kernel⟩ (fmA ⟨by decide +kernel, by decide +kernel, by decide +kernel⟩ (fmA ⟨by decide +kernel, by decide +kernel, by decide +kernel⟩ (fmA ⟨by decide +kernel, by decide +kernel, by decide +kernel⟩ (fun _ h => (by cases h)))))))))))))))
  · exact (fmA ⟨by decide +kernel, by decide +kernel, by decide +kernel⟩ (fmA ⟨by decide +kernel, by decide +kernel, by decide +kernel⟩ (fmA (tme_tup.mpr ⟨by show 2 ≤ 100; decide, fmA ⟨by decide +kernel, by decide +kernel, by decide +kernel⟩ (fmA ⟨hx, Nat.zero_le _, sx⟩ (fun _ h => (by cases h)))⟩) (fmA ⟨by decide +kernel, by decide +kernel, by decide +kernel⟩ (fmA ⟨by decide +kernel, by decide +kernel, by decide +kernel⟩ (fmA ⟨by decide +kernel, by decide +kernel, by decide +kernel⟩ (fmA ⟨by decide +kernel, by decide +kernel, by decide +kernel⟩ (fun _ h => (by cases h)))))))))
  · exact (fmA ⟨by decide +kernel, by decide +kernel, by decide +kernel⟩ (fmA ⟨by show (PyData.strOk x && true) = true; rw [hx]; rfl, by show max 0 0 + 1 ≤ 3; decide, by show (decide (1 ≤ 100) && (decide (x.length ≤ 100) && true)) = true; rw [sx]; rfl⟩ (fmA ⟨by decide +kernel, by decide +kernel, by decide +kernel⟩ (fmA ⟨by decide +kernel, by decide +kernel, by decide +kernel⟩ (fmA ⟨by decide +kernel, by decide +kernel, by decide +kernel⟩ (fun _ h => (by cases h)))))))
theorem atI_rng {xs : List V} {i : Int} (h0 : -(xs.length : Int) ≤ i) (h1 : i < (xs.length : Int)) : ∃ v, atI xs i = some v := by
  by_cases c : 0 ≤ i
  · obtain ⟨n, rfl⟩ : ∃ n : Nat, i = (n : Int) := ⟨i.toNat, by omega⟩
    exact ⟨xs[n]'(by omega), atI_nat (List.getElem?_eq_getElem (by omega))⟩
  · refine ⟨xs[(i + xs.length).toNat]'(by omega), ?_⟩
    unfold atI ixN
    simp [c, h0]
theorem sl_go {K : PySem.W.Frag} {p t : Addr} {H : Hp} {Q : VK} {xs : List V} {ds : List PyData} {lo hi : Option Int} (e : H t = some (.tup xs)) (r : DtAll (SN p) H xs ds) (b : Bag H p)
    (k : ∀ c G ys es, Same H G → G c = some (.tup ys) → c ≠ p → DtAll (SN p) G ys es → ys.length ≤ xs.length → (∀ z ∈ es, z ∈ ds) → Q (.ref c) G) : Th.rSlS K (.ref t) lo hi H Q := by
  refine ⟨t, xs, rfl, e, fun c G s eG => ?_⟩
  obtain ⟨es, de, _, me⟩ := dtL_cut (r.keepM (Keep.of s)) lo hi
  refine k c G _ es s eG (fun z => ?_) de (cutV_length _ _ _) me
  obtain ⟨g, r', e', _⟩ := b.keep s
  rw [z, e'] at eG
  cases eG
theorem cat_go {K : PySem.W.Frag} {p a a2 : Addr} {H : Hp} {Q : VK} {xs ys : List V} {ds es : List PyData} (e : H a = some (.tup xs)) (e2 : H a2 = some (.tup ys)) (r : DtAll (SN p) H xs ds) (r2 : DtAll (SN p) H ys es) (b : Bag H p) (l : xs.length + ys.length ≤ 5000)
    (k : ∀ c G, Same H G → G c = some (.tup (xs ++ ys)) → c ≠ p → DtAll (SN p) G (xs ++ ys) (ds ++ es) → Q (.ref c) G) : Th.rCatS K (.ref a) (.ref a2) H Q := by
  refine ⟨a, a2, xs, ys, rfl, rfl, e, e2, Nat.le_trans l (by decide), fun c G s eG => ?_⟩
  refine k c G s eG (fun z => ?_) (dtL_app (r.keepM (Keep.of s)) (r2.keepM (Keep.of s)))
  obtain ⟨g, r', e', _⟩ := b.keep s
  rw [z, e'] at eG
  cases eG
section
variable {P : Program} {w : World} {K : PySem.W.Frag} {mg : Str → Option Value} {base : Heap} {k : Nat}
def sp_l_bent : Sp := fun vs H Q _ => ∃ (p h r t : Addr) (hz : List V) (x : Nm) (ls : List Nm) (y : Nm × Nm) (sts : List (Nm × Nm)) (jns : List (Nm × List Nm)) (tis : List Ti) (ds : List PyData) (N : Nat), vs = [.ref p, .ref h, .ref t] ∧ Bag H p ∧ H h = some (.tup (.ref r :: hz)) ∧ NetAt H r (x :: ls) (y :: sts) jns tis ∧ IsNm x ∧ IsNm y.1 ∧
  Dt (SN p) H (.ref t) (.tuple ds) ∧ ds ≠ [] ∧ TmE N 10 (.tuple ds) ∧ 100 ≤ N ∧ N ≤ 1000 ∧ ∀ H' c ds', Keep p H H' → Bag H' p → Dt (SN p) H' (.ref c) (.tuple ds') → TmE (N + N + 1) 10 (.tuple ds') → Q (.ref c) H'
set_option maxHeartbeats 8000000 in
theorem ok_l_bent (T : Defs K mg) : FnOk P w K mg base CX0 (k + 3) T.a_l_bent T.d_l_bent ["_law_bag_here", "_law_house_here", "_law_paper_here"] sp_l_bent := by
  have G_l_take : FnOk P w K mg base CX0 (k + 2) _ _ _ _ := ok_l_take (k := k + 1) T
  have G_l_any : FnOk P w K mg base CX0 (k + 2) _ _ _ _ := ok_l_any (k := k) T
  have G_l_stepped : FnOk P w K mg base CX0 (k + 2) _ _ _ _ := ok_l_stepped (k := k + 1) T
  refine T.F_l_bent.ok sc_l_bent (fun vs H Q E h => ?_) (fun cdv A outer s H vs Q E hr h => ?_)
  · obtain ⟨p, h, r, t, hz, x, ls, y, sts, jns, tis, ds, N, rfl, _⟩ := h
    rfl
  · obtain ⟨p, h, r, t, hz, x, ls, y, sts, jns, tis, ds, N, rfl, bg, eh, nat, nx, ny, hd, nds, td, N1, N2, q⟩ := h
    refine ⟨_, PSs.nox
(pss_cons (ps_par (i := 3) (j := 4) (by rfl) sc_l_bent.nd rfl rfl (by decide) rfl rfl (pa_cons (pe_call G_l_take hr (by rfl) T.g_l_take T.F_l_take.kp T.b_l_take .nil pass0 (pa_cons (pv 0) (pa_cons (pe_int) pa_nil))) (pa_cons (pe_op op_mod (pe_call G_l_take hr (by rfl) T.g_l_take T.F_l_take.kp T.b_l_take .nil pass0 (pa_cons (pv 0) (pa_cons (pe_int) pa_nil))) (pe_callB (r := rLenS K) call_lenS (by rfl) T.z_len (by decide +kernel) (pa_cons (pv 2) pa_nil))) pa_nil)) (by rfl))
    (pss_cons (ps_par (i := 5) (j := 6) (by rfl) sc_l_bent.nd rfl rfl (by decide) rfl rfl (pa_cons (pe_call G_l_any hr (by rfl) T.g_l_any T.F_l_any.kp T.b_l_any .nil pass0 (pa_cons (pv 0) (pa_cons (pv 1) pa_nil))) (pa_cons (pe_op op_sub (pe_op op_mul (pe_int) (pe_call G_l_take hr (by rfl) T.g_l_take T.F_l_take.kp T.b_l_take .nil pass0 (pa_cons (pv 0) (pa_cons (pe_int) pa_nil)))) (pe_int)) pa_nil)) (by rfl))
    (pss_cons (ps_if (pt_cmpR op_lt (pv 3) (pe_int) (nomark _))
      (pss_one (ps_ret (pe_op op_catS (pe_op op_catS (pe_slice (r := rSlS K) sl_tupS (pv 2) po_none (po_some (pv 4))) (pe_tup (pa_cons (pv 5) pa_nil))) (pe_slice (r := rSlS K) sl_tupS (pv 2) (po_some (pe_op op_add (pv 4) (pe_int))) po_none))))
      pss_nil)
    (pss_cons (ps_if (pt_cmpR op_eq (pv 3) (pe_int) (nomark _))
      (pss_one (ps_ret (pe_op op_catS (pe_op op_catS (pe_slice (r := rSlS K) sl_tupS (pv 2) po_none (po_some (pv 4))) (pe_tup (pa_cons (pe_call G_l_stepped hr (by rfl) T.g_l_stepped T.F_l_stepped.kp T.b_l_stepped .nil pass0 (pa_cons (pe_ix (r := rIxT K) ix_tup (pv 2) (pv 4) (fun _ _ => rfl)) (pa_cons (pv 6) pa_nil))) pa_nil))) (pe_slice (r := rSlS K) sl_tupS (pv 2) (po_some (pe_op op_add (pv 4) (pe_int))) po_none))))
      pss_nil)
    (pss_cons (ps_if (pt_cmpR op_eq (pv 3) (pe_int) (nomark _))
      (pss_one (ps_ret (pe_op op_catS (pe_slice (r := rSlS K) sl_tupS (pv 2) po_none (po_some (pv 4))) (pe_slice (r := rSlS K) sl_tupS (pv 2) (po_some (pe_op op_add (pv 4) (pe_int))) po_none))))
      pss_nil)
    (pss_cons (ps_if (pt_cmpR op_eq (pv 3) (pe_int) (nomark _))
      (pss_one (ps_ret (pe_op op_catS (pe_op op_catS (pe_slice (r := rSlS K) sl_tupS (pv 2) po_none (po_some (pv 4))) (pe_tup (pa_cons (pv 5) pa_nil))) (pe_slice (r := rSlS K) sl_tupS (pv 2) (po_some (pv 4)) po_none))))
      pss_nil)
    (pss_cons (ps_if (pt_cmpR op_eq (pv 3) (pe_int) (nomark _))
      (pss_cons (ps_set (i := 7) sc_l_bent.nd rfl (.inl rfl) (pe_ix (r := rIxT K) ix_tup (pe_tup (pa_cons (pe_str) (pa_cons (pe_str) (pa_cons (pe_str) (pa_cons (pe_str) (pa_cons (pe_str) (pa_cons (pe_str) (pa_cons (pe_str) pa_nil)))))))) (pe_call G_l_take hr (by rfl) T.g_l_take T.F_l_take.kp T.b_l_take .nil pass0 (pa_cons (pv 0) (pa_cons (pe_int) pa_nil))) (fun _ _ => rfl)))
      (pss_one (ps_ret (pe_op op_catS (pe_tup (pa_cons (pv 7) pa_nil)) (pe_slice (r := rSlS K) sl_tupS (pv 2) (po_some (pe_int)) po_none)))))
      pss_nil)
    (pss_one (ps_ret (pe_op op_catS (pe_op op_catS (pe_slice (r := rSlS K) sl_tupS (pv 2) po_none (po_some (pv 4))) (pe_tup (pa_cons (pe_ix (r := rIxT K) ix_tup (pv 2) (pe_op op_sub (pv 4) (pe_int)) (fun _ _ => rfl)) pa_nil))) (pe_slice (r := rSlS K) sl_tupS (pv 2) (po_some (pe_op op_add (pv 4) (pe_int))) po_none)))))))))))
      , ?_⟩
    obtain ⟨lN, mds⟩ := tme_tup.mp td
    have one : 1 ≤ sizeLine := by decide
    obtain ⟨xs, et, r0, lx⟩ : ∃ xs, H t = some (.tup xs) ∧ DtAll (SN p) H xs ds ∧ xs.length ≤ N := by
      cases hd with
      | tup s e l r => exact ⟨_, e, r, by rw [r.len]; exact lN⟩
    have ntp : t ≠ p := fun z => by
      obtain ⟨g, r', e', _⟩ := bg
      rw [z, e'] at et
      cases et
    have nhp : h ≠ p := fun z => by
      obtain ⟨g, r', e', _⟩ := bg
      rw [z, e'] at eh
      cases eh
    have lpos : 0 < xs.length := by
      rw [r0.len]
      exact List.length_pos_iff.mpr nds
    refine ⟨.ref p, rfl, p, 7, rfl, bg, by decide, by decide, fun H1 way k1 b1 w0 w1 => ⟨.ref p, rfl, p, 10, rfl, b1, by decide, by decide, fun H2 c k2 b2 c0 c1 => ?_⟩⟩
    have k12 := k1.trans k2
    have et2 := k12 _ _ ntp et
    refine ⟨.ref t, rfl, t, xs, rfl, .inr (SqT.of et2), c, _, rfl, rfl, by omega, _, _, rfl, ?_⟩
    obtain ⟨at_, ea, a0, a1⟩ : ∃ at_ : Int, c % (xs.length : Int) = at_ ∧ 0 ≤ at_ ∧ at_ < (xs.length : Int) := ⟨_, rfl, Int.emod_nonneg _ (by omega), Int.emod_lt_of_pos _ (by omega)⟩
    have ea2 : (fun i j : Int => V.int (i % j)) c (xs.length : Int) = V.int at_ := congrArg V.int ea
    rw [ea2]
    clear ea2
    refine ⟨.ref p, rfl, .ref h, rfl, p, h, r, hz, x, ls, y, sts, jns, tis, rfl, b2, k12 _ _ nhp eh, nat.tk (TKF.keep k12 bg), fun H3 v d k3 b3 hv md => ⟨.ref p, rfl, p, 2, rfl, b3, by decide, by decide, fun H4 e k4 b4 e0 e1 => ⟨2, e, rfl, rfl, .inl ⟨by decide, by decide⟩, _, 1, rfl, rfl, v, _, rfl, ?_⟩⟩⟩
    have k14 := (k12.trans k3).trans k4
    have et := k14 _ _ ntp et
    have r := r0.keepM k14
    have hv := hv.keepN k4
    have tv : TmE (N + N + 1) 9 d := (tme_any (nm_ok nx) (nm_srt nx) (nm_ok ny) (nm_srt ny) d md).mono (by omega) (by decide)
    have fin : ∀ G c ys es, Same H4 G → G c = some (.tup ys) → c ≠ p → DtAll (SN p) G ys es → ys.length ≤ N + N + 1 → (∀ z ∈ es, z ∈ ds ∨ TmE (N + N + 1) 9 z) → Q (.ref c) G := fun G c ys es s e n dd l m => by
      refine q G c es (k14.trans (.of s)) (b4.keep s) (.tup n e (by omega) dd) (tme_tup.mpr ⟨by rw [← dd.len]; exact l, fun z hz => ?_⟩)
      rcases m z hz with i | i
      · exact (mds z i).mono (by omega) (Nat.le_refl _)
      · exact i
    have rd : ∀ G, Same H4 G → ∀ i v, atI xs i = some v → ∃ z, z ∈ ds ∧ Dt (SN p) G v z := fun G s i v h => by
      obtain ⟨n, _, hn, _⟩ := atI_get h
      obtain ⟨z, hz, hd⟩ := (r.keepM (Keep.of s)).get hn
      exact ⟨z, List.mem_of_getElem? hz, hd⟩
    refine ⟨.int way, rfl, way, 2, rfl, rfl, _, rfl, ite2 (fun _ => ?_) fun _ => ?_⟩
    · refine ⟨.ref t, rfl, .int at_, rfl, at_, rfl, sl_go et r b4 fun c1 G1 ys1 es1 s1 e1 n1 d1 l1 m1 => ?_⟩
      refine ⟨v, rfl, ?_⟩
      obtain ⟨GT, vT, zT, eGT, sT, evT, hT, mT⟩ : ∃ GT vT zT, GT = G1 ∧ Same G1 GT ∧ vT = v ∧ Dt (SN p) GT vT zT ∧ (zT ∈ ds ∨ TmE (N + N + 1) 9 zT) := ⟨G1, v, d, rfl, fun _ _ e => e, rfl, hv.keepN (Keep.of s1), .inr tv⟩
      rw [← eGT, ← evT]
      refine ⟨one, fun A nA => ?_⟩
      have sA := same_upd (o := .tup [vT]) nA
      have eA : (upd GT A (.tup [vT])) A = some (.tup [vT]) := upd_same
      generalize upd GT A (.tup [vT]) = G2 at sA eA ⊢
      have s2 := (s1.trans sT).trans sA
      have sTA := sT.trans sA
      refine cat_go (sTA _ _ e1) eA (d1.keepM (Keep.of sTA)) (.cons (hT.keepN (Keep.of sA)) .nil) (b4.keep s2) (by simp only [List.length_cons, List.length_nil]; omega) fun c2 G3 s3 e3 n3 d3 => ?_
      have S3 := s2.trans s3
      refine ⟨.ref t, rfl, .int at_, rfl, at_, 1, rfl, rfl, at_ + 1, rfl, ?_⟩
      unfold tNoPart
      refine sl_go (S3 _ _ et) (r.keepM (Keep.of S3)) (b4.keep S3) fun c4 G4 ys4 es4 s4 e4 n4 d4 l4 m4 => ?_
      refine cat_go (s4 _ _ e3) e4 (d3.keepM (Keep.of s4)) d4 (b4.keep (S3.trans s4)) (by simp only [List.length_append, List.length_cons, List.length_nil]; omega) fun c5 G5 s5 e5 n5 d5 => ?_
      refine fin _ c5 _ _ ((S3.trans s4).trans s5) e5 n5 d5 (by simp only [List.length_append, List.length_cons, List.length_nil]; omega) fun z hz => ?_
      rcases List.mem_append.mp hz with i | i
      · rcases List.mem_append.mp i with i | i
        · exact .inl (m1 z i)
        · rw [List.mem_singleton.mp i]; exact mT
      · exact .inl (m4 z i)
    refine ⟨.int way, rfl, rfl, _, rfl, ite2 (fun _ => ?_) fun _ => ?_⟩
    · refine ⟨.ref t, rfl, .int at_, rfl, at_, rfl, sl_go et r b4 fun c1 G1 ys1 es1 s1 e1 n1 d1 l1 m1 => ?_⟩
      obtain ⟨v0, ev0⟩ : ∃ v0, atI xs at_ = some v0 := atI_rng (by omega) a1
      obtain ⟨z0, mz0, hz0⟩ := rd G1 s1 _ _ ev0
      refine ⟨.ref t, rfl, .int at_, rfl, t, xs, at_, v0, rfl, rfl, SqT.of (s1 _ _ et), ev0, .int (2 * e - 1), rfl, ?_⟩
      obtain ⟨g', r', eb', _⟩ := b4.keep s1
      refine ⟨v0, z0, 2 * e - 1, p, _, N, 9, rfl, hz0, mds z0 mz0, N2, eb', fun GT vT zT sT hT tT => ?_⟩
      have mT : zT ∈ ds ∨ TmE (N + N + 1) 9 zT := .inr (tT.mono (by omega) (Nat.le_refl _))
      refine ⟨one, fun A nA => ?_⟩
      have sA := same_upd (o := .tup [vT]) nA
      have eA : (upd GT A (.tup [vT])) A = some (.tup [vT]) := upd_same
      generalize upd GT A (.tup [vT]) = G2 at sA eA ⊢
      have s2 := (s1.trans sT).trans sA
      have sTA := sT.trans sA
      refine cat_go (sTA _ _ e1) eA (d1.keepM (Keep.of sTA)) (.cons (hT.keepN (Keep.of sA)) .nil) (b4.keep s2) (by simp only [List.length_cons, List.length_nil]; omega) fun c2 G3 s3 e3 n3 d3 => ?_
      have S3 := s2.trans s3
      refine ⟨.ref t, rfl, .int at_, rfl, at_, 1, rfl, rfl, at_ + 1, rfl, ?_⟩
      unfold tNoPart
      refine sl_go (S3 _ _ et) (r.keepM (Keep.of S3)) (b4.keep S3) fun c4 G4 ys4 es4 s4 e4 n4 d4 l4 m4 => ?_
      refine cat_go (s4 _ _ e3) e4 (d3.keepM (Keep.of s4)) d4 (b4.keep (S3.trans s4)) (by simp only [List.length_append, List.length_cons, List.length_nil]; omega) fun c5 G5 s5 e5 n5 d5 => ?_
      refine fin _ c5 _ _ ((S3.trans s4).trans s5) e5 n5 d5 (by simp only [List.length_append, List.length_cons, List.length_nil]; omega) fun z hz => ?_
      rcases List.mem_append.mp hz with i | i
      · rcases List.mem_append.mp i with i | i
        · exact .inl (m1 z i)
        · rw [List.mem_singleton.mp i]; exact mT
      · exact .inl (m4 z i)
    refine ⟨.int way, rfl, rfl, _, rfl, ite2 (fun _ => ?_) fun _ => ?_⟩
    · refine ⟨.ref t, rfl, .int at_, rfl, at_, rfl, sl_go et r b4 fun c1 G1 ys1 es1 s1 e1 n1 d1 l1 m1 => ?_⟩
      refine ⟨.ref t, rfl, .int at_, rfl, at_, 1, rfl, rfl, at_ + 1, rfl, ?_⟩
      unfold tNoPart
      refine sl_go (s1 _ _ et) (r.keepM (Keep.of s1)) (b4.keep s1) fun c4 G4 ys4 es4 s4 e4 n4 d4 l4 m4 => ?_
      refine cat_go (s4 _ _ e1) e4 (d1.keepM (Keep.of s4)) d4 (b4.keep (s1.trans s4)) (by omega) fun c5 G5 s5 e5 n5 d5 => ?_
      refine fin _ c5 _ _ ((s1.trans s4).trans s5) e5 n5 d5 (by rw [List.length_append]; omega) fun z hz => ?_
      rcases List.mem_append.mp hz with i | i
      · exact .inl (m1 z i)
      · exact .inl (m4 z i)
    refine ⟨.int way, rfl, rfl, _, rfl, ite2 (fun _ => ?_) fun _ => ?_⟩
    · refine ⟨.ref t, rfl, .int at_, rfl, at_, rfl, sl_go et r b4 fun c1 G1 ys1 es1 s1 e1 n1 d1 l1 m1 => ?_⟩
      refine ⟨v, rfl, ?_⟩
      obtain ⟨GT, vT, zT, eGT, sT, evT, hT, mT⟩ : ∃ GT vT zT, GT = G1 ∧ Same G1 GT ∧ vT = v ∧ Dt (SN p) GT vT zT ∧ (zT ∈ ds ∨ TmE (N + N + 1) 9 zT) := ⟨G1, v, d, rfl, fun _ _ e => e, rfl, hv.keepN (Keep.of s1), .inr tv⟩
      rw [← eGT, ← evT]
      refine ⟨one, fun A nA => ?_⟩
      have sA := same_upd (o := .tup [vT]) nA
      have eA : (upd GT A (.tup [vT])) A = some (.tup [vT]) := upd_same
      generalize upd GT A (.tup [vT]) = G2 at sA eA ⊢
      have s2 := (s1.trans sT).trans sA
      have sTA := sT.trans sA
      refine cat_go (sTA _ _ e1) eA (d1.keepM (Keep.of sTA)) (.cons (hT.keepN (Keep.of sA)) .nil) (b4.keep s2) (by simp only [List.length_cons, List.length_nil]; omega) fun c2 G3 s3 e3 n3 d3 => ?_
      have S3 := s2.trans s3
      refine ⟨.ref t, rfl, .int at_, rfl, at_, rfl, ?_⟩
      unfold tNoPart
      refine sl_go (S3 _ _ et) (r.keepM (Keep.of S3)) (b4.keep S3) fun c4 G4 ys4 es4 s4 e4 n4 d4 l4 m4 => ?_
      refine cat_go (s4 _ _ e3) e4 (d3.keepM (Keep.of s4)) d4 (b4.keep (S3.trans s4)) (by simp only [List.length_append, List.length_cons, List.length_nil]; omega) fun c5 G5 s5 e5 n5 d5 => ?_
      refine fin _ c5 _ _ ((S3.trans s4).trans s5) e5 n5 d5 (by simp only [List.length_append, List.length_cons, List.length_nil]; omega) fun z hz => ?_
      rcases List.mem_append.mp hz with i | i
      · rcases List.mem_append.mp i with i | i
        · exact .inl (m1 z i)
        · rw [List.mem_singleton.mp i]; exact mT
      · exact .inl (m4 z i)
    refine ⟨.int way, rfl, rfl, _, rfl, ite2 (fun _ => ?_) fun _ => ?_⟩
    · refine ⟨by show 7 ≤ sizeLine; decide, fun W nW => ?_⟩
      have sW := same_upd (o := .tup [V.str ("waybill" : Str), .str ("return" : Str), .str ("toll" : Str), .str ("claim" : Str), .str ("answer" : Str), .str ("ruling" : Str), .str ("withdrawal" : Str)]) nW
      refine ⟨.ref p, rfl, p, 7, rfl, b4.keep sW, by decide, by decide, fun H5 c k5 b5 c0 c1 => ?_⟩
      have k45 : Keep p H4 H5 := (Keep.of sW).trans k5
      obtain ⟨zk, mzk, ek⟩ := pickS (ss := KINDS_L) c0 c1
      refine ⟨W, _, c, .str zk, rfl, rfl, SqT.of (k5 _ _ (b4.ne nW) upd_same), ek, .str zk, rfl, one, fun A nA => ?_⟩
      have sA := same_upd (o := .tup [V.str zk]) nA
      have eA : (upd H5 A (.tup [V.str zk])) A = some (.tup [V.str zk]) := upd_same
      have bA := b5.keep sA
      have kA := k45.trans (.of sA)
      generalize upd H5 A (.tup [V.str zk]) = G2 at sA eA bA kA ⊢
      refine ⟨.ref t, rfl, (1 : Int), rfl, ?_⟩
      unfold tNoPart
      refine sl_go (kA _ _ ntp et) (r.keepM kA) bA fun c4 G4 ys4 es4 s4 e4 n4 d4 l4 m4 => ?_
      refine cat_go (s4 _ _ eA) e4 (.cons (.str zk) .nil) d4 (bA.keep s4) (by simp only [List.length_cons, List.length_nil]; omega) fun c5 G5 s5 e5 n5 d5 => ?_
      refine q G5 c5 _ ((k14.trans kA).trans (.of (s4.trans s5))) (bA.keep (s4.trans s5)) (.tup n5 e5 (by simp only [List.length_append, List.length_cons, List.length_nil]; omega) d5) (tme_tup.mpr ⟨by rw [← d5.len]; simp only [List.length_append, List.length_cons, List.length_nil]; omega, fun z hz => ?_⟩)
      rcases List.mem_cons.mp hz with i | i
      · rw [i]
        exact ((by decide +kernel : ∀ a ∈ KINDS_L, (PyData.strOk a && decide (a.length ≤ 100)) = true) zk mzk |> fun h => ⟨(Bool.and_eq_true_iff.mp h).1, Nat.zero_le _, srt_mono (N := 100) (by omega) (.str zk) (Bool.and_eq_true_iff.mp h).2⟩)
      · exact (mds z (m4 z i)).mono (by omega) (Nat.le_refl _)
    refine ⟨.ref t, rfl, .int at_, rfl, at_, rfl, sl_go et r b4 fun c1 G1 ys1 es1 s1 e1 n1 d1 l1 m1 => ?_⟩
    obtain ⟨v0, ev0⟩ : ∃ v0, atI xs (at_ - 1) = some v0 := atI_rng (by omega) (by omega)
    obtain ⟨z0, mz0, hz0⟩ := rd G1 s1 _ _ ev0
    refine ⟨.ref t, rfl, .int at_, rfl, at_, 1, rfl, rfl, t, xs, at_ - 1, v0, rfl, rfl, SqT.of (s1 _ _ et), ev0, ?_⟩
    obtain ⟨GT, vT, zT, eGT, sT, evT, hT, mT⟩ : ∃ GT vT zT, GT = G1 ∧ Same G1 GT ∧ vT = v0 ∧ Dt (SN p) GT vT zT ∧ (zT ∈ ds ∨ TmE (N + N + 1) 9 zT) := ⟨G1, v0, z0, rfl, fun _ _ e => e, rfl, hz0, .inl mz0⟩
    rw [← eGT, ← evT]
    refine ⟨one, fun A nA => ?_⟩
    have sA := same_upd (o := .tup [vT]) nA
    have eA : (upd GT A (.tup [vT])) A = some (.tup [vT]) := upd_same
    generalize upd GT A (.tup [vT]) = G2 at sA eA ⊢
    have s2 := (s1.trans sT).trans sA
    have sTA := sT.trans sA
    refine cat_go (sTA _ _ e1) eA (d1.keepM (Keep.of sTA)) (.cons (hT.keepN (Keep.of sA)) .nil) (b4.keep s2) (by simp only [List.length_cons, List.length_nil]; omega) fun c2 G3 s3 e3 n3 d3 => ?_
    have S3 := s2.trans s3
    refine ⟨.ref t, rfl, .int at_, rfl, at_, 1, rfl, rfl, at_ + 1, rfl, ?_⟩
    unfold tNoPart
    refine sl_go (S3 _ _ et) (r.keepM (Keep.of S3)) (b4.keep S3) fun c4 G4 ys4 es4 s4 e4 n4 d4 l4 m4 => ?_
    refine cat_go (s4 _ _ e3) e4 (d3.keepM (Keep.of s4)) d4 (b4.keep (S3.trans s4)) (by simp only [List.length_append, List.length_cons, List.length_nil]; omega) fun c5 G5 s5 e5 n5 d5 => ?_
    refine fin _ c5 _ _ ((S3.trans s4).trans s5) e5 n5 d5 (by simp only [List.length_append, List.length_cons, List.length_nil]; omega) fun z hz => ?_
    rcases List.mem_append.mp hz with i | i
    · rcases List.mem_append.mp i with i | i
      · exact .inl (m1 z i)
      · rw [List.mem_singleton.mp i]; exact mT
    · exact .inl (m4 z i)
end
end Th
namespace Th
open PySem PySem.Spec PyProof.Rows L2
/-! the law: the house's data, papers bent, the fault twice -/
theorem HouseAt.same {H H' : Hp} {h r wl gl ru : Addr} {ways : List (List Nm)} {wags : List (Int × Nm)} {n m2 : Nat} {L S T J : Nat → Nm} (a : HouseAt H h r wl gl ru ways wags n m2 L S T J) (s : Same H H') : HouseAt H' h r wl gl ru ways wags n m2 L S T J := by
  obtain ⟨e, ⟨wa, w1, w2⟩, ⟨ga, g1, g2⟩, ⟨a0, a1, a2, le, ls, r1, r2, r3⟩, c1, c2, c3, c4⟩ := a
  exact ⟨s _ _ e, ⟨wa, s _ _ w1, paired_imp w2 fun _ _ _ z => s _ _ z⟩, ⟨ga, s _ _ g1, paired_imp g2 fun _ _ _ z => s _ _ z⟩, ⟨a0, a1, a2, le, ls, s _ _ r1, s _ _ r2, r3⟩, c1, c2, c3, c4⟩
theorem sqL_sameL {K : PySem.W.Frag} {H H' : Hp} {a : Addr} {xs : List V} (s : Same H H') (h : SqL K H a xs) : SqL K H' a xs := by
  rcases h with (h | ⟨o, h⟩) | h
  · exact .inl (.inl (s _ _ h))
  · exact .inl (.inr ⟨o, s _ _ h⟩)
  · exact .inr h
theorem same_viaL {H H1 H2 : Hp} {p : Addr} (s : Same H H1) (k : Keep p H1 H2) (n : H p = none) : Same H H2 := fun b o e => k b o (ne_of_none e n) (s b o e)
theorem noL_pp {x : Pp} (h : noLAll x.rest = true) : noL (ppD x) = true := by
  show (true && (true && (true && noLAll x.rest))) = true
  rw [h]
  rfl
theorem tme_pp {x : Pp} (h : PpOk x) (k : x.kd ∈ KINDS_L) (s0 : srtAll 100 x.rest = true ∧ x.rest.length ≤ 100) : TmE 103 10 (ppD x) := by
  refine ⟨h.lay, h.dep, ?_⟩
  have e : decide (x.kd.length ≤ 100) = true := (by decide +kernel : ∀ a ∈ KINDS_L, decide (a.length ≤ 100) = true) _ k
  have s := srtAll_mono (M := 103) (by decide) _ s0.1
  have l := s0.2
  have e : decide (x.kd.length ≤ 103) = true := decide_eq_true (Nat.le_trans (of_decide_eq_true e) (by decide))
  show (decide ((.str x.kd :: .int x.num :: .int x.ed :: x.rest : List PyData).length ≤ 103) && (decide (x.kd.length ≤ 103) && (true && (true && srtAll 103 x.rest)))) = true
  rw [s, e, decide_eq_true (by simp only [List.length_cons]; omega)]
  rfl
mutual
theorem Dt.offM {H : Hp} {C : Addr} {ys : List V} (hC : H C = some (.lst ys)) : ∀ {v : V} {d : PyData}, Dt SA H v d → noL d = true → Dt (SN C) H v d
  | _, _, .non, _ => .non
  | _, _, .bl b, h => by simp [noL] at h
  | _, _, .int b, _ => .int b
  | _, _, .str b, _ => .str b
  | _, _, .lst s e l r, h => by simp [noL] at h
  | _, _, .tup s e l r, h => .tup (fun z => by rw [z, hC] at e; cases e) e l (DtAll.offM hC r (by simpa [noL] using h))
theorem DtAll.offM {H : Hp} {C : Addr} {ys : List V} (hC : H C = some (.lst ys)) : ∀ {v : List V} {d : List PyData}, DtAll SA H v d → noLAll d = true → DtAll (SN C) H v d
  | _, _, .nil, _ => .nil
  | _, _, .cons a r, h => by
    simp only [noLAll, Bool.and_eq_true] at h
    exact .cons (Dt.offM hC a h.1) (DtAll.offM hC r h.2)
end
def wyD (gs : List Nm) : PyData := .tuple ((gs.map SX.S).map PyData.str)
def wgD (x : Int × Nm) : PyData := .tuple [.int x.1, .str (SX.S x.2)]
def hdD (ways : List (List Nm)) (wags : List (Int × Nm)) : PyData := .tuple [.list (ways.map wyD), .list (wags.map wgD)]
theorem way_nm {n m2 : Nat} {S T J : Nat → Nm} {gs : List Nm} (h : WayH n m2 S T J gs) (hS : ∀ k, IsNm (S k)) (hT : ∀ k, IsNm (T k)) (hJ : ∀ k, IsNm (J k)) : ∀ z ∈ gs, IsNm z := by
  have hp : ∀ i j, ∀ z ∈ hPath S J i j, IsNm z := fun i j z hz => by
    unfold hPath at hz
    rcases List.mem_append.mp hz with h | h
    · rcases List.mem_cons.mp h with e | h
      · rw [e]; exact hS i
      · obtain ⟨k, _, rfl⟩ := List.mem_map.mp h
        exact hJ _
    · rw [List.mem_singleton.mp h]; exact hS j
  intro z hz
  rcases h with ⟨k, _, rfl | rfl⟩ | ⟨i, j, _, _, rfl | rfl⟩
  · simp only [List.mem_cons, List.not_mem_nil, or_false] at hz
    rcases hz with rfl | rfl
    · exact hS k
    · exact hT k
  · simp only [List.mem_cons, List.not_mem_nil, or_false] at hz
    rcases hz with rfl | rfl
    · exact hT k
    · exact hS k
  · exact hp i j z hz
  · exact hp i j z (List.mem_reverse.mp hz)
theorem layAll_mem : ∀ {ds : List PyData}, (∀ d ∈ ds, d.canLay0 = true) → PyData.canLayAll0 ds = true := fun h => (lay_iff _).mpr h
theorem shaped_hd {ways : List (List Nm)} {wags : List (Int × Nm)} (h1 : ∀ gs ∈ ways, ∀ z ∈ gs, IsNm z) (h2 : ∀ x ∈ wags, IsNm x.2) : SeqAt.shaped (hdD ways wags) = true := by
  have a1 : PyData.canLayAll0 (ways.map wyD) = true := layAll_mem fun d hd => by
    obtain ⟨gs, hg, rfl⟩ := List.mem_map.mp hd
    exact layAll_nmsH (h1 gs hg)
  have a2 : PyData.canLayAll0 (wags.map wgD) = true := layAll_mem fun d hd => by
    obtain ⟨x, hg, rfl⟩ := List.mem_map.mp hd
    show (true && (PyData.strOk (SX.S x.2) && true)) = true
    rw [nm_ok (h2 x hg)]
    rfl
  have b1 : PyData.depthAll (ways.map wyD) ≤ 1 := (dep_iff 1 _).mpr fun d hd => by
    obtain ⟨gs, _, rfl⟩ := List.mem_map.mp hd
    show PyData.depthAll ((gs.map SX.S).map PyData.str) + 1 ≤ 1
    rw [depthAll_nmsH]
    exact Nat.le_refl _
  have b2 : PyData.depthAll (wags.map wgD) ≤ 1 := (dep_iff 1 _).mpr fun d hd => by
    obtain ⟨x, _, rfl⟩ := List.mem_map.mp hd
    show max 0 (max 0 0) + 1 ≤ 1
    decide
  refine Bool.and_eq_true_iff.mpr ⟨?_, decide_eq_true ?_⟩
  · show (PyData.canLayAll0 (ways.map wyD) && (PyData.canLayAll0 (wags.map wgD) && true)) = true
    rw [a1, a2]
    rfl
  · show max (PyData.depthAll (ways.map wyD) + 1) (max (PyData.depthAll (wags.map wgD) + 1) 0) + 1 ≤ 64
    omega
theorem dpAll_wy {K : PySem.W.Frag} {H : Hp} : ∀ {as : List Addr} {ws : List (List Nm)}, Paired (WyA H) as ws → DpAll K H (as.map V.ref) (ws.map wyD)
  | _, _, .nil => .nil
  | _, _, .cons (b := gs) e t => .cons (.tup (SqT.of e) (dpAll_nmsH gs)) (dpAll_wy t)
theorem dpAll_wg {K : PySem.W.Frag} {H : Hp} : ∀ {as : List Addr} {ws : List (Int × Nm)}, Paired (WgA H) as ws → DpAll K H (as.map V.ref) (ws.map wgD)
  | _, _, .nil => .nil
  | _, _, .cons e t => .cons (.tup (SqT.of e) (.cons (.int _) (.cons (.str _) .nil))) (dpAll_wg t)
theorem hs_ok {H : Hp} {h r wl gl ru : Addr} {ways : List (List Nm)} {wags : List (Int × Nm)} {n m2 kk sd : Nat} {f0 b0 f1 b1 f2 b2 f3 b3 : Nm} {d0 d1 d2 d3 : Nat} {jx : List (Nm × List Nm)} {tis : List Ti} (net : NetH H r n m2 kk sd f0 b0 f1 b1 f2 b2 f3 b3 d0 d1 d2 d3 jx tis) (ho : HouseAt H h r wl gl ru ways wags n m2 (hNm f0 d0 b0) (hNm f1 d1 b1) (hNm f2 d2 b2) (hNm f3 d3 b3)) :
    HsOk ⟨hNms f0 d0 b0 n, hSts n m2 (hNm f0 d0 b0) (hNm f1 d1 b1) (hNm f2 d2 b2), hJns n (hNm f0 d0 b0) (hNm f3 d3 b3) ++ jx, tis, ways.length, wags⟩ := by
  obtain ⟨nat, n1, n8, m1, m2n, sd1, hns, jl3, jnd, hjx, _⟩ := net
  have jok := jns_ok hns sd1 n8 hjx
  refine ⟨⟨hns.h0.nms (by decide) d0 n, by show (hNms f0 d0 b0 n).length ≤ 100; rw [hNms_len]; omega⟩, ⟨fun j hj => ⟨(jok j hj).1.1, (jok j hj).1.2, Nat.le_trans (jok j hj).2.2 (by decide)⟩, ?_⟩, ?_, Nat.le_trans ho.gl.2 (by decide), ?_⟩
  · show (hJns n (hNm f0 d0 b0) (hNm f3 d3 b3) ++ jx).length ≤ 100
    unfold hJns
    simp
    omega
  · show (hSts n m2 (hNm f0 d0 b0) (hNm f1 d1 b1) (hNm f2 d2 b2)).length ≤ 100
    unfold hSts
    simp
    omega
  · show ((hJns n (hNm f0 d0 b0) (hNm f3 d3 b3) ++ jx).map (·.1)).Nodup
    have e1 : (hJns n (hNm f0 d0 b0) (hNm f3 d3 b3)).map (·.1) = hNms f3 d3 b3 (n - 1) := by
      unfold hJns hNms
      rw [List.map_map]
      rfl
    rw [List.map_append, e1]
    refine List.nodup_append.mpr ⟨hNms_nd (by omega), jnd, fun a ha b hb e => ?_⟩
    obtain ⟨i, hi, rfl⟩ := List.mem_map.mp ha
    obtain ⟨x, hx, rfl⟩ := List.mem_map.mp hb
    obtain ⟨k, k3, _, ek⟩ := (hjx x hx).at_
    have hi := List.mem_range.mp hi
    rw [ek] at e
    have := hNm_inj (by omega) (by omega) e
    omega
section
variable {P : Program} {w : World} {K : PySem.W.Frag} {mg : Str → Option Value} {base : Heap} {k : Nat}
def sp_law (T : Defs K mg) : Sp := fun vs H Q _ => ∃ (a : Addr) (ns : List Int), vs = [.ref a] ∧ SqL K H a (ns.map V.int) ∧ ns.length ≤ 63 ∧ ∀ H', Q (.bl true) H'
set_option maxHeartbeats 16000000 in
theorem ok_law {f : Addr} {fd : FuncData} (F : FnP K "law" s_law f fd) (T : Defs K mg) (DT : DicT w T) : FnOk P w K mg base CX0 8 f fd ["_law_script"] (sp_law T) := by
  have G_l_bag : FnOk P w K mg base CX0 7 _ _ _ _ := ok_l_bag (k := 6) T
  have G_l_house : FnOk P w K mg base CX0 7 _ _ _ _ := ok_l_house (k := 3) T
  have G_l_take : FnOk P w K mg base CX0 7 _ _ _ _ := ok_l_take (k := 6) T
  have G_l_paper : FnOk P w K mg base CX0 7 _ _ _ _ := ok_l_paper (k := 3) T
  have G_l_any : FnOk P w K mg base CX0 7 _ _ _ _ := ok_l_any (k := 5) T
  have G_l_bent : FnOk P w K mg base CX0 7 _ _ _ _ := ok_l_bent (k := 4) T
  have G_l_fault : FnOk P w K mg base CX0 7 _ _ _ _ := ok_l_fault (k := 4) T
  have G_fault : FnOk P w K mg base CX0 7 _ _ _ _ := ok_fault (k := 2) T DT
  refine F.ok sc_law (fun vs H Q E h => ?_) (fun cdv A outer s H vs Q E hr h => ?_)
  · obtain ⟨a, ns, rfl, _⟩ := h
    rfl
  · obtain ⟨a, ns, rfl, hS, hlen, q⟩ := h
    refine ⟨_, PSs.nox
(pss_cons (ps_set (i := 1) sc_law.nd rfl (.inl rfl) (pe_call G_l_house hr (by rfl) T.g_l_house T.F_l_house.kp T.b_l_house .nil pass0 (pa_cons (pe_call G_l_bag hr (by rfl) T.g_l_bag T.F_l_bag.kp T.b_l_bag .nil pass0 (pa_cons (pv 0) (pa_cons (pe_int) pa_nil))) pa_nil)))
    (pss_cons (ps_asg (pv 1) (pg_tup rfl (pgs_cons (pg_name (i := 2) sc_law.nd rfl (.inl rfl)) (pgs_cons (pg_name (i := 3) sc_law.nd rfl (.inl rfl)) (pgs_cons (pg_name (i := 4) sc_law.nd rfl (.inl rfl)) (pgs_cons (pg_name (i := 5) sc_law.nd rfl (.inl rfl)) pgs_nil))))))
    (pss_cons (ps_for PassesOwn.never rfl (pi_range1 (by rfl) T.z_range (pa_cons (pe_callB (call_max2 rfl) (by rfl) T.z_max (by decide +kernel) (pa_cons (pe_int) (pa_cons (pe_callB (call_min2 rfl) (by rfl) T.z_min (by decide +kernel) (pa_cons (pe_int) (pa_cons (pe_op op_sub (pe_callB (r := rLenS K) call_lenS (by rfl) T.z_len (by decide +kernel) (pa_cons (pv 0) pa_nil)) (pe_int)) pa_nil))) pa_nil))) pa_nil)) (pg_name (i := 6) sc_law.nd rfl (.inl rfl))
      (pss_cons (ps_set (i := 7) sc_law.nd rfl (.inl rfl) (pe_call G_l_bag hr (by rfl) T.g_l_bag T.F_l_bag.kp T.b_l_bag .nil pass0 (pa_cons (pv 0) (pa_cons (pe_op op_add (pe_int) (pv 6)) pa_nil))))
      (pss_cons (ps_set (i := 8) sc_law.nd rfl (.inl rfl) (pe_ix (r := rIxT K) ix_tup (pe_tup (pa_cons (pe_int) (pa_cons (pe_int) (pa_cons (pe_int) (pa_cons (pe_int) pa_nil))))) (pe_call G_l_take hr (by rfl) T.g_l_take T.F_l_take.kp T.b_l_take .nil pass0 (pa_cons (pv 7) (pa_cons (pe_int) pa_nil))) (fun _ _ => rfl)))
      (pss_cons (ps_set (i := 9) sc_law.nd rfl (.inl rfl) (pe_call G_l_take hr (by rfl) T.g_l_take T.F_l_take.kp T.b_l_take .nil pass0 (pa_cons (pv 7) (pa_cons (pe_int) pa_nil))))
      (pss_cons (ps_set (i := 10) sc_law.nd rfl (.inl rfl) (pe_call G_l_paper hr (by rfl) T.g_l_paper T.F_l_paper.kp T.b_l_paper .nil pass0 (pa_cons (pv 7) (pa_cons (pv 1) pa_nil))))
      (pss_cons (ps_for PassesOwn.never rfl (pi_range1 (by rfl) T.z_range (pa_cons (pv 8) pa_nil)) (pg_name (i := 11) sc_law.nd rfl (.inl rfl))
        (pss_one (ps_if (PW.pt (pw_and (pt_val (pe_callB call_isi (by rfl) T.z_isinstance (by decide +kernel) (pa_cons (pv 10) (pa_cons (pe_bltn (v := .ty "tuple") (by rfl) T.z_tuple (by decide +kernel) rfl) pa_nil)))) (pw_and1 (pt_cmpR op_gt (pe_callB (r := rLenS K) call_lenS (by rfl) T.z_len (by decide +kernel) (pa_cons (pv 10) pa_nil)) (pe_int) (nomark _)))))
          (pss_one (ps_set (i := 10) sc_law.nd rfl (.inl rfl) (pe_call G_l_bent hr (by rfl) T.g_l_bent T.F_l_bent.kp T.b_l_bent .nil pass0 (pa_cons (pv 7) (pa_cons (pv 1) (pa_cons (pv 10) pa_nil))))))
          pss_nil)))
      (Evl.pss_cut (ps_if (pt_cmpR op_eq (pv 9) (pe_int) (nomark _))
        (pss_one (ps_set (i := 10) sc_law.nd rfl (.inl rfl) (pe_ifExp (pt_cmpR op_gt (pe_callB (r := rLenS K) call_lenS (by rfl) T.z_len (by decide +kernel) (pa_cons (pv 10) pa_nil)) (pe_int) (nomark _)) (pe_callTy call_list_of (by rfl) T.z_list (by decide +kernel) (pa_cons (pv 10) pa_nil)) (pe_call G_l_any hr (by rfl) T.g_l_any T.F_l_any.kp T.b_l_any .nil pass0 (pa_cons (pv 7) (pa_cons (pv 1) pa_nil))))))
        pss_nil)
      (pss_cons (ps_set (i := 12) sc_law.nd rfl (.inl rfl) (pe_call G_l_fault hr (by rfl) T.g_l_fault T.F_l_fault.kp T.b_l_fault .nil pass0 (pa_cons (pv 1) (pa_cons (pv 10) pa_nil))))
      (pss_cons (ps_set (i := 13) sc_law.nd rfl (.inl rfl) (pe_tup (pa_cons (pe_callTy call_list_of (by rfl) T.z_list (by decide +kernel) (pa_cons (pv 3) pa_nil)) (pa_cons (pe_callTy call_list_of (by rfl) T.z_list (by decide +kernel) (pa_cons (pv 4) pa_nil)) pa_nil))))
      (pss_cons (ps_for PassesOwn.never rfl (pi_range1 (by rfl) T.z_range (pa_cons (pe_int) pa_nil)) (pg_name (i := 11) sc_law.nd rfl (.inl rfl))
        (pss_cons (ps_set (i := 14) sc_law.nd rfl (.inl rfl) (pe_call G_fault hr (by rfl) T.g_fault T.F_fault.kp T.b_fault .nil pass0 (pa_cons (pv 2) (pa_cons (pe_ix (r := rIxT K) ix_tup (pv 13) (pe_int) (fun _ _ => rfl)) (pa_cons (pe_ix (r := rIxT K) ix_tup (pv 13) (pe_int) (fun _ _ => rfl)) (pa_cons (pv 10) pa_nil))))))
        (pss_one (ps_if (PW.pt (pw_or (pt_val (pe_callB call_isi (by rfl) T.z_isinstance (by decide +kernel) (pa_cons (pv 14) (pa_cons (pe_bltn (v := .ty "bool") (by rfl) T.z_bool (by decide +kernel) rfl) pa_nil)))) (pw_or (pt_not (pt_val (pe_callB call_isi (by rfl) T.z_isinstance (by decide +kernel) (pa_cons (pv 14) (pa_cons (pe_bltn (v := .ty "int") (by rfl) T.z_int (by decide +kernel) rfl) pa_nil))))) (pw_or1 (pt_cmpR op_ne (pv 14) (pv 12) (nomark _))))))
          (pss_one (ps_ret (pe_bl)))
          pss_nil))))
      (pss_one (ps_if (pt_cmpR (r := rNeD K) (op_neD hr.units) (pv 13) (pe_tup (pa_cons (pv 3) (pa_cons (pv 4) pa_nil))) (nomark _))
        (pss_one (ps_ret (pe_bl)))
        pss_nil))))))))))))
    (pss_one (ps_ret (pe_bl))))))
      , ?_⟩
    refine ⟨.ref a, rfl, a, ns, 0, rfl, hS, by decide, fun H1 p s1 np b1 => ⟨p, rfl, b1, fun H2 h r wl gl ru ways wags n m2 kk sd f0 b0 f1 b1 f2 b2' f3 b3' d0 d1 d2 d3 jx tis k2 b2 net ho => ?_⟩⟩
    have s02 := same_viaL s1 k2 np
    have hS2 := sqL_sameL s02 hS
    have hsok := hs_ok net ho
    obtain ⟨wa, ewl, hwa⟩ := ho.w
    obtain ⟨ga, egl, hga⟩ := ho.g
    have lg : ∀ i, i < 3 → ((sgL kk).getD i []).length = 1 := fun i hi => by
      unfold sgL
      split <;> (match i, hi with | 0, _ => rfl | 1, _ => rfl | 2, _ => rfl)
    have lh : ∀ i, i < 3 → (hdS sd ((sgL kk).getD i [])).length + (tlS sd ((sgL kk).getD i [])).length ≤ 2 := fun i hi => by
      have := lg i hi
      unfold hdS tlS
      split <;> rw [this] <;> decide
    have hns := net.2.2.2.2.2.2.1
    have hL := fun k => hns.h0.nm (by decide) d0 k
    have hSs := fun k => hns.h1.nm (lh 0 (by decide)) d1 k
    have hTs := fun k => hns.h2.nm (lh 1 (by decide)) d2 k
    have hJs := fun k => hns.h3.nm (lh 2 (by decide)) d3 k
    have shd : SeqAt.shaped (hdD ways wags) = true := shaped_hd (fun gs hg => way_nm (ho.wh gs hg) hSs hTs hJs) (fun x hx => by
      obtain ⟨_, _, k, _, e⟩ := ho.gh x hx
      rw [e]
      exact hL k)
    have n1 := net.2.1
    have nat := net.1
    obtain ⟨ls', els⟩ : ∃ l, hNms f0 d0 b0 n = hNm f0 d0 b0 0 :: l := by
      obtain ⟨n', rfl⟩ : ∃ n', n = n' + 1 := ⟨n - 1, by omega⟩
      exact ⟨_, by unfold hNms; rw [List.range_succ_eq_map]; rfl⟩
    obtain ⟨sts', ests⟩ : ∃ l, hSts n m2 (hNm f0 d0 b0) (hNm f1 d1 b1) (hNm f2 d2 b2') = (hNm f1 d1 b1 0, hNm f0 d0 b0 0) :: l := by
      obtain ⟨n', rfl⟩ : ∃ n', n = n' + 1 := ⟨n - 1, by omega⟩
      exact ⟨_, by unfold hSts; rw [List.range_succ_eq_map]; rfl⟩
    have nx0 := hL 0
    have ny0 := hSs 0
    refine ⟨.ref h, rfl, h, _, rfl, SqT.of ho.e, rfl, _, _, rfl, _, _, rfl, _, _, rfl, _, [], rfl, rfl, ?_⟩
    have em0 : ∀ lc : Int, lc < 63 → ∃ m : Nat, m < 64 ∧ (if (if lc < 60 then lc else 60) > 12 then (if lc < 60 then lc else 60) else 12) = (m : Int) := fun lc hl => by
      refine ⟨(if (if lc < 60 then lc else 60) > 12 then (if lc < 60 then lc else 60) else 12).toNat, ?_, ?_⟩
      · split <;> split <;> omega
      · split <;> split <;> omega
    obtain ⟨m, hm, em⟩ := em0 (((ns.map V.int).length : Int) - 1) (by rw [List.length_map]; omega)
    refine ⟨.ref a, rfl, a, _, rfl, .inl hS2, _, 1, rfl, rfl, 60, _, rfl, 12, _, rfl, m, by show [V.int _] = _; rw [em], ?_, ?_, ?_⟩
    · exact Int.le_trans (by decide) (Int.natCast_nonneg _)
    · omega
    rw [Int.toNat_natCast]
    refine for_range (lo := 0) (n := m) (fun i σ Hx => ∃ y6 y7 y8 y9 y10 y11 y12 y13 y14 : Option V, σ = [some (.ref a), some (.ref h), some (.ref r), some (.ref wl), some (.ref gl), some (.ref ru), y6, y7, y8, y9, y10, y11, y12, y13, y14] ∧ Same H2 Hx)
      ⟨_, _, _, _, _, _, _, _, _, rfl, fun _ _ z => z⟩ (fun i σ Hy hi hp => ?_) (fun σ Hx hp => ?_)
    · obtain ⟨y6, y7, y8, y9, y10, y11, y12, y13, y14, rfl, sy⟩ := hp
      rw [Int.zero_add]
      refine ⟨.ref a, rfl, .int i, rfl, 1, i, rfl, rfl, a, ns, 1 + i, by show [V.ref a, V.int (1 + (i : Int))] = [V.ref a, V.int ((1 + i : Nat) : Int)]; rw [Int.natCast_add]; rfl, sqL_sameL sy hS2, by omega, fun H3 p3 s3 np3 b3 => ?_⟩
      have hne : ∀ (g : Addr) (xs : List V), H2 g = some (.lst xs) → g ≠ p3 := fun g xs e => ne_of_none (sy _ _ e) np3
      have sOf : ∀ {G : Hp}, Keep p3 H3 G → Same H2 G := fun kk => sy.trans (same_viaL s3 kk np3)
      refine ⟨by show 4 ≤ sizeLine; decide, fun W nW => ?_⟩
      have sW := same_upd (o := .tup [V.int 0, .int 1, .int 1, .int 2]) nW
      refine ⟨.ref p3, rfl, p3, 4, rfl, b3.keep sW, by decide, by decide, fun H4 c k4 b4 c0 c1 => ?_⟩
      obtain ⟨sp, hsp, esp⟩ : ∃ sp : Nat, sp ≤ 2 ∧ atI [V.int 0, .int 1, .int 1, .int 2] c = some (.int (sp : Int)) := by
        have : c = 0 ∨ c = 1 ∨ c = 2 ∨ c = 3 := by omega
        rcases this with rfl | rfl | rfl | rfl
        · exact ⟨0, by decide, atI_nat (j := 0) rfl⟩
        · exact ⟨1, by decide, atI_nat (j := 1) rfl⟩
        · exact ⟨1, by decide, atI_nat (j := 2) rfl⟩
        · exact ⟨2, by decide, atI_nat (j := 3) rfl⟩
      refine ⟨W, _, c, .int sp, rfl, rfl, SqT.of (k4 _ _ (b3.ne nW) upd_same), esp, ?_⟩
      refine ⟨.ref p3, rfl, p3, 12, rfl, b4, by decide, by decide, fun H5 la k5 b5 l0 l1 => ?_⟩
      have k35 := ((Keep.of sW).trans k4).trans k5
      have s25 := sOf k35
      refine ⟨.ref p3, rfl, .ref h, rfl, p3, h, r, wl, gl, ru, ways, wags, n, m2, kk, sd, f0, b0, f1, b1, f2, b2', f3, b3', d0, d1, d2, d3, jx, tis, rfl, b5, hne _ _ ewl, hne _ _ egl, net.tk (.of s25), ho.same s25, fun H6 t x k6 b6 hx hok hkd hnl hre hsr => ?_⟩
      have k36 := k35.trans k6
      have hx6 : Dt (SN p3) H6 (.ref t) (ppD x) := by
        obtain ⟨g, r', e', _⟩ := b6
        exact Dt.offM e' hx (noL_pp hnl)
      have tx : TmE 103 10 (ppD x) := tme_pp hok hkd hsr
      refine ⟨.int sp, rfl, sp, rfl, by omega, by omega, ?_⟩
      rw [Int.toNat_natCast]
      refine for_range (lo := 0) (n := sp) (fun j σ Hx => ∃ (t : Addr) (ds : List PyData) (N : Nat) (y11 : Option V), σ = [some (.ref a), some (.ref h), some (.ref r), some (.ref wl), some (.ref gl), some (.ref ru), some (.int i), some (.ref p3), some (.int sp), some (.int la), some (.ref t), y11, y12, y13, y14] ∧ Keep p3 H3 Hx ∧ Bag Hx p3 ∧ Dt (SN p3) Hx (.ref t) (.tuple ds) ∧ TmE N 10 (.tuple ds) ∧ 100 ≤ N ∧ N + 1 ≤ 104 * 2 ^ j)
        ⟨t, _, 103, _, rfl, k36, b6, hx6, tx, by decide, by decide⟩ (fun j σ Hz hj hp => ?_) (fun σ Hz hp => ?_)
      · obtain ⟨t, ds, N, y11, rfl, kz, bz, hz, tz, N1, N2⟩ := hp
        have sz := sOf kz
        have pj : 2 ^ (j + 1) = 2 * 2 ^ j := by rw [Nat.pow_succ, Nat.mul_comm]
        have N3 : N ≤ 1000 := by
          have : j = 0 ∨ j = 1 := by omega
          rcases this with rfl | rfl
          · have : (2 : Nat) ^ 0 = 1 := rfl
            omega
          · have : (2 : Nat) ^ 1 = 2 := rfl
            omega
        obtain ⟨xs, et, hxs⟩ : ∃ xs, Hz t = some (.tup xs) ∧ DtAll (SN p3) Hz xs ds := by
          cases hz with
          | tup s e l r => exact ⟨_, e, r⟩
        refine ⟨.ref t, rfl, .ref t, .ty "tuple", _, _, _, rfl, .ty _, hz.sa.ty, kit_T (K := K) (.tuple ds), true, rfl, iteT ⟨.ref t, rfl, t, xs, rfl, .inr (SqT.of et), (xs.length : Int), 0, rfl, rfl, _, rfl, ite2 (fun c => ?_) fun _ => ?_⟩⟩
        · have c := of_decide_eq_true c
          have nds : ds ≠ [] := fun z => by
            have e := hxs.len
            rw [z] at e
            have e : xs.length = 0 := e
            omega
          refine ⟨.ref p3, rfl, .ref h, rfl, .ref t, rfl, p3, h, r, t, _, _, ls', _, sts', _, tis, ds, N, rfl, bz, sz _ _ ho.e, by rw [← els, ← ests]; exact nat.tk (.of sz), nx0, ny0, hz, nds, tz, N1, N3, fun H' c ds' k' b' hd' td' => ?_⟩
          exact ⟨c, ds', N + N + 1, _, rfl, kz.trans k', b', hd', td', by omega, by rw [pj]; omega⟩
        · exact ⟨t, ds, N, _, rfl, kz, bz, hz, tz, N1, by rw [pj]; omega⟩
      obtain ⟨t, ds, N, y11, rfl, kz, bz, hz, tz, N1, N2⟩ := hp
      have sz := sOf kz
      obtain ⟨xs, et, hxs⟩ : ∃ xs, Hz t = some (.tup xs) ∧ DtAll (SN p3) Hz xs ds := by
        cases hz with
        | tup s e l r => exact ⟨_, e, r⟩
      have N5 : N ≤ 5000 := by
        have : (2 : Nat) ^ sp ≤ 2 ^ 2 := Nat.pow_le_pow_right (by decide) hsp
        omega
      refine ⟨fun σ Hw => ∃ (v : V) (d : PyData), σ = [some (.ref a), some (.ref h), some (.ref r), some (.ref wl), some (.ref gl), some (.ref ru), some (.int i), some (.ref p3), some (.int sp), some (.int la), some v, y11, y12, y13, y14] ∧ Same H2 Hw ∧ Dt SA Hw v d ∧ SeqAt.shaped d = true, ?_, fun σ Hw mid => ?_⟩
      · refine ⟨.int la, rfl, rfl, _, rfl, ite2 (fun _ => ?_) fun _ => ?_⟩
        · refine ⟨.ref t, rfl, t, xs, rfl, .inr (SqT.of et), (xs.length : Int), 3, rfl, rfl, _, rfl, ite2 (fun _ => ?_) fun _ => ?_⟩
          · refine ⟨.ref t, rfl, t, xs, rfl, .inr (SqT.of et), fun L nL => ⟨.ref L, .list ds, rfl, sz.trans (same_upd nL), ?_, tz.shaped (by decide)⟩⟩
            refine .lst trivial upd_same ?_ ((hxs.keepM (Keep.of (same_upd nL))).mono (fun _ _ => trivial) fun _ _ _ e => e)
            have := (tme_tup.mp tz).1
            rw [hxs.len]
            omega
          · refine ⟨.ref p3, rfl, .ref h, rfl, p3, h, r, _, _, ls', _, sts', _, tis, rfl, bz, sz _ _ ho.e, by rw [← els, ← ests]; exact nat.tk (.of sz), fun H' v d k' b' hv md => ?_⟩
            exact ⟨v, d, rfl, sOf (kz.trans k'), hv.sa, (tme_any (nm_ok nx0) (nm_srt nx0) (nm_ok ny0) (nm_srt ny0) d md).shaped (by decide)⟩
        · exact ⟨.ref t, .tuple ds, rfl, sz, hz.sa, tz.shaped (by decide)⟩
      obtain ⟨v, d, rfl, sw, hv, sd'⟩ := mid
      clear hz tz hxs et sz kz bz
      refine ⟨.ref h, rfl, v, rfl, h, v, _, d, rfl, ⟨r, wl, gl, ru, wa.map V.ref, ga, sw _ _ ho.e, nat.tk (.of sw), sw _ _ ewl, by rw [List.length_map]; exact paired_len hwa, sw _ _ egl, paired_imp hga fun _ _ _ e => sw _ _ e⟩, hsok, hv, sd', fun H8 s8 => ?_⟩
      generalize edue : fltD _ d = due
      have s28 := sw.trans s8
      have hv8 := hv.same s8
      refine ⟨.ref wl, rfl, wl, wa.map V.ref, rfl, .inl (SqL.of (s28 _ _ ewl)), fun L1 nL1 => ?_⟩
      have u1 := same_upd (o := .lst (wa.map V.ref)) nL1
      have e1 : (upd H8 L1 (.lst (wa.map V.ref))) L1 = some (.lst (wa.map V.ref)) := upd_same
      generalize upd H8 L1 (.lst (wa.map V.ref)) = H9 at u1 e1 ⊢
      have s29 := s28.trans u1
      refine ⟨.ref gl, rfl, gl, ga.map V.ref, rfl, .inl (SqL.of (s29 _ _ egl)), fun L2 nL2 => ?_⟩
      have u2 := same_upd (o := .lst (ga.map V.ref)) nL2
      have e2 : (upd H9 L2 (.lst (ga.map V.ref))) L2 = some (.lst (ga.map V.ref)) := upd_same
      have e1 := u2 _ _ e1
      generalize upd H9 L2 (.lst (ga.map V.ref)) = H10 at u2 e2 e1 ⊢
      have s210 := s29.trans u2
      refine ⟨by show 2 ≤ sizeLine; decide, fun HA nHA => ?_⟩
      have u3 := same_upd (o := .tup [.ref L1, .ref L2]) nHA
      have e3 : (upd H10 HA (.tup [.ref L1, .ref L2])) HA = some (.tup [.ref L1, .ref L2]) := upd_same
      have e1 := u3 _ _ e1
      have e2 := u3 _ _ e2
      have hv11 := ((hv8.same u1).same u2).same u3
      generalize upd H10 HA (.tup [.ref L1, .ref L2]) = H11 at u3 e1 e2 e3 hv11 ⊢
      have s211 := s210.trans u3
      refine ⟨2, rfl, by decide, by decide, ?_⟩
      refine for_range (lo := 0) (n := 2) (fun j σ Hx => ∃ y11 y14 : Option V, σ = [some (.ref a), some (.ref h), some (.ref r), some (.ref wl), some (.ref gl), some (.ref ru), some (.int i), some (.ref p3), some (.int sp), some (.int la), some v, y11, some (.int due), some (.ref HA), y14] ∧ Same H11 Hx)
        ⟨_, _, rfl, fun _ _ z => z⟩ (fun j σ Hx hj hp => ?_) (fun σ Hx hp => ?_)
      · obtain ⟨y11, y14, rfl, sx⟩ := hp
        have s2x := s211.trans sx
        refine ⟨.ref r, rfl, .ref HA, rfl, HA, _, 0, .ref L1, rfl, rfl, SqT.of (sx _ _ e3), atI_nat (j := 0) rfl, .ref HA, rfl, HA, _, 1, .ref L2, rfl, rfl, SqT.of (sx _ _ e3), atI_nat (j := 1) rfl, v, rfl, r, L1, L2, v, _, d, wa.map V.ref, ga, rfl, nat.tk (.of s2x), sx _ _ e1, by rw [List.length_map]; exact paired_len hwa, sx _ _ e2, paired_imp hga fun _ _ _ e => s2x _ _ e, hsok, hv11.same sx, sd', fun H12 s12 => ?_⟩
        rw [edue]
        refine ⟨.int due, rfl, .int due, .ty "bool", _, _, _, rfl, .ty _, Dt.ty (S := SA) (.int due), kit_B (K := K) (.int due), false, rfl, iteF ⟨.int due, rfl, .int due, .ty "int", _, _, _, rfl, .ty _, Dt.ty (S := SA) (.int due), kit_I (K := K) (.int due), true, rfl, iteF ⟨.int due, rfl, .int due, rfl, rfl, _, rfl, ite2 (fun c => ?_) fun _ => ?_⟩⟩⟩
        · exact absurd c (by simp)
        · exact ⟨_, _, rfl, sx.trans s12⟩
      · obtain ⟨y11, y14, rfl, sx⟩ := hp
        have s2x := s211.trans sx
        refine ⟨.ref HA, rfl, .ref wl, rfl, .ref gl, rfl, by show 2 ≤ sizeLine; decide, fun U nU => ?_⟩
        have u4 := same_upd (o := .tup [.ref wl, .ref gl]) nU
        have e4 : (upd Hx U (.tup [.ref wl, .ref gl])) U = some (.tup [.ref wl, .ref gl]) := upd_same
        generalize upd Hx U (.tup [.ref wl, .ref gl]) = H13 at u4 e4 ⊢
        have sx13 := sx.trans u4
        have s213 := s2x.trans u4
        have dw : DpAll K H13 (wa.map V.ref) (ways.map wyD) := dpAll_wy (paired_imp hwa fun _ _ _ e => s213 _ _ e)
        have dg : DpAll K H13 (ga.map V.ref) (wags.map wgD) := dpAll_wg (paired_imp hga fun _ _ _ e => s213 _ _ e)
        refine ⟨hdD ways wags, hdD ways wags, .tup (SqT.of (sx13 _ _ e3)) (.cons (.lst (SqL.of (sx13 _ _ e1)) dw) (.cons (.lst (SqL.of (sx13 _ _ e2)) dg) .nil)), .tup (SqT.of e4) (.cons (.lst (SqL.of (s213 _ _ ewl)) dw) (.cons (.lst (SqL.of (s213 _ _ egl)) dg) .nil)), shd, shd, _, rfl, ite2 (fun c => ?_) fun _ => ?_⟩
        · rw [SeqAt.eqv_refl _ (SeqAt.canLay_of_shaped shd)] at c
          cases c
        · exact ⟨_, _, _, _, _, _, _, _, _, rfl, s213⟩
    · obtain ⟨y6, y7, y8, y9, y10, y11, y12, y13, y14, rfl, sy⟩ := hp
      exact q _
end
end Th
namespace Th
open PySem PySem.Spec PyProof.Rows L2
def dd_is_whole : He.DefD := ⟨("is_whole", none), "is_whole", "is_whole", defArgs s_is_whole, defBody s_is_whole, defScope s_is_whole, [], []⟩
def dd_is_whole_between : He.DefD := ⟨("is_whole_between", none), "is_whole_between", "is_whole_between", defArgs s_is_whole_between, defBody s_is_whole_between, defScope s_is_whole_between, [], []⟩
def dd_is_tuple : He.DefD := ⟨("is_tuple", none), "is_tuple", "is_tuple", defArgs s_is_tuple, defBody s_is_tuple, defScope s_is_tuple, [], []⟩
def dd_lines_by_place : He.DefD := ⟨("lines_by_place", none), "lines_by_place", "lines_by_place", defArgs s_lines_by_place, defBody s_lines_by_place, defScope s_lines_by_place, [], []⟩
def dd_lines_at : He.DefD := ⟨("lines_at", none), "lines_at", "lines_at", defArgs s_lines_at, defBody s_lines_at, defScope s_lines_at, [], []⟩
def dd_is_number : He.DefD := ⟨("is_number", none), "is_number", "is_number", defArgs s_is_number, defBody s_is_number, defScope s_is_number, [], []⟩
def dd_is_edition : He.DefD := ⟨("is_edition", none), "is_edition", "is_edition", defArgs s_is_edition, defBody s_is_edition, defScope s_is_edition, [], []⟩
def dd_is_day : He.DefD := ⟨("is_day", none), "is_day", "is_day", defArgs s_is_day, defBody s_is_day, defScope s_is_day, [], []⟩
def dd_is_last_day : He.DefD := ⟨("is_last_day", none), "is_last_day", "is_last_day", defArgs s_is_last_day, defBody s_is_last_day, defScope s_is_last_day, [], []⟩
def dd_is_hour : He.DefD := ⟨("is_hour", none), "is_hour", "is_hour", defArgs s_is_hour, defBody s_is_hour, defScope s_is_hour, [], []⟩
def dd_is_sum : He.DefD := ⟨("is_sum", none), "is_sum", "is_sum", defArgs s_is_sum, defBody s_is_sum, defScope s_is_sum, [], []⟩
def dd_is_cartage : He.DefD := ⟨("is_cartage", none), "is_cartage", "is_cartage", defArgs s_is_cartage, defBody s_is_cartage, defScope s_is_cartage, [], []⟩
def dd_is_way_number : He.DefD := ⟨("is_way_number", none), "is_way_number", "is_way_number", defArgs s_is_way_number, defBody s_is_way_number, defScope s_is_way_number, [], []⟩
def dd_is_own_wagon : He.DefD := ⟨("is_own_wagon", none), "is_own_wagon", "is_own_wagon", defArgs s_is_own_wagon, defBody s_is_own_wagon, defScope s_is_own_wagon, [], []⟩
def dd_is_junction_name : He.DefD := ⟨("is_junction_name", none), "is_junction_name", "is_junction_name", defArgs s_is_junction_name, defBody s_is_junction_name, defScope s_is_junction_name, [], []⟩
def dd_is_over : He.DefD := ⟨("is_over", none), "is_over", "is_over", defArgs s_is_over, defBody s_is_over, defScope s_is_over, [], []⟩
def dd_is_load : He.DefD := ⟨("is_load", none), "is_load", "is_load", defArgs s_is_load, defBody s_is_load, defScope s_is_load, [], []⟩
def dd_is_seal : He.DefD := ⟨("is_seal", none), "is_seal", "is_seal", defArgs s_is_seal, defBody s_is_seal, defScope s_is_seal, [], []⟩
def dd_is_line : He.DefD := ⟨("is_line", none), "is_line", "is_line", defArgs s_is_line, defBody s_is_line, defScope s_is_line, [], []⟩
def dd_is_ruling : He.DefD := ⟨("is_ruling", none), "is_ruling", "is_ruling", defArgs s_is_ruling, defBody s_is_ruling, defScope s_is_ruling, [], []⟩
def dd_fault : He.DefD := ⟨("fault", none), "fault", "fault", defArgs s_fault, defBody s_fault, defScope s_fault, [], []⟩
def dd_l_bag : He.DefD := ⟨("_law_bag", none), "_law_bag", "_law_bag", defArgs s_l_bag, defBody s_l_bag, defScope s_l_bag, [], []⟩
def dd_l_take : He.DefD := ⟨("_law_take", none), "_law_take", "_law_take", defArgs s_l_take, defBody s_l_take, defScope s_l_take, [], []⟩
def dd_l_names : He.DefD := ⟨("_law_names", none), "_law_names", "_law_names", defArgs s_l_names, defBody s_l_names, defScope s_l_names, [], []⟩
def dd_l_net : He.DefD := ⟨("_law_net", none), "_law_net", "_law_net", defArgs s_l_net, defBody s_l_net, defScope s_l_net, [], []⟩
def dd_l_way : He.DefD := ⟨("_law_way", none), "_law_way", "_law_way", defArgs s_l_way, defBody s_l_way, defScope s_l_way, [], []⟩
def dd_l_house : He.DefD := ⟨("_law_house", none), "_law_house", "_law_house", defArgs s_l_house, defBody s_l_house, defScope s_l_house, [], []⟩
def dd_l_day : He.DefD := ⟨("_law_day", none), "_law_day", "_law_day", defArgs s_l_day, defBody s_l_day, defScope s_l_day, [], []⟩
def dd_l_sum : He.DefD := ⟨("_law_sum", none), "_law_sum", "_law_sum", defArgs s_l_sum, defBody s_l_sum, defScope s_l_sum, [], []⟩
def dd_l_number : He.DefD := ⟨("_law_number", none), "_law_number", "_law_number", defArgs s_l_number, defBody s_l_number, defScope s_l_number, [], []⟩
def dd_l_line : He.DefD := ⟨("_law_line", none), "_law_line", "_law_line", defArgs s_l_line, defBody s_l_line, defScope s_l_line, [], []⟩
def dd_l_return : He.DefD := ⟨("_law_return", none), "_law_return", "_law_return", defArgs s_l_return, defBody s_l_return, defScope s_l_return, [], []⟩
def dd_l_paper : He.DefD := ⟨("_law_paper", none), "_law_paper", "_law_paper", defArgs s_l_paper, defBody s_l_paper, defScope s_l_paper, [], []⟩
def dd_l_whole : He.DefD := ⟨("_law_whole", none), "_law_whole", "_law_whole", defArgs s_l_whole, defBody s_l_whole, defScope s_l_whole, [], []⟩
def dd_l_in : He.DefD := ⟨("_law_in", none), "_law_in", "_law_in", defArgs s_l_in, defBody s_l_in, defScope s_l_in, [], []⟩
def dd_l_waybill_fault : He.DefD := ⟨("_law_waybill_fault", none), "_law_waybill_fault", "_law_waybill_fault", defArgs s_l_waybill_fault, defBody s_l_waybill_fault, defScope s_l_waybill_fault, [], []⟩
def dd_l_return_fault : He.DefD := ⟨("_law_return_fault", none), "_law_return_fault", "_law_return_fault", defArgs s_l_return_fault, defBody s_l_return_fault, defScope s_l_return_fault, [], []⟩
def dd_l_toll_fault : He.DefD := ⟨("_law_toll_fault", none), "_law_toll_fault", "_law_toll_fault", defArgs s_l_toll_fault, defBody s_l_toll_fault, defScope s_l_toll_fault, [], []⟩
def dd_l_last_good : He.DefD := ⟨("_law_last_good", none), "_law_last_good", "_law_last_good", defArgs s_l_last_good, defBody s_l_last_good, defScope s_l_last_good, [], []⟩
def dd_l_fault : He.DefD := ⟨("_law_fault", none), "_law_fault", "_law_fault", defArgs s_l_fault, defBody s_l_fault, defScope s_l_fault, [], []⟩
def dd_l_any : He.DefD := ⟨("_law_any", none), "_law_any", "_law_any", defArgs s_l_any, defBody s_l_any, defScope s_l_any, [], []⟩
def dd_l_stepped : He.DefD := ⟨("_law_stepped", none), "_law_stepped", "_law_stepped", defArgs s_l_stepped, defBody s_l_stepped, defScope s_l_stepped, [], []⟩
def dd_l_bent : He.DefD := ⟨("_law_bent", none), "_law_bent", "_law_bent", defArgs s_l_bent, defBody s_l_bent, defScope s_l_bent, [], []⟩
def dd_law : He.DefD := ⟨("law", none), "law", "law", defArgs s_law, defBody s_law, defScope s_law, [], []⟩
def fn : List He.DefD := [dd_is_whole, dd_is_whole_between, dd_is_tuple, dd_lines_by_place, dd_lines_at, dd_is_number, dd_is_edition, dd_is_day, dd_is_last_day, dd_is_hour, dd_is_sum, dd_is_cartage, dd_is_way_number, dd_is_own_wagon, dd_is_junction_name, dd_is_over, dd_is_load, dd_is_seal, dd_is_line, dd_is_ruling, dd_fault, dd_l_bag, dd_l_take, dd_l_names, dd_l_net, dd_l_way, dd_l_house, dd_l_day, dd_l_sum, dd_l_number, dd_l_line, dd_l_return, dd_l_paper, dd_l_whole, dd_l_in, dd_l_waybill_fault, dd_l_return_fault, dd_l_toll_fault, dd_l_last_good, dd_l_fault, dd_l_any, dd_l_stepped, dd_l_bent, dd_law]
def fa : List He.Fa := .glo "is_whole" :: .glo "is_whole_between" :: .glo "is_tuple" :: .glo "lines_by_place" :: .glo "lines_at" :: .glo "is_number" :: .glo "is_edition" :: .glo "is_day" :: .glo "is_last_day" :: .glo "is_hour" :: .glo "is_sum" :: .glo "is_cartage" :: .glo "is_way_number" :: .glo "is_own_wagon" :: .glo "is_junction_name" :: .glo "is_over" :: .glo "is_load" :: .glo "is_seal" :: .glo "is_line" :: .glo "is_ruling" :: .glo "fault" :: .glo "_law_bag" :: .glo "_law_take" :: .glo "_law_names" :: .glo "_law_net" :: .glo "_law_way" :: .glo "_law_house" :: .glo "_law_day" :: .glo "_law_sum" :: .glo "_law_number" :: .glo "_law_line" :: .glo "_law_return" :: .glo "_law_paper" :: .glo "_law_whole" :: .glo "_law_in" :: .glo "_law_waybill_fault" :: .glo "_law_return_fault" :: .glo "_law_toll_fault" :: .glo "_law_last_good" :: .glo "_law_fault" :: .glo "_law_any" :: .glo "_law_stepped" :: .glo "_law_bent" :: .glo "law" :: .int "MOST_PENCE" 1000000000 :: .int "LAST_DAY" 420 :: .int "LAST_HOUR" 23 :: .int "LAST_NUMBER" 9999 :: .int "LAST_EDITION" 99 :: .int "JUNCTION" 3 :: .int "FIRST_DAY" 4 :: .free "abs" :: .free "all" :: .free "any" :: .free "bool" :: .free "dict" :: .free "enumerate" :: .free "int" :: .free "isinstance" :: .free "len" :: .free "list" :: .free "max" :: .free "min" :: .free "range" :: .free "set" :: .free "sorted" :: .free "str" :: .free "tuple" :: .free "zip" :: .glo "KINDS" :: .glo "THINGS" :: .glo "CHECKS" :: []
def tf : List He.Defn := []
def ts : List He.Tab := [(fun K => He.ga K "THINGS", ["waybill", "return", "toll", "claim", "answer", "ruling", "withdrawal"]), (fun K => He.ga K "CHECKS", ["number", "edition", "day", "last day", "hour", "sum", "cartage", "way", "own wagon", "junction", "over", "load", "seal", "line", "ruling"])]
def exb : PySem.W.Frag → Bool := fun K => Lka.tupB K (He.ga K "KINDS") KINDS_L && (He.eqO (PySem.W.nsIn K (He.ga K "THINGS") "waybill") (some (some (.ref (DicK.refAt K (He.ga K "THINGS") "waybill")))) && (He.eqO (PySem.W.nsIn K (He.ga K "THINGS") "return") (some (some (.ref (DicK.refAt K (He.ga K "THINGS") "return")))) && (He.eqO (PySem.W.nsIn K (He.ga K "THINGS") "toll") (some (some (.ref (DicK.refAt K (He.ga K "THINGS") "toll")))) && (He.eqO (PySem.W.nsIn K (He.ga K "THINGS") "claim") (some (some (.ref (DicK.refAt K (He.ga K "THINGS") "claim")))) && (He.eqO (PySem.W.nsIn K (He.ga K "THINGS") "answer") (some (some (.ref (DicK.refAt K (He.ga K "THINGS") "answer")))) && (He.eqO (PySem.W.nsIn K (He.ga K "THINGS") "ruling") (some (some (.ref (DicK.refAt K (He.ga K "THINGS") "ruling")))) && (He.eqO (PySem.W.nsIn K (He.ga K "THINGS") "withdrawal") (some (some (.ref (DicK.refAt K (He.ga K "THINGS") "withdrawal")))) && (Lka.tupB K (DicK.refAt K (He.ga K "THINGS") "waybill") ["number", "edition", "day", "way", "sum", "sum", "cartage", "own wagon"] && (Lka.tupB K (DicK.refAt K (He.ga K "THINGS") "return") ["number", "edition", "junction", "day", "hour", "number", "over", "load", "seal"] && (Lka.tupB K (DicK.refAt K (He.ga K "THINGS") "toll") ["number", "edition", "line", "day", "last day", "sum"] && (Lka.tupB K (DicK.refAt K (He.ga K "THINGS") "claim") ["number", "edition", "number", "sum"] && (Lka.tupB K (DicK.refAt K (He.ga K "THINGS") "answer") ["number", "edition", "number", "line"] && (Lka.tupB K (DicK.refAt K (He.ga K "THINGS") "ruling") ["number", "edition", "number", "ruling"] && (Lka.tupB K (DicK.refAt K (He.ga K "THINGS") "withdrawal") ["number", "edition", "number"] && (He.eqO (PySem.W.nsIn K (He.ga K "CHECKS") "number") (some (some (.ref (He.ga K "is_number")))) && (He.eqO (PySem.W.nsIn K (He.ga K "CHECKS") "edition") (some (some (.ref (He.ga K "is_edition")))) && (He.eqO (PySem.W.nsIn K (He.ga K "CHECKS") "day") (some (some (.ref (He.ga K "is_day")))) && (He.eqO (PySem.W.nsIn K (He.ga K "CHECKS") "last day") (some (some (.ref (He.ga K "is_last_day")))) && (He.eqO (PySem.W.nsIn K (He.ga K "CHECKS") "hour") (some (some (.ref (He.ga K "is_hour")))) && (He.eqO (PySem.W.nsIn K (He.ga K "CHECKS") "sum") (some (some (.ref (He.ga K "is_sum")))) && (He.eqO (PySem.W.nsIn K (He.ga K "CHECKS") "cartage") (some (some (.ref (He.ga K "is_cartage")))) && (He.eqO (PySem.W.nsIn K (He.ga K "CHECKS") "way") (some (some (.ref (He.ga K "is_way_number")))) && (He.eqO (PySem.W.nsIn K (He.ga K "CHECKS") "own wagon") (some (some (.ref (He.ga K "is_own_wagon")))) && (He.eqO (PySem.W.nsIn K (He.ga K "CHECKS") "junction") (some (some (.ref (He.ga K "is_junction_name")))) && (He.eqO (PySem.W.nsIn K (He.ga K "CHECKS") "over") (some (some (.ref (He.ga K "is_over")))) && (He.eqO (PySem.W.nsIn K (He.ga K "CHECKS") "load") (some (some (.ref (He.ga K "is_load")))) && (He.eqO (PySem.W.nsIn K (He.ga K "CHECKS") "seal") (some (some (.ref (He.ga K "is_seal")))) && (He.eqO (PySem.W.nsIn K (He.ga K "CHECKS") "line") (some (some (.ref (He.ga K "is_line")))) && (He.eqO (PySem.W.nsIn K (He.ga K "CHECKS") "ruling") (some (some (.ref (He.ga K "is_ruling")))) && (decide ([(He.ga K "is_number"), (He.ga K "is_edition"), (He.ga K "is_day"), (He.ga K "is_last_day"), (He.ga K "is_hour"), (He.ga K "is_sum"), (He.ga K "is_cartage"), (He.ga K "is_way_number"), (He.ga K "is_own_wagon"), (He.ga K "is_junction_name"), (He.ga K "is_over"), (He.ga K "is_load"), (He.ga K "is_seal"), (He.ga K "is_line"), (He.ga K "is_ruling")].Nodup) && (PySem.W.keepIn K (.ref (He.ga K "is_number")) && (PySem.W.keepIn K (.ref (He.ga K "is_edition")) && (PySem.W.keepIn K (.ref (He.ga K "is_day")) && (PySem.W.keepIn K (.ref (He.ga K "is_last_day")) && (PySem.W.keepIn K (.ref (He.ga K "is_hour")) && (PySem.W.keepIn K (.ref (He.ga K "is_sum")) && (PySem.W.keepIn K (.ref (He.ga K "is_cartage")) && (PySem.W.keepIn K (.ref (He.ga K "is_way_number")) && (PySem.W.keepIn K (.ref (He.ga K "is_own_wagon")) && (PySem.W.keepIn K (.ref (He.ga K "is_junction_name")) && (PySem.W.keepIn K (.ref (He.ga K "is_over")) && (PySem.W.keepIn K (.ref (He.ga K "is_load")) && (PySem.W.keepIn K (.ref (He.ga K "is_seal")) && (PySem.W.keepIn K (.ref (He.ga K "is_line")) && (PySem.W.keepIn K (.ref (He.ga K "is_ruling")))))))))))))))))))))))))))))))))))))))))))))))
abbrev R : PySem.W.OpenRow := PySem.W.OpenLaw.row PySem.Challenge.rw_throughlines_k21_papers_faults
abbrev hk : PySem.W.Hook := He.hookX 4 fa fn ts tf exb
def ob (s : PySem.W.SharedT) : He.AlX := He.obsX 4 fa fn ts tf exb (HandSHeadRun.getT s)
theorem ob_eq (s : PySem.W.SharedT) : ob s = hk.obs s.abs := He.obsX_eq (HandSHeadRun.getT_eq s)
def loose : List PySem.Str := "is_whole" :: "is_whole_between" :: "is_tuple" :: "lines_by_place" :: "lines_at" :: "is_number" :: "is_edition" :: "is_day" :: "is_last_day" :: "is_hour" :: "is_sum" :: "is_cartage" :: "is_way_number" :: "is_own_wagon" :: "is_junction_name" :: "is_over" :: "is_load" :: "is_seal" :: "is_line" :: "is_ruling" :: "fault" :: "_law_bag" :: "_law_take" :: "_law_names" :: "_law_net" :: "_law_way" :: "_law_house" :: "_law_day" :: "_law_sum" :: "_law_number" :: "_law_line" :: "_law_return" :: "_law_paper" :: "_law_whole" :: "_law_in" :: "_law_waybill_fault" :: "_law_return_fault" :: "_law_toll_fault" :: "_law_last_good" :: "_law_fault" :: "_law_any" :: "_law_stepped" :: "_law_bent" :: "MOST_PENCE" :: "LAST_DAY" :: "LAST_HOUR" :: "LAST_NUMBER" :: "LAST_EDITION" :: "JUNCTION" :: "FIRST_DAY" :: "KINDS" :: "THINGS" :: "CHECKS" :: []
set_option maxHeartbeats 0 in
theorem run0 (dr : Source → Nat → Nat) (pa : Params) (b : Bool) : HandSHeadRun.RunEq R (PySem.W.view R.prog [57]) hk ob 2000 loose ⟨dr, { pa with followText := fun s => if s = "special-get-raises" then b else pa.followText s }⟩ := by
  cases b with
  | false =>
    intro os
    kernel_rfl
  | true =>
    intro os
    kernel_rfl
theorem run (w : World) : HandSHeadRun.RunEq R (PySem.W.view R.prog [57]) hk ob 2000 loose w := by
  have h := run0 w.draws w.params (w.params.followText "special-get-raises")
  have e : (⟨w.draws, { w.params with followText := fun s => if s = "special-get-raises" then w.params.followText "special-get-raises" else w.params.followText s }⟩ : World) = w := by
    have f : (fun s => if s = "special-get-raises" then w.params.followText "special-get-raises" else w.params.followText s) = w.params.followText := by
      funext s
      split
      · next c => rw [c]
      · rfl
    rw [f]
  rw [e] at h
  exact h
/-- a def's code object, by its function's data -/
theorem code_ref {K : PySem.W.Frag} {x : Str} {st : Stmt} {p : He.Defn} {fd : FuncData} (F : FnP K x st (He.fAd K p) fd) : fd.code = .ref (He.cT K p).1 := by
  obtain ⟨oc, od, dV, kV, doc, pm, an, cdv, ct, osl, rfl, lk, hcd, _, _⟩ := F.ex
  obtain ⟨c, e⟩ := He.codeIn_ref hcd
  have h := He.codeOf_eq lk (show _ = Value.ref c from e)
  show cdv = _
  rw [e]
  show Value.ref c = Value.ref (He.codeOf K p)
  rw [h]
theorem facts {w : World} {K : PySem.W.Frag} {h : Heap} {mg : Str → Option Value} {f : Addr} (X : K.In h) (G : h.Ns mainGlobals mg) (hfa : mg ("law" : Str) = some (.ref f)) (c' : He.SaysX fa fn ts tf exb w h K) :
    LamX.LawAtS PySem.Challenge.rw_throughlines_k21_papers_faults w K CX0 8 63 "_law_script" mg f h := by
  have c := c'.t.d
  obtain ⟨d_is_whole, F_is_whole⟩ := c.def_ 0 (d := dd_is_whole) rfl
  have b_is_whole : Binds K d_is_whole ["thing"] [] := FunD.bindsN F_is_whole fun _ _ _ _ _ _ us hl => match us, hl with | [_], _ => rfl
  obtain ⟨d_is_whole_between, F_is_whole_between⟩ := c.def_ 1 (d := dd_is_whole_between) rfl
  have b_is_whole_between : Binds K d_is_whole_between ["thing", "least", "most"] [] := FunD.bindsN F_is_whole_between fun _ _ _ _ _ _ us hl => match us, hl with | [_, _, _], _ => rfl
  obtain ⟨d_is_tuple, F_is_tuple⟩ := c.def_ 2 (d := dd_is_tuple) rfl
  have b_is_tuple : Binds K d_is_tuple ["thing", "fewest", "most"] [] := FunD.bindsN F_is_tuple fun _ _ _ _ _ _ us hl => match us, hl with | [_, _, _], _ => rfl
  obtain ⟨d_lines_by_place, F_lines_by_place⟩ := c.def_ 3 (d := dd_lines_by_place) rfl
  have b_lines_by_place : Binds K d_lines_by_place ["stations", "junctions"] [] := FunD.bindsN F_lines_by_place fun _ _ _ _ _ _ us hl => match us, hl with | [_, _], _ => rfl
  obtain ⟨d_lines_at, F_lines_at⟩ := c.def_ 4 (d := dd_lines_at) rfl
  have b_lines_at : Binds K d_lines_at ["net", "place"] [] := FunD.bindsN F_lines_at fun _ _ _ _ _ _ us hl => match us, hl with | [_, _], _ => rfl
  obtain ⟨d_is_number, F_is_number⟩ := c.def_ 5 (d := dd_is_number) rfl
  have b_is_number : Binds K d_is_number ["house", "paper", "thing"] [] := FunD.bindsN F_is_number fun _ _ _ _ _ _ us hl => match us, hl with | [_, _, _], _ => rfl
  obtain ⟨d_is_edition, F_is_edition⟩ := c.def_ 6 (d := dd_is_edition) rfl
  have b_is_edition : Binds K d_is_edition ["house", "paper", "thing"] [] := FunD.bindsN F_is_edition fun _ _ _ _ _ _ us hl => match us, hl with | [_, _, _], _ => rfl
  obtain ⟨d_is_day, F_is_day⟩ := c.def_ 7 (d := dd_is_day) rfl
  have b_is_day : Binds K d_is_day ["house", "paper", "thing"] [] := FunD.bindsN F_is_day fun _ _ _ _ _ _ us hl => match us, hl with | [_, _, _], _ => rfl
  obtain ⟨d_is_last_day, F_is_last_day⟩ := c.def_ 8 (d := dd_is_last_day) rfl
  have b_is_last_day : Binds K d_is_last_day ["house", "paper", "thing"] [] := FunD.bindsN F_is_last_day fun _ _ _ _ _ _ us hl => match us, hl with | [_, _, _], _ => rfl
  obtain ⟨d_is_hour, F_is_hour⟩ := c.def_ 9 (d := dd_is_hour) rfl
  have b_is_hour : Binds K d_is_hour ["house", "paper", "thing"] [] := FunD.bindsN F_is_hour fun _ _ _ _ _ _ us hl => match us, hl with | [_, _, _], _ => rfl
  obtain ⟨d_is_sum, F_is_sum⟩ := c.def_ 10 (d := dd_is_sum) rfl
  have b_is_sum : Binds K d_is_sum ["house", "paper", "thing"] [] := FunD.bindsN F_is_sum fun _ _ _ _ _ _ us hl => match us, hl with | [_, _, _], _ => rfl
  obtain ⟨d_is_cartage, F_is_cartage⟩ := c.def_ 11 (d := dd_is_cartage) rfl
  have b_is_cartage : Binds K d_is_cartage ["house", "paper", "thing"] [] := FunD.bindsN F_is_cartage fun _ _ _ _ _ _ us hl => match us, hl with | [_, _, _], _ => rfl
  obtain ⟨d_is_way_number, F_is_way_number⟩ := c.def_ 12 (d := dd_is_way_number) rfl
  have b_is_way_number : Binds K d_is_way_number ["house", "paper", "thing"] [] := FunD.bindsN F_is_way_number fun _ _ _ _ _ _ us hl => match us, hl with | [_, _, _], _ => rfl
  obtain ⟨d_is_own_wagon, F_is_own_wagon⟩ := c.def_ 13 (d := dd_is_own_wagon) rfl
  have b_is_own_wagon : Binds K d_is_own_wagon ["house", "paper", "thing"] [] := FunD.bindsN F_is_own_wagon fun _ _ _ _ _ _ us hl => match us, hl with | [_, _, _], _ => rfl
  obtain ⟨d_is_junction_name, F_is_junction_name⟩ := c.def_ 14 (d := dd_is_junction_name) rfl
  have b_is_junction_name : Binds K d_is_junction_name ["house", "paper", "thing"] [] := FunD.bindsN F_is_junction_name fun _ _ _ _ _ _ us hl => match us, hl with | [_, _, _], _ => rfl
  obtain ⟨d_is_over, F_is_over⟩ := c.def_ 15 (d := dd_is_over) rfl
  have b_is_over : Binds K d_is_over ["house", "paper", "thing"] [] := FunD.bindsN F_is_over fun _ _ _ _ _ _ us hl => match us, hl with | [_, _, _], _ => rfl
  obtain ⟨d_is_load, F_is_load⟩ := c.def_ 16 (d := dd_is_load) rfl
  have b_is_load : Binds K d_is_load ["house", "paper", "thing"] [] := FunD.bindsN F_is_load fun _ _ _ _ _ _ us hl => match us, hl with | [_, _, _], _ => rfl
  obtain ⟨d_is_seal, F_is_seal⟩ := c.def_ 17 (d := dd_is_seal) rfl
  have b_is_seal : Binds K d_is_seal ["house", "paper", "thing"] [] := FunD.bindsN F_is_seal fun _ _ _ _ _ _ us hl => match us, hl with | [_, _, _], _ => rfl
  obtain ⟨d_is_line, F_is_line⟩ := c.def_ 18 (d := dd_is_line) rfl
  have b_is_line : Binds K d_is_line ["house", "paper", "thing"] [] := FunD.bindsN F_is_line fun _ _ _ _ _ _ us hl => match us, hl with | [_, _, _], _ => rfl
  obtain ⟨d_is_ruling, F_is_ruling⟩ := c.def_ 19 (d := dd_is_ruling) rfl
  have b_is_ruling : Binds K d_is_ruling ["house", "paper", "thing"] [] := FunD.bindsN F_is_ruling fun _ _ _ _ _ _ us hl => match us, hl with | [_, _, _], _ => rfl
  obtain ⟨d_fault, F_fault⟩ := c.def_ 20 (d := dd_fault) rfl
  have b_fault : Binds K d_fault ["net", "ways", "wagons", "thing"] [] := FunD.bindsN F_fault fun _ _ _ _ _ _ us hl => match us, hl with | [_, _, _, _], _ => rfl
  obtain ⟨d_l_bag, F_l_bag⟩ := c.def_ 21 (d := dd_l_bag) rfl
  have b_l_bag : Binds K d_l_bag ["_law_script", "_law_at"] [] := FunD.bindsN F_l_bag fun _ _ _ _ _ _ us hl => match us, hl with | [_, _], _ => rfl
  obtain ⟨d_l_take, F_l_take⟩ := c.def_ 22 (d := dd_l_take) rfl
  have b_l_take : Binds K d_l_take ["_law_bag_here", "_law_many"] [] := FunD.bindsN F_l_take fun _ _ _ _ _ _ us hl => match us, hl with | [_, _], _ => rfl
  obtain ⟨d_l_names, F_l_names⟩ := c.def_ 23 (d := dd_l_names) rfl
  have b_l_names : Binds K d_l_names ["_law_bag_here", "_law_many", "_law_head", "_law_tail"] [] := FunD.bindsN F_l_names fun _ _ _ _ _ _ us hl => match us, hl with | [_, _, _, _], _ => rfl
  obtain ⟨d_l_net, F_l_net⟩ := c.def_ 24 (d := dd_l_net) rfl
  have b_l_net : Binds K d_l_net ["_law_bag_here"] [] := FunD.bindsN F_l_net fun _ _ _ _ _ _ us hl => match us, hl with | [_], _ => rfl
  obtain ⟨d_l_way, F_l_way⟩ := c.def_ 25 (d := dd_l_way) rfl
  have b_l_way : Binds K d_l_way ["_law_bag_here", "_law_net_here"] [] := FunD.bindsN F_l_way fun _ _ _ _ _ _ us hl => match us, hl with | [_, _], _ => rfl
  obtain ⟨d_l_house, F_l_house⟩ := c.def_ 26 (d := dd_l_house) rfl
  have b_l_house : Binds K d_l_house ["_law_bag_here"] [] := FunD.bindsN F_l_house fun _ _ _ _ _ _ us hl => match us, hl with | [_], _ => rfl
  obtain ⟨d_l_day, F_l_day⟩ := c.def_ 27 (d := dd_l_day) rfl
  have b_l_day : Binds K d_l_day ["_law_bag_here"] [] := FunD.bindsN F_l_day fun _ _ _ _ _ _ us hl => match us, hl with | [_], _ => rfl
  obtain ⟨d_l_sum, F_l_sum⟩ := c.def_ 28 (d := dd_l_sum) rfl
  have b_l_sum : Binds K d_l_sum ["_law_bag_here"] [] := FunD.bindsN F_l_sum fun _ _ _ _ _ _ us hl => match us, hl with | [_], _ => rfl
  obtain ⟨d_l_number, F_l_number⟩ := c.def_ 29 (d := dd_l_number) rfl
  have b_l_number : Binds K d_l_number ["_law_bag_here"] [] := FunD.bindsN F_l_number fun _ _ _ _ _ _ us hl => match us, hl with | [_], _ => rfl
  obtain ⟨d_l_line, F_l_line⟩ := c.def_ 30 (d := dd_l_line) rfl
  have b_l_line : Binds K d_l_line ["_law_bag_here", "_law_net_here"] [] := FunD.bindsN F_l_line fun _ _ _ _ _ _ us hl => match us, hl with | [_, _], _ => rfl
  obtain ⟨d_l_return, F_l_return⟩ := c.def_ 31 (d := dd_l_return) rfl
  have b_l_return : Binds K d_l_return ["_law_bag_here", "_law_net_here", "_law_wagons", "_law_head"] [] := FunD.bindsN F_l_return fun _ _ _ _ _ _ us hl => match us, hl with | [_, _, _, _], _ => rfl
  obtain ⟨d_l_paper, F_l_paper⟩ := c.def_ 32 (d := dd_l_paper) rfl
  have b_l_paper : Binds K d_l_paper ["_law_bag_here", "_law_house_here"] [] := FunD.bindsN F_l_paper fun _ _ _ _ _ _ us hl => match us, hl with | [_, _], _ => rfl
  obtain ⟨d_l_whole, F_l_whole⟩ := c.def_ 33 (d := dd_l_whole) rfl
  have b_l_whole : Binds K d_l_whole ["_law_thing", "_law_low", "_law_high"] [] := FunD.bindsN F_l_whole fun _ _ _ _ _ _ us hl => match us, hl with | [_, _, _], _ => rfl
  obtain ⟨d_l_in, F_l_in⟩ := c.def_ 34 (d := dd_l_in) rfl
  have b_l_in : Binds K d_l_in ["_law_thing", "_law_some"] [] := FunD.bindsN F_l_in fun _ _ _ _ _ _ us hl => match us, hl with | [_, _], _ => rfl
  obtain ⟨d_l_waybill_fault, F_l_waybill_fault⟩ := c.def_ 35 (d := dd_l_waybill_fault) rfl
  have b_l_waybill_fault : Binds K d_l_waybill_fault ["_law_house_here", "_law_thing"] [] := FunD.bindsN F_l_waybill_fault fun _ _ _ _ _ _ us hl => match us, hl with | [_, _], _ => rfl
  obtain ⟨d_l_return_fault, F_l_return_fault⟩ := c.def_ 36 (d := dd_l_return_fault) rfl
  have b_l_return_fault : Binds K d_l_return_fault ["_law_net_here", "_law_thing"] [] := FunD.bindsN F_l_return_fault fun _ _ _ _ _ _ us hl => match us, hl with | [_, _], _ => rfl
  obtain ⟨d_l_toll_fault, F_l_toll_fault⟩ := c.def_ 37 (d := dd_l_toll_fault) rfl
  have b_l_toll_fault : Binds K d_l_toll_fault ["_law_net_here", "_law_thing"] [] := FunD.bindsN F_l_toll_fault fun _ _ _ _ _ _ us hl => match us, hl with | [_, _], _ => rfl
  obtain ⟨d_l_last_good, F_l_last_good⟩ := c.def_ 38 (d := dd_l_last_good) rfl
  have b_l_last_good : Binds K d_l_last_good ["_law_net_here", "_law_thing"] [] := FunD.bindsN F_l_last_good fun _ _ _ _ _ _ us hl => match us, hl with | [_, _], _ => rfl
  obtain ⟨d_l_fault, F_l_fault⟩ := c.def_ 39 (d := dd_l_fault) rfl
  have b_l_fault : Binds K d_l_fault ["_law_house_here", "_law_thing"] [] := FunD.bindsN F_l_fault fun _ _ _ _ _ _ us hl => match us, hl with | [_, _], _ => rfl
  obtain ⟨d_l_any, F_l_any⟩ := c.def_ 40 (d := dd_l_any) rfl
  have b_l_any : Binds K d_l_any ["_law_bag_here", "_law_house_here"] [] := FunD.bindsN F_l_any fun _ _ _ _ _ _ us hl => match us, hl with | [_, _], _ => rfl
  obtain ⟨d_l_stepped, F_l_stepped⟩ := c.def_ 41 (d := dd_l_stepped) rfl
  have b_l_stepped : Binds K d_l_stepped ["_law_part", "_law_step"] [] := FunD.bindsN F_l_stepped fun _ _ _ _ _ _ us hl => match us, hl with | [_, _], _ => rfl
  obtain ⟨d_l_bent, F_l_bent⟩ := c.def_ 42 (d := dd_l_bent) rfl
  have b_l_bent : Binds K d_l_bent ["_law_bag_here", "_law_house_here", "_law_paper_here"] [] := FunD.bindsN F_l_bent fun _ _ _ _ _ _ us hl => match us, hl with | [_, _, _], _ => rfl
  obtain ⟨d_law, F_law⟩ := c.def_ 43 (d := dd_law) rfl
  obtain ⟨t_MOST_PENCE, c_MOST_PENCE⟩ := He.int_ok X G (c.fact 44 (f := .int "MOST_PENCE" 1000000000) rfl)
  obtain ⟨t_LAST_DAY, c_LAST_DAY⟩ := He.int_ok X G (c.fact 45 (f := .int "LAST_DAY" 420) rfl)
  obtain ⟨t_LAST_HOUR, c_LAST_HOUR⟩ := He.int_ok X G (c.fact 46 (f := .int "LAST_HOUR" 23) rfl)
  obtain ⟨t_LAST_NUMBER, c_LAST_NUMBER⟩ := He.int_ok X G (c.fact 47 (f := .int "LAST_NUMBER" 9999) rfl)
  obtain ⟨t_LAST_EDITION, c_LAST_EDITION⟩ := He.int_ok X G (c.fact 48 (f := .int "LAST_EDITION" 99) rfl)
  obtain ⟨t_JUNCTION, c_JUNCTION⟩ := He.int_ok X G (c.fact 49 (f := .int "JUNCTION" 3) rfl)
  obtain ⟨t_FIRST_DAY, c_FIRST_DAY⟩ := He.int_ok X G (c.fact 50 (f := .int "FIRST_DAY" 4) rfl)
  obtain ⟨o_KINDS, k_KINDS, u_KINDS⟩ := Lka.tup_ok (He.ba c'.more).1
  obtain ⟨es_THINGS, n_THINGS, D_THINGS⟩ := c'.t.tab 0
  obtain ⟨o_THINGS_0, k_THINGS_0, u_THINGS_0⟩ := Lka.tup_ok (He.ba (He.ba (He.ba (He.ba (He.ba (He.ba (He.ba (He.ba (He.ba c'.more).2).2).2).2).2).2).2).2).1
  obtain ⟨o_THINGS_1, k_THINGS_1, u_THINGS_1⟩ := Lka.tup_ok (He.ba (He.ba (He.ba (He.ba (He.ba (He.ba (He.ba (He.ba (He.ba (He.ba c'.more).2).2).2).2).2).2).2).2).2).1
  obtain ⟨o_THINGS_2, k_THINGS_2, u_THINGS_2⟩ := Lka.tup_ok (He.ba (He.ba (He.ba (He.ba (He.ba (He.ba (He.ba (He.ba (He.ba (He.ba (He.ba c'.more).2).2).2).2).2).2).2).2).2).2).1
  obtain ⟨o_THINGS_3, k_THINGS_3, u_THINGS_3⟩ := Lka.tup_ok (He.ba (He.ba (He.ba (He.ba (He.ba (He.ba (He.ba (He.ba (He.ba (He.ba (He.ba (He.ba c'.more).2).2).2).2).2).2).2).2).2).2).2).1
  obtain ⟨o_THINGS_4, k_THINGS_4, u_THINGS_4⟩ := Lka.tup_ok (He.ba (He.ba (He.ba (He.ba (He.ba (He.ba (He.ba (He.ba (He.ba (He.ba (He.ba (He.ba (He.ba c'.more).2).2).2).2).2).2).2).2).2).2).2).2).1
  obtain ⟨o_THINGS_5, k_THINGS_5, u_THINGS_5⟩ := Lka.tup_ok (He.ba (He.ba (He.ba (He.ba (He.ba (He.ba (He.ba (He.ba (He.ba (He.ba (He.ba (He.ba (He.ba (He.ba c'.more).2).2).2).2).2).2).2).2).2).2).2).2).2).1
  obtain ⟨o_THINGS_6, k_THINGS_6, u_THINGS_6⟩ := Lka.tup_ok (He.ba (He.ba (He.ba (He.ba (He.ba (He.ba (He.ba (He.ba (He.ba (He.ba (He.ba (He.ba (He.ba (He.ba (He.ba c'.more).2).2).2).2).2).2).2).2).2).2).2).2).2).2).1
  obtain ⟨es_CHECKS, n_CHECKS, D_CHECKS⟩ := c'.t.tab 1
  let T : Defs K mg := {
    a_is_whole := _,
    d_is_whole := d_is_whole,
    F_is_whole := F_is_whole,
    g_is_whole := He.glo_ok X G (c.fact 0 (f := .glo "is_whole") rfl),
    b_is_whole := b_is_whole,
    a_is_whole_between := _,
    d_is_whole_between := d_is_whole_between,
    F_is_whole_between := F_is_whole_between,
    g_is_whole_between := He.glo_ok X G (c.fact 1 (f := .glo "is_whole_between") rfl),
    b_is_whole_between := b_is_whole_between,
    a_is_tuple := _,
    d_is_tuple := d_is_tuple,
    F_is_tuple := F_is_tuple,
    g_is_tuple := He.glo_ok X G (c.fact 2 (f := .glo "is_tuple") rfl),
    b_is_tuple := b_is_tuple,
    a_lines_by_place := _,
    d_lines_by_place := d_lines_by_place,
    F_lines_by_place := F_lines_by_place,
    g_lines_by_place := He.glo_ok X G (c.fact 3 (f := .glo "lines_by_place") rfl),
    b_lines_by_place := b_lines_by_place,
    a_lines_at := _,
    d_lines_at := d_lines_at,
    F_lines_at := F_lines_at,
    g_lines_at := He.glo_ok X G (c.fact 4 (f := .glo "lines_at") rfl),
    b_lines_at := b_lines_at,
    a_is_number := _,
    d_is_number := d_is_number,
    F_is_number := F_is_number,
    g_is_number := He.glo_ok X G (c.fact 5 (f := .glo "is_number") rfl),
    b_is_number := b_is_number,
    a_is_edition := _,
    d_is_edition := d_is_edition,
    F_is_edition := F_is_edition,
    g_is_edition := He.glo_ok X G (c.fact 6 (f := .glo "is_edition") rfl),
    b_is_edition := b_is_edition,
    a_is_day := _,
    d_is_day := d_is_day,
    F_is_day := F_is_day,
    g_is_day := He.glo_ok X G (c.fact 7 (f := .glo "is_day") rfl),
    b_is_day := b_is_day,
    a_is_last_day := _,
    d_is_last_day := d_is_last_day,
    F_is_last_day := F_is_last_day,
    g_is_last_day := He.glo_ok X G (c.fact 8 (f := .glo "is_last_day") rfl),
    b_is_last_day := b_is_last_day,
    a_is_hour := _,
    d_is_hour := d_is_hour,
    F_is_hour := F_is_hour,
    g_is_hour := He.glo_ok X G (c.fact 9 (f := .glo "is_hour") rfl),
    b_is_hour := b_is_hour,
    a_is_sum := _,
    d_is_sum := d_is_sum,
    F_is_sum := F_is_sum,
    g_is_sum := He.glo_ok X G (c.fact 10 (f := .glo "is_sum") rfl),
    b_is_sum := b_is_sum,
    a_is_cartage := _,
    d_is_cartage := d_is_cartage,
    F_is_cartage := F_is_cartage,
    g_is_cartage := He.glo_ok X G (c.fact 11 (f := .glo "is_cartage") rfl),
    b_is_cartage := b_is_cartage,
    a_is_way_number := _,
    d_is_way_number := d_is_way_number,
    F_is_way_number := F_is_way_number,
    g_is_way_number := He.glo_ok X G (c.fact 12 (f := .glo "is_way_number") rfl),
    b_is_way_number := b_is_way_number,
    a_is_own_wagon := _,
    d_is_own_wagon := d_is_own_wagon,
    F_is_own_wagon := F_is_own_wagon,
    g_is_own_wagon := He.glo_ok X G (c.fact 13 (f := .glo "is_own_wagon") rfl),
    b_is_own_wagon := b_is_own_wagon,
    a_is_junction_name := _,
    d_is_junction_name := d_is_junction_name,
    F_is_junction_name := F_is_junction_name,
    g_is_junction_name := He.glo_ok X G (c.fact 14 (f := .glo "is_junction_name") rfl),
    b_is_junction_name := b_is_junction_name,
    a_is_over := _,
    d_is_over := d_is_over,
    F_is_over := F_is_over,
    g_is_over := He.glo_ok X G (c.fact 15 (f := .glo "is_over") rfl),
    b_is_over := b_is_over,
    a_is_load := _,
    d_is_load := d_is_load,
    F_is_load := F_is_load,
    g_is_load := He.glo_ok X G (c.fact 16 (f := .glo "is_load") rfl),
    b_is_load := b_is_load,
    a_is_seal := _,
    d_is_seal := d_is_seal,
    F_is_seal := F_is_seal,
    g_is_seal := He.glo_ok X G (c.fact 17 (f := .glo "is_seal") rfl),
    b_is_seal := b_is_seal,
    a_is_line := _,
    d_is_line := d_is_line,
    F_is_line := F_is_line,
    g_is_line := He.glo_ok X G (c.fact 18 (f := .glo "is_line") rfl),
    b_is_line := b_is_line,
    a_is_ruling := _,
    d_is_ruling := d_is_ruling,
    F_is_ruling := F_is_ruling,
    g_is_ruling := He.glo_ok X G (c.fact 19 (f := .glo "is_ruling") rfl),
    b_is_ruling := b_is_ruling,
    a_fault := _,
    d_fault := d_fault,
    F_fault := F_fault,
    g_fault := He.glo_ok X G (c.fact 20 (f := .glo "fault") rfl),
    b_fault := b_fault,
    a_l_bag := _,
    d_l_bag := d_l_bag,
    F_l_bag := F_l_bag,
    g_l_bag := He.glo_ok X G (c.fact 21 (f := .glo "_law_bag") rfl),
    b_l_bag := b_l_bag,
    a_l_take := _,
    d_l_take := d_l_take,
    F_l_take := F_l_take,
    g_l_take := He.glo_ok X G (c.fact 22 (f := .glo "_law_take") rfl),
    b_l_take := b_l_take,
    a_l_names := _,
    d_l_names := d_l_names,
    F_l_names := F_l_names,
    g_l_names := He.glo_ok X G (c.fact 23 (f := .glo "_law_names") rfl),
    b_l_names := b_l_names,
    a_l_net := _,
    d_l_net := d_l_net,
    F_l_net := F_l_net,
    g_l_net := He.glo_ok X G (c.fact 24 (f := .glo "_law_net") rfl),
    b_l_net := b_l_net,
    a_l_way := _,
    d_l_way := d_l_way,
    F_l_way := F_l_way,
    g_l_way := He.glo_ok X G (c.fact 25 (f := .glo "_law_way") rfl),
    b_l_way := b_l_way,
    a_l_house := _,
    d_l_house := d_l_house,
    F_l_house := F_l_house,
    g_l_house := He.glo_ok X G (c.fact 26 (f := .glo "_law_house") rfl),
    b_l_house := b_l_house,
    a_l_day := _,
    d_l_day := d_l_day,
    F_l_day := F_l_day,
    g_l_day := He.glo_ok X G (c.fact 27 (f := .glo "_law_day") rfl),
    b_l_day := b_l_day,
    a_l_sum := _,
    d_l_sum := d_l_sum,
    F_l_sum := F_l_sum,
    g_l_sum := He.glo_ok X G (c.fact 28 (f := .glo "_law_sum") rfl),
    b_l_sum := b_l_sum,
    a_l_number := _,
    d_l_number := d_l_number,
    F_l_number := F_l_number,
    g_l_number := He.glo_ok X G (c.fact 29 (f := .glo "_law_number") rfl),
    b_l_number := b_l_number,
    a_l_line := _,
    d_l_line := d_l_line,
    F_l_line := F_l_line,
    g_l_line := He.glo_ok X G (c.fact 30 (f := .glo "_law_line") rfl),
    b_l_line := b_l_line,
    a_l_return := _,
    d_l_return := d_l_return,
    F_l_return := F_l_return,
    g_l_return := He.glo_ok X G (c.fact 31 (f := .glo "_law_return") rfl),
    b_l_return := b_l_return,
    a_l_paper := _,
    d_l_paper := d_l_paper,
    F_l_paper := F_l_paper,
    g_l_paper := He.glo_ok X G (c.fact 32 (f := .glo "_law_paper") rfl),
    b_l_paper := b_l_paper,
    a_l_whole := _,
    d_l_whole := d_l_whole,
    F_l_whole := F_l_whole,
    g_l_whole := He.glo_ok X G (c.fact 33 (f := .glo "_law_whole") rfl),
    b_l_whole := b_l_whole,
    a_l_in := _,
    d_l_in := d_l_in,
    F_l_in := F_l_in,
    g_l_in := He.glo_ok X G (c.fact 34 (f := .glo "_law_in") rfl),
    b_l_in := b_l_in,
    a_l_waybill_fault := _,
    d_l_waybill_fault := d_l_waybill_fault,
    F_l_waybill_fault := F_l_waybill_fault,
    g_l_waybill_fault := He.glo_ok X G (c.fact 35 (f := .glo "_law_waybill_fault") rfl),
    b_l_waybill_fault := b_l_waybill_fault,
    a_l_return_fault := _,
    d_l_return_fault := d_l_return_fault,
    F_l_return_fault := F_l_return_fault,
    g_l_return_fault := He.glo_ok X G (c.fact 36 (f := .glo "_law_return_fault") rfl),
    b_l_return_fault := b_l_return_fault,
    a_l_toll_fault := _,
    d_l_toll_fault := d_l_toll_fault,
    F_l_toll_fault := F_l_toll_fault,
    g_l_toll_fault := He.glo_ok X G (c.fact 37 (f := .glo "_law_toll_fault") rfl),
    b_l_toll_fault := b_l_toll_fault,
    a_l_last_good := _,
    d_l_last_good := d_l_last_good,
    F_l_last_good := F_l_last_good,
    g_l_last_good := He.glo_ok X G (c.fact 38 (f := .glo "_law_last_good") rfl),
    b_l_last_good := b_l_last_good,
    a_l_fault := _,
    d_l_fault := d_l_fault,
    F_l_fault := F_l_fault,
    g_l_fault := He.glo_ok X G (c.fact 39 (f := .glo "_law_fault") rfl),
    b_l_fault := b_l_fault,
    a_l_any := _,
    d_l_any := d_l_any,
    F_l_any := F_l_any,
    g_l_any := He.glo_ok X G (c.fact 40 (f := .glo "_law_any") rfl),
    b_l_any := b_l_any,
    a_l_stepped := _,
    d_l_stepped := d_l_stepped,
    F_l_stepped := F_l_stepped,
    g_l_stepped := He.glo_ok X G (c.fact 41 (f := .glo "_law_stepped") rfl),
    b_l_stepped := b_l_stepped,
    a_l_bent := _,
    d_l_bent := d_l_bent,
    F_l_bent := F_l_bent,
    g_l_bent := He.glo_ok X G (c.fact 42 (f := .glo "_law_bent") rfl),
    b_l_bent := b_l_bent,
    t_MOST_PENCE := t_MOST_PENCE,
    c_MOST_PENCE := c_MOST_PENCE,
    t_LAST_DAY := t_LAST_DAY,
    c_LAST_DAY := c_LAST_DAY,
    t_LAST_HOUR := t_LAST_HOUR,
    c_LAST_HOUR := c_LAST_HOUR,
    t_LAST_NUMBER := t_LAST_NUMBER,
    c_LAST_NUMBER := c_LAST_NUMBER,
    t_LAST_EDITION := t_LAST_EDITION,
    c_LAST_EDITION := c_LAST_EDITION,
    t_JUNCTION := t_JUNCTION,
    c_JUNCTION := c_JUNCTION,
    t_FIRST_DAY := t_FIRST_DAY,
    c_FIRST_DAY := c_FIRST_DAY,
    z_abs := He.free_ok X G (c.fact 51 (f := .free "abs") rfl),
    z_all := He.free_ok X G (c.fact 52 (f := .free "all") rfl),
    z_any := He.free_ok X G (c.fact 53 (f := .free "any") rfl),
    z_bool := He.free_ok X G (c.fact 54 (f := .free "bool") rfl),
    z_dict := He.free_ok X G (c.fact 55 (f := .free "dict") rfl),
    z_enumerate := He.free_ok X G (c.fact 56 (f := .free "enumerate") rfl),
    z_int := He.free_ok X G (c.fact 57 (f := .free "int") rfl),
    z_isinstance := He.free_ok X G (c.fact 58 (f := .free "isinstance") rfl),
    z_len := He.free_ok X G (c.fact 59 (f := .free "len") rfl),
    z_list := He.free_ok X G (c.fact 60 (f := .free "list") rfl),
    z_max := He.free_ok X G (c.fact 61 (f := .free "max") rfl),
    z_min := He.free_ok X G (c.fact 62 (f := .free "min") rfl),
    z_range := He.free_ok X G (c.fact 63 (f := .free "range") rfl),
    z_set := He.free_ok X G (c.fact 64 (f := .free "set") rfl),
    z_sorted := He.free_ok X G (c.fact 65 (f := .free "sorted") rfl),
    z_str := He.free_ok X G (c.fact 66 (f := .free "str") rfl),
    z_tuple := He.free_ok X G (c.fact 67 (f := .free "tuple") rfl),
    z_zip := He.free_ok X G (c.fact 68 (f := .free "zip") rfl),
    a_KINDS := _,
    o_KINDS := o_KINDS,
    g_KINDS := He.glo_ok X G (c.fact 69 (f := .glo "KINDS") rfl),
    k_KINDS := k_KINDS,
    u_KINDS := u_KINDS,
    a_THINGS := _,
    g_THINGS := He.glo_ok X G (c.fact 70 (f := .glo "THINGS") rfl),
    a_THINGS_0 := _,
    o_THINGS_0 := o_THINGS_0,
    k_THINGS_0 := k_THINGS_0,
    u_THINGS_0 := u_THINGS_0,
    a_THINGS_1 := _,
    o_THINGS_1 := o_THINGS_1,
    k_THINGS_1 := k_THINGS_1,
    u_THINGS_1 := u_THINGS_1,
    a_THINGS_2 := _,
    o_THINGS_2 := o_THINGS_2,
    k_THINGS_2 := k_THINGS_2,
    u_THINGS_2 := u_THINGS_2,
    a_THINGS_3 := _,
    o_THINGS_3 := o_THINGS_3,
    k_THINGS_3 := k_THINGS_3,
    u_THINGS_3 := u_THINGS_3,
    a_THINGS_4 := _,
    o_THINGS_4 := o_THINGS_4,
    k_THINGS_4 := k_THINGS_4,
    u_THINGS_4 := u_THINGS_4,
    a_THINGS_5 := _,
    o_THINGS_5 := o_THINGS_5,
    k_THINGS_5 := k_THINGS_5,
    u_THINGS_5 := u_THINGS_5,
    a_THINGS_6 := _,
    o_THINGS_6 := o_THINGS_6,
    k_THINGS_6 := k_THINGS_6,
    u_THINGS_6 := u_THINGS_6,
    a_CHECKS := _,
    g_CHECKS := He.glo_ok X G (c.fact 71 (f := .glo "CHECKS") rfl),
    cnd_CHECKS := of_decide_eq_true (He.ba (He.ba (He.ba (He.ba (He.ba (He.ba (He.ba (He.ba (He.ba (He.ba (He.ba (He.ba (He.ba (He.ba (He.ba (He.ba (He.ba (He.ba (He.ba (He.ba (He.ba (He.ba (He.ba (He.ba (He.ba (He.ba (He.ba (He.ba (He.ba (He.ba (He.ba c'.more).2).2).2).2).2).2).2).2).2).2).2).2).2).2).2).2).2).2).2).2).2).2).2).2).2).2).2).2).2).2).1,
    kp_is_number := (He.ba (He.ba (He.ba (He.ba (He.ba (He.ba (He.ba (He.ba (He.ba (He.ba (He.ba (He.ba (He.ba (He.ba (He.ba (He.ba (He.ba (He.ba (He.ba (He.ba (He.ba (He.ba (He.ba (He.ba (He.ba (He.ba (He.ba (He.ba (He.ba (He.ba (He.ba (He.ba c'.more).2).2).2).2).2).2).2).2).2).2).2).2).2).2).2).2).2).2).2).2).2).2).2).2).2).2).2).2).2).2).2).1,
    kp_is_edition := (He.ba (He.ba (He.ba (He.ba (He.ba (He.ba (He.ba (He.ba (He.ba (He.ba (He.ba (He.ba (He.ba (He.ba (He.ba (He.ba (He.ba (He.ba (He.ba (He.ba (He.ba (He.ba (He.ba (He.ba (He.ba (He.ba (He.ba (He.ba (He.ba (He.ba (He.ba (He.ba (He.ba c'.more).2).2).2).2).2).2).2).2).2).2).2).2).2).2).2).2).2).2).2).2).2).2).2).2).2).2).2).2).2).2).2).2).1,
    kp_is_day := (He.ba (He.ba (He.ba (He.ba (He.ba (He.ba (He.ba (He.ba (He.ba (He.ba (He.ba (He.ba (He.ba (He.ba (He.ba (He.ba (He.ba (He.ba (He.ba (He.ba (He.ba (He.ba (He.ba (He.ba (He.ba (He.ba (He.ba (He.ba (He.ba (He.ba (He.ba (He.ba (He.ba (He.ba c'.more).2).2).2).2).2).2).2).2).2).2).2).2).2).2).2).2).2).2).2).2).2).2).2).2).2).2).2).2).2).2).2).2).2).1,
    kp_is_last_day := (He.ba (He.ba (He.ba (He.ba (He.ba (He.ba (He.ba (He.ba (He.ba (He.ba (He.ba (He.ba (He.ba (He.ba (He.ba (He.ba (He.ba (He.ba (He.ba (He.ba (He.ba (He.ba (He.ba (He.ba (He.ba (He.ba (He.ba (He.ba (He.ba (He.ba (He.ba (He.ba (He.ba (He.ba (He.ba c'.more).2).2).2).2).2).2).2).2).2).2).2).2).2).2).2).2).2).2).2).2).2).2).2).2).2).2).2).2).2).2).2).2).2).2).1,
    kp_is_hour := (He.ba (He.ba (He.ba (He.ba (He.ba (He.ba (He.ba (He.ba (He.ba (He.ba (He.ba (He.ba (He.ba (He.ba (He.ba (He.ba (He.ba (He.ba (He.ba (He.ba (He.ba (He.ba (He.ba (He.ba (He.ba (He.ba (He.ba (He.ba (He.ba (He.ba (He.ba (He.ba (He.ba (He.ba (He.ba (He.ba c'.more).2).2).2).2).2).2).2).2).2).2).2).2).2).2).2).2).2).2).2).2).2).2).2).2).2).2).2).2).2).2).2).2).2).2).2).1,
    kp_is_sum := (He.ba (He.ba (He.ba (He.ba (He.ba (He.ba (He.ba (He.ba (He.ba (He.ba (He.ba (He.ba (He.ba (He.ba (He.ba (He.ba (He.ba (He.ba (He.ba (He.ba (He.ba (He.ba (He.ba (He.ba (He.ba (He.ba (He.ba (He.ba (He.ba (He.ba (He.ba (He.ba (He.ba (He.ba (He.ba (He.ba (He.ba c'.more).2).2).2).2).2).2).2).2).2).2).2).2).2).2).2).2).2).2).2).2).2).2).2).2).2).2).2).2).2).2).2).2).2).2).2).2).1,
    kp_is_cartage := (He.ba (He.ba (He.ba (He.ba (He.ba (He.ba (He.ba (He.ba (He.ba (He.ba (He.ba (He.ba (He.ba (He.ba (He.ba (He.ba (He.ba (He.ba (He.ba (He.ba (He.ba (He.ba (He.ba (He.ba (He.ba (He.ba (He.ba (He.ba (He.ba (He.ba (He.ba (He.ba (He.ba (He.ba (He.ba (He.ba (He.ba (He.ba c'.more).2).2).2).2).2).2).2).2).2).2).2).2).2).2).2).2).2).2).2).2).2).2).2).2).2).2).2).2).2).2).2).2).2).2).2).2).2).1,
    kp_is_way_number := (He.ba (He.ba (He.ba (He.ba (He.ba (He.ba (He.ba (He.ba (He.ba (He.ba (He.ba (He.ba (He.ba (He.ba (He.ba (He.ba (He.ba (He.ba (He.ba (He.ba (He.ba (He.ba (He.ba (He.ba (He.ba (He.ba (He.ba (He.ba (He.ba (He.ba (He.ba (He.ba (He.ba (He.ba (He.ba (He.ba (He.ba (He.ba (He.ba c'.more).2).2).2).2).2).2).2).2).2).2).2).2).2).2).2).2).2).2).2).2).2).2).2).2).2).2).2).2).2).2).2).2).2).2).2).2).2).2).1,
    kp_is_own_wagon := (He.ba (He.ba (He.ba (He.ba (He.ba (He.ba (He.ba (He.ba (He.ba (He.ba (He.ba (He.ba (He.ba (He.ba (He.ba (He.ba (He.ba (He.ba (He.ba (He.ba (He.ba (He.ba (He.ba (He.ba (He.ba (He.ba (He.ba (He.ba (He.ba (He.ba (He.ba (He.ba (He.ba (He.ba (He.ba (He.ba (He.ba (He.ba (He.ba (He.ba c'.more).2).2).2).2).2).2).2).2).2).2).2).2).2).2).2).2).2).2).2).2).2).2).2).2).2).2).2).2).2).2).2).2).2).2).2).2).2).2).2).1,
    kp_is_junction_name := (He.ba (He.ba (He.ba (He.ba (He.ba (He.ba (He.ba (He.ba (He.ba (He.ba (He.ba (He.ba (He.ba (He.ba (He.ba (He.ba (He.ba (He.ba (He.ba (He.ba (He.ba (He.ba (He.ba (He.ba (He.ba (He.ba (He.ba (He.ba (He.ba (He.ba (He.ba (He.ba (He.ba (He.ba (He.ba (He.ba (He.ba (He.ba (He.ba (He.ba (He.ba c'.more).2).2).2).2).2).2).2).2).2).2).2).2).2).2).2).2).2).2).2).2).2).2).2).2).2).2).2).2).2).2).2).2).2).2).2).2).2).2).2).2).1,
    kp_is_over := (He.ba (He.ba (He.ba (He.ba (He.ba (He.ba (He.ba (He.ba (He.ba (He.ba (He.ba (He.ba (He.ba (He.ba (He.ba (He.ba (He.ba (He.ba (He.ba (He.ba (He.ba (He.ba (He.ba (He.ba (He.ba (He.ba (He.ba (He.ba (He.ba (He.ba (He.ba (He.ba (He.ba (He.ba (He.ba (He.ba (He.ba (He.ba (He.ba (He.ba (He.ba (He.ba c'.more).2).2).2).2).2).2).2).2).2).2).2).2).2).2).2).2).2).2).2).2).2).2).2).2).2).2).2).2).2).2).2).2).2).2).2).2).2).2).2).2).2).1,
    kp_is_load := (He.ba (He.ba (He.ba (He.ba (He.ba (He.ba (He.ba (He.ba (He.ba (He.ba (He.ba (He.ba (He.ba (He.ba (He.ba (He.ba (He.ba (He.ba (He.ba (He.ba (He.ba (He.ba (He.ba (He.ba (He.ba (He.ba (He.ba (He.ba (He.ba (He.ba (He.ba (He.ba (He.ba (He.ba (He.ba (He.ba (He.ba (He.ba (He.ba (He.ba (He.ba (He.ba (He.ba c'.more).2).2).2).2).2).2).2).2).2).2).2).2).2).2).2).2).2).2).2).2).2).2).2).2).2).2).2).2).2).2).2).2).2).2).2).2).2).2).2).2).2).2).1,
    kp_is_seal := (He.ba (He.ba (He.ba (He.ba (He.ba (He.ba (He.ba (He.ba (He.ba (He.ba (He.ba (He.ba (He.ba (He.ba (He.ba (He.ba (He.ba (He.ba (He.ba (He.ba (He.ba (He.ba (He.ba (He.ba (He.ba (He.ba (He.ba (He.ba (He.ba (He.ba (He.ba (He.ba (He.ba (He.ba (He.ba (He.ba (He.ba (He.ba (He.ba (He.ba (He.ba (He.ba (He.ba (He.ba c'.more).2).2).2).2).2).2).2).2).2).2).2).2).2).2).2).2).2).2).2).2).2).2).2).2).2).2).2).2).2).2).2).2).2).2).2).2).2).2).2).2).2).2).2).1,
    kp_is_line := (He.ba (He.ba (He.ba (He.ba (He.ba (He.ba (He.ba (He.ba (He.ba (He.ba (He.ba (He.ba (He.ba (He.ba (He.ba (He.ba (He.ba (He.ba (He.ba (He.ba (He.ba (He.ba (He.ba (He.ba (He.ba (He.ba (He.ba (He.ba (He.ba (He.ba (He.ba (He.ba (He.ba (He.ba (He.ba (He.ba (He.ba (He.ba (He.ba (He.ba (He.ba (He.ba (He.ba (He.ba (He.ba c'.more).2).2).2).2).2).2).2).2).2).2).2).2).2).2).2).2).2).2).2).2).2).2).2).2).2).2).2).2).2).2).2).2).2).2).2).2).2).2).2).2).2).2).2).2).1,
    kp_is_ruling := (He.ba (He.ba (He.ba (He.ba (He.ba (He.ba (He.ba (He.ba (He.ba (He.ba (He.ba (He.ba (He.ba (He.ba (He.ba (He.ba (He.ba (He.ba (He.ba (He.ba (He.ba (He.ba (He.ba (He.ba (He.ba (He.ba (He.ba (He.ba (He.ba (He.ba (He.ba (He.ba (He.ba (He.ba (He.ba (He.ba (He.ba (He.ba (He.ba (He.ba (He.ba (He.ba (He.ba (He.ba (He.ba c'.more).2).2).2).2).2).2).2).2).2).2).2).2).2).2).2).2).2).2).2).2).2).2).2).2).2).2).2).2).2).2).2).2).2).2).2).2).2).2).2).2).2).2).2).2).2 }
  have DT : DicT w T := {
    d_THINGS_0 := ⟨_, _, _, D_THINGS.at_, D_THINGS.lit, He.eqO_ok (He.ba (He.ba c'.more).2).1, rfl⟩,
    d_THINGS_1 := ⟨_, _, _, D_THINGS.at_, D_THINGS.lit, He.eqO_ok (He.ba (He.ba (He.ba c'.more).2).2).1, rfl⟩,
    d_THINGS_2 := ⟨_, _, _, D_THINGS.at_, D_THINGS.lit, He.eqO_ok (He.ba (He.ba (He.ba (He.ba c'.more).2).2).2).1, rfl⟩,
    d_THINGS_3 := ⟨_, _, _, D_THINGS.at_, D_THINGS.lit, He.eqO_ok (He.ba (He.ba (He.ba (He.ba (He.ba c'.more).2).2).2).2).1, rfl⟩,
    d_THINGS_4 := ⟨_, _, _, D_THINGS.at_, D_THINGS.lit, He.eqO_ok (He.ba (He.ba (He.ba (He.ba (He.ba (He.ba c'.more).2).2).2).2).2).1, rfl⟩,
    d_THINGS_5 := ⟨_, _, _, D_THINGS.at_, D_THINGS.lit, He.eqO_ok (He.ba (He.ba (He.ba (He.ba (He.ba (He.ba (He.ba c'.more).2).2).2).2).2).2).1, rfl⟩,
    d_THINGS_6 := ⟨_, _, _, D_THINGS.at_, D_THINGS.lit, He.eqO_ok (He.ba (He.ba (He.ba (He.ba (He.ba (He.ba (He.ba (He.ba c'.more).2).2).2).2).2).2).2).1, rfl⟩,
    d_CHECKS_0 := ⟨_, _, _, D_CHECKS.at_, D_CHECKS.lit, He.eqO_ok (He.ba (He.ba (He.ba (He.ba (He.ba (He.ba (He.ba (He.ba (He.ba (He.ba (He.ba (He.ba (He.ba (He.ba (He.ba (He.ba c'.more).2).2).2).2).2).2).2).2).2).2).2).2).2).2).2).1, rfl⟩,
    d_CHECKS_1 := ⟨_, _, _, D_CHECKS.at_, D_CHECKS.lit, He.eqO_ok (He.ba (He.ba (He.ba (He.ba (He.ba (He.ba (He.ba (He.ba (He.ba (He.ba (He.ba (He.ba (He.ba (He.ba (He.ba (He.ba (He.ba c'.more).2).2).2).2).2).2).2).2).2).2).2).2).2).2).2).2).1, rfl⟩,
    d_CHECKS_2 := ⟨_, _, _, D_CHECKS.at_, D_CHECKS.lit, He.eqO_ok (He.ba (He.ba (He.ba (He.ba (He.ba (He.ba (He.ba (He.ba (He.ba (He.ba (He.ba (He.ba (He.ba (He.ba (He.ba (He.ba (He.ba (He.ba c'.more).2).2).2).2).2).2).2).2).2).2).2).2).2).2).2).2).2).1, rfl⟩,
    d_CHECKS_3 := ⟨_, _, _, D_CHECKS.at_, D_CHECKS.lit, He.eqO_ok (He.ba (He.ba (He.ba (He.ba (He.ba (He.ba (He.ba (He.ba (He.ba (He.ba (He.ba (He.ba (He.ba (He.ba (He.ba (He.ba (He.ba (He.ba (He.ba c'.more).2).2).2).2).2).2).2).2).2).2).2).2).2).2).2).2).2).2).1, rfl⟩,
    d_CHECKS_4 := ⟨_, _, _, D_CHECKS.at_, D_CHECKS.lit, He.eqO_ok (He.ba (He.ba (He.ba (He.ba (He.ba (He.ba (He.ba (He.ba (He.ba (He.ba (He.ba (He.ba (He.ba (He.ba (He.ba (He.ba (He.ba (He.ba (He.ba (He.ba c'.more).2).2).2).2).2).2).2).2).2).2).2).2).2).2).2).2).2).2).2).1, rfl⟩,
    d_CHECKS_5 := ⟨_, _, _, D_CHECKS.at_, D_CHECKS.lit, He.eqO_ok (He.ba (He.ba (He.ba (He.ba (He.ba (He.ba (He.ba (He.ba (He.ba (He.ba (He.ba (He.ba (He.ba (He.ba (He.ba (He.ba (He.ba (He.ba (He.ba (He.ba (He.ba c'.more).2).2).2).2).2).2).2).2).2).2).2).2).2).2).2).2).2).2).2).2).1, rfl⟩,
    d_CHECKS_6 := ⟨_, _, _, D_CHECKS.at_, D_CHECKS.lit, He.eqO_ok (He.ba (He.ba (He.ba (He.ba (He.ba (He.ba (He.ba (He.ba (He.ba (He.ba (He.ba (He.ba (He.ba (He.ba (He.ba (He.ba (He.ba (He.ba (He.ba (He.ba (He.ba (He.ba c'.more).2).2).2).2).2).2).2).2).2).2).2).2).2).2).2).2).2).2).2).2).2).1, rfl⟩,
    d_CHECKS_7 := ⟨_, _, _, D_CHECKS.at_, D_CHECKS.lit, He.eqO_ok (He.ba (He.ba (He.ba (He.ba (He.ba (He.ba (He.ba (He.ba (He.ba (He.ba (He.ba (He.ba (He.ba (He.ba (He.ba (He.ba (He.ba (He.ba (He.ba (He.ba (He.ba (He.ba (He.ba c'.more).2).2).2).2).2).2).2).2).2).2).2).2).2).2).2).2).2).2).2).2).2).2).1, rfl⟩,
    d_CHECKS_8 := ⟨_, _, _, D_CHECKS.at_, D_CHECKS.lit, He.eqO_ok (He.ba (He.ba (He.ba (He.ba (He.ba (He.ba (He.ba (He.ba (He.ba (He.ba (He.ba (He.ba (He.ba (He.ba (He.ba (He.ba (He.ba (He.ba (He.ba (He.ba (He.ba (He.ba (He.ba (He.ba c'.more).2).2).2).2).2).2).2).2).2).2).2).2).2).2).2).2).2).2).2).2).2).2).2).1, rfl⟩,
    d_CHECKS_9 := ⟨_, _, _, D_CHECKS.at_, D_CHECKS.lit, He.eqO_ok (He.ba (He.ba (He.ba (He.ba (He.ba (He.ba (He.ba (He.ba (He.ba (He.ba (He.ba (He.ba (He.ba (He.ba (He.ba (He.ba (He.ba (He.ba (He.ba (He.ba (He.ba (He.ba (He.ba (He.ba (He.ba c'.more).2).2).2).2).2).2).2).2).2).2).2).2).2).2).2).2).2).2).2).2).2).2).2).2).1, rfl⟩,
    d_CHECKS_10 := ⟨_, _, _, D_CHECKS.at_, D_CHECKS.lit, He.eqO_ok (He.ba (He.ba (He.ba (He.ba (He.ba (He.ba (He.ba (He.ba (He.ba (He.ba (He.ba (He.ba (He.ba (He.ba (He.ba (He.ba (He.ba (He.ba (He.ba (He.ba (He.ba (He.ba (He.ba (He.ba (He.ba (He.ba c'.more).2).2).2).2).2).2).2).2).2).2).2).2).2).2).2).2).2).2).2).2).2).2).2).2).2).1, rfl⟩,
    d_CHECKS_11 := ⟨_, _, _, D_CHECKS.at_, D_CHECKS.lit, He.eqO_ok (He.ba (He.ba (He.ba (He.ba (He.ba (He.ba (He.ba (He.ba (He.ba (He.ba (He.ba (He.ba (He.ba (He.ba (He.ba (He.ba (He.ba (He.ba (He.ba (He.ba (He.ba (He.ba (He.ba (He.ba (He.ba (He.ba (He.ba c'.more).2).2).2).2).2).2).2).2).2).2).2).2).2).2).2).2).2).2).2).2).2).2).2).2).2).2).1, rfl⟩,
    d_CHECKS_12 := ⟨_, _, _, D_CHECKS.at_, D_CHECKS.lit, He.eqO_ok (He.ba (He.ba (He.ba (He.ba (He.ba (He.ba (He.ba (He.ba (He.ba (He.ba (He.ba (He.ba (He.ba (He.ba (He.ba (He.ba (He.ba (He.ba (He.ba (He.ba (He.ba (He.ba (He.ba (He.ba (He.ba (He.ba (He.ba (He.ba c'.more).2).2).2).2).2).2).2).2).2).2).2).2).2).2).2).2).2).2).2).2).2).2).2).2).2).2).2).1, rfl⟩,
    d_CHECKS_13 := ⟨_, _, _, D_CHECKS.at_, D_CHECKS.lit, He.eqO_ok (He.ba (He.ba (He.ba (He.ba (He.ba (He.ba (He.ba (He.ba (He.ba (He.ba (He.ba (He.ba (He.ba (He.ba (He.ba (He.ba (He.ba (He.ba (He.ba (He.ba (He.ba (He.ba (He.ba (He.ba (He.ba (He.ba (He.ba (He.ba (He.ba c'.more).2).2).2).2).2).2).2).2).2).2).2).2).2).2).2).2).2).2).2).2).2).2).2).2).2).2).2).2).1, rfl⟩,
    d_CHECKS_14 := ⟨_, _, _, D_CHECKS.at_, D_CHECKS.lit, He.eqO_ok (He.ba (He.ba (He.ba (He.ba (He.ba (He.ba (He.ba (He.ba (He.ba (He.ba (He.ba (He.ba (He.ba (He.ba (He.ba (He.ba (He.ba (He.ba (He.ba (He.ba (He.ba (He.ba (He.ba (He.ba (He.ba (He.ba (He.ba (He.ba (He.ba (He.ba c'.more).2).2).2).2).2).2).2).2).2).2).2).2).2).2).2).2).2).2).2).2).2).2).2).2).2).2).2).2).2).1, rfl⟩ }
  have e := hfa.symm.trans (He.glo_ok X G (c.fact 43 (f := .glo "law") rfl))
  cases e
  have b := FunD.bindsA (ps := ["_law_script"]) F_law fun _ _ _ _ _ _ us hl => match us, hl with | [_], _ => rfl
  refine ⟨d_law, tf.map (He.cT K), sp_law T, fun p hp => ?_, fun p hp => ?_, fun p hp => ?_, fun s v => b s [v] rfl, fun H a ns hl _ hH hS => ⟨a, ns, rfl, hS, hl, fun _ => rfl⟩, fun base _ _ hTB => ok_law F_law T  DT⟩
  · obtain ⟨q, hq, rfl⟩ := List.mem_map.mp hp
    exact c'.empty q hq
  · obtain ⟨q, hq, rfl⟩ := List.mem_map.mp hp
    exact c'.out q hq
  · obtain ⟨q, hq, rfl⟩ := List.mem_map.mp hp
    exact PySem.W.codeHd_of_K X (c'.hd q hq)
end Th
open PySem PySem.W PySem.Calls PyProof.Rows
set_option maxHeartbeats 0 in
theorem PySem.Challenge.cw_throughlines_k21_papers_faults_holds : PySem.Challenge.rw_throughlines_k21_papers_faults.Holds := by
  w_on; o_law
  refine HandSHeadRun.head_any (r := OpenLaw.row PySem.Challenge.rw_throughlines_k21_papers_faults) (q := view (OpenLaw.row PySem.Challenge.rw_throughlines_k21_papers_faults).prog [57]) (H := Th.hk) (ob := Th.ob) (M := 2000) (loose := Th.loose) (d := HandSHeadRun.topDef (OpenLaw.row PySem.Challenge.rw_throughlines_k21_papers_faults).prog 57) (kwd := []) Th.ob_eq
    (by kernel_rfl) (fun s => by kernel_rfl) Th.run (by kernel_rfl) (by kernel_rfl) (by kernel_rfl) (by rfl) (by first | assumption | decide +kernel) (by decide +kernel) ⟨rfl, rfl, rfl, rfl, rfl, by decide +kernel⟩ ?hw ?hc
  case hw => w_witness2
  case hc =>
    refine LamX.walk_ofTsE (l := PySem.Challenge.rw_throughlines_k21_papers_faults) (n := 63) (k := 8) (x := "_law_script") (CX := fun _ => L2.CX0) rfl (by decide) (by kernel_rfl) ⟨rfl, by decide, by decide⟩ ?F (fun _ _ _ _ _ z => z)
    intro w mg fa h Y G hmg0
    obtain ⟨K, KX, c⟩ := Y
    have hmg : mg ("law" : PySem.Str) = some (.ref fa) := by
      have e : (HandSHeadRun.topDef (OpenLaw.row PySem.Challenge.rw_throughlines_k21_papers_faults).prog 57).name = ("law" : PySem.Str) := by kernel_rfl
      rw [← e]
      exact hmg0
    exact ⟨K, KX, Th.facts KX G hmg c⟩
