import PyProof.Rows.All
import Wide.All
import OpenK.AllK
import Wide.FinOn
import KE.KStateDown
import Lean
import HandS.ForMost
import HandS.More
import HandS.WordsExc
import HandS.Defaults
import HandS.IsInst
import HandS.Zip
import HandS.Walk
import HandS.Wide
import HandS.Flow
import HandS.Evl
import HandS.Strs
import HandS.SetFor
import HandS.DictComp
import HandS.Set
import HandS.SetBool
import KE.DatumOrd
import HandS.TupAny
import HandS.Codes
import KE.KDictPairs
import KE.SortData
import KE.KDictZip
import KE.KItemsList
import HandS.Lambda
import KE.GoesZip
import KE.GoesMore
import KE.GoesEnum
import KE.GoesEnumKw
import HandS.Dict
import KE.KDictLaws
import KE.DataCmp
import KE.LtSeq
import KE.DataAny
import HandS.Deep
import HandS.Text
import PyProof.Rows.IntBool
import KE.KExcSuper
import HandS.ExcInit
import HandS.ExcField
import HandS.ExcSuper
import HandS.FStr
import HandS.HeadWalk
import HandS.HeadHook1
import KE.KExcIs
import HandS.ExcIs
import HandS.TryMany
import KE.SortKeyHeap
import KE.KLam
import HandS.Conv
import HandS.EndTab
import HandS.HeadHook4
import HandS.Style
import HandS.DictTup
import HandS.WideBits
import HandS.Head0
import HandS.Head1
import HandS.Head2
import HandS.HeadEnd
import HandS.HeadHook2
import PySem.Challenge.RW_throughlines_k38_looker_refuses
set_option Elab.async false
set_option linter.all false
set_option maxRecDepth 100000
set_option maxHeartbeats 4000000
namespace Th
open PySem PySem.Spec PyProof.Rows L2
/-! heaps -/
theorem same_upd {H : Hp} {p : Addr} {o : HO} (h : H p = none) : Same H (upd H p o) := fun b x e => by
  rw [upd_ne (ne_of_none e h)]
  exact e
/-- all but p stays -/
def Keep (p : Addr) (H H' : Hp) : Prop := ∀ b o, b ≠ p → H b = some o → H' b = some o
theorem Keep.refl (p : Addr) (H : Hp) : Keep p H H := fun _ _ _ h => h
theorem Keep.trans {p : Addr} {H H1 H2 : Hp} (a : Keep p H H1) (b : Keep p H1 H2) : Keep p H H2 := fun c o n h => b c o n (a c o n h)
theorem Keep.of {p : Addr} {H H1 : Hp} (a : Same H H1) : Keep p H H1 := fun c o _ h => a c o h
theorem Keep.upd {p : Addr} {H : Hp} {o : HO} : Keep p H (upd H p o) := fun c o n h => by rw [upd_ne n]; exact h
/-- the bag of draws at p -/
def Bag (H : Hp) (p : Addr) : Prop := ∃ g r : Int, H p = some (.lst [.int g, .int r]) ∧ 0 ≤ g ∧ 0 ≤ r ∧ r < 2147483648
theorem Bag.keep {H H' : Hp} {p : Addr} (b : Bag H p) (s : Same H H') : Bag H' p := by
  obtain ⟨g, r, e, h⟩ := b
  exact ⟨g, r, s _ _ e, h⟩
theorem Bag.some {H : Hp} {p : Addr} (b : Bag H p) : ∃ o, H p = Option.some o := by
  obtain ⟨g, r, e, _⟩ := b
  exact ⟨_, e⟩
theorem Bag.ne {H : Hp} {p q : Addr} (b : Bag H p) (h : H q = none) : q ≠ p := by
  obtain ⟨g, r, e, _⟩ := b
  exact (ne_of_none e h).symm
theorem p8 : (0 : Int) < 8 := by decide
theorem pA : (0 : Int) < 2147483647 := by decide
theorem pB : (0 : Int) < 2147483629 := by decide
theorem primes_at (i : Nat) : ∃ pr : Int, atI [V.int 2147483629, .int 2147483587, .int 2147483579, .int 2147483563, .int 2147483549, .int 2147483543, .int 2147483497, .int 2147483489] ((i : Int) % 8) = some (.int pr) ∧ 0 < pr ∧ pr < 2147483648 := by
  have e : ((i : Int) % 8) = ((i % 8 : Nat) : Int) := by omega
  rw [e]
  have h : i % 8 < 8 := Nat.mod_lt _ (by decide)
  generalize i % 8 = j at h
  have c : j = 0 ∨ j = 1 ∨ j = 2 ∨ j = 3 ∨ j = 4 ∨ j = 5 ∨ j = 6 ∨ j = 7 := by omega
  rcases c with rfl | rfl | rfl | rfl | rfl | rfl | rfl | rfl
  all_goals exact ⟨_, atI_nat rfl, by decide, by decide⟩
def sp_bag (K : PySem.W.Frag) : Sp := fun vs H Q _ => ∃ (a : Addr) (ns : List Int) (i : Nat), vs = [.ref a, .int i] ∧ SqL K H a (ns.map V.int) ∧ i < 1000000 ∧ ∀ H' p, Same H H' → H p = none → Bag H' p → Q (.ref p) H'
def sp_take : Sp := fun vs H Q _ => ∃ (p : Addr) (m : Int), vs = [.ref p, .int m] ∧ Bag H p ∧ 0 < m ∧ m < 1073741824 ∧ ∀ H' d, Keep p H H' → Bag H' p → 0 ≤ d → d < m → Q (.int d) H'
/-! data that is tracked, at addresses of which S holds -/
mutual
inductive Dt (S : Addr → Prop) (H : Hp) : V → PyData → Prop
  | non : Dt S H .non .none
  | bl (b : Bool) : Dt S H (.bl b) (.bool b)
  | int (i : Int) : Dt S H (.int i) (.int i)
  | str (x : Str) : Dt S H (.str x) (.str x)
  | lst {a : Addr} {xs : List V} {ds : List PyData} : S a → H a = some (.lst xs) → xs.length ≤ 5000 → DtAll S H xs ds → Dt S H (.ref a) (.list ds)
  | tup {a : Addr} {xs : List V} {ds : List PyData} : S a → H a = some (.tup xs) → xs.length ≤ 5000 → DtAll S H xs ds → Dt S H (.ref a) (.tuple ds)
inductive DtAll (S : Addr → Prop) (H : Hp) : List V → List PyData → Prop
  | nil : DtAll S H [] []
  | cons {v : V} {vs : List V} {d : PyData} {ds : List PyData} : Dt S H v d → DtAll S H vs ds → DtAll S H (v :: vs) (d :: ds)
end
mutual
theorem Dt.mono {S S' : Addr → Prop} {H H' : Hp} (hS : ∀ a, S a → S' a) (hh : ∀ a o, S a → H a = some o → H' a = some o) : ∀ {v : V} {d : PyData}, Dt S H v d → Dt S' H' v d
  | _, _, .non => .non
  | _, _, .bl b => .bl b
  | _, _, .int b => .int b
  | _, _, .str b => .str b
  | _, _, .lst s e l r => .lst (hS _ s) (hh _ _ s e) l (DtAll.mono hS hh r)
  | _, _, .tup s e l r => .tup (hS _ s) (hh _ _ s e) l (DtAll.mono hS hh r)
theorem DtAll.mono {S S' : Addr → Prop} {H H' : Hp} (hS : ∀ a, S a → S' a) (hh : ∀ a o, S a → H a = some o → H' a = some o) : ∀ {v : List V} {d : List PyData}, DtAll S H v d → DtAll S' H' v d
  | _, _, .nil => .nil
  | _, _, .cons a r => .cons (Dt.mono hS hh a) (DtAll.mono hS hh r)
end
mutual
theorem Dt.dp {K : PySem.W.Frag} {S : Addr → Prop} {H : Hp} : ∀ {v : V} {d : PyData}, Dt S H v d → Dp K H v d
  | _, _, .non => .non
  | _, _, .bl b => .bl b
  | _, _, .int b => .int b
  | _, _, .str b => .str b
  | _, _, .lst s e l r => .lst (SqL.of e) (DtAll.dp r)
  | _, _, .tup s e l r => .tup (SqT.of e) (DtAll.dp r)
theorem DtAll.dp {K : PySem.W.Frag} {S : Addr → Prop} {H : Hp} : ∀ {v : List V} {d : List PyData}, DtAll S H v d → DpAll K H v d
  | _, _, .nil => .nil
  | _, _, .cons a r => .cons (Dt.dp a) (DtAll.dp r)
end
abbrev SA : Addr → Prop := fun _ => True
theorem Dt.same {H H' : Hp} {v : V} {d : PyData} (s : Same H H') (h : Dt SA H v d) : Dt SA H' v d := h.mono (fun _ x => x) fun a o _ e => s a o e
theorem DtAll.same {H H' : Hp} {v : List V} {d : List PyData} (s : Same H H') (h : DtAll SA H v d) : DtAll SA H' v d := h.mono (fun _ x => x) fun a o _ e => s a o e
theorem DtAll.len {S : Addr → Prop} {H : Hp} : ∀ {v : List V} {d : List PyData}, DtAll S H v d → v.length = d.length
  | _, _, .nil => rfl
  | _, _, .cons _ r => congrArg Nat.succ r.len
theorem DtAll.get {S : Addr → Prop} {H : Hp} : ∀ {v : List V} {d : List PyData} {i : Nat} {x : V}, DtAll S H v d → v[i]? = some x → ∃ e, d[i]? = some e ∧ Dt S H x e
  | _, _, _, _, .nil, h => by simp at h
  | _, _, 0, _, .cons a r, h => by
    have e := Option.some.inj h
    subst e
    exact ⟨_, rfl, a⟩
  | _, _, i + 1, _, .cons a r, h => r.get (i := i) h
/-! depth, what may be laid -/
theorem depth_mem : ∀ {ds : List PyData} {i : Nat} {d : PyData}, ds[i]? = some d → PyData.depth d ≤ PyData.depthAll ds
  | [], _, _, h => by simp at h
  | x :: xs, 0, d, h => by
    have e := Option.some.inj h
    subst e
    rw [PyData.depthAll]
    exact Nat.le_max_left _ _
  | x :: xs, i + 1, d, h => by
    rw [PyData.depthAll]
    exact Nat.le_trans (depth_mem (i := i) h) (Nat.le_max_right _ _)
theorem lay_mem : ∀ {ds : List PyData} {i : Nat} {d : PyData}, PyData.canLayAll0 ds = true → ds[i]? = some d → PyData.canLay0 d = true
  | [], _, _, _, h => by simp at h
  | x :: xs, 0, d, c, h => by
    have e := Option.some.inj h
    subst e
    rw [PyData.canLayAll0, Bool.and_eq_true_iff] at c
    exact c.1
  | x :: xs, i + 1, d, c, h => by
    rw [PyData.canLayAll0, Bool.and_eq_true_iff] at c
    exact lay_mem (i := i) c.2 h
/-! the types -/
def tyN : PyData → String
  | .none => "NoneType"
  | .bool _ => "bool"
  | .int _ => "int"
  | .str _ => "str"
  | .list _ => "list"
  | .tuple _ => "tuple"
  | .dict _ => "dict"
theorem Dt.ty {K : PySem.W.Frag} {S : Addr → Prop} {H : Hp} {v : V} {d : PyData} (h : Dt S H v d) : TyX K H v (.type (tyN d)) := by
  cases h with
  | non => exact .base .non
  | bl b => exact .base (.bl b)
  | int b => exact .base (.int b)
  | str b => exact .base (.str b)
  | lst s e l r => exact .base (.lst e)
  | tup s e l r => exact .base (.tup e)
def isB : PyData → Bool
  | .bool _ => true
  | _ => false
def isSeq : PyData → Bool
  | .list _ => true
  | .tuple _ => true
  | _ => false
theorem kit_bool {K : PySem.W.Frag} {S : Addr → Prop} {H : Hp} {v : V} {d : PyData} (h : Dt S H v d) : PySem.W.kitOne K (.type (tyN d)) (.type "bool") = some (isB d) := by
  cases h with
  | non => exact kit_ty (a := "NoneType") (b := "bool") (r := false) (by decide +kernel)
  | bl b => exact kit_ty (a := "bool") (b := "bool") (r := true) (by decide +kernel)
  | int b => exact kit_ty (a := "int") (b := "bool") (r := false) (by decide +kernel)
  | str b => exact kit_ty (a := "str") (b := "bool") (r := false) (by decide +kernel)
  | lst s e l r => exact kit_ty (a := "list") (b := "bool") (r := false) (by decide +kernel)
  | tup s e l r => exact kit_ty (a := "tuple") (b := "bool") (r := false) (by decide +kernel)
theorem kit2 {K : PySem.W.Frag} {n : String} (h1 : kitB n "list" = some false) (h2 : kitB n "tuple" = some false) : PySem.W.kitAny K (.type n) [.type "list", .type "tuple"] = some false :=
  kitAny_cons (b := false) (kit_ty h1) (fun _ => kitAny_cons (b := false) (kit_ty h2) (fun _ => kitAny_nil) (fun z => nomatch z)) (fun z => nomatch z)
theorem kit_seq {K : PySem.W.Frag} {S : Addr → Prop} {H : Hp} {v : V} {d : PyData} (h : Dt S H v d) : PySem.W.kitAny K (.type (tyN d)) [.type "list", .type "tuple"] = some (isSeq d) := by
  cases h with
  | non => exact kit2 (n := "NoneType") (by decide +kernel) (by decide +kernel)
  | bl b => exact kit2 (n := "bool") (by decide +kernel) (by decide +kernel)
  | int b => exact kit2 (n := "int") (by decide +kernel) (by decide +kernel)
  | str b => exact kit2 (n := "str") (by decide +kernel) (by decide +kernel)
  | lst s e l r => exact kitAny_cons (b := true) (kit_ty (a := "list") (by decide +kernel)) (fun z => nomatch z) (fun _ => rfl)
  | tup s e l r => exact kitAny_cons (b := false) (kit_ty (a := "tuple") (by decide +kernel)) (fun _ => kitAny_cons (b := true) (kit_ty (a := "tuple") (by decide +kernel)) (fun z => nomatch z) (fun _ => rfl)) (fun z => nomatch z)
/-! zip of two tuples, walked -/
theorem walk_zipT {K : PySem.W.Frag} {a b : Addr} {xs ys : List V} {n : Nat} (hn : n = min xs.length ys.length) : Walk (RZ.ItzT K a b) n (fun H => SqT K H a xs ∧ SqT K H b ys) (YPair (fun i => xs[i]?) (fun i => ys[i]?)) := by
  subst hn
  refine ⟨fun i _ hi q => ?_, fun _ q => ⟨xs, ys, q.1, q.2, by omega⟩, fun i H v H' _ q y => ?_⟩
  · have h1 : i < xs.length := by omega
    have h2 : i < ys.length := by omega
    exact ⟨xs, ys, xs[i], ys[i], q.1, q.2, by simp [h1], by simp [h2]⟩
  · obtain ⟨T, x, z, h1, h2, h3, h4, h5⟩ := y
    exact ⟨T, x, z, h1, h2, h3, h4 xs q.1, h5 ys q.2⟩
theorem yes_ {σ : L2.St} {H : Hp} {A B : Hp → Prop} (h : A H) : tYes σ H fun b H3 => if b = true then A H3 else B H3 := by
  show if true = true then A H else B H
  exact iteT h
theorem small5000 {n : Nat} (h : n ≤ 5000) : n < sizeLine := Nat.lt_of_le_of_lt h (by decide)
/-- told and due are the same data, of a depth below n: True -/
def sp_like (n : Nat) : Sp := fun vs H Q _ => ∃ (v u : V) (d : PyData), vs = [v, u] ∧ Dt SA H v d ∧ Dt SA H u d ∧ d.canLay0 = true ∧ d.depth < n ∧ n ≤ 60 ∧ ∀ H', Same H H' → Q (.bl true) H'
/-- xs[i] read for an augmented store, i from 0 on -/
theorem get_listN {X : Cx} : PGet X (fun o i H Q => ∃ (p : Addr) (xs : List V) (j : Nat) (v : V), o = .ref p ∧ i = .int j ∧ H p = some (.lst xs) ∧ xs[j]? = some v ∧ Q v H) := by
  intro pins s σ H o i ov iv Q I ro ri h
  obtain ⟨p, xs, j, v, rfl, rfl, hp, hx, q⟩ := h
  cases (show ov = Value.ref p from ro)
  obtain ⟨t, rfl⟩ := ri
  obtain ⟨its, r, pl, hz⟩ := I.list (SqL.of hp)
  obtain ⟨u, eu, ru⟩ := r.get hx
  have hj : j < xs.length := (List.getElem?_eq_some_iff.mp hx).1
  have h63 := line63
  exact wpAny_getItem_list pl.isList (by omega) (by omega) (by simpa using eu) ⟨v, H, I, ru, q⟩
/-- the d-th of some whole numbers -/
theorem pick {ms : List Int} {d : Int} (h0 : 0 ≤ d) (h1 : d < ms.length) : ∃ m ∈ ms, atI (ms.map V.int) d = some (.int m) := by
  obtain ⟨j, rfl⟩ : ∃ j : Nat, d = (j : Int) := ⟨d.toNat, by omega⟩
  have hj : j < ms.length := by omega
  refine ⟨ms[j], List.getElem_mem hj, atI_nat ?_⟩
  rw [List.getElem?_map, List.getElem?_eq_getElem hj]
  rfl
theorem Bag.at {H H' : Hp} {p : Addr} (b : Bag H p) (e : H' p = H p) : Bag H' p := by
  obtain ⟨g, r, h, k⟩ := b
  exact ⟨g, r, e.trans h, k⟩
theorem Keep.new {p q : Addr} {H H' : Hp} {o : HO} (k : Keep p H H') (n : H' q = none) : Keep p H (L2.upd H' q o) := k.trans (.of (same_upd n))
theorem Keep.free {p q : Addr} {H H' : Hp} (k : Keep p H H') (b : Bag H p) (h : H' q = none) (b' : Bag H' p) : H q = none := by
  cases e : H q with
  | none => rfl
  | some o =>
    by_cases z : q = p
    · rw [z] at h
      obtain ⟨g, r, e', _⟩ := b'
      rw [e'] at h
      cases h
    · rw [k q o z e] at h
      cases h
theorem rep_one {α : Type} (x : α) (m : Nat) : (List.replicate m [x]).flatten = List.replicate m x := by
  induction m with
  | zero => rfl
  | succ m ih => rw [List.replicate_succ, List.flatten_cons, ih, List.replicate_succ]; rfl
/-! lists of whole numbers as data -/
abbrev dI (zs : List Int) : PyData := .list (zs.map PyData.int)
theorem dtAll_ints {S : Addr → Prop} {H : Hp} : ∀ zs : List Int, DtAll S H (zs.map V.int) (zs.map PyData.int)
  | [] => .nil
  | z :: zs => .cons (.int z) (dtAll_ints zs)
theorem dt_ints {H : Hp} {x : Addr} {zs : List Int} (h : H x = some (.lst (zs.map V.int))) (hl : zs.length ≤ 5000) : Dt SA H (.ref x) (dI zs) := .lst trivial h (by rw [List.length_map]; exact hl) (dtAll_ints zs)
theorem layAll_ints : ∀ zs : List Int, PyData.canLayAll0 (zs.map PyData.int) = true
  | [] => rfl
  | z :: zs => by rw [List.map_cons, PyData.canLayAll0, layAll_ints zs]; rfl
theorem lay_ints (zs : List Int) : (dI zs).canLay0 = true := layAll_ints zs
theorem depthAll_ints : ∀ zs : List Int, PyData.depthAll (zs.map PyData.int) = 0
  | [] => rfl
  | z :: zs => by rw [List.map_cons, PyData.depthAll, depthAll_ints zs]; rfl
theorem depth_ints (zs : List Int) : (dI zs).depth = 1 := by
  show PyData.depthAll (zs.map PyData.int) + 1 = 1
  rw [depthAll_ints]
theorem shaped_ints (zs : List Int) : SeqAt.shaped (dI zs) = true := Bool.and_eq_true_iff.mpr ⟨lay_ints zs, decide_eq_true (by rw [depth_ints]; decide)⟩
theorem eqv_ints (zs : List Int) : PyData.eqv (dI zs) (dI zs) = true := SeqAt.eqv_refl _ (lay_ints zs)
/-! len by a reading that names K -/
def rLenS (K : PySem.W.Frag) : List V → Hp → VK → Prop := fun xs H Q => ∃ (p : Addr) (ys : List V), xs = [.ref p] ∧ (SqL K H p ys ∨ SqT K H p ys) ∧ Q (.int ys.length) H
theorem call_lenS {X : Cx} : CallR X (.builtin "len") (rLenS X.K) := call_len_seq
theorem nn_sum : ∀ {ws : List Int}, (∀ w ∈ ws, 0 ≤ w) → 0 ≤ ws.sum
  | [], _ => by simp
  | w :: ws, h => by
    have h1 := h w (List.mem_cons_self ..)
    have h2 := nn_sum (ws := ws) fun x hx => h x (List.mem_cons_of_mem _ hx)
    rw [List.sum_cons]
    omega
theorem pos_sum : ∀ {ws : List Int} {j : Nat} {x : Int}, (∀ w ∈ ws, 0 ≤ w) → ws[j]? = some x → 0 < x → 0 < ws.sum
  | [], _, _, _, h, _ => by simp at h
  | w :: ws, 0, x, hw, h, hx => by
    have e : w = x := Option.some.inj h
    have h2 := nn_sum (ws := ws) fun x hx => hw x (List.mem_cons_of_mem _ hx)
    rw [List.sum_cons]
    omega
  | w :: ws, j + 1, x, hw, h, hx => by
    have h1 := hw w (List.mem_cons_self ..)
    have h2 := pos_sum (ws := ws) (j := j) (x := x) (fun x hx => hw x (List.mem_cons_of_mem _ hx)) h hx
    rw [List.sum_cons]
    omega
theorem cut_ints (ws : List Int) (lo hi : Option Int) : ∃ ys : List Int, cutV (ws.map V.int) lo hi = ys.map V.int := by
  unfold cutV
  exact ⟨(ws.drop _).take _, by rw [List.map_take, List.map_drop]⟩
end Th
namespace Sl
open PySem PySem.Spec PyProof.Rows L2
/-- the object of a set just made -/
abbrev set0 (w : World) : Obj := { cls := .type "set", dict := none, data := .set #[] 0 (.fresh 0 0 (!w.params.followText "set-order")) }
section
variable {P : Program} {w : World} {A : Around} {E : Value → Shared → Prop} {s : Shared}
set_option maxHeartbeats 8000000 in
/-- set(xs) of a list of whole numbers -/
theorem set_of_ints {l : Addr} {its : Array Value} (ns : List Int) {Q : Value → Shared → Prop} (nh : A.handled = none) (il : s.heap.IsList l its) (ii : IntsAre its.toList ns) (nb : ns.length + 1 < scanBound)
    (fin : ∀ (g : Heap) (tk c : Nat), SetR w g s.heap.objs.size (fun j => decide (j ∈ ns)) c → c ≤ ns.length → (∀ b o, s.heap.get? b = some o → g.get? b = some o) → Q (.ref s.heap.objs.size) { s with heap := g, toks := tk }) :
    wpAny (model P w) A (call (.type "set") [.ref l]) Q E s := by
  have isz : its.size = ns.length := by
    have z := IntsAre.length ii
    rwa [Array.length_toList] at z
  obtain ⟨_, _, mro⟩ := F.called_set.mro
  have m1 := F.called_set.made
  have m2 := F.called_set.sub
  have m3 := F.called_set.notType
  have m4 := F.called_set.canCreate
  have m5 := F.typeCall_set_1 (.ref l)
  refine wpAny_call (codeAny_of_tree (?_ : wpAny _ _ (callAny (.type "set") _) _ _ _))
  refine wpAny_pure ⟨Code.quiet_builtin _ (by decide +kernel), codeAny_builtin F.entry_type_call ?_⟩
  rw [Around.under_plain (weight_type_call_type "set" [.ref l] []) rfl]
  repeat (any_goals (first | assumption | wp_step))
  refine codeAny_mono (code_set_led1 (.ref l) (E := E) (Q₁ := fun ob z => ob = .ref s.heap.objs.size ∧ z = { s with heap := s.heap.push (set0 w) }) ⟨rfl, rfl⟩) fun r z hz => ?_
  cases r with
  | error e => exact hz
  | ok fl =>
    cases fl with
    | ret ob =>
      obtain ⟨rfl, rfl⟩ := hz
      have zS : (s.heap.push (set0 w)).get? s.heap.objs.size = some (set0 w) := Heap.get?_push_size _ rfl
      have zT : Shared.TypeIs { s with heap := s.heap.push (set0 w) } (.ref s.heap.objs.size) "set" := ⟨_, zS, rfl⟩
      have n1 := F.called_set.init.lookup
      have n2 := F.called_set.init.bind (.ref s.heap.objs.size)
      repeat (any_goals (first | assumption | wp_step))
      refine codeAny_mono (codeAny_call_builtin (R := wants (fun r z => r = .none ∧ ∃ g tk c, z = { s with heap := g, toks := tk } ∧ SetR w g s.heap.objs.size (fun j => decide (j ∈ ns)) c ∧ c ≤ ns.length ∧ ∀ b o, s.heap.get? b = some o → g.get? b = some o) E)
        F.called_set.init.plain F.entry_set_init (check_set_init_1 zT ?_)) fun r2 z2 hz2 => ?_
      · obtain ⟨⟨oc, od, odt, osl⟩, ol, c1, nl, c2⟩ := il
        simp only at c1 c2
        subst c1 c2
        have ol2 : (s.heap.push (set0 w)).get? l = some { cls := .type "list", dict := od, data := .seq its nl, slots := osl } := Heap.get?_push_of_some _ ol
        have k1 := F.sub_list_set
        have k2 := F.sub_list_frozenset
        have k3 : (Value.type "list" == Value.type "dict") = false := by decide
        have il2 : (s.heap.push (set0 w)).IsList l its := ⟨_, ol2, rfl, nl, rfl⟩
        unfold Builtin.«set.__init__» noKeywords Builtin.Frozenset.updateFrom
        generalize ePI : pyIter = PI
        wp_walk
        subst ePI
        refine wpAny_pyIter_list il2 (wpAny_bind (wpAny_runValue ?_))
        have lS : l < s.heap.objs.size := Heap.lt_size ol
        have h3 : A.in1.in1.in1.handled = none := by simp [nh]
        have nI : l ≠ (s.heap.push (set0 w)).objs.size := by
          rw [Heap.size_push]
          exact Nat.ne_of_lt (Nat.lt_succ_of_lt lS)
        have nf : s.heap.objs.size ∉ [(s.heap.push (set0 w)).objs.size, l] := by
          rw [Heap.size_push]
          simp only [List.mem_cons, List.not_mem_nil, or_false, not_or]
          exact ⟨Nat.ne_of_lt (Nat.lt_succ_self _), Nat.ne_of_gt lS⟩
        have vl : ∀ (i : Nat) (v : Value), its[i]? = some v → ∃ k t, ns[i]? = some k ∧ v = .int k t := fun i v hv => by
          have hi : i < ns.length := by rw [← isz]; exact (Array.getElem?_eq_some_iff.mp hv).1
          obtain ⟨t, e⟩ := IntsAre.int_at ii i v (by rw [Array.getElem?_toList]; exact hv)
          refine ⟨ns[i], t, List.getElem?_eq_getElem hi, ?_⟩
          rw [e, List.getD_eq_getElem?_getD, List.getElem?_eq_getElem hi] <;> rfl
        refine set_update_ints ((Walks.list h3 _ l nI its).toS) s.heap.objs.size nf ns isz nb vl (its.size - 0) 0 _ (by omega) (Nat.zero_le _) ⟨⟨_, Heap.get?_push_size _ rfl, rfl, rfl⟩, il2.push _⟩ ?zStart ?zEnd
        case zStart => exact ⟨0, Nat.le_refl 0, setR_new_at (Heap.get?_push_of_some _ zS)⟩
        case zEnd =>
          intro z c hm hc hS
          obtain ⟨g, gg, dd, tk, os⟩ := z
          have e1 : gg = s.gens := hm.gens
          have e2 : dd = s.drawn := hm.drawn
          have e3 : os = s.os := hm.os
          subst e1 e2 e3
          refine wpAny_pure (?_ : wpAny _ _ (ret Value.none) _ _ _)
          rw [isz] at hc
          refine wpAny_pure ⟨rfl, g, tk, c, rfl, hS, hc, fun b o e => ?_⟩
          have b0 : b < s.heap.objs.size := Heap.lt_size e
          refine hm.heap b o ?_ (Heap.get?_push_of_some _ (Heap.get?_push_of_some _ e))
          rw [Heap.size_push]
          simp only [List.mem_cons, List.not_mem_nil, or_false, not_or]
          exact ⟨Nat.ne_of_lt b0, Nat.ne_of_lt (Nat.lt_succ_of_lt b0)⟩
      · cases r2 with
        | error e => exact hz2
        | ok f2 =>
          cases f2 with
          | ret r =>
            obtain ⟨rfl, g, tk, c, rfl, q1, q2, q3⟩ := hz2
            repeat (any_goals (first | assumption | wp_step))
            exact fin _ _ _ q1 q2 q3
          | _ => exact hz2.elim
    | _ => exact hz.elim
end
def rSetI (K : PySem.W.Frag) (w : World) : List V → Hp → VK → Prop := fun xs H Q => ∃ (l : Addr) (ns : List Int), xs = [.ref l] ∧ SqL K H l (ns.map V.int) ∧ ns.length ≤ 1000 ∧ ∀ p c, H p = none → c ≤ ns.length → Q (.ref p) (upd H p (SetO w p (fun j => decide (j ∈ ns)) c))
theorem call_setI {X : Cx} (hc : X.calm = true) : CallR X (.type "set") (rSetI X.K X.w) := by
  intro pins s σ H xs us Q I r h
  obtain ⟨l, ns, rfl, hs, hl, q⟩ := h
  rw [Vals.ref1 r]
  obtain ⟨its, rv, pl, hz⟩ := I.list hs
  refine set_of_ints ns (I.ok.hd hc) pl.isList (ints_of_vals rv) (by unfold scanBound; omega) fun g tk c R hcn k => ?_
  exact ⟨.ref _, _, I.laid (t' := tk) k (Nat.le_refl _) (setO_new R), rfl, q _ c (I.hok.fresh (Nat.le_refl _)) hcn⟩
end Sl
/-! y = {k: v for .. in ..}, y a local name of a def -/
namespace Ds
open PySem PySem.Spec PyProof.Rows L2
section
variable {X : Cx}
theorem ps_setDc {i : Nat} {y : Str} {py : Pos} {kx vx tg iter : Expr} {ifs : List Expr} {scope : Scope} {own : List (Str × Nat)} {pos spos : Pos} {wi : TI} {g : TG} {tt : TT} {tk tv : TE} (hc : X.calm = true) (hN : X.N.Nodup) (hy : X.N[i]? = some y) (hyl : X.env.scope.names.lookup y = some .local)
    (hsw : swapsWith (.DictComp kx vx [⟨tg, iter, ifs, 0⟩] scope pos) (some (.Name y py)) spos.line X.env = pure true) (hi : PI X tg iter wi) (ok : BlkOk X.N X.env.scope scope own)
    (hg : ∀ (s : Shared) (H : Hp) (C : Addr) (cl : List (Str × Addr)) (fp : List Addr), PG (X.blk s H scope (compEnvC scope cl C X.env) fp) tg g) (ht : ∀ (s : Shared) (H : Hp) (C : Addr) (cl : List (Str × Addr)) (fp : List Addr), PTs (X.blk s H scope (compEnvC scope cl C X.env) fp) ifs tt)
    (hk : ∀ (s : Shared) (H : Hp) (C : Addr) (cl : List (Str × Addr)) (fp : List Addr), PE (X.blk s H scope (compEnvC scope cl C X.env) fp) kx tk)
    (he : ∀ (s : Shared) (H : Hp) (C : Addr) (cl : List (Str × Addr)) (fp : List Addr), PE (X.blk s H scope (compEnvC scope cl C X.env) fp) vx tv) (hs : ∀ x, foldedSetIterable iter X.env x = pure x := by intro _; rfl) :
    PS X (.Assign [.Name y py] (.DictComp kx vx [⟨tg, iter, ifs, 0⟩] scope pos) spos) (tAsg (tDc wi g tt tk tv (own.map (·.2))) (gName i)) := by
  refine ⟨fun pins s σ H D I h => ?_⟩
  rw [exec_Assign_Name_used _ _ _ _ hsw]
  refine wpAny_bind (wpAny_standAt (wpAny_bind ?_))
  show wpAny _ X.A (do let _ ← comprehension (.DictComp kx vx [⟨tg, iter, ifs, 0⟩] scope pos) scope X.env (firstIterPos [⟨tg, iter, ifs, 0⟩] pos) newDict false (eval iter X.env) (some (assign (.Name y py) X.env))) _ _ s
  have h : tDc wi g tt tk tv (own.map (·.2)) σ H (fun x H1 => gName i x σ H1 D.nx) := h
  refine wpAny_bind (thn (dc_core (Qf := fun _ s' => SP X pins D .next s') hc hN I hi ok hg ht hk he hs h fun L C s' m H' I' q hn f => ?_) fun _ s' hq => wpAny_pure (wpAny_pure hq))
  show wpAny _ _ (assign (.Name y py) X.env (.ref L)) _ _ _
  refine wpAny_assign_Name (store_ok2 (v := V.ref L) I' hN hy (.inl hyl) rfl (fun s2 I2 ⟨a, sb, ha⟩ => ?_) (.inr hyl))
  obtain ⟨f0, f1, f2, f3, f4, f5⟩ := f
  have haC : C ≠ a := by
    rcases ha with z | z
    · rw [z]; exact f1
    · exact fun e => f4 y a z e.symm
  refine ⟨m, hn.sameBut sb haC, fun h3 sb3 => ?_⟩
  exact ⟨_, H', I2.turned (t' := s2.toks) (fun b o hb e => (sb3.2 b hb).trans e) f0 f1 f3 f4 f5, q⟩
theorem sw_trueD {kx vx : Expr} {gs : List Comprehension} {scope : Scope} {pos py : Pos} {y : Str} {l : Nat} {env : Env} (hk : env.scope.kind = .function) (hy : env.scope.names.lookup y = some .local) (hl : (py.line == pos.line) = true)
    (ha : (scope.names.any fun (n, k) => n == y && (k == .local || k == .cell)) = false) : swapsWith (.DictComp kx vx gs scope pos) (some (.Name y py)) l env = pure true := by
  have ky : env.kindOf y = some .local := hy
  have hb : env.blockKind = .function := by unfold Env.blockKind; rw [hk]; rfl
  unfold swapsWith
  simp only [hb, ky, ha, Expr.pos, hl]
  rfl
end
end Ds
/-! sets of texts: their members as a list; a comprehension of two clauses; sorted of it -/
namespace Ss
open PySem PySem.Spec PyProof.Rows L2
def kOf (e : Int × Value) : Str := match e.2 with
  | .str k _ => k
  | _ => ⟨#[]⟩
def Gd (w : World) (e : Int × Value) : Prop := ∃ k tk, e.2 = Value.str k tk ∧ e.1 = hashStr w k
def addL (L : List Str) (k : Str) : List Str := if k ∈ L then L else k :: L
theorem mem_addL {L : List Str} {k x : Str} : x ∈ addL L k ↔ x = k ∨ x ∈ L := by
  unfold addL
  split
  · exact ⟨.inr, fun z => z.elim (fun e => by rw [e]; assumption) id⟩
  · exact List.mem_cons
theorem nd_addL {L : List Str} {k : Str} (h : L.Nodup) : (addL L k).Nodup := by
  unfold addL
  split
  · exact h
  · exact List.nodup_cons.mpr ⟨by assumption, h⟩
abbrev Led (w : World) (t : SetTable) : Prop := w.params.followText "set-order" = true ∨ t.led = true
/-- the set of texts at a, its members the list L -/
def SetS (w : World) (h : Heap) (a : Addr) (L : List Str) : Prop := ∃ o es ep t, h.get? a = some o ∧ o.ExactSet ∧ o.data = .set es ep t ∧ (∀ e ∈ es.toList, Gd w e) ∧ (es.toList.map kOf).Perm L ∧ L.Nodup ∧ es.size < scanBound ∧ t.fits es.size = true ∧ Ris t.place.toList ∧ Led w t
section
variable {P : Program} {w : World} {A : Around} {E : Value → Shared → Prop} {s : Shared} {a : Addr} {L : List Str} {h h' : Heap}
theorem isS (k : Str) (u : Tok) : (PySem.strKind P w).is k (.str k u) = true := by show Value.isStrOf k (.str k u) = true; simp [Value.isStrOf]
theorem SetS.at (R : SetS w h a L) (k : ∀ o, h.get? a = some o → h'.get? a = some o) : SetS w h' a L := let ⟨o, es, ep, t, ho, r⟩ := R; ⟨o, es, ep, t, k o ho, r⟩
theorem gd_elems {l : List (Int × Value)} (g : ∀ e ∈ l, Gd w e) : ElemsOf (PySem.strKind P w) l := fun e he => let ⟨k, tk, h1, h2⟩ := g e he; ⟨⟨k, h1 ▸ isS k tk, h2⟩, by rw [h1]; rfl⟩
theorem gd_is {e : Int × Value} (g : Gd w e) (k : Str) : (PySem.strKind P w).is k e.2 = true ↔ kOf e = k := by
  obtain ⟨k0, tk, h1, -⟩ := g
  have ek : kOf e = k0 := by unfold kOf; rw [h1]
  rw [ek, h1]
  constructor
  · intro z
    obtain ⟨t, et⟩ := Value.isStrOf_shape (x := k) (v := .str k0 tk) z
    injection et
  · intro z
    rw [z]
    exact isS k tk
theorem gd_mem {l : List (Int × Value)} (g : ∀ e ∈ l, Gd w e) (k : Str) : k ∈ l.map kOf ↔ ∃ e ∈ l, (PySem.strKind P w).is k e.2 = true :=
  ⟨fun z => let ⟨e, he, q⟩ := List.mem_map.mp z; ⟨e, he, (gd_is (g e he) k).2 q⟩, fun ⟨e, he, q⟩ => List.mem_map.mpr ⟨e, he, (gd_is (g e he) k).1 q⟩⟩
theorem SetS.len (R : SetS w h a L) : ∀ {o es ep t}, h.get? a = some o → o.data = .set es ep t → es.size = L.length := by
  obtain ⟨o', es', ep', t', ho', _, hd', _, pm, _⟩ := R
  intro o es ep t ho hd
  rw [ho'] at ho
  cases ho
  rw [hd'] at hd
  cases hd
  have z := pm.length_eq
  rw [List.length_map, Array.length_toList] at z
  exact z
theorem SetS.setOf (R : SetS w h a L) : h.SetOf (PySem.strKind P w) a (fun k => decide (k ∈ L)) L.length := by
  have hlen := @SetS.len _ _ _ _ R
  obtain ⟨o, es, ep, t, ho, hx, hd, g, pm, nd, hb, hf, -⟩ := R
  exact ⟨o, es, ep, t, ho, hx, hd, gd_elems g, fun k => by rw [decide_eq_true_eq, ← pm.mem_iff]; exact gd_mem g k, hb, hf, hlen ho hd⟩
theorem putS {o : Obj} {es es' : Array (Int × Value)} {ep : Nat} {t t' : SetTable} (ho : h.get? a = some o) (hd : o.data = .set es ep t) : (h.update a (Obj.putSet es' t')).get? a = some { o with data := .set es' (ep + 1) t' } := by
  have z := Heap.get?_update_self (Obj.putSet es' t') ho (by rw [putSet_of es' t' hd]; rfl)
  rwa [putSet_of es' t' hd] at z
/-- the store behind an add, with the table laid anew where it is too full -/
theorem tailS {g : Bool → Sem Unit} (hg : ∀ (b : Bool) (s1 : Shared) (Q1 : Unit → Shared → Prop), Q1 () s1 → wpAny (model P w) A (g b) Q1 E s1) {o : Obj} {es : Array (Int × Value)} {ep : Nat} {t : SetTable} (ho : s.heap.get? a = some o) (hex : o.ExactSet) (hd : o.data = .set es ep t)
    {fs : Array (Int × Value)} {u : SetTable} {M : List Str} (gf : ∀ e ∈ fs.toList, Gd w e) (pf : (fs.toList.map kOf).Perm M) (nf : M.Nodup) (bf : fs.size < scanBound) (ff : u.fits fs.size = true) (rf : Ris u.place.toList) (lf : Led w u) {dm : Bool} {R : Option Bool → Shared → Prop}
    (hR : ∀ h', Heap.SameBut a s.heap h' → SetS w h' a M → R (some true) { s with heap := h' }) :
    wpAny (model P w) A (do
        storeSet a fs u
        if (!dm && u.tooFull) = true then do
            g (relayAll u fs (SetTable.grown fs.size)).2.2
            storeSet a (relayAll u fs (SetTable.grown fs.size)).1 (relayAll u fs (SetTable.grown fs.size)).2.1
            pure (some true)
          else pure (some true)) R E s := by
  refine wpAny_bind (wpAny_storeSet_of ho hd ?_ (fits_of_scanBound bf))
  have h1 := putS (es' := fs) (t' := u) ho hd
  have b1 := Heap.SameBut.update s.heap a (Obj.putSet fs u)
  split
  · have pm := relayAll_perm u fs (SetTable.grown fs.size)
    have f3 := relayAll_fits u fs (SetTable.grown fs.size)
    have r3 := relayAll_ris u fs (SetTable.grown fs.size)
    have l3 := relayAll_led u fs (SetTable.grown fs.size)
    generalize relayAll u fs (SetTable.grown fs.size) = Z at pm f3 r3 l3 ⊢
    obtain ⟨gs, v, gave⟩ := Z
    dsimp only at pm f3 r3 l3 ⊢
    have hz : gs.size = fs.size := by
      have z := pm.length_eq
      rwa [Array.length_toList, Array.length_toList] at z
    have bg : gs.size < scanBound := hz ▸ bf
    refine wpAny_bind (hg _ _ _ (wpAny_bind (wpAny_storeSet_of h1 rfl ?_ (fits_of_scanBound bg))))
    have h2 := putS (es' := gs) (t' := v) h1 rfl
    exact wpAny_pure (hR _ (b1.trans (Heap.SameBut.update _ a _)) ⟨_, gs, _, v, h2, hex, rfl, fun e he => gf e (pm.mem_iff.mp he), (pm.map kOf).trans pf, nf, bg, f3, r3, lf.imp id fun z => l3.trans z⟩)
  · exact wpAny_pure (hR _ b1 ⟨_, fs, _, u, h1, hex, rfl, gf, pf, nf, bf, ff, rf, lf⟩)
theorem addS_hashed {k : Str} {tk : Tok} {Q : Bool → Shared → Prop} (R : SetS w s.heap a L) (room : L.length + 1 < scanBound)
    (hQ : ∀ h' b, Heap.SameBut a s.heap h' → SetS w h' a (addL L k) → Q b { s with heap := h' }) : wpAny (model P w) A (setAddHashed a (.str k tk) ((PySem.strKind P w).hash k)) Q E s := by
  have hlen := @SetS.len _ _ _ _ R
  obtain ⟨o, es, ep, t, ho, hex, hd, g, pmL, nd, hb, hf, hr, hl⟩ := R
  have hn : es.size = L.length := hlen ho hd
  have hsc : (Value.str k tk).scannable = true := rfl
  have hel : ElemsOf (PySem.strKind P w) es.toList := gd_elems g
  unfold setAddHashed setAddHashedIn
  refine wpAny_holding (wpAny_bind (wpAny_setState_of ho hd hf ?_))
  dsimp only
  rw [byScan_of hsc hb hel]
  simp only [↓reduceIte]
  unfold setAddByScan
  refine wpAny_bind (wpAny_bind (wpAny_rule (wpAny_bind (wpAny_setScan_of (isS k tk) ho hd hf hel ?_))))
  cases hfi : List.findIdx? (fun e => (PySem.strKind P w).is k e.2) es.toList with
  | some j =>
    dsimp only
    obtain ⟨hj, pj, -⟩ := List.findIdx?_eq_some_iff_getElem.mp hfi
    have hk : k ∈ L := pmL.mem_iff.mp ((gd_mem (P := P) g k).2 ⟨es.toList[j], List.getElem_mem hj, pj⟩)
    have eL : addL L k = L := by unfold addL; rw [if_pos hk]
    exact wpAny_pure (wpAny_pure (hQ s.heap _ (Heap.SameBut.refl a s.heap) ⟨o, es, ep, t, ho, hex, hd, g, by rw [eL]; exact pmL, nd_addL nd, hb, hf, hr, hl⟩))
  | none =>
    dsimp only
    have hk : k ∉ L := fun z => by
      obtain ⟨e, he, q⟩ := (gd_mem (P := P) g k).1 (pmL.mem_iff.mpr z)
      have c := List.findIdx?_eq_none_iff.mp hfi e he
      rw [q] at c
      cases c
    have eL : addL L k = k :: L := by unfold addL; rw [if_neg hk]
    have pm := layNew_perm t es ((PySem.strKind P w).hash k) (.str k tk)
    have f1 := layNew_fits t es ((PySem.strKind P w).hash k) (.str k tk)
    have r1 := layNew_ris t es ((PySem.strKind P w).hash k) (.str k tk) hr
    have l1 := layNew_led t es ((PySem.strKind P w).hash k) (.str k tk)
    generalize layNew t es ((PySem.strKind P w).hash k) (.str k tk) = Z at pm f1 r1 l1 ⊢
    obtain ⟨fs, u, dm, gave⟩ := Z
    dsimp only at pm f1 r1 l1 ⊢
    rw [Array.toList_push] at pm
    have pc : fs.toList.Perm (((PySem.strKind P w).hash k, Value.str k tk) :: es.toList) := pm.trans (List.perm_append_singleton _ _)
    have pf : (fs.toList.map kOf).Perm (addL L k) := by rw [eL]; exact (pc.map kOf).trans (pmL.cons k)
    have gf : ∀ e ∈ fs.toList, Gd w e := fun e he => (List.mem_cons.mp (pc.mem_iff.mp he)).elim (fun z => z ▸ ⟨k, tk, rfl, rfl⟩) (g e)
    have hz : fs.size = L.length + 1 := by rw [← Array.length_toList, pc.length_eq, List.length_cons, Array.length_toList, hn]
    have bf : fs.size < scanBound := hz ▸ room
    have lf : Led w u := hl.imp id fun z => l1.trans z
    have gw : ∀ (b : Bool) (s1 : Shared) (Q1 : Unit → Shared → Prop), Q1 () s1 → wpAny (model P w) A (match b with | true => rule "set.scan.the-table-gave-way" | false => pure ()) Q1 E s1 :=
      fun b s1 Q1 z => by cases b <;> first | exact wpAny_pure z | exact wpAny_rule z
    refine wpAny_bind (gw _ _ _ ?_)
    split
    · refine wpAny_bind ?_
      rw [hashByValue_scannable 8 hsc]
      refine wpAny_pure ?_
      refine tailS ?_ ho hex hd gf pf (nd_addL nd) bf ?_ ?_ ?_ fun h' sb r => by dsimp only; exact wpAny_pure (hQ h' _ sb r)
      · intro b s1 Q1 z; cases b <;> first | exact wpAny_pure z | exact wpAny_rule z
      · first | (split <;> first | exact f1 | exact SetTable.fits_plain_off f1) | exact f1
      · first | (split <;> exact r1) | exact r1
      · first | (split <;> exact lf) | exact lf
    · refine wpAny_bind (wpAny_pure ?_)
      simp only [↓reduceIte]
      refine tailS ?_ ho hex hd gf pf (nd_addL nd) bf f1 r1 lf ?_
      · intro b s1 Q1 z; cases b <;> first | exact wpAny_pure z | exact wpAny_rule z
      · intro h' sb r; dsimp only; exact wpAny_pure (hQ h' _ sb r)
theorem addS {k : Str} {tk : Tok} {Q : Value → Shared → Prop} (R : SetS w s.heap a L) (room : L.length + 1 < scanBound)
    (hQ : ∀ h', Heap.SameBut a s.heap h' → SetS w h' a (addL L k) → Q .none { s with heap := h', toks := s.toks + 1 }) : wpAny (model P w) A (call (.builtin "set.add") [.ref a, .str k tk]) Q E s := by
  have hS : s.heap.SetOf (PySem.strKind P w) a (fun k => decide (k ∈ L)) L.length := R.setOf
  refine wpAny_call_entry F.slot_set_add hS.typeIs F.entry_set_add ?_ (F.args_set_add_2 _ _)
  unfold Builtin.«set.add» Builtin.Frozenset.oneOther
  simp only [List.isEmpty_nil, bind_assoc]
  unfold Builtin.Frozenset.addrOf setAdd
  refine wpAny_bind (wpAny_pure ?_)
  try dsimp only
  refine wpAny_bind (wpAny_pure ?_)
  try dsimp only
  refine wpAny_bind (wpAny_holding (wpAny_bind ((PySem.strKind P w).pyHash (isS k tk) ?_)))
  refine addS_hashed (s := { s with toks := s.toks + 1 }) R room fun h' b sb r => ?_
  show wpAny _ _ (ret Value.none) _ _ _
  exact wpAny_pure ⟨_, rfl, hQ h' sb r⟩
end
/-! a comprehension of two clauses -/
abbrev SC2 (elt t0 i0 t1 i1 : Expr) (f0 f1 : List Expr) (sc : Scope) (pos : Pos) : Expr := .SetComp elt [⟨t0, i0, f0, 0⟩, ⟨t1, i1, f1, 0⟩] sc pos
abbrev Tests (prog : Program) (w : World) (A : Around) (fs : List Expr) (env : Env) (Q : Bool → Shared → Prop) (E : Value → Shared → Prop) (s : Shared) : Prop :=
  wpAny (model prog w) A (forIn fs true fun c r => if r = true then do let ok ← isTrue c env (eval c env); pure (ForInStep.yield ok) else pure (ForInStep.yield r)) Q E s
section
variable {prog : Program} {w : World} {A : Around} {R : Result → Shared → Prop} {s : Shared} {elt t0 i0 t1 i1 : Expr} {f0 f1 : List Expr} {sc : Scope} {pos : Pos} {it acc : Value} {env : Env}
theorem turnOut : compTurn (SC2 elt t0 i0 t1 i1 f0 f1 sc pos) 0 it acc env = (do
      standAt i0.pos
      match ← pyNext it with
      | none => pure (.done .next)
      | some v =>
        letOwnedTupleGo t0 it v
        assign t0 env v
        let mut ok := true
        for c in f0 do
          if ok then ok ← isTrue c env (eval c env)
        if ok then
          let x ← eval i1 env
          standAt i1.pos
          let x ← foldedSetIterable i1 env x
          let _ ← runOwn (.compStart (SC2 elt t0 i0 t1 i1 f0 f1 sc pos) 1 (← holding [x] (pyIter x)) acc env) env
        again (.compLoop (SC2 elt t0 i0 t1 i1 f0 f1 sc pos) 0 it acc env)) := by rfl
theorem turnIn : compTurn (SC2 elt t0 i0 t1 i1 f0 f1 sc pos) 1 it acc env = (do
      standAt i1.pos
      match ← pyNext it with
      | none => pure (.done .next)
      | some v =>
        letOwnedTupleGo t1 it v
        assign t1 env v
        let mut ok := true
        for c in f1 do
          if ok then ok ← isTrue c env (eval c env)
        if ok then
          (do let v ← eval elt env; standAt elt.pos; let _ ← call (.builtin "set.add") [acc, v])
        again (.compLoop (SC2 elt t0 i0 t1 i1 f0 f1 sc pos) 1 it acc env)) := by rfl
abbrev Er (prog : Program) (w : World) (A : Around) (env : Env) (R : Result → Shared → Prop) : Value → Shared → Prop := notedBy (model prog w) A env fun e s' => R (.error e) s'
theorem loopOut (hs : ∀ x, foldedSetIterable i1 env x = pure x) (I : Nat → Shared → Prop)
    (turn : ∀ n s, I n s → wpAny (model prog w) A (pyNext it) (fun r s1 => match r with
      | none => R (.ok .next) s1
      | some v => wpAny (model prog w) A (letOwnedTupleGo t0 it v) (fun _ s2 => wpAny (model prog w) A (assign t0 env v) (fun _ s3 => Tests prog w A f0 env (fun ok s4 =>
            if ok = true then wpAny (model prog w) A (eval i1 env) (fun x s5 => wpAny (model prog w) A (pyIter x) (fun it1 s6 => codeAny (model prog w) A (.compStart (SC2 elt t0 i0 t1 i1 f0 f1 sc pos) 1 it1 acc env) (fun r s' => match r with
                | .ok _ => ∃ m, m < n ∧ I m s'
                | .error _ => False) s6) (Er prog w A env R) s5) (Er prog w A env R) s4
            else ∃ m, m < n ∧ I m s4) (Er prog w A env R) s3) (Er prog w A env R) s2) (Er prog w A env R) s1) (Er prog w A env R) s) (n : Nat) (h : I n s) :
    codeAny (model prog w) A (.compLoop (SC2 elt t0 i0 t1 i1 f0 f1 sc pos) 0 it acc env) R s := by
  refine codeAny_loop rfl I (fun n s hI => ?_) n h
  show wpAny _ A ((compTurn (SC2 elt t0 i0 t1 i1 f0 f1 sc pos) 0 it acc env).onRaise (fun x => do noteFrame x env; theTreesLotGoes x)) _ _ s
  refine wpAny_noted ?_
  rw [turnOut]
  refine wpAny_bind (wpAny_standAt (wpAny_bind (wpAny_mono (turn n s hI) (fun r s1 h1 => ?_) fun _ _ z => z)))
  cases r with
  | none => exact wpAny_pure h1
  | some v =>
    refine wpAny_bind (wpAny_mono h1 (fun _ s2 h2 => wpAny_bind (wpAny_mono h2 (fun _ s3 h3 => wpAny_bind (wpAny_mono h3 (fun ok s4 h4 => ?_) fun _ _ z => z)) fun _ _ z => z)) fun _ _ z => z)
    cases ok with
    | false => exact wpAny_pure ⟨rfl, h4⟩
    | true =>
      refine wpAny_bind (wpAny_mono h4 (fun x s5 h5 => wpAny_bind (wpAny_standAt (wpAny_bind (wpAny_of_eq (hs x) (wpAny_bind (wpAny_holding (wpAny_mono h5 (fun it1 s6 h6 => ?_) fun _ _ z => z))))))) fun _ _ z => z)
      refine wpAny_bind (wpAny_runOwn ?_)
      rw [Around.mark_none]
      refine codeAny_mono h6 fun r s' hr => ?_
      cases r with
      | ok f => first | exact wpAny_pure ⟨rfl, hr⟩ | exact wpAny_bind (wpAny_pure (wpAny_pure ⟨rfl, hr⟩))
      | error e => exact hr.elim
theorem loopIn (I : Nat → Shared → Prop)
    (turn : ∀ n s, I n s → wpAny (model prog w) A (pyNext it) (fun r s1 => match r with
      | none => R (.ok .next) s1
      | some v => wpAny (model prog w) A (letOwnedTupleGo t1 it v) (fun _ s2 => wpAny (model prog w) A (assign t1 env v) (fun _ s3 => Tests prog w A f1 env (fun ok s4 =>
            if ok = true then wpAny (model prog w) A (eval elt env) (fun x s5 => wpAny (model prog w) A (call (.builtin "set.add") [acc, x]) (fun _ s6 => ∃ m, m < n ∧ I m s6) (Er prog w A env R) s5) (Er prog w A env R) s4
            else ∃ m, m < n ∧ I m s4) (Er prog w A env R) s3) (Er prog w A env R) s2) (Er prog w A env R) s1) (Er prog w A env R) s) (n : Nat) (h : I n s) :
    codeAny (model prog w) A (.compLoop (SC2 elt t0 i0 t1 i1 f0 f1 sc pos) 1 it acc env) R s := by
  refine codeAny_loop rfl I (fun n s hI => ?_) n h
  show wpAny _ A ((compTurn (SC2 elt t0 i0 t1 i1 f0 f1 sc pos) 1 it acc env).onRaise (fun x => do noteFrame x env; theTreesLotGoes x)) _ _ s
  refine wpAny_noted ?_
  rw [turnIn]
  refine wpAny_bind (wpAny_standAt (wpAny_bind (wpAny_mono (turn n s hI) (fun r s1 h1 => ?_) fun _ _ z => z)))
  cases r with
  | none => exact wpAny_pure h1
  | some v =>
    refine wpAny_bind (wpAny_mono h1 (fun _ s2 h2 => wpAny_bind (wpAny_mono h2 (fun _ s3 h3 => wpAny_bind (wpAny_mono h3 (fun ok s4 h4 => ?_) fun _ _ z => z)) fun _ _ z => z)) fun _ _ z => z)
    cases ok with
    | false => exact wpAny_pure ⟨rfl, h4⟩
    | true => exact wpAny_bind (wpAny_bind (wpAny_mono h4 (fun x s5 h5 => wpAny_bind (wpAny_standAt (wpAny_bind (wpAny_mono h5 (fun _ s6 h6 => wpAny_pure (wpAny_pure ⟨rfl, h6⟩)) fun _ _ z => z)))) fun _ _ z => z))
theorem startIn (h0 : codeAny (model prog w) A (.compLoop (SC2 elt t0 i0 t1 i1 f0 f1 sc pos) 1 it acc env) R s)
    (h : wpAny (model prog w) A (pyIter it) (fun it' s' => codeAny (model prog w) A (.compLoop (SC2 elt t0 i0 t1 i1 f0 f1 sc pos) 1 it' acc env) R s') (Er prog w A env R) s) :
    codeAny (model prog w) A (.compStart (SC2 elt t0 i0 t1 i1 f0 f1 sc pos) 1 it acc env) R s := by
  refine codeAny_of_tree ?_
  show wpAny _ _ ((compStart (SC2 elt t0 i0 t1 i1 f0 f1 sc pos) 1 it acc env).onRaise (fun x => do noteFrame x env; standAt theWindowsPlace)) _ _ s
  refine wpAny_notedAt ?_
  unfold compStart
  show wpAny _ _ (ask >>= _) _ _ s
  refine wpAny_bind (wpAny_askSetting (wpAny_ite ?_))
  split
  · first | exact wpAny_bind (wpAny_pure (wpAny_pure (And.intro rfl h0))) | exact wpAny_pure (And.intro rfl h0)
  · first
      | exact wpAny_bind (wpAny_rule (wpAny_bind (wpAny_standAt (wpAny_bind (wpAny_mono h (fun it' s' z => wpAny_pure (And.intro rfl z)) fun _ _ z => z)))))
      | (refine wpAny_bind (wpAny_rule ?_); show wpAny _ _ (standAt i1.pos >>= _) _ _ s; exact wpAny_bind (wpAny_standAt (wpAny_bind (wpAny_mono h (fun it' s' z => wpAny_pure (And.intro rfl z)) fun _ _ z => z))))
end
/-! as a tracked thing -/
def SetSO (w : World) (a : Addr) (L : List Str) : HO := .ext fun h => SetS w h a L
theorem setSO_new {w : World} {P : Program} {H : Hp} {h : Heap} {a : Addr} {L : List Str} (R : SetS w h a L) : ObjOk P w H h a (SetSO w a L) := let ⟨o, _, _, _, ho, _⟩ := id R; ⟨R, ⟨o, ho⟩, fun h1 h2 p k => SetS.at p k⟩
abbrev emptySet (w : World) : Obj := { cls := .type "set", dict := none, data := .set #[] 0 (.fresh 0 0 (!w.params.followText "set-order")) }
theorem setS_fresh {h : Heap} (w : World) : SetS w (h.push (emptySet w)) h.objs.size [] :=
  ⟨_, #[], 0, _, Heap.get?_push_size _ rfl, ⟨rfl, rfl, rfl⟩, rfl, (fun e he => by simp at he), (by simp), .nil, (by decide), (by rfl), List.Pairwise.nil, by
    show _ ∨ (!w.params.followText "set-order") = true
    cases w.params.followText "set-order"
    · exact .inr rfl
    · exact .inl rfl⟩
section
variable {X : Cx}
theorem setSO_get {pins : List (Addr × Obj)} {σ : L2.St} {H : Hp} {s : Shared} {a : Addr} {L : List Str} (I : Inv X pins σ H s) (ha : H a = some (SetSO X.w a L)) : SetS X.w s.heap a L := (I.hok a _ ha).1
theorem addS_ok {pins : List (Addr × Obj)} {σ : L2.St} {H : Hp} {s : Shared} {E : Value → Shared → Prop} {D : Addr} {L : List Str} {y : Str} {u : Tok} {Q : Value → Shared → Prop} (I : Inv X pins σ H s) (hD : H D = some (SetSO X.w D L)) (room : L.length + 1 < scanBound)
    (h : ∀ s', Inv X pins σ (upd H D (SetSO X.w D (addL L y))) s' → Q .none s') : wpAny (model X.prog X.w) X.A (call (.builtin "set.add") [.ref D, .str y u]) Q E s :=
  addS (setSO_get I hD) room fun h' sb new => h _ (I.write (e := D) (t' := s.toks + 1) (by rw [hD]; trivial) (.inl rfl) (fun b o hb e => (sb.2 b hb).trans e) (let ⟨o, _, _, _, ho, _⟩ := id new; ⟨o, ho⟩) (setSO_new new))
/-- {elt for tg in iter if .. for tg1 in iter1 if ..}, elt a text: D the new set -/
def tSc2 (w : World) (wi : TI) (g : TG) (tt : TT) (wi1 : TI) (g1 : TG) (tt1 : TT) (te : TE) (vs vs1 : List Nat) : TE := fun σ H Q => wi σ H fun J H1 => ∀ D, H1 D = none → ∃ W : Nat → Nat → Hp → Prop, (∃ m, W 0 m (upd H1 D (SetSO w D []))) ∧ ∀ i m H, W i m H →
  (J.stop i H ∧ Q (.ref D) H) ∨ (J.go i H ∧ ∃ Nx : Hp → Prop, (∀ H', Nx H' → ∃ m', m' < m ∧ W (i + 1) m' H') ∧ ∀ x H', J.yld i H x H' → g x (wipe σ vs) H' fun σ2 H2 => wipe σ2 vs = wipe σ vs ∧ tt σ2 H2 fun b H3 =>
    if b = true then wi1 σ2 H3 fun J1 H4 => ∃ W1 : Nat → Nat → Hp → Prop, (∃ m, W1 0 m H4) ∧ ∀ j k H, W1 j k H →
      (J1.stop j H ∧ Nx H) ∨ (J1.go j H ∧ ∃ Nx1 : Hp → Prop, (∀ H', Nx1 H' → ∃ k', k' < k ∧ W1 (j + 1) k' H') ∧ ∀ x H', J1.yld j H x H' → g1 x (wipe σ2 vs1) H' fun σ3 H5 => wipe σ3 vs1 = wipe σ2 vs1 ∧ tt1 σ3 H5 fun b H6 =>
        if b = true then te σ3 H6 fun y H7 => ∃ k L, y = .str k ∧ H7 D = some (SetSO w D L) ∧ L.length + 1 < scanBound ∧ Nx1 (upd H7 D (SetSO w D (addL L k))) else Nx1 H6)
    else Nx H3)
abbrev Blk (X : Cx) (sc : Scope) (s : Shared) (H : Hp) (C : Addr) (cl : List (PySem.Str × Addr)) (fp : List Addr) : Cx := X.blk s H sc (compEnvC sc cl C X.env) fp
theorem sc2_core {pins : List (Addr × Obj)} {s : Shared} {σ : L2.St} {H : Hp} {Q : VK} {elt tg iter tg1 iter1 : Expr} {ifs ifs1 : List Expr} {sc : Scope} {own : List (PySem.Str × Nat)} {vs1 : List Nat} {pos pos' : Pos} {wi wi1 : TI} {g g1 : TG} {tt tt1 : TT} {te : TE} {use : Option (Value → Sem Unit)} {Qf : Value → Shared → Prop}
    (hc : X.calm = true) (hN : X.N.Nodup) (I : Inv X pins σ H s) (hi : PI X tg iter wi) (ok : BlkOk X.N X.env.scope sc own) (hv : ∀ i ∈ vs1, i ∈ own.map (·.2))
    (hg : ∀ s H C cl fp, PG (Blk X sc s H C cl fp) tg g) (ht : ∀ s H C cl fp, PTs (Blk X sc s H C cl fp) ifs tt) (he : ∀ s H C cl fp, PE (Blk X sc s H C cl fp) elt te) (hs : ∀ x, foldedSetIterable iter X.env x = pure x)
    (hi1 : ∀ s H C cl fp, PI (Blk X sc s H C cl fp) tg1 iter1 wi1) (hg1 : ∀ s H C cl fp, PG (Blk X sc s H C cl fp) tg1 g1) (ht1 : ∀ s H C cl fp, PTs (Blk X sc s H C cl fp) ifs1 tt1) (hs1 : ∀ env x, foldedSetIterable iter1 env x = pure x)
    (h : tSc2 X.w wi g tt wi1 g1 tt1 te (own.map (·.2)) vs1 σ H Q)
    (hRR : ∀ D C s' m H', Inv X pins σ H' s' → Q (.ref D) H' → s'.heap.Ns C m → FpOk X pins H' C → compPost (model X.prog X.w) X.A X.xe use Qf (.ref D) C (.ok .next) s') :
    wpAny (model X.prog X.w) X.A (comprehension (SC2 elt tg iter tg1 iter1 ifs ifs1 sc pos) sc X.env pos' (newSet (.type "set")) false (eval iter X.env) use) Qf X.xe s := by
  have hfree : ∀ y ∈ sc.names, y.2 = .free → ∃ c, X.env.cells.lookup y.1 = some c := fun y hy e => (ok.free y hy e).elim (fun k => I.ok.has _ (.inl k)) fun k => I.ok.has _ (.inr k)
  refine wpAny_comprehension_free (use := use) rfl hs (closure_ok hfree) ok.kind (fun y hy e => by rw [ok.uniq y hy, e]) (thn (hi.run pins s σ H _ I h) fun xv s1 hx => thn hx fun itv s2 h2 => ?_)
  obtain ⟨it, fp, tn, J, H2, e, I2, T, st2, f2, q⟩ := h2
  subst e
  refine PpSet.newSet_ok (newEnv_comp ?_)
  generalize hD : s2.heap.objs.size = D
  have hDn : H2 D = none := I2.hok.fresh (Nat.le_of_eq hD)
  obtain ⟨W, ⟨m0, w0⟩, turn⟩ := q D hDn
  generalize hs3 : ({ s2 with heap := s2.heap.push (emptySet X.w) } : Shared) = s3
  have I3 : Inv X pins σ (upd H2 D (SetSO X.w D [])) s3 := by
    rw [← hs3]
    exact I2.laid (t' := s2.toks) (fun b o e => Heap.get?_push_of_some _ e) (Nat.le_of_eq hD) (hD ▸ setSO_new (setS_fresh X.w))
  have h3 : s3.heap = s2.heap.push (emptySet X.w) := by rw [← hs3]
  have sz : ∀ b ∈ fp, b < s2.heap.objs.size := fun b hb => let ⟨o, e, _⟩ := T.obj _ _ st2 b hb; Heap.lt_size e
  have f3 : ∀ b ∈ fp, FpOk X pins (upd H2 D (SetSO X.w D [])) b ∧ b < s3.heap.objs.size := fun b hb =>
    ⟨⟨by rw [upd_ne (by rw [← hD]; exact Nat.ne_of_lt (sz b hb))]; exact (f2 b hb).1, (f2 b hb).2⟩, by rw [h3, Heap.size_push]; exact Nat.lt_succ_of_lt (sz b hb)⟩
  have st3 : tn 0 s3.heap := T.keep _ _ _ st2 fun b _ o e => by rw [h3]; exact Heap.get?_push_of_some _ e
  have I4 := block_start I3 ok hN f3
  generalize hcl : cellsFrom (s3.heap.objs.size + 1) sc.names (cloFrom X.env.cells sc.names []) = cl at I4
  have pg : PG (X.blk s3 (upd H2 D (SetSO X.w D [])) sc (compEnvC sc cl s3.heap.objs.size X.env) fp) tg g := hg s3 _ _ cl fp
  have pt : PTs (X.blk s3 (upd H2 D (SetSO X.w D [])) sc (compEnvC sc cl s3.heap.objs.size X.env) fp) ifs tt := ht s3 _ _ cl fp
  have pe : PE (X.blk s3 (upd H2 D (SetSO X.w D [])) sc (compEnvC sc cl s3.heap.objs.size X.env) fp) elt te := he s3 _ _ cl fp
  have pi1 : PI (X.blk s3 (upd H2 D (SetSO X.w D [])) sc (compEnvC sc cl s3.heap.objs.size X.env) fp) tg1 iter1 wi1 := hi1 s3 _ _ cl fp
  have pg1 : PG (X.blk s3 (upd H2 D (SetSO X.w D [])) sc (compEnvC sc cl s3.heap.objs.size X.env) fp) tg1 g1 := hg1 s3 _ _ cl fp
  have pt1 : PTs (X.blk s3 (upd H2 D (SetSO X.w D [])) sc (compEnvC sc cl s3.heap.objs.size X.env) fp) ifs1 tt1 := ht1 s3 _ _ cl fp
  show codeAny _ _ (.compStart (SC2 elt tg iter tg1 iter1 ifs ifs1 sc pos) 0 (.ref it) (.ref D) (compEnvC sc cl s3.heap.objs.size X.env)) (compPost (model X.prog X.w) X.A X.xe use Qf (.ref D) s3.heap.objs.size) { s3 with heap := pushCells (s3.heap.push { cls := .type "dict", data := .dict #[] }) sc.names }
  have nfp : ∀ b ∈ fp, (upd H2 D (SetSO X.w D [])) b = none := fun b hb => (f3 b hb).1.1
  generalize hce : compEnvC sc cl s3.heap.objs.size X.env = ce at I4 pg pt pe pi1 pg1 pt1 ⊢
  have cL : ce.locals = s3.heap.objs.size := by subst hce; rfl
  generalize hH3 : upd H2 D (SetSO X.w D []) = H3 at I3 I4 pg pt pe pi1 pg1 pt1 w0 nfp f3
  generalize hs4 : ({ s3 with heap := pushCells (s3.heap.push { cls := .type "dict", data := .dict #[] }) sc.names } : Shared) = s4 at I4 ⊢
  have st4 : tn 0 s4.heap := T.keep _ _ _ st3 fun b _ o e => by rw [← hs4]; exact pushCells_keeps _ _ _ _ (Heap.get?_push_of_some _ e)
  have stat : ∀ {σ' : L2.St} {H' : Hp} {s' : Shared}, Inv (X.blk s3 H3 sc ce fp) [] σ' H' s' → (∀ b ∈ fp, H' b = none) → ∀ b ∈ fp, FpOk (X.blk s3 H3 sc ce fp) [] H' b := fun I' hn b hb =>
    ⟨hn b hb, (I'.ok.exf b hb).1, I'.ok.exfs b hb, .inl hb, fun x c e => (I'.ok.exf b hb).2 x c e, fun p hp => absurd (show p ∈ ([] : List (Addr × Obj)) ++ [] from hp) (by simp)⟩
  have loop : codeAny (model X.prog X.w) X.A (.compLoop (SC2 elt tg iter tg1 iter1 ifs ifs1 sc pos) 0 (.ref it) (.ref D) ce) (compPost (model X.prog X.w) X.A X.xe use Qf (.ref D) s3.heap.objs.size) s4 := by
    refine loopOut (hs1 ce) (fun n s' => ∃ i H', Inv (X.blk s3 H3 sc ce fp) [] (wipe σ (own.map (·.2))) H' s' ∧ tn i s'.heap ∧ (∀ b ∈ fp, H' b = none) ∧ W i n H') ?_ m0 ⟨0, H3, I4, st4, nfp, w0⟩
    rintro n s5 ⟨i, H5, I5, st5, n5, w5⟩
    rcases turn i n H5 w5 with ⟨stop, qq⟩ | ⟨go, Nx, hNx, step⟩
    · refine thnF (T.done (X.blk s3 H3 sc ce fp) rfl rfl rfl hc i [] s5 _ H5 (fun _ _ => False) I5 (stat I5 n5) st5 stop) fun r s6 ⟨hr, I6⟩ => ?_
      subst hr
      have I7 : Inv X pins σ H5 s6 := I3.call' (ch := fp) I6.os I6.base I6.hok I6.bare fun b hb => let z := (f3 b hb).1.2; ⟨z.2.2.1, z.1, z.2.2.2.1, z.2.2.2.2⟩
      have nC : H5 s3.heap.objs.size = none := cL ▸ (show H5 ce.locals = none from I6.free)
      obtain ⟨m, hn, -⟩ := I6.loc
      exact hRR D s3.heap.objs.size s6 m H5 I7 qq (cL ▸ (show s6.heap.Ns ce.locals m from hn)) (I3.fpOk (Nat.le_refl _) nC)
    · refine thnF (T.item (X.blk s3 H3 sc ce fp) rfl rfl rfl hc i [] s5 _ H5 (fun _ _ => False) I5 (stat I5 n5) st5 go) fun r s6 ⟨u, hr, h6⟩ => ?_
      subst hr
      refine thnF h6 fun _ s7 ⟨x, H7, I7, r7, y7, st7, n7⟩ => ?_
      have I7' := I7.pinned (stat I7 n7) (T.obj _ _ st7)
      refine thnF (pg.run _ s7 _ H7 x u _ I7' r7 (step x H7 y7)) fun _ s8 ⟨σ8, H8, I8, hw8, q8⟩ => thnF (pt.run _ s8 σ8 H8 _ I8 q8) fun b s9 ⟨H9, I9, q9⟩ => ?_
      have fin : ∀ {σ9 : L2.St} {s' : Shared} {H' : Hp}, Inv (X.blk s3 H3 sc ce fp) ([] ++ pinsAt fp s7.heap) σ9 H' s' → (wipe σ (own.map (·.2))).length = σ9.length → (∀ (j : Nat) v, (wipe σ (own.map (·.2)))[j]? = some (some v) → σ9[j]? = some (some v)) → Nx H' →
          ∃ m, m < n ∧ ∃ i H', Inv (X.blk s3 H3 sc ce fp) [] (wipe σ (own.map (·.2))) H' s' ∧ tn i s'.heap ∧ (∀ b ∈ fp, H' b = none) ∧ W i m H' := fun {σ9 s' H'} I' hl hk nx => by
        obtain ⟨m', hm, w'⟩ := hNx H' nx
        have pin' : ∀ b ∈ fp, ∀ o, s7.heap.get? b = some o → s'.heap.get? b = some o ∧ H' b = none := fun b hb o e =>
          let z := I'.pin (b, o) (List.mem_append_right _ (List.mem_append_right _ (mem_pinsAt hb e))); ⟨z.1, z.2.1⟩
        exact ⟨m', hm, i + 1, H', (I'.unpinned (pins := [])).weak hl hk, T.keep _ _ _ st7 fun b hb o e => (pin' b hb o e).1, fun b hb => let ⟨o, e, _⟩ := T.obj _ _ st7 b hb; (pin' b hb o e).2, w'⟩
      have hl8 : (wipe σ (own.map (·.2))).length = σ8.length := by rw [← hw8, wipe_length]
      have hk8 : ∀ (j : Nat) v, (wipe σ (own.map (·.2)))[j]? = some (some v) → σ8[j]? = some (some v) := fun j v e => (wipe_some (hw8 ▸ e)).1
      have hk9 : ∀ (j : Nat) v, (wipe σ (own.map (·.2)))[j]? = some (some v) → (wipe σ8 vs1)[j]? = some (some v) := fun j v e => by
        rw [← hw8] at e
        rw [wipe_out fun z => (wipe_some e).2 (hv j z)]
        exact (wipe_some e).1
      cases b with
      | false => simp only [Bool.false_eq_true, if_false] at q9 ⊢; exact fin I9 hl8 hk8 q9
      | true =>
        simp only [if_true] at q9 ⊢
        refine thnF (pi1.run _ s9 σ8 H9 _ I9 q9) fun xv s10 hx => thnF hx fun itv s11 h11 => ?_
        obtain ⟨it1, fp1, tn1, J1, H11, e1, I11, T1, st11, f11, W1, ⟨m1, w1⟩, turn1⟩ := h11
        subst e1
        have stat1 : ∀ {H' : Hp}, (∀ b ∈ fp1, H' b = none) → ∀ b ∈ fp1, FpOk (X.blk s3 H3 sc ce fp) ([] ++ pinsAt fp s7.heap) H' b := fun hn b hb => ⟨hn b hb, (f11 b hb).2⟩
        have loop1 : codeAny (model X.prog X.w) X.A (.compLoop (SC2 elt tg iter tg1 iter1 ifs ifs1 sc pos) 1 (.ref it1) (.ref D) ce)
            (fun r s' => match r with
              | .ok _ => ∃ m, m < n ∧ ∃ i H', Inv (X.blk s3 H3 sc ce fp) [] (wipe σ (own.map (·.2))) H' s' ∧ tn i s'.heap ∧ (∀ b ∈ fp, H' b = none) ∧ W i m H'
              | .error _ => False) s11 := by
          refine loopIn (fun k s' => ∃ j H', Inv (X.blk s3 H3 sc ce fp) ([] ++ pinsAt fp s7.heap) (wipe σ8 vs1) H' s' ∧ tn1 j s'.heap ∧ (∀ b ∈ fp1, H' b = none) ∧ W1 j k H') ?_ m1 ⟨0, H11, I11.weak (wipe_length _ _) (fun j v e => (wipe_some e).1), st11, fun b hb => (f11 b hb).1, w1⟩
          rintro k s12 ⟨j, H12, I12, st12, n12, w12⟩
          rcases turn1 j k H12 w12 with ⟨stop1, nx1⟩ | ⟨go1, Nx1, hNx1, step1⟩
          · refine thnF (T1.done (X.blk s3 H3 sc ce fp) rfl rfl rfl hc j _ s12 (wipe σ8 vs1) H12 (fun _ _ => False) I12 (stat1 n12) st12 stop1) fun r s13 ⟨hr, I13⟩ => ?_
            subst hr
            exact fin I13 (hl8.trans (wipe_length σ8 vs1).symm) hk9 nx1
          · refine thnF (T1.item (X.blk s3 H3 sc ce fp) rfl rfl rfl hc j _ s12 (wipe σ8 vs1) H12 (fun _ _ => False) I12 (stat1 n12) st12 go1) fun r s13 ⟨u1, hr, h13⟩ => ?_
            subst hr
            refine thnF h13 fun _ s14 ⟨x1, H14, I14, r14, y14, st14, n14⟩ => ?_
            have I14' := I14.pinned (stat1 n14) (T1.obj _ _ st14)
            refine thnF (pg1.run _ s14 (wipe σ8 vs1) H14 x1 u1 _ I14' r14 (step1 x1 H14 y14)) fun _ s15 ⟨σ15, H15, I15, hw15, q15⟩ => thnF (pt1.run _ s15 σ15 H15 _ I15 q15) fun b1 s16 ⟨H16, I16, q16⟩ => ?_
            have fin1 : ∀ {s' : Shared} {H' : Hp}, Inv (X.blk s3 H3 sc ce fp) (([] ++ pinsAt fp s7.heap) ++ pinsAt fp1 s14.heap) σ15 H' s' → Nx1 H' → ∃ m, m < k ∧ ∃ j H', Inv (X.blk s3 H3 sc ce fp) ([] ++ pinsAt fp s7.heap) (wipe σ8 vs1) H' s' ∧ tn1 j s'.heap ∧ (∀ b ∈ fp1, H' b = none) ∧ W1 j m H' := fun {s' H'} I' nx => by
              obtain ⟨m', hm, w'⟩ := hNx1 H' nx
              have pin' : ∀ b ∈ fp1, ∀ o, s14.heap.get? b = some o → s'.heap.get? b = some o ∧ H' b = none := fun b hb o e =>
                let z := I'.pin (b, o) (List.mem_append_right _ (List.mem_append_right _ (mem_pinsAt hb e))); ⟨z.1, z.2.1⟩
              exact ⟨m', hm, j + 1, H', I'.unpinned.weak (by rw [← hw15, wipe_length]) (fun j v e => (wipe_some (hw15 ▸ e)).1), T1.keep _ _ _ st14 fun b hb o e => (pin' b hb o e).1, fun b hb => let ⟨o, e, _⟩ := T1.obj _ _ st14 b hb; (pin' b hb o e).2, w'⟩
            cases b1 with
            | false => simp only [Bool.false_eq_true, if_false] at q16 ⊢; exact fin1 I16 q16
            | true =>
              simp only [if_true] at q16 ⊢
              refine thnF (pe.run _ s16 σ15 H16 _ I16 q16) fun z s17 ⟨yv, H17, I17, r17, ky, L17, ey, hD17, hz17, nx⟩ => ?_
              subst ey
              obtain ⟨tk, rfl⟩ := r17
              exact addS_ok (X := X.blk s3 H3 sc ce fp) I17 hD17 hz17 fun s18 I18 => fin1 I18 nx
        exact startIn loop1 (T1.self X.A 0 _ _ _ st11 loop1)
  exact PpSet.codeAny_compStart_set loop (T.self X.A 0 _ _ _ st4 loop)
/-- as a value -/
theorem pe_sc2 {elt tg iter tg1 iter1 : Expr} {ifs ifs1 : List Expr} {sc : Scope} {own : List (PySem.Str × Nat)} {vs1 : List Nat} {pos : Pos} {wi wi1 : TI} {g g1 : TG} {tt tt1 : TT} {te : TE} (hc : X.calm = true) (hN : X.N.Nodup) (hi : PI X tg iter wi) (ok : BlkOk X.N X.env.scope sc own) (hv : ∀ i ∈ vs1, i ∈ own.map (·.2))
    (hg : ∀ s H C cl fp, PG (Blk X sc s H C cl fp) tg g) (ht : ∀ s H C cl fp, PTs (Blk X sc s H C cl fp) ifs tt) (hi1 : ∀ s H C cl fp, PI (Blk X sc s H C cl fp) tg1 iter1 wi1) (hg1 : ∀ s H C cl fp, PG (Blk X sc s H C cl fp) tg1 g1) (ht1 : ∀ s H C cl fp, PTs (Blk X sc s H C cl fp) ifs1 tt1)
    (he : ∀ s H C cl fp, PE (Blk X sc s H C cl fp) elt te) (hs : ∀ x, foldedSetIterable iter X.env x = pure x := by intro _; rfl) (hs1 : ∀ env x, foldedSetIterable iter1 env x = pure x := by intro _ _; rfl) :
    PE X (SC2 elt tg iter tg1 iter1 ifs ifs1 sc pos) (tSc2 X.w wi g tt wi1 g1 tt1 te (own.map (·.2)) vs1) := by
  refine ⟨fun pins s σ H Q I h => ?_⟩
  rw [PpSet.eval_SetComp]
  refine sc2_core hc hN I hi ok hv hg ht he hs hi1 hg1 ht1 hs1 h fun D C s' m H' I' q hn f => ⟨m, hn, fun h'' sb => ?_⟩
  obtain ⟨f0, f1, f2, f3, f4, f5⟩ := f
  exact ⟨.ref D, H', I'.turned (t' := s'.toks) (fun b o hb e => (sb.2 b hb).trans e) f0 f1 f3 f4 f5, rfl, q⟩
/-- sorted of such a set, fewer than 64 members -/
def rSortS (w : World) : List V → Hp → VK → Prop := fun vs H Q => ∃ (a : Addr) (L : List Str), vs = [V.ref a] ∧ H a = some (SetSO w a L) ∧ L.length < 64 ∧ ∀ (ys : List Str) (p : Addr), ys.Perm L → sortedS ys = true → H p = none → Q (.ref p) (upd H p (.lst (ys.map V.str)))
theorem strs_of : ∀ (l : List Value), (∀ v ∈ l, ∃ k tk, v = Value.str k tk) → StrsAre l (l.map fun v => kOf (0, v))
  | [], _ => .nil
  | v :: l, h => by
    obtain ⟨k, tk, rfl⟩ := h v List.mem_cons_self
    exact .cons k tk (strs_of l fun u hu => h u (List.mem_cons_of_mem _ hu))
theorem cr_sortS (hc : X.calm = true) : CallR X (.builtin "sorted") (rSortS X.w) := by
  intro pins s σ H vs us Q I r h
  obtain ⟨a, L, rfl, ha, h64, q⟩ := h
  have R := setSO_get I ha
  have hlen := @SetS.len _ _ _ _ R
  rw [Vals.ref1 r]
  obtain ⟨o, es, ep, t, ho, hex, hd, g, pmL, nd, hb, hf, hr, hl⟩ := R
  have hn : es.size = L.length := hlen ho hd
  refine Calls.call_function_entry kind_sorted plain_sorted entry_sorted (args_sorted1 _) ?_
  unfold Builtin.«sorted»
  refine wpAny_bind (m := checkCount "sorted" 1 1 _) (wpAny_pure (wpAny_bind (collect_set (A := X.A.in1) (I.ok.hd hc) ⟨o, ho, hex.1, hd⟩ hf hb hr hl fun s1 ws k1 hz g1 o1 pm => ?_)))
  have hvl : ws.length = L.length := by rw [pm.length_eq, List.length_map, Array.length_toList]; exact hn
  have hS : StrsAre ws (ws.map fun v => kOf (0, v)) := strs_of ws fun v hv => by
    obtain ⟨e, he, z⟩ := List.mem_map.mp (pm.mem_iff.mp hv)
    obtain ⟨k, tk, h1, -⟩ := g e he
    exact ⟨k, tk, by rw [← z]; exact h1⟩
  have pk : (ws.map fun v => kOf (0, v)).Perm L := by
    have z := pm.map fun v => kOf (0, v)
    rw [List.map_map] at z
    exact z.trans pmL
  have I1 : Inv X pins σ H s1 := by
    have e : s1 = { s with heap := s1.heap, gens := s1.gens, drawn := s1.drawn, toks := s1.toks } := by cases s1; cases s; cases o1; rfl
    rw [e]
    exact I.call (ch := []) (Un.kept k1) (I.hok.kept k1) (by rw [g1]; exact I.bare) (fun _ z => nomatch z)
  refine wpAny_bind (wpAny_newList ?_ (by rw [hvl, sizeLine_eq]; omega))
  have hoL : (s1.heap.push (seqObj "list" ws.toArray 0)).get? s1.heap.objs.size = some (seqObj "list" ws.toArray 0) := Heap.get?_push_size _ rfl
  refine wpAny_bind (wpAny_holding (wpAny_call_entry slot_list_sort ⟨_, hoL, rfl⟩ entry_list_sort (list_sort_treeK strKind_oneLt (s := { s1 with heap := s1.heap.push (seqObj "list" ws.toArray 0) }) hoL hS.keysOf (fun v₁ v₂ rest e => keyKind_strs (by rw [← e]; exact hS)) (by rw [hvl]; exact h64) fun st' hp hs => ⟨_, rfl, ?_⟩) (args_list_sort _)))
  obtain ⟨ys, y1, y2, y3⟩ := sorted_out_str hS hp hs
  obtain ⟨e', he'⟩ := sortedHeap_at (vs := ws) (out := (arrOf st').map (·.2)) hoL
  have hl2 : (ys.map V.str).length ≤ sizeLine := by
    rw [List.length_map, y2.length_eq, pk.length_eq, sizeLine_eq]
    omega
  refine wpAny_pure ⟨_, rfl, .ref s1.heap.objs.size, upd H s1.heap.objs.size (.lst (ys.map V.str)), I1.laid (t' := s1.toks) (fun b u e => ?_) (Nat.le_refl _) (show ObjOk X.prog X.w _ _ _ (.lst (ys.map V.str)) from ⟨hl2, ((arrOf st').map (·.2)).toList, e', vals_of_strs y1, by rw [Array.toArray_toList]; exact he'⟩), rfl, q ys _ (y2.trans pk) y3 (I1.hok.fresh (Nat.le_refl _))⟩
  show (sortedHeap (s1.heap.push (seqObj "list" ws.toArray 0)) s1.heap.objs.size ws _).get? b = some u
  have hlt := Heap.lt_size e
  rw [sortedHeap_old (Nat.ne_of_lt hlt) (by rw [size_push']; exact Nat.lt_succ_of_lt hlt)]
  exact Heap.get?_push_of_some _ e
end
/-- walked: the outer clause -/
theorem sc2_it {J : It} {n : Nat} {G : Hp → Prop} {Y : Nat → Hp → V → Hp → Prop} (wk : Walk J n G Y) {w : World} {g g1 : TG} {tt tt1 : TT} {wi1 : TI} {te : TE} {vs vs1 : List Nat} {σ : L2.St} {H1 : Hp} {D : Addr} {Qd : Hp → Prop} (Pv : Nat → Hp → Prop) (h0 : Pv 0 (upd H1 D (SetSO w D []))) (hG : ∀ i H, i ≤ n → Pv i H → G H)
    (hs : ∀ i x H H', i < n → Pv i H → Y i H x H' → g x (wipe σ vs) H' fun σ2 H2 => wipe σ2 vs = wipe σ vs ∧ tt σ2 H2 fun b H3 =>
      if b = true then wi1 σ2 H3 fun J1 H4 => ∃ W1 : Nat → Nat → Hp → Prop, (∃ m, W1 0 m H4) ∧ ∀ j k H, W1 j k H →
        (J1.stop j H ∧ Pv (i + 1) H) ∨ (J1.go j H ∧ ∃ Nx1 : Hp → Prop, (∀ H', Nx1 H' → ∃ k', k' < k ∧ W1 (j + 1) k' H') ∧ ∀ x H', J1.yld j H x H' → g1 x (wipe σ2 vs1) H' fun σ3 H5 => wipe σ3 vs1 = wipe σ2 vs1 ∧ tt1 σ3 H5 fun b H6 =>
          if b = true then te σ3 H6 fun y H7 => ∃ k L, y = .str k ∧ H7 D = some (SetSO w D L) ∧ L.length + 1 < scanBound ∧ Nx1 (upd H7 D (SetSO w D (addL L k))) else Nx1 H6)
      else Pv (i + 1) H3) (hd : ∀ H, Pv n H → Qd H) :
    ∃ W : Nat → Nat → Hp → Prop, (∃ m, W 0 m (upd H1 D (SetSO w D []))) ∧ ∀ i m H, W i m H →
      (J.stop i H ∧ Qd H) ∨ (J.go i H ∧ ∃ Nx : Hp → Prop, (∀ H', Nx H' → ∃ m', m' < m ∧ W (i + 1) m' H') ∧ ∀ x H', J.yld i H x H' → g x (wipe σ vs) H' fun σ2 H2 => wipe σ2 vs = wipe σ vs ∧ tt σ2 H2 fun b H3 =>
        if b = true then wi1 σ2 H3 fun J1 H4 => ∃ W1 : Nat → Nat → Hp → Prop, (∃ m, W1 0 m H4) ∧ ∀ j k H, W1 j k H →
          (J1.stop j H ∧ Nx H) ∨ (J1.go j H ∧ ∃ Nx1 : Hp → Prop, (∀ H', Nx1 H' → ∃ k', k' < k ∧ W1 (j + 1) k' H') ∧ ∀ x H', J1.yld j H x H' → g1 x (wipe σ2 vs1) H' fun σ3 H5 => wipe σ3 vs1 = wipe σ2 vs1 ∧ tt1 σ3 H5 fun b H6 =>
            if b = true then te σ3 H6 fun y H7 => ∃ k L, y = .str k ∧ H7 D = some (SetSO w D L) ∧ L.length + 1 < scanBound ∧ Nx1 (upd H7 D (SetSO w D (addL L k))) else Nx1 H6)
        else Nx H3) := by
  refine ⟨fun i m H => m = n - i ∧ i ≤ n ∧ Pv i H, ⟨n, by simp, Nat.zero_le _, h0⟩, ?_⟩
  rintro i m H ⟨rfl, hi, p⟩
  have q := hG i H hi p
  by_cases c : i < n
  · exact .inr ⟨wk.goes i H c q, Pv (i + 1), fun H' p' => ⟨n - (i + 1), by omega, rfl, c, p'⟩, fun x H' y => hs i x H H' c p (wk.yields i H x H' c q y)⟩
  · obtain rfl : i = n := by omega
    exact .inl ⟨wk.stops H q, hd H p⟩
/-- walked: the inner clause -/
theorem in2_it {J1 : It} {n : Nat} {G : Hp → Prop} {Y : Nat → Hp → V → Hp → Prop} (wk : Walk J1 n G Y) {w : World} {g1 : TG} {tt1 : TT} {te : TE} {vs1 : List Nat} {σ2 : L2.St} {H4 : Hp} {D : Addr} {Nx : Hp → Prop} (Pv : Nat → Hp → Prop) (h0 : Pv 0 H4) (hG : ∀ i H, i ≤ n → Pv i H → G H)
    (hs : ∀ i x H H', i < n → Pv i H → Y i H x H' → g1 x (wipe σ2 vs1) H' fun σ3 H5 => wipe σ3 vs1 = wipe σ2 vs1 ∧ tt1 σ3 H5 fun b H6 =>
      if b = true then te σ3 H6 fun y H7 => ∃ k L, y = .str k ∧ H7 D = some (SetSO w D L) ∧ L.length + 1 < scanBound ∧ Pv (i + 1) (upd H7 D (SetSO w D (addL L k))) else Pv (i + 1) H6) (hd : ∀ H, Pv n H → Nx H) :
    ∃ W1 : Nat → Nat → Hp → Prop, (∃ m, W1 0 m H4) ∧ ∀ j k H, W1 j k H →
      (J1.stop j H ∧ Nx H) ∨ (J1.go j H ∧ ∃ Nx1 : Hp → Prop, (∀ H', Nx1 H' → ∃ k', k' < k ∧ W1 (j + 1) k' H') ∧ ∀ x H', J1.yld j H x H' → g1 x (wipe σ2 vs1) H' fun σ3 H5 => wipe σ3 vs1 = wipe σ2 vs1 ∧ tt1 σ3 H5 fun b H6 =>
        if b = true then te σ3 H6 fun y H7 => ∃ k L, y = .str k ∧ H7 D = some (SetSO w D L) ∧ L.length + 1 < scanBound ∧ Nx1 (upd H7 D (SetSO w D (addL L k))) else Nx1 H6) := by
  refine ⟨fun i m H => m = n - i ∧ i ≤ n ∧ Pv i H, ⟨n, by simp, Nat.zero_le _, h0⟩, ?_⟩
  rintro i m H ⟨rfl, hi, p⟩
  have q := hG i H hi p
  by_cases c : i < n
  · exact .inr ⟨wk.goes i H c q, Pv (i + 1), fun H' p' => ⟨n - (i + 1), by omega, rfl, c, p'⟩, fun x H' y => hs i x H H' c p (wk.yields i H x H' c q y)⟩
  · obtain rfl : i = n := by omega
    exact .inl ⟨wk.stops H q, hd H p⟩
end Ss
/-! min of a list of data that can be compared: which of them it is -/
namespace Md
open PySem PySem.Spec PyProof.Rows L2
open PySem.W (DatumOrd Datum minOf AlikeAll readsAll_len readsAll_atA cmpIn_lt iter_listW moved_old argBest_fold dataLt)
section
variable {α : Type} [DecidableEq α] [DatumOrd α]
theorem minOf_mem (x : α) : ∀ ys : List α, minOf x ys ∈ x :: ys := by
  intro ys
  unfold minOf
  induction ys generalizing x with
  | nil => exact List.mem_singleton.mpr rfl
  | cons y r ih =>
    rw [List.foldl_cons]
    have h := ih (if DatumOrd.lt y x = true then y else x)
    rcases List.mem_cons.mp h with z | z
    · rw [z]
      split
      · exact List.mem_cons_of_mem _ List.mem_cons_self
      · exact List.mem_cons_self
    · exact List.mem_cons_of_mem _ (List.mem_cons_of_mem _ z)
theorem minOf_le (ir : ∀ a : α, DatumOrd.lt a a = false) (asy : ∀ a b : α, DatumOrd.lt a b = true → DatumOrd.lt b a = false) (tr : ∀ a b c : α, DatumOrd.lt a b = false → DatumOrd.lt b c = false → DatumOrd.lt a c = false) (x : α) : ∀ ys : List α, ∀ z ∈ x :: ys, DatumOrd.lt z (minOf x ys) = false := by
  intro ys
  unfold minOf
  induction ys generalizing x with
  | nil =>
    intro z hz
    rw [List.mem_singleton.mp hz]
    exact ir x
  | cons y r ih =>
    intro z hz
    rw [List.foldl_cons]
    have h := ih (if DatumOrd.lt y x = true then y else x)
    by_cases c : DatumOrd.lt y x = true
    · rw [if_pos c] at h ⊢
      rcases List.mem_cons.mp hz with e | hz
      · rw [e]
        exact tr x y _ (asy y x c) (h y List.mem_cons_self)
      · exact h z hz
    · rw [if_neg c] at h ⊢
      have c : DatumOrd.lt y x = false := by
        cases q : DatumOrd.lt y x with
        | false => rfl
        | true => exact absurd q c
      rcases List.mem_cons.mp hz with e | hz
      · rw [e]
        exact h x List.mem_cons_self
      · rcases List.mem_cons.mp hz with e | hz
        · rw [e]
          exact tr y x _ c (h x List.mem_cons_self)
        · exact h z (List.mem_cons_of_mem _ hz)
end
/-- min(xs): the item at a place of the least -/
def rMinG (α : Type) [DecidableEq α] [DatumOrd α] (K : PySem.W.Frag) : List V → Hp → VK → Prop := fun vs H Q => ∃ (a : Addr) (xs : List V) (x : α) (ys : List α), vs = [.ref a] ∧ SqL K H a xs ∧ DpAll K H xs ((x :: ys).map Datum.toD) ∧ Datum.depth α ≤ 60 ∧
  ∀ (i : Nat) (v : V), xs[i]? = some v → (x :: ys)[i]? = some (minOf x ys) → Q v H
theorem cr_minG {X : Cx} {α : Type} [DecidableEq α] [DatumOrd α] (hc : X.calm = true) (hu : X.A.units + 64 < cLine) : CallR X (.builtin "min") (rMinG α X.K) := by
  intro pins s σ H vs us Q I r h
  obtain ⟨a, xs, x, ys, rfl, hs, hd, hdep, q⟩ := h
  obtain ⟨its, rv, hl, -⟩ := I.list hs
  rw [Vals.ref1 r]
  obtain ⟨as, hr⟩ := Dp.readsAll I _ _ _ hd rv
  have hl : s.heap.IsList a its.toArray := hl.isList
  have hr' : ReadsAll s.heap its.toArray.toList (Datum.toD x :: ys.map Datum.toD) as := hr
  have hn : its.toArray.size = ys.length + 1 := by rw [readsAll_len hr']; simp
  have hdd : PyData.depthAll (Datum.toD x :: ys.map Datum.toD) ≤ 60 := Nat.le_trans (PySem.W.depthAll_map (x :: ys)) hdep
  refine PySem.call_min_walkH (iter_listW (A := X.A.in1) (I.ok.hd hc) hl fun s2 e W st hfp hw hk => ?_)
  refine ⟨_, _, _, _, _, _, _, s.heap, _, rfl, W, st, hfp, by omega, hw, hk, cmpIn_lt (A := X.A.in1) hr' (PySem.W.alikeAll_datum (x :: ys)) (by show X.A.units + 1 + _ < _; omega), fun v s' hP m => ?_⟩
  obtain ⟨h', tk, rfl, hk'⟩ := moved_old e rfl m
  have e1 : its.toArray.size - 1 = (ys.map Datum.toD (α := α)).length := by rw [List.length_map]; omega
  rw [e1] at hP
  have f := argBest_fold dataLt PyData.none (Datum.toD x) (ys.map Datum.toD) (ys.map Datum.toD).length (Nat.le_refl _)
  generalize argBest (fun i j => dataLt ((Datum.toD x :: ys.map Datum.toD).getD i .none) ((Datum.toD x :: ys.map Datum.toD).getD j .none)) (ys.map Datum.toD).length = j at f hP
  rw [List.take_length] at f
  have f2 : (Datum.toD x :: ys.map Datum.toD).getD j .none = Datum.toD (minOf x ys) := f.2.trans (PySem.W.minD_map x ys)
  have hj : j < (x :: ys).length := by
    have := f.1
    rw [List.length_map] at this
    rw [List.length_cons]
    omega
  have g : (x :: ys)[j]? = some (minOf x ys) := by
    rw [List.getElem?_eq_getElem hj]
    congr 1
    have z : (Datum.toD x :: ys.map Datum.toD)[j]? = some (Datum.toD (x :: ys)[j]) := by
      show ((x :: ys).map Datum.toD)[j]? = _
      rw [List.getElem?_map, List.getElem?_eq_getElem hj]
      rfl
    rw [List.getD_eq_getElem?_getD, z] at f2
    have f3 : Datum.toD (x :: ys)[j] = Datum.toD (minOf x ys) := f2
    have f4 := Datum.eqv (x :: ys)[j] (minOf x ys)
    have f5 := Datum.eqv (minOf x ys) (minOf x ys)
    rw [f3, f5] at f4
    have : decide ((x :: ys)[j] = minOf x ys) = true := by rw [← f4]; exact decide_eq_true rfl
    exact of_decide_eq_true this
  have hP : its[j]? = some v := by simpa using hP
  have hjx : j < xs.length := by
    rw [rv.length]
    exact (List.getElem?_eq_some_iff.mp hP).1
  obtain ⟨u0, hu0, ru0⟩ := Vals.get rv (List.getElem?_eq_getElem hjx)
  rw [hP] at hu0
  cases hu0
  exact ⟨xs[j], H, I.kept hk', ru0, q j _ (List.getElem?_eq_getElem hjx) g⟩
end Md
/-! shortest roads as mathematics: steps to a goal, the least of the shortest -/
namespace Rm
abbrev Nd := List Nat
section
variable (R : Nd → Nd → Prop) (F : Nd → Prop)
/-- a walk of n steps to a goal -/
def Wk : Nat → Nd → Prop
  | 0, x => F x
  | n + 1, x => ∃ y, R x y ∧ Wk n y
/-- it is n steps away -/
def Ds (n : Nat) (x : Nd) : Prop := Wk R F n x ∧ ∀ m, m < n → ¬ Wk R F m x
variable {R F}
theorem Ds.eq {n m : Nat} {x : Nd} (h : Ds R F n x) (k : Ds R F m x) : n = m := by
  rcases Nat.lt_trichotomy n m with c | c | c
  · exact absurd h.1 (k.2 n c)
  · exact c
  · exact absurd k.1 (h.2 m c)
theorem wk_ds : ∀ (n : Nat) {x : Nd}, Wk R F n x → ∃ m, m ≤ n ∧ Ds R F m x := by
  intro n
  induction n using Nat.strongRecOn with
  | ind n ih =>
    intro x h
    by_cases c : ∃ m, m < n ∧ Wk R F m x
    · obtain ⟨m, hm, hw⟩ := c
      obtain ⟨k, hk, hd⟩ := ih m hm hw
      exact ⟨k, by omega, hd⟩
    · exact ⟨n, Nat.le_refl _, h, fun m hm hw => c ⟨m, hm, hw⟩⟩
theorem Ds.down {n : Nat} {x : Nd} (h : Ds R F (n + 1) x) : ∃ y, R x y ∧ Ds R F n y := by
  obtain ⟨⟨y, h1, h2⟩, hm⟩ := h
  exact ⟨y, h1, h2, fun m hmn hw => hm (m + 1) (by omega) ⟨y, h1, hw⟩⟩
theorem Ds.next {n : Nat} {x y : Nd} (h : Ds R F (n + 1) x) (r : R x y) (w : Wk R F n y) : Ds R F n y := ⟨w, fun m hm hw => h.2 (m + 1) (by omega) ⟨y, r, hw⟩⟩
theorem ds_succ {n : Nat} {x : Nd} : Ds R F (n + 1) x ↔ (∃ y, R x y ∧ Ds R F n y) ∧ ∀ m, m ≤ n → ¬ Ds R F m x := by
  constructor
  · intro h
    exact ⟨h.down, fun m hm hd => by have := h.eq hd; omega⟩
  · rintro ⟨⟨y, h1, h2⟩, hm⟩
    refine ⟨⟨y, h1, h2.1⟩, fun m hmn hw => ?_⟩
    obtain ⟨k, hk, hd⟩ := wk_ds m hw
    exact hm k (by omega) hd
theorem ds_zero {x : Nd} : Ds R F 0 x ↔ F x := ⟨fun h => h.1, fun h => ⟨h, fun m hm => absurd hm (Nat.not_lt_zero _)⟩⟩
theorem ds_none {m : Nat} (h : ∀ x, ¬ Ds R F m x) : ∀ n x, m ≤ n → ¬ Ds R F n x := by
  intro n
  induction n with
  | zero =>
    intro x hm
    have : m = 0 := by omega
    subst this
    exact h x
  | succ n ih =>
    intro x hm hd
    by_cases c : m = n + 1
    · subst c
      exact h x hd
    · obtain ⟨y, _, hy⟩ := hd.down
      exact ih y (by omega) hy
/-- the least of those with a property -/
def Lst (P : Nd → Prop) (y : Nd) : Prop := P y ∧ ∀ z, P z → ¬ z < y
theorem Lst.eq {P : Nd → Prop} {y z : Nd} (a : Lst P y) (b : Lst P z) : y = z := List.le_antisymm (List.not_lt.mp (a.2 z b.1)) (List.not_lt.mp (b.2 y a.1))
variable (R F)
/-- the least of the shortest roads -/
def Gr : Nat → Nd → List Nd → Prop
  | 0, x, r => F x ∧ r = [x]
  | n + 1, x, r => ∃ y t, Lst (fun y => R x y ∧ Ds R F n y) y ∧ Gr n y t ∧ r = x :: t
variable {R F}
theorem Gr.eq : ∀ {n : Nat} {x : Nd} {r t : List Nd}, Gr R F n x r → Gr R F n x t → r = t
  | 0, _, _, _, h, k => h.2.trans k.2.symm
  | n + 1, x, _, _, ⟨y, r, h1, h2, h3⟩, ⟨z, t, k1, k2, k3⟩ => by
    have := h1.eq k1
    subst this
    rw [h3, k3, h2.eq k2]
theorem Gr.len : ∀ {n : Nat} {x : Nd} {r : List Nd}, Gr R F n x r → r.length = n + 1
  | 0, _, _, h => by rw [h.2]; rfl
  | n + 1, _, _, ⟨y, t, _, h2, h3⟩ => by rw [h3, List.length_cons, h2.len]
theorem Gr.head : ∀ {n : Nat} {x : Nd} {r : List Nd}, Gr R F n x r → r.head? = some x
  | 0, _, _, h => by rw [h.2]; rfl
  | n + 1, _, _, ⟨y, t, _, h2, h3⟩ => by rw [h3]; rfl
theorem Gr.last : ∀ {n : Nat} {x : Nd} {r : List Nd}, Gr R F n x r → ∃ z, r.getLast? = some z ∧ F z
  | 0, x, _, h => ⟨x, by rw [h.2]; rfl, h.1⟩
  | n + 1, x, _, ⟨y, t, _, h2, h3⟩ => by
    obtain ⟨z, e, f⟩ := h2.last
    refine ⟨z, ?_, f⟩
    rw [h3]
    cases t with
    | nil => cases e
    | cons a t => rw [List.getLast?_cons_cons]; exact e
/-- a walk, its places told: p begins with x and its neighbours are related -/
def Pth (R : Nd → Nd → Prop) : Nd → List Nd → Prop
  | x, [] => False
  | x, [y] => x = y
  | x, y :: z :: t => x = y ∧ R x z ∧ Pth R z (z :: t)
theorem pth_cons {x : Nd} {p : List Nd} (h : Pth R x p) : ∃ t, p = x :: t := by
  match p, h with
  | [y], h => exact ⟨[], by rw [show x = y from h]⟩
  | y :: z :: t, h => exact ⟨z :: t, by rw [h.1]⟩
theorem pth_snoc : ∀ {p : List Nd} {x z : Nd}, Pth R x p → (∀ y, p.getLast? = some y → R y z) → Pth R x (p ++ [z])
  | [y], x, z, h, k => ⟨h, by rw [show x = y from h]; exact k y rfl, rfl⟩
  | y :: w :: t, x, z, h, k => ⟨h.1, h.2.1, pth_snoc (p := w :: t) h.2.2 fun y' e => k y' (by rw [List.getLast?_cons_cons]; exact e)⟩
theorem pth_init : ∀ {p : List Nd} {x z : Nd}, p ≠ [] → Pth R x (p ++ [z]) → Pth R x p ∧ ∀ y, p.getLast? = some y → R y z
  | [y], x, z, _, h => ⟨h.1, fun y' e => by
      have : y = y' := Option.some.inj e
      rw [← this, ← h.1]
      exact h.2.1⟩
  | y :: w :: t, x, z, _, h => by
    obtain ⟨h1, h2⟩ := pth_init (p := w :: t) (by simp) h.2.2
    exact ⟨⟨h.1, h.2.1, h1⟩, fun y' e => h2 y' (by rw [List.getLast?_cons_cons] at e; exact e)⟩
theorem pth_wk : ∀ {p : List Nd} {x z : Nd}, Pth R x p → p.getLast? = some z → F z → Wk R F (p.length - 1) x
  | [y], x, z, h, e, f => by
    have : y = z := Option.some.inj e
    show F x
    rw [show x = y from h, this]
    exact f
  | y :: w :: t, x, z, h, e, f => ⟨w, h.2.1, pth_wk (p := w :: t) h.2.2 (by rw [List.getLast?_cons_cons] at e; exact e) f⟩
theorem gr_pth : ∀ {n : Nat} {x : Nd} {r : List Nd}, Gr R F n x r → Pth R x r
  | 0, x, _, h => by rw [h.2]; rfl
  | n + 1, x, _, ⟨y, t, h1, h2, h3⟩ => by
    have hp := gr_pth h2
    obtain ⟨u, rfl⟩ := pth_cons hp
    rw [h3]
    exact ⟨rfl, h1.1.1, hp⟩
/-- on it each is nearer than the one ahead -/
theorem gr_ds : ∀ {n : Nat} {x : Nd} {r : List Nd}, Gr R F n x r → Ds R F n x → ∀ (i : Nat) (z : Nd), r[i]? = some z → i ≤ n ∧ Ds R F (n - i) z
  | 0, x, _, h, d, i, z, e => by
    rw [h.2] at e
    match i, e with
    | 0, e =>
      have : x = z := Option.some.inj e
      rw [← this]
      exact ⟨Nat.le_refl _, d⟩
  | n + 1, x, _, ⟨y, t, h1, h2, h3⟩, d, i, z, e => by
    rw [h3] at e
    match i, e with
    | 0, e =>
      have : x = z := Option.some.inj e
      rw [← this]
      exact ⟨Nat.zero_le _, d⟩
    | i + 1, e =>
      obtain ⟨h4, h5⟩ := gr_ds h2 h1.1.2 i z e
      exact ⟨by omega, by rw [show n + 1 - (i + 1) = n - i by omega]; exact h5⟩
theorem gr_nodup {n : Nat} {x : Nd} {r : List Nd} (h : Gr R F n x r) (d : Ds R F n x) : r.Nodup := by
  rw [List.nodup_iff_pairwise_ne, List.pairwise_iff_getElem]
  intro i j hi hj hij e
  obtain ⟨h1, h2⟩ := gr_ds h d i _ (List.getElem?_eq_getElem hi)
  obtain ⟨h3, h4⟩ := gr_ds h d j _ (List.getElem?_eq_getElem hj)
  rw [e] at h2
  have := h2.eq h4
  omega
end
/-- the order of roads: the first unlike places, else the shorter -/
def rLt : List Nd → List Nd → Bool
  | [], [] => false
  | [], _ :: _ => true
  | _ :: _, [] => false
  | x :: xs, y :: ys => if x = y then rLt xs ys else decide (x < y)
theorem rLt_self : ∀ a : List Nd, rLt a a = false
  | [] => rfl
  | x :: xs => by
    show (if x = x then rLt xs xs else decide (x < x)) = false
    rw [if_pos rfl, rLt_self xs]
theorem lt_asym {x y : Nd} (h : x < y) : ¬ y < x := fun k => List.lt_irrefl _ (List.lt_trans h k)
theorem rLt_asy : ∀ a b : List Nd, rLt a b = true → rLt b a = false
  | [], [], h => by cases h
  | [], _ :: _, _ => rfl
  | _ :: _, [], h => by cases h
  | x :: xs, y :: ys, h => by
    have h : (if x = y then rLt xs ys else decide (x < y)) = true := h
    show (if y = x then rLt ys xs else decide (y < x)) = false
    by_cases c : x = y
    · rw [if_pos c] at h
      rw [if_pos c.symm]
      exact rLt_asy xs ys h
    · rw [if_neg c] at h
      rw [if_neg (fun z => c z.symm)]
      exact decide_eq_false (lt_asym (of_decide_eq_true h))
theorem rLt_tr : ∀ a b c : List Nd, rLt a b = false → rLt b c = false → rLt a c = false
  | [], [], _, _, k => k
  | [], _ :: _, _, h, _ => by cases h
  | _ :: _, _, [], _, _ => rfl
  | _ :: _, [], _ :: _, _, k => by cases k
  | x :: xs, y :: ys, z :: zs, h, k => by
    have h : (if x = y then rLt xs ys else decide (x < y)) = false := h
    have k : (if y = z then rLt ys zs else decide (y < z)) = false := k
    show (if x = z then rLt xs zs else decide (x < z)) = false
    by_cases c : x = y
    · subst c
      rw [if_pos rfl] at h
      by_cases c2 : x = z
      · rw [if_pos c2] at k ⊢
        exact rLt_tr xs ys zs h k
      · rw [if_neg c2] at k ⊢
        exact k
    · rw [if_neg c] at h
      have h := List.not_lt.mp (of_decide_eq_false h)
      by_cases c2 : y = z
      · subst c2
        rw [if_neg c]
        exact decide_eq_false (List.not_lt.mpr h)
      · rw [if_neg c2] at k
        have k := List.not_lt.mp (of_decide_eq_false k)
        have hk := List.le_trans k h
        by_cases c3 : x = z
        · subst c3
          exact absurd (List.le_antisymm h k) (fun e => c e.symm)
        · rw [if_neg c3]
          exact decide_eq_false (List.not_lt.mpr hk)
theorem rLt_anti : ∀ a b : List Nd, rLt a b = false → rLt b a = false → a = b
  | [], [], _, _ => rfl
  | [], _ :: _, h, _ => by cases h
  | _ :: _, [], _, k => by cases k
  | x :: xs, y :: ys, h, k => by
    have h : (if x = y then rLt xs ys else decide (x < y)) = false := h
    have k : (if y = x then rLt ys xs else decide (y < x)) = false := k
    by_cases c : x = y
    · subst c
      rw [if_pos rfl] at h k
      rw [rLt_anti xs ys h k]
    · rw [if_neg c] at h
      rw [if_neg (fun z => c z.symm)] at k
      exact absurd (List.le_antisymm (List.not_lt.mp (of_decide_eq_false k)) (List.not_lt.mp (of_decide_eq_false h))) c
/-- none of the roads of as many steps is less -/
theorem gr_least {R : Nd → Nd → Prop} {F : Nd → Prop} : ∀ {n : Nat} {x : Nd} {r p : List Nd} {z : Nd}, Gr R F n x r → Ds R F n x → Pth R x p → p.length = n + 1 → p.getLast? = some z → F z → rLt p r = false
  | 0, x, _, p, z, h, d, hp, hl, e, f => by
    obtain ⟨t, rfl⟩ := pth_cons hp
    have : t = [] := List.eq_nil_of_length_eq_zero (by rw [List.length_cons] at hl; omega)
    rw [h.2, this]
    exact rLt_self _
  | n + 1, x, _, p, z, ⟨y, t, h1, h2, h3⟩, d, hp, hl, e, f => by
    match p, hp, hl, e with
    | y' :: w :: u, hp, hl, e =>
      have e2 : (w :: u).getLast? = some z := by rw [List.getLast?_cons_cons] at e; exact e
      have l2 : (w :: u).length = n + 1 := by rw [List.length_cons] at hl; omega
      have hw : Wk R F n w := by
        have := pth_wk hp.2.2 e2 f
        rw [l2] at this
        exact this
      have dw : Ds R F n w := d.next hp.2.1 hw
      have nl : ¬ w < y := h1.2 w ⟨hp.2.1, dw⟩
      rw [h3, ← hp.1]
      show (if x = x then rLt (w :: u) t else decide (x < x)) = false
      rw [if_pos rfl]
      obtain ⟨t', rfl⟩ := pth_cons (gr_pth h2)
      by_cases c : w = y
      · subst c
        exact gr_least h2 dw hp.2.2 l2 e2 f
      · show (if w = y then rLt u t' else decide (w < y)) = false
        rw [if_neg c]
        exact decide_eq_false nl
/-- among finitely many there is a least -/
theorem lst_ex : ∀ {ls : List Nd} {P : Nd → Prop}, (∀ y, P y → y ∈ ls) → (∃ y, P y) → ∃ y, Lst P y
  | [], P, h, ⟨y, hy⟩ => by cases h y hy
  | a :: r, P, h, ⟨y, hy⟩ => by
    by_cases c : ∃ z, P z ∧ z ≠ a
    · obtain ⟨y, hy, hl⟩ := lst_ex (ls := r) (P := fun z => P z ∧ z ≠ a) (fun z hz => (List.mem_cons.mp (h z hz.1)).elim (fun e => absurd e hz.2) id) c
      by_cases ha : P a ∧ a < y
      · refine ⟨a, ha.1, fun z hz hlt => ?_⟩
        by_cases e : z = a
        · rw [e] at hlt
          exact List.lt_irrefl _ hlt
        · exact hl z ⟨hz, e⟩ (List.lt_trans hlt ha.2)
      · refine ⟨y, hy.1, fun z hz hlt => ?_⟩
        by_cases e : z = a
        · rw [e] at hlt hz
          exact ha ⟨hz, hlt⟩
        · exact hl z ⟨hz, e⟩ hlt
    · have : ∀ z, P z → z = a := fun z hz => Classical.byContradiction fun e => c ⟨z, hz, e⟩
      have e := this y hy
      refine ⟨y, hy, fun z hz hlt => ?_⟩
      rw [this z hz, e] at hlt
      exact List.lt_irrefl _ hlt
theorem gr_ex {R : Nd → Nd → Prop} {F : Nd → Prop} {ls : List Nd} (hf : ∀ n y, Ds R F n y → y ∈ ls) : ∀ (n : Nat) {x : Nd}, Ds R F n x → ∃ r, Gr R F n x r
  | 0, x, h => ⟨[x], h.1, rfl⟩
  | n + 1, x, h => by
    obtain ⟨y, hy⟩ := lst_ex (ls := ls) (P := fun y => R x y ∧ Ds R F n y) (fun y hy => hf n y hy.2) h.down
    obtain ⟨t, ht⟩ := gr_ex hf n hy.1.2
    exact ⟨x :: t, y, t, hy, ht, rfl⟩
theorem pth_mem {R : Nd → Nd → Prop} {ls : List Nd} (hr : ∀ y z, R y z → z ∈ ls) : ∀ {p : List Nd} {x : Nd}, Pth R x p → x ∈ ls → ∀ z ∈ p, z ∈ ls
  | [y], x, h, hx, z, hz => by
    rw [List.mem_singleton.mp hz, ← show x = y from h]
    exact hx
  | y :: w :: t, x, h, hx, z, hz => by
    rcases List.mem_cons.mp hz with e | e
    · rw [e, ← h.1]
      exact hx
    · exact pth_mem hr (p := w :: t) h.2.2 (hr _ _ h.2.1) z e
theorem ne_snoc {α : Type} {p : List α} (h : p ≠ []) : ∃ q z, p = q ++ [z] := ⟨p.dropLast, p.getLast h, (List.dropLast_concat_getLast h).symm⟩
/-- roads of unlike places, t steps long -/
def SP (R : Nd → Nd → Prop) (x : Nd) (t : Nat) (p : List Nd) : Prop := Pth R x p ∧ p.length = t + 1 ∧ p.Nodup
theorem sp_zero {R : Nd → Nd → Prop} {x : Nd} {p : List Nd} : SP R x 0 p ↔ p = [x] := by
  constructor
  · rintro ⟨h1, h2, _⟩
    obtain ⟨t, rfl⟩ := pth_cons h1
    rw [List.eq_nil_of_length_eq_zero (l := t) (by rw [List.length_cons] at h2; omega)]
  · rintro rfl
    exact ⟨rfl, rfl, by simp⟩
theorem SP.ne {R : Nd → Nd → Prop} {x : Nd} {t : Nat} {p : List Nd} (h : SP R x t p) : p ≠ [] := fun e => by
  have := h.2.1
  rw [e] at this
  cases this
theorem sp_succ {R : Nd → Nd → Prop} {x : Nd} {t : Nat} {q : List Nd} : SP R x (t + 1) q ↔ ∃ p y z, SP R x t p ∧ p.getLast? = some y ∧ (z ≠ y ∧ R y z) ∧ z ∉ p ∧ q = p ++ [z] := by
  constructor
  · intro h
    obtain ⟨p, z, rfl⟩ := ne_snoc h.ne
    obtain ⟨h1, h2, h3⟩ := h
    rw [List.length_append, List.length_singleton] at h2
    have pn : p ≠ [] := fun e => by rw [e] at h2; simp at h2
    obtain ⟨h4, h5⟩ := pth_init pn h1
    obtain ⟨p', y, rfl⟩ := ne_snoc pn
    obtain ⟨n1, n2, n3⟩ := List.nodup_append.mp h3
    have zn : z ∉ p' ++ [y] := fun hz => n3 z hz z (List.mem_singleton.mpr rfl) rfl
    have ey : (p' ++ [y]).getLast? = some y := by simp
    exact ⟨p' ++ [y], y, z, ⟨h4, by omega, n1⟩, ey, ⟨fun e => zn (by rw [e]; simp), h5 y ey⟩, zn, rfl⟩
  · rintro ⟨p, y, z, ⟨h1, h2, h3⟩, hy, ⟨_, hr⟩, hz, rfl⟩
    refine ⟨pth_snoc h1 fun y' e => ?_, by rw [List.length_append, List.length_singleton, h2], List.nodup_append.mpr ⟨h3, by simp, fun a ha b hb e => ?_⟩⟩
    · rw [hy] at e
      have : y = y' := Option.some.inj e
      rw [← this]
      exact hr
    · rw [List.mem_singleton.mp hb] at e
      rw [e] at ha
      exact hz ha
end Rm
/-! tuple + tuple and slices of tuples, whichever object comes -/
namespace Th
open PySem PySem.Spec PyProof.Rows L2
def rCatS (K : PySem.W.Frag) : R2 := fun x y H Q => ∃ (a b : Addr) (xs ys : List V), x = .ref a ∧ y = .ref b ∧ H a = some (.tup xs) ∧ H b = some (.tup ys) ∧ xs.length + ys.length ≤ sizeLine ∧ ∀ (c : Addr) (H' : Hp), Same H H' → H' c = some (.tup (xs ++ ys)) → Q (.ref c) H'
theorem op_catS {X : Cx} : OpR X (binaryOp .Add) (rCatS X.K) := by
  intro pins s σ H x y v u Q I rx ry h
  obtain ⟨a, b, xs, ys, rfl, rfl, hx, hy, hz, h⟩ := h
  exact op_catA pins s σ H _ _ v u Q I rx ry ⟨a, b, xs, ys, rfl, rfl, SqT.of hx, SqT.of hy, hz, fun e => h b H (.refl _) (by rw [hy, e]; rfl), fun _ e => h a H (.refl _) (by rw [hx, e, List.append_nil]), fun _ _ p np => h p _ (same_upd np) upd_same⟩
def rSlS (K : PySem.W.Frag) : V → Option Int → Option Int → Hp → VK → Prop := fun x lo hi H Q => ∃ (a : Addr) (xs : List V), x = .ref a ∧ H a = some (.tup xs) ∧ ∀ (c : Addr) (H' : Hp), Same H H' → H' c = some (.tup (cutV xs lo hi)) → Q (.ref c) H'
theorem sl_tupS {X : Cx} : SlR X (rSlS X.K) := by
  intro pins s σ H x v vl vu lo hi sl Q I rx hs pl pu h
  obtain ⟨a, xs, rfl, hx, h⟩ := h
  exact sl_tupA pins s σ H _ v vl vu lo hi sl Q I rx hs pl pu ⟨a, xs, rfl, SqT.of hx, fun e => h a H (.refl _) (by rw [hx]; unfold cutV; rw [e.1, e.2, List.drop_zero, Nat.sub_zero, List.take_length]), fun _ p np => h p _ (same_upd np) upd_same⟩
end Th
namespace Th
open PySem PySem.Spec PyProof.Rows L2
/-! names, pairs, what stays -/
abbrev nS (l : List Nat) : V := .str (SX.S l)
def Lower (l : List Nat) : Prop := ∀ c ∈ l, 97 ≤ c ∧ c ≤ 122
/-- a name: one to eight letters -/
def IsNm (l : List Nat) : Prop := 1 ≤ l.length ∧ l.length ≤ 8 ∧ Lower l
abbrev abc : Str := Str.ofString "abcdefghijklmnopqrstuvwxyz"
theorem abc_list : abc.cps.toList = (List.range 26).map (97 + ·) := by decide +kernel
theorem abc_at {d : Int} (h0 : 0 ≤ d) (h1 : d < 26) : atI abc.cps.toList d = some (97 + d.toNat) := by
  obtain ⟨j, rfl⟩ : ∃ j : Nat, d = (j : Int) := ⟨d.toNat, by omega⟩
  refine atI_nat ?_
  rw [abc_list, List.getElem?_map, List.getElem?_range (by omega)]
  rfl
theorem joinL_one : ∀ cs : List Nat, TL.joinL [] (cs.map fun c => [c]) = cs
  | [] => rfl
  | [_] => rfl
  | c :: d :: cs => by
    show [c] ++ ([] ++ TL.joinL [] ((d :: cs).map fun c => [c])) = _
    rw [joinL_one (d :: cs)]
    rfl
theorem join_signs (cs : List Nat) : Txt.join (SX.S []) ((cs.map fun c => [c]).map SX.S) = SX.S cs := by rw [SX.join_S, joinL_one]
theorem p26 : (0 : Int) < 26 := by decide
theorem paired_snoc {α β : Type} {R : α → β → Prop} : ∀ {as : List α} {bs : List β} {a : α} {b : β}, Paired R as bs → R a b → Paired R (as ++ [a]) (bs ++ [b])
  | _, _, _, _, .nil, r => .cons r .nil
  | _, _, _, _, .cons q t, r => .cons q (paired_snoc t r)
theorem paired_imp {α β : Type} {R S : α → β → Prop} : ∀ {as : List α} {bs : List β}, Paired R as bs → (∀ a ∈ as, ∀ b, R a b → S a b) → Paired S as bs
  | _, _, .nil, _ => .nil
  | _, _, .cons q t, f => .cons (f _ (List.mem_cons_self ..) _ q) (paired_imp t fun a ha b r => f a (List.mem_cons_of_mem _ ha) b r)
theorem paired_get {α β : Type} {R : α → β → Prop} : ∀ {as : List α} {bs : List β} {i : Nat} {a : α}, Paired R as bs → as[i]? = some a → ∃ b, bs[i]? = some b ∧ R a b
  | _, _, _, _, .nil, h => by simp at h
  | _, _, 0, _, .cons q t, h => by
    have e := Option.some.inj h
    subst e
    exact ⟨_, rfl, q⟩
  | _, _, i + 1, _, .cons q t, h => paired_get (i := i) t h
theorem paired_len {α β : Type} {R : α → β → Prop} : ∀ {as : List α} {bs : List β}, Paired R as bs → as.length = bs.length
  | _, _, .nil => rfl
  | _, _, .cons _ t => congrArg Nat.succ (paired_len t)
theorem one_sz {x : V} : [x].length ≤ sizeLine := by show 1 ≤ sizeLine; decide
theorem paired_append {α β : Type} {R : α → β → Prop} : ∀ {as cs : List α} {bs ds : List β}, Paired R as bs → Paired R cs ds → Paired R (as ++ cs) (bs ++ ds)
  | _, _, _, _, .nil, h => h
  | _, _, _, _, .cons q t, h => .cons q (paired_append t h)
theorem paired_take {α β : Type} {R : α → β → Prop} : ∀ {as : List α} {bs : List β} (n : Nat), Paired R as bs → Paired R (as.take n) (bs.take n)
  | _, _, 0, _ => by rw [List.take_zero, List.take_zero]; exact .nil
  | _, _, n + 1, .nil => .nil
  | _, _, n + 1, .cons q t => .cons q (paired_take n t)
theorem cut_to (xs : List V) (j : Nat) : cutV xs none (some (j : Int)) = xs.take j := by
  unfold cutV
  rw [HT.sIx_none, HT.sIx_nat, List.drop_zero, Nat.sub_zero]
  by_cases h : j ≤ xs.length
  · rw [Nat.min_eq_left h]
  · rw [Nat.min_eq_right (by omega), List.take_of_length_le (Nat.le_refl _), List.take_of_length_le (by omega)]
abbrev Nm := List Nat
def TK (H H' : Hp) : Prop := ∀ a xs, H a = some (.tup xs) → H' a = some (.tup xs)
theorem TK.of {H H' : Hp} (s : Same H H') : TK H H' := fun a xs e => s a _ e
theorem TK.trans {H H' H2 : Hp} (a : TK H H') (b : TK H' H2) : TK H H2 := fun c xs e => b c xs (a c xs e)
theorem TK.keep {p : Addr} {H H' : Hp} (k : Keep p H H') (b : Bag H p) : TK H H' := fun a xs e => k a _ (fun z => by
  obtain ⟨g, r, e', _⟩ := b
  rw [z, e'] at e
  cases e) e
theorem TK.upd {c : Addr} {H : Hp} {o : HO} (h : ∀ xs, H c ≠ some (.tup xs)) : TK H (upd H c o) := fun a xs e => by
  rw [upd_ne (fun z => h xs (by rw [← z]; exact e))]
  exact e
theorem Keep.set {p S : Addr} {H H' : Hp} {o : HO} (k : Keep p H H') (n : H S = none) : Keep p H (L2.upd H' S o) := fun c o nc ec => by
  rw [upd_ne (ne_of_none ec n)]
  exact k c o nc ec
theorem same_set {S : Addr} {H H' : Hp} {o : HO} (k : Same H H') (n : H S = none) : Same H (upd H' S o) := fun c o ec => by
  rw [upd_ne (ne_of_none ec n)]
  exact k c o ec
theorem two_sz {x y : V} : [x, y].length ≤ sizeLine := by show 2 ≤ sizeLine; decide
theorem four_sz {x y z u : V} : [x, y, z, u].length ≤ sizeLine := by show 4 ≤ sizeLine; decide
theorem paired_drop {α β : Type} {R : α → β → Prop} : ∀ {as : List α} {bs : List β} (n : Nat), Paired R as bs → Paired R (as.drop n) (bs.drop n)
  | _, _, 0, h => h
  | _, _, n + 1, .nil => .nil
  | _, _, n + 1, .cons q t => paired_drop n t
theorem paired_ins {α β : Type} {R : α → β → Prop} {as : List α} {bs : List β} (n : Nat) {a : α} {b : β} (h : Paired R as bs) (r : R a b) : Paired R (as.take n ++ [a] ++ as.drop n) (bs.take n ++ [b] ++ bs.drop n) :=
  paired_append (paired_append (paired_take n h) (.cons r .nil)) (paired_drop n h)
theorem perm_ins {α : Type} (xs : List α) (n : Nat) (x : α) : (xs.take n ++ [x] ++ xs.drop n).Perm (xs ++ [x]) := by
  have h1 : (xs.take n ++ [x] ++ xs.drop n).Perm (x :: (xs.take n ++ xs.drop n)) := by
    rw [List.append_assoc]
    exact List.perm_middle
  rw [List.take_append_drop] at h1
  exact h1.trans (List.perm_append_comm (l₁ := [x]) (l₂ := xs))
theorem ins_map {xs : List Addr} {n : Nat} {x : Addr} : (xs.map V.ref).take n ++ [V.ref x] ++ (xs.map V.ref).drop n = (xs.take n ++ [x] ++ xs.drop n).map V.ref := by
  simp only [List.map_append, List.map_take, List.map_drop, List.map_cons, List.map_nil]
theorem nodup_inj {α : Type} {zs : List α} (h : zs.Nodup) {x y : Nat} {z : α} (h1 : zs[x]? = some z) (h2 : zs[y]? = some z) : x = y := by
  rw [List.nodup_iff_pairwise_ne, List.pairwise_iff_getElem] at h
  obtain ⟨l1, g1⟩ := List.getElem?_eq_some_iff.mp h1
  obtain ⟨l2, g2⟩ := List.getElem?_eq_some_iff.mp h2
  rcases Nat.lt_trichotomy x y with c | c | c
  · exact absurd (g1.trans g2.symm) (h x y l1 l2 c)
  · exact c
  · exact absurd (g2.trans g1.symm) (h y x l2 l1 c)
theorem nm_ok {z : Nm} (h : IsNm z) : PyData.strOk (SX.S z) = true := by
  unfold PyData.strOk
  rw [Array.all_eq_true']
  intro c hc
  have hc : c ∈ z := by simpa [SX.S] using hc
  have := h.2.2 c hc
  exact decide_eq_true (by omega)
end Th
/-! tuples told with their objects; dict of such; sorted of data -/
namespace Th
open PySem PySem.Spec PyProof.Rows L2
/-- the tuple xs at a, its object known to be plain -/
def TpF (H : Hp) (a : Addr) (xs : List V) : Prop := ∃ o : Obj, H a = some (.frz o (.tup xs)) ∧ o.dict = none
theorem TpF.sq {K : PySem.W.Frag} {H : Hp} {a : Addr} {xs : List V} (h : TpF H a xs) : SqT K H a xs := let ⟨o, e, _⟩ := h; .inl (.inr ⟨o, e⟩)
theorem TpF.same {H H' : Hp} {a : Addr} {xs : List V} (h : TpF H a xs) (s : Same H H') : TpF H' a xs := let ⟨o, e, d⟩ := h; ⟨o, s _ _ e, d⟩
theorem TpF.keep {p : Addr} {H H' : Hp} {a : Addr} {xs : List V} (h : TpF H a xs) (k : Keep p H H') (b : Bag H p) : TpF H' a xs := by
  obtain ⟨o, e, d⟩ := h
  refine ⟨o, k _ _ (fun z => ?_) e, d⟩
  obtain ⟨g, r, e', _⟩ := b
  rw [z, e'] at e
  cases e
def rTupF (K : PySem.W.Frag) : List V → Hp → VK → Prop := fun xs H Q => ∃ (p : Addr) (ys : List V), xs = [.ref p] ∧ SqL K H p ys ∧ ∀ (l : Addr) (H' : Hp), H l = none → Same H H' → TpF H' l ys → (∀ q, q ≠ l → H' q = H q) → Q (.ref l) H'
theorem call_tuple_ofF {X : Cx} : CallR X (.type "tuple") (rTupF X.K) := by
  intro pins s σ H xs us Q I r h
  obtain ⟨p, ys, rfl, hq, q⟩ := h
  obtain ⟨u, rfl, rx⟩ := vals1 r
  cases rx
  obtain ⟨its, r', pl, hz⟩ := I.list hq
  have hlen := r'.length
  refine call_tuple_list pl.isList (fun h' kp => ?_) (by simp only [List.size_toArray] <;> omega)
  have I1 : Inv X pins σ H { s with heap := h' } := I.kept (t' := s.toks) kp
  have I2 : Inv X pins σ (upd H h'.objs.size (.frz { cls := .type "tuple", data := .seq its.toArray } (.tup ys))) { s with heap := h'.push { cls := .type "tuple", data := .seq its.toArray } } :=
    I1.laid (t' := s.toks) (fun b o e => Heap.get?_push_of_some _ e) (Nat.le_refl _) (show ObjOk X.prog X.w _ _ _ (.frz _ (.tup ys)) from ⟨Heap.get?_push_size _ rfl, hz, its, r', IsTup.new _ _⟩)
  have nl := I1.hok.fresh (Nat.le_refl h'.objs.size)
  exact ⟨.ref h'.objs.size, _, I2, rfl, q _ _ nl (same_upd nl) ⟨_, upd_same, rfl⟩ fun q hq => upd_ne hq⟩
theorem choose_list {α β : Type} : ∀ {xs : List α} {R : Nat → α → β → Prop}, (∀ j x, xs[j]? = some x → ∃ y, R j x y) → ∃ ys : List β, ys.length = xs.length ∧ ∀ j y, ys[j]? = some y → ∃ x, xs[j]? = some x ∧ R j x y
  | [], _, _ => ⟨[], rfl, fun j y e => by simp at e⟩
  | x :: xs, R, h => by
    obtain ⟨y, hy⟩ := h 0 x rfl
    obtain ⟨ys, h1, h2⟩ := choose_list (xs := xs) (R := fun j => R (j + 1)) fun j x e => h (j + 1) x e
    refine ⟨y :: ys, by rw [List.length_cons, h1, List.length_cons], fun j z e => ?_⟩
    match j, e with
    | 0, e =>
      have : y = z := Option.some.inj e
      subst this
      exact ⟨x, rfl, hy⟩
    | j + 1, e => exact h2 j z e
def rDictF (K : PySem.W.Frag) : List V → Hp → VK → Prop := fun xs H Q => ∃ (a : Addr) (ps : List Addr) (kvs : List (Key × V)), xs = [.ref a] ∧ TpF H a (ps.map V.ref) ∧ Paired (fun p kv => SqT K H p [kV kv.1, kv.2]) ps kvs ∧
    ∀ p, H p = none → Q (.ref p) (upd H p (.dK (mergeK [] kvs)))
theorem call_dictF {X : Cx} (hcalm : X.calm = true) : CallR X (.type "dict") (rDictF X.K) := by
  intro pins s σ H xs us Q I r h
  obtain ⟨a, ps, kvs, rfl, ⟨ob, hob, hnd⟩, hp, q⟩ := h
  obtain ⟨u, rfl, rx⟩ := vals1 r
  cases rx
  obtain ⟨hg, hz, its, rv, o', ho', hc, n, hdat⟩ := (show ObjOk X.prog X.w H s.heap a (.frz ob (.tup (ps.map V.ref))) from I.hok a _ hob)
  rw [hg] at ho'
  cases ho'
  have ei := refs_at rv
  subst ei
  rw [List.length_map] at hz
  obtain ⟨prs, rel, hl, hpr⟩ := pairs_of I hp
  obtain ⟨vv, hvl, hvv⟩ := choose_list (R := fun j (q : Key × Value) (k : Value) => ∃ b, ps[j]? = some b ∧ IsTup s.heap b #[k, q.2] ∧ keyIs q.1 k = true) (xs := prs) fun j q e => let ⟨b, u, h⟩ := hpr j q e; ⟨u, b, h⟩
  have len : (vv.zip (prs.map (·.2))).length = ps.length := by rw [List.length_zip, List.length_map, hvl, hl]; omega
  have each : ∀ j k v, (vv.zip (prs.map (·.2)))[j]? = some (k, v) → ∃ (b : Addr) (q : Key × Value), ps[j]? = some b ∧ prs[j]? = some q ∧ v = q.2 ∧ IsTup s.heap b #[k, v] ∧ keyIs q.1 k = true := fun j k v e => by
    rw [List.getElem?_zip_eq_some, List.getElem?_map] at e
    obtain ⟨q, hq, b, h1, h2, h3⟩ := hvv j k e.1
    rw [hq] at e
    have : q.2 = v := Option.some.inj e.2
    subst this
    exact ⟨b, q, h1, hq, rfl, h2, h3⟩
  have P := PairArg.tuple (prog := X.prog) (w := X.w) a (ps.map Value.ref).toArray (fun j => ps.getD j 0) (vv.zip (prs.map (·.2)))
  refine PySem.call_dict_pairs (knd := mixKind X.prog X.w) (kvs := prs) P (I.ok.hd hcalm) ⟨⟨ob, n, hg, hc, hnd, hdat⟩, ?_, fun j k v e => ?_⟩ ⟨by rw [len, hl], fun j k v e => ?_⟩ ?_ fun h' tk hd' k => ?_
  · rw [List.size_toArray, List.length_map, len]
  · obtain ⟨b, q, h1, h2, h3, h4, h5⟩ := each j k v e
    refine ⟨?_, .inl ?_⟩
    · show (ps.map Value.ref).toArray[j]? = some (Value.ref (ps.getD j 0))
      rw [List.getD_eq_getElem?_getD, h1]
      simp [h1]
    · show s.heap.IsTuple (ps.getD j 0) #[k, v]
      rw [List.getD_eq_getElem?_getD, h1]
      exact h4
  · obtain ⟨b, q, h1, h2, h3, h4, h5⟩ := each j k v e
    exact ⟨q.1, by rw [h2, h3], h5⟩
  · rw [len]
    exact hz
  · have hm : (s.heap.objs.size == sysModules) = false := beq_eq_false_iff_ne.mpr (Nat.ne_of_gt I.big)
    have hlen : (mergeK [] kvs).length ≤ sizeLine := by
      refine Nat.le_trans (length_mergeK kvs []) ?_
      rw [List.length_nil, Nat.zero_add, rel.length, hl]
      exact hz
    exact ⟨.ref s.heap.objs.size, upd H s.heap.objs.size (.dK (mergeK [] kvs)), I.laid (t' := tk) (fun b o e => k b o (by simp) e) (Nat.le_refl _) (show ObjOk X.prog X.w _ _ _ (.dK (mergeK [] kvs)) from ⟨hlen, hm, merged [] prs, KV.merge rel .nil, hd'⟩), rfl, q _ (I.hok.fresh (Nat.le_refl _))⟩
/-- what such a dict tells, the keys unlike -/
theorem val_mergeK : ∀ (kvs acc : List (Key × V)) (k : Key), valV (mergeK acc kvs) k = match kvs.reverse.find? (fun p => decide (p.1 = k)) with | some p => some p.2 | none => valV acc k
  | [], acc, k => rfl
  | p :: kvs, acc, k => by
    show valV (mergeK (putK acc p.1 p.2) kvs) k = _
    rw [val_mergeK kvs, valV_put, List.reverse_cons, List.find?_append]
    cases h : kvs.reverse.find? (fun p => decide (p.1 = k)) with
    | some q => rfl
    | none =>
      show (if k = p.1 then some p.2 else valV acc k) = _
      by_cases c : k = p.1
      · rw [if_pos c]
        simp [c]
      · rw [if_neg c]
        have : ¬ p.1 = k := fun e => c e.symm
        simp [this]
theorem val_merge_nd {kvs : List (Key × V)} (nd : (kvs.map (·.1)).Nodup) {k : Key} {v : V} (h : (k, v) ∈ kvs) : valV (mergeK [] kvs) k = some v := by
  rw [val_mergeK]
  have : kvs.reverse.find? (fun p => decide (p.1 = k)) = some (k, v) := by
    cases f : kvs.reverse.find? (fun p => decide (p.1 = k)) with
    | none =>
      have := List.find?_eq_none.mp f (k, v) (List.mem_reverse.mpr h)
      simp at this
    | some q =>
      have hq : q.1 = k := by
        have := List.find?_some f
        exact of_decide_eq_true this
      have hm : q ∈ kvs := List.mem_reverse.mp (List.mem_of_find?_eq_some f)
      obtain ⟨i, hi⟩ := List.getElem?_of_mem h
      obtain ⟨j, hj⟩ := List.getElem?_of_mem hm
      have e1 : (kvs.map (·.1))[i]? = some k := by rw [List.getElem?_map, hi]; rfl
      have e2 : (kvs.map (·.1))[j]? = some k := by rw [List.getElem?_map, hj, ← hq]; rfl
      have l1 := (List.getElem?_eq_some_iff.mp e1).1
      have ij : i = j := (List.getElem?_inj l1 nd).mp (e1.trans e2.symm)
      subst ij
      rw [hi] at hj
      exact hj.symm
  rw [this]
/-- sorted of data -/
def rSortD {β : Type} (enc : β → PyData) (K : PySem.W.Frag) : List V → Hp → VK → Prop := fun vs H Q => ∃ (a : Addr) (xs : List V) (bs : List β) (R : V → β → Prop), vs = [.ref a] ∧ SqL K H a xs ∧ Paired R xs bs ∧ (∀ v b, b ∈ bs → R v b → Dp K H v (enc b)) ∧ PySem.W.AllAlike (bs.map enc) ∧ PySem.W.Sortable (bs.map enc) ∧ (∀ b ∈ bs, (enc b).depth ≤ 60) ∧
  ∀ (p : Addr) (ys : List V), H p = none → Paired R ys (bs.mergeSort (PySem.W.dataLe false enc)) → Q (.ref p) (upd H p (.lst ys))
theorem each_of {β : Type} {R : V → β → Prop} {S : Value → β → Prop} : ∀ {xs : List V} {us : List Value} {bs : List β}, Vals xs us → Paired R xs bs → (∀ v u b, b ∈ bs → RelV v u → R v b → S u b) → PySem.W.EachIs S us bs
  | _, _, _, .nil, .nil, _ => .nil
  | _, _, _, .cons r rs, .cons h hs, k => .cons (k _ _ _ List.mem_cons_self r h) (each_of rs hs fun v u b hb => k v u b (List.mem_cons_of_mem _ hb))
theorem of_each {β : Type} {R : V → β → Prop} : ∀ {us : List Value} {bs : List β}, PySem.W.EachIs (fun u b => ∃ v, RelV v u ∧ R v b) us bs → ∃ xs, Vals xs us ∧ Paired R xs bs
  | _, _, .nil => ⟨[], .nil, .nil⟩
  | _, _, .cons ⟨v, r, h⟩ hs => let ⟨xs, h1, h2⟩ := of_each hs; ⟨v :: xs, .cons r h1, .cons h h2⟩
theorem cr_sortD {X : Cx} {β : Type} (enc : β → PyData) (hu : X.A.units + 64 < cLine) : CallR X (.builtin "sorted") (rSortD enc X.K) := by
  intro pins s σ H vs us Q I r h
  obtain ⟨a, xs, bs, R, rfl, hs, hR, hd, hal, hk, hdep, q⟩ := h
  obtain ⟨its, rv, hl, hz⟩ := I.list hs
  rw [Vals.ref1 r]
  have lb : its.length = bs.length := by rw [← rv.length, hR.length]
  refine PySem.W.sorted_data (enc := enc) (bs := bs) (R := fun u b => ∃ v, RelV v u ∧ R v b) hl.isList (each_of rv hR fun v u b _ r h => ⟨v, r, h⟩) (each_of rv hR fun v u b hb r h => Dp.reads I (enc b) v u (hd v b hb h) r) hal hk (by rw [← lb, ← rv.length]; exact hz) (fun b hb => by have := hdep b hb; omega) fun out hlen hout => ?_
  obtain ⟨ys, h1, h2⟩ := of_each hout
  obtain ⟨ep, he⟩ := sortedAll_at s.heap its out.toArray
  have hly : ys.length ≤ sizeLine := by
    rw [h1.length, hlen, ← lb, ← rv.length]
    exact hz
  exact ⟨.ref _, upd H (s.heap.objs.size + 1) (.lst ys), I.laid (t' := s.toks) (fun _ _ => sortedAll_old) (Nat.le_succ _) (show ObjOk X.prog X.w _ _ _ (.lst ys) from ⟨hly, out, ep, h1, he⟩), rfl, q _ ys (I.hok.fresh (Nat.le_succ _)) h2⟩
end Th
/-! list(zip(xs, ys)), xs and ys lists of one length: a new list of new tuples -/
namespace Lz
open PySem PySem.Spec PyProof.Rows L2
theorem no_len : typeLookup (.type "zip") "__len__" = pure none := am_miss_of_fast (by decide +kernel)
theorem no_hint : typeLookup (.type "zip") "__length_hint__" = pure none := am_miss_of_fast (by decide +kernel)
structure ZS (z TI TO i1 i2 l1 l2 S : Addr) (xs ys : Array Value) (i : Nat) (h : Heap) : Prop where
  ti : IsPair h TI (.ref i1) (.ref i2)
  a1 : h.IsListIter i1 l1 i
  a2 : h.IsListIter i2 l2 i
  b1 : h.IsList l1 xs
  b2 : h.IsList l2 ys
  zz : (IsZip h z TI TO .none ∧ ∃ a b, IsPair h TO a b) ∨ ∃ T f oT, IsZipHeld h z TI TO T f ∧ h.get? T = some oT ∧ T ≠ z ∧ T ≠ i1 ∧ T ≠ i2 ∧ T ≠ S
structure Off (z TI TO i1 i2 l1 l2 S : Addr) : Prop where
  z : z ≠ S
  ti : TI ≠ S
  to' : TO ≠ S
  i1 : i1 ≠ S
  i2 : i2 ≠ S
  l1 : l1 ≠ S
  l2 : l2 ≠ S
theorem ZS.frame {z TI TO i1 i2 l1 l2 S : Addr} {xs ys : Array Value} {i : Nat} {h h' : Heap} (O : Off z TI TO i1 i2 l1 l2 S) (st : ZS z TI TO i1 i2 l1 l2 S xs ys i h) (hk : ∀ b o, b ≠ S → h.get? b = some o → h'.get? b = some o) : ZS z TI TO i1 i2 l1 l2 S xs ys i h' := by
  refine ⟨hk _ _ O.ti st.ti, st.a1.at fun o e => hk _ o O.i1 e, st.a2.at fun o e => hk _ o O.i2 e, st.b1.at fun o e => hk _ o O.l1 e, st.b2.at fun o e => hk _ o O.l2 e, ?_⟩
  rcases st.zz with ⟨hz, a, b, hTO⟩ | ⟨T, f, oT, hz, hT, r1, r2, r3, r4⟩
  · exact .inl ⟨hk _ _ O.z hz, a, b, hk _ _ O.to' hTO⟩
  · exact .inr ⟨T, f, oT, hk _ _ O.z hz, hk _ _ r4 hT, r1, r2, r3, r4⟩
structure ZG (xs ys : Array Value) (lo : Addr) (h : Heap) (as : List Addr) : Prop where
  rise : as.Pairwise (· < ·)
  above : ∀ a ∈ as, lo < a
  pairs : ∀ (j : Nat) (a : Addr), as[j]? = some a → ∃ x y, xs[j]? = some x ∧ ys[j]? = some y ∧ h.get? a = some { cls := .type "tuple", data := .seq #[x, y] }
theorem ZG.there {xs ys : Array Value} {lo : Addr} {h : Heap} {as : List Addr} (g : ZG xs ys lo h as) {a : Addr} (ha : a ∈ as) : a < h.objs.size := by
  obtain ⟨j, hj⟩ := List.mem_iff_getElem?.mp ha
  obtain ⟨_, _, _, _, e⟩ := g.pairs j a hj
  exact Heap.lt_size e
section
variable {prog : Program} {w : World} {A : Around} {E : Value → Shared → Prop} {s : Shared} {z TI TO i1 i2 l1 l2 S : Addr} {xs ys : Array Value} {i : Nat}
theorem z_item {x y : Value} {Q : Option Value → Shared → Prop} (D : ZipApart z TI TO i1 i2 l1 l2) (st : ZS z TI TO i1 i2 l1 l2 S xs ys i s.heap) (hS : S < s.heap.objs.size) (ex : xs[i]? = some x) (ey : ys[i]? = some y)
    (hQ : ∀ h', ZS z TI TO i1 i2 l1 l2 S xs ys (i + 1) h' → IsPair h' s.heap.objs.size x y → (∀ c o, c ≠ z → c ≠ TO → c ≠ i1 → c ≠ i2 → s.heap.get? c = some o → h'.get? c = some o) → Q (some (.ref s.heap.objs.size)) { s with heap := h' }) :
    wpAny (model prog w) A (pyNext (.ref z)) Q E s := by
  obtain ⟨hTI, h1, h2, hl1, hl2, hz⟩ := st
  have lt : ∀ {c o}, s.heap.get? c = some o → s.heap.objs.size ≠ c := fun e => Nat.ne_of_gt (Heap.lt_size e)
  have n1 : s.heap.objs.size ≠ i1 := let ⟨_, e, _⟩ := h1; lt e
  have n2 : s.heap.objs.size ≠ i2 := let ⟨_, e, _⟩ := h2; lt e
  rcases hz with ⟨hz, a, b, hTO⟩ | ⟨T, f, oT, hz, hT, r1, r2, r3, r4⟩
  · refine wpAny_pyNext_zip_item D hz hTI hTO h1 h2 hl1 hl2 ex ey fun h' a1 a2 a3 a4 a5 a6 hk => ?_
    exact hQ h' ⟨hk _ _ D.TIz D.TITO D.TIi1 D.TIi2 hTI, a3, a4, hl1.at fun o e => hk _ o D.l1z D.l1TO D.l1i1 D.l1i2 e, hl2.at fun o e => hk _ o D.l2z D.l2TO D.l2i1 D.l2i2 e, .inr ⟨s.heap.objs.size, false, _, a1, a5, lt hz, n1, n2, Nat.ne_of_gt hS⟩⟩ a5 hk
  · refine wpAny_pyNext_zip_item_held D hz hT hTI h1 h2 hl1 hl2 ex ey fun h' a1 a3 a4 a5 a6 hk => ?_
    exact hQ h' ⟨hk _ _ D.TIz D.TIi1 D.TIi2 hTI, a3, a4, hl1.at fun o e => hk _ o D.l1z D.l1i1 D.l1i2 e, hl2.at fun o e => hk _ o D.l2z D.l2i1 D.l2i2 e, .inr ⟨T, true, oT, a1, hk _ _ r1 r2 r3 hT, r1, r2, r3, r4⟩⟩ a5 fun c o c1 _ c3 c4 e => hk c o c1 c3 c4 e
theorem z_done {Q : Option Value → Shared → Prop} (hA : A.handled = none) (D : ZipApart z TI TO i1 i2 l1 l2) (st : ZS z TI TO i1 i2 l1 l2 S xs ys i s.heap) (hend : xs[i]? = none ∨ ys[i]? = none)
    (hQ : ∀ h', (∀ c o, c ≠ z → c ≠ TO → c ≠ i1 → c ≠ i2 → s.heap.get? c = some o → h'.get? c = some o) → Q none { s with heap := h' }) : wpAny (model prog w) A (pyNext (.ref z)) Q E s := by
  obtain ⟨hTI, h1, h2, hl1, hl2, hz⟩ := st
  rcases hz with ⟨hz, a, b, hTO⟩ | ⟨T, f, oT, hz, hT, r1, r2, r3, r4⟩
  · exact wpAny_pyNext_zip_end hA D hz hTI hTO h1 h2 hl1 hl2 hend fun h' hk => hQ h' hk
  · exact wpAny_pyNext_zip_end_held hA D hz hT hTI h1 h2 hl1 hl2 hend fun h' hk => hQ h' fun c o c1 _ c3 c4 e => hk c o c1 c3 c4 e
theorem z_loop {R : Result → Shared → Prop} (hh : A.handled = none) (D : ZipApart z TI TO i1 i2 l1 l2) (O : Off z TI TO i1 i2 l1 l2 S) (lz : z < S) (lt : TO < S) (li1 : i1 < S) (li2 : i2 < S) {n : Nat} (hx : xs.size = n) (hy : ys.size = n) (hn : n ≤ sizeLine) (res : Value) {h₁ : Heap}
    (hR : ∀ h' tk acc c as, (∀ b o, b ≠ S → b ≠ z → b ≠ TO → b ≠ i1 → b ≠ i2 → h₁.get? b = some o → h'.get? b = some o) → h'.get? S = some { cls := .type "list", dict := none, data := .seq acc c, slots := #[] } → as.length = n → ZG xs ys S h' as →
      acc.toList = as.map Value.ref → R (.ok (.ret res)) { s with heap := h', toks := tk }) :
    ∀ (k i : Nat) (h : Heap) (tk c : Nat) (acc : Array Value) (as : List Addr), n - i = k → i ≤ n → ZS z TI TO i1 i2 l1 l2 S xs ys i h → (∀ b o, b ≠ S → b ≠ z → b ≠ TO → b ≠ i1 → b ≠ i2 → h₁.get? b = some o → h.get? b = some o) →
      h.get? S = some { cls := .type "list", dict := none, data := .seq acc c, slots := #[] } → acc.toList = as.map Value.ref → as.length = i → ZG xs ys S h as →
      codeAny (model prog w) A (.builtin "list.extend.loop" ⟨[.ref S, .ref z, res], []⟩) R { s with heap := h, toks := tk } := by
  intro k
  induction k with
  | zero =>
    intro i h tk c acc as hk hi hst hkeep hS hacc hal hG
    refine codeAny_builtin PySem.F.entry_extend_loop ?_
    rw [Around.under_plainId PySem.F.plain_extend_loop _]
    show wpAny _ A.in1 (pyNext (.ref z) >>= _) _ _ _
    refine wpAny_bind (z_done (s := { s with heap := h, toks := tk }) (A := A.in1) hh D hst (.inl (Array.getElem?_eq_none (by omega))) fun h' he => ?_)
    refine wpAny_pure (hR h' tk acc c as (fun b o h1 h2 h3 h4 h5 e => he b o h2 h3 h4 h5 (hkeep b o h1 h2 h3 h4 h5 e)) (he S _ O.z.symm O.to'.symm O.i1.symm O.i2.symm hS) (by omega) ⟨hG.rise, hG.above, fun j a hj => ?_⟩ hacc)
    obtain ⟨x, y, e1, e2, e3⟩ := hG.pairs j a hj
    have ab := hG.above a (List.mem_of_getElem? hj)
    exact ⟨x, y, e1, e2, he a _ (Nat.ne_of_gt (Nat.lt_trans lz ab)) (Nat.ne_of_gt (Nat.lt_trans lt ab)) (Nat.ne_of_gt (Nat.lt_trans li1 ab)) (Nat.ne_of_gt (Nat.lt_trans li2 ab)) e3⟩
  | succ k ih =>
    intro i h tk c acc as hk hi hst hkeep hS hacc hal hG
    have hlt : i < n := by omega
    obtain ⟨x, ex⟩ : ∃ p, xs[i]? = some p := ⟨xs[i], Array.getElem?_eq_getElem (by omega)⟩
    obtain ⟨y, ey⟩ : ∃ p, ys[i]? = some p := ⟨ys[i], Array.getElem?_eq_getElem (by omega)⟩
    have hsz : acc.size = i := by rw [← Array.length_toList, hacc, List.length_map, hal]
    have hSl : S < h.objs.size := Heap.lt_size hS
    refine codeAny_builtin PySem.F.entry_extend_loop ?_
    rw [Around.under_plainId PySem.F.plain_extend_loop _]
    show wpAny _ A.in1 (pyNext (.ref z) >>= _) _ _ _
    refine wpAny_bind (z_item (s := { s with heap := h, toks := tk }) (S := S) D hst hSl ex ey fun h' hst' ht hkp => ?_)
    dsimp only at ht hkp ⊢
    have hS' := hkp S _ O.z.symm O.to'.symm O.i1.symm O.i2.symm hS
    have up : ∀ b o, b ≠ S → h'.get? b = some o → (h'.update S (Obj.mapSeq (·.push (Value.ref h.objs.size)))).get? b = some o := fun b o hb e => (Heap.get?_update_other _ _ (Ne.symm hb)).trans e
    show wpAny _ A.in1 (updateSeq S (·.push (Value.ref h.objs.size)) >>= _) _ _ _
    refine wpAny_bind ?_
    refine wpAny_updateSeq hS' rfl (wpAny_pure ⟨plainId_quiet PySem.F.plain_extend_loop _, ih (i + 1) _ tk _ (acc.push (Value.ref h.objs.size)) (as ++ [h.objs.size]) (by omega) hlt (hst'.frame O up)
      (fun b o h1 h2 h3 h4 h5 e => up b o h1 (hkp b o h2 h3 h4 h5 (hkeep b o h1 h2 h3 h4 h5 e))) (Heap.get?_update_self _ hS' rfl) (by rw [Array.toList_push, hacc, List.map_append]; rfl) (by rw [List.length_append, hal]; rfl) ⟨?_, ?_, ?_⟩⟩) (by rw [hsz]; omega) (by show (acc.push (Value.ref h.objs.size)).size ≤ sizeLine + 1; rw [Array.size_push, hsz]; omega)
    · refine List.pairwise_append.mpr ⟨hG.rise, List.pairwise_singleton _ _, fun a ha b hb => ?_⟩
      rw [List.mem_singleton.mp hb]
      exact hG.there ha
    · intro a ha
      rcases List.mem_append.mp ha with ha | ha
      · exact hG.above a ha
      · rw [List.mem_singleton.mp ha]
        exact hSl
    · intro j b hj
      rcases Nat.lt_trichotomy j as.length with h1 | h1 | h1
      · rw [List.getElem?_append_left h1] at hj
        obtain ⟨x', y', e1, e2, e3⟩ := hG.pairs j b hj
        have ab := hG.above b (List.mem_of_getElem? hj)
        exact ⟨x', y', e1, e2, up b _ (Nat.ne_of_gt ab) (hkp b _ (Nat.ne_of_gt (Nat.lt_trans lz ab)) (Nat.ne_of_gt (Nat.lt_trans lt ab)) (Nat.ne_of_gt (Nat.lt_trans li1 ab)) (Nat.ne_of_gt (Nat.lt_trans li2 ab)) e3)⟩
      · subst h1
        have hb : h.objs.size = b := by simpa using hj
        subst hb
        exact ⟨x, y, by rw [hal]; exact ex, by rw [hal]; exact ey, up _ _ (Nat.ne_of_gt hSl) ht⟩
      · have hnone : (as ++ [h.objs.size])[j]? = none := List.getElem?_eq_none (by rw [List.length_append, List.length_singleton]; omega)
        rw [hnone] at hj
        cases hj
theorem z_hint (hT : s.TypeIs (.ref z) "zip") {Q : Bool → Shared → Prop} (h : Q true s) : wpAny (model prog w) A (Builtin.List.listLengthHint (.ref z)) Q E s := by
  unfold Builtin.List.listLengthHint
  refine wpAny_bind (wpAny_specialOf hT no_len ?_)
  show wpAny _ _ (specialOf (Value.ref z) (Str.ofString "__length_hint__") >>= _) _ _ _
  refine wpAny_bind (wpAny_specialOf hT no_hint ?_)
  exact wpAny_pure h
theorem z_extend {R : Result → Shared → Prop} (hh : A.handled = none) (D : ZipApart z TI TO i1 i2 l1 l2) (O : Off z TI TO i1 i2 l1 l2 S) (lz : z < S) (lt : TO < S) (li1 : i1 < S) (li2 : i2 < S) {n : Nat} (hx : xs.size = n) (hy : ys.size = n) (hn : n ≤ sizeLine) (res : Value) (c₀ : Nat)
    (hz : IsZip s.heap z TI TO .none) (st : ZS z TI TO i1 i2 l1 l2 S xs ys 0 s.heap) (hS : s.heap.get? S = some { cls := .type "list", data := .seq #[] c₀ })
    (hR : ∀ h' tk acc c as, (∀ b o, b ≠ S → b ≠ z → b ≠ TO → b ≠ i1 → b ≠ i2 → s.heap.get? b = some o → h'.get? b = some o) → h'.get? S = some { cls := .type "list", dict := none, data := .seq acc c, slots := #[] } → as.length = n → ZG xs ys S h' as →
      acc.toList = as.map Value.ref → R (.ok (.ret res)) { s with heap := h', toks := tk }) :
    wpAny (model prog w) A.in1 (Builtin.List.listExtendWith (.ref S) (.ref z) res)
      (fun fin s' => match fin with | .done f => R (.ok f) s' | .again c' => c'.quiet = true ∧ codeAny (model prog w) A c' R s') (fun e s' => R (.error e) s') s := by
  have hT : s.TypeIs (.ref z) "zip" := ⟨_, hz, rfl⟩
  have key : ∀ (h : Heap) (c₁ tk : Nat), (∀ b o, b ≠ S → s.heap.get? b = some o → h.get? b = some o) → h.get? S = some { cls := .type "list", data := .seq #[] c₁ } → codeAny (model prog w) A (.builtin "list.extend.loop" ⟨[.ref S, .ref z, res], []⟩) R { s with heap := h, toks := tk } := by
    intro h c₁ tk hk hS₁
    exact z_loop (s := s) (h₁ := s.heap) hh D O lz lt li1 li2 hx hy hn res hR n 0 h tk c₁ #[] [] (Nat.sub_zero _) (Nat.zero_le _) (st.frame O hk) (fun b o hb _ _ _ _ e => hk b o hb e) hS₁ rfl rfl ⟨List.Pairwise.nil, (fun _ ha => nomatch ha), (fun j a hj => by simp at hj)⟩
  unfold Builtin.List.listExtendWith
  refine wpAny_bind (wpAny_typeOf (T := "zip") hT ?_)
  have h1 : Builtin.List.listSameRef (.ref S) (.ref z) = false := by simp [Builtin.List.listSameRef, O.z.symm]
  have h2 : (Value.type "zip" == Value.type "list") = false := by decide
  have h3 : (Value.type "zip" == Value.type "tuple") = false := by decide
  simp only [h1, h2, h3, Bool.or_false, Bool.false_eq_true, if_false]
  refine wpAny_bind (wpAny_pyIter_zip hz ?_)
  refine wpAny_bind (wpAny_holding (z_hint hT ?_))
  refine wpAny_ite_split (fun _ => ?_) (fun _ => wpAny_pure ⟨plainId_quiet PySem.F.plain_extend_loop _, key _ c₀ _ (fun b o _ e => e) hS⟩)
  refine wpAny_bind (wpAny_rule ?_)
  refine wpAny_bind ?_
  show wpAny _ _ (updateSeq S (·.push .none) >>= fun _ => updateSeq S (·.pop)) _ _ _
  refine wpAny_bind (wpAny_updateSeq hS rfl ?_)
  have hS₂ := Heap.get?_update_self (Obj.mapSeq (·.push Value.none)) hS rfl
  refine wpAny_updateSeq (hz := by seq_fits) hS₂ rfl ?_
  have hS₃ := Heap.get?_update_self (Obj.mapSeq (·.pop)) hS₂ rfl
  refine wpAny_pure ⟨plainId_quiet PySem.F.plain_extend_loop _, key _ _ _ (fun b o hb e => ?_) hS₃⟩
  exact (Heap.get?_update_other _ _ (Ne.symm hb)).trans ((Heap.get?_update_other _ _ (Ne.symm hb)).trans e)
theorem z_init {R : Result → Shared → Prop} (hh : A.handled = none) (D : ZipApart z TI TO i1 i2 l1 l2) (O : Off z TI TO i1 i2 l1 l2 S) (lz : z < S) (lt : TO < S) (li1 : i1 < S) (li2 : i2 < S) {n : Nat} (hx : xs.size = n) (hy : ys.size = n) (hn : n ≤ sizeLine)
    (hz : IsZip s.heap z TI TO .none) (st : ZS z TI TO i1 i2 l1 l2 S xs ys 0 s.heap) (hS : s.heap.get? S = some { cls := .type "list", data := .seq #[] })
    (hR : ∀ h' tk acc c as, (∀ b o, b ≠ S → b ≠ z → b ≠ TO → b ≠ i1 → b ≠ i2 → s.heap.get? b = some o → h'.get? b = some o) → h'.get? S = some { cls := .type "list", dict := none, data := .seq acc c, slots := #[] } → as.length = n → ZG xs ys S h' as →
      acc.toList = as.map Value.ref → R (.ok (.ret .none)) { s with heap := h', toks := tk }) :
    wpAny (model prog w) A.in1 (Builtin.«list.__init__» ⟨[.ref S, .ref z], []⟩)
      (fun fin s' => match fin with | .done f => R (.ok f) s' | .again c' => c'.quiet = true ∧ codeAny (model prog w) A c' R s') (fun e s' => R (.error e) s') s := by
  show wpAny _ _ (do let old ← Builtin.List.listItems (.ref S); Builtin.List.listUpdate (.ref S) (fun _ => #[]); letGo old.toList.reverse; Builtin.List.listExtendWith (.ref S) (.ref z) .none) _ _ s
  refine wpAny_bind ?_
  unfold Builtin.List.listItems
  refine wpAny_bind (wpAny_seqItems hS rfl (wpAny_pure ?_))
  show wpAny _ _ (updateSeq S (fun _ => #[]) >>= fun _ => letGo (#[] : Array Value).toList.reverse >>= fun _ => Builtin.List.listExtendWith (.ref S) (.ref z) .none) _ _ s
  refine wpAny_bind (wpAny_updateSeq hS rfl ?_)
  have hS₂ := Heap.get?_update_self (Obj.mapSeq (fun _ => (#[] : Array Value))) hS rfl
  have oth : ∀ b o, b ≠ S → s.heap.get? b = some o → (s.heap.update S (Obj.mapSeq (fun _ => (#[] : Array Value)))).get? b = some o :=
    fun b o hb e => (Heap.get?_update_other _ _ (Ne.symm hb)).trans e
  refine wpAny_bind (wpAny_letGo ?_)
  refine z_extend hh D O lz lt li1 li2 hx hy hn .none _ (oth _ _ O.z hz) (st.frame O oth) hS₂ (fun h' tk acc c as hk hS' hl hG hacc => ?_)
  exact hR h' tk acc c as (fun b o hb h2 h3 h4 h5 e => hk b o hb h2 h3 h4 h5 (oth b o hb e)) hS' hl hG hacc
theorem z_call {Q : Value → Shared → Prop} (hh : A.handled = none) (D : ZipApart z TI TO i1 i2 l1 l2) {n : Nat} (hx : xs.size = n) (hy : ys.size = n) (hn : n ≤ sizeLine)
    (hz : IsZip s.heap z TI TO .none) (hTI : IsPair s.heap TI (.ref i1) (.ref i2)) {va vb : Value} (hTO : IsPair s.heap TO va vb) (h1 : s.heap.IsListIter i1 l1 0) (h2 : s.heap.IsListIter i2 l2 0) (hl1 : s.heap.IsList l1 xs) (hl2 : s.heap.IsList l2 ys)
    (hQ : ∀ h' tk acc c as, (∀ b o, b ≠ z → b ≠ TO → b ≠ i1 → b ≠ i2 → s.heap.get? b = some o → h'.get? b = some o) → h'.get? s.heap.objs.size = some { cls := .type "list", dict := none, data := .seq acc c, slots := #[] } → as.length = n → ZG xs ys s.heap.objs.size h' as →
      acc.toList = as.map Value.ref → Q (.ref s.heap.objs.size) { s with heap := h', toks := tk }) :
    wpAny (model prog w) A (call (.type "list") [.ref z]) Q E s := by
  refine callType_codes (Q₁ := fun obj s₁ => obj = .ref s.heap.objs.size ∧ s₁ = { s with heap := s.heap.push { cls := .type "list", data := .seq #[] } }) PySem.F.called_list (PySem.F.typeCall_list_1 _) PySem.F.entry_list_init
    (code_list_new _ ⟨rfl, rfl⟩) fun obj s₁ h₁ => ?_
  obtain ⟨rfl, rfl⟩ := h₁
  have hS : (s.heap.push { cls := .type "list", data := .seq #[] }).get? s.heap.objs.size = some { cls := .type "list", data := .seq #[] } := Heap.get?_push_size _ rfl
  have lz := Heap.lt_size hz
  have lti := Heap.lt_size hTI
  have lt := Heap.lt_size hTO
  obtain ⟨_, e1, _⟩ := id h1
  obtain ⟨_, e2, _⟩ := id h2
  obtain ⟨_, e3, _⟩ := id hl1
  obtain ⟨_, e4, _⟩ := id hl2
  have li1 := Heap.lt_size e1
  have li2 := Heap.lt_size e2
  have ll1 := Heap.lt_size e3
  have ll2 := Heap.lt_size e4
  have O : Off z TI TO i1 i2 l1 l2 s.heap.objs.size := ⟨Nat.ne_of_lt lz, Nat.ne_of_lt lti, Nat.ne_of_lt lt, Nat.ne_of_lt li1, Nat.ne_of_lt li2, Nat.ne_of_lt ll1, Nat.ne_of_lt ll2⟩
  refine ⟨⟨_, hS, rfl⟩, PySem.F.args_list_init_2 _ _, z_init (A := A.in1) hh D O lz lt li1 li2 hx hy hn (Heap.get?_push_of_some _ hz) ⟨Heap.get?_push_of_some _ hTI, h1.at fun o e => Heap.get?_push_of_some _ e, h2.at fun o e => Heap.get?_push_of_some _ e, hl1.at fun o e => Heap.get?_push_of_some _ e, hl2.at fun o e => Heap.get?_push_of_some _ e, .inl ⟨Heap.get?_push_of_some _ hz, _, _, Heap.get?_push_of_some _ hTO⟩⟩ hS (fun h' tk acc c as hk hS' hl hG hacc => ?_)⟩
  exact ⟨rfl, hQ h' tk acc c as (fun b o b1 b2 b3 b4 e => hk b o (Nat.ne_of_lt (Heap.lt_size e)) b1 b2 b3 b4 (Heap.get?_push_of_some _ e)) hS' hl hG hacc⟩
end
/-- the tuples at their addresses -/
def putP : Hp → List Addr → List (V × V) → Hp
  | H, a :: as, p :: ps => putP (upd H a (.tup [p.1, p.2])) as ps
  | H, _, _ => H
theorem putP_off {b : Addr} : ∀ (as : List Addr) (ps : List (V × V)) (H : Hp), b ∉ as → putP H as ps b = H b
  | [], _, _, _ => rfl
  | _ :: _, [], _, _ => rfl
  | a :: as, p :: ps, H, h => by
    show putP (upd H a (.tup [p.1, p.2])) as ps b = H b
    rw [putP_off as ps _ (fun z => h (List.mem_cons_of_mem _ z)), upd_ne (fun z => h (by rw [z]; exact List.mem_cons_self))]
/-- as many tuples as pairs, each its pair -/
abbrev Tups (H : Hp) : List Addr → List (V × V) → Prop := Paired fun t q => H t = some (.tup [q.1, q.2])
theorem putP_at : ∀ (as : List Addr) (ps : List (V × V)) (H : Hp), as.length = ps.length → as.Nodup → Tups (putP H as ps) as ps
  | [], [], _, _, _ => .nil
  | [], _ :: _, _, h, _ => by cases h
  | _ :: _, [], _, h, _ => by cases h
  | a :: as, p :: ps, H, h, hn => by
    have hn' := List.nodup_cons.mp hn
    refine .cons ?_ (putP_at as ps (upd H a (.tup [p.1, p.2])) (Nat.succ.inj h) hn'.2)
    show putP (upd H a (.tup [p.1, p.2])) as ps a = some (.tup [p.1, p.2])
    rw [putP_off as ps _ hn'.1, upd_same]
theorem paired_ix {α β : Type} {F : α → β → Prop} : ∀ {xs : List α} {ys : List β}, Paired F xs ys → ∀ {x : α}, x ∈ xs → ∃ (j : Nat) (y : β), xs[j]? = some x ∧ ys[j]? = some y ∧ F x y
  | _, _, .cons h t, x, hx => by
    rcases List.mem_cons.mp hx with e | hx
    · rw [e]
      exact ⟨0, _, rfl, rfl, h⟩
    · obtain ⟨j, y, e1, e2, e3⟩ := paired_ix t hx
      exact ⟨j + 1, y, e1, e2, e3⟩
theorem refs_vals : ∀ as : List Addr, Vals (as.map V.ref) (as.map Value.ref)
  | [] => .nil
  | _ :: as => .cons rfl (refs_vals as)
section
variable {X : Cx}
theorem z_laid {pins : List (Addr × Obj)} {σ : L2.St} {H : Hp} {s : Shared} {h' : Heap} {tk : Nat} {S : Addr} {vs us : List V} {xs ys : List Value} {acc : Array Value} {c : Nat} {as : List Addr} (I : Inv X pins σ H s) (hS0 : s.heap.objs.size ≤ S) (rx : Vals vs xs) (ry : Vals us ys) (hlen : vs.length = us.length) (hz : vs.length ≤ sizeLine)
    (hk : ∀ b o, s.heap.get? b = some o → h'.get? b = some o) (hS : h'.get? S = some { cls := .type "list", dict := none, data := .seq acc c, slots := #[] }) (hl : as.length = vs.length) (hG : ZG xs.toArray ys.toArray S h' as) (hacc : acc.toList = as.map Value.ref) :
    ∃ H' : Hp, Same H H' ∧ H S = none ∧ (∀ t ∈ as, H t = none) ∧ S ∉ as ∧ as.Nodup ∧ H' S = some (.lst (as.map V.ref)) ∧ Tups H' as (vs.zip us) ∧ Inv X pins σ H' { s with heap := h', toks := tk } := by
  have hSn : S ∉ as := fun z => Nat.lt_irrefl _ (hG.above _ z)
  have nd : as.Nodup := List.Pairwise.imp (fun {a b} (h : a < b) => Nat.ne_of_lt h) hG.rise
  have new : ∀ t ∈ as, H t = none := fun t ht => I.hok.fresh (Nat.le_trans hS0 (Nat.le_of_lt (hG.above t ht)))
  have newS : H S = none := I.hok.fresh hS0
  have lz : (vs.zip us).length = vs.length := by rw [List.length_zip]; omega
  have atP := putP_at as (vs.zip us) (upd H S (.lst (as.map V.ref))) (by omega) nd
  have off : ∀ b, b ∉ as → b ≠ S → putP (upd H S (.lst (as.map V.ref))) as (vs.zip us) b = H b := fun b h1 h2 => by rw [putP_off as _ _ h1, upd_ne h2]
  have low : ∀ b o, s.heap.get? b = some o → b ∉ as ∧ b ≠ S := fun b o e => ⟨fun z => absurd (Heap.lt_size e) (Nat.not_lt.mpr (Nat.le_trans hS0 (Nat.le_of_lt (hG.above b z)))), Nat.ne_of_lt (Nat.lt_of_lt_of_le (Heap.lt_size e) hS0)⟩
  have kp : ∀ b u, H b = some u → (putP (upd H S (.lst (as.map V.ref))) as (vs.zip us)) b = some u := fun b u e => by
    rw [off b (fun z => by rw [new b z] at e; cases e) (fun z => by rw [z, newS] at e; cases e)]
    exact e
  have eS : putP (upd H S (.lst (as.map V.ref))) as (vs.zip us) S = some (.lst (as.map V.ref)) := by rw [putP_off as _ _ hSn, upd_same]
  refine ⟨putP (upd H S (.lst (as.map V.ref))) as (vs.zip us), kp, newS, new, hSn, nd, eS, atP, ?_⟩
  refine I.call' (ch := []) rfl ⟨fun b o q _ _ _ => hk b o q, fun b o q _ _ _ => ⟨o.slots, hk b o q⟩, fun b o q n _ => ?_, fun b o q _ => ⟨o, hk b o q⟩, fun b xs q => kp b _ q, fun b o u q => kp b _ q, fun b ps q => ⟨#[], by rw [kp b _ q]; simp⟩⟩ (fun b u q => ?_) I.bare fun b z => by simp at z
  · obtain ⟨z1, z2⟩ := low b o q
    rw [off b z1 z2]
    exact n
  · by_cases hb : b ∈ as
    · obtain ⟨j, pk, e1, e2, e3⟩ := paired_ix atP hb
      rw [e3] at q
      cases q
      obtain ⟨x, y, f1, f2, f3⟩ := hG.pairs j b e1
      rw [List.getElem?_zip_eq_some] at e2
      obtain ⟨x', g1, r1⟩ := rx.get e2.1
      obtain ⟨y', g2, r2⟩ := ry.get e2.2
      have f1 : xs[j]? = some x := by simpa using f1
      have f2 : ys[j]? = some y := by simpa using f2
      rw [f1] at g1
      rw [f2] at g2
      cases g1
      cases g2
      exact ⟨by show 2 ≤ sizeLine; decide, [x, y], .cons r1 (.cons r2 .nil), ⟨_, f3, rfl, _, rfl⟩⟩
    · by_cases hb2 : b = S
      · rw [hb2] at q ⊢
        rw [eS] at q
        cases q
        refine ⟨by rw [List.length_map]; omega, acc.toList, c, by rw [hacc]; exact refs_vals as, ?_⟩
        rw [Array.toArray_toList]
        exact hS
      · rw [off b hb hb2] at q
        exact (I.hok b u q).stay (fun d v _ y => hk d v y) (fun d y => kp d _ y) fun d xs y => kp d _ y
/-- list(zip(xs, ys)) -/
def tListZip (K : PySem.W.Frag) (ta : TA) : TE := fun σ H Q => ta σ H fun vs H1 => ∃ (a b : Addr) (xs ys : List V), vs = [.ref a, .ref b] ∧ SqL K H1 a xs ∧ SqL K H1 b ys ∧ xs.length = ys.length ∧ xs.length ≤ 5000 ∧
  ∀ (H' : Hp) (p : Addr) (ts : List Addr), Same H1 H' → H1 p = none → (∀ t ∈ ts, H1 t = none) → p ∉ ts → ts.Nodup → H' p = some (.lst (ts.map V.ref)) → Tups H' ts (xs.zip ys) → Q (.ref p) H'
theorem pe_listZip {e1 e2 : Expr} {ta : TA} {p p2 pos pos2 : Pos} (hcalm : X.calm = true) (hg : Gl X "list") (hm : X.mg "list" = none) (hgz : Gl X "zip") (hmz : X.mg "zip" = none) (ha : PA X [e1, e2] ta)
    (hs : starEach [e1, e2] X.env = (false, eval e1 X.env) :: starEach [e2] X.env := by rfl) (hpl : (backTo pos2 (starEach [e2] X.env)).any (·.1) = false := by rfl) :
    PE X (.Call (.Name "list" p) [.Call (.Name "zip" p2) [e1, e2] [] pos2] [] pos) (tListZip X.K ta) := by
  refine ⟨fun pins s σ H Q I h => ?_⟩
  refine Call_ (ld_blt I hg hm PyProof.Rows.boot_list (PyProof.Rows.callWith_type1 (args_cons (Call_ (ld_blt I hgz hmz PyProof.Rows.boot_zip (PyProof.Rows.callWith_type1 (thn (ha.run pos2 pins s σ H _ I h) fun us s1 ⟨vs, H1, I1, r1, q1⟩ => ?_) hs hpl))) (by rfl)) (by rfl)))
  obtain ⟨a, b, xs, ys, rfl, sa, sb, hl, hk, q⟩ := q1
  obtain ⟨u1, u2, rfl, ra, rb⟩ := vals2 r1
  cases (show u1 = Value.ref a from ra)
  cases (show u2 = Value.ref b from rb)
  obtain ⟨its, rv, p1, _⟩ := I1.list sa
  obtain ⟨its2, rv2, p2', _⟩ := I1.list sb
  have n1 := rv.length
  have n2 := rv2.length
  refine call_zip_2 p1.isList p2'.isList fun h1 hz hTI hTO i1 i2 hsz hk1 => args_nil ?_
  have D := PySem.W.ktu_apart s1.heap.objs.size a b p1.lt p2'.lt
  refine z_call (s := { s1 with heap := h1 }) (n := xs.length) (I1.ok.hd hcalm) D (by rw [List.size_toArray]; omega) (by rw [List.size_toArray]; omega) (Nat.le_trans hk (by decide)) hz hTI hTO i1 i2 (p1.isList.at fun o e => hk1 _ o e) (p2'.isList.at fun o e => hk1 _ o e) fun h' tk acc c as hkp hS hla hG hacc => ?_
  have k : ∀ c o, s1.heap.get? c = some o → h'.get? c = some o := fun c o e => by
    have lt := Heap.lt_size e
    exact hkp c o (Nat.ne_of_lt (Nat.lt_of_lt_of_le lt (Nat.le_add_right _ _))) (Nat.ne_of_lt (Nat.lt_of_lt_of_le lt (Nat.le_add_right _ _))) (Nat.ne_of_lt lt) (Nat.ne_of_lt (Nat.lt_of_lt_of_le lt (Nat.le_add_right _ _))) (hk1 c o e)
  obtain ⟨H', t1, t2, t3, t4, t5, t6, t7, J⟩ := z_laid (tk := tk) I1 (S := h1.objs.size) (by omega) rv rv2 hl (Nat.le_trans hk (by decide)) k hS hla hG hacc
  exact ⟨.ref _, H', J, rfl, q H' _ as t1 t2 t3 t4 t5 t6 t7⟩
end
end Lz
/-! enumerate(xs, start=k) of a list -/
namespace Es
open PySem PySem.Spec PyProof.Rows L2
def IteS (K : PySem.W.Frag) (k : Int) (a : Addr) : It :=
  ⟨fun i H => ∃ (xs : List V) (x : V), SqL K H a xs ∧ xs[i]? = some x, fun i H v H' => ∃ T x, v = .ref T ∧ H T = none ∧ H' = upd H T (.tup [.int (k + (i : Nat)), x]) ∧ ∀ xs, SqL K H a xs → xs[i]? = some x, fun i H => ∃ xs : List V, SqL K H a xs ∧ xs.length = i⟩
theorem turn_enumS {P : Program} {w : World} {K : PySem.W.Frag} {elts : List Expr} {kk : Nat} {tpos : Pos} (k : Int) (a e it : Addr) (hai : a ≠ it) (hae : e ≠ a) :
    Turn P w K (.Tuple elts kk tpos) (IteS K k a) [e, it] e (fun i h => (∃ old, IsEnum h e it (k + ((i : Nat) : Int)) old) ∧ h.IsListIter it a i ∧ e ≠ it) where
  mem := by simp
  obj := fun i h st b hb => by
    obtain ⟨⟨old, he⟩, ⟨o, ho, hc, hd⟩, _⟩ := st
    have e' : b = e ∨ b = it := by simpa using hb
    rcases e' with z | z
    · rw [z]; exact ⟨_, he, fun v q => nomatch q⟩
    · rw [z]; exact ⟨o, ho, fun v q => by rw [hd] at q; cases q⟩
  keep := fun i h h' st k => let ⟨⟨old, he⟩, hi, hne⟩ := st; ⟨⟨old, k e (by simp) _ he⟩, hi.at fun o q => k it (by simp) o q, hne⟩
  item := by
    intro X hP hw hK hc i pins s σ H E I hf st hg
    subst hP hw hK
    obtain ⟨⟨old, he⟩, hit, hne⟩ := st
    obtain ⟨xs, x, hq, hx⟩ := hg
    obtain ⟨its, rv, p, hz⟩ := I.list hq
    obtain ⟨u, hu, ru⟩ := rv.get hx
    have hel : e < s.heap.objs.size := Heap.lt_size he
    have hil : it < s.heap.objs.size := by obtain ⟨_, q, _⟩ := hit; exact Heap.lt_size q
    have hA : X.A.in1.handled = none := I.ok.hd hc
    have lt1 : i < its.toArray.size := by have := (List.getElem?_eq_some_iff.mp hu).1; simpa using this
    refine wpAny_pyNext_enum_itemC (Draws.list hA it a hai its.toArray) he ⟨hit, p.isList⟩ lt1 hne (by simp; exact ⟨hne, hae⟩) fun y h' tk hy ho hit' hT hsz hk => ?_
    have f1 : y = u := Option.some.inj (hy.symm.trans (by simpa using hu))
    subst f1
    refine ⟨_, rfl, wpAny_letOwnedTupleGo_enum (s := { s with heap := h', toks := tk + 1 }) ho fun h'' he' sb => ?_⟩
    have hT2 : h''.get? s.heap.objs.size = some { cls := .type "tuple", data := .seq #[.int (k + (i : Int)) tk, y] } := (sb.2 _ (Nat.ne_of_gt hel)).trans hT
    have new : ObjOk X.prog X.w (upd H s.heap.objs.size (.tup [.int (k + (i : Nat)), x])) h'' s.heap.objs.size (.tup [.int (k + (i : Nat)), x]) :=
      ⟨by show 2 ≤ sizeLine; decide, [.int (k + (i : Int)) tk, y], .cons ⟨_, rfl⟩ (.cons ru .nil), ⟨_, hT2, rfl, _, rfl⟩⟩
    have I1 : Inv X pins σ (upd H s.heap.objs.size (.tup [.int (k + (i : Nat)), x])) { s with heap := h'', toks := tk + 1 } :=
      I.turnedNew (t' := tk + 1) (ch := [e, it]) (fun b ob hb q => (sb.2 b (fun z => hb (by simp [z]))).trans (hk b ob (fun z => hb (by simp [z])) (fun z => hb (by simp [z])) q)) hf (Nat.le_refl _) new
    refine ⟨.ref s.heap.objs.size, _, I1, rfl, ⟨_, x, rfl, I.hok.fresh (Nat.le_refl _), rfl, fun ys hy => by rw [I.list_inj hy hq]; exact hx⟩, ⟨⟨y, ?_⟩, hit'.1.at fun o q => (sb.2 it (Ne.symm hne)).trans q, hne⟩, fun b hb => ?_⟩
    · have e1 : k + ((i + 1 : Nat) : Int) = k + (i : Int) + 1 := by omega
      rw [e1]; exact he'
    · have hb' : b < s.heap.objs.size := by
        have e' : b = e ∨ b = it := by simpa using hb
        rcases e' with z | z
        · rw [z]; exact hel
        · rw [z]; exact hil
      rw [upd_ne (Nat.ne_of_lt hb')]
      exact (hf b hb).1
  done := by
    intro X hP hw hK hc i pins s σ H E I hf st hg
    subst hP hw hK
    obtain ⟨⟨old, he⟩, hit, hne⟩ := st
    obtain ⟨xs, hq, hx⟩ := hg
    obtain ⟨its, rv, p, hz⟩ := I.list hq
    obtain ⟨f0, f1, f2, f3, f4, f5⟩ := hf it (by simp)
    have hl := rv.length
    have hA : X.A.in1.handled = none := I.ok.hd hc
    have l1 : its.toArray.size = i := by rw [← hx, hl]; simp
    subst l1
    exact wpAny_pyNext_enum_endD (Draws.list hA it a hai its.toArray) he ⟨hit, p.isList⟩ fun h' eb => ⟨rfl, I.turned (t' := s.toks) (fun b o hb q => eb b o hb q) f0 f1 f3 f4 f5⟩
  self := fun A i s Q E st h => let ⟨⟨_, he⟩, _⟩ := st; wpAny_pyIter_enum he h
section
variable {M : Model} {A : Around} {E : Value → Shared → Prop} {s : Shared} {env : Env}
theorem callWith_type_kwB {pos : Pos} {T : String} {first : List Value} {args : List (Bool × Sem Value)} {keywords : List (Option Str × Sem Value)} {Q : Value → Shared → Prop}
    (hplain : args.any (·.1) = false) (hkw : keywords.any (·.1.isNone) = false)
    (h : wpAny M A (evalArgs (.type T) true args keywords) (fun a s₁ => wpAny M A (call (.type T) (first ++ a.pos) a.kw) Q E s₁) E s) :
    wpAny M A (callWith pos (.type T) first args keywords) Q E s := by
  unfold callWith
  refine wpAny_bind (wpAny_holding (wpAny_mono h (fun a s₁ h₁ => wpAny_bind (wpAny_standAt ?_)) fun _ _ x => x))
  simp only [hplain, hkw, Bool.or_false]
  refine wpAny_bind (wpAny_pure ?_)
  exact wpAny_bind (wpAny_mono h₁ (fun r s₂ hr => wpAny_bind (wpAny_holding (wpAny_point (wpAny_pure hr)))) fun _ _ x => x)
theorem callWith_kwT {pos : Pos} {T : String} {e : Expr} {rest : List Expr} {kws : List Keyword} {Q : Value → Shared → Prop}
    (h : wpAny M A (spliced (backTo pos (starEach (e :: rest) env))) (fun vs s₁ => wpAny M A (evalAll ((backToKw pos (keywordEach kws env)).map (·.2)))
      (fun kvs s₂ => wpAny M A (call (.type T) vs (((backToKw pos (keywordEach kws env)).filterMap (·.1)).zip kvs)) Q E s₂) E s₁) E s)
    (he : backTo pos (starEach (e :: rest) env) = (false, eval e env) :: backTo pos (starEach rest env) := by rfl)
    (hplain : (backTo pos (starEach (e :: rest) env)).any (·.1) = false := by rfl)
    (hall : (backToKw pos (keywordEach kws env)).all (·.1.isSome) = true := by rfl)
    (hkw : (backToKw pos (keywordEach kws env)).any (·.1.isNone) = false := by rfl) :
    wpAny M A (callWith pos (.type T) [] (backTo pos (starEach (e :: rest) env)) (backToKw pos (keywordEach kws env))) Q E s := by
  refine callWith_type_kwB hplain hkw ?_
  rw [he] at h ⊢
  exact evalArgs_kwB hall h
end
def iEnumS (K : PySem.W.Frag) (k : Int) (te : TE) : TI := fun σ H R => te σ H fun v H1 => ∃ a xs, v = .ref a ∧ SqL K H1 a xs ∧ R (IteS K k a) H1
theorem pi_enumS {X : Cx} {y : Str} {pn : Pos} {te : TE} {k : Int} {kc : Nat} {p pos tpos cpos kpos : Pos} {elts : List Expr} {kk : Nat} (hg : Gl X "enumerate") (hm : X.mg "enumerate" = none) (ha : PE X (.Name y pn) te) (hk0 : -(2 ^ 63) ≤ k) (hk1 : k < 2 ^ 63) :
    PI X (.Tuple elts kk tpos) (.Call (.Name "enumerate" p) [.Name y pn] [⟨some "start", .Constant (.int k) kc cpos, kpos⟩] pos) (iEnumS X.K k te) := by
  refine ⟨fun pins s σ H R I h => ?_⟩
  refine wpAny_Call_Name_kw (ld_blt I hg hm boot_enumerate ?_)
  refine callWith_kwT ?_
  refine Calls.spliced_cons (thn (ha.run pins s σ H _ I h) fun v s1 ⟨x, H1, I1, rv, q⟩ => ?_)
  obtain ⟨a, xs, rfl, hl, q⟩ := q
  cases (show v = Value.ref a from rv)
  refine Calls.spliced_nil ?_
  show wpAny _ _ (evalAll ((do let v ← eval (.Constant (.int k) kc cpos) X.env; standAt pos; pure v) :: [])) _ _ _
  refine wpAny_evalAll_cons (wpAny_bind (thn ((pe_int (X := X)).run pins s1 σ H1 (fun v H2 => v = .int k ∧ H2 = H1) I1 ⟨rfl, rfl⟩) fun v2 s2 ⟨x2, H2, I2, r2, e2, e3⟩ => wpAny_bind (wpAny_standAt (wpAny_pure (wpAny_evalAll_nil ?_)))))
  subst e2 e3
  obtain ⟨t, rfl⟩ := r2
  obtain ⟨its, rv', p', hz⟩ := I2.list hl
  refine enum_begins_start (begins_list a its.toArray) p'.isList hk0 hk1 fun h' he hit hsz hk => wpAny_pyIter_enum he ?_
  have I3 : Inv X pins σ H2 { s2 with heap := h' } := I2.kept (t' := s2.toks) hk
  have la := p'.lt
  refine ⟨s2.heap.objs.size + 1, [s2.heap.objs.size + 1, s2.heap.objs.size], _, _, H2, rfl, I3, turn_enumS k a (s2.heap.objs.size + 1) s2.heap.objs.size (Nat.ne_of_lt la) (Nat.ne_of_gt (Nat.lt_succ_of_lt la)), ⟨⟨.none, by rw [show k + ((0 : Nat) : Int) = k by omega]; exact he⟩, ⟨_, hit, rfl, rfl⟩, Nat.succ_ne_self _⟩, fun b hb => ?_, q⟩
  have e' : b = s2.heap.objs.size + 1 ∨ b = s2.heap.objs.size := by simpa using hb
  have hle : s2.heap.objs.size ≤ b := by
    rcases e' with z | z
    · rw [z]; exact Nat.le_add_right _ _
    · rw [z]; exact Nat.le_refl _
  exact I2.fpOk hle (I2.hok.fresh hle)
theorem walk_enumS {K : PySem.W.Frag} {k : Int} {a : Addr} {xs : List V} : Walk (IteS K k a) xs.length (fun H => SqL K H a xs) (YPair (fun i => some (.int (k + (i : Nat)))) (fun i => xs[i]?)) := by
  refine ⟨fun i _ hi q => ⟨xs, xs[i], q, by simp [hi]⟩, fun _ q => ⟨xs, q, rfl⟩, fun i H v H' _ q y => ?_⟩
  obtain ⟨T, x, h1, h2, h3, h4⟩ := y
  exact ⟨T, .int (k + (i : Nat)), x, h1, h2, h3, rfl, h4 xs q⟩
end Es
/-! max of a list of ints -/
namespace Mx
open PySem PySem.Spec PyProof.Rows L2
def maxI (x : Int) (ys : List Int) : Int := ys.foldl max x
theorem maxI_ge : ∀ (ys : List Int) (x : Int), x ≤ maxI x ys ∧ ∀ y ∈ ys, y ≤ maxI x ys
  | [], x => ⟨Int.le_refl _, fun y hy => by cases hy⟩
  | y :: ys, x => by
    obtain ⟨h1, h2⟩ := maxI_ge ys (max x y)
    show x ≤ maxI (max x y) ys ∧ _
    refine ⟨by omega, fun z hz => ?_⟩
    show z ≤ maxI (max x y) ys
    rcases List.mem_cons.mp hz with e | e
    · rw [e]; omega
    · exact h2 z e
theorem maxI_mem : ∀ (ys : List Int) (x : Int), maxI x ys ∈ x :: ys
  | [], x => List.mem_singleton.mpr rfl
  | y :: ys, x => by
    have h := maxI_mem ys (max x y)
    show maxI (max x y) ys ∈ _
    rcases List.mem_cons.mp h with e | e
    · rw [e]
      by_cases c : x ≤ y
      · rw [Int.max_eq_right c]; exact List.mem_cons_of_mem _ List.mem_cons_self
      · rw [Int.max_eq_left (by omega)]; exact List.mem_cons_self
    · exact List.mem_cons_of_mem _ (List.mem_cons_of_mem _ e)
theorem dpAll_ints {K : PySem.W.Frag} {H : Hp} : ∀ zs : List Int, DpAll K H (zs.map V.int) (zs.map PyData.int)
  | [] => .nil
  | z :: zs => .cons (.int z) (dpAll_ints zs)
theorem depthI : ∀ zs : List Int, PyData.depthAll (zs.map PyData.int) = 0
  | [] => rfl
  | z :: zs => by rw [List.map_cons, PyData.depthAll, depthI zs]; rfl
/-- max(xs), a list of ints -/
def rMaxI (K : PySem.W.Frag) : List V → Hp → VK → Prop := fun vs H Q => ∃ (a : Addr) (x : Int) (ys : List Int), vs = [.ref a] ∧ SqL K H a ((x :: ys).map V.int) ∧ Q (.int (maxI x ys)) H
theorem cr_maxI {X : Cx} (hc : X.calm = true) (hu : X.A.units + 64 < cLine) : CallR X (.builtin "max") (rMaxI X.K) := by
  intro pins s σ H vs us Q I r h
  obtain ⟨a, x, ys, rfl, hs, q⟩ := h
  obtain ⟨its, rv, hl, -⟩ := I.list hs
  rw [Vals.ref1 r]
  obtain ⟨as, hr⟩ := Dp.readsAll I _ _ _ (dpAll_ints (x :: ys)) rv
  have hl : s.heap.IsList a its.toArray := hl.isList
  have hr' : ReadsAll s.heap its.toArray.toList (PyData.int x :: ys.map PyData.int) as := hr
  refine PySem.W.max_list_data (I.ok.hd hc) hl hr' (PySem.W.alikeAll_datum (α := Int) (x :: ys)) ?_ fun i v h' tk bs hv rd hk => ?_
  · have : PyData.depthAll (PyData.int x :: ys.map PyData.int) = 0 := depthI (x :: ys)
    rw [this]
    omega
  · rw [PySem.W.maxD_ints] at rd
    cases rd
    exact ⟨.int (maxI x ys), H, I.kept hk, ⟨_, rfl⟩, q⟩
end Mx
/-! d.update(d2) of two dicts; x < y of data -/
namespace Du
open PySem PySem.Spec PyProof.Rows L2
section
variable {X : Cx}
def rDUpd : V → List V → Hp → VK → Prop := fun x vs H Q => ∃ (a b : Addr) (kvs more : List (Key × V)), x = .ref a ∧ vs = [.ref b] ∧ H a = some (.dK kvs) ∧ H b = some (.dK more) ∧ a ≠ b ∧ kvs.length + more.length ≤ sizeLine ∧ Q .non (upd H a (.dK (mergeK kvs more)))
theorem mt_dupd : MtR X "dict.update" rDUpd := by
  intro pins s σ H x vs v us Q I rx rv h
  obtain ⟨a, b, kvs, more, rfl, rfl, ea, eb, hne, hsz, q⟩ := h
  obtain rfl : v = Value.ref a := rx
  obtain ⟨u, rfl, ru⟩ := rv.one
  obtain rfl : u = Value.ref b := ru
  obtain ⟨z, hd, vs1, rel1, dd1⟩ := dk_of I.hok ea
  obtain ⟨z2, hd2, vs2, rel2, dd2⟩ := dk_of I.hok eb
  refine call_meetsIn PySem.F.slot_dict_update dd1.typeIs PySem.F.entry_dict_update (PySem.F.args_dict_update_2 _ _) (meets_dict_update (mixKind X.prog X.w) a b hne hd2) ⟨vs1, vs2, dd1, dd2, by rw [← rel1.length, ← rel2.length]; exact hsz, fun h' dd' _ hs => ?_⟩
  have he : ∃ q, h'.get? a = some q := let ⟨q, _, _, hq, _⟩ := dd'; ⟨q, hq⟩
  refine ⟨.non, _, d_write (t' := s.toks) I (by rw [ea]; exact True.intro) hs he (dk_new ?_ hd (KV.merge rel2 rel1) dd'), rfl, q⟩
  refine Nat.le_trans (length_mergeK more kvs) ?_
  omega
/-- x < y, both data of one kind -/
def rLtG (α : Type) [DecidableEq α] [PySem.W.DatumOrd α] (K : PySem.W.Frag) : R2 := fun x y H Q => ∃ a b : α, Dp K H x (PySem.W.Datum.toD a) ∧ Dp K H y (PySem.W.Datum.toD b) ∧ PySem.W.Datum.toD a ≠ PyData.none ∧ PySem.W.Datum.depth α ≤ 60 ∧ Q (.bl (PySem.W.DatumOrd.lt a b)) H
theorem op_ltG (α : Type) [DecidableEq α] [PySem.W.DatumOrd α] (hu : X.A.units + 64 < cLine) : OpR X (compareOp .Lt) (rLtG α X.K) := by
  intro pins s σ H x y v u Q I rx ry h
  obtain ⟨a, b, hd, he, hn, hdep, q⟩ := h
  obtain ⟨as, r1⟩ := Dp.reads I _ x v hd rx
  obtain ⟨bs, r2⟩ := Dp.reads I _ y u he ry
  refine PySem.W.lt_data r1 r2 (PySem.W.DatumOrd.alike a b) hn ?_ ⟨.bl _, H, I, rfl, ?_⟩
  · refine PySem.W.room_datum (PySem.W.Datum.depth_le a) (by omega)
  · rw [PySem.W.DatumOrd.lt_eq]; exact q
end
end Du
/-! min of a list of triples (number, numbers, any thing), no two alike in the first two: what stands third is never compared -/
namespace Ml
open PySem PySem.W PySem.SeqAt PyProof.Rows L2
open AutoSeq1 (wpAny_loadPart')
open MeetsSeq MeetsSeq2 MeetsSeq3 SeqRoads2
theorem tup_ltM (l b : Addr) (us ws : Array Value) (n n2 : Nat) (dd dd2 : Option Addr) (sl sl2 : Array (Option Value)) (m : Nat) (k : Bool) :
    Meets (Builtin.«tuple.__lt__» ⟨[.ref l, .ref b], []⟩)
      (fun A R s => s.heap.get? l = some { cls := .type "tuple", dict := dd, data := .seq us n, slots := sl } ∧ s.heap.get? b = some { cls := .type "tuple", dict := dd2, data := .seq ws n2, slots := sl2 } ∧
        m < us.size ∧ m < ws.size ∧ (∀ j (g1 : j < us.size) (g2 : j < ws.size), j < m → EqAt A.in1 s us[j] ws[j] true) ∧ (∀ (g1 : m < us.size) (g2 : m < ws.size), EqAt A.in1 s us[m] ws[m] false ∧ RcLt A.in1 s us[m] ws[m] k) ∧
        R (.ok (.ret (.bool k))) s) :=
  .of_wp fun prog w A R s h => by
    obtain ⟨hp, g, d, tk, os⟩ := s; obtain ⟨hl, hb, m1, m2, he, hm, h⟩ := h
    have f2 := AutoSeq1.sub_tuple_tuple
    have lz : (us.toList.zip ws.toList).length = min us.size ws.size := by simp
    wp_walk using wpAny_loadPart' hl, wpAny_loadPart' hb, wpAny_forIn_list _ (fun rest b s' => b.1 = none ∧ s' = ⟨hp, g, d, tk, os⟩ ∧ ∃ i, i ≤ m ∧ rest = (us.toList.zip ws.toList).drop i) _
    case turn =>
      rintro ⟨y, x⟩ rest b s' ⟨hb', rfl, i, im, hz⟩
      have li : i < (us.toList.zip ws.toList).length := by rw [lz]; omega
      have i1 : i < us.size := by omega
      have i2 : i < ws.size := by omega
      rw [List.drop_eq_getElem_cons li] at hz
      injection hz with hyx hr2
      have hy : y = us[i] := by have q := congrArg Prod.fst hyx; simpa using q
      have hx : x = ws[i] := by have q := congrArg Prod.snd hyx; simpa using q
      subst hy hx
      by_cases c : i < m
      · refine wpAny_bind (he i i1 i2 c prog w _ _ ?_)
        wp_walk
        exact ⟨rfl, rfl, i + 1, by omega, hr2⟩
      · have e : i = m := by omega
        subst e
        obtain ⟨q1, q2⟩ := hm i1 i2
        refine wpAny_bind (q1 prog w _ _ ?_)
        refine wpAny_ite_true (by rfl) ?_
        refine wpAny_bind (m := rule "tuple.compare.by-the-first-pair-that-differs") (wpAny_rule ?_)
        refine wpAny_bind (q2 prog w _ _ ?_)
        wp_walk
        exact ⟨_, rfl, h⟩
    case fin =>
      rintro ⟨b1, b2⟩ s' ⟨hb', rfl, i, im, hz⟩
      exfalso
      have li : i < (us.toList.zip ws.toList).length := by rw [lz]; omega
      rw [List.drop_eq_getElem_cons li] at hz
      cases hz
    case h =>
      exact ⟨rfl, rfl, 0, Nat.zero_le _, rfl⟩
theorem rcLt_at {A : Around} {s : Shared} {l b : Addr} {us ws : Array Value} {m : Nat} {k : Bool} (hl : s.heap.IsTuple l us) (hb : s.heap.IsTuple b ws) (hu : A.units < cLine) (m1 : m < us.size) (m2 : m < ws.size)
    (he : ∀ j (g1 : j < us.size) (g2 : j < ws.size), j < m → EqAt A.in1 s us[j] ws[j] true) (hm : ∀ (g1 : m < us.size) (g2 : m < ws.size), EqAt A.in1 s us[m] ws[m] false ∧ RcLt A.in1 s us[m] ws[m] k) :
    RcLt A s (.ref l) (.ref b) k := fun prog w E Q h => by
  obtain ⟨⟨cls, dd, data, sl⟩, ho, hc, n, hd⟩ := id hl
  obtain ⟨⟨cls2, dd2, data2, sl2⟩, ho2, hc2, n2, hd2⟩ := id hb
  dsimp only at hc hd hc2 hd2
  subst hc hd hc2 hd2
  exact richCompare_meets_room (op := .Lt) ⟨_, ho, rfl⟩ ⟨_, ho2, rfl⟩ F.slot_tuple_lt F.entry_tuple_lt (F.args_tuple_lt_2 _ _) (tup_ltM l b us ws n n2 dd dd2 sl sl2 m k)
    ⟨ho, ho2, m1, m2, he, hm, show Value.bool k ≠ Value.notImplemented ∧ Q (.bool k) s from ⟨(fun x => nomatch x), h⟩⟩ hu
abbrev Tri := Int × List Int × PyData
def triD (r : Tri) : PyData := .tuple [.int r.1, .list (r.2.1.map .int), r.2.2]
def keyD (r : Tri) : PyData := .tuple [.int r.1, .list (r.2.1.map .int)]
mutual
theorem alike_self : ∀ d : PyData, d.canLay0 = true → alike d d = true
  | .none, _ => rfl
  | .bool _, _ => rfl
  | .int _, _ => rfl
  | .str _, _ => rfl
  | .list xs, h => by rw [alike]; exact alikeAll_self xs h
  | .tuple xs, h => by rw [alike]; exact alikeAll_self xs h
  | .dict _, h => by cases h
theorem alikeAll_self : ∀ ds : List PyData, PyData.canLayAll0 ds = true → alikeAll ds ds = true
  | [], _ => rfl
  | d :: ds, h => by
    rw [PyData.canLayAll0, Bool.and_eq_true] at h
    rw [alikeAll, alike_self d h.1, alikeAll_self ds h.2]
    rfl
end
theorem alike_ints : ∀ xs ys : List Int, alikeAll (xs.map PyData.int) (ys.map PyData.int) = true
  | [], _ => rfl
  | _ :: _, [] => rfl
  | x :: xs, y :: ys => by
    show (alike (.int x) (.int y) && alikeAll (xs.map .int) (ys.map .int)) = true
    rw [alike_ints xs ys]
    rfl
/-- the lesser of two keys, as the pair is compared -/
def ltK (r t : Tri) : Bool := if r.1 = t.1 then decide (r.2.1 < t.2.1) else decide (r.1 < t.1)
theorem eqv_intsD (xs ys : List Int) : PyData.eqv (.list (xs.map .int)) (.list (ys.map .int)) = decide (xs = ys) := Datum.eqv (α := List Int) xs ys
theorem lt_intsD (xs ys : List Int) : dataLt (.list (xs.map .int)) (.list (ys.map .int)) = decide (xs < ys) := (dataLt_list _ _).trans (dataLt_ints xs ys)
theorem reads_cons {h : Heap} {x : Value} {vs : List Value} {d : PyData} {ds : List PyData} {as : List Addr} (hr : ReadsAll h (x :: vs) (d :: ds) as) : ∃ b1 b2, Reads h x d b1 ∧ ReadsAll h vs ds b2 := by
  cases hr with
  | cons r rs => exact ⟨_, _, r, rs⟩
theorem best_le (bt : Nat → Nat → Bool) : ∀ n, argBest bt n ≤ n
  | 0 => Nat.le_refl _
  | n + 1 => by
    show (if bt (n + 1) (argBest bt n) then n + 1 else argBest bt n) ≤ n + 1
    have := best_le bt n
    split <;> omega
theorem reads3 {h : Heap} {v : Value} {r : Tri} {as : List Addr} (hr : Reads h v (triD r) as) : ∃ (l : Addr) (us : Array Value) (b1 b2 : List Addr), v = .ref l ∧ h.IsTuple l us ∧ ∃ (h3 : us.size = 3), Reads h us[0] (.int r.1) b1 ∧ Reads h us[1] (.list (r.2.1.map .int)) b2 := by
  have hr : Reads h v (.tuple [.int r.1, .list (r.2.1.map .int), r.2.2]) as := hr
  cases hr with
  | @tuple l o vs n _ as1 h1 h2 h3 h4 =>
    have n1 : vs.size = 3 := by simpa using ReadsAll.length _ _ _ h4
    obtain ⟨zs⟩ := vs
    match zs, h1, h2, h3, h4, n1 with
    | [x, y, z], h1, h2, h3, h4, n1 =>
      obtain ⟨_, _, r0, h5⟩ := reads_cons (show ReadsAll h [x, y, z] _ _ from h4)
      obtain ⟨_, _, r1, _⟩ := reads_cons h5
      exact ⟨l, _, _, _, rfl, ⟨_, h1, h2, _, h3⟩, n1, r0, r1⟩
theorem rcLt_tri {A : Around} {s : Shared} {r t : Tri} {a b : Value} {as bs : List Addr} (ra : Reads s.heap a (triD r) as) (rb : Reads s.heap b (triD t) bs) (hne : r.1 ≠ t.1 ∨ r.2.1 ≠ t.2.1) (hu : A.units + 8 < cLine) : RcLt A s a b (ltK r t) := by
  obtain ⟨l, us, b1, b2, rfl, hl, n1, u0, u1⟩ := reads3 ra
  obtain ⟨l', ws, c1, c2, rfl, hb, n2, w0, w1⟩ := reads3 rb
  have in1 : A.in1.units ≤ A.units + 1 := by show A.units + 1 ≤ _; omega
  have d1 : PyData.depth (.list (r.2.1.map PyData.int)) ≤ 1 := by
    show PyData.depthAll (r.2.1.map .int) + 1 ≤ 1
    rw [Mx.depthI]
    exact Nat.le_refl _
  have al : alike (.list (r.2.1.map .int)) (.list (t.2.1.map .int)) = true := by rw [alike]; exact alike_ints _ _
  have q0 := eqAt_alike (.int r.1) (.int t.1) A.in1 s _ _ _ _ u0 w0 rfl (by have : min (PyData.depth (.int r.1)) (PyData.depth (.int t.1)) ≤ 0 := Nat.min_le_left _ _; omega)
  have q1 := eqAt_alike (.list (r.2.1.map .int)) (.list (t.2.1.map .int)) A.in1 s _ _ _ _ u1 w1 al (by have := Nat.min_le_left (PyData.depth (.list (r.2.1.map PyData.int))) (PyData.depth (.list (t.2.1.map PyData.int))); omega)
  rw [eqv_intsD] at q1
  rw [show PyData.eqv (.int r.1) (.int t.1) = decide (r.1 = t.1) from Datum.eqv (α := Int) r.1 t.1] at q0
  unfold ltK
  by_cases c : r.1 = t.1
  · rw [if_pos c]
    have c2 : r.2.1 ≠ t.2.1 := hne.resolve_left fun z => z c
    rw [decide_eq_true c] at q0
    rw [decide_eq_false c2] at q1
    have q2 := rcLt_alike (.list (r.2.1.map .int)) (.list (t.2.1.map .int)) A.in1 s _ _ _ _ u1 w1 al (by simp) (by have := Nat.min_le_left (PyData.depth (.list (r.2.1.map PyData.int))) (PyData.depth (.list (t.2.1.map PyData.int))); omega)
    rw [lt_intsD] at q2
    refine rcLt_at (m := 1) hl hb (by omega) (by omega) (by omega) (fun j g1 g2 hj => ?_) (fun g1 g2 => ⟨q1, q2⟩)
    have : j = 0 := by omega
    subst this
    exact q0
  · rw [if_neg c]
    rw [decide_eq_false c] at q0
    have q2 := rcLt_alike (.int r.1) (.int t.1) A.in1 s _ _ _ _ u0 w0 rfl (by simp) (by have : min (PyData.depth (.int r.1)) (PyData.depth (.int t.1)) ≤ 0 := Nat.min_le_left _ _; omega)
    rw [dataLt_int] at q2
    exact rcLt_at (m := 0) hl hb (by omega) (by omega) (by omega) (fun j g1 g2 hj => absurd hj (Nat.not_lt_zero _)) (fun g1 g2 => ⟨q0, q2⟩)
theorem ltK_self (r : Tri) : ltK r r = false := by
  unfold ltK
  rw [if_pos rfl]
  exact decide_eq_false (List.lt_irrefl _)
theorem argBest_at {bt : Nat → Nat → Bool} {i0 : Nat} (hlt : ∀ j, j ≠ i0 → bt i0 j = true) (hge : ∀ j, j ≠ i0 → bt j i0 = false) (hself : bt i0 i0 = false) : ∀ n, i0 ≤ n → argBest bt n = i0 := by
  intro n
  induction n with
  | zero => intro h; have : i0 = 0 := by omega
            subst this; rfl
  | succ n ih =>
    intro h
    by_cases c : i0 ≤ n
    · have e := ih c
      show (if bt (n + 1) (argBest bt n) then n + 1 else argBest bt n) = i0
      rw [e, hge (n + 1) (by omega)]
      rfl
    · have e : i0 = n + 1 := by omega
      subst e
      show (if bt (n + 1) (argBest bt n) then n + 1 else argBest bt n) = n + 1
      by_cases z : argBest bt n = n + 1
      · rw [z]
        split <;> rfl
      · rw [hlt _ z]
        rfl
/-- min of such a list: where one is below all others, that one -/
def rMinL (K : PySem.W.Frag) : List V → Hp → VK → Prop := fun vs H Q => ∃ (a : Addr) (xs : List V) (rs : List Tri) (i0 : Nat) (v : V), vs = [.ref a] ∧ SqL K H a xs ∧ DpAll K H xs (rs.map triD) ∧ (∀ r ∈ rs, r.2.2.canLay0 = true ∧ r.2.2.depth ≤ 20) ∧
  (∀ (i j : Nat) (r t : Tri), rs[i]? = some r → rs[j]? = some t → i ≠ j → r.1 ≠ t.1 ∨ r.2.1 ≠ t.2.1) ∧ xs[i0]? = some v ∧ (∀ (r t : Tri) (j : Nat), rs[i0]? = some r → rs[j]? = some t → j ≠ i0 → ltK r t = true ∧ ltK t r = false) ∧ Q v H
theorem lay_tri {r : Tri} (h : r.2.2.canLay0 = true) : (triD r).canLay0 = true := by
  show (true && (PyData.canLayAll0 (r.2.1.map PyData.int) && (r.2.2.canLay0 && true))) = true
  have e : ∀ zs : List Int, PyData.canLayAll0 (zs.map PyData.int) = true := fun zs => by
    induction zs with
    | nil => rfl
    | cons z zs ih => rw [List.map_cons, PyData.canLayAll0, ih]; rfl
  rw [e, h]
  rfl
theorem depth_tri {r : Tri} (h : r.2.2.depth ≤ 20) : (triD r).depth ≤ 21 := by
  show max 0 (max (PyData.depthAll (r.2.1.map PyData.int) + 1) (max r.2.2.depth 0)) + 1 ≤ 21
  rw [Mx.depthI]
  omega
theorem cr_minL {X : Cx} (hc : X.calm = true) (hu : X.A.units + 64 < cLine) : CallR X (.builtin "min") (rMinL X.K) := by
  intro pins s σ H vs us Q I r h
  obtain ⟨a, xs, rs, i0, v0, rfl, hs, hd, hz, hne, hv0, hlt, q⟩ := h
  obtain ⟨its, rv, hl, -⟩ := I.list hs
  rw [Vals.ref1 r]
  obtain ⟨as, hr⟩ := Dp.readsAll I _ _ _ hd rv
  have hl : s.heap.IsList a its.toArray := hl.isList
  have hr' : ReadsAll s.heap its.toArray.toList (rs.map triD) as := hr
  have hn : its.toArray.size = rs.length := by rw [readsAll_len hr']; simp
  have hi0 : i0 < its.length := by
    have := (List.getElem?_eq_some_iff.mp hv0).1
    have := rv.length
    omega
  have hsz : its.toArray.size = its.length := by simp
  let bt : Nat → Nat → Bool := fun i j => ltK ((rs[i]?).getD (0, [], .none)) ((rs[j]?).getD (0, [], .none))
  have hcmp : ∀ (e : X.A.in1.units ≤ X.A.units + 1), CmpIn X.prog X.w X.A.in1 .Lt s.heap (fun i v => its.toArray[i]? = some v) bt := fun e1 i j vi vj s' Q E hk hi hj hq => by
    obtain ⟨as1, r1, l1, m1, d1⟩ := readsAll_atA hr' i vi hi
    obtain ⟨as2, r2, l2, m2, d2⟩ := readsAll_atA hr' j vj hj
    rw [List.length_map] at l1 l2
    have e1' : rs[i]? = some rs[i] := List.getElem?_eq_getElem l1
    have e2' : rs[j]? = some rs[j] := List.getElem?_eq_getElem l2
    have g1 : (rs.map triD).getD i .none = triD rs[i] := by rw [List.getD_eq_getElem?_getD, List.getElem?_map, e1']; rfl
    have g2 : (rs.map triD).getD j .none = triD rs[j] := by rw [List.getD_eq_getElem?_getD, List.getElem?_map, e2']; rfl
    rw [g1] at r1
    rw [g2] at r2
    have hq : Q (.bool (ltK rs[i] rs[j])) s' := by
      have z : bt i j = ltK rs[i] rs[j] := by
        show ltK ((rs[i]?).getD (0, [], .none)) ((rs[j]?).getD (0, [], .none)) = _
        rw [e1', e2']
        rfl
      rw [← z]
      exact hq
    by_cases c : i = j
    · subst c
      have hd2 := hz _ (List.getElem_mem l1)
      have z := rcLt_alike (triD rs[i]) (triD rs[i]) X.A.in1 s' vi vj _ _ (reads_keeps hk r1) (reads_keeps hk r2) (alike_self _ (lay_tri hd2.1)) (by unfold triD; simp) (by have := depth_tri hd2.2; omega) X.prog X.w E Q
      refine z ?_
      have z1 : dataLt (triD rs[i]) (triD rs[i]) = false := by unfold dataLt; exact lex_irrefl _
      rw [z1]
      rw [ltK_self] at hq
      exact hq
    · exact rcLt_tri (reads_keeps hk r1) (reads_keeps hk r2) (hne i j _ _ e1' e2' c) (by omega) X.prog X.w E Q hq
  have hbest : argBest bt (its.toArray.size - 1) = i0 := by
    have e0 : ∃ r0, rs[i0]? = some r0 := ⟨_, List.getElem?_eq_getElem (by omega)⟩
    obtain ⟨r0, e0⟩ := e0
    have key : ∀ j, j ≠ i0 → j < rs.length → bt i0 j = true ∧ bt j i0 = false := fun j hj hl => by
      have e2 : rs[j]? = some rs[j] := List.getElem?_eq_getElem hl
      have z := hlt r0 _ j e0 e2 hj
      show ltK ((rs[i0]?).getD (0, [], .none)) ((rs[j]?).getD (0, [], .none)) = true ∧ ltK ((rs[j]?).getD (0, [], .none)) ((rs[i0]?).getD (0, [], .none)) = false
      rw [e0, e2]
      exact z
    have go : ∀ n, i0 ≤ n → n < rs.length → argBest bt n = i0 := by
      intro n
      induction n with
      | zero =>
        intro h _
        have : i0 = 0 := by omega
        subst this
        rfl
      | succ n ih =>
        intro h hl
        by_cases c : i0 ≤ n
        · have e := ih c (by omega)
          show (if bt (n + 1) (argBest bt n) then n + 1 else argBest bt n) = i0
          rw [e, (key (n + 1) (by omega) hl).2]
          rfl
        · have e : i0 = n + 1 := by omega
          subst e
          show (if bt (n + 1) (argBest bt n) then n + 1 else argBest bt n) = n + 1
          by_cases z : argBest bt n = n + 1
          · rw [z]
            split <;> rfl
          · rw [(key _ z (Nat.lt_of_le_of_lt (best_le bt n) (by omega))).1]
            rfl
    exact go _ (by omega) (by omega)
  refine PySem.call_min_walkH (iter_listW (A := X.A.in1) (I.ok.hd hc) hl fun s2 e W st hfp hw hk => ?_)
  refine ⟨_, _, _, _, _, _, _, s.heap, bt, rfl, W, st, hfp, by omega, hw, hk, hcmp (by show X.A.units + 1 ≤ _; omega), fun v s' hP m => ?_⟩
  obtain ⟨h', tk, rfl, hk'⟩ := moved_old e rfl m
  rw [hbest] at hP
  have hP : its[i0]? = some v := by simpa using hP
  obtain ⟨u0, hu0, ru0⟩ := Vals.get rv hv0
  rw [hP] at hu0
  cases hu0
  exact ⟨v0, H, I.kept hk', ru0, q⟩
end Ml
/-! enumerate(e, start=k) of a list, e any expression -/
namespace Es
open PySem PySem.Spec PyProof.Rows L2
theorem pi_enumSA {X : Cx} {e : Expr} {te : TE} {k : Int} {kc : Nat} {p pos tpos cpos kpos : Pos} {elts : List Expr} {kk : Nat} (hg : Gl X "enumerate") (hm : X.mg "enumerate" = none) (ha : PE X e te) (hk0 : -(2 ^ 63) ≤ k) (hk1 : k < 2 ^ 63) (hs : starEach [e] X.env = (false, eval e X.env) :: starEach [] X.env := by rfl) :
    PI X (.Tuple elts kk tpos) (.Call (.Name "enumerate" p) [e] [⟨some "start", .Constant (.int k) kc cpos, kpos⟩] pos) (iEnumS X.K k te) := by
  refine ⟨fun pins s σ H R I h => ?_⟩
  refine wpAny_Call_Name_kw (ld_blt I hg hm boot_enumerate ?_)
  refine callWith_kwT ?_ (by rw [hs]; rfl) (by rw [hs]; rfl)
  rw [hs]
  show wpAny _ _ (spliced ((false, eval e X.env) :: [])) _ _ _
  refine Calls.spliced_cons (thn (ha.run pins s σ H _ I h) fun v s1 ⟨x, H1, I1, rv, q⟩ => ?_)
  obtain ⟨a, xs, rfl, hl, q⟩ := q
  cases (show v = Value.ref a from rv)
  refine Calls.spliced_nil ?_
  show wpAny _ _ (evalAll ((do let v ← eval (.Constant (.int k) kc cpos) X.env; standAt pos; pure v) :: [])) _ _ _
  refine wpAny_evalAll_cons (wpAny_bind (thn ((pe_int (X := X)).run pins s1 σ H1 (fun v H2 => v = .int k ∧ H2 = H1) I1 ⟨rfl, rfl⟩) fun v2 s2 ⟨x2, H2, I2, r2, e2, e3⟩ => wpAny_bind (wpAny_standAt (wpAny_pure (wpAny_evalAll_nil ?_)))))
  subst e2 e3
  obtain ⟨t, rfl⟩ := r2
  obtain ⟨its, rv', p', hz⟩ := I2.list hl
  refine enum_begins_start (begins_list a its.toArray) p'.isList hk0 hk1 fun h' he hit hsz hk => wpAny_pyIter_enum he ?_
  have I3 : Inv X pins σ H2 { s2 with heap := h' } := I2.kept (t' := s2.toks) hk
  have la := p'.lt
  refine ⟨s2.heap.objs.size + 1, [s2.heap.objs.size + 1, s2.heap.objs.size], _, _, H2, rfl, I3, turn_enumS k a (s2.heap.objs.size + 1) s2.heap.objs.size (Nat.ne_of_lt la) (Nat.ne_of_gt (Nat.lt_succ_of_lt la)), ⟨⟨.none, by rw [show k + ((0 : Nat) : Int) = k by omega]; exact he⟩, ⟨_, hit, rfl, rfl⟩, Nat.succ_ne_self _⟩, fun b hb => ?_, q⟩
  have e' : b = s2.heap.objs.size + 1 ∨ b = s2.heap.objs.size := by simpa using hb
  have hle : s2.heap.objs.size ≤ b := by
    rcases e' with z | z
    · rw [z]; exact Nat.le_add_right _ _
    · rw [z]; exact Nat.le_refl _
  exact I2.fpOk hle (I2.hok.fresh hle)
end Es
/-! a statement that is never reached -/
namespace Nv
open PySem PySem.Spec PyProof.Rows L2
def tNever : TS := fun _ _ _ => False
theorem ps_never {X : Cx} {st : Stmt} : PS X st tNever := ⟨fun _ _ _ _ _ _ h => h.elim⟩
end Nv
/-! any of a list of ints -/
namespace Mx
open PySem PySem.Spec PyProof.Rows L2
def rAnyI (K : PySem.W.Frag) : List V → Hp → VK → Prop := fun vs H Q => ∃ (a : Addr) (zs : List Int), vs = [.ref a] ∧ SqL K H a (zs.map V.int) ∧ Q (.bl (zs.any fun z => z != 0)) H
theorem plainI : ∀ zs : List Int, PyData.plainAll (zs.map PyData.int) = true
  | [] => rfl
  | z :: zs => by rw [List.map_cons, PyData.plainAll, plainI zs]; rfl
theorem cr_anyI {X : Cx} (hc : X.calm = true) : CallR X (.builtin "any") (rAnyI X.K) := by
  intro pins s σ H vs us Q I r h
  obtain ⟨a, zs, rfl, hs, q⟩ := h
  obtain ⟨its, rv, hl, -⟩ := I.list hs
  rw [Vals.ref1 r]
  obtain ⟨as, hr⟩ := Dp.readsAll I _ _ _ (dpAll_ints zs) rv
  have hl : s.heap.IsList a its.toArray := hl.isList
  have hr' : ReadsAll s.heap its.toArray.toList (zs.map PyData.int) as := hr
  refine PySem.W.any_list_data (I.ok.hd hc) hl hr' (plainI zs) ?_ ?_
  · intro x hx
    obtain ⟨z, _, rfl⟩ := List.mem_map.mp hx
    trivial
  · intro h' tk hk
    refine ⟨.bl _, H, I.kept hk, ?_, q⟩
    show Value.bool _ = Value.bool _
    rw [List.any_map]
    rfl
def tTruK (K : PySem.W.Frag) (ta : TE) : TT := fun σ H Q => ta σ H fun x H' => ∃ k, TruV K x H' k ∧ Q k H'
theorem pt_truthK (K : PySem.W.Frag) {X : Cx} {a : Expr} {ta : TE} (ha : PE X a ta) (he : ∀ whole, isTrue a X.env whole = (do let v ← whole; standAt a.pos; holding [v] (truthy v))) (hK : X.K = K := by rfl) :
    PT X a (tTruK K ta) := by
  subst hK
  exact pt_truth ha he
end Mx
/-! x in t, t a tuple, of data of any depth; bool or int beside comparisons of any data -/
namespace InT
open PySem PySem.Spec PyProof.Rows L2
section
variable {X : Cx}
def rInT (K : PySem.W.Frag) : R2 := fun x y H Q => ∃ d ds, Dp K H x d ∧ Dp K H y (.tuple ds) ∧ SeqAt.shaped d = true ∧ SeqAt.shaped (.tuple ds) = true ∧ Q (.bl (ds.any fun z => PyData.eqv z d)) H
def rNotInT (K : PySem.W.Frag) : R2 := fun x y H Q => ∃ d ds, Dp K H x d ∧ Dp K H y (.tuple ds) ∧ SeqAt.shaped d = true ∧ SeqAt.shaped (.tuple ds) = true ∧ Q (.bl (!ds.any fun z => PyData.eqv z d)) H
theorem op_inT (hu : X.A.units + 65 < cLine) : OpR X (compareOp .In) (rInT X.K) := by
  intro pins s σ H x y v u Q I rx ry h
  obtain ⟨d, ds, hd, he, sd, se, q⟩ := h
  obtain ⟨as, r1⟩ := Dp.reads I d x v hd rx
  obtain ⟨bs, r2⟩ := Dp.reads I (.tuple ds) y u he ry
  exact SeqAt.in_tuple_reads r2 r1 (SeqAt.canLay_of_shaped se) (SeqAt.canLay_of_shaped sd) (room_in_shaped sd hu) ⟨.bl _, H, I, rfl, q⟩
theorem op_notInT (hu : X.A.units + 65 < cLine) : OpR X (compareOp .NotIn) (rNotInT X.K) := by
  intro pins s σ H x y v u Q I rx ry h
  obtain ⟨d, ds, hd, he, sd, se, q⟩ := h
  obtain ⟨as, r1⟩ := Dp.reads I d x v hd rx
  obtain ⟨bs, r2⟩ := Dp.reads I (.tuple ds) y u he ry
  exact SeqAt.notIn_tuple_reads r2 r1 (SeqAt.canLay_of_shaped se) (SeqAt.canLay_of_shaped sd) (room_in_shaped sd hu) ⟨.bl _, H, I, rfl, q⟩
/-- list(x) of a list, a tuple or a dict by its keys -/
def rListA (K : PySem.W.Frag) : List V → Hp → VK → Prop := fun xs H Q => ∃ (a : Addr) (ys : List V), xs = [.ref a] ∧ ((SqL K H a ys ∨ SqT K H a ys) ∨ ∃ kvs : List (Key × V), Rd H a (.dK kvs) ∧ ys = kvs.map fun kv => kV kv.1) ∧ ∀ p, H p = none → Q (.ref p) (upd H p (.lst ys))
theorem call_listA (hcalm : X.calm = true) : CallR X (.type "list") (rListA X.K) := by
  intro pins s σ H xs us Q I r h
  obtain ⟨a, ys, rfl, h | ⟨kvs, hk, rfl⟩, q⟩ := h
  · exact call_list_of pins s σ H _ us Q I r ⟨a, ys, rfl, h, q⟩
  · exact call_listD hcalm pins s σ H _ us Q I r ⟨a, kvs, rfl, hk, q⟩
end
end InT
/-! rules for one of two kinds of things; bool + int -/
namespace Mx2
open PySem PySem.Spec PyProof.Rows L2
section
variable {X : Cx}
theorem op_or {f : Value → Value → Sem Value} {r1 r2 : R2} (h1 : OpR X f r1) (h2 : OpR X f r2) : OpR X f (fun x y H Q => r1 x y H Q ∨ r2 x y H Q) := by
  intro pins s σ H x y v u Q I rx ry h
  rcases h with h | h
  · exact h1 pins s σ H x y v u Q I rx ry h
  · exact h2 pins s σ H x y v u Q I rx ry h
theorem sl_or {r1 r2 : V → Option Int → Option Int → Hp → VK → Prop} (h1 : SlR X r1) (h2 : SlR X r2) : SlR X (fun x lo hi H Q => r1 x lo hi H Q ∨ r2 x lo hi H Q) := by
  intro pins s σ H x v vl vu lo hi sl Q I rx hs pl pu h
  rcases h with h | h
  · exact h1 pins s σ H x v vl vu lo hi sl Q I rx hs pl pu h
  · exact h2 pins s σ H x v vl vu lo hi sl Q I rx hs pl pu h
def bI (b : Bool) : Int := if b = true then 1 else 0
/-- a whole number or a bool, and a whole number -/
def rAddBI : R2 := fun x y H Q => ∃ i j : Int, (x = .int i ∨ ∃ b : Bool, x = .bl b ∧ i = bI b) ∧ y = .int j ∧ Q (.int (i + j)) H
theorem op_addBI : OpR X (binaryOp .Add) rAddBI := by
  intro pins s σ H x y v u Q I rx ry h
  obtain ⟨i, j, hx, rfl, q⟩ := h
  obtain ⟨t', rfl⟩ := ry
  rcases hx with rfl | ⟨b, rfl, rfl⟩
  · obtain ⟨t, rfl⟩ := rx
    exact add_int ⟨.int _, H, I.tok _, ⟨_, rfl⟩, q⟩
  · cases rx
    exact IntBool.add_bool_int ⟨.int _, H, I.tok _, ⟨_, rfl⟩, q⟩
/-- a tuple of any kind or a text: sums and slices -/
def rCatM (K : PySem.W.Frag) : R2 := fun x y H Q => Th.rCatS K x y H Q ∨ (fun x y (H : Hp) (Q : VK) => ∃ i j : Str, x = .str i ∧ y = .str j ∧ i.length + j.length ≤ sizeLine ∧ Q (.str (i ++ j)) H) x y H Q
theorem op_catM : OpR X (binaryOp .Add) (rCatM X.K) := op_or Th.op_catS op_add_str
def rSlM (K : PySem.W.Frag) : V → Option Int → Option Int → Hp → VK → Prop := fun x lo hi H Q => Th.rSlS K x lo hi H Q ∨ L2.rSlS x lo hi H Q
theorem sl_M : SlR X (rSlM X.K) := sl_or Th.sl_tupS sl_str
end
end Mx2
/-! an own error below an own error below ValueError whose __init__ says super().__init__(f'..{where}') and keeps where -/
namespace SupE
open PySem PySem.W PySem.Calls PyProof.Rows PySem.HandSPX
/-! ### the text -/
def iA (p1 p2 : Pos) : Arguments := { posonlyargs := [], args := [{ arg := "self", annotation := none, pos := p1 }, { arg := "where", annotation := none, pos := p2 }], vararg := none, kwonlyargs := [], kw_defaults := [], kwarg := none, defaults := [] }
structure Ps where
  a : Pos
  b : Pos
  c : Pos
  d : Pos
  e : Pos
  f : Pos
  g : Pos
  h : Pos
  i : Pos
  j : Pos
  k : Pos
  l : Pos
  m : Pos
def jE (z : Str) (q : Ps) : Expr := .JoinedStr [.Constant (.str z) 0 q.d, .FormattedValue (.Name "where" q.e) (-1) none q.f] q.g
def s1 (z : Str) (q : Ps) : Stmt := .Expr (.Call (.Attribute (.Call (.Name "super" q.a) [] [] q.b) "__init__" q.c) [jE z q] [] q.h) q.i
def s2 (q : Ps) : Stmt := .Assign [.Attribute (.Name "self" q.j) "where" q.k] (.Name "where" q.l) q.m
def iB (z : Str) (q : Ps) : List Stmt := [s1 z q, s2 q]
def iS : Scope := { kind := .function, names := [(PySem.Str.ofString "self", .local), (PySem.Str.ofString "where", .local), (PySem.Str.ofString "__class__", .free), (PySem.Str.ofString "super", .globalImplicit)], isGenerator := false, isCoroutine := false, more := [] }
/-- what the written part says of the class at C and of its __init__ at fI -/
structure Txt (prog : Program) (K : Frag) (mg : Str → Option Value) (z : Str) (C fI : Addr) : Prop where
  ox : L2.OexC K C
  noN : findIn K (.ref C) "where" = some none
  iC : findIn K (.ref C) "__init__" = some (some (.ref fI))
  tI : typeIn K (.ref fI) = some (.type "function")
  sub : mroIn K C (.ref C) = some true
  al : ks_superIn K C C "__init__" = some (some (.builtin "ValueError.__init__"))
  opq : nsIn K cStatics "thirdparty.any" = some none
  xi : excInitIn K C He.veBase "ValueError.__new__" = true
  sVE : subIn K (.ref C) (.type "ValueError") = some true
  sup : mg "super" = none
  top : (prog.main.scope.names.lookup ("super" : Str)).isSome = false
  fn : ∃ (oc doc pm ct ccl cl : Value) (qual : Str) (od cdd cld an : Option Addr) (osl ccs csl : Array (Option Value)) (p1 p2 : Pos) (q : Ps) (cda cc : Addr) (vs : Array Value) (file : Str) (tf : Tok), (q.c.endLine == q.h.line) = true ∧
    K.lookup fI = some ⟨oc, od, .func (ksFn "__init__" qual (iA p1 p2) (iB z q) iS .none .none doc pm an (.ref cda) ct cc), osl⟩ ∧ codeIn K (.ref cda) qual = true ∧
    K.lookup cda = some ⟨ccl, cdd, .fields vs, ccs⟩ ∧ vs[2]? = some (.str file tf) ∧ ((prog.main.file : Str) == file) = true ∧ K.lookup cc = some ⟨cl, cld, .cell (some (.ref C)), csl⟩
theorem call_tree {z : Str} {q : Ps} {env : Env} (h : (q.c.endLine == q.h.line) = true) (hform : methodCallForm 1 (backTo q.h (starEach [jE z q] env)) [] = true := by rfl) :
    eval (.Call (.Attribute (.Call (.Name "super" q.a) [] [] q.b) "__init__" q.c) [jE z q] [] q.h) env = (do
      let ov ← attributeBase (.Call (.Name "super" q.a) [] [] q.b) "__init__" env (eval (.Call (.Name "super" q.a) [] [] q.b) env)
      standAt q.c.atName
      let (f, first) ← holding [ov] (getMethod ov "__init__" (L2.plainOf (.Call (.Name "super" q.a) [] [] q.b) env))
      callWith q.h f first (backTo q.h (starEach [jE z q] env)) []) := by
  rw [arm_eval_Call]
  have e : ∀ ov, methodCall (.Call (.Name "super" q.a) [] [] q.b) "__init__" q.c q.h env ov ([jE z q].length + ([] : List Keyword).length) (backTo q.h (starEach [jE z q] env)) (backToKw q.h (keywordEach [] env)) = (do
      let (f, first) ← holding [ov] (getMethod ov "__init__" (L2.plainOf (.Call (.Name "super" q.a) [] [] q.b) env))
      callWith q.h f first (backTo q.h (starEach [jE z q] env)) []) := fun ov => L2.mcall_line hform h
  exact congrArg (fun k : Value → Sem Value => (do
      let ov ← attributeBase (.Call (.Name "super" q.a) [] [] q.b) "__init__" env (eval (.Call (.Name "super" q.a) [] [] q.b) env)
      standAt q.c.atName
      k ov)) (funext e)
/-- what __init__ leaves of a fresh error at x -/
structure InitEnd (h h' : Heap) (x C dx t1 : Addr) (v : Value) : Prop where
  keep : ∀ b o, b ≠ x → h.get? b = some o → h'.get? b = some o
  obj : h'.get? x = some { cls := .ref C, dict := some dx, data := .fields #[.ref t1, .none, .none, .none, .bool false, .none] }
  dbig : h.objs.size ≤ dx
  dne : dx ≠ x
  ns : h'.Ns1 dx (fun y => if y = "where" then some v else none)
section
variable {prog : Program} {w : World} {A : Around} {E : Value → Shared → Prop} {R : Result → Shared → Prop} {s : Shared} {K : Frag} {mg : Str → Option Value} {C fI : Addr} {z : Str}
/-- a value that may stand behind a text -/
def Says (z : Str) (v : Value) : Prop := z.length ≤ sizeLine ∧ ((∃ (y : Str) (t : Tok), v = .str y t ∧ y.length ≤ sizeLine ∧ (z ++ y).length ≤ sizeLine) ∨
  ∃ (i : Int) (t : Tok), v = .int i t ∧ i.natAbs.log2 < 1920 ∧ (z ++ (toString i : Str)).length ≤ sizeLine)
theorem kept_but {h h' : Heap} {x : Addr} (X : K.In h) (hx : K.lookup x = none) (k : ∀ b o, b ≠ x → h.get? b = some o → h'.get? b = some o) : K.In h' := fun a o e =>
  k a o (fun z => by rw [z, hx] at e; cases e) (X a o e)
theorem init (T : Txt prog K mg z C fI) {x t0 : Addr} {v : Value} (X : K.In s.heap) (G : s.heap.Ns mainGlobals mg) (B : ∃ mb, s.heap.Ns builtinsNs mb ∧ ∀ y : Str, y ≠ "__name__" → mb y = bootBuiltins y) (hlim : s.heap.NoLimit)
    (hx : s.heap.get? x = some (excO C t0)) (hnx : K.lookup x = none) (hroom : A.depth < recursionLimit) (hv : Says z v)
    (hq : ∀ h' tk dx t1, InitEnd s.heap h' x C dx t1 v → R (.ok (.ret .none)) { s with heap := h', toks := tk }) :
    codeAny (model prog w) A (.call (.ref fI) ⟨[.ref x, v], []⟩) R s := by
  obtain ⟨oc, doc, pm, ct, ccl, cl, qual, od, cdd, cld, an, osl, ccs, csl, p1, p2, q, cda, cc, vs, file, tf, hln, ho, hcd, hco, hvs, hfile, hcell⟩ := T.fn
  obtain ⟨nm, qn, N, bs, bm, sn, sub, ab, col, dd, k0, k1, k2, k3, k5, hC, hbm⟩ := T.ox.cls
  have hcl : clsIn K C = some { name := nm, bases := bs, mro := .ref C :: bm, ns := N, qualname := qn, hasDict := true, slotNames := sn, subclasses := sub, abstract := ab, collection := col, hasDel := false } := by unfold clsIn; rw [hC] <;> rfl
  obtain ⟨hp, g, d, tk, os⟩ := s
  obtain ⟨mb, hmb, hbt⟩ := B
  refine ks_codeAny_call_defAt (fd := ksFn "__init__" qual (iA p1 p2) (iB z q) iS .none .none doc pm an (.ref cda) ct cc) (body := iB z q) (binds := [("self", .ref x), ("where", v)]) hroom (X _ _ ho) rfl hlim (codeRec_of X hcd) rfl
    (BindsTo.of_eq (by first | rfl | with_unfolding_all rfl)) (show ∀ y ∈ iS.names, y.2 ≠ .cell by decide) (fun y hy => ?_) (fun h₁ hns hk => ?_) rfl rfl rfl
  · rcases List.mem_cons.mp hy with rfl | hy
    · rfl
    rcases List.mem_cons.mp hy with rfl | hy
    · rfl
    · cases hy
  have X₁ : K.In h₁ := X.keeps hk
  have hx₁ := hk _ _ hx
  have hxC : x ≠ C := fun e => by rw [e, hC] at hnx; cases hnx
  refine ks_wpAt_execs_cons (ks_wpAt_Expr_any (ks_wpAt_MethodCall (pl := L2.plainOf (.Call (.Name "super" q.a) [] [] q.b) (ksEnv qual iS hp.objs.size fI (.ref cda) cc)) ?_ (call_tree hln)))
  refine ks_wpAt_super_base (by rfl) (by rfl) rfl rfl (hk _ _ (X _ _ ho)) rfl rfl rfl (hk _ _ (X _ _ hco)) rfl hvs hfile T.top ?_
  refine ks_loadName_global rfl (by rfl) (loadGlobal_builtin (G.keeps hk) T.sup (hmb.keeps hk) ((hbt _ (by decide)).trans PyProof.Rows.Boot.«super») ⟨rfl, ?_⟩)
  refine wpAny_loadName_free rfl (by rfl) rfl ⟨_, hk _ _ (X _ _ hcell), rfl⟩ ?_
  refine wpAny_loadName_local (v := .ref x) rfl (by rfl) hns (by first | rfl | with_unfolding_all rfl | kernel_rfl) ?_
  refine ks_wpAny_isType_cls (X₁ _ _ hC) rfl ⟨rfl, ?_⟩
  refine ks_wpAny_call_super (X₁ _ _ hC) rfl hx₁ rfl (fun c e => by cases e) (looks_mroIn X₁ T.sub) (fun h₂ e₂ k₂ => ?_)
  have X₂ : K.In h₂ := X₁.keeps k₂
  have hx₂ := k₂ _ _ hx₁
  have hns₂ := hns.keeps k₂
  have hal : alongIn K "__init__" ((((.ref C : Value) :: bm).dropWhile (· != .ref C)).drop 1) = some (some (.builtin "ValueError.__init__")) := by
    have e := T.al
    unfold ks_superIn at e
    rw [hcl] at e
    exact e
  have I₂ : InstAt h₂ x (excO C t0) C none := ⟨hx₂, rfl, rfl, trivial⟩
  refine kxs_getMethod kxs_ValueError (K := K) (l₀ := .ref C :: bm) e₂ (looks_opaque X₂ T.opq) (fun A Q E s k q => wpAny_bind ((looks_clsIn X₂ hcl) A _ E s k (wpAny_pure q))) rfl X₂ hal (I₂.type.andThen (looks_subIn X₂ T.sVE)) hxC (by decide) ?_
  -- the text, the call
  have k₃ : ∀ b o, h₂.get? b = some o → (h₂.push (kxs_mw "ValueError.__init__" x)).get? b = some o := fun b o e => Heap.get?_push_of_some _ e
  have hmw : (h₂.push (kxs_mw "ValueError.__init__" x)).get? h₂.objs.size = some (kxs_mw "ValueError.__init__" x) := Heap.get?_push_at rfl rfl
  have hx₃ := k₃ _ _ hx₂
  have hns₃ := hns₂.keeps k₃
  have X₃ : K.In _ := X₂.keeps k₃
  refine kxs_callWith (i := "ValueError.__init__") (x := x) (by rfl) ?_
  show wpAny _ _ (evalArgs _ true (backTo q.h ((false, eval (jE z q) (ksEnv qual iS hp.objs.size fI (.ref cda) cc)) :: [])) []) _ _ _
  refine evalArgs_plain ?_
  refine spliced_more (pos := q.h) (e := jE z q) (rest := []) (env := ksEnv qual iS hp.objs.size fI (.ref cda) cc) ?_ rfl
  -- what stands behind the text
  have fin : ∀ (y : Str) (ty : Tok) (tk3 : Nat), wpAny (model prog w) (A.deeper (ksEnv qual iS hp.objs.size fI (.ref cda) cc)) (spliced (backTo q.h (starEach [] (ksEnv qual iS hp.objs.size fI (.ref cda) cc))))
      (fun vs s₁ => KxsAt "ValueError.__init__" h₂.objs.size x s₁.heap ∧ wpAny (model prog w) (A.deeper (ksEnv qual iS hp.objs.size fI (.ref cda) cc)) (call (.ref h₂.objs.size) ([] ++ (Value.str y ty :: vs)))
        (fun _ s' => PySem.wpAt (model prog w) (A.deeper (ksEnv qual iS hp.objs.size fI (.ref cda) cc)) (.func (iB z q) (ksEnv qual iS hp.objs.size fI (.ref cda) cc)) (execs [s2 q] (ksEnv qual iS hp.objs.size fI (.ref cda) cc))
          (fun f s' => R (.ok (.ret (match f with | .ret v => v | _ => .none))) s')
          (fun e s' => wpAny (model prog w) (A.deeper (ksEnv qual iS hp.objs.size fI (.ref cda) cc)) (leaving (ksEnv qual iS hp.objs.size fI (.ref cda) cc) e) (fun _ s'' => R (.error e) s'') (fun e' s'' => R (.error e') s'') s') s')
        (fun e s' => wpAny (model prog w) (A.deeper (ksEnv qual iS hp.objs.size fI (.ref cda) cc)) (leaving (ksEnv qual iS hp.objs.size fI (.ref cda) cc) e) (fun _ s'' => R (.error e) s'') (fun e' s'' => R (.error e') s'') s') s₁)
      (fun e s' => wpAny (model prog w) (A.deeper (ksEnv qual iS hp.objs.size fI (.ref cda) cc)) (leaving (ksEnv qual iS hp.objs.size fI (.ref cda) cc) e) (fun _ s'' => R (.error e) s'') (fun e' s'' => R (.error e') s'') s')
      ⟨h₂.push (kxs_mw "ValueError.__init__" x), g, d, tk3, os⟩ := fun y ty tk3 => by
    refine spliced_none ⟨hmw, ?_⟩
    have xL : hp.objs.size ≠ x := Nat.ne_of_gt (Heap.lt_size hx)
    have lt2 : hp.objs.size < h₂.objs.size := hns₂.lt
    have F0 : Fr (hp.hide x) hp.objs.size (h₂.push (kxs_mw "ValueError.__init__" x)) _ := ⟨hns₃, fun b o e => k₃ _ _ (k₂ _ _ (hk _ _ (Heap.of_hide e))), Nat.le_of_eq (Heap.hide_size hp x)⟩
    have K0 : K.In (hp.hide x) := fun b o e => (Heap.hide_ne hp (fun z => by rw [z, hnx] at e; cases e)).trans (X b o e)
    have N0 : News (hp.hide x) hp.objs.size (h₂.push (kxs_mw "ValueError.__init__" x)) [(h₂.objs.size, kxs_mw "ValueError.__init__" x), (x, excObj C t0 none .none)] := fun p hpm => by
      rcases List.mem_cons.mp hpm with rfl | hpm
      · refine ⟨hmw, Nat.ne_of_gt lt2, ?_⟩
        cases e : (hp.hide x).get? h₂.objs.size with
        | none => rfl
        | some o => exact absurd (Nat.lt_trans lt2 (Heap.lt_size (Heap.of_hide e))) (Nat.lt_irrefl _)
      · cases List.mem_singleton.mp hpm
        exact ⟨hx₃, Ne.symm xL, Heap.hide_self hp x⟩
    have ux : h₂.objs.size ≠ x := fun z => by
      have lx : x < hp.objs.size := Heap.lt_size hx
      rw [← z] at lx
      exact absurd (Nat.lt_trans lt2 lx) (Nat.lt_irrefl _)
    have U0 : UpdF x (excObj C t0 none .none) [(h₂.objs.size, kxs_mw "ValueError.__init__" x), (x, excObj C t0 none .none)] _ := .tail ux (.head (fun _ h => (nomatch h)))
    refine kxs_call F0 K0 N0 F.excBase_ValueError T.xi (.head _) U0 (show 1 ≤ sizeLine by rw [sizeLine_eq]; decide) (fun t1 h₄ F4 N4 _ => ?_)
    have hx₄ : h₄.get? x = some (excO C t1) := (N4 (x, excObj C t1 none .none) (.tail _ (.tail _ (.head _)))).1
    have hns₄ := F4.ns
    have up : ∀ b o, b ≠ x → hp.get? b = some o → h₄.get? b = some o := fun b o hb e => F4.keep b o ((Heap.hide_ne hp hb).trans e)
    have X₄ : K.In h₄ := kept_but X hnx up
    refine wpAt_of_wpAny (wpAny_execs_cons (plainObj_wpAny_Assign_Attribute ?_))
    refine PySem.ESX.ldL (v := v) hns₄ (by first | rfl | with_unfolding_all rfl | kernel_rfl) (PySem.ESX.ldL (v := .ref x) hns₄ (by first | rfl | with_unfolding_all rfl | kernel_rfl) ?_)
    refine set_plain X₄ (ox := excO C t1) (od := none) ⟨hx₄, rfl, rfl, trivial⟩ T.ox.sa ?_
    refine exc_osa X₄ hx₄ hcl (show refsVE (.ref C :: bm) = true from hbm) rfl T.noN (fun h₅ tk₅ dx k₅ dn dne hx₅ hn₅ => ?_)
    show wpAny _ _ (execs _ _) _ _ _
    have big : hp.objs.size ≤ h₄.objs.size := by
      have z := hns₄.lt
      exact Nat.le_of_lt z
    exact wpAny_execs_nil (hq h₅ tk₅ dx t1 ⟨fun b o hb e => k₅ b o hb (up b o hb e), hx₅, Nat.le_trans big dn, dne, hn₅⟩)
  obtain ⟨hzl, hv⟩ := hv
  have z0 : (Str.empty ++ z : Str) = z := by obtain ⟨c⟩ := z; exact congrArg Str.mk (Array.empty_append)
  refine JoinedStr_many (joinParts_cons (wpAny_Constant_str ⟨by rw [z0]; exact hzl, joinParts_cons (FormattedValue_plain (PySem.ESX.ldL (v := v) hns₃ (by first | rfl | with_unfolding_all rfl | kernel_rfl) ?_))⟩))
  rw [z0]
  rcases hv with ⟨y, t, rfl, hy, hzy⟩ | ⟨i, t, rfl, hi, hzy⟩
  · exact formatField_str (fun t' tk => ⟨hzy, joinParts_nil (fin _ _ _) hzy⟩) hy
  · exact formatField_int_small hi ⟨hzy, joinParts_nil (fin _ _ _) hzy⟩
/-- a made one -/
structure Made (h h' : Heap) (e C d : Addr) (v : Value) : Prop where
  keep : ∀ b o, h.get? b = some o → h'.get? b = some o
  new : h.objs.size ≤ e
  obj : ∃ oe vs, h'.get? e = some oe ∧ oe.cls = .ref C ∧ oe.dict = some d ∧ oe.data = .fields vs ∧ vs[1]? = some .none
  dbig : h.objs.size ≤ d
  dne : d ≠ e
  ns : h'.Ns1 d (fun y => if y = "where" then some v else none)
theorem made (T : Txt prog K mg z C fI) {v : Value} (X : K.In s.heap) (G : s.heap.Ns mainGlobals mg) (B : ∃ mb, s.heap.Ns builtinsNs mb ∧ ∀ y : Str, y ≠ "__name__" → mb y = bootBuiltins y) (hlim : s.heap.NoLimit) (hroom : A.depth + 1 < recursionLimit) (hv : Says z v)
    (hq : ∀ h' tk e d, Made s.heap h' e C d v → R (.ok (.ret (.ref e))) { s with heap := h', toks := tk }) :
    codeAny (model prog w) A (.call (.ref C) ⟨[v], []⟩) R s := by
  obtain ⟨nm, qn, N, bs, bm, sn, sub, ab, col, dd, k0, k1, k2, k3, k5, hC, hbm⟩ := T.ox.cls
  obtain ⟨hp, g, d, tk, os⟩ := s
  obtain ⟨mb, hmb, hbt⟩ := B
  have k : ∀ b o, hp.get? b = some o → ((hp.push (kdv_tup [v])).push (excO C hp.objs.size)).get? b = some o := fun b o e => Heap.get?_push_of_some _ (Heap.get?_push_of_some _ e)
  have hget : ((hp.push (kdv_tup [v])).push (excO C hp.objs.size)).get? (hp.objs.size + 1) = some (excO C hp.objs.size) := by heap_get
  have hnx : K.lookup (hp.objs.size + 1) = none := by
    cases e : K.lookup (hp.objs.size + 1) with
    | none => rfl
    | some o => exact absurd (Nat.lt_of_succ_lt (Heap.lt_size (X _ _ e))) (Nat.lt_irrefl _)
  refine call_own F.excBase_ValueError (fun X => refsVE_contains X bm hbm) (X _ _ hC) (looks_findIn X T.iC) (fun self => bind_fn X self T.tI) (show 1 ≤ sizeLine by rw [sizeLine_eq]; decide) ?_
  refine init (s := ⟨(hp.push (kdv_tup [v])).push (excO C hp.objs.size), g, d, tk, os⟩) T (X.keeps k) (G.keeps k) ⟨mb, hmb.keeps k, hbt⟩ (hlim.keeps k) hget hnx hroom hv fun h' tk' dx t1 ⟨k', hx, dn, dne, hns⟩ => ?_
  have old : ∀ b o, hp.get? b = some o → h'.get? b = some o := fun b o e => k' b o (Nat.ne_of_lt (Nat.lt_succ_of_lt (Heap.lt_size e))) (k b o e)
  have z2 : hp.objs.size ≤ dx := by
    have q := dn
    rw [Heap.size_push, Heap.size_push] at q
    omega
  exact ⟨rfl, hq h' tk' (hp.objs.size + 1) dx ⟨old, Nat.le_succ _, ⟨_, _, hx, rfl, rfl, rfl, rfl⟩, z2, dne, hns⟩⟩
end
end SupE
namespace SupE
open PySem PySem.Spec PyProof.Rows L2
theorem relO_where {v : V} {v' : Value} (r : RelV v v') (f : Str) : RelO (List.lookup f [(("where" : Str), v)]) (if f = "where" then some v' else none) := by
  by_cases hw : f = "where"
  · subst hw
    rw [if_pos rfl, show List.lookup ("where" : Str) [(("where" : Str), v)] = some v by simp [List.lookup]]
    exact r
  · rw [if_neg hw, show List.lookup f [(("where" : Str), v)] = none by simp [List.lookup, show (f == ("where" : Str)) = false by simpa using hw]]
    trivial
/-- a text or number that may stand behind a text -/
def SaysV (z : Str) (v : V) : Prop := z.length ≤ sizeLine ∧ ((∃ y : Str, v = .str y ∧ y.length ≤ sizeLine ∧ (z ++ y).length ≤ sizeLine) ∨ ∃ i : Int, v = .int i ∧ i.natAbs.log2 < 1920 ∧ (z ++ (toString i : Str)).length ≤ sizeLine)
theorem saysV_ok {z : Str} {v : V} {u : Value} (h : SaysV z v) (r : RelV v u) : Says z u := by
  obtain ⟨h1, ⟨y, rfl, a, b⟩ | ⟨i, rfl, a, b⟩⟩ := h
  · obtain ⟨t, rfl⟩ := r
    exact ⟨h1, .inl ⟨y, t, rfl, a, b⟩⟩
  · obtain ⟨t, rfl⟩ := r
    exact ⟨h1, .inr ⟨i, t, rfl, a, b⟩⟩
/-- C(e) -/
def tMk (z : Str) (C : Addr) (ta : TA) : L2.St → Hp → XK → Prop := fun σ H Q => ta σ H fun vs H1 => ∃ v, vs = [v] ∧ SaysV z v ∧ ∀ d, H1 d = none → Q (.ref C) (some d) (upd H1 d (.xd [(("where" : Str), v)]))
section
variable {X : Cx} {C fI : Addr} {z : Str}
theorem pmk {x : Str} {a : Expr} {ta : TA} {p pos : Pos} {k : Nat} (T : Txt X.prog X.K X.mg z C fI) (hm : X.mg x = some (.ref C)) (hr : Room k X.A) (hk : 1 ≤ k) (ha : PA X [a] ta) (hg : Gl X x)
    (hdb : (x == ("__debug__" : Str)) = false := by decide) (he : starEach (a :: []) X.env = (false, eval a X.env) :: starEach [] X.env := by rfl) (hpl : (backTo pos (starEach [] X.env)).any (·.1) = false := by rfl) :
    PMk X (.Call (.Name x p) [a] [] pos) (tMk z C ta) := by
  intro pins s σ H Q I h
  refine wpAny_Call_Name_kw (ld_glob I hg hm ?_ hdb)
  refine PySem.W.callWith_K (h₀ := X.base) I.ok.mod.kin T.ox.kC (thn (ha.run pos pins s σ H _ I h) fun us s1 hh => ?_) he hpl
  obtain ⟨vs, H1, I1, r1, v, ev, sv, q1⟩ := hh
  subst ev
  refine ⟨I1.kIn, ?_⟩
  cases r1 with
  | cons rv rn =>
    rename_i v' us'
    cases rn
    show wpAny _ _ (call (.ref C) [v']) _ _ _
    have hlim := I1.nolimit
    have hG := I1.mod.glob.keeps I1.bk
    obtain ⟨mb, hb1, hb2⟩ := I1.mod.blt
    have hB := hb1.keeps I1.bk
    obtain ⟨hp, g, dr, tk, os⟩ := s1
    refine wpAny_call (made T I1.kIn hG ⟨mb, hB, hb2⟩ hlim (by have := hr.dp; omega) (saysV_ok sv rv) fun h' tk' e d M => ?_)
    show MkP X pins σ Q (.ref e) ⟨h', g, dr, tk', os⟩
    obtain ⟨oe, fv, hoe, hc, hd, hdat, h1⟩ := M.obj
    have hns := M.ns
    obtain ⟨G', g1, g2⟩ := restrict h' fun b => decide (b ≠ e)
    have gk : ∀ b, b ≠ e → G'.get? b = h'.get? b := fun b hb => g1 b (decide_eq_true hb)
    have ge : G'.get? e = none := g2 e (by simp)
    have old : ∀ b o, hp.get? b = some o → G'.get? b = some o := fun b o q => (gk b (Nat.ne_of_lt (Nat.lt_of_lt_of_le (Heap.lt_size q) M.new))).trans (M.keep b o q)
    have ob : ObjOk X.prog X.w (upd H1 d (.xd [(("where" : Str), v)])) G' d (.xd [(("where" : Str), v)]) := ⟨_, hns.at (fun o q => (gk d M.dne).trans q), fun f => relO_where rv f⟩
    have J : Inv X pins σ (upd H1 d (.xd [(("where" : Str), v)])) ⟨G', g, dr, tk', os⟩ := I1.laid (t' := tk') old M.dbig ob
    refine ⟨e, oe, fv, ⟨G', g, dr, tk', os⟩, _, .ref C, some d, rfl, J, fun b o q => ?_, ge, hoe, ⟨hc, hd⟩, hdat, h1, ?_, rfl, I1.bare, raises_own T.ox.exC T.ox.tyC, q1 d (I1.hok.fresh M.dbig)⟩
    · by_cases hb : b = e
      · have q' : G'.get? b = some o := q
        rw [hb, ge] at q'
        cases q'
      · exact (gk b hb).symm.trans q
    · rw [upd_ne (Ne.symm M.dne)]
      exact I1.hok.fresh M.new
end
end SupE
/-! isinstance of a caught own error that has its dict: one class, a tuple of classes -/
namespace ExIs
open PySem PySem.Spec PyProof.Rows L2
theorem kitD {K : PySem.W.Frag} {D x : Addr} {ox : Obj} {od : Option Obj} (c : ExcC K D) : PySem.W.KitX K (.ref x) (.ref D) (fun h => PySem.W.InstAt h x ox D od) := by
  have hcl : (PySem.W.clsIn K D).isSome = true := by
    have e := c.hd
    unfold PySem.W.hasDictIn at e
    cases q : PySem.W.clsIn K D with
    | none => rw [q] at e; cases e
    | some _ => rfl
  exact PySem.W.kitx_exc hcl c.hg c.hk c.hs c.ha c.hn c.ht c.hm
/-- the caught error at a, class cls, dict d: its class is the one at D, its dict is tracked -/
def Own (cls : Value) (d : Option Addr) (D : Addr) (H : Hp) : Prop := cls = .ref D ∧ ∃ (dd : Addr) (fs : List (Str × V)), d = some dd ∧ H dd = some (.xd fs)
/-- isinstance(e, c) -/
def rE1 (K : PySem.W.Frag) (a : Addr) (cls : Value) (d : Option Addr) : List V → Hp → VK → Prop := fun xs H Q => ∃ (D : Addr) (c : V) (u : Value) (b : Bool), xs = [.ref a, c] ∧ Own cls d D H ∧ ExcC K D ∧ ClsV c u ∧ PySem.W.kitOne K (.ref D) u = some b ∧ Q (.bl b) H
/-- isinstance(e, (c1, c2, ..)) -/
def rET (K : PySem.W.Frag) (a : Addr) (cls : Value) (d : Option Addr) : List V → Hp → VK → Prop := fun xs H Q => ∃ (D tp : Addr) (cs : List V) (us : List Value) (b : Bool), xs = [.ref a, .ref tp] ∧ Own cls d D H ∧ ExcC K D ∧ H tp = some (.tup cs) ∧
  Paired ClsV cs us ∧ PySem.W.kitAny K (.ref D) us = some b ∧ Q (.bl b) H
section
variable {X : Cx} {a : Addr} {oe : Obj} {cls : Value} {d : Option Addr} {pn : List (Addr × Obj)}
theorem inst {pins : List (Addr × Obj)} {σ : L2.St} {H : Hp} {s : Shared} {D : Addr} (I : Inv (X.suite a ((a, oe) :: pn)) pins σ H s) (hz : Zc cls d oe) (hf : ∃ vs, oe.data = .fields vs) (o : Own cls d D H) : ∃ od, PySem.W.InstAt s.heap a oe D (some od) := by
  obtain ⟨rfl, dd, fs, rfl, hd⟩ := o
  obtain ⟨hget, _⟩ := I.pin (a, oe) (List.mem_append.mpr (.inl List.mem_cons_self))
  have hx : ObjOk X.prog X.w H s.heap dd (.xd fs) := I.hok dd _ hd
  obtain ⟨mA, hns, _⟩ := hx
  obtain ⟨od, ho, _⟩ := lookIn_ns hns
  obtain ⟨vs, hv⟩ := hf
  refine ⟨od, hget, hz.1, ?_, ?_⟩
  · unfold PySem.W.notCls
    rw [hv]
  · rw [hz.2]
    exact ho
theorem call_e1 (hz : Zc cls d oe) (hf : ∃ vs, oe.data = .fields vs) : CallR (X.suite a ((a, oe) :: pn)) (.builtin "isinstance") (rE1 X.K a cls d) := by
  intro pins s σ H xs us Q I r h
  obtain ⟨D, c, u, b, rfl, o, C, k, e, q⟩ := h
  obtain ⟨od, J⟩ := inst I hz hf o
  obtain ⟨u1, u2, rfl, r1, r2⟩ := vals2 r
  cases (show u1 = Value.ref a from r1)
  cases k.eq r2
  exact PySem.W.kia_one (kitD C) I.kIn J e (fun z => nomatch z) fun tk => ⟨.bl b, H, I.tok tk, rfl, q⟩
theorem call_eT (hz : Zc cls d oe) (hf : ∃ vs, oe.data = .fields vs) : CallR (X.suite a ((a, oe) :: pn)) (.builtin "isinstance") (rET X.K a cls d) := by
  intro pins s σ H xs ws Q I r h
  obtain ⟨D, tp, cs, us, b, rfl, o, C, hT, k, e, q⟩ := h
  obtain ⟨od, J⟩ := inst I hz hf o
  obtain ⟨u1, u2, rfl, r1, r2⟩ := vals2 r
  cases (show u1 = Value.ref a from r1)
  cases (show u2 = Value.ref tp from r2)
  obtain ⟨_, its, rv, ⟨oc, oD, dt, sl⟩, h1, h2, n, h3⟩ := (show ObjOk X.prog X.w H s.heap tp (.tup cs) from I.hok tp _ hT)
  cases ClsV.all k rv
  cases (show oc = _ from h2)
  cases (show dt = _ from h3)
  exact PySem.W.kia_tup (kitD C) I.kIn J h1 e (fun z => nomatch z) fun tk => ⟨.bl b, H, I.tok tk, rfl, q⟩
end
end ExIs
/-! sorted(rows, key=lambda row: (row[A], row[B], row[C])), A, B, C whole numbers of the module -/
namespace Lr
open PySem PySem.Spec PyProof.Rows L2 LamX
structure Lam0 (scope : Scope) (z c1 c2 c3 : Str) : Prop where
  kind : scope.kind = .function
  co : scope.isCoroutine = false
  gen : scope.isGenerator = false
  nc : ∀ q ∈ scope.names, q.2 ≠ .cell
  nf : ∀ q ∈ scope.names, q.2 ≠ .free
  z : scope.names.lookup z = some .local
  g1 : scope.names.lookup c1 = some .globalImplicit
  g2 : scope.names.lookup c2 = some .globalImplicit
  g3 : scope.names.lookup c3 = some .globalImplicit
theorem lam0_by {scope : Scope} {z c1 c2 c3 : Str} (h1 : scope.kind = .function) (h2 : scope.isCoroutine = false) (h3 : scope.isGenerator = false) (h4 : (scope.names.all fun q => !decide (q.2 = .cell) && !decide (q.2 = .free)) = true) (h5 : scope.names.lookup z = some .local)
    (h6 : scope.names.lookup c1 = some .globalImplicit) (h7 : scope.names.lookup c2 = some .globalImplicit) (h8 : scope.names.lookup c3 = some .globalImplicit) : Lam0 scope z c1 c2 c3 := by
  refine ⟨h1, h2, h3, fun q hq e => ?_, fun q hq e => ?_, h5, h6, h7, h8⟩
  · have := List.all_eq_true.mp h4 q hq
    rw [e] at this
    simp at this
  · have := List.all_eq_true.mp h4 q hq
    rw [e] at this
    simp at this
/-- a key of three whole numbers -/
def key3 {β : Type} (f : β → Int × Int × Int) (b : β) : PyData := .tuple [.int (f b).1, .int (f b).2.1, .int (f b).2.2]
section
variable {prog : Program} {w : World} {A : Around} {E : Value → Shared → Prop} {s : Shared}
theorem item_at {value slice : Expr} {env : Env} {m mg : Str → Option Value} {z c : Str} {t : Addr} {its : List Value} {n : Nat} {u v : Tok} {x : Int} {p1 p2 p3 : Pos} {Q : Value → Shared → Prop} (hk : env.scope.kind = .function) (hz : env.kindOf z = some .local) (hn : s.heap.Ns env.locals m) (hm : m z = some (.ref t))
    (hc : env.kindOf c = some .globalImplicit) (hg : s.heap.Ns env.globals mg) (hv : mg c = some (.int n u)) (ht : IsTup s.heap t its.toArray) (hx : its[n]? = some (.int x v)) (hf : n < 5000) (dz : (z == ("__debug__" : Str)) = false) (dc : (c == ("__debug__" : Str)) = false) (h : Q (.int x v) s) :
    wpAny (model prog w) A (eval (.Subscript (.Name z p1) (.Name c p2) p3) env) Q E s := by
  refine Subscript_ (wpAny_Name (wpAny_loadName_local hk hz hn hm (Calls.Name_function_global hk hc (Calls.loadGlobal_global hg hv ?_) dc)) dz)
  have hl : n < its.length := (List.getElem?_eq_some_iff.mp hx).1
  refine item_tupleT (j := n) ht (by omega) (by omega) ?_ hx h (by intros; rfl)
  rw [seqIndex_of (by omega) (by omega)]
  rfl
theorem keyR_eval {env : Env} {m mg : Str → Option Value} {z c1 c2 c3 : Str} {t : Addr} {its : List Value} {n1 n2 n3 kk : Nat} {u1 u2 u3 v1 v2 v3 : Tok} {x1 x2 x3 : Int} {a1 a2 a3 b1 b2 b3 d1 d2 d3 p6 : Pos} (hk : env.scope.kind = .function) (hz : env.kindOf z = some .local)
    (hn : s.heap.Ns env.locals m) (hm : m z = some (.ref t)) (hg : s.heap.Ns env.globals mg) (k1 : env.kindOf c1 = some .globalImplicit) (k2 : env.kindOf c2 = some .globalImplicit) (k3 : env.kindOf c3 = some .globalImplicit)
    (h1 : mg c1 = some (.int n1 u1)) (h2 : mg c2 = some (.int n2 u2)) (h3 : mg c3 = some (.int n3 u3)) (ht : IsTup s.heap t its.toArray) (e1 : its[n1]? = some (.int x1 v1)) (e2 : its[n2]? = some (.int x2 v2)) (e3 : its[n3]? = some (.int x3 v3))
    (hf : n1 < 5000 ∧ n2 < 5000 ∧ n3 < 5000) (dz : (z == ("__debug__" : Str)) = false) (dc1 : (c1 == ("__debug__" : Str)) = false) (dc2 : (c2 == ("__debug__" : Str)) = false) (dc3 : (c3 == ("__debug__" : Str)) = false) :
    wpAny (model prog w) A (eval (.Tuple [.Subscript (.Name z a1) (.Name c1 a2) a3, .Subscript (.Name z b1) (.Name c2 b2) b3, .Subscript (.Name z d1) (.Name c3 d2) d3] kk p6) env) (PySem.W.KeyPure (.tuple [.int x1, .int x2, .int x3]) s) E s := by
  refine wpAny_Tuple_spliced ?_
  show wpAny _ _ (spliced ((false, eval (.Subscript (.Name z a1) (.Name c1 a2) a3) env) :: backTo p6 (starEach [.Subscript (.Name z b1) (.Name c2 b2) b3, .Subscript (.Name z d1) (.Name c3 d2) d3] env))) _ _ s
  refine Calls.spliced_cons (item_at (value := .Name z a1) (slice := .Name c1 a2) hk hz hn hm k1 hg h1 ht e1 hf.1 dz dc1 ?_)
  show wpAny _ _ (spliced ((false, eval (.Subscript (.Name z b1) (.Name c2 b2) b3) env) :: backTo p6 (starEach [.Subscript (.Name z d1) (.Name c3 d2) d3] env))) _ _ s
  refine Calls.spliced_cons (item_at (value := .Name z b1) (slice := .Name c2 b2) hk hz hn hm k2 hg h2 ht e2 hf.2.1 dz dc2 ?_)
  show wpAny _ _ (spliced ((false, eval (.Subscript (.Name z d1) (.Name c3 d2) d3) env) :: backTo p6 (starEach [] env))) _ _ s
  refine Calls.spliced_cons (item_at (value := .Name z d1) (slice := .Name c3 d2) hk hz hn hm k3 hg h3 ht e3 hf.2.2 dz dc3 ?_)
  refine Calls.spliced_nil ⟨by show 3 ≤ sizeLine; decide, ?_⟩
  exact ⟨_, _, rfl, fun b o e => Heap.get?_push_of_some _ e, .tuple (as := []) (Heap.get?_push_size _ rfl) rfl rfl (.cons (as := []) (bs := []) (.int _ _) (.cons (as := []) (bs := []) (.int _ _) (.cons (as := []) (bs := []) (.int _ _) .nil)))⟩
end
/-- rows and the three places of the key -/
def tSortRow (K : PySem.W.Frag) (ta : TE) (n1 n2 n3 : Nat) (P : Addr) (q : Str) : TE := fun σ H Q => ta σ H fun x H1 => ∃ (l : Addr) (ts : List Addr) (f : Addr → Int × Int × Int), x = .ref l ∧ ts.length ≤ 5000 ∧ SqL K H1 l (ts.map V.ref) ∧
  (∀ t ∈ ts, ∃ xs, SqT K H1 t xs ∧ xs[n1]? = some (.int (f t).1) ∧ xs[n2]? = some (.int (f t).2.1) ∧ xs[n3]? = some (.int (f t).2.2)) ∧ TabS H1 P q ∧
  ∀ H2 p, ExtN H1 H2 → TabS H2 P q → H2 p = none → Q (.ref p) (upd H2 p (.lst ((ts.mergeSort (PySem.W.dataLe false (key3 f))).map V.ref)))
theorem sqT_ext {K : PySem.W.Frag} {H H' : Hp} {a : Addr} {xs : List V} (e : ExtN H H') (h : SqT K H a xs) : SqT K H' a xs := by
  rcases h with (h | ⟨o, h⟩) | h
  · exact .inl (.inl (e _ _ h fun ps z => nomatch z))
  · exact .inl (.inr ⟨o, e _ _ h fun ps z => nomatch z⟩)
  · exact .inr h
theorem sqL_ext {K : PySem.W.Frag} {H H' : Hp} {a : Addr} {xs : List V} (e : ExtN H H') (h : SqL K H a xs) : SqL K H' a xs := by
  rcases h with (h | ⟨o, h⟩) | h
  · exact .inl (.inl (e _ _ h fun ps z => nomatch z))
  · exact .inl (.inr ⟨o, e _ _ h fun ps z => nomatch z⟩)
  · exact .inr h
theorem each_refs : ∀ ts : List Addr, PySem.W.EachIs (fun v t => v = Value.ref t) (ts.map Value.ref) ts
  | [] => .nil
  | t :: ts => .cons rfl (each_refs ts)
section
variable {X : Cx}
theorem pe_sortedRow {c P : Addr} {k kk n1 n2 n3 : Nat} {u1 u2 u3 : Tok} {y : Str} {pn : Pos} {ta : TE} {params : Arguments} {scope : Scope} {z c1 c2 c3 : Str} {p a1 a2 a3 b1 b2 b3 d1 d2 d3 p6 lpos kpos pos : Pos} (hcalm : X.calm = true) (hg : Gl X "sorted") (hm : X.mg "sorted" = none) (ha : PE X (.Name y pn) ta)
    (TB : TabB X.base X.mg c P) (hcode : X.env.code = .ref c) (L : Lam0 scope z c1 c2 c3) (hdef : defaultsOf params X.env = ([], [])) (m1 : X.mg c1 = some (.int n1 u1)) (m2 : X.mg c2 = some (.int n2 u2)) (m3 : X.mg c3 = some (.int n3 u3)) (hf : n1 < 5000 ∧ n2 < 5000 ∧ n3 < 5000)
    (hbind : ∀ (q : Str) (b : Expr) (cl : List (Str × Addr)) (pm cv ctv v : Value), bindArgs (PySem.W.kla_fn "<lambda>" q params b scope cl pm cv ctv) ⟨[v], []⟩ = pure [(z, v)]) (hr : Room (k + 3) X.A)
    (dz : (z == ("__debug__" : Str)) = false) (dc1 : (c1 == ("__debug__" : Str)) = false) (dc2 : (c2 == ("__debug__" : Str)) = false) (dc3 : (c3 == ("__debug__" : Str)) = false):
    PE X (.Call (.Name "sorted" p) [.Name y pn] [⟨some "key", .Lambda params (.Tuple [.Subscript (.Name z a1) (.Name c1 a2) a3, .Subscript (.Name z b1) (.Name c2 b2) b3, .Subscript (.Name z d1) (.Name c3 d2) d3] kk p6) scope lpos, kpos⟩] pos)
      (tSortRow X.K ta n1 n2 n3 P (X.env.qual ++ "<lambda>")) := by
  refine ⟨fun pins s σ H Q I h => ?_⟩
  refine wpAny_Call_Name_kw (ld_blt I hg hm boot_sorted ?_)
  refine PyProof.Rows.callWith_kw ?_
  refine Calls.spliced_cons (thn (ha.run pins s σ H _ I h) fun v s2 ⟨x, H2, I2, rv, q⟩ => ?_)
  obtain ⟨l, ts, f, rfl, hn, hl, hts, hT, q⟩ := q
  cases (show v = Value.ref l from rv)
  refine Calls.spliced_nil ?_
  show wpAny _ _ (evalAll ((do let v ← eval (.Lambda params (.Tuple [.Subscript (.Name z a1) (.Name c1 a2) a3, .Subscript (.Name z b1) (.Name c2 b2) b3, .Subscript (.Name z d1) (.Name c3 d2) d3] kk p6) scope lpos) X.env; standAt pos; pure v) :: [])) _ _ _
  have hfree : ∀ q ∈ scope.names, q.2 = .free → ∃ c, X.env.cells.lookup q.1 = some c := fun q hq e => absurd e (L.nf q hq)
  refine wpAny_evalAll_cons (wpAny_bind (lam_make2 (T := [(P, X.env.qual ++ "<lambda>")]) I2 TB hcode (by simp) (fun pp hp _ => by simp at hp; rw [hp]) (fun pp hp => by simp at hp; rw [hp]; exact hT) hdef hfree
    fun g c' pm ctv H3 s4 I5 eN T5 hgf hfn hfr hco => wpAny_bind (wpAny_standAt (wpAny_pure (wpAny_evalAll_nil ?_)))))
  have hT3 : TabS H3 P (X.env.qual ++ "<lambda>") := T5 _ (List.mem_singleton.mpr rfl)
  obtain ⟨its, rv, pl, hz⟩ := I5.list (sqL_ext eN hl)
  have ei := refs_at rv
  subst ei
  obtain ⟨⟨oc, vs, t, hoc, hdc, hvc⟩, _, _⟩ := I5.hok c' _ hco
  refine PySem.W.sorted_key_data (f := .ref g) (bs := ts) (R := fun v t => v = Value.ref t) (b := false) (key3 f) pl.isList (each_refs ts) ?_ ?_ (Nat.le_trans hn (by decide)) ?_ (PyProof.Rows.ksk_s1 _ _) (fun x => PyProof.Rows.ksk_l1 _ _) (fun x => PyProof.Rows.ksk_t1 _ _) ?_ ?_
  · intro d hd d' hd'
    obtain ⟨i, _, rfl⟩ := List.mem_map.mp hd
    obtain ⟨j, _, rfl⟩ := List.mem_map.mp hd'
    rfl
  · exact PySem.W.Sortable.tuples fun b => ⟨_, _, rfl⟩
  · intro i _
    have := hr.units
    show X.A.units + 2 + 1 < cLine
    omega
  · -- a call of the lambda
    rintro v t' rfl ht' hp tk kp
    obtain ⟨xs, hxs, e1, e2, e3⟩ := hts t' ht'
    obtain ⟨tis, tv, tpl, _⟩ := I5.tuple (sqT_ext eN hxs)
    obtain ⟨w1, f1, v1, rfl⟩ := tv.get e1
    obtain ⟨w2, f2, v2, rfl⟩ := tv.get e2
    obtain ⟨w3, f3, v3, rfl⟩ := tv.get e3
    have dp := (hr.in1.in1 : Room (k + 1) X.A.in1.in1).depth
    refine wpAny_call (codeAny_mono (R := fun r s' => ∃ v, r = .ok (.ret v) ∧ PySem.W.KeyPure (key3 f t') { s4 with heap := hp, toks := tk } v s') ?_ fun r s' hq => ?_)
    · refine PySem.W.kla_callFunE dp (kp _ _ hgf) rfl L.co L.gen rfl ⟨c', oc, vs, t, rfl, kp _ _ hoc, hdc, hvc⟩ ?_
      rw [hbind]
      refine wpAny_pure (wpAny_newFunctionEnv L.nc (fun q hq => ?_) (fun h1 hn1 hsb => ⟨((I5.kept (t' := tk) kp).nolimit).fresh _ hsb, ?_⟩) L.kind)
      · rw [List.mem_singleton.mp hq]
        exact L.z
      · have k1 : ∀ b o, hp.get? b = some o → h1.get? b = some o := fun b o e => hsb.extBut b o (Nat.ne_of_lt (Heap.lt_size e)) (Heap.get?_push_of_some _ e)
        have gl : h1.Ns mainGlobals X.mg := I5.mod.glob.keeps fun b o e => k1 b o (kp b o (I5.bk b o e))
        refine PySem.W.kla_codeExpr (wpAny_mono (keyR_eval (t := t') (its := tis) L.kind L.z hn1 (by simp) (show Heap.Ns _ _ X.mg from gl) L.g1 L.g2 L.g3 m1 m2 m3 ?_ f1 f2 f3 hf dz dc1 dc2 dc3) (fun v s' hq => ?_) fun e s' hq => hq)
        · obtain ⟨o, ho, r⟩ := tpl
          exact ⟨o, k1 _ _ (kp _ _ ho), r⟩
        · obtain ⟨h', tk', e, kk', rd⟩ := hq
          exact ⟨v, rfl, h', tk', by rw [e], fun b o q => kk' b o (k1 b o q), rd⟩
    · obtain ⟨v, rfl, hq⟩ := hq
      exact hq
  · -- the new list
    intro out c1' h' tk kp fresh hD hlen each
    have hv : Vals ((ts.mergeSort (PySem.W.dataLe false (key3 f))).map V.ref) out := by
      clear hD hlen
      revert each
      generalize ts.mergeSort (PySem.W.dataLe false (key3 f)) = js
      intro each
      induction each with
      | nil => exact .nil
      | cons r _ ih => exact .cons r ih
    have hl2 : ((ts.mergeSort (PySem.W.dataLe false (key3 f))).map V.ref).length ≤ sizeLine := by
      rw [List.length_map, (List.mergeSort_perm _ _).length_eq]
      exact Nat.le_trans hn (by decide)
    exact ⟨.ref _, _, I5.laid kp (Nat.le_succ _) (show ObjOk X.prog X.w _ h' _ (.lst _) from ⟨hl2, out, c1', hv, hD⟩), rfl, q _ _ eN hT3 (I5.hok.fresh (Nat.le_succ _))⟩
end
end Lr
/-! the head's facts (hookX's), the interpreter's statics among the addresses, and own errors with an __init__ by super() -/
namespace HookS
open PySem PySem.Spec PyProof.Rows L2
/-- an own error: the class's name, its __init__'s qualified name, places, text -/
structure ErD where
  cls : Str
  qual : Str
  p1 : Pos
  p2 : Pos
  z : Str
  q : SupE.Ps
def iAt (K : PySem.W.Frag) (x : Str) : Addr := He.ma K (He.ga K x) "__init__"
abbrev ErW : Type := Option (Str × Str × Arguments × FuncBody × Scope × Addr × List Str × Value × Value × Addr)
def erW (K : PySem.W.Frag) (x : Str) : ErW := match K.lookup (iAt K x) with
  | some ⟨_, _, .func fd, _⟩ => some (fd.name, fd.qualname, fd.params, fd.body, fd.scope, fd.globals, fd.closure.map (·.1), fd.defaults, fd.kwdefaults, fd.builtins)
  | _ => none
def ErD.val (d : ErD) : ErW := some ("__init__", d.qual, SupE.iA d.p1 d.p2, .stmts (SupE.iB d.z d.q), SupE.iS, mainGlobals, ["__class__"], .none, .none, builtinsNs)
/-- the code object's file, the cell -/
def cellB (K : PySem.W.Frag) (cc C : Addr) : Bool := match K.lookup cc with
  | some ⟨_, _, .cell (some (.ref D)), _⟩ => decide (D = C)
  | _ => false
def fileB (K : PySem.W.Frag) (cda : Addr) (file : Str) : Bool := match K.lookup cda with
  | some ⟨_, _, .fields vs, _⟩ => (match (vs[2]? : Option Value) with
    | some (Value.str f _) => file == f
    | _ => false)
  | _ => false
def fnB (K : PySem.W.Frag) (x file : Str) : Bool := match K.lookup (iAt K x) with
  | some ⟨_, _, .func fd, _⟩ => (match fd.code, fd.closure with
    | .ref cda, [(_, cc)] => PySem.W.codeIn K (.ref cda) fd.qualname && (fileB K cda file && cellB K cc (He.ga K x))
    | _, _ => false)
  | _ => false
/-- the class: below ValueError, made by its maker -/
def clsB (K : PySem.W.Frag) (C : Addr) : Bool := match K.lookup C with
  | some ⟨.type "type", _, .cls cd, sl⟩ => (match cd.mro, sl.toList with
    | .ref D :: bm, [_, _, _, _, some (.builtin n), _] => D == C && (n == "ValueError.__new__" && (!cd.hasDel && (cd.hasDict && PySem.HandSPX.refsVE bm)))
    | _, _ => false)
  | _ => false
def oexB (K : PySem.W.Frag) (C : Addr) : Bool := clsB K C && (He.eqO (PySem.W.findIn K (.ref C) "__setattr__") (some (some (.builtin "object.__setattr__"))) && (decide (PySem.W.subIn K (.ref C) (.type "BaseException") = some true) &&
  (decide (PySem.W.typeIn K (.ref C) = some (.type "type")) && PySem.W.keepIn K (.ref C))))
/-- isinstance and the fields of its instances -/
def isB (K : PySem.W.Frag) (C : Addr) : Bool := decide (PySem.W.findIn K (.ref C) "__getattribute__" = some (some (.builtin "BaseException.__getattribute__"))) && (decide (PySem.W.findIn K (.ref C) "__getattr__" = some none) &&
  (decide (PySem.W.subIn K (.ref C) (.type "BaseException") = some true) && (PySem.W.hasDictIn K C && (decide (PySem.W.findIn K (.ref C) "__class__" = some (some (.builtin "object.__class__"))) &&
  (decide (PySem.W.specialIn K (.builtin "object.__class__") "__get__" = some (some (.builtin "getset_descriptor.__get__"))) && (decide (PySem.W.takesIn K (.builtin "object.__class__") = some true) && decide (PySem.W.mroIn K C (.type "object") = some true)))))))
def erB (K : PySem.W.Frag) (x file : Str) : Bool := oexB K (He.ga K x) && (isB K (He.ga K x) && (fnB K x file && (He.eqO (PySem.W.nsIn K mainGlobals x) (some (some (.ref (He.ga K x)))) &&
  (He.eqO (PySem.W.findIn K (.ref (He.ga K x)) "where") (some none) && (He.eqO (PySem.W.findIn K (.ref (He.ga K x)) "__init__") (some (some (.ref (iAt K x)))) &&
  (decide (PySem.W.typeIn K (.ref (iAt K x)) = some (.type "function")) && (decide (PySem.W.mroIn K (He.ga K x) (.ref (He.ga K x)) = some true) && (decide (PySem.W.ks_superIn K (He.ga K x) (He.ga K x) "__init__" = some (some (.builtin "ValueError.__init__"))) &&
  (He.eqO (PySem.W.nsIn K cStatics "thirdparty.any") (some none) && (PySem.W.excInitIn K (He.ga K x) He.veBase "ValueError.__new__" && (decide (PySem.W.subIn K (.ref (He.ga K x)) (.type "ValueError") = some true) && He.eqO (PySem.W.nsIn K mainGlobals "super") (some none))))))))))))
section
variable {K : PySem.W.Frag} {C : Addr} {x file : Str}
theorem cls_ok (h : clsB K C = true) : ∃ nm q N bs bm sn sub ab col dd k0 k1 k2 k3 k5, K.lookup C = some (excClassObj nm q C N bs bm true sn sub ab col dd k0 k1 k2 k3 k5 "ValueError.__new__") ∧ PySem.HandSPX.refsVE bm = true := by
  unfold clsB at h
  split at h
  · rename_i dd cd sl e
    split at h
    · rename_i D bm a0 a1 a2 a3 n a5 hm hs
      simp only [Bool.and_eq_true, beq_iff_eq, Bool.not_eq_true'] at h
      obtain ⟨rfl, rfl, h3, h4, h5⟩ := h
      obtain ⟨nm, bs, mro, ns, qn, hd, sn, sb, ab, col, del⟩ := cd
      obtain ⟨l⟩ := sl
      dsimp only at hm hs h3 h4
      subst hm h3 h4
      have hs' : l = _ := hs
      subst hs'
      exact ⟨_, _, _, _, _, _, _, _, _, _, _, _, _, _, _, e, h5⟩
    · cases h
  · cases h
theorem oex_ok (h : oexB K C = true) : OexC K C := by
  obtain ⟨h1, h⟩ := He.ba h
  obtain ⟨h2, h⟩ := He.ba h
  obtain ⟨h3, h⟩ := He.ba h
  obtain ⟨h4, h5⟩ := He.ba h
  exact ⟨cls_ok h1, He.eqO_ok h2, of_decide_eq_true h3, of_decide_eq_true h4, h5⟩
theorem is_ok (h : isB K C = true) : ExcC K C := by
  obtain ⟨h1, h⟩ := He.ba h
  obtain ⟨h2, h⟩ := He.ba h
  obtain ⟨h3, h⟩ := He.ba h
  obtain ⟨h4, h⟩ := He.ba h
  obtain ⟨h5, h⟩ := He.ba h
  obtain ⟨h6, h⟩ := He.ba h
  obtain ⟨h7, h8⟩ := He.ba h
  exact ⟨of_decide_eq_true h1, of_decide_eq_true h2, of_decide_eq_true h3, h4, of_decide_eq_true h5, of_decide_eq_true h6, of_decide_eq_true h7, of_decide_eq_true h8⟩
theorem xf_ok (h : isB K C = true) : XfC K C := by
  have c := is_ok h
  exact ⟨c.hg, c.hk, c.hs, c.hd⟩
/-- an own error's text, by what was told -/
theorem er_ok {prog : Program} {h : Heap} {mg : Str → Option Value} {d : ErD} (X : K.In h) (G : h.Ns mainGlobals mg) (hw : erW K d.cls = d.val) (hb : erB K d.cls prog.main.file = true) (hl : (d.q.c.endLine == d.q.h.line) = true)
    (ht : (prog.main.scope.names.lookup ("super" : Str)).isSome = false) : SupE.Txt prog K mg d.z (He.ga K d.cls) (iAt K d.cls) ∧ mg d.cls = some (.ref (He.ga K d.cls)) ∧ ExcC K (He.ga K d.cls) ∧ XfC K (He.ga K d.cls) := by
  unfold erB at hb
  obtain ⟨h1, hb⟩ := He.ba hb
  obtain ⟨h2, hb⟩ := He.ba hb
  obtain ⟨h3, hb⟩ := He.ba hb
  obtain ⟨h4, hb⟩ := He.ba hb
  obtain ⟨h5, hb⟩ := He.ba hb
  obtain ⟨h6, hb⟩ := He.ba hb
  obtain ⟨h7, hb⟩ := He.ba hb
  obtain ⟨h8, hb⟩ := He.ba hb
  obtain ⟨h9, hb⟩ := He.ba hb
  obtain ⟨h10, hb⟩ := He.ba hb
  obtain ⟨h11, hb⟩ := He.ba hb
  obtain ⟨h12, h13⟩ := He.ba hb
  refine ⟨⟨oex_ok h1, He.eqO_ok h5, He.eqO_ok h6, of_decide_eq_true h7, of_decide_eq_true h8, of_decide_eq_true h9, He.eqO_ok h10, h11, of_decide_eq_true h12, PySem.W.mg_none_of X G (He.eqO_ok h13), ht, ?_⟩, PySem.W.mg_of X G (He.eqO_ok h4), is_ok h2, xf_ok h2⟩
  unfold erW ErD.val at hw
  unfold fnB at h3
  cases q : K.lookup (iAt K d.cls) with
  | none =>
    rw [q] at h3
    cases h3
  | some o =>
    rw [q] at h3 hw
    obtain ⟨oc, od, dt, osl⟩ := o
    cases dt with
    | func fd =>
      obtain ⟨n0, n1, n2, n3, n4, n5, cl, n7, n8, n9, n10, n11, code, n13, n14⟩ := fd
      have hw' := Option.some.inj hw
      simp only [Prod.mk.injEq] at hw'
      obtain ⟨e0, e1, e2, e3, e4, e5, e6, e7, e8, e9⟩ := hw'
      dsimp only at h3
      subst e0 e1 e2 e3 e4 e5 e7 e8 e9
      cases code with
      | ref cda =>
        cases cl with
        | nil => exact absurd (congrArg List.length e6) (by simp)
        | cons c1 r =>
          cases r with
          | cons c2 r => exact absurd (congrArg List.length e6) (by simp)
          | nil =>
            obtain ⟨cn, cc⟩ := c1
            have ecn : cn = "__class__" := (List.cons.inj e6).1
            subst ecn
            obtain ⟨k1, k2⟩ := He.ba h3
            obtain ⟨k2, k3⟩ := He.ba k2
            unfold fileB at k2
            unfold cellB at k3
            split at k2
            · rename_i o1 o2 vs o3 q1
              split at k2
              · rename_i f tf q2
                split at k3
                · rename_i o4 o5 D o6 q3
                  have eD := of_decide_eq_true k3
                  subst eD
                  exact ⟨oc, n9, n10, n13, o1, o4, d.qual, od, o2, o5, n11, osl, o3, o6, d.p1, d.p2, d.q, cda, cc, vs, f, tf, hl, rfl, k1, q1, q2, k2, q3⟩
                · cases k3
              · cases k2
            · cases k2
      | _ => cases h3
    | _ => cases h3
end
/-! ### the Hook -/
def asS (g : Addr → Option Obj) (n : Nat) : List Addr := He.asD g n ++ [cStatics]
def frS (g : Addr → Option Obj) (n : Nat) : PySem.W.Frag := He.frT g (asS g n)
abbrev AlS : Type := He.AlX × List ErW
def obsS (n : Nat) (fa : List He.Fa) (fn : List He.DefD) (tf : List He.Defn) (er : List ErD) (ex : PySem.W.Frag → Bool) (g : Addr → Option Obj) : AlS :=
  ((He.obsT fa fn [] (frS g n), ex (frS g n) && He.tabsB g tf (frS g n)), er.map fun d => erW (frS g n) d.cls)
def valS (fn : List He.DefD) (er : List ErD) (w : World) : AlS := (He.valX fn [] w, er.map ErD.val)
structure SaysS (fa : List He.Fa) (fn : List He.DefD) (tf : List He.Defn) (er : List ErD) (ex : PySem.W.Frag → Bool) (w : World) (h : Heap) (K : PySem.W.Frag) : Prop where
  x : He.SaysX fa fn [] tf ex w h K
  er : er.map (fun d => erW K d.cls) = er.map ErD.val
theorem says_of {n : Nat} {fa : List He.Fa} {fn : List He.DefD} {tf : List He.Defn} {er : List ErD} {ex : PySem.W.Frag → Bool} {w : World} {h : Heap} (e : obsS n fa fn tf er ex h.get? = valS fn er w) : SaysS fa fn tf er ex w h (frS h.get? n) := by
  have e0 := congrArg (fun z : AlS => z.1) e
  have e1 : He.obsT fa fn [] (frS h.get? n) = He.valT fn [] w := congrArg (fun z : He.AlX => z.1) e0
  have e2 : (ex (frS h.get? n) && He.tabsB h.get? tf (frS h.get? n)) = true := congrArg (fun z : He.AlX => z.2) e0
  obtain ⟨h1, h2⟩ := He.ba e2
  have each : ∀ p ∈ tf, PySem.W.codeHdIn (frS h.get? n) (He.cT (frS h.get? n) p).1 (He.cT (frS h.get? n) p).2 = true ∧ ∃ o, h.get? (He.cT (frS h.get? n) p).2 = some o ∧ He.emptyTab o = true := fun p hp => by
    obtain ⟨a1, a2⟩ := He.ba (List.all_eq_true.mp h2 p hp)
    refine ⟨a1, ?_⟩
    cases q : h.get? (He.cT (frS h.get? n) p).2 with
    | none =>
      rw [q] at a2
      exact Bool.noConfusion a2
    | some o =>
      rw [q] at a2
      exact ⟨o, rfl, a2⟩
  refine ⟨⟨e1, h1, fun p hp => (each p hp).1, fun p hp => ?_, fun p hp => ?_⟩, congrArg (fun z : AlS => z.2) e⟩
  · obtain ⟨_, o, q, y⟩ := each p hp
    exact He.frT_none q y
  · obtain ⟨_, o, q, y⟩ := each p hp
    exact q.trans (congrArg some (He.emptyTab_eq y))
def hookS (n : Nat) (fa : List He.Fa) (fn : List He.DefD) (tf : List He.Defn) (er : List ErD) (ex : PySem.W.Frag → Bool) : PySem.W.Hook where
  α := AlS
  obs := fun s => obsS n fa fn tf er ex s.heap.get?
  val := fun w => valS fn er w
  says := fun w h => ∃ K : PySem.W.Frag, K.In h ∧ SaysS fa fn tf er ex w h K
  of := fun _ _ e => ⟨_, He.frT_in, says_of e⟩
  keeps := fun _ _ _ ⟨K, hK, c⟩ k => ⟨K, hK.keeps k, ⟨⟨c.x.t, c.x.more, c.x.hd, c.x.out, fun p hp => k _ _ (c.x.empty p hp)⟩, c.er⟩⟩
theorem obsS_eq {n : Nat} {fa : List He.Fa} {fn : List He.DefD} {tf : List He.Defn} {er : List ErD} {ex : PySem.W.Frag → Bool} {g : Addr → Option Obj} {s : Shared} (h : ∀ a, g a = s.heap.get? a) :
    obsS n fa fn tf er ex g = (hookS n fa fn tf er ex).obs s := by
  cases (funext h : g = s.heap.get?)
  rfl
theorem SaysS.one {fa : List He.Fa} {fn : List He.DefD} {tf : List He.Defn} {er : List ErD} {ex : PySem.W.Frag → Bool} {w : World} {h : Heap} {K : PySem.W.Frag} (c : SaysS fa fn tf er ex w h K) {d : ErD} (hd : d ∈ er) : erW K d.cls = d.val := by
  have e := c.er
  obtain ⟨i, hi, q⟩ := List.mem_iff_getElem.mp hd
  have e2 := congrArg (fun l : List ErW => l[i]?) e
  simp only [List.getElem?_map, List.getElem?_eq_getElem hi, Option.map_some, q, Option.some.injEq] at e2
  exact e2
end HookS
namespace Th
open PySem PySem.Spec PyProof.Rows L2
/-! the text -/
def topS (i : Nat) : Stmt := PySem.Challenge.pw_throughlines_k38_looker_refuses.main.body.getD i (.Pass ⟨0, 0, 0, 0⟩)
abbrev FnP (K : PySem.W.Frag) (x : Str) (st : Stmt) (f : Addr) (fd : FuncData) : Prop := FunD K x x (defArgs st) (defBody st) (defScope st) [] [] f fd
abbrev s_is_whole : Stmt := topS 18
abbrev N_is_whole : List Str := ["thing"]
theorem sc_is_whole : FnScope N_is_whole ["thing"] (defScope s_is_whole) := ⟨rfl, rfl, rfl, by decide +kernel, rfl, by decide +kernel, by decide +kernel⟩
abbrev s_is_tuple : Stmt := topS 19
abbrev N_is_tuple : List Str := ["thing", "fewest", "most"]
theorem sc_is_tuple : FnScope N_is_tuple ["thing", "fewest", "most"] (defScope s_is_tuple) := ⟨rfl, rfl, rfl, by decide +kernel, rfl, by decide +kernel, by decide +kernel⟩
abbrev s_is_pair_of_lists : Stmt := topS 20
abbrev N_is_pair_of_lists : List Str := ["thing", "half"]
theorem sc_is_pair_of_lists : FnScope N_is_pair_of_lists ["thing"] (defScope s_is_pair_of_lists) := ⟨rfl, rfl, rfl, by decide +kernel, rfl, by decide +kernel, by decide +kernel⟩
abbrev s_road_to_any : Stmt := topS 22
abbrev N_road_to_any : List Str := ["net", "line", "fars", "beside", "steps", "road", "nearer", "onward", "near"]
theorem sc_road_to_any : FnScope N_road_to_any ["net", "line", "fars"] (defScope s_road_to_any) := ⟨rfl, rfl, rfl, by decide +kernel, rfl, by decide +kernel, by decide +kernel⟩
abbrev s_steps_to : Stmt := topS 23
abbrev N_steps_to : List Str := ["beside", "fars", "steps", "many", "edge", "line", "near"]
theorem sc_steps_to : FnScope N_steps_to ["beside", "fars"] (defScope s_steps_to) := ⟨rfl, rfl, rfl, by decide +kernel, rfl, by decide +kernel, by decide +kernel⟩
abbrev s_lines_beside : Stmt := topS 24
abbrev N_lines_beside : List Str := ["net", "line"]
theorem sc_lines_beside : FnScope N_lines_beside ["net"] (defScope s_lines_beside) := ⟨rfl, rfl, rfl, by decide +kernel, rfl, by decide +kernel, by decide +kernel⟩
abbrev s_lines_joined : Stmt := topS 25
abbrev N_lines_joined : List Str := ["net", "line", "name", "joined", "beside"]
theorem sc_lines_joined : FnScope N_lines_joined ["net", "line"] (defScope s_lines_joined) := ⟨rfl, rfl, rfl, by decide +kernel, rfl, by decide +kernel, by decide +kernel⟩
abbrev s_lacking : Stmt := topS 32
abbrev N_lacking : List Str := ["net", "line", "junction", "over", "road"]
theorem sc_lacking : FnScope N_lacking ["net", "line", "junction", "over"] (defScope s_lacking) := ⟨rfl, rfl, rfl, by decide +kernel, rfl, by decide +kernel, by decide +kernel⟩
abbrev s_gap_road : Stmt := topS 33
abbrev N_gap_road : List Str := ["net", "line", "junction", "over"]
theorem sc_gap_road : FnScope N_gap_road ["net", "line", "junction", "over"] (defScope s_gap_road) := ⟨rfl, rfl, rfl, by decide +kernel, rfl, by decide +kernel, by decide +kernel⟩
abbrev s_lines_from : Stmt := topS 34
abbrev N_lines_from : List Str := ["net", "junction", "over", "name", "joined", "line"]
theorem sc_lines_from : FnScope N_lines_from ["net", "junction", "over"] (defScope s_lines_from) := ⟨rfl, rfl, rfl, by decide +kernel, rfl, by decide +kernel, by decide +kernel⟩
abbrev s_in_order : Stmt := topS 35
abbrev N_in_order : List Str := ["returns"]
theorem sc_in_order : FnScope N_in_order ["returns"] (defScope s_in_order) := ⟨rfl, rfl, rfl, by decide +kernel, rfl, by decide +kernel, by decide +kernel⟩
abbrev s_lacks_ahead : Stmt := topS 36
abbrev N_lacks_ahead : List Str := ["net", "rows", "beside", "found", "row", "place"]
theorem sc_lacks_ahead : FnScope N_lacks_ahead ["net", "rows"] (defScope s_lacks_ahead) := ⟨rfl, rfl, rfl, by decide +kernel, rfl, by decide +kernel, by decide +kernel⟩
abbrev s_fewest_onward : Stmt := topS 37
abbrev N_fewest_onward : List Str := ["net", "rows", "lacks", "found", "row", "lack", "later", "fewest", "line"]
theorem sc_fewest_onward : FnScope N_fewest_onward ["net", "rows", "lacks"] (defScope s_fewest_onward) := ⟨rfl, rfl, rfl, by decide +kernel, rfl, by decide +kernel, by decide +kernel⟩
abbrev s_history : Stmt := topS 38
abbrev N_history : List Str := ["net", "line", "returns", "rows", "lacks", "fewest", "marks", "at", "row"]
theorem sc_history : FnScope N_history ["net", "line", "returns"] (defScope s_history) := ⟨rfl, rfl, rfl, by decide +kernel, rfl, by decide +kernel, by decide +kernel⟩
abbrev s_steps_of : Stmt := topS 39
abbrev N_steps_of : List Str := ["net", "line", "rows", "lacks", "fewest", "told", "at", "row", "lack", "road"]
theorem sc_steps_of : FnScope N_steps_of ["net", "line", "rows", "lacks", "fewest"] (defScope s_steps_of) := ⟨rfl, rfl, rfl, by decide +kernel, rfl, by decide +kernel, by decide +kernel⟩
abbrev s_look_history : Stmt := topS 40
abbrev N_look_history : List Str := ["net", "line", "returns", "thing", "steps", "marks", "rows"]
theorem sc_look_history : FnScope N_look_history ["net", "line", "returns", "thing"] (defScope s_look_history) := ⟨rfl, rfl, rfl, by decide +kernel, rfl, by decide +kernel, by decide +kernel⟩
abbrev s_is_history : Stmt := topS 41
abbrev N_is_history : List Str := ["net", "line", "rows", "steps", "at", "row", "told", "many"]
theorem sc_is_history : FnScope N_is_history ["net", "line", "rows", "steps"] (defScope s_is_history) := ⟨rfl, rfl, rfl, by decide +kernel, rfl, by decide +kernel, by decide +kernel⟩
abbrev s_steps_to_hold : Stmt := topS 42
abbrev N_steps_to_hold : List Str := ["net", "line", "row", "told", "lack"]
theorem sc_steps_to_hold : FnScope N_steps_to_hold ["net", "line", "row", "told"] (defScope s_steps_to_hold) := ⟨rfl, rfl, rfl, by decide +kernel, rfl, by decide +kernel, by decide +kernel⟩
abbrev s_is_aside : Stmt := topS 43
abbrev N_is_aside : List Str := ["row", "step"]
theorem sc_is_aside : FnScope N_is_aside ["row", "step"] (defScope s_is_aside) := ⟨rfl, rfl, rfl, by decide +kernel, rfl, by decide +kernel, by decide +kernel⟩
abbrev s_is_held : Stmt := topS 44
abbrev N_is_held : List Str := ["row", "line", "step"]
theorem sc_is_held : FnScope N_is_held ["row", "line", "step"] (defScope s_is_held) := ⟨rfl, rfl, rfl, by decide +kernel, rfl, by decide +kernel, by decide +kernel⟩
abbrev s_is_gap : Stmt := topS 45
abbrev N_is_gap : List Str := ["net", "line", "row", "lack", "step", "road", "near", "far"]
theorem sc_is_gap : FnScope N_is_gap ["net", "line", "row", "lack", "step"] (defScope s_is_gap) := ⟨rfl, rfl, rfl, by decide +kernel, rfl, by decide +kernel, by decide +kernel⟩
abbrev s_wrong_in : Stmt := topS 46
abbrev N_wrong_in : List Str := ["steps", "asides", "gaps", "step"]
theorem sc_wrong_in : FnScope N_wrong_in ["steps"] (defScope s_wrong_in) := ⟨rfl, rfl, rfl, by decide +kernel, rfl, by decide +kernel, by decide +kernel⟩
abbrev s_are_marks : Stmt := topS 47
abbrev N_are_marks : List Str := ["net", "line", "rows", "marks", "lines", "known", "at", "lack", "last", "mark", "row"]
theorem sc_are_marks : FnScope N_are_marks ["net", "line", "rows", "marks"] (defScope s_are_marks) := ⟨rfl, rfl, rfl, by decide +kernel, rfl, by decide +kernel, by decide +kernel⟩
abbrev s_most_wrong : Stmt := topS 48
abbrev N_most_wrong : List Str := ["marks", "at", "mark"]
theorem sc_most_wrong : FnScope N_most_wrong ["marks"] (defScope s_most_wrong) := ⟨rfl, rfl, rfl, by decide +kernel, rfl, by decide +kernel, by decide +kernel⟩
abbrev s_l_bag : Stmt := topS 50
abbrev N_l_bag : List Str := ["_law_script", "_law_at", "_law_cell", "_law_great", "_law_primes"]
theorem sc_l_bag : FnScope N_l_bag ["_law_script", "_law_at"] (defScope s_l_bag) := ⟨rfl, rfl, rfl, by decide +kernel, rfl, by decide +kernel, by decide +kernel⟩
abbrev s_l_take : Stmt := topS 51
abbrev N_l_take : List Str := ["_law_bag_here", "_law_many", "_law_digit"]
theorem sc_l_take : FnScope N_l_take ["_law_bag_here", "_law_many"] (defScope s_l_take) := ⟨rfl, rfl, rfl, by decide +kernel, rfl, by decide +kernel, by decide +kernel⟩
abbrev s_l_names : Stmt := topS 52
abbrev N_l_names : List Str := ["_law_bag_here", "_law_many", "_law_letters", "_law_first", "_law_shift", "_law_found", "_law_k", "_law_stem", "_law_own", "_law_step"]
theorem sc_l_names : FnScope N_l_names ["_law_bag_here", "_law_many"] (defScope s_l_names) := ⟨rfl, rfl, rfl, by decide +kernel, rfl, by decide +kernel, by decide +kernel⟩
abbrev s_l_net : Stmt := topS 53
abbrev N_l_net : List Str := ["_law_bag_here", "_law_shape", "_law_many", "_law_lines", "_law_places", "_law_junctions", "_law_k", "_law_at", "_law_two", "_law_some", "_law_stations", "_law_line"]
theorem sc_l_net : FnScope N_l_net ["_law_bag_here"] (defScope s_l_net) := ⟨rfl, rfl, rfl, by decide +kernel, rfl, by decide +kernel, by decide +kernel⟩
abbrev s_l_roads : Stmt := topS 54
abbrev N_l_roads : List Str := ["_law_net_here", "_law_line", "_law_found", "_law_latest", "_law_later", "_law_one", "_law_place", "_law_lines", "_law_other", "_law_road"]
theorem sc_l_roads : FnScope N_l_roads ["_law_net_here", "_law_line"] (defScope s_l_roads) := ⟨rfl, rfl, rfl, by decide +kernel, rfl, by decide +kernel, by decide +kernel⟩
abbrev s_l_gap : Stmt := topS 55
abbrev N_l_gap : List Str := ["_law_net_here", "_law_line", "_law_paper", "_law_roads_here", "_law_lines", "_law_some", "_law_one"]
theorem sc_l_gap : FnScope N_l_gap ["_law_net_here", "_law_line", "_law_paper"] (defScope s_l_gap) := ⟨rfl, rfl, rfl, by decide +kernel, rfl, by decide +kernel, by decide +kernel⟩
abbrev s_l_returns : Stmt := topS 56
abbrev N_l_returns : List Str := ["_law_bag_here", "_law_net_here", "_law_line", "_law_many", "_law_wild", "_law_slow", "_law_step", "_law_base", "_law_wagon", "_law_here", "_law_day", "_law_found", "_law_k", "_law_fit", "_law_place", "_law_lines", "_law_some", "_law_over", "_law_hour", "_law_load", "_law_seal", "_law_number", "_law_paper", "_law_one"]
theorem sc_l_returns : FnScope N_l_returns ["_law_bag_here", "_law_net_here", "_law_line", "_law_many"] (defScope s_l_returns) := ⟨rfl, rfl, rfl, by decide +kernel, rfl, by decide +kernel, by decide +kernel⟩
abbrev s_l_ordered : Stmt := topS 57
abbrev N_l_ordered : List Str := ["_law_returns_here", "_law_rows", "_law_paper", "_law_row"]
theorem sc_l_ordered : FnScope N_l_ordered ["_law_returns_here"] (defScope s_l_ordered) := ⟨rfl, rfl, rfl, by decide +kernel, rfl, by decide +kernel, by decide +kernel⟩
abbrev s_l_table : Stmt := topS 58
abbrev N_l_table : List Str := ["_law_net_here", "_law_line", "_law_rows", "_law_known", "_law_at", "_law_found", "_law_i", "_law_row", "_law_j", "_law_paper", "_law_key"]
theorem sc_l_table : FnScope N_l_table ["_law_net_here", "_law_line", "_law_rows"] (defScope s_l_table) := ⟨rfl, rfl, rfl, by decide +kernel, rfl, by decide +kernel, by decide +kernel⟩
abbrev s_l_is : Stmt := topS 59
abbrev N_l_is : List Str := ["_law_thing", "_law_word", "_law_many"]
theorem sc_l_is : FnScope N_l_is ["_law_thing", "_law_word", "_law_many"] (defScope s_l_is) := ⟨rfl, rfl, rfl, by decide +kernel, rfl, by decide +kernel, by decide +kernel⟩
abbrev s_l_same : Stmt := topS 60
abbrev N_l_same : List Str := ["_law_thing", "_law_number"]
theorem sc_l_same : FnScope N_l_same ["_law_thing", "_law_number"] (defScope s_l_same) := ⟨rfl, rfl, rfl, by decide +kernel, rfl, by decide +kernel, by decide +kernel⟩
abbrev s_l_is_gap : Stmt := topS 61
abbrev N_l_is_gap : List Str := ["_law_net_here", "_law_thing", "_law_here", "_law_paper", "_law_least", "_law_one", "_law_other", "_law_place", "_law_lines"]
theorem sc_l_is_gap : FnScope N_l_is_gap ["_law_net_here", "_law_thing", "_law_here", "_law_paper"] (defScope s_l_is_gap) := ⟨rfl, rfl, rfl, by decide +kernel, rfl, by decide +kernel, by decide +kernel⟩
abbrev s_l_wrong_any : Stmt := topS 62
abbrev N_l_wrong_any : List Str := ["_law_net_here", "_law_line", "_law_rows", "_law_steps", "_law_here", "_law_at", "_law_wrong", "_law_k", "_law_paper", "_law_road", "_law_step"]
theorem sc_l_wrong_any : FnScope N_l_wrong_any ["_law_net_here", "_law_line", "_law_rows", "_law_steps"] (defScope s_l_wrong_any) := ⟨rfl, rfl, rfl, by decide +kernel, rfl, by decide +kernel, by decide +kernel⟩
abbrev s_l_marks_bound : Stmt := topS 63
abbrev N_l_marks_bound : List Str := ["_law_table_here", "_law_marks", "_law_known", "_law_i", "_law_row", "_law_j", "_law_one"]
theorem sc_l_marks_bound : FnScope N_l_marks_bound ["_law_table_here", "_law_marks"] (defScope s_l_marks_bound) := ⟨rfl, rfl, rfl, by decide +kernel, rfl, by decide +kernel, by decide +kernel⟩
abbrev s_l_where : Stmt := topS 64
abbrev N_l_where : List Str := ["_law_net_here", "_law_line", "_law_rows", "_law_thing", "_law_wrong", "_law_known", "_law_one", "_law_i", "_law_mark"]
theorem sc_l_where : FnScope N_l_where ["_law_net_here", "_law_line", "_law_rows", "_law_thing"] (defScope s_l_where) := ⟨rfl, rfl, rfl, by decide +kernel, rfl, by decide +kernel, by decide +kernel⟩
abbrev s_l_told : Stmt := topS 65
abbrev N_l_told : List Str := ["_law_net_here", "_law_line", "_law_returns_here", "_law_thing", "e"]
theorem sc_l_told : FnScope N_l_told ["_law_net_here", "_law_line", "_law_returns_here", "_law_thing"] (defScope s_l_told) := ⟨rfl, rfl, rfl, by decide +kernel, rfl, by decide +kernel, by decide +kernel⟩
abbrev s_l_any : Stmt := topS 66
abbrev N_l_any : List Str := ["_law_bag_here", "_law_some"]
theorem sc_l_any : FnScope N_l_any ["_law_bag_here"] (defScope s_l_any) := ⟨rfl, rfl, rfl, by decide +kernel, rfl, by decide +kernel, by decide +kernel⟩
abbrev s_l_part : Stmt := topS 67
abbrev N_l_part : List Str := ["_law_bag_here", "_law_net_here", "_law_step", "_law_way", "_law_k", "_law_road", "_law_line", "_law_at", "_law_roads_here", "_law_some"]
theorem sc_l_part : FnScope N_l_part ["_law_bag_here", "_law_net_here", "_law_step"] (defScope s_l_part) := ⟨rfl, rfl, rfl, by decide +kernel, rfl, by decide +kernel, by decide +kernel⟩
abbrev s_l_bent_steps : Stmt := topS 68
abbrev N_l_bent_steps : List Str := ["_law_bag_here", "_law_net_here", "_law_steps", "_law_way", "_law_at", "_law_to", "_law_found", "_law_line", "_law_held", "_law_k", "_law_before", "_law_step"]
theorem sc_l_bent_steps : FnScope N_l_bent_steps ["_law_bag_here", "_law_net_here", "_law_steps"] (defScope s_l_bent_steps) := ⟨rfl, rfl, rfl, by decide +kernel, rfl, by decide +kernel, by decide +kernel⟩
abbrev s_l_bent_marks : Stmt := topS 69
abbrev N_l_bent_marks : List Str := ["_law_bag_here", "_law_marks", "_law_way", "_law_at", "_law_step", "_law_found", "_law_mark"]
theorem sc_l_bent_marks : FnScope N_l_bent_marks ["_law_bag_here", "_law_marks"] (defScope s_l_bent_marks) := ⟨rfl, rfl, rfl, by decide +kernel, rfl, by decide +kernel, by decide +kernel⟩
abbrev s_l_bent : Stmt := topS 70
abbrev N_l_bent : List Str := ["_law_bag_here", "_law_net_here", "_law_told_here", "_law_way", "_law_steps", "_law_marks", "_law_some", "_law_step"]
theorem sc_l_bent : FnScope N_l_bent ["_law_bag_here", "_law_net_here", "_law_told_here"] (defScope s_l_bent) := ⟨rfl, rfl, rfl, by decide +kernel, rfl, by decide +kernel, by decide +kernel⟩
abbrev s_l_copied : Stmt := topS 71
abbrev N_l_copied : List Str := ["_law_thing", "_law_found", "_law_one"]
theorem sc_l_copied : FnScope N_l_copied ["_law_thing"] (defScope s_l_copied) := ⟨rfl, rfl, rfl, by decide +kernel, rfl, by decide +kernel, by decide +kernel⟩
abbrev s_law : Stmt := topS 72
abbrev N_law : List Str := ["_law_script", "_law_k", "_law_bag_here", "_law_other", "_law_net_here", "_law_line", "_law_returns_here", "_law_told_here", "_law_thing", "_law_handed", "_law_due"]
theorem sc_law : FnScope N_law ["_law_script"] (defScope s_law) := ⟨rfl, rfl, rfl, by decide +kernel, rfl, by decide +kernel, by decide +kernel⟩
abbrev PP : Program := (PySem.Challenge.rw_throughlines_k38_looker_refuses).prog
structure Defs (K : PySem.W.Frag) (mg : Str → Option Value) where
  a_is_whole : Addr
  d_is_whole : FuncData
  F_is_whole : FnP K "is_whole" s_is_whole a_is_whole d_is_whole
  g_is_whole : mg "is_whole" = some (.ref a_is_whole)
  b_is_whole : Binds K d_is_whole ["thing"] []
  a_is_tuple : Addr
  d_is_tuple : FuncData
  F_is_tuple : FnP K "is_tuple" s_is_tuple a_is_tuple d_is_tuple
  g_is_tuple : mg "is_tuple" = some (.ref a_is_tuple)
  b_is_tuple : Binds K d_is_tuple ["thing", "fewest", "most"] []
  a_is_pair_of_lists : Addr
  d_is_pair_of_lists : FuncData
  F_is_pair_of_lists : FnP K "is_pair_of_lists" s_is_pair_of_lists a_is_pair_of_lists d_is_pair_of_lists
  g_is_pair_of_lists : mg "is_pair_of_lists" = some (.ref a_is_pair_of_lists)
  b_is_pair_of_lists : Binds K d_is_pair_of_lists ["thing"] []
  a_road_to_any : Addr
  d_road_to_any : FuncData
  F_road_to_any : FnP K "road_to_any" s_road_to_any a_road_to_any d_road_to_any
  g_road_to_any : mg "road_to_any" = some (.ref a_road_to_any)
  b_road_to_any : Binds K d_road_to_any ["net", "line", "fars"] []
  a_steps_to : Addr
  d_steps_to : FuncData
  F_steps_to : FnP K "steps_to" s_steps_to a_steps_to d_steps_to
  g_steps_to : mg "steps_to" = some (.ref a_steps_to)
  b_steps_to : Binds K d_steps_to ["beside", "fars"] []
  a_lines_beside : Addr
  d_lines_beside : FuncData
  F_lines_beside : FnP K "lines_beside" s_lines_beside a_lines_beside d_lines_beside
  g_lines_beside : mg "lines_beside" = some (.ref a_lines_beside)
  b_lines_beside : Binds K d_lines_beside ["net"] []
  a_lines_joined : Addr
  d_lines_joined : FuncData
  F_lines_joined : FnP K "lines_joined" s_lines_joined a_lines_joined d_lines_joined
  g_lines_joined : mg "lines_joined" = some (.ref a_lines_joined)
  b_lines_joined : Binds K d_lines_joined ["net", "line"] []
  a_lacking : Addr
  d_lacking : FuncData
  F_lacking : FnP K "lacking" s_lacking a_lacking d_lacking
  g_lacking : mg "lacking" = some (.ref a_lacking)
  b_lacking : Binds K d_lacking ["net", "line", "junction", "over"] []
  a_gap_road : Addr
  d_gap_road : FuncData
  F_gap_road : FnP K "gap_road" s_gap_road a_gap_road d_gap_road
  g_gap_road : mg "gap_road" = some (.ref a_gap_road)
  b_gap_road : Binds K d_gap_road ["net", "line", "junction", "over"] []
  a_lines_from : Addr
  d_lines_from : FuncData
  F_lines_from : FnP K "lines_from" s_lines_from a_lines_from d_lines_from
  g_lines_from : mg "lines_from" = some (.ref a_lines_from)
  b_lines_from : Binds K d_lines_from ["net", "junction", "over"] []
  a_in_order : Addr
  d_in_order : FuncData
  F_in_order : FnP K "in_order" s_in_order a_in_order d_in_order
  g_in_order : mg "in_order" = some (.ref a_in_order)
  b_in_order : Binds K d_in_order ["returns"] []
  cc_in_order : Addr
  tp_in_order : Addr
  dc_in_order : d_in_order.code = .ref cc_in_order
  a_lacks_ahead : Addr
  d_lacks_ahead : FuncData
  F_lacks_ahead : FnP K "lacks_ahead" s_lacks_ahead a_lacks_ahead d_lacks_ahead
  g_lacks_ahead : mg "lacks_ahead" = some (.ref a_lacks_ahead)
  b_lacks_ahead : Binds K d_lacks_ahead ["net", "rows"] []
  a_fewest_onward : Addr
  d_fewest_onward : FuncData
  F_fewest_onward : FnP K "fewest_onward" s_fewest_onward a_fewest_onward d_fewest_onward
  g_fewest_onward : mg "fewest_onward" = some (.ref a_fewest_onward)
  b_fewest_onward : Binds K d_fewest_onward ["net", "rows", "lacks"] []
  a_history : Addr
  d_history : FuncData
  F_history : FnP K "history" s_history a_history d_history
  g_history : mg "history" = some (.ref a_history)
  b_history : Binds K d_history ["net", "line", "returns"] []
  a_steps_of : Addr
  d_steps_of : FuncData
  F_steps_of : FnP K "steps_of" s_steps_of a_steps_of d_steps_of
  g_steps_of : mg "steps_of" = some (.ref a_steps_of)
  b_steps_of : Binds K d_steps_of ["net", "line", "rows", "lacks", "fewest"] []
  a_look_history : Addr
  d_look_history : FuncData
  F_look_history : FnP K "look_history" s_look_history a_look_history d_look_history
  g_look_history : mg "look_history" = some (.ref a_look_history)
  b_look_history : Binds K d_look_history ["net", "line", "returns", "thing"] []
  a_is_history : Addr
  d_is_history : FuncData
  F_is_history : FnP K "is_history" s_is_history a_is_history d_is_history
  g_is_history : mg "is_history" = some (.ref a_is_history)
  b_is_history : Binds K d_is_history ["net", "line", "rows", "steps"] []
  a_steps_to_hold : Addr
  d_steps_to_hold : FuncData
  F_steps_to_hold : FnP K "steps_to_hold" s_steps_to_hold a_steps_to_hold d_steps_to_hold
  g_steps_to_hold : mg "steps_to_hold" = some (.ref a_steps_to_hold)
  b_steps_to_hold : Binds K d_steps_to_hold ["net", "line", "row", "told"] []
  a_is_aside : Addr
  d_is_aside : FuncData
  F_is_aside : FnP K "is_aside" s_is_aside a_is_aside d_is_aside
  g_is_aside : mg "is_aside" = some (.ref a_is_aside)
  b_is_aside : Binds K d_is_aside ["row", "step"] []
  a_is_held : Addr
  d_is_held : FuncData
  F_is_held : FnP K "is_held" s_is_held a_is_held d_is_held
  g_is_held : mg "is_held" = some (.ref a_is_held)
  b_is_held : Binds K d_is_held ["row", "line", "step"] []
  a_is_gap : Addr
  d_is_gap : FuncData
  F_is_gap : FnP K "is_gap" s_is_gap a_is_gap d_is_gap
  g_is_gap : mg "is_gap" = some (.ref a_is_gap)
  b_is_gap : Binds K d_is_gap ["net", "line", "row", "lack", "step"] []
  a_wrong_in : Addr
  d_wrong_in : FuncData
  F_wrong_in : FnP K "wrong_in" s_wrong_in a_wrong_in d_wrong_in
  g_wrong_in : mg "wrong_in" = some (.ref a_wrong_in)
  b_wrong_in : Binds K d_wrong_in ["steps"] []
  a_are_marks : Addr
  d_are_marks : FuncData
  F_are_marks : FnP K "are_marks" s_are_marks a_are_marks d_are_marks
  g_are_marks : mg "are_marks" = some (.ref a_are_marks)
  b_are_marks : Binds K d_are_marks ["net", "line", "rows", "marks"] []
  a_most_wrong : Addr
  d_most_wrong : FuncData
  F_most_wrong : FnP K "most_wrong" s_most_wrong a_most_wrong d_most_wrong
  g_most_wrong : mg "most_wrong" = some (.ref a_most_wrong)
  b_most_wrong : Binds K d_most_wrong ["marks"] []
  a_l_bag : Addr
  d_l_bag : FuncData
  F_l_bag : FnP K "_law_bag" s_l_bag a_l_bag d_l_bag
  g_l_bag : mg "_law_bag" = some (.ref a_l_bag)
  b_l_bag : Binds K d_l_bag ["_law_script", "_law_at"] []
  a_l_take : Addr
  d_l_take : FuncData
  F_l_take : FnP K "_law_take" s_l_take a_l_take d_l_take
  g_l_take : mg "_law_take" = some (.ref a_l_take)
  b_l_take : Binds K d_l_take ["_law_bag_here", "_law_many"] []
  a_l_names : Addr
  d_l_names : FuncData
  F_l_names : FnP K "_law_names" s_l_names a_l_names d_l_names
  g_l_names : mg "_law_names" = some (.ref a_l_names)
  b_l_names : Binds K d_l_names ["_law_bag_here", "_law_many"] []
  a_l_net : Addr
  d_l_net : FuncData
  F_l_net : FnP K "_law_net" s_l_net a_l_net d_l_net
  g_l_net : mg "_law_net" = some (.ref a_l_net)
  b_l_net : Binds K d_l_net ["_law_bag_here"] []
  a_l_roads : Addr
  d_l_roads : FuncData
  F_l_roads : FnP K "_law_roads" s_l_roads a_l_roads d_l_roads
  g_l_roads : mg "_law_roads" = some (.ref a_l_roads)
  b_l_roads : Binds K d_l_roads ["_law_net_here", "_law_line"] []
  a_l_gap : Addr
  d_l_gap : FuncData
  F_l_gap : FnP K "_law_gap" s_l_gap a_l_gap d_l_gap
  g_l_gap : mg "_law_gap" = some (.ref a_l_gap)
  b_l_gap : Binds K d_l_gap ["_law_net_here", "_law_line", "_law_paper"] []
  a_l_returns : Addr
  d_l_returns : FuncData
  F_l_returns : FnP K "_law_returns" s_l_returns a_l_returns d_l_returns
  g_l_returns : mg "_law_returns" = some (.ref a_l_returns)
  b_l_returns : Binds K d_l_returns ["_law_bag_here", "_law_net_here", "_law_line", "_law_many"] []
  a_l_ordered : Addr
  d_l_ordered : FuncData
  F_l_ordered : FnP K "_law_ordered" s_l_ordered a_l_ordered d_l_ordered
  g_l_ordered : mg "_law_ordered" = some (.ref a_l_ordered)
  b_l_ordered : Binds K d_l_ordered ["_law_returns_here"] []
  a_l_table : Addr
  d_l_table : FuncData
  F_l_table : FnP K "_law_table" s_l_table a_l_table d_l_table
  g_l_table : mg "_law_table" = some (.ref a_l_table)
  b_l_table : Binds K d_l_table ["_law_net_here", "_law_line", "_law_rows"] []
  a_l_is : Addr
  d_l_is : FuncData
  F_l_is : FnP K "_law_is" s_l_is a_l_is d_l_is
  g_l_is : mg "_law_is" = some (.ref a_l_is)
  b_l_is : Binds K d_l_is ["_law_thing", "_law_word", "_law_many"] []
  a_l_same : Addr
  d_l_same : FuncData
  F_l_same : FnP K "_law_same" s_l_same a_l_same d_l_same
  g_l_same : mg "_law_same" = some (.ref a_l_same)
  b_l_same : Binds K d_l_same ["_law_thing", "_law_number"] []
  a_l_is_gap : Addr
  d_l_is_gap : FuncData
  F_l_is_gap : FnP K "_law_is_gap" s_l_is_gap a_l_is_gap d_l_is_gap
  g_l_is_gap : mg "_law_is_gap" = some (.ref a_l_is_gap)
  b_l_is_gap : Binds K d_l_is_gap ["_law_net_here", "_law_thing", "_law_here", "_law_paper"] []
  a_l_wrong_any : Addr
  d_l_wrong_any : FuncData
  F_l_wrong_any : FnP K "_law_wrong_any" s_l_wrong_any a_l_wrong_any d_l_wrong_any
  g_l_wrong_any : mg "_law_wrong_any" = some (.ref a_l_wrong_any)
  b_l_wrong_any : Binds K d_l_wrong_any ["_law_net_here", "_law_line", "_law_rows", "_law_steps"] []
  a_l_marks_bound : Addr
  d_l_marks_bound : FuncData
  F_l_marks_bound : FnP K "_law_marks_bound" s_l_marks_bound a_l_marks_bound d_l_marks_bound
  g_l_marks_bound : mg "_law_marks_bound" = some (.ref a_l_marks_bound)
  b_l_marks_bound : Binds K d_l_marks_bound ["_law_table_here", "_law_marks"] []
  a_l_where : Addr
  d_l_where : FuncData
  F_l_where : FnP K "_law_where" s_l_where a_l_where d_l_where
  g_l_where : mg "_law_where" = some (.ref a_l_where)
  b_l_where : Binds K d_l_where ["_law_net_here", "_law_line", "_law_rows", "_law_thing"] []
  a_l_told : Addr
  d_l_told : FuncData
  F_l_told : FnP K "_law_told" s_l_told a_l_told d_l_told
  g_l_told : mg "_law_told" = some (.ref a_l_told)
  b_l_told : Binds K d_l_told ["_law_net_here", "_law_line", "_law_returns_here", "_law_thing"] []
  a_l_any : Addr
  d_l_any : FuncData
  F_l_any : FnP K "_law_any" s_l_any a_l_any d_l_any
  g_l_any : mg "_law_any" = some (.ref a_l_any)
  b_l_any : Binds K d_l_any ["_law_bag_here"] []
  a_l_part : Addr
  d_l_part : FuncData
  F_l_part : FnP K "_law_part" s_l_part a_l_part d_l_part
  g_l_part : mg "_law_part" = some (.ref a_l_part)
  b_l_part : Binds K d_l_part ["_law_bag_here", "_law_net_here", "_law_step"] []
  a_l_bent_steps : Addr
  d_l_bent_steps : FuncData
  F_l_bent_steps : FnP K "_law_bent_steps" s_l_bent_steps a_l_bent_steps d_l_bent_steps
  g_l_bent_steps : mg "_law_bent_steps" = some (.ref a_l_bent_steps)
  b_l_bent_steps : Binds K d_l_bent_steps ["_law_bag_here", "_law_net_here", "_law_steps"] []
  a_l_bent_marks : Addr
  d_l_bent_marks : FuncData
  F_l_bent_marks : FnP K "_law_bent_marks" s_l_bent_marks a_l_bent_marks d_l_bent_marks
  g_l_bent_marks : mg "_law_bent_marks" = some (.ref a_l_bent_marks)
  b_l_bent_marks : Binds K d_l_bent_marks ["_law_bag_here", "_law_marks"] []
  a_l_bent : Addr
  d_l_bent : FuncData
  F_l_bent : FnP K "_law_bent" s_l_bent a_l_bent d_l_bent
  g_l_bent : mg "_law_bent" = some (.ref a_l_bent)
  b_l_bent : Binds K d_l_bent ["_law_bag_here", "_law_net_here", "_law_told_here"] []
  a_l_copied : Addr
  d_l_copied : FuncData
  F_l_copied : FnP K "_law_copied" s_l_copied a_l_copied d_l_copied
  g_l_copied : mg "_law_copied" = some (.ref a_l_copied)
  b_l_copied : Binds K d_l_copied ["_law_thing"] []
  t_NUMBER : Tok
  c_NUMBER : mg "NUMBER" = some (.int 1 t_NUMBER)
  t_JUNCTION : Tok
  c_JUNCTION : mg "JUNCTION" = some (.int 3 t_JUNCTION)
  t_DAY : Tok
  c_DAY : mg "DAY" = some (.int 4 t_DAY)
  t_HOUR : Tok
  c_HOUR : mg "HOUR" = some (.int 5 t_HOUR)
  t_OVER : Tok
  c_OVER : mg "OVER" = some (.int 7 t_OVER)
  z_ValueError : mg "ValueError" = none
  z_abs : mg "abs" = none
  z_all : mg "all" = none
  z_any : mg "any" = none
  z_bool : mg "bool" = none
  z_dict : mg "dict" = none
  z_enumerate : mg "enumerate" = none
  z_int : mg "int" = none
  z_isinstance : mg "isinstance" = none
  z_len : mg "len" = none
  z_list : mg "list" = none
  z_max : mg "max" = none
  z_min : mg "min" = none
  z_range : mg "range" = none
  z_reversed : mg "reversed" = none
  z_sorted : mg "sorted" = none
  z_str : mg "str" = none
  z_sum : mg "sum" = none
  z_super : mg "super" = none
  z_tuple : mg "tuple" = none
  z_zip : mg "zip" = none
  a_HouseError : Addr
  g_HouseError : mg "HouseError" = some (.ref a_HouseError)
  a_NoNet : Addr
  g_NoNet : mg "NoNet" = some (.ref a_NoNet)
  a_NoWay : Addr
  g_NoWay : mg "NoWay" = some (.ref a_NoWay)
  a_NoWagon : Addr
  g_NoWagon : mg "NoWagon" = some (.ref a_NoWagon)
  a_NoRules : Addr
  g_NoRules : mg "NoRules" = some (.ref a_NoRules)
  a_NoPaper : Addr
  g_NoPaper : mg "NoPaper" = some (.ref a_NoPaper)
  a_NoProof : Addr
  g_NoProof : mg "NoProof" = some (.ref a_NoProof)
  a_NotYet : Addr
  g_NotYet : mg "NotYet" = some (.ref a_NotYet)
  a_TooMany : Addr
  g_TooMany : mg "TooMany" = some (.ref a_TooMany)
  a_TooLate : Addr
  g_TooLate : mg "TooLate" = some (.ref a_TooLate)
  a_NoLine : Addr
  g_NoLine : mg "NoLine" = some (.ref a_NoLine)
  a_Stopped : Addr
  g_Stopped : mg "Stopped" = some (.ref a_Stopped)
  a_NoMonth : Addr
  g_NoMonth : mg "NoMonth" = some (.ref a_NoMonth)
  a_NoBill : Addr
  g_NoBill : mg "NoBill" = some (.ref a_NoBill)
  a_NoText : Addr
  g_NoText : mg "NoText" = some (.ref a_NoText)
  a_NoSaying : Addr
  g_NoSaying : mg "NoSaying" = some (.ref a_NoSaying)
  i_NoProof : Addr
  t_NoProof : SupE.Txt PP K mg "no proof, by its " a_NoProof i_NoProof
  c_NoProof : ExcC K a_NoProof
  f_NoProof : XfC K a_NoProof
  m_NoProof_HouseError : PySem.W.exmOne K (.ref a_NoProof) (.ref a_HouseError) = some true
  k0_NoProof : PySem.W.kitAny K (.ref a_NoProof) [.ref a_NoNet, .ref a_NoWay, .ref a_NoWagon, .ref a_NoRules, .ref a_NoPaper, .ref a_NotYet, .ref a_TooMany, .ref a_TooLate] = some false
  k1_NoProof : PySem.W.kitAny K (.ref a_NoProof) [.ref a_NoLine, .ref a_Stopped, .ref a_NoMonth, .ref a_NoBill, .ref a_NoText, .ref a_NoSaying] = some false
  ks_NoProof : PySem.W.kitOne K (.ref a_NoProof) (.ref a_NoProof) = some true
  kv_NoProof : PySem.W.kitOne K (.ref a_NoProof) (.type "ValueError") = some true
end Th
namespace Th
open PySem PySem.Spec PyProof.Rows L2
section
variable {P : Program} {w : World} {K : PySem.W.Frag} {mg : Str → Option Value} {base : Heap} {k : Nat}
set_option maxHeartbeats 8000000 in
theorem ok_l_bag (T : Defs K mg) : FnOk P w K mg base CX0 (k + 1) T.a_l_bag T.d_l_bag ["_law_script", "_law_at"] (sp_bag K) := by
  refine T.F_l_bag.ok sc_l_bag (fun vs H Q E h => ?_) (fun cdv A outer s H vs Q E hr h => ?_)
  · obtain ⟨a, ns, i, rfl, _⟩ := h
    rfl
  · obtain ⟨a, ns, i, rfl, hS, hi, q⟩ := h
    refine ⟨_, PSs.nox
(pss_cons (ps_set (i := 2) sc_l_bag.nd rfl (.inl rfl) (pe_int))
    (Evl.pss_cut (ps_if (pt_cmpR op_gt (pe_callB (r := rLenS K) call_lenS (by rfl) T.z_len (by decide +kernel) (pa_cons (pv 0) pa_nil)) (pe_int) (nomark _))
      (pss_one (ps_set (i := 2) sc_l_bag.nd rfl (.inl rfl) (pe_ix (r := rIxL K) ix_list (pv 0) (pe_op op_mod (pv 1) (pe_callB (r := rLenS K) call_lenS (by rfl) T.z_len (by decide +kernel) (pa_cons (pv 0) pa_nil))) (fun _ _ => rfl))))
      pss_nil)
    (pss_cons (ps_set (i := 3) sc_l_bag.nd rfl (.inl rfl) (pe_int))
    (Evl.pss_cut (ps_if (PW.pt (pw_and (pt_cmpR op_ge (pe_callB call_abs (by rfl) T.z_abs (by decide +kernel) (pa_cons (pv 2) pa_nil)) (pe_op op_pow (pe_int) (pe_int)) (nomark _)) (pw_and1 (pt_cmpR op_lt (pv 1) (pe_callB (r := rLenS K) call_lenS (by rfl) T.z_len (by decide +kernel) (pa_cons (pv 0) pa_nil)) (nomark _)))))
      (pss_one (ps_set (i := 3) sc_l_bag.nd rfl (.inl rfl) (pe_callB call_abs (by rfl) T.z_abs (by decide +kernel) (pa_cons (pv 2) pa_nil))))
      pss_nil)
    (pss_cons (ps_set (i := 4) sc_l_bag.nd rfl (.inl rfl) (pe_tup (pa_cons (pe_int) (pa_cons (pe_int) (pa_cons (pe_int) (pa_cons (pe_int) (pa_cons (pe_int) (pa_cons (pe_int) (pa_cons (pe_int) (pa_cons (pe_int) pa_nil))))))))))
    (pss_one (ps_ret (pe_lst (pa_cons (pv 3) (pa_cons (pe_op op_mod (pe_op op_pow (pe_op op_add (pe_op op_add (pe_op op_mod (pv 2) (pe_int)) (pe_op op_mul (pe_int) (pv 1))) (pe_int)) (pe_int)) (pe_ix (r := rIxT K) ix_tup (pv 4) (pe_op op_mod (pv 1) (pe_int)) (fun _ _ => rfl))) pa_nil))))))))))
      , ?_⟩
    obtain ⟨pr, hp, hp0, hp1⟩ := primes_at i
    have lenV : (ns.map V.int).length = ns.length := List.length_map _
    refine ⟨fun σ H1 => ∃ c : Int, σ = [some (.ref a), some (.int i), some (.int c), none, none] ∧ H1 = H, ?_, fun σ H1 mid => ?_⟩
    · refine ⟨.ref a, rfl, a, _, rfl, .inl hS, _, 0, rfl, rfl, _, rfl, ite2 (fun e => ?_) (fun e => ⟨0, rfl, rfl⟩)⟩
      have lp : 0 < ns.length := by
        have := of_decide_eq_true e
        rw [lenV] at this
        omega
      have hm : i % ns.length < ns.length := Nat.mod_lt _ lp
      have g1 : (ns.map V.int)[i % ns.length]? = some (.int ns[i % ns.length]) := by
        rw [List.getElem?_map, List.getElem?_eq_getElem hm]
        rfl
      refine ⟨.ref a, rfl, .int i, rfl, .ref a, rfl, a, _, rfl, .inl hS, (i : Int), _, rfl, rfl, by rw [lenV]; omega, a, _, _, .int ns[i % ns.length], rfl, rfl, hS, ?_, _, rfl, rfl⟩
      rw [lenV, ← Int.natCast_emod]
      exact atI_nat g1
    obtain ⟨c, rfl, rfl⟩ := mid
    refine ⟨fun σ H2 => ∃ g : Int, 0 ≤ g ∧ σ = [some (.ref a), some (.int i), some (.int c), some (.int g), none] ∧ H2 = H1, ?_, fun σ H2 mid => ?_⟩
    · refine ⟨.int c, rfl, _, rfl, 10, 18, rfl, rfl, ⟨by decide, by decide, by decide⟩, _, _, rfl, rfl, _, rfl, ite2 (fun e => ?_) (fun e => ⟨0, by decide, rfl, rfl⟩)⟩
      refine ⟨.int i, rfl, .ref a, rfl, a, _, rfl, .inl hS, _, _, rfl, rfl, _, rfl, ite2 (fun e => ?_) (fun e => ⟨0, by decide, rfl, rfl⟩)⟩
      refine ⟨.int c, rfl, _, rfl, _, ?_, rfl, rfl⟩
      split <;> omega
    obtain ⟨g, hg, rfl, rfl⟩ := mid
    refine ⟨by show 8 ≤ sizeLine; decide, fun l nl => ?_⟩
    refine ⟨_, rfl, .int c, rfl, c, 2147483647, rfl, rfl, pA, .int i, rfl, 104729, i, rfl, rfl, .inl ⟨by decide, by decide⟩, _, _, rfl, rfl, _, 7, rfl, rfl, _, 5, rfl, rfl, ⟨by decide, by decide, ?_⟩, .ref l, rfl, .int i, rfl, i, 8, rfl, rfl, p8, l, _, _, _, rfl, rfl, SqT.of upd_same, hp, _, pr, rfl, rfl, hp0, by show 2 ≤ sizeLine; decide, fun p np => ?_⟩
    · omega
    · have s1 := same_upd (o := .tup [V.int 2147483629, .int 2147483587, .int 2147483579, .int 2147483563, .int 2147483549, .int 2147483543, .int 2147483497, .int 2147483489]) nl
      exact q _ p (s1.trans (same_upd np)) (s1.free np) ⟨g, _, upd_same, hg, Int.emod_nonneg _ (by omega), Int.lt_trans (Int.emod_lt_of_pos _ hp0) hp1⟩
end
section
variable {P : Program} {w : World} {K : PySem.W.Frag} {mg : Str → Option Value} {base : Heap} {k : Nat}
theorem ok_l_take (T : Defs K mg) : FnOk P w K mg base CX0 (k + 1) T.a_l_take T.d_l_take ["_law_bag_here", "_law_many"] sp_take := by
  refine T.F_l_take.ok sc_l_take (fun vs H Q E h => ?_) (fun cdv A outer s H vs Q E hr h => ?_)
  · obtain ⟨p, m, rfl, _⟩ := h
    rfl
  · obtain ⟨p, m, rfl, ⟨g, r, hp, g0, r0, r1⟩, m0, m1, q⟩ := h
    refine ⟨_, PSs.nox
(pss_cons (ps_if (pt_cmpR op_gt (pe_ix (r := rIxL K) ix_list (pv 0) (pe_int) (fun _ _ => rfl)) (pe_int) (nomark _))
      (pss_cons (ps_set (i := 2) sc_l_take.nd rfl (.inl rfl) (pe_op op_mod (pe_ix (r := rIxL K) ix_list (pv 0) (pe_int) (fun _ _ => rfl)) (pv 1)))
      (pss_cons (ps_asg (pe_op op_fdiv (pe_ix (r := rIxL K) ix_list (pv 0) (pe_int) (fun _ _ => rfl)) (pv 1)) (pg_sub (pv 0) (pe_int) set_list))
      (pss_one (ps_ret (pv 2)))))
      pss_nil)
    (pss_cons (ps_asg (pe_op op_mod (pe_op op_add (pe_op op_mul (pe_ix (r := rIxL K) ix_list (pv 0) (pe_int) (fun _ _ => rfl)) (pe_int)) (pe_int)) (pe_int)) (pg_sub (pv 0) (pe_int) set_list))
    (pss_one (ps_ret (pe_op op_mod (pe_op op_mod (pe_op op_pow (pe_op op_fdiv (pe_ix (r := rIxL K) ix_list (pv 0) (pe_int) (fun _ _ => rfl)) (pe_int)) (pe_int)) (pe_int)) (pv 1))))))
      , ?_⟩
    refine ⟨.ref p, rfl, p, _, 0, .int g, rfl, rfl, SqL.of hp, atI_nat (j := 0) rfl, _, 0, rfl, rfl, _, rfl, ite2 (fun e => ?_) (fun e => ?_)⟩
    · refine ⟨.ref p, rfl, p, _, 0, .int g, rfl, rfl, SqL.of hp, atI_nat (j := 0) rfl, .int m, rfl, g, m, rfl, rfl, m0, ?_⟩
      refine ⟨.ref p, rfl, p, _, 0, .int g, rfl, rfl, SqL.of hp, atI_nat (j := 0) rfl, .int m, rfl, g, m, rfl, rfl, ⟨m0, m1⟩, .ref p, rfl, p, _, 0, 0, rfl, rfl, hp, rfl, ?_⟩
      refine ⟨_, rfl, q _ _ Keep.upd ⟨_, _, upd_same, ?_, r0, r1⟩ (Int.emod_nonneg _ (by omega)) (Int.emod_lt_of_pos _ m0)⟩
      exact Int.ediv_nonneg g0 (by omega)
    · refine ⟨.ref p, rfl, p, _, 1, .int r, rfl, rfl, SqL.of hp, atI_nat (j := 1) rfl, r, 48271, rfl, rfl, .inr ⟨by decide, by decide⟩, _, 11, rfl, rfl, _, 2147483647, rfl, rfl, pA, .ref p, rfl, p, _, 1, 1, rfl, rfl, hp, rfl, ?_⟩
      have hz0 : 0 ≤ (r * 48271 + 11) % 2147483647 := Int.emod_nonneg _ (by decide)
      have hz1 : (r * 48271 + 11) % 2147483647 < 2147483647 := Int.emod_lt_of_pos _ (by decide)
      refine ⟨.ref p, rfl, p, _, 1, _, rfl, rfl, SqL.of upd_same, atI_nat (j := 1) rfl, (r * 48271 + 11) % 2147483647, 8, rfl, rfl, ⟨by decide, by decide⟩, _, 3, rfl, rfl, ⟨by decide, by decide, ?_⟩, _, 2147483629, rfl, rfl, pB, .int m, rfl, _, m, rfl, rfl, m0, ?_⟩
      · omega
      · exact q _ _ Keep.upd ⟨_, _, upd_same, g0, hz0, by omega⟩ (Int.emod_nonneg _ (by omega)) (Int.emod_lt_of_pos _ m0)
end
end Th
namespace Th
open PySem PySem.Spec PyProof.Rows L2
/-! drawn names, each with a letter of its own -/
/-- what is known of the k-th name -/
def NmB (f sh k : Nat) (l : List Nat) : Prop := ∃ st, Lower st ∧ st.length ≤ 7 ∧ l = if f = 0 then (97 + (sh + 7 * k) % 26) :: st else st ++ [97 + (sh + 7 * k) % 26]
theorem NmB.nm {f sh k : Nat} {l : List Nat} (h : NmB f sh k l) : IsNm l := by
  obtain ⟨st, hl, hn, rfl⟩ := h
  have own : 97 ≤ 97 + (sh + 7 * k) % 26 ∧ 97 + (sh + 7 * k) % 26 ≤ 122 := by omega
  split
  · refine ⟨by rw [List.length_cons]; omega, by rw [List.length_cons]; omega, fun c hc => ?_⟩
    rcases List.mem_cons.mp hc with z | z
    · rw [z]; exact own
    · exact hl c z
  · refine ⟨by rw [List.length_append]; simp, by rw [List.length_append]; simp; omega, fun c hc => ?_⟩
    rcases List.mem_append.mp hc with z | z
    · exact hl c z
    · rw [List.mem_singleton.mp z]; exact own
theorem nmb_unlike {f sh i j : Nat} {a b : List Nat} (hi : NmB f sh i a) (hj : NmB f sh j b) (h : i < j) (hj2 : j < 26) : a ≠ b := fun e => by
  obtain ⟨s1, _, _, e1⟩ := hi
  obtain ⟨s2, _, _, e2⟩ := hj
  have own : (sh + 7 * i) % 26 = (sh + 7 * j) % 26 := by
    by_cases c : f = 0
    · rw [if_pos c] at e1 e2
      rw [e1, e2] at e
      have := (List.cons.inj e).1
      omega
    · rw [if_neg c] at e1 e2
      rw [e1, e2] at e
      have := congrArg List.getLast? e
      simp at this
      omega
  omega
theorem nmb_nodup {f sh : Nat} {zs : List (List Nat)} (h : ∀ k l, zs[k]? = some l → NmB f sh k l) (hn : zs.length ≤ 26) : zs.Nodup := by
  rw [List.nodup_iff_pairwise_ne, List.pairwise_iff_getElem]
  intro i j hi hj hij
  exact nmb_unlike (h i _ (List.getElem?_eq_getElem hi)) (h j _ (List.getElem?_eq_getElem hj)) hij (by omega)
section
variable {P : Program} {w : World} {K : PySem.W.Frag} {mg : Str → Option Value} {base : Heap} {k : Nat}
def sp_l_names : Sp := fun vs H Q _ => ∃ (p : Addr) (n : Nat), vs = [.ref p, .int n] ∧ Bag H p ∧ n ≤ 26 ∧ ∀ (H' : Hp) (l : Addr) (zs : List Nm), Keep p H H' → Bag H' p → H l = none → H' l = some (.lst (zs.map nS)) → zs.length = n → zs.Nodup → (∀ z ∈ zs, IsNm z) → Q (.ref l) H'
set_option maxHeartbeats 8000000 in
theorem ok_l_names (T : Defs K mg) : FnOk P w K mg base CX0 (k + 2) T.a_l_names T.d_l_names ["_law_bag_here", "_law_many"] sp_l_names := by
  have G_l_take : FnOk P w K mg base CX0 (k + 1) _ _ _ _ := ok_l_take T
  refine T.F_l_names.ok sc_l_names (fun vs H Q E h => ?_) (fun cdv A outer s H vs Q E hr h => ?_)
  · obtain ⟨p, n, rfl, _⟩ := h
    rfl
  · obtain ⟨p, n, rfl, b, hn, q⟩ := h
    refine ⟨_, PSs.nox
(pss_cons (ps_set (i := 2) sc_l_names.nd rfl (.inr rfl) (pe_str))
    (pss_cons (ps_par (i := 3) (j := 4) (by rfl) sc_l_names.nd rfl rfl (by decide) rfl rfl (pa_cons (pe_call G_l_take hr (by rfl) T.g_l_take T.F_l_take.kp T.b_l_take .nil pass0 (pa_cons (pv 0) (pa_cons (pe_int) pa_nil))) (pa_cons (pe_call G_l_take hr (by rfl) T.g_l_take T.F_l_take.kp T.b_l_take .nil pass0 (pa_cons (pv 0) (pa_cons (pe_int) pa_nil))) pa_nil)) (by rfl))
    (pss_cons (ps_set (i := 5) sc_l_names.nd rfl (.inl rfl) (pe_lst pa_nil))
    (pss_cons (ps_for PassesOwn.never rfl (pi_range1 (by rfl) T.z_range (pa_cons (pv 1) pa_nil)) (pg_name (i := 6) sc_l_names.nd rfl (.inl rfl))
      (pss_cons (ps_set (i := 7) sc_l_names.nd rfl (.inl rfl) (pe_join (pe_str) (pe_lc (own := [("_law_step", 9)]) (g := gName 9) rfl sc_l_names.nd (pi_range1 (by rfl) T.z_range (pa_cons (pe_ix (r := rIxT K) ix_tup (pe_tup (pa_cons (pe_int) (pa_cons (pe_int) (pa_cons (pe_int) (pa_cons (pe_int) pa_nil))))) (pe_call G_l_take hr (by rfl) T.g_l_take T.F_l_take.kp T.b_l_take .nil pass0 (pa_cons (pv 0) (pa_cons (pe_int) pa_nil))) (fun _ _ => rfl)) pa_nil)) (blkOk_by (N := N_l_names) (sc := defScope s_l_names) (by decide +kernel)) (fun _ _ _ _ _ => (pg_name (i := 9) sc_l_names.nd rfl (.inl rfl))) (fun _ _ _ _ _ => pts_nil) (fun _ _ _ _ _ => (pe_ix ix_str (pv 2) (pe_call G_l_take hr (by rfl) T.g_l_take T.F_l_take.kp T.b_l_take .nil pass0 (pa_cons (pv 0) (pa_cons (pe_int) pa_nil))) (fun _ _ => rfl))))))
      (pss_cons (ps_set (i := 8) sc_l_names.nd rfl (.inl rfl) (pe_ix ix_str (pv 2) (pe_op op_mod (pe_op op_add (pv 4) (pe_op op_mul (pe_int) (pv 6))) (pe_int)) (fun _ _ => rfl)))
      (pss_one (ps_expr (pe_bm PySem.F.plainAttrs_list PySem.F.slot_list_append PySem.F.type_list_append mt_append (pv 5) (pa_cons (pe_ifExp (pt_cmpR op_eq (pv 3) (pe_int) (nomark _)) (pe_op op_add_str (pv 8) (pv 7)) (pe_op op_add_str (pv 7) (pv 8))) pa_nil)))))))
    (pss_one (ps_ret (pv 5)))))))
      , ?_⟩
    refine ⟨.ref p, rfl, p, 2, rfl, b, by decide, by decide, fun H1 f k1 b1 f0 f1 => ?_⟩
    refine ⟨.ref p, rfl, p, 26, rfl, b1, by decide, by decide, fun H2 sh k2 b2 sh0 sh1 => ?_⟩
    obtain ⟨f, rfl⟩ : ∃ xn : Nat, f = (xn : Int) := ⟨f.toNat, by omega⟩
    obtain ⟨sh, rfl⟩ : ∃ xn : Nat, sh = (xn : Int) := ⟨sh.toNat, by omega⟩
    have k12 := k1.trans k2
    refine ⟨_, _, rfl, Nat.zero_le _, fun F nF => ?_⟩
    have nFp : F ≠ p := b2.ne nF
    have nFH : H F = none := k12.free b nF b2
    refine ⟨.int n, rfl, n, rfl, by omega, by omega, ?_⟩
    rw [Int.toNat_natCast]
    refine for_range (lo := 0) (n := n) (fun i σ H3 => ∃ (y6 y7 y8 : Option V) (zs : List (List Nat)), σ = [some (.ref p), some (.int n), some (.str abc), some (.int (f : Nat)), some (.int (sh : Nat)), some (.ref F), y6, y7, y8, none] ∧ Keep p H H3 ∧ Bag H3 p ∧ zs.length = i ∧ (∀ k l, zs[k]? = some l → NmB f sh k l) ∧ H3 F = some (.lst (zs.map nS)))
      ⟨none, none, none, [], rfl, k12.trans (.of (same_upd nF)), b2.keep (same_upd nF), rfl, fun k l h => by simp at h, upd_same⟩ (fun i σ H3 hi hp => ?_) (fun σ H3 hp => ?_)
    · obtain ⟨y6, y7, y8, zs, rfl, k3, b3, hl, hz, eF⟩ := hp
      -- stem
      refine ⟨⟨_, rfl⟩, by show 4 ≤ sizeLine; decide, fun t nt => ?_⟩
      have ntp : t ≠ p := b3.ne nt
      refine ⟨.ref p, rfl, p, 4, rfl, b3.keep (same_upd nt), by decide, by decide, fun H4 d k4 b4 d0 d1 => ?_⟩
      obtain ⟨m0, hm0, em0⟩ := pick (ms := [0, 1, 2, 7]) d0 d1
      refine ⟨t, _, d, _, rfl, rfl, SqT.of (k4 _ _ ntp upd_same), em0, ?_⟩
      obtain ⟨sz, rfl, sz7⟩ : ∃ sz : Nat, m0 = (sz : Int) ∧ sz ≤ 7 := by
        simp only [List.mem_cons, List.not_mem_nil, or_false] at hm0
        exact ⟨m0.toNat, by omega, by omega⟩
      have eF4 := k4 _ _ nFp (same_upd nt _ _ eF)
      have k4 := k3.trans ((Keep.of (same_upd nt)).trans k4)
      refine ⟨sz, rfl, by omega, by omega, fun D nD => ?_⟩
      have nDp : D ≠ p := b4.ne nD
      have nFD : F ≠ D := ne_of_none eF4 nD
      rw [Int.toNat_natCast]
      refine lc_it walk_range (fun j H5 => Keep p H4 H5 ∧ Bag H5 p ∧ ∃ cs : List Nat, cs.length = j ∧ Lower cs ∧ H5 D = some (.lst (((cs.map fun c => [c]).map SX.S).map V.str))) ⟨.of (same_upd nD), b4.keep (same_upd nD), [], rfl, fun c hc => by simp at hc, upd_same⟩ (fun _ _ _ _ => trivial) (fun j x H5 H6 hj pv y => ?_) (fun H5 pv => ?_)
      · obtain ⟨rfl, rfl⟩ := y
        obtain ⟨k5, b5, cs, hcl, hcs, eD⟩ := pv
        refine ⟨rfl, yes_ ?_⟩
        refine ⟨.str abc, rfl, .ref p, rfl, p, 26, rfl, b5, by decide, by decide, fun H7 d k7 b7 d0 d1 => ?_⟩
        refine ⟨abc, d, _, rfl, rfl, by decide +kernel, abc_at d0 d1, _, k7 _ _ nDp eD, by rw [List.length_map, List.length_map, List.length_map]; exact small5000 (by omega), (k5.trans k7).set nD, b7.at (upd_ne nDp.symm), cs ++ [97 + d.toNat], by rw [List.length_append, hcl]; rfl, fun c hc => ?_, by rw [upd_same, List.map_append, List.map_append, List.map_append]; rfl⟩
        rcases List.mem_append.mp hc with z | z
        · exact hcs c z
        · rw [List.mem_singleton.mp z]
          omega
      obtain ⟨k5, b5, cs, hcl, hcs, eD⟩ := pv
      have eF5 := k5 _ _ nFp eF4
      have k5 := k4.trans k5
      refine ⟨_, D, (cs.map fun c => [c]).map SX.S, rfl, rfl, .inl (SqL.of eD), ?_, ?_⟩
      · rw [SX.lens, List.map_map, List.length_map, List.length_map]
        have e1 : (cs.map ((fun x : List Nat => x.length) ∘ fun c => [c])).sum = cs.length := by
          clear eD hcs hcl
          induction cs with
          | nil => rfl
          | cons c cs ih => rw [List.map_cons, List.sum_cons, ih, List.length_cons]; show 1 + _ = _; omega
        rw [e1]
        show cs.length + cs.length * 0 ≤ 16777216
        omega
      have ej : Txt.join (Str.ofString "") ((cs.map fun c => [c]).map SX.S) = SX.S cs := join_signs cs
      rw [ej]
      -- own
      have hm0 : 0 ≤ ((sh : Int) + 7 * (0 + (i : Int))) % 26 := Int.emod_nonneg _ (by decide)
      have hm1 : ((sh : Int) + 7 * (0 + (i : Int))) % 26 < 26 := Int.emod_lt_of_pos _ (by decide)
      have ei : (((sh : Int) + 7 * (0 + (i : Int))) % 26).toNat = (sh + 7 * i) % 26 := by omega
      refine ⟨.str abc, rfl, .int (sh : Nat), rfl, .int (0 + (i : Int)), rfl, 7, _, rfl, rfl, .inl ⟨by decide, by decide⟩, _, _, rfl, rfl, _, 26, rfl, rfl, p26, abc, _, _, rfl, rfl, by decide +kernel, abc_at hm0 hm1, ?_⟩
      rw [ei]
      have fin : ∀ z : List Nat, NmB f sh i z → ∃ (y6 y7 y8 : Option V) (zs' : List (List Nat)), [some (V.ref p), some (.int n), some (.str abc), some (.int (f : Nat)), some (.int (sh : Nat)), some (.ref F), some (.int (0 + (i : Int))), some (nS cs), some (nS [97 + (sh + 7 * i) % 26]), none] = [some (V.ref p), some (.int n), some (.str abc), some (.int (f : Nat)), some (.int (sh : Nat)), some (.ref F), y6, y7, y8, none] ∧ Keep p H (upd H5 F (.lst (zs.map nS ++ [nS z]))) ∧ Bag (upd H5 F (.lst (zs.map nS ++ [nS z]))) p ∧ zs'.length = i + 1 ∧ (∀ k l, zs'[k]? = some l → NmB f sh k l) ∧ (upd H5 F (.lst (zs.map nS ++ [nS z]))) F = some (.lst (zs'.map nS)) := fun z hzz => by
        refine ⟨_, _, _, zs ++ [z], rfl, k5.set nFH, b5.at (upd_ne nFp.symm), by rw [List.length_append, hl]; rfl, fun k l hk => ?_, by rw [upd_same, List.map_append]; rfl⟩
        by_cases hk2 : k < zs.length
        · rw [List.getElem?_append_left hk2] at hk
          exact hz k l hk
        · rw [List.getElem?_append_right (by omega)] at hk
          have ek : k = i := by
            have := (List.getElem?_eq_some_iff.mp hk).1
            simp at this
            omega
          subst ek
          rw [hl, Nat.sub_self] at hk
          have := Option.some.inj hk
          subst this
          exact hzz
      have sz1 : (SX.S [97 + (sh + 7 * i) % 26]).length + (SX.S cs).length ≤ sizeLine := by
        rw [SX.S_len, SX.S_len]
        show 1 + cs.length ≤ sizeLine
        exact Nat.le_of_lt (small5000 (by omega))
      refine ⟨.ref F, rfl, .inl ⟨rfl, _, SqL.of eF5⟩, .int (f : Nat), rfl, rfl, _, rfl, ite2 (fun c => ?_) (fun c => ?_)⟩
      · have c : f = 0 := by
          have c : V.int (f : Nat) = .int 0 := of_decide_eq_true c
          injection c with c
          omega
        refine ⟨nS [97 + (sh + 7 * i) % 26], rfl, nS cs, rfl, _, _, rfl, rfl, sz1, F, _, _, rfl, rfl, eF5, by rw [List.length_map, hl]; exact small5000 (by omega), ?_⟩
        rw [SX.S_cat]
        exact fin _ ⟨cs, hcs, by omega, by rw [if_pos c]; rfl⟩
      · have c : ¬ f = 0 := fun e => c (decide_eq_true (by rw [e]; rfl))
        refine ⟨nS cs, rfl, nS [97 + (sh + 7 * i) % 26], rfl, _, _, rfl, rfl, by rw [Nat.add_comm]; exact sz1, F, _, _, rfl, rfl, eF5, by rw [List.length_map, hl]; exact small5000 (by omega), ?_⟩
        rw [SX.S_cat]
        exact fin _ ⟨cs, hcs, by omega, by rw [if_neg c]⟩
    · obtain ⟨y6, y7, y8, zs, rfl, k3, b3, hl, hz, eF⟩ := hp
      refine ⟨.ref F, rfl, q _ F zs k3 b3 nFH eF hl (nmb_nodup hz (by omega)) (fun z hm => ?_)⟩
      obtain ⟨j, hj⟩ := List.getElem?_of_mem hm
      exact (hz j z hj).nm
end
end Th
namespace Th
open PySem PySem.Spec PyProof.Rows L2
/-! a drawn net of lines and junctions -/
def JnT (H : Hp) (x : Addr) (j : Nm × List Nm) : Prop := ∃ t, H x = some (.tup [nS j.1, .ref t]) ∧ TpF H t (j.2.map nS)
structure NetBok (ls : List Nm) (jns : List (Nm × List Nm)) : Prop where
  l1 : 1 ≤ ls.length
  l8 : ls.length ≤ 8
  lnd : ls.Nodup
  lnm : ∀ z ∈ ls, IsNm z
  j12 : jns.length ≤ 12
  jnd : (jns.map (·.1)).Nodup
  jnm : ∀ j ∈ jns, IsNm j.1
  sub : ∀ j ∈ jns, j.2.Sublist ls
  two : ∀ j ∈ jns, 2 ≤ j.2.length
def NB (H : Hp) (r : Addr) (ls : List Nm) (jns : List (Nm × List Nm)) : Prop := ∃ (a c : Addr) (b d : V) (ja : List Addr), H r = some (.tup [.ref a, b, .ref c, d]) ∧ TpF H a (ls.map nS) ∧ TpF H c (ja.map V.ref) ∧ Paired (JnT H) ja jns
theorem NB.same {H H' : Hp} {r : Addr} {ls : List Nm} {jns : List (Nm × List Nm)} (h : NB H r ls jns) (s : Same H H') : NB H' r ls jns := by
  obtain ⟨a, c, b, d, ja, h1, h2, h3, h4⟩ := h
  exact ⟨a, c, b, d, ja, s _ _ h1, h2.same s, h3.same s, paired_imp h4 fun x _ j ⟨t, e1, e2⟩ => ⟨t, s _ _ e1, e2.same s⟩⟩
theorem NB.keep {p : Addr} {H H' : Hp} {r : Addr} {ls : List Nm} {jns : List (Nm × List Nm)} (h : NB H r ls jns) (k : Keep p H H') (b : Bag H p) : NB H' r ls jns := by
  obtain ⟨a, c, b', d, ja, h1, h2, h3, h4⟩ := h
  exact ⟨a, c, b', d, ja, TK.keep k b _ _ h1, h2.keep k b, h3.keep k b, paired_imp h4 fun x _ j ⟨t, e1, e2⟩ => ⟨t, TK.keep k b _ _ e1, e2.keep k b⟩⟩
theorem JnT.upd {H : Hp} {x : Addr} {j : Nm × List Nm} (h : JnT H x j) {c : Addr} {o : HO} {xs : List V} (e : H c = some (.lst xs)) : JnT (upd H c o) x j := by
  obtain ⟨t, e1, ob, e2, d⟩ := h
  exact ⟨t, by rw [upd_ne (fun z => by rw [z, e] at e1; cases e1)]; exact e1, ob, by rw [upd_ne (fun z => by rw [z, e] at e2; cases e2)]; exact e2, d⟩
theorem JnT.keep {p : Addr} {H H' : Hp} {x : Addr} {j : Nm × List Nm} (h : JnT H x j) (k : Keep p H H') (b : Bag H p) : JnT H' x j := let ⟨t, e1, e2⟩ := h; ⟨t, TK.keep k b _ _ e1, e2.keep k b⟩
theorem JnT.same {H H' : Hp} {x : Addr} {j : Nm × List Nm} (h : JnT H x j) (s : Same H H') : JnT H' x j := let ⟨t, e1, e2⟩ := h; ⟨t, s _ _ e1, e2.same s⟩
theorem two_len {l : List Nm} {x y : Nm} (hx : x ∈ l) (hy : y ∈ l) (h : x ≠ y) : 2 ≤ l.length := by
  match l, hx, hy with
  | [a], hx, hy =>
    rw [List.mem_singleton.mp hx, List.mem_singleton.mp hy] at h
    exact absurd rfl h
  | a :: b :: r, _, _ => simp
theorem in_two {x a b : Nm} : inV (nS x) [nS a, nS b] = decide (x = a ∨ x = b) := by
  have h : inV (nS x) ([a, b].map nS) = decide (x ∈ [a, b]) := by
    unfold inV
    rw [List.any_map]
    by_cases h : x ∈ [a, b]
    · rw [decide_eq_true h]
      exact List.any_eq_true.mpr ⟨x, h, by show (SX.S x == SX.S x) = true; simp⟩
    · rw [decide_eq_false h]
      refine List.any_eq_false.mpr fun y hy z => h ?_
      have z : (SX.S y == SX.S x) = true := z
      rw [← SX.S_inj (eq_of_beq z)]
      exact hy
  refine h.trans ?_
  congr 1
  simp
section
variable {P : Program} {w : World} {K : PySem.W.Frag} {mg : Str → Option Value} {base : Heap} {k : Nat}
def sp_l_net : Sp := fun vs H Q _ => ∃ p, vs = [.ref p] ∧ Bag H p ∧ ∀ (H' : Hp) (r : Addr) (ls : List Nm) (jns : List (Nm × List Nm)), Keep p H H' → Bag H' p → NB H' r ls jns → NetBok ls jns → Q (.ref r) H'
set_option maxHeartbeats 16000000 in
theorem ok_l_net (T : Defs K mg) : FnOk P w K mg base CX0 (k + 3) T.a_l_net T.d_l_net ["_law_bag_here"] sp_l_net := by
  have G_l_take : FnOk P w K mg base CX0 (k + 2) _ _ _ _ := ok_l_take (k := k + 1) T
  have G_l_names : FnOk P w K mg base CX0 (k + 2) _ _ _ _ := ok_l_names T
  refine T.F_l_net.ok sc_l_net (fun vs H Q E h => ?_) (fun cdv A outer s H vs Q E hr h => ?_)
  · obtain ⟨p, rfl, _⟩ := h
    rfl
  · obtain ⟨p, rfl, b, q⟩ := h
    refine ⟨_, PSs.nox
(pss_cons (ps_set (i := 1) sc_l_net.nd rfl (.inr rfl) (pe_call G_l_take hr (by rfl) T.g_l_take T.F_l_take.kp T.b_l_take .nil pass0 (pa_cons (pv 0) (pa_cons (pe_int) pa_nil))))
    (pss_cons (ps_set (i := 2) sc_l_net.nd rfl (.inr rfl) (pe_ix (r := rIxT K) ix_tup (pe_tup (pa_cons (pe_int) (pa_cons (pe_int) (pa_cons (pe_int) (pa_cons (pe_int) (pa_cons (pe_int) (pa_cons (pe_int) (pa_cons (pe_int) (pa_cons (pe_int) pa_nil))))))))) (pe_call G_l_take hr (by rfl) T.g_l_take T.F_l_take.kp T.b_l_take .nil pass0 (pa_cons (pv 0) (pa_cons (pe_int) pa_nil))) (fun _ _ => rfl)))
    (pss_cons (ps_set (i := 3) sc_l_net.nd rfl (.inr rfl) (pe_call G_l_names hr (by rfl) T.g_l_names T.F_l_names.kp T.b_l_names .nil pass0 (pa_cons (pv 0) (pa_cons (pv 2) pa_nil))))
    (pss_cons (ps_set (i := 4) sc_l_net.nd rfl (.inr rfl) (pe_call G_l_names hr (by rfl) T.g_l_names T.F_l_names.kp T.b_l_names .nil pass0 (pa_cons (pv 0) (pa_cons (pe_int) pa_nil))))
    (pss_cons (ps_set (i := 5) sc_l_net.nd rfl (.inl rfl) (pe_lst pa_nil))
    (pss_cons (ps_for PassesOwn.never rfl (pi_range1 (by rfl) T.z_range (pa_cons (pe_op op_mul (pe_ix (r := rIxT K) ix_tup (pe_tup (pa_cons (pe_int) (pa_cons (pe_int) (pa_cons (pe_call G_l_take hr (by rfl) T.g_l_take T.F_l_take.kp T.b_l_take .nil pass0 (pa_cons (pv 0) (pa_cons (pe_int) pa_nil))) pa_nil)))) (pe_call G_l_take hr (by rfl) T.g_l_take T.F_l_take.kp T.b_l_take .nil pass0 (pa_cons (pv 0) (pa_cons (pe_int) pa_nil))) (fun _ _ => rfl)) (pe_callTy call_int1 (by rfl) T.z_int (by decide +kernel) (pa_cons (pe_cmpR op_gt (pv 2) (pe_int) (nomark _)) pa_nil))) pa_nil)) (pg_name (i := 6) sc_l_net.nd rfl (.inl rfl))
      (pss_cons (ps_set (i := 7) sc_l_net.nd rfl (.inl rfl) (pe_call G_l_take hr (by rfl) T.g_l_take T.F_l_take.kp T.b_l_take .nil pass0 (pa_cons (pv 0) (pa_cons (pv 2) pa_nil))))
      (pss_cons (ps_set (i := 8) sc_l_net.nd rfl (.inr rfl) (pe_tup (pa_cons (pe_ix (r := rIxL K) ix_list (pv 3) (pv 7) (fun _ _ => rfl)) (pa_cons (pe_ix (r := rIxL K) ix_list (pv 3) (pe_op op_mod (pe_op op_add (pe_op op_add (pv 7) (pe_int)) (pe_call G_l_take hr (by rfl) T.g_l_take T.F_l_take.kp T.b_l_take .nil pass0 (pa_cons (pv 0) (pa_cons (pe_op op_sub (pv 2) (pe_int)) pa_nil)))) (pv 2)) (fun _ _ => rfl)) pa_nil))))
      (Evl.pss_cut (ps_if (PW.pt (pw_and (pt_cmpR op_eq (pv 1) (pe_int) (nomark _)) (pw_and1 (pt_cmpR op_lt (pv 6) (pe_op op_sub (pv 2) (pe_int)) (nomark _)))))
        (pss_one (ps_set (i := 8) sc_l_net.nd rfl (.inr rfl) (pe_tup (pa_cons (pe_ix (r := rIxL K) ix_list (pv 3) (pv 6) (fun _ _ => rfl)) (pa_cons (pe_ix (r := rIxL K) ix_list (pv 3) (pe_op op_add (pv 6) (pe_int)) (fun _ _ => rfl)) pa_nil)))))
        pss_nil)
      (pss_cons (ps_setLc (i := 9) (own := [("_law_line", 11)]) (g := gName 11) rfl sc_l_net.nd rfl rfl (sw_true rfl rfl rfl (by decide +kernel)) (pi_list (pv 3)) (blkOk_by (N := N_l_net) (sc := defScope s_l_net) (by decide +kernel)) (fun _ _ _ _ _ => (pg_name (i := 11) sc_l_net.nd rfl (.inl rfl))) (fun _ _ _ _ _ => pts_one (PW.pt (pw_or (pt_cmpR (r := rIn K false) op_in_seq (pv 11) (pv 8) (by rfl)) (pw_or1 (PW.pt (pw_and (pt_cmpR op_eq (pv 1) (pe_int) (nomark _)) (pw_and1 (pt_cmpR op_eq (pe_call G_l_take hr (by rfl) T.g_l_take T.F_l_take.kp T.b_l_take .nil pass0 (pa_cons (pv 0) (pa_cons (pe_int) pa_nil))) (pe_int) (nomark _))))))))) (fun _ _ _ _ _ => (pv 11)))
      (pss_one (ps_expr (pe_bm PySem.F.plainAttrs_list PySem.F.slot_list_append PySem.F.type_list_append mt_append (pv 5) (pa_cons (pe_tup (pa_cons (pe_ix (r := rIxL K) ix_list (pv 4) (pv 6) (fun _ _ => rfl)) (pa_cons (pe_callTy (r := rTupF K) call_tuple_ofF (by rfl) T.z_tuple (by decide +kernel) (pa_cons (pv 9) pa_nil)) pa_nil))) pa_nil)))))))))
    (pss_cons (ps_setLc (i := 10) (own := [("_law_k", 6)]) (g := gName 6) rfl sc_l_net.nd rfl rfl (sw_true rfl rfl rfl (by decide +kernel)) (pi_range1 (by rfl) T.z_range (pa_cons (pe_call G_l_take hr (by rfl) T.g_l_take T.F_l_take.kp T.b_l_take .nil pass0 (pa_cons (pv 0) (pa_cons (pe_int) pa_nil))) pa_nil)) (blkOk_by (N := N_l_net) (sc := defScope s_l_net) (by decide +kernel)) (fun _ _ _ _ _ => (pg_name (i := 6) sc_l_net.nd rfl (.inl rfl))) (fun _ _ _ _ _ => pts_nil) (fun _ _ _ _ _ => (pe_tup (pa_cons (pe_ix (r := rIxL K) ix_list (pv 4) (pe_op op_add (pe_int) (pv 6)) (fun _ _ => rfl)) (pa_cons (pe_ix (r := rIxL K) ix_list (pv 3) (pe_call G_l_take hr (by rfl) T.g_l_take T.F_l_take.kp T.b_l_take .nil pass0 (pa_cons (pv 0) (pa_cons (pv 2) pa_nil))) (fun _ _ => rfl)) pa_nil)))))
    (pss_one (ps_ret (pe_tup (pa_cons (pe_callTy (r := rTupF K) call_tuple_ofF (by rfl) T.z_tuple (by decide +kernel) (pa_cons (pv 3) pa_nil)) (pa_cons (pe_callTy (r := rTupF K) call_tuple_ofF (by rfl) T.z_tuple (by decide +kernel) (pa_cons (pv 10) pa_nil)) (pa_cons (pe_callTy (r := rTupF K) call_tuple_ofF (by rfl) T.z_tuple (by decide +kernel) (pa_cons (pv 5) pa_nil)) (pa_cons (pe_tup pa_nil) pa_nil))))))))))))))
      , ?_⟩
    refine ⟨.ref p, rfl, p, 3, rfl, b, by decide, by decide, fun H1 shp k1 b1 _ _ => ?_⟩
    refine ⟨by decide, fun t nt => ?_⟩
    have ntp : t ≠ p := b1.ne nt
    refine ⟨.ref p, rfl, p, 8, rfl, b1.keep (same_upd nt), by decide, by decide, fun H2 d k2 b2 d0 d1 => ?_⟩
    obtain ⟨m0, hm0, em0⟩ := pick (ms := [8, 3, 5, 2, 4, 6, 7, 1]) d0 d1
    refine ⟨t, _, d, _, rfl, rfl, SqT.of (k2 _ _ ntp upd_same), em0, ?_⟩
    have k2 : Keep p H H2 := k1.trans ((Keep.of (same_upd nt)).trans k2)
    obtain ⟨n, rfl, n1, n8⟩ : ∃ n : Nat, m0 = (n : Int) ∧ 1 ≤ n ∧ n ≤ 8 := by
      simp only [List.mem_cons, List.not_mem_nil, or_false] at hm0
      exact ⟨m0.toNat, by omega, by omega, by omega⟩
    refine ⟨.ref p, rfl, .int n, rfl, p, n, rfl, b2, by omega, fun H3 ln ls k3 b3 nln eln hl lnd lnm => ?_⟩
    have nlp : ln ≠ p := b2.ne nln
    have nlnH : H ln = none := k2.free b nln b2
    refine ⟨.ref p, rfl, p, 14, rfl, b3, by decide, fun H4 pl zs k4 b4 npl epl hzl znd znm => ?_⟩
    have nplp : pl ≠ p := b3.ne npl
    have eln4 := k4 _ _ nlp eln
    have k4' : Keep p H H4 := k2.trans (k3.trans k4)
    refine ⟨Nat.zero_le _, fun J nJ => ?_⟩
    have nJp : J ≠ p := b4.ne nJ
    have nJH : H J = none := k4'.free b nJ b4
    have lnJ : ln ≠ J := ne_of_none eln4 nJ
    have plJ : pl ≠ J := ne_of_none epl nJ
    have b5 := b4.keep (same_upd (o := .lst []) nJ)
    have k5 : Keep p H4 (upd H4 J (.lst [])) := .of (same_upd nJ)
    have eJ5 : (upd H4 J (.lst [])) J = some (.lst []) := upd_same
    generalize upd H4 J (.lst []) = H5 at b5 k5 eJ5 ⊢
    refine ⟨.ref p, rfl, p, 13, rfl, b5, by decide, by decide, fun H6 d6 k6 b6 d60 d61 => ?_⟩
    refine ⟨by show 3 ≤ sizeLine; decide, fun t6 nt6 => ?_⟩
    have nt6p : t6 ≠ p := b6.ne nt6
    refine ⟨.ref p, rfl, p, 3, rfl, b6.keep (same_upd nt6), by decide, by decide, fun H7 d7 k7 b7 d70 d71 => ?_⟩
    obtain ⟨m1, hm1, em1⟩ := pick (ms := [12, 7, d6]) d70 d71
    refine ⟨t6, _, d7, _, rfl, rfl, SqT.of (k7 _ _ nt6p upd_same), em1, ?_⟩
    have hm : 0 ≤ m1 ∧ m1 ≤ 12 := by
      simp only [List.mem_cons, List.not_mem_nil, or_false] at hm1
      omega
    refine ⟨.int n, rfl, n, 1, rfl, rfl, .inr ⟨_, rfl, m1, _, rfl, rfl, .inl ⟨by omega, by omega⟩, ?_⟩⟩
    obtain ⟨M, eM, M12, M2⟩ : ∃ M : Nat, m1 * (if decide ((1 : Int) < (n : Int)) then 1 else 0) = (M : Int) ∧ M ≤ 12 ∧ (0 < M → 2 ≤ n) := by
      by_cases c : (1 : Int) < n
      · rw [if_pos (decide_eq_true c)]
        exact ⟨m1.toNat, by omega, by omega, fun _ => by omega⟩
      · rw [if_neg (fun z => c (of_decide_eq_true z))]
        exact ⟨0, by omega, by omega, fun z => absurd z (Nat.lt_irrefl _)⟩
    refine ⟨(M : Int), congrArg (fun z => [V.int z]) eM, by omega, by omega, ?_⟩
    rw [Int.toNat_natCast]
    have k7' : Keep p H4 H7 := k5.trans (k6.trans ((Keep.of (same_upd nt6)).trans k7))
    have atl : ∀ {d : Nat}, d < n → ∃ z ∈ ls, ls[d]? = some z ∧ atI (ls.map nS) (d : Int) = some (nS z) := fun {d} h => by
      have h' : d < ls.length := by omega
      exact ⟨ls[d], List.getElem_mem h', List.getElem?_eq_getElem h', atI_nat (by rw [List.getElem?_map, List.getElem?_eq_getElem h']; rfl)⟩
    refine for_range (lo := 0) (n := M) (fun i σ H8 => ∃ (y6 y7 y8 y9 : Option V) (ja : List Addr) (jns : List (Nm × List Nm)), σ = [some (.ref p), some (.int shp), some (.int n), some (.ref ln), some (.ref pl), some (.ref J), y6, y7, y8, y9, none, none] ∧ Keep p H H8 ∧ Bag H8 p ∧ H8 ln = some (.lst (ls.map nS)) ∧ H8 pl = some (.lst (zs.map nS)) ∧ H8 J = some (.lst (ja.map V.ref)) ∧ Paired (JnT H8) ja jns ∧ jns.length = i ∧ jns.map (·.1) = zs.take i ∧ (∀ j ∈ jns, j.2.Sublist ls ∧ 2 ≤ j.2.length))
      ⟨none, none, none, none, [], [], rfl, k4'.trans k7', b7, k7' _ _ nlp eln4, k7' _ _ nplp epl, k7.trans (.refl _ _) _ _ nJp (same_upd nt6 _ _ (k6 _ _ nJp eJ5)), .nil, rfl, rfl, fun j hj => (by cases hj)⟩ (fun i σ H8 hi hp => ?_) (fun σ H8 hp => ?_)
    · obtain ⟨y6, y7, y8, y9, ja, jns, rfl, k8, b8, eln8, epl8, eJ8, hJ8, jl, jz, hjs⟩ := hp
      have n2 := M2 (by omega)
      -- at, two
      refine ⟨.ref p, rfl, .int n, rfl, p, n, rfl, b8, by omega, by omega, fun H9 a9 k9 b9 a90 a91 => ?_⟩
      obtain ⟨a9, rfl⟩ : ∃ xn : Nat, a9 = (xn : Int) := ⟨a9.toNat, by omega⟩
      obtain ⟨z1, hz1, gz1, az1⟩ := atl (d := a9) (by omega)
      refine ⟨.ref ln, rfl, .int (a9 : Nat), rfl, ln, _, _, _, rfl, rfl, SqL.of (k9 _ _ nlp eln8), az1, ?_⟩
      refine ⟨.ref ln, rfl, .int (a9 : Nat), rfl, _, 1, rfl, rfl, .ref p, rfl, .int n, rfl, _, 1, rfl, rfl, p, (n : Int) - 1, rfl, b9, by omega, by omega, fun H10 a10 k10 b10 a100 a101 => ?_⟩
      obtain ⟨a10, rfl⟩ : ∃ xn : Nat, a10 = (xn : Int) := ⟨a10.toNat, by omega⟩
      have hmod : ((a9 : Int) + 1 + (a10 : Int)) % (n : Int) = (((a9 + 1 + a10) % n : Nat) : Int) := by
        rw [Int.natCast_emod]
        rfl
      obtain ⟨z2, hz2, gz2, az2⟩ := atl (d := (a9 + 1 + a10) % n) (Nat.mod_lt _ (by omega))
      refine ⟨_, _, rfl, rfl, .int n, rfl, _, n, rfl, rfl, by omega, ln, _, _, _, rfl, rfl, SqL.of (k10 _ _ nlp (k9 _ _ nlp eln8)), by rw [hmod]; exact az2, two_sz, fun tw ntw => ?_⟩
      have z12 : z1 ≠ z2 := fun e => by
        rw [← e] at gz2
        have := nodup_inj lnd gz1 gz2
        have h3 : (a9 + 1 + a10) % n = a9 := this.symm
        by_cases c : a9 + 1 + a10 < n
        · rw [Nat.mod_eq_of_lt c] at h3
          omega
        · rw [Nat.mod_eq_sub_mod (by omega), Nat.mod_eq_of_lt (by omega)] at h3
          omega
      have k10' : Keep p H8 H10 := k9.trans k10
      -- two, otherwise
      refine ⟨fun σ H11 => ∃ (tw : Addr) (z1 z2 : Nm), σ = [some (.ref p), some (.int shp), some (.int n), some (.ref ln), some (.ref pl), some (.ref J), some (.int (0 + (i : Int))), some (.int (a9 : Nat)), some (.ref tw), y9, none, none] ∧ Keep p H8 H11 ∧ Bag H11 p ∧ H11 tw = some (.tup [nS z1, nS z2]) ∧ z1 ∈ ls ∧ z2 ∈ ls ∧ z1 ≠ z2, ?_, fun σ H11 mid => ?_⟩
      · have kt := k10'.trans (.of (same_upd (o := .tup [nS z1, nS z2]) ntw))
        have bt := b10.keep (same_upd (o := .tup [nS z1, nS z2]) ntw)
        have et : (upd H10 tw (.tup [nS z1, nS z2])) tw = some (.tup [nS z1, nS z2]) := upd_same
        generalize upd H10 tw (.tup [nS z1, nS z2]) = Ht at kt bt et ⊢
        refine ⟨.int shp, rfl, rfl, _, rfl, ite2 (fun c => ?_) (fun c => ⟨tw, z1, z2, rfl, kt, bt, et, hz1, hz2, z12⟩)⟩
        refine ⟨.int (0 + (i : Int)), rfl, .int n, rfl, _, 1, rfl, rfl, _, _, rfl, rfl, _, rfl, ite2 (fun c => ?_) (fun c => ⟨tw, z1, z2, rfl, kt, bt, et, hz1, hz2, z12⟩)⟩
        have c : i + 1 < n := by
          have c := of_decide_eq_true c
          omega
        obtain ⟨u1, hu1, gu1, au1⟩ := atl (d := i) (by omega)
        obtain ⟨u2, hu2, gu2, au2⟩ := atl (d := i + 1) (by omega)
        refine ⟨.ref ln, rfl, .int (0 + (i : Int)), rfl, ln, _, _, _, rfl, rfl, SqL.of (kt _ _ nlp eln8), by rw [Int.zero_add]; exact au1, .ref ln, rfl, .int (0 + (i : Int)), rfl, _, 1, rfl, rfl, ln, _, _, _, rfl, rfl, SqL.of (kt _ _ nlp eln8), by rw [show 0 + (i : Int) + 1 = ((i + 1 : Nat) : Int) by omega]; exact au2, two_sz, fun tv ntv => ?_⟩
        exact ⟨tv, u1, u2, rfl, kt.trans (.of (same_upd ntv)), bt.keep (same_upd ntv), upd_same, hu1, hu2, fun e => by
          rw [← e] at gu2
          have := nodup_inj lnd gu1 gu2
          omega⟩
      clear z12 hz1 gz1 az1 hz2 gz2 az2
      clear z1 z2
      obtain ⟨tw, z1, z2, rfl, k11, b11, etw, hz1, hz2, z12⟩ := mid
      have twp : tw ≠ p := fun z => by
        obtain ⟨g, r, e, _⟩ := b11
        rw [z, e] at etw
        cases etw
      -- some
      refine ⟨.ref ln, rfl, ln, rfl, ⟨_, SqL.of (k11 _ _ nlp eln8)⟩, fun D nD => ?_⟩
      have nDp : D ≠ p := b11.ne nD
      refine lc_it (walk_list (xs := ls.map nS)) (fun j H12 => Keep p H11 H12 ∧ Bag H12 p ∧ ∃ os : List Nm, H12 D = some (.lst (os.map nS)) ∧ os.length ≤ j ∧ os.Sublist (ls.take j) ∧ ∀ z ∈ ls.take j, (z = z1 ∨ z = z2) → z ∈ os) ⟨.of (same_upd nD), b11.keep (same_upd nD), [], upd_same, Nat.le_refl _, List.nil_sublist _, fun z hz => (by cases hz)⟩ (fun j H12 _ pv => SqL.of (pv.1 _ _ nlp (k11 _ _ nlp eln8))) (fun j v H12₀ H12 hj pv yy => ?_) (fun H12 pv => ?_)
      · obtain ⟨rfl, ex⟩ := yy
        obtain ⟨k12, b12, os, eD, ol, hsub, hin⟩ := pv
        have hz' : ∃ z, ls[j]? = some z ∧ v = nS z := by
          rw [List.getElem?_map] at ex
          cases c : ls[j]? with
          | none => rw [c] at ex; cases ex
          | some t => rw [c] at ex; exact ⟨t, rfl, (Option.some.inj ex).symm⟩
        obtain ⟨z, ez, rfl⟩ := hz'
        have tk1 : ls.take (j + 1) = ls.take j ++ [z] := by rw [List.take_add_one, ez]; rfl
        rw [List.length_map] at hj
        have take_it : ∀ H13, Keep p H11 H13 → Bag H13 p → H13 D = some (.lst (os.map nS)) → ∃ acc, H13 D = some (.lst acc) ∧ acc.length < sizeLine ∧ (Keep p H11 (upd H13 D (.lst (acc ++ [nS z]))) ∧ Bag (upd H13 D (.lst (acc ++ [nS z]))) p ∧ ∃ os : List Nm, (upd H13 D (.lst (acc ++ [nS z]))) D = some (.lst (os.map nS)) ∧ os.length ≤ j + 1 ∧ os.Sublist (ls.take (j + 1)) ∧ ∀ z ∈ ls.take (j + 1), (z = z1 ∨ z = z2) → z ∈ os) := fun H13 k13 b13 e13 => by
          refine ⟨_, e13, small5000 (by rw [List.length_map]; omega), k13.set nD, b13.at (upd_ne nDp.symm), os ++ [z], by rw [upd_same, List.map_append]; rfl, by rw [List.length_append, List.length_singleton]; omega, by rw [tk1]; exact hsub.append (List.Sublist.refl _), fun y hy hc => ?_⟩
          rw [tk1] at hy
          rcases List.mem_append.mp hy with h | h
          · exact List.mem_append_left _ (hin y h hc)
          · exact List.mem_append_right _ h
        have leave_it : ∀ H13, Keep p H11 H13 → Bag H13 p → H13 D = some (.lst (os.map nS)) → ¬ (z = z1 ∨ z = z2) → (Keep p H11 H13 ∧ Bag H13 p ∧ ∃ os : List Nm, H13 D = some (.lst (os.map nS)) ∧ os.length ≤ j + 1 ∧ os.Sublist (ls.take (j + 1)) ∧ ∀ z ∈ ls.take (j + 1), (z = z1 ∨ z = z2) → z ∈ os) := fun H13 k13 b13 e13 nz => by
          refine ⟨k13, b13, os, e13, by omega, by rw [tk1]; exact hsub.trans (List.sublist_append_left _ _), fun y hy hc => ?_⟩
          rw [tk1] at hy
          rcases List.mem_append.mp hy with h | h
          · exact hin y h hc
          · rw [List.mem_singleton.mp h] at hc
            exact absurd hc nz
        refine ⟨rfl, nS z, rfl, .ref tw, rfl, tw, _, rfl, .inr (SqT.of (k12 _ _ twp etw)), rfl, rfl, _, rfl, ite2 (fun c => ?_) (fun c => ?_)⟩
        · exact ⟨nS z, rfl, take_it _ k12 b12 eD⟩
        · have nz : ¬ (z = z1 ∨ z = z2) := fun h => c (by
            show inV (nS z) [nS z1, nS z2] = true
            rw [in_two, decide_eq_true h])
          refine ⟨.int shp, rfl, rfl, _, rfl, ite2 (fun c2 => ?_) (fun c2 => leave_it _ k12 b12 eD nz)⟩
          refine ⟨.ref p, rfl, p, 6, rfl, b12, by decide, by decide, fun H13 d13 k13 b13 _ _ => ⟨rfl, _, rfl, ite2 (fun c3 => ?_) (fun c3 => leave_it _ (k12.trans k13) b13 (k13 _ _ nDp eD) nz)⟩⟩
          exact ⟨nS z, rfl, take_it _ (k12.trans k13) b13 (k13 _ _ nDp eD)⟩
      obtain ⟨k12, b12, os, eD, ol, hsub, hin⟩ := pv
      rw [List.length_map, List.take_length] at hsub hin
      rw [List.length_map] at ol
      have os2 : 2 ≤ os.length := two_len (hin z1 hz1 (.inl rfl)) (hin z2 hz2 (.inr rfl)) z12
      have k12' : Keep p H8 H12 := k11.trans k12
      -- junctions.append((places[k], tuple(some)))
      have hzi : i < zs.length := by omega
      have gzi : (zs.map nS)[i]? = some (nS zs[i]) := by rw [List.getElem?_map, List.getElem?_eq_getElem hzi]; rfl
      refine ⟨.ref J, rfl, .inl ⟨rfl, _, SqL.of (k12' _ _ nJp eJ8)⟩, .ref pl, rfl, .int (0 + (i : Int)), rfl, pl, _, _, _, rfl, rfl, SqL.of (k12' _ _ nplp epl8), by rw [Int.zero_add]; exact atI_nat gzi, ?_⟩
      refine ⟨.ref D, rfl, D, _, rfl, SqL.of eD, fun so H13 nso s13 tso _ => ⟨two_sz, fun u nu => ?_⟩⟩
      have su := same_upd (o := .tup [nS zs[i], .ref so]) nu
      have eu : (upd H13 u (.tup [nS zs[i], .ref so])) u = some (.tup [nS zs[i], .ref so]) := upd_same
      have tsu := tso.same su
      have k14 : Keep p H8 _ := k12'.trans (.of (s13.trans su))
      have b14 := b12.keep (s13.trans su)
      generalize upd H13 u (.tup [nS zs[i], .ref so]) = H14 at su eu tsu k14 b14 ⊢
      have eJ14 := k14 _ _ nJp eJ8
      refine ⟨J, _, _, rfl, rfl, eJ14, small5000 (by rw [List.length_map, paired_len hJ8]; omega), ?_⟩
      refine ⟨_, _, _, _, ja ++ [u], jns ++ [(zs[i], os)], rfl, (k8.trans k14).set nJH, b14.at (upd_ne nJp.symm), by rw [upd_ne lnJ]; exact k14 _ _ nlp eln8, by rw [upd_ne plJ]; exact k14 _ _ nplp epl8, by rw [upd_same, List.map_append]; rfl, paired_snoc (paired_imp hJ8 fun x _ j h => (h.keep k14 b8).upd eJ14) (JnT.upd ⟨so, eu, tsu⟩ eJ14), by rw [List.length_append, jl]; rfl, ?_, fun j hj => ?_⟩
      · rw [List.map_append, jz, List.take_add_one, List.getElem?_eq_getElem hzi]
        rfl
      · rcases List.mem_append.mp hj with h | h
        · exact hjs j h
        · rw [List.mem_singleton.mp h]
          exact ⟨hsub, os2⟩
    · obtain ⟨y6, y7, y8, y9, ja, jns, rfl, k8, b8, eln8, epl8, eJ8, hJ8, jl, jz, hjs⟩ := hp
      -- stations
      refine ⟨.ref p, rfl, p, 3, rfl, b8, by decide, by decide, fun H9 d9 k9 b9 d90 d91 => ?_⟩
      obtain ⟨d9, rfl⟩ : ∃ xn : Nat, d9 = (xn : Int) := ⟨d9.toNat, by omega⟩
      refine ⟨d9, rfl, by omega, by omega, fun D nD => ?_⟩
      have nDp : D ≠ p := b9.ne nD
      rw [Int.toNat_natCast]
      refine lc_it walk_range (fun j H10 => Keep p H9 H10 ∧ Bag H10 p ∧ ∃ sa : List Addr, H10 D = some (.lst (sa.map V.ref)) ∧ sa.length ≤ j) ⟨.of (same_upd nD), b9.keep (same_upd nD), [], upd_same, Nat.le_refl _⟩ (fun _ _ _ _ => trivial) (fun j x H10 H11 hj pv y => ?_) (fun H10 pv => ?_)
      · obtain ⟨rfl, rfl⟩ := y
        obtain ⟨k10, b10, sa, eD, sl⟩ := pv
        have hzi : 12 + j < zs.length := by omega
        have gzi : (zs.map nS)[12 + j]? = some (nS zs[12 + j]) := by rw [List.getElem?_map, List.getElem?_eq_getElem hzi]; rfl
        refine ⟨rfl, yes_ ?_⟩
        refine ⟨.ref pl, rfl, .int (0 + (j : Int)), rfl, 12, _, rfl, rfl, pl, _, _, _, rfl, rfl, SqL.of (k10 _ _ nplp (k9 _ _ nplp epl8)), by rw [show 12 + (0 + (j : Int)) = ((12 + j : Nat) : Int) by omega]; exact atI_nat gzi, ?_⟩
        refine ⟨.ref ln, rfl, .ref p, rfl, .int n, rfl, p, n, rfl, b10, by omega, by omega, fun H12 e12 k12 b12 e120 e121 => ?_⟩
        obtain ⟨e12, rfl⟩ : ∃ xn : Nat, e12 = (xn : Int) := ⟨e12.toNat, by omega⟩
        obtain ⟨z1, hz1, gz1, az1⟩ := atl (d := e12) (by omega)
        refine ⟨ln, _, _, _, rfl, rfl, SqL.of (k12 _ _ nlp (k10 _ _ nlp (k9 _ _ nlp eln8))), az1, two_sz, fun u nu => ?_⟩
        exact ⟨_, same_upd nu _ _ (k12 _ _ nDp eD), small5000 (by rw [List.length_map]; omega), (k10.trans (k12.trans (.of (same_upd nu)))).set nD, (b12.keep (same_upd nu)).at (upd_ne nDp.symm), sa ++ [u], by rw [upd_same, List.map_append]; rfl, by rw [List.length_append, List.length_singleton]; omega⟩
      obtain ⟨k10, b10, sa, eD, sl⟩ := pv
      have k10' : Keep p H8 H10 := k9.trans k10
      have eln10 := k10' _ _ nlp eln8
      have eJ10 := k10' _ _ nJp eJ8
      refine ⟨.ref ln, rfl, ln, _, rfl, SqL.of eln10, fun ta H11 nta s11 tta _ => ?_⟩
      refine ⟨.ref D, rfl, D, _, rfl, SqL.of (s11 _ _ eD), fun tb H12 ntb s12 ttb _ => ?_⟩
      refine ⟨.ref J, rfl, J, _, rfl, SqL.of (s12 _ _ (s11 _ _ eJ10)), fun tc H13 ntc s13 ttc _ => ?_⟩
      refine ⟨Nat.zero_le _, fun td ntd => ⟨four_sz, fun r nr => ?_⟩⟩
      have s14 := (same_upd (o := .tup []) ntd).trans (same_upd (o := .tup [.ref ta, .ref tb, .ref tc, .ref td]) nr)
      have s15 := s11.trans (s12.trans (s13.trans s14))
      refine q _ r ls jns (k8.trans (k10'.trans (.of s15))) (b10.keep s15) ⟨ta, tc, .ref tb, .ref td, ja, upd_same, tta.same (s12.trans (s13.trans s14)), ttc.same s14, paired_imp hJ8 fun x _ j h => (h.keep k10' b8).same s15⟩ ⟨by omega, by omega, lnd, lnm, by omega, ?_, fun j hj => ?_, fun j hj => (hjs j hj).1, fun j hj => (hjs j hj).2⟩
      · rw [jz]
        exact List.Sublist.nodup (List.take_sublist _ _) znd
      · refine znm _ (List.mem_of_mem_take (i := M) ?_)
        rw [← jz]
        exact List.mem_map_of_mem (f := Prod.fst) hj
end
end Th
namespace Th
open PySem PySem.Spec PyProof.Rows L2
/-! the program's roads of lines -/
def Adj (jns : List (Nm × List Nm)) (x y : Nm) : Prop := ∃ j ∈ jns, x ∈ j.2 ∧ y ∈ j.2
theorem Adj.symm {jns : List (Nm × List Nm)} {x y : Nm} (h : Adj jns x y) : Adj jns y x := let ⟨j, hj, a, b⟩ := h; ⟨j, hj, b, a⟩
theorem adj_snoc {jns : List (Nm × List Nm)} {j : Nm × List Nm} {x y : Nm} : Adj (jns ++ [j]) x y ↔ Adj jns x y ∨ (x ∈ j.2 ∧ y ∈ j.2) := by
  constructor
  · rintro ⟨i, hi, h⟩
    rcases List.mem_append.mp hi with z | z
    · exact .inl ⟨i, z, h⟩
    · rw [List.mem_singleton.mp z] at h
      exact .inr h
  · rintro (⟨i, hi, h⟩ | h)
    · exact ⟨i, List.mem_append_left _ hi, h⟩
    · exact ⟨j, List.mem_append_right _ (List.mem_singleton.mpr rfl), h⟩
theorem sqs {K : PySem.W.Frag} {H H' : Hp} {a : Addr} {xs : List V} (s : Same H H') (h : SqT K H a xs) : SqT K H' a xs := by
  rcases h with (h | ⟨o, h⟩) | h
  · exact .inl (.inl (s _ _ h))
  · exact .inl (.inr ⟨o, s _ _ h⟩)
  · exact .inr h
/-- tuples stay -/
def TQ (K : PySem.W.Frag) (H H' : Hp) : Prop := ∀ a xs, SqT K H a xs → SqT K H' a xs
theorem TQ.of {K : PySem.W.Frag} {H H' : Hp} (s : Same H H') : TQ K H H' := fun _ _ h => sqs s h
theorem TQ.trans {K : PySem.W.Frag} {H H1 H2 : Hp} (a : TQ K H H1) (b : TQ K H1 H2) : TQ K H H2 := fun c xs h => b c xs (a c xs h)
theorem TQ.keep {K : PySem.W.Frag} {p : Addr} {H H' : Hp} (k : Keep p H H') (b : Bag H p) : TQ K H H' := fun a xs h => by
  obtain ⟨g, r, e', _⟩ := b
  rcases h with (h | ⟨o, h⟩) | h
  · exact .inl (.inl (k _ _ (fun z => by rw [z, e'] at h; cases h) h))
  · exact .inl (.inr ⟨o, k _ _ (fun z => by rw [z, e'] at h; cases h) h⟩)
  · exact .inr h
theorem TQ.upd {K : PySem.W.Frag} {c : Addr} {H : Hp} {o : HO} {xs : List V} (h : H c = some (.lst xs)) : TQ K H (L2.upd H c o) := fun a ys e => by
  rcases e with (e | ⟨ob, e⟩) | e
  · exact .inl (.inl (by rw [upd_ne (fun z => by rw [z, h] at e; cases e)]; exact e))
  · exact .inl (.inr ⟨ob, by rw [upd_ne (fun z => by rw [z, h] at e; cases e)]; exact e⟩)
  · exact .inr e
def JnQ (K : PySem.W.Frag) (H : Hp) (a : Addr) (jn : Nm × List Nm) : Prop := ∃ b, SqT K H a [nS jn.1, .ref b] ∧ SqT K H b (jn.2.map nS)
/-- the net as far as lines and junctions go -/
def LJ (K : PySem.W.Frag) (H : Hp) (r : Addr) (ls : List Nm) (jns : List (Nm × List Nm)) : Prop := ∃ (a c : Addr) (b d : V) (ja : List Addr), SqT K H r [.ref a, b, .ref c, d] ∧ SqT K H a (ls.map nS) ∧ SqT K H c (ja.map V.ref) ∧ Paired (JnQ K H) ja jns
theorem LJ.tk {K : PySem.W.Frag} {H H' : Hp} {r : Addr} {ls : List Nm} {jns : List (Nm × List Nm)} (h : LJ K H r ls jns) (k : TQ K H H') : LJ K H' r ls jns := by
  obtain ⟨a, c, b, d, ja, h1, h2, h3, h4⟩ := h
  exact ⟨a, c, b, d, ja, k _ _ h1, k _ _ h2, k _ _ h3, paired_imp h4 fun x _ j ⟨t, e1, e2⟩ => ⟨t, k _ _ e1, k _ _ e2⟩⟩
structure LJok (ls : List Nm) (jns : List (Nm × List Nm)) : Prop where
  l8 : ls.length ≤ 8
  lnd : ls.Nodup
  sub : ∀ j ∈ jns, ∀ y ∈ j.2, y ∈ ls
  j9 : ∀ j ∈ jns, j.2.length ≤ 8
  jnd : ∀ j ∈ jns, j.2.Nodup
theorem LJok.adj {ls : List Nm} {jns : List (Nm × List Nm)} (h : LJok ls jns) {x y : Nm} (a : Adj jns x y) : y ∈ ls := let ⟨j, hj, _, b⟩ := a; h.sub j hj y b
theorem nd_len {α : Type} [DecidableEq α] : ∀ {l d : List α}, l.Nodup → (∀ x ∈ l, x ∈ d) → l.length ≤ d.length
  | [], _, _, _ => Nat.zero_le _
  | x :: l, d, h, s => by
    obtain ⟨h1, h2⟩ := List.nodup_cons.mp h
    have z := nd_len (l := l) (d := d.erase x) h2 fun y hy => (List.mem_erase_of_ne (fun e => h1 (by rw [← e]; exact hy))).mpr (s y (List.mem_cons_of_mem _ hy))
    have m := s x List.mem_cons_self
    rw [List.length_erase_of_mem m] at z
    have := List.length_pos_of_mem m
    rw [List.length_cons]
    omega
def addN (L : List Nm) (k : Nm) : List Nm := if k ∈ L then L else k :: L
theorem mem_addN {L : List Nm} {k x : Nm} : x ∈ addN L k ↔ x = k ∨ x ∈ L := by
  unfold addN
  split
  · exact ⟨.inr, fun z => z.elim (fun e => by rw [e]; assumption) id⟩
  · exact List.mem_cons
theorem nd_addN {L : List Nm} {k : Nm} (h : L.Nodup) : (addN L k).Nodup := by
  unfold addN
  split
  · exact h
  · exact List.nodup_cons.mpr ⟨by assumption, h⟩
theorem memS {L : List Nm} {k : Nm} : SX.S k ∈ L.map SX.S ↔ k ∈ L := ⟨fun z => let ⟨y, hy, e⟩ := List.mem_map.mp z; (SX.S_inj e) ▸ hy, fun z => List.mem_map_of_mem z⟩
theorem addL_S (L : List Nm) (k : Nm) : Ss.addL (L.map SX.S) (SX.S k) = (addN L k).map SX.S := by
  unfold Ss.addL addN
  by_cases c : k ∈ L
  · rw [if_pos (memS.mpr c), if_pos c]
  · rw [if_neg (fun z => c (memS.mp z)), if_neg c, List.map_cons]
theorem perm_S {ys : List Str} {L : List Nm} (h : ys.Perm (L.map SX.S)) : ∃ zs : List Nm, ys = zs.map SX.S ∧ zs.Perm L := by
  refine ⟨ys.map fun y => y.cps.toList, ?_, ?_⟩
  · rw [List.map_map]
    exact (List.map_id'' (fun y => rfl) ys).symm
  · have z := h.map fun y => y.cps.toList
    rw [List.map_map] at z
    rwa [show (L.map ((fun y : Str => y.cps.toList) ∘ SX.S)) = L from List.map_id'' (fun y => rfl) L] at z
theorem map_nS (zs : List Nm) : (zs.map SX.S).map V.str = zs.map nS := by rw [List.map_map]; rfl
theorem in_nms {x : Nm} {zs : List Nm} : inV (nS x) (zs.map nS) = decide (x ∈ zs) := by
  unfold inV
  rw [List.any_map]
  by_cases h : x ∈ zs
  · rw [decide_eq_true h]
    exact List.any_eq_true.mpr ⟨x, h, by show (SX.S x == SX.S x) = true; simp⟩
  · rw [decide_eq_false h]
    refine List.any_eq_false.mpr fun y hy z => h ?_
    have z : (SX.S y == SX.S x) = true := z
    rw [← SX.S_inj (eq_of_beq z)]
    exact hy
theorem flat_nms (zs : List Nm) : (zs.map nS).all flatV = true := List.all_eq_true.mpr fun x hx => by
  obtain ⟨j, _, rfl⟩ := List.mem_map.mp hx
  rfl
theorem at_ref {ts : List Addr} {i : Nat} {x : V} (h : (ts.map V.ref)[i]? = some x) : ∃ u, ts[i]? = some u ∧ x = .ref u := by
  rw [List.getElem?_map] at h
  cases c : ts[i]? with
  | none => rw [c] at h; cases h
  | some t => rw [c] at h; exact ⟨t, rfl, (Option.some.inj h).symm⟩
theorem at_nm {zs : List Nm} {i : Nat} {x : V} (h : (zs.map nS)[i]? = some x) : ∃ z, zs[i]? = some z ∧ x = nS z := by
  rw [List.getElem?_map] at h
  cases c : zs[i]? with
  | none => rw [c] at h; cases h
  | some t => rw [c] at h; exact ⟨t, rfl, (Option.some.inj h).symm⟩
section
variable {P : Program} {w : World} {K : PySem.W.Frag} {mg : Str → Option Value} {base : Heap} {k : Nat}
def sp_lines_joined (K : PySem.W.Frag) : Sp := fun vs H Q _ => ∃ (r : Addr) (x : Nm) (ls : List Nm) (jns : List (Nm × List Nm)), vs = [.ref r, nS x] ∧ LJ K H r ls jns ∧ LJok ls jns ∧
  ∀ H' p (ys : List Nm), Same H H' → H p = none → H' p = some (.lst (ys.map nS)) → ys.Nodup → (∀ y, y ∈ ys ↔ Adj jns x y) → Q (.ref p) H'
set_option maxHeartbeats 8000000 in
theorem ok_lines_joined (T : Defs K mg) : FnOk P w K mg base CX0 (k + 1) T.a_lines_joined T.d_lines_joined ["net", "line"] (sp_lines_joined K) := by
  refine T.F_lines_joined.ok sc_lines_joined (fun vs H Q E h => ?_) (fun cdv A outer s H vs Q E hr h => ?_)
  · obtain ⟨r, x, ls, jns, rfl, _⟩ := h
    rfl
  · obtain ⟨r, x, ls, jns, rfl, hnet, hok, q⟩ := h
    refine ⟨_, PSs.nox
(pss_one (ps_ret (pe_callB (Ss.cr_sortS rfl) (by rfl) T.z_sorted (by decide +kernel) (pa_cons (Ss.pe_sc2 (own := [("name", 2), ("joined", 3), ("beside", 4)]) (vs1 := [4]) (g := gTup K 2 (gCons (gName 2) (gCons (gName 3) gNil))) (g1 := gName 4) (wi1 := iTup K _) rfl sc_lines_joined.nd (pi_tup (pe_ix (r := rIxT K) ix_tup (pv 0) (pe_int) (fun _ _ => rfl))) (blkOk_by (N := N_lines_joined) (sc := defScope s_lines_joined) (by decide +kernel)) (by decide) (fun _ _ _ _ _ => (pg_tup rfl (pgs_cons (pg_name (i := 2) sc_lines_joined.nd rfl (.inl rfl)) (pgs_cons (pg_name (i := 3) sc_lines_joined.nd rfl (.inl rfl)) pgs_nil)))) (fun _ _ _ _ _ => pts_one (pt_cmpR (r := rIn K false) op_in_seq (pv 1) (pv 3) (by rfl))) (fun _ _ _ _ _ => (pi_tup (pv 3))) (fun _ _ _ _ _ => (pg_name (i := 4) sc_lines_joined.nd rfl (.inl rfl))) (fun _ _ _ _ _ => pts_nil) (fun _ _ _ _ _ => (pv 4))) pa_nil))))
      , ?_⟩
    obtain ⟨a, c, b, d, ja, er, ea, ec, hJ⟩ := id hnet
    have jl := paired_len hJ
    refine ⟨.ref r, rfl, r, [.ref a, b, .ref c, d], 2, .ref c, rfl, rfl, er, atI_nat (j := 2) rfl, c, rfl, ⟨_, ec⟩, fun D nD => ?_⟩
    have sub : ∀ {i : Nat} {L : List Nm}, (∀ y, y ∈ L → Adj (jns.take i) x y ∨ y ∈ ls) → ∀ y ∈ L, y ∈ ls := fun h y hy => (h y hy).elim (fun ⟨j, hj, _, hb⟩ => hok.sub j (List.mem_of_mem_take hj) y hb) id
    refine Ss.sc2_it (walk_tup (xs := ja.map V.ref)) (fun i H3 => Same H H3 ∧ ∃ L : List Nm, H3 D = some (Ss.SetSO w D (L.map SX.S)) ∧ L.Nodup ∧ ∀ y, y ∈ L ↔ Adj (jns.take i) x y) ⟨same_upd nD, [], upd_same, .nil, fun y => ⟨fun z => (by cases z), fun ⟨j, hj, _⟩ => (by cases hj)⟩⟩ (fun i H3 _ pv => (sqs pv.1 ec)) (fun i v H3₀ H3 hi pv yy => ?_) (fun H3 pv => ?_)
    · obtain ⟨rfl, ex⟩ := yy
      obtain ⟨s3, L, eD, hnd, hm⟩ := pv
      obtain ⟨u, eu, rfl⟩ := at_ref ex
      obtain ⟨jn, ejn, jt, hu, hjt⟩ := paired_get hJ eu
      have jin : jn ∈ jns := List.mem_of_getElem? ejn
      have tk1 : jns.take (i + 1) = jns.take i ++ [jn] := by rw [List.take_add_one, ejn]; rfl
      refine ⟨u, _, rfl, (sqs s3 hu), rfl, _, _, rfl, _, [], rfl, rfl, rfl, ?_⟩
      refine ⟨nS x, rfl, .ref jt, rfl, jt, _, rfl, .inr ((sqs s3 hjt)), rfl, flat_nms _, _, rfl, ite2 (fun c => ?_) (fun c => ?_)⟩
      · have c : x ∈ jn.2 := by
          rw [in_nms] at c
          exact of_decide_eq_true c
        refine ⟨.ref jt, rfl, jt, rfl, ⟨_, (sqs s3 hjt)⟩, ?_⟩
        refine Ss.in2_it (walk_tup (xs := jn.2.map nS)) (fun j H4 => Same H H4 ∧ ∃ L : List Nm, H4 D = some (Ss.SetSO w D (L.map SX.S)) ∧ L.Nodup ∧ ∀ y, y ∈ L ↔ Adj (jns.take i) x y ∨ y ∈ jn.2.take j) ⟨s3, L, eD, hnd, fun y => by rw [hm y]; exact ⟨.inl, fun z => z.elim id fun z => (by cases z)⟩⟩ (fun j H4 _ pv => (sqs pv.1 hjt)) (fun j v H4₀ H4 hj pv yy => ?_) (fun H4 pv => ?_)
        · obtain ⟨rfl, ey⟩ := yy
          obtain ⟨s4, L, eD, hnd, hm⟩ := pv
          obtain ⟨z, ez, rfl⟩ := at_nm ey
          have tk2 : jn.2.take (j + 1) = jn.2.take j ++ [z] := by rw [List.take_add_one, ez]; rfl
          refine ⟨rfl, yes_ ?_⟩
          have l8 : L.length ≤ ls.length := nd_len hnd (sub (i := i) fun y hy => ((hm y).mp hy).imp id fun z => hok.sub jn jin y (List.mem_of_mem_take z))
          refine ⟨nS z, rfl, SX.S z, L.map SX.S, rfl, eD, by rw [List.length_map]; exact Nat.lt_of_le_of_lt (Nat.succ_le_succ (Nat.le_trans l8 hok.l8)) (by decide), same_set s4 nD, addN L z, by rw [upd_same, addL_S]; rfl, nd_addN hnd, fun y => ?_⟩
          rw [mem_addN, hm y, tk2, List.mem_append, List.mem_singleton]
          constructor
          · rintro (h | h | h)
            · exact .inr (.inr h)
            · exact .inl h
            · exact .inr (.inl h)
          · rintro (h | h | h)
            · exact .inr (.inl h)
            · exact .inr (.inr h)
            · exact .inl h
        · obtain ⟨s4, L, eD, hnd, hm⟩ := pv
          refine ⟨s4, L, eD, hnd, fun y => ?_⟩
          rw [hm y, tk1, adj_snoc, List.length_map, List.take_length]
          exact ⟨fun z => z.imp id fun z => ⟨c, z⟩, fun z => z.imp id fun z => z.2⟩
      · have c : ¬ x ∈ jn.2 := fun z => by
          rw [in_nms, decide_eq_true z] at c
          exact c rfl
        refine ⟨s3, L, eD, hnd, fun y => ?_⟩
        rw [hm y, tk1, adj_snoc]
        exact ⟨.inl, fun z => z.elim id fun z => absurd z.1 c⟩
    · obtain ⟨s3, L, eD, hnd, hm⟩ := pv
      rw [List.length_map, jl, List.take_length] at hm
      have l8 : L.length ≤ ls.length := nd_len hnd fun y hy => hok.adj ((hm y).mp hy)
      refine ⟨D, _, rfl, eD, by rw [List.length_map]; have := hok.l8; omega, fun ys p hp hs np => ?_⟩
      obtain ⟨zs, rfl, hz⟩ := perm_S hp
      refine q _ p zs (s3.trans (same_upd np)) ?_ (by rw [upd_same, map_nS]) (hz.nodup_iff.mpr hnd) (fun y => by rw [hz.mem_iff]; exact hm y)
      cases e : H p with
      | none => rfl
      | some o => rw [s3 _ _ e] at np; cases np
/-- of each line those beside it -/
def BsAt (H : Hp) (D : Addr) (ls : List Nm) (jns : List (Nm × List Nm)) : Prop := ∃ kvs : List (Key × V), H D = some (.dK kvs) ∧ ∀ x ∈ ls, ∃ (a : Addr) (ys : List Nm), valV kvs (Sum.inr (SX.S x)) = some (.ref a) ∧ H a = some (.lst (ys.map nS)) ∧ ys.Nodup ∧ ∀ y, y ∈ ys ↔ Adj jns x y
theorem BsAt.same {H H' : Hp} {D : Addr} {ls : List Nm} {jns : List (Nm × List Nm)} (h : BsAt H D ls jns) (s : Same H H') : BsAt H' D ls jns := let ⟨kvs, e, f⟩ := h; ⟨kvs, s _ _ e, fun x hx => let ⟨a, ys, h1, h2, h3⟩ := f x hx; ⟨a, ys, h1, s _ _ h2, h3⟩⟩
def sp_lines_beside (K : PySem.W.Frag) : Sp := fun vs H Q _ => ∃ (r : Addr) (ls : List Nm) (jns : List (Nm × List Nm)), vs = [.ref r] ∧ LJ K H r ls jns ∧ LJok ls jns ∧ ∀ H' D, Same H H' → H D = none → BsAt H' D ls jns → Q (.ref D) H'
set_option maxHeartbeats 8000000 in
theorem ok_lines_beside (T : Defs K mg) : FnOk P w K mg base CX0 (k + 2) T.a_lines_beside T.d_lines_beside ["net"] (sp_lines_beside K) := by
  have G_lines_joined : FnOk P w K mg base CX0 (k + 1) _ _ _ _ := ok_lines_joined T
  refine T.F_lines_beside.ok sc_lines_beside (fun vs H Q E h => ?_) (fun cdv A outer s H vs Q E hr h => ?_)
  · obtain ⟨r, ls, jns, rfl, _⟩ := h
    rfl
  · obtain ⟨r, ls, jns, rfl, hnet, hok, q⟩ := h
    refine ⟨_, PSs.nox
(pss_one (ps_ret (pe_dc (own := [("line", 1)]) (g := gName 1) rfl sc_lines_beside.nd (pi_tup (pe_ix (r := rIxT K) ix_tup (pv 0) (pe_int) (fun _ _ => rfl))) (blkOk_by (N := N_lines_beside) (sc := defScope s_lines_beside) (by decide +kernel)) (fun _ _ _ _ _ => (pg_name (i := 1) sc_lines_beside.nd rfl (.inl rfl))) (fun _ _ _ _ _ => pts_nil) (fun _ _ _ _ _ => (pv 1)) (fun _ _ _ _ _ => (pe_call G_lines_joined hr (by rfl) T.g_lines_joined T.F_lines_joined.kp T.b_lines_joined .nil pass0 (pa_cons (pv 0) (pa_cons (pv 1) pa_nil)))))))
      , ?_⟩
    obtain ⟨a, c, b, d, ja, er, ea, ec, hJ⟩ := id hnet
    refine ⟨.ref r, rfl, r, [.ref a, b, .ref c, d], 0, .ref a, rfl, rfl, er, atI_nat (j := 0) rfl, a, rfl, ⟨_, ea⟩, fun D nD => ?_⟩
    refine dc_tup (xs := ls.map nS) (fun i H3 => Same H H3 ∧ ∃ kvs : List (Key × V), H3 D = some (.dK kvs) ∧ kvs.length ≤ i ∧ ∀ x ∈ ls.take i, ∃ (a : Addr) (ys : List Nm), a ≠ D ∧ valV kvs (Sum.inr (SX.S x)) = some (.ref a) ∧ H3 a = some (.lst (ys.map nS)) ∧ ys.Nodup ∧ ∀ y, y ∈ ys ↔ Adj jns x y) ⟨same_upd nD, [], upd_same, Nat.le_refl _, fun x hx => (by cases hx)⟩ (fun i H3 _ pv => (sqs pv.1 ea)) (fun i v H3 ex pv => ?_) (fun H3 pv => ?_)
    · obtain ⟨s3, kvs, eD, hl, hv⟩ := pv
      obtain ⟨x, exx, rfl⟩ := at_nm ex
      have ilt : i < ls.length := (List.getElem?_eq_some_iff.mp exx).1
      have l8 := hok.l8
      refine ⟨rfl, yes_ ?_⟩
      refine ⟨nS x, rfl, .ref r, rfl, nS x, rfl, r, x, ls, jns, rfl, hnet.tk (.of s3), hok, fun H4 p ys s4 np ep hnd hm => ?_⟩
      have npD : p ≠ D := fun e => by rw [e, eD] at np; cases np
      refine ⟨kvs, Sum.inr (SX.S x), rfl, s4 _ _ eD, small5000 (by omega), same_set (s3.trans s4) nD, _, upd_same, ?_, fun y hy => ?_⟩
      · have := length_putK kvs (Sum.inr (SX.S x)) (V.ref p)
        omega
      · rw [valV_put]
        by_cases c : y = x
        · rw [if_pos (by rw [c])]
          subst c
          exact ⟨p, ys, npD, rfl, by rw [upd_ne npD]; exact ep, hnd, hm⟩
        · rw [if_neg (fun q => c (SX.S_inj (Sum.inr.inj q)))]
          rw [List.take_add_one, exx] at hy
          rcases List.mem_append.mp hy with z | z
          · obtain ⟨a', ys', h0, h1, h2, h3⟩ := hv y z
            exact ⟨a', ys', h0, h1, by rw [upd_ne h0]; exact s4 _ _ h2, h3⟩
          · exact absurd (List.mem_singleton.mp z) c
    · obtain ⟨s3, kvs, eD, hl, hv⟩ := pv
      rw [List.length_map, List.take_length] at hv
      exact q _ D s3 nD ⟨kvs, eD, fun x hx => let ⟨a, ys, _, h⟩ := hv x hx; ⟨a, ys, h⟩⟩
end
end Th
namespace Th
open PySem PySem.Spec PyProof.Rows L2
/-! steps to any of the far ones -/
open Rm (Ds Wk Gr Lst ds_succ ds_zero ds_none wk_ds)
abbrev AF (jns : List (Nm × List Nm)) (fars : List Nm) (n : Nat) (x : Nm) : Prop := Ds (Adj jns) (· ∈ fars) n x
/-- what the steps below m tell -/
def SV (jns : List (Nm × List Nm)) (fars : List Nm) (m : Nat) (kvs : List (Key × V)) : Prop := ∀ x : Nm, (∃ n, n < m ∧ AF jns fars n x ∧ valV kvs (Sum.inr (SX.S x)) = some (.int (n : Nat))) ∨ ((∀ n, n < m → ¬ AF jns fars n x) ∧ valV kvs (Sum.inr (SX.S x)) = none)
/-- what all steps tell -/
def SA' (jns : List (Nm × List Nm)) (fars : List Nm) (kvs : List (Key × V)) : Prop := ∀ x : Nm, (∃ n, AF jns fars n x ∧ valV kvs (Sum.inr (SX.S x)) = some (.int (n : Nat))) ∨ ((∀ n, ¬ AF jns fars n x) ∧ valV kvs (Sum.inr (SX.S x)) = none)
theorem af_in {ls : List Nm} {jns : List (Nm × List Nm)} {fars : List Nm} (hok : LJok ls jns) (hf : ∀ f ∈ fars, f ∈ ls) {n : Nat} {x : Nm} (h : AF jns fars n x) : x ∈ ls := by
  cases n with
  | zero => exact hf x h.1
  | succ n =>
    obtain ⟨y, h1, _⟩ := h.down
    exact hok.adj h1.symm
section
variable {P : Program} {w : World} {K : PySem.W.Frag} {mg : Str → Option Value} {base : Heap} {k : Nat}
def sp_steps_to : Sp := fun vs H Q _ => ∃ (D fr : Addr) (ls : List Nm) (jns : List (Nm × List Nm)) (fars : List Nm), vs = [.ref D, .ref fr] ∧ BsAt H D ls jns ∧ LJok ls jns ∧ H fr = some (.lst (fars.map nS)) ∧ fars.Nodup ∧ (∀ f ∈ fars, f ∈ ls) ∧
  ∀ H' d kvs, Same H H' → H d = none → H' d = some (.dK kvs) → SA' jns fars kvs → Q (.ref d) H'
set_option maxHeartbeats 8000000 in
theorem ok_steps_to (T : Defs K mg) : FnOk P w K mg base CX0 (k + 1) T.a_steps_to T.d_steps_to ["beside", "fars"] sp_steps_to := by
  refine T.F_steps_to.ok sc_steps_to (fun vs H Q E h => ?_) (fun cdv A outer s H vs Q E hr h => ?_)
  · obtain ⟨D, fr, ls, jns, fars, rfl, _⟩ := h
    rfl
  · obtain ⟨D, fr, ls, jns, fars, rfl, hbs, hok, efr, fnd, fls, q⟩ := h
    refine ⟨_, PSs.nox
(pss_cons (ps_set (i := 2) sc_steps_to.nd rfl (.inr rfl) (pe_dnewK))
    (pss_cons (ps_set (i := 3) sc_steps_to.nd rfl (.inl rfl) (pe_int))
    (pss_cons (ps_set (i := 4) sc_steps_to.nd rfl (.inl rfl) (pv 1))
    (pss_cons (ps_while PassesOwn.never (pt_truth (pv 4) (by intro _; rfl))
      (pss_cons (ps_for PassesOwn.never rfl (pi_list (pv 4)) (pg_name (i := 5) sc_steps_to.nd rfl (.inl rfl))
        (pss_one (ps_dput (hu_of hr) (pv 2) (pv 5) (pv 3) (by rfl))))
      (pss_cons (ps_aug (i := 3) sc_steps_to.nd rfl (.inl rfl) (pe_int) ip_add)
      (pss_one (ps_set (i := 4) sc_steps_to.nd rfl (.inl rfl) (pe_callB (Ss.cr_sortS rfl) (by rfl) T.z_sorted (by decide +kernel) (pa_cons (Ss.pe_sc2 (own := [("line", 5), ("near", 6)]) (vs1 := [6]) (g := gName 5) (g1 := gName 6) (wi1 := iList K _) rfl sc_steps_to.nd (pi_list (pv 4)) (blkOk_by (N := N_steps_to) (sc := defScope s_steps_to) (by decide +kernel)) (by decide) (fun _ _ _ _ _ => (pg_name (i := 5) sc_steps_to.nd rfl (.inl rfl))) (fun _ _ _ _ _ => pts_nil) (fun _ _ _ _ _ => (pi_list (pe_dget (hu_of hr) (pv 0) (pv 5) (fun _ _ => rfl)))) (fun _ _ _ _ _ => (pg_name (i := 6) sc_steps_to.nd rfl (.inl rfl))) (fun _ _ _ _ _ => pts_one (pt_cmp (pc_dnotin (hu_of hr) (pv 6) (pv 2)))) (fun _ _ _ _ _ => (pv 6))) pa_nil)))))))
    (pss_one (ps_ret (pv 2)))))))
      , ?_⟩
    have l8 := hok.l8
    refine fun sd nsd => ⟨.ref fr, rfl, ?_⟩
    have nsdD : sd ≠ D := fun e => by
      obtain ⟨kvs, h, _⟩ := hbs
      rw [e, h] at nsd
      cases nsd
    refine ⟨fun m' σ H3 => ∃ (m : Nat) (eg : Addr) (es zs : List Nm) (kvs : List (Key × V)) (y5 : Option V), m' = 10 - m ∧ σ = [some (.ref D), some (.ref fr), some (.ref sd), some (.int (m : Nat)), some (.ref eg), y5, none] ∧ Same H H3 ∧ eg ≠ sd ∧ H3 eg = some (.lst (es.map nS)) ∧ es.Nodup ∧ (∀ x, x ∈ es ↔ AF jns fars m x) ∧
        H3 sd = some (.dK kvs) ∧ kvs.map (·.1) = (zs.map SX.S).map Sum.inr ∧ zs.Nodup ∧ (∀ z ∈ zs, ∃ n, n < m ∧ AF jns fars n z) ∧ m ≤ zs.length ∧ SV jns fars m kvs,
      ⟨_, 0, fr, fars, [], [], none, rfl, rfl, same_upd nsd, ne_of_none efr nsd, same_upd nsd _ _ efr, fnd, fun x => ds_zero.symm, upd_same, rfl, .nil, fun z hz => (by cases hz), Nat.le_refl _, fun x => .inr ⟨fun n hn => absurd hn (Nat.not_lt_zero _), rfl⟩⟩, fun m' σ H3 hW => ?_⟩
    obtain ⟨m, eg, es, zs, kvs, y5, rfl, rfl, s3, nes, eE, end_, hE, eS, hkz, znd, hz, mz, hsv⟩ := hW
    refine ⟨.ref eg, rfl, _, .inl ⟨_, SqL.of eE, rfl⟩, ite2 (fun c => ?_) (fun c => ?_)⟩
    · have ne : es ≠ [] := fun e => by rw [e] at c; cases c
      have zl : zs.length ≤ ls.length := nd_len znd fun z h => let ⟨n, _, h⟩ := hz z h; af_in hok fls h
      have dis : ∀ z ∈ zs, ∀ x ∈ es, z ≠ x := fun z hz1 x hx e => by
        obtain ⟨n, hn, h1⟩ := hz z hz1
        rw [e] at h1
        have := h1.eq ((hE x).mp hx)
        omega
      refine ⟨_, fun σ' H' h => h, ?_⟩
      refine ⟨.ref eg, rfl, eg, rfl, ⟨_, SqL.of eE⟩, ?_⟩
      refine for_it (walk_list (xs := es.map nS)) (fun i σ H4 => ∃ (y5 : Option V) (kvs : List (Key × V)), σ = [some (.ref D), some (.ref fr), some (.ref sd), some (.int (m : Nat)), some (.ref eg), y5, none] ∧ Same H H4 ∧ H4 eg = some (.lst (es.map nS)) ∧ H4 sd = some (.dK kvs) ∧ kvs.map (·.1) = ((zs ++ es.take i).map SX.S).map Sum.inr ∧
          ∀ x, (x ∈ es.take i → valV kvs (Sum.inr (SX.S x)) = some (.int (m : Nat))) ∧ (x ∉ es.take i → (∃ n, n < m ∧ AF jns fars n x ∧ valV kvs (Sum.inr (SX.S x)) = some (.int (n : Nat))) ∨ ((∀ n, n < m → ¬ AF jns fars n x) ∧ valV kvs (Sum.inr (SX.S x)) = none)))
        ⟨y5, kvs, rfl, s3, eE, eS, by rw [List.take_zero, List.append_nil]; exact hkz, fun x => ⟨fun z => (by cases z), fun _ => hsv x⟩⟩ (fun i σ H4 _ hp => ?_) (fun i v σ H4₀ H4 hi hp yy => ?_) (fun σ H4 hp => ?_)
      · obtain ⟨_, _, _, _, e4, _⟩ := hp
        exact SqL.of e4
      · obtain ⟨rfl, ex⟩ := yy
        obtain ⟨y5, kvs, rfl, s4, eE4, eS4, hkz4, hv⟩ := hp
        obtain ⟨z, ez, rfl⟩ := at_nm ex
        have zin : z ∈ es := List.mem_of_getElem? ez
        have tk1 : es.take (i + 1) = es.take i ++ [z] := by rw [List.take_add_one, ez]; rfl
        have znot : z ∉ es.take i := fun h => by
          have := List.nodup_append.mp (tk1 ▸ (List.Sublist.nodup (List.take_sublist (i + 1) es) end_))
          exact this.2.2 z h z (List.mem_singleton.mpr rfl) rfl
        have vn : valV kvs (Sum.inr (SX.S z)) = none := by
          rcases (hv z).2 znot with ⟨n, hn, h1, _⟩ | ⟨_, h⟩
          · have := h1.eq ((hE z).mp zin)
            omega
          · exact h
        have kl : kvs.length ≤ 5000 := by
          have := congrArg List.length hkz4
          rw [List.length_map, List.length_map, List.length_map, List.length_append] at this
          have h2 : es.length ≤ ls.length := nd_len end_ fun x hx => af_in hok fls ((hE x).mp hx)
          have h3 : (es.take i).length ≤ es.length := List.length_take_le' _ _
          omega
        refine ⟨.int (m : Nat), rfl, .ref sd, rfl, nS z, rfl, sd, _, rfl, DPut.k (k := Sum.inr (SX.S z)) eS4 (small5000 kl), ?_⟩
        refine ⟨_, _, rfl, same_set s4 nsd, by rw [upd_ne nes]; exact eE4, upd_same, ?_, fun x => ?_⟩
        · rw [putK_new _ vn, List.map_append, hkz4, tk1, ← List.append_assoc, List.map_append (l₁ := zs ++ es.take i), List.map_append (l₁ := (zs ++ es.take i).map SX.S)]
          rfl
        · rw [valV_put, tk1, List.mem_append, List.mem_singleton]
          by_cases c : x = z
          · rw [if_pos (by rw [c])]
            exact ⟨fun _ => rfl, fun h => absurd (.inr c) h⟩
          · rw [if_neg (fun q => c (SX.S_inj (Sum.inr.inj q)))]
            exact ⟨fun h => (hv x).1 (h.elim id fun e => absurd e c), fun h => (hv x).2 fun z => h (.inl z)⟩
      · obtain ⟨y5, kvs, rfl, s4, eE4, eS4, hkz4, hv⟩ := hp
        rw [List.length_map, List.take_length] at hkz4 hv
        have zs2 : (zs ++ es).Nodup := List.nodup_append.mpr ⟨znd, end_, dis⟩
        have hz2 : ∀ z ∈ zs ++ es, ∃ n, n < m + 1 ∧ AF jns fars n z := fun z h => (List.mem_append.mp h).elim (fun h => let ⟨n, hn, h⟩ := hz z h; ⟨n, by omega, h⟩) fun h => ⟨m, by omega, (hE z).mp h⟩
        have el : 1 ≤ es.length := List.length_pos_iff.mpr ne
        have sv2 : SV jns fars (m + 1) kvs := fun x => by
          by_cases c : x ∈ es
          · exact .inl ⟨m, by omega, (hE x).mp c, (hv x).1 c⟩
          · rcases (hv x).2 c with ⟨n, hn, h⟩ | ⟨h1, h2⟩
            · exact .inl ⟨n, by omega, h⟩
            · refine .inr ⟨fun n hn h => ?_, h2⟩
              by_cases c2 : n = m
              · subst c2
                exact c ((hE x).mpr h)
              · exact h1 n (by omega) h
        refine ⟨.int (m : Nat), rfl, _, _, rfl, rfl, ?_⟩
        refine ⟨.ref eg, rfl, eg, rfl, ⟨_, SqL.of eE4⟩, fun D2 nD2 => ?_⟩
        have hbs4 := hbs.same s4
        have sd2 : sd ≠ D2 := ne_of_none eS4 nD2
        have eg2 : eg ≠ D2 := ne_of_none eE4 nD2
        have beyond : ∀ y, (∃ x ∈ es, Adj jns x y) ∧ valV kvs (Sum.inr (SX.S y)) = none ↔ AF jns fars (m + 1) y := fun y => by
          show _ ↔ Ds (Adj jns) (· ∈ fars) (m + 1) y
          rw [ds_succ]
          constructor
          · rintro ⟨⟨x, hx, hxy⟩, hn⟩
            refine ⟨⟨x, hxy.symm, (hE x).mp hx⟩, fun n hn2 hd => ?_⟩
            rcases sv2 y with ⟨n', _, _, h3⟩ | ⟨h1, _⟩
            · rw [hn] at h3
              cases h3
            · exact h1 n (by omega) hd
          · rintro ⟨⟨x, hxy, hx⟩, hn⟩
            refine ⟨⟨x, (hE x).mpr hx, hxy.symm⟩, ?_⟩
            rcases sv2 y with ⟨n', h1, h2, _⟩ | ⟨_, h⟩
            · exact absurd h2 (hn n' (by omega))
            · exact h
        refine Ss.sc2_it (walk_list (xs := es.map nS)) (fun i H5 => Same H4 H5 ∧ ∃ L : List Nm, H5 D2 = some (Ss.SetSO w D2 (L.map SX.S)) ∧ L.Nodup ∧ ∀ y, y ∈ L ↔ (∃ x ∈ es.take i, Adj jns x y) ∧ valV kvs (Sum.inr (SX.S y)) = none) ⟨same_upd nD2, [], upd_same, .nil, fun y => ⟨fun z => (by cases z), fun ⟨⟨x, hx, _⟩, _⟩ => (by cases hx)⟩⟩ (fun i H5 _ pv => SqL.of (pv.1 _ _ eE4)) (fun i v H5₀ H5 hi pv yy => ?_) (fun H5 pv => ?_)
        · obtain ⟨rfl, ex⟩ := yy
          obtain ⟨s5, L, eD2, hnd, hm⟩ := pv
          obtain ⟨x, exx, rfl⟩ := at_nm ex
          have xin : x ∈ es := List.mem_of_getElem? exx
          have tk1 : es.take (i + 1) = es.take i ++ [x] := by rw [List.take_add_one, exx]; rfl
          obtain ⟨bk, eDb, hbv⟩ := hbs4
          obtain ⟨ba, ys, hv1, hba, ynd, hym⟩ := hbv x (af_in hok fls ((hE x).mp xin))
          refine ⟨rfl, yes_ ?_⟩
          refine ⟨.ref D, rfl, nS x, rfl, D, _, rfl, by rw [← hv1]; exact DGet.k (k := Sum.inr (SX.S x)) (s5 _ _ eDb), ba, rfl, ⟨_, SqL.of (s5 _ _ hba)⟩, ?_⟩
          refine Ss.in2_it (walk_list (xs := ys.map nS)) (fun j H6 => Same H4 H6 ∧ ∃ L : List Nm, H6 D2 = some (Ss.SetSO w D2 (L.map SX.S)) ∧ L.Nodup ∧ ∀ y, y ∈ L ↔ ((∃ x ∈ es.take i, Adj jns x y) ∨ y ∈ ys.take j) ∧ valV kvs (Sum.inr (SX.S y)) = none) ⟨s5, L, eD2, hnd, fun y => by rw [hm y]; exact ⟨fun z => ⟨.inl z.1, z.2⟩, fun z => ⟨z.1.elim id fun z => (by cases z), z.2⟩⟩⟩ (fun j H6 _ pv => SqL.of (pv.1 _ _ hba)) (fun j v H6₀ H6 hj pv yy => ?_) (fun H6 pv => ?_)
          · obtain ⟨rfl, ey⟩ := yy
            obtain ⟨s6, L, eD2, hnd, hm⟩ := pv
            obtain ⟨y, eyy, rfl⟩ := at_nm ey
            have tk2 : ys.take (j + 1) = ys.take j ++ [y] := by rw [List.take_add_one, eyy]; rfl
            refine ⟨rfl, nS y, rfl, .ref sd, rfl, sd, _, rfl, DGet.k (k := Sum.inr (SX.S y)) (s6 _ _ eS4), _, rfl, ite2 (fun c => ?_) (fun c => ?_)⟩
            · have vn : valV kvs (Sum.inr (SX.S y)) = none := by
                cases h : valV kvs (Sum.inr (SX.S y)) with
                | none => rfl
                | some o => rw [h] at c; cases c
              have l9 : L.length ≤ ls.length := nd_len hnd fun z hz => by
                obtain ⟨h, _⟩ := (hm z).mp hz
                rcases h with ⟨x', _, h⟩ | h
                · exact hok.adj h
                · exact hok.adj ((hym z).mp (List.mem_of_mem_take h))
              refine ⟨nS y, rfl, SX.S y, L.map SX.S, rfl, eD2, by rw [List.length_map]; exact Nat.lt_of_le_of_lt (Nat.succ_le_succ (Nat.le_trans l9 hok.l8)) (by decide), same_set s6 nD2, addN L y, by rw [upd_same, addL_S]; rfl, nd_addN hnd, fun z => ?_⟩
              rw [mem_addN, hm z, tk2, List.mem_append, List.mem_singleton]
              constructor
              · rintro (h | h)
                · subst h
                  exact ⟨.inr (.inr rfl), vn⟩
                · exact ⟨h.1.imp id .inl, h.2⟩
              · rintro ⟨h | h | h, hn⟩
                · exact .inr ⟨.inl h, hn⟩
                · exact .inr ⟨.inr h, hn⟩
                · exact .inl h
            · refine ⟨s6, L, eD2, hnd, fun z => ?_⟩
              rw [hm z, tk2, List.mem_append, List.mem_singleton]
              constructor
              · rintro ⟨h, hn⟩
                exact ⟨h.imp id .inl, hn⟩
              · rintro ⟨h | h | h, hn⟩
                · exact ⟨.inl h, hn⟩
                · exact ⟨.inr h, hn⟩
                · subst h
                  rw [hn] at c
                  exact absurd rfl c
          · obtain ⟨s6, L, eD2, hnd, hm⟩ := pv
            refine ⟨s6, L, eD2, hnd, fun y => ?_⟩
            rw [hm y, tk1, List.length_map, List.take_length, hym y]
            constructor
            · rintro ⟨⟨x', hx', h⟩ | h, hn⟩
              · exact ⟨⟨x', List.mem_append_left _ hx', h⟩, hn⟩
              · exact ⟨⟨x, List.mem_append_right _ (List.mem_singleton.mpr rfl), h⟩, hn⟩
            · rintro ⟨⟨x', hx', h⟩, hn⟩
              rcases List.mem_append.mp hx' with z | z
              · exact ⟨.inl ⟨x', z, h⟩, hn⟩
              · rw [List.mem_singleton.mp z] at h
                exact ⟨.inr h, hn⟩
        · obtain ⟨s5, L, eD2, hnd, hm⟩ := pv
          rw [List.length_map, List.take_length] at hm
          have hm2 : ∀ y, y ∈ L ↔ AF jns fars (m + 1) y := fun y => (hm y).trans (beyond y)
          have l9 : L.length ≤ ls.length := nd_len hnd fun z hz => af_in hok fls ((hm2 z).mp hz)
          refine ⟨D2, _, rfl, eD2, by rw [List.length_map]; omega, fun ys p hp hs np => ?_⟩
          obtain ⟨xs, rfl, hx⟩ := perm_S hp
          refine ⟨10 - (m + 1), by omega, m + 1, p, xs, zs ++ es, kvs, _, rfl, rfl, s4.trans (s5.trans (same_upd np)), (ne_of_none (s5 _ _ eS4) np).symm, by rw [upd_same, map_nS], hx.nodup_iff.mpr hnd, fun y => by rw [hx.mem_iff]; exact hm2 y, same_upd np _ _ (s5 _ _ eS4), hkz4, zs2, hz2, by rw [List.length_append]; omega, sv2⟩
    · have ne : es = [] := by
        cases h : es with
        | nil => rfl
        | cons a r => rw [h] at c; exact absurd rfl c
      refine ⟨.ref sd, rfl, q _ sd kvs s3 nsd eS fun x => ?_⟩
      have no : ∀ x, ¬ AF jns fars m x := fun x h => by
        have := (hE x).mpr h
        rw [ne] at this
        cases this
      rcases hsv x with ⟨n, _, h⟩ | ⟨h1, h2⟩
      · exact .inl ⟨n, h⟩
      · refine .inr ⟨fun n h => ?_, h2⟩
        by_cases c : n < m
        · exact h1 n c h
        · exact ds_none no n x (by omega) h
end
/-! the least of the shortest roads to any of the far ones -/
theorem af_chain {ls : List Nm} {jns : List (Nm × List Nm)} {fars : List Nm} (hok : LJok ls jns) (hf : ∀ f ∈ fars, f ∈ ls) : ∀ (n : Nat) {x : Nm}, AF jns fars n x → ∃ zs : List Nm, zs.length = n + 1 ∧ zs.Nodup ∧ ∀ z ∈ zs, z ∈ ls ∧ ∃ i, i ≤ n ∧ AF jns fars i z
  | 0, x, h => ⟨[x], rfl, by simp, fun z hz => by rw [List.mem_singleton.mp hz]; exact ⟨af_in hok hf h, 0, Nat.le_refl _, h⟩⟩
  | n + 1, x, h => by
    obtain ⟨y, _, hy⟩ := h.down
    obtain ⟨zs, h1, h2, h3⟩ := af_chain hok hf n hy
    refine ⟨x :: zs, by rw [List.length_cons, h1], List.nodup_cons.mpr ⟨fun hx => ?_, h2⟩, fun z hz => ?_⟩
    · obtain ⟨_, i, hi, hd⟩ := h3 x hx
      have := hd.eq h
      omega
    · rcases List.mem_cons.mp hz with e | e
      · rw [e]
        exact ⟨af_in hok hf h, n + 1, Nat.le_refl _, h⟩
      · obtain ⟨k1, i, hi, hd⟩ := h3 z e
        exact ⟨k1, i, by omega, hd⟩
theorem af_lt {ls : List Nm} {jns : List (Nm × List Nm)} {fars : List Nm} (hok : LJok ls jns) (hf : ∀ f ∈ fars, f ∈ ls) {n : Nat} {x : Nm} (h : AF jns fars n x) : n < ls.length := by
  obtain ⟨zs, h1, h2, h3⟩ := af_chain hok hf n h
  have := nd_len h2 fun z hz => (h3 z hz).1
  omega
/-- what is told of a road -/
def Rd' (jns : List (Nm × List Nm)) (fars : List Nm) (x : Nm) (rd : List Nm) : Prop := (∃ n, AF jns fars n x ∧ Gr (Adj jns) (· ∈ fars) n x rd) ∨ ((∀ n, ¬ AF jns fars n x) ∧ rd = [])
theorem dpAll_nms {K : PySem.W.Frag} {H : Hp} : ∀ zs : List Nm, DpAll K H (zs.map nS) ((zs.map SX.S).map PySem.W.Datum.toD)
  | [] => .nil
  | z :: zs => .cons (.str _) (dpAll_nms zs)
theorem s_ir (a : Str) : PySem.W.DatumOrd.lt a a = false := decide_eq_false (List.lt_irrefl _)
theorem s_asy (a b : Str) (h : PySem.W.DatumOrd.lt a b = true) : PySem.W.DatumOrd.lt b a = false := decide_eq_false (Rm.lt_asym (of_decide_eq_true h))
theorem s_tr (a b c : Str) (h : PySem.W.DatumOrd.lt a b = false) (k : PySem.W.DatumOrd.lt b c = false) : PySem.W.DatumOrd.lt a c = false := decide_eq_false (List.not_lt.mpr (List.le_trans (List.not_lt.mp (of_decide_eq_false k)) (List.not_lt.mp (of_decide_eq_false h))))
section
variable {P : Program} {w : World} {K : PySem.W.Frag} {mg : Str → Option Value} {base : Heap} {k : Nat}
def sp_road_to_any (K : PySem.W.Frag) : Sp := fun vs H Q _ => ∃ (r fr : Addr) (x : Nm) (ls : List Nm) (jns : List (Nm × List Nm)) (fars : List Nm), vs = [.ref r, nS x, .ref fr] ∧ LJ K H r ls jns ∧ LJok ls jns ∧ x ∈ ls ∧ H fr = some (.lst (fars.map nS)) ∧ fars.Nodup ∧ (∀ f ∈ fars, f ∈ ls) ∧
  ∀ H' p (rd : List Nm), Same H H' → H p = none → H' p = some (.lst (rd.map nS)) → Rd' jns fars x rd → Q (.ref p) H'
set_option maxHeartbeats 8000000 in
theorem ok_road_to_any (T : Defs K mg) : FnOk P w K mg base CX0 (k + 3) T.a_road_to_any T.d_road_to_any ["net", "line", "fars"] (sp_road_to_any K) := by
  have G_lines_beside : FnOk P w K mg base CX0 (k + 2) _ _ _ _ := ok_lines_beside T
  have G_steps_to : FnOk P w K mg base CX0 (k + 2) _ _ _ _ := ok_steps_to (k := k + 1) T
  refine T.F_road_to_any.ok sc_road_to_any (fun vs H Q E h => ?_) (fun cdv A outer s H vs Q E hr h => ?_)
  · obtain ⟨r, fr, x, ls, jns, fars, rfl, _⟩ := h
    rfl
  · obtain ⟨r, fr, x, ls, jns, fars, rfl, hnet, hok, xin, efr, fnd, fls, q⟩ := h
    refine ⟨_, PSs.nox
(pss_cons (ps_if (pt_cmpR (r := rIn K true) op_notIn_seq (pv 1) (pe_ix (r := rIxT K) ix_tup (pv 0) (pe_int) (fun _ _ => rfl)) (by rfl))
      (pss_one (ps_ret (pe_lst pa_nil)))
      pss_nil)
    (pss_cons (ps_set (i := 3) sc_road_to_any.nd rfl (.inl rfl) (pe_call G_lines_beside hr (by rfl) T.g_lines_beside T.F_lines_beside.kp T.b_lines_beside .nil pass0 (pa_cons (pv 0) pa_nil)))
    (pss_cons (ps_set (i := 4) sc_road_to_any.nd rfl (.inr rfl) (pe_call G_steps_to hr (by rfl) T.g_steps_to T.F_steps_to.kp T.b_steps_to .nil pass0 (pa_cons (pv 3) (pa_cons (pv 2) pa_nil))))
    (pss_cons (ps_if (pt_cmp (pc_dnotin (hu_of hr) (pv 1) (pv 4)))
      (pss_one (ps_ret (pe_lst pa_nil)))
      pss_nil)
    (pss_cons (ps_set (i := 5) sc_road_to_any.nd rfl (.inl rfl) (pe_lst (pa_cons (pv 1) pa_nil)))
    (pss_cons (ps_while PassesOwn.never (pt_cmpR op_gt (pe_dget (hu_of hr) (pv 4) (pe_ix (r := rIxL K) ix_list (pv 5) (pe_un un_neg (pe_int)) (fun _ _ => rfl)) (fun _ _ => rfl)) (pe_int) (nomark _))
      (pss_cons (ps_set (i := 6) sc_road_to_any.nd rfl (.inr rfl) (pe_op op_sub (pe_dget (hu_of hr) (pv 4) (pe_ix (r := rIxL K) ix_list (pv 5) (pe_un un_neg (pe_int)) (fun _ _ => rfl)) (fun _ _ => rfl)) (pe_int)))
      (pss_cons (ps_setLc (i := 7) (own := [("near", 8)]) (g := gName 8) rfl sc_road_to_any.nd rfl rfl (sw_true rfl rfl rfl (by decide +kernel)) (pi_list (pe_dget (hu_of hr) (pv 3) (pe_ix (r := rIxL K) ix_list (pv 5) (pe_un un_neg (pe_int)) (fun _ _ => rfl)) (fun _ _ => rfl))) (blkOk_by (N := N_road_to_any) (sc := defScope s_road_to_any) (by decide +kernel)) (fun _ _ _ _ _ => (pg_name (i := 8) sc_road_to_any.nd rfl (.inl rfl))) (fun _ _ _ _ _ => pts_one (pt_cmpR op_eq (pe_dget (hu_of hr) (pv 4) (pv 8) (fun _ _ => rfl)) (pv 6) (nomark _))) (fun _ _ _ _ _ => (pv 8)))
      (pss_one (ps_expr (pe_bm PySem.F.plainAttrs_list PySem.F.slot_list_append PySem.F.type_list_append mt_append (pv 5) (pa_cons (pe_callB (Md.cr_minG (α := PySem.Str) rfl hr.units) (by rfl) T.z_min (by decide +kernel) (pa_cons (pv 7) pa_nil)) pa_nil)))))))
    (pss_one (ps_ret (pv 5)))))))))
      , ?_⟩
    have l8 := hok.l8
    obtain ⟨a, c, b, d, ja, er, ea, ec, hJ⟩ := id hnet
    refine ⟨nS x, rfl, .ref r, rfl, r, [.ref a, b, .ref c, d], 0, .ref a, rfl, rfl, er, atI_nat (j := 0) rfl, a, _, rfl, .inr (ea), rfl, flat_nms _, _, rfl, ?_⟩
    rw [show (if true = true then !inV (nS x) (ls.map nS) else inV (nS x) (ls.map nS)) = false by rw [in_nms, decide_eq_true xin]; rfl]
    refine iteF ?_
    refine ⟨.ref r, rfl, r, ls, jns, rfl, hnet, hok, fun H1 D s1 nD hbs => ?_⟩
    have nD0 : D ≠ fr := fun e => by rw [e, efr] at nD; cases nD
    refine ⟨.ref D, rfl, .ref fr, rfl, D, fr, ls, jns, fars, rfl, hbs, hok, s1 _ _ efr, fnd, fls, fun H2 sd kvs s2 nsd esd hsa => ?_⟩
    have s12 := s1.trans s2
    refine ⟨nS x, rfl, .ref sd, rfl, sd, _, rfl, DGet.k (k := Sum.inr (SX.S x)) esd, _, rfl, ?_⟩
    have up : ∀ {H' : Hp} {p : Addr}, Same H H' → H' p = none → H p = none := fun {H' p} s n => by
      cases e : H p with
      | none => rfl
      | some o => rw [s _ _ e] at n; cases n
    rcases hsa x with ⟨n0, hn0, hv0⟩ | ⟨hno, hv0⟩
    · rw [hv0]
      refine iteF ?_
      refine ⟨nS x, rfl, by show 1 ≤ sizeLine; decide, fun rd nrd => ?_⟩
      have n8 := af_lt hok fls hn0
      have sdrd : sd ≠ rd := ne_of_none esd nrd
      -- while steps[road[-1]] > 0
      refine ⟨fun m' σ H3 => ∃ (n : Nat) (pre : List Nm) (cur : Nm) (y6 y7 : Option V), m' = n ∧ σ = [some (.ref r), some (nS x), some (.ref fr), some (.ref D), some (.ref sd), some (.ref rd), y6, y7, none] ∧ Same H2 H3 ∧ H3 rd = some (.lst ((pre ++ [cur]).map nS)) ∧ AF jns fars n cur ∧ pre.length + n = n0 ∧ ∀ t, Gr (Adj jns) (· ∈ fars) n cur t → Gr (Adj jns) (· ∈ fars) n0 x (pre ++ t),
        ⟨_, n0, [], x, none, none, rfl, rfl, same_upd nrd, upd_same, hn0, by simp, fun t h => h⟩, fun m' σ H3 hW => ?_⟩
      obtain ⟨n, pre, cur, y6, y7, rfl, rfl, s3, erd, hn, hpre, hgr⟩ := hW
      have s13 := s12.trans s3
      have last : atI ((pre ++ [cur]).map nS) (-1) = some (nS cur) := by
        rw [List.map_append]
        exact atI_last _ _
      have hvc : valV kvs (Sum.inr (SX.S cur)) = some (.int (m' : Nat)) := by
        rcases hsa cur with ⟨n', h1, h2⟩ | ⟨h1, _⟩
        · rw [h2, h1.eq hn]
        · exact absurd hn (h1 m')
      have dg : ∀ {H' : Hp}, Same H2 H' → DGet H' sd (nS cur) (some (.int (m' : Nat))) := fun s => by
        rw [← hvc]
        exact DGet.k (k := Sum.inr (SX.S cur)) (s _ _ esd)
      refine ⟨.ref sd, rfl, .ref rd, rfl, 1, rfl, rd, _, -1, nS cur, rfl, rfl, SqL.of erd, last, sd, _, rfl, dg s3, _, 0, rfl, rfl, _, rfl, ite2 (fun c => ?_) (fun c => ?_)⟩
      · have c : (0 : Int) < (m' : Nat) := of_decide_eq_true c
        obtain ⟨m, rfl⟩ : ∃ m, m' = m + 1 := ⟨m' - 1, by omega⟩
        refine ⟨_, fun σ' H' h => h, ?_⟩
        refine ⟨.ref sd, rfl, .ref rd, rfl, 1, rfl, rd, _, -1, nS cur, rfl, rfl, SqL.of erd, last, sd, _, rfl, dg s3, _, 1, rfl, rfl, ?_⟩
        obtain ⟨bk, eDb, hbv⟩ := hbs.same (s2.trans s3)
        obtain ⟨ba, ys, hv1, hba, ynd, hym⟩ := hbv cur (af_in hok fls hn)
        refine ⟨.ref D, rfl, .ref rd, rfl, 1, rfl, rd, _, -1, nS cur, rfl, rfl, SqL.of erd, last, D, _, rfl, by rw [← hv1]; exact DGet.k (k := Sum.inr (SX.S cur)) eDb, ba, rfl, ⟨_, SqL.of hba⟩, fun on non => ?_⟩
        have onrd : rd ≠ on := ne_of_none erd non
        refine lc_it (walk_list (xs := ys.map nS)) (fun i H4 => Same H3 H4 ∧ ∃ os : List Nm, H4 on = some (.lst (os.map nS)) ∧ os.length ≤ i ∧ ∀ y, y ∈ os ↔ y ∈ ys.take i ∧ AF jns fars m y) ⟨same_upd non, [], upd_same, Nat.le_refl _, fun y => ⟨fun z => (by cases z), fun z => (by cases z.1)⟩⟩ (fun i H4 _ pv => SqL.of (pv.1 _ _ hba)) (fun i v H4₀ H4 hi pv yy => ?_) (fun H4 pv => ?_)
        · obtain ⟨rfl, ex⟩ := yy
          obtain ⟨s4, os, eon, hol, hom⟩ := pv
          obtain ⟨y, ey, rfl⟩ := at_nm ex
          have tk1 : ys.take (i + 1) = ys.take i ++ [y] := by rw [List.take_add_one, ey]; rfl
          have yin : y ∈ ys := List.mem_of_getElem? ey
          have adj : Adj jns cur y := (hym y).mp yin
          have yl : ys.length ≤ ls.length := nd_len ynd fun z hz => hok.adj ((hym z).mp hz)
          rw [List.length_map] at hi
          obtain ⟨n', hn', hv'⟩ : ∃ n', AF jns fars n' y ∧ valV kvs (Sum.inr (SX.S y)) = some (.int (n' : Nat)) := by
            rcases hsa y with h | ⟨h1, _⟩
            · exact h
            · obtain ⟨n', _, hd⟩ := wk_ds (m + 2) (⟨cur, adj.symm, hn.1⟩ : Wk (Adj jns) (· ∈ fars) (m + 2) y)
              exact absurd hd (h1 n')
          refine ⟨rfl, .ref sd, rfl, nS y, rfl, sd, _, rfl, by rw [← hv']; exact DGet.k (k := Sum.inr (SX.S y)) ((s3.trans s4) _ _ esd), _, rfl, rfl, _, rfl, ite2 (fun c => ?_) (fun c => ?_)⟩
          · have c : n' = m := by
              have c := of_decide_eq_true c
              have c : ((n' : Nat) : Int) = (((m + 1 : Nat)) : Int) - 1 := by injection c
              omega
            subst c
            refine ⟨nS y, rfl, os.map nS, eon, small5000 (by rw [List.length_map]; omega), same_set s4 non, os ++ [y], by rw [upd_same, List.map_append]; rfl, by rw [List.length_append, List.length_singleton]; omega, fun z => ?_⟩
            rw [List.mem_append, List.mem_singleton, hom z, tk1, List.mem_append, List.mem_singleton]
            constructor
            · rintro (h | h)
              · exact ⟨.inl h.1, h.2⟩
              · subst h
                exact ⟨.inr rfl, hn'⟩
            · rintro ⟨h | h, h2⟩
              · exact .inl ⟨h, h2⟩
              · exact .inr h
          · have c : n' ≠ m := fun e => c (decide_eq_true (by rw [e]; congr 1; omega))
            refine ⟨s4, os, eon, by omega, fun z => ?_⟩
            rw [hom z, tk1, List.mem_append, List.mem_singleton]
            exact ⟨fun h => ⟨.inl h.1, h.2⟩, fun ⟨h, h2⟩ => ⟨h.elim id fun e => absurd (hn'.eq (e ▸ h2)) c, h2⟩⟩
        · obtain ⟨s4, os, eon, hol, hom⟩ := pv
          rw [List.length_map, List.take_length] at hom
          have hom : ∀ y, y ∈ os ↔ Adj jns cur y ∧ AF jns fars m y := fun y => by rw [hom y, hym y]
          obtain ⟨y0, hy0, hd0⟩ := hn.down
          match os, hom, eon with
          | [], hom, _ => exact absurd ((hom y0).mpr ⟨hy0, hd0⟩) (by simp)
          | o :: os, hom, eon =>
            refine ⟨.ref rd, rfl, .inl ⟨rfl, _, SqL.of (s4 _ _ erd)⟩, .ref on, rfl, on, _, SX.S o, os.map SX.S, rfl, SqL.of eon, dpAll_nms (o :: os), by show 0 ≤ 60; decide, fun i v hv hmin => ?_⟩
            obtain ⟨y, ey, rfl⟩ := at_nm hv
            have ymin : SX.S y = PySem.W.minOf (SX.S o) (os.map SX.S) := by
              have hmin : ((o :: os).map SX.S)[i]? = _ := hmin
              rw [List.getElem?_map, ey] at hmin
              exact Option.some.inj hmin
            have lst : Lst (fun y => Adj jns cur y ∧ AF jns fars m y) y := by
              refine ⟨(hom y).mp (List.mem_of_getElem? ey), fun z hz hlt => ?_⟩
              have := Md.minOf_le s_ir s_asy s_tr (SX.S o) (os.map SX.S) (SX.S z) (List.mem_map_of_mem (f := SX.S) ((hom z).mpr hz))
              rw [← ymin] at this
              exact of_decide_eq_false this hlt
            have erd4 := s4 _ _ erd
            refine ⟨rd, _, _, rfl, rfl, erd4, small5000 (by rw [List.length_map, List.length_append, List.length_singleton]; omega), m, by omega, m, pre ++ [cur], y, _, _, rfl, rfl, ?_, by rw [upd_same, List.map_append (l₁ := pre ++ [cur])]; rfl, lst.1.2, by rw [List.length_append, List.length_singleton]; omega, fun t ht => ?_⟩
            · exact same_set (s3.trans s4) nrd
            · have := hgr (cur :: t) ⟨y, t, lst, ht, rfl⟩
              rwa [List.append_assoc]
      · have c : m' = 0 := by
          have c : ¬ (0 : Int) < (m' : Nat) := fun z => c (decide_eq_true z)
          omega
        subst c
        exact ⟨.ref rd, rfl, q _ rd _ s13 (up s12 nrd) erd (.inl ⟨n0, hn0, hgr [cur] ⟨hn.1, rfl⟩⟩)⟩
    · rw [hv0]
      refine iteT ?_
      exact ⟨Nat.zero_le _, fun e ne => q _ e [] (s12.trans (same_upd ne)) (up s12 ne) upd_same (.inr ⟨hno, rfl⟩)⟩
end
end Th
namespace Th
open PySem PySem.Spec PyProof.Rows L2
/-! lines from which a wagon may go over, the road of a gap, how many lack -/
def fromL (js : List Nm) (over : Nm) : List Nm := js.filter fun l => decide (l ≠ over)
theorem mem_fromL {js : List Nm} {over l : Nm} : l ∈ fromL js over ↔ l ∈ js ∧ l ≠ over := by
  unfold fromL
  rw [List.mem_filter, decide_eq_true_eq]
theorem ne_dec {x y : Nm} : (!decide (nS x = nS y)) = decide (x ≠ y) := by
  by_cases h : x = y
  · rw [h]
    simp
  · rw [decide_eq_true h, decide_eq_false (fun e => h (SX.S_inj (by injection e)))]
    rfl
theorem eq_dec {x y : Nm} : decide (nS x = nS y) = decide (x = y) := by
  by_cases h : x = y
  · rw [h]
    simp
  · rw [decide_eq_false h, decide_eq_false (fun e => h (SX.S_inj (by injection e)))]
section
variable {P : Program} {w : World} {K : PySem.W.Frag} {mg : Str → Option Value} {base : Heap} {k : Nat}
def sp_lines_from (K : PySem.W.Frag) : Sp := fun vs H Q _ => ∃ (r : Addr) (over : Nm) (ls : List Nm) (jns : List (Nm × List Nm)) (jn : Nm × List Nm), vs = [.ref r, nS jn.1, nS over] ∧ LJ K H r ls jns ∧ LJok ls jns ∧ (jns.map (·.1)).Nodup ∧ jn ∈ jns ∧ over ∈ jn.2 ∧
  ∀ H' p, Same H H' → H p = none → H' p = some (.lst ((fromL jn.2 over).map nS)) → Q (.ref p) H'
set_option maxHeartbeats 8000000 in
theorem ok_lines_from (T : Defs K mg) : FnOk P w K mg base CX0 (k + 1) T.a_lines_from T.d_lines_from ["net", "junction", "over"] (sp_lines_from K) := by
  refine T.F_lines_from.ok sc_lines_from (fun vs H Q E h => ?_) (fun cdv A outer s H vs Q E hr h => ?_)
  · obtain ⟨r, over, ls, jns, jn, rfl, _⟩ := h
    rfl
  · obtain ⟨r, over, ls, jns, jn, rfl, hnet, hok, jnd, jin, oin, q⟩ := h
    refine ⟨_, PSs.nox
(pss_cons (ps_for PassesOwn.never rfl (pi_tup (pe_ix (r := rIxT K) ix_tup (pv 0) (pe_int) (fun _ _ => rfl))) (pg_tup rfl (pgs_cons (pg_name (i := 3) sc_lines_from.nd rfl (.inl rfl)) (pgs_cons (pg_name (i := 4) sc_lines_from.nd rfl (.inl rfl)) pgs_nil)))
      (pss_one (ps_if (PW.pt (pw_and (pt_cmpR op_eq (pv 3) (pv 1) (nomark _)) (pw_and1 (pt_cmpR (r := rIn K false) op_in_seq (pv 2) (pv 4) (by rfl)))))
        (pss_one (ps_ret (pe_lc (own := [("line", 5)]) (g := gName 5) rfl sc_lines_from.nd (pi_tup (pv 4)) (blkOk_by (N := N_lines_from) (sc := defScope s_lines_from) (by decide +kernel)) (fun _ _ _ _ _ => (pg_name (i := 5) sc_lines_from.nd rfl (.inl rfl))) (fun _ _ _ _ _ => pts_one (pt_cmpR op_ne (pv 5) (pv 2) (nomark _))) (fun _ _ _ _ _ => (pv 5)))))
        pss_nil)))
    (pss_one (ps_ret (pe_lst pa_nil))))
      , ?_⟩
    obtain ⟨a, c, b, d, ja, er, ea, ec, hJ⟩ := id hnet
    have jl := paired_len hJ
    obtain ⟨at_, hat⟩ := List.getElem?_of_mem jin
    refine ⟨.ref r, rfl, r, [.ref a, b, .ref c, d], 2, .ref c, rfl, rfl, er, atI_nat (j := 2) rfl, c, rfl, ⟨_, ec⟩, ?_⟩
    refine for_it (walk_tup (xs := ja.map V.ref)) (fun i σ H3 => ∃ (y3 y4 : Option V), σ = [some (.ref r), some (nS jn.1), some (nS over), y3, y4, none] ∧ Same H H3 ∧ i ≤ at_) ⟨none, none, rfl, .refl _, Nat.zero_le _⟩ (fun i σ H3 _ hp => ?_) (fun i v σ H3₀ H3 hi hp yy => ?_) (fun σ H3 hp => ?_)
    · obtain ⟨_, _, _, s3, _⟩ := hp
      exact sqs s3 ec
    · obtain ⟨rfl, ex⟩ := yy
      obtain ⟨y3, y4, rfl, s3, hle⟩ := hp
      obtain ⟨u, eu, rfl⟩ := at_ref ex
      obtain ⟨j, ej, jt, hu, hjt⟩ := paired_get hJ eu
      refine ⟨u, _, rfl, sqs s3 hu, rfl, _, _, rfl, _, [], rfl, rfl, ?_⟩
      refine ⟨nS j.1, rfl, nS jn.1, rfl, rfl, _, rfl, ite2 (fun c1 => ?_) (fun c1 => ?_)⟩
      · rw [eq_dec] at c1
        have c1 := of_decide_eq_true c1
        have e1 : (jns.map (·.1))[i]? = some j.1 := by rw [List.getElem?_map, ej]; rfl
        have e2 : (jns.map (·.1))[at_]? = some j.1 := by rw [List.getElem?_map, hat, c1]; rfl
        have := nodup_inj jnd e1 e2
        subst this
        rw [hat] at ej
        have := Option.some.inj ej
        subst this
        refine ⟨nS over, rfl, .ref jt, rfl, jt, _, rfl, .inr (sqs s3 hjt), rfl, flat_nms _, _, rfl, ?_⟩
        rw [show (if false = true then !inV (nS over) (jn.2.map nS) else inV (nS over) (jn.2.map nS)) = true by
          show inV (nS over) (jn.2.map nS) = true
          rw [in_nms, decide_eq_true oin]]
        refine iteT ?_
        refine ⟨.ref jt, rfl, jt, rfl, ⟨_, sqs s3 hjt⟩, fun D nD => ?_⟩
        refine lc_it (walk_tup (xs := jn.2.map nS)) (fun k H4 => Same H3 H4 ∧ H4 D = some (.lst ((fromL (jn.2.take k) over).map nS))) ⟨same_upd nD, upd_same⟩ (fun k H4 _ pv => sqs pv.1 (sqs s3 hjt)) (fun k v H4₀ H4 hk pv yy => ?_) (fun H4 pv => ?_)
        · obtain ⟨rfl, ey⟩ := yy
          obtain ⟨s4, eD⟩ := pv
          obtain ⟨z, ez, rfl⟩ := at_nm ey
          have tk : jn.2.take (k + 1) = jn.2.take k ++ [z] := by rw [List.take_add_one, ez]; rfl
          have j9 := hok.j9 jn jin
          refine ⟨rfl, nS z, rfl, nS over, rfl, rfl, _, rfl, ite2 (fun c2 => ?_) (fun c2 => ?_)⟩
          · rw [ne_dec] at c2
            refine ⟨nS z, rfl, _, eD, small5000 ?_, same_set s4 nD, ?_⟩
            · rw [List.length_map]
              unfold fromL
              refine Nat.le_trans (List.length_filter_le _ _) ?_
              rw [List.length_take]
              omega
            · rw [upd_same, tk]
              unfold fromL
              rw [List.filter_append, List.filter_cons_of_pos (by exact c2), List.map_append]
              rfl
          · rw [ne_dec] at c2
            refine ⟨s4, ?_⟩
            rw [eD, tk]
            unfold fromL
            rw [List.filter_append, List.filter_cons_of_neg (by exact c2), List.filter_nil, List.append_nil]
        · obtain ⟨s4, eD⟩ := pv
          rw [List.length_map, List.take_length] at eD
          refine q _ D (s3.trans s4) ?_ eD
          cases e : H D with
          | none => rfl
          | some o => rw [s3 _ _ e] at nD; cases nD
      · refine ⟨_, _, rfl, s3, ?_⟩
        rcases Nat.lt_or_eq_of_le hle with h | h
        · exact h
        · subst h
          rw [hat] at ej
          have := Option.some.inj ej
          subst this
          rw [eq_dec] at c1
          exact absurd (decide_eq_true rfl) c1
    · obtain ⟨_, _, rfl, s3, hle⟩ := hp
      have := (List.getElem?_eq_some_iff.mp hat).1
      rw [List.length_map, jl] at hle
      omega
def sp_gap_road (K : PySem.W.Frag) : Sp := fun vs H Q _ => ∃ (r : Addr) (x over : Nm) (ls : List Nm) (jns : List (Nm × List Nm)) (jn : Nm × List Nm), vs = [.ref r, nS x, nS jn.1, nS over] ∧ LJ K H r ls jns ∧ LJok ls jns ∧ x ∈ ls ∧ (jns.map (·.1)).Nodup ∧ jn ∈ jns ∧ over ∈ jn.2 ∧
  ∀ H' p (rd : List Nm), Same H H' → H p = none → H' p = some (.lst (rd.map nS)) → Rd' jns (fromL jn.2 over) x rd → Q (.ref p) H'
set_option maxHeartbeats 8000000 in
theorem ok_gap_road (T : Defs K mg) : FnOk P w K mg base CX0 (k + 4) T.a_gap_road T.d_gap_road ["net", "line", "junction", "over"] (sp_gap_road K) := by
  have G_road_to_any : FnOk P w K mg base CX0 (k + 3) _ _ _ _ := ok_road_to_any T
  have G_lines_from : FnOk P w K mg base CX0 (k + 3) _ _ _ _ := ok_lines_from (k := k + 2) T
  refine T.F_gap_road.ok sc_gap_road (fun vs H Q E h => ?_) (fun cdv A outer s H vs Q E hr h => ?_)
  · obtain ⟨r, x, over, ls, jns, jn, rfl, _⟩ := h
    rfl
  · obtain ⟨r, x, over, ls, jns, jn, rfl, hnet, hok, xin, jnd, jin, oin, q⟩ := h
    refine ⟨_, PSs.nox
(pss_one (ps_ret (pe_call G_road_to_any hr (by rfl) T.g_road_to_any T.F_road_to_any.kp T.b_road_to_any .nil pass0 (pa_cons (pv 0) (pa_cons (pv 1) (pa_cons (pe_call G_lines_from hr (by rfl) T.g_lines_from T.F_lines_from.kp T.b_lines_from .nil pass0 (pa_cons (pv 0) (pa_cons (pv 2) (pa_cons (pv 3) pa_nil)))) pa_nil))))))
      , ?_⟩
    refine ⟨.ref r, rfl, nS x, rfl, .ref r, rfl, nS jn.1, rfl, nS over, rfl, r, over, ls, jns, jn, rfl, hnet, hok, jnd, jin, oin, fun H1 fr s1 nfr efr => ?_⟩
    refine ⟨r, fr, x, ls, jns, fromL jn.2 over, rfl, hnet.tk (.of s1), hok, xin, efr, List.Sublist.nodup List.filter_sublist (hok.jnd jn jin), fun f hf => hok.sub jn jin f (mem_fromL.mp hf).1, fun H2 p rd s2 np ep hrd => q H2 p rd (s1.trans s2) ?_ ep hrd⟩
    cases e : H p with
    | none => rfl
    | some o => rw [s1 _ _ e] at np; cases np
end
end Th
namespace Th
open PySem PySem.Spec PyProof.Rows L2
theorem up0 {H H' : Hp} {p : Addr} (s : Same H H') (n : H' p = none) : H p = none := by
  cases e : H p with
  | none => rfl
  | some o => rw [s _ _ e] at n; cases n
/-! tables of code objects -/
open LamX in
theorem ExtN.seq {K : PySem.W.Frag} {H H' : Hp} {a : Addr} {xs : List V} (e : ExtN H H') (h : SqL K H a xs) : SqL K H' a xs := by
  rcases h with (h | ⟨o, h⟩) | h
  · exact .inl (.inl (e _ _ h fun _ z => nomatch z))
  · exact .inl (.inr ⟨o, e _ _ h fun _ z => nomatch z⟩)
  · exact .inr h
theorem ExtN.free {H H' : Hp} (e : LamX.ExtN H H') {l : Addr} (h : H' l = none) (ht : ∀ ps, H l ≠ some (.tbl ps)) : H l = none := by
  cases q : H l with
  | none => rfl
  | some o =>
    rw [e l o q (fun ps z => ht ps (by rw [q, z]))] at h
    cases h
theorem ExtN.lst {H H' : Hp} (e : LamX.ExtN H H') {l : Addr} {xs : List V} (h : H l = some (.lst xs)) : H' l = some (.lst xs) := e _ _ h fun _ z => nomatch z
theorem ExtN.tup {H H' : Hp} (e : LamX.ExtN H H') {l : Addr} {xs : List V} (h : H l = some (.tup xs)) : H' l = some (.tup xs) := e _ _ h fun _ z => nomatch z
theorem tab_upd {H : Hp} {P p : Addr} {q : Str} {o u : HO} (t : LamX.TabS H P q) (hp : H p = some o) (n1 : ∀ ps, o ≠ .tbl ps) (n2 : ∀ c, o ≠ LamX.CodeO c q) : LamX.TabS (upd H p u) P q := by
  obtain ⟨ps, h1, h2, h3⟩ := t
  refine ⟨ps, ?_, h2, fun pos cv hc => ?_⟩
  · rw [upd_ne (fun z => n1 ps (by rw [← z, h1] at hp; exact (Option.some.inj hp).symm))]
    exact h1
  · obtain ⟨c, e1, e2⟩ := h3 pos cv hc
    refine ⟨c, e1, ?_⟩
    rw [upd_ne (fun z => n2 c (by rw [← z, e2] at hp; exact (Option.some.inj hp).symm))]
    exact e2
theorem lst_ne_code {xs : List V} (c : Addr) (q : Str) : HO.lst xs ≠ LamX.CodeO c q := fun z => by unfold LamX.CodeO at z; cases z
theorem tab_lst {H : Hp} {P p : Addr} {q : Str} {xs : List V} {u : HO} (t : LamX.TabS H P q) (hp : H p = some (.lst xs)) : LamX.TabS (upd H p u) P q :=
  tab_upd t hp (fun _ z => nomatch z) fun c => lst_ne_code c q
theorem ext_fresh {H H' : Hp} {p : Addr} {u : HO} (n : H p = none) (e : LamX.ExtN H H') : LamX.ExtN H (upd H' p u) := fun b o h nt => by
  rw [upd_ne (ne_of_none h n)]
  exact e b o h nt
theorem cut_take (xs : List V) (m : Nat) : cutV xs none (some (m : Int)) = xs.take m := by
  unfold cutV
  rw [HT.sIx_none, HT.sIx_nat]
  show (xs.drop 0).take (min m xs.length - 0) = xs.take m
  rw [List.drop_zero, Nat.sub_zero]
  by_cases h : m ≤ xs.length
  · rw [Nat.min_eq_left h]
  · rw [Nat.min_eq_right (by omega), List.take_length, List.take_of_length_le (by omega)]
theorem sum_lt : ∀ (ws : List Int), (∀ w ∈ ws, 0 ≤ w ∧ w < 2 ^ 63) → 0 ≤ ws.sum ∧ ws.sum ≤ ws.length * 2 ^ 63
  | [], _ => by simp
  | w :: ws, h => by
    have h1 := h w (List.mem_cons_self ..)
    have h2 := sum_lt ws fun x hx => h x (List.mem_cons_of_mem _ hx)
    rw [List.sum_cons, List.length_cons]
    omega
theorem wide_ok {z : Int} (h0 : 0 < z) (h1 : z ≤ 1000 * 2 ^ 63) : CDivW 0 z := by
  refine ⟨h0, ?_⟩
  refine Nat.lt_of_le_of_lt ?_ (show 99 < 9000 by decide)
  have h2 : z.natAbs < 2 ^ 100 := by omega
  have h3 : z.natAbs ≠ 0 := by omega
  have := (Nat.log2_lt h3).mpr h2
  omega
section
variable {P : Program} {w : World} {K : PySem.W.Frag} {mg : Str → Option Value} {base : Heap} {k : Nat}
/-- the rule for a def whose code object is known -/
theorem okC {x : Str} {st : Stmt} {f : Addr} {fd : FuncData} {N ps : List Str} {sp : Sp} (F : FnP K x st f fd) (S : FnScope N ps (defScope st)) (len : ∀ vs H Q E, sp vs H Q E → vs.length = ps.length)
    (hb : ∀ (A : Around) (outer : List Env) (s : Shared) (H : Hp) (vs : List V) (Q : VK) (E : XK), Room k (A.deeper (envOfC x (defScope st) s.heap.objs.size f fd.code)) → sp vs H Q E →
      ∃ t, PSs (cxOf CX0 P w K mg base N x (defScope st) f fd.code A outer s H E) (defBody st) t ∧ t { nx := fun _ H' => Q .non H', rt := Q } (start N vs) H) : FnOk P w K mg base CX0 (k + 1) f fd ps sp := by
  obtain ⟨oc, od, dV, kV, doc, pm, an, cdv, ct, osl, rfl, lk, hcd, _, _⟩ := F.ex
  exact fn_of lk hcd S len fun A outer s H vs Q E hr hsp => hb A outer s H vs Q E hr hsp
end
theorem ext_keep {H H1 H2 : Hp} {p : Addr} (e : LamX.ExtN H H1) (k : Keep p H1 H2) (n : H p = none) : LamX.ExtN H H2 := fun b o h nt => k b o (ne_of_none h n) (e b o h nt)
theorem ext_upd {H H1 : Hp} {p : Addr} {u : HO} (e : LamX.ExtN H H1) (n : H p = none) : LamX.ExtN H (upd H1 p u) := fun b o h nt => by
  rw [upd_ne (ne_of_none h n)]
  exact e b o h nt
theorem ext_same {H H1 H2 : Hp} (e : LamX.ExtN H H1) (s : Same H1 H2) : LamX.ExtN H H2 := e.trans (.of s)
/-- a store to what was new behind H1 -/
theorem ext_upd2 {H H1 H2 : Hp} {p : Addr} {u : HO} (e1 : LamX.ExtN H H1) (n : H1 p = none) (e2 : LamX.ExtN H H2) : LamX.ExtN H (upd H2 p u) := fun b o h nt => by
  rw [upd_ne (ne_of_none (e1 b o h nt) n)]
  exact e2 b o h nt
theorem tab_keep {H H' : Hp} {P p : Addr} {q : Str} (t : LamX.TabS H P q) (k : Keep p H H') (b : Bag H p) : LamX.TabS H' P q := by
  obtain ⟨ps, h1, h2, h3⟩ := t
  obtain ⟨g, r, eb, _⟩ := b
  refine ⟨ps, k _ _ (fun z => by rw [z, eb] at h1; cases h1) h1, h2, fun pos cv hc => ?_⟩
  obtain ⟨c, e1, e2⟩ := h3 pos cv hc
  refine ⟨c, e1, k _ _ (fun z => ?_) e2⟩
  rw [z, eb] at e2
  exact lst_ne_code _ q (Option.some.inj e2)
/-- p is none of what stood, tables aside -/
def NewN (H : Hp) (p : Addr) : Prop := ∀ b o, H b = some o → (∀ ps, o ≠ .tbl ps) → b ≠ p
theorem NewN.of {H : Hp} {p : Addr} (h : H p = none) : NewN H p := fun b o hb _ => ne_of_none hb h
theorem NewN.back {H H1 : Hp} {p : Addr} (e : LamX.ExtN H H1) (h : H1 p = none) : NewN H p := fun b o hb nt => ne_of_none (e b o hb nt) h
theorem NewN.lst {H : Hp} {p b : Addr} {xs : List V} (n : NewN H p) (h : H b = some (.lst xs)) : b ≠ p := n b _ h fun _ z => nomatch z
theorem ext_upd3 {H H1 H2 : Hp} {p : Addr} {u : HO} (e1 : LamX.ExtN H H1) (n : NewN H1 p) (e2 : LamX.ExtN H H2) : LamX.ExtN H (upd H2 p u) := fun b o h nt => by
  rw [upd_ne (n b o (e1 b o h nt) nt)]
  exact e2 b o h nt
end Th
namespace Th
open PySem PySem.Spec PyProof.Rows L2
/-! a wagon's returns, what lacks, the fewest wrong ones onward -/
open Rm
structure Rt where
  num : Int
  jn : Nm
  day : Int
  hour : Int
  over : Nm
  xs : List V
structure RtOk (r : Rt) : Prop where
  i1 : r.xs[1]? = some (.int r.num)
  i3 : r.xs[3]? = some (nS r.jn)
  i4 : r.xs[4]? = some (.int r.day)
  i5 : r.xs[5]? = some (.int r.hour)
  i7 : r.xs[7]? = some (nS r.over)
def RtA (H : Hp) (t : Addr) (r : Rt) : Prop := H t = some (.tup r.xs)
/-- a return that fits the net -/
def RtFit (jns : List (Nm × List Nm)) (r : Rt) : Prop := ∃ j ∈ jns, j.1 = r.jn ∧ r.over ∈ j.2
def jLines (jns : List (Nm × List Nm)) (n : Nm) : List Nm := ((jns.find? fun j => decide (j.1 = n)).map (·.2)).getD []
def fars (jns : List (Nm × List Nm)) (r : Rt) : List Nm := fromL (jLines jns r.jn) r.over
theorem jLines_of {jns : List (Nm × List Nm)} {j : Nm × List Nm} (nd : (jns.map (·.1)).Nodup) (h : j ∈ jns) : jLines jns j.1 = j.2 := by
  have key : ∀ js : List (Nm × List Nm), (js.map (·.1)).Nodup → j ∈ js → js.find? (fun x => decide (x.1 = j.1)) = some j := fun js => by
    induction js with
    | nil => exact fun _ h => (by cases h)
    | cons x r ih =>
      intro nd hm
      rw [List.map_cons, List.nodup_cons] at nd
      by_cases c : x.1 = j.1
      · rcases List.mem_cons.mp hm with z | z
        · rw [← z, List.find?_cons_of_pos (by simp)]
        · exact absurd (by rw [c]; exact List.mem_map_of_mem (f := (·.1)) z) nd.1
      · rw [List.find?_cons_of_neg (by simp only [decide_eq_true_eq]; exact c)]
        rcases List.mem_cons.mp hm with z | z
        · exact absurd (by rw [z]) c
        · exact ih nd.2 z
  unfold jLines
  rw [key jns nd h]
  rfl
/-- how many lack ahead of a return, from a line -/
noncomputable def lackF (jns : List (Nm × List Nm)) (r : Rt) (l : Nm) : Option Nat := open Classical in if h : ∃ n, AF jns (fars jns r) n l then some (Classical.choose h) else none
theorem lackF_some {jns : List (Nm × List Nm)} {r : Rt} {l : Nm} {n : Nat} : lackF jns r l = some n ↔ AF jns (fars jns r) n l := by
  unfold lackF
  constructor
  · intro h
    split at h
    · rename_i c
      have := Option.some.inj h
      rw [← this]
      exact Classical.choose_spec c
    · cases h
  · intro h
    have c : ∃ n, AF jns (fars jns r) n l := ⟨n, h⟩
    rw [dif_pos c]
    exact congrArg some ((Classical.choose_spec c).eq h)
theorem lackF_none {jns : List (Nm × List Nm)} {r : Rt} {l : Nm} : lackF jns r l = none ↔ ∀ n, ¬ AF jns (fars jns r) n l := by
  constructor
  · intro h n hn
    rw [lackF_some.mpr hn] at h
    cases h
  · intro h
    cases e : lackF jns r l with
    | none => rfl
    | some n => exact absurd (lackF_some.mp e) (h n)
theorem sa_val {jns : List (Nm × List Nm)} {r : Rt} {kvs : List (Key × V)} (h : SA' jns (fars jns r) kvs) (l : Nm) : valV kvs (Sum.inr (SX.S l)) = (lackF jns r l).map fun n => V.int ((n : Nat) : Int) := by
  rcases h l with ⟨n, h1, h2⟩ | ⟨h1, h2⟩
  · rw [h2, lackF_some.mpr h1]
    rfl
  · rw [h2, lackF_none.mpr h1]
    rfl
/-- the fewest wrong ones onward -/
noncomputable def Fw (jns : List (Nm × List Nm)) : List Rt → Nm → Nat
  | [], _ => 0
  | r :: rs, l => match lackF jns r l with
    | none => Fw jns rs l + 1
    | some k => min (Fw jns rs l + 1) (k + Fw jns rs r.over)
/-- the order of returns -/
def kR (r : Rt) : Int × Int × Int := (r.day, r.hour, r.num)
def sortR (rs : List Rt) : List Rt := rs.mergeSort (PySem.W.dataLe false (Lr.key3 kR))
def vI : Option V → Int
  | some (.int i) => i
  | _ => 0
def fAt (H : Hp) (t : Addr) : Int × Int × Int := match H t with
  | some (.tup xs) => (vI xs[4]?, vI xs[5]?, vI xs[1]?)
  | _ => (0, 0, 0)
theorem fAt_of {H : Hp} {t : Addr} {r : Rt} (h : RtA H t r) (ok : RtOk r) : fAt H t = kR r := by
  unfold fAt
  rw [show H t = some (.tup r.xs) from h]
  show (vI r.xs[4]?, vI r.xs[5]?, vI r.xs[1]?) = _
  rw [ok.i4, ok.i5, ok.i1]
  rfl
theorem paired_zip {α β : Type} {R : α → β → Prop} : ∀ {as : List α} {bs : List β}, Paired R as bs → (as.zip bs).map (·.1) = as ∧ (as.zip bs).map (·.2) = bs ∧ ∀ p ∈ as.zip bs, R p.1 p.2
  | _, _, .nil => ⟨rfl, rfl, fun p h => (by cases h)⟩
  | _, _, .cons h t => by
    obtain ⟨a, b, c⟩ := paired_zip t
    refine ⟨by rw [List.zip_cons_cons, List.map_cons, a], by rw [List.zip_cons_cons, List.map_cons, b], fun p hp => ?_⟩
    rw [List.zip_cons_cons] at hp
    rcases List.mem_cons.mp hp with z | z
    · rw [z]; exact h
    · exact c p z
theorem paired_of {α β : Type} {R : α → β → Prop} : ∀ {ps : List (α × β)}, (∀ p ∈ ps, R p.1 p.2) → Paired R (ps.map (·.1)) (ps.map (·.2))
  | [], _ => .nil
  | p :: ps, h => .cons (h p List.mem_cons_self) (paired_of fun q hq => h q (List.mem_cons_of_mem _ hq))
theorem sort_pairs {R : Addr → Rt → Prop} {f : Addr → Int × Int × Int} {ts : List Addr} {rs : List Rt} (h : Paired R ts rs) (hf : ∀ t r, t ∈ ts → r ∈ rs → R t r → f t = kR r) : Paired R (ts.mergeSort (PySem.W.dataLe false (Lr.key3 f))) (sortR rs) := by
  obtain ⟨e1, e2, e3⟩ := paired_zip h
  have hk : ∀ p ∈ ts.zip rs, f p.1 = kR p.2 := fun p hp => hf _ _ (List.of_mem_zip hp).1 (List.of_mem_zip hp).2 (e3 p hp)
  have m1 := List.map_mergeSort (r := PySem.W.dataLe false (Lr.key3 fun p : Addr × Rt => kR p.2)) (s := PySem.W.dataLe false (Lr.key3 f)) (f := fun p : Addr × Rt => p.1) (l := ts.zip rs) fun a ha b hb => by
    have ea : Lr.key3 (fun p : Addr × Rt => kR p.2) a = Lr.key3 f a.1 := by unfold Lr.key3; rw [hk a ha]
    have eb : Lr.key3 (fun p : Addr × Rt => kR p.2) b = Lr.key3 f b.1 := by unfold Lr.key3; rw [hk b hb]
    unfold PySem.W.dataLe PySem.W.sortLe
    simp only [ea, eb]
  have m2 := List.map_mergeSort (r := PySem.W.dataLe false (Lr.key3 fun p : Addr × Rt => kR p.2)) (s := PySem.W.dataLe false (Lr.key3 kR)) (f := fun p : Addr × Rt => p.2) (l := ts.zip rs) fun a ha b hb => rfl
  rw [e1] at m1
  rw [e2] at m2
  unfold sortR
  rw [← m1, ← m2]
  exact paired_of fun p hp => e3 p ((List.mergeSort_perm _ _).mem_iff.mp hp)
theorem sortR_perm (rs : List Rt) : (sortR rs).Perm rs := List.mergeSort_perm _ _
end Th
namespace Th
open PySem PySem.Spec PyProof.Rows L2
/-! in order; what lacks ahead of each return -/
section
variable {P : Program} {w : World} {K : PySem.W.Frag} {mg : Str → Option Value} {base : Heap} {k : Nat}
abbrev qIn : Str := (Str.ofString "in_order" ++ Str.ofString ".<locals>.") ++ Str.ofString "<lambda>"
abbrev TabI (T : Defs K mg) (H : Hp) : Prop := LamX.TabS H T.tp_in_order qIn
def sp_in_order (T : Defs K mg) : Sp := fun vs H Q _ => ∃ (l : Addr) (ts : List Addr) (rs : List Rt), vs = [.ref l] ∧ SqL K H l (ts.map V.ref) ∧ Paired (RtA H) ts rs ∧ (∀ r ∈ rs, RtOk r) ∧ ts.length ≤ 1000 ∧ TabI T H ∧
  ∀ H' p ts', LamX.ExtN H H' → TabI T H' → NewN H p → H' p = some (.lst (ts'.map V.ref)) → Paired (RtA H') ts' (sortR rs) → (∀ t ∈ ts', t ∈ ts) → Q (.ref p) H'
theorem RtA.ext {H H' : Hp} {t : Addr} {r : Rt} (h : RtA H t r) (e : LamX.ExtN H H') : RtA H' t r := e _ _ h fun _ z => (nomatch z)
theorem ok_in_order (T : Defs K mg) (TB : LamX.TabB base mg T.cc_in_order T.tp_in_order) : FnOk P w K mg base CX0 4 T.a_in_order T.d_in_order ["returns"] (sp_in_order T) := by
  refine okC T.F_in_order sc_in_order (fun vs H Q E h => ?_) (fun A outer s H vs Q E hr h => ?_)
  · obtain ⟨l, ts, rs, rfl, _⟩ := h
    rfl
  · obtain ⟨l, ts, rs, rfl, hl, hp, hok, t1000, hT, q⟩ := h
    refine ⟨_, PSs.nox
(pss_one (ps_ret (Lr.pe_sortedRow (k := 0) (n1 := 4) (n2 := 5) (n3 := 1) rfl (by rfl) T.z_sorted (pv 0) TB T.dc_in_order (Lr.lam0_by rfl rfl rfl (by decide +kernel) (by decide +kernel) (by decide +kernel) (by decide +kernel) (by decide +kernel)) rfl T.c_DAY T.c_HOUR T.c_NUMBER (by decide) (fun _ _ _ _ _ _ _ => rfl) hr (by decide) (by decide) (by decide) (by decide))))
      , ?_⟩
    refine ⟨.ref l, rfl, l, ts, fAt H, rfl, by omega, hl, fun t ht => ?_, hT, fun H2 p e2 t2 np => ?_⟩
    · obtain ⟨i, hi⟩ := List.getElem?_of_mem ht
      obtain ⟨r, hr', ha⟩ := paired_get hp hi
      have ok := hok r (List.mem_of_getElem? hr')
      refine ⟨r.xs, SqT.of ha, ?_⟩
      rw [fAt_of ha ok]
      exact ⟨ok.i4, ok.i5, ok.i1⟩
    · have hs := sort_pairs hp (f := fAt H) fun t r _ hr' h => fAt_of h (hok r hr')
      have s3 := same_upd (o := .lst ((ts.mergeSort (PySem.W.dataLe false (Lr.key3 (fAt H)))).map V.ref)) np
      exact q _ p _ (ext_same e2 s3) (t2.ext s3) (.back e2 np) upd_same (paired_imp hs fun t _ r h => (h.ext e2).ext (.of s3)) fun t ht => (List.mergeSort_perm _ _).mem_iff.mp ht
end
/-- a place of a return -/
abbrev kP (r : Rt) : List Key := [Sum.inr (SX.S r.jn), Sum.inr (SX.S r.over)]
theorem kP_inj {r r' : Rt} (h : kP r = kP r') : r.jn = r'.jn ∧ r.over = r'.over := by
  injection h with h1 h2
  injection h2 with h3 _
  exact ⟨SX.S_inj (Sum.inr.inj h1), SX.S_inj (Sum.inr.inj h3)⟩
theorem fars_eq {jns : List (Nm × List Nm)} {r r' : Rt} (h : kP r = kP r') : fars jns r = fars jns r' := by
  obtain ⟨a, b⟩ := kP_inj h
  unfold fars
  rw [a, b]
/-- a dict that tells what lacks ahead of a return -/
def LkA (jns : List (Nm × List Nm)) (H : Hp) (d : Addr) (r : Rt) : Prop := ∃ kvs, H d = some (.dK kvs) ∧ SA' jns (fars jns r) kvs
theorem LkA.same {jns : List (Nm × List Nm)} {H H' : Hp} {d : Addr} {r : Rt} (h : LkA jns H d r) (s : Same H H') : LkA jns H' d r := let ⟨kvs, e, h⟩ := h; ⟨kvs, s _ _ e, h⟩
/-- what is known of places so far -/
def FdA (jns : List (Nm × List Nm)) (H : Hp) (F : Addr) (kvs : List (List Key × V)) (rs : List Rt) : Prop := H F = some (.dT kvs) ∧ kvs.length ≤ rs.length ∧ (∀ r v, valV kvs (kP r) = some v → ∃ d, v = .ref d ∧ d ≠ F ∧ LkA jns H d r) ∧ ∀ r ∈ rs, ∃ v, valV kvs (kP r) = some v
section
variable {P : Program} {w : World} {K : PySem.W.Frag} {mg : Str → Option Value} {base : Heap} {k : Nat}
def sp_lacks_ahead (K : PySem.W.Frag) : Sp := fun vs H Q _ => ∃ (r l : Addr) (ts : List Addr) (rs : List Rt) (ls : List Nm) (jns : List (Nm × List Nm)), vs = [.ref r, .ref l] ∧ H l = some (.lst (ts.map V.ref)) ∧ Paired (RtA H) ts rs ∧ (∀ r ∈ rs, RtOk r ∧ RtFit jns r) ∧ ts.length ≤ 1000 ∧ LJ K H r ls jns ∧ LJok ls jns ∧ (jns.map (·.1)).Nodup ∧
  ∀ H' p ds, Same H H' → H p = none → H' p = some (.lst (ds.map V.ref)) → Paired (LkA jns H') ds rs → Q (.ref p) H'
set_option maxHeartbeats 8000000 in
theorem ok_lacks_ahead (T : Defs K mg) : FnOk P w K mg base CX0 (k + 3) T.a_lacks_ahead T.d_lacks_ahead ["net", "rows"] (sp_lacks_ahead K) := by
  have G_lines_beside : FnOk P w K mg base CX0 (k + 2) _ _ _ _ := ok_lines_beside T
  have G_lines_from : FnOk P w K mg base CX0 (k + 2) _ _ _ _ := ok_lines_from (k := k + 1) T
  have G_steps_to : FnOk P w K mg base CX0 (k + 2) _ _ _ _ := ok_steps_to (k := k + 1) T
  refine T.F_lacks_ahead.ok sc_lacks_ahead (fun vs H Q E h => ?_) (fun cdv A outer s H vs Q E hr h => ?_)
  · obtain ⟨r, l, ts, rs, ls, jns, rfl, _⟩ := h
    rfl
  · obtain ⟨r, l, ts, rs, ls, jns, rfl, el, hp, hrs, t1000, hlj, hok, jnd, q⟩ := h
    refine ⟨_, PSs.nox
(pss_cons (ps_set (i := 2) sc_lacks_ahead.nd rfl (.inl rfl) (pe_call G_lines_beside hr (by rfl) T.g_lines_beside T.F_lines_beside.kp T.b_lines_beside .nil pass0 (pa_cons (pv 0) pa_nil)))
    (pss_cons (ps_set (i := 3) sc_lacks_ahead.nd rfl (.inr rfl) (pe_dnewT))
    (pss_cons (ps_for PassesOwn.never rfl (pi_list (pv 1)) (pg_name (i := 4) sc_lacks_ahead.nd rfl (.inl rfl))
      (pss_cons (ps_set (i := 5) sc_lacks_ahead.nd rfl (.inl rfl) (pe_tup (pa_cons (pe_ix (r := rIxT K) ix_tup (pv 4) (pe_glob (v := .int 3) (by rfl) T.c_JUNCTION ⟨_, rfl⟩) (fun _ _ => rfl)) (pa_cons (pe_ix (r := rIxT K) ix_tup (pv 4) (pe_glob (v := .int 7) (by rfl) T.c_OVER ⟨_, rfl⟩) (fun _ _ => rfl)) pa_nil))))
      (pss_one (ps_if (pt_cmp (pc_dnotin (hu_of hr) (pv 5) (pv 3)))
        (pss_one (ps_dput (hu_of hr) (pv 3) (pv 5) (pe_call G_steps_to hr (by rfl) T.g_steps_to T.F_steps_to.kp T.b_steps_to .nil pass0 (pa_cons (pv 2) (pa_cons (pe_call G_lines_from hr (by rfl) T.g_lines_from T.F_lines_from.kp T.b_lines_from .nil pass0 (pa_cons (pv 0) (pa_cons (pe_ix (r := rIxT K) ix_tup (pv 4) (pe_glob (v := .int 3) (by rfl) T.c_JUNCTION ⟨_, rfl⟩) (fun _ _ => rfl)) (pa_cons (pe_ix (r := rIxT K) ix_tup (pv 4) (pe_glob (v := .int 7) (by rfl) T.c_OVER ⟨_, rfl⟩) (fun _ _ => rfl)) pa_nil)))) pa_nil))) (by rfl)))
        pss_nil))))
    (pss_one (ps_ret (pe_lc (own := [("row", 4)]) (g := gName 4) rfl sc_lacks_ahead.nd (pi_list (pv 1)) (blkOk_by (N := N_lacks_ahead) (sc := defScope s_lacks_ahead) (by decide +kernel)) (fun _ _ _ _ _ => (pg_name (i := 4) sc_lacks_ahead.nd rfl (.inl rfl))) (fun _ _ _ _ _ => pts_nil) (fun _ _ _ _ _ => (pe_dget (hu_of hr) (pv 3) (pe_tup (pa_cons (pe_ix (r := rIxT K) ix_tup (pv 4) (pe_glob (v := .int 3) (by rfl) T.c_JUNCTION ⟨_, rfl⟩) (fun _ _ => rfl)) (pa_cons (pe_ix (r := rIxT K) ix_tup (pv 4) (pe_glob (v := .int 7) (by rfl) T.c_OVER ⟨_, rfl⟩) (fun _ _ => rfl)) pa_nil))) (fun _ _ => rfl)))))))))
      , ?_⟩
    have tl := paired_len hp
    refine ⟨.ref r, rfl, r, ls, jns, rfl, hlj, hok, fun H1 B s1 nB hB => ?_⟩
    refine fun F nF => ?_
    have nF0 := up0 s1 nF
    have s2 := same_upd (o := .dT []) nF
    have s02 := s1.trans s2
    refine ⟨.ref l, rfl, l, rfl, ⟨_, SqL.of (s02 _ _ el)⟩, ?_⟩
    refine for_it (walk_list (xs := ts.map V.ref)) (fun i σ H3 => ∃ ys : List (Option V), ys.length = 2 ∧ σ = some (.ref r) :: some (.ref l) :: some (.ref B) :: some (.ref F) :: ys ∧ Same H H3 ∧ Same H1 H3 ∧ ∃ kvs, FdA jns H3 F kvs (rs.take i))
      ⟨_, rfl, rfl, s02, s2, [], upd_same, Nat.zero_le _, fun r v z => (by cases z), fun r hr => (by cases hr)⟩ (fun i σ H3 _ hp => ?_) (fun i v σ H3₀ H3 hi hp' yy => ?_) (fun σ H3 hp' => ?_)
    · obtain ⟨_, _, _, s3, _⟩ := hp
      exact SqL.of (s3 _ _ el)
    · obtain ⟨rfl, ex⟩ := yy
      obtain ⟨ys, hys, rfl, s3, s13, kvs, eF, kl, hval, hall⟩ := hp'
      match ys, hys with
      | [y4, y5], _ =>
      rw [List.length_map] at hi
      obtain ⟨t, et, rfl⟩ := at_ref ex
      obtain ⟨rr, er, ht⟩ := paired_get hp et
      obtain ⟨rok, j, jin, ej, oin⟩ := hrs rr (List.mem_of_getElem? er)
      have ht3 := s3 _ _ ht
      have tk1 : rs.take (i + 1) = rs.take i ++ [rr] := by rw [List.take_add_one, er]; rfl
      rw [List.length_take] at kl
      refine ⟨.ref t, rfl, t, _, 3, _, rfl, rfl, SqT.of ht3, atI_nat (j := 3) rok.i3, .ref t, rfl, t, _, 7, _, rfl, rfl, SqT.of ht3, atI_nat (j := 7) rok.i7, two_sz, fun u nu => ?_⟩
      have su := same_upd (o := .tup [nS rr.jn, nS rr.over]) nu
      have eFu := su _ _ eF
      have eu : (upd H3 u (.tup [nS rr.jn, nS rr.over])) u = some (.tup ((kP rr).map kV)) := upd_same
      have s3u := s3.trans su
      have s13u := s13.trans su
      have hval' : ∀ r v, valV kvs (kP r) = some v → ∃ d, v = .ref d ∧ d ≠ F ∧ LkA jns (upd H3 u (.tup [nS rr.jn, nS rr.over])) d r := fun r v z => let ⟨d, e1, e2, e3⟩ := hval r v z; ⟨d, e1, e2, e3.same su⟩
      have ht4 := su _ _ ht3
      generalize upd H3 u (.tup [nS rr.jn, nS rr.over]) = H4 at su eFu eu s3u s13u hval' ht4
      refine ⟨.ref u, rfl, .ref F, rfl, F, _, rfl, DGet.t (k := kP rr) eFu eu, _, rfl, ite2 (fun c => ?_) (fun c => ?_)⟩
      · refine ⟨.ref B, rfl, .ref r, rfl, .ref t, rfl, t, _, 3, _, rfl, rfl, SqT.of ht4, atI_nat (j := 3) rok.i3, .ref t, rfl, t, _, 7, _, rfl, rfl, SqT.of ht4, atI_nat (j := 7) rok.i7, ?_⟩
        refine ⟨r, rr.over, ls, jns, j, by rw [ej]; rfl, hlj.tk (.of s3u), hok, jnd, jin, oin, fun H5 fr s5 nfr efr => ?_⟩
        have hfr : fromL j.2 rr.over = fars jns rr := by
          unfold fars
          rw [← ej, jLines_of jnd jin]
        refine ⟨B, fr, ls, jns, fromL j.2 rr.over, rfl, (hB.same s13u).same s5, hok, efr, ?_, fun f hf => hok.sub j jin f (mem_fromL.mp hf).1, fun H6 d kv s6 nd ed hsa => ?_⟩
        · unfold fromL
          exact (hok.jnd j jin).filter _
        rw [hfr] at hsa
        have s46 := s5.trans s6
        have eF6 := s46 _ _ eFu
        have eu6 := s46 _ _ eu
        have ndF : d ≠ F := fun z => by
          have := s5 _ _ eFu
          rw [z, this] at nd
          cases nd
        refine ⟨.ref F, rfl, .ref u, rfl, F, _, rfl, DPut.t (k := kP rr) eF6 eu6 (small5000 (by omega)), ?_⟩
        have ofF : ∀ d' r', d' ≠ F → LkA jns H6 d' r' → LkA jns (upd H6 F (.dT (putK kvs (kP rr) (.ref d)))) d' r' := fun d' r' nd' ⟨kv', e1, e2⟩ => ⟨kv', by rw [upd_ne nd']; exact e1, e2⟩
        refine ⟨[some (.ref t), some (.ref u)], rfl, rfl, same_set (s3u.trans s46) nF0, same_set (s13u.trans s46) nF, putK kvs (kP rr) (.ref d), upd_same, ?_, fun r' v' z => ?_, fun r' hr' => ?_⟩
        · rw [tk1, List.length_append, List.length_singleton, List.length_take]
          have := length_putK kvs (kP rr) (.ref d)
          omega
        · rw [valV_put] at z
          by_cases ck : kP r' = kP rr
          · rw [if_pos ck] at z
            exact ⟨d, (Option.some.inj z).symm, ndF, ofF d r' ndF ⟨kv, ed, by rw [fars_eq ck]; exact hsa⟩⟩
          · rw [if_neg ck] at z
            obtain ⟨d', e1, e2, e3⟩ := hval' r' v' z
            exact ⟨d', e1, e2, ofF d' r' e2 (e3.same s46)⟩
        · rw [valV_put]
          by_cases ck : kP r' = kP rr
          · rw [if_pos ck]; exact ⟨_, rfl⟩
          · rw [if_neg ck]
            rw [tk1] at hr'
            rcases List.mem_append.mp hr' with z | z
            · exact hall r' z
            · exact absurd (by rw [List.mem_singleton.mp z]) ck
      · have hsome : ∃ v, valV kvs (kP rr) = some v := by
          cases z : valV kvs (kP rr) with
          | some v => exact ⟨v, rfl⟩
          | none => rw [z] at c; exact absurd rfl c
        refine ⟨[some (.ref t), some (.ref u)], rfl, rfl, s3u, s13u, kvs, eFu, ?_, hval', fun r' hr' => ?_⟩
        · rw [tk1, List.length_append, List.length_singleton, List.length_take]
          omega
        · rw [tk1] at hr'
          rcases List.mem_append.mp hr' with z | z
          · exact hall r' z
          · rw [List.mem_singleton.mp z]
            exact hsome
    · obtain ⟨ys, hys, rfl, s3, s13, kvs, eF, kl, hval, hall⟩ := hp'
      match ys, hys with
      | [y4, y5], _ =>
      rw [List.length_map, tl, List.take_length] at hall
      refine ⟨.ref l, rfl, l, rfl, ⟨_, SqL.of (s3 _ _ el)⟩, fun D nD => ?_⟩
      have nD0 := up0 s3 nD
      refine lc_it (walk_list (xs := ts.map V.ref)) (fun i Hx => Same H3 Hx ∧ ∃ ds : List Addr, Hx D = some (.lst (ds.map V.ref)) ∧ Paired (LkA jns Hx) ds (rs.take i)) ⟨same_upd nD, [], upd_same, .nil⟩ (fun i Hx _ pv => SqL.of (pv.1 _ _ (s3 _ _ el))) (fun i v Hx₀ Hx hi pv yy => ?_) (fun H4 pv => ?_)
      · obtain ⟨rfl, ex⟩ := yy
        obtain ⟨sx, ds, eD, hds⟩ := pv
        obtain ⟨t, et, rfl⟩ := at_ref ex
        obtain ⟨rr, er, ht⟩ := paired_get hp et
        obtain ⟨rok, _⟩ := hrs rr (List.mem_of_getElem? er)
        have htx := sx _ _ (s3 _ _ ht)
        obtain ⟨v, hv⟩ := hall rr (List.mem_of_getElem? er)
        obtain ⟨d, rfl, ndF, hd⟩ := hval rr v hv
        have dl := paired_len hds
        rw [List.length_take] at dl
        refine ⟨rfl, yes_ ⟨.ref F, rfl, .ref t, rfl, t, _, 3, _, rfl, rfl, SqT.of htx, atI_nat (j := 3) rok.i3, .ref t, rfl, t, _, 7, _, rfl, rfl, SqT.of htx, atI_nat (j := 7) rok.i7, two_sz, fun u nu => ?_⟩⟩
        have su := same_upd (o := .tup [nS rr.jn, nS rr.over]) nu
        have eu : (upd Hx u (.tup [nS rr.jn, nS rr.over])) u = some (.tup ((kP rr).map kV)) := upd_same
        have hg := DGet.t (k := kP rr) (su _ _ (sx _ _ eF)) eu
        rw [hv] at hg
        have eD' := su _ _ eD
        refine ⟨F, .ref d, rfl, hg, _, eD', by rw [List.length_map]; exact small5000 (by omega), same_set (sx.trans su) nD, ds ++ [d], by rw [upd_same, List.map_append]; rfl, ?_⟩
        have off : ∀ d' r', LkA jns (upd Hx u (.tup [nS rr.jn, nS rr.over])) d' r' → LkA jns (upd (upd Hx u (.tup [nS rr.jn, nS rr.over])) D (.lst (ds.map V.ref ++ [.ref d]))) d' r' := fun d' r' ⟨kv', e1, e2⟩ => ⟨kv', by rw [upd_ne fun z => by rw [z, eD'] at e1; cases e1]; exact e1, e2⟩
        rw [List.take_add_one, er]
        exact paired_snoc (paired_imp hds fun d' _ r' h => off d' r' (h.same su)) (off d rr ((hd.same sx).same su))
      obtain ⟨s4, ds, eD, hds⟩ := pv
      rw [List.length_map, tl, List.take_length] at hds
      exact q _ D ds (s3.trans s4) nD0 eD hds
end
end Th
namespace Th
open PySem PySem.Spec PyProof.Rows L2
theorem paired_rev {α β : Type} {R : α → β → Prop} : ∀ {as : List α} {bs : List β}, Paired R as bs → Paired R as.reverse bs.reverse
  | _, _, .nil => .nil
  | _, _, .cons h t => by
    rw [List.reverse_cons, List.reverse_cons]
    exact paired_snoc (paired_rev t) h
/-! the fewest wrong returns onward -/
/-- a dict that tells the fewest wrong ones of what is left, line by line -/
def FwA (jns : List (Nm × List Nm)) (ls : List Nm) (H : Hp) (d : Addr) (rs : List Rt) : Prop := ∃ kvs, H d = some (.dK kvs) ∧ ∀ l ∈ ls, valV kvs (Sum.inr (SX.S l)) = some (.int ((Fw jns rs l : Nat) : Int))
theorem FwA.same {jns : List (Nm × List Nm)} {ls : List Nm} {H H' : Hp} {d : Addr} {rs : List Rt} (h : FwA jns ls H d rs) (s : Same H H') : FwA jns ls H' d rs := let ⟨kvs, e, h⟩ := h; ⟨kvs, s _ _ e, h⟩
theorem FwA.off {jns : List (Nm × List Nm)} {ls : List Nm} {H : Hp} {d D : Addr} {rs : List Rt} {xs : List V} {o : HO} (h : FwA jns ls H d rs) (e : H D = some (.lst xs)) : FwA jns ls (upd H D o) d rs := let ⟨kvs, e1, h⟩ := h; ⟨kvs, by rw [upd_ne fun z => by rw [z, e] at e1; cases e1]; exact e1, h⟩
theorem LkA.off {jns : List (Nm × List Nm)} {H : Hp} {d D : Addr} {r : Rt} {xs : List V} {o : HO} (h : LkA jns H d r) (e : H D = some (.lst xs)) : LkA jns (upd H D o) d r := let ⟨kvs, e1, h⟩ := h; ⟨kvs, by rw [upd_ne fun z => by rw [z, e] at e1; cases e1]; exact e1, h⟩
abbrev sufR (rs : List Rt) (i : Nat) : List (List Rt) := (List.range (i + 1)).map fun j => rs.drop (rs.length - j)
theorem sufR_succ (rs : List Rt) (i : Nat) : sufR rs (i + 1) = sufR rs i ++ [rs.drop (rs.length - (i + 1))] := by
  unfold sufR
  rw [List.range_succ, List.map_append]
  rfl
theorem sufR_rev (rs : List Rt) : (sufR rs rs.length).reverse = (List.range (rs.length + 1)).map fun i => rs.drop i := by
  refine List.ext_getElem? fun i => ?_
  by_cases c : i < rs.length + 1
  · rw [List.getElem?_reverse (by rw [List.length_map, List.length_range]; exact c), List.getElem?_map, List.getElem?_map, List.length_map, List.length_range, List.getElem?_range (by omega), List.getElem?_range c]
    show some (rs.drop (rs.length - (rs.length + 1 - 1 - i))) = some (rs.drop i)
    rw [show rs.length - (rs.length + 1 - 1 - i) = i by omega]
  · rw [List.getElem?_eq_none (by rw [List.length_reverse, List.length_map, List.length_range]; omega), List.getElem?_eq_none (by rw [List.length_map, List.length_range]; omega)]
theorem drop_at {rs : List Rt} {i : Nat} {r : Rt} (hi : i < rs.length) (h : rs[rs.length - 1 - i]? = some r) : rs.drop (rs.length - (i + 1)) = r :: rs.drop (rs.length - i) := by
  have e : rs.length - (i + 1) = rs.length - 1 - i := by omega
  rw [e]
  have hl := (List.getElem?_eq_some_iff.mp h)
  rw [List.drop_eq_getElem_cons hl.1, hl.2]
  congr 2
  omega
theorem Fw_none {jns : List (Nm × List Nm)} {r : Rt} {rs : List Rt} {l : Nm} (h : lackF jns r l = none) : Fw jns (r :: rs) l = Fw jns rs l + 1 := by
  show (match lackF jns r l with | none => _ | some k => _) = _
  rw [h]
theorem Fw_some {jns : List (Nm × List Nm)} {r : Rt} {rs : List Rt} {l : Nm} {n : Nat} (h : lackF jns r l = some n) : Fw jns (r :: rs) l = min (Fw jns rs l + 1) (n + Fw jns rs r.over) := by
  show (match lackF jns r l with | none => _ | some k => _) = _
  rw [h]
section
variable {P : Program} {w : World} {K : PySem.W.Frag} {mg : Str → Option Value} {base : Heap} {k : Nat}
def sp_fewest_onward (K : PySem.W.Frag) : Sp := fun vs H Q _ => ∃ (r l m : Addr) (ts ds : List Addr) (rs : List Rt) (ls : List Nm) (jns : List (Nm × List Nm)), vs = [.ref r, .ref l, .ref m] ∧ H l = some (.lst (ts.map V.ref)) ∧ Paired (RtA H) ts rs ∧ (∀ r ∈ rs, RtOk r ∧ RtFit jns r) ∧ H m = some (.lst (ds.map V.ref)) ∧ Paired (LkA jns H) ds rs ∧ ts.length ≤ 1000 ∧ LJ K H r ls jns ∧ LJok ls jns ∧
  ∀ H' p fs, Same H H' → H p = none → H' p = some (.lst (fs.map V.ref)) → Paired (FwA jns ls H') fs ((List.range (rs.length + 1)).map fun i => rs.drop i) → Q (.ref p) H'
set_option maxHeartbeats 16000000 in
theorem ok_fewest_onward (T : Defs K mg) : FnOk P w K mg base CX0 (k + 1) T.a_fewest_onward T.d_fewest_onward ["net", "rows", "lacks"] (sp_fewest_onward K) := by
  refine T.F_fewest_onward.ok sc_fewest_onward (fun vs H Q E h => ?_) (fun cdv A outer s H vs Q E hr h => ?_)
  · obtain ⟨r, l, m, ts, ds, rs, ls, jns, rfl, _⟩ := h
    rfl
  · obtain ⟨r, l, m, ts, ds, rs, ls, jns, rfl, el, hp, hrs, em, hds, t1000, hlj, hok, q⟩ := h
    refine ⟨_, PSs.nox
(pss_cons (ps_set (i := 3) sc_fewest_onward.nd rfl (.inl rfl) (pe_lst (pa_cons (pe_dc (own := [("line", 8)]) (g := gName 8) rfl sc_fewest_onward.nd (pi_tup (pe_ix (r := rIxT K) ix_tup (pv 0) (pe_int) (fun _ _ => rfl))) (blkOk_by (N := N_fewest_onward) (sc := defScope s_fewest_onward) (by decide +kernel)) (fun _ _ _ _ _ => (pg_name (i := 8) sc_fewest_onward.nd rfl (.inl rfl))) (fun _ _ _ _ _ => pts_nil) (fun _ _ _ _ _ => (pv 8)) (fun _ _ _ _ _ => (pe_int))) pa_nil)))
    (pss_cons (ps_for PassesOwn.never rfl (pi_reversed (by rfl) T.z_reversed (pa_cons (Lz.pe_listZip rfl (by rfl) T.z_list (by rfl) T.z_zip (pa_cons (pv 1) (pa_cons (pv 2) pa_nil))) pa_nil)) (pg_tup rfl (pgs_cons (pg_name (i := 4) sc_fewest_onward.nd rfl (.inl rfl)) (pgs_cons (pg_name (i := 5) sc_fewest_onward.nd rfl (.inl rfl)) pgs_nil)))
      (pss_cons (ps_set (i := 6) sc_fewest_onward.nd rfl (.inl rfl) (pe_ix (r := rIxL K) ix_list (pv 3) (pe_un un_neg (pe_int)) (fun _ _ => rfl)))
      (pss_cons (ps_set (i := 7) sc_fewest_onward.nd rfl (.inl rfl) (pe_dnewK))
      (pss_cons (ps_for PassesOwn.never rfl (pi_tup (pe_ix (r := rIxT K) ix_tup (pv 0) (pe_int) (fun _ _ => rfl))) (pg_name (i := 8) sc_fewest_onward.nd rfl (.inl rfl))
        (pss_cons (ps_dput (hu_of hr) (pv 7) (pv 8) (pe_op op_add (pe_dget (hu_of hr) (pv 6) (pv 8) (fun _ _ => rfl)) (pe_int)) (by rfl))
        (pss_one (ps_if (pt_cmp (pc_din (hu_of hr) (pv 8) (pv 5)))
          (pss_one (ps_dput (hu_of hr) (pv 7) (pv 8) (pe_callB (call_min2 rfl) (by rfl) T.z_min (by decide +kernel) (pa_cons (pe_dget (hu_of hr) (pv 7) (pv 8) (fun _ _ => rfl)) (pa_cons (pe_op op_add (pe_dget (hu_of hr) (pv 5) (pv 8) (fun _ _ => rfl)) (pe_dget (hu_of hr) (pv 6) (pe_ix (r := rIxT K) ix_tup (pv 4) (pe_glob (v := .int 7) (by rfl) T.c_OVER ⟨_, rfl⟩) (fun _ _ => rfl)) (fun _ _ => rfl))) pa_nil))) (by rfl)))
          pss_nil))))
      (pss_one (ps_expr (pe_bm PySem.F.plainAttrs_list PySem.F.slot_list_append PySem.F.type_list_append mt_append (pv 3) (pa_cons (pv 7) pa_nil))))))))
    (pss_cons (ps_expr (pe_bm0 PySem.F.plainAttrs_list PySem.F.slot_list_reverse PySem.F.type_list_reverse mt_reverse (pv 3)))
    (pss_one (ps_ret (pv 3))))))
      , ?_⟩
    have tl := paired_len hp
    have dl := paired_len hds
    have l8 := hok.l8
    obtain ⟨a, c, b, d, ja, er, ea, _⟩ := id hlj
    refine ⟨.ref r, rfl, r, [.ref a, b, .ref c, d], 0, .ref a, rfl, rfl, er, atI_nat (j := 0) rfl, a, rfl, ⟨_, ea⟩, fun D nD => ?_⟩
    refine dc_tup (xs := ls.map nS) (fun i H3 => Same H H3 ∧ ∃ kvs : List (Key × V), H3 D = some (.dK kvs) ∧ kvs.length ≤ i ∧ ∀ x ∈ ls.take i, valV kvs (Sum.inr (SX.S x)) = some (.int 0)) ⟨same_upd nD, [], upd_same, Nat.le_refl _, fun x hx => (by cases hx)⟩ (fun i H3 _ pv => sqs pv.1 ea) (fun i x H3 ex pv => ?_) (fun H3 pv => ?_)
    · obtain ⟨s3, kvs, eD, hl, hv⟩ := pv
      obtain ⟨x, exx, rfl⟩ := at_nm ex
      have ilt : i < ls.length := (List.getElem?_eq_some_iff.mp exx).1
      refine ⟨rfl, yes_ ⟨nS x, rfl, kvs, Sum.inr (SX.S x), rfl, eD, small5000 (by omega), same_set s3 nD, _, upd_same, ?_, fun y hy => ?_⟩⟩
      · have := length_putK kvs (Sum.inr (SX.S x)) (V.int 0)
        omega
      · rw [valV_put]
        by_cases c : y = x
        · rw [if_pos (by rw [c])]
        · rw [if_neg (fun q => c (SX.S_inj (Sum.inr.inj q)))]
          rw [List.take_add_one, exx] at hy
          rcases List.mem_append.mp hy with z | z
          · exact hv y z
          · exact absurd (List.mem_singleton.mp z) c
    obtain ⟨s3, kvs0, eD, hl0, hv0⟩ := pv
    rw [List.length_map, List.take_length] at hv0
    refine ⟨by show 1 ≤ sizeLine; decide, fun F nF => ?_⟩
    have nF0 := up0 s3 nF
    have s4 := same_upd (o := .lst [.ref D]) nF
    have s04 := s3.trans s4
    refine ⟨.ref l, rfl, .ref m, rfl, l, m, _, _, rfl, SqL.of (s04 _ _ el), SqL.of (s04 _ _ em), by rw [List.length_map, List.length_map, tl, dl], by rw [List.length_map]; omega, fun H5 Z zs s5 nZ nzs nin nd eZ tups => ?_⟩
    have s05 := s04.trans s5
    have eF5 : H5 F = some (.lst ([D].map V.ref)) := s5 _ _ upd_same
    have zl : zs.length = rs.length := by
      rw [paired_len tups, List.length_zip, List.length_map, List.length_map]
      omega
    have nZF : Z ≠ F := fun z => by rw [z, upd_same] at nZ; cases nZ
    have nzF : ∀ t ∈ zs, t ≠ F := fun t ht z => by
      have := nzs t ht
      rw [z, upd_same] at this
      cases this
    have hpair : ∀ {i : Nat} {z : Addr}, zs[i]? = some z → ∃ t r' d', rs[i]? = some r' ∧ RtA H t r' ∧ LkA jns H d' r' ∧ H5 z = some (.tup [.ref t, .ref d']) := fun {i z} hz => by
      obtain ⟨⟨x, y⟩, e1, e2⟩ := paired_get tups hz
      obtain ⟨g1, g2⟩ := List.getElem?_zip_eq_some.mp e1
      obtain ⟨t, et, ex⟩ := at_ref g1
      obtain ⟨d', ed, ey⟩ := at_ref g2
      obtain ⟨r', er', ht⟩ := paired_get hp et
      obtain ⟨r2, er2, hd⟩ := paired_get hds ed
      have := Option.some.inj (er'.symm.trans er2)
      subst this
      have ex : x = .ref t := ex
      have ey : y = .ref d' := ey
      subst ex ey
      exact ⟨t, r', d', er', ht, hd, e2⟩
    refine ⟨Z, _, rfl, SqL.of eZ, ?_⟩
    refine for_it (walk_rev (xs := zs.map V.ref)) (fun i σ Hx => ∃ ys : List (Option V), ys.length = 5 ∧ σ = some (.ref r) :: some (.ref l) :: some (.ref m) :: some (.ref F) :: ys ∧ Same H Hx ∧ (∀ b o, b ≠ F → H5 b = some o → Hx b = some o) ∧ ∃ fs : List Addr, Hx F = some (.lst (fs.map V.ref)) ∧ Paired (FwA jns ls Hx) fs (sufR rs i))
      ⟨_, rfl, rfl, s05, fun _ _ _ h => h, [D], eF5, .cons ⟨kvs0, s5 _ _ (s4 _ _ eD), fun x hx => ?_⟩ .nil⟩ (fun i σ Hx _ hp' => ?_) (fun i v σ Hx₀ Hx hi hp' yy => ?_) (fun σ Hx hp' => ?_)
    · show _ = some (V.int ((Fw jns (rs.drop (rs.length - 0)) x : Nat) : Int))
      rw [hv0 x hx, Nat.sub_zero, List.drop_length]
      rfl
    · obtain ⟨_, _, _, _, kx, _⟩ := hp'
      exact SqL.of (kx _ _ nZF eZ)
    · obtain ⟨rfl, ex⟩ := yy
      obtain ⟨ys, hys, rfl, sx, kx, fs, eF, hfs⟩ := hp'
      match ys, hys with
      | [y4, y5, y6, y7, y8], _ =>
      rw [List.length_map, zl] at hi ex
      obtain ⟨z, ez, rfl⟩ := at_ref ex
      obtain ⟨t, rr, d', err, ht, hd', hz⟩ := hpair ez
      have hzx := kx _ _ (nzF z (List.mem_of_getElem? ez)) hz
      obtain ⟨rok, j, jin, ej, oin⟩ := hrs rr (List.mem_of_getElem? err)
      have oinl : rr.over ∈ ls := hok.sub j jin _ oin
      have htx := sx _ _ ht
      have hdx := hd'.same sx
      have fl := paired_len hfs
      rw [List.length_map, List.length_range] at fl
      obtain ⟨fi, fz, rfl, hfi, hfz⟩ : ∃ fi fz, fs = fi ++ [fz] ∧ Paired (FwA jns ls Hx) fi ((List.range i).map fun j => rs.drop (rs.length - j)) ∧ FwA jns ls Hx fz (rs.drop (rs.length - i)) := by
        have e : sufR rs i = ((List.range i).map fun j => rs.drop (rs.length - j)) ++ [rs.drop (rs.length - i)] := by
          unfold sufR
          rw [List.range_succ, List.map_append]
          rfl
        rw [e] at hfs
        have hl2 := paired_len hfs
        rcases List.eq_nil_or_concat fs with z | ⟨fi, fz, z⟩
        · rw [z] at hl2; simp at hl2
        · rw [List.concat_eq_append] at z
          subst z
          have l2 : fi.length = ((List.range i).map fun j => rs.drop (rs.length - j)).length := by simpa using hl2
          refine ⟨fi, fz, rfl, ?_, ?_⟩
          · have := paired_take fi.length hfs
            rw [List.take_left, l2, List.take_left] at this
            exact this
          · obtain ⟨y, h1, h2⟩ := paired_get hfs (i := fi.length) (a := fz) (by rw [List.getElem?_append_right (Nat.le_refl _), Nat.sub_self]; rfl)
            rw [l2, List.getElem?_append_right (Nat.le_refl _), Nat.sub_self] at h1
            have := Option.some.inj h1
            rw [this]
            exact h2
      obtain ⟨kvz, ekz, hkz⟩ := id hfz
      obtain ⟨kvd, ekd, hsa⟩ := id hdx
      have hdrop := drop_at (rs := rs) hi err
      have hkz : ∀ l ∈ ls, valV kvz (Sum.inr (SX.S l)) = some (.int ((Fw jns (rs.drop (rs.length - i)) l : Nat) : Int)) := hkz
      refine ⟨z, _, rfl, SqT.of hzx, rfl, _, _, rfl, _, [], rfl, rfl, ?_⟩
      refine ⟨.ref F, rfl, _, rfl, F, _, -1, _, rfl, rfl, SqL.of eF, by rw [List.map_append]; exact atI_last _ _, ?_⟩
      refine fun W nW => ?_
      have sW := same_upd (o := .dK []) nW
      have nWF : W ≠ F := fun z => by rw [z, eF] at nW; cases nW
      refine ⟨.ref r, rfl, r, [.ref a, b, .ref c, d], 0, .ref a, rfl, rfl, sqs (sx.trans sW) er, atI_nat (j := 0) rfl, a, rfl, ⟨_, sqs (sx.trans sW) ea⟩, ?_⟩
      refine for_it (walk_tup (xs := ls.map nS)) (fun n σ Hy => ∃ y8 : Option V, σ = [some (.ref r), some (.ref l), some (.ref m), some (.ref F), some (.ref t), some (.ref d'), some (.ref fz), some (.ref W), y8] ∧ Same Hx Hy ∧ ∃ kvs : List (Key × V), Hy W = some (.dK kvs) ∧ kvs.length ≤ 2 * n ∧ ∀ x ∈ ls.take n, valV kvs (Sum.inr (SX.S x)) = some (.int ((Fw jns (rr :: rs.drop (rs.length - i)) x : Nat) : Int)))
        ⟨_, rfl, sW, [], upd_same, Nat.le_refl _, fun x hx => (by cases hx)⟩ (fun n σ Hy _ hq => ?_) (fun n v σ Hy₀ Hy hn hq yy => ?_) (fun σ Hy hq => ?_)
      · obtain ⟨_, _, sy, _⟩ := hq
        exact sqs (sx.trans sy) ea
      · obtain ⟨rfl, ex⟩ := yy
        obtain ⟨y8, rfl, sy, kvs, eW, kl, hv⟩ := hq
        obtain ⟨x, exx, rfl⟩ := at_nm ex
        have nlt : n < ls.length := (List.getElem?_eq_some_iff.mp exx).1
        have xin : x ∈ ls := List.mem_of_getElem? exx
        have gz := DGet.k (k := Sum.inr (SX.S x)) (sy _ _ ekz)
        rw [hkz x xin] at gz
        refine ⟨.ref fz, rfl, nS x, rfl, fz, _, rfl, gz, _, _, rfl, rfl, .ref W, rfl, nS x, rfl, W, _, rfl, DPut.k (k := Sum.inr (SX.S x)) eW (small5000 (by omega)), ?_⟩
        have eW2 : (upd Hy W (.dK (putK kvs (Sum.inr (SX.S x)) (.int ((Fw jns (rs.drop (rs.length - i)) x : Nat) + 1))))) W = some (.dK (putK kvs (Sum.inr (SX.S x)) (.int ((Fw jns (rs.drop (rs.length - i)) x : Nat) + 1)))) := upd_same
        have nW0 : Hx W = none := nW
        have sy2 : Same Hx (upd Hy W (.dK (putK kvs (Sum.inr (SX.S x)) (.int ((Fw jns (rs.drop (rs.length - i)) x : Nat) + 1))))) := same_set sy nW0
        have kl2 := length_putK kvs (Sum.inr (SX.S x)) (V.int ((Fw jns (rs.drop (rs.length - i)) x : Nat) + 1))
        have hv2 : ∀ y, valV (putK kvs (Sum.inr (SX.S x)) (V.int ((Fw jns (rs.drop (rs.length - i)) x : Nat) + 1))) (Sum.inr (SX.S y)) = if y = x then some (V.int ((Fw jns (rs.drop (rs.length - i)) x : Nat) + 1)) else valV kvs (Sum.inr (SX.S y)) := fun y => by
          rw [valV_put]
          by_cases c : y = x
          · rw [if_pos (by rw [c]), if_pos c]
          · rw [if_neg (fun q => c (SX.S_inj (Sum.inr.inj q))), if_neg c]
        generalize putK kvs (Sum.inr (SX.S x)) (V.int ((Fw jns (rs.drop (rs.length - i)) x : Nat) + 1)) = kv2 at eW2 sy2 kl2 hv2
        generalize upd Hy W (.dK kv2) = Hz at eW2 sy2
        have gd := DGet.k (k := Sum.inr (SX.S x)) (sy2 _ _ ekd)
        rw [sa_val hsa x] at gd
        refine ⟨nS x, rfl, .ref d', rfl, d', _, rfl, gd, _, rfl, ?_⟩
        cases hlk : lackF jns rr x with
        | none =>
          refine iteF ?_
          refine ⟨_, rfl, sy2, kv2, eW2, by omega, fun y hy => ?_⟩
          rw [hv2 y]
          by_cases c : y = x
          · rw [if_pos c, c, Fw_none hlk]
            rfl
          · rw [if_neg c]
            rw [List.take_add_one, exx] at hy
            rcases List.mem_append.mp hy with z | z
            · exact hv y z
            · exact absurd (List.mem_singleton.mp z) c
        | some nk =>
          rw [hlk] at gd
          refine iteT ?_
          have gw := DGet.k (k := Sum.inr (SX.S x)) eW2
          rw [hv2 x, if_pos rfl] at gw
          have go := DGet.k (k := Sum.inr (SX.S rr.over)) (sy2 _ _ ekz)
          rw [hkz _ oinl] at go
          refine ⟨.ref W, rfl, nS x, rfl, W, _, rfl, gw, .ref d', rfl, nS x, rfl, d', _, rfl, gd, .ref fz, rfl, .ref t, rfl, t, _, 7, _, rfl, rfl, SqT.of (sy2 _ _ htx), atI_nat (j := 7) rok.i7, fz, _, rfl, go, _, _, rfl, rfl, _, _, rfl, .ref W, rfl, nS x, rfl, W, _, rfl, DPut.k (k := Sum.inr (SX.S x)) eW2 (small5000 (by omega)), ?_⟩
          refine ⟨_, rfl, same_set sy2 nW0, _, upd_same, ?_, fun y hy => ?_⟩
          · have := length_putK kv2 (Sum.inr (SX.S x)) (V.int (if (((nk : Nat) : Int) + ((Fw jns (rs.drop (rs.length - i)) rr.over : Nat) : Int)) < ((Fw jns (rs.drop (rs.length - i)) x : Nat) : Int) + 1 then (((nk : Nat) : Int) + ((Fw jns (rs.drop (rs.length - i)) rr.over : Nat) : Int)) else ((Fw jns (rs.drop (rs.length - i)) x : Nat) : Int) + 1))
            exact Nat.le_trans this (by omega)
          · rw [valV_put]
            by_cases c : y = x
            · rw [if_pos (by rw [c]), c, Fw_some hlk]
              congr 2
              rw [Nat.min_def]
              split <;> split <;> omega
            · rw [if_neg (fun q => c (SX.S_inj (Sum.inr.inj q))), hv2 y, if_neg c]
              rw [List.take_add_one, exx] at hy
              rcases List.mem_append.mp hy with z | z
              · exact hv y z
              · exact absurd (List.mem_singleton.mp z) c
      · obtain ⟨y8, rfl, sy, kvs, eW, kl, hv⟩ := hq
        rw [List.length_map, List.take_length] at hv
        have eFy := sy _ _ eF
        refine ⟨.ref F, rfl, .inl ⟨rfl, _, SqL.of eFy⟩, .ref W, rfl, F, _, _, rfl, rfl, eFy, by rw [List.length_map]; exact small5000 (by omega), ?_⟩
        refine ⟨_, rfl, rfl, same_set (sx.trans sy) nF0, fun b o nb hb => by rw [upd_ne nb]; exact sy _ _ (kx _ _ nb hb), fi ++ [fz] ++ [W], by rw [upd_same, List.map_append (l₁ := fi ++ [fz])]; rfl, ?_⟩
        rw [sufR_succ, hdrop]
        exact paired_snoc (paired_imp hfs fun d _ rr h => (h.same sy).off eFy) (FwA.off ⟨kvs, eW, hv⟩ eFy)
    · obtain ⟨ys, hys, rfl, sx, kx, fs, eF, hfs⟩ := hp'
      match ys, hys with
      | [y4, y5, y6, y7, y8], _ =>
      rw [List.length_map, zl] at hfs
      refine ⟨.ref F, rfl, .inl ⟨rfl, _, SqL.of eF⟩, F, _, rfl, rfl, eF, ?_⟩
      refine ⟨.ref F, rfl, q _ F fs.reverse (same_set sx nF0) nF0 (by rw [upd_same, List.map_reverse]) ?_⟩
      rw [← sufR_rev]
      exact paired_imp (paired_rev hfs) fun d _ rr h => h.off eF
end
end Th
namespace Th
open PySem PySem.Spec PyProof.Rows L2
/-! the steps of a history -/
inductive Stp where
  | aside (n : Int)
  | gap (rd : List Nm)
  | held (n : Int) (l o : Nm)
def StpA (H : Hp) (a : Addr) : Stp → Prop
  | .aside n => H a = some (.tup [.str "aside", .int n])
  | .gap rd => ∃ u, H a = some (.tup [.str "gap", .ref u]) ∧ H u = some (.tup (rd.map nS))
  | .held n l o => H a = some (.tup [.str "held", .int n, nS l, nS o])
theorem StpA.tk {H H' : Hp} {a : Addr} {s : Stp} (h : StpA H a s) (t : ∀ b xs, H b = some (.tup xs) → H' b = some (.tup xs)) : StpA H' a s := by
  cases s with
  | aside n => exact t _ _ h
  | gap rd => obtain ⟨u, e1, e2⟩ := h; exact ⟨u, t _ _ e1, t _ _ e2⟩
  | held n l o => exact t _ _ h
def SsA (H : Hp) (D : Addr) (ss : List Stp) : Prop := ∃ fa : List Addr, H D = some (.lst (fa.map V.ref)) ∧ Paired (StpA H) fa ss
theorem SsA.ext {H H' : Hp} {D : Addr} {ss : List Stp} (h : SsA H D ss) (e : LamX.ExtN H H') : SsA H' D ss := let ⟨fa, e1, p⟩ := h; ⟨fa, e _ _ e1 fun _ z => (nomatch z), paired_imp p fun a _ s h => h.tk fun b xs q => e _ _ q fun _ z => (nomatch z)⟩
theorem SsA.same {H H' : Hp} {D : Addr} {ss : List Stp} (h : SsA H D ss) (s : Same H H') : SsA H' D ss := h.ext (.of s)
theorem SsA.app {H : Hp} {D u : Addr} {fa : List Addr} {ss : List Stp} {s : Stp} (e : H D = some (.lst (fa.map V.ref))) (p : Paired (StpA H) fa ss) (h : StpA H u s) : SsA (upd H D (.lst (fa.map V.ref ++ [.ref u]))) D (ss ++ [s]) := by
  have t : ∀ b xs, H b = some (.tup xs) → (upd H D (.lst (fa.map V.ref ++ [.ref u]))) b = some (.tup xs) := fun b xs q => by
    rw [upd_ne fun z => by rw [z, e] at q; cases q]
    exact q
  exact ⟨fa ++ [u], by rw [upd_same, List.map_append]; rfl, paired_snoc (paired_imp p fun a _ s h => h.tk t) (h.tk t)⟩
theorem rd_uni {jns : List (Nm × List Nm)} {fars : List Nm} {x : Nm} {r t : List Nm} (h : Rd' jns fars x r) (k : Rd' jns fars x t) : r = t := by
  rcases h with ⟨n, h1, h2⟩ | ⟨h1, h2⟩
  · rcases k with ⟨m, k1, k2⟩ | ⟨k1, _⟩
    · have := h1.eq k1
      subst this
      exact h2.eq k2
    · exact absurd h1 (k1 n)
  · rcases k with ⟨m, k1, k2⟩ | ⟨k1, k2⟩
    · exact absurd k1 (h1 m)
    · rw [h2, k2]
/-- the road of the gap ahead of a return -/
noncomputable def roadF (jns : List (Nm × List Nm)) (r : Rt) (l : Nm) : List Nm := open Classical in if h : ∃ rd, Rd' jns (fars jns r) l rd then Classical.choose h else []
theorem roadF_of {jns : List (Nm × List Nm)} {r : Rt} {l : Nm} {rd : List Nm} (h : Rd' jns (fars jns r) l rd) : roadF jns r l = rd := by
  unfold roadF
  have c : ∃ rd, Rd' jns (fars jns r) l rd := ⟨rd, h⟩
  rw [dif_pos c]
  exact rd_uni (Classical.choose_spec c) h
/-- the road's last line -/
abbrev lastN (rd : List Nm) : Nm := rd.getLast?.getD []
noncomputable def stepsM (jns : List (Nm × List Nm)) : List Rt → Nm → List Stp
  | [], _ => []
  | r :: rs, l => match lackF jns r l with
    | none => .aside r.num :: stepsM jns rs l
    | some n => if Fw jns (r :: rs) l < n + Fw jns rs r.over then .aside r.num :: stepsM jns rs l
      else if 0 < n then .gap (roadF jns r l) :: .held r.num (lastN (roadF jns r l)) r.over :: stepsM jns rs r.over
      else .held r.num l r.over :: stepsM jns rs r.over
theorem stepsM_none {jns : List (Nm × List Nm)} {r : Rt} {rs : List Rt} {l : Nm} (h : lackF jns r l = none) : stepsM jns (r :: rs) l = .aside r.num :: stepsM jns rs l := by
  show (match lackF jns r l with | none => _ | some k => _) = _
  rw [h]
theorem stepsM_some {jns : List (Nm × List Nm)} {r : Rt} {rs : List Rt} {l : Nm} {n : Nat} (h : lackF jns r l = some n) : stepsM jns (r :: rs) l = if Fw jns (r :: rs) l < n + Fw jns rs r.over then .aside r.num :: stepsM jns rs l
      else if 0 < n then .gap (roadF jns r l) :: .held r.num (lastN (roadF jns r l)) r.over :: stepsM jns rs r.over
      else .held r.num l r.over :: stepsM jns rs r.over := by
  show (match lackF jns r l with | none => _ | some k => _) = _
  rw [h]
theorem suf_at {rs : List Rt} {i : Nat} (h : i ≤ rs.length) : ((List.range (rs.length + 1)).map fun i => rs.drop i)[i]? = some (rs.drop i) := by
  rw [List.getElem?_map, List.getElem?_range (by omega)]
  rfl
theorem paired_atC {α β : Type} {R : α → β → Prop} {as : List α} {bs : List β} {i : Nat} {b : β} (h : Paired R as bs) (e : bs[i]? = some b) : ∃ a, as[i]? = some a ∧ R a b := by
  have l := paired_len h
  have hi : i < as.length := by rw [l]; exact (List.getElem?_eq_some_iff.mp e).1
  obtain ⟨b', h1, h2⟩ := paired_get h (List.getElem?_eq_getElem hi)
  have := Option.some.inj (e.symm.trans h1)
  subst this
  exact ⟨_, List.getElem?_eq_getElem hi, h2⟩
theorem at_refC {as : List Addr} {i : Nat} {a : Addr} (h : as[i]? = some a) : (as.map V.ref)[i]? = some (.ref a) := by rw [List.getElem?_map, h]; rfl
section
variable {P : Program} {w : World} {K : PySem.W.Frag} {mg : Str → Option Value} {base : Heap} {k : Nat}
def sp_steps_of (K : PySem.W.Frag) : Sp := fun vs H Q _ => ∃ (r l m f : Addr) (x : Nm) (ts ds fs : List Addr) (rs : List Rt) (ls : List Nm) (jns : List (Nm × List Nm)), vs = [.ref r, nS x, .ref l, .ref m, .ref f] ∧ H l = some (.lst (ts.map V.ref)) ∧ Paired (RtA H) ts rs ∧ (∀ r ∈ rs, RtOk r ∧ RtFit jns r) ∧ H m = some (.lst (ds.map V.ref)) ∧ Paired (LkA jns H) ds rs ∧ H f = some (.lst (fs.map V.ref)) ∧ Paired (FwA jns ls H) fs ((List.range (rs.length + 1)).map fun i => rs.drop i) ∧ ts.length ≤ 1000 ∧ LJ K H r ls jns ∧ LJok ls jns ∧ (jns.map (·.1)).Nodup ∧ x ∈ ls ∧
  ∀ H' D, Same H H' → H D = none → SsA H' D (stepsM jns rs x) → Q (.ref D) H'
set_option maxHeartbeats 16000000 in
theorem ok_steps_of (T : Defs K mg) : FnOk P w K mg base CX0 (k + 5) T.a_steps_of T.d_steps_of ["net", "line", "rows", "lacks", "fewest"] (sp_steps_of K) := by
  have G_gap_road : FnOk P w K mg base CX0 (k + 4) _ _ _ _ := ok_gap_road T
  refine T.F_steps_of.ok sc_steps_of (fun vs H Q E h => ?_) (fun cdv A outer s H vs Q E hr h => ?_)
  · obtain ⟨r, l, m, f, x, ts, ds, fs, rs, ls, jns, rfl, _⟩ := h
    rfl
  · obtain ⟨r, l, m, f, x, ts, ds, fs, rs, ls, jns, rfl, el, hp, hrs, em, hds, ef, hfs, t1000, hlj, hok, jnd, xin, q⟩ := h
    refine ⟨_, PSs.nox
(pss_cons (ps_set (i := 5) sc_steps_of.nd rfl (.inl rfl) (pe_lst pa_nil))
    (pss_cons (ps_for PassesOwn.never rfl (pi_enum (by rfl) T.z_enumerate (pa_cons (pv 2) pa_nil)) (pg_tup rfl (pgs_cons (pg_name (i := 6) sc_steps_of.nd rfl (.inl rfl)) (pgs_cons (pg_name (i := 7) sc_steps_of.nd rfl (.inl rfl)) pgs_nil)))
      (pss_cons (ps_set (i := 8) sc_steps_of.nd rfl (.inl rfl) (pe_dget1 (hu_of hr) (pe_ix (r := rIxL K) ix_list (pv 3) (pv 6) (fun _ _ => rfl)) (pv 1) ⟨rfl, rfl, rfl, rfl⟩))
      (pss_cons (ps_if (PW.pt (pw_or (pt_cmpR op_isN (pv 8) (pe_non) (nomark _)) (pw_or1 (pt_cmpR op_gt (pe_op op_add (pv 8) (pe_dget (hu_of hr) (pe_ix (r := rIxL K) ix_list (pv 4) (pe_op op_add (pv 6) (pe_int)) (fun _ _ => rfl)) (pe_ix (r := rIxT K) ix_tup (pv 7) (pe_glob (v := .int 7) (by rfl) T.c_OVER ⟨_, rfl⟩) (fun _ _ => rfl)) (fun _ _ => rfl))) (pe_dget (hu_of hr) (pe_ix (r := rIxL K) ix_list (pv 4) (pv 6) (fun _ _ => rfl)) (pv 1) (fun _ _ => rfl)) (nomark _)))))
        (pss_cons (ps_expr (pe_bm PySem.F.plainAttrs_list PySem.F.slot_list_append PySem.F.type_list_append mt_append (pv 5) (pa_cons (pe_tup (pa_cons (pe_str) (pa_cons (pe_ix (r := rIxT K) ix_tup (pv 7) (pe_glob (v := .int 1) (by rfl) T.c_NUMBER ⟨_, rfl⟩) (fun _ _ => rfl)) pa_nil))) pa_nil)))
        (pss_one (ps_continue)))
        pss_nil)
      (Evl.pss_cut (ps_if (pt_cmpR op_gt (pv 8) (pe_int) (nomark _))
        (pss_cons (ps_set (i := 9) sc_steps_of.nd rfl (.inl rfl) (pe_call G_gap_road hr (by rfl) T.g_gap_road T.F_gap_road.kp T.b_gap_road .nil pass0 (pa_cons (pv 0) (pa_cons (pv 1) (pa_cons (pe_ix (r := rIxT K) ix_tup (pv 7) (pe_glob (v := .int 3) (by rfl) T.c_JUNCTION ⟨_, rfl⟩) (fun _ _ => rfl)) (pa_cons (pe_ix (r := rIxT K) ix_tup (pv 7) (pe_glob (v := .int 7) (by rfl) T.c_OVER ⟨_, rfl⟩) (fun _ _ => rfl)) pa_nil))))))
        (pss_cons (ps_expr (pe_bm PySem.F.plainAttrs_list PySem.F.slot_list_append PySem.F.type_list_append mt_append (pv 5) (pa_cons (pe_tup (pa_cons (pe_str) (pa_cons (pe_callTy call_tuple_of (by rfl) T.z_tuple (by decide +kernel) (pa_cons (pv 9) pa_nil)) pa_nil))) pa_nil)))
        (pss_one (ps_set (i := 1) sc_steps_of.nd rfl (.inl rfl) (pe_ix (r := rIxL K) ix_list (pv 9) (pe_un un_neg (pe_int)) (fun _ _ => rfl))))))
        pss_nil)
      (pss_cons (ps_expr (pe_bm PySem.F.plainAttrs_list PySem.F.slot_list_append PySem.F.type_list_append mt_append (pv 5) (pa_cons (pe_tup (pa_cons (pe_str) (pa_cons (pe_ix (r := rIxT K) ix_tup (pv 7) (pe_glob (v := .int 1) (by rfl) T.c_NUMBER ⟨_, rfl⟩) (fun _ _ => rfl)) (pa_cons (pv 1) (pa_cons (pe_ix (r := rIxT K) ix_tup (pv 7) (pe_glob (v := .int 7) (by rfl) T.c_OVER ⟨_, rfl⟩) (fun _ _ => rfl)) pa_nil))))) pa_nil)))
      (pss_one (ps_set (i := 1) sc_steps_of.nd rfl (.inl rfl) (pe_ix (r := rIxT K) ix_tup (pv 7) (pe_glob (v := .int 7) (by rfl) T.c_OVER ⟨_, rfl⟩) (fun _ _ => rfl)))))))))
    (pss_one (ps_ret (pv 5)))))
      , ?_⟩
    have tl := paired_len hp
    refine ⟨Nat.zero_le _, fun F nF => ?_⟩
    have s1 := same_upd (o := .lst []) nF
    refine ⟨.ref l, rfl, l, _, rfl, SqL.of (s1 _ _ el), ?_⟩
    refine for_it (walk_enum (xs := ts.map V.ref)) (fun i σ Hx => ∃ (ys : List (Option V)) (y : Nm) (ss : List Stp), ys.length = 4 ∧ σ = some (.ref r) :: some (nS y) :: some (.ref l) :: some (.ref m) :: some (.ref f) :: some (.ref F) :: ys ∧ y ∈ ls ∧ Same H Hx ∧ SsA Hx F ss ∧ ss ++ stepsM jns (rs.drop i) y = stepsM jns rs x ∧ ss.length ≤ 2 * i)
      ⟨_, x, [], rfl, rfl, xin, s1, ⟨[], upd_same, .nil⟩, rfl, Nat.le_refl _⟩ (fun i σ Hx _ hp' => ?_) (fun i v σ Hx₀ Hx hi hp' yy => ?_) (fun σ Hx hp' => ?_)
    · obtain ⟨_, _, _, _, _, _, sx, _⟩ := hp'
      exact SqL.of (sx _ _ el)
    · obtain ⟨U, xv, yv, rfl, nU, rfl, ex, ey⟩ := yy
      have ex : xv = .int (i : Int) := (Option.some.inj ex).symm
      subst ex
      obtain ⟨ys, y, ss, hys, rfl, yin, sx, hF, hss, sl⟩ := hp'
      match ys, hys with
      | [y6, y7, y8, y9], _ =>
      rw [List.length_map] at hi
      obtain ⟨t, et, rfl⟩ := at_ref ey
      obtain ⟨rr, err, ht⟩ := paired_get hp et
      obtain ⟨rok, j, jin, ej, oin⟩ := hrs rr (List.mem_of_getElem? err)
      have oinl : rr.over ∈ ls := hok.sub j jin _ oin
      have ilt : i < rs.length := by omega
      obtain ⟨d, ed, hd⟩ := paired_atC hds err
      obtain ⟨f0, ef0, hf0⟩ := paired_atC hfs (suf_at (rs := rs) (i := i) (by omega))
      obtain ⟨f1, ef1, hf1⟩ := paired_atC hfs (suf_at (rs := rs) (i := i + 1) (by omega))
      have hdrop : rs.drop i = rr :: rs.drop (i + 1) := by
        have hl := List.getElem?_eq_some_iff.mp err
        rw [List.drop_eq_getElem_cons hl.1, hl.2]
      rw [hdrop] at hf0 hss
      have sU := same_upd (o := .tup [.int (i : Int), .ref t]) nU
      have sy := sx.trans sU
      have hFy := hF.same sU
      refine ⟨U, _, rfl, SqT.of upd_same, rfl, _, _, rfl, _, [], rfl, rfl, ?_⟩
      generalize upd Hx₀ U (.tup [.int (i : Int), .ref t]) = Hy at sy hFy
      obtain ⟨fa, eF, hfa⟩ := hFy
      have fal := paired_len hfa
      have hty := sy _ _ ht
      obtain ⟨kvd, ekd, hsa⟩ := hd.same sy
      obtain ⟨kv0, ek0, h0⟩ := hf0.same sy
      obtain ⟨kv1, ek1, h1⟩ := hf1.same sy
      have gd := DGet.k (k := Sum.inr (SX.S y)) ekd
      rw [sa_val hsa y] at gd
      refine ⟨.ref m, rfl, .int (i : Int), rfl, m, _, _, _, rfl, rfl, SqL.of (sy _ _ em), atI_nat (at_refC ed), d, rfl, .inl ⟨kvd, .inl ekd⟩, nS y, rfl, _, gd, ?_⟩
      have aside : ∀ z8 z9 : Option V, stepsM jns (rr :: rs.drop (i + 1)) y = .aside rr.num :: stepsM jns (rs.drop (i + 1)) y → ∀ (u : Addr), Hy u = none →
          (∃ (ys : List (Option V)) (y' : Nm) (ss : List Stp), ys.length = 4 ∧ [some (.ref r), some (nS y), some (.ref l), some (.ref m), some (.ref f), some (.ref F), some (.int (i : Int)), some (.ref t), z8, z9] = some (.ref r) :: some (nS y') :: some (.ref l) :: some (.ref m) :: some (.ref f) :: some (.ref F) :: ys ∧ y' ∈ ls ∧ Same H (upd (upd Hy u (.tup [.str "aside", .int rr.num])) F (.lst (fa.map V.ref ++ [.ref u]))) ∧ SsA (upd (upd Hy u (.tup [.str "aside", .int rr.num])) F (.lst (fa.map V.ref ++ [.ref u]))) F ss ∧ ss ++ stepsM jns (rs.drop (i + 1)) y' = stepsM jns rs x ∧ ss.length ≤ 2 * (i + 1)) := fun z8 z9 hst u nu => by
        have su := same_upd (o := .tup [.str "aside", .int rr.num]) nu
        refine ⟨_, y, ss ++ [.aside rr.num], rfl, rfl, yin, same_set (sy.trans su) nF, SsA.app (s := .aside rr.num) (su _ _ eF) (paired_imp hfa fun a _ s h => h.tk fun b xs q => su _ _ q) upd_same, ?_, by rw [List.length_append, List.length_singleton]; omega⟩
        rw [← hss, hst, List.append_assoc]
        rfl
      cases hlk : lackF jns rr y with
      | none =>
        refine ⟨.non, rfl, rfl, true, rfl, iteT (iteT ?_)⟩
        refine ⟨.ref F, rfl, .inl ⟨rfl, _, SqL.of eF⟩, .ref t, rfl, t, _, 1, _, rfl, rfl, SqT.of hty, atI_nat (j := 1) rok.i1, two_sz, fun u nu => ⟨F, _, _, rfl, rfl, same_upd nu _ _ eF, by rw [List.length_map]; exact small5000 (by omega), ?_⟩⟩
        exact aside _ _ (stepsM_none hlk) u nu
      | some n =>
        have g1 := DGet.k (k := Sum.inr (SX.S rr.over)) ek1
        rw [h1 _ oinl] at g1
        have g0 := DGet.k (k := Sum.inr (SX.S y)) ek0
        rw [h0 _ yin] at g0
        have hst := stepsM_some (rs := rs.drop (i + 1)) hlk
        refine ⟨.int n, rfl, rfl, false, rfl, iteF ?_⟩
        refine ⟨.int n, rfl, .ref f, rfl, .int (i : Int), rfl, _, _, rfl, rfl, f, _, _, _, rfl, rfl, SqL.of (sy _ _ ef), atI_nat (j := i + 1) (at_refC ef1), .ref t, rfl, t, _, 7, _, rfl, rfl, SqT.of hty, atI_nat (j := 7) rok.i7, f1, _, rfl, g1, _, _, rfl, rfl, .ref f, rfl, .int (i : Int), rfl, f, _, _, _, rfl, rfl, SqL.of (sy _ _ ef), atI_nat (at_refC ef0), nS y, rfl, f0, _, rfl, g0, _, _, rfl, rfl, _, rfl, ite2 (fun c => ?_) (fun c => ?_)⟩
        · have c : Fw jns (rr :: rs.drop (i + 1)) y < n + Fw jns (rs.drop (i + 1)) rr.over := by
            have := of_decide_eq_true c
            omega
          rw [if_pos c] at hst
          refine ⟨.ref F, rfl, .inl ⟨rfl, _, SqL.of eF⟩, .ref t, rfl, t, _, 1, _, rfl, rfl, SqT.of hty, atI_nat (j := 1) rok.i1, two_sz, fun u nu => ⟨F, _, _, rfl, rfl, same_upd nu _ _ eF, by rw [List.length_map]; exact small5000 (by omega), ?_⟩⟩
          exact aside _ _ hst u nu
        · have c : ¬ Fw jns (rr :: rs.drop (i + 1)) y < n + Fw jns (rs.drop (i + 1)) rr.over := fun z => c (decide_eq_true (by omega))
          rw [if_neg c] at hst
          refine ⟨fun σ' Hz => ∃ (y' : Nm) (ss' : List Stp) (z9 : Option V), σ' = [some (.ref r), some (nS y'), some (.ref l), some (.ref m), some (.ref f), some (.ref F), some (.int (i : Int)), some (.ref t), some (.int (n : Int)), z9] ∧ Same H Hz ∧ SsA Hz F ss' ∧ ss' ++ .held rr.num y' rr.over :: stepsM jns (rs.drop (i + 1)) rr.over = stepsM jns rs x ∧ ss'.length ≤ 2 * i + 1, ?_, ?_⟩
          · refine ⟨.int n, rfl, _, _, rfl, rfl, _, rfl, ite2 (fun cn => ?_) (fun cn => ?_)⟩
            · have cn : 0 < n := by have := of_decide_eq_true cn; omega
              rw [if_pos cn] at hst
              refine ⟨.ref r, rfl, nS y, rfl, .ref t, rfl, t, _, 3, _, rfl, rfl, SqT.of hty, atI_nat (j := 3) rok.i3, .ref t, rfl, t, _, 7, _, rfl, rfl, SqT.of hty, atI_nat (j := 7) rok.i7, ?_⟩
              refine ⟨r, y, rr.over, ls, jns, j, by rw [ej]; rfl, hlj.tk (.of sy), hok, yin, jnd, jin, oin, fun Ha p rd sa np ep hrd => ?_⟩
              have hfr : fromL j.2 rr.over = fars jns rr := by
                unfold fars
                rw [← ej, jLines_of jnd jin]
              rw [hfr] at hrd
              have hroad := roadF_of hrd
              have hne : rd ≠ [] := by
                rcases hrd with ⟨n', h1', h2'⟩ | ⟨h1', _⟩
                · intro z
                  have := h2'.len
                  rw [z] at this
                  cases this
                · exact absurd (lackF_some.mp hlk) (h1' n)
              obtain ⟨rq, rz, hrz⟩ := Rm.ne_snoc hne
              have eFa := sa _ _ eF
              refine ⟨.ref F, rfl, .inl ⟨rfl, _, SqL.of eFa⟩, .ref p, rfl, p, _, rfl, .inl ⟨SqL.of ep, fun u nu => ?_⟩⟩
              have su := same_upd (o := .tup (rd.map nS)) nu
              refine ⟨two_sz, fun v nv => ?_⟩
              have sv := same_upd (o := .tup [.str "gap", .ref u]) nv
              refine ⟨F, _, _, rfl, rfl, sv _ _ (su _ _ eFa), by rw [List.length_map]; exact small5000 (by omega), ?_⟩
              have suv := su.trans sv
              have epv : (upd (upd (upd Ha u (.tup (rd.map nS))) v (.tup [.str "gap", .ref u])) F (.lst (fa.map V.ref ++ [.ref v]))) p = some (.lst (rd.map nS)) := by
                have npF : p ≠ F := fun z => by rw [z, eF] at np; cases np
                rw [upd_ne npF]
                exact suv _ _ ep
              refine ⟨.ref p, rfl, _, rfl, p, _, -1, _, rfl, rfl, SqL.of epv, by rw [hrz, List.map_append]; exact atI_last _ _, ?_⟩
              have hlast : lastN rd = rz := by
                unfold lastN
                rw [hrz, List.getLast?_concat]
                rfl
              refine ⟨rz, ss ++ [.gap rd], _, rfl, same_set (sy.trans (sa.trans suv)) nF, SsA.app (s := .gap rd) (sv _ _ (su _ _ eFa)) (paired_imp hfa fun a _ s h => h.tk fun b xs q => suv _ _ (sa _ _ q)) ⟨u, upd_same, sv _ _ upd_same⟩, ?_, by rw [List.length_append, List.length_singleton]; omega⟩
              rw [← hss, hst, hroad, hlast, List.append_assoc]
              rfl
            · have cn : ¬ 0 < n := fun z => cn (decide_eq_true (by omega))
              rw [if_neg cn] at hst
              exact ⟨y, ss, _, rfl, sy, ⟨fa, eF, hfa⟩, by rw [← hss, hst], by omega⟩
          · rintro σ' Hz ⟨y', ss', z9, rfl, sz, ⟨fb, eFz, hfb⟩, hss', sl'⟩
            have htz := sz _ _ ht
            have fbl := paired_len hfb
            refine ⟨.ref F, rfl, .inl ⟨rfl, _, SqL.of eFz⟩, .ref t, rfl, t, _, 1, _, rfl, rfl, SqT.of htz, atI_nat (j := 1) rok.i1, nS y', rfl, .ref t, rfl, t, _, 7, _, rfl, rfl, SqT.of htz, atI_nat (j := 7) rok.i7, four_sz, fun u nu => ⟨F, _, _, rfl, rfl, same_upd nu _ _ eFz, by rw [List.length_map]; exact small5000 (by omega), ?_⟩⟩
            have su := same_upd (o := .tup [.str "held", .int rr.num, nS y', nS rr.over]) nu
            have htw : (upd (upd Hz u (.tup [.str "held", .int rr.num, nS y', nS rr.over])) F (.lst (fb.map V.ref ++ [.ref u]))) t = some (.tup rr.xs) := by
              rw [upd_ne fun z => by rw [z, eFz] at htz; cases htz]
              exact su _ _ htz
            refine ⟨.ref t, rfl, t, _, 7, _, rfl, rfl, SqT.of htw, atI_nat (j := 7) rok.i7, ?_⟩
            refine ⟨_, rr.over, ss' ++ [.held rr.num y' rr.over], rfl, rfl, oinl, same_set (sz.trans su) nF, SsA.app (s := .held rr.num y' rr.over) (su _ _ eFz) (paired_imp hfb fun a _ s h => h.tk fun b xs q => su _ _ q) upd_same, ?_, by rw [List.length_append, List.length_singleton]; omega⟩
            rw [← hss', List.append_assoc]
            rfl
    · obtain ⟨ys, y, ss, hys, rfl, yin, sx, hF, hss, sl⟩ := hp'
      rw [List.length_map, tl, List.drop_length] at hss
      have : ss = stepsM jns rs x := by rw [← hss]; exact (List.append_nil _).symm
      rw [this] at hF
      exact ⟨.ref F, rfl, q _ F sx nF hF⟩
end
end Th
namespace Th
open PySem PySem.Spec PyProof.Rows L2
/-! a wagon's history -/
noncomputable def marksM (jns : List (Nm × List Nm)) (rs : List Rt) (l : Nm) : List Int := (List.range rs.length).map fun i => ((Fw jns rs l : Nat) : Int) - ((Fw jns (rs.drop (i + 1)) ((rs[i]?.map (·.over)).getD []) : Nat) : Int)
section
variable {P : Program} {w : World} {K : PySem.W.Frag} {mg : Str → Option Value} {base : Heap} {k : Nat}
def sp_history (T : Defs K mg) : Sp := fun vs H Q _ => ∃ (r l : Addr) (x : Nm) (ts : List Addr) (rs : List Rt) (ls : List Nm) (jns : List (Nm × List Nm)), vs = [.ref r, nS x, .ref l] ∧ SqL K H l (ts.map V.ref) ∧ Paired (RtA H) ts rs ∧ (∀ r ∈ rs, RtOk r ∧ RtFit jns r) ∧ ts.length ≤ 1000 ∧ LJ K H r ls jns ∧ LJok ls jns ∧ (jns.map (·.1)).Nodup ∧ x ∈ ls ∧ TabI T H ∧
  ∀ H' u D M, LamX.ExtN H H' → TabI T H' → NewN H D → NewN H M → D ≠ M → H' u = some (.tup [.ref D, .ref M]) → SsA H' D (stepsM jns (sortR rs) x) → H' M = some (.lst ((marksM jns (sortR rs) x).map V.int)) → Q (.ref u) H'
theorem TQ.ext {K : PySem.W.Frag} {H H' : Hp} (e : LamX.ExtN H H') : TQ K H H' := fun _ _ h => Lr.sqT_ext e h
set_option maxHeartbeats 16000000 in
theorem ok_history (T : Defs K mg) (TB : LamX.TabB base mg T.cc_in_order T.tp_in_order) : FnOk P w K mg base CX0 6 T.a_history T.d_history ["net", "line", "returns"] (sp_history T) := by
  have G_in_order : FnOk P w K mg base CX0 5 _ _ _ _ := (ok_in_order T TB).mono (by decide)
  have G_lacks_ahead : FnOk P w K mg base CX0 5 _ _ _ _ := ok_lacks_ahead (k := 2) T
  have G_fewest_onward : FnOk P w K mg base CX0 5 _ _ _ _ := ok_fewest_onward (k := 4) T
  have G_steps_of : FnOk P w K mg base CX0 5 _ _ _ _ := ok_steps_of (k := 0) T
  refine T.F_history.ok sc_history (fun vs H Q E h => ?_) (fun cdv A outer s H vs Q E hr h => ?_)
  · obtain ⟨r, l, x, ts, rs, ls, jns, rfl, _⟩ := h
    rfl
  · obtain ⟨r, l, x, ts, rs, ls, jns, rfl, el, hp, hrs, t1000, hlj, hok, jnd, xin, hT, q⟩ := h
    refine ⟨_, PSs.nox
(pss_cons (ps_set (i := 3) sc_history.nd rfl (.inl rfl) (pe_call G_in_order hr (by rfl) T.g_in_order T.F_in_order.kp T.b_in_order .nil pass0 (pa_cons (pv 2) pa_nil)))
    (pss_cons (ps_set (i := 4) sc_history.nd rfl (.inl rfl) (pe_call G_lacks_ahead hr (by rfl) T.g_lacks_ahead T.F_lacks_ahead.kp T.b_lacks_ahead .nil pass0 (pa_cons (pv 0) (pa_cons (pv 3) pa_nil))))
    (pss_cons (ps_set (i := 5) sc_history.nd rfl (.inr rfl) (pe_call G_fewest_onward hr (by rfl) T.g_fewest_onward T.F_fewest_onward.kp T.b_fewest_onward .nil pass0 (pa_cons (pv 0) (pa_cons (pv 3) (pa_cons (pv 4) pa_nil)))))
    (pss_cons (ps_setLc (i := 6) (own := [("at", 7), ("row", 8)]) (g := gTup K 2 (gCons (gName 7) (gCons (gName 8) gNil))) rfl sc_history.nd rfl rfl (sw_true rfl rfl rfl (by decide +kernel)) (Es.pi_enumS (by rfl) T.z_enumerate (pv 3) (by decide) (by decide)) (blkOk_by (N := N_history) (sc := defScope s_history) (by decide +kernel)) (fun _ _ _ _ _ => (pg_tup rfl (pgs_cons (pg_name (i := 7) sc_history.nd rfl (.inl rfl)) (pgs_cons (pg_name (i := 8) sc_history.nd rfl (.inl rfl)) pgs_nil)))) (fun _ _ _ _ _ => pts_nil) (fun _ _ _ _ _ => (pe_op op_sub (pe_dget (hu_of hr) (pe_ix (r := rIxL K) ix_list (pv 5) (pe_int) (fun _ _ => rfl)) (pv 1) (fun _ _ => rfl)) (pe_dget (hu_of hr) (pe_ix (r := rIxL K) ix_list (pv 5) (pv 7) (fun _ _ => rfl)) (pe_ix (r := rIxT K) ix_tup (pv 8) (pe_glob (v := .int 7) (by rfl) T.c_OVER ⟨_, rfl⟩) (fun _ _ => rfl)) (fun _ _ => rfl)))))
    (pss_one (ps_ret (pe_tup (pa_cons (pe_call G_steps_of hr (by rfl) T.g_steps_of T.F_steps_of.kp T.b_steps_of .nil pass0 (pa_cons (pv 0) (pa_cons (pv 1) (pa_cons (pv 3) (pa_cons (pv 4) (pa_cons (pv 5) pa_nil)))))) (pa_cons (pv 6) pa_nil)))))))))
      , ?_⟩
    have tl := paired_len hp
    refine ⟨.ref l, rfl, l, ts, rs, rfl, el, hp, fun r h => (hrs r h).1, t1000, hT, fun H1 R ts' e1 t1 nR eR hR _ => ?_⟩
    have hss : ∀ r ∈ sortR rs, RtOk r ∧ RtFit jns r := fun r hr => hrs r ((sortR_perm rs).mem_iff.mp hr)
    have sl : (sortR rs).length = rs.length := (sortR_perm rs).length_eq
    have tl' := paired_len hR
    have t1000' : ts'.length ≤ 1000 := by omega
    have hlj1 := hlj.tk (TQ.ext e1)
    generalize sortR rs = ss at *
    refine ⟨.ref r, rfl, .ref R, rfl, r, R, ts', ss, ls, jns, rfl, eR, hR, hss, t1000', hlj1, hok, jnd, fun H2 Lk ds s2 nLk eLk hds => ?_⟩
    have hR2 : Paired (RtA H2) ts' ss := paired_imp hR fun a _ r h => s2 _ _ h
    refine ⟨.ref r, rfl, .ref R, rfl, .ref Lk, rfl, r, R, Lk, ts', ds, ss, ls, jns, rfl, s2 _ _ eR, hR2, hss, eLk, hds, t1000', hlj1.tk (.of s2), hok, fun H3 f fs s3 nf ef hfs => ?_⟩
    have s13 := s2.trans s3
    have hR3 : Paired (RtA H3) ts' ss := paired_imp hR2 fun a _ r h => s3 _ _ h
    have eR3 := s13 _ _ eR
    obtain ⟨f0, ef0, kv0, ek0, h0⟩ := paired_atC hfs (suf_at (rs := ss) (i := 0) (by omega))
    rw [List.drop_zero] at h0
    refine ⟨.ref R, rfl, R, _, rfl, SqL.of eR3, fun M nM => ?_⟩
    refine lc_it (Es.walk_enumS (xs := ts'.map V.ref)) (fun i Hx => Same H3 Hx ∧ Hx M = some (.lst (((marksM jns ss x).take i).map V.int))) ⟨same_upd nM, upd_same⟩ (fun i Hx _ pv => SqL.of (pv.1 _ _ eR3)) (fun i v Hx Hx' hi pv yy => ?_) (fun H4 pv => ?_)
    · obtain ⟨U, xv, yv, rfl, nU, rfl, ex, ey⟩ := yy
      have ex : xv = .int (1 + (i : Int)) := (Option.some.inj ex).symm
      subst ex
      obtain ⟨sx, eM⟩ := pv
      rw [List.length_map] at hi
      obtain ⟨t, et, rfl⟩ := at_ref ey
      obtain ⟨rr, err, ht⟩ := paired_get hR3 et
      obtain ⟨rok, j, jin, ej, oin⟩ := hss rr (List.mem_of_getElem? err)
      have oinl : rr.over ∈ ls := hok.sub j jin _ oin
      obtain ⟨f1, ef1, kv1, ek1, h1⟩ := paired_atC hfs (suf_at (rs := ss) (i := i + 1) (by omega))
      have sU := same_upd (o := .tup [.int (1 + (i : Int)), .ref t]) nU
      have sy := sx.trans sU
      have g0 := DGet.k (k := Sum.inr (SX.S x)) (sy _ _ ek0)
      rw [h0 _ xin] at g0
      have g1 := DGet.k (k := Sum.inr (SX.S rr.over)) (sy _ _ ek1)
      rw [h1 _ oinl] at g1
      have eMy := sU _ _ eM
      refine ⟨U, _, rfl, SqT.of upd_same, rfl, _, _, rfl, _, [], rfl, rfl, rfl, yes_ ?_⟩
      generalize upd Hx U (.tup [.int (1 + (i : Int)), .ref t]) = Hy at sy g0 g1 eMy
      refine ⟨.ref f, rfl, f, _, 0, _, rfl, rfl, SqL.of (sy _ _ ef), atI_nat (j := 0) (at_refC ef0), nS x, rfl, f0, _, rfl, g0, .ref f, rfl, .int (1 + (i : Int)), rfl, f, _, _, _, rfl, rfl, SqL.of (sy _ _ ef), by rw [show (1 : Int) + (i : Int) = ((i + 1 : Nat) : Int) by omega]; exact atI_nat (at_refC ef1), .ref t, rfl, t, _, 7, _, rfl, rfl, SqT.of (sy _ _ ht), atI_nat (j := 7) rok.i7, f1, _, rfl, g1, _, _, rfl, rfl, _, eMy, ?_, same_set sy nM, ?_⟩
      · rw [List.length_map, List.length_take]
        exact small5000 (by omega)
      · have em : (marksM jns ss x)[i]? = some (((Fw jns ss x : Nat) : Int) - ((Fw jns (ss.drop (i + 1)) rr.over : Nat) : Int)) := by
          unfold marksM
          rw [List.getElem?_map, List.getElem?_range (by omega)]
          show some (((Fw jns ss x : Nat) : Int) - ((Fw jns (ss.drop (i + 1)) ((ss[i]?.map (·.over)).getD []) : Nat) : Int)) = _
          rw [err]
          rfl
        rw [upd_same, List.take_add_one, em, List.map_append]
        rfl
    obtain ⟨s4, eM⟩ := pv
    rw [List.length_map, List.take_of_length_le (by unfold marksM; rw [List.length_map, List.length_range]; omega)] at eM
    have s14 := s13.trans s4
    refine ⟨.ref r, rfl, nS x, rfl, .ref R, rfl, .ref Lk, rfl, .ref f, rfl, r, R, Lk, f, x, ts', ds, fs, ss, ls, jns, rfl, s14 _ _ eR, paired_imp hR fun a _ r h => s14 _ _ h, hss, (s3.trans s4) _ _ eLk, paired_imp hds fun a _ r h => (h.same s3).same s4, s4 _ _ ef, paired_imp hfs fun a _ r h => h.same s4, t1000', hlj1.tk (.of s14), hok, jnd, xin, fun H5 D s5 nD hD => ?_⟩
    refine ⟨.ref M, rfl, two_sz, fun u nu => ?_⟩
    have su := same_upd (o := .tup [.ref D, .ref M]) nu
    have e4 : LamX.ExtN H H4 := ext_same e1 s14
    have e6 : LamX.ExtN H _ := ext_same (ext_same e4 s5) su
    exact q _ u D M e6 ((t1.ext s14).ext (s5.trans su)) (.back e4 nD) (.back (ext_same e1 s13) nM) (fun z => by rw [z, eM] at nD; cases nD) upd_same (hD.same su) (su _ _ (s5 _ _ eM))
end
end Th
namespace Th
open PySem PySem.Spec PyProof.Rows L2
section
variable {P : Program} {w : World} {K : PySem.W.Frag} {mg : Str → Option Value} {base : Heap} {k : Nat}
/-- how many lack, as a value -/
def lackV (rd : List Nm) : V := if rd = [] then .non else .int ((rd.length : Int) - 1)
def sp_lacking (K : PySem.W.Frag) : Sp := fun vs H Q _ => ∃ (r : Addr) (x over : Nm) (ls : List Nm) (jns : List (Nm × List Nm)) (jn : Nm × List Nm), vs = [.ref r, nS x, nS jn.1, nS over] ∧ LJ K H r ls jns ∧ LJok ls jns ∧ x ∈ ls ∧ (jns.map (·.1)).Nodup ∧ jn ∈ jns ∧ over ∈ jn.2 ∧
  ∀ H' (rd : List Nm), Same H H' → Rd' jns (fromL jn.2 over) x rd → Q (lackV rd) H'
set_option maxHeartbeats 8000000 in
theorem ok_lacking (T : Defs K mg) : FnOk P w K mg base CX0 (k + 5) T.a_lacking T.d_lacking ["net", "line", "junction", "over"] (sp_lacking K) := by
  have G_gap_road : FnOk P w K mg base CX0 (k + 4) _ _ _ _ := ok_gap_road T
  refine T.F_lacking.ok sc_lacking (fun vs H Q E h => ?_) (fun cdv A outer s H vs Q E hr h => ?_)
  · obtain ⟨r, x, over, ls, jns, jn, rfl, _⟩ := h
    rfl
  · obtain ⟨r, x, over, ls, jns, jn, rfl, hnet, hok, xin, jnd, jin, oin, q⟩ := h
    refine ⟨_, PSs.nox
(pss_cons (ps_set (i := 4) sc_lacking.nd rfl (.inl rfl) (pe_call G_gap_road hr (by rfl) T.g_gap_road T.F_gap_road.kp T.b_gap_road .nil pass0 (pa_cons (pv 0) (pa_cons (pv 1) (pa_cons (pv 2) (pa_cons (pv 3) pa_nil))))))
    (pss_cons (ps_if (pt_not (pt_truth (pv 4) (by intro _; rfl)))
      (pss_one (ps_ret (pe_non)))
      pss_nil)
    (pss_one (ps_ret (pe_op op_sub (pe_callB (r := rLenS K) call_lenS (by rfl) T.z_len (by decide +kernel) (pa_cons (pv 4) pa_nil)) (pe_int))))))
      , ?_⟩
    refine ⟨.ref r, rfl, nS x, rfl, nS jn.1, rfl, nS over, rfl, r, x, over, ls, jns, jn, rfl, hnet, hok, xin, jnd, jin, oin, fun H1 p rd s1 np ep hrd => ?_⟩
    have q1 := q H1 rd s1 hrd
    unfold lackV at q1
    refine ⟨.ref p, rfl, _, .inl ⟨_, SqL.of ep, rfl⟩, ite2 (fun c => ?_) (fun c => ?_)⟩
    · have e : rd = [] := by
        cases rd with
        | nil => rfl
        | cons a r => cases c
      rw [if_pos e] at q1
      exact q1
    · have e : rd ≠ [] := fun e => by
        rw [e] at c
        exact c rfl
      rw [if_neg e] at q1
      refine ⟨.ref p, rfl, p, _, rfl, .inl (SqL.of ep), _, 1, rfl, rfl, ?_⟩
      rw [List.length_map]
      exact q1
end
end Th
namespace Th
open PySem PySem.Spec PyProof.Rows L2
/-! any things: their types, whole numbers, tuples -/
def isiI : PyData → Bool
  | .int _ => true
  | .bool _ => true
  | _ => false
def isiB : PyData → Bool
  | .bool _ => true
  | _ => false
def isiT : PyData → Bool
  | .tuple _ => true
  | _ => false
def isiS : PyData → Bool
  | .str _ => true
  | _ => false
def isiL : PyData → Bool
  | .list _ => true
  | _ => false
theorem kit_I {K : PySem.W.Frag} : ∀ d : PyData, PySem.W.kitOne K (.type (tyN d)) (.type "int") = some (isiI d)
  | .none => kit_ty (a := "NoneType") (b := "int") (r := false) (by decide +kernel)
  | .bool _ => kit_ty (a := "bool") (b := "int") (r := true) (by decide +kernel)
  | .int _ => kit_ty (a := "int") (b := "int") (r := true) (by decide +kernel)
  | .str _ => kit_ty (a := "str") (b := "int") (r := false) (by decide +kernel)
  | .list _ => kit_ty (a := "list") (b := "int") (r := false) (by decide +kernel)
  | .tuple _ => kit_ty (a := "tuple") (b := "int") (r := false) (by decide +kernel)
  | .dict _ => kit_ty (a := "dict") (b := "int") (r := false) (by decide +kernel)
theorem kit_B {K : PySem.W.Frag} : ∀ d : PyData, PySem.W.kitOne K (.type (tyN d)) (.type "bool") = some (isiB d)
  | .none => kit_ty (a := "NoneType") (b := "bool") (r := false) (by decide +kernel)
  | .bool _ => kit_ty (a := "bool") (b := "bool") (r := true) (by decide +kernel)
  | .int _ => kit_ty (a := "int") (b := "bool") (r := false) (by decide +kernel)
  | .str _ => kit_ty (a := "str") (b := "bool") (r := false) (by decide +kernel)
  | .list _ => kit_ty (a := "list") (b := "bool") (r := false) (by decide +kernel)
  | .tuple _ => kit_ty (a := "tuple") (b := "bool") (r := false) (by decide +kernel)
  | .dict _ => kit_ty (a := "dict") (b := "bool") (r := false) (by decide +kernel)
theorem kit_T {K : PySem.W.Frag} : ∀ d : PyData, PySem.W.kitOne K (.type (tyN d)) (.type "tuple") = some (isiT d)
  | .none => kit_ty (a := "NoneType") (b := "tuple") (r := false) (by decide +kernel)
  | .bool _ => kit_ty (a := "bool") (b := "tuple") (r := false) (by decide +kernel)
  | .int _ => kit_ty (a := "int") (b := "tuple") (r := false) (by decide +kernel)
  | .str _ => kit_ty (a := "str") (b := "tuple") (r := false) (by decide +kernel)
  | .list _ => kit_ty (a := "list") (b := "tuple") (r := false) (by decide +kernel)
  | .tuple _ => kit_ty (a := "tuple") (b := "tuple") (r := true) (by decide +kernel)
  | .dict _ => kit_ty (a := "dict") (b := "tuple") (r := false) (by decide +kernel)
theorem kit_S {K : PySem.W.Frag} : ∀ d : PyData, PySem.W.kitOne K (.type (tyN d)) (.type "str") = some (isiS d)
  | .none => kit_ty (a := "NoneType") (b := "str") (r := false) (by decide +kernel)
  | .bool _ => kit_ty (a := "bool") (b := "str") (r := false) (by decide +kernel)
  | .int _ => kit_ty (a := "int") (b := "str") (r := false) (by decide +kernel)
  | .str _ => kit_ty (a := "str") (b := "str") (r := true) (by decide +kernel)
  | .list _ => kit_ty (a := "list") (b := "str") (r := false) (by decide +kernel)
  | .tuple _ => kit_ty (a := "tuple") (b := "str") (r := false) (by decide +kernel)
  | .dict _ => kit_ty (a := "dict") (b := "str") (r := false) (by decide +kernel)
theorem kit_L {K : PySem.W.Frag} : ∀ d : PyData, PySem.W.kitOne K (.type (tyN d)) (.type "list") = some (isiL d)
  | .none => kit_ty (a := "NoneType") (b := "list") (r := false) (by decide +kernel)
  | .bool _ => kit_ty (a := "bool") (b := "list") (r := false) (by decide +kernel)
  | .int _ => kit_ty (a := "int") (b := "list") (r := false) (by decide +kernel)
  | .str _ => kit_ty (a := "str") (b := "list") (r := false) (by decide +kernel)
  | .list _ => kit_ty (a := "list") (b := "list") (r := true) (by decide +kernel)
  | .tuple _ => kit_ty (a := "tuple") (b := "list") (r := false) (by decide +kernel)
  | .dict _ => kit_ty (a := "dict") (b := "list") (r := false) (by decide +kernel)
def wholeD : PyData → Bool
  | .int _ => true
  | _ => false
def betD (d : PyData) (lo hi : Int) : Bool := match d with
  | .int i => decide (lo ≤ i) && decide (i ≤ hi)
  | _ => false
def tupD (d : PyData) (lo hi : Int) : Bool := match d with
  | .tuple ds => decide (lo ≤ (ds.length : Int)) && decide ((ds.length : Int) ≤ hi)
  | _ => false
section
variable {P : Program} {w : World} {K : PySem.W.Frag} {mg : Str → Option Value} {base : Heap} {k : Nat}
def sp_is_whole : Sp := fun vs H Q _ => ∃ v d, vs = [v] ∧ Dt SA H v d ∧ Q (.bl (wholeD d)) H
theorem ok_is_whole (T : Defs K mg) : FnOk P w K mg base CX0 (k + 1) T.a_is_whole T.d_is_whole ["thing"] sp_is_whole := by
  refine T.F_is_whole.ok sc_is_whole (fun vs H Q E h => ?_) (fun cdv A outer s H vs Q E hr h => ?_)
  · obtain ⟨v, d, rfl, _⟩ := h
    rfl
  · obtain ⟨v, d, rfl, hv, q⟩ := h
    refine ⟨_, PSs.nox
(pss_one (ps_ret (pe_and (pe_callB (r := rIsi K) call_isi (by rfl) T.z_isinstance (by decide +kernel) (pa_cons (pv 0) (pa_cons (pe_bltn (v := .ty "int") (by rfl) T.z_int (by decide +kernel) rfl) pa_nil))) (pe_one (pe_not (pe_callB (r := rIsi K) call_isi (by rfl) T.z_isinstance (by decide +kernel) (pa_cons (pv 0) (pa_cons (pe_bltn (v := .ty "bool") (by rfl) T.z_bool (by decide +kernel) rfl) pa_nil))))))))
      , ?_⟩
    refine ⟨v, rfl, v, .ty "int", _, _, _, rfl, .ty _, hv.ty, kit_I d, isiI d, rfl, ?_⟩
    cases d with
    | int i => exact iteT ⟨v, rfl, v, .ty "bool", _, _, _, rfl, .ty _, Dt.ty (K := K) hv, kit_B (K := K) (.int i), false, rfl, q⟩
    | bool b => exact iteT ⟨v, rfl, v, .ty "bool", _, _, _, rfl, .ty _, Dt.ty (K := K) hv, kit_B (K := K) (.bool b), true, rfl, q⟩
    | none => exact iteF q
    | str _ => exact iteF q
    | list _ => exact iteF q
    | tuple _ => exact iteF q
    | dict _ => exact iteF q
def sp_is_tuple : Sp := fun vs H Q _ => ∃ v d lo hi, vs = [v, .int lo, .int hi] ∧ Dt SA H v d ∧ Q (.bl (tupD d lo hi)) H
theorem ok_is_tuple (T : Defs K mg) : FnOk P w K mg base CX0 (k + 1) T.a_is_tuple T.d_is_tuple ["thing", "fewest", "most"] sp_is_tuple := by
  refine T.F_is_tuple.ok sc_is_tuple (fun vs H Q E h => ?_) (fun cdv A outer s H vs Q E hr h => ?_)
  · obtain ⟨v, d, lo, hi, rfl, _⟩ := h
    rfl
  · obtain ⟨v, d, lo, hi, rfl, hv, q⟩ := h
    refine ⟨_, PSs.nox
(pss_one (ps_ret (pe_and (pe_callB (r := rIsi K) call_isi (by rfl) T.z_isinstance (by decide +kernel) (pa_cons (pv 0) (pa_cons (pe_bltn (v := .ty "tuple") (by rfl) T.z_tuple (by decide +kernel) rfl) pa_nil))) (pe_one (pe_chain op_le op_le (pv 1) (pe_callB (r := rLenS K) call_lenS (by rfl) T.z_len (by decide +kernel) (pa_cons (pv 0) pa_nil)) (pv 2))))))
      , ?_⟩
    refine ⟨v, rfl, v, .ty "tuple", _, _, _, rfl, .ty _, hv.ty, kit_T d, isiT d, rfl, ?_⟩
    cases d with
    | tuple ds =>
      obtain ⟨a, xs, rfl, e, hxs⟩ : ∃ a xs, v = .ref a ∧ H a = some (.tup xs) ∧ DtAll SA H xs ds := by
        cases hv with
        | tup _ e _ r => exact ⟨_, _, rfl, e, r⟩
      have xl := hxs.len
      refine iteT ⟨.int lo, rfl, .ref a, rfl, a, _, rfl, .inr (SqT.of e), lo, _, rfl, rfl, decide (lo ≤ (xs.length : Int)), rfl, ite2 (fun c => ?_) fun c => ?_⟩
      · refine ⟨.int hi, rfl, _, hi, rfl, rfl, ?_⟩
        have e : tupD (.tuple ds) lo hi = decide ((xs.length : Int) ≤ hi) := by show (decide (lo ≤ (ds.length : Int)) && decide ((ds.length : Int) ≤ hi)) = _; rw [← xl, c, Bool.true_and]
        rw [e] at q
        exact q
      · have e : tupD (.tuple ds) lo hi = false := by show (decide (lo ≤ (ds.length : Int)) && decide ((ds.length : Int) ≤ hi)) = _; rw [← xl, show decide (lo ≤ (xs.length : Int)) = false by simpa using c, Bool.false_and]
        rw [e] at q
        exact q
    | bool b => exact iteF q
    | none => exact iteF q
    | str _ => exact iteF q
    | list _ => exact iteF q
    | int _ => exact iteF q
    | dict _ => exact iteF q
end
/-! what a looker asks of steps -/
theorem un65 {k : Nat} {A : Around} (h : Room k A) : A.units + 65 < cLine := by have := h.un; omega
structure Sm (d : PyData) : Prop where
  lay : d.canLay0 = true
  dep : d.depth ≤ 40
theorem Sm.sh {d : PyData} (h : Sm d) : SeqAt.shaped d = true := Bool.and_eq_true_iff.mpr ⟨h.lay, decide_eq_true (by have := h.dep; omega)⟩
theorem Sm.tup {ds : List PyData} (h : Sm (.tuple ds)) : ∀ e ∈ ds, Sm e := fun e he => by
  obtain ⟨i, hi⟩ := List.getElem?_of_mem he
  have h1 := lay_mem (show PyData.canLayAll0 ds = true from h.lay) hi
  have h2 := depth_mem hi
  have h3 : PyData.depthAll ds + 1 ≤ 40 := h.dep
  exact ⟨h1, by omega⟩
theorem Sm.lst {ds : List PyData} (h : Sm (.list ds)) : ∀ e ∈ ds, Sm e := fun e he => by
  obtain ⟨i, hi⟩ := List.getElem?_of_mem he
  have h1 := lay_mem (show PyData.canLayAll0 ds = true from h.lay) hi
  have h2 := depth_mem hi
  have h3 : PyData.depthAll ds + 1 ≤ 40 := h.dep
  exact ⟨h1, by omega⟩
theorem eqv_str {d : PyData} {s : Str} : PyData.eqv d (.str s) = true ↔ d = .str s := by
  cases d with
  | str x =>
    show (x == s) = true ↔ _
    rw [beq_iff_eq]
    exact ⟨fun e => by rw [e], fun e => by injection e⟩
  | _ => exact ⟨fun h => (by cases h), fun h => (by cases h)⟩
theorem str_eqv {d : PyData} {s : Str} : PyData.eqv (.str s) d = true ↔ d = .str s := by
  cases d with
  | str x =>
    show (s == x) = true ↔ _
    rw [beq_iff_eq]
    exact ⟨fun e => by rw [e], fun e => by injection e with e; exact e.symm⟩
  | _ => exact ⟨fun h => (by cases h), fun h => (by cases h)⟩
theorem eqv_whole {d : PyData} {n : Int} (hw : wholeD d = true) : PyData.eqv d (.int n) = true ↔ d = .int n := by
  cases d with
  | int i =>
    show (i == n) = true ↔ _
    rw [beq_iff_eq]
    exact ⟨fun e => by rw [e], fun e => by injection e⟩
  | _ => cases hw
theorem tup_len {d : PyData} {n : Nat} (h : tupD d n n = true) : ∃ ds, d = .tuple ds ∧ ds.length = n := by
  cases d with
  | tuple ds =>
    have h : (decide ((n : Int) ≤ (ds.length : Int)) && decide ((ds.length : Int) ≤ (n : Int))) = true := h
    rw [Bool.and_eq_true, decide_eq_true_iff, decide_eq_true_iff] at h
    exact ⟨ds, rfl, by omega⟩
  | _ => cases h
theorem len_tup {ds : List PyData} {n : Nat} (h : ds.length = n) : tupD (.tuple ds) n n = true := by
  show (decide ((n : Int) ≤ (ds.length : Int)) && decide ((ds.length : Int) ≤ (n : Int))) = true
  rw [h, decide_eq_true (Int.le_refl _)]
  rfl
theorem Dt.tupI {S : Addr → Prop} {H : Hp} {v : V} {ds : List PyData} (h : Dt S H v (.tuple ds)) : ∃ a xs, v = .ref a ∧ H a = some (.tup xs) ∧ DtAll S H xs ds := by
  cases h with
  | tup _ e _ r => exact ⟨_, _, rfl, e, r⟩
theorem DtAll.get2 {S : Addr → Prop} {H : Hp} : ∀ {v : List V} {d : List PyData} {i : Nat} {x : PyData}, DtAll S H v d → d[i]? = some x → ∃ e, v[i]? = some e ∧ Dt S H e x
  | _, _, _, _, .nil, h => by simp at h
  | _, _, 0, _, .cons a r, h => by
    have e := Option.some.inj h
    subst e
    exact ⟨_, rfl, a⟩
  | _, _, i + 1, _, .cons a r, h => r.get2 (i := i) h
def pairB (d : PyData) : Bool := tupD d 2 2 && match d with
  | .tuple ds => (ds.map isiL).all id
  | _ => false
def asideD (r : Rt) : PyData := .tuple [.str (Str.ofString "aside"), .int r.num]
theorem w_aside : PyData.strOk (Str.ofString "aside") = true := by decide +kernel
theorem w_held : PyData.strOk (Str.ofString "held") = true := by decide +kernel
theorem w_gap : PyData.strOk (Str.ofString "gap") = true := by decide +kernel
theorem asideD_sh (r : Rt) : SeqAt.shaped (asideD r) = true := Bool.and_eq_true_iff.mpr ⟨by
  show (PyData.strOk (Str.ofString "aside") && (true && true)) = true
  rw [w_aside]
  rfl, by rfl⟩
def heldD (r : Rt) (z : Nm) : PyData := .tuple [.str (Str.ofString "held"), .int r.num, .str (SX.S z), .str (SX.S r.over)]
section
variable {P : Program} {w : World} {K : PySem.W.Frag} {mg : Str → Option Value} {base : Heap} {k : Nat}
def sp_is_pair : Sp := fun vs H Q _ => ∃ v d, vs = [v] ∧ Dt SA H v d ∧ ∀ H', Same H H' → Q (.bl (pairB d)) H'
theorem ok_is_pair_of_lists (T : Defs K mg) : FnOk P w K mg base CX0 (k + 2) T.a_is_pair_of_lists T.d_is_pair_of_lists ["thing"] sp_is_pair := by
  have G_is_tuple : FnOk P w K mg base CX0 (k + 1) _ _ _ _ := ok_is_tuple (k := k) T
  refine T.F_is_pair_of_lists.ok sc_is_pair_of_lists (fun vs H Q E h => ?_) (fun cdv A outer s H vs Q E hr h => ?_)
  · obtain ⟨v, d, rfl, _⟩ := h
    rfl
  · obtain ⟨v, d, rfl, hv, q⟩ := h
    refine ⟨_, PSs.nox
(pss_one (ps_ret (pe_and (pe_call G_is_tuple hr (by rfl) T.g_is_tuple T.F_is_tuple.kp T.b_is_tuple .nil pass0 (pa_cons (pv 0) (pa_cons (pe_int) (pa_cons (pe_int) pa_nil)))) (pe_one (pe_callB (r := rAll K) (cr_all rfl) (by rfl) T.z_all (by decide +kernel) (pa_cons (pe_lc (own := [("half", 1)]) (g := gName 1) rfl sc_is_pair_of_lists.nd (pi_tup (pv 0)) (blkOk_by (N := N_is_pair_of_lists) (sc := defScope s_is_pair_of_lists) (by decide +kernel)) (fun _ _ _ _ _ => (pg_name (i := 1) sc_is_pair_of_lists.nd rfl (.inl rfl))) (fun _ _ _ _ _ => pts_nil) (fun _ _ _ _ _ => (pe_callB (r := rIsi K) call_isi (by rfl) T.z_isinstance (by decide +kernel) (pa_cons (pv 1) (pa_cons (pe_bltn (v := .ty "list") (by rfl) T.z_list (by decide +kernel) rfl) pa_nil))))) pa_nil))))))
      , ?_⟩
    refine ⟨v, rfl, v, d, 2, 2, rfl, hv, tupD d 2 2, rfl, ite2 (fun c => ?_) (fun c => ?_)⟩
    · obtain ⟨ds, rfl, dl⟩ := tup_len (n := 2) c
      obtain ⟨a, xs, rfl, e, hxs⟩ := hv.tupI
      have xl := hxs.len
      refine ⟨.ref a, rfl, a, rfl, ⟨_, SqT.of e⟩, fun D nD => ?_⟩
      refine lc_it (walk_tup (xs := xs)) (fun i H3 => Same H H3 ∧ H3 D = some (.lst (((ds.take i).map isiL).map V.bl))) ⟨same_upd nD, upd_same⟩ (fun i H3 _ pv => SqT.of (pv.1 _ _ e)) (fun i x H3₀ H3 hi pv yy => ?_) (fun H3 pv => ?_)
      · obtain ⟨rfl, ex⟩ := yy
        obtain ⟨s3, eD⟩ := pv
        obtain ⟨f, ef, hf⟩ := (hxs.same s3).get ex
        refine ⟨rfl, yes_ ⟨x, rfl, x, .ty "list", _, _, _, rfl, .ty _, hf.ty, kit_L f, _, eD, by rw [List.length_map, List.length_map, List.length_take]; exact small5000 (by omega), same_set s3 nD, ?_⟩⟩
        rw [upd_same, List.take_add_one, ef, List.map_append, List.map_append]
        rfl
      obtain ⟨s3, eD⟩ := pv
      rw [xl, List.take_length] at eD
      refine ⟨D, _, rfl, SqL.of eD, ?_⟩
      have q := q _ s3
      rw [show pairB (.tuple ds) = (ds.map isiL).all id by unfold pairB; rw [c, Bool.true_and]] at q
      exact q
    · have q := q _ (.refl _)
      rw [show pairB d = false by unfold pairB; rw [show tupD d 2 2 = false by simpa using c, Bool.false_and]] at q
      exact q
def sp_is_aside : Sp := fun vs H Q _ => ∃ (t : Addr) (r : Rt) (v : V) (d : PyData), vs = [.ref t, v] ∧ RtA H t r ∧ RtOk r ∧ Dt SA H v d ∧ Sm d ∧ ∀ H' b, Same H H' → (b = true ↔ d = asideD r) → Q (.bl b) H'
theorem ok_is_aside (T : Defs K mg) : FnOk P w K mg base CX0 (k + 2) T.a_is_aside T.d_is_aside ["row", "step"] sp_is_aside := by
  have G_is_tuple : FnOk P w K mg base CX0 (k + 1) _ _ _ _ := ok_is_tuple (k := k) T
  have G_is_whole : FnOk P w K mg base CX0 (k + 1) _ _ _ _ := ok_is_whole (k := k) T
  refine T.F_is_aside.ok sc_is_aside (fun vs H Q E h => ?_) (fun cdv A outer s H vs Q E hr h => ?_)
  · obtain ⟨t, r, v, d, rfl, _⟩ := h
    rfl
  · obtain ⟨t, r, v, d, rfl, ht, hr', hv, hd, q⟩ := h
    refine ⟨_, PSs.nox
(pss_one (ps_ret (pe_and (pe_call G_is_tuple hr (by rfl) T.g_is_tuple T.F_is_tuple.kp T.b_is_tuple .nil pass0 (pa_cons (pv 1) (pa_cons (pe_int) (pa_cons (pe_int) pa_nil)))) (pe_and (pe_call G_is_whole hr (by rfl) T.g_is_whole T.F_is_whole.kp T.b_is_whole .nil pass0 (pa_cons (pe_ix (r := rIxT K) ix_tup (pv 1) (pe_int) (fun _ _ => rfl)) pa_nil)) (pe_one (pe_cmpR (r := rEqD K) (op_eqD hr.units) (pv 1) (pe_tup (pa_cons (pe_str) (pa_cons (pe_ix (r := rIxT K) ix_tup (pv 0) (pe_glob (v := .int 1) (by rfl) T.c_NUMBER ⟨_, rfl⟩) (fun _ _ => rfl)) pa_nil))) (nomark _)))))))
      , ?_⟩
    have no : ∀ {H'}, Same H H' → d ≠ asideD r → Q (.bl false) H' := fun s h => q _ false s ⟨fun z => (by cases z), fun z => absurd z h⟩
    refine ⟨v, rfl, v, d, 2, 2, rfl, hv, tupD d 2 2, rfl, ite2 (fun c => ?_) (fun c => no (.refl _) fun z => c (by rw [z]; exact len_tup (n := 2) rfl))⟩
    obtain ⟨ds, rfl, dl⟩ := tup_len (n := 2) c
    obtain ⟨a, xs, rfl, e, hxs⟩ := id hv.tupI
    match ds, dl, hxs with
    | [d0, d1], _, .cons (v := x0) h0 (.cons (v := x1) h1 .nil) =>
      refine ⟨.ref a, rfl, a, [x0, x1], 1, x1, rfl, rfl, SqT.of e, atI_nat (j := 1) rfl, x1, d1, rfl, h1, wholeD d1, rfl, ite2 (fun c1 => ?_) (fun c1 => no (.refl _) fun z => ?_)⟩
      · refine ⟨.ref a, rfl, .ref t, rfl, t, r.xs, 1, .int r.num, rfl, rfl, SqT.of ht, atI_nat (j := 1) hr'.i1, two_sz, fun u nu => ?_⟩
        have su := same_upd (o := .tup [.str (Str.ofString "aside"), .int r.num]) nu
        have hu : Dt SA (upd H u (.tup [.str (Str.ofString "aside"), .int r.num])) (.ref u) (asideD r) := .tup trivial upd_same (by show 2 ≤ 5000; decide) (.cons (.str _) (.cons (.int _) .nil))
        refine ⟨.tuple [d0, d1], asideD r, (hv.same su).dp, hu.dp, hd.sh, asideD_sh r, q _ _ su ?_⟩
        show (PyData.eqv d0 (.str (Str.ofString "aside")) && (PyData.eqv d1 (.int r.num) && true)) = true ↔ _
        rw [Bool.and_eq_true, Bool.and_true, eqv_str, eqv_whole c1]
        exact ⟨fun ⟨a, b⟩ => by rw [a, b]; rfl, fun z => by
          injection z with z
          injection z with z1 z
          injection z with z2 z
          exact ⟨z1, z2⟩⟩
      · injection z with z
        injection z with z1 z
        injection z with z2 z
        rw [z2] at c1
        exact c1 rfl
end
end Th
namespace Th
open PySem PySem.Spec PyProof.Rows L2
/-! a looker's held steps and gaps -/
def strD (z : Nm) : PyData := .str (SX.S z)
def rdD (rd : List Nm) : PyData := .tuple (rd.map strD)
def gapD (rd : List Nm) : PyData := .tuple [.str (Str.ofString "gap"), rdD rd]
theorem strD_inj {x y : Nm} (h : strD x = strD y) : x = y := SX.S_inj (by injection h)
theorem rd_inj : ∀ {a b : List Nm}, a.map strD = b.map strD → a = b
  | [], [], _ => rfl
  | [], _ :: _, h => by cases h
  | _ :: _, [], h => by cases h
  | x :: a, y :: b, h => by
    rw [List.map_cons, List.map_cons] at h
    injection h with h1 h2
    rw [strD_inj h1, rd_inj h2]
theorem gapD_inj {a b : List Nm} (h : gapD a = gapD b) : a = b := by
  injection h with h
  injection h with _ h
  injection h with h _
  injection h with h
  exact rd_inj h
/-- a gap's road: a shortest one to where a return goes over -/
structure GapOk (jns : List (Nm × List Nm)) (r : Rt) (l : Nm) (n : Nat) (rd : List Nm) : Prop where
  len : rd.length = n + 1
  fst : rd[0]? = some l
  lst : lastN rd ∈ fars jns r
  adj : ∀ i x y, rd[i]? = some x → rd[i + 1]? = some y → Adj jns x y
section
variable {P : Program} {w : World} {K : PySem.W.Frag} {mg : Str → Option Value} {base : Heap} {k : Nat}
def sp_is_held : Sp := fun vs H Q _ => ∃ (t : Addr) (r : Rt) (z : Nm) (v : V) (d : PyData), vs = [.ref t, nS z, v] ∧ RtA H t r ∧ RtOk r ∧ Dt SA H v d ∧ Sm d ∧ IsNm z ∧ IsNm r.over ∧ ∀ H' b, Same H H' → (b = true ↔ d = heldD r z) → Q (.bl b) H'
theorem ok_is_held (T : Defs K mg) : FnOk P w K mg base CX0 (k + 2) T.a_is_held T.d_is_held ["row", "line", "step"] sp_is_held := by
  have G_is_tuple : FnOk P w K mg base CX0 (k + 1) _ _ _ _ := ok_is_tuple (k := k) T
  have G_is_whole : FnOk P w K mg base CX0 (k + 1) _ _ _ _ := ok_is_whole (k := k) T
  refine T.F_is_held.ok sc_is_held (fun vs H Q E h => ?_) (fun cdv A outer s H vs Q E hr h => ?_)
  · obtain ⟨t, r, z, v, d, rfl, _⟩ := h
    rfl
  · obtain ⟨t, r, z, v, d, rfl, ht, hr', hv, hd, nz, no', q⟩ := h
    refine ⟨_, PSs.nox
(pss_one (ps_ret (pe_and (pe_call G_is_tuple hr (by rfl) T.g_is_tuple T.F_is_tuple.kp T.b_is_tuple .nil pass0 (pa_cons (pv 2) (pa_cons (pe_int) (pa_cons (pe_int) pa_nil)))) (pe_and (pe_call G_is_whole hr (by rfl) T.g_is_whole T.F_is_whole.kp T.b_is_whole .nil pass0 (pa_cons (pe_ix (r := rIxT K) ix_tup (pv 2) (pe_int) (fun _ _ => rfl)) pa_nil)) (pe_one (pe_cmpR (r := rEqD K) (op_eqD hr.units) (pv 2) (pe_tup (pa_cons (pe_str) (pa_cons (pe_ix (r := rIxT K) ix_tup (pv 0) (pe_glob (v := .int 1) (by rfl) T.c_NUMBER ⟨_, rfl⟩) (fun _ _ => rfl)) (pa_cons (pv 1) (pa_cons (pe_ix (r := rIxT K) ix_tup (pv 0) (pe_glob (v := .int 7) (by rfl) T.c_OVER ⟨_, rfl⟩) (fun _ _ => rfl)) pa_nil))))) (nomark _)))))))
      , ?_⟩
    have no : ∀ {H'}, Same H H' → d ≠ heldD r z → Q (.bl false) H' := fun s h => q _ false s ⟨fun z => (by cases z), fun z => absurd z h⟩
    refine ⟨v, rfl, v, d, 4, 4, rfl, hv, tupD d 4 4, rfl, ite2 (fun c => ?_) (fun c => no (.refl _) fun z => c (by rw [z]; exact len_tup (n := 4) rfl))⟩
    obtain ⟨ds, rfl, dl⟩ := tup_len (n := 4) c
    obtain ⟨a, xs, rfl, e, hxs⟩ := id hv.tupI
    match ds, dl, hxs with
    | [d0, d1, d2, d3], _, .cons (v := x0) h0 (.cons (v := x1) h1 (.cons (v := x2) h2 (.cons (v := x3) h3 .nil))) =>
      refine ⟨.ref a, rfl, a, [x0, x1, x2, x3], 1, x1, rfl, rfl, SqT.of e, atI_nat (j := 1) rfl, x1, d1, rfl, h1, wholeD d1, rfl, ite2 (fun c1 => ?_) (fun c1 => no (.refl _) fun z => ?_)⟩
      · refine ⟨.ref a, rfl, .ref t, rfl, t, r.xs, 1, .int r.num, rfl, rfl, SqT.of ht, atI_nat (j := 1) hr'.i1, nS z, rfl, .ref t, rfl, t, r.xs, 7, nS r.over, rfl, rfl, SqT.of ht, atI_nat (j := 7) hr'.i7, four_sz, fun u nu => ?_⟩
        have su := same_upd (o := .tup [.str (Str.ofString "held"), .int r.num, nS z, nS r.over]) nu
        have hu : Dt SA (upd H u (.tup [.str (Str.ofString "held"), .int r.num, nS z, nS r.over])) (.ref u) (heldD r z) := .tup trivial upd_same (by show 4 ≤ 5000; decide) (.cons (.str _) (.cons (.int _) (.cons (.str _) (.cons (.str _) .nil))))
        have shH : SeqAt.shaped (heldD r z) = true := Bool.and_eq_true_iff.mpr ⟨by
          show (PyData.strOk (Str.ofString "held") && (true && (PyData.strOk (SX.S z) && (PyData.strOk (SX.S r.over) && true)))) = true
          rw [w_held, nm_ok nz, nm_ok no']
          rfl, by rfl⟩
        refine ⟨.tuple [d0, d1, d2, d3], heldD r z, (hv.same su).dp, hu.dp, hd.sh, shH, q _ _ su ?_⟩
        show (PyData.eqv d0 (.str (Str.ofString "held")) && (PyData.eqv d1 (.int r.num) && (PyData.eqv d2 (.str (SX.S z)) && (PyData.eqv d3 (.str (SX.S r.over)) && true)))) = true ↔ _
        rw [Bool.and_eq_true, Bool.and_eq_true, Bool.and_eq_true, Bool.and_true, eqv_str, eqv_whole c1, eqv_str, eqv_str]
        exact ⟨fun ⟨a, b, c, d⟩ => by rw [a, b, c, d]; rfl, fun z => by
          injection z with z
          injection z with z1 z
          injection z with z2 z
          injection z with z3 z
          injection z with z4 z
          exact ⟨z1, z2, z3, z4⟩⟩
      · injection z with z
        injection z with z1 z
        injection z with z2 z
        rw [z2] at c1
        exact c1 rfl
theorem nms_sh {zs : List Nm} (h : ∀ z ∈ zs, IsNm z) : SeqAt.shaped (.tuple (zs.map strD)) = true ∧ SeqAt.shaped (.list (zs.map strD)) = true := by
  have h1 : PyData.canLayAll0 (zs.map strD) = true := by
    induction zs with
    | nil => rfl
    | cons z zs ih => exact Bool.and_eq_true_iff.mpr ⟨nm_ok (h z List.mem_cons_self), ih fun y hy => h y (List.mem_cons_of_mem _ hy)⟩
  have h2 : PyData.depthAll (zs.map strD) = 0 := by
    clear h h1
    induction zs with
    | nil => rfl
    | cons z zs ih => show max 0 (PyData.depthAll (zs.map strD)) = 0; rw [ih]; rfl
  exact ⟨Bool.and_eq_true_iff.mpr ⟨h1, decide_eq_true (by show PyData.depthAll (zs.map strD) + 1 ≤ 64; rw [h2]; decide)⟩, Bool.and_eq_true_iff.mpr ⟨h1, decide_eq_true (by show PyData.depthAll (zs.map strD) + 1 ≤ 64; rw [h2]; decide)⟩⟩
theorem dpAll_strD {H : Hp} : ∀ zs : List Nm, DpAll K H (zs.map nS) (zs.map strD)
  | [] => .nil
  | z :: zs => .cons (.str _) (dpAll_strD zs)
theorem any_strD {d : PyData} {zs : List Nm} : (zs.map strD).any (fun z => PyData.eqv z d) = true ↔ ∃ x ∈ zs, d = strD x := by
  rw [List.any_eq_true]
  constructor
  · rintro ⟨e, he, h⟩
    obtain ⟨x, hx, rfl⟩ := List.mem_map.mp he
    exact ⟨x, hx, str_eqv.mp h⟩
  · rintro ⟨x, hx, e⟩
    exact ⟨_, List.mem_map_of_mem hx, str_eqv.mpr e⟩
def sp_lines_joined_any (K : PySem.W.Frag) : Sp := fun vs H Q _ => ∃ (r : Addr) (v : V) (d : PyData) (ls : List Nm) (jns : List (Nm × List Nm)), vs = [.ref r, v] ∧ Dt SA H v d ∧ Sm d ∧ LJ K H r ls jns ∧ LJok ls jns ∧ (∀ z ∈ ls, IsNm z) ∧
  ∀ H' p (ys : List Nm), Same H H' → H p = none → H' p = some (.lst (ys.map nS)) → ys.Nodup → (∀ y, y ∈ ys ↔ ∃ x, d = strD x ∧ Adj jns x y) → Q (.ref p) H'
set_option maxHeartbeats 8000000 in
theorem ok_lines_joined_any (T : Defs K mg) : FnOk P w K mg base CX0 (k + 1) T.a_lines_joined T.d_lines_joined ["net", "line"] (sp_lines_joined_any K) := by
  refine T.F_lines_joined.ok sc_lines_joined (fun vs H Q E h => ?_) (fun cdv A outer s H vs Q E hr h => ?_)
  · obtain ⟨r, v, d, ls, jns, rfl, _⟩ := h
    rfl
  · obtain ⟨r, v, d0, ls, jns, rfl, hv, hsm, hnet, hok, hnm, q⟩ := h
    refine ⟨_, PSs.nox
(pss_one (ps_ret (pe_callB (Ss.cr_sortS rfl) (by rfl) T.z_sorted (by decide +kernel) (pa_cons (Ss.pe_sc2 (own := [("name", 2), ("joined", 3), ("beside", 4)]) (vs1 := [4]) (g := gTup K 2 (gCons (gName 2) (gCons (gName 3) gNil))) (g1 := gName 4) (wi1 := iTup K _) rfl sc_lines_joined.nd (pi_tup (pe_ix (r := rIxT K) ix_tup (pv 0) (pe_int) (fun _ _ => rfl))) (blkOk_by (N := N_lines_joined) (sc := defScope s_lines_joined) (by decide +kernel)) (by decide) (fun _ _ _ _ _ => (pg_tup rfl (pgs_cons (pg_name (i := 2) sc_lines_joined.nd rfl (.inl rfl)) (pgs_cons (pg_name (i := 3) sc_lines_joined.nd rfl (.inl rfl)) pgs_nil)))) (fun _ _ _ _ _ => pts_one (pt_cmpR (r := InT.rInT K) (InT.op_inT (un65 hr)) (pv 1) (pv 3) (by rfl))) (fun _ _ _ _ _ => (pi_tup (pv 3))) (fun _ _ _ _ _ => (pg_name (i := 4) sc_lines_joined.nd rfl (.inl rfl))) (fun _ _ _ _ _ => pts_nil) (fun _ _ _ _ _ => (pv 4))) pa_nil))))
      , ?_⟩
    obtain ⟨a, c, b, d, ja, er, ea, ec, hJ⟩ := id hnet
    have jl := paired_len hJ
    let AD (js : List (Nm × List Nm)) (y : Nm) : Prop := ∃ x, d0 = strD x ∧ Adj js x y
    refine ⟨.ref r, rfl, r, [.ref a, b, .ref c, d], 2, .ref c, rfl, rfl, er, atI_nat (j := 2) rfl, c, rfl, ⟨_, ec⟩, fun D nD => ?_⟩
    have sub : ∀ {i : Nat} {L : List Nm}, (∀ y, y ∈ L → AD (jns.take i) y ∨ y ∈ ls) → ∀ y ∈ L, y ∈ ls := fun h y hy => (h y hy).elim (fun ⟨x, _, j, hj, _, hb⟩ => hok.sub j (List.mem_of_mem_take hj) y hb) id
    refine Ss.sc2_it (walk_tup (xs := ja.map V.ref)) (fun i H3 => Same H H3 ∧ ∃ L : List Nm, H3 D = some (Ss.SetSO w D (L.map SX.S)) ∧ L.Nodup ∧ ∀ y, y ∈ L ↔ AD (jns.take i) y) ⟨same_upd nD, [], upd_same, .nil, fun y => ⟨fun z => (by cases z), fun ⟨x, _, j, hj, _⟩ => (by cases hj)⟩⟩ (fun i H3 _ pv => (sqs pv.1 ec)) (fun i v H3₀ H3 hi pv yy => ?_) (fun H3 pv => ?_)
    · obtain ⟨rfl, ex⟩ := yy
      obtain ⟨s3, L, eD, hnd, hm⟩ := pv
      obtain ⟨u, eu, rfl⟩ := at_ref ex
      obtain ⟨jn, ejn, jt, hu, hjt⟩ := paired_get hJ eu
      have jin : jn ∈ jns := List.mem_of_getElem? ejn
      have tk1 : jns.take (i + 1) = jns.take i ++ [jn] := by rw [List.take_add_one, ejn]; rfl
      refine ⟨u, _, rfl, (sqs s3 hu), rfl, _, _, rfl, _, [], rfl, rfl, rfl, ?_⟩
      have hjt3 := sqs s3 hjt
      refine ⟨_, rfl, .ref jt, rfl, d0, jn.2.map strD, (hv.same s3).dp, .tup hjt3 (dpAll_strD _), hsm.sh, (nms_sh fun z hz => hnm z (hok.sub jn jin z hz)).1, _, rfl, ite2 (fun c => ?_) (fun c => ?_)⟩
      · obtain ⟨x0, hx0, ed0⟩ := any_strD.mp c
        refine ⟨.ref jt, rfl, jt, rfl, ⟨_, (sqs s3 hjt)⟩, ?_⟩
        refine Ss.in2_it (walk_tup (xs := jn.2.map nS)) (fun j H4 => Same H H4 ∧ ∃ L : List Nm, H4 D = some (Ss.SetSO w D (L.map SX.S)) ∧ L.Nodup ∧ ∀ y, y ∈ L ↔ AD (jns.take i) y ∨ y ∈ jn.2.take j) ⟨s3, L, eD, hnd, fun y => by rw [hm y]; exact ⟨.inl, fun z => z.elim id fun z => (by cases z)⟩⟩ (fun j H4 _ pv => (sqs pv.1 hjt)) (fun j v H4₀ H4 hj pv yy => ?_) (fun H4 pv => ?_)
        · obtain ⟨rfl, ey⟩ := yy
          obtain ⟨s4, L, eD, hnd, hm⟩ := pv
          obtain ⟨z, ez, rfl⟩ := at_nm ey
          have tk2 : jn.2.take (j + 1) = jn.2.take j ++ [z] := by rw [List.take_add_one, ez]; rfl
          refine ⟨rfl, yes_ ?_⟩
          have l8 : L.length ≤ ls.length := nd_len hnd (sub (i := i) fun y hy => ((hm y).mp hy).imp id fun z => hok.sub jn jin y (List.mem_of_mem_take z))
          refine ⟨nS z, rfl, SX.S z, L.map SX.S, rfl, eD, by rw [List.length_map]; exact Nat.lt_of_le_of_lt (Nat.succ_le_succ (Nat.le_trans l8 hok.l8)) (by decide), same_set s4 nD, addN L z, by rw [upd_same, addL_S]; rfl, nd_addN hnd, fun y => ?_⟩
          rw [mem_addN, hm y, tk2, List.mem_append, List.mem_singleton]
          constructor
          · rintro (h | h | h)
            · exact .inr (.inr h)
            · exact .inl h
            · exact .inr (.inl h)
          · rintro (h | h | h)
            · exact .inr (.inl h)
            · exact .inr (.inr h)
            · exact .inl h
        · obtain ⟨s4, L, eD, hnd, hm⟩ := pv
          refine ⟨s4, L, eD, hnd, fun y => ?_⟩
          rw [hm y, tk1, List.length_map, List.take_length]
          constructor
          · rintro (⟨x, e, h⟩ | h)
            · exact ⟨x, e, adj_snoc.mpr (.inl h)⟩
            · exact ⟨x0, ed0, adj_snoc.mpr (.inr ⟨hx0, h⟩)⟩
          · rintro ⟨x, e, h⟩
            rcases adj_snoc.mp h with h | h
            · exact .inl ⟨x, e, h⟩
            · exact .inr h.2
      · refine ⟨s3, L, eD, hnd, fun y => ?_⟩
        rw [hm y, tk1]
        constructor
        · rintro ⟨x, e, h⟩
          exact ⟨x, e, adj_snoc.mpr (.inl h)⟩
        · rintro ⟨x, e, h⟩
          rcases adj_snoc.mp h with h | h
          · exact ⟨x, e, h⟩
          · exact absurd (any_strD.mpr ⟨x, h.1, e⟩) c
    · obtain ⟨s3, L, eD, hnd, hm⟩ := pv
      rw [List.length_map, jl, List.take_length] at hm
      have l8 : L.length ≤ ls.length := nd_len hnd fun y hy => let ⟨x, _, h⟩ := (hm y).mp hy; hok.adj h
      refine ⟨D, _, rfl, eD, by rw [List.length_map]; have := hok.l8; omega, fun ys p hp hs np => ?_⟩
      obtain ⟨zs, rfl, hz⟩ := perm_S hp
      refine q _ p zs (s3.trans (same_upd np)) ?_ (by rw [upd_same, map_nS]) (hz.nodup_iff.mpr hnd) (fun y => by rw [hz.mem_iff]; exact hm y)
      cases e : H p with
      | none => rfl
      | some o => rw [s3 _ _ e] at np; cases np
end
end Th
namespace Th
open PySem PySem.Spec PyProof.Rows L2
theorem atI_lst {xs : List V} {v : V} (e : xs[xs.length - 1]? = some v) : atI xs (-1) = some v := by
  have h := (List.getElem?_eq_some_iff.mp e).1
  have e1 : ixN xs.length (-1) = some (xs.length - 1) := by
    unfold ixN
    rw [if_neg (by decide), if_pos (by omega)]
    congr 1
    omega
  unfold atI
  rw [e1]
  exact e
theorem cutV_one {α : Type} (xs : List V) : cutV xs (some 1) none = xs.drop 1 := by
  cases xs with
  | nil => rfl
  | cons x xs =>
    unfold cutV
    have e1 : HT.sIx (x :: xs).length 0 (some 1) = 1 := by
      unfold HT.sIx
      simp
      try omega
    have e2 : HT.sIx (x :: xs).length (x :: xs).length none = (x :: xs).length := rfl
    rw [e1, e2]
    rw [List.take_of_length_le]
    rw [List.length_drop]
    exact Nat.le_refl _
theorem strs_of : ∀ {es : List PyData}, (∀ e ∈ es, ∃ z, e = strD z) → ∃ rd : List Nm, es = rd.map strD
  | [], _ => ⟨[], rfl⟩
  | e :: es, h => by
    obtain ⟨z, rfl⟩ := h e List.mem_cons_self
    obtain ⟨rd, rfl⟩ := strs_of fun x hx => h x (List.mem_cons_of_mem _ hx)
    exact ⟨z :: rd, rfl⟩
theorem at_strD {rd : List Nm} {i : Nat} {z : Nm} : (rd.map strD)[i]? = some (strD z) ↔ rd[i]? = some z := by
  rw [List.getElem?_map]
  constructor
  · intro h
    cases c : rd[i]? with
    | none => rw [c] at h; cases h
    | some y =>
      rw [c] at h
      rw [strD_inj (Option.some.inj h)]
  · intro h
    rw [h]
    rfl
theorem fars_jn {jns : List (Nm × List Nm)} {jn : Nm × List Nm} {rr : Rt} (jnd : (jns.map (·.1)).Nodup) (jin : jn ∈ jns) (ejn : jn.1 = rr.jn) : fromL jn.2 rr.over = fars jns rr := by
  unfold fars
  rw [← ejn, jLines_of jnd jin]
theorem lastN_at {rd : List Nm} {z : Nm} (h : rd[rd.length - 1]? = some z) : lastN rd = z := by
  unfold lastN
  rw [List.getLast?_eq_getElem?, h]
  rfl
/-- the neighbours of a road, by the road's data -/
def AdjsD (jns : List (Nm × List Nm)) (es : List PyData) (i : Nat) : Prop := ∀ j, j < i → ∀ a b, es[j]? = some a → es[j + 1]? = some b → ∃ x y, a = strD x ∧ b = strD y ∧ Adj jns x y
theorem gapOk_iff {jns : List (Nm × List Nm)} {rr : Rt} {x : Nm} {n : Nat} {es : List PyData} (n1 : 1 ≤ n) (el : es.length = n + 1) (h0 : es[0]? = some (strD x)) (hl : ∃ z, es[es.length - 1]? = some (strD z) ∧ z ∈ fars jns rr) : AdjsD jns es n ↔ ∃ rd, es = rd.map strD ∧ GapOk jns rr x n rd := by
  constructor
  · intro h
    obtain ⟨rd, rfl⟩ := strs_of (es := es) fun e he => by
      obtain ⟨i, hi⟩ := List.getElem?_of_mem he
      have hlt := (List.getElem?_eq_some_iff.mp hi).1
      cases i with
      | zero => rw [h0] at hi; exact ⟨x, (Option.some.inj hi).symm⟩
      | succ i =>
        obtain ⟨_, y, _, e2, _⟩ := h i (by omega) _ _ (List.getElem?_eq_getElem (by omega)) hi
        exact ⟨y, e2⟩
    rw [List.length_map] at el hl
    obtain ⟨z, hz, hf⟩ := hl
    refine ⟨rd, rfl, el, at_strD.mp h0, by rw [lastN_at (at_strD.mp hz)]; exact hf, fun i a b ha hb => ?_⟩
    have hlt := (List.getElem?_eq_some_iff.mp hb).1
    obtain ⟨a', b', e1, e2, hA⟩ := h i (by omega) _ _ (at_strD.mpr ha) (at_strD.mpr hb)
    rw [strD_inj e1, strD_inj e2]
    exact hA
  · rintro ⟨rd, rfl, g⟩ j hj a b ha hb
    rw [List.getElem?_map] at ha hb
    cases ca : rd[j]? with
    | none => rw [ca] at ha; cases ha
    | some x' =>
      cases cb : rd[j + 1]? with
      | none => rw [cb] at hb; cases hb
      | some y' =>
        rw [ca] at ha
        rw [cb] at hb
        exact ⟨x', y', (Option.some.inj ha).symm, (Option.some.inj hb).symm, g.adj j _ _ ca cb⟩
theorem gapw_sh : SeqAt.shaped (.str (Str.ofString "gap")) = true := Bool.and_eq_true_iff.mpr ⟨w_gap, by rfl⟩
theorem str_sh {z : Nm} (h : IsNm z) : SeqAt.shaped (strD z) = true := Bool.and_eq_true_iff.mpr ⟨nm_ok h, by rfl⟩
section
variable {P : Program} {w : World} {K : PySem.W.Frag} {mg : Str → Option Value} {base : Heap} {k : Nat}
def sp_is_gap (K : PySem.W.Frag) : Sp := fun vs H Q _ => ∃ (r t : Addr) (x : Nm) (rr : Rt) (n : Nat) (v : V) (d : PyData) (ls : List Nm) (jns : List (Nm × List Nm)) (jn : Nm × List Nm), vs = [.ref r, nS x, .ref t, .int (n : Int), v] ∧ RtA H t rr ∧ RtOk rr ∧ Dt SA H v d ∧ Sm d ∧ 1 ≤ n ∧ n ≤ 100 ∧ LJ K H r ls jns ∧ LJok ls jns ∧ (∀ z ∈ ls, IsNm z) ∧ x ∈ ls ∧ (jns.map (·.1)).Nodup ∧ jn ∈ jns ∧ jn.1 = rr.jn ∧ rr.over ∈ jn.2 ∧
  ∀ H' b, Same H H' → (b = true ↔ ∃ rd, d = gapD rd ∧ GapOk jns rr x n rd) → Q (.bl b) H'
set_option maxHeartbeats 8000000 in
theorem ok_is_gap (T : Defs K mg) : FnOk P w K mg base CX0 (k + 2) T.a_is_gap T.d_is_gap ["net", "line", "row", "lack", "step"] (sp_is_gap K) := by
  have G_is_tuple : FnOk P w K mg base CX0 (k + 1) _ _ _ _ := ok_is_tuple (k := k) T
  have G_lines_from : FnOk P w K mg base CX0 (k + 1) _ _ _ _ := ok_lines_from (k := k) T
  have G_lines_joined : FnOk P w K mg base CX0 (k + 1) _ _ _ _ := ok_lines_joined_any (k := k) T
  refine T.F_is_gap.ok sc_is_gap (fun vs H Q E h => ?_) (fun cdv A outer s H vs Q E hr h => ?_)
  · obtain ⟨r, t, x, rr, n, v, d, ls, jns, jn, rfl, _⟩ := h
    rfl
  · obtain ⟨r, t, x, rr, n, v, d, ls, jns, jn, rfl, ht, hrr, hv, hsm, n1, n100, hlj, hok, hnm, xin, jnd, jin, ejn, oin, q⟩ := h
    refine ⟨_, PSs.nox
(pss_cons (ps_if (PW.pt (pw_or (pt_not (pt_val (pe_call G_is_tuple hr (by rfl) T.g_is_tuple T.F_is_tuple.kp T.b_is_tuple .nil pass0 (pa_cons (pv 4) (pa_cons (pe_int) (pa_cons (pe_int) pa_nil)))))) (pw_or (pt_cmpR (r := rNeD K) (op_neD hr.units) (pe_ix (r := rIxT K) ix_tup (pv 4) (pe_int) (fun _ _ => rfl)) (pe_str) (nomark _)) (pw_or1 (pt_not (pt_val (pe_call G_is_tuple hr (by rfl) T.g_is_tuple T.F_is_tuple.kp T.b_is_tuple .nil pass0 (pa_cons (pe_ix (r := rIxT K) ix_tup (pv 4) (pe_int) (fun _ _ => rfl)) (pa_cons (pe_op op_add (pv 3) (pe_int)) (pa_cons (pe_op op_add (pv 3) (pe_int)) pa_nil))))))))))
      (pss_one (ps_ret (pe_bl)))
      pss_nil)
    (pss_cons (ps_set (i := 5) sc_is_gap.nd rfl (.inl rfl) (pe_ix (r := rIxT K) ix_tup (pv 4) (pe_int) (fun _ _ => rfl)))
    (pss_cons (ps_if (PW.pt (pw_or (pt_cmpR (r := rNeD K) (op_neD hr.units) (pe_ix (r := rIxT K) ix_tup (pv 5) (pe_int) (fun _ _ => rfl)) (pv 1) (nomark _)) (pw_or1 (pt_cmpR (r := rNotInD K) (op_notInD (un65 hr)) (pe_ix (r := rIxT K) ix_tup (pv 5) (pe_un un_neg (pe_int)) (fun _ _ => rfl)) (pe_call G_lines_from hr (by rfl) T.g_lines_from T.F_lines_from.kp T.b_lines_from .nil pass0 (pa_cons (pv 0) (pa_cons (pe_ix (r := rIxT K) ix_tup (pv 2) (pe_glob (v := .int 3) (by rfl) T.c_JUNCTION ⟨_, rfl⟩) (fun _ _ => rfl)) (pa_cons (pe_ix (r := rIxT K) ix_tup (pv 2) (pe_glob (v := .int 7) (by rfl) T.c_OVER ⟨_, rfl⟩) (fun _ _ => rfl)) pa_nil)))) (by rfl)))))
      (pss_one (ps_ret (pe_bl)))
      pss_nil)
    (pss_one (ps_ret (pe_callB (r := rAll K) (cr_all rfl) (by rfl) T.z_all (by decide +kernel) (pa_cons (pe_lc (own := [("near", 6), ("far", 7)]) (g := gTup K 2 (gCons (gName 6) (gCons (gName 7) gNil))) rfl sc_is_gap.nd (RZ.pi_zipA (by rfl) T.z_zip (pa_cons (pv 5) (pa_cons (pe_slice (r := rSlS K) sl_tupS (pv 5) (po_some (pe_int)) po_none) pa_nil))) (blkOk_by (N := N_is_gap) (sc := defScope s_is_gap) (by decide +kernel)) (fun _ _ _ _ _ => (pg_tup rfl (pgs_cons (pg_name (i := 6) sc_is_gap.nd rfl (.inl rfl)) (pgs_cons (pg_name (i := 7) sc_is_gap.nd rfl (.inl rfl)) pgs_nil)))) (fun _ _ _ _ _ => pts_nil) (fun _ _ _ _ _ => (pe_cmpR (r := rInD K) (op_inD (un65 hr)) (pv 7) (pe_call G_lines_joined hr (by rfl) T.g_lines_joined T.F_lines_joined.kp T.b_lines_joined .nil pass0 (pa_cons (pv 0) (pa_cons (pv 6) pa_nil))) (by rfl)))) pa_nil)))))))
      , ?_⟩
    have no : ∀ {H'}, Same H H' → (∀ rd, d = gapD rd → ¬ GapOk jns rr x n rd) → Q (.bl false) H' := fun s h => q _ false s ⟨fun z => (by cases z), fun ⟨rd, e, g⟩ => absurd g (h rd e)⟩
    refine ⟨v, rfl, v, d, 2, 2, rfl, hv, tupD d 2 2, rfl, ?_⟩
    by_cases c : tupD d 2 2 = true
    case neg =>
      rw [Bool.eq_false_iff.mpr c]
      exact iteT (no (.refl _) fun rd e _ => c (by rw [e]; exact len_tup (n := 2) rfl))
    rw [c]
    refine iteF ?_
    obtain ⟨ds, rfl, dl⟩ := tup_len (n := 2) c
    obtain ⟨a, xs, rfl, e, hxs⟩ := id hv.tupI
    match ds, dl, hxs with
    | [d0, d1], _, .cons (v := x0) h0 (.cons (v := x1) h1 .nil) =>
      have sm0 : Sm d0 := hsm.tup d0 List.mem_cons_self
      have sm1 : Sm d1 := hsm.tup d1 (List.mem_cons_of_mem _ List.mem_cons_self)
      refine ⟨.ref a, rfl, a, [x0, x1], 0, x0, rfl, rfl, SqT.of e, atI_nat (j := 0) rfl, d0, .str (Str.ofString "gap"), h0.dp, .str _, sm0.sh, gapw_sh, _, rfl, ?_⟩
      by_cases c1 : PyData.eqv d0 (.str (Str.ofString "gap")) = true
      case neg =>
        rw [Bool.eq_false_iff.mpr c1]
        refine iteT (no (.refl _) fun rd e _ => c1 (eqv_str.mpr ?_))
        injection e with e
        injection e with e _
      rw [c1]
      refine iteF ?_
      have c1 := eqv_str.mp c1
      subst c1
      refine ⟨.ref a, rfl, a, [x0, x1], 1, x1, rfl, rfl, SqT.of e, atI_nat (j := 1) rfl, .int n, rfl, n, 1, rfl, rfl, .int n, rfl, n, 1, rfl, rfl, x1, d1, ((n + 1 : Nat) : Int), ((n + 1 : Nat) : Int), rfl, h1, _, rfl, ?_⟩
      by_cases c2 : tupD d1 ((n + 1 : Nat) : Int) ((n + 1 : Nat) : Int) = true
      case neg =>
        rw [Bool.eq_false_iff.mpr c2]
        refine iteT (no (.refl _) fun rd e g => c2 ?_)
        injection e with e
        injection e with _ e
        injection e with e _
        rw [e]
        exact len_tup (by rw [List.length_map, g.len])
      rw [c2]
      refine iteF ?_
      obtain ⟨es, rfl, el⟩ := tup_len c2
      obtain ⟨b, ys, rfl, eb, hys⟩ := id h1.tupI
      have yl := hys.len
      have inj : ∀ {rd}, PyData.tuple [PyData.str (Str.ofString "gap"), .tuple es] = gapD rd → es = rd.map strD := fun h => by
        injection h with h
        injection h with _ h
        injection h with h _
        injection h with h
      have back : ∀ {rd}, es = rd.map strD → PyData.tuple [PyData.str (Str.ofString "gap"), .tuple es] = gapD rd := fun h => by rw [h]; rfl
      refine ⟨.ref a, rfl, a, _, 1, .ref b, rfl, rfl, SqT.of e, atI_nat (j := 1) rfl, ?_⟩
      obtain ⟨e0, he0⟩ : ∃ e0, es[0]? = some e0 := ⟨_, List.getElem?_eq_getElem (by omega)⟩
      obtain ⟨y0, hy0, hd0⟩ := hys.get2 he0
      obtain ⟨el', hel⟩ : ∃ e0, es[es.length - 1]? = some e0 := ⟨_, List.getElem?_eq_getElem (by omega)⟩
      obtain ⟨yl', hyl, hdl⟩ := hys.get2 hel
      have sme0 : Sm e0 := sm1.tup e0 (List.mem_of_getElem? he0)
      have smel : Sm el' := sm1.tup el' (List.mem_of_getElem? hel)
      refine ⟨.ref b, rfl, b, ys, 0, y0, rfl, rfl, SqT.of eb, atI_nat (j := 0) hy0, nS x, rfl, e0, strD x, hd0.dp, .str _, sme0.sh, str_sh (hnm x xin), _, rfl, ?_⟩
      by_cases c3 : PyData.eqv e0 (strD x) = true
      case neg =>
        rw [Bool.eq_false_iff.mpr c3]
        refine iteT (no (.refl _) fun rd e g => c3 (eqv_str.mpr ?_))
        have e := inj e
        rw [e, at_strD.mpr g.fst] at he0
        exact (Option.some.inj he0).symm
      rw [c3]
      refine iteF ?_
      have c3 := eqv_str.mp c3
      subst c3
      refine ⟨.ref b, rfl, 1, rfl, b, ys, -1, yl', rfl, rfl, SqT.of eb, atI_lst (by rw [yl]; exact hyl), .ref r, rfl, .ref t, rfl, t, _, 3, _, rfl, rfl, SqT.of ht, atI_nat (j := 3) hrr.i3, .ref t, rfl, t, _, 7, _, rfl, rfl, SqT.of ht, atI_nat (j := 7) hrr.i7, r, rr.over, ls, jns, jn, by rw [ejn]; rfl, hlj, hok, jnd, jin, oin, fun H1 fr s1 nfr efr => ?_⟩
      rw [fars_jn jnd jin ejn] at efr
      have fnm : ∀ z ∈ fars jns rr, IsNm z := fun z hz => by
        rw [← fars_jn jnd jin ejn] at hz
        exact hnm z (hok.sub jn jin z (mem_fromL.mp hz).1)
      refine ⟨el', (fars jns rr).map strD, (hdl.same s1).dp, .lst (SqL.of efr) (dpAll_strD _), smel.sh, (nms_sh fnm).2, _, rfl, ?_⟩
      by_cases c4 : ((fars jns rr).map strD).any (fun z => PyData.eqv z el') = true
      case neg =>
        rw [Bool.eq_false_iff.mpr c4]
        refine iteT (no s1 fun rd e g => c4 (any_strD.mpr ⟨_, g.lst, ?_⟩))
        have e := inj e
        rw [e, List.length_map] at hel
        cases ca : rd[rd.length - 1]? with
        | none => rw [List.getElem?_map, ca] at hel; cases hel
        | some z =>
          rw [at_strD.mpr ca] at hel
          rw [lastN_at ca]
          exact (Option.some.inj hel).symm
      rw [c4]
      refine iteF ?_
      obtain ⟨zl, hzl, rfl⟩ := any_strD.mp c4
      refine ⟨.ref b, rfl, .ref b, rfl, 1, rfl, b, ys, rfl, s1 _ _ eb, fun cc H2 s2 ec => ?_⟩
      rw [cutV_one (α := Nat)] at ec
      have eb2 := s2 _ _ (s1 _ _ eb)
      have iff0 := gapOk_iff n1 el he0 ⟨zl, hel, hzl⟩
      refine ⟨b, cc, _, _, rfl, .inr ⟨SqT.of eb2, SqT.of ec, fun D nD => ?_⟩⟩
      have s12 := s1.trans s2
      refine lc_it (walk_zipT (n := n) (xs := ys) (ys := ys.drop 1) (by rw [List.length_drop]; omega)) (fun i H3 => Same H2 H3 ∧ ∃ bs : List Bool, H3 D = some (.lst (bs.map V.bl)) ∧ bs.length = i ∧ (bs.all id = true ↔ AdjsD jns es i)) ⟨same_upd nD, [], upd_same, rfl, ⟨fun _ j hj => absurd hj (Nat.not_lt_zero _), fun _ => rfl⟩⟩ (fun i H3 _ pv => ⟨SqT.of (pv.1 _ _ eb2), SqT.of (pv.1 _ _ ec)⟩) (fun i v H3 H4 hi pv yy => ?_) (fun H3 pv => ?_)
      · obtain ⟨U, xv, yv, rfl, nU, rfl, ex, ey⟩ := yy
        obtain ⟨s3, bs, eD, bl, hbs⟩ := pv
        obtain ⟨ax, hax, hda⟩ := hys.get ex
        have ey : (ys.drop 1)[i]? = some yv := ey
        rw [List.getElem?_drop, show 1 + i = i + 1 by omega] at ey
        obtain ⟨bx, hbx, hdb⟩ := hys.get ey
        have s4 := (s12.trans s3).trans (same_upd (o := .tup [xv, yv]) nU)
        have s34 : Same H3 (upd H3 U (.tup [xv, yv])) := same_upd nU
        have sma : Sm ax := sm1.tup ax (List.mem_of_getElem? hax)
        have smb : Sm bx := sm1.tup bx (List.mem_of_getElem? hbx)
        refine ⟨U, _, rfl, SqT.of upd_same, rfl, _, _, rfl, _, [], rfl, rfl, rfl, yes_ ?_⟩
        refine ⟨yv, rfl, .ref r, rfl, xv, rfl, r, xv, ax, ls, jns, rfl, hda.same s4, sma, hlj.tk (.of s4), hok, hnm, fun H5 p zs s5 np ep znd hz => ?_⟩
        have znm : ∀ z ∈ zs, IsNm z := fun z h => by
          obtain ⟨x', _, hA⟩ := (hz z).mp h
          exact hnm z (hok.adj hA)
        refine ⟨bx, zs.map strD, (hdb.same (s4.trans s5)).dp, .lst (SqL.of ep) (dpAll_strD _), smb.sh, (nms_sh znm).2, _, s5 _ _ (s34 _ _ eD), by rw [List.length_map, bl]; exact small5000 (by omega), same_set (s3.trans (s34.trans s5)) nD, bs ++ [(zs.map strD).any fun z => PyData.eqv z bx], by rw [upd_same, List.map_append]; rfl, by rw [List.length_append, bl]; rfl, ?_⟩
        rw [List.all_append, Bool.and_eq_true, hbs]
        have one : ([(zs.map strD).any fun z => PyData.eqv z bx].all id = true) ↔ (zs.map strD).any (fun z => PyData.eqv z bx) = true := by simp
        rw [one, any_strD]
        constructor
        · rintro ⟨h1, z, hz1, e1⟩ j hj a' b' ha' hb'
          rcases Nat.lt_or_eq_of_le (Nat.le_of_lt_succ hj) with h | h
          · exact h1 j h a' b' ha' hb'
          · subst h
            rw [hax] at ha'
            rw [hbx] at hb'
            obtain ⟨x', e2, hA⟩ := (hz z).mp hz1
            exact ⟨x', z, by rw [← Option.some.inj ha', e2], by rw [← Option.some.inj hb', e1], hA⟩
        · intro h
          obtain ⟨x', y', e1, e2, hA⟩ := h i (Nat.lt_succ_self _) _ _ hax hbx
          exact ⟨fun j hj => h j (Nat.lt_succ_of_lt hj), y', (hz y').mpr ⟨x', e1, hA⟩, e2⟩
      obtain ⟨s3, bs, eD, bl, hbs⟩ := pv
      refine ⟨D, _, rfl, SqL.of eD, q _ _ (s12.trans s3) ?_⟩
      rw [hbs, iff0]
      exact ⟨fun ⟨rd, e, g⟩ => ⟨rd, back e, g⟩, fun ⟨rd, e, g⟩ => ⟨rd, inj e, g⟩⟩
end
end Th
namespace Th
open PySem PySem.Spec PyProof.Rows L2
/-! a looker's steps -/
/-- what stands behind a return, by the steps' data: how many are wrong -/
inductive HistR (jns : List (Nm × List Nm)) : List Rt → Nm → List PyData → Nat → Prop
  | nil {x : Nm} : HistR jns [] x [] 0
  | aside {r : Rt} {rs : List Rt} {x : Nm} {tl : List PyData} {c : Nat} : HistR jns rs x tl c → HistR jns (r :: rs) x (asideD r :: tl) (c + 1)
  | held {r : Rt} {rs : List Rt} {x : Nm} {tl : List PyData} {c : Nat} : lackF jns r x = some 0 → HistR jns rs r.over tl c → HistR jns (r :: rs) x (heldD r x :: tl) c
  | gap {r : Rt} {rs : List Rt} {x : Nm} {tl : List PyData} {c n : Nat} {rd : List Nm} : lackF jns r x = some (n + 1) → GapOk jns r x (n + 1) rd → HistR jns rs r.over tl c → HistR jns (r :: rs) x (gapD rd :: heldD r (lastN rd) :: tl) (c + n + 1)
theorem aside_ne_held {r r' : Rt} {z : Nm} : asideD r ≠ heldD r' z := fun h => by
  injection h with h
  injection h with h _
  injection h with h
  exact absurd h (by decide +kernel)
theorem aside_ne_gap {r : Rt} {rd : List Nm} : asideD r ≠ gapD rd := fun h => by
  injection h with h
  injection h with h _
  injection h with h
  exact absurd h (by decide +kernel)
theorem held_ne_gap {r : Rt} {z : Nm} {rd : List Nm} : heldD r z ≠ gapD rd := fun h => by
  injection h with h
  injection h with h _
  injection h with h
  exact absurd h (by decide +kernel)
/-- with how many steps a return is held -/
def HoldR (jns : List (Nm × List Nm)) (rr : Rt) (x : Nm) (ds : List PyData) (m : Nat) : Prop :=
  (m = 1 ∧ lackF jns rr x = some 0 ∧ ∃ tl, ds = heldD rr x :: tl) ∨ (m = 2 ∧ ∃ n rd tl, lackF jns rr x = some (n + 1) ∧ GapOk jns rr x (n + 1) rd ∧ ds = gapD rd :: heldD rr (lastN rd) :: tl) ∨
  (m = 0 ∧ (lackF jns rr x = some 0 → ∀ tl, ds ≠ heldD rr x :: tl) ∧ ∀ n rd tl, lackF jns rr x = some (n + 1) → GapOk jns rr x (n + 1) rd → ds ≠ gapD rd :: heldD rr (lastN rd) :: tl)
theorem hist_aside {jns : List (Nm × List Nm)} {r : Rt} {rs : List Rt} {x : Nm} {tl : List PyData} : (∃ c, HistR jns (r :: rs) x (asideD r :: tl) c) ↔ ∃ c, HistR jns rs x tl c := by
  constructor
  · rintro ⟨c, h⟩
    generalize e : asideD r :: tl = ds at h
    cases h with
    | aside h => injection e with _ e; subst e; exact ⟨_, h⟩
    | held => injection e with e _; exact absurd e aside_ne_held
    | gap => injection e with e _; exact absurd e aside_ne_gap
  · rintro ⟨c, h⟩
    exact ⟨_, .aside h⟩
theorem hist_hold {jns : List (Nm × List Nm)} {r : Rt} {rs : List Rt} {x : Nm} {ds : List PyData} {m : Nat} (na : ∀ tl, ds ≠ asideD r :: tl) (h : HoldR jns r x ds m) : (m = 0 → ¬ ∃ c, HistR jns (r :: rs) x ds c) ∧ (m ≠ 0 → m ≤ ds.length ∧ ((∃ c, HistR jns (r :: rs) x ds c) ↔ ∃ c, HistR jns rs r.over (ds.drop m) c)) := by
  rcases h with ⟨rfl, h1, tl, rfl⟩ | ⟨rfl, n, rd, tl, h1, h2, rfl⟩ | ⟨rfl, h1, h2⟩
  · refine ⟨fun z => (by cases z), fun _ => ⟨by simp, ?_⟩⟩
    constructor
    · rintro ⟨c, h⟩
      generalize e : heldD r x :: tl = ds at h
      cases h with
      | aside h => injection e with e _; exact absurd e.symm aside_ne_held
      | held _ h => injection e with _ e; subst e; exact ⟨_, h⟩
      | gap => injection e with e _; exact absurd e held_ne_gap
    · rintro ⟨c, h⟩
      exact ⟨_, .held h1 h⟩
  · refine ⟨fun z => (by cases z), fun _ => ⟨by simp, ?_⟩⟩
    constructor
    · rintro ⟨c, h⟩
      generalize e : gapD rd :: heldD r (lastN rd) :: tl = ds at h
      cases h with
      | aside h => injection e with e _; exact absurd e.symm aside_ne_gap
      | held _ h => injection e with e _; exact absurd e.symm held_ne_gap
      | gap _ _ h => injection e with _ e; injection e with _ e; subst e; exact ⟨_, h⟩
    · rintro ⟨c, h⟩
      exact ⟨_, .gap h1 h2 h⟩
  · refine ⟨fun _ => ?_, fun z => absurd rfl z⟩
    rintro ⟨c, h⟩
    cases h with
    | aside h => exact na _ rfl
    | held h3 h => exact h1 h3 _ rfl
    | gap h3 h4 h => exact h2 _ _ _ h3 h4 rfl
theorem hold_take {jns : List (Nm × List Nm)} {r : Rt} {x : Nm} {ds : List PyData} {m : Nat} (h : HoldR jns r x (ds.take 2) m) : HoldR jns r x ds m := by
  rcases h with ⟨rfl, h1, tl, e⟩ | ⟨rfl, n, rd, tl, h1, h2, e⟩ | ⟨rfl, h1, h2⟩
  · match ds, e with
    | d :: ds, e =>
      rw [List.take_succ_cons] at e
      injection e with e _
      exact .inl ⟨rfl, h1, ds, by rw [e]⟩
  · match ds, e with
    | d :: [], e => injection e with _ e; cases e
    | d :: d' :: ds, e =>
      injection e with e1 e
      injection e with e2 e
      exact .inr (.inl ⟨rfl, n, rd, ds, h1, h2, by rw [e1, e2]⟩)
  · exact .inr (.inr ⟨rfl, fun a tl e => h1 a _ (by rw [e, List.take_succ_cons]), fun n rd tl a b e => h2 n rd [] a b (by rw [e]; rfl)⟩)
theorem lackV_eq {jns : List (Nm × List Nm)} {rr : Rt} {x : Nm} {rd : List Nm} (h : Rd' jns (fars jns rr) x rd) : lackV rd = match lackF jns rr x with
    | none => .non
    | some n => .int (n : Int) := by
  unfold lackV
  rcases h with ⟨n, h1, h2⟩ | ⟨h1, h2⟩
  · rw [lackF_some.mpr h1]
    have := h2.len
    rw [if_neg (fun z => by rw [z] at this; cases this), this]
    show V.int (((n + 1 : Nat) : Int) - 1) = V.int (n : Int)
    congr 1
    omega
  · rw [lackF_none.mpr h1, if_pos h2]
theorem lackF_lt {ls : List Nm} {jns : List (Nm × List Nm)} {rr : Rt} {x : Nm} {n : Nat} (hok : LJok ls jns) (jnd : (jns.map (·.1)).Nodup) (hfit : RtFit jns rr) (h : lackF jns rr x = some n) : n < 8 := by
  obtain ⟨jn, jin, ejn, oin⟩ := hfit
  have l8 := hok.l8
  have := af_lt hok (fun f hf => by
    rw [← fars_jn jnd jin ejn] at hf
    exact hok.sub jn jin f (mem_fromL.mp hf).1) (lackF_some.mp h)
  omega
theorem cut_two (xs : List V) (m : Nat) (h : m ≤ xs.length) : cutV xs (some (m : Int)) (some ((m + 2 : Nat) : Int)) = (xs.drop m).take 2 := by
  unfold cutV
  rw [HT.sIx_nat, HT.sIx_nat, Nat.min_eq_left h]
  by_cases c : m + 2 ≤ xs.length
  · rw [Nat.min_eq_left c, show m + 2 - m = 2 by omega]
  · rw [Nat.min_eq_right (by omega), List.take_of_length_le (by rw [List.length_drop]; exact Nat.le_refl _), List.take_of_length_le (by rw [List.length_drop]; omega)]
section
variable {P : Program} {w : World} {K : PySem.W.Frag} {mg : Str → Option Value} {base : Heap} {k : Nat}
def sp_steps_to_hold (K : PySem.W.Frag) : Sp := fun vs H Q _ => ∃ (r t L : Addr) (x : Nm) (rr : Rt) (us : List V) (ds : List PyData) (ls : List Nm) (jns : List (Nm × List Nm)), vs = [.ref r, nS x, .ref t, .ref L] ∧ RtA H t rr ∧ RtOk rr ∧ RtFit jns rr ∧ H L = some (.lst us) ∧ DtAll SA H us ds ∧ (∀ d ∈ ds, Sm d) ∧ LJ K H r ls jns ∧ LJok ls jns ∧ (∀ z ∈ ls, IsNm z) ∧ x ∈ ls ∧ (jns.map (·.1)).Nodup ∧
  ∀ H' m, Same H H' → HoldR jns rr x ds m → Q (.int (m : Nat)) H'
set_option maxHeartbeats 8000000 in
theorem ok_steps_to_hold (T : Defs K mg) : FnOk P w K mg base CX0 (k + 6) T.a_steps_to_hold T.d_steps_to_hold ["net", "line", "row", "told"] (sp_steps_to_hold K) := by
  have G_lacking : FnOk P w K mg base CX0 (k + 5) _ _ _ _ := ok_lacking (k := k) T
  have G_is_held : FnOk P w K mg base CX0 (k + 5) _ _ _ _ := ok_is_held (k := k + 3) T
  have G_is_gap : FnOk P w K mg base CX0 (k + 5) _ _ _ _ := ok_is_gap (k := k + 3) T
  refine T.F_steps_to_hold.ok sc_steps_to_hold (fun vs H Q E h => ?_) (fun cdv A outer s H vs Q E hr h => ?_)
  · obtain ⟨r, t, L, x, rr, us, ds, ls, jns, rfl, _⟩ := h
    rfl
  · obtain ⟨r, t, L, x, rr, us, ds, ls, jns, rfl, ht, hrr, hfit, eL, hds, hsm, hlj, hok, hnm, xin, jnd, q⟩ := h
    refine ⟨_, PSs.nox
(pss_cons (ps_set (i := 4) sc_steps_to_hold.nd rfl (.inl rfl) (pe_call G_lacking hr (by rfl) T.g_lacking T.F_lacking.kp T.b_lacking .nil pass0 (pa_cons (pv 0) (pa_cons (pv 1) (pa_cons (pe_ix (r := rIxT K) ix_tup (pv 2) (pe_glob (v := .int 3) (by rfl) T.c_JUNCTION ⟨_, rfl⟩) (fun _ _ => rfl)) (pa_cons (pe_ix (r := rIxT K) ix_tup (pv 2) (pe_glob (v := .int 7) (by rfl) T.c_OVER ⟨_, rfl⟩) (fun _ _ => rfl)) pa_nil))))))
    (pss_cons (ps_if (PW.pt (pw_and (pt_cmpR op_eq (pv 4) (pe_int) (nomark _)) (pw_and (pt_truth (pv 3) (by intro _; rfl)) (pw_and1 (pt_val (pe_call G_is_held hr (by rfl) T.g_is_held T.F_is_held.kp T.b_is_held .nil pass0 (pa_cons (pv 2) (pa_cons (pv 1) (pa_cons (pe_ix (r := rIxL K) ix_list (pv 3) (pe_int) (fun _ _ => rfl)) pa_nil)))))))))
      (pss_one (ps_ret (pe_int)))
      pss_nil)
    (pss_cons (ps_if (PW.pt (pw_or (pt_cmpR op_isN (pv 4) (pe_non) (nomark _)) (pw_or (pt_cmpR op_eq (pv 4) (pe_int) (nomark _)) (pw_or (pt_cmpR op_lt (pe_callB (r := rLenS K) call_lenS (by rfl) T.z_len (by decide +kernel) (pa_cons (pv 3) pa_nil)) (pe_int) (nomark _)) (pw_or1 (pt_not (pt_val (pe_call G_is_gap hr (by rfl) T.g_is_gap T.F_is_gap.kp T.b_is_gap .nil pass0 (pa_cons (pv 0) (pa_cons (pv 1) (pa_cons (pv 2) (pa_cons (pv 4) (pa_cons (pe_ix (r := rIxL K) ix_list (pv 3) (pe_int) (fun _ _ => rfl)) pa_nil)))))))))))))
      (pss_one (ps_ret (pe_int)))
      pss_nil)
    (pss_one (ps_ret (pe_ifExp (pt_val (pe_call G_is_held hr (by rfl) T.g_is_held T.F_is_held.kp T.b_is_held .nil pass0 (pa_cons (pv 2) (pa_cons (pe_ix (r := rIxT K) ix_tup (pe_ix (r := rIxT K) ix_tup (pe_ix (r := rIxL K) ix_list (pv 3) (pe_int) (fun _ _ => rfl)) (pe_int) (fun _ _ => rfl)) (pe_un un_neg (pe_int)) (fun _ _ => rfl)) (pa_cons (pe_ix (r := rIxL K) ix_list (pv 3) (pe_int) (fun _ _ => rfl)) pa_nil))))) (pe_int) (pe_int)))))))
      , ?_⟩
    have hfit0 := hfit
    obtain ⟨jn, jin, ejn, oin⟩ := hfit
    have onm : IsNm rr.over := hnm _ (hok.sub jn jin _ oin)
    have ul := hds.len
    refine ⟨.ref r, rfl, nS x, rfl, .ref t, rfl, t, _, 3, _, rfl, rfl, SqT.of ht, atI_nat (j := 3) hrr.i3, .ref t, rfl, t, _, 7, _, rfl, rfl, SqT.of ht, atI_nat (j := 7) hrr.i7, r, x, rr.over, ls, jns, jn, by rw [ejn]; rfl, hlj, hok, xin, jnd, jin, oin, fun H1 rd s1 hrd => ?_⟩
    rw [fars_jn jnd jin ejn] at hrd
    rw [lackV_eq hrd]
    have eL1 := s1 _ _ eL
    have ht1 : RtA H1 t rr := s1 _ _ ht
    have zero : ∀ {H'}, Same H H' → (lackF jns rr x = some 0 → ∀ tl, ds ≠ heldD rr x :: tl) → (∀ n rd tl, lackF jns rr x = some (n + 1) → GapOk jns rr x (n + 1) rd → ds ≠ gapD rd :: heldD rr (lastN rd) :: tl) → Q (.int 0) H' := fun s a b => q _ 0 s (.inr (.inr ⟨rfl, a, b⟩))
    cases hlk : lackF jns rr x with
    | none =>
      rw [hlk] at zero
      refine ⟨.non, rfl, rfl, _, rfl, ite2 (fun c => absurd (of_decide_eq_true c) (fun z => by cases z)) (fun _ => ?_)⟩
      exact ⟨.non, rfl, rfl, true, rfl, iteT (zero s1 (fun z => by cases z) (fun _ _ _ z => by cases z))⟩
    | some n =>
      have n8 := lackF_lt hok jnd hfit0 hlk
      by_cases cn : n = 0
      · subst cn
        have nogap : ∀ n rd tl, lackF jns rr x = some (n + 1) → GapOk jns rr x (n + 1) rd → ds ≠ gapD rd :: heldD rr (lastN rd) :: tl := fun n _ _ h _ => by rw [hlk] at h; cases h
        have rest : ∀ {H'}, Same H1 H' → (∀ tl, ds ≠ heldD rr x :: tl) → Q (.int 0) H' := fun s a => zero (s1.trans s) (fun _ => a) nogap
        refine ⟨.int 0, rfl, rfl, _, rfl, ite2 (fun _ => ?_) (fun c => absurd (decide_eq_true rfl) c)⟩
        refine ⟨.ref L, rfl, _, .inl ⟨_, SqL.of eL1, rfl⟩, ite2 (fun c => ?_) (fun c => ?_)⟩
        · match us, ds, hds, c with
          | u :: us, d :: ds, .cons hd hds, _ =>
          refine ⟨.ref t, rfl, nS x, rfl, .ref L, rfl, L, _, 0, u, rfl, rfl, SqL.of eL1, atI_nat (j := 0) rfl, t, rr, x, u, d, rfl, ht1, hrr, hd.same s1, hsm d List.mem_cons_self, hnm x xin, onm, fun H2 b s2 hb => ⟨_, rfl, ?_⟩⟩
          cases b with
          | true => exact iteT (q _ 1 (s1.trans s2) (.inl ⟨rfl, hlk, ds, by rw [hb.mp rfl]⟩))
          | false =>
            refine iteF ⟨.int 0, rfl, rfl, false, rfl, iteF ⟨.int 0, rfl, rfl, _, rfl, ite2 (fun _ => ?_) (fun c => absurd (decide_eq_true rfl) c)⟩⟩
            exact rest s2 fun tl e => by
              injection e with e _
              exact absurd (hb.mpr e) (by decide)
        · match us, ds, hds, c with
          | [], [], .nil, _ =>
            refine ⟨.int 0, rfl, rfl, false, rfl, iteF ⟨.int 0, rfl, rfl, _, rfl, ite2 (fun _ => ?_) (fun c => absurd (decide_eq_true rfl) c)⟩⟩
            exact rest (.refl _) fun tl e => by cases e
          | u :: us, _, _, c => exact absurd rfl c
      · have hold0 : lackF jns rr x = some 0 → ∀ tl, ds ≠ heldD rr x :: tl := fun h => by rw [hlk] at h; exact absurd (Option.some.inj h) cn
        have rest : ∀ {H'}, Same H1 H' → (∀ rd tl, GapOk jns rr x n rd → ds ≠ gapD rd :: heldD rr (lastN rd) :: tl) → Q (.int 0) H' := fun s a => zero (s1.trans s) hold0 fun m rd tl h g => by
          rw [hlk] at h
          have h := Option.some.inj h
          rw [← h] at g
          exact a rd tl g
        have cz : ¬ (decide (V.int (n : Int) = .int 0)) = true := fun z => cn (by have z := of_decide_eq_true z; injection z with z; omega)
        refine ⟨.int n, rfl, rfl, _, rfl, ite2 (fun c => absurd c cz) (fun _ => ?_)⟩
        refine ⟨.int n, rfl, rfl, _, rfl, ite2 (fun c => absurd (of_decide_eq_true c) (fun z => by cases z)) (fun _ => ?_)⟩
        refine ⟨.int n, rfl, rfl, _, rfl, ite2 (fun c => absurd c cz) (fun _ => ?_)⟩
        refine ⟨.ref L, rfl, L, us, rfl, .inl (SqL.of eL1), _, _, rfl, rfl, _, rfl, ite2 (fun c => ?_) (fun c => ?_)⟩
        · have c := of_decide_eq_true c
          exact rest (.refl _) fun rd tl _ e => by
            rw [e] at ul
            simp only [List.length_cons] at ul
            omega
        have c : ¬ ((us.length : Nat) : Int) < 2 := fun z => c (decide_eq_true z)
        match us, ds, hds, c with
        | [], _, _, c => exact absurd (by show (0 : Int) < 2; decide) c
        | [_], _, _, c => exact absurd (by show (1 : Int) < 2; decide) c
        | u0 :: u1 :: us, d0 :: d1 :: ds, .cons hd0 (.cons hd1 hds), _ =>
        have hsm0 := hsm d0 List.mem_cons_self
        have hsm1 := hsm d1 (List.mem_cons_of_mem _ List.mem_cons_self)
        refine ⟨.ref r, rfl, nS x, rfl, .ref t, rfl, .int n, rfl, .ref L, rfl, L, _, 0, u0, rfl, rfl, SqL.of eL1, atI_nat (j := 0) rfl, r, t, x, rr, n, u0, d0, ls, jns, jn, rfl, ht1, hrr, hd0.same s1, hsm0, by omega, by omega, hlj.tk (.of s1), hok, hnm, xin, jnd, jin, ejn, oin, fun H2 b s2 hb => ⟨_, rfl, ?_⟩⟩
        cases b with
        | false => exact iteT (rest s2 fun rd tl g e => by
            injection e with e _
            exact absurd (hb.mpr ⟨rd, e, g⟩) (by decide))
        | true =>
          obtain ⟨rd', e0, g⟩ := hb.mp rfl
          subst e0
          have s12 := s1.trans s2
          obtain ⟨a0, xs0, rfl, ea0, hxs0⟩ := (hd0.same s12).tupI
          match xs0, hxs0 with
          | [_, _], .cons _ (.cons hr0 .nil) =>
          obtain ⟨b0, ys0, rfl, eb0, hys0⟩ := hr0.tupI
          have yl0 := hys0.len
          rw [List.length_map] at yl0
          obtain ⟨zl, hzl⟩ : ∃ z, rd'[rd'.length - 1]? = some z := ⟨_, List.getElem?_eq_getElem (by have := g.len; omega)⟩
          obtain ⟨yl, hyl, hdl⟩ := hys0.get2 (at_strD.mpr hzl)
          have hdl : Dt SA H2 yl (.str (SX.S zl)) := hdl
          cases hdl
          have elast := lastN_at hzl
          have zlin : zl ∈ ls := by
            have := g.lst
            rw [elast, ← fars_jn jnd jin ejn] at this
            exact hok.sub jn jin _ (mem_fromL.mp this).1
          have eL2 := s12 _ _ eL
          refine iteF ⟨.ref t, rfl, .ref L, rfl, L, _, 0, _, rfl, rfl, SqL.of eL2, atI_nat (j := 0) rfl, a0, _, 1, .ref b0, rfl, rfl, SqT.of ea0, atI_nat (j := 1) rfl, 1, rfl, b0, ys0, -1, nS zl, rfl, rfl, SqT.of eb0, atI_lst (by rw [yl0]; exact hyl), .ref L, rfl, L, _, 1, u1, rfl, rfl, SqL.of eL2, atI_nat (j := 1) rfl, t, rr, zl, u1, d1, rfl, s12 _ _ ht, hrr, hd1.same s12, hsm1, hnm zl zlin, onm, fun H3 b s3 hb => ⟨_, rfl, ?_⟩⟩
          obtain ⟨n', rfl⟩ : ∃ n', n = n' + 1 := ⟨n - 1, by omega⟩
          cases b with
          | true => exact iteT (q _ 2 (s12.trans s3) (.inr (.inl ⟨rfl, n', rd', ds, hlk, g, by rw [hb.mp rfl, elast]⟩)))
          | false => exact iteF (rest (s2.trans s3) fun rd tl g' e => by
              injection e with e1 e
              injection e with e2 e
              rw [← gapD_inj e1, elast] at e2
              exact absurd (hb.mpr e2) (by decide))
def sp_is_history (K : PySem.W.Frag) : Sp := fun vs H Q _ => ∃ (r R S : Addr) (x : Nm) (ts : List Addr) (rs : List Rt) (us : List V) (ds : List PyData) (ls : List Nm) (jns : List (Nm × List Nm)), vs = [.ref r, nS x, .ref R, .ref S] ∧ H R = some (.lst (ts.map V.ref)) ∧ Paired (RtA H) ts rs ∧ (∀ r ∈ rs, RtOk r ∧ RtFit jns r) ∧ H S = some (.lst us) ∧ DtAll SA H us ds ∧ (∀ d ∈ ds, Sm d) ∧ LJ K H r ls jns ∧ LJok ls jns ∧ (∀ z ∈ ls, IsNm z) ∧ x ∈ ls ∧ (jns.map (·.1)).Nodup ∧
  ∀ H' b, Same H H' → (b = true ↔ ∃ c, HistR jns rs x ds c) → Q (.bl b) H'
theorem DtAll.drop {S : Addr → Prop} {H : Hp} : ∀ {v : List V} {d : List PyData} (n : Nat), DtAll S H v d → DtAll S H (v.drop n) (d.drop n)
  | _, _, 0, h => h
  | _, _, n + 1, .nil => .nil
  | _, _, n + 1, .cons _ r => r.drop n
theorem DtAll.take {S : Addr → Prop} {H : Hp} : ∀ {v : List V} {d : List PyData} (n : Nat), DtAll S H v d → DtAll S H (v.take n) (d.take n)
  | _, _, 0, h => .nil
  | _, _, n + 1, .nil => .nil
  | _, _, n + 1, .cons a r => .cons a (r.take n)
set_option maxHeartbeats 8000000 in
theorem ok_is_history (T : Defs K mg) : FnOk P w K mg base CX0 (k + 7) T.a_is_history T.d_is_history ["net", "line", "rows", "steps"] (sp_is_history K) := by
  have G_is_aside : FnOk P w K mg base CX0 (k + 6) _ _ _ _ := ok_is_aside (k := k + 4) T
  have G_steps_to_hold : FnOk P w K mg base CX0 (k + 6) _ _ _ _ := ok_steps_to_hold (k := k) T
  refine T.F_is_history.ok sc_is_history (fun vs H Q E h => ?_) (fun cdv A outer s H vs Q E hr h => ?_)
  · obtain ⟨r, R, S, x, ts, rs, us, ds, ls, jns, rfl, _⟩ := h
    rfl
  · obtain ⟨r, R, S, x, ts, rs, us, ds, ls, jns, rfl, eR, hp, hrs, eS, hds, hsm, hlj, hok, hnm, xin, jnd, q⟩ := h
    refine ⟨_, PSs.nox
(pss_cons (ps_set (i := 4) sc_is_history.nd rfl (.inl rfl) (pe_int))
    (pss_cons (ps_for PassesOwn.never rfl (pi_list (pv 2)) (pg_name (i := 5) sc_is_history.nd rfl (.inl rfl))
      (pss_cons (ps_set (i := 6) sc_is_history.nd rfl (.inl rfl) (pe_slice sl_list (pv 3) (po_some (pv 4)) (po_some (pe_op op_add (pv 4) (pe_int)))))
      (Evl.pss_cut (ps_if (PW.pt (pw_and (pt_truth (pv 6) (by intro _; rfl)) (pw_and1 (pt_val (pe_call G_is_aside hr (by rfl) T.g_is_aside T.F_is_aside.kp T.b_is_aside .nil pass0 (pa_cons (pv 5) (pa_cons (pe_ix (r := rIxL K) ix_list (pv 6) (pe_int) (fun _ _ => rfl)) pa_nil)))))))
        (pss_cons (ps_aug (i := 4) sc_is_history.nd rfl (.inl rfl) (pe_int) ip_add)
        (pss_one (ps_continue)))
        pss_nil)
      (pss_cons (ps_set (i := 7) sc_is_history.nd rfl (.inl rfl) (pe_call G_steps_to_hold hr (by rfl) T.g_steps_to_hold T.F_steps_to_hold.kp T.b_steps_to_hold .nil pass0 (pa_cons (pv 0) (pa_cons (pv 1) (pa_cons (pv 5) (pa_cons (pv 6) pa_nil))))))
      (pss_cons (ps_if (pt_cmpR op_eq (pv 7) (pe_int) (nomark _))
        (pss_one (ps_ret (pe_bl)))
        pss_nil)
      (pss_cons (ps_aug (i := 4) sc_is_history.nd rfl (.inl rfl) (pv 7) ip_add)
      (pss_one (ps_set (i := 1) sc_is_history.nd rfl (.inl rfl) (pe_ix (r := rIxT K) ix_tup (pv 5) (pe_glob (v := .int 7) (by rfl) T.c_OVER ⟨_, rfl⟩) (fun _ _ => rfl))))))))))
    (pss_one (ps_ret (pe_cmpR op_eq (pv 4) (pe_callB (r := rLenS K) call_lenS (by rfl) T.z_len (by decide +kernel) (pa_cons (pv 3) pa_nil)) (nomark _))))))
      , ?_⟩
    have ul := hds.len
    have tl := paired_len hp
    refine ⟨.ref R, rfl, R, rfl, ⟨_, SqL.of eR⟩, ?_⟩
    refine for_it (walk_list (xs := ts.map V.ref)) (fun i σ Hx => ∃ (y : Nm) (p : Nat) (y5 y6 y7 : Option V), σ = [some (.ref r), some (nS y), some (.ref R), some (.ref S), some (.int (p : Nat)), y5, y6, y7] ∧ y ∈ ls ∧ Same H Hx ∧ p ≤ ds.length ∧ ((∃ c, HistR jns rs x ds c) ↔ ∃ c, HistR jns (rs.drop i) y (ds.drop p) c))
      ⟨x, 0, none, none, none, rfl, xin, .refl _, Nat.zero_le _, .rfl⟩ (fun i σ Hx _ hp' => ?_) (fun i v σ Hx₀ Hx hi hp' yy => ?_) (fun σ Hx hp' => ?_)
    · obtain ⟨_, _, _, _, _, _, _, sx, _⟩ := hp'
      exact SqL.of (sx _ _ eR)
    · obtain ⟨rfl, ey⟩ := yy
      obtain ⟨y, p, y5, y6, y7, rfl, yin, sx, pl, hiff⟩ := hp'
      obtain ⟨t, et, rfl⟩ := at_ref ey
      obtain ⟨rr, err, ht⟩ := paired_get hp et
      obtain ⟨rok, hfit⟩ := hrs rr (List.mem_of_getElem? err)
      have hdrop : rs.drop i = rr :: rs.drop (i + 1) := by
        have hl := List.getElem?_eq_some_iff.mp err
        rw [List.drop_eq_getElem_cons hl.1, hl.2]
      rw [hdrop] at hiff
      have oinl : rr.over ∈ ls := by
        obtain ⟨j, jin, _, oin⟩ := hfit
        exact hok.sub j jin _ oin
      have pu : p ≤ us.length := by omega
      have ecut : cutV us (some (p : Int)) (some ((p : Int) + 2)) = (us.drop p).take 2 := cut_two us p pu
      have hds2 := (hds.drop p).take 2
      have hsm2 : ∀ d ∈ (ds.drop p).take 2, Sm d := fun d hd => hsm d (List.mem_of_mem_drop (List.mem_of_mem_take hd))
      refine ⟨.ref S, rfl, .int p, rfl, p, rfl, .int p, rfl, p, 2, rfl, rfl, _, rfl, S, us, rfl, SqL.of (sx _ _ eS), fun L nL => ?_⟩
      rw [ecut]
      have s1 := sx.trans (same_upd (o := .lst ((us.drop p).take 2)) nL)
      have eL : (upd Hx L (.lst ((us.drop p).take 2))) L = some (.lst ((us.drop p).take 2)) := upd_same
      generalize upd Hx L (.lst ((us.drop p).take 2)) = H1 at s1 eL ⊢
      refine ⟨fun σ Hz => σ = [some (.ref r), some (nS y), some (.ref R), some (.ref S), some (.int (p : Nat)), some (.ref t), some (.ref L), y7] ∧ Same H1 Hz ∧ ∀ tl, ds.drop p ≠ asideD rr :: tl, ?_, fun σ Hz mid => ?_⟩
      · generalize eus : (us.drop p).take 2 = us2 at eL hds2
        generalize eds : (ds.drop p).take 2 = ds2 at hds2 hsm2
        refine ⟨.ref L, rfl, _, .inl ⟨_, SqL.of eL, rfl⟩, ite2 (fun c => ?_) (fun c => ?_)⟩
        · match us2, ds2, hds2, c with
          | u :: us2, d :: ds2, .cons hd hds2, _ =>
          obtain ⟨dt, edt⟩ : ∃ dt, ds.drop p = d :: dt := by
            cases e : ds.drop p with
            | nil => rw [e] at eds; cases eds
            | cons d' dt =>
              rw [e] at eds
              injection eds with e1 _
              exact ⟨dt, by rw [e1]⟩
          refine ⟨.ref t, rfl, .ref L, rfl, L, _, 0, u, rfl, rfl, SqL.of eL, atI_nat (j := 0) rfl, t, rr, u, d, rfl, s1 _ _ ht, rok, hd.same s1, hsm2 d List.mem_cons_self, fun H2 b s2 hb => ⟨_, rfl, ?_⟩⟩
          cases b with
          | true =>
            have ed := hb.mp rfl
            have pl' : p < ds.length := by
              have := congrArg List.length edt
              rw [List.length_drop, List.length_cons] at this
              omega
            have edt' : ds.drop (p + 1) = dt := by
              rw [← List.drop_drop, edt]
              rfl
            refine iteT ⟨_, rfl, p, 1, rfl, rfl, y, p + 1, _, _, _, rfl, yin, s1.trans s2, pl', ?_⟩
            rw [hiff, edt, ed, hist_aside, edt']
          | false =>
            refine iteF ⟨rfl, s2, fun tl e => ?_⟩
            rw [edt] at e
            injection e with e _
            exact absurd (hb.mpr e) (by decide)
        · match us2, ds2, hds2, c with
          | [], [], .nil, _ =>
            refine ⟨rfl, .refl _, fun tl e => ?_⟩
            rw [e] at eds
            cases eds
          | u :: us2, _, _, c => exact absurd rfl c
      · obtain ⟨rfl, sz, na⟩ := mid
        have s2 := s1.trans sz
        refine ⟨.ref r, rfl, nS y, rfl, .ref t, rfl, .ref L, rfl, r, t, L, y, rr, _, _, ls, jns, rfl, s2 _ _ ht, rok, hfit, sz _ _ eL, hds2.same s2, hsm2, hlj.tk (.of s2), hok, hnm, yin, jnd, fun H3 m s3 hm => ?_⟩
        have hh := hist_hold (rs := rs.drop (i + 1)) na (hold_take hm)
        refine ⟨.int m, rfl, rfl, _, rfl, ite2 (fun c => ?_) (fun c => ?_)⟩
        · have c : m = 0 := by have c := of_decide_eq_true c; injection c with c; omega
          exact q _ false (s2.trans s3) ⟨fun z => (by cases z), fun h => absurd (hiff.mp h) (hh.1 c)⟩
        · have c : m ≠ 0 := fun z => c (decide_eq_true (by rw [z]; rfl))
          obtain ⟨hl, hi2⟩ := hh.2 c
          rw [List.length_drop] at hl
          refine ⟨_, rfl, .int m, rfl, p, m, rfl, rfl, .ref t, rfl, t, _, 7, _, rfl, rfl, SqT.of (s3 _ _ (s2 _ _ ht)), atI_nat (j := 7) rok.i7, rr.over, p + m, _, _, _, rfl, oinl, s2.trans s3, by omega, ?_⟩
          rw [hiff, hi2, List.drop_drop]
    · obtain ⟨y, p, y5, y6, y7, rfl, yin, sx, pl, hiff⟩ := hp'
      rw [List.length_map, tl, List.drop_length] at hiff
      refine ⟨.int p, rfl, .ref S, rfl, S, us, rfl, .inl (SqL.of (sx _ _ eS)), rfl, q _ _ sx ?_⟩
      rw [hiff]
      constructor
      · intro h
        have h := of_decide_eq_true h
        injection h with h
        rw [List.drop_of_length_le (by omega)]
        exact ⟨0, .nil⟩
      · rintro ⟨c, h⟩
        generalize e : ds.drop p = dd at h
        cases h
        have := congrArg List.length e
        rw [List.length_drop] at this
        refine decide_eq_true ?_
        congr 1
        simp only [List.length_nil] at this
        omega
end
end Th
namespace Th
open PySem PySem.Spec PyProof.Rows L2
/-! how many steps are wrong; marks -/
def wA : PyData → Bool
  | .tuple (.str s :: _) => decide (s = Str.ofString "aside")
  | _ => false
def wG : PyData → Bool
  | .tuple (.str s :: _) => decide (s = Str.ofString "gap")
  | _ => false
def gL : PyData → Int
  | .tuple [_, .tuple es] => (es.length : Int) - 1
  | _ => 0
theorem wA_aside (r : Rt) : wA (asideD r) = true := by rfl
theorem wA_held (r : Rt) (z : Nm) : wA (heldD r z) = false := decide_eq_false (show ¬ Str.ofString "held" = Str.ofString "aside" by decide +kernel)
theorem wA_gap (rd : List Nm) : wA (gapD rd) = false := decide_eq_false (show ¬ Str.ofString "gap" = Str.ofString "aside" by decide +kernel)
theorem wG_aside (r : Rt) : wG (asideD r) = false := decide_eq_false (show ¬ Str.ofString "aside" = Str.ofString "gap" by decide +kernel)
theorem wG_held (r : Rt) (z : Nm) : wG (heldD r z) = false := decide_eq_false (show ¬ Str.ofString "held" = Str.ofString "gap" by decide +kernel)
theorem wG_gap (rd : List Nm) : wG (gapD rd) = true := by rfl
def wrongD (ds : List PyData) : Int := ((ds.filter wA).length : Int) + ((ds.filter wG).map gL).sum
theorem wrong_hist {jns : List (Nm × List Nm)} {rs : List Rt} {x : Nm} {ds : List PyData} {c : Nat} (h : HistR jns rs x ds c) : wrongD ds = c := by
  induction h with
  | nil => rfl
  | aside h ih =>
    unfold wrongD at ih ⊢
    rw [List.filter_cons_of_pos (wA_aside _), List.filter_cons_of_neg (by rw [wG_aside]; decide), List.length_cons]
    omega
  | held _ h ih =>
    unfold wrongD at ih ⊢
    rw [List.filter_cons_of_neg (by rw [wA_held]; decide), List.filter_cons_of_neg (by rw [wG_held]; decide)]
    exact ih
  | @gap r rs x tl c n rd h1 g h ih =>
    unfold wrongD at ih ⊢
    rw [List.filter_cons_of_neg (by rw [wA_gap]; decide), List.filter_cons_of_pos (wG_gap _), List.filter_cons_of_neg (by rw [wA_held]; decide), List.filter_cons_of_neg (by rw [wG_held]; decide), List.map_cons, List.sum_cons]
    have e : gL (gapD rd) = ((rd.map strD).length : Int) - 1 := rfl
    rw [e, List.length_map, g.len]
    omega
/-- what a history's step may be -/
def StpD (d : PyData) : Prop := (∃ r, d = asideD r) ∨ (∃ r z, d = heldD r z) ∨ ∃ rd, d = gapD rd
theorem hist_form {jns : List (Nm × List Nm)} {rs : List Rt} {x : Nm} {ds : List PyData} {c : Nat} (h : HistR jns rs x ds c) : ∀ d ∈ ds, StpD d := by
  induction h with
  | nil => exact fun d hd => (by cases hd)
  | aside h ih =>
    intro d hd
    rcases List.mem_cons.mp hd with e | hd
    · exact .inl ⟨_, e⟩
    · exact ih d hd
  | held _ h ih =>
    intro d hd
    rcases List.mem_cons.mp hd with e | hd
    · exact .inr (.inl ⟨_, _, e⟩)
    · exact ih d hd
  | gap _ _ h ih =>
    intro d hd
    rcases List.mem_cons.mp hd with e | hd
    · exact .inr (.inr ⟨_, e⟩)
    · rcases List.mem_cons.mp hd with e | hd
      · exact .inr (.inl ⟨_, _, e⟩)
      · exact ih d hd
/-- a step's word -/
theorem stp_word {H : Hp} {v : V} {d : PyData} (hs : StpD d) (hv : Dt SA H v d) : ∃ (a : Addr) (xs : List V) (s : Str), v = .ref a ∧ H a = some (.tup xs) ∧ xs[0]? = some (.str s) ∧ wA d = decide (s = Str.ofString "aside") ∧ wG d = decide (s = Str.ofString "gap") ∧ (wG d = true → ∃ (b : Addr) (ys : List V), xs[1]? = some (.ref b) ∧ H b = some (.tup ys) ∧ gL d = (ys.length : Int) - 1) := by
  rcases hs with ⟨r, rfl⟩ | ⟨r, z, rfl⟩ | ⟨rd, rfl⟩
  · obtain ⟨a, xs, rfl, e, hxs⟩ := hv.tupI
    obtain ⟨x0, h0, hd0⟩ := hxs.get2 (i := 0) rfl
    cases hd0
    exact ⟨a, xs, _, rfl, e, h0, rfl, rfl, fun h => by rw [wG_aside] at h; cases h⟩
  · obtain ⟨a, xs, rfl, e, hxs⟩ := hv.tupI
    obtain ⟨x0, h0, hd0⟩ := hxs.get2 (i := 0) rfl
    cases hd0
    exact ⟨a, xs, _, rfl, e, h0, rfl, rfl, fun h => by rw [wG_held] at h; cases h⟩
  · obtain ⟨a, xs, rfl, e, hxs⟩ := hv.tupI
    obtain ⟨x0, h0, hd0⟩ := hxs.get2 (i := 0) rfl
    obtain ⟨x1, h1, hd1⟩ := hxs.get2 (i := 1) rfl
    cases hd0
    obtain ⟨b, ys, rfl, eb, hys⟩ := hd1.tupI
    exact ⟨a, xs, _, rfl, e, h0, rfl, rfl, fun _ => ⟨b, ys, h1, eb, by show (((rd.map strD).length : Nat) : Int) - 1 = _; rw [hys.len]⟩⟩
section
variable {P : Program} {w : World} {K : PySem.W.Frag} {mg : Str → Option Value} {base : Heap} {k : Nat}
def sp_wrong_in : Sp := fun vs H Q _ => ∃ (S : Addr) (us : List V) (ds : List PyData), vs = [.ref S] ∧ H S = some (.lst us) ∧ us.length ≤ 5000 ∧ DtAll SA H us ds ∧ (∀ d ∈ ds, StpD d) ∧ ∀ H', Same H H' → Q (.int (wrongD ds)) H'
set_option maxHeartbeats 8000000 in
theorem ok_wrong_in (T : Defs K mg) : FnOk P w K mg base CX0 (k + 1) T.a_wrong_in T.d_wrong_in ["steps"] sp_wrong_in := by
  refine T.F_wrong_in.ok sc_wrong_in (fun vs H Q E h => ?_) (fun cdv A outer s H vs Q E hr h => ?_)
  · obtain ⟨S, us, ds, rfl, _⟩ := h
    rfl
  · obtain ⟨S, us, ds, rfl, eS, u5, hds, hst, q⟩ := h
    refine ⟨_, PSs.nox
(pss_cons (ps_setLc (i := 1) (own := [("step", 3)]) (g := gName 3) rfl sc_wrong_in.nd rfl rfl (sw_true rfl rfl rfl (by decide +kernel)) (pi_list (pv 0)) (blkOk_by (N := N_wrong_in) (sc := defScope s_wrong_in) (by decide +kernel)) (fun _ _ _ _ _ => (pg_name (i := 3) sc_wrong_in.nd rfl (.inl rfl))) (fun _ _ _ _ _ => pts_one (pt_cmpR op_eq (pe_ix (r := rIxT K) ix_tup (pv 3) (pe_int) (fun _ _ => rfl)) (pe_str) (nomark _))) (fun _ _ _ _ _ => (pv 3)))
    (pss_cons (ps_setLc (i := 2) (own := [("step", 3)]) (g := gName 3) rfl sc_wrong_in.nd rfl rfl (sw_true rfl rfl rfl (by decide +kernel)) (pi_list (pv 0)) (blkOk_by (N := N_wrong_in) (sc := defScope s_wrong_in) (by decide +kernel)) (fun _ _ _ _ _ => (pg_name (i := 3) sc_wrong_in.nd rfl (.inl rfl))) (fun _ _ _ _ _ => pts_one (pt_cmpR op_eq (pe_ix (r := rIxT K) ix_tup (pv 3) (pe_int) (fun _ _ => rfl)) (pe_str) (nomark _))) (fun _ _ _ _ _ => (pe_op op_sub (pe_callB (r := rLenS K) call_lenS (by rfl) T.z_len (by decide +kernel) (pa_cons (pe_ix (r := rIxT K) ix_tup (pv 3) (pe_int) (fun _ _ => rfl)) pa_nil)) (pe_int))))
    (pss_one (ps_ret (pe_op op_add (pe_callB (r := rLenS K) call_lenS (by rfl) T.z_len (by decide +kernel) (pa_cons (pv 1) pa_nil)) (pe_callB (r := rSum K) (cr_sum rfl) (by rfl) T.z_sum (by decide +kernel) (pa_cons (pv 2) pa_nil)))))))
      , ?_⟩
    have ul := hds.len
    have tk : ∀ {p : PyData → Bool} {i : Nat} {d : PyData}, ds[i]? = some d → (ds.take (i + 1)).filter p = (ds.take i).filter p ++ if p d = true then [d] else [] := fun {p i d} h => by
      rw [List.take_add_one, h, List.filter_append]
      congr 1
      show List.filter _ [d] = _
      rw [List.filter_cons]
      rfl
    have fl : ∀ {p : PyData → Bool} {i : Nat}, ((ds.take i).filter p).length ≤ 5000 := fun {p i} => Nat.le_trans (List.length_filter_le _ _) (by rw [List.length_take]; omega)
    refine ⟨.ref S, rfl, S, rfl, ⟨_, SqL.of eS⟩, fun D nD => ?_⟩
    refine lc_it (walk_list (xs := us)) (fun m Hy => Same H Hy ∧ ∃ vs : List V, Hy D = some (.lst vs) ∧ vs.length = ((ds.take m).filter wA).length) ⟨same_upd nD, [], upd_same, rfl⟩ (fun m Hy _ pv => SqL.of (pv.1 _ _ eS)) (fun m v Hy₀ Hy hm pv yy => ?_) (fun H1 pv => ?_)
    · obtain ⟨rfl, ey⟩ := yy
      obtain ⟨sy, vs, eD, vl⟩ := pv
      obtain ⟨d, ed, hd⟩ := hds.get ey
      obtain ⟨a, xs, sg, rfl, ea, h0, hA, hG, _⟩ := stp_word (hst d (List.mem_of_getElem? ed)) (hd.same sy)
      have eqs : decide (V.str sg = V.str (Str.ofString "aside")) = wA d := by
        rw [hA]
        by_cases c : sg = Str.ofString "aside"
        · rw [c]; simp
        · rw [decide_eq_false c, decide_eq_false fun z => c (by injection z)]
      refine ⟨rfl, .ref a, rfl, a, xs, 0, .str sg, rfl, rfl, SqT.of ea, atI_nat (j := 0) h0, rfl, _, rfl, ?_⟩
      rw [eqs, tk ed]
      have := fl (p := wA) (i := m)
      cases cA : wA d with
      | true => exact iteT ⟨.ref a, rfl, vs, eD, small5000 (by omega), same_set sy nD, _, upd_same, by rw [List.length_append, List.length_append, vl]; rfl⟩
      | false => exact iteF ⟨sy, vs, eD, by rw [vl]; simp⟩
    obtain ⟨s1, vs, eD, vl⟩ := pv
    rw [ul, List.take_length] at vl
    have eS1 := s1 _ _ eS
    refine ⟨.ref S, rfl, S, rfl, ⟨_, SqL.of eS1⟩, fun G nG => ?_⟩
    refine lc_it (walk_list (xs := us)) (fun m Hy => Same H1 Hy ∧ Hy G = some (.lst ((((ds.take m).filter wG).map gL).map V.int))) ⟨same_upd nG, upd_same⟩ (fun m Hy _ pv => SqL.of (pv.1 _ _ eS1)) (fun m v Hy₀ Hy hm pv yy => ?_) (fun H2 pv => ?_)
    · obtain ⟨rfl, ey⟩ := yy
      obtain ⟨sy, eG⟩ := pv
      obtain ⟨d, ed, hd⟩ := hds.get ey
      obtain ⟨a, xs, sg, rfl, ea, h0, hA, hG, hL⟩ := stp_word (hst d (List.mem_of_getElem? ed)) (hd.same (s1.trans sy))
      have eqs : decide (V.str sg = V.str (Str.ofString "gap")) = wG d := by
        rw [hG]
        by_cases c : sg = Str.ofString "gap"
        · rw [c]; simp
        · rw [decide_eq_false c, decide_eq_false fun z => c (by injection z)]
      refine ⟨rfl, .ref a, rfl, a, xs, 0, .str sg, rfl, rfl, SqT.of ea, atI_nat (j := 0) h0, rfl, _, rfl, ?_⟩
      rw [eqs, tk ed]
      have := fl (p := wG) (i := m)
      cases cG : wG d with
      | true =>
        obtain ⟨b, ys, h1, eb, eg⟩ := hL cG
        refine iteT ⟨.ref a, rfl, a, xs, 1, .ref b, rfl, rfl, SqT.of ea, atI_nat (j := 1) h1, b, ys, rfl, .inr (SqT.of eb), _, 1, rfl, rfl, _, eG, by rw [List.length_map, List.length_map]; exact small5000 (by omega), same_set sy nG, ?_⟩
        rw [upd_same, List.map_append, List.map_append]
        show _ = some (HO.lst (_ ++ [V.int (gL d)]))
        rw [eg]
      | false => exact iteF ⟨sy, by rw [eG]; simp⟩
    obtain ⟨s2, eG⟩ := pv
    rw [ul, List.take_length] at eG
    refine ⟨.ref D, rfl, D, vs, rfl, .inl (SqL.of (s2 _ _ eD)), .ref G, rfl, G, _, rfl, SqL.of eG, _, _, rfl, rfl, ?_⟩
    rw [vl]
    exact q _ (s1.trans s2)
/-- marks, by their numbers -/
def linesL (x : Nm) (rs : List Rt) : List Nm := x :: rs.map (·.over)
structure MarksOk (jns : List (Nm × List Nm)) (x : Nm) (rs : List Rt) (zs : List Int) : Prop where
  len : zs.length = rs.length
  let_ : ∀ j rr, rs[j]? = some rr → ∀ i, i ≤ j → ∀ y n, (linesL x rs)[i]? = some y → lackF jns rr y = some n → (0 :: zs).getD (j + 1) 0 ≤ (0 :: zs).getD i 0 + ((j : Int) + 1) - i - 1 + n
def MarksD (jns : List (Nm × List Nm)) (x : Nm) (rs : List Rt) (ds : List PyData) : Prop := ∃ zs : List Int, ds = zs.map PyData.int ∧ MarksOk jns x rs zs
theorem ints_of : ∀ {ds : List PyData}, (∀ d ∈ ds, wholeD d = true) → ∃ zs : List Int, ds = zs.map PyData.int
  | [], _ => ⟨[], rfl⟩
  | d :: ds, h => by
    obtain ⟨zs, rfl⟩ := ints_of fun x hx => h x (List.mem_cons_of_mem _ hx)
    have := h d List.mem_cons_self
    cases d with
    | int i => exact ⟨i :: zs, rfl⟩
    | _ => cases this
theorem dtAll_intsV {S : Addr → Prop} {H : Hp} : ∀ {us : List V} {zs : List Int}, DtAll S H us (zs.map PyData.int) → us = zs.map V.int
  | _, [], .nil => rfl
  | _, z :: zs, .cons r s => by
    have e := dtAll_intsV s
    have r : Dt S H _ (.int z) := r
    cases r
    rw [e]
    rfl
theorem ints_inj : ∀ {a b : List Int}, a.map PyData.int = b.map PyData.int → a = b
  | [], [], _ => rfl
  | [], _ :: _, h => by cases h
  | _ :: _, [], h => by cases h
  | x :: a, y :: b, h => by
    rw [List.map_cons, List.map_cons] at h
    injection h with h1 h2
    injection h1 with h1
    rw [h1, ints_inj h2]
def sp_are_marks (K : PySem.W.Frag) : Sp := fun vs H Q _ => ∃ (r R M : Addr) (x : Nm) (ts : List Addr) (rs : List Rt) (us : List V) (ds : List PyData) (ls : List Nm) (jns : List (Nm × List Nm)), vs = [.ref r, nS x, .ref R, .ref M] ∧ H R = some (.lst (ts.map V.ref)) ∧ Paired (RtA H) ts rs ∧ (∀ r ∈ rs, RtOk r ∧ RtFit jns r) ∧ rs.length ≤ 1000 ∧ H M = some (.lst us) ∧ us.length ≤ 5000 ∧ DtAll SA H us ds ∧ LJ K H r ls jns ∧ LJok ls jns ∧ x ∈ ls ∧ (jns.map (·.1)).Nodup ∧
  ∀ H' b, Same H H' → (b = true ↔ MarksD jns x rs ds) → Q (.bl b) H'
set_option maxHeartbeats 8000000 in
theorem ok_are_marks (T : Defs K mg) : FnOk P w K mg base CX0 (k + 4) T.a_are_marks T.d_are_marks ["net", "line", "rows", "marks"] (sp_are_marks K) := by
  have G_is_whole : FnOk P w K mg base CX0 (k + 3) _ _ _ _ := ok_is_whole (k := k + 2) T
  have G_lacks_ahead : FnOk P w K mg base CX0 (k + 3) _ _ _ _ := ok_lacks_ahead (k := k) T
  refine T.F_are_marks.ok sc_are_marks (fun vs H Q E h => ?_) (fun cdv A outer s H vs Q E hr h => ?_)
  · obtain ⟨r, R, M, x, ts, rs, us, ds, ls, jns, rfl, _⟩ := h
    rfl
  · obtain ⟨r, R, M, x, ts, rs, us, ds, ls, jns, rfl, eR, hp, hrs, r1000, eM, u5, hds, hlj, hok, xin, jnd, q⟩ := h
    refine ⟨_, PSs.nox
(pss_cons (ps_if (PW.pt (pw_or (pt_cmpR op_ne (pe_callB (r := rLenS K) call_lenS (by rfl) T.z_len (by decide +kernel) (pa_cons (pv 3) pa_nil)) (pe_callB (r := rLenS K) call_lenS (by rfl) T.z_len (by decide +kernel) (pa_cons (pv 2) pa_nil)) (nomark _)) (pw_or1 (pt_not (pt_val (pe_callB (r := rAll K) (cr_all rfl) (by rfl) T.z_all (by decide +kernel) (pa_cons (pe_lc (own := [("mark", 9)]) (g := gName 9) rfl sc_are_marks.nd (pi_list (pv 3)) (blkOk_by (N := N_are_marks) (sc := defScope s_are_marks) (by decide +kernel)) (fun _ _ _ _ _ => (pg_name (i := 9) sc_are_marks.nd rfl (.inl rfl))) (fun _ _ _ _ _ => pts_nil) (fun _ _ _ _ _ => (pe_call G_is_whole hr (by rfl) T.g_is_whole T.F_is_whole.kp T.b_is_whole .nil pass0 (pa_cons (pv 9) pa_nil)))) pa_nil)))))))
      (pss_one (ps_ret (pe_bl)))
      pss_nil)
    (pss_cons (ps_set (i := 4) sc_are_marks.nd rfl (.inl rfl) (pe_op op_cat (pe_lst (pa_cons (pv 1) pa_nil)) (pe_lc (own := [("row", 10)]) (g := gName 10) rfl sc_are_marks.nd (pi_list (pv 2)) (blkOk_by (N := N_are_marks) (sc := defScope s_are_marks) (by decide +kernel)) (fun _ _ _ _ _ => (pg_name (i := 10) sc_are_marks.nd rfl (.inl rfl))) (fun _ _ _ _ _ => pts_nil) (fun _ _ _ _ _ => (pe_ix (r := rIxT K) ix_tup (pv 10) (pe_glob (v := .int 7) (by rfl) T.c_OVER ⟨_, rfl⟩) (fun _ _ => rfl))))))
    (pss_cons (ps_set (i := 5) sc_are_marks.nd rfl (.inl rfl) (pe_op op_cat (pe_lst (pa_cons (pe_int) pa_nil)) (pv 3)))
    (pss_cons (ps_for PassesOwn.never rfl (Es.pi_enumSA (by rfl) T.z_enumerate (pe_call G_lacks_ahead hr (by rfl) T.g_lacks_ahead T.F_lacks_ahead.kp T.b_lacks_ahead .nil pass0 (pa_cons (pv 0) (pa_cons (pv 2) pa_nil))) (by decide) (by decide)) (pg_tup rfl (pgs_cons (pg_name (i := 6) sc_are_marks.nd rfl (.inl rfl)) (pgs_cons (pg_name (i := 7) sc_are_marks.nd rfl (.inl rfl)) pgs_nil)))
      (pss_one (ps_for PassesOwn.never rfl (pi_range1 (by rfl) T.z_range (pa_cons (pv 6) pa_nil)) (pg_name (i := 8) sc_are_marks.nd rfl (.inl rfl))
        (pss_one (ps_if (PW.pt (pw_and (pt_cmp (pc_din (hu_of hr) (pe_ix (r := rIxL K) ix_list (pv 4) (pv 8) (fun _ _ => rfl)) (pv 7))) (pw_and1 (pt_cmpR op_gt (pe_ix (r := rIxL K) ix_list (pv 5) (pv 6) (fun _ _ => rfl)) (pe_op op_add (pe_op op_sub (pe_op op_sub (pe_op op_add (pe_ix (r := rIxL K) ix_list (pv 5) (pv 8) (fun _ _ => rfl)) (pv 6)) (pv 8)) (pe_int)) (pe_dget (hu_of hr) (pv 7) (pe_ix (r := rIxL K) ix_list (pv 4) (pv 8) (fun _ _ => rfl)) (fun _ _ => rfl))) (nomark _)))))
          (pss_one (ps_ret (pe_bl)))
          pss_nil)))))
    (pss_one (ps_ret (pe_bl)))))))
      , ?_⟩
    have tl := paired_len hp
    have ul := hds.len
    refine ⟨.ref M, rfl, M, us, rfl, .inl (SqL.of eM), .ref R, rfl, R, _, rfl, .inl (SqL.of eR), rfl, _, rfl, ?_⟩
    have inj : ∀ {zs : List Int}, ds = zs.map PyData.int → ¬ MarksOk jns x rs zs → ¬ MarksD jns x rs ds := fun {zs} e h ⟨zs', e', h'⟩ => h (by
      rw [e] at e'
      rw [ints_inj e']
      exact h')
    refine ite2 (fun c => ?_) (fun c => ?_)
    · refine q _ false (.refl _) ⟨fun z => (by cases z), fun ⟨zs, e, h⟩ => ?_⟩
      rw [List.length_map, ul, e, List.length_map, h.len, tl] at c
      simp at c
    have lenE : ds.length = rs.length := by
      rw [List.length_map, ul, tl] at c
      by_cases z : ds.length = rs.length
      · exact z
      · exfalso
        refine c ?_
        rw [decide_eq_false fun w => z (by injection w with w; omega)]
        rfl
    clear c
    refine ⟨.ref M, rfl, M, rfl, ⟨_, SqL.of eM⟩, fun D nD => ?_⟩
    refine lc_it (walk_list (xs := us)) (fun i H3 => Same H H3 ∧ H3 D = some (.lst (((ds.take i).map wholeD).map V.bl))) ⟨same_upd nD, upd_same⟩ (fun i H3 _ pv => SqL.of (pv.1 _ _ eM)) (fun i v H3₀ H3 hi pv yy => ?_) (fun H1 pv => ?_)
    · obtain ⟨rfl, ey⟩ := yy
      obtain ⟨s3, eD⟩ := pv
      obtain ⟨d, ed, hd⟩ := hds.get ey
      refine ⟨rfl, yes_ ⟨v, rfl, v, d, rfl, hd.same s3, _, eD, by rw [List.length_map, List.length_map, List.length_take]; exact small5000 (by omega), same_set s3 nD, ?_⟩⟩
      rw [upd_same, List.take_add_one, ed, List.map_append, List.map_append]
      rfl
    obtain ⟨s1, eD⟩ := pv
    rw [ul, List.take_length] at eD
    refine ⟨D, _, rfl, SqL.of eD, _, rfl, ?_⟩
    cases c2 : (ds.map wholeD).all id with
    | false =>
      refine iteT (q _ false s1 ⟨fun z => (by cases z), fun ⟨zs, e, h⟩ => ?_⟩)
      rw [e, List.map_map] at c2
      exfalso
      rw [show (zs.map (wholeD ∘ PyData.int)).all id = true by
        rw [List.all_eq_true]
        intro b hb
        obtain ⟨z, _, rfl⟩ := List.mem_map.mp hb
        rfl] at c2
      cases c2
    | true =>
    refine iteF ?_
    obtain ⟨zs, rfl⟩ := ints_of (ds := ds) fun d hd => List.all_eq_true.mp c2 _ (List.mem_map_of_mem hd)
    have eus := dtAll_intsV hds
    subst eus
    rw [List.length_map] at lenE
    have eR1 := s1 _ _ eR
    refine ⟨nS x, rfl, one_sz, fun o1 no1 => ?_⟩
    have so1 := same_upd (o := .lst [nS x]) no1
    have eo1 : (upd H1 o1 (.lst [nS x])) o1 = some (.lst [nS x]) := upd_same
    have s2 := s1.trans so1
    generalize upd H1 o1 (.lst [nS x]) = H2 at so1 eo1 s2 ⊢
    have eR2 := s2 _ _ eR
    refine ⟨.ref R, rfl, R, rfl, ⟨_, SqL.of eR2⟩, fun L nL => ?_⟩
    refine lc_it (walk_list (xs := ts.map V.ref)) (fun i H3 => Same H2 H3 ∧ H3 L = some (.lst (((rs.take i).map (·.over)).map nS))) ⟨same_upd nL, upd_same⟩ (fun i H3 _ pv => SqL.of (pv.1 _ _ eR2)) (fun i v H3₀ H3 hi pv yy => ?_) (fun H3 pv => ?_)
    · obtain ⟨rfl, ey⟩ := yy
      obtain ⟨s3, eL⟩ := pv
      obtain ⟨t, et, rfl⟩ := at_ref ey
      obtain ⟨rr, err, ht⟩ := paired_get hp et
      refine ⟨rfl, yes_ ⟨.ref t, rfl, t, _, 7, _, rfl, rfl, SqT.of ((s2.trans s3) _ _ ht), atI_nat (j := 7) (hrs rr (List.mem_of_getElem? err)).1.i7, _, eL, by rw [List.length_map, List.length_map, List.length_take]; exact small5000 (by omega), same_set s3 nL, ?_⟩⟩
      rw [upd_same, List.take_add_one, err, List.map_append, List.map_append]
      rfl
    obtain ⟨s3, eL⟩ := pv
    rw [List.length_map, tl, List.take_length] at eL
    refine ⟨o1, L, _, _, rfl, rfl, s3 _ _ eo1, eL, by rw [List.length_map, List.length_map]; exact Nat.le_of_lt (small5000 (by show 1 + _ ≤ 5000; omega)), fun Ln nLn => ?_⟩
    have sLn := same_upd (o := .lst ([nS x] ++ (rs.map (·.over)).map nS)) nLn
    have eLn : (upd H3 Ln (.lst ([nS x] ++ (rs.map (·.over)).map nS))) Ln = some (.lst ((linesL x rs).map nS)) := upd_same
    have s4 := s2.trans (s3.trans sLn)
    generalize upd H3 Ln (.lst ([nS x] ++ (rs.map (·.over)).map nS)) = H4 at eLn s4 ⊢
    refine ⟨one_sz, fun o2 no2 => ?_⟩
    have so2 := same_upd (o := .lst [.int 0]) no2
    refine ⟨.ref M, rfl, o2, M, _, _, rfl, rfl, upd_same, (s4.trans so2) _ _ eM, by rw [List.length_map]; exact Nat.le_of_lt (small5000 (by show 1 + _ ≤ 5000; omega)), fun Kn nKn => ?_⟩
    have sKn := so2.trans (same_upd (o := .lst ([.int 0] ++ zs.map V.int)) nKn)
    have eKn : (upd (upd H4 o2 (.lst [.int 0])) Kn (.lst ([.int 0] ++ zs.map V.int))) Kn = some (.lst ((0 :: zs).map V.int)) := upd_same
    have s5 := s4.trans sKn
    have eLn5 := sKn _ _ eLn
    generalize upd (upd H4 o2 (.lst [.int 0])) Kn (.lst ([.int 0] ++ zs.map V.int)) = H5 at eKn s5 eLn5 ⊢
    refine ⟨.ref r, rfl, .ref R, rfl, r, R, ts, rs, ls, jns, rfl, s5 _ _ eR, paired_imp hp fun a _ r h => s5 _ _ h, hrs, by omega, hlj.tk (.of s5), hok, jnd, fun H6 p dl s6 np ep hdl => ?_⟩
    have dll := paired_len hdl
    have s06 := s5.trans s6
    have eLn6 := s6 _ _ eLn5
    have eKn6 := s6 _ _ eKn
    let bnd (j m : Nat) : Prop := ∀ rr, rs[j]? = some rr → ∀ y n, (linesL x rs)[m]? = some y → lackF jns rr y = some n → (0 :: zs).getD (j + 1) 0 ≤ (0 :: zs).getD m 0 + ((j : Int) + 1) - m - 1 + n
    refine ⟨p, _, rfl, SqL.of ep, ?_⟩
    refine for_it (Es.walk_enumS (xs := dl.map V.ref)) (fun i σ Hx => ∃ (y6 y7 y8 : Option V), σ = [some (.ref r), some (nS x), some (.ref R), some (.ref M), some (.ref Ln), some (.ref Kn), y6, y7, y8, none, none] ∧ Same H6 Hx ∧ ∀ j, j < i → ∀ m, m ≤ j → bnd j m)
      ⟨none, none, none, rfl, .refl _, fun j hj => absurd hj (Nat.not_lt_zero _)⟩ (fun i σ Hx _ hp' => ?_) (fun i v σ Hx₀ Hx hi hp' yy => ?_) (fun σ Hx hp' => ?_)
    · obtain ⟨_, _, _, _, sx, _⟩ := hp'
      exact SqL.of (sx _ _ ep)
    · obtain ⟨U, xv, yv, rfl, nU, rfl, ex, ey⟩ := yy
      have ex : xv = .int (1 + (i : Int)) := (Option.some.inj ex).symm
      subst ex
      obtain ⟨y6, y7, y8, rfl, sx, hb⟩ := hp'
      rw [List.length_map] at hi
      obtain ⟨d, ed, rfl⟩ := at_ref ey
      obtain ⟨rr, err, hd⟩ := paired_get hdl ed
      have sU := same_upd (o := .tup [.int (1 + (i : Int)), .ref d]) nU
      have sy := sx.trans sU
      refine ⟨U, _, rfl, SqT.of upd_same, rfl, _, _, rfl, _, [], rfl, rfl, ?_⟩
      generalize upd Hx₀ U (.tup [.int (1 + (i : Int)), .ref d]) = Hy at sy ⊢
      obtain ⟨kvd, ekd, hsa⟩ := hd.same sy
      refine ⟨.int (1 + (i : Int)), rfl, 1 + (i : Int), rfl, by omega, by omega, ?_⟩
      rw [show ((1 : Int) + (i : Int)).toNat = i + 1 by omega]
      have eLny := sy _ _ eLn6
      have eKny := sy _ _ eKn6
      have zl1 : i + 1 < (0 :: zs).length := by rw [List.length_cons]; omega
      refine for_range (lo := 0) (n := i + 1) (fun m σ Hz => ∃ y8 : Option V, σ = [some (.ref r), some (nS x), some (.ref R), some (.ref M), some (.ref Ln), some (.ref Kn), some (.int (1 + (i : Int))), some (.ref d), y8, none, none] ∧ Hz = Hy ∧ ∀ m', m' < m → bnd i m')
        ⟨_, rfl, rfl, fun m hm => absurd hm (Nat.not_lt_zero _)⟩ (fun m σ Hz hm hz => ?_) (fun σ Hz hz => ?_)
      · obtain ⟨y8, rfl, rfl, hbm⟩ := hz
        obtain ⟨y, hy⟩ : ∃ y, (linesL x rs)[m]? = some y := ⟨_, List.getElem?_eq_getElem (by show m < (x :: rs.map (·.over)).length; rw [List.length_cons, List.length_map]; omega)⟩
        have hyV : atI ((linesL x rs).map nS) (0 + (m : Int)) = some (nS y) := by rw [Int.zero_add]; exact atI_nat (by rw [List.getElem?_map, hy]; rfl)
        have zlm : m < (0 :: zs).length := by omega
        have aV : atI ((0 :: zs).map V.int) (1 + (i : Int)) = some (.int ((0 :: zs).getD (i + 1) 0)) := by
          rw [show (1 : Int) + (i : Int) = ((i + 1 : Nat) : Int) by omega]
          exact atI_nat (by rw [List.getElem?_map, List.getD_eq_getElem?_getD, List.getElem?_eq_getElem zl1]; rfl)
        have bV : atI ((0 :: zs).map V.int) (0 + (m : Int)) = some (.int ((0 :: zs).getD m 0)) := by
          rw [Int.zero_add]
          exact atI_nat (by rw [List.getElem?_map, List.getD_eq_getElem?_getD, List.getElem?_eq_getElem zlm]; rfl)
        have gd := DGet.k (k := Sum.inr (SX.S y)) ekd
        rw [sa_val hsa y] at gd
        refine ⟨.ref Ln, rfl, .int (0 + (m : Int)), rfl, Ln, _, _, _, rfl, rfl, SqL.of eLny, hyV, .ref d, rfl, d, _, rfl, gd, _, rfl, ?_⟩
        have next : bnd i m → ∃ y8 : Option V, [some (.ref r), some (nS x), some (.ref R), some (.ref M), some (.ref Ln), some (.ref Kn), some (.int (1 + (i : Int))), some (.ref d), some (.int (0 + (m : Int))), none, none] = [some (.ref r), some (nS x), some (.ref R), some (.ref M), some (.ref Ln), some (.ref Kn), some (.int (1 + (i : Int))), some (.ref d), y8, none, none] ∧ Hz = Hz ∧ ∀ m', m' < m + 1 → bnd i m' := fun h => ⟨_, rfl, rfl, fun m' hm' => by
          rcases Nat.lt_or_eq_of_le (Nat.le_of_lt_succ hm') with z | z
          · exact hbm m' z
          · rw [z]; exact h⟩
        cases hlk : lackF jns rr y with
        | none =>
          exact iteF (next fun rr' e y' n' ey' h => by
            rw [err] at e
            rw [hy] at ey'
            rw [← Option.some.inj e, ← Option.some.inj ey', hlk] at h
            cases h)
        | some n =>
          rw [hlk] at gd
          refine iteT ⟨.ref Kn, rfl, .int (1 + (i : Int)), rfl, Kn, _, _, _, rfl, rfl, SqL.of eKny, aV, .ref Kn, rfl, .int (0 + (m : Int)), rfl, Kn, _, _, _, rfl, rfl, SqL.of eKny, bV, .int (1 + (i : Int)), rfl, _, _, rfl, rfl, .int (0 + (m : Int)), rfl, _, _, rfl, rfl, _, _, rfl, rfl, .ref d, rfl, .ref Ln, rfl, .int (0 + (m : Int)), rfl, Ln, _, _, _, rfl, rfl, SqL.of eLny, hyV, d, _, rfl, gd, _, _, rfl, rfl, _, _, rfl, rfl, _, rfl, ite2 (fun c => ?_) (fun c => ?_)⟩
          · have c := of_decide_eq_true c
            refine q _ false (s06.trans sy) ⟨fun z => (by cases z), fun h => absurd h (inj rfl fun h => ?_)⟩
            have := h.let_ i rr err m (by omega) y n hy hlk
            omega
          · have c : ¬ _ := fun z => c (decide_eq_true z)
            exact next fun rr' e y' n' ey' h => by
              rw [err] at e
              rw [hy] at ey'
              rw [← Option.some.inj e, ← Option.some.inj ey', hlk] at h
              have h := Option.some.inj h
              rw [← h]
              omega
      · obtain ⟨y8, rfl, rfl, hbm⟩ := hz
        refine ⟨_, _, _, rfl, sy, fun j hj m hm => ?_⟩
        rcases Nat.lt_or_eq_of_le (Nat.le_of_lt_succ hj) with z | z
        · exact hb j z m hm
        · subst z
          exact hbm m (by omega)
    · obtain ⟨y6, y7, y8, rfl, sx, hb⟩ := hp'
      rw [List.length_map, dll] at hb
      refine q _ true (s06.trans sx) ⟨fun _ => ⟨zs, rfl, lenE, fun j rr e i hi y n hy h => hb j (List.getElem?_eq_some_iff.mp e).1 i hi rr e y n hy h⟩, fun _ => rfl⟩
theorem h_ir (a : Int) : PySem.W.DatumOrd.lt a a = false := decide_eq_false (by omega)
theorem h_asy (a b : Int) (h : PySem.W.DatumOrd.lt a b = true) : PySem.W.DatumOrd.lt b a = false := decide_eq_false (by have := of_decide_eq_true h; omega)
theorem h_tr (a b c : Int) (h : PySem.W.DatumOrd.lt a b = false) (k : PySem.W.DatumOrd.lt b c = false) : PySem.W.DatumOrd.lt a c = false := decide_eq_false (by have := of_decide_eq_false h; have := of_decide_eq_false k; omega)
theorem dpAll_intsH {K : PySem.W.Frag} {H : Hp} : ∀ zs : List Int, DpAll K H (zs.map V.int) (zs.map PySem.W.Datum.toD)
  | [] => .nil
  | z :: zs => .cons (.int _) (dpAll_intsH zs)
/-- how many wrong ones the marks let by, by each place -/
def letM (zs : List Int) (i : Nat) : Int := (0 :: zs).getD i 0 + (zs.length : Int) - i
def sp_most_wrong : Sp := fun vs H Q _ => ∃ (M : Addr) (zs : List Int), vs = [.ref M] ∧ H M = some (.lst (zs.map V.int)) ∧ zs.length ≤ 1000 ∧
  ∀ H' m, Same H H' → (∀ i, i ≤ zs.length → m ≤ letM zs i) → (∃ i, i ≤ zs.length ∧ m = letM zs i) → Q (.int m) H'
set_option maxHeartbeats 8000000 in
theorem ok_most_wrong (T : Defs K mg) : FnOk P w K mg base CX0 (k + 1) T.a_most_wrong T.d_most_wrong ["marks"] sp_most_wrong := by
  refine T.F_most_wrong.ok sc_most_wrong (fun vs H Q E h => ?_) (fun cdv A outer s H vs Q E hr h => ?_)
  · obtain ⟨M, zs, rfl, _⟩ := h
    rfl
  · obtain ⟨M, zs, rfl, eM, zl, q⟩ := h
    refine ⟨_, PSs.nox
(pss_one (ps_ret (pe_callB (Md.cr_minG (α := Int) rfl hr.units) (by rfl) T.z_min (by decide +kernel) (pa_cons (pe_lc (own := [("at", 1), ("mark", 2)]) (g := gTup K 2 (gCons (gName 1) (gCons (gName 2) gNil))) rfl sc_most_wrong.nd (pi_enum (by rfl) T.z_enumerate (pa_cons (pe_op op_cat (pe_lst (pa_cons (pe_int) pa_nil)) (pv 0)) pa_nil)) (blkOk_by (N := N_most_wrong) (sc := defScope s_most_wrong) (by decide +kernel)) (fun _ _ _ _ _ => (pg_tup rfl (pgs_cons (pg_name (i := 1) sc_most_wrong.nd rfl (.inl rfl)) (pgs_cons (pg_name (i := 2) sc_most_wrong.nd rfl (.inl rfl)) pgs_nil)))) (fun _ _ _ _ _ => pts_nil) (fun _ _ _ _ _ => (pe_op op_sub (pe_op op_add (pv 2) (pe_callB (r := rLenS K) call_lenS (by rfl) T.z_len (by decide +kernel) (pa_cons (pv 0) pa_nil))) (pv 1)))) pa_nil))))
      , ?_⟩
    refine ⟨one_sz, fun o1 no1 => ?_⟩
    have so1 := same_upd (o := .lst [.int 0]) no1
    refine ⟨.ref M, rfl, o1, M, _, _, rfl, rfl, upd_same, so1 _ _ eM, by rw [List.length_map]; exact Nat.le_of_lt (small5000 (by show 1 + _ ≤ 5000; omega)), fun Kn nKn => ?_⟩
    have s1 := so1.trans (same_upd (o := .lst ([.int 0] ++ zs.map V.int)) nKn)
    have eKn : (upd (upd H o1 (.lst [.int 0])) Kn (.lst ([.int 0] ++ zs.map V.int))) Kn = some (.lst ((0 :: zs).map V.int)) := upd_same
    generalize upd (upd H o1 (.lst [.int 0])) Kn (.lst ([.int 0] ++ zs.map V.int)) = H1 at eKn s1 ⊢
    have eM1 := s1 _ _ eM
    refine ⟨Kn, _, rfl, SqL.of eKn, fun D nD => ?_⟩
    refine lc_it (walk_enum (xs := (0 :: zs).map V.int)) (fun i Hx => Same H1 Hx ∧ Hx D = some (.lst (((List.range i).map (letM zs)).map V.int))) ⟨same_upd nD, upd_same⟩ (fun i Hx _ pv => SqL.of (pv.1 _ _ eKn)) (fun i v Hx Hx' hi pv yy => ?_) (fun H2 pv => ?_)
    · obtain ⟨U, xv, yv, rfl, nU, rfl, ex, ey⟩ := yy
      have ex : xv = .int (i : Int) := (Option.some.inj ex).symm
      subst ex
      obtain ⟨sx, eD⟩ := pv
      rw [List.length_map] at hi
      have ey : ((0 :: zs).map V.int)[i]? = some yv := ey
      have ev : yv = .int ((0 :: zs).getD i 0) := by
        rw [List.getElem?_map, List.getElem?_eq_getElem hi] at ey
        rw [List.getD_eq_getElem?_getD, List.getElem?_eq_getElem hi]
        exact (Option.some.inj ey).symm
      subst ev
      have sU := same_upd (o := .tup [.int (i : Int), .int ((0 :: zs).getD i 0)]) nU
      have eDy := sU _ _ eD
      have sy := sx.trans sU
      refine ⟨U, _, rfl, SqT.of upd_same, rfl, _, _, rfl, _, [], rfl, rfl, rfl, yes_ ?_⟩
      generalize upd Hx U (.tup [.int (i : Int), .int ((0 :: zs).getD i 0)]) = Hy at sy eDy ⊢
      refine ⟨_, rfl, .ref M, rfl, M, _, rfl, .inl (SqL.of (sy _ _ eM1)), _, _, rfl, rfl, .int (i : Int), rfl, _, _, rfl, rfl, _, eDy, ?_, same_set sy nD, ?_⟩
      · rw [List.length_map, List.length_map, List.length_range]
        rw [List.length_cons] at hi
        exact small5000 (by omega)
      · rw [upd_same, List.range_succ, List.map_append, List.map_append, List.length_map]
        rfl
    obtain ⟨s2, eD⟩ := pv
    rw [List.length_map, List.length_cons, List.range_succ_eq_map, List.map_cons] at eD
    have hmem := Md.minOf_mem (letM zs 0) (((List.range zs.length).map Nat.succ).map (letM zs))
    have hle := Md.minOf_le h_ir h_asy h_tr (letM zs 0) (((List.range zs.length).map Nat.succ).map (letM zs))
    have hL : letM zs 0 :: ((List.range zs.length).map Nat.succ).map (letM zs) = (List.range (zs.length + 1)).map (letM zs) := by rw [List.range_succ_eq_map, List.map_cons]
    rw [hL] at hmem hle
    refine ⟨D, _, letM zs 0, ((List.range zs.length).map Nat.succ).map (letM zs), rfl, SqL.of eD, dpAll_intsH (_ :: _), by show 0 ≤ 60; decide, fun ix v hv hmin => ?_⟩
    have hvm : v = .int (PySem.W.minOf (letM zs 0) (((List.range zs.length).map Nat.succ).map (letM zs))) := by
      have hv : ((letM zs 0 :: ((List.range zs.length).map Nat.succ).map (letM zs)).map V.int)[ix]? = some v := hv
      rw [List.getElem?_map, hmin] at hv
      exact (Option.some.inj hv).symm
    rw [hvm]
    refine q _ _ (s1.trans s2) (fun i hi => ?_) ?_
    · have := of_decide_eq_false (hle (letM zs i) (List.mem_map_of_mem (List.mem_range.mpr (by omega))))
      omega
    · obtain ⟨i, hi, e⟩ := List.mem_map.mp hmem
      exact ⟨i, by have := List.mem_range.mp hi; omega, e.symm⟩
end
end Th
namespace Th
open PySem PySem.Spec PyProof.Rows L2
/-! any thing looked at as a history, with the fault told -/
/-- the first fault's text -/
def FaultH (jns : List (Nm × List Nm)) (x : Nm) (rs : List Rt) (d : PyData) (f : Str) : Prop := (pairB d = false ∧ f = "paper") ∨ ∃ ds es, d = .tuple [.list ds, .list es] ∧ (((¬ ∃ c, HistR jns rs x ds c) ∧ f = "steps") ∨ ∃ c, HistR jns rs x ds c ∧ ((¬ MarksD jns x rs es ∧ f = "marks") ∨ ∃ zs : List Int, es = zs.map PyData.int ∧ MarksOk jns x rs zs ∧
  (((¬ ∀ i, i ≤ zs.length → (c : Int) ≤ letM zs i) ∧ f = "many") ∨ ((∀ i, i ≤ zs.length → (c : Int) ≤ letM zs i) ∧ f = ""))))
theorem pairB_is {d : PyData} (h : pairB d = true) : ∃ ps ds, d = .tuple [.list ps, .list ds] := by
  unfold pairB at h
  obtain ⟨h1, h2⟩ := He.ba h
  obtain ⟨es, rfl, el⟩ := tup_len (n := 2) h1
  match es, el, h2 with
  | [.list ps, .list ds], _, _ => exact ⟨ps, ds, rfl⟩
/-- a pair of lists in a heap -/
theorem dt_pair {H : Hp} {v : V} {ps ds : List PyData} (h : Dt SA H v (.tuple [.list ps, .list ds])) : ∃ (t p tb : Addr) (xs ys : List V), v = .ref t ∧ H t = some (.tup [.ref p, .ref tb]) ∧ H p = some (.lst xs) ∧ DtAll SA H xs ps ∧ xs.length ≤ 5000 ∧ H tb = some (.lst ys) ∧ DtAll SA H ys ds ∧ ys.length ≤ 5000 := by
  cases h with
  | @tup t xs _ _ et _ hx =>
    cases hx with
    | cons h1 hx =>
    cases hx with
    | cons h2 hx =>
    cases hx
    cases h1 with
    | @lst p xs _ _ ep l1 hp =>
    cases h2 with
    | @lst tb ys _ _ eb l2 hb => exact ⟨t, p, tb, xs, ys, rfl, et, ep, hp, l1, eb, hb, l2⟩
theorem DtAll.sameA {H H' : Hp} (s : Same H H') : ∀ {xs : List V} {ds : List PyData}, DtAll SA H xs ds → DtAll SA H' xs ds
  | _, _, .nil => .nil
  | _, _, .cons r t => .cons (r.same s) (DtAll.sameA s t)
mutual
theorem Dt.extN {S : Addr → Prop} {H H' : Hp} (e : LamX.ExtN H H') : ∀ {v : V} {d : PyData}, Dt S H v d → Dt S H' v d
  | _, _, .non => .non
  | _, _, .bl b => .bl b
  | _, _, .int b => .int b
  | _, _, .str b => .str b
  | _, _, .lst s h l r => .lst s (e _ _ h (fun _ z => nomatch z)) l (DtAll.extN e r)
  | _, _, .tup s h l r => .tup s (e _ _ h (fun _ z => nomatch z)) l (DtAll.extN e r)
theorem DtAll.extN {S : Addr → Prop} {H H' : Hp} (e : LamX.ExtN H H') : ∀ {v : List V} {d : List PyData}, DtAll S H v d → DtAll S H' v d
  | _, _, .nil => .nil
  | _, _, .cons a r => .cons (Dt.extN e a) (DtAll.extN e r)
end
theorem hist_c {jns : List (Nm × List Nm)} {rs : List Rt} {x : Nm} {ds : List PyData} {c c' : Nat} (h : HistR jns rs x ds c) (h' : HistR jns rs x ds c') : c = c' := by
  have e := wrong_hist h
  rw [wrong_hist h'] at e
  omega
theorem faultH_eq {jns : List (Nm × List Nm)} {x : Nm} {rs : List Rt} {d : PyData} {f g : Str} (a : FaultH jns x rs d f) (b : FaultH jns x rs d g) : f = g := by
  rcases a with ⟨a1, rfl⟩ | ⟨ds, es, rfl, a⟩
  · rcases b with ⟨b1, rfl⟩ | ⟨ds, es, rfl, b⟩
    · rfl
    · exact absurd (show (true : Bool) = false from a1) (by decide)
  · rcases b with ⟨b1, rfl⟩ | ⟨ds', es', e, b⟩
    · exact absurd (show (true : Bool) = false from b1) (by decide)
    · cases e
      rcases a with ⟨a1, rfl⟩ | ⟨c, hc, a⟩
      · rcases b with ⟨b1, rfl⟩ | ⟨c', hc', b⟩
        · rfl
        · exact absurd ⟨c', hc'⟩ a1
      · rcases b with ⟨b1, rfl⟩ | ⟨c', hc', b⟩
        · exact absurd ⟨c, hc⟩ b1
        · have := hist_c hc hc'
          subst this
          rcases a with ⟨a1, rfl⟩ | ⟨zs, e1, hz, a⟩
          · rcases b with ⟨b1, rfl⟩ | ⟨zs', e2, hz', b⟩
            · rfl
            · exact absurd ⟨zs', e2, hz'⟩ a1
          · rcases b with ⟨b1, rfl⟩ | ⟨zs', e2, hz', b⟩
            · exact absurd ⟨zs, e1, hz⟩ b1
            · rw [e1] at e2
              have := ints_inj e2
              subst this
              rcases a with ⟨a1, rfl⟩ | ⟨a1, rfl⟩ <;> rcases b with ⟨b1, rfl⟩ | ⟨b1, rfl⟩
              · rfl
              · exact absurd b1 a1
              · exact absurd a1 b1
              · rfl
section
variable {w : World} {K : PySem.W.Frag} {mg : Str → Option Value} {base : Heap} {k : Nat}
theorem says_np {f : Str} (h : f.length ≤ 100) : SupE.SaysV "no proof, by its " (.str f) := by
  have z : (("no proof, by its " : Str) ++ f).length = ("no proof, by its " : Str).length + f.length := strLen_append _ _
  have z2 : ("no proof, by its " : Str).length = 17 := by decide +kernel
  refine ⟨?_, .inl ⟨f, rfl, ?_, ?_⟩⟩
  · rw [z2]; exact Nat.le_of_lt (small5000 (by omega))
  · exact Nat.le_of_lt (small5000 (by omega))
  · rw [z, z2]; exact Nat.le_of_lt (small5000 (by omega))
def sp_look_history (T : Defs K mg) : Sp := fun vs H Q E => ∃ (r l : Addr) (x : Nm) (v : V) (d : PyData) (ts : List Addr) (rs : List Rt) (ls : List Nm) (jns : List (Nm × List Nm)), vs = [.ref r, nS x, .ref l, v] ∧ H l = some (.lst (ts.map V.ref)) ∧ Paired (RtA H) ts rs ∧ (∀ r ∈ rs, RtOk r ∧ RtFit jns r) ∧ ts.length ≤ 1000 ∧ Dt SA H v d ∧ Sm d ∧ LJ K H r ls jns ∧ LJok ls jns ∧ (∀ z ∈ ls, IsNm z) ∧ (jns.map (·.1)).Nodup ∧ x ∈ ls ∧ TabI T H ∧
  ∀ H' f, LamX.ExtN H H' → TabI T H' → FaultH jns x (sortR rs) d f → (f = "" → Q .non H') ∧ (f ≠ "" → ∀ d, H' d = none → E (.ref T.a_NoProof) (some d) (upd H' d (.xd [(("where" : Str), .str f)])))
set_option maxHeartbeats 8000000 in
theorem ok_look_history (T : Defs K mg) (TB : LamX.TabB base mg T.cc_in_order T.tp_in_order) : FnOk PP w K mg base (L2.CX PP w) 8 T.a_look_history T.d_look_history ["net", "line", "returns", "thing"] (sp_look_history T) := by
  have G_is_pair_of_lists : FnOk PP w K mg base CX0 7 _ _ _ _ := ok_is_pair_of_lists (k := 5) T
  have G_in_order : FnOk PP w K mg base CX0 7 _ _ _ _ := (ok_in_order T TB).mono (by decide)
  have G_is_history : FnOk PP w K mg base CX0 7 _ _ _ _ := ok_is_history (k := 0) T
  have G_are_marks : FnOk PP w K mg base CX0 7 _ _ _ _ := ok_are_marks (k := 3) T
  have G_wrong_in : FnOk PP w K mg base CX0 7 _ _ _ _ := ok_wrong_in (k := 6) T
  have G_most_wrong : FnOk PP w K mg base CX0 7 _ _ _ _ := ok_most_wrong (k := 6) T
  refine T.F_look_history.ok sc_look_history (fun vs H Q E h => ?_) (fun cdv A outer s H vs Q E hr h => ?_)
  · obtain ⟨r, l, x, v, d, ts, rs, ls, jns, rfl, _⟩ := h
    rfl
  · obtain ⟨r, l, x, v, d, ts, rs, ls, jns, rfl, hl, hp, hrs, t1000, hd, hsm, hlj, hok, hnm, jnd, xin, hT, q⟩ := h
    refine ⟨_,
(pss_cons (ps_if (pt_not (pt_val (pe_call G_is_pair_of_lists hr (by rfl) T.g_is_pair_of_lists T.F_is_pair_of_lists.kp T.b_is_pair_of_lists .nil pass0 (pa_cons (pv 3) pa_nil))))
      (pss_one (ps_raise rfl (takes_of rfl rfl rfl rfl) (SupE.pmk T.t_NoProof T.g_NoProof hr (by omega) (pa_cons (pe_str) pa_nil) (by rfl))))
      pss_nil)
    (pss_cons (ps_asg (pv 3) (pg_tup rfl (pgs_cons (pg_name (i := 4) sc_look_history.nd rfl (.inl rfl)) (pgs_cons (pg_name (i := 5) sc_look_history.nd rfl (.inl rfl)) pgs_nil))))
    (pss_cons (ps_set (i := 6) sc_look_history.nd rfl (.inl rfl) (pe_call G_in_order hr (by rfl) T.g_in_order T.F_in_order.kp T.b_in_order .nil pass0 (pa_cons (pv 2) pa_nil)))
    (pss_cons (ps_if (pt_not (pt_val (pe_call G_is_history hr (by rfl) T.g_is_history T.F_is_history.kp T.b_is_history .nil pass0 (pa_cons (pv 0) (pa_cons (pv 1) (pa_cons (pv 6) (pa_cons (pv 4) pa_nil)))))))
      (pss_one (ps_raise rfl (takes_of rfl rfl rfl rfl) (SupE.pmk T.t_NoProof T.g_NoProof hr (by omega) (pa_cons (pe_str) pa_nil) (by rfl))))
      pss_nil)
    (pss_cons (ps_if (pt_not (pt_val (pe_call G_are_marks hr (by rfl) T.g_are_marks T.F_are_marks.kp T.b_are_marks .nil pass0 (pa_cons (pv 0) (pa_cons (pv 1) (pa_cons (pv 6) (pa_cons (pv 5) pa_nil)))))))
      (pss_one (ps_raise rfl (takes_of rfl rfl rfl rfl) (SupE.pmk T.t_NoProof T.g_NoProof hr (by omega) (pa_cons (pe_str) pa_nil) (by rfl))))
      pss_nil)
    (pss_one (ps_if (pt_cmpR op_gt (pe_call G_wrong_in hr (by rfl) T.g_wrong_in T.F_wrong_in.kp T.b_wrong_in .nil pass0 (pa_cons (pv 4) pa_nil)) (pe_call G_most_wrong hr (by rfl) T.g_most_wrong T.F_most_wrong.kp T.b_most_wrong .nil pass0 (pa_cons (pv 5) pa_nil)) (nomark _))
      (pss_one (ps_raise rfl (takes_of rfl rfl rfl rfl) (SupE.pmk T.t_NoProof T.g_NoProof hr (by omega) (pa_cons (pe_str) pa_nil) (by rfl))))
      pss_nil)))))))
      , ?_⟩
    have bad : ∀ {Hx : Hp} {f : Str}, LamX.ExtN H Hx → TabI T Hx → FaultH jns x (sortR rs) d f → f ≠ "" → f.length ≤ 100 → SupE.SaysV "no proof, by its " (.str f) ∧ ∀ d, Hx d = none → E (.ref T.a_NoProof) (some d) (upd Hx d (.xd [(("where" : Str), .str f)])) :=
      fun {Hx f} sx tx hf ne fl => ⟨says_np fl, (q Hx f sx tx hf).2 ne⟩
    have tl := paired_len hp
    have sl : (sortR rs).length = rs.length := (sortR_perm rs).length_eq
    have hss : ∀ r ∈ sortR rs, RtOk r ∧ RtFit jns r := fun r hr => hrs r ((sortR_perm rs).mem_iff.mp hr)
    refine ⟨v, rfl, v, d, rfl, hd, fun H1 s1 => ⟨_, rfl, ?_⟩⟩
    have x1 : LamX.ExtN H H1 := .of s1
    have t1 : TabI T H1 := hT.ext s1
    cases c0 : pairB d with
    | false => exact iteT ⟨.str "paper", rfl, bad x1 t1 (.inl ⟨c0, rfl⟩) (by decide +kernel) (by decide +kernel)⟩
    | true =>
    refine iteF ?_
    obtain ⟨ps, ds, rfl⟩ := pairB_is c0
    obtain ⟨t, p, tb, xs, ys, rfl, et, ep, hps, xl5, eb, hds, yl5⟩ := dt_pair (hd.same s1)
    have hsp : ∀ e ∈ ps, Sm e := fun e he => (hsm.tup _ List.mem_cons_self).lst e he
    refine ⟨.ref t, rfl, t, _, rfl, SqT.of et, rfl, _, _, rfl, _, [], rfl, rfl, ?_⟩
    refine ⟨.ref l, rfl, l, ts, rs, rfl, SqL.of (s1 _ _ hl), paired_imp hp fun a _ r h => s1 _ _ h, fun r h => (hrs r h).1, t1000, t1, fun H2 R ts' e2 t2 nR eR hR _ => ?_⟩
    have x2 : LamX.ExtN H H2 := x1.trans e2
    have tl' := paired_len hR
    have hlj2 := hlj.tk (TQ.ext x2)
    have ep2 := e2 _ _ ep fun _ z => nomatch z
    have eb2 := e2 _ _ eb fun _ z => nomatch z
    have hps2 := DtAll.extN e2 hps
    have hds2 := DtAll.extN e2 hds
    generalize sortR rs = ss at *
    have badL : ∀ {Hx : Hp} {f : Str}, LamX.ExtN H Hx → TabI T Hx → (((¬ ∃ c, HistR jns ss x ps c) ∧ f = "steps") ∨ ∃ c, HistR jns ss x ps c ∧ ((¬ MarksD jns x ss ds ∧ f = "marks") ∨ ∃ zs : List Int, ds = zs.map PyData.int ∧ MarksOk jns x ss zs ∧
  (((¬ ∀ i, i ≤ zs.length → (c : Int) ≤ letM zs i) ∧ f = "many") ∨ ((∀ i, i ≤ zs.length → (c : Int) ≤ letM zs i) ∧ f = "")))) → f ≠ "" → f.length ≤ 100 → SupE.SaysV "no proof, by its " (.str f) ∧ ∀ d, Hx d = none → E (.ref T.a_NoProof) (some d) (upd Hx d (.xd [(("where" : Str), .str f)])) :=
      fun {Hx f} sx tx hf ne fl => bad sx tx (.inr ⟨ps, ds, rfl, hf⟩) ne fl
    refine ⟨.ref r, rfl, nS x, rfl, .ref R, rfl, .ref p, rfl, r, R, p, x, ts', ss, xs, ps, ls, jns, rfl, eR, hR, hss, ep2, hps2, hsp, hlj2, hok, hnm, xin, jnd, fun H3 b s3 hb => ⟨_, rfl, ?_⟩⟩
    have x3 := ext_same x2 s3
    have t3 := t2.ext s3
    cases b with
    | false => exact iteT ⟨.str "steps", rfl, badL x3 t3 (.inl ⟨fun z => absurd (hb.mpr z) (by decide), rfl⟩) (by decide +kernel) (by decide +kernel)⟩
    | true =>
    refine iteF ?_
    obtain ⟨c, hc⟩ := hb.mp rfl
    refine ⟨.ref r, rfl, nS x, rfl, .ref R, rfl, .ref tb, rfl, r, R, tb, x, ts', ss, ys, ds, ls, jns, rfl, s3 _ _ eR, paired_imp hR fun a _ r h => s3 _ _ h, hss, by omega, s3 _ _ eb2, yl5, hds2.same s3, hlj2.tk (.of s3), hok, xin, jnd, fun H4 b s4 hb => ⟨_, rfl, ?_⟩⟩
    have x4 := ext_same x3 s4
    have t4 := t3.ext s4
    have s34 := s3.trans s4
    cases b with
    | false => exact iteT ⟨.str "marks", rfl, badL x4 t4 (.inr ⟨c, hc, .inl ⟨fun z => absurd (hb.mpr z) (by decide), rfl⟩⟩) (by decide +kernel) (by decide +kernel)⟩
    | true =>
    refine iteF ?_
    obtain ⟨zs, ezs, hz⟩ := hb.mp rfl
    subst ezs
    have eys := dtAll_intsV hds
    subst eys
    refine ⟨.ref p, rfl, p, xs, ps, rfl, s34 _ _ ep2, xl5, hps2.same s34, hist_form hc, fun H5 s5 => ?_⟩
    rw [wrong_hist hc]
    refine ⟨.ref tb, rfl, tb, zs, rfl, (s34.trans s5) _ _ eb2, by rw [hz.len]; omega, fun H6 m s6 hm1 hm2 => ⟨_, _, rfl, rfl, _, rfl, ite2 (fun c1 => ?_) (fun c1 => ?_)⟩⟩
    · have c1 := of_decide_eq_true c1
      obtain ⟨i, hi, e⟩ := hm2
      exact ⟨.str "many", rfl, badL (ext_same x4 (s5.trans s6)) (t4.ext (s5.trans s6)) (.inr ⟨c, hc, .inr ⟨zs, rfl, hz, .inl ⟨fun z => by have := z i hi; omega, rfl⟩⟩⟩) (by decide +kernel) (by decide +kernel)⟩
    · have c1 : ¬ _ := fun z => c1 (decide_eq_true z)
      exact (q _ "" (ext_same x4 (s5.trans s6)) (t4.ext (s5.trans s6)) (.inr ⟨ps, _, rfl, .inr ⟨c, hc, .inr ⟨zs, rfl, hz, .inr ⟨fun i hi => by have := hm1 i hi; omega, rfl⟩⟩⟩⟩)).1 rfl
end
end Th
namespace Th
open PySem PySem.Spec PyProof.Rows L2
/-! all roads of unlike lines, gone through -/
open Rm (SP sp_zero sp_succ ne_snoc Ds Wk Gr Lst ds_succ ds_zero ds_none wk_ds)
theorem ne_in {a b : Addr} {l : List Addr} (h : b ∉ l) (ha : a ∈ l) : a ≠ b := fun e => h (e ▸ ha)
abbrev lD (p : List Nm) : PyData := PySem.W.Datum.toD (p.map SX.S)
theorem layAll_nms : ∀ {zs : List Nm}, (∀ z ∈ zs, IsNm z) → PyData.canLayAll0 ((zs.map SX.S).map PyData.str) = true
  | [], _ => rfl
  | z :: zs, h => by
    show (PyData.strOk (SX.S z) && PyData.canLayAll0 ((zs.map SX.S).map PyData.str)) = true
    rw [nm_ok (h z List.mem_cons_self), layAll_nms fun y hy => h y (List.mem_cons_of_mem _ hy)]
    rfl
theorem layAll_lD : ∀ {ps : List (List Nm)}, (∀ p ∈ ps, ∀ z ∈ p, IsNm z) → PyData.canLayAll0 (ps.map lD) = true
  | [], _ => rfl
  | p :: ps, h => by
    show (PyData.canLayAll0 ((p.map SX.S).map PyData.str) && PyData.canLayAll0 (ps.map lD)) = true
    rw [layAll_nms (h p List.mem_cons_self), layAll_lD fun y hy => h y (List.mem_cons_of_mem _ hy)]
    rfl
theorem depthAll_nms : ∀ zs : List Nm, PyData.depthAll ((zs.map SX.S).map PyData.str) = 0
  | [] => rfl
  | z :: zs => by
    show max 0 (PyData.depthAll ((zs.map SX.S).map PyData.str)) = 0
    rw [depthAll_nms zs]
    rfl
theorem depthAll_lD : ∀ ps : List (List Nm), PyData.depthAll (ps.map lD) ≤ 1
  | [] => Nat.zero_le _
  | p :: ps => by
    show max (PyData.depthAll ((p.map SX.S).map PyData.str) + 1) (PyData.depthAll (ps.map lD)) ≤ 1
    rw [depthAll_nms]
    exact Nat.max_le.mpr ⟨Nat.le_refl _, depthAll_lD ps⟩
theorem shaped_lD {ps : List (List Nm)} (h : ∀ p ∈ ps, ∀ z ∈ p, IsNm z) : SeqAt.shaped (.list (ps.map lD)) = true := Bool.and_eq_true_iff.mpr ⟨layAll_lD h, decide_eq_true (by
  show PyData.depthAll (ps.map lD) + 1 ≤ 64
  have := depthAll_lD ps
  omega)⟩
theorem dp_lD {K : PySem.W.Frag} {H : Hp} {a : Addr} {p : List Nm} (e : H a = some (.lst (p.map nS))) : Dp K H (.ref a) (lD p) := .lst (SqL.of e) (dpAll_nms p)
theorem dpAll_lD {K : PySem.W.Frag} {H : Hp} {as : List Addr} {ps : List (List Nm)} (h : Paired (fun a (p : List Nm) => H a = some (.lst (p.map nS))) as ps) : DpAll K H (as.map V.ref) (ps.map lD) := by
  induction h with
  | nil => exact .nil
  | cons e _ ih => exact .cons (dp_lD e) ih
theorem listLt_S : ∀ a b : List Nm, PySem.W.DatumOrd.lt (a.map SX.S) (b.map SX.S) = Rm.rLt a b
  | [], [] => rfl
  | [], _ :: _ => rfl
  | _ :: _, [] => rfl
  | x :: a, y :: b => by
    show (if SX.S x = SX.S y then PySem.W.listLt (a.map SX.S) (b.map SX.S) else decide ((SX.S x).cps.toList < (SX.S y).cps.toList)) = if x = y then Rm.rLt a b else decide (x < y)
    by_cases c : x = y
    · rw [if_pos c, if_pos (by rw [c])]
      exact listLt_S a b
    · rw [if_neg c, if_neg (fun e => c (SX.S_inj e))]
theorem S_list (s : List Str) : ∃ p : List Nm, s = p.map SX.S := ⟨s.map fun y => y.cps.toList, by rw [List.map_map]; exact (List.map_id'' (fun y => rfl) s).symm⟩
theorem l_ir (a : List Str) : PySem.W.DatumOrd.lt a a = false := by
  obtain ⟨p, rfl⟩ := S_list a
  rw [listLt_S, Rm.rLt_self]
theorem l_asy (a b : List Str) (h : PySem.W.DatumOrd.lt a b = true) : PySem.W.DatumOrd.lt b a = false := by
  obtain ⟨p, rfl⟩ := S_list a
  obtain ⟨q, rfl⟩ := S_list b
  rw [listLt_S] at h ⊢
  exact Rm.rLt_asy _ _ h
theorem l_tr (a b c : List Str) (h : PySem.W.DatumOrd.lt a b = false) (k : PySem.W.DatumOrd.lt b c = false) : PySem.W.DatumOrd.lt a c = false := by
  obtain ⟨p, rfl⟩ := S_list a
  obtain ⟨q, rfl⟩ := S_list b
  obtain ⟨r, rfl⟩ := S_list c
  rw [listLt_S] at h k ⊢
  exact Rm.rLt_tr _ _ _ h k
theorem paired_app {α β : Type} {R : α → β → Prop} {as as' : List α} {bs bs' : List β} (h : Paired R as bs) (k : Paired R as' bs') : Paired R (as ++ as') (bs ++ bs') := by
  induction h with
  | nil => exact k
  | cons r _ ih => exact .cons r ih
theorem pow7 {t : Nat} (h : t < 8) : 7 ^ (t + 1) ≤ 5764801 := Nat.le_trans (Nat.pow_le_pow_right (by decide) (by omega : t + 1 ≤ 8)) (by decide)
theorem small7 {n : Nat} (h : n ≤ 5764801) : n < sizeLine := Nat.lt_of_le_of_lt h (by decide)
/-- a list of roads -/
abbrev RsAt (H0 H : Hp) (as : List Addr) (ps : List (List Nm)) : Prop := Paired (fun a (p : List Nm) => H0 a = none ∧ H a = some (.lst (p.map nS))) as ps
theorem RsAt.keep {lg : Addr} {H0 H H' : Hp} {as : List Addr} {ps : List (List Nm)} (h : RsAt H0 H as ps) (k : Keep lg H H') (n : ∀ a ∈ as, a ≠ lg) : RsAt H0 H' as ps := paired_imp h fun a ha p e => ⟨e.1, k _ _ (n a ha) e.2⟩
theorem RsAt.same {H0 H H' : Hp} {as : List Addr} {ps : List (List Nm)} (h : RsAt H0 H as ps) (s : Same H H') : RsAt H0 H' as ps := paired_imp h fun a ha p e => ⟨e.1, s _ _ e.2⟩
theorem RsAt.mem {H0 H : Hp} {as : List Addr} {ps : List (List Nm)} (h : RsAt H0 H as ps) {a : Addr} (ha : a ∈ as) : ∃ p : List Nm, H a = some (.lst (p.map nS)) := by
  obtain ⟨i, hi⟩ := List.getElem?_of_mem ha
  obtain ⟨p, _, e⟩ := paired_get h hi
  exact ⟨p, e.2⟩
theorem rd_eq {jns : List (Nm × List Nm)} {fars : List Nm} {x : Nm} {r t : List Nm} (h : Rd' jns fars x r) (k : Rd' jns fars x t) : r = t := by
  rcases h with ⟨n, h1, h2⟩ | ⟨h1, h2⟩
  · rcases k with ⟨m, k1, k2⟩ | ⟨k1, _⟩
    · have := h1.eq k1
      subst this
      exact h2.eq k2
    · exact absurd h1 (k1 n)
  · rcases k with ⟨m, k1, _⟩ | ⟨_, k2⟩
    · exact absurd k1 (h1 m)
    · rw [h2, k2]
theorem rd_in {ls : List Nm} {jns : List (Nm × List Nm)} {fars : List Nm} {x : Nm} {r : List Nm} (hok : LJok ls jns) (hf : ∀ f ∈ fars, f ∈ ls) (h : Rd' jns fars x r) : (∀ z ∈ r, z ∈ ls) ∧ r.length ≤ 8 := by
  rcases h with ⟨n, h1, h2⟩ | ⟨_, h2⟩
  · have l := h2.len
    have := af_lt hok hf h1
    have := hok.l8
    refine ⟨fun z hz => ?_, by omega⟩
    obtain ⟨i, hi⟩ := List.getElem?_of_mem hz
    exact af_in hok hf (Rm.gr_ds h2 h1 i z hi).2
  · rw [h2]
    exact ⟨fun z hz => (by cases hz), Nat.zero_le _⟩
theorem dtAll_nms {H : Hp} : ∀ zs : List Nm, DtAll SA H (zs.map nS) ((zs.map SX.S).map PyData.str)
  | [] => .nil
  | z :: zs => .cons (.str _) (dtAll_nms zs)
theorem dt_lD {H : Hp} {a : Addr} {p : List Nm} (e : H a = some (.lst (p.map nS))) (l : p.length ≤ 5000) : Dt SA H (.ref a) (lD p) := .lst trivial e (by rw [List.length_map]; exact l) (dtAll_nms p)
/-! roads put in order by their length, then by their lines -/
open Rm (SP sp_zero sp_succ ne_snoc Ds Wk Gr Lst ds_succ ds_zero ds_none wk_ds)
/-- a road with its length, as data -/
def lenD (p : List Nm) : PyData := PySem.W.Datum.toD ((((p.length : Nat) : Int), p.map SX.S) : Int × List Str)
theorem lenD_eq (p : List Nm) : lenD p = .tuple [.int ((p.length : Nat) : Int), lD p] := rfl
theorem lenD_alike (ps : List (List Nm)) : PySem.W.AllAlike (ps.map lenD) := PySem.W.AllAlike.of fun a b => PySem.W.DatumOrd.alike _ _
theorem lenD_sortable (ps : List (List Nm)) : PySem.W.Sortable (ps.map lenD) := PySem.W.Sortable.tuples fun b => ⟨_, _, rfl⟩
theorem lenD_depth (p : List Nm) : (lenD p).depth ≤ 60 := by
  show max 0 (max (PyData.depthAll ((p.map SX.S).map PyData.str) + 1) 0) + 1 ≤ 60
  rw [depthAll_nms]
  decide
theorem layAll_lenD : ∀ {ps : List (List Nm)}, (∀ p ∈ ps, ∀ z ∈ p, IsNm z) → PyData.canLayAll0 (ps.map lenD) = true
  | [], _ => rfl
  | p :: ps, h => by
    show ((true && (PyData.canLayAll0 ((p.map SX.S).map PyData.str) && true)) && PyData.canLayAll0 (ps.map lenD)) = true
    rw [layAll_nms (h p List.mem_cons_self), layAll_lenD fun y hy => h y (List.mem_cons_of_mem _ hy)]
    rfl
theorem depthAll_lenD : ∀ ps : List (List Nm), PyData.depthAll (ps.map lenD) ≤ 2
  | [] => Nat.zero_le _
  | p :: ps => by
    show max (max 0 (max (PyData.depthAll ((p.map SX.S).map PyData.str) + 1) 0) + 1) (PyData.depthAll (ps.map lenD)) ≤ 2
    rw [depthAll_nms]
    exact Nat.max_le.mpr ⟨by decide, depthAll_lenD ps⟩
theorem shaped_lenD {ps : List (List Nm)} (h : ∀ p ∈ ps, ∀ z ∈ p, IsNm z) : SeqAt.shaped (.list (ps.map lenD)) = true := Bool.and_eq_true_iff.mpr ⟨layAll_lenD h, decide_eq_true (by
  show PyData.depthAll (ps.map lenD) + 1 ≤ 64
  have := depthAll_lenD ps
  omega)⟩
/-- the first of them is none longer, and of its length none less -/
theorem len_first {ps : List (List Nm)} {m : List Nm} {r : List (List Nm)} (e : ps.mergeSort (PySem.W.dataLe false lenD) = m :: r) : m ∈ ps ∧ ∀ p ∈ ps, m.length ≤ p.length ∧ (p.length = m.length → Rm.rLt p m = false) := by
  have tot : PySem.W.TotalLe (PySem.W.dataLe false lenD) := PySem.W.sortLe_total _ _ _
  have pm : (ps.mergeSort (PySem.W.dataLe false lenD)).Perm ps := List.mergeSort_perm ps _
  have pw := List.pairwise_mergeSort (le := PySem.W.dataLe false lenD) tot.trans (fun a b => Bool.or_eq_true_iff.mpr (tot.total a b)) ps
  rw [e] at pm pw
  refine ⟨pm.mem_iff.mp List.mem_cons_self, fun p hp => ?_⟩
  have le : PySem.W.dataLe false lenD m p = true := by
    rcases List.mem_cons.mp (pm.mem_iff.mpr hp) with h | h
    · rw [h]
      exact (tot.total m m).elim id id
    · exact (List.pairwise_cons.mp pw).1 p h
  have le : (!PySem.W.dataLt (lenD p) (lenD m)) = true := le
  have lt : PySem.W.dataLt (lenD p) (lenD m) = false := by
    cases h : PySem.W.dataLt (lenD p) (lenD m) with
    | false => rfl
    | true => rw [h] at le; cases le
  have lt : (if ((p.length : Nat) : Int) = ((m.length : Nat) : Int) then PySem.W.DatumOrd.lt (p.map SX.S) (m.map SX.S) else decide (((p.length : Nat) : Int) < ((m.length : Nat) : Int))) = false := (PySem.W.DatumOrd.lt_eq ((((p.length : Nat) : Int), p.map SX.S) : Int × List Str) (((m.length : Nat) : Int), m.map SX.S)).symm.trans lt
  by_cases c : ((p.length : Nat) : Int) = ((m.length : Nat) : Int)
  · rw [if_pos c, listLt_S] at lt
    exact ⟨by omega, fun _ => lt⟩
  · rw [if_neg c] at lt
    have := of_decide_eq_false lt
    exact ⟨by omega, fun h => absurd (by omega) c⟩
/-- the first of all roads to a goal is the road -/
theorem first_is_rd {ls : List Nm} {jns : List (Nm × List Nm)} {gs : List Nm} {x : Nm} {ps : List (List Nm)} {m : List Nm} {r : List (List Nm)} (hok : LJok ls jns) (hg : ∀ f ∈ gs, f ∈ ls) (e : ps.mergeSort (PySem.W.dataLe false lenD) = m :: r)
    (h1 : ∀ q ∈ ps, Rm.Pth (Adj jns) x q ∧ ∃ z, q.getLast? = some z ∧ z ∈ gs) (h2 : ∀ n rd, AF jns gs n x → Gr (Adj jns) (· ∈ gs) n x rd → rd ∈ ps) : Rd' jns gs x m := by
  obtain ⟨mp, hl⟩ := len_first e
  obtain ⟨hm, z, ez, hz⟩ := h1 m mp
  have wk := Rm.pth_wk hm ez (F := fun f => f ∈ gs) hz
  obtain ⟨n, hn, hd⟩ := wk_ds _ wk
  obtain ⟨rd, hrd⟩ := Rm.gr_ex (ls := ls) (fun n y h => af_in hok hg h) n hd
  have rin := h2 n rd hd hrd
  have rl := hrd.len
  have l1 := (hl rd rin).1
  have ml : m.length = n + 1 := by
    obtain ⟨t, rfl⟩ := Rm.pth_cons hm
    rw [List.length_cons] at hn l1 ⊢
    omega
  have le1 := (hl rd rin).2 (by omega)
  have le2 := Rm.gr_least hrd hd hm ml ez hz
  have := Rm.rLt_anti _ _ le2 le1
  subst this
  exact .inl ⟨n, hd, hrd⟩
/-- a tuple of a road's length and the road -/
abbrev LenAt (H : Hp) (v : V) (p : List Nm) : Prop := ∃ t u, v = .ref t ∧ H t = some (.tup [.int ((p.length : Nat) : Int), .ref u]) ∧ H u = some (.lst (p.map nS))
theorem zip_len {H : Hp} : ∀ {as : List Addr} {ps : List (List Nm)} {ts : List Addr}, Paired (fun a (p : List Nm) => H a = some (.lst (p.map nS))) as ps → Paired (fun t (pa : List Nm × Addr) => H t = some (.tup [.int ((pa.1.length : Nat) : Int), .ref pa.2])) ts (ps.zip as) → Paired (LenAt H) (ts.map V.ref) ps
  | _, _, _, .nil, h => by
    cases h
    exact .nil
  | _, _, _, .cons hu h', h => by
    cases h with
    | cons h1 h2 => exact .cons ⟨_, _, rfl, h1, hu⟩ (zip_len h' h2)
theorem dpAll_lenD {K : PySem.W.Frag} {H H' : Hp} (s : Same H H') : ∀ {ys : List V} {ms : List (List Nm)}, Paired (LenAt H) ys ms → DpAll K H' ys (ms.map lenD)
  | _, _, .nil => .nil
  | _, _, .cons ⟨t, u, e1, e2, e3⟩ h => by
    refine .cons ?_ (dpAll_lenD s h)
    rw [e1, lenD_eq]
    exact .tup (SqT.of (s _ _ e2)) (.cons (.int _) (.cons (dp_lD (s _ _ e3)) .nil))
/-! the least of the shortest roads from a line, as mathematics -/
/-- a road of n steps from x to z than which none of n steps is less -/
structure Bst (jns : List (Nm × List Nm)) (x : Nm) (n : Nat) (z : Nm) (rd : List Nm) : Prop where
  p : Rm.Pth (Adj jns) x rd
  l : rd.length = n + 1
  e : rd.getLast? = some z
  m : ∀ q, Rm.Pth (Adj jns) x q → q.length = n + 1 → q.getLast? = some z → Rm.rLt q rd = false
theorem Bst.eq {jns : List (Nm × List Nm)} {x : Nm} {n : Nat} {z : Nm} {a b : List Nm} (h : Bst jns x n z a) (k : Bst jns x n z b) : a = b :=
  Rm.rLt_anti _ _ (k.m a h.p h.l h.e) (h.m b k.p k.l k.e)
abbrev DX (jns : List (Nm × List Nm)) (x : Nm) (n : Nat) (y : Nm) : Prop := AF jns [x] n y
theorem pth_wkx {jns : List (Nm × List Nm)} {x : Nm} : ∀ (n : Nat) {q : List Nm} {y : Nm}, Rm.Pth (Adj jns) x q → q.length = n + 1 → q.getLast? = some y → Rm.Wk (Adj jns) (· ∈ [x]) n y
  | 0, q, y, h, l, e => by
    obtain ⟨t, rfl⟩ := Rm.pth_cons h
    rw [List.eq_nil_of_length_eq_zero (l := t) (by rw [List.length_cons] at l; omega)] at e
    have : x = y := Option.some.inj e
    rw [← this]
    exact List.mem_singleton.mpr rfl
  | n + 1, q, y, h, l, e => by
    obtain ⟨p, z, rfl⟩ := Rm.ne_snoc (p := q) (fun c => by rw [c] at l; cases l)
    rw [List.getLast?_concat] at e
    have : z = y := Option.some.inj e
    subst this
    rw [List.length_append, List.length_singleton] at l
    have pn : p ≠ [] := fun c => by rw [c] at l; simp at l
    obtain ⟨h1, h2⟩ := Rm.pth_init pn h
    obtain ⟨p', w, rfl⟩ := Rm.ne_snoc pn
    have ew : (p' ++ [w]).getLast? = some w := by simp
    exact ⟨w, (h2 w ew).symm, pth_wkx n h1 (by omega) ew⟩
theorem wkx_pth {jns : List (Nm × List Nm)} {x : Nm} : ∀ (n : Nat) {y : Nm}, Rm.Wk (Adj jns) (· ∈ [x]) n y → ∃ q, Rm.Pth (Adj jns) x q ∧ q.length = n + 1 ∧ q.getLast? = some y
  | 0, y, h => ⟨[x], rfl, rfl, by rw [List.mem_singleton.mp h]; rfl⟩
  | n + 1, y, ⟨w, r, h⟩ => by
    obtain ⟨q, h1, h2, h3⟩ := wkx_pth n h
    refine ⟨q ++ [y], Rm.pth_snoc h1 fun w' e => ?_, by rw [List.length_append, List.length_singleton, h2], by simp⟩
    rw [h3] at e
    have : w = w' := Option.some.inj e
    rw [← this]
    exact r.symm
theorem bst0 {jns : List (Nm × List Nm)} {x : Nm} : Bst jns x 0 x [x] := ⟨rfl, rfl, rfl, fun q h l _ => by
  obtain ⟨t, rfl⟩ := Rm.pth_cons h
  rw [List.eq_nil_of_length_eq_zero (l := t) (by rw [List.length_cons] at l; omega)]
  exact Rm.rLt_self _⟩
theorem rLt_snoc : ∀ {a b : List Nm} (z : Nm), a.length = b.length → Rm.rLt (a ++ [z]) (b ++ [z]) = Rm.rLt a b
  | [], [], z, _ => Rm.rLt_self _
  | x :: a, y :: b, z, h => by
    show (if x = y then Rm.rLt (a ++ [z]) (b ++ [z]) else decide (x < y)) = (if x = y then Rm.rLt a b else decide (x < y))
    rw [rLt_snoc z (by rw [List.length_cons, List.length_cons] at h; omega)]
theorem rLt_pre : ∀ (a : List Nm) (z : Nm), Rm.rLt a (a ++ [z]) = true
  | [], _ => rfl
  | x :: a, z => by
    show (if x = x then Rm.rLt a (a ++ [z]) else decide (x < x)) = true
    rw [if_pos rfl, rLt_pre a z]
/-- the road that is told of z -/
noncomputable def rX (jns : List (Nm × List Nm)) (x z : Nm) : List Nm := open Classical in if h : ∃ rd n, DX jns x n z ∧ Bst jns x n z rd then Classical.choose h else []
theorem rX_of {jns : List (Nm × List Nm)} {x z : Nm} {n : Nat} {rd : List Nm} (h : DX jns x n z) (b : Bst jns x n z rd) : rX jns x z = rd := by
  unfold rX
  have c : ∃ rd n, DX jns x n z ∧ Bst jns x n z rd := ⟨rd, n, h, b⟩
  rw [dif_pos c]
  obtain ⟨m, h1, h2⟩ := Classical.choose_spec c
  have := h1.eq h
  subst this
  exact h2.eq b
/-- one step more -/
theorem bst_step {jns : List (Nm × List Nm)} {x z y : Nm} {n : Nat} {rd : List Nm} (hz : DX jns x (n + 1) z) (ha : Adj jns y z) (hy : DX jns x n y) (hb : Bst jns x n y (rX jns x y)) (er : rd = rX jns x y ++ [z])
    (hall : ∀ y', DX jns x n y' → Bst jns x n y' (rX jns x y')) (hm : ∀ y', DX jns x n y' → Adj jns y' z → Rm.rLt (rX jns x y' ++ [z]) rd = false) : Bst jns x (n + 1) z rd := by
  subst er
  refine ⟨Rm.pth_snoc hb.p fun w e => ?_, by rw [List.length_append, List.length_singleton, hb.l], by simp, fun q hq hl he => ?_⟩
  · rw [hb.e] at e
    have : y = w := Option.some.inj e
    rw [← this]
    exact ha
  · obtain ⟨p, z', rfl⟩ := Rm.ne_snoc (p := q) (fun c => by rw [c] at hl; cases hl)
    rw [List.getLast?_concat] at he
    have : z' = z := Option.some.inj he
    subst this
    rw [List.length_append, List.length_singleton] at hl
    have pn : p ≠ [] := fun c => by rw [c] at hl; simp at hl
    obtain ⟨h1, h2⟩ := Rm.pth_init pn hq
    obtain ⟨p', w, rfl⟩ := Rm.ne_snoc pn
    have ew : (p' ++ [w]).getLast? = some w := by simp
    have aw := h2 w ew
    have dw : DX jns x n w := hz.next aw.symm (pth_wkx n h1 (by omega) ew)
    have bw := hall w dw
    have l1 := bw.m _ h1 (by omega) ew
    rw [← rLt_snoc z' (by rw [bw.l]; omega)] at l1
    exact Rm.rLt_tr _ _ _ l1 (hm w dw aw)
/-- the least of the shortest to any goal is what is told of its last line -/
theorem gr_rX {jns : List (Nm × List Nm)} {gs : List Nm} {x : Nm} {n : Nat} {rd : List Nm} (h : AF jns gs n x) (g : Rm.Gr (Adj jns) (· ∈ gs) n x rd) : ∃ f, f ∈ gs ∧ DX jns x n f ∧ rX jns x f = rd := by
  obtain ⟨f, ef, hf⟩ := g.last
  have hd : DX jns x n f := by
    refine ⟨pth_wkx n (Rm.gr_pth g) g.len ef, fun m hm hw => ?_⟩
    obtain ⟨q, h1, h2, h3⟩ := wkx_pth m hw
    have := Rm.pth_wk (F := fun z => z ∈ gs) h1 h3 hf
    rw [h2] at this
    exact h.2 m hm this
  exact ⟨f, hf, hd, rX_of hd ⟨Rm.gr_pth g, g.len, ef, fun q hq hl he => Rm.gr_least g h hq hl he hf⟩⟩
theorem nodup_mapS {l : List Nm} (h : l.Nodup) : (l.map SX.S).Nodup := by
  rw [List.nodup_iff_pairwise_ne, List.pairwise_map]
  exact (List.nodup_iff_pairwise_ne.mp h).imp fun h e => h (SX.S_inj e)
theorem nodup_mapR {l : List Str} (h : l.Nodup) : (l.map (Sum.inr : Str → Key)).Nodup := by
  rw [List.nodup_iff_pairwise_ne, List.pairwise_map]
  exact (List.nodup_iff_pairwise_ne.mp h).imp fun h e => h (Sum.inr.inj e)
/-! the roads that the law finds, line by line -/
theorem putK_keys {kvs : List (Key × V)} {k : Key} {v w : V} (h : valV kvs k = some w) : (putK kvs k v).map (·.1) = kvs.map (·.1) := by
  unfold putK
  rw [valV_any, h]
  rw [if_pos (show (some w).isSome = true from rfl), List.map_map]
  refine List.map_congr_left fun p _ => ?_
  show (if p.1 = k then (p.1, v) else p).1 = p.1
  split <;> rfl
theorem merge_val : ∀ {more : List (Key × V)} {kvs : List (Key × V)} {k : Key}, (more.map (·.1)).Nodup → valV (mergeK kvs more) k = match valV more k with | some v => some v | none => valV kvs k
  | [], kvs, k, _ => rfl
  | p :: more, kvs, k, nd => by
    rw [List.map_cons, List.nodup_cons] at nd
    show valV (mergeK (putK kvs p.1 p.2) more) k = _
    rw [merge_val nd.2, valV_put]
    by_cases c : p.1 = k
    · rw [valV_pos c]
      have : valV more k = none := by
        cases e : valV more k with
        | none => rfl
        | some w =>
          exfalso
          refine nd.1 ?_
          unfold valV at e
          cases f : more.find? (fun kv => decide (kv.1 = k)) with
          | none => rw [f] at e; cases e
          | some q =>
            have h1 : q.1 = k := by simpa using List.find?_some f
            have h2 := List.mem_of_find?_eq_some f
            rw [c, ← h1]
            exact List.mem_map_of_mem (f := (·.1)) h2
      rw [this]
      exact if_pos c.symm
    · rw [valV_neg c, if_neg (fun z => c z.symm)]
/-- what later tells of the pairs seen so far -/
def LT (jns : List (Nm × List Nm)) (ls : List Nm) (x : Nm) (Fd : Nm → Prop) (Pr : Nm → Nm → Prop) (H : Hp) (E : Addr) (more : List (Key × V)) (ks : List Nm) : Prop :=
  H E = some (.dK more) ∧ more.map (·.1) = (ks.map SX.S).map Sum.inr ∧ ks.Nodup ∧ (∀ z ∈ ks, z ∈ ls) ∧
    ∀ z, (z ∈ ks ∧ ¬ Fd z ∧ ∃ a y, valV more (Sum.inr (SX.S z)) = some (.ref a) ∧ H a = some (.lst ((rX jns x y ++ [z]).map nS)) ∧ Pr y z ∧ ∀ y', Pr y' z → Rm.rLt (rX jns x y' ++ [z]) (rX jns x y ++ [z]) = false) ∨
      (z ∉ ks ∧ valV more (Sum.inr (SX.S z)) = none ∧ ∀ y, Pr y z → Fd z)
section
variable {jns : List (Nm × List Nm)} {ls : List Nm} {x : Nm} {Fd : Nm → Prop} {Pr Pr' : Nm → Nm → Prop} {H H' : Hp} {E : Addr} {more : List (Key × V)} {ks : List Nm} {y0 z0 : Nm}
theorem LT.same (h : LT jns ls x Fd Pr H E more ks) (s : Same H H') : LT jns ls x Fd Pr H' E more ks := by
  obtain ⟨h1, h2, h3, h4, h5⟩ := h
  refine ⟨s _ _ h1, h2, h3, h4, fun z => (h5 z).imp (fun ⟨a1, a2, a, y, b1, b2, b3⟩ => ⟨a1, a2, a, y, b1, s _ _ b2, b3⟩) id⟩
theorem LT.congr (h : LT jns ls x Fd Pr H E more ks) (c : ∀ y z, Pr y z ↔ Pr' y z) : LT jns ls x Fd Pr' H E more ks := by
  have : Pr = Pr' := funext fun y => funext fun z => propext (c y z)
  rw [← this]
  exact h
theorem LT.fd (h : LT jns ls x Fd Pr H E more ks) (f : Fd z0) : LT jns ls x Fd (fun y z => Pr y z ∨ (y = y0 ∧ z = z0)) H E more ks := by
  obtain ⟨h1, h2, h3, h4, h5⟩ := h
  refine ⟨h1, h2, h3, h4, fun z => ?_⟩
  rcases h5 z with ⟨a1, a2, a, y, b1, b2, b3, b4⟩ | ⟨a1, a2, a3⟩
  · refine .inl ⟨a1, a2, a, y, b1, b2, .inl b3, fun y' hy => ?_⟩
    rcases hy with hy | ⟨_, hy⟩
    · exact b4 y' hy
    · rw [hy] at a2
      exact absurd f a2
  · refine .inr ⟨a1, a2, fun y hy => ?_⟩
    rcases hy with hy | ⟨_, hy⟩
    · exact a3 y hy
    · rw [hy]
      exact f
theorem LT.no (h : LT jns ls x Fd Pr H E more ks) {a : Addr} {y : Nm} (iz : z0 ∈ ks) (nf : ¬ Fd z0) (hv : valV more (Sum.inr (SX.S z0)) = some (.ref a)) (ha : H a = some (.lst ((rX jns x y ++ [z0]).map nS))) (py : Pr y z0)
    (hall : ∀ y', Pr y' z0 → Rm.rLt (rX jns x y' ++ [z0]) (rX jns x y ++ [z0]) = false) (hlt : Rm.rLt (rX jns x y0 ++ [z0]) (rX jns x y ++ [z0]) = false) : LT jns ls x Fd (fun y z => Pr y z ∨ (y = y0 ∧ z = z0)) H E more ks := by
  obtain ⟨h1, h2, h3, h4, h5⟩ := h
  refine ⟨h1, h2, h3, h4, fun z => ?_⟩
  by_cases c : z = z0
  · subst c
    refine .inl ⟨iz, nf, a, y, hv, ha, .inl py, fun y' hy => ?_⟩
    rcases hy with hy | ⟨hy, _⟩
    · exact hall y' hy
    · rw [hy]
      exact hlt
  · rcases h5 z with ⟨a1, a2, a, y, b1, b2, b3, b4⟩ | ⟨a1, a2, a3⟩
    · exact .inl ⟨a1, a2, a, y, b1, b2, .inl b3, fun y' hy => hy.elim (b4 y') fun e => absurd e.2 c⟩
    · exact .inr ⟨a1, a2, fun y hy => hy.elim (a3 y) fun e => absurd e.2 c⟩
theorem LT.put (h : LT jns ls x Fd Pr H E more ks) {a : Addr} (nf : ¬ Fd z0) (zl : z0 ∈ ls) (ha : H a = some (.lst ((rX jns x y0 ++ [z0]).map nS))) (hl : ∀ y', Pr y' z0 → Rm.rLt (rX jns x y' ++ [z0]) (rX jns x y0 ++ [z0]) = false) :
    ∃ ks', LT jns ls x Fd (fun y z => Pr y z ∨ (y = y0 ∧ z = z0)) (upd H E (.dK (putK more (Sum.inr (SX.S z0)) (.ref a)))) E (putK more (Sum.inr (SX.S z0)) (.ref a)) ks' := by
  obtain ⟨h1, h2, h3, h4, h5⟩ := h
  have ne : ∀ {b : Addr} {xs : List V}, H b = some (.lst xs) → b ≠ E := fun e z => by rw [z, h1] at e; cases e
  have key : ∀ ks' : List Nm, (∀ z, z ∈ ks' ↔ z ∈ ks ∨ z = z0) → ∀ z, (z ∈ ks' ∧ ¬ Fd z ∧ ∃ b y, valV (putK more (Sum.inr (SX.S z0)) (.ref a)) (Sum.inr (SX.S z)) = some (.ref b) ∧ (upd H E (.dK (putK more (Sum.inr (SX.S z0)) (.ref a)))) b = some (.lst ((rX jns x y ++ [z]).map nS)) ∧ (Pr y z ∨ (y = y0 ∧ z = z0)) ∧ ∀ y', (Pr y' z ∨ (y' = y0 ∧ z = z0)) → Rm.rLt (rX jns x y' ++ [z]) (rX jns x y ++ [z]) = false) ∨
      (z ∉ ks' ∧ valV (putK more (Sum.inr (SX.S z0)) (.ref a)) (Sum.inr (SX.S z)) = none ∧ ∀ y, (Pr y z ∨ (y = y0 ∧ z = z0)) → Fd z) := fun ks' hk z => by
    by_cases c : z = z0
    · subst c
      refine .inl ⟨(hk z).mpr (.inr rfl), nf, a, y0, by rw [valV_put, if_pos rfl], by rw [upd_ne (ne ha)]; exact ha, .inr ⟨rfl, rfl⟩, fun y' hy => ?_⟩
      rcases hy with hy | ⟨hy, _⟩
      · exact hl y' hy
      · rw [hy]
        exact Rm.rLt_self _
    · have cn : ¬ (Sum.inr (SX.S z) : Key) = Sum.inr (SX.S z0) := fun e => c (SX.S_inj (Sum.inr.inj e))
      rcases h5 z with ⟨a1, a2, b, y, b1, b2, b3, b4⟩ | ⟨a1, a2, a3⟩
      · exact .inl ⟨(hk z).mpr (.inl a1), a2, b, y, by rw [valV_put, if_neg cn]; exact b1, by rw [upd_ne (ne b2)]; exact b2, .inl b3, fun y' hy => hy.elim (b4 y') fun e => absurd e.2 c⟩
      · exact .inr ⟨fun hz => ((hk z).mp hz).elim a1 c, by rw [valV_put, if_neg cn]; exact a2, fun y hy => hy.elim (a3 y) fun e => absurd e.2 c⟩
  rcases h5 z0 with ⟨a1, a2, b, y, b1, b2, b3, b4⟩ | ⟨a1, a2, a3⟩
  · exact ⟨ks, upd_same, by rw [putK_keys b1]; exact h2, h3, h4, key ks fun z => ⟨.inl, fun hz => hz.elim id fun e => e ▸ a1⟩⟩
  · refine ⟨ks ++ [z0], upd_same, by rw [putK_new _ a2, List.map_append, h2, List.map_append, List.map_append]; rfl, List.nodup_append.mpr ⟨h3, by simp, fun u hu v hv e => ?_⟩, fun z hz => ?_, key _ fun z => by rw [List.mem_append, List.mem_singleton]⟩
    · rw [List.mem_singleton.mp hv] at e
      exact a1 (e ▸ hu)
    · rcases List.mem_append.mp hz with c | c
      · exact h4 z c
      · rw [List.mem_singleton.mp c]
        exact zl
theorem LT.level {m : Nat} (hFd : ∀ z, Fd z ↔ ∃ n, n ≤ m ∧ DX jns x n z) (hall : ∀ y, DX jns x m y → Bst jns x m y (rX jns x y)) (h : LT jns ls x Fd (fun y z => DX jns x m y ∧ Adj jns y z) H E more ks) :
    ∀ z, (z ∈ ks ∧ DX jns x (m + 1) z ∧ Bst jns x (m + 1) z (rX jns x z) ∧ ∃ a, valV more (Sum.inr (SX.S z)) = some (.ref a) ∧ H a = some (.lst ((rX jns x z).map nS))) ∨ (z ∉ ks ∧ ¬ DX jns x (m + 1) z ∧ valV more (Sum.inr (SX.S z)) = none) := by
  obtain ⟨h1, h2, h3, h4, h5⟩ := h
  intro z
  rcases h5 z with ⟨a1, a2, a, y, b1, b2, ⟨b3, b5⟩, b4⟩ | ⟨a1, a2, a3⟩
  · have hz : DX jns x (m + 1) z := ds_succ.mpr ⟨⟨y, b5.symm, b3⟩, fun n hn hd => a2 ((hFd z).mpr ⟨n, hn, hd⟩)⟩
    have hb := bst_step hz b5 b3 (hall y b3) rfl hall fun y' d' a' => b4 y' ⟨d', a'⟩
    have er := rX_of hz hb
    exact .inl ⟨a1, hz, by rw [er]; exact hb, a, b1, by rw [er]; exact b2⟩
  · refine .inr ⟨a1, fun hz => ?_, a2⟩
    obtain ⟨⟨y, b5, b3⟩, hn⟩ := ds_succ.mp hz
    obtain ⟨n, hn', hd⟩ := (hFd z).mp (a3 y ⟨b3, b5.symm⟩)
    exact hn n hn' hd
end
/-- the roads of the lines of m steps at most -/
def FN (jns : List (Nm × List Nm)) (x : Nm) (m : Nat) (H : Hp) (kvs : List (Key × V)) : Prop := ∀ z, (∃ n a, n ≤ m ∧ DX jns x n z ∧ valV kvs (Sum.inr (SX.S z)) = some (.ref a) ∧ H a = some (.lst ((rX jns x z).map nS)) ∧ Bst jns x n z (rX jns x z)) ∨ ((∀ n, n ≤ m → ¬ DX jns x n z) ∧ valV kvs (Sum.inr (SX.S z)) = none)
theorem FN.same {jns : List (Nm × List Nm)} {x : Nm} {m : Nat} {H H' : Hp} {kvs : List (Key × V)} (h : FN jns x m H kvs) (s : Same H H') : FN jns x m H' kvs := fun z => (h z).imp (fun ⟨n, a, h1, h2, h3, h4, h5⟩ => ⟨n, a, h1, h2, h3, s _ _ h4, h5⟩) id
/-- the roads of all lines that are reached -/
def RdsA (jns : List (Nm × List Nm)) (x : Nm) (H : Hp) (D : Addr) : Prop := ∃ kvs, H D = some (.dK kvs) ∧ ∀ z, (∃ n a, DX jns x n z ∧ valV kvs (Sum.inr (SX.S z)) = some (.ref a) ∧ H a = some (.lst ((rX jns x z).map nS)) ∧ Bst jns x n z (rX jns x z)) ∨ ((∀ n, ¬ DX jns x n z) ∧ valV kvs (Sum.inr (SX.S z)) = none)
theorem LT.fn {jns : List (Nm × List Nm)} {ls : List Nm} {x : Nm} {Fd : Nm → Prop} {H : Hp} {D E : Addr} {kvs more : List (Key × V)} {ks : List Nm} {m : Nat} (hFd : ∀ z, Fd z ↔ ∃ n, n ≤ m ∧ DX jns x n z) (hf : FN jns x m H kvs)
    (h : LT jns ls x Fd (fun y z => DX jns x m y ∧ Adj jns y z) H E more ks) (eD : H D = some (.dK kvs)) (o : HO) : FN jns x (m + 1) (upd H D o) (mergeK kvs more) ∧ ∀ z, z ∈ ks ↔ DX jns x (m + 1) z := by
  have hall : ∀ y, DX jns x m y → Bst jns x m y (rX jns x y) := fun y hy => by
    rcases hf y with ⟨n, a, _, h2, _, _, h5⟩ | ⟨h1, _⟩
    · have := h2.eq hy
      subst this
      exact h5
    · exact absurd hy (h1 m (Nat.le_refl _))
  have lv := h.level hFd hall
  have nd : (more.map (·.1)).Nodup := by
    rw [h.2.1]
    have nS' : (ks.map SX.S).Nodup := nodup_mapS h.2.2.1
    exact nodup_mapR nS'
  have ne : ∀ {b : Addr} {xs : List V}, H b = some (.lst xs) → b ≠ D := fun e z => by rw [z, eD] at e; cases e
  refine ⟨fun z => ?_, fun z => ?_⟩
  · rw [merge_val nd]
    rcases lv z with ⟨_, h1, h2, a, h3, h4⟩ | ⟨_, h1, h2⟩
    · rw [h3]
      exact .inl ⟨m + 1, a, Nat.le_refl _, h1, rfl, by rw [upd_ne (ne h4)]; exact h4, h2⟩
    · rw [h2]
      rcases hf z with ⟨n, a, k1, k2, k3, k4, k5⟩ | ⟨k1, k2⟩
      · exact .inl ⟨n, a, by omega, k2, k3, by rw [upd_ne (ne k4)]; exact k4, k5⟩
      · refine .inr ⟨fun n hn hd => ?_, k2⟩
        by_cases c : n = m + 1
        · rw [c] at hd
          exact h1 hd
        · exact k1 n (by omega) hd
  · rcases lv z with ⟨h0, h1, _⟩ | ⟨h0, h1, _⟩
    · exact ⟨fun _ => h1, fun _ => h0⟩
    · exact ⟨fun h => absurd h h0, fun h => absurd h h1⟩
end Th
namespace Th
open PySem PySem.Spec PyProof.Rows L2
open Rm (ds_zero ds_none)
section
variable {P : Program} {w : World} {K : PySem.W.Frag} {mg : Str → Option Value} {base : Heap} {k : Nat}
def sp_l_roads (K : PySem.W.Frag) : Sp := fun vs H Q _ => ∃ (r : Addr) (x : Nm) (ls : List Nm) (jns : List (Nm × List Nm)), vs = [.ref r, nS x] ∧ LJ K H r ls jns ∧ LJok ls jns ∧ (∀ z ∈ ls, IsNm z) ∧ x ∈ ls ∧
  ∀ H' D, Same H H' → H D = none → RdsA jns x H' D → Q (.ref D) H'
set_option maxHeartbeats 16000000 in
theorem ok_l_roads (T : Defs K mg) : FnOk P w K mg base CX0 (k + 1) T.a_l_roads T.d_l_roads ["_law_net_here", "_law_line"] (sp_l_roads K) := by
  refine T.F_l_roads.ok sc_l_roads (fun vs H Q E h => ?_) (fun cdv A outer s H vs Q E hr h => ?_)
  · obtain ⟨r, x, ls, jns, rfl, _⟩ := h
    rfl
  · obtain ⟨r, x, ls, jns, rfl, hnet, hok, lnm, xin, q⟩ := h
    refine ⟨_, PSs.nox
(pss_cons (ps_set (i := 2) sc_l_roads.nd rfl (.inl rfl) (pe_disp (pps_cons (pv 1) (pe_lst (pa_cons (pv 1) pa_nil)) pps_nil) rfl rfl (by simp) (by decide)))
    (pss_cons (ps_set (i := 3) sc_l_roads.nd rfl (.inl rfl) (pe_lst (pa_cons (pv 1) pa_nil)))
    (pss_cons (ps_while PassesOwn.never (pt_cmpR (r := rNeD K) (op_neD hr.units) (pv 3) (pe_lst pa_nil) (nomark _))
      (pss_cons (ps_set (i := 4) sc_l_roads.nd rfl (.inl rfl) (pe_dnewK))
      (pss_cons (ps_for PassesOwn.never rfl (pi_list (pv 3)) (pg_name (i := 5) sc_l_roads.nd rfl (.inl rfl))
        (pss_one (ps_for PassesOwn.never rfl (pi_tup (pe_ix (r := rIxT K) ix_tup (pv 0) (pe_int) (fun _ _ => rfl))) (pg_tup rfl (pgs_cons (pg_name (i := 6) sc_l_roads.nd rfl (.inl rfl)) (pgs_cons (pg_name (i := 7) sc_l_roads.nd rfl (.inl rfl)) pgs_nil)))
          (pss_one (ps_for PassesOwn.never rfl (pi_tup (pe_ifExp (pt_cmpR (r := rIn K false) op_in_seq (pv 5) (pv 7) (by rfl)) (pv 7) (pe_tup pa_nil))) (pg_name (i := 8) sc_l_roads.nd rfl (.inl rfl))
            (pss_cons (ps_set (i := 9) sc_l_roads.nd rfl (.inl rfl) (pe_op op_cat (pe_dget (hu_of hr) (pv 2) (pv 5) (fun _ _ => rfl)) (pe_lst (pa_cons (pv 8) pa_nil))))
            (pss_one (ps_if (PW.pt (pw_and (pt_cmp (pc_dnotin (hu_of hr) (pv 8) (pv 2))) (pw_and1 (pt_cmpR (Du.op_ltG (List PySem.Str) hr.units) (pv 9) (pe_dget2 (hu_of hr) (pv 4) (pv 8) (pe_op op_cat (pv 9) (pe_lst (pa_cons (pe_str) pa_nil))) ⟨rfl, rfl, rfl, rfl⟩) (nomark _)))))
              (pss_one (ps_dput (hu_of hr) (pv 4) (pv 8) (pv 9) (by rfl)))
              pss_nil))))))))
      (pss_cons (ps_expr (pe_bm PySem.F.plainAttrs_dict PySem.F.slot_dict_update PySem.F.type_dict_update Du.mt_dupd (pv 2) (pa_cons (pv 4) pa_nil)))
      (pss_one (ps_set (i := 3) sc_l_roads.nd rfl (.inl rfl) (pe_callB (call_sortedD rfl) (by rfl) T.z_sorted (by decide +kernel) (pa_cons (pv 4) pa_nil))))))))
    (pss_one (ps_ret (pv 2))))))
      , ?_⟩
    have l8 := hok.l8
    obtain ⟨na, c, nb, nd, ja, er, ea, ec, hJ⟩ := id hnet
    have jl := paired_len hJ
    have xl : ∀ f ∈ [x], f ∈ ls := fun f hf => by rw [List.mem_singleton.mp hf]; exact xin
    refine fun D nD => ⟨nS x, rfl, nS x, rfl, by show 1 ≤ sizeLine; decide, fun rx nrx => ?_⟩
    have eD1 : (upd H D (.dK [])) D = some (.dK []) := upd_same
    have Drx : D ≠ rx := ne_of_none eD1 nrx
    refine ⟨by rw [upd_ne Drx]; exact eD1, [(Sum.inr (SX.S x), .ref rx)], rfl, by show 1 ≤ 15; decide, ?_⟩
    generalize hH0 : upd (upd (upd H D (.dK [])) rx (.lst [nS x])) D (.dK (mergeK [] [(Sum.inr (SX.S x), .ref rx)])) = H0
    have s0 : Same H H0 := by
      rw [← hH0]
      exact same_set ((same_upd nD).trans (same_upd nrx)) nD
    have eD0 : H0 D = some (.dK [(Sum.inr (SX.S x), .ref rx)]) := by rw [← hH0]; exact upd_same
    have erx0 : H0 rx = some (.lst [nS x]) := by rw [← hH0, upd_ne Drx.symm]; exact upd_same
    refine ⟨nS x, rfl, by show 1 ≤ sizeLine; decide, fun lt nlt => ?_⟩
    have sl := same_upd (o := .lst [nS x]) nlt
    have hx0 : DX jns x 0 x := ds_zero.mpr (List.mem_singleton.mpr rfl)
    have ex0 : rX jns x x = [x] := rX_of hx0 bst0
    refine ⟨fun m' σ H3 => ∃ (m : Nat) (lt : Addr) (es : List Nm) (kvs : List (Key × V)) (ys : List (Option V)), m' = 10 - m ∧ ys.length = 6 ∧ σ = some (.ref r) :: some (nS x) :: some (.ref D) :: some (.ref lt) :: ys ∧ Same H H3 ∧ H3 lt = some (.lst (es.map nS)) ∧ es.Nodup ∧ (∀ y, y ∈ es ↔ DX jns x m y) ∧ H3 D = some (.dK kvs) ∧ kvs.length ≤ 8 * m + 1 ∧ FN jns x m H3 kvs,
      ⟨_, 0, lt, [x], _, _, rfl, rfl, rfl, s0.trans sl, upd_same, by simp, fun y => ds_zero.symm, sl _ _ eD0, Nat.le_refl _, fun z => ?_⟩, fun m' σ H3 hW => ?_⟩
    · by_cases cz : z = x
      · subst cz
        exact .inl ⟨0, rx, Nat.le_refl _, hx0, valV_pos rfl, by rw [ex0]; exact sl _ _ erx0, by rw [ex0]; exact bst0⟩
      · refine .inr ⟨fun n hn hd => ?_, ?_⟩
        · have : n = 0 := by omega
          subst this
          exact cz (List.mem_singleton.mp (ds_zero.mp hd))
        · rw [valV_neg (fun e => cz (SX.S_inj (Sum.inr.inj e)).symm)]
          rfl
    obtain ⟨m, lt, es, kvs, ys, rfl, hys, rfl, s3, elt, end_, hE, eD, kl, hf⟩ := hW
    have esl : ∀ z ∈ es, z ∈ ls := fun z hz => af_in hok xl ((hE z).mp hz)
    refine ⟨.ref lt, rfl, Nat.zero_le _, fun e ne => ?_⟩
    have se := same_upd (o := .lst []) ne
    have shU : SeqAt.shaped (lD es) = true := Bool.and_eq_true_iff.mpr ⟨layAll_nms fun z hz => lnm z (esl z hz), decide_eq_true (by
      show PyData.depthAll ((es.map SX.S).map PyData.str) + 1 ≤ 64
      rw [depthAll_nms]
      decide)⟩
    refine ⟨_, _, (dp_lD (p := es) (se _ _ elt)), (dp_lD (p := []) upd_same), shU, rfl, _, rfl, ite2 (fun cc => ?_) (fun cc => ?_)⟩
    · have ne0 : es ≠ [] := fun e => by rw [e] at cc; cases cc
      have s4 := s3.trans se
      have elt4 := se _ _ elt
      have eD4 := se _ _ eD
      have hf4 := hf.same se
      generalize upd H3 e (.lst []) = H4 at s4 elt4 eD4 hf4 ⊢
      have m8 : m < 8 := by
        obtain ⟨y, hy⟩ := List.exists_mem_of_ne_nil _ ne0
        have := af_lt hok xl ((hE y).mp hy)
        omega
      refine ⟨_, fun σ' H' h => h, ?_⟩
      refine fun E nE => ⟨.ref lt, rfl, lt, rfl, ⟨_, SqL.of (same_upd nE _ _ elt4)⟩, ?_⟩
      have hFd : ∀ z, (∃ v, valV kvs (Sum.inr (SX.S z)) = some v) ↔ ∃ n, n ≤ m ∧ DX jns x n z := fun z => by
        rcases hf4 z with ⟨n, a, h1, h2, h3, _⟩ | ⟨h1, h2⟩
        · exact ⟨fun _ => ⟨n, h1, h2⟩, fun _ => ⟨_, h3⟩⟩
        · exact ⟨fun ⟨v, h⟩ => (by rw [h2] at h; cases h), fun ⟨n, hn, hd⟩ => absurd hd (h1 n hn)⟩
      have hroad : ∀ y ∈ es, ∃ a, valV kvs (Sum.inr (SX.S y)) = some (.ref a) ∧ H4 a = some (.lst ((rX jns x y).map nS)) ∧ (rX jns x y).length ≤ 9 := fun y hy => by
        rcases hf4 y with ⟨n, a, h1, _, h3, h4, h5⟩ | ⟨h1, _⟩
        · exact ⟨a, h3, h4, by rw [h5.l]; omega⟩
        · exact absurd ((hE y).mp hy) (h1 m (Nat.le_refl _))
      have lt0 : LT jns ls x (fun z => ∃ v, valV kvs (Sum.inr (SX.S z)) = some v) (fun y z => y ∈ es.take 0 ∧ Adj jns y z) (upd H4 E (.dK [])) E [] [] := ⟨upd_same, rfl, .nil, fun z hz => (by cases hz), fun z => .inr ⟨by simp, rfl, fun y hy => (by cases hy.1)⟩⟩
      refine for_it (walk_list (xs := es.map nS)) (fun i σ Hx => ∃ (ys : List (Option V)) (more : List (Key × V)) (ks : List Nm), ys.length = 5 ∧ σ = some (.ref r) :: some (nS x) :: some (.ref D) :: some (.ref lt) :: some (.ref E) :: ys ∧ Same H4 Hx ∧ LT jns ls x (fun z => ∃ v, valV kvs (Sum.inr (SX.S z)) = some v) (fun y z => y ∈ es.take i ∧ Adj jns y z) Hx E more ks)
        ?_ (fun i σ Hx _ hp => ?_) (fun i v σ Hx₀ Hx hi hp yy => ?_) (fun σ Hx hp => ?_)
      · match ys, hys with
        | [y4, y5, y6, y7, y8, y9], _ => exact ⟨_, [], [], rfl, rfl, same_upd nE, lt0⟩
      · obtain ⟨_, _, _, _, _, sx, _⟩ := hp
        exact SqL.of (sx _ _ elt4)
      · obtain ⟨rfl, ex⟩ := yy
        obtain ⟨ys, more, ks, hys, rfl, sx, hl⟩ := hp
        obtain ⟨y, ey, rfl⟩ := at_nm ex
        have yin : y ∈ es := List.mem_of_getElem? ey
        obtain ⟨ra, hra, era, rl9⟩ := hroad y yin
        have tk1 : es.take (i + 1) = es.take i ++ [y] := by rw [List.take_add_one, ey]; rfl
        have sH := s4.trans sx
        match ys, hys with
        | [y5, y6, y7, y8, y9], _ =>
        refine ⟨.ref r, rfl, r, [.ref na, nb, .ref c, nd], 2, .ref c, rfl, rfl, sqs sH er, atI_nat (j := 2) rfl, c, rfl, ⟨_, sqs sH ec⟩, ?_⟩
        refine for_it (walk_tup (xs := ja.map V.ref)) (fun j σ Hy => ∃ (ys : List (Option V)) (more : List (Key × V)) (ks : List Nm), ys.length = 4 ∧ σ = some (.ref r) :: some (nS x) :: some (.ref D) :: some (.ref lt) :: some (.ref E) :: some (nS y) :: ys ∧ Same H4 Hy ∧ LT jns ls x (fun z => ∃ v, valV kvs (Sum.inr (SX.S z)) = some v) (fun y' z => (y' ∈ es.take i ∧ Adj jns y' z) ∨ (y' = y ∧ Adj (jns.take j) y z)) Hy E more ks)
          ⟨_, more, ks, rfl, rfl, sx, hl.congr fun y' z => ⟨.inl, fun h => h.elim id fun ⟨_, jn, hjn, _⟩ => (by cases hjn)⟩⟩ (fun j σ Hy _ hp => ?_) (fun j v σ Hy₀ Hy hj hp yy => ?_) (fun σ Hy hp => ?_)
        · obtain ⟨_, _, _, _, _, sy, _⟩ := hp
          exact sqs (s4.trans sy) ec
        · obtain ⟨rfl, ex⟩ := yy
          obtain ⟨ys, more, ks, hys, rfl, sy, hl⟩ := hp
          obtain ⟨u, eu, rfl⟩ := at_ref ex
          obtain ⟨jn, ejn, jt, hu, hjt⟩ := paired_get hJ eu
          have jin : jn ∈ jns := List.mem_of_getElem? ejn
          have tk2 : jns.take (j + 1) = jns.take j ++ [jn] := by rw [List.take_add_one, ejn]; rfl
          have sH := s4.trans sy
          match ys, hys with
          | [y6, y7, y8, y9], _ =>
          refine ⟨u, _, rfl, sqs sH hu, rfl, _, _, rfl, _, [], rfl, rfl, ?_⟩
          refine ⟨nS y, rfl, .ref jt, rfl, jt, _, rfl, .inr (sqs sH hjt), rfl, flat_nms _, _, rfl, ite2 (fun cj => ?_) (fun cj => ?_)⟩
          · have cj : y ∈ jn.2 := by
              rw [in_nms] at cj
              exact of_decide_eq_true cj
            refine ⟨.ref jt, rfl, jt, rfl, ⟨_, sqs sH hjt⟩, ?_⟩
            refine for_it (walk_tup (xs := jn.2.map nS)) (fun k σ Hz => ∃ (y8 y9 : Option V) (more : List (Key × V)) (ks : List Nm), σ = [some (.ref r), some (nS x), some (.ref D), some (.ref lt), some (.ref E), some (nS y), some (nS jn.1), some (.ref jt), y8, y9] ∧ Same H4 Hz ∧ LT jns ls x (fun z => ∃ v, valV kvs (Sum.inr (SX.S z)) = some v) (fun y' z => ((y' ∈ es.take i ∧ Adj jns y' z) ∨ (y' = y ∧ Adj (jns.take j) y z)) ∨ (y' = y ∧ z ∈ jn.2.take k)) Hz E more ks)
              ⟨_, _, more, ks, rfl, sy, hl.congr fun y' z => ⟨.inl, fun h => h.elim id fun ⟨_, h⟩ => (by cases h)⟩⟩ (fun k σ Hz _ hp => ?_) (fun k v σ Hz₀ Hz hk hp yy => ?_) (fun σ Hz hp => ?_)
            · obtain ⟨_, _, _, _, _, sz, _⟩ := hp
              exact sqs (s4.trans sz) hjt
            · obtain ⟨rfl, ex⟩ := yy
              obtain ⟨y8, y9, more, ks, rfl, sz, hl⟩ := hp
              obtain ⟨z, ez, rfl⟩ := at_nm ex
              have zl : z ∈ ls := hok.sub jn jin z (List.mem_of_getElem? ez)
              have tk3 : jn.2.take (k + 1) = jn.2.take k ++ [z] := by rw [List.take_add_one, ez]; rfl
              have cg : ∀ y' z', ((((y' ∈ es.take i ∧ Adj jns y' z') ∨ (y' = y ∧ Adj (jns.take j) y z')) ∨ (y' = y ∧ z' ∈ jn.2.take k)) ∨ (y' = y ∧ z' = z)) ↔ ((y' ∈ es.take i ∧ Adj jns y' z') ∨ (y' = y ∧ Adj (jns.take j) y z')) ∨ (y' = y ∧ z' ∈ jn.2.take (k + 1)) := fun y' z' => by
                rw [tk3, List.mem_append, List.mem_singleton]
                constructor
                · rintro ((h | h) | h)
                  · exact .inl h
                  · exact .inr ⟨h.1, .inl h.2⟩
                  · exact .inr ⟨h.1, .inr h.2⟩
                · rintro (h | ⟨h, h2 | h2⟩)
                  · exact .inl (.inl h)
                  · exact .inl (.inr ⟨h, h2⟩)
                  · exact .inr ⟨h, h2⟩
              have gr : ∀ {H' : Hp}, Same H4 H' → DGet H' D (nS y) (some (.ref ra)) := fun s => by
                rw [← hra]
                exact DGet.k (k := Sum.inr (SX.S y)) (s _ _ eD4)
              refine ⟨.ref D, rfl, nS y, rfl, D, _, rfl, gr sz, nS z, rfl, by show 1 ≤ sizeLine; decide, fun o1 no1 => ?_⟩
              have so1 := same_upd (o := .lst [nS z]) no1
              refine ⟨ra, o1, _, _, rfl, rfl, so1 _ _ (sz _ _ era), upd_same, by rw [List.length_map]; exact Nat.le_of_lt (small5000 (by show _ + 1 ≤ 5000; omega)), fun rd nrd => ?_⟩
              have srd := same_upd (o := .lst ((rX jns x y).map nS ++ [nS z])) nrd
              have erd : (upd (upd Hz o1 (.lst [nS z])) rd (.lst ((rX jns x y).map nS ++ [nS z]))) rd = some (.lst ((rX jns x y ++ [z]).map nS)) := by rw [upd_same, List.map_append]; rfl
              have s5 := sz.trans (so1.trans srd)
              have hl5 := hl.same (so1.trans srd)
              generalize upd (upd Hz o1 (.lst [nS z])) rd (.lst ((rX jns x y).map nS ++ [nS z])) = H5 at erd s5 hl5 ⊢
              refine ⟨nS z, rfl, .ref D, rfl, D, _, rfl, DGet.k (k := Sum.inr (SX.S z)) (s5 _ _ eD4), _, rfl, ite2 (fun cf => ?_) (fun cf => ?_)⟩
              · have cf : valV kvs (Sum.inr (SX.S z)) = none := by
                  cases h : valV kvs (Sum.inr (SX.S z)) with
                  | none => rfl
                  | some o => rw [h] at cf; cases cf
                have nf : ¬ ∃ v, valV kvs (Sum.inr (SX.S z)) = some v := fun ⟨v, h⟩ => by rw [cf] at h; cases h
                have el5 := hl5.1
                refine ⟨.ref rd, rfl, .ref E, rfl, E, rfl, .inl ⟨_, .inl el5⟩, nS z, rfl, .ref rd, rfl, by show 1 ≤ sizeLine; decide, fun o2 no2 => ?_⟩
                have so2 := same_upd (o := .lst [V.str ("" : Str)]) no2
                refine ⟨rd, o2, _, _, rfl, rfl, so2 _ _ erd, upd_same, by rw [List.length_map, List.length_append]; exact Nat.le_of_lt (small5000 (by show _ + 1 + 1 ≤ 5000; omega)), fun dl ndl => ?_⟩
                have sdl := same_upd (o := .lst ((rX jns x y ++ [z]).map nS ++ [V.str ("" : Str)])) ndl
                have edl : (upd (upd H5 o2 (.lst [V.str ("" : Str)])) dl (.lst ((rX jns x y ++ [z]).map nS ++ [V.str ("" : Str)]))) dl = some (.lst ((rX jns x y ++ [z] ++ [[]]).map nS)) := by rw [upd_same, List.map_append (l₁ := rX jns x y ++ [z])]; rfl
                have s6 := so2.trans sdl
                have hl6 := hl5.same s6
                have erd6 := s6 _ _ erd
                have s46 := s5.trans s6
                generalize upd (upd H5 o2 (.lst [V.str ("" : Str)])) dl (.lst ((rX jns x y ++ [z]).map nS ++ [V.str ("" : Str)])) = H6 at edl s46 hl6 erd6 ⊢
                have el6 := hl6.1
                have kl6 : more.length ≤ 8 := by
                  have := congrArg List.length hl6.2.1
                  rw [List.length_map, List.length_map, List.length_map] at this
                  have := nd_len hl6.2.2.1 hl6.2.2.2.1
                  omega
                refine ⟨_, DGet.k (k := Sum.inr (SX.S z)) el6, ?_⟩
                have putit : (∀ y', (((y' ∈ es.take i ∧ Adj jns y' z) ∨ (y' = y ∧ Adj (jns.take j) y z)) ∨ (y' = y ∧ z ∈ jn.2.take k)) → Rm.rLt (rX jns x y' ++ [z]) (rX jns x y ++ [z]) = false) → ∃ a Hp', V.ref E = .ref a ∧ DPut H6 a (nS z) (.ref rd) Hp' ∧ ∃ (y8' y9' : Option V) (more : List (Key × V)) (ks : List Nm), [some (.ref r), some (nS x), some (.ref D), some (.ref lt), some (.ref E), some (nS y), some (nS jn.1), some (.ref jt), some (nS z), some (.ref rd)] = [some (.ref r), some (nS x), some (.ref D), some (.ref lt), some (.ref E), some (nS y), some (nS jn.1), some (.ref jt), y8', y9'] ∧ Same H4 Hp' ∧ LT jns ls x (fun z => ∃ v, valV kvs (Sum.inr (SX.S z)) = some v) (fun y' z => ((y' ∈ es.take i ∧ Adj jns y' z) ∨ (y' = y ∧ Adj (jns.take j) y z)) ∨ (y' = y ∧ z ∈ jn.2.take (k + 1))) Hp' E more ks := fun hall => by
                  obtain ⟨ks', hl'⟩ := hl6.put nf zl erd6 hall
                  exact ⟨E, _, rfl, DPut.k (k := Sum.inr (SX.S z)) el6 (small5000 (by omega)), _, _, _, ks', rfl, same_set s46 nE, hl'.congr cg⟩
                rcases hl6.2.2.2.2 z with ⟨a1, a2, b, y1, b1, b2, b3, b4⟩ | ⟨a1, a2, a3⟩
                · rw [b1]
                  refine ⟨(rX jns x y ++ [z]).map SX.S, (rX jns x y1 ++ [z]).map SX.S, dp_lD erd6, dp_lD b2, (fun e => by cases e), by show 1 ≤ 60; decide, _, rfl, ?_⟩
                  rw [listLt_S]
                  refine ite2 (fun cl => ?_) (fun cl => ?_)
                  · refine ⟨.ref rd, rfl, .ref E, rfl, nS z, rfl, putit fun y' hy' => ?_⟩
                    exact Rm.rLt_tr _ _ _ (b4 y' hy') (Rm.rLt_asy _ _ cl)
                  · have cl : Rm.rLt (rX jns x y ++ [z]) (rX jns x y1 ++ [z]) = false := by simpa using cl
                    exact ⟨_, _, more, ks, rfl, s46, (hl6.no a1 nf b1 b2 b3 b4 cl).congr cg⟩
                · rw [a2]
                  refine ⟨(rX jns x y ++ [z]).map SX.S, (rX jns x y ++ [z] ++ [[]]).map SX.S, dp_lD erd6, dp_lD edl, (fun e => by cases e), by show 1 ≤ 60; decide, _, rfl, ?_⟩
                  rw [listLt_S, rLt_pre]
                  refine iteT ⟨.ref rd, rfl, .ref E, rfl, nS z, rfl, putit fun y' hy' => ?_⟩
                  exact absurd (a3 y' hy') nf
              · have f : ∃ v, valV kvs (Sum.inr (SX.S z)) = some v := by
                  cases h : valV kvs (Sum.inr (SX.S z)) with
                  | none => rw [h] at cf; exact absurd rfl cf
                  | some o => exact ⟨o, rfl⟩
                exact ⟨_, _, more, ks, rfl, s5, (hl5.fd (y0 := y) f).congr cg⟩
            · obtain ⟨y8, y9, more, ks, rfl, sz, hl⟩ := hp
              refine ⟨_, more, ks, rfl, rfl, sz, hl.congr fun y' z => ?_⟩
              rw [tk2, adj_snoc, List.length_map, List.take_length]
              constructor
              · rintro ((h | h) | h)
                · exact .inl h
                · exact .inr ⟨h.1, .inl h.2⟩
                · exact .inr ⟨h.1, .inr ⟨cj, h.2⟩⟩
              · rintro (h | ⟨h, h2 | h2⟩)
                · exact .inl (.inl h)
                · exact .inl (.inr ⟨h, h2⟩)
                · exact .inr ⟨h, h2.2⟩
          · have cj : ¬ y ∈ jn.2 := fun z => by
              rw [in_nms, decide_eq_true z] at cj
              exact cj rfl
            refine ⟨Nat.zero_le _, fun e0 ne0 => ⟨e0, rfl, ⟨[], SqT.of upd_same⟩, ?_⟩⟩
            refine for_it (walk_tup (xs := [])) (fun k σ Hz => ∃ (y8 y9 : Option V), σ = [some (.ref r), some (nS x), some (.ref D), some (.ref lt), some (.ref E), some (nS y), some (nS jn.1), some (.ref jt), y8, y9] ∧ Same H4 Hz ∧ Hz e0 = some (.tup []) ∧ LT jns ls x (fun z => ∃ v, valV kvs (Sum.inr (SX.S z)) = some v) (fun y' z => ((y' ∈ es.take i ∧ Adj jns y' z) ∨ (y' = y ∧ Adj (jns.take j) y z))) Hz E more ks)
              ⟨_, _, rfl, sy.trans (same_upd ne0), upd_same, hl.same (same_upd ne0)⟩ (fun k σ Hz _ hp => ?_) (fun k v σ Hz₀ Hz hk hp yy => ?_) (fun σ Hz hp => ?_)
            · obtain ⟨_, _, _, _, h, _⟩ := hp
              exact SqT.of h
            · exact absurd hk (Nat.not_lt_zero _)
            · obtain ⟨y8, y9, rfl, sz, _, hl⟩ := hp
              refine ⟨_, more, ks, rfl, rfl, sz, hl.congr fun y' z => ?_⟩
              rw [tk2, adj_snoc]
              constructor
              · rintro (h | h)
                · exact .inl h
                · exact .inr ⟨h.1, .inl h.2⟩
              · rintro (h | ⟨h, h2 | h2⟩)
                · exact .inl h
                · exact .inr ⟨h, h2⟩
                · exact absurd h2.1 cj
        · obtain ⟨ys, more, ks, hys, rfl, sy, hl⟩ := hp
          refine ⟨_, more, ks, by rw [List.length_cons, hys], rfl, sy, hl.congr fun y' z => ?_⟩
          rw [tk1, List.length_map, jl, List.take_length, List.mem_append, List.mem_singleton]
          constructor
          · rintro (h | ⟨h, h2⟩)
            · exact ⟨.inl h.1, h.2⟩
            · exact ⟨.inr h, by rw [h]; exact h2⟩
          · rintro ⟨h | h, h2⟩
            · exact .inl ⟨h, h2⟩
            · exact .inr ⟨h, by rw [h] at h2; exact h2⟩
      · obtain ⟨ys, more, ks, hys, rfl, sx, hl⟩ := hp
        rw [List.length_map, List.take_length] at hl
        have hl : LT jns ls x (fun z => ∃ v, valV kvs (Sum.inr (SX.S z)) = some v) (fun y z => DX jns x m y ∧ Adj jns y z) Hx E more ks := hl.congr fun y z => by rw [hE y]
        have eDx := sx _ _ eD4
        have DE : D ≠ E := fun e => by rw [← e, eD4] at nE; cases nE
        have eEx := hl.1
        have kl6 : ks.length ≤ 8 := by
          have := nd_len hl.2.2.1 hl.2.2.2.1
          omega
        have ml : more.length = ks.length := by
          have := congrArg List.length hl.2.1
          rw [List.length_map, List.length_map, List.length_map] at this
          exact this
        obtain ⟨hfn, hks⟩ := hl.fn (D := D) hFd (hf4.same sx) eDx (.dK (mergeK kvs more))
        refine ⟨.ref D, rfl, .inr (.inr (.inl ⟨rfl, .inl ⟨_, eDx⟩⟩)), .ref E, rfl, D, E, kvs, more, rfl, rfl, eDx, eEx, DE, Nat.le_of_lt (small5000 (by omega)), ?_⟩
        have s7 : Same H (upd Hx D (.dK (mergeK kvs more))) := same_set (s4.trans sx) nD
        have eE7 : (upd Hx D (.dK (mergeK kvs more))) E = some (.dK more) := by rw [upd_ne DE.symm]; exact eEx
        have eD7 : (upd Hx D (.dK (mergeK kvs more))) D = some (.dK (mergeK kvs more)) := upd_same
        generalize upd Hx D (.dK (mergeK kvs more)) = H7 at hfn s7 eE7 eD7 ⊢
        refine ⟨.ref E, rfl, E, more, ks.map SX.S, rfl, .inl eE7, hl.2.1, by rw [List.length_map]; omega, fun ys' p hp' hs np => ?_⟩
        obtain ⟨zs, rfl, hz⟩ := perm_S hp'
        have sp := same_upd (o := .lst ((zs.map SX.S).map V.str)) np
        refine ⟨10 - (m + 1), by omega, m + 1, p, zs, _, _, rfl, ?_, rfl, s7.trans sp, by rw [upd_same, map_nS], hz.nodup_iff.mpr hl.2.2.1, fun y => by rw [hz.mem_iff]; exact hks y, sp _ _ eD7, ?_, hfn.same sp⟩
        · rw [List.length_cons, hys]
        · have := length_mergeK more kvs
          omega
    · have ne0 : es = [] := by
        cases h : es with
        | nil => rfl
        | cons a b => rw [h] at cc; exact absurd rfl cc
      refine ⟨.ref D, rfl, q _ D (s3.trans se) nD ⟨kvs, se _ _ eD, fun z => ?_⟩⟩
      have no : ∀ y, ¬ DX jns x m y := fun y h => by
        have := (hE y).mpr h
        rw [ne0] at this
        cases this
      rcases hf z with ⟨n, a, h1, h2, h3, h4, h5⟩ | ⟨h1, h2⟩
      · exact .inl ⟨n, a, h2, h3, se _ _ h4, h5⟩
      · refine .inr ⟨fun n hd => ?_, h2⟩
        by_cases cn : n ≤ m
        · exact h1 n cn hd
        · exact ds_none no n z (by omega) hd
end
end Th
namespace Th
open PySem PySem.Spec PyProof.Rows L2
open Rm (SP sp_zero sp_succ ne_snoc Ds Wk Gr Lst ds_succ ds_zero ds_none wk_ds)
theorem sq_same {K : PySem.W.Frag} {H H' : Hp} {a : Addr} {xs : List V} (s : Same H H') (h : SqL K H a xs) : SqL K H' a xs := by
  rcases h with (h | ⟨o, h⟩) | h
  · exact .inl (.inl (s _ _ h))
  · exact .inl (.inr ⟨o, s _ _ h⟩)
  · exact .inr h
theorem NB.lj {K : PySem.W.Frag} {H : Hp} {r : Addr} {ls : List Nm} {jns : List (Nm × List Nm)} (h : NB H r ls jns) : LJ K H r ls jns := by
  obtain ⟨a, c, b, d, ja, h1, h2, h3, h4⟩ := h
  exact ⟨a, c, b, d, ja, SqT.of h1, h2.sq, h3.sq, paired_imp h4 fun x _ j ⟨t, e1, e2⟩ => ⟨t, SqT.of e1, e2.sq⟩⟩
theorem NetBok.lj {ls : List Nm} {jns : List (Nm × List Nm)} (h : NetBok ls jns) : LJok ls jns :=
  ⟨h.l8, h.lnd, fun j hj y hy => (h.sub j hj).subset hy, fun j hj => Nat.le_trans (h.sub j hj).length_le h.l8, fun j hj => List.Sublist.nodup (h.sub j hj) h.lnd⟩
/-- dict of the junctions -/
theorem jn_dict {K : PySem.W.Frag} {H : Hp} {ja : List Addr} {jns : List (Nm × List Nm)} (h : Paired (JnT H) ja jns) : ∃ kvs : List (Key × V), Paired (fun p kv => SqT K H p [kV kv.1, kv.2]) ja kvs ∧ kvs.map (·.1) = (jns.map (·.1)).map (fun z => Sum.inr (SX.S z)) ∧ ∀ j ∈ jns, ∃ t, (Sum.inr (SX.S j.1), V.ref t) ∈ kvs ∧ TpF H t (j.2.map nS) := by
  induction h with
  | nil => exact ⟨[], .nil, rfl, fun j hj => (by cases hj)⟩
  | @cons x j ja jns hx _ ih =>
    obtain ⟨kvs, h1, h2, h3⟩ := ih
    obtain ⟨t, e1, e2⟩ := hx
    refine ⟨(Sum.inr (SX.S j.1), .ref t) :: kvs, .cons (SqT.of e1) h1, by rw [List.map_cons, List.map_cons, List.map_cons, h2], fun i hi => ?_⟩
    rcases List.mem_cons.mp hi with h | h
    · rw [h]
      exact ⟨t, List.mem_cons_self, e2⟩
    · obtain ⟨t', h4, h5⟩ := h3 i h
      exact ⟨t', List.mem_cons_of_mem _ h4, h5⟩
theorem jn_dict_val {jns : List (Nm × List Nm)} {kvs : List (Key × V)} (h : kvs.map (·.1) = (jns.map (·.1)).map (fun z => Sum.inr (SX.S z))) (nd : (jns.map (·.1)).Nodup) {z : Nm} {v : V} (m : (Sum.inr (SX.S z), v) ∈ kvs) : valV (mergeK [] kvs) (Sum.inr (SX.S z)) = some v := by
  refine val_merge_nd ?_ m
  rw [h, List.nodup_iff_pairwise_ne, List.pairwise_map]
  exact (List.nodup_iff_pairwise_ne.mp nd).imp fun n e => n (SX.S_inj (Sum.inr.inj e))
/-! a junction as data -/
def jD (j : Nm × List Nm) : PyData := .tuple [.str (SX.S j.1), .tuple ((j.2.map SX.S).map PyData.str)]
theorem dpAll_nmsP {K : PySem.W.Frag} {H : Hp} : ∀ zs : List Nm, DpAll K H (zs.map nS) ((zs.map SX.S).map PyData.str)
  | [] => .nil
  | z :: zs => .cons (.str _) (dpAll_nmsP zs)
theorem dpAll_jD {K : PySem.W.Frag} {H : Hp} : ∀ {ja : List Addr} {jns : List (Nm × List Nm)}, Paired (JnT H) ja jns → DpAll K H (ja.map V.ref) (jns.map jD)
  | _, _, .nil => .nil
  | _, _, .cons ⟨t, e1, e2⟩ h => .cons (.tup (SqT.of e1) (.cons (.str _) (.cons (.tup e2.sq (dpAll_nmsP _)) .nil))) (dpAll_jD h)
theorem layAll_jD : ∀ {jns : List (Nm × List Nm)}, (∀ j ∈ jns, IsNm j.1 ∧ ∀ z ∈ j.2, IsNm z) → PyData.canLayAll0 (jns.map jD) = true
  | [], _ => rfl
  | j :: jns, h => by
    show ((PyData.strOk (SX.S j.1) && (PyData.canLayAll0 ((j.2.map SX.S).map PyData.str) && true)) && PyData.canLayAll0 (jns.map jD)) = true
    rw [nm_ok (h j List.mem_cons_self).1, layAll_nms (h j List.mem_cons_self).2, layAll_jD fun y hy => h y (List.mem_cons_of_mem _ hy)]
    rfl
theorem depthAll_jD : ∀ jns : List (Nm × List Nm), PyData.depthAll (jns.map jD) ≤ 2
  | [] => Nat.zero_le _
  | j :: jns => by
    show max (max 0 (max (PyData.depthAll ((j.2.map SX.S).map PyData.str) + 1) 0) + 1) (PyData.depthAll (jns.map jD)) ≤ 2
    rw [depthAll_nms]
    exact Nat.max_le.mpr ⟨by decide, depthAll_jD jns⟩
theorem shaped_jD {jns : List (Nm × List Nm)} (h : ∀ j ∈ jns, IsNm j.1 ∧ ∀ z ∈ j.2, IsNm z) : SeqAt.shaped (.tuple (jns.map jD)) = true := Bool.and_eq_true_iff.mpr ⟨layAll_jD h, decide_eq_true (by
  show PyData.depthAll (jns.map jD) + 1 ≤ 64
  have := depthAll_jD jns
  omega)⟩
theorem NetBok.nms {ls : List Nm} {jns : List (Nm × List Nm)} (h : NetBok ls jns) : ∀ j ∈ jns, IsNm j.1 ∧ ∀ z ∈ j.2, IsNm z := fun j hj => ⟨h.jnm j hj, fun z hz => h.lnm z ((h.sub j hj).subset hz)⟩
/-! the law's road of a gap -/
theorem RdsA.same {jns : List (Nm × List Nm)} {x : Nm} {H H' : Hp} {D : Addr} (h : RdsA jns x H D) (s : Same H H') : RdsA jns x H' D := let ⟨kvs, e, f⟩ := h; ⟨kvs, s _ _ e, fun z => (f z).imp (fun ⟨n, a, h1, h2, h3, h4⟩ => ⟨n, a, h1, h2, s _ _ h3, h4⟩) id⟩
theorem lenAt_same {H H' : Hp} {v : V} {p : List Nm} (h : LenAt H v p) (s : Same H H') : LenAt H' v p := let ⟨t, u, e1, e2, e3⟩ := h; ⟨t, u, e1, s _ _ e2, s _ _ e3⟩
/-- as LenAt, the road not at L -/
abbrev LenN (L : Addr) (H : Hp) (t : Addr) (p : List Nm) : Prop := ∃ u, u ≠ L ∧ H t = some (.tup [.int ((p.length : Nat) : Int), .ref u]) ∧ H u = some (.lst (p.map nS))
theorem lenN_at {L : Addr} {H : Hp} : ∀ {ts : List Addr} {ps : List (List Nm)}, Paired (LenN L H) ts ps → Paired (LenAt H) (ts.map V.ref) ps
  | _, _, .nil => .nil
  | _, _, .cons ⟨u, _, h1, h2⟩ h => .cons ⟨_, u, rfl, h1, h2⟩ (lenN_at h)
section
variable {P : Program} {w : World} {K : PySem.W.Frag} {mg : Str → Option Value} {base : Heap} {k : Nat}
def sp_l_gap : Sp := fun vs H Q _ => ∃ (r t : Addr) (x : Nm) (rr : Rt) (ls : List Nm) (jns : List (Nm × List Nm)), vs = [.ref r, nS x, .ref t] ∧ NB H r ls jns ∧ NetBok ls jns ∧ x ∈ ls ∧ RtA H t rr ∧ RtOk rr ∧ RtFit jns rr ∧
  ∀ H' p, Same H H' → H' p = some (.lst ((roadF jns rr x).map nS)) → Rd' jns (fars jns rr) x (roadF jns rr x) → Q (.ref p) H'
set_option maxHeartbeats 16000000 in
theorem ok_l_gap (T : Defs K mg) : FnOk P w K mg base CX0 (k + 2) T.a_l_gap T.d_l_gap ["_law_net_here", "_law_line", "_law_paper"] sp_l_gap := by
  have G_l_roads : FnOk P w K mg base CX0 (k + 1) _ _ _ _ := ok_l_roads (k := k) T
  refine T.F_l_gap.ok sc_l_gap (fun vs H Q E h => ?_) (fun cdv A outer s H vs Q E hr h => ?_)
  · obtain ⟨r, t, x, rr, ls, jns, rfl, _⟩ := h
    rfl
  · obtain ⟨r, t, x, rr, ls, jns, rfl, hnet, hnb, xin, hrt, rok, ⟨jn, jin, ej, oin⟩, q⟩ := h
    refine ⟨_, PSs.nox
(pss_cons (ps_set (i := 3) sc_l_gap.nd rfl (.inr rfl) (pe_call G_l_roads hr (by rfl) T.g_l_roads T.F_l_roads.kp T.b_l_roads .nil pass0 (pa_cons (pv 0) (pa_cons (pv 1) pa_nil))))
    (pss_cons (ps_set (i := 4) sc_l_gap.nd rfl (.inl rfl) (pe_dget (hu_of hr) (pe_callTy (r := rDictF K) (call_dictF rfl) (by rfl) T.z_dict (by decide +kernel) (pa_cons (pe_ix (r := rIxT K) ix_tup (pv 0) (pe_int) (fun _ _ => rfl)) pa_nil)) (pe_ix (r := rIxT K) ix_tup (pv 2) (pe_int) (fun _ _ => rfl)) (fun _ _ => rfl)))
    (pss_cons (ps_set (i := 5) sc_l_gap.nd rfl (.inl rfl) (pe_callB (r := rSortD lenD K) (cr_sortD lenD hr.units) (by rfl) T.z_sorted (by decide +kernel) (pa_cons (pe_lc (own := [("_law_one", 6)]) (g := gName 6) rfl sc_l_gap.nd (pi_tup (pv 4)) (blkOk_by (N := N_l_gap) (sc := defScope s_l_gap) (by decide +kernel)) (fun _ _ _ _ _ => (pg_name (i := 6) sc_l_gap.nd rfl (.inl rfl))) (fun _ _ _ _ _ => pts_one (PW.pt (pw_and (pt_cmpR op_ne (pv 6) (pe_ix (r := rIxT K) ix_tup (pv 2) (pe_int) (fun _ _ => rfl)) (nomark _)) (pw_and1 (pt_cmp (pc_din (hu_of hr) (pv 6) (pv 3))))))) (fun _ _ _ _ _ => (pe_tup (pa_cons (pe_callB (r := rLenS K) call_lenS (by rfl) T.z_len (by decide +kernel) (pa_cons (pe_dget (hu_of hr) (pv 3) (pv 6) (fun _ _ => rfl)) pa_nil)) (pa_cons (pe_dget (hu_of hr) (pv 3) (pv 6) (fun _ _ => rfl)) pa_nil))))) pa_nil)))
    (pss_one (ps_ret (pe_ifExp (pt_cmpR (r := rNeD K) (op_neD hr.units) (pv 5) (pe_lst pa_nil) (nomark _)) (pe_ix (r := rIxT K) ix_tup (pe_ix (r := rIxL K) ix_list (pv 5) (pe_int) (fun _ _ => rfl)) (pe_int) (fun _ _ => rfl)) (pe_lst pa_nil)))))))
      , ?_⟩
    have hok := hnb.lj
    have j9 := hok.j9 jn jin
    have hfr : fars jns rr = fromL jn.2 rr.over := by
      unfold fars
      rw [← ej, jLines_of hnb.jnd jin]
    have gls : ∀ f ∈ fars jns rr, f ∈ ls := fun f hf => hok.sub jn jin f (mem_fromL.mp (hfr ▸ hf)).1
    have fin : ∀ rd, Rd' jns (fars jns rr) x rd → roadF jns rr x = rd := fun rd h => roadF_of h
    refine ⟨.ref r, rfl, nS x, rfl, r, x, ls, jns, rfl, hnet.lj, hok, hnb.lnm, xin, fun H1 D s1 nD hD => ?_⟩
    obtain ⟨a, c, b, d, ja, er, ta, tc, hJ⟩ := hnet.same s1
    obtain ⟨kvs, hkv, hks, hmem⟩ := jn_dict (K := K) hJ
    obtain ⟨jt, hjt1, hjt2⟩ := hmem jn jin
    have hrt1 := s1 _ _ hrt
    refine ⟨.ref r, rfl, r, [.ref a, b, .ref c, d], 2, .ref c, rfl, rfl, SqT.of er, atI_nat (j := 2) rfl, c, ja, kvs, rfl, tc, hkv, fun dd ndd => ?_⟩
    have s2 := same_upd (o := .dK (mergeK [] kvs)) ndd
    refine ⟨.ref t, rfl, t, _, 3, _, rfl, rfl, SqT.of (s2 _ _ hrt1), atI_nat (j := 3) rok.i3, dd, .ref jt, rfl, by rw [← jn_dict_val hks hnb.jnd hjt1, ej]; exact DGet.k (k := Sum.inr (SX.S rr.jn)) upd_same, ?_⟩
    have hjt3 := hjt2.same s2
    have hD2 := hD.same s2
    have hrt2 := s2 _ _ hrt1
    have s02 := s1.trans s2
    generalize upd H1 dd (.dK (mergeK [] kvs)) = H2 at s02 hjt3 hD2 hrt2 ⊢
    refine ⟨.ref jt, rfl, jt, rfl, ⟨_, hjt3.sq⟩, fun L nL => ?_⟩
    obtain ⟨kd, eD, hroads⟩ := hD2
    refine lc_it (walk_tup (xs := jn.2.map nS)) (fun i H3 => Same H2 H3 ∧ ∃ (ts : List Addr) (ps : List (List Nm)), H3 L = some (.lst (ts.map V.ref)) ∧ Paired (LenN L H3) ts ps ∧ ps.length ≤ i ∧ (∀ p ∈ ps, ∃ f n, f ∈ fars jns rr ∧ p = rX jns x f ∧ DX jns x n f ∧ Bst jns x n f (rX jns x f)) ∧ ∀ f ∈ jn.2.take i, f ≠ rr.over → (∃ n, DX jns x n f) → rX jns x f ∈ ps)
      ⟨same_upd nL, [], [], upd_same, .nil, Nat.le_refl _, fun p hp => (by cases hp), fun f hf => (by cases hf)⟩ (fun i H3 _ pv => sqs pv.1 hjt3.sq) (fun i v H3₀ H3 hi pv yy => ?_) (fun H3 pv => ?_)
    · obtain ⟨rfl, ey⟩ := yy
      obtain ⟨s3, ts, ps, eL, hts, pl, hps, hall⟩ := pv
      obtain ⟨z, ez, rfl⟩ := at_nm ey
      have zin : z ∈ jn.2 := List.mem_of_getElem? ez
      have tk : jn.2.take (i + 1) = jn.2.take i ++ [z] := by rw [List.take_add_one, ez]; rfl
      rw [List.length_map] at hi
      refine ⟨rfl, nS z, rfl, .ref t, rfl, t, _, 7, _, rfl, rfl, SqT.of (s3 _ _ hrt2), atI_nat (j := 7) rok.i7, rfl, _, rfl, ite2 (fun c1 => ?_) (fun c1 => ?_)⟩
      · rw [ne_dec] at c1
        have c1 := of_decide_eq_true c1
        have zf : z ∈ fars jns rr := by rw [hfr]; exact mem_fromL.mpr ⟨zin, c1⟩
        refine ⟨nS z, rfl, .ref D, rfl, D, _, rfl, DGet.k (k := Sum.inr (SX.S z)) (s3 _ _ eD), _, rfl, ?_⟩
        rcases hroads z with ⟨n, u, h1, h2, h3, h4⟩ | ⟨h1, h2⟩
        · rw [h2]
          refine iteT ?_
          have gz : DGet H3 D (nS z) (some (.ref u)) := by
            rw [← h2]
            exact DGet.k (k := Sum.inr (SX.S z)) (s3 _ _ eD)
          refine ⟨.ref D, rfl, nS z, rfl, D, _, rfl, gz, u, _, rfl, .inl (SqL.of (s3 _ _ h3)), .ref D, rfl, nS z, rfl, D, _, rfl, gz, two_sz, fun t' nt => ?_⟩
          have st := same_upd (o := .tup [.int ((((rX jns x z).map nS).length : Nat) : Int), .ref u]) nt
          have ntL : t' ≠ L := fun e => by rw [e, eL] at nt; cases nt
          have tsl := paired_len hts
          have uL : u ≠ L := fun e => by
            have h3' := s3 _ _ h3
            have : H2 L = none := nL
            rw [e, nL] at h3
            cases h3
          refine ⟨_, st _ _ eL, small5000 (by rw [List.length_map]; omega), same_set (s3.trans st) nL, ts ++ [t'], ps ++ [rX jns x z], by rw [upd_same, List.map_append]; rfl, ?_, by rw [List.length_append, List.length_singleton]; omega, fun p hp => ?_, fun f hf fo fd => ?_⟩
          · refine paired_snoc (paired_imp hts fun t2 _ p ⟨u2, h0, h1, h2⟩ => ⟨u2, h0, ?_, ?_⟩) ⟨u, uL, ?_, ?_⟩
            · rw [upd_ne (fun zz => by rw [zz, eL] at h1; cases h1)]
              exact st _ _ h1
            · rw [upd_ne h0]
              exact st _ _ h2
            · rw [upd_ne ntL, upd_same, List.length_map]
            · rw [upd_ne uL]
              exact st _ _ (s3 _ _ h3)
          · rcases List.mem_append.mp hp with c2 | c2
            · exact hps p c2
            · exact ⟨z, n, zf, List.mem_singleton.mp c2, h1, h4⟩
          · rw [tk] at hf
            rcases List.mem_append.mp hf with c2 | c2
            · exact List.mem_append_left _ (hall f c2 fo fd)
            · rw [List.mem_singleton.mp c2]
              exact List.mem_append_right _ (List.mem_singleton.mpr rfl)
        · rw [h2]
          refine iteF ⟨s3, ts, ps, eL, hts, by omega, hps, fun f hf fo fd => ?_⟩
          rw [tk] at hf
          rcases List.mem_append.mp hf with c2 | c2
          · exact hall f c2 fo fd
          · rw [List.mem_singleton.mp c2] at fd
            obtain ⟨n, hn⟩ := fd
            exact absurd hn (h1 n)
      · rw [ne_dec] at c1
        refine ⟨s3, ts, ps, eL, hts, by omega, hps, fun f hf fo fd => ?_⟩
        rw [tk] at hf
        rcases List.mem_append.mp hf with c2 | c2
        · exact hall f c2 fo fd
        · rw [List.mem_singleton.mp c2] at fo
          exact absurd (decide_eq_true fo) c1
    obtain ⟨s3, ts, ps, eL, hts, pl, hps, hall⟩ := pv
    rw [List.length_map, List.take_length] at hall
    have hts := lenN_at hts
    have pnm : ∀ p ∈ ps, ∀ z ∈ p, IsNm z := fun p hp z hz => by
      obtain ⟨f, n, hf, rfl, h1, h2⟩ := hps p hp
      refine hnb.lnm z (Rm.pth_mem (ls := ls) (fun y z h => hok.adj h) h2.p xin z hz)
    refine ⟨L, _, ps, _, rfl, SqL.of eL, hts, fun v p hp ⟨t, u, e1, e2, e3⟩ => ?_, lenD_alike ps, lenD_sortable ps, fun p _ => lenD_depth p, fun so ys nso hys => ?_⟩
    · rw [e1, lenD_eq]
      exact .tup (SqT.of e2) (.cons (.int _) (.cons (dp_lD e3) .nil))
    have sso := same_upd (o := .lst ys) nso
    have mp : (ps.mergeSort (PySem.W.dataLe false lenD)).Perm ps := List.mergeSort_perm ps _
    have h2 : ∀ n rd, AF jns (fars jns rr) n x → Rm.Gr (Adj jns) (· ∈ fars jns rr) n x rd → rd ∈ ps := fun n rd hd hg => by
      obtain ⟨f, hf, hdf, e⟩ := gr_rX hd hg
      have hm := mem_fromL.mp (hfr ▸ hf)
      rw [← e]
      exact hall f hm.1 hm.2 ⟨n, hdf⟩
    refine ⟨.ref so, rfl, Nat.zero_le _, fun e ne => ?_⟩
    have se := same_upd (o := .lst []) ne
    have s78 := s3.trans (sso.trans se)
    have dS : Dp K (upd (upd H3 so (.lst ys)) e (.lst [])) (.ref so) (.list ((ps.mergeSort (PySem.W.dataLe false lenD)).map lenD)) := by
      exact .lst (SqL.of (se _ _ upd_same)) (dpAll_lenD (sso.trans se) hys)
    have dE : Dp K (upd (upd H3 so (.lst ys)) e (.lst [])) (.ref e) (.list []) := .lst (SqL.of upd_same) .nil
    refine ⟨_, _, dS, dE, shaped_lenD (fun p hp => pnm p (mp.mem_iff.mp hp)), shaped_lenD (ps := []) (fun p hp => (by cases hp)), _, rfl, ite2 (fun c1 => ?_) (fun c1 => ?_)⟩
    · cases hm : ps.mergeSort (PySem.W.dataLe false lenD) with
      | nil => rw [hm] at c1; cases c1
      | cons m ms =>
        rw [hm] at hys
        cases hys with
        | @cons v _ ys' _ hv _ =>
          obtain ⟨t, u, rfl, e2, e3⟩ := hv
          have hrd := first_is_rd hok gls hm (fun q hq => by
            obtain ⟨f, n, hf, rfl, h1, h3⟩ := hps q hq
            exact ⟨h3.p, f, h3.e, hf⟩) h2
          have ef := fin m hrd
          refine ⟨.ref so, rfl, so, _, 0, .ref t, rfl, rfl, SqL.of (se _ _ upd_same), atI_nat (j := 0) rfl, t, _, 1, .ref u, rfl, rfl, SqT.of (se _ _ (sso _ _ e2)), atI_nat (j := 1) rfl, q _ u (s02.trans s78) ?_ ?_⟩
          · rw [ef]
            exact se _ _ (sso _ _ e3)
          · rw [ef]
            exact hrd
    · have pe : ps = [] := by
        have : ps.mergeSort (PySem.W.dataLe false lenD) = [] := by
          cases hm : ps.mergeSort (PySem.W.dataLe false lenD) with
          | nil => rfl
          | cons m ms => rw [hm] at c1; exact absurd rfl c1
        rw [this] at mp
        exact List.nil_perm.mp mp
      have hrd : Rd' jns (fars jns rr) x [] := .inr ⟨fun n hd => by
        obtain ⟨rd, hg⟩ := Rm.gr_ex (ls := ls) (fun n y h => af_in hok gls h) n hd
        have := h2 n rd hd hg
        rw [pe] at this
        exact absurd this (by simp), rfl⟩
      have ef := fin [] hrd
      refine ⟨Nat.zero_le _, fun e2 ne2 => q _ e2 (s02.trans (s78.trans (same_upd ne2))) (by rw [ef]; exact upd_same) (by rw [ef]; exact hrd)⟩
end
end Th
namespace Th
open PySem PySem.Spec PyProof.Rows L2
/-! drawn returns as data; the law's order -/
structure RtFull (r : Rt) : Prop where
  ex : ∃ (i2 wag : Int) (ld sl : Str), r.xs = [.str ("return" : Str), .int r.num, .int i2, nS r.jn, .int r.day, .int r.hour, .int wag, nS r.over, .str ld, .str sl] ∧ PyData.strOk ld = true ∧ PyData.strOk sl = true
  jn : IsNm r.jn
  ov : IsNm r.over
theorem RtFull.ok {r : Rt} (h : RtFull r) : RtOk r := by
  obtain ⟨i2, wag, ld, sl, e, _⟩ := h.ex
  exact ⟨by rw [e]; rfl, by rw [e]; rfl, by rw [e]; rfl, by rw [e]; rfl, by rw [e]; rfl⟩
def vD : V → PyData
  | .int i => .int i
  | .str s => .str s
  | _ => .none
def paperD (r : Rt) : PyData := .tuple (r.xs.map vD)
def rowD (r : Rt) : PyData := .tuple [.int r.day, .int r.hour, .int r.num, paperD r]
theorem eqv_int (a b : Int) : PyData.eqv (.int a) (.int b) = decide (a = b) := PySem.W.Datum.eqv (α := Int) a b
theorem alike_int (a b : Int) : PySem.W.alike (.int a) (.int b) = true := PySem.W.DatumOrd.alike (α := Int) a b
theorem lex3 {d1 h1 n1 d2 h2 n2 : Int} (p q p' q' : List PyData) (h : n1 ≠ n2) : PyProof.Rows.lexLt PyProof.Rows.itemOrd (PySem.W.keyToksAll (.int d1 :: .int h1 :: .int n1 :: p)) (PySem.W.keyToksAll (.int d2 :: .int h2 :: .int n2 :: q)) = PyProof.Rows.lexLt PyProof.Rows.itemOrd (PySem.W.keyToksAll (.int d1 :: .int h1 :: .int n1 :: p')) (PySem.W.keyToksAll (.int d2 :: .int h2 :: .int n2 :: q')) := by
  by_cases c1 : d1 = d2
  · have e1 : PyData.eqv (.int d1) (.int d2) = true := by rw [eqv_int, decide_eq_true c1]
    rw [PySem.W.dataLt_all_yes (alike_int d1 d2) e1, PySem.W.dataLt_all_yes (alike_int d1 d2) e1]
    by_cases c2 : h1 = h2
    · have e2 : PyData.eqv (.int h1) (.int h2) = true := by rw [eqv_int, decide_eq_true c2]
      rw [PySem.W.dataLt_all_yes (alike_int h1 h2) e2, PySem.W.dataLt_all_yes (alike_int h1 h2) e2]
      have e3 : PyData.eqv (.int n1) (.int n2) = false := by rw [eqv_int, decide_eq_false h]
      rw [PySem.W.dataLt_all_no (alike_int n1 n2) e3, PySem.W.dataLt_all_no (alike_int n1 n2) e3]
    · have e2 : PyData.eqv (.int h1) (.int h2) = false := by rw [eqv_int, decide_eq_false c2]
      rw [PySem.W.dataLt_all_no (alike_int h1 h2) e2, PySem.W.dataLt_all_no (alike_int h1 h2) e2]
  · have e1 : PyData.eqv (.int d1) (.int d2) = false := by rw [eqv_int, decide_eq_false c1]
    rw [PySem.W.dataLt_all_no (alike_int d1 d2) e1, PySem.W.dataLt_all_no (alike_int d1 d2) e1]
theorem num_inj {rs : List Rt} (nd : (rs.map (·.num)).Nodup) {a b : Rt} (ha : a ∈ rs) (hb : b ∈ rs) (e : a.num = b.num) : a = b := by
  obtain ⟨i, hi⟩ := List.getElem?_of_mem ha
  obtain ⟨j, hj⟩ := List.getElem?_of_mem hb
  have e1 : (rs.map (·.num))[i]? = some a.num := by rw [List.getElem?_map, hi]; rfl
  have e2 : (rs.map (·.num))[j]? = some a.num := by rw [List.getElem?_map, hj, e]; rfl
  have := nodup_inj nd e1 e2
  subst this
  rw [hi] at hj
  exact Option.some.inj hj
theorem sort_row {rs : List Rt} (nd : (rs.map (·.num)).Nodup) : rs.mergeSort (PySem.W.dataLe false rowD) = sortR rs := by
  have m := List.map_mergeSort (r := PySem.W.dataLe false rowD) (s := PySem.W.dataLe false (Lr.key3 kR)) (f := fun r : Rt => r) (l := rs) fun a ha b hb => by
    show (!PySem.W.dataLt (rowD b) (rowD a)) = (!PySem.W.dataLt (Lr.key3 kR b) (Lr.key3 kR a))
    congr 1
    by_cases c : b.num = a.num
    · have := num_inj nd hb ha c
      rw [this, PySem.W.dataLt_self, PySem.W.dataLt_self]
    · exact (PySem.W.dataLt_tuple _ _).trans ((lex3 _ _ _ _ c).trans (PySem.W.dataLt_tuple _ _).symm)
  simp only [List.map_id'] at m
  exact m
theorem rowD_alike {rs : List Rt} (h : ∀ r ∈ rs, RtFull r) : PySem.W.AllAlike (rs.map rowD) := fun d hd d' hd' => by
  obtain ⟨a, ha, rfl⟩ := List.mem_map.mp hd
  obtain ⟨b, hb, rfl⟩ := List.mem_map.mp hd'
  obtain ⟨i2, wag, ld, sl, e, _⟩ := (h a ha).ex
  obtain ⟨i2', wag', ld', sl', e', _⟩ := (h b hb).ex
  unfold rowD paperD
  rw [e, e']
  simp [PySem.W.alike, PySem.W.alikeAll, vD]
theorem rowD_sortable (rs : List Rt) : PySem.W.Sortable (rs.map rowD) := PySem.W.Sortable.tuples fun b => ⟨_, _, rfl⟩
theorem paperD_depth {r : Rt} (h : RtFull r) : (paperD r).depth ≤ 1 := by
  obtain ⟨i2, wag, ld, sl, e, _⟩ := h.ex
  unfold paperD
  rw [e]
  exact Nat.le_of_ble_eq_true rfl
theorem rowD_depth {r : Rt} (h : RtFull r) : (rowD r).depth ≤ 60 := by
  have := paperD_depth h
  show max 0 (max 0 (max 0 (max (paperD r).depth 0))) + 1 ≤ 60
  omega
theorem dp_paper {K : PySem.W.Frag} {H : Hp} {t : Addr} {r : Rt} (h : RtA H t r) (f : RtFull r) : Dp K H (.ref t) (paperD r) := by
  obtain ⟨i2, wag, ld, sl, e, _⟩ := f.ex
  unfold RtA at h
  unfold paperD
  rw [e] at h ⊢
  exact .tup (SqT.of h) (.cons (.str _) (.cons (.int _) (.cons (.int _) (.cons (.str _) (.cons (.int _) (.cons (.int _) (.cons (.int _) (.cons (.str _) (.cons (.str _) (.cons (.str _) .nil))))))))))
theorem lay_paper {r : Rt} (f : RtFull r) : (paperD r).canLay0 = true := by
  obtain ⟨i2, wag, ld, sl, e, h1, h2⟩ := f.ex
  unfold paperD
  rw [e]
  show (PyData.strOk ("return" : Str) && (true && (true && (PyData.strOk (SX.S r.jn) && (true && (true && (true && (PyData.strOk (SX.S r.over) && (PyData.strOk ld && (PyData.strOk sl && true)))))))))) = true
  rw [nm_ok f.jn, nm_ok f.ov, h1, h2]
  decide +kernel
section
variable {P : Program} {w : World} {K : PySem.W.Frag} {mg : Str → Option Value} {base : Heap} {k : Nat}
def sp_l_ordered (K : PySem.W.Frag) : Sp := fun vs H Q _ => ∃ (l : Addr) (ts : List Addr) (rs : List Rt), vs = [.ref l] ∧ SqL K H l (ts.map V.ref) ∧ Paired (RtA H) ts rs ∧ (∀ r ∈ rs, RtFull r) ∧ (rs.map (·.num)).Nodup ∧ ts.length ≤ 1000 ∧
  ∀ H' p ts', Same H H' → H p = none → H' p = some (.lst (ts'.map V.ref)) → Paired (RtA H') ts' (sortR rs) → (∀ t ∈ ts', t ∈ ts) → Q (.ref p) H'
set_option maxHeartbeats 16000000 in
theorem ok_l_ordered (T : Defs K mg) : FnOk P w K mg base CX0 (k + 1) T.a_l_ordered T.d_l_ordered ["_law_returns_here"] (sp_l_ordered K) := by
  refine T.F_l_ordered.ok sc_l_ordered (fun vs H Q E h => ?_) (fun cdv A outer s H vs Q E hr h => ?_)
  · obtain ⟨l, ts, rs, rfl, _⟩ := h
    rfl
  · obtain ⟨l, ts, rs, rfl, hl, hp, hfull, hnd, t1000, q⟩ := h
    refine ⟨_, PSs.nox
(pss_cons (ps_set (i := 1) sc_l_ordered.nd rfl (.inl rfl) (pe_callB (r := rSortD rowD K) (cr_sortD rowD hr.units) (by rfl) T.z_sorted (by decide +kernel) (pa_cons (pe_lc (own := [("_law_paper", 2)]) (g := gName 2) rfl sc_l_ordered.nd (pi_list (pv 0)) (blkOk_by (N := N_l_ordered) (sc := defScope s_l_ordered) (by decide +kernel)) (fun _ _ _ _ _ => (pg_name (i := 2) sc_l_ordered.nd rfl (.inl rfl))) (fun _ _ _ _ _ => pts_nil) (fun _ _ _ _ _ => (pe_tup (pa_cons (pe_ix (r := rIxT K) ix_tup (pv 2) (pe_int) (fun _ _ => rfl)) (pa_cons (pe_ix (r := rIxT K) ix_tup (pv 2) (pe_int) (fun _ _ => rfl)) (pa_cons (pe_ix (r := rIxT K) ix_tup (pv 2) (pe_int) (fun _ _ => rfl)) (pa_cons (pv 2) pa_nil))))))) pa_nil)))
    (pss_one (ps_ret (pe_lc (own := [("_law_row", 3)]) (g := gName 3) rfl sc_l_ordered.nd (pi_list (pv 1)) (blkOk_by (N := N_l_ordered) (sc := defScope s_l_ordered) (by decide +kernel)) (fun _ _ _ _ _ => (pg_name (i := 3) sc_l_ordered.nd rfl (.inl rfl))) (fun _ _ _ _ _ => pts_nil) (fun _ _ _ _ _ => (pe_ix (r := rIxT K) ix_tup (pv 3) (pe_int) (fun _ _ => rfl)))))))
      , ?_⟩
    have tl := paired_len hp
    refine ⟨.ref l, rfl, l, rfl, ⟨_, hl⟩, fun L nL => ?_⟩
    refine lc_it (walk_list (xs := ts.map V.ref)) (fun i Hx => Same H Hx ∧ ∃ ws : List Addr, Hx L = some (.lst (ws.map V.ref)) ∧ Paired (fun u (p : Addr × Rt) => Hx u = some (.tup [.int p.2.day, .int p.2.hour, .int p.2.num, .ref p.1])) ws ((ts.zip rs).take i)) ⟨same_upd nL, [], upd_same, .nil⟩ (fun i Hx _ pv => sq_same pv.1 hl) (fun i v Hx₀ Hx hi pv yy => ?_) (fun H2 pv => ?_)
    · obtain ⟨rfl, ex⟩ := yy
      obtain ⟨sx, ws, eL, hws⟩ := pv
      obtain ⟨t, et, rfl⟩ := at_ref ex
      obtain ⟨r, er, hr'⟩ := paired_get hp et
      have rok := (hfull r (List.mem_of_getElem? er)).ok
      have ez : (ts.zip rs)[i]? = some (t, r) := List.getElem?_zip_eq_some.mpr ⟨et, er⟩
      have wl := paired_len hws
      have hx := sx _ _ hr'
      refine ⟨rfl, yes_ ?_⟩
      refine ⟨.ref t, rfl, t, _, 4, _, rfl, rfl, SqT.of hx, atI_nat (j := 4) rok.i4, .ref t, rfl, t, _, 5, _, rfl, rfl, SqT.of hx, atI_nat (j := 5) rok.i5, .ref t, rfl, t, _, 1, _, rfl, rfl, SqT.of hx, atI_nat (j := 1) rok.i1, .ref t, rfl, four_sz, fun u nu => ?_⟩
      have su := same_upd (o := .tup [.int r.day, .int r.hour, .int r.num, .ref t]) nu
      have nuL : u ≠ L := fun e => by rw [e, eL] at nu; cases nu
      refine ⟨_, su _ _ eL, small5000 (by rw [List.length_map, wl, List.length_take, List.length_zip]; omega), same_set (sx.trans su) nL, ws ++ [u], by rw [upd_same, List.map_append]; rfl, ?_⟩
      rw [List.take_add_one, ez]
      refine paired_snoc (paired_imp hws fun a _ p e => ?_) ?_
      · rw [upd_ne (fun z => by rw [z, eL] at e; cases e)]
        exact su _ _ e
      · rw [upd_ne nuL, upd_same]
    obtain ⟨s2, ws, eL, hws⟩ := pv
    have zl : (ts.zip rs).length = ts.length := by rw [List.length_zip]; omega
    rw [List.length_map, ← zl, List.take_length] at hws
    have hR : Paired (fun v (r : Rt) => ∃ u t, v = V.ref u ∧ H2 u = some (.tup [.int r.day, .int r.hour, .int r.num, .ref t]) ∧ RtA H t r ∧ t ∈ ts) (ws.map V.ref) rs := by
      obtain ⟨e1, e2, e3⟩ := paired_zip hp
      have : ∀ {ws : List Addr} {ps : List (Addr × Rt)}, Paired (fun u (p : Addr × Rt) => H2 u = some (.tup [.int p.2.day, .int p.2.hour, .int p.2.num, .ref p.1])) ws ps → (∀ p ∈ ps, RtA H p.1 p.2 ∧ p.1 ∈ ts) → Paired (fun v (r : Rt) => ∃ u t, v = V.ref u ∧ H2 u = some (.tup [.int r.day, .int r.hour, .int r.num, .ref t]) ∧ RtA H t r ∧ t ∈ ts) (ws.map V.ref) (ps.map (·.2)) := by
        intro ws ps h
        induction h with
        | nil => exact fun _ => .nil
        | @cons u p us ps h _ ih => exact fun hq => .cons ⟨u, p.1, rfl, h, hq p List.mem_cons_self⟩ (ih fun p' hp' => hq p' (List.mem_cons_of_mem _ hp'))
      have z := this hws fun p hp' => ⟨e3 p hp', (List.of_mem_zip hp').1⟩
      rw [e2] at z
      exact z
    refine ⟨L, _, rs, _, rfl, SqL.of eL, hR, fun v r hr' ⟨u, t, e1, e2, e3, _⟩ => ?_, rowD_alike hfull, rowD_sortable rs, fun r hr' => rowD_depth (hfull r hr'), fun so ys nso hys => ?_⟩
    · rw [e1]
      exact .tup (SqT.of e2) (.cons (.int _) (.cons (.int _) (.cons (.int _) (.cons (dp_paper (s2 _ _ e3) (hfull r hr')) .nil))))
    rw [sort_row hnd] at hys
    have sl : (sortR rs).length = rs.length := (sortR_perm rs).length_eq
    have yl := paired_len hys
    have sso := same_upd (o := .lst ys) nso
    refine ⟨.ref so, rfl, so, rfl, ⟨_, SqL.of upd_same⟩, fun M nM => ?_⟩
    generalize hH3 : upd H2 so (.lst ys) = H3 at sso nM ⊢
    have eso : H3 so = some (.lst ys) := by rw [← hH3]; exact upd_same
    refine lc_it (walk_list (xs := ys)) (fun i Hx => Same H3 Hx ∧ ∃ ts' : List Addr, Hx M = some (.lst (ts'.map V.ref)) ∧ Paired (RtA H) ts' ((sortR rs).take i) ∧ ∀ t ∈ ts', t ∈ ts) ⟨same_upd nM, [], upd_same, .nil, fun t ht => (by cases ht)⟩ (fun i Hx _ pv => SqL.of (pv.1 _ _ eso)) (fun i v Hx₀ Hx hi pv yy => ?_) (fun H4 pv => ?_)
    · obtain ⟨rfl, ex⟩ := yy
      obtain ⟨sx, ts', eM, hts, hin⟩ := pv
      obtain ⟨r, er, u, t, rfl, e2, e3, e4⟩ := paired_get hys ex
      have wl := paired_len hts
      refine ⟨rfl, yes_ ?_⟩
      refine ⟨.ref u, rfl, u, _, 3, _, rfl, rfl, SqT.of (sx _ _ (sso _ _ e2)), atI_nat (j := 3) rfl, _, eM, small5000 (by rw [List.length_map, wl, List.length_take]; omega), same_set sx nM, ts' ++ [t], by rw [upd_same, List.map_append]; rfl, ?_, fun t2 ht => ?_⟩
      · rw [List.take_add_one, er]
        exact paired_snoc hts e3
      · rcases List.mem_append.mp ht with c | c
        · exact hin t2 c
        · rw [List.mem_singleton.mp c]
          exact e4
    · obtain ⟨s4, ts', eM, hts, hin⟩ := pv
      rw [yl, List.take_length] at hts
      have s04 := (s2.trans sso).trans s4
      exact q _ M ts' s04 (up0 (s2.trans sso) nM) eM (paired_imp hts fun a _ r h => s04 _ _ h) hin
end
end Th
namespace Th
open PySem PySem.Spec PyProof.Rows L2
/-! drawn returns of one wagon -/
theorem pick2 {a b : Str} {d : Int} (h0 : 0 ≤ d) (h1 : d < 2) : ∃ s, atI [V.str a, V.str b] d = some (.str s) ∧ (s = a ∨ s = b) := by
  obtain ⟨j, rfl⟩ : ∃ j : Nat, d = (j : Int) := ⟨d.toNat, by omega⟩
  match j, h1 with
  | 0, _ => exact ⟨a, atI_nat (j := 0) rfl, .inl rfl⟩
  | 1, _ => exact ⟨b, atI_nat (j := 1) rfl, .inr rfl⟩
theorem num_ne {b s : Int} {i j : Nat} (hs : s = 1 ∨ s = 5003 ∨ s = 9998 ∨ s = 13) (hij : j < i) (hi : i < 100) : 1 + (b + s * (i : Int)) % 9999 ≠ 1 + (b + s * (j : Int)) % 9999 := by
  intro e
  rcases hs with rfl | rfl | rfl | rfl <;> omega
theorem RtA.keep {p : Addr} {H H' : Hp} {t : Addr} {r : Rt} (h : RtA H t r) (k : Keep p H H') (b : Bag H p) : RtA H' t r := by
  obtain ⟨g, q, e, _⟩ := b
  exact k _ _ (fun z => by rw [z] at h; rw [show H p = some (.tup r.xs) from h] at e; cases e) h
theorem RtA.updL {H : Hp} {t c : Addr} {r : Rt} {o : HO} {xs : List V} (h : RtA H t r) (e : H c = some (.lst xs)) : RtA (upd H c o) t r := by
  unfold RtA at h ⊢
  rw [upd_ne (fun z => by rw [z, e] at h; cases h)]
  exact h
theorem ins_perm {α : Type} (l : List α) (a : α) (n : Nat) : (l.take n ++ [a] ++ l.drop n).Perm (a :: l) := by
  have h := List.perm_middle (a := a) (l₁ := l.take n) (l₂ := l.drop n)
  rw [List.take_append_drop] at h
  rw [List.append_assoc]
  exact h
theorem fromL_ne {l : List Nm} {y : Nm} (nd : l.Nodup) (h : 2 ≤ l.length) : 1 ≤ (fromL l y).length := by
  match l, nd, h with
  | a :: b :: r, nd, _ =>
    have hab : a ≠ b := fun e => by
      rw [e] at nd
      exact (List.nodup_cons.mp nd).1 List.mem_cons_self
    by_cases c : a = y
    · exact List.length_pos_of_mem (mem_fromL.mpr ⟨List.mem_cons_of_mem _ List.mem_cons_self, fun e => hab (c.trans e.symm)⟩)
    · exact List.length_pos_of_mem (mem_fromL.mpr ⟨List.mem_cons_self, c⟩)
section
variable {P : Program} {w : World} {K : PySem.W.Frag} {mg : Str → Option Value} {base : Heap} {k : Nat}
def sp_l_returns : Sp := fun vs H Q _ => ∃ (p r : Addr) (x : Nm) (M : Nat) (ls : List Nm) (jns : List (Nm × List Nm)), vs = [.ref p, .ref r, nS x, .int (M : Int)] ∧ Bag H p ∧ NB H r ls jns ∧ NetBok ls jns ∧ x ∈ ls ∧ M ≤ 100 ∧
  ∀ H' l ts rs, Keep p H H' → Bag H' p → H l = none → H' l = some (.lst (ts.map V.ref)) → Paired (RtA H') ts rs → (∀ r ∈ rs, RtFull r ∧ RtFit jns r) → (rs.map (·.num)).Nodup → ts.length ≤ M → Q (.ref l) H'
set_option maxHeartbeats 16000000 in
theorem ok_l_returns (T : Defs K mg) : FnOk P w K mg base CX0 (k + 2) T.a_l_returns T.d_l_returns ["_law_bag_here", "_law_net_here", "_law_line", "_law_many"] sp_l_returns := by
  have G_l_take : FnOk P w K mg base CX0 (k + 1) _ _ _ _ := ok_l_take (k := k) T
  refine T.F_l_returns.ok sc_l_returns (fun vs H Q E h => ?_) (fun cdv A outer s H vs Q E hr h => ?_)
  · obtain ⟨p, r, x, M, ls, jns, rfl, _⟩ := h
    rfl
  · obtain ⟨p, r, x, M, ls, jns, rfl, b, hnet, hnb, xin, M40, q⟩ := h
    refine ⟨_, PSs.nox
(pss_cons (ps_par (i := 4) (j := 5) (by rfl) sc_l_returns.nd rfl rfl (by decide) rfl rfl (pa_cons (pe_call G_l_take hr (by rfl) T.g_l_take T.F_l_take.kp T.b_l_take .nil pass0 (pa_cons (pv 0) (pa_cons (pe_int) pa_nil))) (pa_cons (pe_ix (r := rIxT K) ix_tup (pe_tup (pa_cons (pe_int) (pa_cons (pe_int) (pa_cons (pe_int) (pa_cons (pe_int) pa_nil))))) (pe_call G_l_take hr (by rfl) T.g_l_take T.F_l_take.kp T.b_l_take .nil pass0 (pa_cons (pv 0) (pa_cons (pe_int) pa_nil))) (fun _ _ => rfl)) pa_nil)) (by rfl))
    (pss_cons (ps_par (i := 6) (j := 7) (by rfl) sc_l_returns.nd rfl rfl (by decide) rfl rfl (pa_cons (pe_ix (r := rIxT K) ix_tup (pe_tup (pa_cons (pe_int) (pa_cons (pe_int) (pa_cons (pe_int) (pa_cons (pe_int) pa_nil))))) (pe_call G_l_take hr (by rfl) T.g_l_take T.F_l_take.kp T.b_l_take .nil pass0 (pa_cons (pv 0) (pa_cons (pe_int) pa_nil))) (fun _ _ => rfl)) (pa_cons (pe_call G_l_take hr (by rfl) T.g_l_take T.F_l_take.kp T.b_l_take .nil pass0 (pa_cons (pv 0) (pa_cons (pe_int) pa_nil))) pa_nil)) (by rfl))
    (pss_cons (ps_set (i := 8) sc_l_returns.nd rfl (.inl rfl) (pe_op op_add (pe_int) (pe_call G_l_take hr (by rfl) T.g_l_take T.F_l_take.kp T.b_l_take .nil pass0 (pa_cons (pv 0) (pa_cons (pe_int) pa_nil)))))
    (pss_cons (ps_asg (pe_tup (pa_cons (pv 2) (pa_cons (pe_op op_add (pe_int) (pe_call G_l_take hr (by rfl) T.g_l_take T.F_l_take.kp T.b_l_take .nil pass0 (pa_cons (pv 0) (pa_cons (pe_int) pa_nil)))) pa_nil))) (pg_tup rfl (pgs_cons (pg_name (i := 9) sc_l_returns.nd rfl (.inr rfl)) (pgs_cons (pg_name (i := 10) sc_l_returns.nd rfl (.inl rfl)) pgs_nil))))
    (pss_cons (ps_set (i := 11) sc_l_returns.nd rfl (.inl rfl) (pe_lst pa_nil))
    (pss_cons (ps_for PassesOwn.never rfl (pi_range1 (by rfl) T.z_range (pa_cons (pe_op op_mul (pv 3) (pe_callTy call_int1 (by rfl) T.z_int (by decide +kernel) (pa_cons (pe_cmpR (r := rNeD K) (op_neD hr.units) (pe_ix (r := rIxT K) ix_tup (pv 1) (pe_int) (fun _ _ => rfl)) (pe_tup pa_nil) (nomark _)) pa_nil))) pa_nil)) (pg_name (i := 12) sc_l_returns.nd rfl (.inl rfl))
      (pss_cons (ps_setLc (i := 13) (own := [("_law_one", 23)]) (g := gName 23) rfl sc_l_returns.nd rfl rfl (sw_true rfl rfl rfl (by decide +kernel)) (pi_tup (pe_ix (r := rIxT K) ix_tup (pv 1) (pe_int) (fun _ _ => rfl))) (blkOk_by (N := N_l_returns) (sc := defScope s_l_returns) (by decide +kernel)) (fun _ _ _ _ _ => (pg_name (i := 23) sc_l_returns.nd rfl (.inl rfl))) (fun _ _ _ _ _ => pts_one (pt_cmpR (r := rIn K false) op_in_seq (pv 9) (pe_ix (r := rIxT K) ix_tup (pv 23) (pe_int) (fun _ _ => rfl)) (by rfl))) (fun _ _ _ _ _ => (pv 23)))
      (Evl.pss_cut (ps_if (PW.pt (pw_or (pt_cmpR (r := rEqD K) (op_eqD hr.units) (pv 13) (pe_lst pa_nil) (nomark _)) (pw_or1 (pt_cmpR op_lt (pe_call G_l_take hr (by rfl) T.g_l_take T.F_l_take.kp T.b_l_take .nil pass0 (pa_cons (pv 0) (pa_cons (pe_int) pa_nil))) (pv 4) (nomark _)))))
        (pss_one (ps_set (i := 13) sc_l_returns.nd rfl (.inl rfl) (pe_callTy call_list_of (by rfl) T.z_list (by decide +kernel) (pa_cons (pe_ix (r := rIxT K) ix_tup (pv 1) (pe_int) (fun _ _ => rfl)) pa_nil))))
        pss_nil)
      (pss_cons (ps_asg (pe_ix (r := rIxL K) ix_list (pv 13) (pe_call G_l_take hr (by rfl) T.g_l_take T.F_l_take.kp T.b_l_take .nil pass0 (pa_cons (pv 0) (pa_cons (pe_callB (r := rLenS K) call_lenS (by rfl) T.z_len (by decide +kernel) (pa_cons (pv 13) pa_nil)) pa_nil))) (fun _ _ => rfl)) (pg_tup rfl (pgs_cons (pg_name (i := 14) sc_l_returns.nd rfl (.inl rfl)) (pgs_cons (pg_name (i := 15) sc_l_returns.nd rfl (.inl rfl)) pgs_nil))))
      (pss_cons (ps_setLc (i := 16) (own := [("_law_one", 23)]) (g := gName 23) rfl sc_l_returns.nd rfl rfl (sw_true rfl rfl rfl (by decide +kernel)) (pi_tup (pv 15)) (blkOk_by (N := N_l_returns) (sc := defScope s_l_returns) (by decide +kernel)) (fun _ _ _ _ _ => (pg_name (i := 23) sc_l_returns.nd rfl (.inl rfl))) (fun _ _ _ _ _ => pts_one (pt_cmpR op_ne (pv 23) (pv 9) (nomark _))) (fun _ _ _ _ _ => (pv 23)))
      (pss_cons (ps_set (i := 17) sc_l_returns.nd rfl (.inl rfl) (pe_ix (r := rIxL K) ix_list (pv 16) (pe_call G_l_take hr (by rfl) T.g_l_take T.F_l_take.kp T.b_l_take .nil pass0 (pa_cons (pv 0) (pa_cons (pe_callB (r := rLenS K) call_lenS (by rfl) T.z_len (by decide +kernel) (pa_cons (pv 16) pa_nil)) pa_nil))) (fun _ _ => rfl)))
      (pss_cons (ps_set (i := 10) sc_l_returns.nd rfl (.inl rfl) (pe_callB (call_min2 rfl) (by rfl) T.z_min (by decide +kernel) (pa_cons (pe_int) (pa_cons (pe_op op_add (pv 10) (pe_call G_l_take hr (by rfl) T.g_l_take T.F_l_take.kp T.b_l_take .nil pass0 (pa_cons (pv 0) (pa_cons (pv 5) pa_nil)))) pa_nil))))
      (pss_cons (ps_set (i := 18) sc_l_returns.nd rfl (.inl rfl) (pe_call G_l_take hr (by rfl) T.g_l_take T.F_l_take.kp T.b_l_take .nil pass0 (pa_cons (pv 0) (pa_cons (pe_int) pa_nil))))
      (pss_cons (ps_par (i := 19) (j := 20) (by rfl) sc_l_returns.nd rfl rfl (by decide) rfl rfl (pa_cons (pe_ix (r := rIxT K) ix_tup (pe_tup (pa_cons (pe_str) (pa_cons (pe_str) pa_nil))) (pe_call G_l_take hr (by rfl) T.g_l_take T.F_l_take.kp T.b_l_take .nil pass0 (pa_cons (pv 0) (pa_cons (pe_int) pa_nil))) (fun _ _ => rfl)) (pa_cons (pe_ix (r := rIxT K) ix_tup (pe_tup (pa_cons (pe_str) (pa_cons (pe_str) pa_nil))) (pe_call G_l_take hr (by rfl) T.g_l_take T.F_l_take.kp T.b_l_take .nil pass0 (pa_cons (pv 0) (pa_cons (pe_int) pa_nil))) (fun _ _ => rfl)) pa_nil)) (by rfl))
      (pss_cons (ps_set (i := 21) sc_l_returns.nd rfl (.inl rfl) (pe_op op_add (pe_int) (pe_op op_mod (pe_op op_add (pv 7) (pe_op op_mul (pv 6) (pv 12))) (pe_int))))
      (pss_cons (ps_set (i := 22) sc_l_returns.nd rfl (.inl rfl) (pe_tup (pa_cons (pe_str) (pa_cons (pv 21) (pa_cons (pe_op op_add (pe_int) (pe_call G_l_take hr (by rfl) T.g_l_take T.F_l_take.kp T.b_l_take .nil pass0 (pa_cons (pv 0) (pa_cons (pe_int) pa_nil)))) (pa_cons (pv 14) (pa_cons (pv 10) (pa_cons (pv 18) (pa_cons (pv 8) (pa_cons (pv 17) (pa_cons (pv 19) (pa_cons (pv 20) pa_nil))))))))))))
      (pss_cons (ps_expr (pe_bm PySem.F.plainAttrs_list PySem.F.slot_list_insert PySem.F.type_list_insert mt_insert (pv 11) (pa_cons (pe_call G_l_take hr (by rfl) T.g_l_take T.F_l_take.kp T.b_l_take .nil pass0 (pa_cons (pv 0) (pa_cons (pe_op op_add (pe_callB (r := rLenS K) call_lenS (by rfl) T.z_len (by decide +kernel) (pa_cons (pv 11) pa_nil)) (pe_int)) pa_nil))) (pa_cons (pv 22) pa_nil))))
      (pss_one (ps_if (pt_cmpR op_ge (pe_call G_l_take hr (by rfl) T.g_l_take T.F_l_take.kp T.b_l_take .nil pass0 (pa_cons (pv 0) (pa_cons (pe_int) pa_nil))) (pv 4) (nomark _))
        (pss_one (ps_set (i := 9) sc_l_returns.nd rfl (.inr rfl) (pv 17)))
        pss_nil))))))))))))))
    (pss_one (ps_ret (pv 11)))))))))
      , ?_⟩
    have hok := hnb.lj
    have j12 := hnb.j12
    -- wild, slow
    refine ⟨.ref p, rfl, p, 4, rfl, b, by decide, by decide, fun H1 wild k1 b1 _ _ => ?_⟩
    refine ⟨by show 4 ≤ sizeLine; decide, fun t1 nt1 => ?_⟩
    have nt1p : t1 ≠ p := b1.ne nt1
    refine ⟨.ref p, rfl, p, 4, rfl, b1.keep (same_upd nt1), by decide, by decide, fun H2 d2 k2 b2 d20 d21 => ?_⟩
    obtain ⟨slow, hslow, eslow⟩ := pick (ms := [1, 2, 6, 9]) d20 d21
    refine ⟨t1, _, d2, _, rfl, rfl, SqT.of (k2 _ _ nt1p upd_same), eslow, _, _, rfl, ?_⟩
    have k2 : Keep p H H2 := k1.trans ((Keep.of (same_upd nt1)).trans k2)
    have slow1 : 1 ≤ slow ∧ slow ≤ 9 := by
      simp only [List.mem_cons, List.not_mem_nil, or_false] at hslow
      omega
    -- step, base
    refine ⟨by show 4 ≤ sizeLine; decide, fun t2 nt2 => ?_⟩
    have nt2p : t2 ≠ p := b2.ne nt2
    refine ⟨.ref p, rfl, p, 4, rfl, b2.keep (same_upd nt2), by decide, by decide, fun H3 d3 k3 b3 d30 d31 => ?_⟩
    obtain ⟨step, hstep, estep⟩ := pick (ms := [1, 5003, 9998, 13]) d30 d31
    refine ⟨t2, _, d3, _, rfl, rfl, SqT.of (k3 _ _ nt2p upd_same), estep, ?_⟩
    have k3 : Keep p H H3 := k2.trans ((Keep.of (same_upd nt2)).trans k3)
    have hstep : step = 1 ∨ step = 5003 ∨ step = 9998 ∨ step = 13 := by
      simp only [List.mem_cons, List.not_mem_nil, or_false] at hstep
      exact hstep
    refine ⟨.ref p, rfl, p, 9999, rfl, b3, by decide, by decide, fun H4 bs k4 b4 _ _ => ⟨_, _, rfl, ?_⟩⟩
    have k4 := k3.trans k4
    -- wagon
    refine ⟨.ref p, rfl, p, 9999, rfl, b4, by decide, by decide, fun H5 wg k5 b5 _ _ => ⟨1, wg, rfl, rfl, ?_⟩⟩
    have k5 := k4.trans k5
    -- here, day
    refine ⟨nS x, rfl, .ref p, rfl, p, 30, rfl, b5, by decide, by decide, fun H6 dy k6 b6 _ _ => ⟨1, dy, rfl, rfl, two_sz, fun t6 nt6 => ⟨t6, _, rfl, SqT.of upd_same, rfl, _, _, rfl, _, [], rfl, rfl, ?_⟩⟩⟩
    have s6 := same_upd (o := .tup [nS x, .int (1 + dy)]) nt6
    have k6 := (k5.trans k6).trans (.of s6)
    have b6 := b6.keep s6
    generalize upd H6 t6 (.tup [nS x, .int (1 + dy)]) = H6 at k6 b6 ⊢
    -- found
    refine ⟨Nat.zero_le _, fun F nF => ?_⟩
    have nFp : F ≠ p := b6.ne nF
    have nFH : H F = none := k6.free b nF b6
    have k7 : Keep p H (upd H6 F (.lst [])) := k6.trans (.of (same_upd nF))
    have b7 := b6.keep (same_upd (o := .lst []) nF)
    have eF7 : (upd H6 F (.lst [])) F = some (.lst []) := upd_same
    generalize upd H6 F (.lst []) = H7 at k7 b7 eF7 ⊢
    -- range(many * int(net[2] != ()))
    obtain ⟨na, nc, nb, nd, ja, er, tna, tnc, hJ⟩ := hnet.keep k7 b
    have jl := paired_len hJ
    refine ⟨.int (M : Int), rfl, .ref r, rfl, r, [.ref na, nb, .ref nc, nd], 2, .ref nc, rfl, rfl, SqT.of er, atI_nat (j := 2) rfl, Nat.zero_le _, fun e ne => ?_⟩
    have se := same_upd (o := .tup []) ne
    have dJ : Dp K (upd H7 e (.tup [])) (.ref nc) (.tuple (jns.map jD)) := .tup (tnc.same se).sq (dpAll_jD (paired_imp hJ fun x _ j h => h.same se))
    have dE : Dp K (upd H7 e (.tup [])) (.ref e) (.tuple []) := .tup (SqT.of upd_same) .nil
    refine ⟨_, _, dJ, dE, shaped_jD hnb.nms, rfl, .inr ⟨_, rfl, (M : Int), _, rfl, rfl, .inl ⟨by omega, by omega⟩, ?_⟩⟩
    obtain ⟨N, eN, N40, N1⟩ : ∃ N : Nat, (M : Int) * (if (!PyData.eqv (.tuple (jns.map jD)) (.tuple [])) = true then 1 else 0) = (N : Int) ∧ N ≤ M ∧ (0 < N → 1 ≤ jns.length) := by
      cases hj : jns with
      | nil => exact ⟨0, by show (M : Int) * 0 = 0; omega, by omega, fun z => absurd z (Nat.lt_irrefl _)⟩
      | cons j r => exact ⟨M, by show (M : Int) * 1 = M; omega, Nat.le_refl _, fun _ => by rw [List.length_cons]; omega⟩
    refine ⟨(N : Int), congrArg (fun z => [V.int z]) eN, by omega, by omega, ?_⟩
    rw [Int.toNat_natCast]
    have b8 := b7.keep se
    have k8 := k7.trans (.of se)
    have eF8 := se _ _ eF7
    generalize upd H7 e (.tup []) = H8 at b8 k8 eF8 ⊢
    clear hJ tna tnc er dJ dE
    refine for_range (lo := 0) (n := N) (fun i σ Hx => ∃ (here : Nm) (day : Int) (y12 y13 y14 y15 y16 y17 y18 y19 y20 y21 y22 : Option V) (ts : List Addr) (rs : List Rt), σ = [some (.ref p), some (.ref r), some (nS x), some (.int (M : Int)), some (.int wild), some (.int slow), some (.int step), some (.int bs), some (.int (1 + wg)), some (nS here), some (.int day), some (.ref F), y12, y13, y14, y15, y16, y17, y18, y19, y20, y21, y22, none] ∧ Keep p H Hx ∧ Bag Hx p ∧ Hx F = some (.lst (ts.map V.ref)) ∧ Paired (RtA Hx) ts rs ∧ here ∈ ls ∧ ts.length = i ∧ (∀ r ∈ rs, RtFull r ∧ RtFit jns r) ∧ (rs.map (·.num)).Nodup ∧ ∀ r ∈ rs, ∃ j : Nat, j < i ∧ r.num = 1 + (bs + step * (j : Int)) % 9999)
      ⟨x, _, none, none, none, none, none, none, none, none, none, none, none, [], [], rfl, k8, b8, eF8, .nil, xin, rfl, fun r h => (by cases h), .nil, fun r h => (by cases h)⟩ (fun i σ Hx hi hp => ?_) (fun σ Hx hp => ?_)
    · obtain ⟨here, day, y12, y13, y14, y15, y16, y17, y18, y19, y20, y21, y22, ts, rs, rfl, kx, bx, eFx, hts, hin, tl, hfull, hnd, hnum⟩ := hp
      have n1 := N1 (by omega)
      have rl := paired_len hts
      obtain ⟨na, nc, nb, nd, ja, er, tna, tnc, hJ⟩ := hnet.keep kx b
      have jl := paired_len hJ
      -- fit
      refine ⟨.ref r, rfl, r, [.ref na, nb, .ref nc, nd], 2, .ref nc, rfl, rfl, SqT.of er, atI_nat (j := 2) rfl, nc, rfl, ⟨_, tnc.sq⟩, fun D nD => ?_⟩
      refine lc_it (walk_tup (xs := ja.map V.ref)) (fun j Hy => Same Hx Hy ∧ ∃ (fa : List Addr) (js : List (Nm × List Nm)), Hy D = some (.lst (fa.map V.ref)) ∧ Paired (JnT Hx) fa js ∧ (∀ j ∈ js, j ∈ jns) ∧ js.length ≤ j) ⟨same_upd nD, [], [], upd_same, .nil, fun j h => (by cases h), Nat.le_refl _⟩ (fun j Hy _ pv => (tnc.same pv.1).sq) (fun j v Hy₀ Hy hj pv yy => ?_) (fun H9 pv => ?_)
      · obtain ⟨rfl, ex⟩ := yy
        obtain ⟨sy, fa, js, eD, hfa, hjs, jsl⟩ := pv
        obtain ⟨u, eu, rfl⟩ := at_ref ex
        obtain ⟨jn, ejn, hu⟩ := paired_get hJ eu
        have jin : jn ∈ jns := List.mem_of_getElem? ejn
        obtain ⟨jt, h1, h2⟩ := id hu
        have fl := paired_len hfa
        rw [List.length_map] at hj
        refine ⟨rfl, nS here, rfl, .ref u, rfl, u, [nS jn.1, .ref jt], 1, .ref jt, rfl, rfl, SqT.of (sy _ _ h1), atI_nat (j := 1) rfl, jt, _, rfl, .inr (h2.same sy).sq, rfl, flat_nms _, _, rfl, ite2 (fun c => ?_) (fun c => ?_)⟩
        · exact ⟨.ref u, rfl, _, eD, small5000 (by rw [List.length_map]; omega), same_set sy nD, fa ++ [u], js ++ [jn], by rw [upd_same, List.map_append]; rfl, paired_snoc hfa hu, fun j hj => (List.mem_append.mp hj).elim (hjs j) fun z => List.mem_singleton.mp z ▸ jin, by rw [List.length_append, List.length_singleton]; omega⟩
        · exact ⟨sy, fa, js, eD, hfa, hjs, by omega⟩
      obtain ⟨s9, fa, js, eD, hfa, hjs, jsl⟩ := pv
      rw [List.length_map] at jsl
      refine ⟨fun σ Hy => ∃ (G : Addr) (fa : List Addr) (js : List (Nm × List Nm)), σ = [some (.ref p), some (.ref r), some (nS x), some (.int (M : Int)), some (.int wild), some (.int slow), some (.int step), some (.int bs), some (.int (1 + wg)), some (nS here), some (.int day), some (.ref F), some (.int (0 + (i : Int))), some (.ref G), y14, y15, y16, y17, y18, y19, y20, y21, y22, none] ∧ Keep p Hx Hy ∧ Bag Hy p ∧ G ≠ p ∧ Hy G = some (.lst (fa.map V.ref)) ∧ Paired (JnT Hx) fa js ∧ (∀ j ∈ js, j ∈ jns) ∧ 1 ≤ js.length ∧ js.length ≤ 12, ?_, fun σ Hy mid => ?_⟩
      · have whole : ∀ Hy, Keep p Hx Hy → Bag Hy p → ∃ q ys, [V.ref nc] = [V.ref q] ∧ (SqL K Hy q ys ∨ SqT K Hy q ys) ∧ ∀ l, Hy l = none → ∃ (G : Addr) (fa : List Addr) (js : List (Nm × List Nm)), [some (.ref p), some (.ref r), some (nS x), some (.int (M : Int)), some (.int wild), some (.int slow), some (.int step), some (.int bs), some (.int (1 + wg)), some (nS here), some (.int day), some (.ref F), some (.int (0 + (i : Int))), some (.ref l), y14, y15, y16, y17, y18, y19, y20, y21, y22, none] = [some (.ref p), some (.ref r), some (nS x), some (.int (M : Int)), some (.int wild), some (.int slow), some (.int step), some (.int bs), some (.int (1 + wg)), some (nS here), some (.int day), some (.ref F), some (.int (0 + (i : Int))), some (.ref G), y14, y15, y16, y17, y18, y19, y20, y21, y22, none] ∧ Keep p Hx (upd Hy l (.lst ys)) ∧ Bag (upd Hy l (.lst ys)) p ∧ G ≠ p ∧ (upd Hy l (.lst ys)) G = some (.lst (fa.map V.ref)) ∧ Paired (JnT Hx) fa js ∧ (∀ j ∈ js, j ∈ jns) ∧ 1 ≤ js.length ∧ js.length ≤ 12 := fun Hy ky by_ => by
          refine ⟨nc, _, rfl, .inr (tnc.keep ky bx).sq, fun l nl => ⟨l, ja, jns, rfl, ky.trans (.of (same_upd nl)), by_.keep (same_upd nl), by_.ne nl, upd_same, hJ, fun j h => h, n1, j12⟩⟩
        refine ⟨.ref D, rfl, Nat.zero_le _, fun e ne => ?_⟩
        have se := same_upd (o := .lst []) ne
        have bD := (bx.keep s9).keep se
        have kD : Keep p Hx (upd H9 e (.lst [])) := (Keep.of s9).trans (.of se)
        have dF : Dp K (upd H9 e (.lst [])) (.ref D) (.list (js.map jD)) := .lst (SqL.of (se _ _ eD)) (dpAll_jD (paired_imp hfa fun a _ j h => (h.same s9).same se))
        have dE : Dp K (upd H9 e (.lst [])) (.ref e) (.list []) := .lst (SqL.of upd_same) .nil
        have shF : SeqAt.shaped (.list (js.map jD)) = true := shaped_jD (jns := js) fun j hj => hnb.nms j (hjs j hj)
        refine ⟨_, _, dF, dE, shF, rfl, _, rfl, ite2 (fun c => ?_) (fun c => ?_)⟩
        · refine ⟨.ref r, rfl, r, [.ref na, nb, .ref nc, nd], 2, .ref nc, rfl, rfl, SqT.of (se _ _ (s9 _ _ er)), atI_nat (j := 2) rfl, whole _ kD bD⟩
        · have js1 : 1 ≤ js.length := by
            match js, c with
            | [], c => exact absurd rfl c
            | _ :: _, _ => rw [List.length_cons]; omega
          refine ⟨.ref p, rfl, p, 8, rfl, bD, by decide, by decide, fun H10 d k10 b10 _ _ => ⟨.int wild, rfl, d, wild, rfl, rfl, _, rfl, ite2 (fun c2 => ?_) (fun c2 => ?_)⟩⟩
          · refine ⟨.ref r, rfl, r, [.ref na, nb, .ref nc, nd], 2, .ref nc, rfl, rfl, SqT.of (TK.keep (kD.trans k10) bx _ _ er), atI_nat (j := 2) rfl, whole _ (kD.trans k10) b10⟩
          · exact ⟨D, fa, js, rfl, kD.trans k10, b10, bx.ne nD, k10 _ _ (bx.ne nD) (se _ _ eD), hfa, hjs, js1, by omega⟩
      clear jsl hjs hfa eD
      obtain ⟨G, fa, js, rfl, ky, by_, Gp, eG, hfa, hjs, js1, jsl⟩ := mid
      have fl := paired_len hfa
      -- place, lines
      refine ⟨.ref G, rfl, .ref p, rfl, .ref G, rfl, G, _, rfl, .inl (SqL.of eG), p, (fa.length : Int), by rw [List.length_map]; rfl, by_, by omega, by omega, fun H10 d k10 b10 d0 d1 => ?_⟩
      obtain ⟨d, rfl⟩ : ∃ xn : Nat, d = (xn : Int) := ⟨d.toNat, by omega⟩
      have hd : d < fa.length := by omega
      refine ⟨G, _, _, .ref fa[d], rfl, rfl, SqL.of (k10 _ _ Gp eG), atI_nat (by rw [List.getElem?_map, List.getElem?_eq_getElem hd]; rfl), ?_⟩
      have k10 : Keep p Hx H10 := ky.trans k10
      obtain ⟨jn, ejn, hjn⟩ := paired_get hfa (List.getElem?_eq_getElem hd)
      have jin : jn ∈ jns := hjs jn (List.mem_of_getElem? ejn)
      obtain ⟨jt, ejt1, ejt2⟩ := hjn.keep k10 bx
      refine ⟨fa[d], _, rfl, SqT.of ejt1, rfl, _, _, rfl, _, [], rfl, rfl, ?_⟩
      have j2 := hnb.two jn jin
      have j8 := hok.j9 jn jin
      -- some
      refine ⟨.ref jt, rfl, jt, rfl, ⟨_, ejt2.sq⟩, fun S nS_ => ?_⟩
      refine lc_it (walk_tup (xs := jn.2.map nS)) (fun k H4 => Same H10 H4 ∧ H4 S = some (.lst ((fromL (jn.2.take k) here).map nS))) ⟨same_upd nS_, upd_same⟩ (fun k H4 _ pv => sqs pv.1 ejt2.sq) (fun k v H4₀ H4 hk pv yy => ?_) (fun H11 pv => ?_)
      · obtain ⟨rfl, ey⟩ := yy
        obtain ⟨s4, eS⟩ := pv
        obtain ⟨z, ez, rfl⟩ := at_nm ey
        have tk : jn.2.take (k + 1) = jn.2.take k ++ [z] := by rw [List.take_add_one, ez]; rfl
        refine ⟨rfl, nS z, rfl, nS here, rfl, rfl, _, rfl, ite2 (fun c2 => ?_) (fun c2 => ?_)⟩
        · rw [ne_dec] at c2
          refine ⟨nS z, rfl, _, eS, small5000 ?_, same_set s4 nS_, ?_⟩
          · rw [List.length_map]
            unfold fromL
            refine Nat.le_trans (List.length_filter_le _ _) ?_
            rw [List.length_take]
            omega
          · rw [upd_same, tk]
            unfold fromL
            rw [List.filter_append, List.filter_cons_of_pos (by exact c2), List.map_append]
            rfl
        · rw [ne_dec] at c2
          refine ⟨s4, ?_⟩
          rw [eS, tk]
          unfold fromL
          rw [List.filter_append, List.filter_cons_of_neg (by exact c2), List.filter_nil, List.append_nil]
      obtain ⟨s11, eS⟩ := pv
      rw [List.length_map, List.take_length] at eS
      have f1 := fromL_ne (y := here) (hok.jnd jn jin) j2
      have f8 : (fromL jn.2 here).length ≤ 8 := Nat.le_trans (List.length_filter_le _ _) j8
      have k11 : Keep p Hx H11 := k10.trans (.of s11)
      have b11 := b10.keep s11
      have Sp : S ≠ p := b10.ne nS_
      generalize hfr : fromL jn.2 here = fr at eS f1 f8
      -- over
      refine ⟨.ref S, rfl, .ref p, rfl, .ref S, rfl, S, _, rfl, .inl (SqL.of eS), p, (fr.length : Int), by rw [List.length_map]; rfl, b11, by omega, by omega, fun H12 d2 k12 b12 d20 d21 => ?_⟩
      obtain ⟨d2, rfl⟩ : ∃ xn : Nat, d2 = (xn : Int) := ⟨d2.toNat, by omega⟩
      have hd2 : d2 < fr.length := by omega
      refine ⟨S, _, _, nS fr[d2], rfl, rfl, SqL.of (k12 _ _ Sp eS), atI_nat (by rw [List.getElem?_map, List.getElem?_eq_getElem hd2]; rfl), ?_⟩
      have oin : fr[d2] ∈ jn.2 := by
        have : fr[d2] ∈ fromL jn.2 here := by rw [hfr]; exact List.getElem_mem hd2
        exact (mem_fromL.mp this).1
      generalize fr[d2] = over at oin ⊢
      have oinl : over ∈ ls := hok.sub jn jin over oin
      have k12 : Keep p Hx H12 := k11.trans k12
      -- day, hour
      refine ⟨.int day, rfl, .ref p, rfl, .int slow, rfl, p, slow, rfl, b12, by omega, by omega, fun H13 d3 k13 b13 _ _ => ⟨day, d3, rfl, rfl, 420, day + d3, rfl, ?_⟩⟩
      have k13 : Keep p Hx H13 := k12.trans k13
      generalize (if day + d3 < 420 then day + d3 else 420) = day'
      refine ⟨.ref p, rfl, p, 24, rfl, b13, by decide, by decide, fun H14 hour k14 b14 _ _ => ?_⟩
      have k14 : Keep p Hx H14 := k13.trans k14
      -- load, seal
      refine ⟨two_sz, fun u1 nu1 => ?_⟩
      have nu1p : u1 ≠ p := b14.ne nu1
      refine ⟨.ref p, rfl, p, 2, rfl, b14.keep (same_upd nu1), by decide, by decide, fun H15 d5 k15 b15 d50 d51 => ?_⟩
      obtain ⟨ld, eld, hld⟩ := pick2 (a := ("laden" : Str)) (b := ("empty" : Str)) d50 d51
      refine ⟨u1, _, d5, _, rfl, rfl, SqT.of (k15 _ _ nu1p upd_same), eld, ?_⟩
      have k15 : Keep p Hx H15 := k14.trans ((Keep.of (same_upd nu1)).trans k15)
      refine ⟨two_sz, fun u2 nu2 => ?_⟩
      have nu2p : u2 ≠ p := b15.ne nu2
      refine ⟨.ref p, rfl, p, 2, rfl, b15.keep (same_upd nu2), by decide, by decide, fun H16 d6 k16 b16 d60 d61 => ?_⟩
      obtain ⟨sl, esl, hsl⟩ := pick2 (a := ("whole" : Str)) (b := ("broken" : Str)) d60 d61
      refine ⟨u2, _, d6, _, rfl, rfl, SqT.of (k16 _ _ nu2p upd_same), esl, _, _, rfl, ?_⟩
      have k16 : Keep p Hx H16 := k15.trans ((Keep.of (same_upd nu2)).trans k16)
      have okl : PyData.strOk ld = true := by rcases hld with rfl | rfl <;> decide +kernel
      have oks : PyData.strOk sl = true := by rcases hsl with rfl | rfl <;> decide +kernel
      -- number
      refine ⟨.int bs, rfl, .int step, rfl, .int (0 + (i : Int)), rfl, step, _, rfl, rfl, .inl ⟨by omega, by omega⟩, bs, _, rfl, rfl, _, 9999, rfl, rfl, by show (0 : Int) < 9999; decide, 1, _, rfl, rfl, ?_⟩
      have enum : 1 + (bs + step * (0 + (i : Int))) % 9999 = 1 + (bs + step * (i : Int)) % 9999 := by rw [Int.zero_add]
      -- paper
      refine ⟨.int (1 + (bs + step * (0 + (i : Int))) % 9999), rfl, .ref p, rfl, p, 99, rfl, b16, by decide, by decide, fun H17 ha k17 b17 _ _ => ⟨1, ha, rfl, rfl, ?_⟩⟩
      have k17 : Keep p Hx H17 := k16.trans k17
      refine ⟨nS jn.1, rfl, .int day', rfl, .int hour, rfl, .int (1 + wg), rfl, nS over, rfl, .str ld, rfl, .str sl, rfl, by show 10 ≤ sizeLine; decide, fun u nu => ?_⟩
      generalize hrr : (⟨1 + (bs + step * (0 + (i : Int))) % 9999, jn.1, day', hour, over, [.str ("return" : Str), .int (1 + (bs + step * (0 + (i : Int))) % 9999), .int (1 + ha), nS jn.1, .int day', .int hour, .int (1 + wg), nS over, .str ld, .str sl]⟩ : Rt) = rr
      have rfu : RtFull rr := by
        rw [← hrr]
        exact ⟨⟨1 + ha, 1 + wg, ld, sl, rfl, okl, oks⟩, hnb.jnm jn jin, hnb.lnm over oinl⟩
      have rfi : RtFit jns rr := by
        rw [← hrr]
        exact ⟨jn, jin, rfl, oin⟩
      have hu : RtA (upd H17 u (.tup [.str ("return" : Str), .int (1 + (bs + step * (0 + (i : Int))) % 9999), .int (1 + ha), nS jn.1, .int day', .int hour, .int (1 + wg), nS over, .str ld, .str sl])) u rr := by
        rw [← hrr]
        exact upd_same
      have rnum : rr.num = 1 + (bs + step * (i : Int)) % 9999 := by rw [← hrr]; exact enum
      have b18 := b17.keep (same_upd (o := .tup [.str ("return" : Str), .int (1 + (bs + step * (0 + (i : Int))) % 9999), .int (1 + ha), nS jn.1, .int day', .int hour, .int (1 + wg), nS over, .str ld, .str sl]) nu)
      have k18 : Keep p Hx (upd H17 u (.tup [.str ("return" : Str), .int (1 + (bs + step * (0 + (i : Int))) % 9999), .int (1 + ha), nS jn.1, .int day', .int hour, .int (1 + wg), nS over, .str ld, .str sl])) := k17.trans (.of (same_upd nu))
      generalize upd H17 u (.tup [.str ("return" : Str), .int (1 + (bs + step * (0 + (i : Int))) % 9999), .int (1 + ha), nS jn.1, .int day', .int hour, .int (1 + wg), nS over, .str ld, .str sl]) = H18 at hu b18 k18 ⊢
      have eF18 := k18 _ _ nFp eFx
      -- found.insert
      refine ⟨.ref F, rfl, .inl ⟨rfl, _, SqL.of eF18⟩, .ref p, rfl, .ref F, rfl, F, _, rfl, .inl (SqL.of eF18), _, 1, rfl, rfl, p, ((i + 1 : Nat) : Int), by rw [List.length_map, tl]; rfl, b18, by omega, by omega, fun H19 d7 k19 b19 d70 d71 => ?_⟩
      obtain ⟨d7, rfl⟩ : ∃ xn : Nat, d7 = (xn : Int) := ⟨d7.toNat, by omega⟩
      have k19' : Keep p Hx H19 := k18.trans k19
      have eF19 := k19 _ _ nFp eF18
      refine ⟨.ref u, rfl, F, _, (d7 : Int), _, rfl, rfl, eF19, small5000 (by rw [List.length_map]; omega), by omega, by omega, ?_⟩
      rw [Int.toNat_natCast]
      have hts19 : Paired (RtA H19) ts rs := paired_imp hts fun a _ r h => h.keep k19' bx
      have hu19 : RtA H19 u rr := hu.keep k19 b18
      have eFn : (upd H19 F (.lst ((ts.map V.ref).take d7 ++ [.ref u] ++ (ts.map V.ref).drop d7))) F = some (.lst ((ts.take d7 ++ [u] ++ ts.drop d7).map V.ref)) := by
        rw [upd_same, List.map_append, List.map_append, List.map_take, List.map_drop]
        rfl
      have hpn : Paired (RtA (upd H19 F (.lst ((ts.map V.ref).take d7 ++ [.ref u] ++ (ts.map V.ref).drop d7)))) (ts.take d7 ++ [u] ++ ts.drop d7) (rs.take d7 ++ [rr] ++ rs.drop d7) := paired_app (paired_app (paired_take d7 (paired_imp hts19 fun a _ r h => h.updL eF19)) (.cons (hu19.updL eF19) .nil)) (paired_drop d7 (paired_imp hts19 fun a _ r h => h.updL eF19))
      have kn : Keep p H (upd H19 F (.lst ((ts.map V.ref).take d7 ++ [.ref u] ++ (ts.map V.ref).drop d7))) := (kx.trans k19').set nFH
      have bn : Bag (upd H19 F (.lst ((ts.map V.ref).take d7 ++ [.ref u] ++ (ts.map V.ref).drop d7))) p := b19.at (upd_ne nFp.symm)
      generalize upd H19 F (.lst ((ts.map V.ref).take d7 ++ [.ref u] ++ (ts.map V.ref).drop d7)) = H20 at eFn hpn kn bn ⊢
      have pm := ins_perm rs rr d7
      have tl' : (ts.take d7 ++ [u] ++ ts.drop d7).length = i + 1 := by rw [(ins_perm ts u d7).length_eq, List.length_cons, tl]
      have hfull' : ∀ r ∈ rs.take d7 ++ [rr] ++ rs.drop d7, RtFull r ∧ RtFit jns r := fun r hr' => by
        rcases List.mem_cons.mp (pm.mem_iff.mp hr') with c | c
        · rw [c]
          exact ⟨rfu, rfi⟩
        · exact hfull r c
      have hnum' : ∀ r ∈ rs.take d7 ++ [rr] ++ rs.drop d7, ∃ j : Nat, j < i + 1 ∧ r.num = 1 + (bs + step * (j : Int)) % 9999 := fun r hr' => by
        rcases List.mem_cons.mp (pm.mem_iff.mp hr') with c | c
        · rw [c]
          exact ⟨i, by omega, rnum⟩
        · obtain ⟨j, h1, h2⟩ := hnum r c
          exact ⟨j, by omega, h2⟩
      have hnd' : ((rs.take d7 ++ [rr] ++ rs.drop d7).map (·.num)).Nodup := by
        rw [(pm.map (·.num)).nodup_iff, List.map_cons]
        refine List.nodup_cons.mpr ⟨fun h => ?_, hnd⟩
        obtain ⟨r', h1, h2⟩ := List.mem_map.mp h
        obtain ⟨j, h3, h4⟩ := hnum r' h1
        refine num_ne (b := bs) (i := i) (j := j) hstep h3 (by omega) ?_
        rw [← rnum, ← h4]
        exact h2.symm
      -- here
      refine ⟨.ref p, rfl, p, 9, rfl, bn, by decide, by decide, fun H21 d8 k21 b21 _ _ => ⟨.int wild, rfl, d8, wild, rfl, rfl, _, rfl, ite2 (fun c => ?_) (fun c => ?_)⟩⟩
      · exact ⟨nS over, rfl, over, _, _, _, _, _, _, _, _, _, _, _, _, _, _, rfl, kn.trans k21, b21, k21 _ _ nFp eFn, paired_imp hpn fun a _ r h => h.keep k21 bn, oinl, tl', hfull', hnd', hnum'⟩
      · exact ⟨here, _, _, _, _, _, _, _, _, _, _, _, _, _, _, rfl, kn.trans k21, b21, k21 _ _ nFp eFn, paired_imp hpn fun a _ r h => h.keep k21 bn, hin, tl', hfull', hnd', hnum'⟩
    · obtain ⟨here, day, y12, y13, y14, y15, y16, y17, y18, y19, y20, y21, y22, ts, rs, rfl, kx, bx, eFx, hts, hin, tl, hfull, hnd, hnum⟩ := hp
      exact ⟨.ref F, rfl, q _ F ts rs kx bx nFH eFx hts hfull hnd (by omega)⟩
end
end Th
namespace Th
open PySem PySem.Spec PyProof.Rows L2
/-! how many wrong ones a list of steps tells of: the law's own reckoning -/
def stpD : Stp → PyData
  | .aside n => .tuple [.str ("aside" : Str), .int n]
  | .gap rd => .tuple [.str ("gap" : Str), .tuple ((rd.map SX.S).map PyData.str)]
  | .held n l o => .tuple [.str ("held" : Str), .int n, .str (SX.S l), .str (SX.S o)]
def StOk : Stp → Prop
  | .aside _ => True
  | .gap rd => ∀ z ∈ rd, IsNm z
  | .held _ l o => IsNm l ∧ IsNm o
theorem lay_stp {s : Stp} (h : StOk s) : (stpD s).canLay0 = true := by
  cases s with
  | aside n => show (PyData.strOk ("aside" : Str) && (true && true)) = true; decide +kernel
  | gap rd =>
    show (PyData.strOk ("gap" : Str) && (PyData.canLayAll0 ((rd.map SX.S).map PyData.str) && true)) = true
    rw [layAll_nms h]
    decide +kernel
  | held n l o =>
    show (PyData.strOk ("held" : Str) && (true && (PyData.strOk (SX.S l) && (PyData.strOk (SX.S o) && true)))) = true
    rw [nm_ok h.1, nm_ok h.2]
    decide +kernel
theorem depth_stp (s : Stp) : (stpD s).depth ≤ 2 := by
  cases s with
  | aside n => exact Nat.le_of_ble_eq_true rfl
  | gap rd =>
    show max 0 (max (PyData.depthAll ((rd.map SX.S).map PyData.str) + 1) 0) + 1 ≤ 2
    rw [depthAll_nms]
    decide
  | held n l o => exact Nat.le_of_ble_eq_true rfl
theorem shaped_stp {s : Stp} (h : StOk s) : SeqAt.shaped (stpD s) = true := Bool.and_eq_true_iff.mpr ⟨lay_stp h, decide_eq_true (by have := depth_stp s; omega)⟩
theorem dp_stp {K : PySem.W.Frag} {H : Hp} {a : Addr} {s : Stp} (h : StpA H a s) : Dp K H (.ref a) (stpD s) := by
  cases s with
  | aside n => exact .tup (SqT.of h) (.cons (.str _) (.cons (.int _) .nil))
  | gap rd =>
    obtain ⟨u, h1, h2⟩ := h
    exact .tup (SqT.of h1) (.cons (.str _) (.cons (.tup (SqT.of h2) (dpAll_nmsP rd)) .nil))
  | held n l o => exact .tup (SqT.of h) (.cons (.str _) (.cons (.int _) (.cons (.str _) (.cons (.str _) .nil))))
theorem eqv_first {a b : Str} {xs ys : List PyData} (h : a ≠ b) : PyData.eqv (.tuple (.str a :: xs)) (.tuple (.str b :: ys)) = false := by
  rw [PyData.eqv, PyData.eqvAll]
  have : PyData.eqv (.str a) (.str b) = false := (PySem.W.Datum.eqv (α := Str) a b).trans (decide_eq_false h)
  rw [this]
  rfl
section
variable {jns : List (Nm × List Nm)} {ls : List Nm}
theorem fars_in (hok : LJok ls jns) (jnd : (jns.map (·.1)).Nodup) {r : Rt} (hf : RtFit jns r) : ∀ f ∈ fars jns r, f ∈ ls := fun f h => by
  obtain ⟨j, jin, ej, _⟩ := hf
  unfold fars at h
  rw [← ej, jLines_of jnd jin] at h
  exact hok.sub j jin f (mem_fromL.mp h).1
theorem over_in (hok : LJok ls jns) {r : Rt} (hf : RtFit jns r) : r.over ∈ ls := let ⟨j, jin, _, h⟩ := hf; hok.sub j jin _ h
theorem roadF_gr (hok : LJok ls jns) (jnd : (jns.map (·.1)).Nodup) {r : Rt} (hf : RtFit jns r) {l : Nm} {n : Nat} (h : lackF jns r l = some n) : Rm.Gr (Adj jns) (· ∈ fars jns r) n l (roadF jns r l) ∧ Rd' jns (fars jns r) l (roadF jns r l) := by
  have hd := lackF_some.mp h
  obtain ⟨rd, hg⟩ := Rm.gr_ex (ls := ls) (fun n y h => af_in hok (fars_in hok jnd hf) h) n hd
  have e := roadF_of (.inl ⟨n, hd, hg⟩)
  rw [e]
  exact ⟨hg, .inl ⟨n, hd, hg⟩⟩
theorem lastN_in {r : Rt} {l : Nm} {n : Nat} {rd : List Nm} (h : Rm.Gr (Adj jns) (· ∈ fars jns r) n l rd) : lastN rd ∈ fars jns r := by
  obtain ⟨z, e, hz⟩ := h.last
  unfold lastN
  rw [e]
  exact hz
theorem stepsM_ok (hok : LJok ls jns) (jnd : (jns.map (·.1)).Nodup) (hnm : ∀ z ∈ ls, IsNm z) : ∀ (rs : List Rt) (x : Nm), (∀ r ∈ rs, RtFit jns r) → x ∈ ls → ∀ s ∈ stepsM jns rs x, StOk s
  | [], _, _, _, s, h => (by cases h)
  | r :: rs, x, hr, hx, s, h => by
    have hf := hr r List.mem_cons_self
    have ih := fun y hy => stepsM_ok hok jnd hnm rs y (fun r h => hr r (List.mem_cons_of_mem _ h)) hy
    have ho := over_in hok hf
    cases e : lackF jns r x with
    | none =>
      rw [stepsM_none e] at h
      rcases List.mem_cons.mp h with c | c
      · rw [c]; exact True.intro
      · exact ih x hx s c
    | some n =>
      obtain ⟨hg, hrd⟩ := roadF_gr hok jnd hf e
      have hin := (rd_in hok (fars_in hok jnd hf) hrd).1
      rw [stepsM_some e] at h
      split at h
      · rcases List.mem_cons.mp h with c | c
        · rw [c]; exact True.intro
        · exact ih x hx s c
      · split at h
        · rcases List.mem_cons.mp h with c | c
          · rw [c]
            exact fun z hz => hnm z (hin z hz)
          · rcases List.mem_cons.mp c with c | c
            · rw [c]
              exact ⟨hnm _ (fars_in hok jnd hf _ (lastN_in hg)), hnm _ ho⟩
            · exact ih _ ho s c
        · rcases List.mem_cons.mp h with c | c
          · rw [c]
            exact ⟨hnm _ hx, hnm _ ho⟩
          · exact ih _ ho s c
theorem stepsM_nil {rs : List Rt} {l : Nm} (h : stepsM jns rs l = []) : rs = [] := by
  cases rs with
  | nil => rfl
  | cons r rs =>
    cases e : lackF jns r l with
    | none => rw [stepsM_none e] at h; cases h
    | some n =>
      rw [stepsM_some e] at h
      split at h
      · cases h
      · split at h <;> cases h
end
end Th
namespace Th
open PySem PySem.Spec PyProof.Rows L2
/-! returns in whatever order: the same order; steps and papers as data -/
theorem lt3 {d1 h1 n1 d2 h2 n2 : Int} : PyProof.Rows.lexLt PyProof.Rows.itemOrd (PySem.W.keyToksAll [.int d1, .int h1, .int n1]) (PySem.W.keyToksAll [.int d2, .int h2, .int n2]) = true ↔ (d1 < d2 ∨ (d1 = d2 ∧ (h1 < h2 ∨ (h1 = h2 ∧ n1 < n2)))) := by
  by_cases c1 : d1 = d2
  · have e1 : PyData.eqv (.int d1) (.int d2) = true := by rw [eqv_int, decide_eq_true c1]
    rw [PySem.W.dataLt_all_yes (alike_int d1 d2) e1]
    by_cases c2 : h1 = h2
    · have e2 : PyData.eqv (.int h1) (.int h2) = true := by rw [eqv_int, decide_eq_true c2]
      rw [PySem.W.dataLt_all_yes (alike_int h1 h2) e2]
      by_cases c3 : n1 = n2
      · rw [c3, show PyProof.Rows.lexLt PyProof.Rows.itemOrd (PySem.W.keyToksAll [.int n2]) (PySem.W.keyToksAll [.int n2]) = false from (PySem.W.dataLt_tuple _ _).symm.trans (PySem.W.dataLt_self _)]
        constructor
        · intro h; cases h
        · intro h; omega
      · have e3 : PyData.eqv (.int n1) (.int n2) = false := by rw [eqv_int, decide_eq_false c3]
        rw [PySem.W.dataLt_all_no (alike_int n1 n2) e3, PySem.W.dataLt_int, decide_eq_true_eq]
        omega
    · have e2 : PyData.eqv (.int h1) (.int h2) = false := by rw [eqv_int, decide_eq_false c2]
      rw [PySem.W.dataLt_all_no (alike_int h1 h2) e2, PySem.W.dataLt_int, decide_eq_true_eq]
      omega
  · have e1 : PyData.eqv (.int d1) (.int d2) = false := by rw [eqv_int, decide_eq_false c1]
    rw [PySem.W.dataLt_all_no (alike_int d1 d2) e1, PySem.W.dataLt_int, decide_eq_true_eq]
    omega
theorem key_num {a b : Rt} (h1 : PySem.W.dataLt (Lr.key3 kR b) (Lr.key3 kR a) = false) (h2 : PySem.W.dataLt (Lr.key3 kR a) (Lr.key3 kR b) = false) : a.num = b.num := by
  have k1 : ¬ PySem.W.dataLt (Lr.key3 kR b) (Lr.key3 kR a) = true := by rw [h1]; simp
  have k2 : ¬ PySem.W.dataLt (Lr.key3 kR a) (Lr.key3 kR b) = true := by rw [h2]; simp
  have k1 : ¬ _ := fun z => k1 ((PySem.W.dataLt_tuple _ _).trans (lt3.mpr z))
  have k2 : ¬ _ := fun z => k2 ((PySem.W.dataLt_tuple _ _).trans (lt3.mpr z))
  have k1 : ¬ (b.day < a.day ∨ (b.day = a.day ∧ (b.hour < a.hour ∨ (b.hour = a.hour ∧ b.num < a.num)))) := k1
  have k2 : ¬ (a.day < b.day ∨ (a.day = b.day ∧ (a.hour < b.hour ∨ (a.hour = b.hour ∧ a.num < b.num)))) := k2
  omega
theorem sortR_eq {rs rs' : List Rt} (h : rs.Perm rs') (nd : (rs.map (·.num)).Nodup) : sortR rs = sortR rs' := by
  have tt := PySem.W.sortLe_total (PyProof.Rows.listOrd PyProof.Rows.itemOrd) false (fun r : Rt => PySem.W.keyToks (Lr.key3 kR r))
  refine List.Perm.eq_of_pairwise (le := fun a b => PySem.W.dataLe false (Lr.key3 kR) a b = true) (fun a b ha hb h1 h2 => ?_) (List.pairwise_mergeSort (fun a b c => tt.trans a b c) (fun a b => Bool.or_eq_true_iff.mpr (tt.total a b)) _) (List.pairwise_mergeSort (fun a b c => tt.trans a b c) (fun a b => Bool.or_eq_true_iff.mpr (tt.total a b)) _) ((sortR_perm rs).trans (h.trans (sortR_perm rs').symm))
  have ha := (sortR_perm rs).mem_iff.mp ha
  have hb := h.mem_iff.mpr ((sortR_perm rs').mem_iff.mp hb)
  refine num_inj nd ha hb (key_num ?_ ?_)
  · have h1 : (!PySem.W.dataLt (Lr.key3 kR b) (Lr.key3 kR a)) = true := h1
    simpa using h1
  · have h2 : (!PySem.W.dataLt (Lr.key3 kR a) (Lr.key3 kR b)) = true := h2
    simpa using h2
theorem dpAll_paper {K : PySem.W.Frag} {H : Hp} : ∀ {ts : List Addr} {rs : List Rt}, Paired (RtA H) ts rs → (∀ r ∈ rs, RtFull r) → DpAll K H (ts.map V.ref) (rs.map paperD)
  | _, _, .nil, _ => .nil
  | _, _, .cons h t, f => .cons (dp_paper h (f _ List.mem_cons_self)) (dpAll_paper t fun r hr => f r (List.mem_cons_of_mem _ hr))
theorem layAll_paper : ∀ {rs : List Rt}, (∀ r ∈ rs, RtFull r) → PyData.canLayAll0 (rs.map paperD) = true
  | [], _ => rfl
  | r :: rs, f => by
    show ((paperD r).canLay0 && PyData.canLayAll0 (rs.map paperD)) = true
    rw [lay_paper (f r List.mem_cons_self), layAll_paper fun r hr => f r (List.mem_cons_of_mem _ hr)]
    rfl
theorem depthAll_paper : ∀ {rs : List Rt}, (∀ r ∈ rs, RtFull r) → PyData.depthAll (rs.map paperD) ≤ 1
  | [], _ => Nat.zero_le _
  | r :: rs, f => Nat.max_le.mpr ⟨paperD_depth (f r List.mem_cons_self), depthAll_paper fun r hr => f r (List.mem_cons_of_mem _ hr)⟩
theorem shaped_papers {rs : List Rt} (f : ∀ r ∈ rs, RtFull r) : SeqAt.shaped (.list (rs.map paperD)) = true := Bool.and_eq_true_iff.mpr ⟨layAll_paper f, decide_eq_true (by
  show PyData.depthAll (rs.map paperD) + 1 ≤ 64
  have := depthAll_paper f
  omega)⟩
theorem dpAll_stp {K : PySem.W.Frag} {H : Hp} : ∀ {fa : List Addr} {ss : List Stp}, Paired (StpA H) fa ss → DpAll K H (fa.map V.ref) (ss.map stpD)
  | _, _, .nil => .nil
  | _, _, .cons h t => .cons (dp_stp h) (dpAll_stp t)
theorem layAll_stp : ∀ {ss : List Stp}, (∀ s ∈ ss, StOk s) → PyData.canLayAll0 (ss.map stpD) = true
  | [], _ => rfl
  | s :: ss, f => by
    show ((stpD s).canLay0 && PyData.canLayAll0 (ss.map stpD)) = true
    rw [lay_stp (f s List.mem_cons_self), layAll_stp fun r hr => f r (List.mem_cons_of_mem _ hr)]
    rfl
theorem depthAll_stp : ∀ ss : List Stp, PyData.depthAll (ss.map stpD) ≤ 2
  | [] => Nat.zero_le _
  | s :: ss => Nat.max_le.mpr ⟨depth_stp s, depthAll_stp ss⟩
theorem shaped_stps {ss : List Stp} (f : ∀ s ∈ ss, StOk s) : SeqAt.shaped (.list (ss.map stpD)) = true := Bool.and_eq_true_iff.mpr ⟨layAll_stp f, decide_eq_true (by
  show PyData.depthAll (ss.map stpD) + 1 ≤ 64
  have := depthAll_stp ss
  omega)⟩
theorem NB.ext {H H' : Hp} {r : Addr} {ls : List Nm} {jns : List (Nm × List Nm)} (h : NB H r ls jns) (e : LamX.ExtN H H') : NB H' r ls jns := by
  obtain ⟨a, c, b, d, ja, h1, ⟨o2, h2, d2⟩, ⟨o3, h3, d3⟩, h4⟩ := h
  exact ⟨a, c, b, d, ja, e _ _ h1 fun _ z => (nomatch z), ⟨o2, e _ _ h2 (fun _ z => (nomatch z)), d2⟩, ⟨o3, e _ _ h3 (fun _ z => (nomatch z)), d3⟩, paired_imp h4 fun x _ j ⟨t, e1, ⟨o4, e2, d4⟩⟩ => ⟨t, e _ _ e1 fun _ z => (nomatch z), o4, e _ _ e2 (fun _ z => (nomatch z)), d4⟩⟩
/-- a store to a list leaves what is no list -/
theorem NB.updL {H : Hp} {r p : Addr} {o : HO} {xs : List V} {ls : List Nm} {jns : List (Nm × List Nm)} (h : NB H r ls jns) (e : H p = some (.lst xs)) : NB (upd H p o) r ls jns := by
  obtain ⟨a, c, b, d, ja, h1, ⟨o2, h2, d2⟩, ⟨o3, h3, d3⟩, h4⟩ := h
  have k1 : ∀ {q : Addr} {ys : List V}, H q = some (.tup ys) → (upd H p o) q = some (.tup ys) := fun {q ys} z => by
    rw [upd_ne fun w => by rw [w, e] at z; cases z]
    exact z
  have k2 : ∀ {q : Addr} {ob : Obj} {u : HO}, H q = some (.frz ob u) → (upd H p o) q = some (.frz ob u) := fun {q ob u} z => by
    rw [upd_ne fun w => by rw [w, e] at z; cases z]
    exact z
  exact ⟨a, c, b, d, ja, k1 h1, ⟨o2, k2 h2, d2⟩, ⟨o3, k2 h3, d3⟩, paired_imp h4 fun x _ j ⟨t, e1, ⟨o4, e2, d4⟩⟩ => ⟨t, k1 e1, o4, k2 e2, d4⟩⟩
theorem StpA.updL {H : Hp} {a p : Addr} {s : Stp} {o : HO} {xs : List V} (h : StpA H a s) (e : H p = some (.lst xs)) : StpA (upd H p o) a s := h.tk fun b ys z => by
  rw [upd_ne fun w => by rw [w, e] at z; cases z]
  exact z
theorem ext_keep2 {H H1 H2 : Hp} {p : Addr} (e : LamX.ExtN H H1) (n : NewN H p) (k : Keep p H1 H2) : LamX.ExtN H H2 := fun b o h nt => k b o (n b o h nt) (e b o h nt)
theorem ext_updN {H H1 : Hp} {p : Addr} {u : HO} (e : LamX.ExtN H H1) (n : NewN H p) : LamX.ExtN H (upd H1 p u) := fun b o h nt => by
  rw [upd_ne (n b o h nt)]
  exact e b o h nt
theorem stepsM_len {jns : List (Nm × List Nm)} : ∀ (rs : List Rt) (x : Nm), (stepsM jns rs x).length ≤ 2 * rs.length
  | [], _ => Nat.le_refl _
  | r :: rs, x => by
    have h1 := stepsM_len (jns := jns) rs x
    have h2 := stepsM_len (jns := jns) rs r.over
    rw [List.length_cons]
    cases e : lackF jns r x with
    | none => rw [stepsM_none e, List.length_cons]; omega
    | some n =>
      rw [stepsM_some e]
      split
      · rw [List.length_cons]; omega
      · split
        · rw [List.length_cons, List.length_cons]; omega
        · rw [List.length_cons]; omega
end Th
namespace Th
open PySem PySem.Spec PyProof.Rows L2
/-! the law's table: what it costs to hold a return next -/
/-- the line behind i returns -/
def atM (x : Nm) (rs : List Rt) : Nat → Nm
  | 0 => x
  | i + 1 => (rs[i]?.map (·.over)).getD []
theorem atM_get {x : Nm} {rs : List Rt} {i : Nat} (h : i ≤ rs.length) : (x :: rs.map (·.over))[i]? = some (atM x rs i) := by
  cases i with
  | zero => rfl
  | succ i =>
    have hl : i < rs.length := by omega
    rw [List.getElem?_cons_succ, List.getElem?_map, List.getElem?_eq_getElem hl]
    show some rs[i].over = some ((rs[i]?.map (·.over)).getD [])
    rw [List.getElem?_eq_getElem hl]
    rfl
theorem atM_in {jns : List (Nm × List Nm)} {ls : List Nm} {x : Nm} {rs : List Rt} (hok : LJok ls jns) (hx : x ∈ ls) (hr : ∀ r ∈ rs, RtFit jns r) {i : Nat} (h : i ≤ rs.length) : atM x rs i ∈ ls := by
  cases i with
  | zero => exact hx
  | succ i =>
    have hl : i < rs.length := by omega
    show (rs[i]?.map (·.over)).getD [] ∈ ls
    rw [List.getElem?_eq_getElem hl]
    exact over_in hok (hr _ (List.getElem_mem hl))
noncomputable def lenR (jns : List (Nm × List Nm)) (rr : Rt) (l : Nm) : Nat := (roadF jns rr l).length
/-- what stands in the table for holding rr, the j-th, next behind i -/
noncomputable def costV (jns : List (Nm × List Nm)) (l : Nm) (i j : Nat) (rr : Rt) : V := if i < j ∧ 0 < lenR jns rr l then .int ((j : Int) - (i : Int) - 2 + ((lenR jns rr l : Nat) : Int)) else .non
noncomputable def rowM (jns : List (Nm × List Nm)) (x : Nm) (rs : List Rt) (i : Nat) : List V := rs.mapIdx fun j0 rr => costV jns (atM x rs i) i (j0 + 1) rr
abbrev k3 (l : Nm) (rr : Rt) : List Key := [Sum.inr (SX.S l), Sum.inr (SX.S rr.jn), Sum.inr (SX.S rr.over)]
theorem k3_inj {l l' : Nm} {r r' : Rt} (h : k3 l r = k3 l' r') : l = l' ∧ kP r = kP r' := by
  injection h with h1 h2
  exact ⟨SX.S_inj (Sum.inr.inj h1), h2⟩
theorem lenR_eq {jns : List (Nm × List Nm)} {l l' : Nm} {r r' : Rt} (h : k3 l r = k3 l' r') : lenR jns r l = lenR jns r' l' := by
  obtain ⟨h1, h2⟩ := k3_inj h
  unfold lenR roadF
  rw [h1, fars_eq h2]
def KnOk (jns : List (Nm × List Nm)) (kvs : List (List Key × V)) : Prop := ∀ l rr v, valV kvs (k3 l rr) = some v → v = .int ((lenR jns rr l : Nat) : Int)
theorem same_keep {p : Addr} {H H' : Hp} (k : Keep p H H') (n : H p = none) : Same H H' := fun b o h => k b o (ne_of_none h n) h
theorem take_mapIdx {α β : Type} (f : Nat → α → β) : ∀ (l : List α) (i : Nat) (a : α), l[i]? = some a → (l.mapIdx f).take (i + 1) = (l.mapIdx f).take i ++ [f i a] := fun l i a h => by
  rw [List.take_add_one, List.getElem?_mapIdx, h]
  rfl
section
variable {P : Program} {w : World} {K : PySem.W.Frag} {mg : Str → Option Value} {base : Heap} {k : Nat}
def sp_l_table (K : PySem.W.Frag) : Sp := fun vs H Q _ => ∃ (r R : Addr) (x : Nm) (ts : List Addr) (rs : List Rt) (ls : List Nm) (jns : List (Nm × List Nm)), vs = [.ref r, nS x, .ref R] ∧ NB H r ls jns ∧ NetBok ls jns ∧ x ∈ ls ∧ SqL K H R (ts.map V.ref) ∧ Paired (RtA H) ts rs ∧ (∀ r ∈ rs, RtOk r ∧ RtFit jns r) ∧ rs.length ≤ 100 ∧
  ∀ H' p fr, Same H H' → H p = none → H' p = some (.lst (fr.map V.ref)) → Paired (fun a i => H' a = some (.lst (.non :: rowM jns x rs i))) fr (List.range (rs.length + 1)) → Q (.ref p) H'
set_option maxHeartbeats 16000000 in
theorem ok_l_table (T : Defs K mg) : FnOk P w K mg base CX0 (k + 3) T.a_l_table T.d_l_table ["_law_net_here", "_law_line", "_law_rows"] (sp_l_table K) := by
  have G_l_gap : FnOk P w K mg base CX0 (k + 2) _ _ _ _ := ok_l_gap (k := k) T
  refine T.F_l_table.ok sc_l_table (fun vs H Q E h => ?_) (fun cdv A outer s H vs Q E hr h => ?_)
  · obtain ⟨r, R, x, ts, rs, ls, jns, rfl, _⟩ := h
    rfl
  · obtain ⟨r, R, x, ts, rs, ls, jns, rfl, hnet, hnb, xin, eR, hts, hrs, n100, q⟩ := h
    refine ⟨_, PSs.nox
(pss_cons (ps_set (i := 3) sc_l_table.nd rfl (.inl rfl) (pe_dnewT))
    (pss_cons (ps_set (i := 4) sc_l_table.nd rfl (.inl rfl) (pe_op op_cat (pe_lst (pa_cons (pv 1) pa_nil)) (pe_lc (own := [("_law_paper", 9)]) (g := gName 9) rfl sc_l_table.nd (pi_list (pv 2)) (blkOk_by (N := N_l_table) (sc := defScope s_l_table) (by decide +kernel)) (fun _ _ _ _ _ => (pg_name (i := 9) sc_l_table.nd rfl (.inl rfl))) (fun _ _ _ _ _ => pts_nil) (fun _ _ _ _ _ => (pe_ix (r := rIxT K) ix_tup (pv 9) (pe_int) (fun _ _ => rfl))))))
    (pss_cons (ps_set (i := 5) sc_l_table.nd rfl (.inl rfl) (pe_lst pa_nil))
    (pss_cons (ps_for PassesOwn.never rfl (pi_range1 (by rfl) T.z_range (pa_cons (pe_callB (r := rLenS K) call_lenS (by rfl) T.z_len (by decide +kernel) (pa_cons (pv 4) pa_nil)) pa_nil)) (pg_name (i := 6) sc_l_table.nd rfl (.inl rfl))
      (pss_cons (ps_set (i := 7) sc_l_table.nd rfl (.inl rfl) (pe_lst pa_nil))
      (pss_cons (ps_for PassesOwn.never rfl (pi_range2 (by rfl) T.z_range (pa_cons (pe_int) (pa_cons (pe_callB (r := rLenS K) call_lenS (by rfl) T.z_len (by decide +kernel) (pa_cons (pv 4) pa_nil)) pa_nil))) (pg_name (i := 8) sc_l_table.nd rfl (.inl rfl))
        (pss_cons (ps_set (i := 9) sc_l_table.nd rfl (.inl rfl) (pe_ix (r := rIxL K) ix_list (pv 2) (pe_op op_sub (pv 8) (pe_int)) (fun _ _ => rfl)))
        (pss_cons (ps_set (i := 10) sc_l_table.nd rfl (.inl rfl) (pe_tup (pa_cons (pe_ix (r := rIxL K) ix_list (pv 4) (pv 6) (fun _ _ => rfl)) (pa_cons (pe_ix (r := rIxT K) ix_tup (pv 9) (pe_int) (fun _ _ => rfl)) (pa_cons (pe_ix (r := rIxT K) ix_tup (pv 9) (pe_int) (fun _ _ => rfl)) pa_nil)))))
        (Evl.pss_cut (ps_if (PW.pt (pw_and (pt_cmpR op_gt (pv 8) (pv 6) (nomark _)) (pw_and1 (pt_cmp (pc_dnotin (hu_of hr) (pv 10) (pv 3))))))
          (pss_one (ps_dput (hu_of hr) (pv 3) (pv 10) (pe_callB (r := rLenS K) call_lenS (by rfl) T.z_len (by decide +kernel) (pa_cons (pe_call G_l_gap hr (by rfl) T.g_l_gap T.F_l_gap.kp T.b_l_gap .nil pass0 (pa_cons (pv 0) (pa_cons (pe_ix (r := rIxL K) ix_list (pv 4) (pv 6) (fun _ _ => rfl)) (pa_cons (pv 9) pa_nil)))) pa_nil)) (by rfl)))
          pss_nil)
        (pss_one (ps_expr (pe_bm PySem.F.plainAttrs_list PySem.F.slot_list_append PySem.F.type_list_append mt_append (pv 7) (pa_cons (pe_ifExp (PW.pt (pw_and (pt_cmpR op_gt (pv 8) (pv 6) (nomark _)) (pw_and1 (pt_cmpR op_gt (pe_dget (hu_of hr) (pv 3) (pv 10) (fun _ _ => rfl)) (pe_int) (nomark _))))) (pe_op op_add (pe_op op_sub (pe_op op_sub (pv 8) (pv 6)) (pe_int)) (pe_dget (hu_of hr) (pv 3) (pv 10) (fun _ _ => rfl))) (pe_non)) pa_nil))))))))
      (pss_one (ps_expr (pe_bm PySem.F.plainAttrs_list PySem.F.slot_list_append PySem.F.type_list_append mt_append (pv 5) (pa_cons (pe_op op_cat (pe_lst (pa_cons (pe_non) pa_nil)) (pv 7)) pa_nil)))))))
    (pss_one (ps_ret (pv 5)))))))
      , ?_⟩
    have hok := hnb.lj
    have tl := paired_len hts
    refine fun Kd nKd => ⟨nS x, rfl, one_sz, fun o1 no1 => ?_⟩
    have s1 := (same_upd (o := .dT []) nKd).trans (same_upd (o := .lst [nS x]) no1)
    have eK1 : (upd (upd H Kd (.dT [])) o1 (.lst [nS x])) Kd = some (.dT []) := same_upd no1 _ _ upd_same
    have eo1 : (upd (upd H Kd (.dT [])) o1 (.lst [nS x])) o1 = some (.lst [nS x]) := upd_same
    generalize upd (upd H Kd (.dT [])) o1 (.lst [nS x]) = H1 at s1 eK1 eo1 ⊢
    refine ⟨.ref R, rfl, R, rfl, ⟨_, sq_same s1 eR⟩, fun L nL => ?_⟩
    refine lc_it (walk_list (xs := ts.map V.ref)) (fun i Hx => Same H1 Hx ∧ Hx L = some (.lst (((rs.take i).map (·.over)).map nS))) ⟨same_upd nL, upd_same⟩ (fun i Hx _ pv => sq_same pv.1 (sq_same s1 eR)) (fun i v Hx₀ Hx hi pv yy => ?_) (fun H2 pv => ?_)
    · obtain ⟨rfl, ex⟩ := yy
      obtain ⟨sx, eL⟩ := pv
      obtain ⟨t, et, rfl⟩ := at_ref ex
      obtain ⟨rr, err, ht⟩ := paired_get hts et
      have rok := (hrs rr (List.mem_of_getElem? err)).1
      refine ⟨rfl, yes_ ⟨.ref t, rfl, t, _, 7, _, rfl, rfl, SqT.of (sx _ _ (s1 _ _ ht)), atI_nat (j := 7) rok.i7, _, eL, small5000 (by rw [List.length_map, List.length_map, List.length_take]; omega), same_set sx nL, ?_⟩⟩
      rw [upd_same, List.take_add_one, err, List.map_append, List.map_append]
      rfl
    obtain ⟨s2, eL⟩ := pv
    rw [List.length_map, tl, List.take_length] at eL
    refine ⟨o1, L, _, _, rfl, rfl, s2 _ _ eo1, eL, by rw [List.length_map, List.length_map]; exact Nat.le_of_lt (small5000 (by show 1 + _ ≤ 5000; omega)), fun A nA => ?_⟩
    have s3 := same_upd (o := .lst ([nS x] ++ (rs.map (·.over)).map nS)) nA
    have eA3 : (upd H2 A (.lst ([nS x] ++ (rs.map (·.over)).map nS))) A = some (.lst ((x :: rs.map (·.over)).map nS)) := upd_same
    have eK3 := s3 _ _ (s2 _ _ eK1)
    have s03 := (s1.trans s2).trans s3
    generalize upd H2 A (.lst ([nS x] ++ (rs.map (·.over)).map nS)) = H3 at eA3 eK3 s03 ⊢
    refine ⟨Nat.zero_le _, fun Fd nFd => ?_⟩
    have s4 := same_upd (o := .lst []) nFd
    have AFd : A ≠ Fd := ne_of_none eA3 nFd
    have KFd : Kd ≠ Fd := ne_of_none eK3 nFd
    have nFdH : H Fd = none := up0 s03 nFd
    have alen : ((x :: rs.map (·.over)).map nS).length = rs.length + 1 := by rw [List.length_map, List.length_cons, List.length_map]
    refine ⟨.ref A, rfl, A, _, rfl, .inl (SqL.of (s4 _ _ eA3)), ((rs.length + 1 : Nat) : Int), congrArg (fun z : Nat => [V.int (z : Int)]) alen, by omega, by omega, ?_⟩
    rw [Int.toNat_natCast]
    refine for_range (lo := 0) (n := rs.length + 1) (fun i σ Hx => ∃ (y6 y7 y8 y9 y10 : Option V) (kvs : List (List Key × V)) (fr : List Addr), σ = [some (.ref r), some (nS x), some (.ref R), some (.ref Kd), some (.ref A), some (.ref Fd), y6, y7, y8, y9, y10] ∧ Same H Hx ∧ Hx A = some (.lst ((x :: rs.map (·.over)).map nS)) ∧ Hx Kd = some (.dT kvs) ∧ KnOk jns kvs ∧ kvs.length ≤ i * 100 ∧ Hx Fd = some (.lst (fr.map V.ref)) ∧ Paired (fun a i => Hx a = some (.lst (.non :: rowM jns x rs i))) fr (List.range i) ∧ ∀ a ∈ fr, a ≠ Fd)
      ⟨none, none, none, none, none, [], [], rfl, s03.trans s4, s4 _ _ eA3, s4 _ _ eK3, fun l rr v h => (by cases h), Nat.zero_le _, upd_same, .nil, fun a h => (by cases h)⟩ (fun i σ Hi hi hp => ?_) (fun σ Hx hp => ?_)
    · obtain ⟨y6, y7, y8, y9, y10, kvs, fr, rfl, sHi, eA, eK, hkn, kl, eFd, hfr, nfr⟩ := hp
      have frl := paired_len hfr
      rw [List.length_range] at frl
      refine ⟨Nat.zero_le _, fun Rw nRw => ?_⟩
      have s5 := same_upd (o := .lst []) nRw
      refine ⟨.ref A, rfl, A, _, rfl, .inl (SqL.of (s5 _ _ eA)), 1, ((rs.length + 1 : Nat) : Int), congrArg (fun z : Nat => [V.int 1, V.int (z : Int)]) alen, ⟨by decide, by decide, by omega, by omega⟩, ?_⟩
      rw [show (((rs.length + 1 : Nat) : Int) - 1).toNat = rs.length by omega]
      have KRw : Kd ≠ Rw := ne_of_none eK nRw
      have ilen : i ≤ rs.length := by omega
      have hat := atM_get (x := x) ilen
      have hatl := atM_in hok xin (fun r h => (hrs r h).2) ilen
      have atI1 : atI ((x :: rs.map (·.over)).map nS) ((i : Nat) : Int) = some (nS (atM x rs i)) := atI_nat (by rw [List.getElem?_map, hat]; rfl)
      refine for_range (lo := 1) (n := rs.length) (fun j σ Hx => ∃ (y8 y9 y10 : Option V) (kvs : List (List Key × V)), σ = [some (.ref r), some (nS x), some (.ref R), some (.ref Kd), some (.ref A), some (.ref Fd), some (.int (0 + (i : Int))), some (.ref Rw), y8, y9, y10] ∧ Keep Kd Hi Hx ∧ Hx Kd = some (.dT kvs) ∧ KnOk jns kvs ∧ kvs.length ≤ i * 100 + j ∧ Hx Rw = some (.lst ((rowM jns x rs i).take j)))
        ⟨_, _, _, kvs, rfl, .of s5, s5 _ _ eK, hkn, by omega, upd_same⟩ (fun j σ Hx hj hp => ?_) (fun σ Hx hp => ?_)
      · obtain ⟨y8, y9, y10, kvs, rfl, kx, eKx, hkn, kl, eRw⟩ := hp
        have sx : Same H Hx := fun b o h => kx b o (ne_of_none h nKd) (sHi b o h)
        have eAx := kx _ _ (fun z => by rw [z, eK] at eA; cases eA) eA
        obtain ⟨rr, err⟩ : ∃ rr, rs[j]? = some rr := ⟨rs[j], List.getElem?_eq_getElem hj⟩
        obtain ⟨t, et, ht⟩ := paired_atC hts err
        obtain ⟨rok, rfit⟩ := hrs rr (List.mem_of_getElem? err)
        have htx := sx _ _ ht
        refine ⟨.ref R, rfl, .int (1 + (j : Int)), rfl, _, 1, rfl, rfl, R, _, _, _, rfl, rfl, sq_same sx eR, by show atI _ (1 + (j : Int) - 1) = _; rw [show (1 : Int) + (j : Int) - 1 = ((j : Nat) : Int) by omega]; exact atI_nat (at_refC et), ?_⟩
        refine ⟨.ref A, rfl, .int (0 + (i : Int)), rfl, A, _, _, _, rfl, rfl, SqL.of eAx, by rw [Int.zero_add]; exact atI1, .ref t, rfl, t, _, 3, _, rfl, rfl, SqT.of htx, atI_nat (j := 3) rok.i3, .ref t, rfl, t, _, 7, _, rfl, rfl, SqT.of htx, atI_nat (j := 7) rok.i7, by show 3 ≤ sizeLine; decide, fun u nu => ?_⟩
        have su := same_upd (o := .tup [nS (atM x rs i), nS rr.jn, nS rr.over]) nu
        have eu : (upd Hx u (.tup [nS (atM x rs i), nS rr.jn, nS rr.over])) u = some (.tup ((k3 (atM x rs i) rr).map kV)) := upd_same
        have ku := kx.trans (.of su)
        have sHu := sx.trans su
        have eKu := su _ _ eKx
        have eRu := su _ _ eRw
        have eAu := su _ _ eAx
        have htu := su _ _ htx
        generalize upd Hx u (.tup [nS (atM x rs i), nS rr.jn, nS rr.over]) = Hu at eu ku sHu eKu eRu eAu htu ⊢
        have uK : u ≠ Kd := fun z => by rw [z, eKu] at eu; cases eu
        have gj : ∀ (z : Bool), (z = true ↔ i < j + 1) → V.bl (decide ((0 + (i : Int)) < 1 + (j : Int))) = V.bl z := fun z h => by
          congr 1
          cases z with
          | true => exact decide_eq_true (by have := h.mp rfl; omega)
          | false => exact decide_eq_false (fun c => by have := h.mpr (by omega); cases this)
        refine ⟨fun σ Hy => ∃ (kvs' : List (List Key × V)), σ = [some (.ref r), some (nS x), some (.ref R), some (.ref Kd), some (.ref A), some (.ref Fd), some (.int (0 + (i : Int))), some (.ref Rw), some (.int (1 + (j : Int))), some (.ref t), some (.ref u)] ∧ Keep Kd Hi Hy ∧ Hy Kd = some (.dT kvs') ∧ KnOk jns kvs' ∧ kvs'.length ≤ i * 100 + (j + 1) ∧ Hy Rw = some (.lst ((rowM jns x rs i).take j)) ∧ Hy u = some (.tup ((k3 (atM x rs i) rr).map kV)) ∧ (i < j + 1 → valV kvs' (k3 (atM x rs i) rr) = some (.int ((lenR jns rr (atM x rs i) : Nat) : Int))), ?_, fun σ Hy mid => ?_⟩
        · refine ⟨.int (1 + (j : Int)), rfl, .int (0 + (i : Int)), rfl, _, _, rfl, rfl, decide (i < j + 1), gj _ decide_eq_true_iff, ite2 (fun c => ?_) (fun c => ?_)⟩
          · have c := of_decide_eq_true c
            refine ⟨.ref u, rfl, .ref Kd, rfl, Kd, _, rfl, DGet.t (k := k3 (atM x rs i) rr) eKu eu, _, rfl, ite2 (fun cn => ?_) (fun cn => ?_)⟩
            · refine ⟨.ref r, rfl, .ref A, rfl, .int (0 + (i : Int)), rfl, A, _, _, _, rfl, rfl, SqL.of eAu, by rw [Int.zero_add]; exact atI1, .ref t, rfl, r, t, atM x rs i, rr, ls, jns, rfl, hnet.same sHu, hnb, hatl, htu, rok, rfit, fun Hv g sv eg _ => ?_⟩
              refine ⟨g, _, rfl, .inl (SqL.of eg), .ref Kd, rfl, .ref u, rfl, Kd, _, rfl, DPut.t (k := k3 (atM x rs i) rr) (sv _ _ eKu) (sv _ _ eu) (small7 (by omega)), ?_⟩
              refine ⟨_, rfl, (ku.trans (.of sv)).trans Keep.upd, upd_same, fun l' rr' v' hv => ?_, ?_, ?_, ?_, fun _ => ?_⟩
              · rw [valV_put] at hv
                by_cases ck : k3 l' rr' = k3 (atM x rs i) rr
                · rw [if_pos ck] at hv
                  have := Option.some.inj hv
                  rw [← this, List.length_map, lenR_eq ck]
                  rfl
                · rw [if_neg ck] at hv
                  exact hkn l' rr' v' hv
              · have := length_putK kvs (k3 (atM x rs i) rr) (V.int ((((roadF jns rr (atM x rs i)).map nS).length : Nat) : Int))
                omega
              · rw [upd_ne (fun z => KRw z.symm)]
                exact sv _ _ eRu
              · rw [upd_ne uK]
                exact sv _ _ eu
              · rw [valV_put, if_pos rfl, List.length_map]
                rfl
            · have hv : ∃ v, valV kvs (k3 (atM x rs i) rr) = some v := by
                cases h : valV kvs (k3 (atM x rs i) rr) with
                | none => rw [h] at cn; exact absurd rfl cn
                | some v => exact ⟨v, rfl⟩
              obtain ⟨v, hv⟩ := hv
              exact ⟨kvs, rfl, ku, eKu, hkn, by omega, eRu, eu, fun _ => by rw [hv, hkn _ _ _ hv]⟩
          · exact ⟨kvs, rfl, ku, eKu, hkn, by omega, eRu, eu, fun h => absurd (decide_eq_true h) c⟩
        obtain ⟨kvs', rfl, ky, eKy, hkn', kl', eRy, euy, hval⟩ := mid
        have rl : ((rowM jns x rs i).take j).length ≤ 100 := by
          rw [List.length_take]
          omega
        have fin : ∀ v, v = costV jns (atM x rs i) i (j + 1) rr → ∃ (l : Addr) (xs : List V) (y : V), V.ref Rw = .ref l ∧ [v] = [y] ∧ Hy l = some (.lst xs) ∧ xs.length < sizeLine ∧ ∃ (y8 y9 y10 : Option V) (kvs : List (List Key × V)), [some (.ref r), some (nS x), some (.ref R), some (.ref Kd), some (.ref A), some (.ref Fd), some (.int (0 + (i : Int))), some (.ref Rw), some (.int (1 + (j : Int))), some (.ref t), some (.ref u)] = [some (.ref r), some (nS x), some (.ref R), some (.ref Kd), some (.ref A), some (.ref Fd), some (.int (0 + (i : Int))), some (.ref Rw), y8, y9, y10] ∧ Keep Kd Hi (upd Hy l (.lst (xs ++ [y]))) ∧ (upd Hy l (.lst (xs ++ [y]))) Kd = some (.dT kvs) ∧ KnOk jns kvs ∧ kvs.length ≤ i * 100 + (j + 1) ∧ (upd Hy l (.lst (xs ++ [y]))) Rw = some (.lst ((rowM jns x rs i).take (j + 1))) := fun v hv => by
          refine ⟨Rw, _, v, rfl, rfl, eRy, small5000 (by omega), _, _, _, kvs', rfl, ky.set nRw, by rw [upd_ne KRw]; exact eKy, hkn', kl', ?_⟩
          rw [upd_same, hv]
          unfold rowM
          rw [take_mapIdx _ _ _ _ err]
        have gk : i < j + 1 → DGet Hy Kd (.ref u) (some (.int ((lenR jns rr (atM x rs i) : Nat) : Int))) := fun h => by
          rw [← hval h]
          exact DGet.t (k := k3 (atM x rs i) rr) eKy euy
        refine ⟨.ref Rw, rfl, .inl ⟨rfl, _, SqL.of eRy⟩, .int (1 + (j : Int)), rfl, .int (0 + (i : Int)), rfl, _, _, rfl, rfl, decide (i < j + 1), gj _ decide_eq_true_iff, ite2 (fun c => ?_) (fun c => ?_)⟩
        · have c := of_decide_eq_true c
          refine ⟨.ref Kd, rfl, .ref u, rfl, Kd, _, rfl, gk c, _, 0, rfl, rfl, decide (0 < lenR jns rr (atM x rs i)), congrArg V.bl (decide_eq_decide.mpr (by omega)), ite2 (fun c2 => ?_) (fun c2 => ?_)⟩
          · have c2 := of_decide_eq_true c2
            refine ⟨.int (1 + (j : Int)), rfl, .int (0 + (i : Int)), rfl, _, _, rfl, rfl, _, 2, rfl, rfl, .ref Kd, rfl, .ref u, rfl, Kd, _, rfl, gk c, _, _, rfl, rfl, fin _ ?_⟩
            unfold costV
            rw [if_pos ⟨c, c2⟩]
            show V.int _ = V.int _
            congr 1
            omega
          · refine fin _ ?_
            unfold costV
            rw [if_neg (fun z => c2 (decide_eq_true z.2))]
        · refine fin _ ?_
          unfold costV
          rw [if_neg (fun z => c (decide_eq_true z.1))]
      · obtain ⟨y8, y9, y10, kvs, rfl, kx, eKx, hkn, kl, eRw⟩ := hp
        have rml : (rowM jns x rs i).length = rs.length := by unfold rowM; rw [List.length_mapIdx]
        rw [List.take_of_length_le (by omega)] at eRw
        have sx : Same H Hx := fun b o h => kx b o (ne_of_none h nKd) (sHi b o h)
        have lk : ∀ {b : Addr} {ys : List V}, Hi b = some (.lst ys) → Hx b = some (.lst ys) := fun {b ys} h => kx _ _ (fun z => by rw [z, eK] at h; cases h) h
        have eFx := lk eFd
        refine ⟨.ref Fd, rfl, .inl ⟨rfl, _, SqL.of eFx⟩, one_sz, fun o2 no2 => ?_⟩
        have s6 := same_upd (o := .lst [V.non]) no2
        refine ⟨.ref Rw, rfl, o2, Rw, _, _, rfl, rfl, upd_same, s6 _ _ eRw, by rw [rml]; exact Nat.le_of_lt (small5000 (by show 1 + _ ≤ 5000; omega)), fun c nc => ?_⟩
        have s7 := same_upd (o := .lst ([V.non] ++ rowM jns x rs i)) nc
        have s67 := s6.trans s7
        have cF : c ≠ Fd := fun z => by
          have := s6 _ _ eFx
          rw [z, this] at nc
          cases nc
        refine ⟨Fd, _, _, rfl, rfl, s67 _ _ eFx, by rw [List.length_map]; exact small5000 (by omega), ?_⟩
        refine ⟨_, _, _, _, _, kvs, fr ++ [c], rfl, same_set (sx.trans s67) nFdH, by rw [upd_ne AFd]; exact s67 _ _ (lk eA), by rw [upd_ne KFd]; exact s67 _ _ eKx, hkn, by omega, by rw [upd_same, List.map_append]; rfl, ?_, fun a ha => ?_⟩
        · rw [List.range_succ]
          refine paired_snoc (paired_imp hfr fun a ha i' h => ?_) ?_
          · rw [upd_ne (nfr a ha)]
            exact s67 _ _ (lk h)
          · rw [upd_ne cF, upd_same]
            rfl
        · rcases List.mem_append.mp ha with z | z
          · exact nfr a z
          · rw [List.mem_singleton.mp z]
            exact cF
    · obtain ⟨y6, y7, y8, y9, y10, kvs, fr, rfl, sHi, eA, eK, hkn, kl, eFd, hfr, nfr⟩ := hp
      exact ⟨.ref Fd, rfl, q _ Fd fr sHi nFdH eFd hfr⟩
end
end Th
namespace Th
open PySem PySem.Spec PyProof.Rows L2
/-! marks that hold -/
section
variable {jns : List (Nm × List Nm)} {ls : List Nm}
theorem fw_le_len : ∀ (rs : List Rt) (l : Nm), Fw jns rs l ≤ rs.length
  | [], _ => Nat.le_refl _
  | r :: rs, l => by
    have ih := fw_le_len rs l
    rw [List.length_cons]
    cases e : lackF jns r l with
    | none => rw [Fw_none e]; omega
    | some n =>
      rw [Fw_some e]
      have := Nat.min_le_left (Fw jns rs l + 1) (n + Fw jns rs r.over)
      omega
theorem fw_aside (r : Rt) (rs : List Rt) (l : Nm) : Fw jns (r :: rs) l ≤ Fw jns rs l + 1 := by
  cases e : lackF jns r l with
  | none => rw [Fw_none e]; exact Nat.le_refl _
  | some n => rw [Fw_some e]; exact Nat.min_le_left _ _
theorem drop_atR {rs : List Rt} {i : Nat} {rr : Rt} (h : rs[i]? = some rr) : rs.drop i = rr :: rs.drop (i + 1) := by
  have hl := List.getElem?_eq_some_iff.mp h
  rw [List.drop_eq_getElem_cons hl.1, hl.2]
theorem fw_step {rs : List Rt} {rr : Rt} {l : Nm} {n : Nat} (hl : lackF jns rr l = some n) : ∀ (d i : Nat), rs[i + d]? = some rr → Fw jns (rs.drop i) l ≤ d + n + Fw jns (rs.drop (i + d + 1)) rr.over
  | 0, i, h => by
    rw [drop_atR (i := i) h, Fw_some hl]
    have := Nat.min_le_right (Fw jns (rs.drop (i + 1)) l + 1) (n + Fw jns (rs.drop (i + 1)) rr.over)
    show _ ≤ 0 + n + Fw jns (rs.drop (i + 1)) rr.over
    omega
  | d + 1, i, h => by
    have hi : i < rs.length := by
      have := (List.getElem?_eq_some_iff.mp h).1
      omega
    rw [drop_atR (List.getElem?_eq_getElem hi)]
    have h1 := fw_aside (jns := jns) rs[i] (rs.drop (i + 1)) l
    have h2 := fw_step hl d (i + 1) (by rw [show i + 1 + d = i + (d + 1) by omega]; exact h)
    rw [show i + 1 + d + 1 = i + (d + 1) + 1 by omega] at h2
    omega
theorem lenR_some (hok : LJok ls jns) (jnd : (jns.map (·.1)).Nodup) {r : Rt} (hf : RtFit jns r) {l : Nm} {n : Nat} (h : lackF jns r l = some n) : lenR jns r l = n + 1 := (roadF_gr hok jnd hf h).1.len
theorem lenR_none {r : Rt} {l : Nm} (h : lackF jns r l = none) : lenR jns r l = 0 := by
  unfold lenR
  rw [roadF_of (.inr ⟨lackF_none.mp h, rfl⟩)]
  rfl
end
/-- the fewest wrong ones behind i returns, the i-th held -/
noncomputable def fwI (jns : List (Nm × List Nm)) (x : Nm) (rs : List Rt) (i : Nat) : Nat := Fw jns (rs.drop i) (atM x rs i)
theorem known_eq {jns : List (Nm × List Nm)} {x : Nm} {rs : List Rt} : [V.int 0] ++ (marksM jns rs x).map V.int = (List.range (rs.length + 1)).map fun i => V.int (((Fw jns rs x : Nat) : Int) - ((fwI jns x rs i : Nat) : Int)) := by
  unfold marksM
  rw [List.range_succ_eq_map, List.map_cons, List.map_map, List.map_map]
  have : ((Fw jns rs x : Nat) : Int) - ((fwI jns x rs 0 : Nat) : Int) = 0 := by
    show ((Fw jns rs x : Nat) : Int) - ((Fw jns rs x : Nat) : Int) = 0
    omega
  rw [this]
  rfl
/-! another shortest road of a gap, drawn -/
theorem wk_wk {R : Nm → Nm → Prop} {F : Nm → Prop} : ∀ (m k : Nat) (x : Nm), Rm.Wk R (Rm.Wk R F k) m x → Rm.Wk R F (m + k) x
  | 0, k, x, h => by rw [Nat.zero_add]; exact h
  | m + 1, k, x, ⟨y, h1, h2⟩ => by
    rw [show m + 1 + k = (m + k) + 1 by omega]
    exact ⟨y, h1, wk_wk m k y h2⟩
theorem gr_at {jns : List (Nm × List Nm)} {gs : List Nm} : ∀ {n : Nat} {x : Nm} {rd : List Nm}, AF jns gs n x → Rm.Gr (Adj jns) (· ∈ gs) n x rd → ∀ k y, rd[k]? = some y → Rm.Wk (Adj jns) (· ∈ gs) (n - k) y
  | 0, x, rd, hd, h, k, y, e => by
    rw [h.2] at e
    cases k with
    | zero => rw [← Option.some.inj e]; exact hd.1
    | succ k => cases e
  | n + 1, x, rd, hd, ⟨z, t, h1, h2, h3⟩, k, y, e => by
    rw [h3] at e
    cases k with
    | zero => rw [← Option.some.inj e]; exact hd.1
    | succ k =>
      rw [Nat.add_sub_add_right]
      exact gr_at h1.1.2 h2 k y e
theorem pth_take {R : Nm → Nm → Prop} {x : Nm} : ∀ (p : List Nm) (k : Nat), Rm.Pth R x p → k < p.length → Rm.Pth R x (p.take (k + 1)) ∧ (p.take (k + 1)).getLast? = p[k]?
  | [y], k, h, hk => by
    have : k = 0 := by simp at hk; omega
    subst this
    exact ⟨h, rfl⟩
  | y :: z :: t, 0, h, _ => ⟨h.1, rfl⟩
  | y :: z :: t, k + 1, h, hk => by
    obtain ⟨h1, h2⟩ := pth_take (z :: t) k h.2.2 (by simp at hk ⊢; omega)
    rw [List.take_succ_cons, List.take_succ_cons] at *
    refine ⟨⟨h.1, h.2.1, h1⟩, ?_⟩
    rw [List.getLast?_cons_cons]
    exact h2
/-- each place of a least road is just so many steps away -/
theorem gr_dx {jns : List (Nm × List Nm)} {gs : List Nm} {n : Nat} {x : Nm} {rd : List Nm} (hd : AF jns gs n x) (h : Rm.Gr (Adj jns) (· ∈ gs) n x rd) : ∀ k y, rd[k]? = some y → DX jns x k y := fun k y e => by
  have hl := h.len
  have hk := (List.getElem?_eq_some_iff.mp e).1
  obtain ⟨p1, p2⟩ := pth_take rd k (Rm.gr_pth h) hk
  refine ⟨pth_wkx k p1 (by rw [List.length_take]; omega) (by rw [p2, e]), fun m hm hw => ?_⟩
  obtain ⟨q, q1, q2, q3⟩ := wkx_pth m hw
  have w := Rm.pth_wk (F := Rm.Wk (Adj jns) (· ∈ gs) (n - k)) q1 q3 (gr_at hd h k y e)
  rw [q2] at w
  exact hd.2 _ (by omega) (wk_wk _ _ _ w)
/-- a shortest road to where a return goes over -/
structure RdOk (jns : List (Nm × List Nm)) (rr : Rt) (x : Nm) (n : Nat) (rd : List Nm) : Prop where
  p : Rm.Pth (Adj jns) x rd
  l : rd.length = n + 1
  f : lastN rd ∈ fars jns rr
theorem pth_adj {R : Nm → Nm → Prop} : ∀ {p : List Nm} {x : Nm}, Rm.Pth R x p → ∀ i a b, p[i]? = some a → p[i + 1]? = some b → R a b
  | [y], x, h, i, a, b, _, e => by cases e
  | y :: z :: t, x, h, 0, a, b, e1, e2 => by
    rw [← Option.some.inj e1, ← h.1, ← Option.some.inj e2]
    exact h.2.1
  | y :: z :: t, x, h, i + 1, a, b, e1, e2 => pth_adj h.2.2 i a b e1 e2
theorem pth_fst {R : Nm → Nm → Prop} {p : List Nm} {x : Nm} (h : Rm.Pth R x p) : p[0]? = some x := by
  obtain ⟨t, rfl⟩ := Rm.pth_cons h
  rfl
theorem RdOk.gap {jns : List (Nm × List Nm)} {rr : Rt} {x : Nm} {n : Nat} {rd : List Nm} (h : RdOk jns rr x n rd) : GapOk jns rr x n rd := ⟨h.l, pth_fst h.p, h.f, pth_adj h.p⟩
theorem gr_rdok {jns : List (Nm × List Nm)} {rr : Rt} {x : Nm} {n : Nat} {rd : List Nm} (h : Rm.Gr (Adj jns) (· ∈ fars jns rr) n x rd) : RdOk jns rr x n rd := ⟨Rm.gr_pth h, h.len, lastN_in h⟩
end Th
namespace Th
open PySem PySem.Spec PyProof.Rows L2
/-! the law's own walk of a history -/
def isW (d : PyData) (wd : Str) (m : Nat) : Bool := match d with
  | .tuple ds => decide (ds.length = m) && (match ds with
    | .str s :: _ => decide (s = wd)
    | _ => false)
  | _ => false
def sameD (d : PyData) (n : Int) : Bool := match d with
  | .int i => decide (i = n)
  | _ => false
section
variable {P : Program} {w : World} {K : PySem.W.Frag} {mg : Str → Option Value} {base : Heap} {k : Nat}
def sp_l_is : Sp := fun vs H Q _ => ∃ (v : V) (d : PyData) (wd : Str) (m : Nat), vs = [v, .str wd, .int (m : Int)] ∧ Dt SA H v d ∧ 1 ≤ m ∧ Q (.bl (isW d wd m)) H
theorem ok_l_is (T : Defs K mg) : FnOk P w K mg base CX0 (k + 1) T.a_l_is T.d_l_is ["_law_thing", "_law_word", "_law_many"] sp_l_is := by
  refine T.F_l_is.ok sc_l_is (fun vs H Q E h => ?_) (fun cdv A outer s H vs Q E hr h => ?_)
  · obtain ⟨v, d, wd, m, rfl, _⟩ := h
    rfl
  · obtain ⟨v, d, wd, m, rfl, hv, m1, q⟩ := h
    refine ⟨_, PSs.nox
(pss_cons (ps_if (PW.pt (pw_or (pt_not (pt_val (pe_callB (r := rIsi K) call_isi (by rfl) T.z_isinstance (by decide +kernel) (pa_cons (pv 0) (pa_cons (pe_bltn (v := .ty "tuple") (by rfl) T.z_tuple (by decide +kernel) rfl) pa_nil))))) (pw_or1 (pt_cmpR op_ne (pe_callB (r := rLenS K) call_lenS (by rfl) T.z_len (by decide +kernel) (pa_cons (pv 0) pa_nil)) (pv 2) (nomark _)))))
      (pss_one (ps_ret (pe_bl)))
      pss_nil)
    (pss_one (ps_ret (pe_and (pe_callB (r := rIsi K) call_isi (by rfl) T.z_isinstance (by decide +kernel) (pa_cons (pe_ix (r := rIxT K) ix_tup (pv 0) (pe_int) (fun _ _ => rfl)) (pa_cons (pe_bltn (v := .ty "str") (by rfl) T.z_str (by decide +kernel) rfl) pa_nil))) (pe_one (pe_cmpR op_eq (pe_ix (r := rIxT K) ix_tup (pv 0) (pe_int) (fun _ _ => rfl)) (pv 1) (nomark _)))))))
      , ?_⟩
    refine ⟨v, rfl, v, .ty "tuple", _, _, _, rfl, .ty _, hv.ty, kit_T d, isiT d, rfl, ?_⟩
    cases d with
    | tuple ds =>
      obtain ⟨a, xs, rfl, e, hxs⟩ := hv.tupI
      have xl := hxs.len
      refine iteF ⟨.ref a, rfl, a, xs, rfl, .inr (SqT.of e), .int m, rfl, rfl, _, rfl, ite2 (fun c => ?_) (fun c => ?_)⟩
      · have ne : ds.length ≠ m := fun z => by
          rw [xl, z] at c
          simp at c
        have e : isW (.tuple ds) wd m = false := by
          show (decide (ds.length = m) && _) = false
          rw [decide_eq_false ne, Bool.false_and]
        rw [e] at q
        exact q
      · have e0 : ds.length = m := by
          by_cases z : ds.length = m
          · exact z
          · refine absurd ?_ c
            rw [xl, decide_eq_false (fun w => z (by injection w with w; omega))]
            rfl
        match ds, xs, hxs, e0 with
        | [], _, _, e0 => exact absurd e0 (by show (0 : Nat) ≠ m; omega)
        | d0 :: ds, x0 :: xs, .cons h0 hr', e0 =>
          have eW : isW (.tuple (d0 :: ds)) wd m = (match d0 with | .str s => decide (s = wd) | _ => false) := by
            show (decide ((d0 :: ds).length = m) && _) = _
            rw [decide_eq_true e0, Bool.true_and]
            cases d0 <;> rfl
          rw [eW] at q
          refine ⟨.ref a, rfl, a, _, 0, x0, rfl, rfl, SqT.of e, atI_nat (j := 0) rfl, x0, .ty "str", _, _, _, rfl, .ty _, Dt.ty (K := K) h0, kit_S d0, isiS d0, rfl, ?_⟩
          cases d0 with
          | str s =>
            cases h0
            refine iteT ⟨.ref a, rfl, a, _, 0, .str s, rfl, rfl, SqT.of e, atI_nat (j := 0) rfl, .str wd, rfl, rfl, ?_⟩
            rw [show decide (V.str s = V.str wd) = decide (s = wd) from decide_eq_decide.mpr ⟨fun h => by injection h, fun h => by rw [h]⟩]
            exact q
          | none => exact iteF q
          | bool _ => exact iteF q
          | int _ => exact iteF q
          | list _ => exact iteF q
          | tuple _ => exact iteF q
          | dict _ => exact iteF q
    | none => exact iteT q
    | bool _ => exact iteT q
    | int _ => exact iteT q
    | str _ => exact iteT q
    | list _ => exact iteT q
    | dict _ => exact iteT q
def sp_l_same : Sp := fun vs H Q _ => ∃ (v : V) (d : PyData) (n : Int), vs = [v, .int n] ∧ Dt SA H v d ∧ Q (.bl (sameD d n)) H
theorem ok_l_same (T : Defs K mg) : FnOk P w K mg base CX0 (k + 1) T.a_l_same T.d_l_same ["_law_thing", "_law_number"] sp_l_same := by
  refine T.F_l_same.ok sc_l_same (fun vs H Q E h => ?_) (fun cdv A outer s H vs Q E hr h => ?_)
  · obtain ⟨v, d, n, rfl, _⟩ := h
    rfl
  · obtain ⟨v, d, n, rfl, hv, q⟩ := h
    refine ⟨_, PSs.nox
(pss_one (ps_ret (pe_and (pe_callB (r := rIsi K) call_isi (by rfl) T.z_isinstance (by decide +kernel) (pa_cons (pv 0) (pa_cons (pe_bltn (v := .ty "int") (by rfl) T.z_int (by decide +kernel) rfl) pa_nil))) (pe_and (pe_not (pe_callB (r := rIsi K) call_isi (by rfl) T.z_isinstance (by decide +kernel) (pa_cons (pv 0) (pa_cons (pe_bltn (v := .ty "bool") (by rfl) T.z_bool (by decide +kernel) rfl) pa_nil)))) (pe_one (pe_cmpR op_eq (pv 0) (pv 1) (nomark _)))))))
      , ?_⟩
    refine ⟨v, rfl, v, .ty "int", _, _, _, rfl, .ty _, hv.ty, kit_I d, isiI d, rfl, ?_⟩
    cases d with
    | int i =>
      cases hv
      refine iteT ⟨.int i, rfl, .int i, .ty "bool", _, _, _, rfl, .ty _, Dt.ty (K := K) (Dt.int (S := SA) (H := H) i), kit_B (K := K) (.int i), false, rfl, _, rfl, iteT ⟨.int i, rfl, .int n, rfl, rfl, ?_⟩⟩
      rw [show decide (V.int i = V.int n) = decide (i = n) from decide_eq_decide.mpr ⟨fun h => by injection h, fun h => by rw [h]⟩]
      exact q
    | bool b => exact iteT ⟨v, rfl, v, .ty "bool", _, _, _, rfl, .ty _, Dt.ty (K := K) hv, kit_B (K := K) (.bool b), true, rfl, _, rfl, iteF q⟩
    | none => exact iteF q
    | str _ => exact iteF q
    | list _ => exact iteF q
    | tuple _ => exact iteF q
    | dict _ => exact iteF q
end
end Th
namespace Th
open PySem PySem.Spec PyProof.Rows L2
/-! the law's own look at a gap's road -/
theorem isW_iff {d : PyData} {wd : Str} {m : Nat} : isW d wd m = true ↔ ∃ ds, d = .tuple (.str wd :: ds) ∧ ds.length + 1 = m := by
  cases d with
  | tuple ds =>
    show (decide (ds.length = m) && _) = true ↔ _
    rw [Bool.and_eq_true, decide_eq_true_iff]
    constructor
    · rintro ⟨h1, h2⟩
      match ds, h1, h2 with
      | .str s :: ds, h1, h2 => exact ⟨ds, by rw [of_decide_eq_true h2], h1⟩
    · rintro ⟨ds', e, h⟩
      injection e with e
      subst e
      exact ⟨h, decide_eq_true rfl⟩
  | _ => exact ⟨fun h => (by cases h), fun ⟨_, e, _⟩ => by cases e⟩
theorem sameD_iff {d : PyData} {n : Int} : sameD d n = true ↔ d = .int n := by
  cases d with
  | int i =>
    show decide (i = n) = true ↔ _
    rw [decide_eq_true_iff]
    exact ⟨fun h => by rw [h], fun h => by injection h⟩
  | _ => exact ⟨fun h => (by cases h), fun h => (by cases h)⟩
/-- a shortest road has no line twice behind one another -/
theorem gap_ne {jns : List (Nm × List Nm)} {rr : Rt} {x : Nm} {n : Nat} {rd : List Nm} (hl : lackF jns rr x = some n) (g : GapOk jns rr x n rd) : ∀ i a b, rd[i]? = some a → rd[i + 1]? = some b → a ≠ b := fun i a b ha hb e => by
  have hd := lackF_some.mp hl
  have hbl := (List.getElem?_eq_some_iff.mp hb).1
  have gl := g.len
  -- each place has a walk to the far ones
  have wk : ∀ k i z, i + k = n → rd[i]? = some z → Rm.Wk (Adj jns) (· ∈ fars jns rr) k z := fun k => by
    induction k with
    | zero =>
      intro i z hi hz
      have : lastN rd = z := lastN_at (by rw [show rd.length - 1 = i by omega]; exact hz)
      rw [← this]
      exact g.lst
    | succ k ih =>
      intro i z hi hz
      obtain ⟨y, hy⟩ : ∃ y, rd[i + 1]? = some y := ⟨_, List.getElem?_eq_getElem (by omega)⟩
      exact ⟨y, g.adj i z y hz hy, ih (i + 1) y (by omega) hy⟩
  have pre : ∀ i z, rd[i]? = some z → Rm.Wk (Adj jns) (· ∈ [x]) i z := fun i => by
    induction i with
    | zero =>
      intro z hz
      rw [g.fst] at hz
      exact List.mem_singleton.mpr (Option.some.inj hz).symm
    | succ i ih =>
      intro z hz
      have hlt := (List.getElem?_eq_some_iff.mp hz).1
      obtain ⟨y, hy⟩ : ∃ y, rd[i]? = some y := ⟨_, List.getElem?_eq_getElem (by omega)⟩
      exact ⟨y, (g.adj i y z hy hz).symm, ih y hy⟩
  have w1 := wk (n - (i + 1)) (i + 1) b (by omega) hb
  rw [← e] at w1
  obtain ⟨q, q1, q2, q3⟩ := wkx_pth i (pre i a ha)
  have w := Rm.pth_wk (F := Rm.Wk (Adj jns) (· ∈ fars jns rr) (n - (i + 1))) q1 q3 w1
  rw [q2] at w
  exact hd.2 _ (by omega) (wk_wk _ _ _ w)
/-- what the law asks of a gap's road -/
def GapD (jns : List (Nm × List Nm)) (rr : Rt) (x : Nm) (d : PyData) : Prop := ∃ n rd, lackF jns rr x = some (n + 1) ∧ d = rdD rd ∧ GapOk jns rr x (n + 1) rd
section
variable {P : Program} {w : World} {K : PySem.W.Frag} {mg : Str → Option Value} {base : Heap} {k : Nat}
def sp_l_is_gap (K : PySem.W.Frag) : Sp := fun vs H Q _ => ∃ (r t : Addr) (x : Nm) (rr : Rt) (v : V) (d : PyData) (ls : List Nm) (jns : List (Nm × List Nm)), vs = [.ref r, v, nS x, .ref t] ∧ NB H r ls jns ∧ NetBok ls jns ∧ x ∈ ls ∧ RtA H t rr ∧ RtOk rr ∧ RtFit jns rr ∧ Dt SA H v d ∧ Sm d ∧
  ∀ H' b, Same H H' → (b = true ↔ GapD jns rr x d) → Q (.bl b) H'
set_option maxHeartbeats 16000000 in
theorem ok_l_is_gap (T : Defs K mg) : FnOk P w K mg base CX0 (k + 3) T.a_l_is_gap T.d_l_is_gap ["_law_net_here", "_law_thing", "_law_here", "_law_paper"] (sp_l_is_gap K) := by
  have G_l_gap : FnOk P w K mg base CX0 (k + 2) _ _ _ _ := ok_l_gap (k := k) T
  refine T.F_l_is_gap.ok sc_l_is_gap (fun vs H Q E h => ?_) (fun cdv A outer s H vs Q E hr h => ?_)
  · obtain ⟨r, t, x, rr, v, d, ls, jns, rfl, _⟩ := h
    rfl
  · obtain ⟨r, t, x, rr, v, d, ls, jns, rfl, hnet, hnb, xin, ht, rok, hfit, hv, hsm, q⟩ := h
    refine ⟨_, PSs.nox
(pss_cons (ps_set (i := 4) sc_l_is_gap.nd rfl (.inl rfl) (pe_call G_l_gap hr (by rfl) T.g_l_gap T.F_l_gap.kp T.b_l_gap .nil pass0 (pa_cons (pv 0) (pa_cons (pv 2) (pa_cons (pv 3) pa_nil)))))
    (pss_cons (ps_if (PW.pt (pw_or (pt_not (pt_val (pe_callB (r := rIsi K) call_isi (by rfl) T.z_isinstance (by decide +kernel) (pa_cons (pv 1) (pa_cons (pe_bltn (v := .ty "tuple") (by rfl) T.z_tuple (by decide +kernel) rfl) pa_nil))))) (pw_or1 (pt_cmpR op_ne (pe_callB (r := rLenS K) call_lenS (by rfl) T.z_len (by decide +kernel) (pa_cons (pv 1) pa_nil)) (pe_callB (r := rLenS K) call_lenS (by rfl) T.z_len (by decide +kernel) (pa_cons (pv 4) pa_nil)) (nomark _)))))
      (pss_one (ps_ret (pe_bl)))
      pss_nil)
    (pss_cons (ps_if (PW.pt (pw_or (pt_cmpR op_lt (pe_callB (r := rLenS K) call_lenS (by rfl) T.z_len (by decide +kernel) (pa_cons (pv 1) pa_nil)) (pe_int) (nomark _)) (pw_or1 (pt_cmpR (r := rNeD K) (op_neD hr.units) (pe_ix (r := rIxT K) ix_tup (pv 1) (pe_int) (fun _ _ => rfl)) (pv 2) (nomark _)))))
      (pss_one (ps_ret (pe_bl)))
      pss_nil)
    (pss_cons (ps_if (pt_not (pt_val (pe_callB (r := rAll K) (cr_all rfl) (by rfl) T.z_all (by decide +kernel) (pa_cons (pe_lc (own := [("_law_one", 5)]) (g := gName 5) rfl sc_l_is_gap.nd (pi_tup (pv 1)) (blkOk_by (N := N_l_is_gap) (sc := defScope s_l_is_gap) (by decide +kernel)) (fun _ _ _ _ _ => (pg_name (i := 5) sc_l_is_gap.nd rfl (.inl rfl))) (fun _ _ _ _ _ => pts_nil) (fun _ _ _ _ _ => (pe_and (pe_callB (r := rIsi K) call_isi (by rfl) T.z_isinstance (by decide +kernel) (pa_cons (pv 5) (pa_cons (pe_bltn (v := .ty "str") (by rfl) T.z_str (by decide +kernel) rfl) pa_nil))) (pe_one (pe_cmpR (r := rIn K false) op_in_seq (pv 5) (pe_ix (r := rIxT K) ix_tup (pv 0) (pe_int) (fun _ _ => rfl)) (by rfl)))))) pa_nil))))
      (pss_one (ps_ret (pe_bl)))
      pss_nil)
    (pss_cons (ps_for PassesOwn.never rfl (RZ.pi_zipA (by rfl) T.z_zip (pa_cons (pv 1) (pa_cons (pe_slice (r := rSlS K) sl_tupS (pv 1) (po_some (pe_int)) po_none) pa_nil))) (pg_tup rfl (pgs_cons (pg_name (i := 5) sc_l_is_gap.nd rfl (.inr rfl)) (pgs_cons (pg_name (i := 6) sc_l_is_gap.nd rfl (.inr rfl)) pgs_nil)))
      (pss_cons (ps_if (pt_not (pt_val (pe_callB (r := rAny K) (cr_any rfl) (by rfl) T.z_any (by decide +kernel) (pa_cons (pe_lc (own := [("_law_place", 7), ("_law_lines", 8)]) (g := gTup K 2 (gCons (gName 7) (gCons (gName 8) gNil))) rfl sc_l_is_gap.nd (pi_tup (pe_ix (r := rIxT K) ix_tup (pv 0) (pe_int) (fun _ _ => rfl))) (blkOk_by (N := N_l_is_gap) (sc := defScope s_l_is_gap) (by decide +kernel)) (fun _ _ _ _ _ => (pg_tup rfl (pgs_cons (pg_name (i := 7) sc_l_is_gap.nd rfl (.inl rfl)) (pgs_cons (pg_name (i := 8) sc_l_is_gap.nd rfl (.inl rfl)) pgs_nil)))) (fun _ _ _ _ _ => pts_nil) (fun _ _ _ _ _ => (pe_and (pe_cmpR (r := rIn K false) op_in_seq (pv 5) (pv 8) (by rfl)) (pe_one (pe_cmpR (r := rIn K false) op_in_seq (pv 6) (pv 8) (by rfl)))))) pa_nil))))
        (pss_one (ps_ret (pe_bl)))
        pss_nil)
      (pss_one (ps_if (pt_cmpR op_eq (pv 5) (pv 6) (nomark _))
        (pss_one (ps_ret (pe_bl)))
        pss_nil))))
    (pss_one (ps_ret (pe_and (pe_cmpR op_ne (pe_ix (r := rIxT K) ix_tup (pv 1) (pe_un un_neg (pe_int)) (fun _ _ => rfl)) (pe_ix (r := rIxT K) ix_tup (pv 3) (pe_int) (fun _ _ => rfl)) (nomark _)) (pe_one (pe_cmpR (r := rIn K false) op_in_seq (pe_ix (r := rIxT K) ix_tup (pv 1) (pe_un un_neg (pe_int)) (fun _ _ => rfl)) (pe_dget (hu_of hr) (pe_callTy (r := rDictF K) (call_dictF rfl) (by rfl) T.z_dict (by decide +kernel) (pa_cons (pe_ix (r := rIxT K) ix_tup (pv 0) (pe_int) (fun _ _ => rfl)) pa_nil)) (pe_ix (r := rIxT K) ix_tup (pv 3) (pe_int) (fun _ _ => rfl)) (fun _ _ => rfl)) (by rfl)))))))))))
      , ?_⟩
    have hok := hnb.lj
    have hfit0 := hfit
    obtain ⟨jn, jin, ejn, oin⟩ := hfit
    have no : ∀ {H'}, Same H H' → ¬ GapD jns rr x d → Q (.bl false) H' := fun s h => q _ false s ⟨fun z => (by cases z), fun z => absurd z h⟩
    refine ⟨.ref r, rfl, nS x, rfl, .ref t, rfl, r, t, x, rr, ls, jns, rfl, hnet, hnb, xin, ht, rok, hfit0, fun H1 p s1 ep hrd => ?_⟩
    have hl : (roadF jns rr x).length = (match lackF jns rr x with | none => 0 | some n => n + 1) := by
      cases e : lackF jns rr x with
      | none => exact lenR_none e
      | some n => exact lenR_some hok hnb.jnd hfit0 e
    refine ⟨v, rfl, v, .ty "tuple", _, _, _, rfl, .ty _, Dt.ty (K := K) (hv.same s1), kit_T d, isiT d, rfl, ?_⟩
    have notT : isiT d = false → ¬ GapD jns rr x d := fun h ⟨n, rd, _, e, _⟩ => by rw [e] at h; cases h
    cases eT : isiT d with
    | false => exact iteT (no s1 (notT eT))
    | true =>
    clear notT
    obtain ⟨es, rfl⟩ : ∃ es, d = .tuple es := by
      cases d with
      | tuple es => exact ⟨es, rfl⟩
      | _ => cases eT
    clear eT
    obtain ⟨a, xs, rfl, ea, hxs⟩ := id hv.tupI
    have xl := hxs.len
    have inj : ∀ {rd : List Nm}, PyData.tuple es = rdD rd → es = rd.map strD := fun h => by injection h
    refine iteF ?_
    refine ⟨.ref a, rfl, a, xs, rfl, .inr (SqT.of (s1 _ _ ea)), .ref p, rfl, p, _, rfl, .inl (SqL.of ep), rfl, _, rfl, ite2 (fun c => ?_) (fun c => ?_)⟩
    · refine no s1 fun ⟨n, rd, h1, h2, h3⟩ => ?_
      rw [h1] at hl
      have hl : (roadF jns rr x).length = n + 2 := hl
      rw [List.length_map, hl, xl, inj h2, List.length_map, h3.len] at c
      simp at c
      omega
    have el : es.length = (roadF jns rr x).length := by
      by_cases z : es.length = (roadF jns rr x).length
      · exact z
      · refine absurd ?_ c
        rw [List.length_map, xl, decide_eq_false (fun w => z (by injection w with w; omega))]
        rfl
    clear c
    have ea1 := s1 _ _ ea
    refine ⟨.ref a, rfl, a, xs, rfl, .inr (SqT.of ea1), _, 2, rfl, rfl, _, rfl, ite2 (fun c => ?_) (fun c => ?_)⟩
    · have c := of_decide_eq_true c
      refine no s1 fun ⟨n, rd, h1, h2, h3⟩ => ?_
      have := h3.len
      rw [xl, inj h2, List.length_map] at c
      omega
    have el2 : 2 ≤ es.length := by
      have : ¬ ((xs.length : Nat) : Int) < 2 := fun z => c (decide_eq_true z)
      omega
    clear c
    obtain ⟨n, hlk⟩ : ∃ n, lackF jns rr x = some (n + 1) := by
      cases e : lackF jns rr x with
      | none => rw [e] at hl; have hl : (roadF jns rr x).length = 0 := hl; omega
      | some n =>
        rw [e] at hl
        have hl : (roadF jns rr x).length = n + 1 := hl
        exact ⟨n - 1, by congr 1; omega⟩
    have eln : es.length = n + 2 := by
      rw [hlk] at hl
      exact el.trans hl
    have n8 := lackF_lt hok hnb.jnd hfit0 hlk
    obtain ⟨e0, he0⟩ : ∃ e0, es[0]? = some e0 := ⟨_, List.getElem?_eq_getElem (by omega)⟩
    obtain ⟨y0, hy0, hd0⟩ := hxs.get2 he0
    have sme0 : Sm e0 := hsm.tup e0 (List.mem_of_getElem? he0)
    refine ⟨.ref a, rfl, a, xs, 0, y0, rfl, rfl, SqT.of ea1, atI_nat (j := 0) hy0, nS x, rfl, e0, strD x, (hd0.same s1).dp, .str _, sme0.sh, str_sh (hnb.lnm x xin), _, rfl, ?_⟩
    by_cases c3 : PyData.eqv e0 (strD x) = true
    case neg =>
      rw [Bool.eq_false_iff.mpr c3]
      refine iteT (no s1 fun ⟨n, rd, h1, h2, h3⟩ => c3 (eqv_str.mpr ?_))
      rw [inj h2, at_strD.mpr h3.fst] at he0
      exact (Option.some.inj he0).symm
    rw [c3]
    refine iteF ?_
    have c3 := eqv_str.mp c3
    subst c3
    obtain ⟨na, nc, nb, nd, ja, er, tna, tnc, hJ⟩ := hnet.same s1
    -- all of them lines
    refine ⟨.ref a, rfl, a, rfl, ⟨_, SqT.of ea1⟩, fun D nD => ?_⟩
    let isL (e : PyData) : Bool := match e with
      | .str s => decide (s ∈ ls.map SX.S)
      | _ => false
    refine lc_it (walk_tup (xs := xs)) (fun i H3 => Same H1 H3 ∧ H3 D = some (.lst (((es.take i).map isL).map V.bl))) ⟨same_upd nD, upd_same⟩ (fun i H3 _ pv => SqT.of (pv.1 _ _ ea1)) (fun i v H3₀ H3 hi pv yy => ?_) (fun H2 pv => ?_)
    · obtain ⟨rfl, ey⟩ := yy
      obtain ⟨s3, eD⟩ := pv
      obtain ⟨e, ee, hd⟩ := hxs.get ey
      have hd3 := hd.same (s1.trans s3)
      have fin : ∀ b, b = isL e → ∃ acc, H3 D = some (.lst acc) ∧ acc.length < sizeLine ∧ Same H1 (upd H3 D (.lst (acc ++ [.bl b]))) ∧ (upd H3 D (.lst (acc ++ [.bl b]))) D = some (.lst (((es.take (i + 1)).map isL).map V.bl)) := fun b hb => ⟨_, eD, by rw [List.length_map, List.length_map, List.length_take]; exact small5000 (by omega), same_set s3 nD, by rw [upd_same, List.take_add_one, ee, List.map_append, List.map_append, hb]; rfl⟩
      refine ⟨rfl, yes_ ⟨v, rfl, v, .ty "str", _, _, _, rfl, .ty _, Dt.ty (K := K) hd3, kit_S e, isiS e, rfl, ?_⟩⟩
      cases e with
      | str s =>
        cases hd3
        obtain ⟨z, rfl⟩ : ∃ z : Nm, s = SX.S z := ⟨s.cps.toList, rfl⟩
        refine iteT ⟨.str (SX.S z), rfl, .ref r, rfl, r, [.ref na, nb, .ref nc, nd], 0, .ref na, rfl, rfl, SqT.of (s3 _ _ er), atI_nat (j := 0) rfl, na, _, rfl, .inr (tna.same s3).sq, rfl, flat_nms _, ?_⟩
        refine fin _ ?_
        show inV (nS z) (ls.map nS) = decide (SX.S z ∈ ls.map SX.S)
        rw [in_nms]
        exact decide_eq_decide.mpr memS.symm
      | none => exact iteF (fin _ rfl)
      | bool _ => exact iteF (fin _ rfl)
      | int _ => exact iteF (fin _ rfl)
      | list _ => exact iteF (fin _ rfl)
      | tuple _ => exact iteF (fin _ rfl)
      | dict _ => exact iteF (fin _ rfl)
    obtain ⟨s2, eD⟩ := pv
    rw [xl, List.take_length] at eD
    have isL_iff : ∀ e, isL e = true ↔ ∃ z ∈ ls, e = strD z := fun e => by
      cases e with
      | str s =>
        show decide (s ∈ ls.map SX.S) = true ↔ _
        rw [decide_eq_true_iff, List.mem_map]
        exact ⟨fun ⟨z, h1, h2⟩ => ⟨z, h1, by rw [← h2]; rfl⟩, fun ⟨z, h1, h2⟩ => ⟨z, h1, by injection h2 with h2; exact h2.symm⟩⟩
      | _ => exact ⟨fun h => (by cases h), fun ⟨_, _, h⟩ => (by cases h)⟩
    refine ⟨D, _, rfl, SqL.of eD, _, rfl, ?_⟩
    have s02 := s1.trans s2
    cases c4 : (es.map isL).all id with
    | false =>
      refine iteT (no s02 fun ⟨n, rd, h1, h2, h3⟩ => ?_)
      have : (es.map isL).all id = true := by
        rw [List.all_eq_true]
        intro b hb
        obtain ⟨e, he, rfl⟩ := List.mem_map.mp hb
        rw [inj h2] at he
        obtain ⟨z, hz, rfl⟩ := List.mem_map.mp he
        refine (isL_iff _).mpr ⟨z, ?_, rfl⟩
        obtain ⟨i, hi⟩ := List.getElem?_of_mem hz
        cases i with
        | zero => rw [h3.fst] at hi; rw [← Option.some.inj hi]; exact xin
        | succ i =>
          have hlt := (List.getElem?_eq_some_iff.mp hi).1
          exact hok.adj (h3.adj i _ z (List.getElem?_eq_getElem (by omega)) hi)
      rw [this] at c4
      cases c4
    | true =>
    refine iteF ?_
    have hall : ∀ e ∈ es, ∃ z ∈ ls, e = strD z := fun e he => (isL_iff e).mp (List.all_eq_true.mp c4 _ (List.mem_map_of_mem he))
    obtain ⟨rd, rfl⟩ := strs_of (es := es) fun e he => let ⟨z, _, h⟩ := hall e he; ⟨z, h⟩
    have rin : ∀ z ∈ rd, z ∈ ls := fun z hz => by
      obtain ⟨z', h1, h2⟩ := hall (strD z) (List.mem_map_of_mem hz)
      rw [strD_inj h2]
      exact h1
    have exs : xs = rd.map nS := by
      clear he0 hy0 hd0 hall c4 eD isL_iff inj ea ea1 rin eln el el2 xl hsm q no hv
      induction rd generalizing xs with
      | nil => cases hxs; rfl
      | cons z rd ih =>
        match xs, hxs with
        | x0 :: xs, .cons h hs =>
          have h : Dt SA H x0 (.str (SX.S z)) := h
          cases h
          rw [ih xs hs]
          rfl
    subst exs
    rw [List.length_map] at eln
    have hfst : rd[0]? = some x := at_strD.mp he0
    have ea2 := s2 _ _ ea1
    have er2 := s2 _ _ er
    have hJ2 : Paired (JnT H2) ja jns := paired_imp hJ fun _ _ _ h => h.same s2
    have tnc2 := tnc.same s2
    -- its neighbours
    refine ⟨.ref a, rfl, .ref a, rfl, 1, rfl, a, _, rfl, ea2, fun cc H3 s3 ec => ?_⟩
    rw [cutV_one (α := Nat), ← List.map_drop] at ec
    have ea3 := s3 _ _ ea2
    refine ⟨a, cc, _, _, rfl, .inr ⟨SqT.of ea3, SqT.of ec, ?_⟩⟩
    have s03 := s02.trans s3
    refine for_it (walk_zipT (n := n + 1) (xs := rd.map nS) (ys := (rd.drop 1).map nS) (by rw [List.length_map, List.length_map, List.length_drop]; omega)) (fun i σ Hx => ∃ (y5 y6 : Option V), σ = [some (.ref r), some (.ref a), some (nS x), some (.ref t), some (.ref p), y5, y6, none, none] ∧ Same H3 Hx ∧ ∀ j, j < i → ∀ y z, rd[j]? = some y → rd[j + 1]? = some z → Adj jns y z)
      ⟨none, none, rfl, .refl _, fun j hj => absurd hj (Nat.not_lt_zero _)⟩ (fun i σ Hx _ hp => ?_) (fun i v σ Hx₀ Hx hi hp yy => ?_) (fun σ Hx hp => ?_)
    · obtain ⟨_, _, _, sx, _⟩ := hp
      exact ⟨SqT.of (sx _ _ ea3), SqT.of (sx _ _ ec)⟩
    · obtain ⟨U, xv, yv, rfl, nU, rfl, ex, ey⟩ := yy
      obtain ⟨y5, y6, rfl, sx, hadj⟩ := hp
      have ex : (rd.map nS)[i]? = some xv := ex
      have ey : ((rd.drop 1).map nS)[i]? = some yv := ey
      obtain ⟨u, eu, rfl⟩ := at_nm ex
      obtain ⟨z, ez, rfl⟩ := at_nm ey
      rw [List.getElem?_drop, show 1 + i = i + 1 by omega] at ez
      have sU := same_upd (o := .tup [nS u, nS z]) nU
      have sy := sx.trans sU
      refine ⟨U, _, rfl, SqT.of upd_same, rfl, _, _, rfl, _, [], rfl, rfl, ?_⟩
      generalize upd Hx₀ U (.tup [nS u, nS z]) = Hy at sy ⊢
      have sHy := s3.trans sy
      refine ⟨.ref r, rfl, r, [.ref na, nb, .ref nc, nd], 2, .ref nc, rfl, rfl, SqT.of (sHy _ _ er2), atI_nat (j := 2) rfl, nc, rfl, ⟨_, (tnc2.same sHy).sq⟩, fun B nB => ?_⟩
      refine lc_it (walk_tup (xs := ja.map V.ref)) (fun j H5 => Same Hy H5 ∧ ∃ bs : List Bool, H5 B = some (.lst (bs.map V.bl)) ∧ bs.length = j ∧ (bs.any id = true ↔ Adj (jns.take j) u z)) ⟨same_upd nB, [], upd_same, rfl, ⟨fun h => (by cases h), fun ⟨j, hj, _⟩ => (by cases hj)⟩⟩ (fun j H5 _ pv => (tnc2.same (sHy.trans pv.1)).sq) (fun j v H5₀ H5 hj pv yy => ?_) (fun H5 pv => ?_)
      · obtain ⟨rfl, ew⟩ := yy
        obtain ⟨s5, bs, eB, bl, hbs⟩ := pv
        obtain ⟨w', ew', rfl⟩ := at_ref ew
        obtain ⟨jm, ejm, jt, hw, hjt⟩ := paired_get hJ2 ew'
        have tkj : jns.take (j + 1) = jns.take j ++ [jm] := by rw [List.take_add_one, ejm]; rfl
        have s25 := sHy.trans s5
        have jsl := paired_len hJ2
        have hj12 := hnb.j12
        rw [List.length_map] at hj
        refine ⟨w', _, rfl, SqT.of (s25 _ _ hw), rfl, _, _, rfl, _, [], rfl, rfl, rfl, yes_ ?_⟩
        have fin : ∀ b, (b = true ↔ u ∈ jm.2 ∧ z ∈ jm.2) → ∃ acc, H5 B = some (.lst acc) ∧ acc.length < sizeLine ∧ Same Hy (upd H5 B (.lst (acc ++ [.bl b]))) ∧ ∃ bs : List Bool, (upd H5 B (.lst (acc ++ [.bl b]))) B = some (.lst (bs.map V.bl)) ∧ bs.length = j + 1 ∧ (bs.any id = true ↔ Adj (jns.take (j + 1)) u z) := fun b hb => ⟨_, eB, by rw [List.length_map, bl]; exact small5000 (by omega), same_set s5 nB, bs ++ [b], by rw [upd_same, List.map_append]; rfl, by rw [List.length_append, bl]; rfl, by
          rw [tkj, adj_snoc, List.any_append, Bool.or_eq_true, hbs]
          have one : ([b].any id = true) ↔ b = true := by simp
          rw [one, hb]⟩
        refine ⟨nS u, rfl, .ref jt, rfl, jt, _, rfl, .inr (hjt.same s25).sq, rfl, flat_nms _, _, rfl, ?_⟩
        rw [show (if false = true then !inV (nS u) (jm.2.map nS) else inV (nS u) (jm.2.map nS)) = decide (u ∈ jm.2) from in_nms]
        by_cases cu : u ∈ jm.2
        · rw [decide_eq_true cu]
          refine iteT ⟨nS z, rfl, .ref jt, rfl, jt, _, rfl, .inr (hjt.same s25).sq, rfl, flat_nms _, ?_⟩
          rw [show (if false = true then !inV (nS z) (jm.2.map nS) else inV (nS z) (jm.2.map nS)) = decide (z ∈ jm.2) from in_nms]
          exact fin _ ⟨fun h => ⟨cu, of_decide_eq_true h⟩, fun h => decide_eq_true h.2⟩
        · rw [decide_eq_false cu]
          exact iteF (fin _ ⟨fun h => (by cases h), fun h => absurd h.1 cu⟩)
      obtain ⟨s5, bs, eB, bl, hbs⟩ := pv
      rw [List.length_map, paired_len hJ2, List.take_length] at hbs
      refine ⟨B, _, rfl, SqL.of eB, _, rfl, ?_⟩
      have s3y := sy.trans s5
      have bad : ¬ (Adj jns u z ∧ u ≠ z) → ¬ GapD jns rr x (.tuple (rd.map strD)) := fun h ⟨n', rd', h1, h2, h3⟩ => h (by
        have e := rd_inj (inj h2)
        subst e
        exact ⟨h3.adj i u z eu ez, gap_ne h1 h3 i u z eu ez⟩)
      cases cb : bs.any id with
      | false => exact iteT (no (s03.trans s3y) (bad fun h => by rw [hbs.mpr h.1] at cb; cases cb))
      | true =>
        have hA := hbs.mp cb
        refine iteF ⟨nS u, rfl, nS z, rfl, rfl, _, rfl, ?_⟩
        rw [eq_dec]
        refine ite2 (fun ce => no (s03.trans s3y) (bad fun h => h.2 (of_decide_eq_true ce))) (fun _ => ⟨_, _, rfl, s3y, fun j hj y' z' h1 h2 => ?_⟩)
        rcases Nat.lt_or_eq_of_le (Nat.le_of_lt_succ hj) with h | h
        · exact hadj j h y' z' h1 h2
        · subst h
          rw [eu] at h1
          rw [ez] at h2
          rw [← Option.some.inj h1, ← Option.some.inj h2]
          exact hA
    · obtain ⟨y5, y6, rfl, sx, hadj⟩ := hp
      obtain ⟨zl, hzl⟩ : ∃ z, rd[rd.length - 1]? = some z := ⟨_, List.getElem?_eq_getElem (by omega)⟩
      have elast := lastN_at hzl
      have atl : atI (rd.map nS) (-1) = some (nS zl) := atI_lst (by rw [List.length_map, List.getElem?_map, hzl]; rfl)
      have s0x := s03.trans sx
      have hiff : ∀ b, (b = true ↔ zl ≠ rr.over ∧ zl ∈ jn.2) → (b = true ↔ GapD jns rr x (.tuple (rd.map strD))) := fun b hb => by
        rw [hb]
        have hf : zl ∈ fars jns rr ↔ zl ∈ jn.2 ∧ zl ≠ rr.over := by rw [← fars_jn hnb.jnd jin ejn]; exact mem_fromL
        constructor
        · rintro ⟨h1, h2⟩
          exact ⟨n, rd, hlk, rfl, eln, hfst, by rw [elast]; exact hf.mpr ⟨h2, h1⟩, fun i y z hy hz => hadj i (by have := (List.getElem?_eq_some_iff.mp hz).1; omega) y z hy hz⟩
        · rintro ⟨n', rd', h1, h2, h3⟩
          have e := rd_inj (inj h2)
          subst e
          have := h3.lst
          rw [elast] at this
          exact (hf.mp this).symm
      have eax := sx _ _ ea3
      refine ⟨.ref a, rfl, 1, rfl, a, _, -1, nS zl, rfl, rfl, SqT.of eax, atl, .ref t, rfl, t, _, 7, _, rfl, rfl, SqT.of (s0x _ _ ht), atI_nat (j := 7) rok.i7, rfl, _, rfl, ?_⟩
      rw [ne_dec]
      by_cases co : zl = rr.over
      · rw [decide_eq_false (fun h => h co : ¬ zl ≠ rr.over)]
        exact iteF (q _ false s0x (hiff _ ⟨fun h => (by cases h), fun h => absurd co h.1⟩))
      rw [decide_eq_true co]
      obtain ⟨kvs, hkv, hks, hmem⟩ := jn_dict (K := K) (paired_imp hJ2 fun _ _ _ h => h.same (s3.trans sx))
      obtain ⟨jt, hjt1, hjt2⟩ := hmem jn jin
      refine iteT ⟨.ref a, rfl, 1, rfl, a, _, -1, nS zl, rfl, rfl, SqT.of eax, atl, .ref r, rfl, r, [.ref na, nb, .ref nc, nd], 2, .ref nc, rfl, rfl, SqT.of ((s3.trans sx) _ _ er2), atI_nat (j := 2) rfl, nc, ja, kvs, rfl, tnc2.same (s3.trans sx), hkv, fun dd ndd => ?_⟩
      have sd := same_upd (o := .dK (mergeK [] kvs)) ndd
      refine ⟨.ref t, rfl, t, _, 3, _, rfl, rfl, SqT.of (sd _ _ (s0x _ _ ht)), atI_nat (j := 3) rok.i3, dd, .ref jt, rfl, by rw [← jn_dict_val hks hnb.jnd hjt1, ejn]; exact DGet.k (k := Sum.inr (SX.S rr.jn)) upd_same, jt, _, rfl, .inr (hjt2.same sd).sq, rfl, flat_nms _, ?_⟩
      rw [show (if false = true then !inV (nS zl) (jn.2.map nS) else inV (nS zl) (jn.2.map nS)) = decide (zl ∈ jn.2) from in_nms]
      exact q _ _ (s0x.trans sd) (hiff _ ⟨fun h => ⟨co, of_decide_eq_true h⟩, fun h => decide_eq_true h.2⟩)
end
end Th
namespace Th
open PySem PySem.Spec PyProof.Rows L2
/-! the law's own count of wrong ones -/
theorem histc_aside {jns : List (Nm × List Nm)} {r : Rt} {rs : List Rt} {x : Nm} {tl : List PyData} {c : Nat} : HistR jns (r :: rs) x (asideD r :: tl) c ↔ ∃ c', c = c' + 1 ∧ HistR jns rs x tl c' := by
  constructor
  · intro h
    generalize e : asideD r :: tl = ds at h
    cases h with
    | aside h => injection e with _ e; subst e; exact ⟨_, rfl, h⟩
    | held => injection e with e _; exact absurd e aside_ne_held
    | gap => injection e with e _; exact absurd e aside_ne_gap
  · rintro ⟨c', rfl, h⟩
    exact .aside h
theorem histc_held {jns : List (Nm × List Nm)} {r : Rt} {rs : List Rt} {x : Nm} {tl : List PyData} {c : Nat} : HistR jns (r :: rs) x (heldD r x :: tl) c ↔ lackF jns r x = some 0 ∧ HistR jns rs r.over tl c := by
  constructor
  · intro h
    generalize e : heldD r x :: tl = ds at h
    cases h with
    | aside => injection e with e _; exact absurd e.symm aside_ne_held
    | held h1 h => injection e with _ e; subst e; exact ⟨h1, h⟩
    | gap => injection e with e _; exact absurd e held_ne_gap
  · rintro ⟨h1, h⟩
    exact .held h1 h
theorem histc_gap {jns : List (Nm × List Nm)} {r : Rt} {rs : List Rt} {x : Nm} {tl : List PyData} {c n : Nat} {rd : List Nm} (hl : lackF jns r x = some (n + 1)) (g : GapOk jns r x (n + 1) rd) : HistR jns (r :: rs) x (gapD rd :: heldD r (lastN rd) :: tl) c ↔ ∃ c', c = c' + n + 1 ∧ HistR jns rs r.over tl c' := by
  constructor
  · intro h
    generalize e : gapD rd :: heldD r (lastN rd) :: tl = ds at h
    cases h with
    | aside => injection e with e _; exact absurd e.symm aside_ne_gap
    | held => injection e with e _; exact absurd e.symm held_ne_gap
    | gap h1 _ h =>
      rw [hl] at h1
      have := Option.some.inj h1
      injection e with _ e
      injection e with _ e
      subst e
      exact ⟨_, by omega, h⟩
  · rintro ⟨c', rfl, h⟩
    exact .gap hl g h
/-- how a history may begin -/
theorem hist_cases {jns : List (Nm × List Nm)} {r : Rt} {rs : List Rt} {x : Nm} {d : PyData} {tl : List PyData} {c : Nat} (h : HistR jns (r :: rs) x (d :: tl) c) : d = asideD r ∨ (d = heldD r x ∧ lackF jns r x = some 0) ∨ ∃ n rd tl', lackF jns r x = some (n + 1) ∧ GapOk jns r x (n + 1) rd ∧ d = gapD rd ∧ tl = heldD r (lastN rd) :: tl' := by
  generalize e : d :: tl = ds at h
  cases h with
  | aside => injection e with e _; exact .inl e
  | held h1 => injection e with e _; exact .inr (.inl ⟨e, h1⟩)
  | gap h1 h2 => injection e with e1 e2; exact .inr (.inr ⟨_, _, _, h1, h2, e1, e2⟩)
theorem isW_aside {r : Rt} : isW (asideD r) "aside" 2 = true := isW_iff.mpr ⟨_, rfl, rfl⟩
theorem isW_gapD {rd : List Nm} : isW (gapD rd) "gap" 2 = true := isW_iff.mpr ⟨_, rfl, rfl⟩
theorem isW_held {r : Rt} {z : Nm} : isW (heldD r z) "held" 4 = true := isW_iff.mpr ⟨_, rfl, rfl⟩
theorem isW_held_gap {r : Rt} {z : Nm} : isW (heldD r z) "gap" 2 = false := by rfl
theorem lack0 {jns : List (Nm × List Nm)} {r : Rt} {x : Nm} : lackF jns r x = some 0 ↔ x ∈ fars jns r := by
  rw [lackF_some]
  exact Rm.ds_zero
theorem dtAll_strD {H : Hp} : ∀ {rd : List Nm} {xs : List V}, DtAll SA H xs (rd.map strD) → xs = rd.map nS
  | [], _, .nil => rfl
  | z :: rd, _, .cons h hs => by
    have h : Dt SA H _ (.str (SX.S z)) := h
    cases h
    rw [dtAll_strD hs]
    rfl
section
variable {P : Program} {w : World} {K : PySem.W.Frag} {mg : Str → Option Value} {base : Heap} {k : Nat}
def sp_l_wrong_any (K : PySem.W.Frag) : Sp := fun vs H Q _ => ∃ (r R S : Addr) (x : Nm) (ts : List Addr) (rs : List Rt) (us : List V) (ds : List PyData) (ls : List Nm) (jns : List (Nm × List Nm)), vs = [.ref r, nS x, .ref R, .ref S] ∧ NB H r ls jns ∧ NetBok ls jns ∧ x ∈ ls ∧ H R = some (.lst (ts.map V.ref)) ∧ Paired (RtA H) ts rs ∧ (∀ r ∈ rs, RtOk r ∧ RtFit jns r) ∧ rs.length ≤ 1000 ∧ H S = some (.lst us) ∧ DtAll SA H us ds ∧ us.length ≤ 5000 ∧ (∀ d ∈ ds, Sm d) ∧
  ∀ H', Same H H' → ((¬ ∃ c, HistR jns rs x ds c) → Q .non H') ∧ ∀ c, HistR jns rs x ds c → Q (.int (c : Nat)) H'
set_option maxHeartbeats 16000000 in
theorem ok_l_wrong_any (T : Defs K mg) : FnOk P w K mg base CX0 (k + 4) T.a_l_wrong_any T.d_l_wrong_any ["_law_net_here", "_law_line", "_law_rows", "_law_steps"] (sp_l_wrong_any K) := by
  have G_l_is : FnOk P w K mg base CX0 (k + 3) _ _ _ _ := ok_l_is (k := k + 2) T
  have G_l_same : FnOk P w K mg base CX0 (k + 3) _ _ _ _ := ok_l_same (k := k + 2) T
  have G_l_is_gap : FnOk P w K mg base CX0 (k + 3) _ _ _ _ := ok_l_is_gap (k := k) T
  refine T.F_l_wrong_any.ok sc_l_wrong_any (fun vs H Q E h => ?_) (fun cdv A outer s H vs Q E hr h => ?_)
  · obtain ⟨r, R, S, x, ts, rs, us, ds, ls, jns, rfl, _⟩ := h
    rfl
  · obtain ⟨r, R, S, x, ts, rs, us, ds, ls, jns, rfl, hnet, hnb, xin, eR, hts, hrs, r1000, eS, hds, u5, hsm, q⟩ := h
    refine ⟨_, PSs.nox
(pss_cons (ps_asg (pe_tup (pa_cons (pv 1) (pa_cons (pe_int) (pa_cons (pe_int) (pa_cons (pe_int) pa_nil))))) (pg_tup rfl (pgs_cons (pg_name (i := 4) sc_l_wrong_any.nd rfl (.inl rfl)) (pgs_cons (pg_name (i := 5) sc_l_wrong_any.nd rfl (.inl rfl)) (pgs_cons (pg_name (i := 6) sc_l_wrong_any.nd rfl (.inl rfl)) (pgs_cons (pg_name (i := 7) sc_l_wrong_any.nd rfl (.inl rfl)) pgs_nil))))))
    (pss_cons (ps_while PassesOwn.never (pt_cmpR op_lt (pv 7) (pe_callB (r := rLenS K) call_lenS (by rfl) T.z_len (by decide +kernel) (pa_cons (pv 3) pa_nil)) (nomark _))
      (pss_cons (ps_if (pt_cmpR op_eq (pv 5) (pe_callB (r := rLenS K) call_lenS (by rfl) T.z_len (by decide +kernel) (pa_cons (pv 2) pa_nil)) (nomark _))
        (pss_one (ps_ret (pe_non)))
        pss_nil)
      (pss_cons (ps_par (i := 8) (j := 9) (by rfl) sc_l_wrong_any.nd rfl rfl (by decide) rfl rfl (pa_cons (pe_ix (r := rIxL K) ix_list (pv 2) (pv 5) (fun _ _ => rfl)) (pa_cons (pe_tup (pa_cons (pv 4) pa_nil)) pa_nil)) (by rfl))
      (Evl.pss_cut (ps_if (PW.pt (pw_and (pt_val (pe_call G_l_is hr (by rfl) T.g_l_is T.F_l_is.kp T.b_l_is .nil pass0 (pa_cons (pe_ix (r := rIxL K) ix_list (pv 3) (pv 7) (fun _ _ => rfl)) (pa_cons (pe_str) (pa_cons (pe_int) pa_nil))))) (pw_and1 (pt_val (pe_call G_l_same hr (by rfl) T.g_l_same T.F_l_same.kp T.b_l_same .nil pass0 (pa_cons (pe_ix (r := rIxT K) ix_tup (pe_ix (r := rIxL K) ix_list (pv 3) (pv 7) (fun _ _ => rfl)) (pe_int) (fun _ _ => rfl)) (pa_cons (pe_ix (r := rIxT K) ix_tup (pv 8) (pe_int) (fun _ _ => rfl)) pa_nil)))))))
        (pss_cons (ps_par3 (i := 5) (j := 6) (l := 7) rfl sc_l_wrong_any.nd rfl rfl rfl (by decide) (by decide) (by decide) rfl rfl rfl (pa_cons (pe_op op_add (pv 5) (pe_int)) (pa_cons (pe_op op_add (pv 6) (pe_int)) (pa_cons (pe_op op_add (pv 7) (pe_int)) pa_nil))) (by rfl))
        (pss_one (ps_continue)))
        pss_nil)
      (Evl.pss_cut (ps_if (pt_val (pe_call G_l_is hr (by rfl) T.g_l_is T.F_l_is.kp T.b_l_is .nil pass0 (pa_cons (pe_ix (r := rIxL K) ix_list (pv 3) (pv 7) (fun _ _ => rfl)) (pa_cons (pe_str) (pa_cons (pe_int) pa_nil)))))
        (pss_cons (ps_set (i := 9) sc_l_wrong_any.nd rfl (.inl rfl) (pe_ix (r := rIxT K) ix_tup (pe_ix (r := rIxL K) ix_list (pv 3) (pv 7) (fun _ _ => rfl)) (pe_int) (fun _ _ => rfl)))
        (pss_cons (ps_if (PW.pt (pw_or (pt_not (pt_val (pe_call G_l_is_gap hr (by rfl) T.g_l_is_gap T.F_l_is_gap.kp T.b_l_is_gap .nil pass0 (pa_cons (pv 0) (pa_cons (pv 9) (pa_cons (pv 4) (pa_cons (pv 8) pa_nil))))))) (pw_or1 (pt_cmpR op_eq (pe_op op_add (pv 7) (pe_int)) (pe_callB (r := rLenS K) call_lenS (by rfl) T.z_len (by decide +kernel) (pa_cons (pv 3) pa_nil)) (nomark _)))))
          (pss_one (ps_ret (pe_non)))
          pss_nil)
        (pss_one (ps_aug (i := 7) sc_l_wrong_any.nd rfl (.inl rfl) (pe_int) ip_add))))
        pss_nil)
      (pss_cons (ps_set (i := 10) sc_l_wrong_any.nd rfl (.inl rfl) (pe_ix (r := rIxL K) ix_list (pv 3) (pv 7) (fun _ _ => rfl)))
      (pss_cons (ps_if (PW.pt (pw_or (pt_not (pt_val (pe_call G_l_is hr (by rfl) T.g_l_is T.F_l_is.kp T.b_l_is .nil pass0 (pa_cons (pv 10) (pa_cons (pe_str) (pa_cons (pe_int) pa_nil)))))) (pw_or1 (pt_not (pt_val (pe_call G_l_same hr (by rfl) T.g_l_same T.F_l_same.kp T.b_l_same .nil pass0 (pa_cons (pe_ix (r := rIxT K) ix_tup (pv 10) (pe_int) (fun _ _ => rfl)) (pa_cons (pe_ix (r := rIxT K) ix_tup (pv 8) (pe_int) (fun _ _ => rfl)) pa_nil))))))))
        (pss_one (ps_ret (pe_non)))
        pss_nil)
      (pss_cons (ps_if (pt_cmpR (r := rNeD K) (op_neD hr.units) (pe_slice (r := rSlS K) sl_tupS (pv 10) (po_some (pe_int)) po_none) (pe_tup (pa_cons (pe_ix (r := rIxT K) ix_tup (pv 9) (pe_un un_neg (pe_int)) (fun _ _ => rfl)) (pa_cons (pe_ix (r := rIxT K) ix_tup (pv 8) (pe_int) (fun _ _ => rfl)) pa_nil))) (nomark _))
        (pss_one (ps_ret (pe_non)))
        pss_nil)
      (Evl.pss_cut (ps_if (PW.pt (pw_and (pt_cmpR op_eq (pe_callB (r := rLenS K) call_lenS (by rfl) T.z_len (by decide +kernel) (pa_cons (pv 9) pa_nil)) (pe_int) (nomark _)) (pw_and1 (PW.pt (pw_or (pt_cmpR op_eq (pv 4) (pe_ix (r := rIxT K) ix_tup (pv 8) (pe_int) (fun _ _ => rfl)) (nomark _)) (pw_or1 (pt_cmpR (r := rIn K true) op_notIn_seq (pv 4) (pe_dget (hu_of hr) (pe_callTy (r := rDictF K) (call_dictF rfl) (by rfl) T.z_dict (by decide +kernel) (pa_cons (pe_ix (r := rIxT K) ix_tup (pv 0) (pe_int) (fun _ _ => rfl)) pa_nil)) (pe_ix (r := rIxT K) ix_tup (pv 8) (pe_int) (fun _ _ => rfl)) (fun _ _ => rfl)) (by rfl))))))))
        (pss_one (ps_ret (pe_non)))
        pss_nil)
      (pss_cons (ps_aug (i := 6) sc_l_wrong_any.nd rfl (.inl rfl) (pe_op op_sub (pe_callB (r := rLenS K) call_lenS (by rfl) T.z_len (by decide +kernel) (pa_cons (pv 9) pa_nil)) (pe_int)) ip_add)
      (pss_one (ps_par3 (i := 4) (j := 5) (l := 7) rfl sc_l_wrong_any.nd rfl rfl rfl (by decide) (by decide) (by decide) rfl rfl rfl (pa_cons (pe_ix (r := rIxT K) ix_tup (pv 8) (pe_int) (fun _ _ => rfl)) (pa_cons (pe_op op_add (pv 5) (pe_int)) (pa_cons (pe_op op_add (pv 7) (pe_int)) pa_nil))) (by rfl)))))))))))))
    (pss_one (ps_ret (pe_ifExp (pt_cmpR op_eq (pv 5) (pe_callB (r := rLenS K) call_lenS (by rfl) T.z_len (by decide +kernel) (pa_cons (pv 2) pa_nil)) (nomark _)) (pv 6) (pe_non))))))
      , ?_⟩
    have hok := hnb.lj
    have tl := paired_len hts
    have ul := hds.len
    refine ⟨nS x, rfl, by show 4 ≤ sizeLine; decide, fun t0 nt0 => ?_⟩
    have st0 := same_upd (o := .tup [nS x, .int 0, .int 0, .int 0]) nt0
    refine ⟨t0, _, rfl, SqT.of upd_same, rfl, _, _, rfl, _, _, rfl, _, _, rfl, _, [], rfl, rfl, ?_⟩
    generalize upd H t0 (.tup [nS x, .int 0, .int 0, .int 0]) = H0 at st0 ⊢
    have none_ : ∀ {Hx : Hp}, Same H Hx → (∀ c, ¬ HistR jns rs x ds c) → Q .non Hx := fun s h => (q _ s).1 fun ⟨c, hc⟩ => h c hc
    refine ⟨fun m' σ Hx => ∃ (i wr kk : Nat) (y : Nm) (ys : List (Option V)), m' = ds.length - kk ∧ ys.length = 3 ∧ σ = some (.ref r) :: some (nS x) :: some (.ref R) :: some (.ref S) :: some (nS y) :: some (.int ((i : Nat) : Int)) :: some (.int ((wr : Nat) : Int)) :: some (.int ((kk : Nat) : Int)) :: ys ∧ y ∈ ls ∧ i ≤ rs.length ∧ kk ≤ ds.length ∧ Same H Hx ∧ ∀ c, HistR jns rs x ds c ↔ ∃ c', c = wr + c' ∧ HistR jns (rs.drop i) y (ds.drop kk) c',
      ⟨_, 0, 0, 0, x, _, rfl, rfl, rfl, xin, Nat.zero_le _, Nat.zero_le _, st0, fun c => ⟨fun h => ⟨c, by omega, h⟩, fun ⟨c', e, h⟩ => by rw [show c = c' by omega]; exact h⟩⟩, fun m' σ Hx hW => ?_⟩
    obtain ⟨i, wr, kk, y, ys, rfl, hys, rfl, yin, il, kl, sx, hiff⟩ := hW
    match ys, hys with
    | [y8, y9, y10], _ =>
    have eSx := sx _ _ eS
    have eRx := sx _ _ eR
    refine ⟨.int ((kk : Nat) : Int), rfl, .ref S, rfl, S, us, rfl, .inl (SqL.of eSx), _, _, rfl, rfl, _, rfl, ite2 (fun cw => ?_) (fun cw => ?_)⟩
    · have klt : kk < ds.length := by have := of_decide_eq_true cw; omega
      refine ⟨_, fun σ' H' h => h, ?_⟩
      obtain ⟨d, ed⟩ : ∃ d, ds[kk]? = some d := ⟨_, List.getElem?_eq_getElem klt⟩
      have hdrop : ds.drop kk = d :: ds.drop (kk + 1) := by
        rw [List.drop_eq_getElem_cons klt, (List.getElem?_eq_some_iff.mp ed).2]
      rw [hdrop] at hiff
      obtain ⟨u, eu, hd⟩ := hds.get2 ed
      have smd := hsm d (List.mem_of_getElem? ed)
      refine ⟨.int ((i : Nat) : Int), rfl, .ref R, rfl, R, _, rfl, .inl (SqL.of eRx), rfl, _, rfl, ite2 (fun c0 => ?_) (fun c0 => ?_)⟩
      · have c0 : i = rs.length := by
          have c0 := of_decide_eq_true c0
          injection c0 with c0
          rw [List.length_map, tl] at c0
          omega
        refine none_ sx fun c hc => ?_
        obtain ⟨c', _, h⟩ := (hiff c).mp hc
        rw [c0, List.drop_length] at h
        cases h
      have ilt : i < rs.length := by
        have : i ≠ rs.length := fun z => c0 (decide_eq_true (by rw [List.length_map, tl, z]))
        omega
      obtain ⟨rr, err⟩ : ∃ rr, rs[i]? = some rr := ⟨_, List.getElem?_eq_getElem ilt⟩
      obtain ⟨t, et, ht⟩ := paired_atC hts err
      obtain ⟨rok, hfit⟩ := hrs rr (List.mem_of_getElem? err)
      have hfit0 := hfit
      obtain ⟨jn, jin, ejn, oin⟩ := hfit
      have oinl : rr.over ∈ ls := hok.sub jn jin _ oin
      have hdropR : rs.drop i = rr :: rs.drop (i + 1) := drop_atR err
      rw [hdropR] at hiff
      have bad : ∀ {Hy : Hp}, Same H Hy → (∀ c', ¬ HistR jns (rr :: rs.drop (i + 1)) y (d :: ds.drop (kk + 1)) c') → Q .non Hy := fun s h => none_ s fun c hc => let ⟨c', _, h'⟩ := (hiff c).mp hc; h c' h'
      refine ⟨.ref R, rfl, .int ((i : Nat) : Int), rfl, R, _, _, .ref t, rfl, rfl, SqL.of eRx, atI_nat (at_refC et), nS y, rfl, one_sz, fun ry nry => ⟨_, _, rfl, ?_⟩⟩
      have sry := same_upd (o := .tup [nS y]) nry
      have ery : (upd Hx ry (.tup [nS y])) ry = some (.tup [nS y]) := upd_same
      have s1 := sx.trans sry
      generalize upd Hx ry (.tup [nS y]) = H1 at ery s1 ⊢
      have atS : ∀ {Hy : Hp}, Same H Hy → Hy S = some (.lst us) ∧ atI us ((kk : Nat) : Int) = some u := fun s => ⟨s _ _ eS, atI_nat eu⟩
      have wA : isW d "aside" 2 = true → ∃ (a : Addr) (d1 : PyData) (x0 x1 : V), u = .ref a ∧ d = .tuple [.str "aside", d1] ∧ H a = some (.tup [x0, x1]) ∧ Dt SA H x1 d1 := fun h => by
        obtain ⟨es, rfl, el⟩ := isW_iff.mp h
        obtain ⟨a, xs, rfl, ea, hxs⟩ := hd.tupI
        match es, el, xs, hxs with
        | [d1], _, [x0, x1], .cons _ (.cons h1 .nil) => exact ⟨a, d1, x0, x1, rfl, rfl, ea, h1⟩
      refine ⟨fun σ Hz => σ = [some (.ref r), some (nS x), some (.ref R), some (.ref S), some (nS y), some (.int ((i : Nat) : Int)), some (.int ((wr : Nat) : Int)), some (.int ((kk : Nat) : Int)), some (.ref t), some (.ref ry), y10] ∧ Hz = H1 ∧ d ≠ asideD rr, ?_, fun σ Hz mid => ?_⟩
      · obtain ⟨eS1, hat⟩ := atS s1
        refine ⟨.ref S, rfl, .int ((kk : Nat) : Int), rfl, S, us, _, u, rfl, rfl, SqL.of eS1, hat, u, d, Str.ofString "aside", 2, rfl, hd.same s1, by decide, _, rfl, ?_⟩
        cases cA : isW d "aside" 2 with
        | false => exact iteF ⟨rfl, rfl, fun e => by rw [e, isW_aside] at cA; cases cA⟩
        | true =>
          obtain ⟨a, d1, x0, x1, rfl, rfl, ea, h1⟩ := wA cA
          refine iteT ⟨.ref S, rfl, .int ((kk : Nat) : Int), rfl, S, us, _, .ref a, rfl, rfl, SqL.of eS1, hat, a, _, 1, x1, rfl, rfl, SqT.of (s1 _ _ ea), atI_nat (j := 1) rfl, .ref t, rfl, t, _, 1, _, rfl, rfl, SqT.of (s1 _ _ ht), atI_nat (j := 1) rok.i1, x1, d1, rr.num, rfl, h1.same s1, _, rfl, ?_⟩
          cases cB : sameD d1 rr.num with
          | false => exact iteF ⟨rfl, rfl, fun e => by
              injection e with e
              injection e with _ e
              injection e with e _
              rw [sameD_iff.mpr e] at cB
              cases cB⟩
          | true =>
            have e1 := sameD_iff.mp cB
            subst e1
            refine iteT ⟨.int ((i : Nat) : Int), rfl, _, 1, rfl, rfl, .int ((wr : Nat) : Int), rfl, _, 1, rfl, rfl, .int ((kk : Nat) : Int), rfl, _, 1, rfl, rfl, _, _, _, rfl, ds.length - (kk + 1), by omega, i + 1, wr + 1, kk + 1, y, _, rfl, ?_, rfl, yin, ilt, klt, s1, fun c => ?_⟩
            · rfl
            · rw [hiff c]
              constructor
              · rintro ⟨c', e, h⟩
                obtain ⟨c2, e2, h2⟩ := histc_aside.mp h
                exact ⟨c2, by omega, h2⟩
              · rintro ⟨c', e, h⟩
                exact ⟨c' + 1, by omega, histc_aside.mpr ⟨c', rfl, h⟩⟩
      obtain ⟨rfl, rfl, na⟩ := mid
      obtain ⟨eS1, hat⟩ := atS s1
      refine ⟨fun σ Hz => ∃ (ro : Addr) (rd : List Nm) (k' n : Nat), σ = [some (.ref r), some (nS x), some (.ref R), some (.ref S), some (nS y), some (.int ((i : Nat) : Int)), some (.int ((wr : Nat) : Int)), some (.int ((k' : Nat) : Int)), some (.ref t), some (.ref ro), y10] ∧ Same H Hz ∧ Hz ro = some (.tup (rd.map nS)) ∧ rd.length = n + 1 ∧ ((n = 0 ∧ rd = [y] ∧ k' = kk ∧ isW d "gap" 2 = false) ∨ (0 < n ∧ k' = kk + 1 ∧ kk + 1 < ds.length ∧ lackF jns rr y = some n ∧ GapOk jns rr y n rd ∧ d = gapD rd)), ?_, fun σ Hz mid => ?_⟩
      · refine ⟨.ref S, rfl, .int ((kk : Nat) : Int), rfl, S, us, _, u, rfl, rfl, SqL.of eS1, hat, u, d, Str.ofString "gap", 2, rfl, hd.same s1, by decide, _, rfl, ?_⟩
        cases cG : isW d "gap" 2 with
        | false => exact iteF ⟨ry, [y], kk, 0, rfl, s1, ery, rfl, .inl ⟨rfl, rfl, rfl, rfl⟩⟩
        | true =>
          refine iteT ?_
          obtain ⟨es, rfl, el⟩ := isW_iff.mp cG
          obtain ⟨a, xs, rfl, ea, hxs⟩ := id hd.tupI
          match es, el, xs, hxs with
          | [e1], _, [x0, x1], .cons _ (.cons h1 .nil) =>
          have sme1 : Sm e1 := smd.tup e1 (List.mem_cons_of_mem _ List.mem_cons_self)
          refine ⟨.ref S, rfl, .int ((kk : Nat) : Int), rfl, S, us, _, .ref a, rfl, rfl, SqL.of eS1, hat, a, _, 1, x1, rfl, rfl, SqT.of (s1 _ _ ea), atI_nat (j := 1) rfl, ?_⟩
          refine ⟨.ref r, rfl, x1, rfl, nS y, rfl, .ref t, rfl, r, t, y, rr, x1, e1, ls, jns, rfl, hnet.same s1, hnb, yin, s1 _ _ ht, rok, hfit0, h1.same s1, sme1, fun H2 b s2 hb => ⟨_, rfl, ?_⟩⟩
          have s12 := s1.trans s2
          have only : ∀ c', HistR jns (rr :: rs.drop (i + 1)) y (.tuple [.str "gap", e1] :: ds.drop (kk + 1)) c' → ∃ n rd tl', lackF jns rr y = some (n + 1) ∧ GapOk jns rr y (n + 1) rd ∧ e1 = rdD rd ∧ ds.drop (kk + 1) = heldD rr (lastN rd) :: tl' := fun c' h => by
            rcases hist_cases h with e | ⟨e, _⟩ | ⟨n, rd, tl', a1, a2, a3, a4⟩
            · exact absurd e na
            · rw [e, isW_held_gap] at cG
              cases cG
            · refine ⟨n, rd, tl', a1, a2, ?_, a4⟩
              injection a3 with a3
              injection a3 with _ a3
              injection a3 with a3 _
          cases b with
          | false =>
            refine iteT (bad s12 fun c' h => ?_)
            obtain ⟨n, rd, _, a1, a2, a3, _⟩ := only c' h
            exact absurd (hb.mpr ⟨n, rd, a1, a3, a2⟩) (by decide)
          | true =>
            obtain ⟨n, rd, hl, rfl, hg⟩ := hb.mp rfl
            obtain ⟨ro, ys, rfl, ero, hys⟩ := h1.tupI
            have ey := dtAll_strD hys
            subst ey
            refine iteF ⟨.int ((kk : Nat) : Int), rfl, _, 1, rfl, rfl, .ref S, rfl, S, us, rfl, .inl (SqL.of (s12 _ _ eS)), rfl, _, rfl, ite2 (fun c1 => ?_) (fun c1 => ?_)⟩
            · have c1 : kk + 1 = ds.length := by
                have c1 := of_decide_eq_true c1
                injection c1 with c1
                omega
              refine bad s12 fun c' h => ?_
              obtain ⟨_, _, _, _, _, _, a4⟩ := only c' h
              rw [c1, List.drop_length] at a4
              cases a4
            · have c1 : kk + 1 < ds.length := by
                have : kk + 1 ≠ ds.length := fun z => c1 (decide_eq_true (by show V.int _ = V.int _; congr 1; omega))
                omega
              exact ⟨_, rfl, ((kk : Nat) : Int), 1, rfl, rfl, ro, rd, kk + 1, n + 1, rfl, s12, s12 _ _ ero, hg.len, .inr ⟨Nat.succ_pos _, rfl, c1, hl, hg, rfl⟩⟩
      obtain ⟨ro, rd, k', n, rfl, sz, ero, rdl, hcase⟩ := mid
      have k'l : k' < ds.length := by
        rcases hcase with ⟨_, _, e, _⟩ | ⟨_, e, h, _⟩ <;> omega
      have kk' : kk ≤ k' := by
        rcases hcase with ⟨_, _, e, _⟩ | ⟨_, e, h, _⟩ <;> omega
      obtain ⟨d', ed'⟩ : ∃ d', ds[k']? = some d' := ⟨_, List.getElem?_eq_getElem k'l⟩
      obtain ⟨u', eu', hd'⟩ := hds.get2 ed'
      have smd' := hsm d' (List.mem_of_getElem? ed')
      have need : ∀ c', HistR jns (rr :: rs.drop (i + 1)) y (d :: ds.drop (kk + 1)) c' → d' = heldD rr (lastN rd) ∧ (n = 0 → lackF jns rr y = some 0) := fun c' h => by
        rcases hist_cases h with e | ⟨e, hl⟩ | ⟨n', rd', tl', a1, a2, a3, a4⟩
        · exact absurd e na
        · rcases hcase with ⟨_, e2, e3, _⟩ | ⟨_, _, _, _, _, e4⟩
          · rw [e3, ed] at ed'
            rw [← Option.some.inj ed', e, e2]
            exact ⟨rfl, fun _ => hl⟩
          · rw [e] at e4
            exact absurd e4 held_ne_gap
        · rcases hcase with ⟨_, _, _, e4⟩ | ⟨n0, e2, _, _, _, e4⟩
          · rw [a3, isW_gapD] at e4
            cases e4
          · rw [e4] at a3
            have := gapD_inj a3
            subst this
            have : ds[kk + 1]? = some (heldD rr (lastN rd)) := by
              have z : (ds.drop (kk + 1))[0]? = some (heldD rr (lastN rd)) := by rw [a4]; rfl
              rw [List.getElem?_drop] at z
              exact z
            rw [← e2, ed'] at this
            exact ⟨Option.some.inj this, fun h => absurd h (by omega)⟩
      have eSz := sz _ _ eS
      have hatz : atI us ((k' : Nat) : Int) = some u' := atI_nat eu'
      refine ⟨.ref S, rfl, .int ((k' : Nat) : Int), rfl, S, us, _, u', rfl, rfl, SqL.of eSz, hatz, ?_⟩
      refine ⟨u', rfl, u', d', Str.ofString "held", 4, rfl, hd'.same sz, by decide, _, rfl, ?_⟩
      cases cH : isW d' "held" 4 with
      | false =>
        refine iteT (bad sz fun c' h => ?_)
        rw [(need c' h).1, isW_held] at cH
        cases cH
      | true =>
      refine iteF ?_
      obtain ⟨es, rfl, el⟩ := isW_iff.mp cH
      obtain ⟨a, xs, rfl, ea, hxs⟩ := id hd'.tupI
      match es, el, xs, hxs with
      | [f1, f2, f3], _, [x0, x1, x2, x3], .cons _ (.cons h1 (.cons h2 (.cons h3 .nil))) =>
      have htz := sz _ _ ht
      refine ⟨.ref a, rfl, a, _, 1, x1, rfl, rfl, SqT.of (sz _ _ ea), atI_nat (j := 1) rfl, .ref t, rfl, t, _, 1, _, rfl, rfl, SqT.of htz, atI_nat (j := 1) rok.i1, x1, f1, rr.num, rfl, h1.same sz, _, rfl, ?_⟩
      have heq : (PyData.tuple [.str "held", f1, f2, f3] = heldD rr (lastN rd)) ↔ f1 = .int rr.num ∧ f2 = strD (lastN rd) ∧ f3 = strD rr.over := by
        constructor
        · intro h
          injection h with h
          injection h with _ h
          injection h with h1 h
          injection h with h2 h
          injection h with h3 h
          exact ⟨h1, h2, h3⟩
        · rintro ⟨rfl, rfl, rfl⟩
          rfl
      cases cN : sameD f1 rr.num with
      | false =>
        refine iteT (bad sz fun c' h => ?_)
        rw [sameD_iff.mpr (heq.mp (need c' h).1).1] at cN
        cases cN
      | true =>
      refine iteF ?_
      have e1 := sameD_iff.mp cN
      subst e1
      obtain ⟨zl, hzl⟩ : ∃ z, rd[rd.length - 1]? = some z := ⟨_, List.getElem?_eq_getElem (by omega)⟩
      have elast := lastN_at hzl
      have zin : zl ∈ ls := by
        have zm := List.mem_of_getElem? hzl
        rcases hcase with ⟨_, e, _⟩ | ⟨_, _, _, _, g, _⟩
        · rw [e, List.mem_singleton] at zm
          rw [zm]; exact yin
        · have := g.lst
          rw [elast, ← fars_jn hnb.jnd jin ejn] at this
          exact hok.sub jn jin zl (mem_fromL.mp this).1
      have sm2 : Sm f2 := smd'.tup f2 (by simp)
      have sm3 : Sm f3 := smd'.tup f3 (by simp)
      refine ⟨.ref a, rfl, 2, rfl, a, _, rfl, sz _ _ ea, fun cc H3 s3 ec => ?_⟩
      have ec : H3 cc = some (.tup [x2, x3]) := ec
      have s03 := sz.trans s3
      refine ⟨.ref ro, rfl, 1, rfl, ro, _, -1, nS zl, rfl, rfl, SqT.of (s3 _ _ ero), atI_lst (by rw [List.length_map, List.getElem?_map, hzl]; rfl), .ref t, rfl, t, _, 7, _, rfl, rfl, SqT.of (s03 _ _ ht), atI_nat (j := 7) rok.i7, two_sz, fun tw ntw => ?_⟩
      have stw := same_upd (o := .tup [nS zl, nS rr.over]) ntw
      have s04 := s03.trans stw
      have d1 : Dt SA (upd H3 tw (.tup [nS zl, nS rr.over])) (.ref cc) (.tuple [f2, f3]) := .tup trivial (stw _ _ ec) (by show 2 ≤ 5000; decide) (.cons (h2.same s04) (.cons (h3.same s04) .nil))
      have d2 : Dt SA (upd H3 tw (.tup [nS zl, nS rr.over])) (.ref tw) (.tuple [strD zl, strD rr.over]) := .tup trivial upd_same (by show 2 ≤ 5000; decide) (.cons (.str _) (.cons (.str _) .nil))
      have sh1 : SeqAt.shaped (.tuple [f2, f3]) = true := Bool.and_eq_true_iff.mpr ⟨by
        show (f2.canLay0 && (f3.canLay0 && true)) = true
        rw [sm2.lay, sm3.lay]
        rfl, decide_eq_true (by
        show max f2.depth (max f3.depth 0) + 1 ≤ 64
        have := sm2.dep
        have := sm3.dep
        omega)⟩
      have sh2 : SeqAt.shaped (.tuple [strD zl, strD rr.over]) = true := (nms_sh (zs := [zl, rr.over]) fun z hz => by
        rcases List.mem_cons.mp hz with e | e
        · rw [e]; exact hnb.lnm zl zin
        · rw [List.mem_singleton.mp e]; exact hnb.lnm _ oinl).1
      refine ⟨_, _, d1.dp, d2.dp, sh1, sh2, _, rfl, ?_⟩
      have eqq : PyData.eqv (.tuple [f2, f3]) (.tuple [strD zl, strD rr.over]) = true ↔ f2 = strD zl ∧ f3 = strD rr.over := by
        show (PyData.eqv f2 (strD zl) && (PyData.eqv f3 (strD rr.over) && true)) = true ↔ _
        rw [Bool.and_eq_true, Bool.and_true]
        exact and_congr eqv_str eqv_str
      clear d1 d2
      have ero4 := stw _ _ (s3 _ _ ero)
      clear stw
      generalize upd H3 tw (.tup [nS zl, nS rr.over]) = H4 at s04 ero4 ⊢
      cases cE : PyData.eqv (.tuple [f2, f3]) (.tuple [strD zl, strD rr.over]) with
      | false =>
        refine iteT (bad s04 fun c' h => ?_)
        have hh := (heq.mp (need c' h).1).2
        rw [elast] at hh
        rw [eqq.mpr hh] at cE
        cases cE
      | true =>
      refine iteF ?_
      obtain ⟨rfl, rfl⟩ := eqq.mp cE
      refine ⟨fun σ Hw => σ = [some (.ref r), some (nS x), some (.ref R), some (.ref S), some (nS y), some (.int ((i : Nat) : Int)), some (.int ((wr : Nat) : Int)), some (.int ((k' : Nat) : Int)), some (.ref t), some (.ref ro), some (.ref a)] ∧ Same H Hw ∧ Hw ro = some (.tup (rd.map nS)) ∧ (n = 0 → lackF jns rr y = some 0), ?_, fun σ Hw mid => ?_⟩
      · refine ⟨.ref ro, rfl, ro, _, rfl, .inr (SqT.of ero4), rfl, _, rfl, ite2 (fun cl => ?_) (fun cl => ?_)⟩
        · have n0 : n = 0 := by
            have cl := of_decide_eq_true cl
            injection cl with cl
            rw [List.length_map, rdl] at cl
            omega
          refine ⟨nS y, rfl, .ref t, rfl, t, _, 7, _, rfl, rfl, SqT.of (s04 _ _ ht), atI_nat (j := 7) rok.i7, rfl, _, rfl, ?_⟩
          rw [eq_dec]
          have hf : y ∈ fars jns rr ↔ y ∈ jn.2 ∧ y ≠ rr.over := by rw [← fars_jn hnb.jnd jin ejn]; exact mem_fromL
          by_cases co : y = rr.over
          · rw [decide_eq_true co]
            refine iteT (bad s04 fun c' h => ?_)
            exact (hf.mp (lack0.mp ((need c' h).2 n0))).2 co
          rw [decide_eq_false co]
          obtain ⟨na', nc, nb, nd, ja, er, tna, tnc, hJ⟩ := hnet.same s04
          obtain ⟨kvs, hkv, hks, hmem⟩ := jn_dict (K := K) hJ
          obtain ⟨jt, hjt1, hjt2⟩ := hmem jn jin
          refine iteF ⟨nS y, rfl, .ref r, rfl, r, [.ref na', nb, .ref nc, nd], 2, .ref nc, rfl, rfl, SqT.of er, atI_nat (j := 2) rfl, nc, ja, kvs, rfl, tnc, hkv, fun dd ndd => ?_⟩
          have sd := same_upd (o := .dK (mergeK [] kvs)) ndd
          refine ⟨.ref t, rfl, t, _, 3, _, rfl, rfl, SqT.of (sd _ _ (s04 _ _ ht)), atI_nat (j := 3) rok.i3, dd, .ref jt, rfl, by rw [← jn_dict_val hks hnb.jnd hjt1, ejn]; exact DGet.k (k := Sum.inr (SX.S rr.jn)) upd_same, jt, _, rfl, .inr (hjt2.same sd).sq, rfl, flat_nms _, _, rfl, ?_⟩
          rw [show (if true = true then !inV (nS y) (jn.2.map nS) else inV (nS y) (jn.2.map nS)) = !decide (y ∈ jn.2) by rw [in_nms]; rfl]
          by_cases cj : y ∈ jn.2
          · rw [decide_eq_true cj]
            exact iteF ⟨rfl, s04.trans sd, sd _ _ ero4, fun _ => lack0.mpr (hf.mpr ⟨cj, co⟩)⟩
          · rw [decide_eq_false cj]
            refine iteT (bad (s04.trans sd) fun c' h => ?_)
            exact cj (hf.mp (lack0.mp ((need c' h).2 n0))).1
        · refine ⟨rfl, s04, ero4, fun h => absurd (decide_eq_true ?_) cl⟩
          rw [List.length_map, rdl, h]
          rfl
      obtain ⟨rfl, sw, erow, hl0⟩ := mid
      refine ⟨_, rfl, .ref ro, rfl, ro, _, rfl, .inr (SqT.of erow), _, 1, rfl, rfl, ((wr : Nat) : Int), _, rfl, rfl, .ref t, rfl, t, _, 7, _, rfl, rfl, SqT.of (sw _ _ ht), atI_nat (j := 7) rok.i7, .int ((i : Nat) : Int), rfl, _, 1, rfl, rfl, .int ((k' : Nat) : Int), rfl, _, 1, rfl, rfl, _, _, _, rfl, ds.length - (k' + 1), by omega, i + 1, wr + n, k' + 1, rr.over, [some (.ref t), some (.ref ro), some (.ref a)], rfl, rfl, ?_, oinl, ilt, k'l, sw, fun c => ?_⟩
      · rw [List.length_map, rdl]
        show [some (V.ref r), some (nS x), some (.ref R), some (.ref S), some (nS rr.over), some (.int (((i : Nat) : Int) + 1)), some (.int (((wr : Nat) : Int) + (((n + 1 : Nat) : Int) - 1))), some (.int (((k' : Nat) : Int) + 1)), some (.ref t), some (.ref ro), some (.ref a)] = _
        rw [show ((wr : Nat) : Int) + (((n + 1 : Nat) : Int) - 1) = ((wr + n : Nat) : Int) by omega]
        rfl
      · rw [hiff c]
        have hd'' : ds.drop k' = heldD rr (lastN rd) :: ds.drop (k' + 1) := by
          rw [List.drop_eq_getElem_cons k'l, (List.getElem?_eq_some_iff.mp ed').2, elast]
          rfl
        rcases hcase with ⟨rfl, rfl, rfl, _⟩ | ⟨n0, rfl, _, hl, hg, rfl⟩
        · rw [← hdrop, hd'']
          have : lastN [y] = y := rfl
          rw [this]
          constructor
          · rintro ⟨c', e, h⟩
            exact ⟨c', by omega, (histc_held.mp h).2⟩
          · rintro ⟨c', e, h⟩
            exact ⟨c', by omega, histc_held.mpr ⟨hl0 rfl, h⟩⟩
        · rw [hd'']
          obtain ⟨m, rfl⟩ : ∃ m, n = m + 1 := ⟨n - 1, by omega⟩
          constructor
          · rintro ⟨c', e, h⟩
            obtain ⟨c2, e2, h2⟩ := (histc_gap hl hg).mp h
            exact ⟨c2, by omega, h2⟩
          · rintro ⟨c', e, h⟩
            exact ⟨c' + m + 1, by omega, (histc_gap hl hg).mpr ⟨c', rfl, h⟩⟩
    · have ke : kk = ds.length := by
        have : ¬ ((kk : Nat) : Int) < ((us.length : Nat) : Int) := fun z => cw (decide_eq_true z)
        omega
      subst ke
      rw [List.drop_length] at hiff
      refine ⟨.int ((i : Nat) : Int), rfl, .ref R, rfl, R, _, rfl, .inl (SqL.of eRx), rfl, _, rfl, ite2 (fun c0 => ?_) (fun c0 => ?_)⟩
      · have c0 : i = rs.length := by
          have c0 := of_decide_eq_true c0
          injection c0 with c0
          rw [List.length_map, tl] at c0
          omega
        rw [c0, List.drop_length] at hiff
        exact ⟨_, rfl, (q _ sx).2 wr ((hiff wr).mpr ⟨0, rfl, .nil⟩)⟩
      · have ilt : i < rs.length := by
          have : i ≠ rs.length := fun z => c0 (decide_eq_true (by rw [List.length_map, tl, z]))
          omega
        refine none_ sx fun c hc => ?_
        obtain ⟨c', _, h⟩ := (hiff c).mp hc
        rw [drop_atR (List.getElem?_eq_getElem ilt)] at h
        cases h
end
end Th
namespace Th
open PySem PySem.Spec PyProof.Rows L2
/-! the law's own look at marks, the first fault, what is told -/
section
variable {P : Program} {w : World} {K : PySem.W.Frag} {mg : Str → Option Value} {base : Heap} {k : Nat}
def sp_l_marks_bound : Sp := fun vs H Q _ => ∃ (Tb M : Addr) (x : Nm) (rs : List Rt) (fr : List Addr) (us : List V) (ds : List PyData) (ls : List Nm) (jns : List (Nm × List Nm)), vs = [.ref Tb, .ref M] ∧ LJok ls jns ∧ (jns.map (·.1)).Nodup ∧ (∀ r ∈ rs, RtFit jns r) ∧ rs.length ≤ 100 ∧ H Tb = some (.lst (fr.map V.ref)) ∧ Paired (fun a i => H a = some (.lst (.non :: rowM jns x rs i))) fr (List.range (rs.length + 1)) ∧ H M = some (.lst us) ∧ us.length ≤ 5000 ∧ DtAll SA H us ds ∧
  ∀ H' b, Same H H' → (b = true ↔ MarksD jns x rs ds) → Q (.bl b) H'
set_option maxHeartbeats 16000000 in
theorem ok_l_marks_bound (T : Defs K mg) : FnOk P w K mg base CX0 (k + 1) T.a_l_marks_bound T.d_l_marks_bound ["_law_table_here", "_law_marks"] sp_l_marks_bound := by
  refine T.F_l_marks_bound.ok sc_l_marks_bound (fun vs H Q E h => ?_) (fun cdv A outer s H vs Q E hr h => ?_)
  · obtain ⟨Tb, M, x, rs, fr, us, ds, ls, jns, rfl, _⟩ := h
    rfl
  · obtain ⟨Tb, M, x, rs, fr, us, ds, ls, jns, rfl, hok, jnd, hfit, r100, eT, hfr, eM, u5, hds, q⟩ := h
    refine ⟨_, PSs.nox
(pss_cons (ps_if (pt_cmpR op_ne (pe_callB (r := rLenS K) call_lenS (by rfl) T.z_len (by decide +kernel) (pa_cons (pv 1) pa_nil)) (pe_op op_sub (pe_callB (r := rLenS K) call_lenS (by rfl) T.z_len (by decide +kernel) (pa_cons (pv 0) pa_nil)) (pe_int)) (nomark _))
      (pss_one (ps_ret (pe_bl)))
      pss_nil)
    (pss_cons (ps_if (pt_not (pt_val (pe_callB (r := rAll K) (cr_all rfl) (by rfl) T.z_all (by decide +kernel) (pa_cons (pe_lc (own := [("_law_one", 6)]) (g := gName 6) rfl sc_l_marks_bound.nd (pi_list (pv 1)) (blkOk_by (N := N_l_marks_bound) (sc := defScope s_l_marks_bound) (by decide +kernel)) (fun _ _ _ _ _ => (pg_name (i := 6) sc_l_marks_bound.nd rfl (.inl rfl))) (fun _ _ _ _ _ => pts_nil) (fun _ _ _ _ _ => (pe_and (pe_callB (r := rIsi K) call_isi (by rfl) T.z_isinstance (by decide +kernel) (pa_cons (pv 6) (pa_cons (pe_bltn (v := .ty "int") (by rfl) T.z_int (by decide +kernel) rfl) pa_nil))) (pe_one (pe_not (pe_callB (r := rIsi K) call_isi (by rfl) T.z_isinstance (by decide +kernel) (pa_cons (pv 6) (pa_cons (pe_bltn (v := .ty "bool") (by rfl) T.z_bool (by decide +kernel) rfl) pa_nil)))))))) pa_nil))))
      (pss_one (ps_ret (pe_bl)))
      pss_nil)
    (pss_cons (ps_set (i := 2) sc_l_marks_bound.nd rfl (.inl rfl) (pe_op op_cat (pe_lst (pa_cons (pe_int) pa_nil)) (pv 1)))
    (pss_cons (ps_for PassesOwn.never rfl (pi_enum (by rfl) T.z_enumerate (pa_cons (pv 0) pa_nil)) (pg_tup rfl (pgs_cons (pg_name (i := 3) sc_l_marks_bound.nd rfl (.inl rfl)) (pgs_cons (pg_name (i := 4) sc_l_marks_bound.nd rfl (.inl rfl)) pgs_nil)))
      (pss_one (ps_for PassesOwn.never rfl (pi_range2 (by rfl) T.z_range (pa_cons (pe_op op_add (pv 3) (pe_int)) (pa_cons (pe_callB (r := rLenS K) call_lenS (by rfl) T.z_len (by decide +kernel) (pa_cons (pv 2) pa_nil)) pa_nil))) (pg_name (i := 5) sc_l_marks_bound.nd rfl (.inl rfl))
        (pss_one (ps_if (PW.pt (pw_and (pt_cmpR op_notN (pe_ix (r := rIxL K) ix_list (pv 4) (pv 5) (fun _ _ => rfl)) (pe_non) (nomark _)) (pw_and1 (pt_cmpR op_gt (pe_ix (r := rIxL K) ix_list (pv 2) (pv 5) (fun _ _ => rfl)) (pe_op op_add (pe_ix (r := rIxL K) ix_list (pv 2) (pv 3) (fun _ _ => rfl)) (pe_ix (r := rIxL K) ix_list (pv 4) (pv 5) (fun _ _ => rfl))) (nomark _)))))
          (pss_one (ps_ret (pe_bl)))
          pss_nil)))))
    (pss_one (ps_ret (pe_bl)))))))
      , ?_⟩
    have frl := paired_len hfr
    rw [List.length_range] at frl
    have ul := hds.len
    refine ⟨.ref M, rfl, M, us, rfl, .inl (SqL.of eM), .ref Tb, rfl, Tb, _, rfl, .inl (SqL.of eT), _, 1, rfl, rfl, rfl, _, rfl, ?_⟩
    have many : ((fr.map V.ref).length : Int) - 1 = ((rs.length : Nat) : Int) := by rw [List.length_map, frl]; omega
    rw [show (fun i j : Int => V.int (i - j)) (((fr.map V.ref).length : Nat) : Int) 1 = V.int ((rs.length : Nat) : Int) from congrArg V.int many]
    refine ite2 (fun c => ?_) (fun c => ?_)
    · refine q _ false (.refl _) ⟨fun z => (by cases z), fun ⟨zs, e, h⟩ => ?_⟩
      rw [ul, e, List.length_map, h.len] at c
      simp at c
    have lenE : ds.length = rs.length := by
      rw [ul] at c
      by_cases z : ds.length = rs.length
      · exact z
      · exfalso
        refine c ?_
        rw [decide_eq_false fun w => z (by injection w with w; omega)]
        rfl
    clear c
    refine ⟨.ref M, rfl, M, rfl, ⟨_, SqL.of eM⟩, fun D nD => ?_⟩
    refine lc_it (walk_list (xs := us)) (fun i H3 => Same H H3 ∧ H3 D = some (.lst (((ds.take i).map wholeD).map V.bl))) ⟨same_upd nD, upd_same⟩ (fun i H3 _ pv => SqL.of (pv.1 _ _ eM)) (fun i v H3₀ H3 hi pv yy => ?_) (fun H1 pv => ?_)
    · obtain ⟨rfl, ey⟩ := yy
      obtain ⟨s3, eD⟩ := pv
      obtain ⟨d, ed, hd⟩ := hds.get ey
      have tk : ((ds.take (i + 1)).map wholeD).map V.bl = ((ds.take i).map wholeD).map V.bl ++ [.bl (wholeD d)] := by
        rw [List.take_add_one, ed, List.map_append, List.map_append]
        rfl
      have dl : (((ds.take i).map wholeD).map V.bl).length < 5000 := by rw [List.length_map, List.length_map, List.length_take]; omega
      refine ⟨rfl, yes_ ⟨v, rfl, v, .ty "int", _, _, _, rfl, .ty _, (hd.same s3).ty, kit_I d, isiI d, rfl, ?_⟩⟩
      cases cI : isiI d with
      | false => exact iteF ⟨_, eD, small5000 (by omega), same_set s3 nD, by rw [upd_same, tk, show wholeD d = false by cases d <;> first | rfl | cases cI]⟩
      | true =>
        refine iteT ⟨v, rfl, v, .ty "bool", _, _, _, rfl, .ty _, (hd.same s3).ty, kit_B d, isiB d, rfl, _, eD, small5000 (by omega), same_set s3 nD, ?_⟩
        rw [upd_same, tk, show wholeD d = !isiB d by cases d <;> first | rfl | cases cI]
    obtain ⟨s1, eD⟩ := pv
    rw [ul, List.take_length] at eD
    refine ⟨D, _, rfl, SqL.of eD, _, rfl, ?_⟩
    cases c2 : (ds.map wholeD).all id with
    | false =>
      refine iteT (q _ false s1 ⟨fun z => (by cases z), fun ⟨zs, e, h⟩ => ?_⟩)
      rw [e, List.map_map] at c2
      exfalso
      rw [show (zs.map (wholeD ∘ PyData.int)).all id = true by
        rw [List.all_eq_true]
        intro b hb
        obtain ⟨z, _, rfl⟩ := List.mem_map.mp hb
        rfl] at c2
      cases c2
    | true =>
    refine iteF ?_
    obtain ⟨zs, rfl⟩ := ints_of (ds := ds) fun d hd => List.all_eq_true.mp c2 _ (List.mem_map_of_mem hd)
    have eus := dtAll_intsV hds
    subst eus
    rw [List.length_map] at lenE
    refine ⟨one_sz, fun o2 no2 => ?_⟩
    have so2 := same_upd (o := .lst [.int 0]) no2
    refine ⟨.ref M, rfl, o2, M, _, _, rfl, rfl, upd_same, (s1.trans so2) _ _ eM, by rw [List.length_map]; exact Nat.le_of_lt (small5000 (by show 1 + _ ≤ 5000; omega)), fun Kn nKn => ?_⟩
    have sKn := so2.trans (same_upd (o := .lst ([.int 0] ++ zs.map V.int)) nKn)
    have eKn : (upd (upd H1 o2 (.lst [.int 0])) Kn (.lst ([.int 0] ++ zs.map V.int))) Kn = some (.lst ((0 :: zs).map V.int)) := upd_same
    have s5 := s1.trans sKn
    generalize upd (upd H1 o2 (.lst [.int 0])) Kn (.lst ([.int 0] ++ zs.map V.int)) = H5 at eKn s5 ⊢
    have inj : ¬ MarksOk jns x rs zs → ¬ MarksD jns x rs (zs.map PyData.int) := fun h ⟨zs', e', h'⟩ => h (by
      rw [ints_inj e']
      exact h')
    let bnd (i j : Nat) : Prop := ∀ rr, rs[j]? = some rr → ∀ n, lackF jns rr (atM x rs i) = some n → (0 :: zs).getD (j + 1) 0 ≤ (0 :: zs).getD i 0 + ((j : Int) + 1) - i - 1 + n
    have eT5 := s5 _ _ eT
    refine ⟨.ref Tb, rfl, Tb, _, rfl, SqL.of eT5, ?_⟩
    refine for_it (walk_enum (xs := fr.map V.ref)) (fun i σ Hx => ∃ (y3 y4 y5 : Option V), σ = [some (.ref Tb), some (.ref M), some (.ref Kn), y3, y4, y5, none] ∧ Same H5 Hx ∧ ∀ i', i' < i → ∀ j, i' ≤ j → bnd i' j)
      ⟨none, none, none, rfl, .refl _, fun j hj => absurd hj (Nat.not_lt_zero _)⟩ (fun i σ Hx _ hp' => ?_) (fun i v σ Hx₀ Hx hi hp' yy => ?_) (fun σ Hx hp' => ?_)
    · obtain ⟨_, _, _, _, sx, _⟩ := hp'
      exact SqL.of (sx _ _ eT5)
    · obtain ⟨U, xv, yv, rfl, nU, rfl, ex, ey⟩ := yy
      have ex : xv = .int (i : Int) := (Option.some.inj ex).symm
      subst ex
      obtain ⟨y3, y4, y5, rfl, sx, hb⟩ := hp'
      rw [List.length_map] at hi
      obtain ⟨a, ea, rfl⟩ := at_ref ey
      obtain ⟨i', ei', ha⟩ := paired_get hfr ea
      rw [List.getElem?_range (by omega)] at ei'
      have ei' := (Option.some.inj ei').symm
      subst ei'
      have sU := same_upd (o := .tup [.int (i' : Int), .ref a]) nU
      have sy := sx.trans sU
      refine ⟨U, _, rfl, SqT.of upd_same, rfl, _, _, rfl, _, [], rfl, rfl, ?_⟩
      generalize upd Hx₀ U (.tup [.int (i' : Int), .ref a]) = Hy at sy ⊢
      have hay := sy _ _ (s5 _ _ ha)
      have eKny := sy _ _ eKn
      refine ⟨.int (i' : Int), rfl, _, 1, rfl, rfl, .ref Kn, rfl, Kn, _, rfl, .inl (SqL.of eKny), (i' : Int) + 1, ((zs.length : Nat) : Int) + 1, congrArg (fun z => [V.int ((i' : Int) + 1), V.int z]) (by rw [List.length_map, List.length_cons]; rfl), ⟨by omega, by omega, by omega, by omega⟩, ?_⟩
      rw [show (((zs.length : Nat) : Int) + 1 - ((i' : Int) + 1)).toNat = zs.length - i' by omega]
      refine for_range (lo := (i' : Int) + 1) (n := zs.length - i') (fun m σ Hz => ∃ y5 : Option V, σ = [some (.ref Tb), some (.ref M), some (.ref Kn), some (.int (i' : Int)), some (.ref a), y5, none] ∧ Hz = Hy ∧ ∀ m', m' < m → bnd i' (i' + m'))
        ⟨_, rfl, rfl, fun m hm => absurd hm (Nat.not_lt_zero _)⟩ (fun m σ Hz hm hz => ?_) (fun σ Hz hz => ?_)
      · obtain ⟨y5, rfl, rfl, hbm⟩ := hz
        obtain ⟨rr, err⟩ : ∃ rr, rs[i' + m]? = some rr := ⟨_, List.getElem?_eq_getElem (by omega)⟩
        have rfit := hfit rr (List.mem_of_getElem? err)
        have ej : (i' : Int) + 1 + (m : Int) = ((i' + m + 1 : Nat) : Int) := by omega
        rw [ej]
        have hrow : atI (V.non :: rowM jns x rs i') ((i' + m + 1 : Nat) : Int) = some (costV jns (atM x rs i') i' (i' + m + 1) rr) := by
          refine atI_nat ?_
          rw [List.getElem?_cons_succ]
          unfold rowM
          rw [List.getElem?_mapIdx, err]
          rfl
        have zl1 : i' + m + 1 < (0 :: zs).length := by rw [List.length_cons]; omega
        have zlm : i' < (0 :: zs).length := by rw [List.length_cons]; omega
        have aV : atI ((0 :: zs).map V.int) ((i' + m + 1 : Nat) : Int) = some (.int ((0 :: zs).getD (i' + m + 1) 0)) := atI_nat (by rw [List.getElem?_map, List.getD_eq_getElem?_getD, List.getElem?_eq_getElem zl1]; rfl)
        have bV : atI ((0 :: zs).map V.int) (i' : Int) = some (.int ((0 :: zs).getD i' 0)) := atI_nat (by rw [List.getElem?_map, List.getD_eq_getElem?_getD, List.getElem?_eq_getElem zlm]; rfl)
        have next : bnd i' (i' + m) → ∃ y5 : Option V, [some (.ref Tb), some (.ref M), some (.ref Kn), some (.int (i' : Int)), some (.ref a), some (.int ((i' + m + 1 : Nat) : Int)), none] = [some (.ref Tb), some (.ref M), some (.ref Kn), some (.int (i' : Int)), some (.ref a), y5, none] ∧ Hz = Hz ∧ ∀ m', m' < m + 1 → bnd i' (i' + m') := fun h => ⟨_, rfl, rfl, fun m' hm' => by
          rcases Nat.lt_or_eq_of_le (Nat.le_of_lt_succ hm') with z | z
          · exact hbm m' z
          · rw [z]; exact h⟩
        cases hlk : lackF jns rr (atM x rs i') with
        | none =>
          have hc : costV jns (atM x rs i') i' (i' + m + 1) rr = .non := by
            unfold costV
            rw [lenR_none hlk, if_neg (by omega)]
          rw [hc] at hrow
          exact ⟨.ref a, rfl, .int ((i' + m + 1 : Nat) : Int), rfl, a, _, _, _, rfl, rfl, SqL.of hay, hrow, rfl, false, rfl, iteF (next fun rr' e n' h => by
            rw [err] at e
            rw [← Option.some.inj e, hlk] at h
            cases h)⟩
        | some n =>
          have hl := lenR_some hok jnd rfit hlk
          have hc : costV jns (atM x rs i') i' (i' + m + 1) rr = .int ((m + n : Nat) : Int) := by
            unfold costV
            rw [if_pos ⟨by omega, by omega⟩, hl]
            congr 1
            omega
          rw [hc] at hrow
          refine ⟨.ref a, rfl, .int ((i' + m + 1 : Nat) : Int), rfl, a, _, _, _, rfl, rfl, SqL.of hay, hrow, rfl, true, rfl, iteT ?_⟩
          refine ⟨.ref Kn, rfl, .int ((i' + m + 1 : Nat) : Int), rfl, Kn, _, _, _, rfl, rfl, SqL.of eKny, aV, .ref Kn, rfl, .int (i' : Int), rfl, Kn, _, _, _, rfl, rfl, SqL.of eKny, bV, .ref a, rfl, .int ((i' + m + 1 : Nat) : Int), rfl, a, _, _, _, rfl, rfl, SqL.of hay, hrow, _, _, rfl, rfl, _, _, rfl, rfl, _, rfl, ite2 (fun c => ?_) (fun c => ?_)⟩
          · have c := of_decide_eq_true c
            refine q _ false (s5.trans sy) ⟨fun z => (by cases z), fun h => absurd h (inj fun h => ?_)⟩
            have := h.let_ (i' + m) rr err i' (by omega) (atM x rs i') n (atM_get (by omega)) hlk
            omega
          · have c : ¬ _ := fun z => c (decide_eq_true z)
            exact next fun rr' e n' h => by
              rw [err] at e
              rw [← Option.some.inj e, hlk] at h
              have h := Option.some.inj h
              rw [← h]
              omega
      · obtain ⟨y5, rfl, rfl, hbm⟩ := hz
        refine ⟨_, _, _, rfl, sy, fun i'' hi'' j hj => ?_⟩
        rcases Nat.lt_or_eq_of_le (Nat.le_of_lt_succ hi'') with z | z
        · exact hb i'' z j hj
        · subst z
          by_cases jl : j < zs.length
          · have := hbm (j - i'') (by omega)
            rw [show i'' + (j - i'') = j by omega] at this
            exact this
          · intro rr e
            rw [List.getElem?_eq_none (by omega)] at e
            cases e
    · obtain ⟨y3, y4, y5, rfl, sx, hb⟩ := hp'
      rw [List.length_map, frl] at hb
      refine q _ true (s5.trans sx) ⟨fun _ => ⟨zs, rfl, lenE, fun j rr e i hi y n hy h => ?_⟩, fun _ => rfl⟩
      have jl := (List.getElem?_eq_some_iff.mp e).1
      rw [show linesL x rs = x :: rs.map (·.over) from rfl, atM_get (by omega)] at hy
      rw [← Option.some.inj hy] at h
      exact hb i (by omega) j hi rr e n h
end
end Th
namespace Th
open PySem PySem.Spec PyProof.Rows L2
/-! the law's own first fault of any thing -/
section
variable {P : Program} {w : World} {K : PySem.W.Frag} {mg : Str → Option Value} {base : Heap} {k : Nat}
theorem pairB_lst (ps ds : List PyData) : pairB (.tuple [.list ps, .list ds]) = true := by rfl
def sp_l_where (K : PySem.W.Frag) : Sp := fun vs H Q _ => ∃ (r R : Addr) (x : Nm) (v : V) (d : PyData) (ts : List Addr) (rs : List Rt) (ls : List Nm) (jns : List (Nm × List Nm)), vs = [.ref r, nS x, .ref R, v] ∧ NB H r ls jns ∧ NetBok ls jns ∧ x ∈ ls ∧ H R = some (.lst (ts.map V.ref)) ∧ Paired (RtA H) ts rs ∧ (∀ r ∈ rs, RtOk r ∧ RtFit jns r) ∧ rs.length ≤ 100 ∧ Dt SA H v d ∧ Sm d ∧
  ∀ H' f, Same H H' → FaultH jns x rs d f → Q (.str f) H'
set_option maxHeartbeats 16000000 in
theorem ok_l_where (T : Defs K mg) : FnOk P w K mg base CX0 (k + 5) T.a_l_where T.d_l_where ["_law_net_here", "_law_line", "_law_rows", "_law_thing"] (sp_l_where K) := by
  have G_l_wrong_any : FnOk P w K mg base CX0 (k + 4) _ _ _ _ := ok_l_wrong_any (k := k) T
  have G_l_table : FnOk P w K mg base CX0 (k + 4) _ _ _ _ := ok_l_table (k := k + 1) T
  have G_l_marks_bound : FnOk P w K mg base CX0 (k + 4) _ _ _ _ := ok_l_marks_bound (k := k + 3) T
  refine T.F_l_where.ok sc_l_where (fun vs H Q E h => ?_) (fun cdv A outer s H vs Q E hr h => ?_)
  · obtain ⟨r, R, x, v, d, ts, rs, ls, jns, rfl, _⟩ := h
    rfl
  · obtain ⟨r, R, x, v, d, ts, rs, ls, jns, rfl, hnet, hnb, xin, eR, hts, hrs, r100, hv, hsm, q⟩ := h
    refine ⟨_, PSs.nox
(pss_cons (ps_if (PW.pt (pw_or (pt_not (pt_val (pe_callB (r := rIsi K) call_isi (by rfl) T.z_isinstance (by decide +kernel) (pa_cons (pv 3) (pa_cons (pe_bltn (v := .ty "tuple") (by rfl) T.z_tuple (by decide +kernel) rfl) pa_nil))))) (pw_or1 (pt_cmpR op_ne (pe_callB (r := rLenS K) call_lenS (by rfl) T.z_len (by decide +kernel) (pa_cons (pv 3) pa_nil)) (pe_int) (nomark _)))))
      (pss_one (ps_ret (pe_str)))
      pss_nil)
    (pss_cons (ps_if (pt_not (pt_val (pe_callB (r := rAll K) (cr_all rfl) (by rfl) T.z_all (by decide +kernel) (pa_cons (pe_lc (own := [("_law_one", 6)]) (g := gName 6) rfl sc_l_where.nd (pi_tup (pv 3)) (blkOk_by (N := N_l_where) (sc := defScope s_l_where) (by decide +kernel)) (fun _ _ _ _ _ => (pg_name (i := 6) sc_l_where.nd rfl (.inl rfl))) (fun _ _ _ _ _ => pts_nil) (fun _ _ _ _ _ => (pe_callB (r := rIsi K) call_isi (by rfl) T.z_isinstance (by decide +kernel) (pa_cons (pv 6) (pa_cons (pe_bltn (v := .ty "list") (by rfl) T.z_list (by decide +kernel) rfl) pa_nil))))) pa_nil))))
      (pss_one (ps_ret (pe_str)))
      pss_nil)
    (pss_cons (ps_set (i := 4) sc_l_where.nd rfl (.inr rfl) (pe_call G_l_wrong_any hr (by rfl) T.g_l_wrong_any T.F_l_wrong_any.kp T.b_l_wrong_any .nil pass0 (pa_cons (pv 0) (pa_cons (pv 1) (pa_cons (pv 2) (pa_cons (pe_ix (r := rIxT K) ix_tup (pv 3) (pe_int) (fun _ _ => rfl)) pa_nil))))))
    (pss_cons (ps_if (pt_cmpR op_isN (pv 4) (pe_non) (nomark _))
      (pss_one (ps_ret (pe_str)))
      pss_nil)
    (pss_cons (ps_if (pt_not (pt_val (pe_call G_l_marks_bound hr (by rfl) T.g_l_marks_bound T.F_l_marks_bound.kp T.b_l_marks_bound .nil pass0 (pa_cons (pe_call G_l_table hr (by rfl) T.g_l_table T.F_l_table.kp T.b_l_table .nil pass0 (pa_cons (pv 0) (pa_cons (pv 1) (pa_cons (pv 2) pa_nil)))) (pa_cons (pe_ix (r := rIxT K) ix_tup (pv 3) (pe_int) (fun _ _ => rfl)) pa_nil)))))
      (pss_one (ps_ret (pe_str)))
      pss_nil)
    (pss_cons (ps_set (i := 5) sc_l_where.nd rfl (.inl rfl) (pe_op op_cat (pe_lst (pa_cons (pe_int) pa_nil)) (pe_ix (r := rIxT K) ix_tup (pv 3) (pe_int) (fun _ _ => rfl))))
    (pss_cons (ps_if (pt_val (pe_callB (r := rAny K) (cr_any rfl) (by rfl) T.z_any (by decide +kernel) (pa_cons (pe_lc (own := [("_law_i", 7), ("_law_mark", 8)]) (g := gTup K 2 (gCons (gName 7) (gCons (gName 8) gNil))) rfl sc_l_where.nd (pi_enum (by rfl) T.z_enumerate (pa_cons (pv 5) pa_nil)) (blkOk_by (N := N_l_where) (sc := defScope s_l_where) (by decide +kernel)) (fun _ _ _ _ _ => (pg_tup rfl (pgs_cons (pg_name (i := 7) sc_l_where.nd rfl (.inl rfl)) (pgs_cons (pg_name (i := 8) sc_l_where.nd rfl (.inl rfl)) pgs_nil)))) (fun _ _ _ _ _ => pts_nil) (fun _ _ _ _ _ => (pe_cmpR op_gt (pv 4) (pe_op op_sub (pe_op op_add (pv 8) (pe_callB (r := rLenS K) call_lenS (by rfl) T.z_len (by decide +kernel) (pa_cons (pv 2) pa_nil))) (pv 7)) (nomark _)))) pa_nil)))
      (pss_one (ps_ret (pe_str)))
      pss_nil)
    (pss_one (ps_ret (pe_str))))))))))
      , ?_⟩
    have hok := hnb.lj
    have tl := paired_len hts
    have hp2 : ∀ {d : PyData}, pairB d = true → ∃ ps ds, d = .tuple [.list ps, .list ds] := fun h => pairB_is h
    have paper : ∀ {Hx : Hp}, Same H Hx → (¬ ∃ ps ds, d = .tuple [.list ps, .list ds]) → Q (.str "paper") Hx := fun s h => q _ _ s (.inl ⟨by
      cases e : pairB d with
      | false => rfl
      | true => exact absurd (hp2 e) h, rfl⟩)
    refine ⟨v, rfl, v, .ty "tuple", _, _, _, rfl, .ty _, hv.ty, kit_T d, isiT d, rfl, ?_⟩
    cases eT : isiT d with
    | false => exact iteT (paper (.refl _) fun ⟨_, _, e⟩ => by rw [e] at eT; cases eT)
    | true =>
    obtain ⟨es, rfl⟩ : ∃ es, d = .tuple es := by
      cases d with
      | tuple es => exact ⟨es, rfl⟩
      | _ => cases eT
    clear eT
    obtain ⟨a, xs, rfl, ea, hxs⟩ := id hv.tupI
    have xl := hxs.len
    refine iteF ⟨.ref a, rfl, a, xs, rfl, .inr (SqT.of ea), rfl, _, rfl, ite2 (fun c => ?_) (fun c => ?_)⟩
    · refine paper (.refl _) fun ⟨_, _, e⟩ => ?_
      injection e with e
      rw [xl, e] at c
      simp at c
    have el : es.length = 2 := by
      by_cases z : es.length = 2
      · exact z
      · refine absurd ?_ c
        rw [xl, decide_eq_false (fun w => z (by injection w with w; omega))]
        rfl
    clear c
    refine ⟨.ref a, rfl, a, rfl, ⟨_, SqT.of ea⟩, fun D nD => ?_⟩
    refine lc_it (walk_tup (xs := xs)) (fun i H3 => Same H H3 ∧ H3 D = some (.lst (((es.take i).map isiL).map V.bl))) ⟨same_upd nD, upd_same⟩ (fun i H3 _ pv => SqT.of (pv.1 _ _ ea)) (fun i x H3₀ H3 hi pv yy => ?_) (fun H1 pv => ?_)
    · obtain ⟨rfl, ex⟩ := yy
      obtain ⟨s3, eD⟩ := pv
      obtain ⟨f, ef, hf⟩ := (hxs.same s3).get ex
      refine ⟨rfl, yes_ ⟨x, rfl, x, .ty "list", _, _, _, rfl, .ty _, hf.ty, kit_L f, _, eD, by rw [List.length_map, List.length_map, List.length_take]; exact small5000 (by omega), same_set s3 nD, ?_⟩⟩
      rw [upd_same, List.take_add_one, ef, List.map_append, List.map_append]
      rfl
    obtain ⟨s1, eD⟩ := pv
    rw [xl, List.take_length] at eD
    refine ⟨D, _, rfl, SqL.of eD, _, rfl, ?_⟩
    cases cP : (es.map isiL).all id with
    | false =>
      refine iteT (paper s1 fun ⟨_, _, e⟩ => ?_)
      injection e with e
      rw [e] at cP
      cases cP
    | true =>
    refine iteF ?_
    have hpb : pairB (.tuple es) = true := by
      show (tupD (.tuple es) 2 2 && (es.map isiL).all id) = true
      rw [show tupD (.tuple es) 2 2 = true from len_tup (n := 2) el, cP]
      rfl
    obtain ⟨ps, ds, e⟩ := hp2 hpb
    injection e with e
    subst e
    obtain ⟨t, p, tb, xs', ys, ev, et, ep, hps, xl5, eb, hds, yl5⟩ := dt_pair (hv.same s1)
    cases ev
    have hsp : ∀ e ∈ ps, Sm e := fun e he => (hsm.tup _ List.mem_cons_self).lst e he
    have qL : ∀ {Hx : Hp} {f : Str}, Same H Hx → (((¬ ∃ c, HistR jns rs x ps c) ∧ f = "steps") ∨ ∃ c, HistR jns rs x ps c ∧ ((¬ MarksD jns x rs ds ∧ f = "marks") ∨ ∃ zs : List Int, ds = zs.map PyData.int ∧ MarksOk jns x rs zs ∧
  (((¬ ∀ i, i ≤ zs.length → (c : Int) ≤ letM zs i) ∧ f = "many") ∨ ((∀ i, i ≤ zs.length → (c : Int) ≤ letM zs i) ∧ f = "")))) → Q (.str f) Hx := fun {Hx f} s h => q _ _ s (.inr ⟨ps, ds, rfl, h⟩)
    refine ⟨.ref r, rfl, nS x, rfl, .ref R, rfl, .ref a, rfl, a, _, 0, .ref p, rfl, rfl, SqT.of et, atI_nat (j := 0) rfl, r, R, p, x, ts, rs, xs', ps, ls, jns, rfl, hnet.same s1, hnb, xin, s1 _ _ eR, paired_imp hts fun a _ r h => s1 _ _ h, hrs, by omega, ep, hps, xl5, hsp, fun H2 s2 => ⟨fun hno => ?_, fun c hc => ?_⟩⟩
    · exact ⟨.non, rfl, rfl, true, rfl, iteT (qL (s1.trans s2) (.inl ⟨hno, rfl⟩))⟩
    refine ⟨_, rfl, rfl, false, rfl, iteF ?_⟩
    have s12 := s1.trans s2
    refine ⟨.ref r, rfl, nS x, rfl, .ref R, rfl, r, R, x, ts, rs, ls, jns, rfl, hnet.same s12, hnb, xin, SqL.of (s12 _ _ eR), paired_imp hts fun a _ r h => s12 _ _ h, hrs, r100, fun H3 Tb fr s3 nTb eTb hfr => ?_⟩
    have s13 := s12.trans s3
    have s23 := s2.trans s3
    refine ⟨.ref a, rfl, a, _, 1, .ref tb, rfl, rfl, SqT.of (s23 _ _ et), atI_nat (j := 1) rfl, Tb, tb, x, rs, fr, ys, ds, ls, jns, rfl, hok, hnb.jnd, fun r h => (hrs r h).2, r100, eTb, hfr, s23 _ _ eb, yl5, hds.same s23, fun H4 b s4 hb => ⟨_, rfl, ?_⟩⟩
    have s04 := s13.trans s4
    cases b with
    | false => exact iteT (qL s04 (.inr ⟨c, hc, .inl ⟨fun z => absurd (hb.mpr z) (by decide), rfl⟩⟩))
    | true =>
    refine iteF ?_
    obtain ⟨zs, ezs, hz⟩ := hb.mp rfl
    subst ezs
    have eys := dtAll_intsV hds
    subst eys
    have s24 := s23.trans s4
    have zl := hz.len
    refine ⟨one_sz, fun o1 no1 => ?_⟩
    have so1 := same_upd (o := .lst [.int 0]) no1
    refine ⟨.ref a, rfl, a, _, 1, .ref tb, rfl, rfl, SqT.of (so1 _ _ (s24 _ _ et)), atI_nat (j := 1) rfl, o1, tb, _, _, rfl, rfl, upd_same, so1 _ _ (s24 _ _ eb), by rw [List.length_map]; exact Nat.le_of_lt (small5000 (by show 1 + _ ≤ 5000; omega)), fun Kn nKn => ?_⟩
    have s45 := so1.trans (same_upd (o := .lst ([.int 0] ++ zs.map V.int)) nKn)
    have eKn : (upd (upd H4 o1 (.lst [.int 0])) Kn (.lst ([.int 0] ++ zs.map V.int))) Kn = some (.lst ((0 :: zs).map V.int)) := upd_same
    have s05 := s04.trans s45
    generalize upd (upd H4 o1 (.lst [.int 0])) Kn (.lst ([.int 0] ++ zs.map V.int)) = H5 at s05 eKn ⊢
    refine ⟨.ref Kn, rfl, Kn, _, rfl, SqL.of eKn, fun D2 nD2 => ?_⟩
    refine lc_it (walk_enum (xs := (0 :: zs).map V.int)) (fun i Hx => Same H5 Hx ∧ Hx D2 = some (.lst (((List.range i).map fun j => decide ((c : Int) > letM zs j)).map V.bl))) ⟨same_upd nD2, upd_same⟩ (fun i Hx _ pv => SqL.of (pv.1 _ _ eKn)) (fun i v Hx Hx' hi pv yy => ?_) (fun H6 pv => ?_)
    · obtain ⟨U, xv, yv, rfl, nU, rfl, ex, ey⟩ := yy
      have ex : xv = .int (i : Int) := (Option.some.inj ex).symm
      subst ex
      obtain ⟨sx, eD⟩ := pv
      rw [List.length_map] at hi
      have ey : ((0 :: zs).map V.int)[i]? = some yv := ey
      have ev : yv = .int ((0 :: zs).getD i 0) := by
        rw [List.getElem?_map, List.getElem?_eq_getElem hi] at ey
        rw [List.getD_eq_getElem?_getD, List.getElem?_eq_getElem hi]
        exact (Option.some.inj ey).symm
      subst ev
      have sU := same_upd (o := .tup [.int (i : Int), .int ((0 :: zs).getD i 0)]) nU
      have eDy := sU _ _ eD
      have sy := sx.trans sU
      refine ⟨U, _, rfl, SqT.of upd_same, rfl, _, _, rfl, _, [], rfl, rfl, rfl, yes_ ?_⟩
      generalize upd Hx U (.tup [.int (i : Int), .int ((0 :: zs).getD i 0)]) = Hy at sy eDy ⊢
      refine ⟨_, rfl, _, rfl, .ref R, rfl, R, _, rfl, .inl (SqL.of ((s05.trans sy) _ _ eR)), _, _, rfl, rfl, .int (i : Int), rfl, _, _, rfl, rfl, _, _, rfl, rfl, _, eDy, ?_, same_set sy nD2, ?_⟩
      · rw [List.length_map, List.length_map, List.length_range]
        rw [List.length_cons] at hi
        exact small5000 (by omega)
      · rw [upd_same, List.range_succ, List.map_append, List.map_append, List.length_map, tl, ← zl]
        rfl
    obtain ⟨s6, eD⟩ := pv
    rw [List.length_map, List.length_cons] at eD
    refine ⟨D2, _, rfl, SqL.of eD, _, rfl, ?_⟩
    have s06 := s05.trans s6
    cases cA : ((List.range (zs.length + 1)).map fun j => decide ((c : Int) > letM zs j)).any id with
    | true =>
      refine iteT (qL s06 (.inr ⟨c, hc, .inr ⟨zs, rfl, hz, .inl ⟨fun h => ?_, rfl⟩⟩⟩))
      obtain ⟨b, hb1, hb2⟩ := List.any_eq_true.mp cA
      obtain ⟨j, hj, rfl⟩ := List.mem_map.mp hb1
      have := of_decide_eq_true hb2
      have := h j (by have := List.mem_range.mp hj; omega)
      omega
    | false =>
      refine iteF (qL s06 (.inr ⟨c, hc, .inr ⟨zs, rfl, hz, .inr ⟨fun i hi => ?_, rfl⟩⟩⟩))
      have := List.any_eq_false.mp cA (decide ((c : Int) > letM zs i)) (List.mem_map_of_mem (f := fun j => decide ((c : Int) > letM zs j)) (List.mem_range.mpr (by omega)))
      have : ¬ ((c : Int) > letM zs i) := fun z => this (decide_eq_true z)
      omega
end
end Th
namespace Th
open PySem PySem.Spec PyProof.Rows L2
/-! what a looker of a history says of a thing -/
section
variable {w : World} {K : PySem.W.Frag} {mg : Str → Option Value} {base : Heap} {k : Nat}
def sp_l_told (T : Defs K mg) : Sp := fun vs H Q _ => ∃ (r l : Addr) (x : Nm) (v : V) (d : PyData) (ts : List Addr) (rs : List Rt) (ls : List Nm) (jns : List (Nm × List Nm)), vs = [.ref r, nS x, .ref l, v] ∧ H l = some (.lst (ts.map V.ref)) ∧ Paired (RtA H) ts rs ∧ (∀ r ∈ rs, RtOk r ∧ RtFit jns r) ∧ ts.length ≤ 1000 ∧ Dt SA H v d ∧ Sm d ∧ LJ K H r ls jns ∧ LJok ls jns ∧ (∀ z ∈ ls, IsNm z) ∧ (jns.map (·.1)).Nodup ∧ x ∈ ls ∧ TabI T H ∧
  ∀ H' f, LamX.ExtN H H' → TabI T H' → FaultH jns x (sortR rs) d f → Q (.str f) H'
set_option maxHeartbeats 8000000 in
theorem ok_l_told (T : Defs K mg) (TB : LamX.TabB base mg T.cc_in_order T.tp_in_order) : FnOk PP w K mg base CX0 9 T.a_l_told T.d_l_told ["_law_net_here", "_law_line", "_law_returns_here", "_law_thing"] (sp_l_told T) := by
  have G_look_history : FnOk PP w K mg base (L2.CX PP w) 8 _ _ _ _ := ok_look_history T TB
  refine T.F_l_told.ok sc_l_told (fun vs H Q E h => ?_) (fun cdv A outer s H vs Q E hr h => ?_)
  · obtain ⟨r, l, x, v, d, ts, rs, ls, jns, rfl, _⟩ := h
    rfl
  · obtain ⟨r, l, x, v, d, ts, rs, ls, jns, rfl, hl, hp, hrs, t1000, hd, hsm, hlj, hok, hnm, jnd, xin, hT, q⟩ := h
    refine ⟨_,
      (pss_one (ps_try_as (i := 4) (Wout := fun _ _ _ _ => False) rfl rfl sc_l_told.nd rfl rfl ⟨by rfl, by decide, .inl T.g_HouseError⟩ takes0
        (fun W pn xe tk _ => pss_one (ps_ret (pe_ifExp (pt_cmpR op_isN (pe_callS G_look_history hr (by rfl) T.g_look_history T.F_look_history.kp T.b_look_history (fun σ => passAt tk σ) (pa_cons (pv 0) (pa_cons (pv 1) (pa_cons (pv 2) (pa_cons (pv 3) pa_nil))))) pe_non (nomark _)) pe_str pe_str)))
        (fun a oe cls d pn hz hf => pss_cons (ps_if (pt_val (pe_callB (r := ExIs.rET K a cls d) (ExIs.call_eT hz hf) (by rfl) T.z_isinstance (by decide +kernel) (pa_cons (pv 4) (pa_cons (pe_tup (pa_cons (pe_glob (v := .ref T.a_NoNet) (by rfl) T.g_NoNet rfl) (pa_cons (pe_glob (v := .ref T.a_NoWay) (by rfl) T.g_NoWay rfl) (pa_cons (pe_glob (v := .ref T.a_NoWagon) (by rfl) T.g_NoWagon rfl) (pa_cons (pe_glob (v := .ref T.a_NoRules) (by rfl) T.g_NoRules rfl) (pa_cons (pe_glob (v := .ref T.a_NoPaper) (by rfl) T.g_NoPaper rfl) (pa_cons (pe_glob (v := .ref T.a_NotYet) (by rfl) T.g_NotYet rfl) (pa_cons (pe_glob (v := .ref T.a_TooMany) (by rfl) T.g_TooMany rfl) (pa_cons (pe_glob (v := .ref T.a_TooLate) (by rfl) T.g_TooLate rfl) pa_nil))))))))) pa_nil)))) (pss_one (ps_ret pe_str)) pss_nil)
          (pss_cons (ps_if (pt_val (pe_callB (r := ExIs.rET K a cls d) (ExIs.call_eT hz hf) (by rfl) T.z_isinstance (by decide +kernel) (pa_cons (pv 4) (pa_cons (pe_tup (pa_cons (pe_glob (v := .ref T.a_NoLine) (by rfl) T.g_NoLine rfl) (pa_cons (pe_glob (v := .ref T.a_Stopped) (by rfl) T.g_Stopped rfl) (pa_cons (pe_glob (v := .ref T.a_NoMonth) (by rfl) T.g_NoMonth rfl) (pa_cons (pe_glob (v := .ref T.a_NoBill) (by rfl) T.g_NoBill rfl) (pa_cons (pe_glob (v := .ref T.a_NoText) (by rfl) T.g_NoText rfl) (pa_cons (pe_glob (v := .ref T.a_NoSaying) (by rfl) T.g_NoSaying rfl) pa_nil))))))) pa_nil)))) (pss_one (ps_ret pe_str)) pss_nil)
          (pss_one (ps_ret (pe_ifExp (PW.pt (pw_and (pt_val (pe_callB (r := ExIs.rE1 K a cls d) (ExIs.call_e1 hz hf) (by rfl) T.z_isinstance (by decide +kernel) (pa_cons (pv 4) (pa_cons (pe_glob (v := .ref T.a_NoProof) (by rfl) T.g_NoProof rfl) pa_nil)))) (pw_and1 (pt_val (pe_callB (r := ExIs.rE1 K a cls d) (ExIs.call_e1 hz hf) (by rfl) T.z_isinstance (by decide +kernel) (pa_cons (pv 4) (pa_cons (pe_bltn (v := .ty "ValueError") (by rfl) T.z_ValueError (by decide +kernel) rfl) pa_nil))))))) (pe_xf T.f_NoProof T.t_NoProof.noN hz hf (pv 4)) pe_str)))))))
      , ?_⟩
    refine ⟨.ref r, rfl, nS x, rfl, .ref l, rfl, v, rfl, r, l, x, v, d, ts, rs, ls, jns, rfl, hl, hp, hrs, t1000, hd, hsm, hlj, hok, hnm, jnd, xin, hT, fun H1 f x1 t1 hf => ⟨fun e => ?_, fun ne dd nd => ?_⟩⟩
    · subst e
      exact ⟨rfl, _, rfl, iteT (q _ _ x1 t1 hf)⟩
    · refine ⟨true, T.m_NoProof_HouseError, fun _ a0 n0 => ?_, fun z => (nomatch z)⟩
      have e0 : (upd H1 dd (.xd [(("where" : Str), .str f)])) dd = some (.xd [(("where" : Str), .str f)]) := upd_same
      have s2 : Same H1 (upd H1 dd (.xd [(("where" : Str), .str f)])) := same_upd nd
      generalize upd H1 dd (.xd [(("where" : Str), .str f)]) = H2 at e0 s2 ⊢
      refine ⟨.ref a0, rfl, by show 8 ≤ sizeLine; exact Nat.le_of_lt (small5000 (by decide)), fun D1 n1 => ?_⟩
      have e1 := same_upd (o := .tup [.ref T.a_NoNet, .ref T.a_NoWay, .ref T.a_NoWagon, .ref T.a_NoRules, .ref T.a_NoPaper, .ref T.a_NotYet, .ref T.a_TooMany, .ref T.a_TooLate]) n1
      refine ⟨T.a_NoProof, D1, _, _, false, rfl, ⟨rfl, dd, _, rfl, e1 _ _ e0⟩, T.c_NoProof, upd_same, .cons (.own _) (.cons (.own _) (.cons (.own _) (.cons (.own _) (.cons (.own _) (.cons (.own _) (.cons (.own _) (.cons (.own _) .nil))))))), T.k0_NoProof, _, rfl, iteF ?_⟩
      have e2 := e1 _ _ e0
      have s3 := s2.trans e1
      generalize upd H2 D1 (.tup [.ref T.a_NoNet, .ref T.a_NoWay, .ref T.a_NoWagon, .ref T.a_NoRules, .ref T.a_NoPaper, .ref T.a_NotYet, .ref T.a_TooMany, .ref T.a_TooLate]) = H3 at e2 s3 ⊢
      refine ⟨.ref a0, rfl, by show 6 ≤ sizeLine; exact Nat.le_of_lt (small5000 (by decide)), fun D2 n2 => ?_⟩
      have e3 := same_upd (o := .tup [.ref T.a_NoLine, .ref T.a_Stopped, .ref T.a_NoMonth, .ref T.a_NoBill, .ref T.a_NoText, .ref T.a_NoSaying]) n2
      refine ⟨T.a_NoProof, D2, _, _, false, rfl, ⟨rfl, dd, _, rfl, e3 _ _ e2⟩, T.c_NoProof, upd_same, .cons (.own _) (.cons (.own _) (.cons (.own _) (.cons (.own _) (.cons (.own _) (.cons (.own _) .nil))))), T.k1_NoProof, _, rfl, iteF ?_⟩
      have e4 := e3 _ _ e2
      have s4 := s3.trans e3
      generalize upd H3 D2 (.tup [.ref T.a_NoLine, .ref T.a_Stopped, .ref T.a_NoMonth, .ref T.a_NoBill, .ref T.a_NoText, .ref T.a_NoSaying]) = H4 at e4 s4 ⊢
      refine ⟨.ref a0, rfl, T.a_NoProof, _, _, true, rfl, ⟨rfl, dd, _, rfl, e4⟩, T.c_NoProof, .own _, T.ks_NoProof, _, rfl, iteT ⟨.ref a0, rfl, T.a_NoProof, _, _, true, rfl, ⟨rfl, dd, _, rfl, e4⟩, T.c_NoProof, .ty _, T.kv_NoProof, _, rfl, iteT ?_⟩⟩
      exact ⟨.ref a0, rfl, rfl, rfl, dd, _, .str f, rfl, e4, by simp [List.lookup], q _ _ (ext_same x1 s4) (t1.ext s4) hf⟩
end
end Th
namespace Th
open PySem PySem.Spec PyProof.Rows L2
/-! data in a heap: lists under way, what is new -/
abbrev SN (p : Addr) : Addr → Prop := fun a => a ≠ p
abbrev SO (p : Addr) (H : Hp) : Addr → Prop := fun a => a ≠ p ∧ H a = none
abbrev SF (p F : Addr) : Addr → Prop := fun a => a ≠ p ∧ a ≠ F
theorem dtAll_get {S : Addr → Prop} {H : Hp} : ∀ {xs : List V} {ds : List PyData} {j : Nat} {v : V}, DtAll S H xs ds → xs[j]? = some v → ∃ d, ds[j]? = some d ∧ Dt S H v d
  | _, _, _, _, .nil, h => by simp at h
  | _, _, 0, _, .cons r _, h => by cases Option.some.inj h; exact ⟨_, rfl, r⟩
  | _, _, j + 1, _, .cons _ t, h => dtAll_get (j := j) t h
theorem dtAll_at {S : Addr → Prop} {H : Hp} : ∀ {xs : List V} {ds : List PyData} {j : Nat} {d : PyData}, DtAll S H xs ds → ds[j]? = some d → ∃ v, xs[j]? = some v ∧ Dt S H v d
  | _, _, _, _, .nil, h => by simp at h
  | _, _, 0, _, .cons r _, h => by cases Option.some.inj h; exact ⟨_, rfl, r⟩
  | _, _, j + 1, _, .cons _ t, h => dtAll_at (j := j) t h
theorem layAll_of : ∀ {ds : List PyData}, (∀ d ∈ ds, d.canLay0 = true) → PyData.canLayAll0 ds = true
  | [], _ => rfl
  | d :: ds, h => by
    rw [PyData.canLayAll0, Bool.and_eq_true]
    exact ⟨h d List.mem_cons_self, layAll_of fun x hx => h x (List.mem_cons_of_mem _ hx)⟩
theorem depthAll_of {n : Nat} : ∀ {ds : List PyData}, (∀ d ∈ ds, d.depth ≤ n) → PyData.depthAll ds ≤ n
  | [], _ => Nat.zero_le _
  | d :: ds, h => by
    rw [PyData.depthAll]
    exact Nat.max_le.mpr ⟨h d List.mem_cons_self, depthAll_of fun x hx => h x (List.mem_cons_of_mem _ hx)⟩
theorem ins_len {α : Type} (xs : List α) (i : Nat) (y : α) : (xs.take i ++ [y] ++ xs.drop i).length = xs.length + 1 := by
  have := congrArg List.length (List.take_append_drop i xs)
  rw [List.length_append] at this
  rw [List.length_append, List.length_append, List.length_singleton]
  omega
theorem ins_mem {α : Type} {xs : List α} {i : Nat} {y z : α} (h : z ∈ xs.take i ++ [y] ++ xs.drop i) : z ∈ xs ∨ z = y := by
  rcases List.mem_append.mp h with h | h
  · rcases List.mem_append.mp h with h | h
    · exact .inl (List.mem_of_mem_take h)
    · exact .inr (List.mem_singleton.mp h)
  · exact .inl (List.mem_of_mem_drop h)
section
variable {S : Addr → Prop} {H : Hp}
theorem dtAll_app : ∀ {xs : List V} {ds : List PyData} {ys : List V} {es : List PyData}, DtAll S H xs ds → DtAll S H ys es → DtAll S H (xs ++ ys) (ds ++ es)
  | _, _, _, _, .nil, h => h
  | _, _, _, _, .cons r t, h => .cons r (dtAll_app t h)
theorem dtAll_take : ∀ (n : Nat) {xs : List V} {ds : List PyData}, DtAll S H xs ds → DtAll S H (xs.take n) (ds.take n)
  | 0, _, _, _ => by rw [List.take_zero, List.take_zero]; exact .nil
  | n + 1, _, _, .nil => .nil
  | n + 1, _, _, .cons r t => .cons r (dtAll_take n t)
theorem dtAll_drop : ∀ (n : Nat) {xs : List V} {ds : List PyData}, DtAll S H xs ds → DtAll S H (xs.drop n) (ds.drop n)
  | 0, _, _, h => h
  | n + 1, _, _, .nil => .nil
  | n + 1, _, _, .cons r t => dtAll_drop n t
theorem dtAll_set : ∀ (n : Nat) {xs : List V} {ds : List PyData} {v : V} {d : PyData}, DtAll S H xs ds → Dt S H v d → DtAll S H (xs.set n v) (ds.set n d)
  | _, _, _, _, _, .nil, _ => .nil
  | 0, _, _, _, _, .cons _ t, h => .cons h t
  | n + 1, _, _, _, _, .cons r t, h => .cons r (dtAll_set n t h)
theorem dtAll_erase : ∀ (n : Nat) {xs : List V} {ds : List PyData}, DtAll S H xs ds → DtAll S H (xs.eraseIdx n) (ds.eraseIdx n)
  | _, _, _, .nil => .nil
  | 0, _, _, .cons _ t => t
  | n + 1, _, _, .cons r t => .cons r (dtAll_erase n t)
theorem dtAll_ins (n : Nat) {xs : List V} {ds : List PyData} {v : V} {d : PyData} (h : DtAll S H xs ds) (r : Dt S H v d) : DtAll S H (xs.take n ++ [v] ++ xs.drop n) (ds.take n ++ [d] ++ ds.drop n) :=
  dtAll_app (dtAll_app (dtAll_take n h) (.cons r .nil)) (dtAll_drop n h)
end
mutual
theorem Dt.mono2 {S S' : Addr → Prop} {H H' : Hp} (hh : ∀ a o, S a → H a = some o → S' a ∧ H' a = some o) : ∀ {v : V} {d : PyData}, Dt S H v d → Dt S' H' v d
  | _, _, .non => .non
  | _, _, .bl b => .bl b
  | _, _, .int b => .int b
  | _, _, .str b => .str b
  | _, _, .lst s e l r => .lst (hh _ _ s e).1 (hh _ _ s e).2 l (DtAll.mono2 hh r)
  | _, _, .tup s e l r => .tup (hh _ _ s e).1 (hh _ _ s e).2 l (DtAll.mono2 hh r)
theorem DtAll.mono2 {S S' : Addr → Prop} {H H' : Hp} (hh : ∀ a o, S a → H a = some o → S' a ∧ H' a = some o) : ∀ {v : List V} {d : List PyData}, DtAll S H v d → DtAll S' H' v d
  | _, _, .nil => .nil
  | _, _, .cons a r => .cons (Dt.mono2 hh a) (DtAll.mono2 hh r)
end
theorem ix_natD {n i : Nat} (h : i < n) : ixN n (i : Int) = some i := by
  unfold ixN
  rw [if_pos (by omega), if_pos (by omega)]
  simp
theorem sqiD {k n : Nat} (h : k < n) : seqIndex? (k : Int) n = some k := (ixN_seq (ix_natD h)).1
theorem ixN_neg {n j : Nat} (h : j < n) : ixN n (-1 - (j : Int)) = some (n - 1 - j) := by
  unfold ixN
  rw [if_neg (by omega), if_pos (by omega)]
  congr 1
  omega
theorem atI_neg {α : Type} {xs : List α} {j : Nat} {v : α} (h : j < xs.length) (e : xs[xs.length - 1 - j]? = some v) : atI xs (-1 - (j : Int)) = some v := by
  unfold atI
  rw [ixN_neg h]
  exact e
/-- a slice of data -/
def cutL {α : Type} (ds : List α) (lo hi : Option Int) : List α := (ds.drop (HT.sIx ds.length 0 lo)).take (HT.sIx ds.length ds.length hi - HT.sIx ds.length 0 lo)
theorem dtAll_cut {S : Addr → Prop} {H : Hp} {xs : List V} {ds : List PyData} (h : DtAll S H xs ds) (lo hi : Option Int) : DtAll S H (cutV xs lo hi) (cutL ds lo hi) := by
  unfold cutV cutL
  rw [h.len]
  exact dtAll_take _ (dtAll_drop _ h)
theorem cutL_mem {α : Type} {ds : List α} {lo hi : Option Int} {d : α} (h : d ∈ cutL ds lo hi) : d ∈ ds := List.mem_of_mem_drop (List.mem_of_mem_take h)
theorem cutL_le {α : Type} (ds : List α) (lo hi : Option Int) : (cutL ds lo hi).length ≤ ds.length := by
  unfold cutL
  rw [List.length_take, List.length_drop]
  omega
theorem cutL_to {α : Type} (ds : List α) (m : Nat) : cutL ds none (some (m : Int)) = ds.take m := by
  unfold cutL
  rw [HT.sIx_none, HT.sIx_nat, List.drop_zero, Nat.sub_zero]
  by_cases h : m ≤ ds.length
  · rw [Nat.min_eq_left h]
  · rw [Nat.min_eq_right (by omega), List.take_length, List.take_of_length_le (by omega)]
theorem cutL_from {α : Type} (ds : List α) (m : Nat) : cutL ds (some (m : Int)) none = ds.drop m := by
  unfold cutL
  rw [HT.sIx_none, HT.sIx_nat]
  by_cases h : m ≤ ds.length
  · rw [Nat.min_eq_left h, List.take_of_length_le (by rw [List.length_drop]; exact Nat.le_refl _)]
  · rw [Nat.min_eq_right (by omega), List.drop_of_length_le (Nat.le_refl _), List.drop_of_length_le (by omega)]
    exact List.take_nil
theorem cutL_last {α : Type} (ds : List α) : cutL ds none (some (-1)) = ds.take (ds.length - 1) := by
  have e : HT.sIx ds.length ds.length (some (-1)) = ds.length - 1 := by
    show HT.sIx ds.length ds.length (some (Int.negSucc 0)) = _
    unfold HT.sIx
    simp
    omega
  unfold cutL
  rw [HT.sIx_none, e, List.drop_zero, Nat.sub_zero]
theorem dt_keepF {H H' : Hp} {p F : Addr} {v : V} {d : PyData} (k : Keep p H H') (h : Dt (SF p F) H v d) : Dt (SF p F) H' v d := h.mono (fun _ x => x) fun a o s e => k a o s.1 e
theorem dtAll_keepF {H H' : Hp} {p F : Addr} {v : List V} {d : List PyData} (k : Keep p H H') (h : DtAll (SF p F) H v d) : DtAll (SF p F) H' v d := h.mono (fun _ x => x) fun a o s e => k a o s.1 e
theorem Dt.keepN {p : Addr} {H H' : Hp} {v : V} {d : PyData} (k : Keep p H H') (h : Dt (SN p) H v d) : Dt (SN p) H' v d := h.mono (fun _ x => x) fun a o na e => k a o na e
theorem DtAll.keepN {p : Addr} {H H' : Hp} {v : List V} {d : List PyData} (k : Keep p H H') (h : DtAll (SN p) H v d) : DtAll (SN p) H' v d := h.mono (fun _ x => x) fun a o na e => k a o na e
/-- the bag, and a list under way (the bag itself where there is none) -/
structure HF (H : Hp) (p F : Addr) : Prop where
  b : Bag H p
  f : ∃ l, H F = some (.lst l)
theorem HF.self {H : Hp} {p : Addr} (b : Bag H p) : HF H p p := ⟨b, by obtain ⟨g, r, e, _⟩ := b; exact ⟨_, e⟩⟩
theorem HF.keep {H H' : Hp} {p F : Addr} (h : HF H p F) (k : Keep p H H') (b : Bag H' p) : HF H' p F := ⟨b, by
  by_cases e : F = p
  · rw [e]; exact (HF.self b).f
  · obtain ⟨l, e1⟩ := h.f
    exact ⟨l, k _ _ e e1⟩⟩
theorem HF.same {H H' : Hp} {p F : Addr} (h : HF H p F) (s : Same H H') : HF H' p F := h.keep (.of s) (h.b.keep s)
theorem HF.tup {H : Hp} {p F c : Addr} {xs : List V} (h : HF H p F) (e : H c = some (.tup xs)) : SF p F c := by
  obtain ⟨g, r, eb, _⟩ := h.b
  obtain ⟨l, ef⟩ := h.f
  exact ⟨fun z => (by rw [z, eb] at e; cases e), fun z => (by rw [z, ef] at e; cases e)⟩
theorem HF.new {H : Hp} {p F c : Addr} (h : HF H p F) (n : H c = none) : SF p F c := by
  obtain ⟨l, ef⟩ := h.f
  exact ⟨h.b.ne n, fun z => by rw [z, ef] at n; cases n⟩
theorem HF.old {H H' : Hp} {p F : Addr} {v : V} {d : PyData} (h : HF H p F) (r : Dt (SO p H) H' v d) : Dt (SF p F) H' v d := r.mono (fun _ s => h.new s.2) fun _ _ _ e => e
/-- a tuple made -/
theorem HF.dt {H : Hp} {p F c : Addr} {xs : List V} {ds : List PyData} (h : HF H p F) (e : H c = some (.tup xs)) (r : DtAll (SF p F) H xs ds) (l : ds.length ≤ 5000) : Dt (SF p F) H (.ref c) (.tuple ds) := .tup (h.tup e) e (by rw [r.len]; exact l) r
/-- a list under way at F, each item of a kind -/
structure FlR (R : PyData → Prop) (H Hx : Hp) (p F : Addr) (xs : List V) (ds : List PyData) : Prop where
  k : Keep p H Hx
  b : Bag Hx p
  e : Hx F = some (.lst xs)
  dt : DtAll (SF p F) Hx xs ds
  nice : ∀ d ∈ ds, R d
theorem FlR.hf {R : PyData → Prop} {H Hx : Hp} {p F : Addr} {xs : List V} {ds : List PyData} (h : FlR R H Hx p F xs ds) : HF Hx p F := ⟨h.b, _, h.e⟩
theorem FlR.keep {R : PyData → Prop} {H Hx Hy : Hp} {p F : Addr} {xs : List V} {ds : List PyData} (h : FlR R H Hx p F xs ds) (nF : F ≠ p) (k : Keep p Hx Hy) (b : Bag Hy p) : FlR R H Hy p F xs ds :=
  ⟨h.k.trans k, b, k _ _ nF h.e, dtAll_keepF k h.dt, h.nice⟩
theorem FlR.same {R : PyData → Prop} {H Hx Hy : Hp} {p F : Addr} {xs : List V} {ds : List PyData} (h : FlR R H Hx p F xs ds) (nF : F ≠ p) (s : Same Hx Hy) : FlR R H Hy p F xs ds := h.keep nF (.of s) (h.b.keep s)
theorem FlR.put {R R' : PyData → Prop} {H Hx : Hp} {p F : Addr} {xs ys : List V} {ds es : List PyData} (h : FlR R H Hx p F xs ds) (n : H F = none) (nF : F ≠ p) (d : DtAll (SF p F) Hx ys es) (nc : ∀ d ∈ es, R' d) : FlR R' H (upd Hx F (.lst ys)) p F ys es :=
  ⟨h.k.set n, h.b.at (upd_ne nF.symm), upd_same, d.mono (fun _ x => x) fun a o s e => by rw [upd_ne s.2]; exact e, nc⟩
theorem FlR.dtp {R : PyData → Prop} {H Hx : Hp} {p F : Addr} {xs : List V} {ds : List PyData} (h : FlR R H Hx p F xs ds) : DtAll (SN p) Hx xs ds := h.dt.mono (fun _ x => x.1) fun _ _ _ e => e
theorem shaped_lay {ds : List PyData} {n : Nat} (h : ∀ d ∈ ds, d.canLay0 = true ∧ d.depth ≤ n) (hn : n ≤ 63) : SeqAt.shaped (.list ds) = true := Bool.and_eq_true_iff.mpr ⟨layAll_of fun d hd => (h d hd).1, decide_eq_true (by
  show PyData.depthAll ds + 1 ≤ 64
  have := depthAll_of (n := n) (ds := ds) fun d hd => (h d hd).2
  omega)⟩
/-! any thing, drawn -/
def anysD : List PyData := [.none, .bool true, .bool false, .int 0, .int 1, .int (-1), .int (10 ^ 59), .str "", .str "held", .str "aside", .str "gap", .str "lost", .list [], .tuple [], .list [.int 1], .tuple [.str "gap", .tuple []], .tuple [.list []], .tuple [.str "gap", .tuple [.list [], .str "a"]]]
section
variable {P : Program} {w : World} {K : PySem.W.Frag} {mg : Str → Option Value} {base : Heap} {k : Nat}
def sp_l_any : Sp := fun vs H Q _ => ∃ (p : Addr), vs = [.ref p] ∧ Bag H p ∧ ∀ H' v d, Keep p H H' → Bag H' p → Dt (SO p H) H' v d → d ∈ anysD → Q v H'
set_option maxHeartbeats 16000000 in
theorem ok_l_any (T : Defs K mg) : FnOk P w K mg base CX0 (k + 2) T.a_l_any T.d_l_any ["_law_bag_here"] sp_l_any := by
  have G_l_take : FnOk P w K mg base CX0 (k + 1) _ _ _ _ := ok_l_take (k := k) T
  refine T.F_l_any.ok sc_l_any (fun vs H Q E h => ?_) (fun cdv A outer s H vs Q E hr h => ?_)
  · obtain ⟨p, rfl, _⟩ := h
    rfl
  · obtain ⟨p, rfl, b, q⟩ := h
    refine ⟨_, PSs.nox
(pss_cons (ps_set (i := 1) sc_l_any.nd rfl (.inl rfl) (pe_lst (pa_cons (pe_non) (pa_cons (pe_bl) (pa_cons (pe_bl) (pa_cons (pe_int) (pa_cons (pe_int) (pa_cons (pe_un un_neg (pe_int)) (pa_cons (pe_op op_pow (pe_int) (pe_int)) (pa_cons (pe_str) (pa_cons (pe_str) (pa_cons (pe_str) (pa_cons (pe_str) (pa_cons (pe_str) (pa_cons (pe_lst pa_nil) (pa_cons (pe_tup pa_nil) (pa_cons (pe_lst (pa_cons (pe_int) pa_nil)) (pa_cons (pe_tup (pa_cons (pe_str) (pa_cons (pe_tup pa_nil) pa_nil))) pa_nil))))))))))))))))))
    (pss_one (ps_ret (pe_ix (r := rIxL K) ix_list (pe_op op_cat (pv 1) (pe_lst (pa_cons (pe_tup (pa_cons (pe_lst pa_nil) pa_nil)) (pa_cons (pe_tup (pa_cons (pe_str) (pa_cons (pe_tup (pa_cons (pe_lst pa_nil) (pa_cons (pe_str) pa_nil))) pa_nil))) pa_nil)))) (pe_call G_l_take hr (by rfl) T.g_l_take T.F_l_take.kp T.b_l_take .nil pass0 (pa_cons (pv 0) (pa_cons (pe_int) pa_nil))) (fun _ _ => rfl)))))
      , ?_⟩
    have step : ∀ {G : Hp} {A : Addr} {o : HO}, Same H G → G A = none → Same H (upd G A o) ∧ SO p H A ∧ (upd G A o) A = some o := fun {G A o} sg n => ⟨sg.trans (same_upd n), ⟨(b.keep sg).ne n, up0 sg n⟩, upd_same⟩
    refine ⟨1, rfl, 10, 59, rfl, rfl, ⟨by decide, by decide, by decide⟩, Nat.zero_le _, fun A0 n0 => ?_⟩
    obtain ⟨s0, p0, e0⟩ := step (o := .lst []) (fun _ _ e => e) n0
    generalize upd H A0 (.lst []) = G0 at s0 e0 ⊢
    refine ⟨Nat.zero_le _, fun A1 n1 => ?_⟩
    obtain ⟨s1, p1, e1⟩ := step (o := .tup []) s0 n1
    have e0 := same_upd (o := .tup []) n1 _ _ e0
    generalize upd G0 A1 (.tup []) = G1 at s1 e0 e1 ⊢
    refine ⟨by show 1 ≤ sizeLine; decide, fun A2 n2 => ?_⟩
    obtain ⟨s2, p2, e2⟩ := step (o := .lst [V.int 1]) s1 n2
    have e0 := same_upd (o := .lst [V.int 1]) n2 _ _ e0
    have e1 := same_upd (o := .lst [V.int 1]) n2 _ _ e1
    generalize upd G1 A2 (.lst [V.int 1]) = G2 at s2 e0 e1 e2 ⊢
    refine ⟨Nat.zero_le _, fun A3 n3 => ?_⟩
    obtain ⟨s3, p3, e3⟩ := step (o := .tup []) s2 n3
    have e0 := same_upd (o := .tup []) n3 _ _ e0
    have e1 := same_upd (o := .tup []) n3 _ _ e1
    have e2 := same_upd (o := .tup []) n3 _ _ e2
    generalize upd G2 A3 (.tup []) = G3 at s3 e0 e1 e2 e3 ⊢
    refine ⟨by show 2 ≤ sizeLine; decide, fun A4 n4 => ?_⟩
    obtain ⟨s4, p4, e4⟩ := step (o := .tup [V.str "gap", V.ref A3]) s3 n4
    have e0 := same_upd (o := .tup [V.str "gap", V.ref A3]) n4 _ _ e0
    have e1 := same_upd (o := .tup [V.str "gap", V.ref A3]) n4 _ _ e1
    have e2 := same_upd (o := .tup [V.str "gap", V.ref A3]) n4 _ _ e2
    have e3 := same_upd (o := .tup [V.str "gap", V.ref A3]) n4 _ _ e3
    generalize upd G3 A4 (.tup [V.str "gap", V.ref A3]) = G4 at s4 e0 e1 e2 e3 e4 ⊢
    refine ⟨by show 16 ≤ sizeLine; decide, fun A5 n5 => ?_⟩
    obtain ⟨s5, p5, e5⟩ := step (o := .lst [V.non, V.bl true, V.bl false, V.int 0, V.int 1, V.int (-1), V.int (10 ^ 59), V.str "", V.str "held", V.str "aside", V.str "gap", V.str "lost", V.ref A0, V.ref A1, V.ref A2, V.ref A4]) s4 n5
    have e0 := same_upd (o := .lst [V.non, V.bl true, V.bl false, V.int 0, V.int 1, V.int (-1), V.int (10 ^ 59), V.str "", V.str "held", V.str "aside", V.str "gap", V.str "lost", V.ref A0, V.ref A1, V.ref A2, V.ref A4]) n5 _ _ e0
    have e1 := same_upd (o := .lst [V.non, V.bl true, V.bl false, V.int 0, V.int 1, V.int (-1), V.int (10 ^ 59), V.str "", V.str "held", V.str "aside", V.str "gap", V.str "lost", V.ref A0, V.ref A1, V.ref A2, V.ref A4]) n5 _ _ e1
    have e2 := same_upd (o := .lst [V.non, V.bl true, V.bl false, V.int 0, V.int 1, V.int (-1), V.int (10 ^ 59), V.str "", V.str "held", V.str "aside", V.str "gap", V.str "lost", V.ref A0, V.ref A1, V.ref A2, V.ref A4]) n5 _ _ e2
    have e3 := same_upd (o := .lst [V.non, V.bl true, V.bl false, V.int 0, V.int 1, V.int (-1), V.int (10 ^ 59), V.str "", V.str "held", V.str "aside", V.str "gap", V.str "lost", V.ref A0, V.ref A1, V.ref A2, V.ref A4]) n5 _ _ e3
    have e4 := same_upd (o := .lst [V.non, V.bl true, V.bl false, V.int 0, V.int 1, V.int (-1), V.int (10 ^ 59), V.str "", V.str "held", V.str "aside", V.str "gap", V.str "lost", V.ref A0, V.ref A1, V.ref A2, V.ref A4]) n5 _ _ e4
    have go : ∀ Gx : Hp, Gx = upd G4 A5 (.lst [V.non, V.bl true, V.bl false, V.int 0, V.int 1, V.int (-1), V.int (10 ^ 59), V.str "", V.str "held", V.str "aside", V.str "gap", V.str "lost", V.ref A0, V.ref A1, V.ref A2, V.ref A4]) → Gx = upd G4 A5 (.lst [V.non, V.bl true, V.bl false, V.int 0, V.int 1, (fun i => V.int (-i)) 1, (fun i j : Int => V.int (i ^ j.toNat)) 10 59, V.str "", V.str "held", V.str "aside", V.str "gap", V.str "lost", V.ref A0, V.ref A1, V.ref A2, V.ref A4]) := fun _ e => e
    have eg := go _ rfl
    rw [← eg]
    clear eg go
    generalize upd G4 A5 (.lst [V.non, V.bl true, V.bl false, V.int 0, V.int 1, V.int (-1), V.int (10 ^ 59), V.str "", V.str "held", V.str "aside", V.str "gap", V.str "lost", V.ref A0, V.ref A1, V.ref A2, V.ref A4]) = G5 at s5 e0 e1 e2 e3 e4 e5 ⊢
    refine ⟨.ref A5, rfl, Nat.zero_le _, fun A6 n6 => ?_⟩
    obtain ⟨s6, p6, e6⟩ := step (o := .lst []) s5 n6
    have e0 := same_upd (o := .lst []) n6 _ _ e0
    have e1 := same_upd (o := .lst []) n6 _ _ e1
    have e2 := same_upd (o := .lst []) n6 _ _ e2
    have e3 := same_upd (o := .lst []) n6 _ _ e3
    have e4 := same_upd (o := .lst []) n6 _ _ e4
    have e5 := same_upd (o := .lst []) n6 _ _ e5
    generalize upd G5 A6 (.lst []) = G6 at s6 e0 e1 e2 e3 e4 e5 e6 ⊢
    refine ⟨by show 1 ≤ sizeLine; decide, fun A7 n7 => ?_⟩
    obtain ⟨s7, p7, e7⟩ := step (o := .tup [V.ref A6]) s6 n7
    have e0 := same_upd (o := .tup [V.ref A6]) n7 _ _ e0
    have e1 := same_upd (o := .tup [V.ref A6]) n7 _ _ e1
    have e2 := same_upd (o := .tup [V.ref A6]) n7 _ _ e2
    have e3 := same_upd (o := .tup [V.ref A6]) n7 _ _ e3
    have e4 := same_upd (o := .tup [V.ref A6]) n7 _ _ e4
    have e5 := same_upd (o := .tup [V.ref A6]) n7 _ _ e5
    have e6 := same_upd (o := .tup [V.ref A6]) n7 _ _ e6
    generalize upd G6 A7 (.tup [V.ref A6]) = G7 at s7 e0 e1 e2 e3 e4 e5 e6 e7 ⊢
    refine ⟨Nat.zero_le _, fun A8 n8 => ?_⟩
    obtain ⟨s8, p8, e8⟩ := step (o := .lst []) s7 n8
    have e0 := same_upd (o := .lst []) n8 _ _ e0
    have e1 := same_upd (o := .lst []) n8 _ _ e1
    have e2 := same_upd (o := .lst []) n8 _ _ e2
    have e3 := same_upd (o := .lst []) n8 _ _ e3
    have e4 := same_upd (o := .lst []) n8 _ _ e4
    have e5 := same_upd (o := .lst []) n8 _ _ e5
    have e6 := same_upd (o := .lst []) n8 _ _ e6
    have e7 := same_upd (o := .lst []) n8 _ _ e7
    generalize upd G7 A8 (.lst []) = G8 at s8 e0 e1 e2 e3 e4 e5 e6 e7 e8 ⊢
    refine ⟨by show 2 ≤ sizeLine; decide, fun A9 n9 => ?_⟩
    obtain ⟨s9, p9, e9⟩ := step (o := .tup [V.ref A8, V.str "a"]) s8 n9
    have e0 := same_upd (o := .tup [V.ref A8, V.str "a"]) n9 _ _ e0
    have e1 := same_upd (o := .tup [V.ref A8, V.str "a"]) n9 _ _ e1
    have e2 := same_upd (o := .tup [V.ref A8, V.str "a"]) n9 _ _ e2
    have e3 := same_upd (o := .tup [V.ref A8, V.str "a"]) n9 _ _ e3
    have e4 := same_upd (o := .tup [V.ref A8, V.str "a"]) n9 _ _ e4
    have e5 := same_upd (o := .tup [V.ref A8, V.str "a"]) n9 _ _ e5
    have e6 := same_upd (o := .tup [V.ref A8, V.str "a"]) n9 _ _ e6
    have e7 := same_upd (o := .tup [V.ref A8, V.str "a"]) n9 _ _ e7
    have e8 := same_upd (o := .tup [V.ref A8, V.str "a"]) n9 _ _ e8
    generalize upd G8 A9 (.tup [V.ref A8, V.str "a"]) = G9 at s9 e0 e1 e2 e3 e4 e5 e6 e7 e8 e9 ⊢
    refine ⟨by show 2 ≤ sizeLine; decide, fun A10 n10 => ?_⟩
    obtain ⟨s10, p10, e10⟩ := step (o := .tup [V.str "gap", V.ref A9]) s9 n10
    have e0 := same_upd (o := .tup [V.str "gap", V.ref A9]) n10 _ _ e0
    have e1 := same_upd (o := .tup [V.str "gap", V.ref A9]) n10 _ _ e1
    have e2 := same_upd (o := .tup [V.str "gap", V.ref A9]) n10 _ _ e2
    have e3 := same_upd (o := .tup [V.str "gap", V.ref A9]) n10 _ _ e3
    have e4 := same_upd (o := .tup [V.str "gap", V.ref A9]) n10 _ _ e4
    have e5 := same_upd (o := .tup [V.str "gap", V.ref A9]) n10 _ _ e5
    have e6 := same_upd (o := .tup [V.str "gap", V.ref A9]) n10 _ _ e6
    have e7 := same_upd (o := .tup [V.str "gap", V.ref A9]) n10 _ _ e7
    have e8 := same_upd (o := .tup [V.str "gap", V.ref A9]) n10 _ _ e8
    have e9 := same_upd (o := .tup [V.str "gap", V.ref A9]) n10 _ _ e9
    generalize upd G9 A10 (.tup [V.str "gap", V.ref A9]) = G10 at s10 e0 e1 e2 e3 e4 e5 e6 e7 e8 e9 e10 ⊢
    refine ⟨by show 2 ≤ sizeLine; decide, fun A11 n11 => ?_⟩
    obtain ⟨s11, p11, e11⟩ := step (o := .lst [V.ref A7, V.ref A10]) s10 n11
    have e0 := same_upd (o := .lst [V.ref A7, V.ref A10]) n11 _ _ e0
    have e1 := same_upd (o := .lst [V.ref A7, V.ref A10]) n11 _ _ e1
    have e2 := same_upd (o := .lst [V.ref A7, V.ref A10]) n11 _ _ e2
    have e3 := same_upd (o := .lst [V.ref A7, V.ref A10]) n11 _ _ e3
    have e4 := same_upd (o := .lst [V.ref A7, V.ref A10]) n11 _ _ e4
    have e5 := same_upd (o := .lst [V.ref A7, V.ref A10]) n11 _ _ e5
    have e6 := same_upd (o := .lst [V.ref A7, V.ref A10]) n11 _ _ e6
    have e7 := same_upd (o := .lst [V.ref A7, V.ref A10]) n11 _ _ e7
    have e8 := same_upd (o := .lst [V.ref A7, V.ref A10]) n11 _ _ e8
    have e9 := same_upd (o := .lst [V.ref A7, V.ref A10]) n11 _ _ e9
    have e10 := same_upd (o := .lst [V.ref A7, V.ref A10]) n11 _ _ e10
    generalize upd G10 A11 (.lst [V.ref A7, V.ref A10]) = G11 at s11 e0 e1 e2 e3 e4 e5 e6 e7 e8 e9 e10 e11 ⊢
    refine ⟨A5, A11, _, _, rfl, rfl, e5, e11, by show 18 ≤ sizeLine; decide, fun C nC => ?_⟩
    obtain ⟨sC, pC, eC⟩ := step (o := .lst ([V.non, V.bl true, V.bl false, V.int 0, V.int 1, V.int (-1), V.int (10 ^ 59), V.str "", V.str "held", V.str "aside", V.str "gap", V.str "lost", V.ref A0, V.ref A1, V.ref A2, V.ref A4, V.ref A7, V.ref A10] : List V)) s11 nC
    have e0 := same_upd (o := .lst ([V.non, V.bl true, V.bl false, V.int 0, V.int 1, V.int (-1), V.int (10 ^ 59), V.str "", V.str "held", V.str "aside", V.str "gap", V.str "lost", V.ref A0, V.ref A1, V.ref A2, V.ref A4, V.ref A7, V.ref A10] : List V)) nC _ _ e0
    have e1 := same_upd (o := .lst ([V.non, V.bl true, V.bl false, V.int 0, V.int 1, V.int (-1), V.int (10 ^ 59), V.str "", V.str "held", V.str "aside", V.str "gap", V.str "lost", V.ref A0, V.ref A1, V.ref A2, V.ref A4, V.ref A7, V.ref A10] : List V)) nC _ _ e1
    have e2 := same_upd (o := .lst ([V.non, V.bl true, V.bl false, V.int 0, V.int 1, V.int (-1), V.int (10 ^ 59), V.str "", V.str "held", V.str "aside", V.str "gap", V.str "lost", V.ref A0, V.ref A1, V.ref A2, V.ref A4, V.ref A7, V.ref A10] : List V)) nC _ _ e2
    have e3 := same_upd (o := .lst ([V.non, V.bl true, V.bl false, V.int 0, V.int 1, V.int (-1), V.int (10 ^ 59), V.str "", V.str "held", V.str "aside", V.str "gap", V.str "lost", V.ref A0, V.ref A1, V.ref A2, V.ref A4, V.ref A7, V.ref A10] : List V)) nC _ _ e3
    have e4 := same_upd (o := .lst ([V.non, V.bl true, V.bl false, V.int 0, V.int 1, V.int (-1), V.int (10 ^ 59), V.str "", V.str "held", V.str "aside", V.str "gap", V.str "lost", V.ref A0, V.ref A1, V.ref A2, V.ref A4, V.ref A7, V.ref A10] : List V)) nC _ _ e4
    have e5 := same_upd (o := .lst ([V.non, V.bl true, V.bl false, V.int 0, V.int 1, V.int (-1), V.int (10 ^ 59), V.str "", V.str "held", V.str "aside", V.str "gap", V.str "lost", V.ref A0, V.ref A1, V.ref A2, V.ref A4, V.ref A7, V.ref A10] : List V)) nC _ _ e5
    have e6 := same_upd (o := .lst ([V.non, V.bl true, V.bl false, V.int 0, V.int 1, V.int (-1), V.int (10 ^ 59), V.str "", V.str "held", V.str "aside", V.str "gap", V.str "lost", V.ref A0, V.ref A1, V.ref A2, V.ref A4, V.ref A7, V.ref A10] : List V)) nC _ _ e6
    have e7 := same_upd (o := .lst ([V.non, V.bl true, V.bl false, V.int 0, V.int 1, V.int (-1), V.int (10 ^ 59), V.str "", V.str "held", V.str "aside", V.str "gap", V.str "lost", V.ref A0, V.ref A1, V.ref A2, V.ref A4, V.ref A7, V.ref A10] : List V)) nC _ _ e7
    have e8 := same_upd (o := .lst ([V.non, V.bl true, V.bl false, V.int 0, V.int 1, V.int (-1), V.int (10 ^ 59), V.str "", V.str "held", V.str "aside", V.str "gap", V.str "lost", V.ref A0, V.ref A1, V.ref A2, V.ref A4, V.ref A7, V.ref A10] : List V)) nC _ _ e8
    have e9 := same_upd (o := .lst ([V.non, V.bl true, V.bl false, V.int 0, V.int 1, V.int (-1), V.int (10 ^ 59), V.str "", V.str "held", V.str "aside", V.str "gap", V.str "lost", V.ref A0, V.ref A1, V.ref A2, V.ref A4, V.ref A7, V.ref A10] : List V)) nC _ _ e9
    have e10 := same_upd (o := .lst ([V.non, V.bl true, V.bl false, V.int 0, V.int 1, V.int (-1), V.int (10 ^ 59), V.str "", V.str "held", V.str "aside", V.str "gap", V.str "lost", V.ref A0, V.ref A1, V.ref A2, V.ref A4, V.ref A7, V.ref A10] : List V)) nC _ _ e10
    have e11 := same_upd (o := .lst ([V.non, V.bl true, V.bl false, V.int 0, V.int 1, V.int (-1), V.int (10 ^ 59), V.str "", V.str "held", V.str "aside", V.str "gap", V.str "lost", V.ref A0, V.ref A1, V.ref A2, V.ref A4, V.ref A7, V.ref A10] : List V)) nC _ _ e11
    have eC : (upd G11 C (.lst ([V.non, V.bl true, V.bl false, V.int 0, V.int 1, V.int (-1), V.int (10 ^ 59), V.str "", V.str "held", V.str "aside", V.str "gap", V.str "lost", V.ref A0, V.ref A1, V.ref A2, V.ref A4, V.ref A7, V.ref A10] : List V))) C = some (.lst ([V.non, V.bl true, V.bl false, V.int 0, V.int 1, V.int (-1), V.int (10 ^ 59), V.str "", V.str "held", V.str "aside", V.str "gap", V.str "lost", V.ref A0, V.ref A1, V.ref A2, V.ref A4, V.ref A7, V.ref A10] : List V)) := upd_same
    refine ⟨.ref p, rfl, p, 18, rfl, b.keep sC, by decide, by decide, fun H9 c k9 b9 c0 c1 => ?_⟩
    have eC := k9 _ _ pC.1 eC
    have e0 := k9 _ _ p0.1 e0
    have e1 := k9 _ _ p1.1 e1
    have e2 := k9 _ _ p2.1 e2
    have e3 := k9 _ _ p3.1 e3
    have e4 := k9 _ _ p4.1 e4
    have e5 := k9 _ _ p5.1 e5
    have e6 := k9 _ _ p6.1 e6
    have e7 := k9 _ _ p7.1 e7
    have e8 := k9 _ _ p8.1 e8
    have e9 := k9 _ _ p9.1 e9
    have e10 := k9 _ _ p10.1 e10
    have e11 := k9 _ _ p11.1 e11
    have sl : ∀ n : Nat, n ≤ 100 → n ≤ 5000 := fun n h => by omega
    have all : DtAll (SO p H) H9 ([V.non, V.bl true, V.bl false, V.int 0, V.int 1, V.int (-1), V.int (10 ^ 59), V.str "", V.str "held", V.str "aside", V.str "gap", V.str "lost", V.ref A0, V.ref A1, V.ref A2, V.ref A4, V.ref A7, V.ref A10] : List V) anysD := (.cons .non (.cons (.bl _) (.cons (.bl _) (.cons (.int _) (.cons (.int _) (.cons (.int _) (.cons (.int _) (.cons (.str _) (.cons (.str _) (.cons (.str _) (.cons (.str _) (.cons (.str _) (.cons (.lst p0 e0 (sl 0 (by omega)) .nil) (.cons (.tup p1 e1 (sl 0 (by omega)) .nil) (.cons (.lst p2 e2 (sl 1 (by omega)) (.cons (.int _) .nil)) (.cons (.tup p4 e4 (sl 2 (by omega)) (.cons (.str _) (.cons (.tup p3 e3 (sl 0 (by omega)) .nil) .nil))) (.cons (.tup p7 e7 (sl 1 (by omega)) (.cons (.lst p6 e6 (sl 0 (by omega)) .nil) .nil)) (.cons (.tup p10 e10 (sl 2 (by omega)) (.cons (.str _) (.cons (.tup p9 e9 (sl 2 (by omega)) (.cons (.lst p8 e8 (sl 0 (by omega)) .nil) (.cons (.str _) .nil))) .nil))) .nil))))))))))))))))))
    obtain ⟨n, rfl⟩ : ∃ n : Nat, c = (n : Int) := ⟨c.toNat, by omega⟩
    have nN : n < 18 := by omega
    obtain ⟨v, ev⟩ : ∃ v, ([V.non, V.bl true, V.bl false, V.int 0, V.int 1, V.int (-1), V.int (10 ^ 59), V.str "", V.str "held", V.str "aside", V.str "gap", V.str "lost", V.ref A0, V.ref A1, V.ref A2, V.ref A4, V.ref A7, V.ref A10] : List V)[n]? = some v := ⟨_, List.getElem?_eq_getElem nN⟩
    obtain ⟨d, ed, hd⟩ := dtAll_get all ev
    exact ⟨C, _, _, v, rfl, rfl, SqL.of eC, atI_nat ev, q _ v d ((Keep.of sC).trans k9) b9 hd (List.mem_of_getElem? ed)⟩
end
end Th
namespace Th
open PySem PySem.Spec PyProof.Rows L2
/-! a step with one part otherwise -/
/-- what stands in a step -/
structure ElG (m : Nat) (d : PyData) : Prop where
  lay : d.canLay0 = true
  dep : d.depth ≤ 3
  tup : ∀ y, d = .tuple y → y.length ≤ 10 + m
structure StG (m : Nat) (d : PyData) : Prop where
  lay : d.canLay0 = true
  dep : d.depth ≤ 4
  tup : ∀ x, d = .tuple x → x.length ≤ 4 + m ∧ ∀ e ∈ x, ElG m e
/-- none begins with "held" that has nothing behind it -/
def HdG (d : PyData) : Prop := ∀ x, d = .tuple (.str "held" :: x) → x ≠ []
def GenG (ds : List PyData) : Prop := 2 ≤ ds.length ∧ ∀ x, ds = .str "held" :: x → 2 ≤ x.length
theorem ElG.le {m n : Nat} {d : PyData} (h : ElG m d) (l : m ≤ n) : ElG n d := ⟨h.lay, h.dep, fun y e => by have := h.tup y e; omega⟩
theorem StG.le {m n : Nat} {d : PyData} (h : StG m d) (l : m ≤ n) : StG n d := ⟨h.lay, h.dep, fun x e => ⟨by have := (h.tup x e).1; omega, fun z hz => ((h.tup x e).2 z hz).le l⟩⟩
theorem stG_tup {m : Nat} {ds : List PyData} (h : ∀ d ∈ ds, ElG m d) (l : ds.length ≤ 4 + m) : StG m (.tuple ds) := ⟨by
  show PyData.canLayAll0 ds = true
  exact layAll_of fun d hd => (h d hd).lay, by
  show PyData.depthAll ds + 1 ≤ 4
  exact Nat.succ_le_succ (depthAll_of fun d hd => (h d hd).dep), fun x e => by cases e; exact ⟨l, h⟩⟩
theorem stG_lst {m : Nat} {ds : List PyData} (h : ∀ d ∈ ds, ElG m d) : StG m (.list ds) := ⟨by
  show PyData.canLayAll0 ds = true
  exact layAll_of fun d hd => (h d hd).lay, by
  show PyData.depthAll ds + 1 ≤ 4
  exact Nat.succ_le_succ (depthAll_of fun d hd => (h d hd).dep), fun x e => by cases e⟩
theorem elG_int (m : Nat) (i : Int) : ElG m (.int i) := ⟨rfl, by show 0 ≤ 3; decide, fun y e => by cases e⟩
theorem elG_str {m : Nat} {s : Str} (h : PyData.strOk s = true) : ElG m (.str s) := ⟨h, by show 0 ≤ 3; decide, fun y e => by cases e⟩
theorem elG_nm {m : Nat} {z : Nm} (h : IsNm z) : ElG m (strD z) := elG_str (nm_ok h)
def tupLen2 : PyData → Bool
  | .tuple x => decide (x.length ≤ 2)
  | _ => true
theorem elG_any {m : Nat} : ∀ d ∈ anysD, ElG m d := fun d hd => by
  have h : anysD.all (fun d => d.canLay0 && (decide (d.depth ≤ 3) && tupLen2 d)) = true := by decide +kernel
  obtain ⟨h1, h2⟩ := He.ba (List.all_eq_true.mp h d hd)
  obtain ⟨h2, h3⟩ := He.ba h2
  refine ⟨h1, of_decide_eq_true h2, fun y e => ?_⟩
  subst e
  have := of_decide_eq_true h3
  omega
def anyOk : PyData → Bool
  | .tuple x => decide (x.length ≤ 4) && (x.all fun e => e.canLay0 && (decide (e.depth ≤ 3) && tupLen2 e)) && !(match x with | .str s :: _ => decide (s = Str.ofString "held") | _ => false)
  | _ => true
theorem any_ok : ∀ d ∈ anysD, anyOk d = true := fun d hd => by
  have h : anysD.all anyOk = true := by decide +kernel
  exact List.all_eq_true.mp h d hd
theorem stG_any {m : Nat} : ∀ d ∈ anysD, StG m d ∧ HdG d := fun d hd => by
  have e1 := elG_any (m := m) d hd
  have h := any_ok d hd
  refine ⟨⟨e1.lay, by have := e1.dep; omega, fun x e => ?_⟩, fun x e => ?_⟩
  · subst e
    obtain ⟨h1, _⟩ := He.ba h
    obtain ⟨h1, h2⟩ := He.ba h1
    refine ⟨by have := of_decide_eq_true h1; omega, fun z hz => ?_⟩
    have h3 := List.all_eq_true.mp h2 z hz
    obtain ⟨g1, g2⟩ := He.ba h3
    obtain ⟨g2, g3⟩ := He.ba g2
    refine ⟨g1, of_decide_eq_true g2, fun y e => ?_⟩
    subst e
    have := of_decide_eq_true g3
    omega
  · subst e
    obtain ⟨_, h2⟩ := He.ba h
    exact absurd h2 (by show ¬ ((!decide (Str.ofString "held" = Str.ofString "held")) = true); simp)
/-- one thing in the midst otherwise -/
theorem stG_splice {m n k : Nat} {ds : List PyData} {d : PyData} {l : List PyData} (h : StG m (.tuple ds)) (hd : ElG n d) (mn : m ≤ n) (e : l = ds.take k ++ [d] ++ ds.drop (k + 1)) (hl : l.length ≤ 4 + n) : StG n (.tuple l) := by
  refine stG_tup (fun z hz => ?_) hl
  subst e
  rcases List.mem_append.mp hz with h1 | h1
  · rcases List.mem_append.mp h1 with h2 | h2
    · exact ((h.tup ds rfl).2 z (List.mem_of_mem_take h2)).le mn
    · rw [List.mem_singleton.mp h2]; exact hd
  · exact ((h.tup ds rfl).2 z (List.mem_of_mem_drop h1)).le mn
theorem hdG_len {l : List PyData} (h : 2 ≤ l.length) : HdG (.tuple l) := fun x e z => by
  cases e
  rw [z] at h
  simp at h
theorem hdG_ne {d : PyData} {l : List PyData} (h : d ≠ .str "held") : HdG (.tuple (d :: l)) := fun x e => by
  cases e
  exact absurd rfl h
section
variable {P : Program} {w : World} {K : PySem.W.Frag} {mg : Str → Option Value} {base : Heap} {k : Nat}
def sp_l_part : Sp := fun vs H Q _ => ∃ (p r t F : Addr) (ds : List PyData) (m : Nat) (ls : List Nm) (jns : List (Nm × List Nm)), vs = [.ref p, .ref r, .ref t] ∧ HF H p F ∧ NB H r ls jns ∧ NetBok ls jns ∧ Dt (SF p F) H (.ref t) (.tuple ds) ∧ ds ≠ [] ∧ StG m (.tuple ds) ∧ m ≤ 5 ∧
  ∀ H' v' d', Keep p H H' → Bag H' p → Dt (SF p F) H' v' d' → StG (m + 1) d' → (GenG ds → HdG d') → Q v' H'
set_option maxHeartbeats 32000000 in
theorem ok_l_part (T : Defs K mg) : FnOk P w K mg base CX0 (k + 3) T.a_l_part T.d_l_part ["_law_bag_here", "_law_net_here", "_law_step"] sp_l_part := by
  have G_l_take : FnOk P w K mg base CX0 (k + 2) _ _ _ _ := ok_l_take (k := k + 1) T
  have G_l_any : FnOk P w K mg base CX0 (k + 2) _ _ _ _ := ok_l_any (k := k) T
  refine T.F_l_part.ok sc_l_part (fun vs H Q E h => ?_) (fun cdv A outer s H vs Q E hr h => ?_)
  · obtain ⟨p, r, t, F, ds, m, ls, jns, rfl, _⟩ := h
    rfl
  · obtain ⟨p, r, t, F, ds, m, ls, jns, rfl, hf, hnet, hnb, hd, hne, hst, m5, q⟩ := h
    refine ⟨_, PSs.nox
(pss_cons (ps_par (i := 3) (j := 4) (by rfl) sc_l_part.nd rfl rfl (by decide) rfl rfl (pa_cons (pe_call G_l_take hr (by rfl) T.g_l_take T.F_l_take.kp T.b_l_take .nil pass0 (pa_cons (pv 0) (pa_cons (pe_int) pa_nil))) (pa_cons (pe_call G_l_take hr (by rfl) T.g_l_take T.F_l_take.kp T.b_l_take .nil pass0 (pa_cons (pv 0) (pa_cons (pe_callB (r := rLenS K) call_lenS (by rfl) T.z_len (by decide +kernel) (pa_cons (pv 2) pa_nil)) pa_nil))) pa_nil)) (by rfl))
    (pss_cons (ps_if (pt_cmpR op_eq (pv 3) (pe_int) (nomark _))
      (pss_one (ps_ret (pe_op op_catS (pe_op op_catS (pe_slice (r := rSlS K) sl_tupS (pv 2) po_none (po_some (pv 4))) (pe_tup (pa_cons (pe_call G_l_any hr (by rfl) T.g_l_any T.F_l_any.kp T.b_l_any .nil pass0 (pa_cons (pv 0) pa_nil)) pa_nil))) (pe_slice (r := rSlS K) sl_tupS (pv 2) (po_some (pe_op op_add (pv 4) (pe_int))) po_none))))
      pss_nil)
    (Evl.pss_cut (ps_if (PW.pt (pw_and (pt_cmpR op_eq (pv 3) (pe_int) (nomark _)) (pw_and1 (pt_val (pe_callB (r := rIsi K) call_isi (by rfl) T.z_isinstance (by decide +kernel) (pa_cons (pe_ix (r := rIxT K) ix_tup (pv 2) (pv 4) (fun _ _ => rfl)) (pa_cons (pe_bltn (v := .ty "int") (by rfl) T.z_int (by decide +kernel) rfl) pa_nil)))))))
      (pss_one (ps_ret (pe_op op_catS (pe_op op_catS (pe_slice (r := rSlS K) sl_tupS (pv 2) po_none (po_some (pv 4))) (pe_tup (pa_cons (pe_op op_sub (pe_op Mx2.op_addBI (pe_ix (r := rIxT K) ix_tup (pv 2) (pv 4) (fun _ _ => rfl)) (pe_op op_mul (pe_int) (pe_call G_l_take hr (by rfl) T.g_l_take T.F_l_take.kp T.b_l_take .nil pass0 (pa_cons (pv 0) (pa_cons (pe_int) pa_nil))))) (pe_int)) pa_nil))) (pe_slice (r := rSlS K) sl_tupS (pv 2) (po_some (pe_op op_add (pv 4) (pe_int))) po_none))))
      pss_nil)
    (Evl.pss_cut (ps_if (PW.pt (pw_and (pt_cmpR op_lt (pv 3) (pe_int) (nomark _)) (pw_and1 (pt_cmpR (r := rNeD K) (op_neD hr.units) (pe_ix (r := rIxT K) ix_tup (pv 2) (pe_int) (fun _ _ => rfl)) (pe_str) (nomark _)))))
      (Evl.pss_cut (ps_set (i := 4) sc_l_part.nd rfl (.inl rfl) (pe_ifExp (pt_cmpR op_eq (pv 3) (pe_int) (nomark _)) (pe_op op_sub (pe_callB (r := rLenS K) call_lenS (by rfl) T.z_len (by decide +kernel) (pa_cons (pv 2) pa_nil)) (pe_int)) (pe_int)))
      (pss_one (ps_ret (pe_op op_catS (pe_op op_catS (pe_slice (r := rSlS K) sl_tupS (pv 2) po_none (po_some (pv 4))) (pe_tup (pa_cons (pe_ix (r := rIxT K) ix_tup (pe_ix (r := rIxT K) ix_tup (pv 1) (pe_int) (fun _ _ => rfl)) (pe_call G_l_take hr (by rfl) T.g_l_take T.F_l_take.kp T.b_l_take .nil pass0 (pa_cons (pv 0) (pa_cons (pe_callB (r := rLenS K) call_lenS (by rfl) T.z_len (by decide +kernel) (pa_cons (pe_ix (r := rIxT K) ix_tup (pv 1) (pe_int) (fun _ _ => rfl)) pa_nil)) pa_nil))) (fun _ _ => rfl)) pa_nil))) (pe_slice (r := rSlS K) sl_tupS (pv 2) (po_some (pe_op op_add (pv 4) (pe_int))) po_none)))))
      pss_nil)
    (Evl.pss_cut (ps_if (PW.pt (pw_and (pt_cmpR (r := rEqD K) (op_eqD hr.units) (pe_ix (r := rIxT K) ix_tup (pv 2) (pe_int) (fun _ _ => rfl)) (pe_str) (nomark _)) (pw_and (pt_cmpR op_eq (pe_callB (r := rLenS K) call_lenS (by rfl) T.z_len (by decide +kernel) (pa_cons (pv 2) pa_nil)) (pe_int) (nomark _)) (pw_and1 (pt_val (pe_callB (r := rIsi K) call_isi (by rfl) T.z_isinstance (by decide +kernel) (pa_cons (pe_ix (r := rIxT K) ix_tup (pv 2) (pe_int) (fun _ _ => rfl)) (pa_cons (pe_bltn (v := .ty "tuple") (by rfl) T.z_tuple (by decide +kernel) rfl) pa_nil))))))))
      (pss_cons (ps_par (i := 5) (j := 6) (by rfl) sc_l_part.nd rfl rfl (by decide) rfl rfl (pa_cons (pe_ix (r := rIxT K) ix_tup (pv 2) (pe_int) (fun _ _ => rfl)) (pa_cons (pe_ix (r := rIxT K) ix_tup (pe_ix (r := rIxT K) ix_tup (pv 1) (pe_int) (fun _ _ => rfl)) (pe_call G_l_take hr (by rfl) T.g_l_take T.F_l_take.kp T.b_l_take .nil pass0 (pa_cons (pv 0) (pa_cons (pe_callB (r := rLenS K) call_lenS (by rfl) T.z_len (by decide +kernel) (pa_cons (pe_ix (r := rIxT K) ix_tup (pv 1) (pe_int) (fun _ _ => rfl)) pa_nil)) pa_nil))) (fun _ _ => rfl)) pa_nil)) (by rfl))
      (pss_cons (ps_set (i := 7) sc_l_part.nd rfl (.inl rfl) (pe_call G_l_take hr (by rfl) T.g_l_take T.F_l_take.kp T.b_l_take .nil pass0 (pa_cons (pv 0) (pa_cons (pe_op op_add (pe_callB (r := rLenS K) call_lenS (by rfl) T.z_len (by decide +kernel) (pa_cons (pv 5) pa_nil)) (pe_int)) pa_nil))))
      (pss_cons (ps_set (i := 8) sc_l_part.nd rfl (.inl rfl) (pe_lst (pa_cons (pe_op op_catS (pe_op op_catS (pe_slice (r := rSlS K) sl_tupS (pv 5) po_none (po_some (pv 7))) (pe_tup (pa_cons (pv 6) pa_nil))) (pe_slice (r := rSlS K) sl_tupS (pv 5) (po_some (pv 7)) po_none)) (pa_cons (pe_op op_catS (pe_op op_catS (pe_slice (r := rSlS K) sl_tupS (pv 5) po_none (po_some (pv 7))) (pe_tup (pa_cons (pv 6) pa_nil))) (pe_slice (r := rSlS K) sl_tupS (pv 5) (po_some (pe_op op_add (pv 7) (pe_int))) po_none)) (pa_cons (pe_callTy (InT.call_listA rfl) (by rfl) T.z_list (by decide +kernel) (pa_cons (pv 5) pa_nil)) pa_nil)))))
      (pss_one (ps_ret (pe_tup (pa_cons (pe_str) (pa_cons (pe_ix (r := rIxL K) ix_list (pe_op op_cat (pv 8) (pe_lst (pa_cons (pe_slice (r := rSlS K) sl_tupS (pv 5) po_none (po_some (pe_un un_neg (pe_int)))) (pa_cons (pe_tup pa_nil) pa_nil)))) (pe_call G_l_take hr (by rfl) T.g_l_take T.F_l_take.kp T.b_l_take .nil pass0 (pa_cons (pv 0) (pa_cons (pe_int) pa_nil))) (fun _ _ => rfl)) pa_nil))))))))
      pss_nil)
    (pss_cons (ps_set (i := 9) sc_l_part.nd rfl (.inl rfl) (pe_lst (pa_cons (pe_slice (r := rSlS K) sl_tupS (pv 2) po_none (po_some (pe_un un_neg (pe_int)))) (pa_cons (pe_op op_catS (pv 2) (pe_tup (pa_cons (pe_int) pa_nil))) (pa_cons (pe_callTy (InT.call_listA rfl) (by rfl) T.z_list (by decide +kernel) (pa_cons (pv 2) pa_nil)) (pa_cons (pe_op op_catS (pe_tup (pa_cons (pe_str) pa_nil)) (pe_slice (r := rSlS K) sl_tupS (pv 2) (po_some (pe_int)) po_none)) (pa_cons (pe_op op_catS (pe_tup (pa_cons (pe_str) pa_nil)) (pe_slice (r := rSlS K) sl_tupS (pv 2) (po_some (pe_int)) (po_some (pe_int)))) pa_nil)))))))
    (pss_one (ps_ret (pe_ix (r := rIxL K) ix_list (pv 9) (pe_call G_l_take hr (by rfl) T.g_l_take T.F_l_take.kp T.b_l_take .nil pass0 (pa_cons (pv 0) (pa_cons (pe_int) pa_nil))) (fun _ _ => rfl))))))))))
      , ?_⟩
    obtain ⟨t', xs, et', ea, hxs⟩ := id hd.tupI
    cases et'
    have xl := hxs.len
    obtain ⟨dl, hel⟩ := hst.tup ds rfl
    have dl0 : 0 < ds.length := List.length_pos_iff.mpr hne
    have l8 := hnb.l8
    have l1 := hnb.l1
    -- way, k
    refine ⟨.ref p, rfl, p, 5, rfl, hf.b, by decide, by decide, fun H1 way k1 b1 w0 w1 => ?_⟩
    have f1 := hf.keep k1 b1
    refine ⟨.ref p, rfl, .ref t, rfl, t, xs, rfl, .inr (SqT.of (k1 _ _ (hf.tup ea).1 ea)), p, (ds.length : Int), by rw [xl]; rfl, b1, by omega, by omega, fun H2 kk k2 b2 c0 c1 => ⟨_, _, rfl, ?_⟩⟩
    obtain ⟨kk, rfl⟩ : ∃ n : Nat, kk = (n : Int) := ⟨kk.toNat, by omega⟩
    have kl : kk < ds.length := by omega
    have k02 := k1.trans k2
    have f2 := f1.keep k2 b2
    have ea2 := k02 _ _ (hf.tup ea).1 ea
    have hx2 := dtAll_keepF k02 hxs
    have net2 := hnet.keep k02 hf.b
    clear k1 k2 f1 b1
    -- a splice told
    have tell : ∀ {Hx : Hp} {c : Addr} {v : V} {d : PyData} {n : Nat}, Keep p H2 Hx → HF Hx p F → Hx c = some (.tup (cutV xs none (some (n : Int)) ++ [v] ++ cutV xs (some ((n + 1 : Nat) : Int)) none)) → Dt (SF p F) Hx v d → ElG (m + 1) d → Q (.ref c) Hx := fun {Hx c v d n} kx fx ec hv he => by
      have e1 : ds.take n ++ [d] ++ ds.drop (n + 1) = cutL ds none (some (n : Int)) ++ [d] ++ cutL ds (some ((n + 1 : Nat) : Int)) none := by rw [cutL_to, cutL_from]
      have len : (ds.take n ++ [d] ++ ds.drop (n + 1)).length ≤ ds.length + 1 ∧ ds.length ≤ (ds.take n ++ [d] ++ ds.drop (n + 1)).length := by
        rw [List.length_append, List.length_append, List.length_take, List.length_drop, List.length_singleton]
        omega
      have hxx := dtAll_keepF kx hx2
      refine q Hx _ (.tuple (ds.take n ++ [d] ++ ds.drop (n + 1))) (k02.trans kx) fx.b (fx.dt ec ?_ (by omega)) (stG_splice hst he (Nat.le_succ _) rfl (by omega)) (fun g => hdG_len (by have := g.1; omega))
      rw [e1]
      exact dtAll_app (dtAll_app (dtAll_cut hxx _ _) (.cons hv .nil)) (dtAll_cut hxx _ _)
    have cl : ∀ lo hi, (cutV xs lo hi).length ≤ 9 := fun lo hi => Nat.le_trans (cutV_length _ _ _) (by omega)
    have sz : ∀ n : Nat, n ≤ 100 → n ≤ sizeLine := fun n h => Nat.le_of_lt (small5000 (by omega))
    have ne1 : ∀ {a b : Int}, a ≠ b → V.bl (decide (V.int a = V.int b)) = V.bl false := fun {a b} h => congrArg V.bl (decide_eq_false fun z => h (by injection z))
    -- a line drawn
    by_cases w00 : way = 0
    · refine ⟨.int way, rfl, rfl, true, by rw [w00]; rfl, iteT ?_⟩
      refine ⟨.ref t, rfl, .int (kk : Int), rfl, _, rfl, t, xs, rfl, ea2, fun c1 H3 s3 e3 => ⟨.ref p, rfl, p, rfl, (f2.same s3).b, fun H4 v d k4 b4 hv hm => ⟨one_sz, fun c2 n2 => ?_⟩⟩⟩
      have f3 := f2.same s3
      have hv := f3.old hv
      have f4 := f3.keep k4 b4
      have s5 := same_upd (o := .tup [v]) n2
      refine ⟨c1, c2, _, _, rfl, rfl, s5 _ _ (k4 _ _ (f3.tup e3).1 e3), upd_same, sz _ (by have := cl none (some (kk : Int)); show _ + 1 ≤ 100; omega), fun c3 H6 s6 e6 => ?_⟩
      have k26 : Keep p H2 H6 := ((Keep.of s3).trans k4).trans (.of (s5.trans s6))
      have f6 := f4.same (s5.trans s6)
      refine ⟨.ref t, rfl, .int (kk : Int), rfl, _, 1, rfl, rfl, _, rfl, t, xs, rfl, k26 _ _ (f2.tup ea2).1 ea2, fun c4 H7 s7 e7 => ⟨c3, c4, _, _, rfl, rfl, s7 _ _ e6, e7, sz _ (by have := cl none (some (kk : Int)); have := cl (some ((kk : Int) + 1)) none; rw [List.length_append, List.length_singleton]; omega), fun c5 H8 s8 e8 => ?_⟩⟩
      exact tell (n := kk) (k26.trans (.of (s7.trans s8))) (f6.same (s7.trans s8)) e8 (dt_keepF (.of ((s5.trans s6).trans (s7.trans s8))) hv) (elG_any d hm)
    refine ⟨.int way, rfl, rfl, false, ne1 w00, iteF ?_⟩
    obtain ⟨dk, edk⟩ : ∃ d, ds[kk]? = some d := ⟨_, List.getElem?_eq_getElem kl⟩
    obtain ⟨vk, evk, hvk⟩ := dtAll_at hx2 edk
    obtain ⟨d0, ed0⟩ : ∃ d, ds[0]? = some d := ⟨_, List.getElem?_eq_getElem dl0⟩
    obtain ⟨v0, ev0, hv0⟩ := dtAll_at hx2 ed0
    have sm0 : SeqAt.shaped d0 = true := by
      have := hel d0 (List.mem_of_getElem? ed0)
      exact Bool.and_eq_true_iff.mpr ⟨this.lay, decide_eq_true (by have := this.dep; omega)⟩
    have shg : SeqAt.shaped (.str (Str.ofString "gap")) = true := by decide +kernel
    refine ⟨fun σ Hw => σ = [some (.ref p), some (.ref r), some (.ref t), some (.int way), some (.int (kk : Int)), none, none, none, none, none] ∧ Hw = H2, ?_, fun σ Hw mid => ?_⟩
    · -- a number one more or less
      by_cases w1' : way = 1
      case neg => exact ⟨.int way, rfl, rfl, false, ne1 w1', iteF ⟨rfl, rfl⟩⟩
      refine ⟨.int way, rfl, rfl, true, by rw [w1']; rfl, iteT ⟨.ref t, rfl, .int (kk : Int), rfl, t, xs, _, vk, rfl, rfl, SqT.of ea2, atI_nat evk, vk, .ty "int", _, _, _, rfl, .ty _, hvk.ty, kit_I dk, isiI dk, rfl, ?_⟩⟩
      cases cI : isiI dk with
      | false => exact iteF ⟨rfl, rfl⟩
      | true =>
      refine iteT ?_
      obtain ⟨i, hi⟩ : ∃ i : Int, vk = .int i ∨ ∃ b : Bool, vk = .bl b ∧ i = Mx2.bI b := by
        cases dk with
        | int i => cases hvk; exact ⟨i, .inl rfl⟩
        | bool b => cases hvk; exact ⟨Mx2.bI b, .inr ⟨b, rfl, rfl⟩⟩
        | _ => cases cI
      refine ⟨.ref t, rfl, .int (kk : Int), rfl, _, rfl, t, xs, rfl, ea2, fun c1 H3 s3 e3 => ⟨.ref t, rfl, .int (kk : Int), rfl, t, xs, _, vk, rfl, rfl, SqT.of (s3 _ _ ea2), atI_nat evk, .ref p, rfl, p, 2, rfl, (f2.same s3).b, by decide, by decide, fun H4 dd k4 b4 _ _ => ⟨2, dd, rfl, rfl, .inl ⟨by decide, by decide⟩, i, _, hi, rfl, _, 1, rfl, rfl, one_sz, fun c2 n2 => ?_⟩⟩⟩
      have f3 := f2.same s3
      have f4 := f3.keep k4 b4
      have s5 := same_upd (o := .tup [.int (i + 2 * dd - 1)]) n2
      refine ⟨c1, c2, _, _, rfl, rfl, s5 _ _ (k4 _ _ (f3.tup e3).1 e3), upd_same, sz _ (by have := cl none (some (kk : Int)); show _ + 1 ≤ 100; omega), fun c3 H6 s6 e6 => ?_⟩
      have k26 : Keep p H2 H6 := ((Keep.of s3).trans k4).trans (.of (s5.trans s6))
      have f6 := f4.same (s5.trans s6)
      refine ⟨.ref t, rfl, .int (kk : Int), rfl, _, 1, rfl, rfl, _, rfl, t, xs, rfl, k26 _ _ (f2.tup ea2).1 ea2, fun c4 H7 s7 e7 => ⟨c3, c4, _, _, rfl, rfl, s7 _ _ e6, e7, sz _ (by have := cl none (some (kk : Int)); have := cl (some ((kk : Int) + 1)) none; rw [List.length_append, List.length_singleton]; omega), fun c5 H8 s8 e8 => ?_⟩⟩
      exact tell (n := kk) (k26.trans (.of (s7.trans s8))) (f6.same (s7.trans s8)) e8 (.int (i + 2 * dd - 1)) (elG_int _ _)
    obtain ⟨rfl, rfl⟩ := mid
    refine ⟨fun σ Hx => σ = [some (.ref p), some (.ref r), some (.ref t), some (.int way), some (.int (kk : Int)), none, none, none, none, none] ∧ Hx = Hw, ?_, fun σ Hx mid => ?_⟩
    · -- another line
      refine ⟨.int way, rfl, _, 3, rfl, rfl, _, rfl, ite2 (fun c3 => ?_) (fun _ => ⟨rfl, rfl⟩)⟩
      refine ⟨.ref t, rfl, t, xs, 0, v0, rfl, rfl, SqT.of ea2, atI_nat (j := 0) ev0, d0, .str (Str.ofString "gap"), hv0.dp, .str _, sm0, shg, _, rfl, ite2 (fun cg => ?_) (fun _ => ⟨rfl, rfl⟩)⟩
      refine ⟨fun σ Hx => ∃ n : Nat, σ = [some (.ref p), some (.ref r), some (.ref t), some (.int way), some (.int (n : Int)), none, none, none, none, none] ∧ Hx = Hw, ?_, fun σ Hx mid => ?_⟩
      · refine ⟨.int way, rfl, rfl, _, rfl, ite2 (fun _ => ?_) (fun _ => ⟨2, rfl, rfl⟩)⟩
        refine ⟨.ref t, rfl, t, xs, rfl, .inr (SqT.of ea2), _, 1, rfl, rfl, ds.length - 1, ?_, rfl⟩
        rw [xl, show ((ds.length - 1 : Nat) : Int) = (ds.length : Int) - 1 by omega]
        rfl
      obtain ⟨n, rfl, rfl⟩ := mid
      obtain ⟨na, nc, nb, nd, ja, er, tna, tnc, hJ⟩ := id net2
      refine ⟨.ref t, rfl, .int (n : Int), rfl, _, rfl, t, xs, rfl, ea2, fun c1 H3 s3 e3 => ?_⟩
      have f3 := f2.same s3
      have er3 := s3 _ _ er
      refine ⟨.ref r, rfl, r, [.ref na, nb, .ref nc, nd], 0, .ref na, rfl, rfl, SqT.of er3, atI_nat (j := 0) rfl, .ref p, rfl, .ref r, rfl, r, [.ref na, nb, .ref nc, nd], 0, .ref na, rfl, rfl, SqT.of er3, atI_nat (j := 0) rfl, na, _, rfl, .inr (tna.same s3).sq, p, (ls.length : Int), by rw [List.length_map]; rfl, f3.b, by omega, by omega, fun H4 d4 k4 b4 d40 d41 => ?_⟩
      obtain ⟨d4, rfl⟩ : ∃ xn : Nat, d4 = (xn : Int) := ⟨d4.toNat, by omega⟩
      have hd4 : d4 < ls.length := by omega
      refine ⟨na, _, _, nS ls[d4], rfl, rfl, ((tna.same s3).keep k4 f3.b).sq, atI_nat (by rw [List.getElem?_map, List.getElem?_eq_getElem hd4]; rfl), one_sz, fun c2 n2 => ?_⟩
      have zin := hnb.lnm _ (List.getElem_mem hd4)
      generalize ls[d4] = z at zin n2 ⊢
      have f4 := f3.keep k4 b4
      have s5 := same_upd (o := .tup [nS z]) n2
      refine ⟨c1, c2, _, _, rfl, rfl, s5 _ _ (k4 _ _ (f3.tup e3).1 e3), upd_same, sz _ (by have := cl none (some (n : Int)); show _ + 1 ≤ 100; omega), fun c3 H6 s6 e6 => ?_⟩
      have k26 : Keep p Hx H6 := ((Keep.of s3).trans k4).trans (.of (s5.trans s6))
      have f6 := f4.same (s5.trans s6)
      refine ⟨.ref t, rfl, .int (n : Int), rfl, _, 1, rfl, rfl, _, rfl, t, xs, rfl, k26 _ _ (f2.tup ea2).1 ea2, fun c4 H7 s7 e7 => ⟨c3, c4, _, _, rfl, rfl, s7 _ _ e6, e7, sz _ (by have := cl none (some (n : Int)); have := cl (some ((n : Int) + 1)) none; rw [List.length_append, List.length_singleton]; omega), fun c5 H8 s8 e8 => ?_⟩⟩
      exact tell (n := n) (k26.trans (.of (s7.trans s8))) (f6.same (s7.trans s8)) e8 (.str _) (elG_nm zin)
    obtain ⟨rfl, rfl⟩ := mid
    refine ⟨fun σ Hw => σ = [some (.ref p), some (.ref r), some (.ref t), some (.int way), some (.int (kk : Int)), none, none, none, none, none] ∧ Hw = Hx, ?_, fun σ Hw mid => ?_⟩
    · -- another road
      refine ⟨.ref t, rfl, t, xs, 0, v0, rfl, rfl, SqT.of ea2, atI_nat (j := 0) ev0, d0, .str (Str.ofString "gap"), hv0.dp, .str _, sm0, shg, _, rfl, ite2 (fun cg => ?_) (fun _ => ⟨rfl, rfl⟩)⟩
      refine ⟨.ref t, rfl, t, xs, rfl, .inr (SqT.of ea2), rfl, _, rfl, ite2 (fun c2 => ?_) (fun _ => ⟨rfl, rfl⟩)⟩
      have dl2 : ds.length = 2 := by
        have c2 := of_decide_eq_true c2
        rw [xl] at c2
        injection c2 with c2
        omega
      obtain ⟨d1, ed1⟩ : ∃ d, ds[1]? = some d := ⟨_, List.getElem?_eq_getElem (by omega)⟩
      obtain ⟨v1, ev1, hv1⟩ := dtAll_at hx2 ed1
      refine ⟨.ref t, rfl, t, xs, 1, v1, rfl, rfl, SqT.of ea2, atI_nat (j := 1) ev1, v1, .ty "tuple", _, _, _, rfl, .ty _, hv1.ty, kit_T d1, isiT d1, rfl, ?_⟩
      cases cT : isiT d1 with
      | false => exact iteF ⟨rfl, rfl⟩
      | true =>
      refine iteT ?_
      obtain ⟨es, rfl⟩ : ∃ es, d1 = .tuple es := by
        cases d1 with
        | tuple es => exact ⟨es, rfl⟩
        | _ => cases cT
      obtain ⟨u, ys, rfl, eu, hys⟩ := id hv1.tupI
      have yl := hys.len
      have el1 := hel _ (List.mem_of_getElem? ed1)
      have esl := el1.tup es rfl
      have eslay : ∀ e ∈ es, e.canLay0 = true ∧ e.depth ≤ 2 := fun e he => by
        obtain ⟨j, hj⟩ := List.getElem?_of_mem he
        have h1 := lay_mem (show PyData.canLayAll0 es = true from el1.lay) hj
        have h2 := depth_mem hj
        have h3 : PyData.depthAll es + 1 ≤ 3 := el1.dep
        exact ⟨h1, by omega⟩
      have roadG : ∀ {l : List PyData}, (∀ e ∈ l, e.canLay0 = true ∧ e.depth ≤ 2) → l.length ≤ 11 + m → ElG (m + 1) (.tuple l) := fun {l} h hl => ⟨by
        show PyData.canLayAll0 l = true
        exact layAll_of fun d hd => (h d hd).1, by
        show PyData.depthAll l + 1 ≤ 3
        exact Nat.succ_le_succ (depthAll_of fun d hd => (h d hd).2), fun y e => by cases e; omega⟩
      obtain ⟨na, nc, nb, nd, ja, er, tna, tnc, hJ⟩ := id net2
      refine ⟨.ref t, rfl, t, xs, 1, .ref u, rfl, rfl, SqT.of ea2, atI_nat (j := 1) ev1, .ref r, rfl, r, [.ref na, nb, .ref nc, nd], 0, .ref na, rfl, rfl, SqT.of er, atI_nat (j := 0) rfl, .ref p, rfl, .ref r, rfl, r, [.ref na, nb, .ref nc, nd], 0, .ref na, rfl, rfl, SqT.of er, atI_nat (j := 0) rfl, na, _, rfl, .inr tna.sq, p, (ls.length : Int), by rw [List.length_map]; rfl, f2.b, by omega, by omega, fun H3 d4 k3 b3 d40 d41 => ?_⟩
      obtain ⟨d4, rfl⟩ : ∃ xn : Nat, d4 = (xn : Int) := ⟨d4.toNat, by omega⟩
      have hd4 : d4 < ls.length := by omega
      refine ⟨na, _, _, nS ls[d4], rfl, rfl, (tna.keep k3 f2.b).sq, atI_nat (by rw [List.getElem?_map, List.getElem?_eq_getElem hd4]; rfl), _, _, rfl, ?_⟩
      have zin := hnb.lnm _ (List.getElem_mem hd4)
      generalize ls[d4] = z at zin ⊢
      have f3 := f2.keep k3 b3
      have eu3 := k3 _ _ (f2.tup eu).1 eu
      refine ⟨.ref p, rfl, .ref u, rfl, u, ys, rfl, .inr (SqT.of eu3), _, 1, rfl, rfl, p, ((es.length + 1 : Nat) : Int), by rw [yl]; rfl, f3.b, by omega, by omega, fun H4 at_ k4 b4 a0 a1 => ?_⟩
      obtain ⟨at_, rfl⟩ : ∃ xn : Nat, at_ = (xn : Int) := ⟨at_.toNat, by omega⟩
      have f4 := f3.keep k4 b4
      have eu4 := k4 _ _ (f3.tup eu3).1 eu3
      have hy4 := dtAll_keepF (k3.trans k4) hys
      have yc : ∀ lo hi, (cutV ys lo hi).length ≤ 15 := fun lo hi => Nat.le_trans (cutV_length _ _ _) (by omega)
      have inc : ∀ {lo hi} {e : PyData}, e ∈ cutL es lo hi → e.canLay0 = true ∧ e.depth ≤ 2 := fun h => eslay _ (cutL_mem h)
      have zd : (strD z).canLay0 = true ∧ (strD z).depth ≤ 2 := ⟨nm_ok zin, by show 0 ≤ 2; decide⟩
      -- the first
      refine ⟨.ref u, rfl, .int (at_ : Int), rfl, _, rfl, u, ys, rfl, eu4, fun c1 H5 s5 e5 => ⟨nS z, rfl, one_sz, fun c2 n2 => ?_⟩⟩
      have s6 := same_upd (o := .tup [nS z]) n2
      refine ⟨c1, c2, _, _, rfl, rfl, s6 _ _ e5, upd_same, sz _ (by have := yc none (some (at_ : Int)); show _ + 1 ≤ 100; omega), fun c3 H7 s7 e7 => ?_⟩
      have s47 := (s5.trans s6).trans s7
      refine ⟨.ref u, rfl, .int (at_ : Int), rfl, _, rfl, u, ys, rfl, s47 _ _ eu4, fun c4 H8 s8 e8 => ⟨c3, c4, _, _, rfl, rfl, s8 _ _ e7, e8, sz _ (by have := yc none (some (at_ : Int)); have := yc (some (at_ : Int)) none; rw [List.length_append, List.length_singleton]; omega), fun R1 H9 s9 eR1 => ?_⟩⟩
      have s49 := (s47.trans s8).trans s9
      -- the second
      refine ⟨.ref u, rfl, .int (at_ : Int), rfl, _, rfl, u, ys, rfl, s49 _ _ eu4, fun c1 H5' s5' e5' => ⟨nS z, rfl, one_sz, fun c2 n2 => ?_⟩⟩
      have s6' := same_upd (o := .tup [nS z]) n2
      refine ⟨c1, c2, _, _, rfl, rfl, s6' _ _ e5', upd_same, sz _ (by have := yc none (some (at_ : Int)); show _ + 1 ≤ 100; omega), fun c3 H7' s7' e7' => ?_⟩
      have s97 := (s5'.trans s6').trans s7'
      refine ⟨.ref u, rfl, .int (at_ : Int), rfl, _, 1, rfl, rfl, _, rfl, u, ys, rfl, (s49.trans s97) _ _ eu4, fun c4 H8' s8' e8' => ⟨c3, c4, _, _, rfl, rfl, s8' _ _ e7', e8', sz _ (by have := yc none (some (at_ : Int)); have := yc (some ((at_ : Int) + 1)) none; rw [List.length_append, List.length_singleton]; omega), fun R2 H10 s10 eR2 => ?_⟩⟩
      have s910 := (s97.trans s8').trans s10
      have s410 := s49.trans s910
      have eR1 := s910 _ _ eR1
      -- the third, the list
      refine ⟨.ref u, rfl, u, ys, rfl, .inl (.inr (SqT.of (s410 _ _ eu4))), fun R3 n3 => ?_⟩
      have f10 := f4.same s410
      have R3n := f10.new n3
      have s11 := same_upd (o := .lst ys) n3
      have eR3 : (upd H10 R3 (.lst ys)) R3 = some (.lst ys) := upd_same
      refine ⟨by show 3 ≤ sizeLine; decide, fun L nL => ?_⟩
      have s12 := same_upd (o := .lst [.ref R1, .ref R2, .ref R3]) nL
      have eL : (upd (upd H10 R3 (.lst ys)) L (.lst [.ref R1, .ref R2, .ref R3])) L = some (.lst [.ref R1, .ref R2, .ref R3]) := upd_same
      have s1012 := s11.trans s12
      have eR3 := s12 _ _ eR3
      have eR1 := s1012 _ _ eR1
      have eR2 := s1012 _ _ eR2
      have s412 := s410.trans s1012
      generalize upd (upd H10 R3 (.lst ys)) L (.lst [.ref R1, .ref R2, .ref R3]) = H12 at s412 eR1 eR2 eR3 eL ⊢
      -- the road without its last, and none
      refine ⟨.ref L, rfl, .ref u, rfl, 1, rfl, _, rfl, u, ys, rfl, s412 _ _ eu4, fun R4 H13 s13 eR4 => ⟨Nat.zero_le _, fun R5 n5 => ⟨two_sz, fun L2 nL2 => ?_⟩⟩⟩
      have s14 := same_upd (o := .tup []) n5
      have eR5 : (upd H13 R5 (.tup [])) R5 = some (.tup []) := upd_same
      have s15 := same_upd (o := .lst [.ref R4, .ref R5]) nL2
      have s1415 := s14.trans s15
      have eR5 := s15 _ _ eR5
      have eR4 := s1415 _ _ eR4
      have eL2 : (upd (upd H13 R5 (.tup [])) L2 (.lst [.ref R4, .ref R5])) L2 = some (.lst [.ref R4, .ref R5]) := upd_same
      have s1215 := s13.trans s1415
      have eR1 := s1215 _ _ eR1
      have eR2 := s1215 _ _ eR2
      have eR3 := s1215 _ _ eR3
      have eL := s1215 _ _ eL
      have s415 := s412.trans s1215
      generalize upd (upd H13 R5 (.tup [])) L2 (.lst [.ref R4, .ref R5]) = H15 at s415 eR1 eR2 eR3 eR4 eR5 eL eL2 ⊢
      refine ⟨L, L2, _, _, rfl, rfl, eL, eL2, by show 3 + 2 ≤ sizeLine; decide, fun L3 nL3 => ?_⟩
      have s16 := same_upd (o := .lst ([V.ref R1, .ref R2, .ref R3] ++ [V.ref R4, .ref R5])) nL3
      have f15 := f4.same s415
      have L3n := f15.new nL3
      have f16 := f15.same s16
      refine ⟨.ref p, rfl, p, 5, rfl, f16.b, by decide, by decide, fun H17 c k17 b17 q0 q1 => ?_⟩
      have k417 : Keep p H4 H17 := (Keep.of (s415.trans s16)).trans k17
      have k217 := (k3.trans k4).trans k417
      have f17 := f16.keep k17 b17
      have up : ∀ {a : Addr} {xs : List V}, H15 a = some (.tup xs) → H17 a = some (.tup xs) := fun {a xs} e => k17 _ _ (f16.tup (s16 _ _ e)).1 (s16 _ _ e)
      have eR1 := up eR1
      have eR2 := up eR2
      have eR4 := up eR4
      have eR5 := up eR5
      have eR3 := k17 _ _ R3n.1 (s16 _ _ eR3)
      have eL3 : H17 L3 = some (.lst ([V.ref R1, .ref R2, .ref R3] ++ [V.ref R4, .ref R5])) := k17 _ _ L3n.1 upd_same
      have hy17 := dtAll_keepF k417 hy4
      have g1 : ∀ (lo : Nat), Dt (SF p F) H17 (.ref R1) (.tuple (cutL es none (some (at_ : Int)) ++ [strD z] ++ cutL es (some (at_ : Int)) none)) ∧ ElG (m + 1) (.tuple (cutL es none (some (at_ : Int)) ++ [strD z] ++ cutL es (some (at_ : Int)) none)) := fun _ => by
        have ll : (cutL es none (some (at_ : Int)) ++ [strD z] ++ cutL es (some (at_ : Int)) none).length ≤ 11 + m := by
          rw [cutL_to, cutL_from, List.length_append, List.length_append, List.length_take, List.length_drop, List.length_singleton]
          omega
        exact ⟨f17.dt eR1 (dtAll_app (dtAll_app (dtAll_cut hy17 _ _) (.cons (.str _) .nil)) (dtAll_cut hy17 _ _)) (by omega), roadG (fun e he => by
          rcases List.mem_append.mp he with h | h
          · rcases List.mem_append.mp h with h | h
            · exact inc h
            · rw [List.mem_singleton.mp h]; exact zd
          · exact inc h) ll⟩
      have g2 : Dt (SF p F) H17 (.ref R2) (.tuple (cutL es none (some (at_ : Int)) ++ [strD z] ++ cutL es (some ((at_ : Int) + 1)) none)) ∧ ElG (m + 1) (.tuple (cutL es none (some (at_ : Int)) ++ [strD z] ++ cutL es (some ((at_ : Int) + 1)) none)) := by
        have ll : (cutL es none (some (at_ : Int)) ++ [strD z] ++ cutL es (some ((at_ : Int) + 1)) none).length ≤ 11 + m := by
          rw [show (at_ : Int) + 1 = ((at_ + 1 : Nat) : Int) by omega, cutL_to, cutL_from, List.length_append, List.length_append, List.length_take, List.length_drop, List.length_singleton]
          omega
        exact ⟨f17.dt eR2 (dtAll_app (dtAll_app (dtAll_cut hy17 _ _) (.cons (.str _) .nil)) (dtAll_cut hy17 _ _)) (by omega), roadG (fun e he => by
          rcases List.mem_append.mp he with h | h
          · rcases List.mem_append.mp h with h | h
            · exact inc h
            · rw [List.mem_singleton.mp h]; exact zd
          · exact inc h) ll⟩
      have g3 : Dt (SF p F) H17 (.ref R3) (.list es) ∧ ElG (m + 1) (.list es) := ⟨.lst R3n eR3 (by omega) hy17, ⟨by
        show PyData.canLayAll0 es = true
        exact layAll_of fun d hd => (eslay d hd).1, by
        show PyData.depthAll es + 1 ≤ 3
        exact Nat.succ_le_succ (depthAll_of fun d hd => (eslay d hd).2), fun y e => by cases e⟩⟩
      have g4 : Dt (SF p F) H17 (.ref R4) (.tuple (cutL es none (some (-1)))) ∧ ElG (m + 1) (.tuple (cutL es none (some (-1)))) := by
        have := cutL_le es none (some (-1))
        exact ⟨f17.dt eR4 (dtAll_cut hy17 _ _) (by omega), roadG (fun e he => inc he) (by omega)⟩
      have g5 : Dt (SF p F) H17 (.ref R5) (.tuple []) ∧ ElG (m + 1) (.tuple []) := ⟨f17.dt eR5 .nil (by show 0 ≤ 5000; decide), roadG (fun e he => by cases he) (by show 0 ≤ 11 + m; omega)⟩
      obtain ⟨vx, dx, hvx, hdx⟩ : ∃ vx dx, atI ([V.ref R1, .ref R2, .ref R3] ++ [V.ref R4, .ref R5]) c = some vx ∧ Dt (SF p F) H17 vx dx ∧ ElG (m + 1) dx := by
        have : c = 0 ∨ c = 1 ∨ c = 2 ∨ c = 3 ∨ c = 4 := by omega
        rcases this with rfl | rfl | rfl | rfl | rfl
        · exact ⟨_, _, atI_nat (j := 0) rfl, g1 0⟩
        · exact ⟨_, _, atI_nat (j := 1) rfl, g2⟩
        · exact ⟨_, _, atI_nat (j := 2) rfl, g3⟩
        · exact ⟨_, _, atI_nat (j := 3) rfl, g4⟩
        · exact ⟨_, _, atI_nat (j := 4) rfl, g5⟩
      refine ⟨L3, _, c, vx, rfl, rfl, SqL.of eL3, hvx, two_sz, fun tt ntt => ?_⟩
      have s18 := same_upd (o := .tup [.str "gap", vx]) ntt
      have f18 := f17.same s18
      refine q _ _ (.tuple [.str "gap", dx]) (k02.trans (k217.trans (.of s18))) f18.b (f18.dt upd_same (.cons (.str _) (.cons (dt_keepF (.of s18) hdx.1) .nil)) (by show 2 ≤ 5000; decide)) (stG_tup (fun e he => ?_) (by show 2 ≤ _; omega)) (fun _ => hdG_ne (by
        intro e
        injection e with e
        exact absurd e (by decide +kernel)))
      rcases List.mem_cons.mp he with h | h
      · rw [h]; exact elG_str (by decide +kernel)
      · rw [List.mem_singleton.mp h]; exact hdx.2
    obtain ⟨rfl, rfl⟩ := mid
    -- as a whole
    refine ⟨.ref t, rfl, 1, rfl, _, rfl, t, xs, rfl, ea2, fun S1 H3 s3 eS1 => ?_⟩
    refine ⟨.ref t, rfl, one_sz, fun c1 n1 => ?_⟩
    have s4 := same_upd (o := .tup [.int 0]) n1
    refine ⟨t, c1, _, _, rfl, rfl, (s3.trans s4) _ _ ea2, upd_same, sz _ (by show _ + 1 ≤ 100; omega), fun S2 H5 s5 eS2 => ?_⟩
    have s25 := (s3.trans s4).trans s5
    have eS1 := (s4.trans s5) _ _ eS1
    refine ⟨.ref t, rfl, t, xs, rfl, .inl (.inr (SqT.of (s25 _ _ ea2))), fun S3 n3 => ?_⟩
    have f5 := f2.same s25
    have S3n := f5.new n3
    have s6 := same_upd (o := .lst xs) n3
    have eS3 : (upd H5 S3 (.lst xs)) S3 = some (.lst xs) := upd_same
    have eS1 := s6 _ _ eS1
    have eS2 := s6 _ _ eS2
    have s26 := s25.trans s6
    generalize upd H5 S3 (.lst xs) = H6 at eS1 eS2 eS3 s26 ⊢
    refine ⟨one_sz, fun c2 n2 => ?_⟩
    have s7 := same_upd (o := .tup [.str "held"]) n2
    refine ⟨.ref t, rfl, 1, rfl, t, xs, rfl, (s26.trans s7) _ _ ea2, fun c3 H8 s8 e8 => ⟨c2, c3, _, _, rfl, rfl, s8 _ _ upd_same, e8, sz _ (by have := cl (some 1) none; show 1 + _ ≤ 100; omega), fun S4 H9 s9 eS4 => ?_⟩⟩
    have s69 := (s7.trans s8).trans s9
    have eS1 := s69 _ _ eS1
    have eS2 := s69 _ _ eS2
    have eS3 := s69 _ _ eS3
    have s29 := s26.trans s69
    refine ⟨one_sz, fun c4 n4 => ?_⟩
    have s10 := same_upd (o := .tup [.str "aside"]) n4
    refine ⟨.ref t, rfl, 1, rfl, 2, rfl, t, xs, rfl, (s29.trans s10) _ _ ea2, fun c5 H11 s11 e11 => ⟨c4, c5, _, _, rfl, rfl, s11 _ _ upd_same, e11, sz _ (by have := cl (some 1) (some 2); show 1 + _ ≤ 100; omega), fun S5 H12 s12 eS5 => ⟨by show 5 ≤ sizeLine; decide, fun L nL => ?_⟩⟩⟩
    have s912 := (s10.trans s11).trans s12
    have eS1 := s912 _ _ eS1
    have eS2 := s912 _ _ eS2
    have eS3 := s912 _ _ eS3
    have eS4 := s912 _ _ eS4
    have s212 := s29.trans s912
    have s13 := same_upd (o := .lst [.ref S1, .ref S2, .ref S3, .ref S4, .ref S5]) nL
    have f12 := f2.same s212
    have Ln := f12.new nL
    have f13 := f12.same s13
    refine ⟨.ref L, rfl, .ref p, rfl, p, 5, rfl, f13.b, by decide, by decide, fun H14 c k14 b14 q0 q1 => ?_⟩
    have k214 : Keep p Hw H14 := (Keep.of (s212.trans s13)).trans k14
    have f14 := f13.keep k14 b14
    have up : ∀ {a : Addr} {xs : List V}, H12 a = some (.tup xs) → H14 a = some (.tup xs) := fun {a xs} e => k14 _ _ (f13.tup (s13 _ _ e)).1 (s13 _ _ e)
    have eS1 := up eS1
    have eS2 := up eS2
    have eS4 := up eS4
    have eS5 := up eS5
    have eS3 := k14 _ _ S3n.1 (s13 _ _ eS3)
    have eL : H14 L = some (.lst [.ref S1, .ref S2, .ref S3, .ref S4, .ref S5]) := k14 _ _ Ln.1 upd_same
    have hx14 := dtAll_keepF k214 hx2
    have hel1 : ∀ e ∈ ds, ElG (m + 1) e := fun e he => (hel e he).le (Nat.le_succ _)
    obtain ⟨vx, dx, hvx, hdx1, hdx2, hdx3⟩ : ∃ vx dx, atI [V.ref S1, .ref S2, .ref S3, .ref S4, .ref S5] c = some vx ∧ Dt (SF p F) H14 vx dx ∧ StG (m + 1) dx ∧ (GenG ds → HdG dx) := by
      have : c = 0 ∨ c = 1 ∨ c = 2 ∨ c = 3 ∨ c = 4 := by omega
      rcases this with rfl | rfl | rfl | rfl | rfl
      · have := cutL_le ds none (some (-1))
        refine ⟨_, .tuple (cutL ds none (some (-1))), atI_nat (j := 0) rfl, f14.dt eS1 (dtAll_cut hx14 _ _) (by omega), stG_tup (fun e he => hel1 e (cutL_mem he)) (by omega), fun g => ?_⟩
        obtain ⟨g1, g2⟩ := g
        intro y ey
        injection ey with ey
        rw [cutL_last] at ey
        match ds, g1, g2, ey with
        | d0 :: dt, g1, g2, ey =>
          rw [show (d0 :: dt).length - 1 = (dt.length - 1) + 1 by rw [List.length_cons] at g1 ⊢; omega, List.take_succ_cons] at ey
          injection ey with e1 e2
          have := g2 dt (by rw [e1])
          intro z
          rw [z] at e2
          have e3 := congrArg List.length e2
          rw [List.length_take] at e3
          simp at e3
          omega
      · refine ⟨_, .tuple (ds ++ [.int 0]), atI_nat (j := 1) rfl, f14.dt eS2 (dtAll_app hx14 (.cons (.int _) .nil)) (by rw [List.length_append, List.length_singleton]; omega), stG_tup (fun e he => ?_) (by rw [List.length_append, List.length_singleton]; omega), fun g => hdG_len (by rw [List.length_append, List.length_singleton]; omega)⟩
        rcases List.mem_append.mp he with h | h
        · exact hel1 e h
        · rw [List.mem_singleton.mp h]; exact elG_int _ _
      · exact ⟨_, .list ds, atI_nat (j := 2) rfl, .lst S3n eS3 (by omega) hx14, stG_lst hel1, fun _ x e => by cases e⟩
      · have := cutL_le ds (some 1) none
        refine ⟨_, .tuple ([.str "held"] ++ cutL ds (some 1) none), atI_nat (j := 3) rfl, f14.dt eS4 (dtAll_app (.cons (.str _) .nil) (dtAll_cut hx14 _ _)) (by rw [List.length_append, List.length_singleton]; omega), stG_tup (fun e he => ?_) (by rw [List.length_append, List.length_singleton]; omega), fun g => hdG_len ?_⟩
        · rcases List.mem_append.mp he with h | h
          · rw [List.mem_singleton.mp h]; exact elG_str (by decide +kernel)
          · exact hel1 e (cutL_mem h)
        · rw [show (1 : Int) = ((1 : Nat) : Int) by rfl, cutL_from, List.length_append, List.length_singleton, List.length_drop]
          have := g.1
          omega
      · have := cutL_le ds (some 1) (some 2)
        refine ⟨_, .tuple ([.str "aside"] ++ cutL ds (some 1) (some 2)), atI_nat (j := 4) rfl, f14.dt eS5 (dtAll_app (.cons (.str _) .nil) (dtAll_cut hx14 _ _)) (by rw [List.length_append, List.length_singleton]; omega), stG_tup (fun e he => ?_) (by rw [List.length_append, List.length_singleton]; omega), fun g => hdG_ne (by
          intro e
          injection e with e
          exact absurd e (by decide +kernel))⟩
        rcases List.mem_append.mp he with h | h
        · rw [List.mem_singleton.mp h]; exact elG_str (by decide +kernel)
        · exact hel1 e (cutL_mem h)
    exact ⟨L, _, c, vx, rfl, rfl, SqL.of eL, hvx, q _ _ dx (k02.trans k214) f14.b hdx1 hdx2 hdx3⟩
end
end Th
namespace Th
open PySem PySem.Spec PyProof.Rows L2
/-! steps bent -/
section
variable {P : Program} {w : World} {K : PySem.W.Frag} {mg : Str → Option Value} {base : Heap} {k : Nat}
structure StpG (m : Nat) (d : PyData) : Prop where
  st : StG m d
  hd : HdG d
  tu : ∃ x, d = .tuple x ∧ x ≠ []
def AllGen (ds : List PyData) : Prop := ∀ d ∈ ds, ∀ x, d = .tuple x → GenG x
def RgS (m : Nat) (G : Prop) (d : PyData) : Prop := StG (m + 1) d ∧ (G → HdG d)
def sp_l_bent_steps : Sp := fun vs H Q _ => ∃ (p r S : Addr) (xs : List V) (ds : List PyData) (m : Nat) (ls : List Nm) (jns : List (Nm × List Nm)), vs = [.ref p, .ref r, .ref S] ∧ Bag H p ∧ NB H r ls jns ∧ NetBok ls jns ∧ S ≠ p ∧ H S = some (.lst xs) ∧ DtAll (SN p) H xs ds ∧ (∀ d ∈ ds, StpG m d) ∧ ds.length ≤ 100 + m ∧ m ≤ 4 ∧
  ∀ H' F xs' ds', Keep p H H' → Bag H' p → F ≠ p → H' F = some (.lst xs') → DtAll (SN p) H' xs' ds' → (∀ d ∈ ds', StG (m + 1) d) → (AllGen ds → ∀ d ∈ ds', HdG d) → ds'.length ≤ 101 + m → Q (.ref F) H'
set_option maxHeartbeats 64000000 in
theorem ok_l_bent_steps (T : Defs K mg) : FnOk P w K mg base CX0 (k + 4) T.a_l_bent_steps T.d_l_bent_steps ["_law_bag_here", "_law_net_here", "_law_steps"] sp_l_bent_steps := by
  have G_l_take : FnOk P w K mg base CX0 (k + 3) _ _ _ _ := ok_l_take (k := k + 2) T
  have G_l_any : FnOk P w K mg base CX0 (k + 3) _ _ _ _ := ok_l_any (k := k + 1) T
  have G_l_part : FnOk P w K mg base CX0 (k + 3) _ _ _ _ := ok_l_part (k := k) T
  refine T.F_l_bent_steps.ok sc_l_bent_steps (fun vs H Q E h => ?_) (fun cdv A outer s H vs Q E hr h => ?_)
  · obtain ⟨p, r, S, xs, ds, m, ls, jns, rfl, _⟩ := h
    rfl
  · obtain ⟨p, r, S, xs, ds, m, ls, jns, rfl, b, hnet, hnb, Sp_, eS, hxs, hst, dl, m4, q⟩ := h
    refine ⟨_, PSs.nox
(pss_cons (ps_par3 (i := 3) (j := 4) (l := 5) rfl sc_l_bent_steps.nd rfl rfl rfl (by decide) (by decide) (by decide) rfl rfl rfl (pa_cons (pe_call G_l_take hr (by rfl) T.g_l_take T.F_l_take.kp T.b_l_take .nil pass0 (pa_cons (pv 0) (pa_cons (pe_int) pa_nil))) (pa_cons (pe_call G_l_take hr (by rfl) T.g_l_take T.F_l_take.kp T.b_l_take .nil pass0 (pa_cons (pv 0) (pa_cons (pe_callB (call_max2 rfl) (by rfl) T.z_max (by decide +kernel) (pa_cons (pe_int) (pa_cons (pe_callB (r := rLenS K) call_lenS (by rfl) T.z_len (by decide +kernel) (pa_cons (pv 2) pa_nil)) pa_nil))) pa_nil))) (pa_cons (pe_call G_l_take hr (by rfl) T.g_l_take T.F_l_take.kp T.b_l_take .nil pass0 (pa_cons (pv 0) (pa_cons (pe_op op_add (pe_callB (r := rLenS K) call_lenS (by rfl) T.z_len (by decide +kernel) (pa_cons (pv 2) pa_nil)) (pe_int)) pa_nil))) pa_nil))) (by rfl))
    (pss_cons (ps_set (i := 6) sc_l_bent_steps.nd rfl (.inl rfl) (pe_callTy call_list_of (by rfl) T.z_list (by decide +kernel) (pa_cons (pv 2) pa_nil)))
    (pss_cons (ps_if (PW.pt (pw_or (pt_cmpR op_eq (pv 3) (pe_int) (nomark _)) (pw_or1 (pt_cmpR (r := rEqD K) (op_eqD hr.units) (pv 6) (pe_lst pa_nil) (nomark _)))))
      (pss_cons (ps_set (i := 7) sc_l_bent_steps.nd rfl (.inl rfl) (pe_ix (r := rIxT K) ix_tup (pe_ix (r := rIxT K) ix_tup (pv 1) (pe_int) (fun _ _ => rfl)) (pe_call G_l_take hr (by rfl) T.g_l_take T.F_l_take.kp T.b_l_take .nil pass0 (pa_cons (pv 0) (pa_cons (pe_callB (r := rLenS K) call_lenS (by rfl) T.z_len (by decide +kernel) (pa_cons (pe_ix (r := rIxT K) ix_tup (pv 1) (pe_int) (fun _ _ => rfl)) pa_nil)) pa_nil))) (fun _ _ => rfl)))
      (pss_one (ps_expr (pe_bm PySem.F.plainAttrs_list PySem.F.slot_list_insert PySem.F.type_list_insert mt_insert (pv 6) (pa_cons (pv 5) (pa_cons (pe_ix (r := rIxT K) ix_tup (pe_tup (pa_cons (pe_tup (pa_cons (pe_str) (pa_cons (pe_int) pa_nil))) (pa_cons (pe_tup (pa_cons (pe_str) (pa_cons (pe_tup (pa_cons (pv 7) pa_nil)) pa_nil))) (pa_cons (pe_call G_l_any hr (by rfl) T.g_l_any T.F_l_any.kp T.b_l_any .nil pass0 (pa_cons (pv 0) pa_nil)) pa_nil)))) (pe_call G_l_take hr (by rfl) T.g_l_take T.F_l_take.kp T.b_l_take .nil pass0 (pa_cons (pv 0) (pa_cons (pe_int) pa_nil))) (fun _ _ => rfl)) pa_nil))))))
      (pss_one (ps_if (pt_cmpR op_eq (pv 3) (pe_int) (nomark _))
        (pss_one (ps_expr (pe_bm PySem.F.plainAttrs_list PySem.F.slot_list_pop PySem.F.type_list_pop mt_popAt (pv 6) (pa_cons (pv 4) pa_nil))))
        (pss_one (ps_if (pt_cmpR op_eq (pv 3) (pe_int) (nomark _))
          (pss_one (ps_expr (pe_bm PySem.F.plainAttrs_list PySem.F.slot_list_insert PySem.F.type_list_insert mt_insert (pv 6) (pa_cons (pv 5) (pa_cons (pe_ix (r := rIxL K) ix_list (pv 6) (pv 4) (fun _ _ => rfl)) pa_nil)))))
          (pss_one (ps_if (pt_cmpR op_eq (pv 3) (pe_int) (nomark _))
            (pss_one (ps_asg (pe_tup (pa_cons (pe_ix (r := rIxL K) ix_list (pv 6) (pe_op op_sub (pv 4) (pe_int)) (fun _ _ => rfl)) (pa_cons (pe_ix (r := rIxL K) ix_list (pv 6) (pv 4) (fun _ _ => rfl)) pa_nil))) (pg_tup rfl (pgs_cons (pg_sub (pv 6) (pv 4) set_list) (pgs_cons (pg_sub (pv 6) (pe_op op_sub (pv 4) (pe_int)) set_list) pgs_nil)))))
            (pss_one (ps_if (pt_cmpR op_eq (pv 3) (pe_int) (nomark _))
              (pss_cons (ps_setLc (i := 8) (own := [("_law_k", 9), ("_law_step", 11)]) (g := gTup K 2 (gCons (gName 9) (gCons (gName 11) gNil))) rfl sc_l_bent_steps.nd rfl rfl (sw_true rfl rfl rfl (by decide +kernel)) (pi_enum (by rfl) T.z_enumerate (pa_cons (pv 6) pa_nil)) (blkOk_by (N := N_l_bent_steps) (sc := defScope s_l_bent_steps) (by decide +kernel)) (fun _ _ _ _ _ => (pg_tup rfl (pgs_cons (pg_name (i := 9) sc_l_bent_steps.nd rfl (.inl rfl)) (pgs_cons (pg_name (i := 11) sc_l_bent_steps.nd rfl (.inl rfl)) pgs_nil)))) (fun _ _ _ _ _ => pts_one (pt_cmpR (r := rEqD K) (op_eqD hr.units) (pe_ix (r := rIxT K) ix_tup (pv 11) (pe_int) (fun _ _ => rfl)) (pe_str) (nomark _))) (fun _ _ _ _ _ => (pv 9)))
              (pss_one (ps_if (pt_cmpR (r := rNeD K) (op_neD hr.units) (pv 8) (pe_lst pa_nil) (nomark _))
                (pss_cons (ps_set (i := 9) sc_l_bent_steps.nd rfl (.inl rfl) (pe_ix (r := rIxL K) ix_list (pv 8) (pe_op op_sub (pe_un un_neg (pe_int)) (pe_op op_mod (pe_call G_l_take hr (by rfl) T.g_l_take T.F_l_take.kp T.b_l_take .nil pass0 (pa_cons (pv 0) (pa_cons (pe_int) pa_nil))) (pe_callB (r := rLenS K) call_lenS (by rfl) T.z_len (by decide +kernel) (pa_cons (pv 8) pa_nil)))) (fun _ _ => rfl)))
                (Evl.pss_cut (ps_set (i := 10) sc_l_bent_steps.nd rfl (.inl rfl) (pe_slice sl_list (pv 6) po_none (po_some (pe_op op_sub (pv 9) (pe_callTy call_int1 (by rfl) T.z_int (by decide +kernel) (pa_cons (pe_and (pe_cmpR op_gt (pv 9) (pe_int) (nomark _)) (pe_one (pe_cmpR (r := rEqD K) (op_eqD hr.units) (pe_ix (r := rIxT K) ix_tup (pe_ix (r := rIxL K) ix_list (pv 6) (pe_op op_sub (pv 9) (pe_int)) (fun _ _ => rfl)) (pe_int) (fun _ _ => rfl)) (pe_str) (nomark _)))) pa_nil))))))
                (pss_one (ps_set (i := 6) sc_l_bent_steps.nd rfl (.inl rfl) (pe_op op_cat (pe_op op_cat (pv 10) (pe_lst (pa_cons (pe_tup (pa_cons (pe_str) (pa_cons (pe_ix (r := rIxT K) ix_tup (pe_ix (r := rIxL K) ix_list (pv 6) (pv 9) (fun _ _ => rfl)) (pe_int) (fun _ _ => rfl)) pa_nil))) pa_nil))) (pe_slice sl_list (pv 6) (po_some (pe_op op_add (pv 9) (pe_int))) po_none))))))
                pss_nil)))
              (pss_one (ps_asg (pe_call G_l_part hr (by rfl) T.g_l_part T.F_l_part.kp T.b_l_part .nil pass0 (pa_cons (pv 0) (pa_cons (pv 1) (pa_cons (pe_ix (r := rIxL K) ix_list (pv 6) (pv 4) (fun _ _ => rfl)) pa_nil)))) (pg_sub (pv 6) (pv 4) set_list))))))))))))
    (pss_one (ps_ret (pv 6))))))
      , ?_⟩
    have xl := hxs.len
    have l8 := hnb.l8
    have l1 := hnb.l1
    have sz : ∀ n : Nat, n ≤ 1000 → n ≤ sizeLine := fun n h => Nat.le_of_lt (small5000 (by omega))
    have ne1 : ∀ {a b : Int}, a ≠ b → V.bl (decide (V.int a = V.int b)) = V.bl false := fun {a b} h => congrArg V.bl (decide_eq_false fun z => h (by injection z))
    refine ⟨.ref p, rfl, p, 8, rfl, b, by decide, by decide, fun H1 way k1 b1 w0 w1 => ?_⟩
    have eS1 := k1 _ _ Sp_ eS
    refine ⟨.ref p, rfl, .ref S, rfl, S, _, rfl, .inl (SqL.of eS1), 1, _, rfl, p, _, rfl, b1, ?_, ?_, fun H2 at_ k2 b2 a0 a1 => ?_⟩
    · split <;> omega
    · split <;> omega
    have eS2 := k2 _ _ Sp_ eS1
    refine ⟨.ref p, rfl, .ref S, rfl, S, _, rfl, .inl (SqL.of eS2), _, 1, rfl, rfl, p, ((xs.length + 1 : Nat) : Int), rfl, b2, by omega, by omega, fun H3 to k3 b3 t0 t1 => ⟨_, _, _, rfl, ?_⟩⟩
    obtain ⟨at_, rfl⟩ : ∃ n : Nat, at_ = (n : Int) := ⟨at_.toNat, by omega⟩
    obtain ⟨to, rfl⟩ : ∃ n : Nat, to = (n : Int) := ⟨to.toNat, by omega⟩
    have k03 := (k1.trans k2).trans k3
    have eS3 := k03 _ _ Sp_ eS
    refine ⟨.ref S, rfl, S, _, rfl, .inl (SqL.of eS3), fun F nF => ?_⟩
    have nFH : H F = none := k03.free b nF b3
    have nFp : F ≠ p := b3.ne nF
    have sF := same_upd (o := .lst xs) nF
    have kF : Keep p H (upd H3 F (.lst xs)) := k03.trans (.of sF)
    have h4 : FlR (RgS m (AllGen ds)) H (upd H3 F (.lst xs)) p F xs ds := ⟨kF, b3.keep sF, upd_same, hxs.mono2 fun a o s e => ⟨⟨s, fun z => by rw [z, nFH] at e; cases e⟩, kF _ _ s e⟩, fun d hd => ⟨(hst d hd).st.le (Nat.le_succ _), fun _ => (hst d hd).hd⟩⟩
    have net4 : NB (upd H3 F (.lst xs)) r ls jns := hnet.keep kF b
    generalize upd H3 F (.lst xs) = H4 at h4 net4 ⊢
    clear k1 k2 k3 eS1 eS2 eS3 b1 b2 sF kF k03
    have done : ∀ {Hx : Hp} {ys : List V} {es : List PyData}, FlR (RgS m (AllGen ds)) H Hx p F ys es → es.length ≤ 101 + m → Q (.ref F) Hx := fun {Hx ys es} h l => q Hx F ys es h.k h.b nFp h.e h.dtp (fun d hd => (h.nice d hd).1) (fun g d hd => (h.nice d hd).2 g) l
    have shF : SeqAt.shaped (.list ds) = true := shaped_lay (n := 4) (fun d hd => ⟨(hst d hd).st.lay, (hst d hd).st.dep⟩) (by decide)
    have eqv0 : PyData.eqv (.list ds) (.list []) = decide (ds = []) := by
      cases ds with
      | nil => rfl
      | cons r rs => rw [decide_eq_false (by simp)]; rfl
    by_cases cc : way = 0 ∨ ds = []
    · by_cases c0 : way = 0
      case' pos =>
        subst c0
        refine ⟨_, rfl, rfl, _, rfl, iteT ?_⟩
        generalize H4 = H5 at h4 net4 ⊢
      case' neg =>
        have e0 : ds = [] := cc.resolve_left c0
        refine ⟨_, rfl, rfl, _, rfl, ?_⟩
        rw [decide_eq_false (fun z => c0 (by injection z) : ¬ V.int way = V.int 0)]
        refine iteF ⟨.ref F, rfl, Nat.zero_le _, fun E nE => ?_⟩
        have sE := same_upd (o := .lst []) nE
        have h4 := h4.same nFp sE
        have net4 := net4.same sE
        refine ⟨_, _, .lst (SqL.of h4.e) (DtAll.dp h4.dt), .lst (SqL.of upd_same) .nil, shF, by decide +kernel, _, rfl, ?_⟩
        rw [eqv0, decide_eq_true e0]
        refine iteT ?_
        generalize upd H4 E (.lst []) = H5 at h4 net4 ⊢
      all_goals
        obtain ⟨na, nc, nb, nd, ja, er, tna, tnc, hJ⟩ := id net4
        refine ⟨.ref r, rfl, r, [.ref na, nb, .ref nc, nd], 0, .ref na, rfl, rfl, SqT.of er, atI_nat (j := 0) rfl, .ref p, rfl, .ref r, rfl, r, [.ref na, nb, .ref nc, nd], 0, .ref na, rfl, rfl, SqT.of er, atI_nat (j := 0) rfl, na, _, rfl, .inr tna.sq, p, (ls.length : Int), by rw [List.length_map]; rfl, h4.b, by omega, by omega, fun H6 d4 k6 b6 d40 d41 => ?_⟩
        obtain ⟨d4, rfl⟩ : ∃ xn : Nat, d4 = (xn : Int) := ⟨d4.toNat, by omega⟩
        have hd4 : d4 < ls.length := by omega
        refine ⟨na, _, _, nS ls[d4], rfl, rfl, (tna.keep k6 h4.b).sq, atI_nat (by rw [List.getElem?_map, List.getElem?_eq_getElem hd4]; rfl), ?_⟩
        have zin := hnb.lnm _ (List.getElem_mem hd4)
        generalize ls[d4] = z at zin ⊢
        have h6 := h4.keep nFp k6 b6
        refine ⟨.ref F, rfl, .inl ⟨rfl, _, SqL.of h6.e⟩, .int (to : Int), rfl, two_sz, fun u1 n1 => ?_⟩
        have s1 := same_upd (o := .tup [.str "aside", .int 1]) n1
        have e1 : (upd H6 u1 (.tup [.str "aside", .int 1])) u1 = some (.tup [.str "aside", .int 1]) := upd_same
        refine ⟨nS z, rfl, one_sz, fun u2 n2 => ?_⟩
        have s2 := same_upd (o := .tup [nS z]) n2
        have e2 : (upd (upd H6 u1 (.tup [.str "aside", .int 1])) u2 (.tup [nS z])) u2 = some (.tup [nS z]) := upd_same
        refine ⟨two_sz, fun u3 n3 => ?_⟩
        have s3 := same_upd (o := .tup [.str "gap", .ref u2]) n3
        have e3 : (upd (upd (upd H6 u1 (.tup [.str "aside", .int 1])) u2 (.tup [nS z])) u3 (.tup [.str "gap", .ref u2])) u3 = some (.tup [.str "gap", .ref u2]) := upd_same
        have e1 := s3 _ _ (s2 _ _ e1)
        have e2 := s3 _ _ e2
        have h7 := h6.same nFp (s1.trans (s2.trans s3))
        generalize upd (upd (upd H6 u1 (.tup [.str "aside", .int 1])) u2 (.tup [nS z])) u3 (.tup [.str "gap", .ref u2]) = H7 at e1 e2 e3 h7 ⊢
        refine ⟨.ref p, rfl, p, rfl, h7.b, fun H8 v d k8 b8 hd hm => ⟨by show 3 ≤ sizeLine; decide, fun u4 n4 => ?_⟩⟩
        have hd := h7.hf.old hd
        have h8 := h7.keep nFp k8 b8
        have e1 := k8 _ _ (h7.hf.tup e1).1 e1
        have e2 := k8 _ _ (h7.hf.tup e2).1 e2
        have e3 := k8 _ _ (h7.hf.tup e3).1 e3
        have s4 := same_upd (o := .tup [.ref u1, .ref u3, v]) n4
        have e4 : (upd H8 u4 (.tup [.ref u1, .ref u3, v])) u4 = some (.tup [.ref u1, .ref u3, v]) := upd_same
        have hd := dt_keepF (.of s4) hd
        have h9 := h8.same nFp s4
        have e1 := s4 _ _ e1
        have e2 := s4 _ _ e2
        have e3 := s4 _ _ e3
        generalize upd H8 u4 (.tup [.ref u1, .ref u3, v]) = H9 at e1 e2 e3 e4 hd h9 ⊢
        refine ⟨.ref p, rfl, p, 3, rfl, h9.b, by decide, by decide, fun H10 c k10 b10 c0 c1 => ?_⟩
        have h10 := h9.keep nFp k10 b10
        have hd := dt_keepF k10 hd
        have e1 := k10 _ _ (h9.hf.tup e1).1 e1
        have e2 := k10 _ _ (h9.hf.tup e2).1 e2
        have e3 := k10 _ _ (h9.hf.tup e3).1 e3
        have e4 := k10 _ _ (h9.hf.tup e4).1 e4
        obtain ⟨vx, dx, hvx, hdx1, hdx2⟩ : ∃ vx dx, atI [V.ref u1, .ref u3, v] c = some vx ∧ Dt (SF p F) H10 vx dx ∧ RgS m (AllGen ds) dx := by
          have : c = 0 ∨ c = 1 ∨ c = 2 := by omega
          rcases this with rfl | rfl | rfl
          · refine ⟨_, .tuple [.str "aside", .int 1], atI_nat (j := 0) rfl, h10.hf.dt e1 (.cons (.str _) (.cons (.int _) .nil)) (by show 2 ≤ 5000; decide), stG_tup (fun e he => ?_) (by show 2 ≤ _; omega), fun _ => hdG_len (by show 2 ≤ 2; decide)⟩
            rcases List.mem_cons.mp he with h | h
            · rw [h]; exact elG_str (by decide +kernel)
            · rw [List.mem_singleton.mp h]; exact elG_int _ _
          · refine ⟨_, .tuple [.str "gap", .tuple [strD z]], atI_nat (j := 1) rfl, h10.hf.dt e3 (.cons (.str _) (.cons (h10.hf.dt e2 (.cons (.str _) .nil) (by show 1 ≤ 5000; decide)) .nil)) (by show 2 ≤ 5000; decide), stG_tup (fun e he => ?_) (by show 2 ≤ _; omega), fun _ => hdG_len (by show 2 ≤ 2; decide)⟩
            rcases List.mem_cons.mp he with h | h
            · rw [h]; exact elG_str (by decide +kernel)
            · rw [List.mem_singleton.mp h]
              refine ⟨by show ((strD z).canLay0 && true) = true; rw [show (strD z).canLay0 = true from nm_ok zin]; rfl, by show max 0 0 + 1 ≤ 3; decide, fun y e => by cases e; show 1 ≤ _; omega⟩
          · exact ⟨v, d, atI_nat (j := 2) rfl, hd, (stG_any d hm).1, fun _ => (stG_any (m := 0) d hm).2⟩
        refine ⟨u4, _, c, vx, rfl, rfl, SqT.of e4, hvx, F, _, (to : Int), vx, rfl, rfl, h10.e, small5000 (by omega), by omega, by omega, ?_⟩
        rw [Int.toNat_natCast]
        exact ⟨.ref F, rfl, done (h10.put nFH nFp (dtAll_ins to h10.dt hdx1) fun d hd => by
          rcases ins_mem hd with h | h
          · exact h10.nice d h
          · rw [h]; exact hdx2) (by rw [ins_len]; omega)⟩
    have c0 : way ≠ 0 := fun z => cc (.inl z)
    have ds0 : ds ≠ [] := fun z => cc (.inr z)
    have dl0 : 0 < ds.length := List.length_pos_iff.mpr ds0
    have nl : at_ < ds.length := by split at a1 <;> omega
    obtain ⟨da, eda⟩ : ∃ d, ds[at_]? = some d := ⟨_, List.getElem?_eq_getElem nl⟩
    have stA := hst da (List.mem_of_getElem? eda)
    refine ⟨_, rfl, rfl, _, rfl, ?_⟩
    rw [decide_eq_false (fun z => c0 (by injection z) : ¬ V.int way = V.int 0)]
    refine iteF ⟨.ref F, rfl, Nat.zero_le _, fun E nE => ?_⟩
    have sE := same_upd (o := .lst []) nE
    have h5 := h4.same nFp sE
    have net5 := net4.same sE
    refine ⟨_, _, .lst (SqL.of h5.e) (DtAll.dp h5.dt), .lst (SqL.of upd_same) .nil, shF, by decide +kernel, _, rfl, ?_⟩
    rw [eqv0, decide_eq_false ds0]
    refine iteF ?_
    generalize upd H4 E (.lst []) = H5 at h5 net5 ⊢
    clear h4 net4
    obtain ⟨va, eva, hva⟩ := dtAll_at h5.dt eda
    have xal : at_ < xs.length := by omega
    have hat : atI xs (at_ : Int) = some va := atI_nat eva
    have hRa : RgS m (AllGen ds) da := ⟨stA.st.le (Nat.le_succ _), fun _ => stA.hd⟩
    by_cases w1' : way = 1
    · -- one left out
      refine ⟨.int way, rfl, rfl, true, by rw [w1']; rfl, iteT ⟨.ref F, rfl, .inl ⟨rfl, _, SqL.of h5.e⟩, .int (at_ : Int), rfl, F, _, (at_ : Int), at_, _, rfl, rfl, h5.e, by omega, by omega, sqiD xal, eva, ?_⟩⟩
      refine ⟨.ref F, rfl, done (h5.put nFH nFp (dtAll_erase at_ h5.dt) fun d hd => h5.nice d (List.mem_of_mem_eraseIdx hd)) ?_⟩
      rw [List.length_eraseIdx]
      split <;> omega
    refine ⟨.int way, rfl, rfl, false, ne1 w1', iteF ?_⟩
    by_cases w2' : way = 2
    · -- one twice
      refine ⟨.int way, rfl, rfl, true, by rw [w2']; rfl, iteT ⟨.ref F, rfl, .inl ⟨rfl, _, SqL.of h5.e⟩, .int (to : Int), rfl, .ref F, rfl, .int (at_ : Int), rfl, F, _, _, _, rfl, rfl, SqL.of h5.e, hat, F, _, (to : Int), va, rfl, rfl, h5.e, small5000 (by omega), by omega, by omega, ?_⟩⟩
      rw [Int.toNat_natCast]
      exact ⟨.ref F, rfl, done (h5.put nFH nFp (dtAll_ins to h5.dt hva) fun d hd => by
          rcases ins_mem hd with h | h
          · exact h5.nice d h
          · rw [h]; exact hRa) (by rw [ins_len]; omega)⟩
    refine ⟨.int way, rfl, rfl, false, ne1 w2', iteF ?_⟩
    by_cases w3' : way = 3
    · -- two exchanged
      refine ⟨.int way, rfl, rfl, true, by rw [w3']; rfl, iteT ?_⟩
      obtain ⟨j, hj, jl⟩ : ∃ j, ixN xs.length ((at_ : Int) - 1) = some j ∧ j < xs.length := by
        by_cases z : at_ = 0
        · rw [z, show ((0 : Nat) : Int) - 1 = -1 - ((0 : Nat) : Int) by rfl, ixN_neg (by omega)]
          exact ⟨_, rfl, by omega⟩
        · rw [show (at_ : Int) - 1 = ((at_ - 1 : Nat) : Int) by omega, ix_natD (by omega)]
          exact ⟨_, rfl, by omega⟩
      obtain ⟨dj, edj⟩ : ∃ d, ds[j]? = some d := ⟨_, List.getElem?_eq_getElem (by omega)⟩
      obtain ⟨vj, evj, hvj⟩ := dtAll_at h5.dt edj
      have stJ := hst dj (List.mem_of_getElem? edj)
      have hRj : RgS m (AllGen ds) dj := ⟨stJ.st.le (Nat.le_succ _), fun _ => stJ.hd⟩
      have hatj : atI xs ((at_ : Int) - 1) = some vj := by
        unfold atI
        rw [hj]
        exact evj
      refine ⟨.ref F, rfl, .int (at_ : Int), rfl, _, 1, rfl, rfl, F, _, _, _, rfl, rfl, SqL.of h5.e, hatj, .ref F, rfl, .int (at_ : Int), rfl, F, _, _, _, rfl, rfl, SqL.of h5.e, hat, two_sz, fun u nu => ?_⟩
      have su := same_upd (o := .tup [vj, va]) nu
      have h6 := h5.same nFp su
      have eu : (upd H5 u (.tup [vj, va])) u = some (.tup [vj, va]) := upd_same
      have hva6 := dt_keepF (.of su) hva
      have hvj6 := dt_keepF (.of su) hvj
      generalize upd H5 u (.tup [vj, va]) = H6 at h6 eu hva6 hvj6 ⊢
      refine ⟨u, _, rfl, SqT.of eu, rfl, vj, _, rfl, ?_⟩
      refine ⟨.ref F, rfl, .int (at_ : Int), rfl, F, _, (at_ : Int), at_, rfl, rfl, h6.e, ix_natD xal, ?_⟩
      have h7 := h6.put nFH nFp (dtAll_set at_ h6.dt hvj6) (R' := RgS m (AllGen ds)) fun d hd => by
        rcases List.mem_or_eq_of_mem_set hd with h | h
        · exact h6.nice d h
        · rw [h]; exact hRj
      have hva7 : Dt (SF p F) (upd H6 F (.lst (xs.set at_ vj))) va da := hva6.mono2 fun a o s e => ⟨s, by rw [upd_ne s.2]; exact e⟩
      refine ⟨va, [], rfl, .ref F, rfl, .int (at_ : Int), rfl, _, 1, rfl, rfl, F, _, (at_ : Int) - 1, j, rfl, rfl, h7.e, by rw [List.length_set]; exact hj, ?_⟩
      have h8 := h7.put nFH nFp (dtAll_set j h7.dt hva7) (R' := RgS m (AllGen ds)) fun d hd => by
        rcases List.mem_or_eq_of_mem_set hd with h | h
        · exact h7.nice d h
        · rw [h]; exact hRa
      exact ⟨rfl, .ref F, rfl, done h8 (by rw [List.length_set, List.length_set]; omega)⟩
    refine ⟨.int way, rfl, rfl, false, ne1 w3', iteF ?_⟩
    by_cases w4' : way = 4
    · -- a held one put aside
      refine ⟨.int way, rfl, rfl, true, by rw [w4']; rfl, iteT ?_⟩
      refine ⟨.ref F, rfl, F, _, rfl, SqL.of h5.e, fun D nD => ?_⟩
      let HeldAt (h : Nat) : Prop := ∃ x, ds[h]? = some (.tuple (.str "held" :: x)) ∧ x ≠ []
      have shh : SeqAt.shaped (.str (Str.ofString "held")) = true := by decide +kernel
      have shg : SeqAt.shaped (.str (Str.ofString "gap")) = true := by decide +kernel
      have smE : ∀ {d : PyData}, d ∈ ds → ∀ {y : List PyData}, d = .tuple y → ∀ e ∈ y, SeqAt.shaped e = true := fun {d} hd {y} e z hz => by
        have := ((hst d hd).st.tup y e).2 z hz
        exact Bool.and_eq_true_iff.mpr ⟨this.lay, decide_eq_true (by have := this.dep; omega)⟩
      refine lc_it (walk_enum (xs := xs)) (fun i Hx => Same H5 Hx ∧ ∃ hs : List Int, Hx D = some (.lst (hs.map V.int)) ∧ hs.length ≤ i ∧ ∀ h ∈ hs, ∃ n : Nat, h = (n : Int) ∧ HeldAt n) ⟨same_upd nD, [], upd_same, Nat.le_refl _, fun h hh => (by cases hh)⟩ (fun i Hx _ pv => SqL.of (pv.1 _ _ h5.e)) (fun i v Hx₀ Hx hi pv yy => ?_) (fun H6 pv => ?_)
      · obtain ⟨U, xv, yv, rfl, nU, rfl, ex, ey⟩ := yy
        have ex : xv = .int (i : Int) := (Option.some.inj ex).symm
        subst ex
        obtain ⟨sx, hs, eD, hl, hh⟩ := pv
        have ey : xs[i]? = some yv := ey
        obtain ⟨d, ed, hd⟩ := dtAll_get h5.dt ey
        have dm := List.mem_of_getElem? ed
        obtain ⟨y, rfl, y0⟩ := (hst d dm).tu
        have sU := same_upd (o := .tup [.int (i : Int), yv]) nU
        have sy := sx.trans sU
        have hd' := dt_keepF (.of sy) hd
        have eDy := sU _ _ eD
        obtain ⟨ty, zs, rfl, ety, hzs⟩ := id hd'.tupI
        cases y with
        | nil => exact absurd rfl y0
        | cons e0 yt =>
        obtain ⟨v0, ev0, hv0⟩ := dtAll_at hzs (j := 0) rfl
        refine ⟨U, _, rfl, SqT.of upd_same, rfl, _, _, rfl, _, [], rfl, rfl, rfl, .ref ty, rfl, ty, zs, 0, v0, rfl, rfl, SqT.of ety, atI_nat (j := 0) ev0, e0, .str (Str.ofString "held"), hv0.dp, .str _, smE dm rfl e0 List.mem_cons_self, shh, _, rfl, ite2 (fun c => ?_) (fun c => ?_)⟩
        · have c := eqv_str.mp c
          subst c
          refine ⟨.int (i : Int), rfl, _, eDy, by rw [List.length_map]; exact small5000 (by omega), same_set sy nD, hs ++ [(i : Int)], by rw [upd_same, List.map_append]; rfl, by rw [List.length_append, List.length_singleton]; omega, fun h hm => ?_⟩
          rcases List.mem_append.mp hm with z | z
          · exact hh h z
          · rw [List.mem_singleton.mp z]
            exact ⟨i, rfl, yt, ed, (hst _ dm).hd yt rfl⟩
        · exact ⟨sy, hs, eDy, by omega, hh⟩
      obtain ⟨s6, hs, eD, hl, hh⟩ := pv
      have h6 := h5.same nFp s6
      refine ⟨.ref D, rfl, Nat.zero_le _, fun E2 nE2 => ?_⟩
      have sE2 := same_upd (o := .lst []) nE2
      have h7 := h6.same nFp sE2
      have eD7 := sE2 _ _ eD
      have dD : Dp K (upd H6 E2 (.lst [])) (.ref D) (.list (hs.map PyData.int)) := .lst (SqL.of eD7) (dtAll_ints (S := SA) hs).dp
      refine ⟨_, _, dD, .lst (SqL.of upd_same) .nil, Bool.and_eq_true_iff.mpr ⟨layAll_ints hs, decide_eq_true (by show PyData.depthAll (hs.map PyData.int) + 1 ≤ 64; rw [depthAll_ints]; decide)⟩, by decide +kernel, _, rfl, ?_⟩
      clear dD
      generalize upd H6 E2 (.lst []) = H7 at h7 eD7 ⊢
      cases hs with
      | nil => exact iteF ⟨.ref F, rfl, done h7 (by omega)⟩
      | cons hs0 hst' =>
      refine iteT ?_
      have Dp_ : D ≠ p := h5.b.ne nD
      refine ⟨.ref D, rfl, 1, rfl, .ref p, rfl, p, 2, rfl, h7.b, by decide, by decide, fun H8 c k8 b8 c0' c1' => ?_⟩
      have eD8 := k8 _ _ Dp_ eD7
      have h8 := h7.keep nFp k8 b8
      have hlen : (hs0 :: hst').length = hst'.length + 1 := List.length_cons
      obtain ⟨j, ej, jl⟩ : ∃ j : Nat, c % (((hs0 :: hst').length : Nat) : Int) = (j : Int) ∧ j < (hs0 :: hst').length := by
        refine ⟨(c % (((hs0 :: hst').length : Nat) : Int)).toNat, ?_, ?_⟩
        · have := Int.emod_nonneg c (b := (((hs0 :: hst').length : Nat) : Int)) (by omega)
          omega
        · have := Int.emod_lt_of_pos c (b := (((hs0 :: hst').length : Nat) : Int)) (by omega)
          have := Int.emod_nonneg c (b := (((hs0 :: hst').length : Nat) : Int)) (by omega)
          omega
      obtain ⟨hx, ehx⟩ : ∃ h, (hs0 :: hst')[(hs0 :: hst').length - 1 - j]? = some h := ⟨_, List.getElem?_eq_getElem (by omega)⟩
      obtain ⟨n, rfl, xh, enx, xh0⟩ := hh hx (List.mem_of_getElem? ehx)
      have hatk : atI ((hs0 :: hst').map V.int) (-1 - (j : Int)) = some (.int (n : Int)) := atI_neg (by rw [List.length_map]; exact jl) (by rw [List.length_map, List.getElem?_map, ehx]; rfl)
      refine ⟨.ref D, rfl, D, _, rfl, .inl (SqL.of eD8), c, (((hs0 :: hst').length : Nat) : Int), rfl, by rw [List.length_map], by omega, _, _, rfl, rfl, D, _, -1 - (j : Int), .int (n : Int), rfl, by rw [ej], SqL.of eD8, hatk, ?_⟩
      have nlt : n < ds.length := (List.getElem?_eq_some_iff.mp enx).1
      obtain ⟨vn, evn, hvn⟩ := dtAll_at h8.dt enx
      have hatn : atI xs (n : Int) = some vn := atI_nat evn
      refine ⟨fun σ Hw => ∃ (B : Addr) (bnd : Int), σ = [some (.ref p), some (.ref r), some (.ref S), some (.int way), some (.int (at_ : Int)), some (.int (to : Int)), some (.ref F), none, some (.ref D), some (.int (n : Int)), some (.ref B), none] ∧ FlR (RgS m (AllGen ds)) H Hw p F xs ds ∧ Hw B = some (.lst (cutV xs none (some bnd))) ∧ H B = none ∧ ∃ bn : Nat, bnd = (bn : Int) ∧ bn ≤ n, ?_, fun σ Hw mid => ?_⟩
      · have fin : ∀ b : Bool, (cutV xs none (some ((n : Int) - if b = true then 1 else 0))).length ≤ 5000 → True := fun _ _ => trivial
        by_cases n0 : (n : Int) > 0
        · obtain ⟨dp, edp⟩ : ∃ d, ds[n - 1]? = some d := ⟨_, List.getElem?_eq_getElem (by omega)⟩
          obtain ⟨vp, evp, hvp⟩ := dtAll_at h8.dt edp
          have pm := List.mem_of_getElem? edp
          obtain ⟨y, rfl, y0⟩ := (hst dp pm).tu
          obtain ⟨ty, zs, rfl, ety, hzs⟩ := id hvp.tupI
          cases y with
          | nil => exact absurd rfl y0
          | cons e0 yt =>
          obtain ⟨v0, ev0, hv0⟩ := dtAll_at hzs (j := 0) rfl
          have hatp : atI xs ((n : Int) - 1) = some (.ref ty) := by
            rw [show (n : Int) - 1 = ((n - 1 : Nat) : Int) by omega]
            exact atI_nat evp
          refine ⟨.ref F, rfl, .int (n : Int), rfl, .int (n : Int), rfl, _, 0, rfl, rfl, ?_⟩
          refine ⟨true, congrArg V.bl (decide_eq_true n0), iteT ?_⟩
          refine ⟨.ref F, rfl, .int (n : Int), rfl, _, 1, rfl, rfl, F, _, _, .ref ty, rfl, rfl, SqL.of h8.e, hatp, ty, zs, 0, v0, rfl, rfl, SqT.of ety, atI_nat (j := 0) ev0, e0, .str (Str.ofString "gap"), hv0.dp, .str _, smE pm rfl e0 List.mem_cons_self, shg, .inr ⟨_, rfl, _, _, rfl, rfl, _, rfl, F, _, rfl, SqL.of h8.e, fun B nB => ?_⟩⟩
          have sB := same_upd (o := .lst (cutV xs none (some ((n : Int) - if PyData.eqv e0 (.str (Str.ofString "gap")) = true then 1 else 0)))) nB
          refine ⟨B, _, rfl, h8.same nFp sB, upd_same, h8.k.free b nB h8.b, ?_⟩
          split
          · exact ⟨n - 1, by omega, by omega⟩
          · exact ⟨n, by omega, by omega⟩
        · refine ⟨.ref F, rfl, .int (n : Int), rfl, .int (n : Int), rfl, _, 0, rfl, rfl, ?_⟩
          refine ⟨false, congrArg V.bl (decide_eq_false n0), iteF ?_⟩
          refine (.inr ⟨false, rfl, _, _, rfl, rfl, _, rfl, F, _, rfl, SqL.of h8.e, fun B nB => ?_⟩)
          have sB := same_upd (o := .lst (cutV xs none (some ((n : Int) - 0)))) nB
          exact ⟨B, _, rfl, h8.same nFp sB, upd_same, h8.k.free b nB h8.b, n, Int.sub_zero _, Nat.le_refl _⟩
      obtain ⟨B, bnd, rfl, h9, eB, nBH, bn, ebn, bnn⟩ := mid
      have Bp : B ≠ p := fun z => by
        obtain ⟨g, r', e, _⟩ := b
        rw [z, e] at nBH
        cases nBH
      obtain ⟨vn, evn, hvn⟩ := dtAll_at h9.dt enx
      have hatn : atI xs (n : Int) = some vn := atI_nat evn
      obtain ⟨tn, zs, rfl, etn, hzs⟩ := id hvn.tupI
      cases xh with
      | nil => exact absurd rfl xh0
      | cons x1 xt =>
      obtain ⟨v1, ev1, hv1⟩ := dtAll_at hzs (j := 1) rfl
      have cl : ∀ lo hi, (cutV xs lo hi).length ≤ 105 := fun lo hi => Nat.le_trans (cutV_length _ _ _) (by omega)
      refine ⟨.ref B, rfl, .ref F, rfl, .int (n : Int), rfl, F, _, _, _, rfl, rfl, SqL.of h9.e, hatn, tn, zs, 1, v1, rfl, rfl, SqT.of etn, atI_nat (j := 1) ev1, two_sz, fun u nu => ⟨one_sz, fun l nl => ?_⟩⟩
      have su := same_upd (o := .tup [.str "aside", v1]) nu
      have sl := same_upd (o := .lst [.ref u]) nl
      have eu : (upd (upd Hw u (.tup [.str "aside", v1])) l (.lst [.ref u])) u = some (.tup [.str "aside", v1]) := sl _ _ upd_same
      have el : (upd (upd Hw u (.tup [.str "aside", v1])) l (.lst [.ref u])) l = some (.lst [.ref u]) := upd_same
      have h10 := h9.same nFp (su.trans sl)
      have eB := (su.trans sl) _ _ eB
      have hv1 := dt_keepF (.of (su.trans sl)) hv1
      generalize upd (upd Hw u (.tup [.str "aside", v1])) l (.lst [.ref u]) = H10 at eu el h10 eB hv1 ⊢
      refine ⟨B, l, _, _, rfl, rfl, eB, el, sz _ (by have := cl none (some bnd); show _ + 1 ≤ 1000; omega), fun C nC => ?_⟩
      have sC := same_upd (o := .lst (cutV xs none (some bnd) ++ [.ref u])) nC
      have h11 := h10.same nFp sC
      refine ⟨.ref F, rfl, .int (n : Int), rfl, _, 1, rfl, rfl, _, rfl, F, _, rfl, SqL.of h11.e, fun G nG => ?_⟩
      have sG := same_upd (o := .lst (cutV xs (some ((n : Int) + 1)) none)) nG
      refine ⟨C, G, _, _, rfl, rfl, sG _ _ upd_same, upd_same, sz _ (by have := cl none (some bnd); have := cl (some ((n : Int) + 1)) none; rw [List.length_append, List.length_singleton]; omega), fun R nR => ?_⟩
      have sR := same_upd (o := .lst (cutV xs none (some bnd) ++ [.ref u] ++ cutV xs (some ((n : Int) + 1)) none)) nR
      have h12 := h11.same nFp (sG.trans sR)
      have sall := sC.trans (sG.trans sR)
      have nn : (n : Int) + 1 = ((n + 1 : Nat) : Int) := by omega
      have asd : ∀ d, d = PyData.tuple [.str "aside", x1] → StG (m + 1) d ∧ HdG d := fun d e => by
        subst e
        refine ⟨stG_tup (fun e he => ?_) (by show 2 ≤ _; omega), hdG_len (by show 2 ≤ 2; decide)⟩
        rcases List.mem_cons.mp he with h | h
        · rw [h]; exact elG_str (by decide +kernel)
        · rw [List.mem_singleton.mp h]
          exact (((hst _ (List.mem_of_getElem? enx)).st.tup _ rfl).2 x1 (by simp)).le (Nat.le_succ _)
      have mm : ∀ d ∈ cutL ds none (some bnd) ++ [.tuple [.str "aside", x1]] ++ cutL ds (some ((n : Int) + 1)) none, StG (m + 1) d ∧ HdG d := fun d hd => by
        rcases List.mem_append.mp hd with h | h
        · rcases List.mem_append.mp h with h | h
          · have := hst d (cutL_mem h)
            exact ⟨this.st.le (Nat.le_succ _), this.hd⟩
          · exact asd d (List.mem_singleton.mp h)
        · have := hst d (cutL_mem h)
          exact ⟨this.st.le (Nat.le_succ _), this.hd⟩
      refine ⟨.ref R, rfl, q _ R _ (cutL ds none (some bnd) ++ [.tuple [.str "aside", x1]] ++ cutL ds (some ((n : Int) + 1)) none) h12.k h12.b ((h11.same nFp sG).b.ne nR) upd_same (dtAll_app (dtAll_app (dtAll_cut h12.dtp _ _) (.cons ?_ .nil)) (dtAll_cut h12.dtp _ _)) (fun d hd => (mm d hd).1) (fun _ d hd => (mm d hd).2) ?_⟩
      · exact ((h12.hf.dt (sall _ _ eu) (.cons (.str _) (.cons (dt_keepF (.of sall) hv1) .nil)) (by show 2 ≤ 5000; decide)) : Dt (SF p F) _ (.ref u) (.tuple [.str "aside", x1])).mono (fun _ x => x.1) fun _ _ _ e => e
      · rw [nn, cutL_from, ebn, cutL_to, List.length_append, List.length_append, List.length_singleton, List.length_drop, List.length_take]
        omega
    refine ⟨.int way, rfl, rfl, false, ne1 w4', iteF ?_⟩
    obtain ⟨xa, rfl, xa0⟩ := stA.tu
    obtain ⟨ta, ys, rfl, eta, hys⟩ := id hva.tupI
    refine ⟨.ref p, rfl, .ref r, rfl, .ref F, rfl, .int (at_ : Int), rfl, F, _, _, _, rfl, rfl, SqL.of h5.e, hat, p, r, ta, F, xa, m, ls, jns, rfl, h5.hf, net5, hnb, hva, xa0, stA.st, by omega, fun H6 v' d' k6 b6 hd' hs' hg' => ?_⟩
    have h6 := h5.keep nFp k6 b6
    refine ⟨.ref F, rfl, .int (at_ : Int), rfl, F, _, (at_ : Int), at_, rfl, rfl, h6.e, ix_natD xal, ?_⟩
    exact ⟨.ref F, rfl, done (h6.put nFH nFp (dtAll_set at_ h6.dt hd') fun d hd => by
        rcases List.mem_or_eq_of_mem_set hd with h | h
        · exact h6.nice d h
        · rw [h]; exact ⟨hs', fun g => hg' (g _ (List.mem_of_getElem? eda) _ rfl)⟩) (by rw [List.length_set]; omega)⟩
end
end Th
namespace Th
open PySem PySem.Spec PyProof.Rows L2
/-! marks bent, a history bent -/
structure Md (n : Nat) (d : PyData) : Prop where
  lay : d.canLay0 = true
  dep : d.depth ≤ n
theorem Md.le {m n : Nat} {d : PyData} (h : Md m d) (l : m ≤ n) : Md n d := ⟨h.lay, Nat.le_trans h.dep l⟩
theorem md_lst {n : Nat} {es : List PyData} (h : ∀ d ∈ es, Md n d) : Md (n + 1) (.list es) := ⟨layAll_of fun d hd => (h d hd).lay, Nat.succ_le_succ (depthAll_of fun d hd => (h d hd).dep)⟩
theorem md_tup {n : Nat} {es : List PyData} (h : ∀ d ∈ es, Md n d) : Md (n + 1) (.tuple es) := ⟨layAll_of fun d hd => (h d hd).lay, Nat.succ_le_succ (depthAll_of fun d hd => (h d hd).dep)⟩
theorem md_int (n : Nat) (i : Int) : Md n (.int i) := ⟨rfl, Nat.zero_le _⟩
theorem md_bl (n : Nat) (b : Bool) : Md n (.bool b) := ⟨rfl, Nat.zero_le _⟩
theorem md_none (n : Nat) : Md n .none := ⟨rfl, Nat.zero_le _⟩
theorem md_ints (n : Nat) (zs : List Int) : ∀ d ∈ zs.map PyData.int, Md n d := fun d hd => by
  obtain ⟨z, _, rfl⟩ := List.mem_map.mp hd
  exact md_int n z
theorem StG.md {m : Nat} {d : PyData} (h : StG m d) : Md 4 d := ⟨h.lay, h.dep⟩
theorem md_any : ∀ d ∈ anysD, Md 4 d := fun d hd => (stG_any (m := 0) d hd).1.md
theorem at_intL {zs : List Int} {j : Nat} {v : V} (h : (zs.map V.int)[j]? = some v) : ∃ y, zs[j]? = some y ∧ v = V.int y := by
  rw [List.getElem?_map] at h
  cases e : zs[j]? with
  | none => rw [e] at h; cases h
  | some y => rw [e] at h; exact ⟨y, rfl, (Option.some.inj h).symm⟩
section
variable {P : Program} {w : World} {K : PySem.W.Frag} {mg : Str → Option Value} {base : Heap} {k : Nat}
def sp_l_bent_marks : Sp := fun vs H Q _ => ∃ (p M : Addr) (zs : List Int), vs = [.ref p, .ref M] ∧ Bag H p ∧ M ≠ p ∧ H M = some (.lst (zs.map V.int)) ∧ zs.length ≤ 200 ∧
  ∀ H' F xs ds, Keep p H H' → Bag H' p → F ≠ p → H' F = some (.lst xs) → DtAll (SN p) H' xs ds → (∀ d ∈ ds, Md 4 d) → ds.length ≤ 201 → Q (.ref F) H'
set_option maxHeartbeats 16000000 in
theorem ok_l_bent_marks (T : Defs K mg) : FnOk P w K mg base CX0 (k + 3) T.a_l_bent_marks T.d_l_bent_marks ["_law_bag_here", "_law_marks"] sp_l_bent_marks := by
  have G_l_take : FnOk P w K mg base CX0 (k + 2) _ _ _ _ := ok_l_take (k := k + 1) T
  have G_l_any : FnOk P w K mg base CX0 (k + 2) _ _ _ _ := ok_l_any (k := k) T
  refine T.F_l_bent_marks.ok sc_l_bent_marks (fun vs H Q E h => ?_) (fun cdv A outer s H vs Q E hr h => ?_)
  · obtain ⟨p, M, zs, rfl, _⟩ := h
    rfl
  · obtain ⟨p, M, zs, rfl, b, Mp, eM, z200, q⟩ := h
    refine ⟨_, PSs.nox
(pss_cons (ps_par3 (i := 2) (j := 3) (l := 4) rfl sc_l_bent_marks.nd rfl rfl rfl (by decide) (by decide) (by decide) rfl rfl rfl (pa_cons (pe_call G_l_take hr (by rfl) T.g_l_take T.F_l_take.kp T.b_l_take .nil pass0 (pa_cons (pv 0) (pa_cons (pe_int) pa_nil))) (pa_cons (pe_call G_l_take hr (by rfl) T.g_l_take T.F_l_take.kp T.b_l_take .nil pass0 (pa_cons (pv 0) (pa_cons (pe_callB (call_max2 rfl) (by rfl) T.z_max (by decide +kernel) (pa_cons (pe_int) (pa_cons (pe_callB (r := rLenS K) call_lenS (by rfl) T.z_len (by decide +kernel) (pa_cons (pv 1) pa_nil)) pa_nil))) pa_nil))) (pa_cons (pe_op op_sub (pe_op op_mul (pe_int) (pe_call G_l_take hr (by rfl) T.g_l_take T.F_l_take.kp T.b_l_take .nil pass0 (pa_cons (pv 0) (pa_cons (pe_int) pa_nil)))) (pe_int)) pa_nil))) (by rfl))
    (pss_cons (ps_set (i := 5) sc_l_bent_marks.nd rfl (.inl rfl) (pe_callTy call_list_of (by rfl) T.z_list (by decide +kernel) (pa_cons (pv 1) pa_nil)))
    (pss_cons (ps_if (PW.pt (pw_or (pt_cmpR op_eq (pv 2) (pe_int) (nomark _)) (pw_or1 (pt_cmpR (r := rEqD K) (op_eqD hr.units) (pv 5) (pe_lst pa_nil) (nomark _)))))
      (pss_one (ps_expr (pe_bm PySem.F.plainAttrs_list PySem.F.slot_list_insert PySem.F.type_list_insert mt_insert (pv 5) (pa_cons (pe_call G_l_take hr (by rfl) T.g_l_take T.F_l_take.kp T.b_l_take .nil pass0 (pa_cons (pv 0) (pa_cons (pe_op op_add (pe_callB (r := rLenS K) call_lenS (by rfl) T.z_len (by decide +kernel) (pa_cons (pv 5) pa_nil)) (pe_int)) pa_nil))) (pa_cons (pe_ix (r := rIxT K) ix_tup (pe_tup (pa_cons (pe_int) (pa_cons (pe_non) (pa_cons (pe_bl) pa_nil)))) (pe_call G_l_take hr (by rfl) T.g_l_take T.F_l_take.kp T.b_l_take .nil pass0 (pa_cons (pv 0) (pa_cons (pe_int) pa_nil))) (fun _ _ => rfl)) pa_nil)))))
      (pss_one (ps_if (pt_cmpR op_eq (pv 2) (pe_int) (nomark _))
        (pss_one (ps_expr (pe_bm PySem.F.plainAttrs_list PySem.F.slot_list_pop PySem.F.type_list_pop mt_popAt (pv 5) (pa_cons (pv 3) pa_nil))))
        (pss_one (ps_if (pt_cmpR op_eq (pv 2) (pe_int) (nomark _))
          (pss_one (ps_asg (pe_call G_l_any hr (by rfl) T.g_l_any T.F_l_any.kp T.b_l_any .nil pass0 (pa_cons (pv 0) pa_nil)) (pg_sub (pv 5) (pv 3) set_list)))
          (pss_one (ps_if (pt_cmpR op_eq (pv 2) (pe_int) (nomark _))
            (pss_one (ps_setLc (i := 5) (own := [("_law_mark", 6)]) (g := gName 6) rfl sc_l_bent_marks.nd rfl rfl (sw_true rfl rfl rfl (by decide +kernel)) (pi_list (pv 5)) (blkOk_by (N := N_l_bent_marks) (sc := defScope s_l_bent_marks) (by decide +kernel)) (fun _ _ _ _ _ => (pg_name (i := 6) sc_l_bent_marks.nd rfl (.inl rfl))) (fun _ _ _ _ _ => pts_nil) (fun _ _ _ _ _ => (pe_op op_sub (pv 6) (pe_int)))))
            (pss_one (ps_if (pt_cmpR op_eq (pv 2) (pe_int) (nomark _))
              (pss_one (ps_asg (pe_callTy call_bool1 (by rfl) T.z_bool (by decide +kernel) (pa_cons (pe_op op_mod (pe_ix (r := rIxL K) ix_list (pv 5) (pv 3) (fun _ _ => rfl)) (pe_int)) pa_nil)) (pg_sub (pv 5) (pv 3) set_list)))
              (pss_one (ps_augS (pv 5) (pv 3) get_listN (pe_op op_mul (pv 4) (pe_op op_add (pe_int) (pe_op op_mul (pe_int) (pe_call G_l_take hr (by rfl) T.g_l_take T.F_l_take.kp T.b_l_take .nil pass0 (pa_cons (pv 0) (pa_cons (pe_int) pa_nil)))))) ip_add set_list)))))))))))
    (pss_one (ps_ret (pv 5))))))
      , ?_⟩
    have ne1 : ∀ {a b : Int}, a ≠ b → V.bl (decide (V.int a = V.int b)) = V.bl false := fun {a b} h => congrArg V.bl (decide_eq_false fun z => h (by injection z))
    refine ⟨.ref p, rfl, p, 7, rfl, b, by decide, by decide, fun H1 way k1 b1 w0 w1 => ?_⟩
    have eM1 := k1 _ _ Mp eM
    refine ⟨.ref p, rfl, .ref M, rfl, M, _, rfl, .inl (SqL.of eM1), 1, _, rfl, p, _, rfl, b1, ?_, ?_, fun H2 at_ k2 b2 a0 a1 => ?_⟩
    · rw [List.length_map]; split <;> omega
    · rw [List.length_map]; split <;> omega
    rw [List.length_map] at a1
    have eM2 := k2 _ _ Mp eM1
    refine ⟨.ref p, rfl, p, 2, rfl, b2, by decide, by decide, fun H3 st k3 b3 t0 t1 => ⟨2, st, rfl, rfl, .inl ⟨by decide, by decide⟩, _, 1, rfl, rfl, _, _, _, rfl, ?_⟩⟩
    obtain ⟨n, rfl⟩ : ∃ n : Nat, at_ = (n : Int) := ⟨at_.toNat, by omega⟩
    have k03 := (k1.trans k2).trans k3
    have eM3 := k03 _ _ Mp eM
    refine ⟨.ref M, rfl, M, _, rfl, .inl (SqL.of eM3), fun F nF => ?_⟩
    have nFH : H F = none := k03.free b nF b3
    have nFp : F ≠ p := b3.ne nF
    have sF := same_upd (o := .lst (zs.map V.int)) nF
    have h4 : FlR (Md 4) H (upd H3 F (.lst (zs.map V.int))) p F (zs.map V.int) (zs.map PyData.int) := ⟨k03.trans (.of sF), b3.keep sF, upd_same, dtAll_ints zs, md_ints 4 zs⟩
    generalize upd H3 F (.lst (zs.map V.int)) = H4 at h4 ⊢
    clear k1 k2 k3 eM1 eM2 eM3 b1 b2 sF k03
    have lV : (zs.map V.int).length = zs.length := List.length_map _
    have lD : (zs.map PyData.int).length = zs.length := List.length_map _
    have done : ∀ {Hx : Hp} {ys : List V} {es : List PyData}, FlR (Md 4) H Hx p F ys es → es.length ≤ 201 → Q (.ref F) Hx := fun {Hx ys es} h l => q Hx F ys es h.k h.b nFp h.e h.dtp h.nice l
    have shF : SeqAt.shaped (.list (zs.map PyData.int)) = true := shaped_lay (n := 4) (fun d hd => ⟨(md_ints 4 zs d hd).lay, (md_ints 4 zs d hd).dep⟩) (by decide)
    by_cases cc : way = 0 ∨ zs = []
    · by_cases c0 : way = 0
      case' pos =>
        subst c0
        refine ⟨_, rfl, rfl, _, rfl, iteT ?_⟩
        generalize H4 = H5 at h4 ⊢
      case' neg =>
        have e0 : zs = [] := cc.resolve_left c0
        refine ⟨_, rfl, rfl, _, rfl, ?_⟩
        rw [decide_eq_false (fun z => c0 (by injection z) : ¬ V.int way = V.int 0)]
        refine iteF ⟨.ref F, rfl, Nat.zero_le _, fun E nE => ?_⟩
        have sE := same_upd (o := .lst []) nE
        have h4 := h4.same nFp sE
        refine ⟨_, _, .lst (SqL.of h4.e) (DtAll.dp h4.dt), .lst (SqL.of upd_same) .nil, shF, by decide +kernel, _, rfl, ?_⟩
        rw [show PyData.eqv (.list (zs.map PyData.int)) (.list []) = true by rw [e0]; rfl]
        refine iteT ?_
        generalize upd H4 E (.lst []) = H5 at h4 ⊢
      all_goals
        refine ⟨.ref F, rfl, .inl ⟨rfl, _, SqL.of h4.e⟩, .ref p, rfl, .ref F, rfl, F, _, rfl, .inl (SqL.of h4.e), _, 1, rfl, rfl, p, ((zs.length + 1 : Nat) : Int), by rw [List.length_map]; rfl, h4.b, by omega, by omega, fun H6 to k6 b6 t0 t1 => ?_⟩
        obtain ⟨to, rfl⟩ : ∃ n : Nat, to = (n : Int) := ⟨to.toNat, by omega⟩
        have h6 := h4.keep nFp k6 b6
        refine ⟨by show 3 ≤ sizeLine; decide, fun u nu => ?_⟩
        have su := same_upd (o := .tup [.int 0, .non, .bl true]) nu
        have eu : (upd H6 u (.tup [.int 0, .non, .bl true])) u = some (.tup [.int 0, .non, .bl true]) := upd_same
        have h7 := h6.same nFp su
        generalize upd H6 u (.tup [.int 0, .non, .bl true]) = H7 at eu h7 ⊢
        refine ⟨.ref p, rfl, p, 3, rfl, h7.b, by decide, by decide, fun H8 c k8 b8 c0 c1 => ?_⟩
        have eu := k8 _ _ (h7.hf.tup eu).1 eu
        have h8 := h7.keep nFp k8 b8
        obtain ⟨vx, dx, hvx, hdx, hmx⟩ : ∃ vx dx, atI [V.int 0, .non, .bl true] c = some vx ∧ Dt (SF p F) H8 vx dx ∧ Md 4 dx := by
          have : c = 0 ∨ c = 1 ∨ c = 2 := by omega
          rcases this with rfl | rfl | rfl
          · exact ⟨_, .int 0, atI_nat (j := 0) rfl, .int _, md_int _ _⟩
          · exact ⟨_, .none, atI_nat (j := 1) rfl, .non, md_none _⟩
          · exact ⟨_, .bool true, atI_nat (j := 2) rfl, .bl _, md_bl _ _⟩
        refine ⟨u, _, c, vx, rfl, rfl, SqT.of eu, hvx, F, _, (to : Int), vx, rfl, rfl, h8.e, small5000 (by rw [lV]; omega), by omega, by omega, ?_⟩
        rw [Int.toNat_natCast]
        exact ⟨.ref F, rfl, done (h8.put nFH nFp (dtAll_ins to h8.dt hdx) fun d hd => by
          rcases ins_mem hd with h | h
          · exact h8.nice d h
          · rw [h]; exact hmx) (by rw [ins_len, lD]; omega)⟩
    have c0 : way ≠ 0 := fun z => cc (.inl z)
    have zs0 : zs ≠ [] := fun z => cc (.inr z)
    have zl0 : 0 < zs.length := List.length_pos_iff.mpr zs0
    have nl : n < zs.length := by split at a1 <;> omega
    refine ⟨_, rfl, rfl, _, rfl, ?_⟩
    rw [decide_eq_false (fun z => c0 (by injection z) : ¬ V.int way = V.int 0)]
    refine iteF ⟨.ref F, rfl, Nat.zero_le _, fun E nE => ?_⟩
    have sE := same_upd (o := .lst []) nE
    have h5 := h4.same nFp sE
    refine ⟨_, _, .lst (SqL.of h5.e) (DtAll.dp h5.dt), .lst (SqL.of upd_same) .nil, shF, by decide +kernel, _, rfl, ?_⟩
    rw [show PyData.eqv (.list (zs.map PyData.int)) (.list []) = false by
      cases zs with
      | nil => exact absurd rfl zs0
      | cons z zs => rfl]
    refine iteF ?_
    generalize upd H4 E (.lst []) = H5 at h5 ⊢
    clear h4
    obtain ⟨z, ez⟩ : ∃ z, zs[n]? = some z := ⟨_, List.getElem?_eq_getElem nl⟩
    have hnv : (zs.map V.int)[n]? = some (.int z) := by rw [List.getElem?_map, ez]; rfl
    have hat : atI (zs.map V.int) (n : Int) = some (.int z) := atI_nat hnv
    by_cases w1' : way = 1
    · refine ⟨.int way, rfl, rfl, true, by rw [w1']; rfl, iteT ⟨.ref F, rfl, .inl ⟨rfl, _, SqL.of h5.e⟩, .int (n : Int), rfl, F, _, (n : Int), n, _, rfl, rfl, h5.e, by omega, by omega, by rw [lV]; exact sqiD nl, hnv, ?_⟩⟩
      refine ⟨.ref F, rfl, done (h5.put nFH nFp (dtAll_erase n h5.dt) fun d hd => h5.nice d (List.mem_of_mem_eraseIdx hd)) ?_⟩
      rw [List.length_eraseIdx]
      split <;> omega
    refine ⟨.int way, rfl, rfl, false, ne1 w1', iteF ?_⟩
    by_cases w2' : way = 2
    · refine ⟨.int way, rfl, rfl, true, by rw [w2']; rfl, iteT ⟨.ref p, rfl, p, rfl, h5.b, fun H6 v d k6 b6 hd hm => ?_⟩⟩
      have hd := h5.hf.old hd
      have h6 := h5.keep nFp k6 b6
      refine ⟨.ref F, rfl, .int (n : Int), rfl, F, _, (n : Int), n, rfl, rfl, h6.e, by rw [lV]; exact ix_natD nl, ?_⟩
      exact ⟨.ref F, rfl, done (h6.put nFH nFp (dtAll_set n h6.dt hd) fun d hd => by
        rcases List.mem_or_eq_of_mem_set hd with h | h
        · exact h6.nice d h
        · rw [h]; exact md_any _ hm) (by rw [List.length_set, lD]; omega)⟩
    refine ⟨.int way, rfl, rfl, false, ne1 w2', iteF ?_⟩
    by_cases w3' : way = 3
    · refine ⟨.int way, rfl, rfl, true, by rw [w3']; rfl, iteT ?_⟩
      refine ⟨.ref F, rfl, F, rfl, ⟨_, SqL.of h5.e⟩, fun D nD => ?_⟩
      refine lc_it (walk_list (xs := zs.map V.int)) (fun j Hy => Same H5 Hy ∧ Hy D = some (.lst (((zs.map (· - 1)).take j).map V.int))) ⟨same_upd nD, upd_same⟩ (fun j Hy _ pv => SqL.of (pv.1 _ _ h5.e)) (fun j v Hy₀ Hy hj pv yy => ?_) (fun H6 pv => ?_)
      · obtain ⟨rfl, ey⟩ := yy
        obtain ⟨sy, eD⟩ := pv
        obtain ⟨y, ez', rfl⟩ := at_intL ey
        rw [lV] at hj
        refine ⟨rfl, yes_ ⟨.int y, rfl, _, 1, rfl, rfl, _, eD, ?_, same_set sy nD, ?_⟩⟩
        · rw [List.length_map, List.length_take, List.length_map]
          exact small5000 (by omega)
        · rw [upd_same, List.take_add_one, List.getElem?_map (l := zs), ez', List.map_append]
          rfl
      obtain ⟨s6, eD⟩ := pv
      rw [lV, List.take_of_length_le (by rw [List.length_map]; exact Nat.le_refl _)] at eD
      have h6 := h5.same nFp s6
      exact ⟨.ref D, rfl, q _ D _ ((zs.map (· - 1)).map PyData.int) h6.k h6.b (h5.b.ne nD) eD (dtAll_ints _) (md_ints 4 _) (by rw [List.length_map, List.length_map]; omega)⟩
    refine ⟨.int way, rfl, rfl, false, ne1 w3', iteF ?_⟩
    by_cases w4' : way = 4
    · refine ⟨.int way, rfl, rfl, true, by rw [w4']; rfl, iteT ?_⟩
      refine ⟨.ref F, rfl, .int (n : Int), rfl, F, _, (n : Int), .int z, rfl, rfl, SqL.of h5.e, hat, _, _, rfl, rfl, by show (0 : Int) < 2; decide, .inl ⟨_, rfl, .ref F, rfl, .int (n : Int), rfl, F, _, (n : Int), n, rfl, rfl, h5.e, by rw [lV]; exact ix_natD nl, ?_⟩⟩
      exact ⟨.ref F, rfl, done (h5.put nFH nFp (dtAll_set n h5.dt (.bl _)) fun d hd => by
        rcases List.mem_or_eq_of_mem_set hd with h | h
        · exact h5.nice d h
        · rw [h]; exact md_bl _ _) (by rw [List.length_set, lD]; omega)⟩
    refine ⟨.int way, rfl, rfl, false, ne1 w4', iteF ?_⟩
    refine ⟨.ref F, rfl, .int (n : Int), rfl, F, _, n, .int z, rfl, rfl, h5.e, hnv, .int (2 * st - 1), rfl, .ref p, rfl, p, 2, rfl, h5.b, by decide, by decide, fun H6 c k6 b6 c0 c1 => ⟨40, c, rfl, rfl, .inl ⟨by decide, by decide⟩, 1, _, rfl, rfl, 2 * st - 1, _, rfl, rfl, .inl ⟨by omega, by omega⟩, z, _, rfl, rfl, ?_⟩⟩
    have h6 := h5.keep nFp k6 b6
    refine ⟨F, _, (n : Int), n, rfl, rfl, h6.e, by rw [lV]; exact ix_natD nl, ?_⟩
    exact ⟨.ref F, rfl, done (h6.put nFH nFp (dtAll_set n h6.dt (.int _)) fun d hd => by
        rcases List.mem_or_eq_of_mem_set hd with h | h
        · exact h6.nice d h
        · rw [h]; exact md_int _ _) (by rw [List.length_set, lD]; omega)⟩
end
end Th
namespace Th
open PySem PySem.Spec PyProof.Rows L2
/-! a history bent -/
def isTnE : PyData → Bool
  | .tuple (_ :: _) => true
  | _ => false
theorem isTnE_eq (d : PyData) : (isiT d && !PyData.eqv d (.tuple [])) = isTnE d := by
  cases d with
  | tuple ds => cases ds <;> rfl
  | _ => rfl
section
variable {P : Program} {w : World} {K : PySem.W.Frag} {mg : Str → Option Value} {base : Heap} {k : Nat}
def sp_l_bent : Sp := fun vs H Q _ => ∃ (p r u D M : Addr) (xs : List V) (ds : List PyData) (zs : List Int) (ls : List Nm) (jns : List (Nm × List Nm)), vs = [.ref p, .ref r, .ref u] ∧ Bag H p ∧ NB H r ls jns ∧ NetBok ls jns ∧ H u = some (.tup [.ref D, .ref M]) ∧ D ≠ p ∧ H D = some (.lst xs) ∧ DtAll (SN p) H xs ds ∧ (∀ d ∈ ds, StpG 0 d) ∧ AllGen ds ∧ ds.length ≤ 100 ∧ M ≠ p ∧ H M = some (.lst (zs.map V.int)) ∧ zs.length ≤ 200 ∧
  ∀ H' v d, Keep p H H' → Bag H' p → Dt (SN p) H' v d → Md 8 d → Q v H'
set_option maxHeartbeats 32000000 in
theorem ok_l_bent (T : Defs K mg) : FnOk P w K mg base CX0 (k + 5) T.a_l_bent T.d_l_bent ["_law_bag_here", "_law_net_here", "_law_told_here"] sp_l_bent := by
  have G_l_take : FnOk P w K mg base CX0 (k + 4) _ _ _ _ := ok_l_take (k := k + 3) T
  have G_l_any : FnOk P w K mg base CX0 (k + 4) _ _ _ _ := ok_l_any (k := k + 2) T
  have G_l_bent_steps : FnOk P w K mg base CX0 (k + 4) _ _ _ _ := ok_l_bent_steps (k := k) T
  have G_l_bent_marks : FnOk P w K mg base CX0 (k + 4) _ _ _ _ := ok_l_bent_marks (k := k + 1) T
  refine T.F_l_bent.ok sc_l_bent (fun vs H Q E h => ?_) (fun cdv A outer s H vs Q E hr h => ?_)
  · obtain ⟨p, r, u, D, M, xs, ds, zs, ls, jns, rfl, _⟩ := h
    rfl
  · obtain ⟨p, r, u, D, M, xs, ds, zs, ls, jns, rfl, b, hnet, hnb, eu, Dp_, eD, hxs, hst, hgen, dl, Mp, eM, zl, q⟩ := h
    refine ⟨_, PSs.nox
(pss_cons (ps_set (i := 3) sc_l_bent.nd rfl (.inl rfl) (pe_call G_l_take hr (by rfl) T.g_l_take T.F_l_take.kp T.b_l_take .nil pass0 (pa_cons (pv 0) (pa_cons (pe_int) pa_nil))))
    (pss_cons (ps_par (i := 4) (j := 5) (by rfl) sc_l_bent.nd rfl rfl (by decide) rfl rfl (pa_cons (pe_callTy call_list_of (by rfl) T.z_list (by decide +kernel) (pa_cons (pe_ix (r := rIxT K) ix_tup (pv 2) (pe_int) (fun _ _ => rfl)) pa_nil)) (pa_cons (pe_callTy call_list_of (by rfl) T.z_list (by decide +kernel) (pa_cons (pe_ix (r := rIxT K) ix_tup (pv 2) (pe_int) (fun _ _ => rfl)) pa_nil)) pa_nil)) (by rfl))
    (pss_cons (ps_if (pt_cmpR op_eq (pv 3) (pe_int) (nomark _))
      (pss_cons (ps_set (i := 6) sc_l_bent.nd rfl (.inl rfl) (pe_tup (pa_cons (pe_lst (pa_cons (pv 4) (pa_cons (pv 5) pa_nil))) (pa_cons (pe_tup (pa_cons (pv 4) (pa_cons (pv 5) (pa_cons (pe_int) pa_nil)))) (pa_cons (pe_tup (pa_cons (pe_callTy call_tuple_of (by rfl) T.z_tuple (by decide +kernel) (pa_cons (pv 4) pa_nil)) (pa_cons (pv 5) pa_nil))) (pa_cons (pe_tup (pa_cons (pv 4) (pa_cons (pe_non) pa_nil))) (pa_cons (pe_call G_l_any hr (by rfl) T.g_l_any T.F_l_any.kp T.b_l_any .nil pass0 (pa_cons (pv 0) pa_nil)) pa_nil)))))))
      (pss_one (ps_ret (pe_ix (r := rIxT K) ix_tup (pv 6) (pe_call G_l_take hr (by rfl) T.g_l_take T.F_l_take.kp T.b_l_take .nil pass0 (pa_cons (pv 0) (pa_cons (pe_int) pa_nil))) (fun _ _ => rfl)))))
      pss_nil)
    (Evl.pss_cut (ps_if (pt_cmpR (r := rIn K false) op_in_seq (pv 3) (pe_tup (pa_cons (pe_int) (pa_cons (pe_int) (pa_cons (pe_int) (pa_cons (pe_int) pa_nil))))) (by rfl))
      (pss_one (ps_set (i := 4) sc_l_bent.nd rfl (.inl rfl) (pe_call G_l_bent_steps hr (by rfl) T.g_l_bent_steps T.F_l_bent_steps.kp T.b_l_bent_steps .nil pass0 (pa_cons (pv 0) (pa_cons (pv 1) (pa_cons (pv 4) pa_nil))))))
      pss_nil)
    (Evl.pss_cut (ps_if (pt_cmpR op_gt (pv 3) (pe_int) (nomark _))
      (pss_one (ps_set (i := 5) sc_l_bent.nd rfl (.inl rfl) (pe_call G_l_bent_marks hr (by rfl) T.g_l_bent_marks T.F_l_bent_marks.kp T.b_l_bent_marks .nil pass0 (pa_cons (pv 0) (pa_cons (pv 5) pa_nil)))))
      pss_nil)
    (Evl.pss_cut (ps_if (PW.pt (pw_and (pt_cmpR op_eq (pv 3) (pe_int) (nomark _)) (pw_and1 (pt_val (pe_callB (r := rAll K) (cr_all rfl) (by rfl) T.z_all (by decide +kernel) (pa_cons (pe_lc (own := [("_law_step", 7)]) (g := gName 7) rfl sc_l_bent.nd (pi_list (pv 4)) (blkOk_by (N := N_l_bent) (sc := defScope s_l_bent) (by decide +kernel)) (fun _ _ _ _ _ => (pg_name (i := 7) sc_l_bent.nd rfl (.inl rfl))) (fun _ _ _ _ _ => pts_nil) (fun _ _ _ _ _ => (pe_and (pe_callB (r := rIsi K) call_isi (by rfl) T.z_isinstance (by decide +kernel) (pa_cons (pv 7) (pa_cons (pe_bltn (v := .ty "tuple") (by rfl) T.z_tuple (by decide +kernel) rfl) pa_nil))) (pe_one (pe_cmpR (r := rNeD K) (op_neD hr.units) (pv 7) (pe_tup pa_nil) (nomark _)))))) pa_nil))))))
      (pss_one (ps_set (i := 4) sc_l_bent.nd rfl (.inl rfl) (pe_call G_l_bent_steps hr (by rfl) T.g_l_bent_steps T.F_l_bent_steps.kp T.b_l_bent_steps .nil pass0 (pa_cons (pv 0) (pa_cons (pv 1) (pa_cons (pv 4) pa_nil))))))
      pss_nil)
    (pss_one (ps_ret (pe_tup (pa_cons (pv 4) (pa_cons (pv 5) pa_nil)))))))))))
      , ?_⟩
    have up : u ≠ p := fun z => by
      obtain ⟨g, r', e, _⟩ := b
      rw [z, e] at eu
      cases eu
    have xl := hxs.len
    refine ⟨.ref p, rfl, p, 8, rfl, b, by decide, by decide, fun H1 way k1 b1 w0 w1 => ?_⟩
    have eu1 := k1 _ _ up eu
    have eD1 := k1 _ _ Dp_ eD
    have eM1 := k1 _ _ Mp eM
    refine ⟨.ref u, rfl, u, _, (0 : Int), .ref D, rfl, rfl, SqT.of eu1, rfl, D, _, rfl, .inl (SqL.of eD1), fun C nC => ?_⟩
    have sC := same_upd (o := .lst xs) nC
    have nCp := b1.ne nC
    have eC : (upd H1 C (.lst xs)) C = _ := upd_same
    generalize upd H1 C (.lst xs) = H2 at sC eC ⊢
    refine ⟨.ref u, rfl, u, _, (1 : Int), .ref M, rfl, rfl, SqT.of (sC _ _ eu1), rfl, M, _, rfl, .inl (SqL.of (sC _ _ eM1)), fun B nB => ?_⟩
    have sB := same_upd (o := .lst (zs.map V.int)) nB
    have nBp := (b1.keep sC).ne nB
    have eC := sB _ _ eC
    have eB : (upd H2 B (.lst (zs.map V.int))) B = _ := upd_same
    have s13 := sC.trans sB
    generalize upd H2 B (.lst (zs.map V.int)) = H3 at s13 eC eB ⊢
    have b3 := b1.keep s13
    have k3 := k1.trans (.of s13)
    have dC : DtAll (SN p) H3 xs ds := hxs.keepN k3
    have dB : DtAll (SN p) H3 (zs.map V.int) (zs.map PyData.int) := dtAll_ints zs
    have net3 := hnet.keep k3 b
    have lV : (zs.map V.int).length = zs.length := List.length_map _
    have hnet0 := hnet
    have b0 := b
    clear hnet hxs eu eD eM eu1 eD1 eM1 sC sB s13 k1 b1
    refine ⟨_, _, rfl, ?_⟩
    refine ⟨_, rfl, rfl, _, rfl, ?_⟩
    by_cases c0 : way = 0
    · rw [decide_eq_true (by rw [c0] : V.int way = V.int 0)]
      refine iteT ?_
      refine ⟨_, rfl, _, rfl, two_sz, fun A1 n1 => ?_⟩
      have s4 := same_upd (o := .lst [V.ref C, .ref B]) n1
      have m1 := b3.ne n1
      have e1 : (upd H3 A1 (.lst [V.ref C, .ref B])) A1 = _ := upd_same
      have dC := dC.keepN (.of s4)
      have eC := s4 _ _ eC
      have eB := s4 _ _ eB
      have b4 := b3.keep s4
      have k4 := k3.trans (.of s4)
      generalize upd H3 A1 (.lst [V.ref C, .ref B]) = H4 at dC eC eB e1 b4 k4 ⊢
      refine ⟨_, rfl, _, rfl, by show 3 ≤ sizeLine; decide, fun A2 n2 => ?_⟩
      have s5 := same_upd (o := .tup [V.ref C, .ref B, .int 0]) n2
      have m2 := b4.ne n2
      have e2 : (upd H4 A2 (.tup [V.ref C, .ref B, .int 0])) A2 = _ := upd_same
      have dC := dC.keepN (.of s5)
      have eC := s5 _ _ eC
      have eB := s5 _ _ eB
      have e1 := s5 _ _ e1
      have b5 := b4.keep s5
      have k5 := k4.trans (.of s5)
      generalize upd H4 A2 (.tup [V.ref C, .ref B, .int 0]) = H5 at dC eC eB e1 e2 b5 k5 ⊢
      refine ⟨_, rfl, C, _, rfl, .inl ⟨SqL.of eC, fun Z nZ => ?_⟩⟩
      have s6 := same_upd (o := .tup xs) nZ
      have mZ := b5.ne nZ
      have eZ : (upd H5 Z (.tup xs)) Z = _ := upd_same
      have dC := dC.keepN (.of s6)
      have eC := s6 _ _ eC
      have eB := s6 _ _ eB
      have e1 := s6 _ _ e1
      have e2 := s6 _ _ e2
      have b6 := b5.keep s6
      have k6 := k5.trans (.of s6)
      generalize upd H5 Z (.tup xs) = H6 at dC eC eB e1 e2 eZ b6 k6 ⊢
      refine ⟨_, rfl, two_sz, fun A3 n3 => ?_⟩
      have s7 := same_upd (o := .tup [V.ref Z, .ref B]) n3
      have m3 := b6.ne n3
      have e3 : (upd H6 A3 (.tup [V.ref Z, .ref B])) A3 = _ := upd_same
      have dC := dC.keepN (.of s7)
      have eC := s7 _ _ eC
      have eB := s7 _ _ eB
      have e1 := s7 _ _ e1
      have e2 := s7 _ _ e2
      have eZ := s7 _ _ eZ
      have b7 := b6.keep s7
      have k7 := k6.trans (.of s7)
      generalize upd H6 A3 (.tup [V.ref Z, .ref B]) = H7 at dC eC eB e1 e2 e3 eZ b7 k7 ⊢
      refine ⟨_, rfl, two_sz, fun A4 n4 => ?_⟩
      have s8 := same_upd (o := .tup [V.ref C, .non]) n4
      have m4 := b7.ne n4
      have e4 : (upd H7 A4 (.tup [V.ref C, .non])) A4 = _ := upd_same
      have dC := dC.keepN (.of s8)
      have eC := s8 _ _ eC
      have eB := s8 _ _ eB
      have e1 := s8 _ _ e1
      have e2 := s8 _ _ e2
      have e3 := s8 _ _ e3
      have eZ := s8 _ _ eZ
      have b8 := b7.keep s8
      have k8 := k7.trans (.of s8)
      generalize upd H7 A4 (.tup [V.ref C, .non]) = H8 at dC eC eB e1 e2 e3 e4 eZ b8 k8 ⊢
      refine ⟨.ref p, rfl, p, rfl, b8, fun H9 v d k9 b9 hd hm => ⟨by show 5 ≤ sizeLine; decide, fun Sx nS => ?_⟩⟩
      have s10 := same_upd (o := .tup [V.ref A1, .ref A2, .ref A3, .ref A4, v]) nS
      have mS := b9.ne nS
      have eS : (upd H9 Sx (.tup [V.ref A1, .ref A2, .ref A3, .ref A4, v])) Sx = _ := upd_same
      have k910 := k9.trans (.of s10)
      have b10 := b9.keep s10
      have hd : Dt (SN p) _ v d := Dt.keepN (.of s10) (hd.mono (fun _ x => x.1) fun _ _ _ e => e)
      generalize upd H9 Sx (.tup [V.ref A1, .ref A2, .ref A3, .ref A4, v]) = H10 at eS k910 b10 hd ⊢
      refine ⟨.ref Sx, rfl, .ref p, rfl, p, 5, rfl, b10, by decide, by decide, fun H11 c k11 b11 c0 c1 => ?_⟩
      have kk := k910.trans k11
      have hd := hd.keepN k11
      have eS := k11 _ _ mS eS
      have dC := dC.keepN kk
      have eC := kk _ _ nCp eC
      have eB := kk _ _ nBp eB
      have e1 := kk _ _ m1 e1
      have e2 := kk _ _ m2 e2
      have e3 := kk _ _ m3 e3
      have e4 := kk _ _ m4 e4
      have eZ := kk _ _ mZ eZ
      have tC : Dt (SN p) H11 (.ref C) (.list ds) := .lst nCp eC (by omega) dC
      have tB : Dt (SN p) H11 (.ref B) (.list (zs.map PyData.int)) := .lst nBp eB (by omega) (dtAll_ints _)
      have tZ : Dt (SN p) H11 (.ref Z) (.tuple ds) := .tup mZ eZ (by omega) dC
      have g1 : Md 7 (.list ds) := (md_lst fun d hd => (hst d hd).st.md).le (by decide)
      have g2 : Md 7 (.list (zs.map PyData.int)) := (md_lst (md_ints 4 zs)).le (by decide)
      have g3 : Md 7 (.tuple ds) := (md_tup fun d hd => (hst d hd).st.md).le (by decide)
      obtain ⟨v', d', hv', hd', hn'⟩ : ∃ v' d', atI [V.ref A1, .ref A2, .ref A3, .ref A4, v] c = some v' ∧ Dt (SN p) H11 v' d' ∧ Md 8 d' := by
        have : c = 0 ∨ c = 1 ∨ c = 2 ∨ c = 3 ∨ c = 4 := by omega
        rcases this with rfl | rfl | rfl | rfl | rfl
        · exact ⟨_, .list [.list ds, .list (zs.map PyData.int)], atI_nat (j := 0) rfl, .lst m1 e1 (by show 2 ≤ 5000; decide) (.cons tC (.cons tB .nil)), md_lst (fun d hd => by
            simp only [List.mem_cons, List.not_mem_nil, or_false] at hd
            rcases hd with rfl | rfl <;> assumption)⟩
        · exact ⟨_, .tuple [.list ds, .list (zs.map PyData.int), .int 0], atI_nat (j := 1) rfl, .tup m2 e2 (by show 3 ≤ 5000; decide) (.cons tC (.cons tB (.cons (.int _) .nil))), md_tup (fun d hd => by
            simp only [List.mem_cons, List.not_mem_nil, or_false] at hd
            rcases hd with rfl | rfl | rfl <;> first | assumption | exact md_int _ _)⟩
        · exact ⟨_, .tuple [.tuple ds, .list (zs.map PyData.int)], atI_nat (j := 2) rfl, .tup m3 e3 (by show 2 ≤ 5000; decide) (.cons tZ (.cons tB .nil)), md_tup (fun d hd => by
            simp only [List.mem_cons, List.not_mem_nil, or_false] at hd
            rcases hd with rfl | rfl <;> assumption)⟩
        · exact ⟨_, .tuple [.list ds, .none], atI_nat (j := 3) rfl, .tup m4 e4 (by show 2 ≤ 5000; decide) (.cons tC (.cons .non .nil)), md_tup (fun d hd => by
            simp only [List.mem_cons, List.not_mem_nil, or_false] at hd
            rcases hd with rfl | rfl <;> first | assumption | exact md_none _)⟩
        · exact ⟨v, d, atI_nat (j := 4) rfl, hd, (md_any d hm).le (by decide)⟩
      exact ⟨Sx, _, c, v', rfl, rfl, SqT.of eS, hv', q _ v' d' ((k8.trans k910).trans k11) b11 hd' hn'⟩
    rw [decide_eq_false (fun z => c0 (by injection z) : ¬ V.int way = V.int 0)]
    refine iteF ?_
    -- the steps
    refine ⟨fun σ Hz => ∃ (C : Addr) (xs : List V) (ds : List PyData), σ = [some (.ref p), some (.ref r), some (.ref u), some (.int way), some (.ref C), some (.ref B), none, none] ∧ Keep p H Hz ∧ Bag Hz p ∧ C ≠ p ∧ Hz C = some (.lst xs) ∧ DtAll (SN p) Hz xs ds ∧ (∀ d ∈ ds, StG 1 d ∧ HdG d) ∧ ds.length ≤ 101 ∧ Hz B = some (.lst (zs.map V.int)), ?_, fun σ H4 mid => ?_⟩
    · refine ⟨_, rfl, by show 4 ≤ sizeLine; decide, fun Z nZ => ?_⟩
      have sZ := same_upd (o := .tup [V.int 1, .int 2, .int 3, .int 7]) nZ
      refine ⟨Z, _, rfl, .inr (SqT.of upd_same), rfl, rfl, _, rfl, ite2 (fun _ => ?_) (fun _ => ?_)⟩
      · refine ⟨.ref p, rfl, .ref r, rfl, .ref C, rfl, p, r, C, xs, ds, 0, ls, jns, rfl, b3.keep sZ, net3.same sZ, hnb, nCp, sZ _ _ eC, dC.keepN (.of sZ), hst, by omega, by decide, fun H5 F ys es k5 b5 nF eF hy hsg hag yl => ?_⟩
        exact ⟨F, ys, es, rfl, (k3.trans (.of sZ)).trans k5, b5, nF, eF, hy, fun d hd => ⟨hsg d hd, hag hgen d hd⟩, by omega, k5 _ _ nBp (sZ _ _ eB)⟩
      · exact ⟨C, _, _, rfl, k3.trans (.of sZ), b3.keep sZ, nCp, sZ _ _ eC, dC.keepN (.of sZ), fun d hd => ⟨(hst d hd).st.le (by decide), (hst d hd).hd⟩, by omega, sZ _ _ eB⟩
    clear eC dC nCp hst hgen dl xl
    obtain ⟨C, xs, ds, rfl, k4, b4, nCp, eC, dC, hst, dl, eB4⟩ := mid
    -- the marks
    refine ⟨fun σ Hz => ∃ (B : Addr) (ys : List V) (es : List PyData), σ = [some (.ref p), some (.ref r), some (.ref u), some (.int way), some (.ref C), some (.ref B), none, none] ∧ Keep p H Hz ∧ Bag Hz p ∧ Hz C = some (.lst xs) ∧ DtAll (SN p) Hz xs ds ∧ B ≠ p ∧ Hz B = some (.lst ys) ∧ DtAll (SN p) Hz ys es ∧ (∀ d ∈ es, Md 4 d) ∧ es.length ≤ 201 ∧ NB Hz r ls jns, ?_, fun σ H5 mid => ?_⟩
    · have net4 : NB H4 r ls jns := hnet0.keep k4 b0
      refine ⟨_, rfl, _, 3, rfl, rfl, _, rfl, ite2 (fun _ => ?_) (fun _ => ?_)⟩
      · refine ⟨.ref p, rfl, .ref B, rfl, p, B, zs, rfl, b4, nBp, eB4, zl, fun H5 F ys es k5 b5 nF eF hy hm yl => ?_⟩
        exact ⟨F, ys, es, rfl, k4.trans k5, b5, k5 _ _ nCp eC, dC.keepN k5, nF, eF, hy, hm, yl, net4.keep k5 b4⟩
      · exact ⟨B, _, _, rfl, k4, b4, eC, dC, nBp, eB4, dtAll_ints zs, md_ints 4 zs, by rw [List.length_map]; omega, net4⟩
    obtain ⟨B, ys, es, rfl, k5, b5, eC, dC, nBp, eB, dB, hes, el, net5⟩ := mid
    clear b3 k3 b4 k4 net3
    have cl := dC.len
    have bl := dB.len
    -- a second time
    refine ⟨fun σ Hz => ∃ (C : Addr) (xs : List V) (ds : List PyData), σ = [some (.ref p), some (.ref r), some (.ref u), some (.int way), some (.ref C), some (.ref B), none, none] ∧ Keep p H Hz ∧ Bag Hz p ∧ C ≠ p ∧ Hz C = some (.lst xs) ∧ DtAll (SN p) Hz xs ds ∧ (∀ d ∈ ds, Md 4 d) ∧ ds.length ≤ 102 ∧ Hz B = some (.lst ys) ∧ DtAll (SN p) Hz ys es, ?_, fun σ H6 mid => ?_⟩
    · have stay : ∀ {Hx : Hp}, Same H5 Hx → ∃ (C' : Addr) (xs' : List V) (ds' : List PyData), [some (V.ref p), some (.ref r), some (.ref u), some (.int way), some (.ref C), some (.ref B), none, none] = [some (.ref p), some (.ref r), some (.ref u), some (.int way), some (.ref C'), some (.ref B), none, none] ∧ Keep p H Hx ∧ Bag Hx p ∧ C' ≠ p ∧ Hx C' = some (.lst xs') ∧ DtAll (SN p) Hx xs' ds' ∧ (∀ d ∈ ds', Md 4 d) ∧ ds'.length ≤ 102 ∧ Hx B = some (.lst ys) ∧ DtAll (SN p) Hx ys es := fun {Hx} s =>
        ⟨C, xs, ds, rfl, k5.trans (.of s), b5.keep s, nCp, s _ _ eC, dC.keepN (.of s), fun d hd => (hst d hd).1.md, by omega, s _ _ eB, dB.keepN (.of s)⟩
      refine ⟨_, rfl, rfl, _, rfl, ?_⟩
      by_cases c3 : way = 3
      · rw [decide_eq_true (by rw [c3] : V.int way = V.int 3)]
        refine iteT ⟨.ref C, rfl, C, rfl, ⟨_, SqL.of eC⟩, fun D nD => ?_⟩
        refine lc_it (walk_list (xs := xs)) (fun j Hy => Same H5 Hy ∧ Hy D = some (.lst (((ds.map isTnE).take j).map V.bl))) ⟨same_upd nD, upd_same⟩ (fun j Hy _ pv => SqL.of (pv.1 _ _ eC)) (fun j v Hy₀ Hy hj pv yy => ?_) (fun H6 pv => ?_)
        · obtain ⟨rfl, ey⟩ := yy
          obtain ⟨sy, eD⟩ := pv
          obtain ⟨d, ed, hd⟩ := dtAll_get dC ey
          have md := (hst d (List.mem_of_getElem? ed)).1.md
          have hdy := hd.keepN (.of sy)
          have fin : ∀ {Hz : Hp}, Same Hy Hz → ∃ acc, Hz D = some (.lst acc) ∧ acc.length < sizeLine ∧ Same H5 (upd Hz D (.lst (acc ++ [V.bl (isTnE d)]))) ∧ (upd Hz D (.lst (acc ++ [V.bl (isTnE d)]))) D = some (.lst (((ds.map isTnE).take (j + 1)).map V.bl)) := fun {Hz} s =>
            ⟨_, s _ _ eD, small5000 (by rw [List.length_map, List.length_take, List.length_map]; omega), same_set (sy.trans s) nD, by rw [upd_same, List.take_add_one, List.getElem?_map (l := ds), ed, List.map_append]; rfl⟩
          refine ⟨rfl, yes_ ⟨v, rfl, v, .ty "tuple", _, _, _, rfl, .ty _, hdy.ty, kit_T d, isiT d, rfl, ?_⟩⟩
          cases eT : isiT d with
          | false =>
            have e : isTnE d = false := by rw [← isTnE_eq, eT]; rfl
            rw [e] at fin
            exact iteF (fin (.refl _))
          | true =>
            refine iteT ⟨v, rfl, Nat.zero_le _, fun E nE => ?_⟩
            have sE := same_upd (o := .tup []) nE
            refine ⟨d, .tuple [], (hdy.keepN (.of sE)).dp, .tup (SqT.of upd_same) .nil, Bool.and_eq_true_iff.mpr ⟨md.lay, decide_eq_true (by have := md.dep; omega)⟩, by decide +kernel, ?_⟩
            have e : isTnE d = !PyData.eqv d (.tuple []) := by rw [← isTnE_eq, eT]; rfl
            rw [← e]
            exact fin sE
        obtain ⟨s6, eD⟩ := pv
        rw [List.take_of_length_le (by rw [List.length_map]; omega)] at eD
        refine ⟨D, _, rfl, SqL.of eD, _, rfl, ?_⟩
        cases cP : (ds.map isTnE).all id with
        | false => exact iteF (stay s6)
        | true =>
          have al : ∀ d ∈ ds, ∃ x, d = .tuple x ∧ x ≠ [] := fun d hd => by
            have h := List.all_eq_true.mp cP (isTnE d) (List.mem_map_of_mem hd)
            cases d with
            | tuple x =>
              cases x with
              | nil => cases h
              | cons y t => exact ⟨_, rfl, by simp⟩
            | _ => cases h
          refine iteT ⟨.ref p, rfl, .ref r, rfl, .ref C, rfl, p, r, C, xs, ds, 1, ls, jns, rfl, b5.keep s6, net5.same s6, hnb, nCp, s6 _ _ eC, dC.keepN (.of s6), fun d hd => ⟨(hst d hd).1, (hst d hd).2, al d hd⟩, by omega, by decide, fun H7 F ys' es' k7 b7 nF eF hy hsg hag yl => ?_⟩
          exact ⟨F, ys', es', rfl, (k5.trans (.of s6)).trans k7, b7, nF, eF, hy, fun d hd => (hsg d hd).md, by omega, k7 _ _ nBp (s6 _ _ eB), (dB.keepN (.of s6)).keepN k7⟩
      · rw [decide_eq_false (fun z => c3 (by injection z) : ¬ V.int way = V.int 3)]
        exact iteF (stay (.refl _))
    obtain ⟨C, xs, ds, rfl, k6, b6, nCp, eC, dC, hds, dl, eB, dB⟩ := mid
    have cl := dC.len
    refine ⟨_, rfl, _, rfl, two_sz, fun Z nZ => ?_⟩
    have sZ := same_upd (o := .tup [V.ref C, .ref B]) nZ
    exact q _ _ _ (k6.trans (.of sZ)) (b6.keep sZ) (.tup (b6.ne nZ) upd_same (by show 2 ≤ 5000; decide) (.cons (.lst nCp (sZ _ _ eC) (by omega) (dC.keepN (.of sZ))) (.cons (.lst nBp (sZ _ _ eB) (by omega) (dB.keepN (.of sZ))) .nil))) (md_tup (n := 7) fun d hd => by
      simp only [List.mem_cons, List.not_mem_nil, or_false] at hd
      rcases hd with rfl | rfl
      · exact (md_lst hds).le (by decide)
      · exact (md_lst hes).le (by decide))
end
end Th
namespace Th
open PySem PySem.Spec PyProof.Rows L2
/-! a thing copied -/
theorem dtAll_snoc {S : Addr → Prop} {H : Hp} {xs : List V} {ds : List PyData} {v : V} {d : PyData} (h : DtAll S H xs ds) (r : Dt S H v d) : DtAll S H (xs ++ [v]) (ds ++ [d]) := dtAll_app h (.cons r .nil)
section
variable {P : Program} {w : World} {K : PySem.W.Frag} {mg : Str → Option Value} {base : Heap}
abbrev SNew (H : Hp) : Addr → Prop := fun a => H a = none
def sp_l_copied (n : Nat) : Sp := fun vs H Q _ => ∃ (v : V) (d : PyData), vs = [v] ∧ Dt SA H v d ∧ d.depth ≤ n ∧ ∀ H' v', Same H H' → Dt (SNew H) H' v' d → Q v' H'
set_option maxHeartbeats 8000000 in
theorem copied_step (T : Defs K mg) (n m : Nat) (spI : Sp) (G_l_copied : FnOk P w K mg base CX0 n T.a_l_copied T.d_l_copied ["_law_thing"] spI)
    (hI : ∀ v d H Q E, Dt SA H v d → d.depth < m → (∀ H' v', Same H H' → Dt (SNew H) H' v' d → Q v' H') → spI [v] H Q E) : FnOk P w K mg base CX0 (n + 1) T.a_l_copied T.d_l_copied ["_law_thing"] (sp_l_copied m) := by
  refine T.F_l_copied.ok sc_l_copied (fun vs H Q E h => ?_) (fun cdv A outer s H vs Q E hr h => ?_)
  · obtain ⟨v, d, rfl, _⟩ := h
    rfl
  · obtain ⟨v, d, rfl, hd, dm, q⟩ := h
    have hd0 := hd
    cases hd with
    | @tup a xs ds _ ea len hx =>
      refine ⟨_, PSs.nox
(pss_cons (ps_if (pt_val (pe_callB call_isiT (by rfl) T.z_isinstance (by decide +kernel) (pa_cons (pv 0) (pa_cons (pe_tup (pa_cons (pe_bltn (v := .ty "list") (by rfl) T.z_list (by decide +kernel) rfl) (pa_cons (pe_bltn (v := .ty "tuple") (by rfl) T.z_tuple (by decide +kernel) rfl) pa_nil))) pa_nil))))
      (pss_cons (ps_setLc (i := 1) (own := [("_law_one", 2)]) (g := gName 2) rfl sc_l_copied.nd rfl rfl (sw_true rfl rfl rfl (by decide +kernel)) (pi_tup (pv 0)) (blkOk_by (N := N_l_copied) (sc := defScope s_l_copied) (by decide +kernel)) (fun _ _ _ _ _ => (pg_name (i := 2) sc_l_copied.nd rfl (.inl rfl))) (fun _ _ _ _ _ => pts_nil) (fun _ _ _ _ _ => (pe_call G_l_copied hr (by rfl) T.g_l_copied T.F_l_copied.kp T.b_l_copied .nil pass0 (pa_cons (pv 2) pa_nil))))
      (pss_one (ps_ret (pe_ifExp (pt_val (pe_callB (r := rIsi K) call_isi (by rfl) T.z_isinstance (by decide +kernel) (pa_cons (pv 0) (pa_cons (pe_bltn (v := .ty "list") (by rfl) T.z_list (by decide +kernel) rfl) pa_nil)))) (pv 1) (pe_callTy call_tuple_of (by rfl) T.z_tuple (by decide +kernel) (pa_cons (pv 1) pa_nil))))))
      pss_nil)
    (pss_one (ps_ret (pv 0))))
        , ?_⟩
      have xl := hx.len
      have dm : PyData.depthAll ds + 1 ≤ m := dm
      refine ⟨.ref a, rfl, two_sz, fun t nt => ⟨.ref a, t, [.ty "list", .ty "tuple"], _, _, _, rfl, upd_same, .cons (.ty _) (.cons (.ty _) .nil), (hd0.same (same_upd nt)).ty, kit_seq hd0, _, rfl, iteT ?_⟩⟩
      have s1 := same_upd (o := .tup [V.ty "list", .ty "tuple"]) nt
      generalize upd H t (.tup [V.ty "list", .ty "tuple"]) = H1 at s1 ⊢
      have ea1 := s1 _ _ ea
      refine ⟨.ref a, rfl, a, rfl, ⟨_, SqT.of ea1⟩, fun D nD => ?_⟩
      refine lc_it (walk_tup (xs := xs)) (fun j Hy => ∃ ys : List V, Same H1 Hy ∧ Hy D = some (.lst ys) ∧ DtAll (fun b => H b = none ∧ b ≠ D) Hy ys (ds.take j)) ⟨[], same_upd nD, upd_same, .nil⟩ (fun j Hy _ pv => by obtain ⟨_, sy, _⟩ := pv; exact SqT.of (sy _ _ ea1)) (fun j v Hy₀ Hy hj pv yy => ?_) (fun H2 pv => ?_)
      · obtain ⟨rfl, ey⟩ := yy
        obtain ⟨ys, sy, eD, hys⟩ := pv
        obtain ⟨d', ed', hd'⟩ := dtAll_get hx ey
        have yl := hys.len
        rw [List.length_take] at yl
        refine ⟨rfl, yes_ ⟨v, rfl, hI _ _ _ _ _ (hd'.same (s1.trans sy)) (by have := depth_mem ed'; omega) fun H3 v' s3 hv' => ?_⟩⟩
        refine ⟨_, s3 _ _ eD, small5000 (by omega), ys ++ [v'], same_set (sy.trans s3) nD, upd_same, ?_⟩
        rw [List.take_add_one, ed']
        have old : DtAll (fun b => H b = none ∧ b ≠ D) H3 ys (ds.take j) := hys.mono (fun _ x => x) fun b o _ e => s3 b o e
        have new : Dt (fun b => H b = none ∧ b ≠ D) H3 v' d' := hv'.mono (fun b hb => ⟨up0 (s1.trans sy) hb, fun z => by rw [z] at hb; rw [SNew, eD] at hb; cases hb⟩) fun _ _ _ e => e
        exact (dtAll_snoc old new).mono (fun _ x => x) fun b o hb e => by rw [upd_ne hb.2]; exact e
      obtain ⟨ys, s2, eD, hys⟩ := pv
      rw [xl, List.take_length] at hys
      have yl := hys.len
      have s12 := s1.trans s2
      refine ⟨.ref a, rfl, .ref a, .ty "list", _, _, _, rfl, .ty "list", .base (.tup (s12 _ _ ea)), kit_ty (a := "tuple") (b := "list") (r := false) (by decide +kernel), _, rfl, iteF ⟨.ref D, rfl, D, _, rfl, .inl ⟨SqL.of eD, fun l nl => ?_⟩⟩⟩
      refine q _ _ (s12.trans (same_upd nl)) (.tup (up0 s12 nl) upd_same (by omega) (hys.mono (fun _ x => x.1) fun b o hb e => same_upd nl b o e))
    | @lst a xs ds _ ea len hx =>
      refine ⟨_, PSs.nox
(pss_cons (ps_if (pt_val (pe_callB call_isiT (by rfl) T.z_isinstance (by decide +kernel) (pa_cons (pv 0) (pa_cons (pe_tup (pa_cons (pe_bltn (v := .ty "list") (by rfl) T.z_list (by decide +kernel) rfl) (pa_cons (pe_bltn (v := .ty "tuple") (by rfl) T.z_tuple (by decide +kernel) rfl) pa_nil))) pa_nil))))
      (pss_cons (ps_setLc (i := 1) (own := [("_law_one", 2)]) (g := gName 2) rfl sc_l_copied.nd rfl rfl (sw_true rfl rfl rfl (by decide +kernel)) (pi_list (pv 0)) (blkOk_by (N := N_l_copied) (sc := defScope s_l_copied) (by decide +kernel)) (fun _ _ _ _ _ => (pg_name (i := 2) sc_l_copied.nd rfl (.inl rfl))) (fun _ _ _ _ _ => pts_nil) (fun _ _ _ _ _ => (pe_call G_l_copied hr (by rfl) T.g_l_copied T.F_l_copied.kp T.b_l_copied .nil pass0 (pa_cons (pv 2) pa_nil))))
      (pss_one (ps_ret (pe_ifExp (pt_val (pe_callB (r := rIsi K) call_isi (by rfl) T.z_isinstance (by decide +kernel) (pa_cons (pv 0) (pa_cons (pe_bltn (v := .ty "list") (by rfl) T.z_list (by decide +kernel) rfl) pa_nil)))) (pv 1) (pe_callTy call_tuple_of (by rfl) T.z_tuple (by decide +kernel) (pa_cons (pv 1) pa_nil))))))
      pss_nil)
    (pss_one (ps_ret (pv 0))))
        , ?_⟩
      have xl := hx.len
      have dm : PyData.depthAll ds + 1 ≤ m := dm
      refine ⟨.ref a, rfl, two_sz, fun t nt => ⟨.ref a, t, [.ty "list", .ty "tuple"], _, _, _, rfl, upd_same, .cons (.ty _) (.cons (.ty _) .nil), (hd0.same (same_upd nt)).ty, kit_seq hd0, _, rfl, iteT ?_⟩⟩
      have s1 := same_upd (o := .tup [V.ty "list", .ty "tuple"]) nt
      generalize upd H t (.tup [V.ty "list", .ty "tuple"]) = H1 at s1 ⊢
      have ea1 := s1 _ _ ea
      refine ⟨.ref a, rfl, a, rfl, ⟨_, SqL.of ea1⟩, fun D nD => ?_⟩
      refine lc_it (walk_list (xs := xs)) (fun j Hy => ∃ ys : List V, Same H1 Hy ∧ Hy D = some (.lst ys) ∧ DtAll (fun b => H b = none ∧ b ≠ D) Hy ys (ds.take j)) ⟨[], same_upd nD, upd_same, .nil⟩ (fun j Hy _ pv => by obtain ⟨_, sy, _⟩ := pv; exact SqL.of (sy _ _ ea1)) (fun j v Hy₀ Hy hj pv yy => ?_) (fun H2 pv => ?_)
      · obtain ⟨rfl, ey⟩ := yy
        obtain ⟨ys, sy, eD, hys⟩ := pv
        obtain ⟨d', ed', hd'⟩ := dtAll_get hx ey
        have yl := hys.len
        rw [List.length_take] at yl
        refine ⟨rfl, yes_ ⟨v, rfl, hI _ _ _ _ _ (hd'.same (s1.trans sy)) (by have := depth_mem ed'; omega) fun H3 v' s3 hv' => ?_⟩⟩
        refine ⟨_, s3 _ _ eD, small5000 (by omega), ys ++ [v'], same_set (sy.trans s3) nD, upd_same, ?_⟩
        rw [List.take_add_one, ed']
        have old : DtAll (fun b => H b = none ∧ b ≠ D) H3 ys (ds.take j) := hys.mono (fun _ x => x) fun b o _ e => s3 b o e
        have new : Dt (fun b => H b = none ∧ b ≠ D) H3 v' d' := hv'.mono (fun b hb => ⟨up0 (s1.trans sy) hb, fun z => by rw [z] at hb; rw [SNew, eD] at hb; cases hb⟩) fun _ _ _ e => e
        exact (dtAll_snoc old new).mono (fun _ x => x) fun b o hb e => by rw [upd_ne hb.2]; exact e
      obtain ⟨ys, s2, eD, hys⟩ := pv
      rw [xl, List.take_length] at hys
      have yl := hys.len
      have s12 := s1.trans s2
      refine ⟨.ref a, rfl, .ref a, .ty "list", _, _, _, rfl, .ty "list", .base (.lst (s12 _ _ ea)), kit_ty (a := "list") (b := "list") (r := true) (by decide +kernel), _, rfl, iteT ⟨.ref D, rfl, ?_⟩⟩
      exact q _ _ s12 (.lst (up0 s1 nD) eD (by omega) (hys.mono (fun _ x => x.1) fun _ _ _ e => e))
    | _ =>
      refine ⟨_, PSs.nox
(pss_cons (ps_if (pt_val (pe_callB call_isiT (by rfl) T.z_isinstance (by decide +kernel) (pa_cons (pv 0) (pa_cons (pe_tup (pa_cons (pe_bltn (v := .ty "list") (by rfl) T.z_list (by decide +kernel) rfl) (pa_cons (pe_bltn (v := .ty "tuple") (by rfl) T.z_tuple (by decide +kernel) rfl) pa_nil))) pa_nil))))
      (pss_cons (ps_setLc (i := 1) (own := [("_law_one", 2)]) (g := gName 2) rfl sc_l_copied.nd rfl rfl (sw_true rfl rfl rfl (by decide +kernel)) (pi_list (pv 0)) (blkOk_by (N := N_l_copied) (sc := defScope s_l_copied) (by decide +kernel)) (fun _ _ _ _ _ => (pg_name (i := 2) sc_l_copied.nd rfl (.inl rfl))) (fun _ _ _ _ _ => pts_nil) (fun _ _ _ _ _ => (pe_call G_l_copied hr (by rfl) T.g_l_copied T.F_l_copied.kp T.b_l_copied .nil pass0 (pa_cons (pv 2) pa_nil))))
      (pss_one (ps_ret (pe_ifExp (pt_val (pe_callB (r := rIsi K) call_isi (by rfl) T.z_isinstance (by decide +kernel) (pa_cons (pv 0) (pa_cons (pe_bltn (v := .ty "list") (by rfl) T.z_list (by decide +kernel) rfl) pa_nil)))) (pv 1) (pe_callTy call_tuple_of (by rfl) T.z_tuple (by decide +kernel) (pa_cons (pv 1) pa_nil))))))
      pss_nil)
    (pss_one (ps_ret (pv 0))))
        , ?_⟩
      refine ⟨_, rfl, two_sz, fun t nt => ⟨_, t, [.ty "list", .ty "tuple"], _, _, _, rfl, upd_same, .cons (.ty _) (.cons (.ty _) .nil), (hd0.same (same_upd nt)).ty, kit_seq hd0, _, rfl, iteF ⟨_, rfl, ?_⟩⟩⟩
      refine q _ _ (same_upd nt) ?_
      first | exact .non | exact .bl _ | exact .int _ | exact .str _
theorem ok_l_copied (T : Defs K mg) : ∀ n : Nat, FnOk P w K mg base CX0 (n + 1) T.a_l_copied T.d_l_copied ["_law_thing"] (sp_l_copied n)
  | 0 => copied_step T 0 0 (fun _ _ _ _ => False) ⟨fun _ _ _ _ h => h.elim, fun _ _ _ _ _ _ _ _ _ _ _ _ _ h => h.elim⟩ (fun _ _ _ _ _ _ h => absurd h (Nat.not_lt_zero _))
  | n + 1 => copied_step T (n + 1) (n + 1) (sp_l_copied n) (ok_l_copied T n) fun v d H Q E hd dd h => ⟨v, d, rfl, hd, by omega, h⟩
end
end Th
namespace Th
open PySem PySem.Spec PyProof.Rows L2
/-! the law of k38 -/
theorem roadF_len {jns : List (Nm × List Nm)} {ls : List Nm} (hok : LJok ls jns) (jnd : (jns.map (·.1)).Nodup) {rr : Rt} (hf : RtFit jns rr) (x : Nm) : (roadF jns rr x).length ≤ 9 := by
  cases e : lackF jns rr x with
  | none => have := lenR_none e; unfold lenR at this; omega
  | some n => have := lenR_some hok jnd hf e; have := lackF_lt hok jnd hf e; unfold lenR at *; omega
theorem stepsM_gap {jns : List (Nm × List Nm)} {ls : List Nm} (hok : LJok ls jns) (jnd : (jns.map (·.1)).Nodup) : ∀ (rs : List Rt) (x : Nm), (∀ r ∈ rs, RtFit jns r) → ∀ s ∈ stepsM jns rs x, ∀ rd, s = .gap rd → rd.length ≤ 9
  | [], _, _, s, h => (by cases h)
  | r :: rs, x, hr, s, h => by
    have hf := hr r List.mem_cons_self
    have ih := fun y => stepsM_gap hok jnd rs y (fun r h => hr r (List.mem_cons_of_mem _ h))
    intro rd hrd
    cases e : lackF jns r x with
    | none =>
      rw [stepsM_none e] at h
      rcases List.mem_cons.mp h with c | c
      · rw [c] at hrd; cases hrd
      · exact ih x s c rd hrd
    | some n =>
      rw [stepsM_some e] at h
      split at h
      · rcases List.mem_cons.mp h with c | c
        · rw [c] at hrd; cases hrd
        · exact ih x s c rd hrd
      · split at h
        · rcases List.mem_cons.mp h with c | c
          · rw [c] at hrd
            injection hrd with hrd
            rw [← hrd]
            exact roadF_len hok jnd hf x
          · rcases List.mem_cons.mp c with c | c
            · rw [c] at hrd; cases hrd
            · exact ih _ s c rd hrd
        · rcases List.mem_cons.mp h with c | c
          · rw [c] at hrd; cases hrd
          · exact ih _ s c rd hrd
theorem bag_refs {H : Hp} {p a : Addr} {ts : List Addr} (b : Bag H p) (e : H a = some (.lst (ts.map V.ref))) : a ≠ p := fun z => by
  obtain ⟨g, r, eb, _⟩ := b
  rw [z, eb] at e
  match ts, e with
  | [], e => cases e
  | t :: ts, e => injection e with e; injection e with e; injection e with e _; cases e
theorem stpG_stp {s : Stp} (h : StOk s) (g : ∀ rd, s = .gap rd → rd.length ≤ 9) : StpG 0 (stpD s) ∧ ∀ x, stpD s = .tuple x → GenG x := by
  cases s with
  | aside n =>
    refine ⟨⟨stG_tup (fun e he => ?_) (by show 2 ≤ 4; decide), hdG_len (by show 2 ≤ 2; decide), ⟨_, rfl, by simp⟩⟩, fun x e => ?_⟩
    · rcases List.mem_cons.mp he with h | h
      · rw [h]; exact elG_str (by decide +kernel)
      · rw [List.mem_singleton.mp h]; exact elG_int _ _
    · injection e with e
      subst e
      refine ⟨by show 2 ≤ 2; decide, fun x e => ?_⟩
      injection e with e1 _
      injection e1 with e2
      exact absurd e2 (by decide +kernel)
  | gap rd =>
    refine ⟨⟨stG_tup (fun e he => ?_) (by show 2 ≤ 4; decide), hdG_len (by show 2 ≤ 2; decide), ⟨_, rfl, by simp⟩⟩, fun x e => ?_⟩
    · rcases List.mem_cons.mp he with h1 | h1
      · rw [h1]; exact elG_str (by decide +kernel)
      · rw [List.mem_singleton.mp h1]
        refine ⟨layAll_nms h, ?_, fun y e => ?_⟩
        · show PyData.depthAll ((rd.map SX.S).map PyData.str) + 1 ≤ 3
          rw [depthAll_nms]
          decide
        · injection e with e
          have := g rd rfl
          rw [← e, List.length_map, List.length_map]
          omega
    · injection e with e
      subst e
      refine ⟨by show 2 ≤ 2; decide, fun x e => ?_⟩
      injection e with e1 _
      injection e1 with e2
      exact absurd e2 (by decide +kernel)
  | held n l o =>
    refine ⟨⟨stG_tup (fun e he => ?_) (by show 4 ≤ 4; decide), hdG_len (by show 2 ≤ 4; decide), ⟨_, rfl, by simp⟩⟩, fun x e => ?_⟩
    · simp only [List.mem_cons, List.not_mem_nil, or_false] at he
      rcases he with rfl | rfl | rfl | rfl
      · exact elG_str (by decide +kernel)
      · exact elG_int _ _
      · exact elG_str (nm_ok h.1)
      · exact elG_str (nm_ok h.2)
    · injection e with e
      subst e
      refine ⟨by show 2 ≤ 4; decide, fun x e => ?_⟩
      injection e with _ e2
      subst e2
      show 2 ≤ 3
      decide
theorem bag_tup {H : Hp} {p a : Addr} {xs : List V} (b : Bag H p) (e : H a = some (.tup xs)) : a ≠ p := fun z => by
  obtain ⟨g, r, eb, _⟩ := b
  rw [z, eb] at e
  cases e
theorem dtS_nms {S : Addr → Prop} {H : Hp} : ∀ zs : List Nm, DtAll S H (zs.map nS) ((zs.map SX.S).map PyData.str)
  | [] => .nil
  | z :: zs => .cons (.str _) (dtS_nms zs)
theorem dtN_stp {H : Hp} {p a : Addr} {s : Stp} (b : Bag H p) (h : StpA H a s) (hg : ∀ rd, s = .gap rd → rd.length ≤ 9) : Dt (SN p) H (.ref a) (stpD s) := by
  cases s with
  | aside n => exact .tup (bag_tup b h) h (by show 2 ≤ 5000; decide) (.cons (.str _) (.cons (.int _) .nil))
  | gap rd =>
    obtain ⟨u, h1, h2⟩ := h
    have := hg rd rfl
    exact .tup (bag_tup b h1) h1 (by show 2 ≤ 5000; decide) (.cons (.str _) (.cons (.tup (bag_tup b h2) h2 (by rw [List.length_map]; omega) (dtS_nms rd)) .nil))
  | held n l o => exact .tup (bag_tup b h) h (by show 4 ≤ 5000; decide) (.cons (.str _) (.cons (.int _) (.cons (.str _) (.cons (.str _) .nil))))
theorem dtAllN_stp {H : Hp} {p : Addr} (b : Bag H p) : ∀ {fa : List Addr} {ss : List Stp}, Paired (StpA H) fa ss → (∀ s ∈ ss, ∀ rd, s = .gap rd → rd.length ≤ 9) → DtAll (SN p) H (fa.map V.ref) (ss.map stpD)
  | _, _, .nil, _ => .nil
  | _, _, .cons h t, g => .cons (dtN_stp b h (g _ List.mem_cons_self)) (dtAllN_stp b t fun s hs => g s (List.mem_cons_of_mem _ hs))
section
variable {w : World} {K : PySem.W.Frag} {mg : Str → Option Value} {base : Heap}
def sp_law (T : Defs K mg) : Sp := fun vs H Q _ => ∃ (a : Addr) (ns : List Int), vs = [.ref a] ∧ SqL K H a (ns.map V.int) ∧ ns.length ≤ 63 ∧ TabI T H ∧ ∀ H', Q (.bl true) H'
set_option maxHeartbeats 64000000 in
theorem ok_law {f : Addr} {fd : FuncData} (F : FnP K "law" s_law f fd) (T : Defs K mg) (TB : LamX.TabB base mg T.cc_in_order T.tp_in_order) : FnOk PP w K mg base CX0 10 f fd ["_law_script"] (sp_law T) := by
  have G_l_bag : FnOk PP w K mg base CX0 9 _ _ _ _ := ok_l_bag T
  have G_l_take : FnOk PP w K mg base CX0 9 _ _ _ _ := ok_l_take (k := 8) T
  have G_l_net : FnOk PP w K mg base CX0 9 _ _ _ _ := ok_l_net (k := 6) T
  have G_l_returns : FnOk PP w K mg base CX0 9 _ _ _ _ := ok_l_returns (k := 7) T
  have G_l_ordered : FnOk PP w K mg base CX0 9 _ _ _ _ := ok_l_ordered (k := 8) T
  have G_l_bent : FnOk PP w K mg base CX0 9 _ _ _ _ := ok_l_bent (k := 4) T
  have G_l_copied : FnOk PP w K mg base CX0 9 _ _ _ _ := ok_l_copied T 8
  have G_l_where : FnOk PP w K mg base CX0 9 _ _ _ _ := ok_l_where (k := 4) T
  have G_history : FnOk PP w K mg base CX0 9 _ _ _ _ := (ok_history T TB).mono (by decide)
  have G_l_told : FnOk PP w K mg base CX0 9 _ _ _ _ := ok_l_told T TB
  refine F.ok sc_law (fun vs H Q E h => ?_) (fun cdv A outer s H vs Q E hr h => ?_)
  · obtain ⟨a, ns, rfl, _⟩ := h
    rfl
  · obtain ⟨a, ns, rfl, hS, hlen, hT, q⟩ := h
    refine ⟨_, PSs.nox
(pss_cons (ps_for PassesOwn.never rfl (pi_range1 (by rfl) T.z_range (pa_cons (pe_callB (call_max2 rfl) (by rfl) T.z_max (by decide +kernel) (pa_cons (pe_int) (pa_cons (pe_callB (call_min2 rfl) (by rfl) T.z_min (by decide +kernel) (pa_cons (pe_int) (pa_cons (pe_op op_fdiv (pe_callB (r := rLenS K) call_lenS (by rfl) T.z_len (by decide +kernel) (pa_cons (pv 0) pa_nil)) (pe_int)) pa_nil))) pa_nil))) pa_nil)) (pg_name (i := 1) sc_law.nd rfl (.inl rfl))
      (pss_cons (ps_par (i := 2) (j := 3) (by rfl) sc_law.nd rfl rfl (by decide) rfl rfl (pa_cons (pe_call G_l_bag hr (by rfl) T.g_l_bag T.F_l_bag.kp T.b_l_bag .nil pass0 (pa_cons (pv 0) (pa_cons (pe_op op_mul (pe_int) (pv 1)) pa_nil))) (pa_cons (pe_call G_l_bag hr (by rfl) T.g_l_bag T.F_l_bag.kp T.b_l_bag .nil pass0 (pa_cons (pv 0) (pa_cons (pe_op op_add (pe_op op_mul (pe_int) (pv 1)) (pe_int)) pa_nil))) pa_nil)) (by rfl))
      (pss_cons (ps_set (i := 4) sc_law.nd rfl (.inl rfl) (pe_call G_l_net hr (by rfl) T.g_l_net T.F_l_net.kp T.b_l_net .nil pass0 (pa_cons (pv 2) pa_nil)))
      (pss_cons (ps_set (i := 5) sc_law.nd rfl (.inl rfl) (pe_ix (r := rIxT K) ix_tup (pe_ix (r := rIxT K) ix_tup (pv 4) (pe_int) (fun _ _ => rfl)) (pe_call G_l_take hr (by rfl) T.g_l_take T.F_l_take.kp T.b_l_take .nil pass0 (pa_cons (pv 3) (pa_cons (pe_callB (r := rLenS K) call_lenS (by rfl) T.z_len (by decide +kernel) (pa_cons (pe_ix (r := rIxT K) ix_tup (pv 4) (pe_int) (fun _ _ => rfl)) pa_nil)) pa_nil))) (fun _ _ => rfl)))
      (pss_cons (ps_set (i := 6) sc_law.nd rfl (.inl rfl) (pe_call G_l_returns hr (by rfl) T.g_l_returns T.F_l_returns.kp T.b_l_returns .nil pass0 (pa_cons (pv 3) (pa_cons (pv 4) (pa_cons (pv 5) (pa_cons (pe_ix (r := rIxT K) ix_tup (pe_tup (pa_cons (pe_int) (pa_cons (pe_int) (pa_cons (pe_int) (pa_cons (pe_int) (pa_cons (pe_int) pa_nil)))))) (pe_call G_l_take hr (by rfl) T.g_l_take T.F_l_take.kp T.b_l_take .nil pass0 (pa_cons (pv 2) (pa_cons (pe_int) pa_nil))) (fun _ _ => rfl)) pa_nil))))))
      (pss_cons (ps_set (i := 7) sc_law.nd rfl (.inl rfl) (pe_call G_history hr (by rfl) T.g_history T.F_history.kp T.b_history .nil pass0 (pa_cons (pv 4) (pa_cons (pv 5) (pa_cons (pe_callTy call_list_of (by rfl) T.z_list (by decide +kernel) (pa_cons (pv 6) pa_nil)) pa_nil)))))
      (pss_cons (ps_set (i := 8) sc_law.nd rfl (.inl rfl) (pe_call G_l_bent hr (by rfl) T.g_l_bent T.F_l_bent.kp T.b_l_bent .nil pass0 (pa_cons (pv 2) (pa_cons (pv 4) (pa_cons (pv 7) pa_nil)))))
      (pss_cons (ps_set (i := 9) sc_law.nd rfl (.inl rfl) (pe_call G_l_copied hr (by rfl) T.g_l_copied T.F_l_copied.kp T.b_l_copied .nil pass0 (pa_cons (pv 8) pa_nil)))
      (pss_cons (ps_set (i := 10) sc_law.nd rfl (.inl rfl) (pe_call G_l_where hr (by rfl) T.g_l_where T.F_l_where.kp T.b_l_where .nil pass0 (pa_cons (pv 4) (pa_cons (pv 5) (pa_cons (pe_call G_l_ordered hr (by rfl) T.g_l_ordered T.F_l_ordered.kp T.b_l_ordered .nil pass0 (pa_cons (pv 6) pa_nil)) (pa_cons (pv 8) pa_nil))))))
      (pss_one (ps_if (PW.pt (pw_or (pt_cmpR op_ne (pe_call G_l_told hr (by rfl) T.g_l_told T.F_l_told.kp T.b_l_told .nil pass0 (pa_cons (pv 4) (pa_cons (pv 5) (pa_cons (pe_callTy call_list_of (by rfl) T.z_list (by decide +kernel) (pa_cons (pv 6) pa_nil)) (pa_cons (pv 9) pa_nil))))) (pv 10) (nomark _)) (pw_or1 (pt_cmpR (r := rNeD K) (op_neD hr.units) (pv 9) (pv 8) (nomark _)))))
        (pss_one (ps_ret (pe_bl)))
        pss_nil)))))))))))
    (pss_one (ps_ret (pe_bl))))
      , ?_⟩
    have lenV : (ns.map V.int).length = ns.length := List.length_map _
    refine ⟨.ref a, rfl, a, _, rfl, .inl hS, _, 2, rfl, rfl, ⟨by decide, by decide⟩, 12, _, rfl, 4, _, rfl, _, rfl, ?_, ?_, ?_⟩
    · rw [lenV]
      split <;> split <;> omega
    · rw [lenV]
      split <;> split <;> omega
    obtain ⟨n, en, hn⟩ : ∃ n : Nat, (if (if ((ns.map V.int).length : Int) / 2 < 12 then ((ns.map V.int).length : Int) / 2 else 12) > 4 then (if ((ns.map V.int).length : Int) / 2 < 12 then ((ns.map V.int).length : Int) / 2 else 12) else 4) = (n : Int) ∧ n ≤ 12 := by
      rw [lenV]
      refine ⟨(if (if (ns.length : Int) / 2 < 12 then (ns.length : Int) / 2 else 12) > 4 then (if (ns.length : Int) / 2 < 12 then (ns.length : Int) / 2 else 12) else 4).toNat, ?_, ?_⟩
      · split <;> split <;> omega
      · split <;> split <;> omega
    rw [en, Int.toNat_natCast]
    refine for_range (lo := 0) (n := n) (fun i σ H3 => ∃ ys : List (Option V), ys.length = 10 ∧ σ = some (.ref a) :: ys ∧ LamX.ExtN H H3 ∧ TabI T H3)
      ⟨_, rfl, rfl, .refl H, hT⟩ (fun i σ H3 hi hp => ?_) (fun σ H3 hp => q _)
    obtain ⟨ys, hys, rfl, e03, hT3⟩ := hp
    match ys, hys with
    | [y1, y2, y3, y4, y5, y6, y7, y8, y9, y10], _ =>
    have hS3 : SqL K H3 a (ns.map V.int) := ExtN.seq e03 hS
    -- the bags
    refine ⟨.ref a, rfl, .int (0 + (i : Int)), rfl, 2, _, rfl, rfl, .inl ⟨by decide, by decide⟩, a, ns, 2 * i, congrArg (fun z => [V.ref a, V.int z]) (show (2 : Int) * (0 + (i : Int)) = ((2 * i : Nat) : Int) by omega), hS3, by omega, fun H4 p s4 np b4 => ?_⟩
    refine ⟨.ref a, rfl, .int (0 + (i : Int)), rfl, 2, _, rfl, rfl, .inl ⟨by decide, by decide⟩, _, 1, rfl, rfl, a, ns, 2 * i + 1, congrArg (fun z => [V.ref a, V.int z]) (show (2 : Int) * (0 + (i : Int)) + 1 = ((2 * i + 1 : Nat) : Int) by omega), sq_same s4 hS3, by omega, fun H5 o s5 no bo5 => ⟨_, _, rfl, ?_⟩⟩
    have b5 := b4.keep s5
    have op : o ≠ p := b4.ne no
    have npH : NewN H p := .back e03 np
    have noH : NewN H o := .back (ext_same e03 s4) no
    have e05 := ext_same (ext_same e03 s4) s5
    have hT5 := (hT3.ext s4).ext s5
    -- the net
    refine ⟨.ref p, rfl, p, rfl, b5, fun H6 r ls jns k6 b6 hnet hnb => ?_⟩
    have e06 := ext_keep2 e05 npH k6
    have hT6 := tab_keep hT5 k6 b5
    have bo6 : Bag H6 o := by
      obtain ⟨g, r, e, h⟩ := bo5
      exact ⟨g, r, k6 _ _ op e, h⟩
    obtain ⟨na, nc, nb, nd, ja, er, tna, tnc, hJ⟩ := id hnet
    have l1 := hnb.l1
    have l8 := hnb.l8
    -- the line
    refine ⟨.ref r, rfl, r, [.ref na, nb, .ref nc, nd], 0, .ref na, rfl, rfl, SqT.of er, atI_nat (j := 0) rfl, .ref o, rfl, .ref r, rfl, r, [.ref na, nb, .ref nc, nd], 0, .ref na, rfl, rfl, SqT.of er, atI_nat (j := 0) rfl, na, _, rfl, .inr tna.sq, o, (ls.length : Int), by rw [List.length_map]; rfl, bo6, by omega, by omega, fun H7 d k7 bo7 d0 d1 => ?_⟩
    obtain ⟨d, rfl⟩ : ∃ xn : Nat, d = (xn : Int) := ⟨d.toNat, by omega⟩
    have hd : d < ls.length := by omega
    refine ⟨na, _, _, nS ls[d], rfl, rfl, (tna.keep k7 bo6).sq, atI_nat (by rw [List.getElem?_map, List.getElem?_eq_getElem hd]; rfl), ?_⟩
    have xin : ls[d] ∈ ls := List.getElem_mem hd
    generalize ls[d] = x at xin ⊢
    have e07 := ext_keep2 e06 noH k7
    have hT7 := tab_keep hT6 k7 bo6
    have b7 : Bag H7 p := by
      obtain ⟨g, r, e, h⟩ := b6
      exact ⟨g, r, k7 _ _ (fun z => op z.symm) e, h⟩
    have net7 := hnet.keep k7 bo6
    -- the returns
    refine ⟨.ref o, rfl, .ref r, rfl, nS x, rfl, by show 5 ≤ sizeLine; decide, fun t8 nt8 => ?_⟩
    have nt8p : t8 ≠ p := b7.ne nt8
    have st8 := same_upd (o := .tup [.int 4, .int 8, .int 14, .int 2, .int 0]) nt8
    refine ⟨.ref p, rfl, p, 5, rfl, b7.keep st8, by decide, by decide, fun H8 d8 k8 b8 d80 d81 => ?_⟩
    obtain ⟨m0, hm0, em0⟩ := pick (ms := [4, 8, 14, 2, 0]) d80 d81
    refine ⟨t8, _, d8, _, rfl, rfl, SqT.of (k8 _ _ nt8p upd_same), em0, ?_⟩
    obtain ⟨Mn, rfl, M40⟩ : ∃ n : Nat, m0 = (n : Int) ∧ n ≤ 30 := by
      simp only [List.mem_cons, List.not_mem_nil, or_false] at hm0
      exact ⟨m0.toNat, by omega, by omega⟩
    have e08 := ext_keep2 (ext_same e07 st8) npH k8
    have hT8 := tab_keep (hT7.ext st8) k8 (b7.keep st8)
    have bo8 : Bag H8 o := by
      obtain ⟨g, r, e, h⟩ := bo7
      exact ⟨g, r, k8 _ _ op (st8 _ _ e), h⟩
    have net8 := (net7.same st8).keep k8 (b7.keep st8)
    refine ⟨o, r, x, Mn, ls, jns, rfl, bo8, net8, hnb, xin, by omega, fun H9 l ts rs k9 bo9 nl el hts hfull hnd ts40 => ?_⟩
    have e09 := ext_keep2 e08 noH k9
    have hT9 := tab_keep hT8 k9 bo8
    have net9 := net8.keep k9 bo8
    have tl := paired_len hts
    have b9 : Bag H9 p := by
      obtain ⟨g, r, e, h⟩ := b8
      exact ⟨g, r, k9 _ _ (fun z => op z.symm) e, h⟩
    -- the history
    refine ⟨.ref r, rfl, nS x, rfl, .ref l, rfl, l, _, rfl, .inl (SqL.of el), fun hd' nhd => ?_⟩
    have s10 := same_upd (o := .lst (ts.map V.ref)) nhd
    have ehd : (upd H9 hd' (.lst (ts.map V.ref))) hd' = some (.lst (ts.map V.ref)) := upd_same
    have e10 := ext_same e09 s10
    have hT10 := hT9.ext s10
    have net10 := net9.same s10
    have el10 := s10 _ _ el
    have b10 := b9.keep s10
    have hts10 : Paired (RtA (upd H9 hd' (.lst (ts.map V.ref)))) ts rs := paired_imp hts fun a _ r h => s10 _ _ h
    generalize upd H9 hd' (.lst (ts.map V.ref)) = H10 at ehd e10 hT10 net10 el10 hts10 b10 ⊢
    refine ⟨r, hd', x, ts, rs, ls, jns, rfl, SqL.of ehd, hts10, fun r h => ⟨(hfull r h).1.ok, (hfull r h).2⟩, by omega, net10.lj, hnb.lj, hnb.jnd, xin, hT10, fun H11 u D1 M1 x11 hT11 nD1 nM1 DM1 eu hD1 eM1 => ?_⟩
    have e11 := e10.trans x11
    have net11 := net10.ext x11
    have el11 := ExtN.lst x11 el10
    have b11 : Bag H11 p := by
      obtain ⟨g, r, e, h⟩ := b10
      exact ⟨g, r, ExtN.lst x11 e, h⟩
    have hts11 : Paired (RtA H11) ts rs := paired_imp hts10 fun a _ r h => h.ext x11
    have fits : ∀ r ∈ sortR rs, RtFit jns r := fun r h => (hfull r ((sortR_perm rs).mem_iff.mp h)).2
    have ok' : ∀ r ∈ sortR rs, RtOk r ∧ RtFit jns r := fun r h => ⟨(hfull r ((sortR_perm rs).mem_iff.mp h)).1.ok, (hfull r ((sortR_perm rs).mem_iff.mp h)).2⟩
    have rl30 : (sortR rs).length ≤ 30 := by rw [(sortR_perm rs).length_eq]; omega
    have gok := stepsM_ok hnb.lj hnb.jnd hnb.lnm (sortR rs) x fits xin
    have gsm := stepsM_gap hnb.lj hnb.jnd (sortR rs) x fits
    have gln : (stepsM jns (sortR rs) x).length ≤ 60 := by have := stepsM_len (jns := jns) (sortR rs) x; omega
    have z1 : (marksM jns (sortR rs) x).length ≤ 200 := by
      unfold marksM
      rw [List.length_map, List.length_range]
      omega
    generalize stepsM jns (sortR rs) x = ss1 at hD1 gok gsm gln
    generalize marksM jns (sortR rs) x = zs1 at eM1 z1
    obtain ⟨fa, eD1, hfa⟩ := hD1
    have M1p : M1 ≠ p := by
      obtain ⟨g, r', e, _⟩ := b10
      exact fun z => nM1.lst e z.symm
    -- bent
    refine ⟨.ref p, rfl, .ref r, rfl, .ref u, rfl, p, r, u, D1, M1, fa.map V.ref, ss1.map stpD, zs1, ls, jns, rfl, b11, net11, hnb, eu, bag_refs b11 eD1, eD1, dtAllN_stp b11 hfa gsm, fun d hd => ?_, fun d hd => ?_, by rw [List.length_map]; omega, M1p, eM1, z1, fun H12 v d k12 b12 hv hmd => ?_⟩
    · obtain ⟨s, hs, rfl⟩ := List.mem_map.mp hd
      exact (stpG_stp (gok s hs) (gsm s hs)).1
    · obtain ⟨s, hs, rfl⟩ := List.mem_map.mp hd
      exact (stpG_stp (gok s hs) (gsm s hs)).2
    have hsm : Sm d := ⟨hmd.lay, by have := hmd.dep; omega⟩
    have lp := bag_refs b11 el11
    have e12 := ext_keep2 e11 npH k12
    have hT12 := tab_keep hT11 k12 b11
    have net12 := net11.keep k12 b11
    have el12 := k12 _ _ lp el11
    have hts12 : Paired (RtA H12) ts rs := paired_imp hts11 fun a _ r h => h.keep k12 b11
    have hv12 : Dt SA H12 v d := hv.mono (fun _ _ => trivial) fun _ _ _ e => e
    -- copied
    refine ⟨v, rfl, v, d, rfl, hv12, hmd.dep, fun H13 v' s13 hv' => ?_⟩
    have hv13 : Dt SA H13 v' d := hv'.mono (fun _ _ => trivial) fun _ _ _ e => e
    have e13 := ext_same e12 s13
    -- the fault that is due
    refine ⟨.ref r, rfl, nS x, rfl, .ref l, rfl, l, ts, rs, rfl, SqL.of (s13 _ _ el12), paired_imp hts12 fun a _ r h => s13 _ _ h, fun r h => (hfull r h).1, hnd, by omega, fun H14 Rw ts2 s14 nRw eRw hts2 _ => ⟨v, rfl, r, Rw, x, v, d, ts2, sortR rs, ls, jns, rfl, (net12.same s13).same s14, hnb, xin, eRw, hts2, ok', by omega, (hv12.same s13).same s14, hsm, fun H15 f s15 hf => ?_⟩⟩
    have s1215 := s13.trans (s14.trans s15)
    have e15 := ext_same e12 s1215
    have el15 := s1215 _ _ el12
    -- the fault that is told
    refine ⟨.ref r, rfl, nS x, rfl, .ref l, rfl, l, _, rfl, .inl (SqL.of el15), fun hd2 nhd2 => ?_⟩
    have s16 := same_upd (o := .lst (ts.map V.ref)) nhd2
    have ehd2 : (upd H15 hd2 (.lst (ts.map V.ref))) hd2 = some (.lst (ts.map V.ref)) := upd_same
    have s1216 := s1215.trans s16
    have s1316 := s14.trans (s15.trans s16)
    generalize upd H15 hd2 (.lst (ts.map V.ref)) = H16 at ehd2 s16 s1216 s1316 ⊢
    have hts16 : Paired (RtA H16) ts rs := paired_imp hts12 fun a _ r h => s1216 _ _ h
    refine ⟨v', rfl, r, hd2, x, v', d, ts, rs, ls, jns, rfl, ehd2, hts16, fun r h => ⟨(hfull r h).1.ok, (hfull r h).2⟩, by omega, hv13.same s1316, hsm, (net12.same s1216).lj, hnb.lj, hnb.lnm, hnb.jnd, xin, hT12.ext s1216, fun H17 f' x17 hT17 hf' => ?_⟩
    have := faultH_eq hf hf'
    subst this
    refine ⟨.str f, rfl, rfl, _, rfl, ?_⟩
    have dh := Dt.extN x17 (hv13.same s1316)
    have dt' := Dt.extN x17 (hv12.same s1216)
    rw [decide_eq_true (rfl : V.str f = V.str f)]
    refine iteF ⟨v', rfl, v, rfl, _, _, dh.dp, dt'.dp, hsm.sh, hsm.sh, _, rfl, ?_⟩
    rw [SeqAt.eqv_refl _ hsm.lay]
    exact iteF ⟨_, rfl, rfl, (ext_same e12 s1216).trans x17, hT17⟩
end
end Th
namespace Th
open PySem PySem.Spec PyProof.Rows L2
def dd_is_whole : He.DefD := ⟨("is_whole", none), "is_whole", "is_whole", defArgs s_is_whole, defBody s_is_whole, defScope s_is_whole, [], []⟩
def dd_is_tuple : He.DefD := ⟨("is_tuple", none), "is_tuple", "is_tuple", defArgs s_is_tuple, defBody s_is_tuple, defScope s_is_tuple, [], []⟩
def dd_is_pair_of_lists : He.DefD := ⟨("is_pair_of_lists", none), "is_pair_of_lists", "is_pair_of_lists", defArgs s_is_pair_of_lists, defBody s_is_pair_of_lists, defScope s_is_pair_of_lists, [], []⟩
def dd_road_to_any : He.DefD := ⟨("road_to_any", none), "road_to_any", "road_to_any", defArgs s_road_to_any, defBody s_road_to_any, defScope s_road_to_any, [], []⟩
def dd_steps_to : He.DefD := ⟨("steps_to", none), "steps_to", "steps_to", defArgs s_steps_to, defBody s_steps_to, defScope s_steps_to, [], []⟩
def dd_lines_beside : He.DefD := ⟨("lines_beside", none), "lines_beside", "lines_beside", defArgs s_lines_beside, defBody s_lines_beside, defScope s_lines_beside, [], []⟩
def dd_lines_joined : He.DefD := ⟨("lines_joined", none), "lines_joined", "lines_joined", defArgs s_lines_joined, defBody s_lines_joined, defScope s_lines_joined, [], []⟩
def dd_lacking : He.DefD := ⟨("lacking", none), "lacking", "lacking", defArgs s_lacking, defBody s_lacking, defScope s_lacking, [], []⟩
def dd_gap_road : He.DefD := ⟨("gap_road", none), "gap_road", "gap_road", defArgs s_gap_road, defBody s_gap_road, defScope s_gap_road, [], []⟩
def dd_lines_from : He.DefD := ⟨("lines_from", none), "lines_from", "lines_from", defArgs s_lines_from, defBody s_lines_from, defScope s_lines_from, [], []⟩
def dd_in_order : He.DefD := ⟨("in_order", none), "in_order", "in_order", defArgs s_in_order, defBody s_in_order, defScope s_in_order, [], []⟩
def dd_lacks_ahead : He.DefD := ⟨("lacks_ahead", none), "lacks_ahead", "lacks_ahead", defArgs s_lacks_ahead, defBody s_lacks_ahead, defScope s_lacks_ahead, [], []⟩
def dd_fewest_onward : He.DefD := ⟨("fewest_onward", none), "fewest_onward", "fewest_onward", defArgs s_fewest_onward, defBody s_fewest_onward, defScope s_fewest_onward, [], []⟩
def dd_history : He.DefD := ⟨("history", none), "history", "history", defArgs s_history, defBody s_history, defScope s_history, [], []⟩
def dd_steps_of : He.DefD := ⟨("steps_of", none), "steps_of", "steps_of", defArgs s_steps_of, defBody s_steps_of, defScope s_steps_of, [], []⟩
def dd_look_history : He.DefD := ⟨("look_history", none), "look_history", "look_history", defArgs s_look_history, defBody s_look_history, defScope s_look_history, [], []⟩
def dd_is_history : He.DefD := ⟨("is_history", none), "is_history", "is_history", defArgs s_is_history, defBody s_is_history, defScope s_is_history, [], []⟩
def dd_steps_to_hold : He.DefD := ⟨("steps_to_hold", none), "steps_to_hold", "steps_to_hold", defArgs s_steps_to_hold, defBody s_steps_to_hold, defScope s_steps_to_hold, [], []⟩
def dd_is_aside : He.DefD := ⟨("is_aside", none), "is_aside", "is_aside", defArgs s_is_aside, defBody s_is_aside, defScope s_is_aside, [], []⟩
def dd_is_held : He.DefD := ⟨("is_held", none), "is_held", "is_held", defArgs s_is_held, defBody s_is_held, defScope s_is_held, [], []⟩
def dd_is_gap : He.DefD := ⟨("is_gap", none), "is_gap", "is_gap", defArgs s_is_gap, defBody s_is_gap, defScope s_is_gap, [], []⟩
def dd_wrong_in : He.DefD := ⟨("wrong_in", none), "wrong_in", "wrong_in", defArgs s_wrong_in, defBody s_wrong_in, defScope s_wrong_in, [], []⟩
def dd_are_marks : He.DefD := ⟨("are_marks", none), "are_marks", "are_marks", defArgs s_are_marks, defBody s_are_marks, defScope s_are_marks, [], []⟩
def dd_most_wrong : He.DefD := ⟨("most_wrong", none), "most_wrong", "most_wrong", defArgs s_most_wrong, defBody s_most_wrong, defScope s_most_wrong, [], []⟩
def dd_l_bag : He.DefD := ⟨("_law_bag", none), "_law_bag", "_law_bag", defArgs s_l_bag, defBody s_l_bag, defScope s_l_bag, [], []⟩
def dd_l_take : He.DefD := ⟨("_law_take", none), "_law_take", "_law_take", defArgs s_l_take, defBody s_l_take, defScope s_l_take, [], []⟩
def dd_l_names : He.DefD := ⟨("_law_names", none), "_law_names", "_law_names", defArgs s_l_names, defBody s_l_names, defScope s_l_names, [], []⟩
def dd_l_net : He.DefD := ⟨("_law_net", none), "_law_net", "_law_net", defArgs s_l_net, defBody s_l_net, defScope s_l_net, [], []⟩
def dd_l_roads : He.DefD := ⟨("_law_roads", none), "_law_roads", "_law_roads", defArgs s_l_roads, defBody s_l_roads, defScope s_l_roads, [], []⟩
def dd_l_gap : He.DefD := ⟨("_law_gap", none), "_law_gap", "_law_gap", defArgs s_l_gap, defBody s_l_gap, defScope s_l_gap, [], []⟩
def dd_l_returns : He.DefD := ⟨("_law_returns", none), "_law_returns", "_law_returns", defArgs s_l_returns, defBody s_l_returns, defScope s_l_returns, [], []⟩
def dd_l_ordered : He.DefD := ⟨("_law_ordered", none), "_law_ordered", "_law_ordered", defArgs s_l_ordered, defBody s_l_ordered, defScope s_l_ordered, [], []⟩
def dd_l_table : He.DefD := ⟨("_law_table", none), "_law_table", "_law_table", defArgs s_l_table, defBody s_l_table, defScope s_l_table, [], []⟩
def dd_l_is : He.DefD := ⟨("_law_is", none), "_law_is", "_law_is", defArgs s_l_is, defBody s_l_is, defScope s_l_is, [], []⟩
def dd_l_same : He.DefD := ⟨("_law_same", none), "_law_same", "_law_same", defArgs s_l_same, defBody s_l_same, defScope s_l_same, [], []⟩
def dd_l_is_gap : He.DefD := ⟨("_law_is_gap", none), "_law_is_gap", "_law_is_gap", defArgs s_l_is_gap, defBody s_l_is_gap, defScope s_l_is_gap, [], []⟩
def dd_l_wrong_any : He.DefD := ⟨("_law_wrong_any", none), "_law_wrong_any", "_law_wrong_any", defArgs s_l_wrong_any, defBody s_l_wrong_any, defScope s_l_wrong_any, [], []⟩
def dd_l_marks_bound : He.DefD := ⟨("_law_marks_bound", none), "_law_marks_bound", "_law_marks_bound", defArgs s_l_marks_bound, defBody s_l_marks_bound, defScope s_l_marks_bound, [], []⟩
def dd_l_where : He.DefD := ⟨("_law_where", none), "_law_where", "_law_where", defArgs s_l_where, defBody s_l_where, defScope s_l_where, [], []⟩
def dd_l_told : He.DefD := ⟨("_law_told", none), "_law_told", "_law_told", defArgs s_l_told, defBody s_l_told, defScope s_l_told, [], []⟩
def dd_l_any : He.DefD := ⟨("_law_any", none), "_law_any", "_law_any", defArgs s_l_any, defBody s_l_any, defScope s_l_any, [], []⟩
def dd_l_part : He.DefD := ⟨("_law_part", none), "_law_part", "_law_part", defArgs s_l_part, defBody s_l_part, defScope s_l_part, [], []⟩
def dd_l_bent_steps : He.DefD := ⟨("_law_bent_steps", none), "_law_bent_steps", "_law_bent_steps", defArgs s_l_bent_steps, defBody s_l_bent_steps, defScope s_l_bent_steps, [], []⟩
def dd_l_bent_marks : He.DefD := ⟨("_law_bent_marks", none), "_law_bent_marks", "_law_bent_marks", defArgs s_l_bent_marks, defBody s_l_bent_marks, defScope s_l_bent_marks, [], []⟩
def dd_l_bent : He.DefD := ⟨("_law_bent", none), "_law_bent", "_law_bent", defArgs s_l_bent, defBody s_l_bent, defScope s_l_bent, [], []⟩
def dd_l_copied : He.DefD := ⟨("_law_copied", none), "_law_copied", "_law_copied", defArgs s_l_copied, defBody s_l_copied, defScope s_l_copied, [], []⟩
def dd_law : He.DefD := ⟨("law", none), "law", "law", defArgs s_law, defBody s_law, defScope s_law, [], []⟩
def fn : List He.DefD := [dd_is_whole, dd_is_tuple, dd_is_pair_of_lists, dd_road_to_any, dd_steps_to, dd_lines_beside, dd_lines_joined, dd_lacking, dd_gap_road, dd_lines_from, dd_in_order, dd_lacks_ahead, dd_fewest_onward, dd_history, dd_steps_of, dd_look_history, dd_is_history, dd_steps_to_hold, dd_is_aside, dd_is_held, dd_is_gap, dd_wrong_in, dd_are_marks, dd_most_wrong, dd_l_bag, dd_l_take, dd_l_names, dd_l_net, dd_l_roads, dd_l_gap, dd_l_returns, dd_l_ordered, dd_l_table, dd_l_is, dd_l_same, dd_l_is_gap, dd_l_wrong_any, dd_l_marks_bound, dd_l_where, dd_l_told, dd_l_any, dd_l_part, dd_l_bent_steps, dd_l_bent_marks, dd_l_bent, dd_l_copied, dd_law]
def fa : List He.Fa := .glo "is_whole" :: .glo "is_tuple" :: .glo "is_pair_of_lists" :: .glo "road_to_any" :: .glo "steps_to" :: .glo "lines_beside" :: .glo "lines_joined" :: .glo "lacking" :: .glo "gap_road" :: .glo "lines_from" :: .glo "in_order" :: .glo "lacks_ahead" :: .glo "fewest_onward" :: .glo "history" :: .glo "steps_of" :: .glo "look_history" :: .glo "is_history" :: .glo "steps_to_hold" :: .glo "is_aside" :: .glo "is_held" :: .glo "is_gap" :: .glo "wrong_in" :: .glo "are_marks" :: .glo "most_wrong" :: .glo "_law_bag" :: .glo "_law_take" :: .glo "_law_names" :: .glo "_law_net" :: .glo "_law_roads" :: .glo "_law_gap" :: .glo "_law_returns" :: .glo "_law_ordered" :: .glo "_law_table" :: .glo "_law_is" :: .glo "_law_same" :: .glo "_law_is_gap" :: .glo "_law_wrong_any" :: .glo "_law_marks_bound" :: .glo "_law_where" :: .glo "_law_told" :: .glo "_law_any" :: .glo "_law_part" :: .glo "_law_bent_steps" :: .glo "_law_bent_marks" :: .glo "_law_bent" :: .glo "_law_copied" :: .glo "law" :: .int "NUMBER" 1 :: .int "JUNCTION" 3 :: .int "DAY" 4 :: .int "HOUR" 5 :: .int "OVER" 7 :: .free "ValueError" :: .free "abs" :: .free "all" :: .free "any" :: .free "bool" :: .free "dict" :: .free "enumerate" :: .free "int" :: .free "isinstance" :: .free "len" :: .free "list" :: .free "max" :: .free "min" :: .free "range" :: .free "reversed" :: .free "sorted" :: .free "str" :: .free "sum" :: .free "super" :: .free "tuple" :: .free "zip" :: .glo "HouseError" :: .glo "NoNet" :: .glo "NoWay" :: .glo "NoWagon" :: .glo "NoRules" :: .glo "NoPaper" :: .glo "NoProof" :: .glo "NotYet" :: .glo "TooMany" :: .glo "TooLate" :: .glo "NoLine" :: .glo "Stopped" :: .glo "NoMonth" :: .glo "NoBill" :: .glo "NoText" :: .glo "NoSaying" :: []
def ed_NoProof : HookS.ErD := ⟨"NoProof", "NoProof.__init__", ⟨19, 17, 19, 21⟩, ⟨19, 23, 19, 28⟩, "no proof, by its ", ⟨⟨20, 8, 20, 13⟩, ⟨20, 8, 20, 15⟩, ⟨20, 8, 20, 24⟩, ⟨20, 27, 20, 44⟩, ⟨20, 45, 20, 50⟩, ⟨20, 44, 20, 51⟩, ⟨20, 25, 20, 52⟩, ⟨20, 8, 20, 53⟩, ⟨20, 8, 20, 53⟩, ⟨21, 8, 21, 12⟩, ⟨21, 8, 21, 18⟩, ⟨21, 21, 21, 26⟩, ⟨21, 8, 21, 26⟩⟩⟩
def er : List HookS.ErD := [ed_NoProof]
def tf : List He.Defn := [("in_order", none)]
def ts : List He.Tab := []
def exb : PySem.W.Frag → Bool := fun K => HookS.erB K "NoProof" PP.main.file && (decide (PySem.W.exmOne K (.ref (He.ga K "NoProof")) (.ref (He.ga K "HouseError")) = some true) && (decide (PySem.W.kitAny K (.ref (He.ga K "NoProof")) [.ref (He.ga K "NoNet"), .ref (He.ga K "NoWay"), .ref (He.ga K "NoWagon"), .ref (He.ga K "NoRules"), .ref (He.ga K "NoPaper"), .ref (He.ga K "NotYet"), .ref (He.ga K "TooMany"), .ref (He.ga K "TooLate")] = some false) && (decide (PySem.W.kitAny K (.ref (He.ga K "NoProof")) [.ref (He.ga K "NoLine"), .ref (He.ga K "Stopped"), .ref (He.ga K "NoMonth"), .ref (He.ga K "NoBill"), .ref (He.ga K "NoText"), .ref (He.ga K "NoSaying")] = some false) && (decide (PySem.W.kitOne K (.ref (He.ga K "NoProof")) (.ref (He.ga K "NoProof")) = some true) && (decide (PySem.W.kitOne K (.ref (He.ga K "NoProof")) (.type "ValueError") = some true))))))
abbrev R : PySem.W.OpenRow := PySem.W.OpenLaw.row PySem.Challenge.rw_throughlines_k38_looker_refuses
abbrev hk : PySem.W.Hook := HookS.hookS 4 fa fn tf er exb
def ob (s : PySem.W.SharedT) : HookS.AlS := HookS.obsS 4 fa fn tf er exb (HandSHeadRun.getT s)
theorem ob_eq (s : PySem.W.SharedT) : ob s = hk.obs s.abs := HookS.obsS_eq (HandSHeadRun.getT_eq s)
def loose : List PySem.Str := "HouseError" :: "NoNet" :: "NoWay" :: "NoWagon" :: "NoRules" :: "NoPaper" :: "NoProof" :: "NotYet" :: "TooMany" :: "TooLate" :: "NoLine" :: "Stopped" :: "NoMonth" :: "NoBill" :: "NoText" :: "NoSaying" :: "is_whole" :: "is_tuple" :: "is_pair_of_lists" :: "road_to_any" :: "steps_to" :: "lines_beside" :: "lines_joined" :: "lacking" :: "gap_road" :: "lines_from" :: "in_order" :: "lacks_ahead" :: "fewest_onward" :: "history" :: "steps_of" :: "look_history" :: "is_history" :: "steps_to_hold" :: "is_aside" :: "is_held" :: "is_gap" :: "wrong_in" :: "are_marks" :: "most_wrong" :: "_law_bag" :: "_law_take" :: "_law_names" :: "_law_net" :: "_law_roads" :: "_law_gap" :: "_law_returns" :: "_law_ordered" :: "_law_table" :: "_law_is" :: "_law_same" :: "_law_is_gap" :: "_law_wrong_any" :: "_law_marks_bound" :: "_law_where" :: "_law_told" :: "_law_any" :: "_law_part" :: "_law_bent_steps" :: "_law_bent_marks" :: "_law_bent" :: "_law_copied" :: "NUMBER" :: "JUNCTION" :: "DAY" :: "HOUR" :: "OVER" :: []
set_option maxHeartbeats 0 in
theorem run (w : World) : HandSHeadRun.RunEq R (PySem.W.view R.prog [72]) hk ob 8000 loose w := by
  intro os
  kernel_rfl
/-- a def's code object, by its function's data -/
theorem code_ref {K : PySem.W.Frag} {x : Str} {st : Stmt} {p : He.Defn} {fd : FuncData} (F : FnP K x st (He.fAd K p) fd) : fd.code = .ref (He.cT K p).1 := by
  obtain ⟨oc, od, dV, kV, doc, pm, an, cdv, ct, osl, rfl, lk, hcd, _, _⟩ := F.ex
  obtain ⟨c, e⟩ := He.codeIn_ref hcd
  have h := He.codeOf_eq lk (show _ = Value.ref c from e)
  show cdv = _
  rw [e]
  show Value.ref c = Value.ref (He.codeOf K p)
  rw [h]
theorem facts {w : World} {K : PySem.W.Frag} {h : Heap} {mg : Str → Option Value} {f : Addr} (X : K.In h) (G : h.Ns mainGlobals mg) (hfa : mg ("law" : Str) = some (.ref f)) (cS : HookS.SaysS fa fn tf er exb w h K) :
    LamX.LawAtS PySem.Challenge.rw_throughlines_k38_looker_refuses w K CX0 10 63 "_law_script" mg f h := by
  have c' := cS.x
  have c := c'.t.d
  obtain ⟨d_is_whole, F_is_whole⟩ := c.def_ 0 (d := dd_is_whole) rfl
  have b_is_whole : Binds K d_is_whole ["thing"] [] := FunD.bindsN F_is_whole fun _ _ _ _ _ _ us hl => match us, hl with | [_], _ => rfl
  obtain ⟨d_is_tuple, F_is_tuple⟩ := c.def_ 1 (d := dd_is_tuple) rfl
  have b_is_tuple : Binds K d_is_tuple ["thing", "fewest", "most"] [] := FunD.bindsN F_is_tuple fun _ _ _ _ _ _ us hl => match us, hl with | [_, _, _], _ => rfl
  obtain ⟨d_is_pair_of_lists, F_is_pair_of_lists⟩ := c.def_ 2 (d := dd_is_pair_of_lists) rfl
  have b_is_pair_of_lists : Binds K d_is_pair_of_lists ["thing"] [] := FunD.bindsN F_is_pair_of_lists fun _ _ _ _ _ _ us hl => match us, hl with | [_], _ => rfl
  obtain ⟨d_road_to_any, F_road_to_any⟩ := c.def_ 3 (d := dd_road_to_any) rfl
  have b_road_to_any : Binds K d_road_to_any ["net", "line", "fars"] [] := FunD.bindsN F_road_to_any fun _ _ _ _ _ _ us hl => match us, hl with | [_, _, _], _ => rfl
  obtain ⟨d_steps_to, F_steps_to⟩ := c.def_ 4 (d := dd_steps_to) rfl
  have b_steps_to : Binds K d_steps_to ["beside", "fars"] [] := FunD.bindsN F_steps_to fun _ _ _ _ _ _ us hl => match us, hl with | [_, _], _ => rfl
  obtain ⟨d_lines_beside, F_lines_beside⟩ := c.def_ 5 (d := dd_lines_beside) rfl
  have b_lines_beside : Binds K d_lines_beside ["net"] [] := FunD.bindsN F_lines_beside fun _ _ _ _ _ _ us hl => match us, hl with | [_], _ => rfl
  obtain ⟨d_lines_joined, F_lines_joined⟩ := c.def_ 6 (d := dd_lines_joined) rfl
  have b_lines_joined : Binds K d_lines_joined ["net", "line"] [] := FunD.bindsN F_lines_joined fun _ _ _ _ _ _ us hl => match us, hl with | [_, _], _ => rfl
  obtain ⟨d_lacking, F_lacking⟩ := c.def_ 7 (d := dd_lacking) rfl
  have b_lacking : Binds K d_lacking ["net", "line", "junction", "over"] [] := FunD.bindsN F_lacking fun _ _ _ _ _ _ us hl => match us, hl with | [_, _, _, _], _ => rfl
  obtain ⟨d_gap_road, F_gap_road⟩ := c.def_ 8 (d := dd_gap_road) rfl
  have b_gap_road : Binds K d_gap_road ["net", "line", "junction", "over"] [] := FunD.bindsN F_gap_road fun _ _ _ _ _ _ us hl => match us, hl with | [_, _, _, _], _ => rfl
  obtain ⟨d_lines_from, F_lines_from⟩ := c.def_ 9 (d := dd_lines_from) rfl
  have b_lines_from : Binds K d_lines_from ["net", "junction", "over"] [] := FunD.bindsN F_lines_from fun _ _ _ _ _ _ us hl => match us, hl with | [_, _, _], _ => rfl
  obtain ⟨d_in_order, F_in_order⟩ := c.def_ 10 (d := dd_in_order) rfl
  have b_in_order : Binds K d_in_order ["returns"] [] := FunD.bindsN F_in_order fun _ _ _ _ _ _ us hl => match us, hl with | [_], _ => rfl
  obtain ⟨d_lacks_ahead, F_lacks_ahead⟩ := c.def_ 11 (d := dd_lacks_ahead) rfl
  have b_lacks_ahead : Binds K d_lacks_ahead ["net", "rows"] [] := FunD.bindsN F_lacks_ahead fun _ _ _ _ _ _ us hl => match us, hl with | [_, _], _ => rfl
  obtain ⟨d_fewest_onward, F_fewest_onward⟩ := c.def_ 12 (d := dd_fewest_onward) rfl
  have b_fewest_onward : Binds K d_fewest_onward ["net", "rows", "lacks"] [] := FunD.bindsN F_fewest_onward fun _ _ _ _ _ _ us hl => match us, hl with | [_, _, _], _ => rfl
  obtain ⟨d_history, F_history⟩ := c.def_ 13 (d := dd_history) rfl
  have b_history : Binds K d_history ["net", "line", "returns"] [] := FunD.bindsN F_history fun _ _ _ _ _ _ us hl => match us, hl with | [_, _, _], _ => rfl
  obtain ⟨d_steps_of, F_steps_of⟩ := c.def_ 14 (d := dd_steps_of) rfl
  have b_steps_of : Binds K d_steps_of ["net", "line", "rows", "lacks", "fewest"] [] := FunD.bindsN F_steps_of fun _ _ _ _ _ _ us hl => match us, hl with | [_, _, _, _, _], _ => rfl
  obtain ⟨d_look_history, F_look_history⟩ := c.def_ 15 (d := dd_look_history) rfl
  have b_look_history : Binds K d_look_history ["net", "line", "returns", "thing"] [] := FunD.bindsN F_look_history fun _ _ _ _ _ _ us hl => match us, hl with | [_, _, _, _], _ => rfl
  obtain ⟨d_is_history, F_is_history⟩ := c.def_ 16 (d := dd_is_history) rfl
  have b_is_history : Binds K d_is_history ["net", "line", "rows", "steps"] [] := FunD.bindsN F_is_history fun _ _ _ _ _ _ us hl => match us, hl with | [_, _, _, _], _ => rfl
  obtain ⟨d_steps_to_hold, F_steps_to_hold⟩ := c.def_ 17 (d := dd_steps_to_hold) rfl
  have b_steps_to_hold : Binds K d_steps_to_hold ["net", "line", "row", "told"] [] := FunD.bindsN F_steps_to_hold fun _ _ _ _ _ _ us hl => match us, hl with | [_, _, _, _], _ => rfl
  obtain ⟨d_is_aside, F_is_aside⟩ := c.def_ 18 (d := dd_is_aside) rfl
  have b_is_aside : Binds K d_is_aside ["row", "step"] [] := FunD.bindsN F_is_aside fun _ _ _ _ _ _ us hl => match us, hl with | [_, _], _ => rfl
  obtain ⟨d_is_held, F_is_held⟩ := c.def_ 19 (d := dd_is_held) rfl
  have b_is_held : Binds K d_is_held ["row", "line", "step"] [] := FunD.bindsN F_is_held fun _ _ _ _ _ _ us hl => match us, hl with | [_, _, _], _ => rfl
  obtain ⟨d_is_gap, F_is_gap⟩ := c.def_ 20 (d := dd_is_gap) rfl
  have b_is_gap : Binds K d_is_gap ["net", "line", "row", "lack", "step"] [] := FunD.bindsN F_is_gap fun _ _ _ _ _ _ us hl => match us, hl with | [_, _, _, _, _], _ => rfl
  obtain ⟨d_wrong_in, F_wrong_in⟩ := c.def_ 21 (d := dd_wrong_in) rfl
  have b_wrong_in : Binds K d_wrong_in ["steps"] [] := FunD.bindsN F_wrong_in fun _ _ _ _ _ _ us hl => match us, hl with | [_], _ => rfl
  obtain ⟨d_are_marks, F_are_marks⟩ := c.def_ 22 (d := dd_are_marks) rfl
  have b_are_marks : Binds K d_are_marks ["net", "line", "rows", "marks"] [] := FunD.bindsN F_are_marks fun _ _ _ _ _ _ us hl => match us, hl with | [_, _, _, _], _ => rfl
  obtain ⟨d_most_wrong, F_most_wrong⟩ := c.def_ 23 (d := dd_most_wrong) rfl
  have b_most_wrong : Binds K d_most_wrong ["marks"] [] := FunD.bindsN F_most_wrong fun _ _ _ _ _ _ us hl => match us, hl with | [_], _ => rfl
  obtain ⟨d_l_bag, F_l_bag⟩ := c.def_ 24 (d := dd_l_bag) rfl
  have b_l_bag : Binds K d_l_bag ["_law_script", "_law_at"] [] := FunD.bindsN F_l_bag fun _ _ _ _ _ _ us hl => match us, hl with | [_, _], _ => rfl
  obtain ⟨d_l_take, F_l_take⟩ := c.def_ 25 (d := dd_l_take) rfl
  have b_l_take : Binds K d_l_take ["_law_bag_here", "_law_many"] [] := FunD.bindsN F_l_take fun _ _ _ _ _ _ us hl => match us, hl with | [_, _], _ => rfl
  obtain ⟨d_l_names, F_l_names⟩ := c.def_ 26 (d := dd_l_names) rfl
  have b_l_names : Binds K d_l_names ["_law_bag_here", "_law_many"] [] := FunD.bindsN F_l_names fun _ _ _ _ _ _ us hl => match us, hl with | [_, _], _ => rfl
  obtain ⟨d_l_net, F_l_net⟩ := c.def_ 27 (d := dd_l_net) rfl
  have b_l_net : Binds K d_l_net ["_law_bag_here"] [] := FunD.bindsN F_l_net fun _ _ _ _ _ _ us hl => match us, hl with | [_], _ => rfl
  obtain ⟨d_l_roads, F_l_roads⟩ := c.def_ 28 (d := dd_l_roads) rfl
  have b_l_roads : Binds K d_l_roads ["_law_net_here", "_law_line"] [] := FunD.bindsN F_l_roads fun _ _ _ _ _ _ us hl => match us, hl with | [_, _], _ => rfl
  obtain ⟨d_l_gap, F_l_gap⟩ := c.def_ 29 (d := dd_l_gap) rfl
  have b_l_gap : Binds K d_l_gap ["_law_net_here", "_law_line", "_law_paper"] [] := FunD.bindsN F_l_gap fun _ _ _ _ _ _ us hl => match us, hl with | [_, _, _], _ => rfl
  obtain ⟨d_l_returns, F_l_returns⟩ := c.def_ 30 (d := dd_l_returns) rfl
  have b_l_returns : Binds K d_l_returns ["_law_bag_here", "_law_net_here", "_law_line", "_law_many"] [] := FunD.bindsN F_l_returns fun _ _ _ _ _ _ us hl => match us, hl with | [_, _, _, _], _ => rfl
  obtain ⟨d_l_ordered, F_l_ordered⟩ := c.def_ 31 (d := dd_l_ordered) rfl
  have b_l_ordered : Binds K d_l_ordered ["_law_returns_here"] [] := FunD.bindsN F_l_ordered fun _ _ _ _ _ _ us hl => match us, hl with | [_], _ => rfl
  obtain ⟨d_l_table, F_l_table⟩ := c.def_ 32 (d := dd_l_table) rfl
  have b_l_table : Binds K d_l_table ["_law_net_here", "_law_line", "_law_rows"] [] := FunD.bindsN F_l_table fun _ _ _ _ _ _ us hl => match us, hl with | [_, _, _], _ => rfl
  obtain ⟨d_l_is, F_l_is⟩ := c.def_ 33 (d := dd_l_is) rfl
  have b_l_is : Binds K d_l_is ["_law_thing", "_law_word", "_law_many"] [] := FunD.bindsN F_l_is fun _ _ _ _ _ _ us hl => match us, hl with | [_, _, _], _ => rfl
  obtain ⟨d_l_same, F_l_same⟩ := c.def_ 34 (d := dd_l_same) rfl
  have b_l_same : Binds K d_l_same ["_law_thing", "_law_number"] [] := FunD.bindsN F_l_same fun _ _ _ _ _ _ us hl => match us, hl with | [_, _], _ => rfl
  obtain ⟨d_l_is_gap, F_l_is_gap⟩ := c.def_ 35 (d := dd_l_is_gap) rfl
  have b_l_is_gap : Binds K d_l_is_gap ["_law_net_here", "_law_thing", "_law_here", "_law_paper"] [] := FunD.bindsN F_l_is_gap fun _ _ _ _ _ _ us hl => match us, hl with | [_, _, _, _], _ => rfl
  obtain ⟨d_l_wrong_any, F_l_wrong_any⟩ := c.def_ 36 (d := dd_l_wrong_any) rfl
  have b_l_wrong_any : Binds K d_l_wrong_any ["_law_net_here", "_law_line", "_law_rows", "_law_steps"] [] := FunD.bindsN F_l_wrong_any fun _ _ _ _ _ _ us hl => match us, hl with | [_, _, _, _], _ => rfl
  obtain ⟨d_l_marks_bound, F_l_marks_bound⟩ := c.def_ 37 (d := dd_l_marks_bound) rfl
  have b_l_marks_bound : Binds K d_l_marks_bound ["_law_table_here", "_law_marks"] [] := FunD.bindsN F_l_marks_bound fun _ _ _ _ _ _ us hl => match us, hl with | [_, _], _ => rfl
  obtain ⟨d_l_where, F_l_where⟩ := c.def_ 38 (d := dd_l_where) rfl
  have b_l_where : Binds K d_l_where ["_law_net_here", "_law_line", "_law_rows", "_law_thing"] [] := FunD.bindsN F_l_where fun _ _ _ _ _ _ us hl => match us, hl with | [_, _, _, _], _ => rfl
  obtain ⟨d_l_told, F_l_told⟩ := c.def_ 39 (d := dd_l_told) rfl
  have b_l_told : Binds K d_l_told ["_law_net_here", "_law_line", "_law_returns_here", "_law_thing"] [] := FunD.bindsN F_l_told fun _ _ _ _ _ _ us hl => match us, hl with | [_, _, _, _], _ => rfl
  obtain ⟨d_l_any, F_l_any⟩ := c.def_ 40 (d := dd_l_any) rfl
  have b_l_any : Binds K d_l_any ["_law_bag_here"] [] := FunD.bindsN F_l_any fun _ _ _ _ _ _ us hl => match us, hl with | [_], _ => rfl
  obtain ⟨d_l_part, F_l_part⟩ := c.def_ 41 (d := dd_l_part) rfl
  have b_l_part : Binds K d_l_part ["_law_bag_here", "_law_net_here", "_law_step"] [] := FunD.bindsN F_l_part fun _ _ _ _ _ _ us hl => match us, hl with | [_, _, _], _ => rfl
  obtain ⟨d_l_bent_steps, F_l_bent_steps⟩ := c.def_ 42 (d := dd_l_bent_steps) rfl
  have b_l_bent_steps : Binds K d_l_bent_steps ["_law_bag_here", "_law_net_here", "_law_steps"] [] := FunD.bindsN F_l_bent_steps fun _ _ _ _ _ _ us hl => match us, hl with | [_, _, _], _ => rfl
  obtain ⟨d_l_bent_marks, F_l_bent_marks⟩ := c.def_ 43 (d := dd_l_bent_marks) rfl
  have b_l_bent_marks : Binds K d_l_bent_marks ["_law_bag_here", "_law_marks"] [] := FunD.bindsN F_l_bent_marks fun _ _ _ _ _ _ us hl => match us, hl with | [_, _], _ => rfl
  obtain ⟨d_l_bent, F_l_bent⟩ := c.def_ 44 (d := dd_l_bent) rfl
  have b_l_bent : Binds K d_l_bent ["_law_bag_here", "_law_net_here", "_law_told_here"] [] := FunD.bindsN F_l_bent fun _ _ _ _ _ _ us hl => match us, hl with | [_, _, _], _ => rfl
  obtain ⟨d_l_copied, F_l_copied⟩ := c.def_ 45 (d := dd_l_copied) rfl
  have b_l_copied : Binds K d_l_copied ["_law_thing"] [] := FunD.bindsN F_l_copied fun _ _ _ _ _ _ us hl => match us, hl with | [_], _ => rfl
  obtain ⟨d_law, F_law⟩ := c.def_ 46 (d := dd_law) rfl
  obtain ⟨t_NUMBER, c_NUMBER⟩ := He.int_ok X G (c.fact 47 (f := .int "NUMBER" 1) rfl)
  obtain ⟨t_JUNCTION, c_JUNCTION⟩ := He.int_ok X G (c.fact 48 (f := .int "JUNCTION" 3) rfl)
  obtain ⟨t_DAY, c_DAY⟩ := He.int_ok X G (c.fact 49 (f := .int "DAY" 4) rfl)
  obtain ⟨t_HOUR, c_HOUR⟩ := He.int_ok X G (c.fact 50 (f := .int "HOUR" 5) rfl)
  obtain ⟨t_OVER, c_OVER⟩ := He.int_ok X G (c.fact 51 (f := .int "OVER" 7) rfl)
  have z_NoProof := HookS.er_ok (prog := PP) (d := ed_NoProof) X G (cS.one (List.mem_of_getElem? (l := er) (i := 0) rfl)) (He.ba c'.more).1 (by rfl) (by decide +kernel)
  let T : Defs K mg := {
    a_is_whole := _,
    d_is_whole := d_is_whole,
    F_is_whole := F_is_whole,
    g_is_whole := He.glo_ok X G (c.fact 0 (f := .glo "is_whole") rfl),
    b_is_whole := b_is_whole,
    a_is_tuple := _,
    d_is_tuple := d_is_tuple,
    F_is_tuple := F_is_tuple,
    g_is_tuple := He.glo_ok X G (c.fact 1 (f := .glo "is_tuple") rfl),
    b_is_tuple := b_is_tuple,
    a_is_pair_of_lists := _,
    d_is_pair_of_lists := d_is_pair_of_lists,
    F_is_pair_of_lists := F_is_pair_of_lists,
    g_is_pair_of_lists := He.glo_ok X G (c.fact 2 (f := .glo "is_pair_of_lists") rfl),
    b_is_pair_of_lists := b_is_pair_of_lists,
    a_road_to_any := _,
    d_road_to_any := d_road_to_any,
    F_road_to_any := F_road_to_any,
    g_road_to_any := He.glo_ok X G (c.fact 3 (f := .glo "road_to_any") rfl),
    b_road_to_any := b_road_to_any,
    a_steps_to := _,
    d_steps_to := d_steps_to,
    F_steps_to := F_steps_to,
    g_steps_to := He.glo_ok X G (c.fact 4 (f := .glo "steps_to") rfl),
    b_steps_to := b_steps_to,
    a_lines_beside := _,
    d_lines_beside := d_lines_beside,
    F_lines_beside := F_lines_beside,
    g_lines_beside := He.glo_ok X G (c.fact 5 (f := .glo "lines_beside") rfl),
    b_lines_beside := b_lines_beside,
    a_lines_joined := _,
    d_lines_joined := d_lines_joined,
    F_lines_joined := F_lines_joined,
    g_lines_joined := He.glo_ok X G (c.fact 6 (f := .glo "lines_joined") rfl),
    b_lines_joined := b_lines_joined,
    a_lacking := _,
    d_lacking := d_lacking,
    F_lacking := F_lacking,
    g_lacking := He.glo_ok X G (c.fact 7 (f := .glo "lacking") rfl),
    b_lacking := b_lacking,
    a_gap_road := _,
    d_gap_road := d_gap_road,
    F_gap_road := F_gap_road,
    g_gap_road := He.glo_ok X G (c.fact 8 (f := .glo "gap_road") rfl),
    b_gap_road := b_gap_road,
    a_lines_from := _,
    d_lines_from := d_lines_from,
    F_lines_from := F_lines_from,
    g_lines_from := He.glo_ok X G (c.fact 9 (f := .glo "lines_from") rfl),
    b_lines_from := b_lines_from,
    a_in_order := _,
    d_in_order := d_in_order,
    F_in_order := F_in_order,
    g_in_order := He.glo_ok X G (c.fact 10 (f := .glo "in_order") rfl),
    b_in_order := b_in_order,
    cc_in_order := (He.cT K ("in_order", none)).1,
    tp_in_order := (He.cT K ("in_order", none)).2,
    dc_in_order := code_ref (x := "in_order") (st := s_in_order) (p := ("in_order", none)) F_in_order,
    a_lacks_ahead := _,
    d_lacks_ahead := d_lacks_ahead,
    F_lacks_ahead := F_lacks_ahead,
    g_lacks_ahead := He.glo_ok X G (c.fact 11 (f := .glo "lacks_ahead") rfl),
    b_lacks_ahead := b_lacks_ahead,
    a_fewest_onward := _,
    d_fewest_onward := d_fewest_onward,
    F_fewest_onward := F_fewest_onward,
    g_fewest_onward := He.glo_ok X G (c.fact 12 (f := .glo "fewest_onward") rfl),
    b_fewest_onward := b_fewest_onward,
    a_history := _,
    d_history := d_history,
    F_history := F_history,
    g_history := He.glo_ok X G (c.fact 13 (f := .glo "history") rfl),
    b_history := b_history,
    a_steps_of := _,
    d_steps_of := d_steps_of,
    F_steps_of := F_steps_of,
    g_steps_of := He.glo_ok X G (c.fact 14 (f := .glo "steps_of") rfl),
    b_steps_of := b_steps_of,
    a_look_history := _,
    d_look_history := d_look_history,
    F_look_history := F_look_history,
    g_look_history := He.glo_ok X G (c.fact 15 (f := .glo "look_history") rfl),
    b_look_history := b_look_history,
    a_is_history := _,
    d_is_history := d_is_history,
    F_is_history := F_is_history,
    g_is_history := He.glo_ok X G (c.fact 16 (f := .glo "is_history") rfl),
    b_is_history := b_is_history,
    a_steps_to_hold := _,
    d_steps_to_hold := d_steps_to_hold,
    F_steps_to_hold := F_steps_to_hold,
    g_steps_to_hold := He.glo_ok X G (c.fact 17 (f := .glo "steps_to_hold") rfl),
    b_steps_to_hold := b_steps_to_hold,
    a_is_aside := _,
    d_is_aside := d_is_aside,
    F_is_aside := F_is_aside,
    g_is_aside := He.glo_ok X G (c.fact 18 (f := .glo "is_aside") rfl),
    b_is_aside := b_is_aside,
    a_is_held := _,
    d_is_held := d_is_held,
    F_is_held := F_is_held,
    g_is_held := He.glo_ok X G (c.fact 19 (f := .glo "is_held") rfl),
    b_is_held := b_is_held,
    a_is_gap := _,
    d_is_gap := d_is_gap,
    F_is_gap := F_is_gap,
    g_is_gap := He.glo_ok X G (c.fact 20 (f := .glo "is_gap") rfl),
    b_is_gap := b_is_gap,
    a_wrong_in := _,
    d_wrong_in := d_wrong_in,
    F_wrong_in := F_wrong_in,
    g_wrong_in := He.glo_ok X G (c.fact 21 (f := .glo "wrong_in") rfl),
    b_wrong_in := b_wrong_in,
    a_are_marks := _,
    d_are_marks := d_are_marks,
    F_are_marks := F_are_marks,
    g_are_marks := He.glo_ok X G (c.fact 22 (f := .glo "are_marks") rfl),
    b_are_marks := b_are_marks,
    a_most_wrong := _,
    d_most_wrong := d_most_wrong,
    F_most_wrong := F_most_wrong,
    g_most_wrong := He.glo_ok X G (c.fact 23 (f := .glo "most_wrong") rfl),
    b_most_wrong := b_most_wrong,
    a_l_bag := _,
    d_l_bag := d_l_bag,
    F_l_bag := F_l_bag,
    g_l_bag := He.glo_ok X G (c.fact 24 (f := .glo "_law_bag") rfl),
    b_l_bag := b_l_bag,
    a_l_take := _,
    d_l_take := d_l_take,
    F_l_take := F_l_take,
    g_l_take := He.glo_ok X G (c.fact 25 (f := .glo "_law_take") rfl),
    b_l_take := b_l_take,
    a_l_names := _,
    d_l_names := d_l_names,
    F_l_names := F_l_names,
    g_l_names := He.glo_ok X G (c.fact 26 (f := .glo "_law_names") rfl),
    b_l_names := b_l_names,
    a_l_net := _,
    d_l_net := d_l_net,
    F_l_net := F_l_net,
    g_l_net := He.glo_ok X G (c.fact 27 (f := .glo "_law_net") rfl),
    b_l_net := b_l_net,
    a_l_roads := _,
    d_l_roads := d_l_roads,
    F_l_roads := F_l_roads,
    g_l_roads := He.glo_ok X G (c.fact 28 (f := .glo "_law_roads") rfl),
    b_l_roads := b_l_roads,
    a_l_gap := _,
    d_l_gap := d_l_gap,
    F_l_gap := F_l_gap,
    g_l_gap := He.glo_ok X G (c.fact 29 (f := .glo "_law_gap") rfl),
    b_l_gap := b_l_gap,
    a_l_returns := _,
    d_l_returns := d_l_returns,
    F_l_returns := F_l_returns,
    g_l_returns := He.glo_ok X G (c.fact 30 (f := .glo "_law_returns") rfl),
    b_l_returns := b_l_returns,
    a_l_ordered := _,
    d_l_ordered := d_l_ordered,
    F_l_ordered := F_l_ordered,
    g_l_ordered := He.glo_ok X G (c.fact 31 (f := .glo "_law_ordered") rfl),
    b_l_ordered := b_l_ordered,
    a_l_table := _,
    d_l_table := d_l_table,
    F_l_table := F_l_table,
    g_l_table := He.glo_ok X G (c.fact 32 (f := .glo "_law_table") rfl),
    b_l_table := b_l_table,
    a_l_is := _,
    d_l_is := d_l_is,
    F_l_is := F_l_is,
    g_l_is := He.glo_ok X G (c.fact 33 (f := .glo "_law_is") rfl),
    b_l_is := b_l_is,
    a_l_same := _,
    d_l_same := d_l_same,
    F_l_same := F_l_same,
    g_l_same := He.glo_ok X G (c.fact 34 (f := .glo "_law_same") rfl),
    b_l_same := b_l_same,
    a_l_is_gap := _,
    d_l_is_gap := d_l_is_gap,
    F_l_is_gap := F_l_is_gap,
    g_l_is_gap := He.glo_ok X G (c.fact 35 (f := .glo "_law_is_gap") rfl),
    b_l_is_gap := b_l_is_gap,
    a_l_wrong_any := _,
    d_l_wrong_any := d_l_wrong_any,
    F_l_wrong_any := F_l_wrong_any,
    g_l_wrong_any := He.glo_ok X G (c.fact 36 (f := .glo "_law_wrong_any") rfl),
    b_l_wrong_any := b_l_wrong_any,
    a_l_marks_bound := _,
    d_l_marks_bound := d_l_marks_bound,
    F_l_marks_bound := F_l_marks_bound,
    g_l_marks_bound := He.glo_ok X G (c.fact 37 (f := .glo "_law_marks_bound") rfl),
    b_l_marks_bound := b_l_marks_bound,
    a_l_where := _,
    d_l_where := d_l_where,
    F_l_where := F_l_where,
    g_l_where := He.glo_ok X G (c.fact 38 (f := .glo "_law_where") rfl),
    b_l_where := b_l_where,
    a_l_told := _,
    d_l_told := d_l_told,
    F_l_told := F_l_told,
    g_l_told := He.glo_ok X G (c.fact 39 (f := .glo "_law_told") rfl),
    b_l_told := b_l_told,
    a_l_any := _,
    d_l_any := d_l_any,
    F_l_any := F_l_any,
    g_l_any := He.glo_ok X G (c.fact 40 (f := .glo "_law_any") rfl),
    b_l_any := b_l_any,
    a_l_part := _,
    d_l_part := d_l_part,
    F_l_part := F_l_part,
    g_l_part := He.glo_ok X G (c.fact 41 (f := .glo "_law_part") rfl),
    b_l_part := b_l_part,
    a_l_bent_steps := _,
    d_l_bent_steps := d_l_bent_steps,
    F_l_bent_steps := F_l_bent_steps,
    g_l_bent_steps := He.glo_ok X G (c.fact 42 (f := .glo "_law_bent_steps") rfl),
    b_l_bent_steps := b_l_bent_steps,
    a_l_bent_marks := _,
    d_l_bent_marks := d_l_bent_marks,
    F_l_bent_marks := F_l_bent_marks,
    g_l_bent_marks := He.glo_ok X G (c.fact 43 (f := .glo "_law_bent_marks") rfl),
    b_l_bent_marks := b_l_bent_marks,
    a_l_bent := _,
    d_l_bent := d_l_bent,
    F_l_bent := F_l_bent,
    g_l_bent := He.glo_ok X G (c.fact 44 (f := .glo "_law_bent") rfl),
    b_l_bent := b_l_bent,
    a_l_copied := _,
    d_l_copied := d_l_copied,
    F_l_copied := F_l_copied,
    g_l_copied := He.glo_ok X G (c.fact 45 (f := .glo "_law_copied") rfl),
    b_l_copied := b_l_copied,
    t_NUMBER := t_NUMBER,
    c_NUMBER := c_NUMBER,
    t_JUNCTION := t_JUNCTION,
    c_JUNCTION := c_JUNCTION,
    t_DAY := t_DAY,
    c_DAY := c_DAY,
    t_HOUR := t_HOUR,
    c_HOUR := c_HOUR,
    t_OVER := t_OVER,
    c_OVER := c_OVER,
    z_ValueError := He.free_ok X G (c.fact 52 (f := .free "ValueError") rfl),
    z_abs := He.free_ok X G (c.fact 53 (f := .free "abs") rfl),
    z_all := He.free_ok X G (c.fact 54 (f := .free "all") rfl),
    z_any := He.free_ok X G (c.fact 55 (f := .free "any") rfl),
    z_bool := He.free_ok X G (c.fact 56 (f := .free "bool") rfl),
    z_dict := He.free_ok X G (c.fact 57 (f := .free "dict") rfl),
    z_enumerate := He.free_ok X G (c.fact 58 (f := .free "enumerate") rfl),
    z_int := He.free_ok X G (c.fact 59 (f := .free "int") rfl),
    z_isinstance := He.free_ok X G (c.fact 60 (f := .free "isinstance") rfl),
    z_len := He.free_ok X G (c.fact 61 (f := .free "len") rfl),
    z_list := He.free_ok X G (c.fact 62 (f := .free "list") rfl),
    z_max := He.free_ok X G (c.fact 63 (f := .free "max") rfl),
    z_min := He.free_ok X G (c.fact 64 (f := .free "min") rfl),
    z_range := He.free_ok X G (c.fact 65 (f := .free "range") rfl),
    z_reversed := He.free_ok X G (c.fact 66 (f := .free "reversed") rfl),
    z_sorted := He.free_ok X G (c.fact 67 (f := .free "sorted") rfl),
    z_str := He.free_ok X G (c.fact 68 (f := .free "str") rfl),
    z_sum := He.free_ok X G (c.fact 69 (f := .free "sum") rfl),
    z_super := He.free_ok X G (c.fact 70 (f := .free "super") rfl),
    z_tuple := He.free_ok X G (c.fact 71 (f := .free "tuple") rfl),
    z_zip := He.free_ok X G (c.fact 72 (f := .free "zip") rfl),
    a_HouseError := _,
    g_HouseError := He.glo_ok X G (c.fact 73 (f := .glo "HouseError") rfl),
    a_NoNet := _,
    g_NoNet := He.glo_ok X G (c.fact 74 (f := .glo "NoNet") rfl),
    a_NoWay := _,
    g_NoWay := He.glo_ok X G (c.fact 75 (f := .glo "NoWay") rfl),
    a_NoWagon := _,
    g_NoWagon := He.glo_ok X G (c.fact 76 (f := .glo "NoWagon") rfl),
    a_NoRules := _,
    g_NoRules := He.glo_ok X G (c.fact 77 (f := .glo "NoRules") rfl),
    a_NoPaper := _,
    g_NoPaper := He.glo_ok X G (c.fact 78 (f := .glo "NoPaper") rfl),
    a_NoProof := _,
    g_NoProof := He.glo_ok X G (c.fact 79 (f := .glo "NoProof") rfl),
    a_NotYet := _,
    g_NotYet := He.glo_ok X G (c.fact 80 (f := .glo "NotYet") rfl),
    a_TooMany := _,
    g_TooMany := He.glo_ok X G (c.fact 81 (f := .glo "TooMany") rfl),
    a_TooLate := _,
    g_TooLate := He.glo_ok X G (c.fact 82 (f := .glo "TooLate") rfl),
    a_NoLine := _,
    g_NoLine := He.glo_ok X G (c.fact 83 (f := .glo "NoLine") rfl),
    a_Stopped := _,
    g_Stopped := He.glo_ok X G (c.fact 84 (f := .glo "Stopped") rfl),
    a_NoMonth := _,
    g_NoMonth := He.glo_ok X G (c.fact 85 (f := .glo "NoMonth") rfl),
    a_NoBill := _,
    g_NoBill := He.glo_ok X G (c.fact 86 (f := .glo "NoBill") rfl),
    a_NoText := _,
    g_NoText := He.glo_ok X G (c.fact 87 (f := .glo "NoText") rfl),
    a_NoSaying := _,
    g_NoSaying := He.glo_ok X G (c.fact 88 (f := .glo "NoSaying") rfl),
    i_NoProof := _,
    t_NoProof := z_NoProof.1,
    c_NoProof := z_NoProof.2.2.1,
    f_NoProof := z_NoProof.2.2.2,
    m_NoProof_HouseError := of_decide_eq_true (He.ba (He.ba c'.more).2).1,
    k0_NoProof := of_decide_eq_true (He.ba (He.ba (He.ba c'.more).2).2).1,
    k1_NoProof := of_decide_eq_true (He.ba (He.ba (He.ba (He.ba c'.more).2).2).2).1,
    ks_NoProof := of_decide_eq_true (He.ba (He.ba (He.ba (He.ba (He.ba c'.more).2).2).2).2).1,
    kv_NoProof := of_decide_eq_true (He.ba (He.ba (He.ba (He.ba (He.ba c'.more).2).2).2).2).2 }
  have e := hfa.symm.trans (He.glo_ok X G (c.fact 46 (f := .glo "law") rfl))
  cases e
  have b := FunD.bindsA (ps := ["_law_script"]) F_law fun _ _ _ _ _ _ us hl => match us, hl with | [_], _ => rfl
  refine ⟨d_law, tf.map (He.cT K), sp_law T, fun p hp => ?_, fun p hp => ?_, fun p hp => ?_, fun s v => b s [v] rfl, fun H a ns hl _ hH hS => ⟨a, ns, rfl, hS, hl, LamX.TabS.nil (hH (He.cT K ("in_order", none)) (List.mem_map_of_mem (f := He.cT K) (List.mem_of_getElem? (l := tf) (i := 0) rfl))), fun _ => rfl⟩, fun base _ _ hTB => ok_law F_law T (hTB (He.cT K ("in_order", none)) (List.mem_map_of_mem (f := He.cT K) (List.mem_of_getElem? (l := tf) (i := 0) rfl)))⟩
  · obtain ⟨q, hq, rfl⟩ := List.mem_map.mp hp
    exact c'.empty q hq
  · obtain ⟨q, hq, rfl⟩ := List.mem_map.mp hp
    exact c'.out q hq
  · obtain ⟨q, hq, rfl⟩ := List.mem_map.mp hp
    exact PySem.W.codeHd_of_K X (c'.hd q hq)
end Th
open PySem PySem.W PySem.Calls PyProof.Rows
set_option maxHeartbeats 0 in
theorem PySem.Challenge.cw_throughlines_k38_looker_refuses_holds : PySem.Challenge.rw_throughlines_k38_looker_refuses.Holds := by
  w_on; o_law
  refine HandSHeadRun.head_any (r := OpenLaw.row PySem.Challenge.rw_throughlines_k38_looker_refuses) (q := view (OpenLaw.row PySem.Challenge.rw_throughlines_k38_looker_refuses).prog [72]) (H := Th.hk) (ob := Th.ob) (M := 8000) (loose := Th.loose) (d := HandSHeadRun.topDef (OpenLaw.row PySem.Challenge.rw_throughlines_k38_looker_refuses).prog 72) (kwd := []) Th.ob_eq
    (by kernel_rfl) (fun s => by kernel_rfl) Th.run (by kernel_rfl) (by kernel_rfl) (by kernel_rfl) (by rfl) (by first | assumption | decide +kernel) (by decide +kernel) ⟨rfl, rfl, rfl, rfl, rfl, by decide +kernel⟩ ?hw ?hc
  case hw => w_witness2
  case hc =>
    refine LamX.walk_ofTsE (l := PySem.Challenge.rw_throughlines_k38_looker_refuses) (n := 63) (k := 10) (x := "_law_script") (CX := fun _ => L2.CX0) rfl (by decide) (by kernel_rfl) ⟨rfl, by decide, by decide⟩ ?F (fun _ _ _ _ _ z => z)
    intro w mg fa h Y G hmg0
    obtain ⟨K, KX, c⟩ := Y
    have hmg : mg ("law" : PySem.Str) = some (.ref fa) := by
      have e : (HandSHeadRun.topDef (OpenLaw.row PySem.Challenge.rw_throughlines_k38_looker_refuses).prog 72).name = ("law" : PySem.Str) := by kernel_rfl
      rw [← e]
      exact hmg0
    exact ⟨K, KX, Th.facts KX G hmg c⟩
