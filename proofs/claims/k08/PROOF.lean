import PyProof.Rows.All
import Wide.All
import OpenK.AllK
import Wide.FinOn
import KE.KStateDown
import Lean
import HandS.ForMost
import HandS.More
import HandS.WordsExc
import HandS.Defaults
import HandS.IsInst
import HandS.Zip
import HandS.Walk
import HandS.Wide
import HandS.Flow
import HandS.Evl
import HandS.Strs
import HandS.SetFor
import KE.KDictZip
import KE.KItemsList
import HandS.DictComp
import HandS.Style
import HandS.TupAny
import KE.KDictPairs
import KE.SortData
import HandS.ReCall
import KE.KRevSl
import KE.GoesZip
import KE.GoesMore
import KE.GoesEnum
import HandS.Deep
import KE.DataFind
import HandS.Set
import HandS.SetBool
import HandS.Codes
import HandS.DictTup
import HandS.ListItems
import HandS.Text
import HandS.TupLe
import HandS.Head0
import HandS.Head1
import HandS.Head2
import HandS.HeadEnd
import HandS.HeadHook1
import HandS.HeadHook2
import PySem.Challenge.RW_throughlines_k08_what_is_a_way
set_option Elab.async false
set_option linter.all false
set_option maxRecDepth 100000
set_option maxHeartbeats 4000000
namespace Th
open PySem PySem.Spec PyProof.Rows L2
/-! heaps -/
theorem same_upd {H : Hp} {p : Addr} {o : HO} (h : H p = none) : Same H (upd H p o) := fun b x e => by
  rw [upd_ne (ne_of_none e h)]
  exact e
/-- all but p stays -/
def Keep (p : Addr) (H H' : Hp) : Prop := ∀ b o, b ≠ p → H b = some o → H' b = some o
theorem Keep.refl (p : Addr) (H : Hp) : Keep p H H := fun _ _ _ h => h
theorem Keep.trans {p : Addr} {H H1 H2 : Hp} (a : Keep p H H1) (b : Keep p H1 H2) : Keep p H H2 := fun c o n h => b c o n (a c o n h)
theorem Keep.of {p : Addr} {H H1 : Hp} (a : Same H H1) : Keep p H H1 := fun c o _ h => a c o h
theorem Keep.upd {p : Addr} {H : Hp} {o : HO} : Keep p H (upd H p o) := fun c o n h => by rw [upd_ne n]; exact h
/-- the bag of draws at p -/
def Bag (H : Hp) (p : Addr) : Prop := ∃ g r : Int, H p = some (.lst [.int g, .int r]) ∧ 0 ≤ g ∧ 0 ≤ r ∧ r < 2147483648
theorem Bag.keep {H H' : Hp} {p : Addr} (b : Bag H p) (s : Same H H') : Bag H' p := by
  obtain ⟨g, r, e, h⟩ := b
  exact ⟨g, r, s _ _ e, h⟩
theorem Bag.some {H : Hp} {p : Addr} (b : Bag H p) : ∃ o, H p = Option.some o := by
  obtain ⟨g, r, e, _⟩ := b
  exact ⟨_, e⟩
theorem Bag.ne {H : Hp} {p q : Addr} (b : Bag H p) (h : H q = none) : q ≠ p := by
  obtain ⟨g, r, e, _⟩ := b
  exact (ne_of_none e h).symm
theorem p8 : (0 : Int) < 8 := by decide
theorem pA : (0 : Int) < 2147483647 := by decide
theorem pB : (0 : Int) < 2147483629 := by decide
theorem primes_at (i : Nat) : ∃ pr : Int, atI [V.int 2147483629, .int 2147483587, .int 2147483579, .int 2147483563, .int 2147483549, .int 2147483543, .int 2147483497, .int 2147483489] ((i : Int) % 8) = some (.int pr) ∧ 0 < pr ∧ pr < 2147483648 := by
  have e : ((i : Int) % 8) = ((i % 8 : Nat) : Int) := by omega
  rw [e]
  have h : i % 8 < 8 := Nat.mod_lt _ (by decide)
  generalize i % 8 = j at h
  have c : j = 0 ∨ j = 1 ∨ j = 2 ∨ j = 3 ∨ j = 4 ∨ j = 5 ∨ j = 6 ∨ j = 7 := by omega
  rcases c with rfl | rfl | rfl | rfl | rfl | rfl | rfl | rfl
  all_goals exact ⟨_, atI_nat rfl, by decide, by decide⟩
def sp_bag (K : PySem.W.Frag) : Sp := fun vs H Q _ => ∃ (a : Addr) (ns : List Int) (i : Nat), vs = [.ref a, .int i] ∧ SqL K H a (ns.map V.int) ∧ i < 1000000 ∧ ∀ H' p, Same H H' → H p = none → Bag H' p → Q (.ref p) H'
def sp_take : Sp := fun vs H Q _ => ∃ (p : Addr) (m : Int), vs = [.ref p, .int m] ∧ Bag H p ∧ 0 < m ∧ m < 1073741824 ∧ ∀ H' d, Keep p H H' → Bag H' p → 0 ≤ d → d < m → Q (.int d) H'
/-! data that is tracked, at addresses of which S holds -/
mutual
inductive Dt (S : Addr → Prop) (H : Hp) : V → PyData → Prop
  | non : Dt S H .non .none
  | bl (b : Bool) : Dt S H (.bl b) (.bool b)
  | int (i : Int) : Dt S H (.int i) (.int i)
  | str (x : Str) : Dt S H (.str x) (.str x)
  | lst {a : Addr} {xs : List V} {ds : List PyData} : S a → H a = some (.lst xs) → xs.length ≤ 5000 → DtAll S H xs ds → Dt S H (.ref a) (.list ds)
  | tup {a : Addr} {xs : List V} {ds : List PyData} : S a → H a = some (.tup xs) → xs.length ≤ 5000 → DtAll S H xs ds → Dt S H (.ref a) (.tuple ds)
inductive DtAll (S : Addr → Prop) (H : Hp) : List V → List PyData → Prop
  | nil : DtAll S H [] []
  | cons {v : V} {vs : List V} {d : PyData} {ds : List PyData} : Dt S H v d → DtAll S H vs ds → DtAll S H (v :: vs) (d :: ds)
end
mutual
theorem Dt.mono {S S' : Addr → Prop} {H H' : Hp} (hS : ∀ a, S a → S' a) (hh : ∀ a o, S a → H a = some o → H' a = some o) : ∀ {v : V} {d : PyData}, Dt S H v d → Dt S' H' v d
  | _, _, .non => .non
  | _, _, .bl b => .bl b
  | _, _, .int b => .int b
  | _, _, .str b => .str b
  | _, _, .lst s e l r => .lst (hS _ s) (hh _ _ s e) l (DtAll.mono hS hh r)
  | _, _, .tup s e l r => .tup (hS _ s) (hh _ _ s e) l (DtAll.mono hS hh r)
theorem DtAll.mono {S S' : Addr → Prop} {H H' : Hp} (hS : ∀ a, S a → S' a) (hh : ∀ a o, S a → H a = some o → H' a = some o) : ∀ {v : List V} {d : List PyData}, DtAll S H v d → DtAll S' H' v d
  | _, _, .nil => .nil
  | _, _, .cons a r => .cons (Dt.mono hS hh a) (DtAll.mono hS hh r)
end
mutual
theorem Dt.dp {K : PySem.W.Frag} {S : Addr → Prop} {H : Hp} : ∀ {v : V} {d : PyData}, Dt S H v d → Dp K H v d
  | _, _, .non => .non
  | _, _, .bl b => .bl b
  | _, _, .int b => .int b
  | _, _, .str b => .str b
  | _, _, .lst s e l r => .lst (SqL.of e) (DtAll.dp r)
  | _, _, .tup s e l r => .tup (SqT.of e) (DtAll.dp r)
theorem DtAll.dp {K : PySem.W.Frag} {S : Addr → Prop} {H : Hp} : ∀ {v : List V} {d : List PyData}, DtAll S H v d → DpAll K H v d
  | _, _, .nil => .nil
  | _, _, .cons a r => .cons (Dt.dp a) (DtAll.dp r)
end
abbrev SA : Addr → Prop := fun _ => True
theorem Dt.same {H H' : Hp} {v : V} {d : PyData} (s : Same H H') (h : Dt SA H v d) : Dt SA H' v d := h.mono (fun _ x => x) fun a o _ e => s a o e
theorem DtAll.same {H H' : Hp} {v : List V} {d : List PyData} (s : Same H H') (h : DtAll SA H v d) : DtAll SA H' v d := h.mono (fun _ x => x) fun a o _ e => s a o e
theorem DtAll.len {S : Addr → Prop} {H : Hp} : ∀ {v : List V} {d : List PyData}, DtAll S H v d → v.length = d.length
  | _, _, .nil => rfl
  | _, _, .cons _ r => congrArg Nat.succ r.len
theorem DtAll.get {S : Addr → Prop} {H : Hp} : ∀ {v : List V} {d : List PyData} {i : Nat} {x : V}, DtAll S H v d → v[i]? = some x → ∃ e, d[i]? = some e ∧ Dt S H x e
  | _, _, _, _, .nil, h => by simp at h
  | _, _, 0, _, .cons a r, h => by
    have e := Option.some.inj h
    subst e
    exact ⟨_, rfl, a⟩
  | _, _, i + 1, _, .cons a r, h => r.get (i := i) h
/-! depth, what may be laid -/
theorem depth_mem : ∀ {ds : List PyData} {i : Nat} {d : PyData}, ds[i]? = some d → PyData.depth d ≤ PyData.depthAll ds
  | [], _, _, h => by simp at h
  | x :: xs, 0, d, h => by
    have e := Option.some.inj h
    subst e
    rw [PyData.depthAll]
    exact Nat.le_max_left _ _
  | x :: xs, i + 1, d, h => by
    rw [PyData.depthAll]
    exact Nat.le_trans (depth_mem (i := i) h) (Nat.le_max_right _ _)
theorem lay_mem : ∀ {ds : List PyData} {i : Nat} {d : PyData}, PyData.canLayAll0 ds = true → ds[i]? = some d → PyData.canLay0 d = true
  | [], _, _, _, h => by simp at h
  | x :: xs, 0, d, c, h => by
    have e := Option.some.inj h
    subst e
    rw [PyData.canLayAll0, Bool.and_eq_true_iff] at c
    exact c.1
  | x :: xs, i + 1, d, c, h => by
    rw [PyData.canLayAll0, Bool.and_eq_true_iff] at c
    exact lay_mem (i := i) c.2 h
/-! the types -/
def tyN : PyData → String
  | .none => "NoneType"
  | .bool _ => "bool"
  | .int _ => "int"
  | .str _ => "str"
  | .list _ => "list"
  | .tuple _ => "tuple"
  | .dict _ => "dict"
theorem Dt.ty {K : PySem.W.Frag} {S : Addr → Prop} {H : Hp} {v : V} {d : PyData} (h : Dt S H v d) : TyX K H v (.type (tyN d)) := by
  cases h with
  | non => exact .base .non
  | bl b => exact .base (.bl b)
  | int b => exact .base (.int b)
  | str b => exact .base (.str b)
  | lst s e l r => exact .base (.lst e)
  | tup s e l r => exact .base (.tup e)
def isB : PyData → Bool
  | .bool _ => true
  | _ => false
def isSeq : PyData → Bool
  | .list _ => true
  | .tuple _ => true
  | _ => false
theorem kit_bool {K : PySem.W.Frag} {S : Addr → Prop} {H : Hp} {v : V} {d : PyData} (h : Dt S H v d) : PySem.W.kitOne K (.type (tyN d)) (.type "bool") = some (isB d) := by
  cases h with
  | non => exact kit_ty (a := "NoneType") (b := "bool") (r := false) (by decide +kernel)
  | bl b => exact kit_ty (a := "bool") (b := "bool") (r := true) (by decide +kernel)
  | int b => exact kit_ty (a := "int") (b := "bool") (r := false) (by decide +kernel)
  | str b => exact kit_ty (a := "str") (b := "bool") (r := false) (by decide +kernel)
  | lst s e l r => exact kit_ty (a := "list") (b := "bool") (r := false) (by decide +kernel)
  | tup s e l r => exact kit_ty (a := "tuple") (b := "bool") (r := false) (by decide +kernel)
theorem kit2 {K : PySem.W.Frag} {n : String} (h1 : kitB n "list" = some false) (h2 : kitB n "tuple" = some false) : PySem.W.kitAny K (.type n) [.type "list", .type "tuple"] = some false :=
  kitAny_cons (b := false) (kit_ty h1) (fun _ => kitAny_cons (b := false) (kit_ty h2) (fun _ => kitAny_nil) (fun z => nomatch z)) (fun z => nomatch z)
theorem kit_seq {K : PySem.W.Frag} {S : Addr → Prop} {H : Hp} {v : V} {d : PyData} (h : Dt S H v d) : PySem.W.kitAny K (.type (tyN d)) [.type "list", .type "tuple"] = some (isSeq d) := by
  cases h with
  | non => exact kit2 (n := "NoneType") (by decide +kernel) (by decide +kernel)
  | bl b => exact kit2 (n := "bool") (by decide +kernel) (by decide +kernel)
  | int b => exact kit2 (n := "int") (by decide +kernel) (by decide +kernel)
  | str b => exact kit2 (n := "str") (by decide +kernel) (by decide +kernel)
  | lst s e l r => exact kitAny_cons (b := true) (kit_ty (a := "list") (by decide +kernel)) (fun z => nomatch z) (fun _ => rfl)
  | tup s e l r => exact kitAny_cons (b := false) (kit_ty (a := "tuple") (by decide +kernel)) (fun _ => kitAny_cons (b := true) (kit_ty (a := "tuple") (by decide +kernel)) (fun z => nomatch z) (fun _ => rfl)) (fun z => nomatch z)
/-! zip of two tuples, walked -/
theorem walk_zipT {K : PySem.W.Frag} {a b : Addr} {xs ys : List V} {n : Nat} (hn : n = min xs.length ys.length) : Walk (RZ.ItzT K a b) n (fun H => SqT K H a xs ∧ SqT K H b ys) (YPair (fun i => xs[i]?) (fun i => ys[i]?)) := by
  subst hn
  refine ⟨fun i _ hi q => ?_, fun _ q => ⟨xs, ys, q.1, q.2, by omega⟩, fun i H v H' _ q y => ?_⟩
  · have h1 : i < xs.length := by omega
    have h2 : i < ys.length := by omega
    exact ⟨xs, ys, xs[i], ys[i], q.1, q.2, by simp [h1], by simp [h2]⟩
  · obtain ⟨T, x, z, h1, h2, h3, h4, h5⟩ := y
    exact ⟨T, x, z, h1, h2, h3, h4 xs q.1, h5 ys q.2⟩
theorem yes_ {σ : L2.St} {H : Hp} {A B : Hp → Prop} (h : A H) : tYes σ H fun b H3 => if b = true then A H3 else B H3 := by
  show if true = true then A H else B H
  exact iteT h
theorem small5000 {n : Nat} (h : n ≤ 5000) : n < sizeLine := Nat.lt_of_le_of_lt h (by decide)
/-- told and due are the same data, of a depth below n: True -/
def sp_like (n : Nat) : Sp := fun vs H Q _ => ∃ (v u : V) (d : PyData), vs = [v, u] ∧ Dt SA H v d ∧ Dt SA H u d ∧ d.canLay0 = true ∧ d.depth < n ∧ n ≤ 60 ∧ ∀ H', Same H H' → Q (.bl true) H'
/-- xs[i] read for an augmented store, i from 0 on -/
theorem get_listN {X : Cx} : PGet X (fun o i H Q => ∃ (p : Addr) (xs : List V) (j : Nat) (v : V), o = .ref p ∧ i = .int j ∧ H p = some (.lst xs) ∧ xs[j]? = some v ∧ Q v H) := by
  intro pins s σ H o i ov iv Q I ro ri h
  obtain ⟨p, xs, j, v, rfl, rfl, hp, hx, q⟩ := h
  cases (show ov = Value.ref p from ro)
  obtain ⟨t, rfl⟩ := ri
  obtain ⟨its, r, pl, hz⟩ := I.list (SqL.of hp)
  obtain ⟨u, eu, ru⟩ := r.get hx
  have hj : j < xs.length := (List.getElem?_eq_some_iff.mp hx).1
  have h63 := line63
  exact wpAny_getItem_list pl.isList (by omega) (by omega) (by simpa using eu) ⟨v, H, I, ru, q⟩
/-- the d-th of some whole numbers -/
theorem pick {ms : List Int} {d : Int} (h0 : 0 ≤ d) (h1 : d < ms.length) : ∃ m ∈ ms, atI (ms.map V.int) d = some (.int m) := by
  obtain ⟨j, rfl⟩ : ∃ j : Nat, d = (j : Int) := ⟨d.toNat, by omega⟩
  have hj : j < ms.length := by omega
  refine ⟨ms[j], List.getElem_mem hj, atI_nat ?_⟩
  rw [List.getElem?_map, List.getElem?_eq_getElem hj]
  rfl
theorem Bag.at {H H' : Hp} {p : Addr} (b : Bag H p) (e : H' p = H p) : Bag H' p := by
  obtain ⟨g, r, h, k⟩ := b
  exact ⟨g, r, e.trans h, k⟩
theorem Keep.new {p q : Addr} {H H' : Hp} {o : HO} (k : Keep p H H') (n : H' q = none) : Keep p H (L2.upd H' q o) := k.trans (.of (same_upd n))
theorem Keep.free {p q : Addr} {H H' : Hp} (k : Keep p H H') (b : Bag H p) (h : H' q = none) (b' : Bag H' p) : H q = none := by
  cases e : H q with
  | none => rfl
  | some o =>
    by_cases z : q = p
    · rw [z] at h
      obtain ⟨g, r, e', _⟩ := b'
      rw [e'] at h
      cases h
    · rw [k q o z e] at h
      cases h
theorem rep_one {α : Type} (x : α) (m : Nat) : (List.replicate m [x]).flatten = List.replicate m x := by
  induction m with
  | zero => rfl
  | succ m ih => rw [List.replicate_succ, List.flatten_cons, ih, List.replicate_succ]; rfl
/-! lists of whole numbers as data -/
abbrev dI (zs : List Int) : PyData := .list (zs.map PyData.int)
theorem dtAll_ints {S : Addr → Prop} {H : Hp} : ∀ zs : List Int, DtAll S H (zs.map V.int) (zs.map PyData.int)
  | [] => .nil
  | z :: zs => .cons (.int z) (dtAll_ints zs)
theorem dt_ints {H : Hp} {x : Addr} {zs : List Int} (h : H x = some (.lst (zs.map V.int))) (hl : zs.length ≤ 5000) : Dt SA H (.ref x) (dI zs) := .lst trivial h (by rw [List.length_map]; exact hl) (dtAll_ints zs)
theorem layAll_ints : ∀ zs : List Int, PyData.canLayAll0 (zs.map PyData.int) = true
  | [] => rfl
  | z :: zs => by rw [List.map_cons, PyData.canLayAll0, layAll_ints zs]; rfl
theorem lay_ints (zs : List Int) : (dI zs).canLay0 = true := layAll_ints zs
theorem depthAll_ints : ∀ zs : List Int, PyData.depthAll (zs.map PyData.int) = 0
  | [] => rfl
  | z :: zs => by rw [List.map_cons, PyData.depthAll, depthAll_ints zs]; rfl
theorem depth_ints (zs : List Int) : (dI zs).depth = 1 := by
  show PyData.depthAll (zs.map PyData.int) + 1 = 1
  rw [depthAll_ints]
theorem shaped_ints (zs : List Int) : SeqAt.shaped (dI zs) = true := Bool.and_eq_true_iff.mpr ⟨lay_ints zs, decide_eq_true (by rw [depth_ints]; decide)⟩
theorem eqv_ints (zs : List Int) : PyData.eqv (dI zs) (dI zs) = true := SeqAt.eqv_refl _ (lay_ints zs)
/-! len by a reading that names K -/
def rLenS (K : PySem.W.Frag) : List V → Hp → VK → Prop := fun xs H Q => ∃ (p : Addr) (ys : List V), xs = [.ref p] ∧ (SqL K H p ys ∨ SqT K H p ys) ∧ Q (.int ys.length) H
theorem call_lenS {X : Cx} : CallR X (.builtin "len") (rLenS X.K) := call_len_seq
theorem nn_sum : ∀ {ws : List Int}, (∀ w ∈ ws, 0 ≤ w) → 0 ≤ ws.sum
  | [], _ => by simp
  | w :: ws, h => by
    have h1 := h w (List.mem_cons_self ..)
    have h2 := nn_sum (ws := ws) fun x hx => h x (List.mem_cons_of_mem _ hx)
    rw [List.sum_cons]
    omega
theorem pos_sum : ∀ {ws : List Int} {j : Nat} {x : Int}, (∀ w ∈ ws, 0 ≤ w) → ws[j]? = some x → 0 < x → 0 < ws.sum
  | [], _, _, _, h, _ => by simp at h
  | w :: ws, 0, x, hw, h, hx => by
    have e : w = x := Option.some.inj h
    have h2 := nn_sum (ws := ws) fun x hx => hw x (List.mem_cons_of_mem _ hx)
    rw [List.sum_cons]
    omega
  | w :: ws, j + 1, x, hw, h, hx => by
    have h1 := hw w (List.mem_cons_self ..)
    have h2 := pos_sum (ws := ws) (j := j) (x := x) (fun x hx => hw x (List.mem_cons_of_mem _ hx)) h hx
    rw [List.sum_cons]
    omega
theorem cut_ints (ws : List Int) (lo hi : Option Int) : ∃ ys : List Int, cutV (ws.map V.int) lo hi = ys.map V.int := by
  unfold cutV
  exact ⟨(ws.drop _).take _, by rw [List.map_take, List.map_drop]⟩
end Th
namespace Sl
open PySem PySem.Spec PyProof.Rows L2
/-- the object of a set just made -/
abbrev set0 (w : World) : Obj := { cls := .type "set", dict := none, data := .set #[] 0 (.fresh 0 0 (!w.params.followText "set-order")) }
section
variable {P : Program} {w : World} {A : Around} {E : Value → Shared → Prop} {s : Shared}
set_option maxHeartbeats 8000000 in
/-- set(xs) of a list of whole numbers -/
theorem set_of_ints {l : Addr} {its : Array Value} (ns : List Int) {Q : Value → Shared → Prop} (nh : A.handled = none) (il : s.heap.IsList l its) (ii : IntsAre its.toList ns) (nb : ns.length + 1 < scanBound)
    (fin : ∀ (g : Heap) (tk c : Nat), SetR w g s.heap.objs.size (fun j => decide (j ∈ ns)) c → c ≤ ns.length → (∀ b o, s.heap.get? b = some o → g.get? b = some o) → Q (.ref s.heap.objs.size) { s with heap := g, toks := tk }) :
    wpAny (model P w) A (call (.type "set") [.ref l]) Q E s := by
  have isz : its.size = ns.length := by
    have z := IntsAre.length ii
    rwa [Array.length_toList] at z
  obtain ⟨_, _, mro⟩ := F.called_set.mro
  have m1 := F.called_set.made
  have m2 := F.called_set.sub
  have m3 := F.called_set.notType
  have m4 := F.called_set.canCreate
  have m5 := F.typeCall_set_1 (.ref l)
  refine wpAny_call (codeAny_of_tree (?_ : wpAny _ _ (callAny (.type "set") _) _ _ _))
  refine wpAny_pure ⟨Code.quiet_builtin _ (by decide +kernel), codeAny_builtin F.entry_type_call ?_⟩
  rw [Around.under_plain (weight_type_call_type "set" [.ref l] []) rfl]
  repeat (any_goals (first | assumption | wp_step))
  refine codeAny_mono (code_set_led1 (.ref l) (E := E) (Q₁ := fun ob z => ob = .ref s.heap.objs.size ∧ z = { s with heap := s.heap.push (set0 w) }) ⟨rfl, rfl⟩) fun r z hz => ?_
  cases r with
  | error e => exact hz
  | ok fl =>
    cases fl with
    | ret ob =>
      obtain ⟨rfl, rfl⟩ := hz
      have zS : (s.heap.push (set0 w)).get? s.heap.objs.size = some (set0 w) := Heap.get?_push_size _ rfl
      have zT : Shared.TypeIs { s with heap := s.heap.push (set0 w) } (.ref s.heap.objs.size) "set" := ⟨_, zS, rfl⟩
      have n1 := F.called_set.init.lookup
      have n2 := F.called_set.init.bind (.ref s.heap.objs.size)
      repeat (any_goals (first | assumption | wp_step))
      refine codeAny_mono (codeAny_call_builtin (R := wants (fun r z => r = .none ∧ ∃ g tk c, z = { s with heap := g, toks := tk } ∧ SetR w g s.heap.objs.size (fun j => decide (j ∈ ns)) c ∧ c ≤ ns.length ∧ ∀ b o, s.heap.get? b = some o → g.get? b = some o) E)
        F.called_set.init.plain F.entry_set_init (check_set_init_1 zT ?_)) fun r2 z2 hz2 => ?_
      · obtain ⟨⟨oc, od, odt, osl⟩, ol, c1, nl, c2⟩ := il
        simp only at c1 c2
        subst c1 c2
        have ol2 : (s.heap.push (set0 w)).get? l = some { cls := .type "list", dict := od, data := .seq its nl, slots := osl } := Heap.get?_push_of_some _ ol
        have k1 := F.sub_list_set
        have k2 := F.sub_list_frozenset
        have k3 : (Value.type "list" == Value.type "dict") = false := by decide
        have il2 : (s.heap.push (set0 w)).IsList l its := ⟨_, ol2, rfl, nl, rfl⟩
        unfold Builtin.«set.__init__» noKeywords Builtin.Frozenset.updateFrom
        generalize ePI : pyIter = PI
        wp_walk
        subst ePI
        refine wpAny_pyIter_list il2 (wpAny_bind (wpAny_runValue ?_))
        have lS : l < s.heap.objs.size := Heap.lt_size ol
        have h3 : A.in1.in1.in1.handled = none := by simp [nh]
        have nI : l ≠ (s.heap.push (set0 w)).objs.size := by
          rw [Heap.size_push]
          exact Nat.ne_of_lt (Nat.lt_succ_of_lt lS)
        have nf : s.heap.objs.size ∉ [(s.heap.push (set0 w)).objs.size, l] := by
          rw [Heap.size_push]
          simp only [List.mem_cons, List.not_mem_nil, or_false, not_or]
          exact ⟨Nat.ne_of_lt (Nat.lt_succ_self _), Nat.ne_of_gt lS⟩
        have vl : ∀ (i : Nat) (v : Value), its[i]? = some v → ∃ k t, ns[i]? = some k ∧ v = .int k t := fun i v hv => by
          have hi : i < ns.length := by rw [← isz]; exact (Array.getElem?_eq_some_iff.mp hv).1
          obtain ⟨t, e⟩ := IntsAre.int_at ii i v (by rw [Array.getElem?_toList]; exact hv)
          refine ⟨ns[i], t, List.getElem?_eq_getElem hi, ?_⟩
          rw [e, List.getD_eq_getElem?_getD, List.getElem?_eq_getElem hi] <;> rfl
        refine set_update_ints ((Walks.list h3 _ l nI its).toS) s.heap.objs.size nf ns isz nb vl (its.size - 0) 0 _ (by omega) (Nat.zero_le _) ⟨⟨_, Heap.get?_push_size _ rfl, rfl, rfl⟩, il2.push _⟩ ?zStart ?zEnd
        case zStart => exact ⟨0, Nat.le_refl 0, setR_new_at (Heap.get?_push_of_some _ zS)⟩
        case zEnd =>
          intro z c hm hc hS
          obtain ⟨g, gg, dd, tk, os⟩ := z
          have e1 : gg = s.gens := hm.gens
          have e2 : dd = s.drawn := hm.drawn
          have e3 : os = s.os := hm.os
          subst e1 e2 e3
          refine wpAny_pure (?_ : wpAny _ _ (ret Value.none) _ _ _)
          rw [isz] at hc
          refine wpAny_pure ⟨rfl, g, tk, c, rfl, hS, hc, fun b o e => ?_⟩
          have b0 : b < s.heap.objs.size := Heap.lt_size e
          refine hm.heap b o ?_ (Heap.get?_push_of_some _ (Heap.get?_push_of_some _ e))
          rw [Heap.size_push]
          simp only [List.mem_cons, List.not_mem_nil, or_false, not_or]
          exact ⟨Nat.ne_of_lt b0, Nat.ne_of_lt (Nat.lt_succ_of_lt b0)⟩
      · cases r2 with
        | error e => exact hz2
        | ok f2 =>
          cases f2 with
          | ret r =>
            obtain ⟨rfl, g, tk, c, rfl, q1, q2, q3⟩ := hz2
            repeat (any_goals (first | assumption | wp_step))
            exact fin _ _ _ q1 q2 q3
          | _ => exact hz2.elim
    | _ => exact hz.elim
end
def rSetI (K : PySem.W.Frag) (w : World) : List V → Hp → VK → Prop := fun xs H Q => ∃ (l : Addr) (ns : List Int), xs = [.ref l] ∧ SqL K H l (ns.map V.int) ∧ ns.length ≤ 1000 ∧ ∀ p c, H p = none → c ≤ ns.length → Q (.ref p) (upd H p (SetO w p (fun j => decide (j ∈ ns)) c))
theorem call_setI {X : Cx} (hc : X.calm = true) : CallR X (.type "set") (rSetI X.K X.w) := by
  intro pins s σ H xs us Q I r h
  obtain ⟨l, ns, rfl, hs, hl, q⟩ := h
  rw [Vals.ref1 r]
  obtain ⟨its, rv, pl, hz⟩ := I.list hs
  refine set_of_ints ns (I.ok.hd hc) pl.isList (ints_of_vals rv) (by unfold scanBound; omega) fun g tk c R hcn k => ?_
  exact ⟨.ref _, _, I.laid (t' := tk) k (Nat.le_refl _) (setO_new R), rfl, q _ c (I.hok.fresh (Nat.le_refl _)) hcn⟩
end Sl
/-! list(zip(xs, ys)), xs and ys lists of one length: a new list of new tuples -/
namespace Lz
open PySem PySem.Spec PyProof.Rows L2
theorem no_len : typeLookup (.type "zip") "__len__" = pure none := am_miss_of_fast (by decide +kernel)
theorem no_hint : typeLookup (.type "zip") "__length_hint__" = pure none := am_miss_of_fast (by decide +kernel)
structure ZS (z TI TO i1 i2 l1 l2 S : Addr) (xs ys : Array Value) (i : Nat) (h : Heap) : Prop where
  ti : IsPair h TI (.ref i1) (.ref i2)
  a1 : h.IsListIter i1 l1 i
  a2 : h.IsListIter i2 l2 i
  b1 : h.IsList l1 xs
  b2 : h.IsList l2 ys
  zz : (IsZip h z TI TO .none ∧ ∃ a b, IsPair h TO a b) ∨ ∃ T f oT, IsZipHeld h z TI TO T f ∧ h.get? T = some oT ∧ T ≠ z ∧ T ≠ i1 ∧ T ≠ i2 ∧ T ≠ S
structure Off (z TI TO i1 i2 l1 l2 S : Addr) : Prop where
  z : z ≠ S
  ti : TI ≠ S
  to' : TO ≠ S
  i1 : i1 ≠ S
  i2 : i2 ≠ S
  l1 : l1 ≠ S
  l2 : l2 ≠ S
theorem ZS.frame {z TI TO i1 i2 l1 l2 S : Addr} {xs ys : Array Value} {i : Nat} {h h' : Heap} (O : Off z TI TO i1 i2 l1 l2 S) (st : ZS z TI TO i1 i2 l1 l2 S xs ys i h) (hk : ∀ b o, b ≠ S → h.get? b = some o → h'.get? b = some o) : ZS z TI TO i1 i2 l1 l2 S xs ys i h' := by
  refine ⟨hk _ _ O.ti st.ti, st.a1.at fun o e => hk _ o O.i1 e, st.a2.at fun o e => hk _ o O.i2 e, st.b1.at fun o e => hk _ o O.l1 e, st.b2.at fun o e => hk _ o O.l2 e, ?_⟩
  rcases st.zz with ⟨hz, a, b, hTO⟩ | ⟨T, f, oT, hz, hT, r1, r2, r3, r4⟩
  · exact .inl ⟨hk _ _ O.z hz, a, b, hk _ _ O.to' hTO⟩
  · exact .inr ⟨T, f, oT, hk _ _ O.z hz, hk _ _ r4 hT, r1, r2, r3, r4⟩
structure ZG (xs ys : Array Value) (lo : Addr) (h : Heap) (as : List Addr) : Prop where
  rise : as.Pairwise (· < ·)
  above : ∀ a ∈ as, lo < a
  pairs : ∀ (j : Nat) (a : Addr), as[j]? = some a → ∃ x y, xs[j]? = some x ∧ ys[j]? = some y ∧ h.get? a = some { cls := .type "tuple", data := .seq #[x, y] }
theorem ZG.there {xs ys : Array Value} {lo : Addr} {h : Heap} {as : List Addr} (g : ZG xs ys lo h as) {a : Addr} (ha : a ∈ as) : a < h.objs.size := by
  obtain ⟨j, hj⟩ := List.mem_iff_getElem?.mp ha
  obtain ⟨_, _, _, _, e⟩ := g.pairs j a hj
  exact Heap.lt_size e
section
variable {prog : Program} {w : World} {A : Around} {E : Value → Shared → Prop} {s : Shared} {z TI TO i1 i2 l1 l2 S : Addr} {xs ys : Array Value} {i : Nat}
theorem z_item {x y : Value} {Q : Option Value → Shared → Prop} (D : ZipApart z TI TO i1 i2 l1 l2) (st : ZS z TI TO i1 i2 l1 l2 S xs ys i s.heap) (hS : S < s.heap.objs.size) (ex : xs[i]? = some x) (ey : ys[i]? = some y)
    (hQ : ∀ h', ZS z TI TO i1 i2 l1 l2 S xs ys (i + 1) h' → IsPair h' s.heap.objs.size x y → (∀ c o, c ≠ z → c ≠ TO → c ≠ i1 → c ≠ i2 → s.heap.get? c = some o → h'.get? c = some o) → Q (some (.ref s.heap.objs.size)) { s with heap := h' }) :
    wpAny (model prog w) A (pyNext (.ref z)) Q E s := by
  obtain ⟨hTI, h1, h2, hl1, hl2, hz⟩ := st
  have lt : ∀ {c o}, s.heap.get? c = some o → s.heap.objs.size ≠ c := fun e => Nat.ne_of_gt (Heap.lt_size e)
  have n1 : s.heap.objs.size ≠ i1 := let ⟨_, e, _⟩ := h1; lt e
  have n2 : s.heap.objs.size ≠ i2 := let ⟨_, e, _⟩ := h2; lt e
  rcases hz with ⟨hz, a, b, hTO⟩ | ⟨T, f, oT, hz, hT, r1, r2, r3, r4⟩
  · refine wpAny_pyNext_zip_item D hz hTI hTO h1 h2 hl1 hl2 ex ey fun h' a1 a2 a3 a4 a5 a6 hk => ?_
    exact hQ h' ⟨hk _ _ D.TIz D.TITO D.TIi1 D.TIi2 hTI, a3, a4, hl1.at fun o e => hk _ o D.l1z D.l1TO D.l1i1 D.l1i2 e, hl2.at fun o e => hk _ o D.l2z D.l2TO D.l2i1 D.l2i2 e, .inr ⟨s.heap.objs.size, false, _, a1, a5, lt hz, n1, n2, Nat.ne_of_gt hS⟩⟩ a5 hk
  · refine wpAny_pyNext_zip_item_held D hz hT hTI h1 h2 hl1 hl2 ex ey fun h' a1 a3 a4 a5 a6 hk => ?_
    exact hQ h' ⟨hk _ _ D.TIz D.TIi1 D.TIi2 hTI, a3, a4, hl1.at fun o e => hk _ o D.l1z D.l1i1 D.l1i2 e, hl2.at fun o e => hk _ o D.l2z D.l2i1 D.l2i2 e, .inr ⟨T, true, oT, a1, hk _ _ r1 r2 r3 hT, r1, r2, r3, r4⟩⟩ a5 fun c o c1 _ c3 c4 e => hk c o c1 c3 c4 e
theorem z_done {Q : Option Value → Shared → Prop} (hA : A.handled = none) (D : ZipApart z TI TO i1 i2 l1 l2) (st : ZS z TI TO i1 i2 l1 l2 S xs ys i s.heap) (hend : xs[i]? = none ∨ ys[i]? = none)
    (hQ : ∀ h', (∀ c o, c ≠ z → c ≠ TO → c ≠ i1 → c ≠ i2 → s.heap.get? c = some o → h'.get? c = some o) → Q none { s with heap := h' }) : wpAny (model prog w) A (pyNext (.ref z)) Q E s := by
  obtain ⟨hTI, h1, h2, hl1, hl2, hz⟩ := st
  rcases hz with ⟨hz, a, b, hTO⟩ | ⟨T, f, oT, hz, hT, r1, r2, r3, r4⟩
  · exact wpAny_pyNext_zip_end hA D hz hTI hTO h1 h2 hl1 hl2 hend fun h' hk => hQ h' hk
  · exact wpAny_pyNext_zip_end_held hA D hz hT hTI h1 h2 hl1 hl2 hend fun h' hk => hQ h' fun c o c1 _ c3 c4 e => hk c o c1 c3 c4 e
theorem z_loop {R : Result → Shared → Prop} (hh : A.handled = none) (D : ZipApart z TI TO i1 i2 l1 l2) (O : Off z TI TO i1 i2 l1 l2 S) (lz : z < S) (lt : TO < S) (li1 : i1 < S) (li2 : i2 < S) {n : Nat} (hx : xs.size = n) (hy : ys.size = n) (hn : n ≤ sizeLine) (res : Value) {h₁ : Heap}
    (hR : ∀ h' tk acc c as, (∀ b o, b ≠ S → b ≠ z → b ≠ TO → b ≠ i1 → b ≠ i2 → h₁.get? b = some o → h'.get? b = some o) → h'.get? S = some { cls := .type "list", dict := none, data := .seq acc c, slots := #[] } → as.length = n → ZG xs ys S h' as →
      acc.toList = as.map Value.ref → R (.ok (.ret res)) { s with heap := h', toks := tk }) :
    ∀ (k i : Nat) (h : Heap) (tk c : Nat) (acc : Array Value) (as : List Addr), n - i = k → i ≤ n → ZS z TI TO i1 i2 l1 l2 S xs ys i h → (∀ b o, b ≠ S → b ≠ z → b ≠ TO → b ≠ i1 → b ≠ i2 → h₁.get? b = some o → h.get? b = some o) →
      h.get? S = some { cls := .type "list", dict := none, data := .seq acc c, slots := #[] } → acc.toList = as.map Value.ref → as.length = i → ZG xs ys S h as →
      codeAny (model prog w) A (.builtin "list.extend.loop" ⟨[.ref S, .ref z, res], []⟩) R { s with heap := h, toks := tk } := by
  intro k
  induction k with
  | zero =>
    intro i h tk c acc as hk hi hst hkeep hS hacc hal hG
    refine codeAny_builtin PySem.F.entry_extend_loop ?_
    rw [Around.under_plainId PySem.F.plain_extend_loop _]
    show wpAny _ A.in1 (pyNext (.ref z) >>= _) _ _ _
    refine wpAny_bind (z_done (s := { s with heap := h, toks := tk }) (A := A.in1) hh D hst (.inl (Array.getElem?_eq_none (by omega))) fun h' he => ?_)
    refine wpAny_pure (hR h' tk acc c as (fun b o h1 h2 h3 h4 h5 e => he b o h2 h3 h4 h5 (hkeep b o h1 h2 h3 h4 h5 e)) (he S _ O.z.symm O.to'.symm O.i1.symm O.i2.symm hS) (by omega) ⟨hG.rise, hG.above, fun j a hj => ?_⟩ hacc)
    obtain ⟨x, y, e1, e2, e3⟩ := hG.pairs j a hj
    have ab := hG.above a (List.mem_of_getElem? hj)
    exact ⟨x, y, e1, e2, he a _ (Nat.ne_of_gt (Nat.lt_trans lz ab)) (Nat.ne_of_gt (Nat.lt_trans lt ab)) (Nat.ne_of_gt (Nat.lt_trans li1 ab)) (Nat.ne_of_gt (Nat.lt_trans li2 ab)) e3⟩
  | succ k ih =>
    intro i h tk c acc as hk hi hst hkeep hS hacc hal hG
    have hlt : i < n := by omega
    obtain ⟨x, ex⟩ : ∃ p, xs[i]? = some p := ⟨xs[i], Array.getElem?_eq_getElem (by omega)⟩
    obtain ⟨y, ey⟩ : ∃ p, ys[i]? = some p := ⟨ys[i], Array.getElem?_eq_getElem (by omega)⟩
    have hsz : acc.size = i := by rw [← Array.length_toList, hacc, List.length_map, hal]
    have hSl : S < h.objs.size := Heap.lt_size hS
    refine codeAny_builtin PySem.F.entry_extend_loop ?_
    rw [Around.under_plainId PySem.F.plain_extend_loop _]
    show wpAny _ A.in1 (pyNext (.ref z) >>= _) _ _ _
    refine wpAny_bind (z_item (s := { s with heap := h, toks := tk }) (S := S) D hst hSl ex ey fun h' hst' ht hkp => ?_)
    dsimp only at ht hkp ⊢
    have hS' := hkp S _ O.z.symm O.to'.symm O.i1.symm O.i2.symm hS
    have up : ∀ b o, b ≠ S → h'.get? b = some o → (h'.update S (Obj.mapSeq (·.push (Value.ref h.objs.size)))).get? b = some o := fun b o hb e => (Heap.get?_update_other _ _ (Ne.symm hb)).trans e
    show wpAny _ A.in1 (updateSeq S (·.push (Value.ref h.objs.size)) >>= _) _ _ _
    refine wpAny_bind ?_
    refine wpAny_updateSeq hS' rfl (wpAny_pure ⟨plainId_quiet PySem.F.plain_extend_loop _, ih (i + 1) _ tk _ (acc.push (Value.ref h.objs.size)) (as ++ [h.objs.size]) (by omega) hlt (hst'.frame O up)
      (fun b o h1 h2 h3 h4 h5 e => up b o h1 (hkp b o h2 h3 h4 h5 (hkeep b o h1 h2 h3 h4 h5 e))) (Heap.get?_update_self _ hS' rfl) (by rw [Array.toList_push, hacc, List.map_append]; rfl) (by rw [List.length_append, hal]; rfl) ⟨?_, ?_, ?_⟩⟩) (by rw [hsz]; omega) (by show (acc.push (Value.ref h.objs.size)).size ≤ sizeLine + 1; rw [Array.size_push, hsz]; omega)
    · refine List.pairwise_append.mpr ⟨hG.rise, List.pairwise_singleton _ _, fun a ha b hb => ?_⟩
      rw [List.mem_singleton.mp hb]
      exact hG.there ha
    · intro a ha
      rcases List.mem_append.mp ha with ha | ha
      · exact hG.above a ha
      · rw [List.mem_singleton.mp ha]
        exact hSl
    · intro j b hj
      rcases Nat.lt_trichotomy j as.length with h1 | h1 | h1
      · rw [List.getElem?_append_left h1] at hj
        obtain ⟨x', y', e1, e2, e3⟩ := hG.pairs j b hj
        have ab := hG.above b (List.mem_of_getElem? hj)
        exact ⟨x', y', e1, e2, up b _ (Nat.ne_of_gt ab) (hkp b _ (Nat.ne_of_gt (Nat.lt_trans lz ab)) (Nat.ne_of_gt (Nat.lt_trans lt ab)) (Nat.ne_of_gt (Nat.lt_trans li1 ab)) (Nat.ne_of_gt (Nat.lt_trans li2 ab)) e3)⟩
      · subst h1
        have hb : h.objs.size = b := by simpa using hj
        subst hb
        exact ⟨x, y, by rw [hal]; exact ex, by rw [hal]; exact ey, up _ _ (Nat.ne_of_gt hSl) ht⟩
      · have hnone : (as ++ [h.objs.size])[j]? = none := List.getElem?_eq_none (by rw [List.length_append, List.length_singleton]; omega)
        rw [hnone] at hj
        cases hj
theorem z_hint (hT : s.TypeIs (.ref z) "zip") {Q : Bool → Shared → Prop} (h : Q true s) : wpAny (model prog w) A (Builtin.List.listLengthHint (.ref z)) Q E s := by
  unfold Builtin.List.listLengthHint
  refine wpAny_bind (wpAny_specialOf hT no_len ?_)
  show wpAny _ _ (specialOf (Value.ref z) (Str.ofString "__length_hint__") >>= _) _ _ _
  refine wpAny_bind (wpAny_specialOf hT no_hint ?_)
  exact wpAny_pure h
theorem z_extend {R : Result → Shared → Prop} (hh : A.handled = none) (D : ZipApart z TI TO i1 i2 l1 l2) (O : Off z TI TO i1 i2 l1 l2 S) (lz : z < S) (lt : TO < S) (li1 : i1 < S) (li2 : i2 < S) {n : Nat} (hx : xs.size = n) (hy : ys.size = n) (hn : n ≤ sizeLine) (res : Value) (c₀ : Nat)
    (hz : IsZip s.heap z TI TO .none) (st : ZS z TI TO i1 i2 l1 l2 S xs ys 0 s.heap) (hS : s.heap.get? S = some { cls := .type "list", data := .seq #[] c₀ })
    (hR : ∀ h' tk acc c as, (∀ b o, b ≠ S → b ≠ z → b ≠ TO → b ≠ i1 → b ≠ i2 → s.heap.get? b = some o → h'.get? b = some o) → h'.get? S = some { cls := .type "list", dict := none, data := .seq acc c, slots := #[] } → as.length = n → ZG xs ys S h' as →
      acc.toList = as.map Value.ref → R (.ok (.ret res)) { s with heap := h', toks := tk }) :
    wpAny (model prog w) A.in1 (Builtin.List.listExtendWith (.ref S) (.ref z) res)
      (fun fin s' => match fin with | .done f => R (.ok f) s' | .again c' => c'.quiet = true ∧ codeAny (model prog w) A c' R s') (fun e s' => R (.error e) s') s := by
  have hT : s.TypeIs (.ref z) "zip" := ⟨_, hz, rfl⟩
  have key : ∀ (h : Heap) (c₁ tk : Nat), (∀ b o, b ≠ S → s.heap.get? b = some o → h.get? b = some o) → h.get? S = some { cls := .type "list", data := .seq #[] c₁ } → codeAny (model prog w) A (.builtin "list.extend.loop" ⟨[.ref S, .ref z, res], []⟩) R { s with heap := h, toks := tk } := by
    intro h c₁ tk hk hS₁
    exact z_loop (s := s) (h₁ := s.heap) hh D O lz lt li1 li2 hx hy hn res hR n 0 h tk c₁ #[] [] (Nat.sub_zero _) (Nat.zero_le _) (st.frame O hk) (fun b o hb _ _ _ _ e => hk b o hb e) hS₁ rfl rfl ⟨List.Pairwise.nil, (fun _ ha => nomatch ha), (fun j a hj => by simp at hj)⟩
  unfold Builtin.List.listExtendWith
  refine wpAny_bind (wpAny_typeOf (T := "zip") hT ?_)
  have h1 : Builtin.List.listSameRef (.ref S) (.ref z) = false := by simp [Builtin.List.listSameRef, O.z.symm]
  have h2 : (Value.type "zip" == Value.type "list") = false := by decide
  have h3 : (Value.type "zip" == Value.type "tuple") = false := by decide
  simp only [h1, h2, h3, Bool.or_false, Bool.false_eq_true, if_false]
  refine wpAny_bind (wpAny_pyIter_zip hz ?_)
  refine wpAny_bind (wpAny_holding (z_hint hT ?_))
  refine wpAny_ite_split (fun _ => ?_) (fun _ => wpAny_pure ⟨plainId_quiet PySem.F.plain_extend_loop _, key _ c₀ _ (fun b o _ e => e) hS⟩)
  refine wpAny_bind (wpAny_rule ?_)
  refine wpAny_bind ?_
  show wpAny _ _ (updateSeq S (·.push .none) >>= fun _ => updateSeq S (·.pop)) _ _ _
  refine wpAny_bind (wpAny_updateSeq hS rfl ?_)
  have hS₂ := Heap.get?_update_self (Obj.mapSeq (·.push Value.none)) hS rfl
  refine wpAny_updateSeq (hz := by seq_fits) hS₂ rfl ?_
  have hS₃ := Heap.get?_update_self (Obj.mapSeq (·.pop)) hS₂ rfl
  refine wpAny_pure ⟨plainId_quiet PySem.F.plain_extend_loop _, key _ _ _ (fun b o hb e => ?_) hS₃⟩
  exact (Heap.get?_update_other _ _ (Ne.symm hb)).trans ((Heap.get?_update_other _ _ (Ne.symm hb)).trans e)
theorem z_init {R : Result → Shared → Prop} (hh : A.handled = none) (D : ZipApart z TI TO i1 i2 l1 l2) (O : Off z TI TO i1 i2 l1 l2 S) (lz : z < S) (lt : TO < S) (li1 : i1 < S) (li2 : i2 < S) {n : Nat} (hx : xs.size = n) (hy : ys.size = n) (hn : n ≤ sizeLine)
    (hz : IsZip s.heap z TI TO .none) (st : ZS z TI TO i1 i2 l1 l2 S xs ys 0 s.heap) (hS : s.heap.get? S = some { cls := .type "list", data := .seq #[] })
    (hR : ∀ h' tk acc c as, (∀ b o, b ≠ S → b ≠ z → b ≠ TO → b ≠ i1 → b ≠ i2 → s.heap.get? b = some o → h'.get? b = some o) → h'.get? S = some { cls := .type "list", dict := none, data := .seq acc c, slots := #[] } → as.length = n → ZG xs ys S h' as →
      acc.toList = as.map Value.ref → R (.ok (.ret .none)) { s with heap := h', toks := tk }) :
    wpAny (model prog w) A.in1 (Builtin.«list.__init__» ⟨[.ref S, .ref z], []⟩)
      (fun fin s' => match fin with | .done f => R (.ok f) s' | .again c' => c'.quiet = true ∧ codeAny (model prog w) A c' R s') (fun e s' => R (.error e) s') s := by
  show wpAny _ _ (do let old ← Builtin.List.listItems (.ref S); Builtin.List.listUpdate (.ref S) (fun _ => #[]); letGo old.toList.reverse; Builtin.List.listExtendWith (.ref S) (.ref z) .none) _ _ s
  refine wpAny_bind ?_
  unfold Builtin.List.listItems
  refine wpAny_bind (wpAny_seqItems hS rfl (wpAny_pure ?_))
  show wpAny _ _ (updateSeq S (fun _ => #[]) >>= fun _ => letGo (#[] : Array Value).toList.reverse >>= fun _ => Builtin.List.listExtendWith (.ref S) (.ref z) .none) _ _ s
  refine wpAny_bind (wpAny_updateSeq hS rfl ?_)
  have hS₂ := Heap.get?_update_self (Obj.mapSeq (fun _ => (#[] : Array Value))) hS rfl
  have oth : ∀ b o, b ≠ S → s.heap.get? b = some o → (s.heap.update S (Obj.mapSeq (fun _ => (#[] : Array Value)))).get? b = some o :=
    fun b o hb e => (Heap.get?_update_other _ _ (Ne.symm hb)).trans e
  refine wpAny_bind (wpAny_letGo ?_)
  refine z_extend hh D O lz lt li1 li2 hx hy hn .none _ (oth _ _ O.z hz) (st.frame O oth) hS₂ (fun h' tk acc c as hk hS' hl hG hacc => ?_)
  exact hR h' tk acc c as (fun b o hb h2 h3 h4 h5 e => hk b o hb h2 h3 h4 h5 (oth b o hb e)) hS' hl hG hacc
theorem z_call {Q : Value → Shared → Prop} (hh : A.handled = none) (D : ZipApart z TI TO i1 i2 l1 l2) {n : Nat} (hx : xs.size = n) (hy : ys.size = n) (hn : n ≤ sizeLine)
    (hz : IsZip s.heap z TI TO .none) (hTI : IsPair s.heap TI (.ref i1) (.ref i2)) {va vb : Value} (hTO : IsPair s.heap TO va vb) (h1 : s.heap.IsListIter i1 l1 0) (h2 : s.heap.IsListIter i2 l2 0) (hl1 : s.heap.IsList l1 xs) (hl2 : s.heap.IsList l2 ys)
    (hQ : ∀ h' tk acc c as, (∀ b o, b ≠ z → b ≠ TO → b ≠ i1 → b ≠ i2 → s.heap.get? b = some o → h'.get? b = some o) → h'.get? s.heap.objs.size = some { cls := .type "list", dict := none, data := .seq acc c, slots := #[] } → as.length = n → ZG xs ys s.heap.objs.size h' as →
      acc.toList = as.map Value.ref → Q (.ref s.heap.objs.size) { s with heap := h', toks := tk }) :
    wpAny (model prog w) A (call (.type "list") [.ref z]) Q E s := by
  refine callType_codes (Q₁ := fun obj s₁ => obj = .ref s.heap.objs.size ∧ s₁ = { s with heap := s.heap.push { cls := .type "list", data := .seq #[] } }) PySem.F.called_list (PySem.F.typeCall_list_1 _) PySem.F.entry_list_init
    (code_list_new _ ⟨rfl, rfl⟩) fun obj s₁ h₁ => ?_
  obtain ⟨rfl, rfl⟩ := h₁
  have hS : (s.heap.push { cls := .type "list", data := .seq #[] }).get? s.heap.objs.size = some { cls := .type "list", data := .seq #[] } := Heap.get?_push_size _ rfl
  have lz := Heap.lt_size hz
  have lti := Heap.lt_size hTI
  have lt := Heap.lt_size hTO
  obtain ⟨_, e1, _⟩ := id h1
  obtain ⟨_, e2, _⟩ := id h2
  obtain ⟨_, e3, _⟩ := id hl1
  obtain ⟨_, e4, _⟩ := id hl2
  have li1 := Heap.lt_size e1
  have li2 := Heap.lt_size e2
  have ll1 := Heap.lt_size e3
  have ll2 := Heap.lt_size e4
  have O : Off z TI TO i1 i2 l1 l2 s.heap.objs.size := ⟨Nat.ne_of_lt lz, Nat.ne_of_lt lti, Nat.ne_of_lt lt, Nat.ne_of_lt li1, Nat.ne_of_lt li2, Nat.ne_of_lt ll1, Nat.ne_of_lt ll2⟩
  refine ⟨⟨_, hS, rfl⟩, PySem.F.args_list_init_2 _ _, z_init (A := A.in1) hh D O lz lt li1 li2 hx hy hn (Heap.get?_push_of_some _ hz) ⟨Heap.get?_push_of_some _ hTI, h1.at fun o e => Heap.get?_push_of_some _ e, h2.at fun o e => Heap.get?_push_of_some _ e, hl1.at fun o e => Heap.get?_push_of_some _ e, hl2.at fun o e => Heap.get?_push_of_some _ e, .inl ⟨Heap.get?_push_of_some _ hz, _, _, Heap.get?_push_of_some _ hTO⟩⟩ hS (fun h' tk acc c as hk hS' hl hG hacc => ?_)⟩
  exact ⟨rfl, hQ h' tk acc c as (fun b o b1 b2 b3 b4 e => hk b o (Nat.ne_of_lt (Heap.lt_size e)) b1 b2 b3 b4 (Heap.get?_push_of_some _ e)) hS' hl hG hacc⟩
end
/-- the tuples at their addresses -/
def putP : Hp → List Addr → List (V × V) → Hp
  | H, a :: as, p :: ps => putP (upd H a (.tup [p.1, p.2])) as ps
  | H, _, _ => H
theorem putP_off {b : Addr} : ∀ (as : List Addr) (ps : List (V × V)) (H : Hp), b ∉ as → putP H as ps b = H b
  | [], _, _, _ => rfl
  | _ :: _, [], _, _ => rfl
  | a :: as, p :: ps, H, h => by
    show putP (upd H a (.tup [p.1, p.2])) as ps b = H b
    rw [putP_off as ps _ (fun z => h (List.mem_cons_of_mem _ z)), upd_ne (fun z => h (by rw [z]; exact List.mem_cons_self))]
/-- as many tuples as pairs, each its pair -/
abbrev Tups (H : Hp) : List Addr → List (V × V) → Prop := Paired fun t q => H t = some (.tup [q.1, q.2])
theorem putP_at : ∀ (as : List Addr) (ps : List (V × V)) (H : Hp), as.length = ps.length → as.Nodup → Tups (putP H as ps) as ps
  | [], [], _, _, _ => .nil
  | [], _ :: _, _, h, _ => by cases h
  | _ :: _, [], _, h, _ => by cases h
  | a :: as, p :: ps, H, h, hn => by
    have hn' := List.nodup_cons.mp hn
    refine .cons ?_ (putP_at as ps (upd H a (.tup [p.1, p.2])) (Nat.succ.inj h) hn'.2)
    show putP (upd H a (.tup [p.1, p.2])) as ps a = some (.tup [p.1, p.2])
    rw [putP_off as ps _ hn'.1, upd_same]
theorem paired_ix {α β : Type} {F : α → β → Prop} : ∀ {xs : List α} {ys : List β}, Paired F xs ys → ∀ {x : α}, x ∈ xs → ∃ (j : Nat) (y : β), xs[j]? = some x ∧ ys[j]? = some y ∧ F x y
  | _, _, .cons h t, x, hx => by
    rcases List.mem_cons.mp hx with e | hx
    · rw [e]
      exact ⟨0, _, rfl, rfl, h⟩
    · obtain ⟨j, y, e1, e2, e3⟩ := paired_ix t hx
      exact ⟨j + 1, y, e1, e2, e3⟩
theorem refs_vals : ∀ as : List Addr, Vals (as.map V.ref) (as.map Value.ref)
  | [] => .nil
  | _ :: as => .cons rfl (refs_vals as)
section
variable {X : Cx}
theorem z_laid {pins : List (Addr × Obj)} {σ : L2.St} {H : Hp} {s : Shared} {h' : Heap} {tk : Nat} {S : Addr} {vs us : List V} {xs ys : List Value} {acc : Array Value} {c : Nat} {as : List Addr} (I : Inv X pins σ H s) (hS0 : s.heap.objs.size ≤ S) (rx : Vals vs xs) (ry : Vals us ys) (hlen : vs.length = us.length) (hz : vs.length ≤ sizeLine)
    (hk : ∀ b o, s.heap.get? b = some o → h'.get? b = some o) (hS : h'.get? S = some { cls := .type "list", dict := none, data := .seq acc c, slots := #[] }) (hl : as.length = vs.length) (hG : ZG xs.toArray ys.toArray S h' as) (hacc : acc.toList = as.map Value.ref) :
    ∃ H' : Hp, Same H H' ∧ H S = none ∧ (∀ t ∈ as, H t = none) ∧ S ∉ as ∧ as.Nodup ∧ H' S = some (.lst (as.map V.ref)) ∧ Tups H' as (vs.zip us) ∧ Inv X pins σ H' { s with heap := h', toks := tk } := by
  have hSn : S ∉ as := fun z => Nat.lt_irrefl _ (hG.above _ z)
  have nd : as.Nodup := List.Pairwise.imp (fun {a b} (h : a < b) => Nat.ne_of_lt h) hG.rise
  have new : ∀ t ∈ as, H t = none := fun t ht => I.hok.fresh (Nat.le_trans hS0 (Nat.le_of_lt (hG.above t ht)))
  have newS : H S = none := I.hok.fresh hS0
  have lz : (vs.zip us).length = vs.length := by rw [List.length_zip]; omega
  have atP := putP_at as (vs.zip us) (upd H S (.lst (as.map V.ref))) (by omega) nd
  have off : ∀ b, b ∉ as → b ≠ S → putP (upd H S (.lst (as.map V.ref))) as (vs.zip us) b = H b := fun b h1 h2 => by rw [putP_off as _ _ h1, upd_ne h2]
  have low : ∀ b o, s.heap.get? b = some o → b ∉ as ∧ b ≠ S := fun b o e => ⟨fun z => absurd (Heap.lt_size e) (Nat.not_lt.mpr (Nat.le_trans hS0 (Nat.le_of_lt (hG.above b z)))), Nat.ne_of_lt (Nat.lt_of_lt_of_le (Heap.lt_size e) hS0)⟩
  have kp : ∀ b u, H b = some u → (putP (upd H S (.lst (as.map V.ref))) as (vs.zip us)) b = some u := fun b u e => by
    rw [off b (fun z => by rw [new b z] at e; cases e) (fun z => by rw [z, newS] at e; cases e)]
    exact e
  have eS : putP (upd H S (.lst (as.map V.ref))) as (vs.zip us) S = some (.lst (as.map V.ref)) := by rw [putP_off as _ _ hSn, upd_same]
  refine ⟨putP (upd H S (.lst (as.map V.ref))) as (vs.zip us), kp, newS, new, hSn, nd, eS, atP, ?_⟩
  refine I.call' (ch := []) rfl ⟨fun b o q _ _ _ => hk b o q, fun b o q _ _ _ => ⟨o.slots, hk b o q⟩, fun b o q n _ => ?_, fun b o q _ => ⟨o, hk b o q⟩, fun b xs q => kp b _ q, fun b o u q => kp b _ q, fun b ps q => ⟨#[], by rw [kp b _ q]; simp⟩⟩ (fun b u q => ?_) I.bare fun b z => by simp at z
  · obtain ⟨z1, z2⟩ := low b o q
    rw [off b z1 z2]
    exact n
  · by_cases hb : b ∈ as
    · obtain ⟨j, pk, e1, e2, e3⟩ := paired_ix atP hb
      rw [e3] at q
      cases q
      obtain ⟨x, y, f1, f2, f3⟩ := hG.pairs j b e1
      rw [List.getElem?_zip_eq_some] at e2
      obtain ⟨x', g1, r1⟩ := rx.get e2.1
      obtain ⟨y', g2, r2⟩ := ry.get e2.2
      have f1 : xs[j]? = some x := by simpa using f1
      have f2 : ys[j]? = some y := by simpa using f2
      rw [f1] at g1
      rw [f2] at g2
      cases g1
      cases g2
      exact ⟨by show 2 ≤ sizeLine; decide, [x, y], .cons r1 (.cons r2 .nil), ⟨_, f3, rfl, _, rfl⟩⟩
    · by_cases hb2 : b = S
      · rw [hb2] at q ⊢
        rw [eS] at q
        cases q
        refine ⟨by rw [List.length_map]; omega, acc.toList, c, by rw [hacc]; exact refs_vals as, ?_⟩
        rw [Array.toArray_toList]
        exact hS
      · rw [off b hb hb2] at q
        exact (I.hok b u q).stay (fun d v _ y => hk d v y) (fun d y => kp d _ y) fun d xs y => kp d _ y
/-- list(zip(xs, ys)) -/
def tListZip (K : PySem.W.Frag) (ta : TA) : TE := fun σ H Q => ta σ H fun vs H1 => ∃ (a b : Addr) (xs ys : List V), vs = [.ref a, .ref b] ∧ SqL K H1 a xs ∧ SqL K H1 b ys ∧ xs.length = ys.length ∧ xs.length ≤ 5000 ∧
  ∀ (H' : Hp) (p : Addr) (ts : List Addr), Same H1 H' → H1 p = none → (∀ t ∈ ts, H1 t = none) → p ∉ ts → ts.Nodup → H' p = some (.lst (ts.map V.ref)) → Tups H' ts (xs.zip ys) → Q (.ref p) H'
theorem pe_listZip {e1 e2 : Expr} {ta : TA} {p p2 pos pos2 : Pos} (hcalm : X.calm = true) (hg : Gl X "list") (hm : X.mg "list" = none) (hgz : Gl X "zip") (hmz : X.mg "zip" = none) (ha : PA X [e1, e2] ta)
    (hs : starEach [e1, e2] X.env = (false, eval e1 X.env) :: starEach [e2] X.env := by rfl) (hpl : (backTo pos2 (starEach [e2] X.env)).any (·.1) = false := by rfl) :
    PE X (.Call (.Name "list" p) [.Call (.Name "zip" p2) [e1, e2] [] pos2] [] pos) (tListZip X.K ta) := by
  refine ⟨fun pins s σ H Q I h => ?_⟩
  refine Call_ (ld_blt I hg hm PyProof.Rows.boot_list (PyProof.Rows.callWith_type1 (args_cons (Call_ (ld_blt I hgz hmz PyProof.Rows.boot_zip (PyProof.Rows.callWith_type1 (thn (ha.run pos2 pins s σ H _ I h) fun us s1 ⟨vs, H1, I1, r1, q1⟩ => ?_) hs hpl))) (by rfl)) (by rfl)))
  obtain ⟨a, b, xs, ys, rfl, sa, sb, hl, hk, q⟩ := q1
  obtain ⟨u1, u2, rfl, ra, rb⟩ := vals2 r1
  cases (show u1 = Value.ref a from ra)
  cases (show u2 = Value.ref b from rb)
  obtain ⟨its, rv, p1, _⟩ := I1.list sa
  obtain ⟨its2, rv2, p2', _⟩ := I1.list sb
  have n1 := rv.length
  have n2 := rv2.length
  refine call_zip_2 p1.isList p2'.isList fun h1 hz hTI hTO i1 i2 hsz hk1 => args_nil ?_
  have D := PySem.W.ktu_apart s1.heap.objs.size a b p1.lt p2'.lt
  refine z_call (s := { s1 with heap := h1 }) (n := xs.length) (I1.ok.hd hcalm) D (by rw [List.size_toArray]; omega) (by rw [List.size_toArray]; omega) (Nat.le_trans hk (by decide)) hz hTI hTO i1 i2 (p1.isList.at fun o e => hk1 _ o e) (p2'.isList.at fun o e => hk1 _ o e) fun h' tk acc c as hkp hS hla hG hacc => ?_
  have k : ∀ c o, s1.heap.get? c = some o → h'.get? c = some o := fun c o e => by
    have lt := Heap.lt_size e
    exact hkp c o (Nat.ne_of_lt (Nat.lt_of_lt_of_le lt (Nat.le_add_right _ _))) (Nat.ne_of_lt (Nat.lt_of_lt_of_le lt (Nat.le_add_right _ _))) (Nat.ne_of_lt lt) (Nat.ne_of_lt (Nat.lt_of_lt_of_le lt (Nat.le_add_right _ _))) (hk1 c o e)
  obtain ⟨H', t1, t2, t3, t4, t5, t6, t7, J⟩ := z_laid (tk := tk) I1 (S := h1.objs.size) (by omega) rv rv2 hl (Nat.le_trans hk (by decide)) k hS hla hG hacc
  exact ⟨.ref _, H', J, rfl, q H' _ as t1 t2 t3 t4 t5 t6 t7⟩
end
end Lz
/-! y = {k: v for .. in ..}, y a local name of a def -/
namespace Ds
open PySem PySem.Spec PyProof.Rows L2
section
variable {X : Cx}
theorem ps_setDc {i : Nat} {y : Str} {py : Pos} {kx vx tg iter : Expr} {ifs : List Expr} {scope : Scope} {own : List (Str × Nat)} {pos spos : Pos} {wi : TI} {g : TG} {tt : TT} {tk tv : TE} (hc : X.calm = true) (hN : X.N.Nodup) (hy : X.N[i]? = some y) (hyl : X.env.scope.names.lookup y = some .local)
    (hsw : swapsWith (.DictComp kx vx [⟨tg, iter, ifs, 0⟩] scope pos) (some (.Name y py)) spos.line X.env = pure true) (hi : PI X tg iter wi) (ok : BlkOk X.N X.env.scope scope own)
    (hg : ∀ (s : Shared) (H : Hp) (C : Addr) (cl : List (Str × Addr)) (fp : List Addr), PG (X.blk s H scope (compEnvC scope cl C X.env) fp) tg g) (ht : ∀ (s : Shared) (H : Hp) (C : Addr) (cl : List (Str × Addr)) (fp : List Addr), PTs (X.blk s H scope (compEnvC scope cl C X.env) fp) ifs tt)
    (hk : ∀ (s : Shared) (H : Hp) (C : Addr) (cl : List (Str × Addr)) (fp : List Addr), PE (X.blk s H scope (compEnvC scope cl C X.env) fp) kx tk)
    (he : ∀ (s : Shared) (H : Hp) (C : Addr) (cl : List (Str × Addr)) (fp : List Addr), PE (X.blk s H scope (compEnvC scope cl C X.env) fp) vx tv) (hs : ∀ x, foldedSetIterable iter X.env x = pure x := by intro _; rfl) :
    PS X (.Assign [.Name y py] (.DictComp kx vx [⟨tg, iter, ifs, 0⟩] scope pos) spos) (tAsg (tDc wi g tt tk tv (own.map (·.2))) (gName i)) := by
  refine ⟨fun pins s σ H D I h => ?_⟩
  rw [exec_Assign_Name_used _ _ _ _ hsw]
  refine wpAny_bind (wpAny_standAt (wpAny_bind ?_))
  show wpAny _ X.A (do let _ ← comprehension (.DictComp kx vx [⟨tg, iter, ifs, 0⟩] scope pos) scope X.env (firstIterPos [⟨tg, iter, ifs, 0⟩] pos) newDict false (eval iter X.env) (some (assign (.Name y py) X.env))) _ _ s
  have h : tDc wi g tt tk tv (own.map (·.2)) σ H (fun x H1 => gName i x σ H1 D.nx) := h
  refine wpAny_bind (thn (dc_core (Qf := fun _ s' => SP X pins D .next s') hc hN I hi ok hg ht hk he hs h fun L C s' m H' I' q hn f => ?_) fun _ s' hq => wpAny_pure (wpAny_pure hq))
  show wpAny _ _ (assign (.Name y py) X.env (.ref L)) _ _ _
  refine wpAny_assign_Name (store_ok2 (v := V.ref L) I' hN hy (.inl hyl) rfl (fun s2 I2 ⟨a, sb, ha⟩ => ?_) (.inr hyl))
  obtain ⟨f0, f1, f2, f3, f4, f5⟩ := f
  have haC : C ≠ a := by
    rcases ha with z | z
    · rw [z]; exact f1
    · exact fun e => f4 y a z e.symm
  refine ⟨m, hn.sameBut sb haC, fun h3 sb3 => ?_⟩
  exact ⟨_, H', I2.turned (t' := s2.toks) (fun b o hb e => (sb3.2 b hb).trans e) f0 f1 f3 f4 f5, q⟩
theorem sw_trueD {kx vx : Expr} {gs : List Comprehension} {scope : Scope} {pos py : Pos} {y : Str} {l : Nat} {env : Env} (hk : env.scope.kind = .function) (hy : env.scope.names.lookup y = some .local) (hl : (py.line == pos.line) = true)
    (ha : (scope.names.any fun (n, k) => n == y && (k == .local || k == .cell)) = false) : swapsWith (.DictComp kx vx gs scope pos) (some (.Name y py)) l env = pure true := by
  have ky : env.kindOf y = some .local := hy
  have hb : env.blockKind = .function := by unfold Env.blockKind; rw [hk]; rfl
  unfold swapsWith
  simp only [hb, ky, ha, Expr.pos, hl]
  rfl
end
end Ds
/-! t[1::-1] of a tuple of four: a new tuple of its second and its first thing -/
namespace Rt
open PySem PySem.Spec PyProof.Rows L2 HT
section
variable {prog : Program} {w : World} {A : Around} {E : Value → Shared → Prop} {s : Shared}
theorem applied {sl : Addr} {vl vu vs : Value} {Q : Int × Int × Nat → Shared → Prop} (hs : s.heap.IsSliceOf sl vl vu vs) (pl : IsPart vl (some 1)) (pu : IsPart vu none) (ps : IsPart vs (some (-1)))
    (h : Q (1, -1, 2) s) : wpAny (model prog w) A (Builtin.Slice.sliceApplied (.ref sl) (pure 4)) Q E s := by
  obtain ⟨os, hos, hcs, hds⟩ := id hs
  unfold Builtin.Slice.sliceApplied Builtin.Slice.sliceFields
  refine wpAny_bind (wpAny_bind (wpAny_field hos hds (x := vl) rfl (wpAny_bind (wpAny_field hos hds (x := vu) rfl (wpAny_bind (wpAny_field hos hds (x := vs) rfl (wpAny_pure ?_)))))))
  refine wpAny_bind (slicePart_ ps ?_)
  show wpAny _ _ (if ((-1 : Int) == 0) = true then _ else _) _ _ s
  rw [if_neg (by decide)]
  refine wpAny_bind (slicePart_ pl (wpAny_bind (slicePart_ pu (wpAny_bind (wpAny_pure ?_)))))
  exact wpAny_pure h
theorem item4 {t sl : Addr} {x0 x1 x2 x3 : Value} {vl vu vs : Value} {Q : Value → Shared → Prop} (ht : IsTup s.heap t #[x0, x1, x2, x3]) (hs : s.heap.IsSliceOf sl vl vu vs) (pl : IsPart vl (some 1)) (pu : IsPart vu none) (ps : IsPart vs (some (-1)))
    (h : Q (.ref s.heap.objs.size) { s with heap := s.heap.push { cls := .type "tuple", data := .seq #[x1, x0] } }) : wpAny (model prog w) A (getItem (.ref t) (.ref sl)) Q E s := by
  have htake : sizeOk (.seq #[x1, x0]) := by
    show 2 ≤ sizeLine
    decide
  obtain ⟨os, hos, hcs, hds⟩ := id hs
  have hTs : s.TypeIs (.ref sl) "slice" := ⟨os, hos, hcs⟩
  unfold getItem
  try with_reducible refine wpAny_holding ?_
  first | refine wpAny_bind (wpAny_pure ?_) | skip
  refine wpAny_bind (wpAny_sequenceKey ht.typeIs (by decide) ?_)
  refine wpAny_bind (wpAny_callSpecial?_slot (name := Str.ofString "__getitem__") ht.typeIs PyProof.Rows.slot_tuple_getitem
    (wpAny_call_entry PyProof.Rows.slot_tuple_getitem ht.typeIs entry_tuple_getitem ?_ (args_tuple_getitem _ _)))
  show wpAny _ _ (Builtin.Tuple.tupleItemsOf (.ref t) >>= _) _ _ s
  refine wpAny_bind (tupleItemsOf_ ht ?_)
  refine wpAny_bind (wpAny_typeOf hTs ?_)
  rw [if_pos (by decide)]
  refine wpAny_bind (applied hs pl pu ps ?_)
  show wpAny _ _ (if ((1 : Int) == 0 && (-1 : Int) == 1 && (2 : Nat) == 4) = true then _ else _) _ _ s
  rw [if_neg (by decide)]
  first
    | exact wpAny_bind (m := Builtin.Tuple.tupleExact _) (wpAny_newObj_type (wpAny_pure ⟨_, rfl, wpAny_pure h⟩) htake)
    | exact wpAny_bind (m := Builtin.Tuple.tupleExact _) (wpAny_newObj_type (wpAny_bind (wpAny_pure (wpAny_pure ⟨_, rfl, wpAny_pure h⟩))) htake)
    | exact wpAny_bind (wpAny_bind (m := Builtin.Tuple.tupleExact _) (wpAny_newObj_type (wpAny_pure (wpAny_pure ⟨_, rfl, wpAny_pure h⟩)) htake))
    | exact wpAny_bind (wpAny_bind (m := Builtin.Tuple.tupleExact _) (wpAny_newObj_type (wpAny_pure ⟨_, rfl, wpAny_pure h⟩) htake))
end
section
variable {X : Cx}
def tRev2 (K : PySem.W.Frag) (te : TE) : TE := fun σ H Q => te σ H fun x H1 => ∃ a x0 x1 x2 x3, x = .ref a ∧ SqT K H1 a [x0, x1, x2, x3] ∧ ∀ p, H1 p = none → Q (.ref p) (upd H1 p (.tup [x1, x0]))
theorem pe_rev2 {e : Expr} {te : TE} {k0 k : Nat} {p0 p1 p2 p3 pos : Pos} (he : PE X e te) : PE X (.Subscript e (.Slice (some (.Constant (.int 1) k0 p0)) none (some (.UnaryOp .USub (.Constant (.int 1) k p1) p2)) p3) pos) (tRev2 X.K te) := by
  refine ⟨fun pins s σ H Q I h => ?_⟩
  refine Subscript_ (thn (he.run pins s σ H _ I h) fun v s1 ⟨x, H1, I1, r1, q1⟩ => ?_)
  obtain ⟨a, x0, x1, x2, x3, ex, hx, q⟩ := q1
  subst ex
  cases r1
  have hlo : PO X (some (.Constant (.int 1) k0 p0)) (tPart (tC (.int 1))) := po_some pe_int
  have hst : PO X (some (.UnaryOp .USub (.Constant (.int 1) k p1) p2)) (tPart (tUn (rU fun i => .int (-i)) (tC (.int 1)))) := po_some (pe_un un_neg pe_int)
  refine wpAny_Slice (thn (hlo.run pins s1 σ H1 (fun o H2 => o = some 1 ∧ H2 = H1) I1 ⟨1, rfl, rfl, rfl⟩) fun vl s2 ⟨l, H2, I2, pl, el, e2⟩ => ?_)
  subst el e2
  refine thn (po_none.run pins s2 σ H2 (fun o H3 => o = none ∧ H3 = H2) I2 ⟨rfl, rfl⟩) fun vu s3 ⟨u, H3, I3, pu, eu, e3⟩ => ?_
  subst eu e3
  refine thn (hst.run pins s3 σ H3 (fun o H4 => o = some (-1) ∧ H4 = H3) I3 ⟨1, rfl, -1, rfl, rfl, rfl⟩) fun vs s4 ⟨o, H4, I4, ps, eo, e4⟩ => ?_
  subst eo e4
  have I5 : Inv X pins σ H4 { s4 with heap := s4.heap.push { cls := .type "slice", data := .fields #[vl, vu, vs] } } := I4.kept (t' := s4.toks) fun b ob q => Heap.get?_push_of_some _ q
  obtain ⟨its, r, ht, hz⟩ := I5.tuple hx
  show wpAny (model X.prog X.w) X.A (subscriptTail e (.Slice (some (.Constant (.int 1) k0 p0)) none (some (.UnaryOp .USub (.Constant (.int 1) k p1) p2)) p3) (.ref a) (.ref s4.heap.objs.size)) (EP X pins σ Q) X.xe { s4 with heap := s4.heap.push { cls := .type "slice", data := .fields #[vl, vu, vs] } }
  refine tail_any (ops := [.ref a, .ref s4.heap.objs.size]) ht.typeIs (PyProof.Rows.slot_tuple_getitem.lookup) ?_ (by with_unfolding_all rfl)
  cases r with
  | cons r0 r =>
    cases r with
    | cons r1 r =>
      cases r with
      | cons r2 r =>
        cases r with
        | cons r3 r =>
          cases r
          refine item4 ht (Heap.IsSliceOf.new _ vl vu vs) pl pu ps ?_
          refine ⟨.ref _, _, I5.laid (t' := s4.toks) (o := .tup [x1, x0]) (fun b ob q => Heap.get?_push_of_some _ q) (Nat.le_refl _) ?_, rfl, q _ (I5.hok.fresh (Nat.le_refl _))⟩
          exact ⟨by show 2 ≤ sizeLine; decide, _, .cons r1 (.cons r0 .nil), IsTup.new _ _⟩
end
end Rt
/-! tuple + tuple and slices of tuples, whichever object comes -/
namespace Th
open PySem PySem.Spec PyProof.Rows L2
def rCatS (K : PySem.W.Frag) : R2 := fun x y H Q => ∃ (a b : Addr) (xs ys : List V), x = .ref a ∧ y = .ref b ∧ H a = some (.tup xs) ∧ H b = some (.tup ys) ∧ xs.length + ys.length ≤ sizeLine ∧ ∀ (c : Addr) (H' : Hp), Same H H' → H' c = some (.tup (xs ++ ys)) → Q (.ref c) H'
theorem op_catS {X : Cx} : OpR X (binaryOp .Add) (rCatS X.K) := by
  intro pins s σ H x y v u Q I rx ry h
  obtain ⟨a, b, xs, ys, rfl, rfl, hx, hy, hz, h⟩ := h
  exact op_catA pins s σ H _ _ v u Q I rx ry ⟨a, b, xs, ys, rfl, rfl, SqT.of hx, SqT.of hy, hz, fun e => h b H (.refl _) (by rw [hy, e]; rfl), fun _ e => h a H (.refl _) (by rw [hx, e, List.append_nil]), fun _ _ p np => h p _ (same_upd np) upd_same⟩
def rSlS (K : PySem.W.Frag) : V → Option Int → Option Int → Hp → VK → Prop := fun x lo hi H Q => ∃ (a : Addr) (xs : List V), x = .ref a ∧ H a = some (.tup xs) ∧ ∀ (c : Addr) (H' : Hp), Same H H' → H' c = some (.tup (cutV xs lo hi)) → Q (.ref c) H'
theorem sl_tupS {X : Cx} : SlR X (rSlS X.K) := by
  intro pins s σ H x v vl vu lo hi sl Q I rx hs pl pu h
  obtain ⟨a, xs, rfl, hx, h⟩ := h
  exact sl_tupA pins s σ H _ v vl vu lo hi sl Q I rx hs pl pu ⟨a, xs, rfl, SqT.of hx, fun e => h a H (.refl _) (by rw [hx]; unfold cutV; rw [e.1, e.2, List.drop_zero, Nat.sub_zero, List.take_length]), fun _ p np => h p _ (same_upd np) upd_same⟩
end Th
/-! tuples told with their objects; dict of such; sorted of data -/
namespace Th
open PySem PySem.Spec PyProof.Rows L2
/-- the tuple xs at a, its object known to be plain -/
def TpF (H : Hp) (a : Addr) (xs : List V) : Prop := ∃ o : Obj, H a = some (.frz o (.tup xs)) ∧ o.dict = none
theorem TpF.sq {K : PySem.W.Frag} {H : Hp} {a : Addr} {xs : List V} (h : TpF H a xs) : SqT K H a xs := let ⟨o, e, _⟩ := h; .inl (.inr ⟨o, e⟩)
theorem TpF.same {H H' : Hp} {a : Addr} {xs : List V} (h : TpF H a xs) (s : Same H H') : TpF H' a xs := let ⟨o, e, d⟩ := h; ⟨o, s _ _ e, d⟩
theorem TpF.keep {p : Addr} {H H' : Hp} {a : Addr} {xs : List V} (h : TpF H a xs) (k : Keep p H H') (b : Bag H p) : TpF H' a xs := by
  obtain ⟨o, e, d⟩ := h
  refine ⟨o, k _ _ (fun z => ?_) e, d⟩
  obtain ⟨g, r, e', _⟩ := b
  rw [z, e'] at e
  cases e
def rTupF (K : PySem.W.Frag) : List V → Hp → VK → Prop := fun xs H Q => ∃ (p : Addr) (ys : List V), xs = [.ref p] ∧ SqL K H p ys ∧ ∀ (l : Addr) (H' : Hp), H l = none → Same H H' → TpF H' l ys → (∀ q, q ≠ l → H' q = H q) → Q (.ref l) H'
theorem call_tuple_ofF {X : Cx} : CallR X (.type "tuple") (rTupF X.K) := by
  intro pins s σ H xs us Q I r h
  obtain ⟨p, ys, rfl, hq, q⟩ := h
  obtain ⟨u, rfl, rx⟩ := vals1 r
  cases rx
  obtain ⟨its, r', pl, hz⟩ := I.list hq
  have hlen := r'.length
  refine call_tuple_list pl.isList (fun h' kp => ?_) (by simp only [List.size_toArray] <;> omega)
  have I1 : Inv X pins σ H { s with heap := h' } := I.kept (t' := s.toks) kp
  have I2 : Inv X pins σ (upd H h'.objs.size (.frz { cls := .type "tuple", data := .seq its.toArray } (.tup ys))) { s with heap := h'.push { cls := .type "tuple", data := .seq its.toArray } } :=
    I1.laid (t' := s.toks) (fun b o e => Heap.get?_push_of_some _ e) (Nat.le_refl _) (show ObjOk X.prog X.w _ _ _ (.frz _ (.tup ys)) from ⟨Heap.get?_push_size _ rfl, hz, its, r', IsTup.new _ _⟩)
  have nl := I1.hok.fresh (Nat.le_refl h'.objs.size)
  exact ⟨.ref h'.objs.size, _, I2, rfl, q _ _ nl (same_upd nl) ⟨_, upd_same, rfl⟩ fun q hq => upd_ne hq⟩
theorem choose_list {α β : Type} : ∀ {xs : List α} {R : Nat → α → β → Prop}, (∀ j x, xs[j]? = some x → ∃ y, R j x y) → ∃ ys : List β, ys.length = xs.length ∧ ∀ j y, ys[j]? = some y → ∃ x, xs[j]? = some x ∧ R j x y
  | [], _, _ => ⟨[], rfl, fun j y e => by simp at e⟩
  | x :: xs, R, h => by
    obtain ⟨y, hy⟩ := h 0 x rfl
    obtain ⟨ys, h1, h2⟩ := choose_list (xs := xs) (R := fun j => R (j + 1)) fun j x e => h (j + 1) x e
    refine ⟨y :: ys, by rw [List.length_cons, h1, List.length_cons], fun j z e => ?_⟩
    match j, e with
    | 0, e =>
      have : y = z := Option.some.inj e
      subst this
      exact ⟨x, rfl, hy⟩
    | j + 1, e => exact h2 j z e
def rDictF (K : PySem.W.Frag) : List V → Hp → VK → Prop := fun xs H Q => ∃ (a : Addr) (ps : List Addr) (kvs : List (Key × V)), xs = [.ref a] ∧ TpF H a (ps.map V.ref) ∧ Paired (fun p kv => SqT K H p [kV kv.1, kv.2]) ps kvs ∧
    ∀ p, H p = none → Q (.ref p) (upd H p (.dK (mergeK [] kvs)))
theorem call_dictF {X : Cx} (hcalm : X.calm = true) : CallR X (.type "dict") (rDictF X.K) := by
  intro pins s σ H xs us Q I r h
  obtain ⟨a, ps, kvs, rfl, ⟨ob, hob, hnd⟩, hp, q⟩ := h
  obtain ⟨u, rfl, rx⟩ := vals1 r
  cases rx
  obtain ⟨hg, hz, its, rv, o', ho', hc, n, hdat⟩ := (show ObjOk X.prog X.w H s.heap a (.frz ob (.tup (ps.map V.ref))) from I.hok a _ hob)
  rw [hg] at ho'
  cases ho'
  have ei := refs_at rv
  subst ei
  rw [List.length_map] at hz
  obtain ⟨prs, rel, hl, hpr⟩ := pairs_of I hp
  obtain ⟨vv, hvl, hvv⟩ := choose_list (R := fun j (q : Key × Value) (k : Value) => ∃ b, ps[j]? = some b ∧ IsTup s.heap b #[k, q.2] ∧ keyIs q.1 k = true) (xs := prs) fun j q e => let ⟨b, u, h⟩ := hpr j q e; ⟨u, b, h⟩
  have len : (vv.zip (prs.map (·.2))).length = ps.length := by rw [List.length_zip, List.length_map, hvl, hl]; omega
  have each : ∀ j k v, (vv.zip (prs.map (·.2)))[j]? = some (k, v) → ∃ (b : Addr) (q : Key × Value), ps[j]? = some b ∧ prs[j]? = some q ∧ v = q.2 ∧ IsTup s.heap b #[k, v] ∧ keyIs q.1 k = true := fun j k v e => by
    rw [List.getElem?_zip_eq_some, List.getElem?_map] at e
    obtain ⟨q, hq, b, h1, h2, h3⟩ := hvv j k e.1
    rw [hq] at e
    have : q.2 = v := Option.some.inj e.2
    subst this
    exact ⟨b, q, h1, hq, rfl, h2, h3⟩
  have P := PairArg.tuple (prog := X.prog) (w := X.w) a (ps.map Value.ref).toArray (fun j => ps.getD j 0) (vv.zip (prs.map (·.2)))
  refine PySem.call_dict_pairs (knd := mixKind X.prog X.w) (kvs := prs) P (I.ok.hd hcalm) ⟨⟨ob, n, hg, hc, hnd, hdat⟩, ?_, fun j k v e => ?_⟩ ⟨by rw [len, hl], fun j k v e => ?_⟩ ?_ fun h' tk hd' k => ?_
  · rw [List.size_toArray, List.length_map, len]
  · obtain ⟨b, q, h1, h2, h3, h4, h5⟩ := each j k v e
    refine ⟨?_, .inl ?_⟩
    · show (ps.map Value.ref).toArray[j]? = some (Value.ref (ps.getD j 0))
      rw [List.getD_eq_getElem?_getD, h1]
      simp [h1]
    · show s.heap.IsTuple (ps.getD j 0) #[k, v]
      rw [List.getD_eq_getElem?_getD, h1]
      exact h4
  · obtain ⟨b, q, h1, h2, h3, h4, h5⟩ := each j k v e
    exact ⟨q.1, by rw [h2, h3], h5⟩
  · rw [len]
    exact hz
  · have hm : (s.heap.objs.size == sysModules) = false := beq_eq_false_iff_ne.mpr (Nat.ne_of_gt I.big)
    have hlen : (mergeK [] kvs).length ≤ sizeLine := by
      refine Nat.le_trans (length_mergeK kvs []) ?_
      rw [List.length_nil, Nat.zero_add, rel.length, hl]
      exact hz
    exact ⟨.ref s.heap.objs.size, upd H s.heap.objs.size (.dK (mergeK [] kvs)), I.laid (t' := tk) (fun b o e => k b o (by simp) e) (Nat.le_refl _) (show ObjOk X.prog X.w _ _ _ (.dK (mergeK [] kvs)) from ⟨hlen, hm, merged [] prs, KV.merge rel .nil, hd'⟩), rfl, q _ (I.hok.fresh (Nat.le_refl _))⟩
/-- what such a dict tells, the keys unlike -/
theorem val_mergeK : ∀ (kvs acc : List (Key × V)) (k : Key), valV (mergeK acc kvs) k = match kvs.reverse.find? (fun p => decide (p.1 = k)) with | some p => some p.2 | none => valV acc k
  | [], acc, k => rfl
  | p :: kvs, acc, k => by
    show valV (mergeK (putK acc p.1 p.2) kvs) k = _
    rw [val_mergeK kvs, valV_put, List.reverse_cons, List.find?_append]
    cases h : kvs.reverse.find? (fun p => decide (p.1 = k)) with
    | some q => rfl
    | none =>
      show (if k = p.1 then some p.2 else valV acc k) = _
      by_cases c : k = p.1
      · rw [if_pos c]
        simp [c]
      · rw [if_neg c]
        have : ¬ p.1 = k := fun e => c e.symm
        simp [this]
theorem val_merge_nd {kvs : List (Key × V)} (nd : (kvs.map (·.1)).Nodup) {k : Key} {v : V} (h : (k, v) ∈ kvs) : valV (mergeK [] kvs) k = some v := by
  rw [val_mergeK]
  have : kvs.reverse.find? (fun p => decide (p.1 = k)) = some (k, v) := by
    cases f : kvs.reverse.find? (fun p => decide (p.1 = k)) with
    | none =>
      have := List.find?_eq_none.mp f (k, v) (List.mem_reverse.mpr h)
      simp at this
    | some q =>
      have hq : q.1 = k := by
        have := List.find?_some f
        exact of_decide_eq_true this
      have hm : q ∈ kvs := List.mem_reverse.mp (List.mem_of_find?_eq_some f)
      obtain ⟨i, hi⟩ := List.getElem?_of_mem h
      obtain ⟨j, hj⟩ := List.getElem?_of_mem hm
      have e1 : (kvs.map (·.1))[i]? = some k := by rw [List.getElem?_map, hi]; rfl
      have e2 : (kvs.map (·.1))[j]? = some k := by rw [List.getElem?_map, hj, ← hq]; rfl
      have l1 := (List.getElem?_eq_some_iff.mp e1).1
      have ij : i = j := (List.getElem?_inj l1 nd).mp (e1.trans e2.symm)
      subst ij
      rw [hi] at hj
      exact hj.symm
  rw [this]
/-- sorted of data -/
def rSortD {β : Type} (enc : β → PyData) (K : PySem.W.Frag) : List V → Hp → VK → Prop := fun vs H Q => ∃ (a : Addr) (xs : List V) (bs : List β) (R : V → β → Prop), vs = [.ref a] ∧ SqL K H a xs ∧ Paired R xs bs ∧ (∀ v b, b ∈ bs → R v b → Dp K H v (enc b)) ∧ PySem.W.AllAlike (bs.map enc) ∧ PySem.W.Sortable (bs.map enc) ∧ (∀ b ∈ bs, (enc b).depth ≤ 60) ∧
  ∀ (p : Addr) (ys : List V), H p = none → Paired R ys (bs.mergeSort (PySem.W.dataLe false enc)) → Q (.ref p) (upd H p (.lst ys))
theorem each_of {β : Type} {R : V → β → Prop} {S : Value → β → Prop} : ∀ {xs : List V} {us : List Value} {bs : List β}, Vals xs us → Paired R xs bs → (∀ v u b, b ∈ bs → RelV v u → R v b → S u b) → PySem.W.EachIs S us bs
  | _, _, _, .nil, .nil, _ => .nil
  | _, _, _, .cons r rs, .cons h hs, k => .cons (k _ _ _ List.mem_cons_self r h) (each_of rs hs fun v u b hb => k v u b (List.mem_cons_of_mem _ hb))
theorem of_each {β : Type} {R : V → β → Prop} : ∀ {us : List Value} {bs : List β}, PySem.W.EachIs (fun u b => ∃ v, RelV v u ∧ R v b) us bs → ∃ xs, Vals xs us ∧ Paired R xs bs
  | _, _, .nil => ⟨[], .nil, .nil⟩
  | _, _, .cons ⟨v, r, h⟩ hs => let ⟨xs, h1, h2⟩ := of_each hs; ⟨v :: xs, .cons r h1, .cons h h2⟩
theorem cr_sortD {X : Cx} {β : Type} (enc : β → PyData) (hu : X.A.units + 64 < cLine) : CallR X (.builtin "sorted") (rSortD enc X.K) := by
  intro pins s σ H vs us Q I r h
  obtain ⟨a, xs, bs, R, rfl, hs, hR, hd, hal, hk, hdep, q⟩ := h
  obtain ⟨its, rv, hl, hz⟩ := I.list hs
  rw [Vals.ref1 r]
  have lb : its.length = bs.length := by rw [← rv.length, hR.length]
  refine PySem.W.sorted_data (enc := enc) (bs := bs) (R := fun u b => ∃ v, RelV v u ∧ R v b) hl.isList (each_of rv hR fun v u b _ r h => ⟨v, r, h⟩) (each_of rv hR fun v u b hb r h => Dp.reads I (enc b) v u (hd v b hb h) r) hal hk (by rw [← lb, ← rv.length]; exact hz) (fun b hb => by have := hdep b hb; omega) fun out hlen hout => ?_
  obtain ⟨ys, h1, h2⟩ := of_each hout
  obtain ⟨ep, he⟩ := sortedAll_at s.heap its out.toArray
  have hly : ys.length ≤ sizeLine := by
    rw [h1.length, hlen, ← lb, ← rv.length]
    exact hz
  exact ⟨.ref _, upd H (s.heap.objs.size + 1) (.lst ys), I.laid (t' := s.toks) (fun _ _ => sortedAll_old) (Nat.le_succ _) (show ObjOk X.prog X.w _ _ _ (.lst ys) from ⟨hly, out, ep, h1, he⟩), rfl, q _ ys (I.hok.fresh (Nat.le_succ _)) h2⟩
end Th
/-! slices of tuples whose object is known; t.index(x) of such; t[::-1] of a tuple -/
namespace Tw
open PySem PySem.Spec PyProof.Rows L2 HT Th
section
variable {X : Cx}
def tyTp (x : V) (H : Hp) : Prop := ∃ a xs, x = .ref a ∧ TpF H a xs
theorem ty_tp : TyOk X "tuple" tyTp := by
  intro pins σ H s x v I r ty
  obtain ⟨a, xs, rfl, ob, hob, hnd⟩ := ty
  cases r
  obtain ⟨hg, hz, its, rv, o', ho', hc, n, hdat⟩ := (show ObjOk X.prog X.w H s.heap a (.frz ob (.tup xs)) from I.hok a _ hob)
  refine ⟨⟨o', ho', hc⟩, fun b e => ?_⟩
  cases e
  exact ⟨ob, hg, hnd⟩
def rIdxT (K : PySem.W.Frag) : V → List V → Hp → VK → Prop := fun x xs H Q => ∃ p, ∃ ys : List Str, ∃ z j, x = .ref p ∧ xs = [.str z] ∧ SqT K H p (ys.map V.str) ∧ ys[j]? = some z ∧ (∀ m, m < j → ys[m]? ≠ some z) ∧ Q (.int (j : Nat)) H
theorem mt_tidx : MtR X "tuple.index" (rIdxT X.K) := mt_tup_index
def rSlF (K : PySem.W.Frag) : V → Option Int → Option Int → Hp → VK → Prop := fun x lo hi H Q => ∃ a xs, x = .ref a ∧ SqT K H a xs ∧ ¬ (HT.sIx xs.length 0 lo = 0 ∧ HT.sIx xs.length xs.length hi = xs.length) ∧
  ∀ (p : Addr) (H' : Hp), H p = none → Same H H' → TpF H' p (cutV xs lo hi) → (∀ q, q ≠ p → H' q = H q) → Q (.ref p) H'
theorem sl_tupF : SlR X (rSlF X.K) := by
  intro pins s σ H x v vl vu lo hi sl Q I rx hs pl pu h
  obtain ⟨a, xs, rfl, hx, hw, q⟩ := h
  cases rx
  obtain ⟨its, r, ht, hz⟩ := I.tuple hx
  have hlen : its.toArray.size = xs.length := by rw [List.size_toArray]; exact r.length.symm
  refine ⟨"tuple", _, PyProof.Rows.slot_tuple_getitem.lookup, ht.typeIs, ?_⟩
  refine HT.getItem_tuple_cut ht hs pl pu (by rw [hlen]; exact hw) ?_ (by rw [hlen]; exact hz)
  rw [hlen]
  have nl := I.hok.fresh (Nat.le_refl s.heap.objs.size)
  refine ⟨.ref s.heap.objs.size, upd H s.heap.objs.size (.frz { cls := .type "tuple", data := .seq ((its.toArray.toList.drop (HT.sIx xs.length 0 lo)).take (HT.sIx xs.length xs.length hi - HT.sIx xs.length 0 lo)).toArray } (.tup (cutV xs lo hi))), I.laid (t' := s.toks) (fun b ob q => Heap.get?_push_of_some _ q) (Nat.le_refl _) ?_, rfl, q _ _ nl (same_upd nl) ⟨_, upd_same, rfl⟩ fun q hq => upd_ne hq⟩
  exact ⟨Heap.get?_push_size _ rfl, Nat.le_trans (cutV_length xs lo hi) hz, _, (r.drop (HT.sIx xs.length 0 lo)).take (HT.sIx xs.length xs.length hi - HT.sIx xs.length 0 lo), IsTup.new _ _⟩
end
section
variable {prog : Program} {w : World} {A : Around} {E : Value → Shared → Prop} {s : Shared}
theorem places (n : Nat) : Builtin.Slice.slicePlaces ((n : Int) - 1) (-1) (-1) = n := by
  unfold Builtin.Slice.slicePlaces
  rw [if_neg (by decide)]
  by_cases h : (n : Int) - 1 > -1
  · rw [if_pos h]
    have e : ((n : Int) - 1 - -1 - 1) / (- -1) + 1 = (n : Int) := by
      rw [show (- -1 : Int) = 1 by decide, Int.ediv_one]
      omega
    rw [e]
    rfl
  · rw [if_neg h]
    have : n = 0 := by omega
    subst this
    rfl
theorem applied {sl : Addr} {n : Nat} {vl vu vs : Value} {Q : Int × Int × Nat → Shared → Prop} (hs : s.heap.IsSliceOf sl vl vu vs) (pl : IsPart vl none) (pu : IsPart vu none) (ps : IsPart vs (some (-1)))
    (h : Q ((n : Int) - 1, -1, n) s) : wpAny (model prog w) A (Builtin.Slice.sliceApplied (.ref sl) (pure (n : Int))) Q E s := by
  obtain ⟨os, hos, hcs, hds⟩ := id hs
  unfold Builtin.Slice.sliceApplied Builtin.Slice.sliceFields
  refine wpAny_bind (wpAny_bind (wpAny_field hos hds (x := vl) rfl (wpAny_bind (wpAny_field hos hds (x := vu) rfl (wpAny_bind (wpAny_field hos hds (x := vs) rfl (wpAny_pure ?_)))))))
  refine wpAny_bind (slicePart_ ps ?_)
  show wpAny _ _ (if ((-1 : Int) == 0) = true then _ else _) _ _ s
  rw [if_neg (by decide)]
  refine wpAny_bind (slicePart_ pl (wpAny_bind (slicePart_ pu (wpAny_bind (wpAny_pure ?_)))))
  have e : Builtin.Slice.sliceAdjust none none (-1) (n : Int) = ((n : Int) - 1, -1) := by
    unfold Builtin.Slice.sliceAdjust
    simp
  show wpAny _ _ (match Builtin.Slice.sliceAdjust none none (-1) (n : Int) with | (lo, hi) => pure (lo, (-1 : Int), Builtin.Slice.slicePlaces lo hi (-1))) Q E s
  rw [e]
  refine wpAny_pure ?_
  show Q (_, _, Builtin.Slice.slicePlaces ((n : Int) - 1) (-1) (-1)) s
  rw [places]
  exact h
theorem fm_congr {α β : Type} {f g : α → Option β} : ∀ {l : List α}, (∀ x ∈ l, f x = g x) → l.filterMap f = l.filterMap g
  | [], _ => rfl
  | x :: l, h => by
    rw [List.filterMap_cons, List.filterMap_cons, h x List.mem_cons_self, fm_congr fun y hy => h y (List.mem_cons_of_mem _ hy)]
theorem back (xs : Array Value) : ((List.range xs.size).filterMap fun (k : Nat) => xs[(((xs.size : Int) - 1) + (k : Int) * (-1)).toNat]?) = xs.toList.reverse := by
  have e : ((List.range xs.size).filterMap fun (k : Nat) => xs[(((xs.size : Int) - 1) + (k : Int) * (-1)).toNat]?) = ((List.range xs.size).map fun k => xs.size - 1 - k).filterMap (xs[·]?) := by
    rw [List.filterMap_map]
    refine fm_congr fun k hk => ?_
    have := List.mem_range.mp hk
    show _ = xs[xs.size - 1 - k]?
    congr 1
    omega
  rw [e, PySem.W.krv_range, List.filterMap_reverse, PySem.W.krv_all]
theorem item_rev {t sl : Addr} {items : Array Value} {vl vu vs : Value} {Q : Value → Shared → Prop} (ht : IsTup s.heap t items) (hs : s.heap.IsSliceOf sl vl vu vs) (pl : IsPart vl none) (pu : IsPart vu none) (ps : IsPart vs (some (-1))) (hz : items.size ≤ sizeLine)
    (h : Q (.ref s.heap.objs.size) { s with heap := s.heap.push { cls := .type "tuple", data := .seq items.toList.reverse.toArray } }) : wpAny (model prog w) A (getItem (.ref t) (.ref sl)) Q E s := by
  have htake : sizeOk (.seq items.toList.reverse.toArray) := by
    show items.toList.reverse.toArray.size ≤ sizeLine
    simpa using hz
  obtain ⟨os, hos, hcs, hds⟩ := id hs
  have hTs : s.TypeIs (.ref sl) "slice" := ⟨os, hos, hcs⟩
  unfold getItem
  try with_reducible refine wpAny_holding ?_
  first | refine wpAny_bind (wpAny_pure ?_) | skip
  refine wpAny_bind (wpAny_sequenceKey ht.typeIs (by decide) ?_)
  refine wpAny_bind (wpAny_callSpecial?_slot (name := Str.ofString "__getitem__") ht.typeIs PyProof.Rows.slot_tuple_getitem
    (wpAny_call_entry PyProof.Rows.slot_tuple_getitem ht.typeIs entry_tuple_getitem ?_ (args_tuple_getitem _ _)))
  show wpAny _ _ (Builtin.Tuple.tupleItemsOf (.ref t) >>= _) _ _ s
  refine wpAny_bind (tupleItemsOf_ ht ?_)
  refine wpAny_bind (wpAny_typeOf hTs ?_)
  rw [if_pos (by decide)]
  refine wpAny_bind (applied hs pl pu ps ?_)
  show wpAny _ _ (if (((items.size : Int) - 1) == 0 && (-1 : Int) == 1 && items.size == items.size) = true then _ else _) _ _ s
  rw [if_neg (by simp)]
  show wpAny _ _ (Builtin.Tuple.tupleExact ((List.range items.size).filterMap fun (k : Nat) => items[(((items.size : Int) - 1) + (k : Int) * (-1)).toNat]?).toArray >>= _) _ _ s
  rw [back]
  first
    | exact wpAny_bind (m := Builtin.Tuple.tupleExact _) (wpAny_newObj_type (wpAny_pure ⟨_, rfl, wpAny_pure h⟩) htake)
    | exact wpAny_bind (m := Builtin.Tuple.tupleExact _) (wpAny_newObj_type (wpAny_bind (wpAny_pure (wpAny_pure ⟨_, rfl, wpAny_pure h⟩))) htake)
    | exact wpAny_bind (wpAny_bind (m := Builtin.Tuple.tupleExact _) (wpAny_newObj_type (wpAny_pure (wpAny_pure ⟨_, rfl, wpAny_pure h⟩)) htake))
    | exact wpAny_bind (wpAny_bind (m := Builtin.Tuple.tupleExact _) (wpAny_newObj_type (wpAny_pure ⟨_, rfl, wpAny_pure h⟩) htake))
end
section
variable {X : Cx}
def tRevT (K : PySem.W.Frag) (te : TE) : TE := fun σ H Q => te σ H fun x H1 => ∃ a xs, x = .ref a ∧ SqT K H1 a xs ∧ ∀ p, H1 p = none → Q (.ref p) (upd H1 p (.tup xs.reverse))
theorem pe_revT {K : PySem.W.Frag} {e : Expr} {te : TE} {k : Nat} {p1 p2 p3 pos : Pos} (he : PE X e te) (hK : X.K = K := by rfl) : PE X (.Subscript e (.Slice none none (some (.UnaryOp .USub (.Constant (.int 1) k p1) p2)) p3) pos) (tRevT K te) := by
  subst hK
  refine ⟨fun pins s σ H Q I h => ?_⟩
  refine Subscript_ (thn (he.run pins s σ H _ I h) fun v s1 ⟨x, H1, I1, r1, q1⟩ => ?_)
  obtain ⟨a, xs, ex, hx, q⟩ := q1
  subst ex
  cases r1
  have hst : PO X (some (.UnaryOp .USub (.Constant (.int 1) k p1) p2)) (tPart (tUn (rU fun i => .int (-i)) (tC (.int 1)))) := po_some (pe_un un_neg pe_int)
  refine wpAny_Slice (thn (po_none.run pins s1 σ H1 (fun o H2 => o = none ∧ H2 = H1) I1 ⟨rfl, rfl⟩) fun vl s2 ⟨l, H2, I2, pl, el, e2⟩ => ?_)
  subst el e2
  refine thn (po_none.run pins s2 σ H2 (fun o H3 => o = none ∧ H3 = H2) I2 ⟨rfl, rfl⟩) fun vu s3 ⟨u, H3, I3, pu, eu, e3⟩ => ?_
  subst eu e3
  refine thn (hst.run pins s3 σ H3 (fun o H4 => o = some (-1) ∧ H4 = H3) I3 ⟨1, rfl, -1, rfl, rfl, rfl⟩) fun vs s4 ⟨o, H4, I4, ps, eo, e4⟩ => ?_
  subst eo e4
  have I5 : Inv X pins σ H4 { s4 with heap := s4.heap.push { cls := .type "slice", data := .fields #[vl, vu, vs] } } := I4.kept (t' := s4.toks) fun b ob q => Heap.get?_push_of_some _ q
  obtain ⟨its, r, ht, hz⟩ := I5.tuple hx
  have hlen := r.length
  show wpAny (model X.prog X.w) X.A (subscriptTail e (.Slice none none (some (.UnaryOp .USub (.Constant (.int 1) k p1) p2)) p3) (.ref a) (.ref s4.heap.objs.size)) (EP X pins σ Q) X.xe { s4 with heap := s4.heap.push { cls := .type "slice", data := .fields #[vl, vu, vs] } }
  refine tail_any (ops := [.ref a, .ref s4.heap.objs.size]) ht.typeIs (PyProof.Rows.slot_tuple_getitem.lookup) ?_ (by with_unfolding_all rfl)
  refine item_rev ht (Heap.IsSliceOf.new _ vl vu vs) pl pu ps (by rw [List.size_toArray]; omega) ?_
  refine ⟨.ref _, _, I5.laid (t' := s4.toks) (o := .tup xs.reverse) (fun b ob q => Heap.get?_push_of_some _ q) (Nat.le_refl _) ?_, rfl, q _ (I5.hok.fresh (Nat.le_refl _))⟩
  exact ⟨by rw [List.length_reverse]; exact hz, _, r.reverse, IsTup.new _ _⟩
end
end Tw
/-! zip of a tuple and two lists -/
namespace Z3
open PySem PySem.Spec PyProof.Rows L2
def Itz3 (K : PySem.W.Frag) (a b c : Addr) : It :=
  ⟨fun i H => ∃ (xs ys zs : List V) (x y z : V), SqT K H a xs ∧ SqL K H b ys ∧ SqL K H c zs ∧ xs[i]? = some x ∧ ys[i]? = some y ∧ zs[i]? = some z,
    fun i H v H' => ∃ T x y z, v = .ref T ∧ H T = none ∧ H' = upd H T (.tup [x, y, z]) ∧ (∀ xs, SqT K H a xs → xs[i]? = some x) ∧ (∀ ys, SqL K H b ys → ys[i]? = some y) ∧ ∀ zs, SqL K H c zs → zs[i]? = some z,
    fun i H => ∃ xs ys zs : List V, SqT K H a xs ∧ SqL K H b ys ∧ SqL K H c zs ∧ i ≤ xs.length ∧ i ≤ ys.length ∧ i ≤ zs.length ∧ (i = xs.length ∨ i = ys.length ∨ i = zs.length)⟩
theorem turn_zip3 {P : Program} {w : World} {K : PySem.W.Frag} {elts : List Expr} {kk : Nat} {tpos : Pos} {a b c z TI TO i1 i2 i3 : Addr} (D : ZipSep3 z TI TO i1 i2 i3 [i1, a] [i2, b] [i3, c]) (n1 : a ≠ i1) (n2 : b ≠ i2) (n3 : c ≠ i3) :
    Turn P w K (.Tuple elts kk tpos) (Itz3 K a b c) [z, TI, TO, i1, i2, i3] z (fun i h => IsZip h z TI TO .none ∧ IsTupOf3 h TI (.ref i1) (.ref i2) (.ref i3) ∧ (∃ x y u, IsTupOf3 h TO x y u) ∧ h.IsTupleIter i1 a i ∧ h.IsListIter i2 b i ∧ h.IsListIter i3 c i) where
  mem := by simp
  obj := fun i h st d hd => by
    obtain ⟨hz, hTI, ⟨x, y, u, hTO⟩, ⟨o1, e1, _, d1⟩, ⟨o2, e2, _, d2⟩, ⟨o3, e3, _, d3⟩⟩ := st
    have e' : d = z ∨ d = TI ∨ d = TO ∨ d = i1 ∨ d = i2 ∨ d = i3 := by simpa using hd
    rcases e' with q | q | q | q | q | q
    · rw [q]; exact ⟨_, hz, fun v q => nomatch q⟩
    · rw [q]; exact ⟨_, hTI, fun v q => nomatch q⟩
    · rw [q]; exact ⟨_, hTO, fun v q => nomatch q⟩
    · rw [q]; exact ⟨o1, e1, fun v q => by rw [d1] at q; cases q⟩
    · rw [q]; exact ⟨o2, e2, fun v q => by rw [d2] at q; cases q⟩
    · rw [q]; exact ⟨o3, e3, fun v q => by rw [d3] at q; cases q⟩
  keep := fun i h h' st k => by
    obtain ⟨hz, hTI, ⟨x, y, u, hTO⟩, h1, h2, h3⟩ := st
    exact ⟨k z (by simp) _ hz, k TI (by simp) _ hTI, ⟨x, y, u, k TO (by simp) _ hTO⟩, h1.at fun o q => k i1 (by simp) o q, h2.at fun o q => k i2 (by simp) o q, h3.at fun o q => k i3 (by simp) o q⟩
  item := by
    intro X hP hw hK hc i pins s σ H E I hf st hg
    subst hP hw hK
    obtain ⟨hz, hTI, ⟨x0, y0, u0, hTO⟩, h1, h2, h3⟩ := st
    obtain ⟨xs, ys, zs, x, y, u, hqx, hqy, hqz, hx, hy, hu⟩ := hg
    obtain ⟨its, rv, p, _⟩ := I.tuple hqx
    obtain ⟨its2, rv2, p2, _⟩ := I.list hqy
    obtain ⟨its3, rv3, p3, _⟩ := I.list hqz
    obtain ⟨u1, hu1, ru1⟩ := rv.get hx
    obtain ⟨u2, hu2, ru2⟩ := rv2.get hy
    obtain ⟨u3, hu3, ru3⟩ := rv3.get hu
    have hzl : z < s.heap.objs.size := Heap.lt_size hz
    have hA : X.A.in1.handled = none := I.ok.hd hc
    have lt1 : i < its.toArray.size := by have := (List.getElem?_eq_some_iff.mp hu1).1; simpa using this
    have lt2 : i < its2.toArray.size := by have := (List.getElem?_eq_some_iff.mp hu2).1; simpa using this
    have lt3 : i < its3.toArray.size := by have := (List.getElem?_eq_some_iff.mp hu3).1; simpa using this
    refine wpAny_pyNext_zipD3_item D (Draws.tuple hA i1 a n1 its.toArray) (Draws.list hA i2 b n2 its2.toArray) (Draws.list hA i3 c n3 its3.toArray) hz hTI hTO ⟨h1, p⟩ ⟨h2, p2.isList⟩ ⟨h3, p3.isList⟩ lt1 lt2 lt3 fun v1 v2 v3 h' tk y1 y2 y3 z' TO' d1 d2 d3 hT hsz hk => ?_
    have f1 : v1 = u1 := Option.some.inj (y1.symm.trans (by simpa using hu1))
    have f2 : v2 = u2 := Option.some.inj (y2.symm.trans (by simpa using hu2))
    have f3 : v3 = u3 := Option.some.inj (y3.symm.trans (by simpa using hu3))
    subst f1 f2 f3
    refine ⟨_, rfl, wpAny_letOwnedTupleGo_zip (s := { s with heap := h', toks := tk }) z' fun h'' z'' sb => ?_⟩
    have hT2 : h''.get? s.heap.objs.size = some { cls := .type "tuple", data := .seq #[v1, v2, v3] } := (sb.2 _ (Nat.ne_of_gt hzl)).trans hT
    have new : ObjOk X.prog X.w (upd H s.heap.objs.size (.tup [x, y, u])) h'' s.heap.objs.size (.tup [x, y, u]) :=
      ⟨by show 3 ≤ sizeLine; decide, [v1, v2, v3], .cons ru1 (.cons ru2 (.cons ru3 .nil)), ⟨_, hT2, rfl, _, rfl⟩⟩
    have I1 : Inv X pins σ (upd H s.heap.objs.size (.tup [x, y, u])) { s with heap := h'', toks := tk } :=
      I.turnedNew (t' := tk) (ch := [z, TI, TO, i1, i2, i3]) (fun d o hb q => (sb.2 d (fun q' => hb (by simp [q']))).trans (hk d o (fun q' => hb (by simp [q'])) (fun q' => hb (by simp [q'])) (fun q' => hb (by simp [q'])) (fun q' => hb (by simp [q'])) (fun q' => hb (by simp [q'])) q)) hf (Nat.le_refl _) new
    refine ⟨.ref s.heap.objs.size, _, I1, rfl, ⟨_, x, y, u, rfl, I.hok.fresh (Nat.le_refl _), rfl, fun l hl => by rw [I.tuple_inj hl hqx]; exact hx, fun l hl => by rw [I.list_inj hl hqy]; exact hy, fun l hl => by rw [I.list_inj hl hqz]; exact hu⟩, ⟨z'', ?_, ⟨v1, v2, v3, ?_⟩, ?_, ?_, ?_⟩, fun d hcm => ?_⟩
    · exact (sb.2 _ D.TIz).trans (hk _ _ D.TIz D.TITO D.TIi1 D.TIi2 D.TIi3 hTI)
    · exact (sb.2 _ D.TOz).trans TO'
    · exact d1.1.at fun o q => (sb.2 _ D.zi1.symm).trans q
    · exact d2.1.at fun o q => (sb.2 _ D.zi2.symm).trans q
    · exact d3.1.at fun o q => (sb.2 _ D.zi3.symm).trans q
    · have hlt : d < s.heap.objs.size := by
        have e' : d = z ∨ d = TI ∨ d = TO ∨ d = i1 ∨ d = i2 ∨ d = i3 := by simpa using hcm
        rcases e' with q | q | q | q | q | q
        · rw [q]; exact hzl
        · rw [q]; exact Heap.lt_size hTI
        · rw [q]; exact Heap.lt_size hTO
        · rw [q]; obtain ⟨_, e1, _⟩ := h1; exact Heap.lt_size e1
        · rw [q]; obtain ⟨_, e2, _⟩ := h2; exact Heap.lt_size e2
        · rw [q]; obtain ⟨_, e3, _⟩ := h3; exact Heap.lt_size e3
      rw [upd_ne (Nat.ne_of_lt hlt)]
      exact (hf d hcm).1
  done := by
    intro X hP hw hK hc i pins s σ H E I hf st hg
    subst hP hw hK
    obtain ⟨hz, hTI, ⟨x0, y0, u0, hTO⟩, h1, h2, h3⟩ := st
    obtain ⟨xs, ys, zs, hqx, hqy, hqz, le1, le2, le3, hend⟩ := hg
    obtain ⟨its, rv, p, _⟩ := I.tuple hqx
    obtain ⟨its2, rv2, p2, _⟩ := I.list hqy
    obtain ⟨its3, rv3, p3, _⟩ := I.list hqz
    have l1 : its.toArray.size = xs.length := by rw [rv.length]; simp
    have l2 : its2.toArray.size = ys.length := by rw [rv2.length]; simp
    have l3 : its3.toArray.size = zs.length := by rw [rv3.length]; simp
    have hA : X.A.in1.handled = none := I.ok.hd hc
    exact wpAny_pyNext_zipD3_end D (Draws.tuple hA i1 a n1 its.toArray) (Draws.list hA i2 b n2 its2.toArray) (Draws.list hA i3 c n3 its3.toArray) hz hTI hTO ⟨h1, p⟩ ⟨h2, p2.isList⟩ ⟨h3, p3.isList⟩ (by rw [l1]; exact le1) (by rw [l2]; exact le2) (by rw [l3]; exact le3) (by rw [l1, l2, l3]; exact hend) fun h' tk hk => ⟨rfl, I.turnedL (t' := tk) (ch := [z, TI, TO, i1, i2, i3]) (fun d o hb q =>
      hk d o (fun q' => hb (by simp [q'])) (fun q' => hb (by simp [q'])) (fun q' => hb (by simp [q'])) (fun q' => hb (by simp [q'])) (fun q' => hb (by simp [q'])) q) hf⟩
  self := fun A i s Q E st h => wpAny_pyIter_zip st.1 h
def iZip3 (K : PySem.W.Frag) (ta : TA) : TI := fun σ H R => ta σ H fun vs H1 => ∃ a b c xs ys zs, vs = [.ref a, .ref b, .ref c] ∧ SqT K H1 a xs ∧ SqL K H1 b ys ∧ SqL K H1 c zs ∧ R (Itz3 K a b c) H1
theorem pi_zip3 {X : Cx} {e e2 e3 : Expr} {ta : TA} {p pos tpos : Pos} {elts : List Expr} {kk : Nat} (hg : Gl X "zip") (hm : X.mg "zip" = none) (ha : PA X [e, e2, e3] ta)
    (hs : starEach [e, e2, e3] X.env = (false, eval e X.env) :: starEach [e2, e3] X.env := by rfl) (hpl : (backTo pos (starEach [e2, e3] X.env)).any (·.1) = false := by rfl) :
    PI X (.Tuple elts kk tpos) (.Call (.Name "zip" p) [e, e2, e3] [] pos) (iZip3 X.K ta) := by
  refine ⟨fun pins s σ H R I h => ?_⟩
  refine Call_ (ld_blt I hg hm PyProof.Rows.boot_zip (PyProof.Rows.callWith_type1 (thn (ha.run pos pins s σ H _ I h) fun us s1 ⟨vs, H1, I1, r1, q1⟩ => ?_) hs hpl))
  obtain ⟨a, b, c, xs, ys, zs, ex, hqx, hqy, hqz, q⟩ := q1
  subst ex
  cases r1 with
  | cons r rr =>
    cases rr with
    | cons r' rr =>
      cases rr with
      | cons r'' rr =>
        cases rr
        cases r
        cases r'
        cases r''
        have fresh6 : ∀ d, d ∈ [s1.heap.objs.size + 5, s1.heap.objs.size + 3, s1.heap.objs.size + 4, s1.heap.objs.size, s1.heap.objs.size + 1, s1.heap.objs.size + 2] → FpOk X pins H1 d := fun d hcm => by
          have e' : d = s1.heap.objs.size + 5 ∨ d = s1.heap.objs.size + 3 ∨ d = s1.heap.objs.size + 4 ∨ d = s1.heap.objs.size ∨ d = s1.heap.objs.size + 1 ∨ d = s1.heap.objs.size + 2 := by simpa using hcm
          have hle : s1.heap.objs.size ≤ d := by
            rcases e' with z | z | z | z | z | z
            · rw [z]; exact Nat.le_add_right _ _
            · rw [z]; exact Nat.le_add_right _ _
            · rw [z]; exact Nat.le_add_right _ _
            · rw [z]; exact Nat.le_refl _
            · rw [z]; exact Nat.le_add_right _ _
            · rw [z]; exact Nat.le_add_right _ _
          exact I1.fpOk hle (I1.hok.fresh hle)
        obtain ⟨its, rv, p1, _⟩ := I1.tuple hqx
        obtain ⟨its2, rv2, p2, _⟩ := I1.list hqy
        obtain ⟨its3, rv3, p3, _⟩ := I1.list hqz
        obtain ⟨o1, ho1, _⟩ := id p1
        refine zip_begins3 (begins_tuple a its.toArray) (begins_list b its2.toArray) (begins_list c its3.toArray) p1 p2.isList p3.isList fun h' hz hTI hTO h1 h2 h3 hsz hk => wpAny_pyIter_zip hz ?_
        have I2 : Inv X pins σ H1 { s1 with heap := h' } := I1.kept (t' := s1.toks) hk
        have la : a < s1.heap.objs.size := Heap.lt_size ho1
        have lb := p2.lt
        have lc := p3.lt
        refine ⟨s1.heap.objs.size + 5, [s1.heap.objs.size + 5, s1.heap.objs.size + 3, s1.heap.objs.size + 4, s1.heap.objs.size, s1.heap.objs.size + 1, s1.heap.objs.size + 2], _, _, H1, rfl, I2, turn_zip3 (zip_sep3 (N := s1.heap.objs.size) (fun d hd => by rw [List.mem_singleton.mp hd]; exact la) (fun d hd => by rw [List.mem_singleton.mp hd]; exact lb) (fun d hd => by rw [List.mem_singleton.mp hd]; exact lc)) (Nat.ne_of_lt la) (Nat.ne_of_lt (Nat.lt_succ_of_lt lb)) (Nat.ne_of_lt (Nat.lt_of_lt_of_le lc (Nat.le_add_right _ _))), ⟨hz, hTI, ⟨_, _, _, hTO⟩, ⟨_, h1, rfl, rfl⟩, ⟨_, h2, rfl, rfl⟩, ⟨_, h3, rfl, rfl⟩⟩, fresh6, q⟩
/-- a new tuple of the i-th of each -/
def YTri (xs ys zs : List V) : Nat → Hp → V → Hp → Prop := fun i H v H' => ∃ T x y z, v = .ref T ∧ H T = none ∧ H' = upd H T (.tup [x, y, z]) ∧ xs[i]? = some x ∧ ys[i]? = some y ∧ zs[i]? = some z
theorem walk_zip3 {K : PySem.W.Frag} {a b c : Addr} {xs ys zs : List V} {n : Nat} (h1 : n ≤ xs.length) (h2 : n ≤ ys.length) (h3 : n ≤ zs.length) (he : n = xs.length ∨ n = ys.length ∨ n = zs.length) :
    Walk (Itz3 K a b c) n (fun H => SqT K H a xs ∧ SqL K H b ys ∧ SqL K H c zs) (YTri xs ys zs) where
  goes := fun i H hi g => ⟨xs, ys, zs, _, _, _, g.1, g.2.1, g.2.2, List.getElem?_eq_getElem (Nat.lt_of_lt_of_le hi h1), List.getElem?_eq_getElem (Nat.lt_of_lt_of_le hi h2), List.getElem?_eq_getElem (Nat.lt_of_lt_of_le hi h3)⟩
  stops := fun H g => ⟨xs, ys, zs, g.1, g.2.1, g.2.2, h1, h2, h3, he⟩
  yields := fun i H x H' hi g y => by
    obtain ⟨T, u, v, z, e1, e2, e3, e4, e5, e6⟩ := y
    exact ⟨T, u, v, z, e1, e2, e3, e4 _ g.1, e5 _ g.2.1, e6 _ g.2.2⟩
end Z3
/-! x in t, t a tuple, of data of any depth; bool or int beside comparisons of any data -/
namespace InT
open PySem PySem.Spec PyProof.Rows L2
section
variable {X : Cx}
def rInT (K : PySem.W.Frag) : R2 := fun x y H Q => ∃ d ds, Dp K H x d ∧ Dp K H y (.tuple ds) ∧ SeqAt.shaped d = true ∧ SeqAt.shaped (.tuple ds) = true ∧ Q (.bl (ds.any fun z => PyData.eqv z d)) H
def rNotInT (K : PySem.W.Frag) : R2 := fun x y H Q => ∃ d ds, Dp K H x d ∧ Dp K H y (.tuple ds) ∧ SeqAt.shaped d = true ∧ SeqAt.shaped (.tuple ds) = true ∧ Q (.bl (!ds.any fun z => PyData.eqv z d)) H
theorem op_inT (hu : X.A.units + 65 < cLine) : OpR X (compareOp .In) (rInT X.K) := by
  intro pins s σ H x y v u Q I rx ry h
  obtain ⟨d, ds, hd, he, sd, se, q⟩ := h
  obtain ⟨as, r1⟩ := Dp.reads I d x v hd rx
  obtain ⟨bs, r2⟩ := Dp.reads I (.tuple ds) y u he ry
  exact SeqAt.in_tuple_reads r2 r1 (SeqAt.canLay_of_shaped se) (SeqAt.canLay_of_shaped sd) (room_in_shaped sd hu) ⟨.bl _, H, I, rfl, q⟩
theorem op_notInT (hu : X.A.units + 65 < cLine) : OpR X (compareOp .NotIn) (rNotInT X.K) := by
  intro pins s σ H x y v u Q I rx ry h
  obtain ⟨d, ds, hd, he, sd, se, q⟩ := h
  obtain ⟨as, r1⟩ := Dp.reads I d x v hd rx
  obtain ⟨bs, r2⟩ := Dp.reads I (.tuple ds) y u he ry
  exact SeqAt.notIn_tuple_reads r2 r1 (SeqAt.canLay_of_shaped se) (SeqAt.canLay_of_shaped sd) (room_in_shaped sd hu) ⟨.bl _, H, I, rfl, q⟩
/-- list(x) of a list, a tuple or a dict by its keys -/
def rListA (K : PySem.W.Frag) : List V → Hp → VK → Prop := fun xs H Q => ∃ (a : Addr) (ys : List V), xs = [.ref a] ∧ ((SqL K H a ys ∨ SqT K H a ys) ∨ ∃ kvs : List (Key × V), Rd H a (.dK kvs) ∧ ys = kvs.map fun kv => kV kv.1) ∧ ∀ p, H p = none → Q (.ref p) (upd H p (.lst ys))
theorem call_listA (hcalm : X.calm = true) : CallR X (.type "list") (rListA X.K) := by
  intro pins s σ H xs us Q I r h
  obtain ⟨a, ys, rfl, h | ⟨kvs, hk, rfl⟩, q⟩ := h
  · exact call_list_of pins s σ H _ us Q I r ⟨a, ys, rfl, h, q⟩
  · exact call_listD hcalm pins s σ H _ us Q I r ⟨a, kvs, rfl, hk, q⟩
end
end InT
/-! tuples whose objects stay known: written ones, sums, slices, t[::-1]; t.count(x) of data -/
namespace Tk
open PySem PySem.Spec PyProof.Rows L2 HT Th
section
variable {X : Cx}
def tTupK (t : TA) : TE := fun σ H Q => t σ H fun xs H1 => xs.length ≤ sizeLine ∧ ∀ p H', H1 p = none → Same H1 H' → TpF H' p xs → (∀ q, q ≠ p → H' q = H1 q) → Q (.ref p) H'
theorem pe_tupK {es : List Expr} {t : TA} {x1 : Nat} {pos : Pos} (h : PA X es t) : PE X (.Tuple es x1 pos) (tTupK t) := by
  refine ⟨fun pins s σ H Q I hq => ?_⟩
  refine wpAny_Tuple_spliced (thn (h.run pos pins s σ H _ I hq) fun us s1 ⟨xs, H1, I1, r, z, q⟩ => ⟨by rw [← r.length]; exact z, ?_⟩)
  have hf : H1 s1.heap.objs.size = none := I1.hok.fresh (Nat.le_refl _)
  exact ⟨.ref s1.heap.objs.size, upd H1 s1.heap.objs.size (.frz _ (.tup xs)), I1.laid (t' := s1.toks) (fun b u e => Heap.get?_push_of_some _ e) (Nat.le_refl _) (show ObjOk X.prog X.w _ _ _ (.frz _ (.tup xs)) from ⟨Heap.get?_push_size _ rfl, z, us, r, IsTup.new _ _⟩), rfl, q _ _ hf (same_upd hf) ⟨_, upd_same, rfl⟩ fun q hq => upd_ne hq⟩
def rCatK (K : PySem.W.Frag) : R2 := fun x y H Q => ∃ (a b : Addr) (xs ys : List V), x = .ref a ∧ y = .ref b ∧ TpF H a xs ∧ TpF H b ys ∧ xs.length + ys.length ≤ sizeLine ∧ ∀ (c : Addr) (H' : Hp), Same H H' → TpF H' c (xs ++ ys) → Q (.ref c) H'
theorem op_catK : OpR X (binaryOp .Add) (rCatK X.K) := by
  intro pins s σ H x y v u Q I rx ry h
  obtain ⟨a, b, xs, ys, rfl, rfl, ha, hb, hz, q⟩ := h
  by_cases hx : xs = []
  · subst hx
    cases rx
    cases ry
    obtain ⟨its, r1, p1, _⟩ := I.tuple (ha.sq (K := X.K))
    obtain ⟨its2, r2, p2, _⟩ := I.tuple (hb.sq (K := X.K))
    cases r1
    exact cat_tup0 p1 p2 ⟨.ref b, H, I, rfl, q b H (.refl _) hb⟩
  · cases rx
    cases ry
    obtain ⟨its, r1, p1, _⟩ := I.tuple (ha.sq (K := X.K))
    obtain ⟨its2, r2, p2, _⟩ := I.tuple (hb.sq (K := X.K))
    refine HT.cat_tup p1 p2 (fun z => hx (r1.nil_iff.mp z)) (fun z => ⟨.ref a, H, I, rfl, q a H (.refl _) (by rw [r2.nil_iff.mp z, List.append_nil]; exact ha)⟩) (fun z => ?_) (by rw [← r1.length, ← r2.length]; exact hz)
    have hf := I.hok.fresh (Nat.le_refl s.heap.objs.size)
    exact ⟨.ref s.heap.objs.size, _, I.laid (t' := s.toks) (o := .frz _ (.tup (xs ++ ys))) (fun b ob q => Heap.get?_push_of_some _ q) (Nat.le_refl _) (show ObjOk X.prog X.w _ _ _ (.frz _ (.tup (xs ++ ys))) from ⟨Heap.get?_push_size _ rfl, by rw [List.length_append]; exact hz, _, r1.append r2, IsTup.new _ _⟩), rfl, q _ _ (same_upd hf) ⟨_, upd_same, rfl⟩⟩
def rSlK (K : PySem.W.Frag) : V → Option Int → Option Int → Hp → VK → Prop := fun x lo hi H Q => ∃ (a : Addr) (xs : List V), x = .ref a ∧ TpF H a xs ∧ ∀ (c : Addr) (H' : Hp), Same H H' → TpF H' c (cutV xs lo hi) → Q (.ref c) H'
theorem sl_tupK : SlR X (rSlK X.K) := by
  intro pins s σ H x v vl vu lo hi sl Q I rx hs pl pu h
  obtain ⟨a, xs, rfl, hx, q⟩ := h
  by_cases hw : HT.sIx xs.length 0 lo = 0 ∧ HT.sIx xs.length xs.length hi = xs.length
  · cases rx
    obtain ⟨its, r, ht, hz⟩ := I.tuple (hx.sq (K := X.K))
    have hlen : its.toArray.size = xs.length := by rw [List.size_toArray]; exact r.length.symm
    refine ⟨"tuple", _, PyProof.Rows.slot_tuple_getitem.lookup, ht.typeIs, ?_⟩
    exact getItem_tuple_whole ht hs pl pu (by rw [hlen]; exact hw) ⟨.ref a, H, I, rfl, q a H (.refl _) (by unfold cutV; rw [hw.1, hw.2, List.drop_zero, Nat.sub_zero, List.take_length]; exact hx)⟩
  · exact Tw.sl_tupF pins s σ H _ v vl vu lo hi sl Q I rx hs pl pu ⟨a, xs, rfl, hx.sq, hw, fun p H' np s1 h _ => q p H' s1 h⟩
def tRevK (te : TE) : TE := fun σ H Q => te σ H fun x H1 => ∃ a xs, x = .ref a ∧ TpF H1 a xs ∧ ∀ p H', H1 p = none → Same H1 H' → TpF H' p xs.reverse → Q (.ref p) H'
theorem pe_revK {e : Expr} {te : TE} {k : Nat} {p1 p2 p3 pos : Pos} (he : PE X e te) : PE X (.Subscript e (.Slice none none (some (.UnaryOp .USub (.Constant (.int 1) k p1) p2)) p3) pos) (tRevK te) := by
  refine ⟨fun pins s σ H Q I h => ?_⟩
  refine Subscript_ (thn (he.run pins s σ H _ I h) fun v s1 ⟨x, H1, I1, r1, q1⟩ => ?_)
  obtain ⟨a, xs, ex, hx, q⟩ := q1
  subst ex
  cases r1
  have hst : PO X (some (.UnaryOp .USub (.Constant (.int 1) k p1) p2)) (tPart (tUn (rU fun i => .int (-i)) (tC (.int 1)))) := po_some (pe_un un_neg pe_int)
  refine wpAny_Slice (thn (po_none.run pins s1 σ H1 (fun o H2 => o = none ∧ H2 = H1) I1 ⟨rfl, rfl⟩) fun vl s2 ⟨l, H2, I2, pl, el, e2⟩ => ?_)
  subst el e2
  refine thn (po_none.run pins s2 σ H2 (fun o H3 => o = none ∧ H3 = H2) I2 ⟨rfl, rfl⟩) fun vu s3 ⟨u, H3, I3, pu, eu, e3⟩ => ?_
  subst eu e3
  refine thn (hst.run pins s3 σ H3 (fun o H4 => o = some (-1) ∧ H4 = H3) I3 ⟨1, rfl, -1, rfl, rfl, rfl⟩) fun vs s4 ⟨o, H4, I4, ps, eo, e4⟩ => ?_
  subst eo e4
  have I5 : Inv X pins σ H4 { s4 with heap := s4.heap.push { cls := .type "slice", data := .fields #[vl, vu, vs] } } := I4.kept (t' := s4.toks) fun b ob q => Heap.get?_push_of_some _ q
  obtain ⟨its, r, ht, hz⟩ := I5.tuple (hx.sq (K := X.K))
  have hlen := r.length
  show wpAny (model X.prog X.w) X.A (subscriptTail e (.Slice none none (some (.UnaryOp .USub (.Constant (.int 1) k p1) p2)) p3) (.ref a) (.ref s4.heap.objs.size)) (EP X pins σ Q) X.xe { s4 with heap := s4.heap.push { cls := .type "slice", data := .fields #[vl, vu, vs] } }
  refine tail_any (ops := [.ref a, .ref s4.heap.objs.size]) ht.typeIs (PyProof.Rows.slot_tuple_getitem.lookup) ?_ (by with_unfolding_all rfl)
  refine Tw.item_rev ht (Heap.IsSliceOf.new _ vl vu vs) pl pu ps (by rw [List.size_toArray]; omega) ?_
  have hf := I5.hok.fresh (Nat.le_refl _)
  refine ⟨.ref _, _, I5.laid (t' := s4.toks) (o := .frz { cls := .type "tuple", data := .seq its.reverse.toArray } (.tup xs.reverse)) (fun b ob q => Heap.get?_push_of_some _ q) (Nat.le_refl _) ?_, rfl, q _ _ hf (same_upd hf) ⟨_, upd_same, rfl⟩⟩
  exact (show ObjOk X.prog X.w _ _ _ (.frz _ (.tup xs.reverse)) from ⟨Heap.get?_push_size _ rfl, by rw [List.length_reverse]; exact hz, _, r.reverse, IsTup.new _ _⟩)
def rCntT (K : PySem.W.Frag) : V → List V → Hp → VK → Prop := fun x xs H Q => ∃ (p : Addr) (v : V) (ds : List PyData) (d : PyData), x = .ref p ∧ xs = [v] ∧ Dp K H (.ref p) (.tuple ds) ∧ Dp K H v d ∧ SeqAt.shaped (.tuple ds) = true ∧ SeqAt.shaped d = true ∧ Q (.int ((ds.countP fun y => PyData.eqv y d : Nat) : Int)) H
theorem mt_tcount (hu : X.A.units + 65 < cLine) : MtR X "tuple.count" (rCntT X.K) := by
  intro pins s σ H x xs v us Q I rx rxs h
  obtain ⟨p, y, ds, d, rfl, rfl, hd, he, sd, se, q⟩ := h
  cases rx
  obtain ⟨u, rfl, ru⟩ := rxs.one
  obtain ⟨as, r1⟩ := Dp.reads I (.tuple ds) (.ref p) _ hd (by rfl)
  obtain ⟨bs, r2⟩ := Dp.reads I d y u he ru
  cases r1 with
  | tuple h1 h2 h3 h4 => exact SeqAt.count_tuple_data ⟨_, h1, h2, _, h3⟩ h4 r2 (PyData.plainAll_of_canLay0 _ (SeqAt.canLay_of_shaped sd)) (PyData.plain_of_canLay0 _ (SeqAt.canLay_of_shaped se)) (room_in_shaped se hu) ⟨.int _, H, I.tok _, ⟨_, rfl⟩, q⟩
end
end Tk
/-! t[-2::-1] of a tuple of two items or more -/
namespace Tk
open PySem PySem.Spec PyProof.Rows L2 HT Th Tw
section
variable {prog : Program} {w : World} {A : Around} {E : Value → Shared → Prop} {s : Shared}
theorem places2 {n : Nat} (h2 : 2 ≤ n) : Builtin.Slice.slicePlaces ((n : Int) - 2) (-1) (-1) = n - 1 := by
  have := places (n - 1)
  rw [show (((n - 1 : Nat) : Int) - 1) = (n : Int) - 2 by omega] at this
  exact this
theorem applied2 {sl : Addr} {n : Nat} (h2 : 2 ≤ n) {vl vu vs : Value} {Q : Int × Int × Nat → Shared → Prop} (hs : s.heap.IsSliceOf sl vl vu vs) (pl : IsPart vl (some (-2))) (pu : IsPart vu none) (ps : IsPart vs (some (-1)))
    (h : Q ((n : Int) - 2, -1, n - 1) s) : wpAny (model prog w) A (Builtin.Slice.sliceApplied (.ref sl) (pure (n : Int))) Q E s := by
  obtain ⟨os, hos, hcs, hds⟩ := id hs
  unfold Builtin.Slice.sliceApplied Builtin.Slice.sliceFields
  refine wpAny_bind (wpAny_bind (wpAny_field hos hds (x := vl) rfl (wpAny_bind (wpAny_field hos hds (x := vu) rfl (wpAny_bind (wpAny_field hos hds (x := vs) rfl (wpAny_pure ?_)))))))
  refine wpAny_bind (slicePart_ ps ?_)
  show wpAny _ _ (if ((-1 : Int) == 0) = true then _ else _) _ _ s
  rw [if_neg (by decide)]
  refine wpAny_bind (slicePart_ pl (wpAny_bind (slicePart_ pu (wpAny_bind (wpAny_pure ?_)))))
  have e : Builtin.Slice.sliceAdjust (some (-2)) none (-1) (n : Int) = ((n : Int) - 2, -1) := by
    unfold Builtin.Slice.sliceAdjust
    simp
    try omega
  show wpAny _ _ (match Builtin.Slice.sliceAdjust (some (-2)) none (-1) (n : Int) with | (lo, hi) => pure (lo, (-1 : Int), Builtin.Slice.slicePlaces lo hi (-1))) Q E s
  rw [e]
  refine wpAny_pure ?_
  show Q (_, _, Builtin.Slice.slicePlaces ((n : Int) - 2) (-1) (-1)) s
  rw [places2 h2]
  exact h
theorem back2 (xs : Array Value) (h2 : 2 ≤ xs.size) : ((List.range (xs.size - 1)).filterMap fun (k : Nat) => xs[(((xs.size : Int) - 2) + (k : Int) * (-1)).toNat]?) = (xs.toList.take (xs.size - 1)).reverse := by
  have e := back ((xs.toList.take (xs.size - 1)).toArray)
  have l : (xs.toList.take (xs.size - 1)).toArray.size = xs.size - 1 := by simp
  rw [l] at e
  rw [← show (xs.toList.take (xs.size - 1)).toArray.toList = xs.toList.take (xs.size - 1) by simp, ← e]
  refine fm_congr fun k hk => ?_
  have := List.mem_range.mp hk
  have e1 : (((xs.size : Int) - 2) + (k : Int) * (-1)).toNat = xs.size - 2 - k := by omega
  have e2 : ((((xs.size - 1 : Nat) : Int) - 1) + (k : Int) * (-1)).toNat = xs.size - 2 - k := by omega
  rw [e1, e2]
  rw [← Array.getElem?_toList, ← Array.getElem?_toList]
  show xs.toList[_]? = (xs.toList.take (xs.size - 1))[_]?
  rw [List.getElem?_take_of_lt (by omega)]
theorem item_rev2 {t sl : Addr} {items : Array Value} {vl vu vs : Value} {Q : Value → Shared → Prop} (ht : IsTup s.heap t items) (hs : s.heap.IsSliceOf sl vl vu vs) (pl : IsPart vl (some (-2))) (pu : IsPart vu none) (ps : IsPart vs (some (-1))) (hz : items.size ≤ sizeLine) (h2 : 2 ≤ items.size)
    (h : Q (.ref s.heap.objs.size) { s with heap := s.heap.push { cls := .type "tuple", data := .seq (items.toList.take (items.size - 1)).reverse.toArray } }) : wpAny (model prog w) A (getItem (.ref t) (.ref sl)) Q E s := by
  have htake : sizeOk (.seq (items.toList.take (items.size - 1)).reverse.toArray) := by
    show (items.toList.take (items.size - 1)).reverse.toArray.size ≤ sizeLine
    simp; omega
  obtain ⟨os, hos, hcs, hds⟩ := id hs
  have hTs : s.TypeIs (.ref sl) "slice" := ⟨os, hos, hcs⟩
  unfold getItem
  try with_reducible refine wpAny_holding ?_
  first | refine wpAny_bind (wpAny_pure ?_) | skip
  refine wpAny_bind (wpAny_sequenceKey ht.typeIs (by decide) ?_)
  refine wpAny_bind (wpAny_callSpecial?_slot (name := Str.ofString "__getitem__") ht.typeIs PyProof.Rows.slot_tuple_getitem
    (wpAny_call_entry PyProof.Rows.slot_tuple_getitem ht.typeIs entry_tuple_getitem ?_ (args_tuple_getitem _ _)))
  show wpAny _ _ (Builtin.Tuple.tupleItemsOf (.ref t) >>= _) _ _ s
  refine wpAny_bind (tupleItemsOf_ ht ?_)
  refine wpAny_bind (wpAny_typeOf hTs ?_)
  rw [if_pos (by decide)]
  refine wpAny_bind (applied2 h2 hs pl pu ps ?_)
  show wpAny _ _ (if (((items.size : Int) - 2) == 0 && (-1 : Int) == 1 && (items.size - 1 == items.size)) = true then _ else _) _ _ s
  rw [if_neg (by simp)]
  show wpAny _ _ (Builtin.Tuple.tupleExact ((List.range (items.size - 1)).filterMap fun (k : Nat) => items[(((items.size : Int) - 2) + (k : Int) * (-1)).toNat]?).toArray >>= _) _ _ s
  rw [back2 items h2]
  first
    | exact wpAny_bind (m := Builtin.Tuple.tupleExact _) (wpAny_newObj_type (wpAny_pure ⟨_, rfl, wpAny_pure h⟩) htake)
    | exact wpAny_bind (m := Builtin.Tuple.tupleExact _) (wpAny_newObj_type (wpAny_bind (wpAny_pure (wpAny_pure ⟨_, rfl, wpAny_pure h⟩))) htake)
    | exact wpAny_bind (wpAny_bind (m := Builtin.Tuple.tupleExact _) (wpAny_newObj_type (wpAny_pure (wpAny_pure ⟨_, rfl, wpAny_pure h⟩)) htake))
    | exact wpAny_bind (wpAny_bind (m := Builtin.Tuple.tupleExact _) (wpAny_newObj_type (wpAny_pure ⟨_, rfl, wpAny_pure h⟩) htake))
end
section
variable {X : Cx}
def tRev2K (te : TE) : TE := fun σ H Q => te σ H fun x H1 => ∃ a xs, x = .ref a ∧ TpF H1 a xs ∧ 2 ≤ xs.length ∧ ∀ p H', H1 p = none → Same H1 H' → TpF H' p (xs.take (xs.length - 1)).reverse → Q (.ref p) H'
theorem pe_rev2K {e : Expr} {te : TE} {k k2 : Nat} {p1 p2 p3 q1 q2 pos : Pos} (he : PE X e te) : PE X (.Subscript e (.Slice (some (.UnaryOp .USub (.Constant (.int 2) k2 q1) q2)) none (some (.UnaryOp .USub (.Constant (.int 1) k p1) p2)) p3) pos) (tRev2K te) := by
  refine ⟨fun pins s σ H Q I h => ?_⟩
  refine Subscript_ (thn (he.run pins s σ H _ I h) fun v s1 ⟨x, H1, I1, r1, q1⟩ => ?_)
  obtain ⟨a, xs, ex, hx, h2, q⟩ := q1
  subst ex
  cases r1
  have hst : PO X (some (.UnaryOp .USub (.Constant (.int 1) k p1) p2)) (tPart (tUn (rU fun i => .int (-i)) (tC (.int 1)))) := po_some (pe_un un_neg pe_int)
  have hlo : PO X (some (.UnaryOp .USub (.Constant (.int 2) k2 ‹Pos›) ‹Pos›)) (tPart (tUn (rU fun i => .int (-i)) (tC (.int 2)))) := po_some (pe_un un_neg pe_int)
  refine wpAny_Slice (thn ((po_some (pe_un un_neg pe_int)).run pins s1 σ H1 (fun o H2 => o = some (-2) ∧ H2 = H1) I1 ⟨2, rfl, -2, rfl, rfl, rfl⟩) fun vl s2 ⟨l, H2, I2, pl, el, e2⟩ => ?_)
  subst el e2
  refine thn (po_none.run pins s2 σ H2 (fun o H3 => o = none ∧ H3 = H2) I2 ⟨rfl, rfl⟩) fun vu s3 ⟨u, H3, I3, pu, eu, e3⟩ => ?_
  subst eu e3
  refine thn (hst.run pins s3 σ H3 (fun o H4 => o = some (-1) ∧ H4 = H3) I3 ⟨1, rfl, -1, rfl, rfl, rfl⟩) fun vs s4 ⟨o, H4, I4, ps, eo, e4⟩ => ?_
  subst eo e4
  have I5 : Inv X pins σ H4 { s4 with heap := s4.heap.push { cls := .type "slice", data := .fields #[vl, vu, vs] } } := I4.kept (t' := s4.toks) fun b ob q => Heap.get?_push_of_some _ q
  obtain ⟨its, r, ht, hz⟩ := I5.tuple (hx.sq (K := X.K))
  have hlen := r.length
  refine tail_any (ops := [.ref a, .ref s4.heap.objs.size]) ht.typeIs (PyProof.Rows.slot_tuple_getitem.lookup) ?_ (by with_unfolding_all rfl)
  refine item_rev2 ht (Heap.IsSliceOf.new _ vl vu vs) pl pu ps (by rw [List.size_toArray]; omega) (by rw [List.size_toArray]; omega) ?_
  have hf := I5.hok.fresh (Nat.le_refl _)
  have hl : its.toArray.size = xs.length := by rw [List.size_toArray]; exact hlen.symm
  rw [hl]
  refine ⟨.ref _, _, I5.laid (t' := s4.toks) (o := .frz { cls := .type "tuple", data := .seq (its.toArray.toList.take (xs.length - 1)).reverse.toArray } (.tup (xs.take (xs.length - 1)).reverse)) (fun b ob q => Heap.get?_push_of_some _ q) (Nat.le_refl _) ?_, rfl, q _ _ hf (same_upd hf) ⟨_, upd_same, rfl⟩⟩
  exact (show ObjOk X.prog X.w _ _ _ (.frz _ (.tup (xs.take (xs.length - 1)).reverse)) from ⟨Heap.get?_push_size _ rfl, by rw [List.length_reverse, List.length_take]; omega, _, (r.take _).reverse, IsTup.new _ _⟩)
end
end Tk
/-! sets of texts: their members as a list; a comprehension of two clauses; sorted of it -/
namespace Ss
open PySem PySem.Spec PyProof.Rows L2
def kOf (e : Int × Value) : Str := match e.2 with
  | .str k _ => k
  | _ => ⟨#[]⟩
def Gd (w : World) (e : Int × Value) : Prop := ∃ k tk, e.2 = Value.str k tk ∧ e.1 = hashStr w k
def addL (L : List Str) (k : Str) : List Str := if k ∈ L then L else k :: L
theorem mem_addL {L : List Str} {k x : Str} : x ∈ addL L k ↔ x = k ∨ x ∈ L := by
  unfold addL
  split
  · exact ⟨.inr, fun z => z.elim (fun e => by rw [e]; assumption) id⟩
  · exact List.mem_cons
theorem nd_addL {L : List Str} {k : Str} (h : L.Nodup) : (addL L k).Nodup := by
  unfold addL
  split
  · exact h
  · exact List.nodup_cons.mpr ⟨by assumption, h⟩
abbrev Led (w : World) (t : SetTable) : Prop := w.params.followText "set-order" = true ∨ t.led = true
/-- the set of texts at a, its members the list L -/
def SetS (w : World) (h : Heap) (a : Addr) (L : List Str) : Prop := ∃ o es ep t, h.get? a = some o ∧ o.ExactSet ∧ o.data = .set es ep t ∧ (∀ e ∈ es.toList, Gd w e) ∧ (es.toList.map kOf).Perm L ∧ L.Nodup ∧ es.size < scanBound ∧ t.fits es.size = true ∧ Ris t.place.toList ∧ Led w t
section
variable {P : Program} {w : World} {A : Around} {E : Value → Shared → Prop} {s : Shared} {a : Addr} {L : List Str} {h h' : Heap}
theorem isS (k : Str) (u : Tok) : (PySem.strKind P w).is k (.str k u) = true := by show Value.isStrOf k (.str k u) = true; simp [Value.isStrOf]
theorem SetS.at (R : SetS w h a L) (k : ∀ o, h.get? a = some o → h'.get? a = some o) : SetS w h' a L := let ⟨o, es, ep, t, ho, r⟩ := R; ⟨o, es, ep, t, k o ho, r⟩
theorem gd_elems {l : List (Int × Value)} (g : ∀ e ∈ l, Gd w e) : ElemsOf (PySem.strKind P w) l := fun e he => let ⟨k, tk, h1, h2⟩ := g e he; ⟨⟨k, h1 ▸ isS k tk, h2⟩, by rw [h1]; rfl⟩
theorem gd_is {e : Int × Value} (g : Gd w e) (k : Str) : (PySem.strKind P w).is k e.2 = true ↔ kOf e = k := by
  obtain ⟨k0, tk, h1, -⟩ := g
  have ek : kOf e = k0 := by unfold kOf; rw [h1]
  rw [ek, h1]
  constructor
  · intro z
    obtain ⟨t, et⟩ := Value.isStrOf_shape (x := k) (v := .str k0 tk) z
    injection et
  · intro z
    rw [z]
    exact isS k tk
theorem gd_mem {l : List (Int × Value)} (g : ∀ e ∈ l, Gd w e) (k : Str) : k ∈ l.map kOf ↔ ∃ e ∈ l, (PySem.strKind P w).is k e.2 = true :=
  ⟨fun z => let ⟨e, he, q⟩ := List.mem_map.mp z; ⟨e, he, (gd_is (g e he) k).2 q⟩, fun ⟨e, he, q⟩ => List.mem_map.mpr ⟨e, he, (gd_is (g e he) k).1 q⟩⟩
theorem SetS.len (R : SetS w h a L) : ∀ {o es ep t}, h.get? a = some o → o.data = .set es ep t → es.size = L.length := by
  obtain ⟨o', es', ep', t', ho', _, hd', _, pm, _⟩ := R
  intro o es ep t ho hd
  rw [ho'] at ho
  cases ho
  rw [hd'] at hd
  cases hd
  have z := pm.length_eq
  rw [List.length_map, Array.length_toList] at z
  exact z
theorem SetS.setOf (R : SetS w h a L) : h.SetOf (PySem.strKind P w) a (fun k => decide (k ∈ L)) L.length := by
  have hlen := @SetS.len _ _ _ _ R
  obtain ⟨o, es, ep, t, ho, hx, hd, g, pm, nd, hb, hf, -⟩ := R
  exact ⟨o, es, ep, t, ho, hx, hd, gd_elems g, fun k => by rw [decide_eq_true_eq, ← pm.mem_iff]; exact gd_mem g k, hb, hf, hlen ho hd⟩
theorem putS {o : Obj} {es es' : Array (Int × Value)} {ep : Nat} {t t' : SetTable} (ho : h.get? a = some o) (hd : o.data = .set es ep t) : (h.update a (Obj.putSet es' t')).get? a = some { o with data := .set es' (ep + 1) t' } := by
  have z := Heap.get?_update_self (Obj.putSet es' t') ho (by rw [putSet_of es' t' hd]; rfl)
  rwa [putSet_of es' t' hd] at z
/-- the store behind an add, with the table laid anew where it is too full -/
theorem tailS {g : Bool → Sem Unit} (hg : ∀ (b : Bool) (s1 : Shared) (Q1 : Unit → Shared → Prop), Q1 () s1 → wpAny (model P w) A (g b) Q1 E s1) {o : Obj} {es : Array (Int × Value)} {ep : Nat} {t : SetTable} (ho : s.heap.get? a = some o) (hex : o.ExactSet) (hd : o.data = .set es ep t)
    {fs : Array (Int × Value)} {u : SetTable} {M : List Str} (gf : ∀ e ∈ fs.toList, Gd w e) (pf : (fs.toList.map kOf).Perm M) (nf : M.Nodup) (bf : fs.size < scanBound) (ff : u.fits fs.size = true) (rf : Ris u.place.toList) (lf : Led w u) {dm : Bool} {R : Option Bool → Shared → Prop}
    (hR : ∀ h', Heap.SameBut a s.heap h' → SetS w h' a M → R (some true) { s with heap := h' }) :
    wpAny (model P w) A (do
        storeSet a fs u
        if (!dm && u.tooFull) = true then do
            g (relayAll u fs (SetTable.grown fs.size)).2.2
            storeSet a (relayAll u fs (SetTable.grown fs.size)).1 (relayAll u fs (SetTable.grown fs.size)).2.1
            pure (some true)
          else pure (some true)) R E s := by
  refine wpAny_bind (wpAny_storeSet_of ho hd ?_ (fits_of_scanBound bf))
  have h1 := putS (es' := fs) (t' := u) ho hd
  have b1 := Heap.SameBut.update s.heap a (Obj.putSet fs u)
  split
  · have pm := relayAll_perm u fs (SetTable.grown fs.size)
    have f3 := relayAll_fits u fs (SetTable.grown fs.size)
    have r3 := relayAll_ris u fs (SetTable.grown fs.size)
    have l3 := relayAll_led u fs (SetTable.grown fs.size)
    generalize relayAll u fs (SetTable.grown fs.size) = Z at pm f3 r3 l3 ⊢
    obtain ⟨gs, v, gave⟩ := Z
    dsimp only at pm f3 r3 l3 ⊢
    have hz : gs.size = fs.size := by
      have z := pm.length_eq
      rwa [Array.length_toList, Array.length_toList] at z
    have bg : gs.size < scanBound := hz ▸ bf
    refine wpAny_bind (hg _ _ _ (wpAny_bind (wpAny_storeSet_of h1 rfl ?_ (fits_of_scanBound bg))))
    have h2 := putS (es' := gs) (t' := v) h1 rfl
    exact wpAny_pure (hR _ (b1.trans (Heap.SameBut.update _ a _)) ⟨_, gs, _, v, h2, hex, rfl, fun e he => gf e (pm.mem_iff.mp he), (pm.map kOf).trans pf, nf, bg, f3, r3, lf.imp id fun z => l3.trans z⟩)
  · exact wpAny_pure (hR _ b1 ⟨_, fs, _, u, h1, hex, rfl, gf, pf, nf, bf, ff, rf, lf⟩)
theorem addS_hashed {k : Str} {tk : Tok} {Q : Bool → Shared → Prop} (R : SetS w s.heap a L) (room : L.length + 1 < scanBound)
    (hQ : ∀ h' b, Heap.SameBut a s.heap h' → SetS w h' a (addL L k) → Q b { s with heap := h' }) : wpAny (model P w) A (setAddHashed a (.str k tk) ((PySem.strKind P w).hash k)) Q E s := by
  have hlen := @SetS.len _ _ _ _ R
  obtain ⟨o, es, ep, t, ho, hex, hd, g, pmL, nd, hb, hf, hr, hl⟩ := R
  have hn : es.size = L.length := hlen ho hd
  have hsc : (Value.str k tk).scannable = true := rfl
  have hel : ElemsOf (PySem.strKind P w) es.toList := gd_elems g
  unfold setAddHashed setAddHashedIn
  refine wpAny_holding (wpAny_bind (wpAny_setState_of ho hd hf ?_))
  dsimp only
  rw [byScan_of hsc hb hel]
  simp only [↓reduceIte]
  unfold setAddByScan
  refine wpAny_bind (wpAny_bind (wpAny_rule (wpAny_bind (wpAny_setScan_of (isS k tk) ho hd hf hel ?_))))
  cases hfi : List.findIdx? (fun e => (PySem.strKind P w).is k e.2) es.toList with
  | some j =>
    dsimp only
    obtain ⟨hj, pj, -⟩ := List.findIdx?_eq_some_iff_getElem.mp hfi
    have hk : k ∈ L := pmL.mem_iff.mp ((gd_mem (P := P) g k).2 ⟨es.toList[j], List.getElem_mem hj, pj⟩)
    have eL : addL L k = L := by unfold addL; rw [if_pos hk]
    exact wpAny_pure (wpAny_pure (hQ s.heap _ (Heap.SameBut.refl a s.heap) ⟨o, es, ep, t, ho, hex, hd, g, by rw [eL]; exact pmL, nd_addL nd, hb, hf, hr, hl⟩))
  | none =>
    dsimp only
    have hk : k ∉ L := fun z => by
      obtain ⟨e, he, q⟩ := (gd_mem (P := P) g k).1 (pmL.mem_iff.mpr z)
      have c := List.findIdx?_eq_none_iff.mp hfi e he
      rw [q] at c
      cases c
    have eL : addL L k = k :: L := by unfold addL; rw [if_neg hk]
    have pm := layNew_perm t es ((PySem.strKind P w).hash k) (.str k tk)
    have f1 := layNew_fits t es ((PySem.strKind P w).hash k) (.str k tk)
    have r1 := layNew_ris t es ((PySem.strKind P w).hash k) (.str k tk) hr
    have l1 := layNew_led t es ((PySem.strKind P w).hash k) (.str k tk)
    generalize layNew t es ((PySem.strKind P w).hash k) (.str k tk) = Z at pm f1 r1 l1 ⊢
    obtain ⟨fs, u, dm, gave⟩ := Z
    dsimp only at pm f1 r1 l1 ⊢
    rw [Array.toList_push] at pm
    have pc : fs.toList.Perm (((PySem.strKind P w).hash k, Value.str k tk) :: es.toList) := pm.trans (List.perm_append_singleton _ _)
    have pf : (fs.toList.map kOf).Perm (addL L k) := by rw [eL]; exact (pc.map kOf).trans (pmL.cons k)
    have gf : ∀ e ∈ fs.toList, Gd w e := fun e he => (List.mem_cons.mp (pc.mem_iff.mp he)).elim (fun z => z ▸ ⟨k, tk, rfl, rfl⟩) (g e)
    have hz : fs.size = L.length + 1 := by rw [← Array.length_toList, pc.length_eq, List.length_cons, Array.length_toList, hn]
    have bf : fs.size < scanBound := hz ▸ room
    have lf : Led w u := hl.imp id fun z => l1.trans z
    have gw : ∀ (b : Bool) (s1 : Shared) (Q1 : Unit → Shared → Prop), Q1 () s1 → wpAny (model P w) A (match b with | true => rule "set.scan.the-table-gave-way" | false => pure ()) Q1 E s1 :=
      fun b s1 Q1 z => by cases b <;> first | exact wpAny_pure z | exact wpAny_rule z
    refine wpAny_bind (gw _ _ _ ?_)
    split
    · refine wpAny_bind ?_
      rw [hashByValue_scannable 8 hsc]
      refine wpAny_pure ?_
      refine tailS ?_ ho hex hd gf pf (nd_addL nd) bf ?_ ?_ ?_ fun h' sb r => by dsimp only; exact wpAny_pure (hQ h' _ sb r)
      · intro b s1 Q1 z; cases b <;> first | exact wpAny_pure z | exact wpAny_rule z
      · first | (split <;> first | exact f1 | exact SetTable.fits_plain_off f1) | exact f1
      · first | (split <;> exact r1) | exact r1
      · first | (split <;> exact lf) | exact lf
    · refine wpAny_bind (wpAny_pure ?_)
      simp only [↓reduceIte]
      refine tailS ?_ ho hex hd gf pf (nd_addL nd) bf f1 r1 lf ?_
      · intro b s1 Q1 z; cases b <;> first | exact wpAny_pure z | exact wpAny_rule z
      · intro h' sb r; dsimp only; exact wpAny_pure (hQ h' _ sb r)
theorem addS {k : Str} {tk : Tok} {Q : Value → Shared → Prop} (R : SetS w s.heap a L) (room : L.length + 1 < scanBound)
    (hQ : ∀ h', Heap.SameBut a s.heap h' → SetS w h' a (addL L k) → Q .none { s with heap := h', toks := s.toks + 1 }) : wpAny (model P w) A (call (.builtin "set.add") [.ref a, .str k tk]) Q E s := by
  have hS : s.heap.SetOf (PySem.strKind P w) a (fun k => decide (k ∈ L)) L.length := R.setOf
  refine wpAny_call_entry F.slot_set_add hS.typeIs F.entry_set_add ?_ (F.args_set_add_2 _ _)
  unfold Builtin.«set.add» Builtin.Frozenset.oneOther
  simp only [List.isEmpty_nil, bind_assoc]
  unfold Builtin.Frozenset.addrOf setAdd
  refine wpAny_bind (wpAny_pure ?_)
  try dsimp only
  refine wpAny_bind (wpAny_pure ?_)
  try dsimp only
  refine wpAny_bind (wpAny_holding (wpAny_bind ((PySem.strKind P w).pyHash (isS k tk) ?_)))
  refine addS_hashed (s := { s with toks := s.toks + 1 }) R room fun h' b sb r => ?_
  show wpAny _ _ (ret Value.none) _ _ _
  exact wpAny_pure ⟨_, rfl, hQ h' sb r⟩
end
/-! a comprehension of two clauses -/
abbrev SC2 (elt t0 i0 t1 i1 : Expr) (f0 f1 : List Expr) (sc : Scope) (pos : Pos) : Expr := .SetComp elt [⟨t0, i0, f0, 0⟩, ⟨t1, i1, f1, 0⟩] sc pos
abbrev Tests (prog : Program) (w : World) (A : Around) (fs : List Expr) (env : Env) (Q : Bool → Shared → Prop) (E : Value → Shared → Prop) (s : Shared) : Prop :=
  wpAny (model prog w) A (forIn fs true fun c r => if r = true then do let ok ← isTrue c env (eval c env); pure (ForInStep.yield ok) else pure (ForInStep.yield r)) Q E s
section
variable {prog : Program} {w : World} {A : Around} {R : Result → Shared → Prop} {s : Shared} {elt t0 i0 t1 i1 : Expr} {f0 f1 : List Expr} {sc : Scope} {pos : Pos} {it acc : Value} {env : Env}
theorem turnOut : compTurn (SC2 elt t0 i0 t1 i1 f0 f1 sc pos) 0 it acc env = (do
      standAt i0.pos
      match ← pyNext it with
      | none => pure (.done .next)
      | some v =>
        letOwnedTupleGo t0 it v
        assign t0 env v
        let mut ok := true
        for c in f0 do
          if ok then ok ← isTrue c env (eval c env)
        if ok then
          let x ← eval i1 env
          standAt i1.pos
          let x ← foldedSetIterable i1 env x
          let _ ← runOwn (.compStart (SC2 elt t0 i0 t1 i1 f0 f1 sc pos) 1 (← holding [x] (pyIter x)) acc env) env
        again (.compLoop (SC2 elt t0 i0 t1 i1 f0 f1 sc pos) 0 it acc env)) := by rfl
theorem turnIn : compTurn (SC2 elt t0 i0 t1 i1 f0 f1 sc pos) 1 it acc env = (do
      standAt i1.pos
      match ← pyNext it with
      | none => pure (.done .next)
      | some v =>
        letOwnedTupleGo t1 it v
        assign t1 env v
        let mut ok := true
        for c in f1 do
          if ok then ok ← isTrue c env (eval c env)
        if ok then
          (do let v ← eval elt env; standAt elt.pos; let _ ← call (.builtin "set.add") [acc, v])
        again (.compLoop (SC2 elt t0 i0 t1 i1 f0 f1 sc pos) 1 it acc env)) := by rfl
abbrev Er (prog : Program) (w : World) (A : Around) (env : Env) (R : Result → Shared → Prop) : Value → Shared → Prop := notedBy (model prog w) A env fun e s' => R (.error e) s'
theorem loopOut (hs : ∀ x, foldedSetIterable i1 env x = pure x) (I : Nat → Shared → Prop)
    (turn : ∀ n s, I n s → wpAny (model prog w) A (pyNext it) (fun r s1 => match r with
      | none => R (.ok .next) s1
      | some v => wpAny (model prog w) A (letOwnedTupleGo t0 it v) (fun _ s2 => wpAny (model prog w) A (assign t0 env v) (fun _ s3 => Tests prog w A f0 env (fun ok s4 =>
            if ok = true then wpAny (model prog w) A (eval i1 env) (fun x s5 => wpAny (model prog w) A (pyIter x) (fun it1 s6 => codeAny (model prog w) A (.compStart (SC2 elt t0 i0 t1 i1 f0 f1 sc pos) 1 it1 acc env) (fun r s' => match r with
                | .ok _ => ∃ m, m < n ∧ I m s'
                | .error _ => False) s6) (Er prog w A env R) s5) (Er prog w A env R) s4
            else ∃ m, m < n ∧ I m s4) (Er prog w A env R) s3) (Er prog w A env R) s2) (Er prog w A env R) s1) (Er prog w A env R) s) (n : Nat) (h : I n s) :
    codeAny (model prog w) A (.compLoop (SC2 elt t0 i0 t1 i1 f0 f1 sc pos) 0 it acc env) R s := by
  refine codeAny_loop rfl I (fun n s hI => ?_) n h
  show wpAny _ A ((compTurn (SC2 elt t0 i0 t1 i1 f0 f1 sc pos) 0 it acc env).onRaise (fun x => do noteFrame x env; theTreesLotGoes x)) _ _ s
  refine wpAny_noted ?_
  rw [turnOut]
  refine wpAny_bind (wpAny_standAt (wpAny_bind (wpAny_mono (turn n s hI) (fun r s1 h1 => ?_) fun _ _ z => z)))
  cases r with
  | none => exact wpAny_pure h1
  | some v =>
    refine wpAny_bind (wpAny_mono h1 (fun _ s2 h2 => wpAny_bind (wpAny_mono h2 (fun _ s3 h3 => wpAny_bind (wpAny_mono h3 (fun ok s4 h4 => ?_) fun _ _ z => z)) fun _ _ z => z)) fun _ _ z => z)
    cases ok with
    | false => exact wpAny_pure ⟨rfl, h4⟩
    | true =>
      refine wpAny_bind (wpAny_mono h4 (fun x s5 h5 => wpAny_bind (wpAny_standAt (wpAny_bind (wpAny_of_eq (hs x) (wpAny_bind (wpAny_holding (wpAny_mono h5 (fun it1 s6 h6 => ?_) fun _ _ z => z))))))) fun _ _ z => z)
      refine wpAny_bind (wpAny_runOwn ?_)
      rw [Around.mark_none]
      refine codeAny_mono h6 fun r s' hr => ?_
      cases r with
      | ok f => first | exact wpAny_pure ⟨rfl, hr⟩ | exact wpAny_bind (wpAny_pure (wpAny_pure ⟨rfl, hr⟩))
      | error e => exact hr.elim
theorem loopIn (I : Nat → Shared → Prop)
    (turn : ∀ n s, I n s → wpAny (model prog w) A (pyNext it) (fun r s1 => match r with
      | none => R (.ok .next) s1
      | some v => wpAny (model prog w) A (letOwnedTupleGo t1 it v) (fun _ s2 => wpAny (model prog w) A (assign t1 env v) (fun _ s3 => Tests prog w A f1 env (fun ok s4 =>
            if ok = true then wpAny (model prog w) A (eval elt env) (fun x s5 => wpAny (model prog w) A (call (.builtin "set.add") [acc, x]) (fun _ s6 => ∃ m, m < n ∧ I m s6) (Er prog w A env R) s5) (Er prog w A env R) s4
            else ∃ m, m < n ∧ I m s4) (Er prog w A env R) s3) (Er prog w A env R) s2) (Er prog w A env R) s1) (Er prog w A env R) s) (n : Nat) (h : I n s) :
    codeAny (model prog w) A (.compLoop (SC2 elt t0 i0 t1 i1 f0 f1 sc pos) 1 it acc env) R s := by
  refine codeAny_loop rfl I (fun n s hI => ?_) n h
  show wpAny _ A ((compTurn (SC2 elt t0 i0 t1 i1 f0 f1 sc pos) 1 it acc env).onRaise (fun x => do noteFrame x env; theTreesLotGoes x)) _ _ s
  refine wpAny_noted ?_
  rw [turnIn]
  refine wpAny_bind (wpAny_standAt (wpAny_bind (wpAny_mono (turn n s hI) (fun r s1 h1 => ?_) fun _ _ z => z)))
  cases r with
  | none => exact wpAny_pure h1
  | some v =>
    refine wpAny_bind (wpAny_mono h1 (fun _ s2 h2 => wpAny_bind (wpAny_mono h2 (fun _ s3 h3 => wpAny_bind (wpAny_mono h3 (fun ok s4 h4 => ?_) fun _ _ z => z)) fun _ _ z => z)) fun _ _ z => z)
    cases ok with
    | false => exact wpAny_pure ⟨rfl, h4⟩
    | true => exact wpAny_bind (wpAny_bind (wpAny_mono h4 (fun x s5 h5 => wpAny_bind (wpAny_standAt (wpAny_bind (wpAny_mono h5 (fun _ s6 h6 => wpAny_pure (wpAny_pure ⟨rfl, h6⟩)) fun _ _ z => z)))) fun _ _ z => z))
theorem startIn (h0 : codeAny (model prog w) A (.compLoop (SC2 elt t0 i0 t1 i1 f0 f1 sc pos) 1 it acc env) R s)
    (h : wpAny (model prog w) A (pyIter it) (fun it' s' => codeAny (model prog w) A (.compLoop (SC2 elt t0 i0 t1 i1 f0 f1 sc pos) 1 it' acc env) R s') (Er prog w A env R) s) :
    codeAny (model prog w) A (.compStart (SC2 elt t0 i0 t1 i1 f0 f1 sc pos) 1 it acc env) R s := by
  refine codeAny_of_tree ?_
  show wpAny _ _ ((compStart (SC2 elt t0 i0 t1 i1 f0 f1 sc pos) 1 it acc env).onRaise (fun x => do noteFrame x env; standAt theWindowsPlace)) _ _ s
  refine wpAny_notedAt ?_
  unfold compStart
  show wpAny _ _ (ask >>= _) _ _ s
  refine wpAny_bind (wpAny_askSetting (wpAny_ite ?_))
  split
  · first | exact wpAny_bind (wpAny_pure (wpAny_pure (And.intro rfl h0))) | exact wpAny_pure (And.intro rfl h0)
  · first
      | exact wpAny_bind (wpAny_rule (wpAny_bind (wpAny_standAt (wpAny_bind (wpAny_mono h (fun it' s' z => wpAny_pure (And.intro rfl z)) fun _ _ z => z)))))
      | (refine wpAny_bind (wpAny_rule ?_); show wpAny _ _ (standAt i1.pos >>= _) _ _ s; exact wpAny_bind (wpAny_standAt (wpAny_bind (wpAny_mono h (fun it' s' z => wpAny_pure (And.intro rfl z)) fun _ _ z => z))))
end
/-! as a tracked thing -/
def SetSO (w : World) (a : Addr) (L : List Str) : HO := .ext fun h => SetS w h a L
theorem setSO_new {w : World} {P : Program} {H : Hp} {h : Heap} {a : Addr} {L : List Str} (R : SetS w h a L) : ObjOk P w H h a (SetSO w a L) := let ⟨o, _, _, _, ho, _⟩ := id R; ⟨R, ⟨o, ho⟩, fun h1 h2 p k => SetS.at p k⟩
abbrev emptySet (w : World) : Obj := { cls := .type "set", dict := none, data := .set #[] 0 (.fresh 0 0 (!w.params.followText "set-order")) }
theorem setS_fresh {h : Heap} (w : World) : SetS w (h.push (emptySet w)) h.objs.size [] :=
  ⟨_, #[], 0, _, Heap.get?_push_size _ rfl, ⟨rfl, rfl, rfl⟩, rfl, (fun e he => by simp at he), (by simp), .nil, (by decide), (by rfl), List.Pairwise.nil, by
    show _ ∨ (!w.params.followText "set-order") = true
    cases w.params.followText "set-order"
    · exact .inr rfl
    · exact .inl rfl⟩
section
variable {X : Cx}
theorem setSO_get {pins : List (Addr × Obj)} {σ : L2.St} {H : Hp} {s : Shared} {a : Addr} {L : List Str} (I : Inv X pins σ H s) (ha : H a = some (SetSO X.w a L)) : SetS X.w s.heap a L := (I.hok a _ ha).1
theorem addS_ok {pins : List (Addr × Obj)} {σ : L2.St} {H : Hp} {s : Shared} {E : Value → Shared → Prop} {D : Addr} {L : List Str} {y : Str} {u : Tok} {Q : Value → Shared → Prop} (I : Inv X pins σ H s) (hD : H D = some (SetSO X.w D L)) (room : L.length + 1 < scanBound)
    (h : ∀ s', Inv X pins σ (upd H D (SetSO X.w D (addL L y))) s' → Q .none s') : wpAny (model X.prog X.w) X.A (call (.builtin "set.add") [.ref D, .str y u]) Q E s :=
  addS (setSO_get I hD) room fun h' sb new => h _ (I.write (e := D) (t' := s.toks + 1) (by rw [hD]; trivial) (.inl rfl) (fun b o hb e => (sb.2 b hb).trans e) (let ⟨o, _, _, _, ho, _⟩ := id new; ⟨o, ho⟩) (setSO_new new))
/-- {elt for tg in iter if .. for tg1 in iter1 if ..}, elt a text: D the new set -/
def tSc2 (w : World) (wi : TI) (g : TG) (tt : TT) (wi1 : TI) (g1 : TG) (tt1 : TT) (te : TE) (vs vs1 : List Nat) : TE := fun σ H Q => wi σ H fun J H1 => ∀ D, H1 D = none → ∃ W : Nat → Nat → Hp → Prop, (∃ m, W 0 m (upd H1 D (SetSO w D []))) ∧ ∀ i m H, W i m H →
  (J.stop i H ∧ Q (.ref D) H) ∨ (J.go i H ∧ ∃ Nx : Hp → Prop, (∀ H', Nx H' → ∃ m', m' < m ∧ W (i + 1) m' H') ∧ ∀ x H', J.yld i H x H' → g x (wipe σ vs) H' fun σ2 H2 => wipe σ2 vs = wipe σ vs ∧ tt σ2 H2 fun b H3 =>
    if b = true then wi1 σ2 H3 fun J1 H4 => ∃ W1 : Nat → Nat → Hp → Prop, (∃ m, W1 0 m H4) ∧ ∀ j k H, W1 j k H →
      (J1.stop j H ∧ Nx H) ∨ (J1.go j H ∧ ∃ Nx1 : Hp → Prop, (∀ H', Nx1 H' → ∃ k', k' < k ∧ W1 (j + 1) k' H') ∧ ∀ x H', J1.yld j H x H' → g1 x (wipe σ2 vs1) H' fun σ3 H5 => wipe σ3 vs1 = wipe σ2 vs1 ∧ tt1 σ3 H5 fun b H6 =>
        if b = true then te σ3 H6 fun y H7 => ∃ k L, y = .str k ∧ H7 D = some (SetSO w D L) ∧ L.length + 1 < scanBound ∧ Nx1 (upd H7 D (SetSO w D (addL L k))) else Nx1 H6)
    else Nx H3)
abbrev Blk (X : Cx) (sc : Scope) (s : Shared) (H : Hp) (C : Addr) (cl : List (PySem.Str × Addr)) (fp : List Addr) : Cx := X.blk s H sc (compEnvC sc cl C X.env) fp
theorem sc2_core {pins : List (Addr × Obj)} {s : Shared} {σ : L2.St} {H : Hp} {Q : VK} {elt tg iter tg1 iter1 : Expr} {ifs ifs1 : List Expr} {sc : Scope} {own : List (PySem.Str × Nat)} {vs1 : List Nat} {pos pos' : Pos} {wi wi1 : TI} {g g1 : TG} {tt tt1 : TT} {te : TE} {use : Option (Value → Sem Unit)} {Qf : Value → Shared → Prop}
    (hc : X.calm = true) (hN : X.N.Nodup) (I : Inv X pins σ H s) (hi : PI X tg iter wi) (ok : BlkOk X.N X.env.scope sc own) (hv : ∀ i ∈ vs1, i ∈ own.map (·.2))
    (hg : ∀ s H C cl fp, PG (Blk X sc s H C cl fp) tg g) (ht : ∀ s H C cl fp, PTs (Blk X sc s H C cl fp) ifs tt) (he : ∀ s H C cl fp, PE (Blk X sc s H C cl fp) elt te) (hs : ∀ x, foldedSetIterable iter X.env x = pure x)
    (hi1 : ∀ s H C cl fp, PI (Blk X sc s H C cl fp) tg1 iter1 wi1) (hg1 : ∀ s H C cl fp, PG (Blk X sc s H C cl fp) tg1 g1) (ht1 : ∀ s H C cl fp, PTs (Blk X sc s H C cl fp) ifs1 tt1) (hs1 : ∀ env x, foldedSetIterable iter1 env x = pure x)
    (h : tSc2 X.w wi g tt wi1 g1 tt1 te (own.map (·.2)) vs1 σ H Q)
    (hRR : ∀ D C s' m H', Inv X pins σ H' s' → Q (.ref D) H' → s'.heap.Ns C m → FpOk X pins H' C → compPost (model X.prog X.w) X.A X.xe use Qf (.ref D) C (.ok .next) s') :
    wpAny (model X.prog X.w) X.A (comprehension (SC2 elt tg iter tg1 iter1 ifs ifs1 sc pos) sc X.env pos' (newSet (.type "set")) false (eval iter X.env) use) Qf X.xe s := by
  have hfree : ∀ y ∈ sc.names, y.2 = .free → ∃ c, X.env.cells.lookup y.1 = some c := fun y hy e => (ok.free y hy e).elim (fun k => I.ok.has _ (.inl k)) fun k => I.ok.has _ (.inr k)
  refine wpAny_comprehension_free (use := use) rfl hs (closure_ok hfree) ok.kind (fun y hy e => by rw [ok.uniq y hy, e]) (thn (hi.run pins s σ H _ I h) fun xv s1 hx => thn hx fun itv s2 h2 => ?_)
  obtain ⟨it, fp, tn, J, H2, e, I2, T, st2, f2, q⟩ := h2
  subst e
  refine PpSet.newSet_ok (newEnv_comp ?_)
  generalize hD : s2.heap.objs.size = D
  have hDn : H2 D = none := I2.hok.fresh (Nat.le_of_eq hD)
  obtain ⟨W, ⟨m0, w0⟩, turn⟩ := q D hDn
  generalize hs3 : ({ s2 with heap := s2.heap.push (emptySet X.w) } : Shared) = s3
  have I3 : Inv X pins σ (upd H2 D (SetSO X.w D [])) s3 := by
    rw [← hs3]
    exact I2.laid (t' := s2.toks) (fun b o e => Heap.get?_push_of_some _ e) (Nat.le_of_eq hD) (hD ▸ setSO_new (setS_fresh X.w))
  have h3 : s3.heap = s2.heap.push (emptySet X.w) := by rw [← hs3]
  have sz : ∀ b ∈ fp, b < s2.heap.objs.size := fun b hb => let ⟨o, e, _⟩ := T.obj _ _ st2 b hb; Heap.lt_size e
  have f3 : ∀ b ∈ fp, FpOk X pins (upd H2 D (SetSO X.w D [])) b ∧ b < s3.heap.objs.size := fun b hb =>
    ⟨⟨by rw [upd_ne (by rw [← hD]; exact Nat.ne_of_lt (sz b hb))]; exact (f2 b hb).1, (f2 b hb).2⟩, by rw [h3, Heap.size_push]; exact Nat.lt_succ_of_lt (sz b hb)⟩
  have st3 : tn 0 s3.heap := T.keep _ _ _ st2 fun b _ o e => by rw [h3]; exact Heap.get?_push_of_some _ e
  have I4 := block_start I3 ok hN f3
  generalize hcl : cellsFrom (s3.heap.objs.size + 1) sc.names (cloFrom X.env.cells sc.names []) = cl at I4
  have pg : PG (X.blk s3 (upd H2 D (SetSO X.w D [])) sc (compEnvC sc cl s3.heap.objs.size X.env) fp) tg g := hg s3 _ _ cl fp
  have pt : PTs (X.blk s3 (upd H2 D (SetSO X.w D [])) sc (compEnvC sc cl s3.heap.objs.size X.env) fp) ifs tt := ht s3 _ _ cl fp
  have pe : PE (X.blk s3 (upd H2 D (SetSO X.w D [])) sc (compEnvC sc cl s3.heap.objs.size X.env) fp) elt te := he s3 _ _ cl fp
  have pi1 : PI (X.blk s3 (upd H2 D (SetSO X.w D [])) sc (compEnvC sc cl s3.heap.objs.size X.env) fp) tg1 iter1 wi1 := hi1 s3 _ _ cl fp
  have pg1 : PG (X.blk s3 (upd H2 D (SetSO X.w D [])) sc (compEnvC sc cl s3.heap.objs.size X.env) fp) tg1 g1 := hg1 s3 _ _ cl fp
  have pt1 : PTs (X.blk s3 (upd H2 D (SetSO X.w D [])) sc (compEnvC sc cl s3.heap.objs.size X.env) fp) ifs1 tt1 := ht1 s3 _ _ cl fp
  show codeAny _ _ (.compStart (SC2 elt tg iter tg1 iter1 ifs ifs1 sc pos) 0 (.ref it) (.ref D) (compEnvC sc cl s3.heap.objs.size X.env)) (compPost (model X.prog X.w) X.A X.xe use Qf (.ref D) s3.heap.objs.size) { s3 with heap := pushCells (s3.heap.push { cls := .type "dict", data := .dict #[] }) sc.names }
  have nfp : ∀ b ∈ fp, (upd H2 D (SetSO X.w D [])) b = none := fun b hb => (f3 b hb).1.1
  generalize hce : compEnvC sc cl s3.heap.objs.size X.env = ce at I4 pg pt pe pi1 pg1 pt1 ⊢
  have cL : ce.locals = s3.heap.objs.size := by subst hce; rfl
  generalize hH3 : upd H2 D (SetSO X.w D []) = H3 at I3 I4 pg pt pe pi1 pg1 pt1 w0 nfp f3
  generalize hs4 : ({ s3 with heap := pushCells (s3.heap.push { cls := .type "dict", data := .dict #[] }) sc.names } : Shared) = s4 at I4 ⊢
  have st4 : tn 0 s4.heap := T.keep _ _ _ st3 fun b _ o e => by rw [← hs4]; exact pushCells_keeps _ _ _ _ (Heap.get?_push_of_some _ e)
  have stat : ∀ {σ' : L2.St} {H' : Hp} {s' : Shared}, Inv (X.blk s3 H3 sc ce fp) [] σ' H' s' → (∀ b ∈ fp, H' b = none) → ∀ b ∈ fp, FpOk (X.blk s3 H3 sc ce fp) [] H' b := fun I' hn b hb =>
    ⟨hn b hb, (I'.ok.exf b hb).1, I'.ok.exfs b hb, .inl hb, fun x c e => (I'.ok.exf b hb).2 x c e, fun p hp => absurd (show p ∈ ([] : List (Addr × Obj)) ++ [] from hp) (by simp)⟩
  have loop : codeAny (model X.prog X.w) X.A (.compLoop (SC2 elt tg iter tg1 iter1 ifs ifs1 sc pos) 0 (.ref it) (.ref D) ce) (compPost (model X.prog X.w) X.A X.xe use Qf (.ref D) s3.heap.objs.size) s4 := by
    refine loopOut (hs1 ce) (fun n s' => ∃ i H', Inv (X.blk s3 H3 sc ce fp) [] (wipe σ (own.map (·.2))) H' s' ∧ tn i s'.heap ∧ (∀ b ∈ fp, H' b = none) ∧ W i n H') ?_ m0 ⟨0, H3, I4, st4, nfp, w0⟩
    rintro n s5 ⟨i, H5, I5, st5, n5, w5⟩
    rcases turn i n H5 w5 with ⟨stop, qq⟩ | ⟨go, Nx, hNx, step⟩
    · refine thnF (T.done (X.blk s3 H3 sc ce fp) rfl rfl rfl hc i [] s5 _ H5 (fun _ _ => False) I5 (stat I5 n5) st5 stop) fun r s6 ⟨hr, I6⟩ => ?_
      subst hr
      have I7 : Inv X pins σ H5 s6 := I3.call' (ch := fp) I6.os I6.base I6.hok I6.bare fun b hb => let z := (f3 b hb).1.2; ⟨z.2.2.1, z.1, z.2.2.2.1, z.2.2.2.2⟩
      have nC : H5 s3.heap.objs.size = none := cL ▸ (show H5 ce.locals = none from I6.free)
      obtain ⟨m, hn, -⟩ := I6.loc
      exact hRR D s3.heap.objs.size s6 m H5 I7 qq (cL ▸ (show s6.heap.Ns ce.locals m from hn)) (I3.fpOk (Nat.le_refl _) nC)
    · refine thnF (T.item (X.blk s3 H3 sc ce fp) rfl rfl rfl hc i [] s5 _ H5 (fun _ _ => False) I5 (stat I5 n5) st5 go) fun r s6 ⟨u, hr, h6⟩ => ?_
      subst hr
      refine thnF h6 fun _ s7 ⟨x, H7, I7, r7, y7, st7, n7⟩ => ?_
      have I7' := I7.pinned (stat I7 n7) (T.obj _ _ st7)
      refine thnF (pg.run _ s7 _ H7 x u _ I7' r7 (step x H7 y7)) fun _ s8 ⟨σ8, H8, I8, hw8, q8⟩ => thnF (pt.run _ s8 σ8 H8 _ I8 q8) fun b s9 ⟨H9, I9, q9⟩ => ?_
      have fin : ∀ {σ9 : L2.St} {s' : Shared} {H' : Hp}, Inv (X.blk s3 H3 sc ce fp) ([] ++ pinsAt fp s7.heap) σ9 H' s' → (wipe σ (own.map (·.2))).length = σ9.length → (∀ (j : Nat) v, (wipe σ (own.map (·.2)))[j]? = some (some v) → σ9[j]? = some (some v)) → Nx H' →
          ∃ m, m < n ∧ ∃ i H', Inv (X.blk s3 H3 sc ce fp) [] (wipe σ (own.map (·.2))) H' s' ∧ tn i s'.heap ∧ (∀ b ∈ fp, H' b = none) ∧ W i m H' := fun {σ9 s' H'} I' hl hk nx => by
        obtain ⟨m', hm, w'⟩ := hNx H' nx
        have pin' : ∀ b ∈ fp, ∀ o, s7.heap.get? b = some o → s'.heap.get? b = some o ∧ H' b = none := fun b hb o e =>
          let z := I'.pin (b, o) (List.mem_append_right _ (List.mem_append_right _ (mem_pinsAt hb e))); ⟨z.1, z.2.1⟩
        exact ⟨m', hm, i + 1, H', (I'.unpinned (pins := [])).weak hl hk, T.keep _ _ _ st7 fun b hb o e => (pin' b hb o e).1, fun b hb => let ⟨o, e, _⟩ := T.obj _ _ st7 b hb; (pin' b hb o e).2, w'⟩
      have hl8 : (wipe σ (own.map (·.2))).length = σ8.length := by rw [← hw8, wipe_length]
      have hk8 : ∀ (j : Nat) v, (wipe σ (own.map (·.2)))[j]? = some (some v) → σ8[j]? = some (some v) := fun j v e => (wipe_some (hw8 ▸ e)).1
      have hk9 : ∀ (j : Nat) v, (wipe σ (own.map (·.2)))[j]? = some (some v) → (wipe σ8 vs1)[j]? = some (some v) := fun j v e => by
        rw [← hw8] at e
        rw [wipe_out fun z => (wipe_some e).2 (hv j z)]
        exact (wipe_some e).1
      cases b with
      | false => simp only [Bool.false_eq_true, if_false] at q9 ⊢; exact fin I9 hl8 hk8 q9
      | true =>
        simp only [if_true] at q9 ⊢
        refine thnF (pi1.run _ s9 σ8 H9 _ I9 q9) fun xv s10 hx => thnF hx fun itv s11 h11 => ?_
        obtain ⟨it1, fp1, tn1, J1, H11, e1, I11, T1, st11, f11, W1, ⟨m1, w1⟩, turn1⟩ := h11
        subst e1
        have stat1 : ∀ {H' : Hp}, (∀ b ∈ fp1, H' b = none) → ∀ b ∈ fp1, FpOk (X.blk s3 H3 sc ce fp) ([] ++ pinsAt fp s7.heap) H' b := fun hn b hb => ⟨hn b hb, (f11 b hb).2⟩
        have loop1 : codeAny (model X.prog X.w) X.A (.compLoop (SC2 elt tg iter tg1 iter1 ifs ifs1 sc pos) 1 (.ref it1) (.ref D) ce)
            (fun r s' => match r with
              | .ok _ => ∃ m, m < n ∧ ∃ i H', Inv (X.blk s3 H3 sc ce fp) [] (wipe σ (own.map (·.2))) H' s' ∧ tn i s'.heap ∧ (∀ b ∈ fp, H' b = none) ∧ W i m H'
              | .error _ => False) s11 := by
          refine loopIn (fun k s' => ∃ j H', Inv (X.blk s3 H3 sc ce fp) ([] ++ pinsAt fp s7.heap) (wipe σ8 vs1) H' s' ∧ tn1 j s'.heap ∧ (∀ b ∈ fp1, H' b = none) ∧ W1 j k H') ?_ m1 ⟨0, H11, I11.weak (wipe_length _ _) (fun j v e => (wipe_some e).1), st11, fun b hb => (f11 b hb).1, w1⟩
          rintro k s12 ⟨j, H12, I12, st12, n12, w12⟩
          rcases turn1 j k H12 w12 with ⟨stop1, nx1⟩ | ⟨go1, Nx1, hNx1, step1⟩
          · refine thnF (T1.done (X.blk s3 H3 sc ce fp) rfl rfl rfl hc j _ s12 (wipe σ8 vs1) H12 (fun _ _ => False) I12 (stat1 n12) st12 stop1) fun r s13 ⟨hr, I13⟩ => ?_
            subst hr
            exact fin I13 (hl8.trans (wipe_length σ8 vs1).symm) hk9 nx1
          · refine thnF (T1.item (X.blk s3 H3 sc ce fp) rfl rfl rfl hc j _ s12 (wipe σ8 vs1) H12 (fun _ _ => False) I12 (stat1 n12) st12 go1) fun r s13 ⟨u1, hr, h13⟩ => ?_
            subst hr
            refine thnF h13 fun _ s14 ⟨x1, H14, I14, r14, y14, st14, n14⟩ => ?_
            have I14' := I14.pinned (stat1 n14) (T1.obj _ _ st14)
            refine thnF (pg1.run _ s14 (wipe σ8 vs1) H14 x1 u1 _ I14' r14 (step1 x1 H14 y14)) fun _ s15 ⟨σ15, H15, I15, hw15, q15⟩ => thnF (pt1.run _ s15 σ15 H15 _ I15 q15) fun b1 s16 ⟨H16, I16, q16⟩ => ?_
            have fin1 : ∀ {s' : Shared} {H' : Hp}, Inv (X.blk s3 H3 sc ce fp) (([] ++ pinsAt fp s7.heap) ++ pinsAt fp1 s14.heap) σ15 H' s' → Nx1 H' → ∃ m, m < k ∧ ∃ j H', Inv (X.blk s3 H3 sc ce fp) ([] ++ pinsAt fp s7.heap) (wipe σ8 vs1) H' s' ∧ tn1 j s'.heap ∧ (∀ b ∈ fp1, H' b = none) ∧ W1 j m H' := fun {s' H'} I' nx => by
              obtain ⟨m', hm, w'⟩ := hNx1 H' nx
              have pin' : ∀ b ∈ fp1, ∀ o, s14.heap.get? b = some o → s'.heap.get? b = some o ∧ H' b = none := fun b hb o e =>
                let z := I'.pin (b, o) (List.mem_append_right _ (List.mem_append_right _ (mem_pinsAt hb e))); ⟨z.1, z.2.1⟩
              exact ⟨m', hm, j + 1, H', I'.unpinned.weak (by rw [← hw15, wipe_length]) (fun j v e => (wipe_some (hw15 ▸ e)).1), T1.keep _ _ _ st14 fun b hb o e => (pin' b hb o e).1, fun b hb => let ⟨o, e, _⟩ := T1.obj _ _ st14 b hb; (pin' b hb o e).2, w'⟩
            cases b1 with
            | false => simp only [Bool.false_eq_true, if_false] at q16 ⊢; exact fin1 I16 q16
            | true =>
              simp only [if_true] at q16 ⊢
              refine thnF (pe.run _ s16 σ15 H16 _ I16 q16) fun z s17 ⟨yv, H17, I17, r17, ky, L17, ey, hD17, hz17, nx⟩ => ?_
              subst ey
              obtain ⟨tk, rfl⟩ := r17
              exact addS_ok (X := X.blk s3 H3 sc ce fp) I17 hD17 hz17 fun s18 I18 => fin1 I18 nx
        exact startIn loop1 (T1.self X.A 0 _ _ _ st11 loop1)
  exact PpSet.codeAny_compStart_set loop (T.self X.A 0 _ _ _ st4 loop)
/-- as a value -/
theorem pe_sc2 {elt tg iter tg1 iter1 : Expr} {ifs ifs1 : List Expr} {sc : Scope} {own : List (PySem.Str × Nat)} {vs1 : List Nat} {pos : Pos} {wi wi1 : TI} {g g1 : TG} {tt tt1 : TT} {te : TE} (hc : X.calm = true) (hN : X.N.Nodup) (hi : PI X tg iter wi) (ok : BlkOk X.N X.env.scope sc own) (hv : ∀ i ∈ vs1, i ∈ own.map (·.2))
    (hg : ∀ s H C cl fp, PG (Blk X sc s H C cl fp) tg g) (ht : ∀ s H C cl fp, PTs (Blk X sc s H C cl fp) ifs tt) (hi1 : ∀ s H C cl fp, PI (Blk X sc s H C cl fp) tg1 iter1 wi1) (hg1 : ∀ s H C cl fp, PG (Blk X sc s H C cl fp) tg1 g1) (ht1 : ∀ s H C cl fp, PTs (Blk X sc s H C cl fp) ifs1 tt1)
    (he : ∀ s H C cl fp, PE (Blk X sc s H C cl fp) elt te) (hs : ∀ x, foldedSetIterable iter X.env x = pure x := by intro _; rfl) (hs1 : ∀ env x, foldedSetIterable iter1 env x = pure x := by intro _ _; rfl) :
    PE X (SC2 elt tg iter tg1 iter1 ifs ifs1 sc pos) (tSc2 X.w wi g tt wi1 g1 tt1 te (own.map (·.2)) vs1) := by
  refine ⟨fun pins s σ H Q I h => ?_⟩
  rw [PpSet.eval_SetComp]
  refine sc2_core hc hN I hi ok hv hg ht he hs hi1 hg1 ht1 hs1 h fun D C s' m H' I' q hn f => ⟨m, hn, fun h'' sb => ?_⟩
  obtain ⟨f0, f1, f2, f3, f4, f5⟩ := f
  exact ⟨.ref D, H', I'.turned (t' := s'.toks) (fun b o hb e => (sb.2 b hb).trans e) f0 f1 f3 f4 f5, rfl, q⟩
/-- sorted of such a set, fewer than 64 members -/
def rSortS (w : World) : List V → Hp → VK → Prop := fun vs H Q => ∃ (a : Addr) (L : List Str), vs = [V.ref a] ∧ H a = some (SetSO w a L) ∧ L.length < 64 ∧ ∀ (ys : List Str) (p : Addr), ys.Perm L → sortedS ys = true → H p = none → Q (.ref p) (upd H p (.lst (ys.map V.str)))
theorem strs_of : ∀ (l : List Value), (∀ v ∈ l, ∃ k tk, v = Value.str k tk) → StrsAre l (l.map fun v => kOf (0, v))
  | [], _ => .nil
  | v :: l, h => by
    obtain ⟨k, tk, rfl⟩ := h v List.mem_cons_self
    exact .cons k tk (strs_of l fun u hu => h u (List.mem_cons_of_mem _ hu))
theorem cr_sortS (hc : X.calm = true) : CallR X (.builtin "sorted") (rSortS X.w) := by
  intro pins s σ H vs us Q I r h
  obtain ⟨a, L, rfl, ha, h64, q⟩ := h
  have R := setSO_get I ha
  have hlen := @SetS.len _ _ _ _ R
  rw [Vals.ref1 r]
  obtain ⟨o, es, ep, t, ho, hex, hd, g, pmL, nd, hb, hf, hr, hl⟩ := R
  have hn : es.size = L.length := hlen ho hd
  refine Calls.call_function_entry kind_sorted plain_sorted entry_sorted (args_sorted1 _) ?_
  unfold Builtin.«sorted»
  refine wpAny_bind (m := checkCount "sorted" 1 1 _) (wpAny_pure (wpAny_bind (collect_set (A := X.A.in1) (I.ok.hd hc) ⟨o, ho, hex.1, hd⟩ hf hb hr hl fun s1 ws k1 hz g1 o1 pm => ?_)))
  have hvl : ws.length = L.length := by rw [pm.length_eq, List.length_map, Array.length_toList]; exact hn
  have hS : StrsAre ws (ws.map fun v => kOf (0, v)) := strs_of ws fun v hv => by
    obtain ⟨e, he, z⟩ := List.mem_map.mp (pm.mem_iff.mp hv)
    obtain ⟨k, tk, h1, -⟩ := g e he
    exact ⟨k, tk, by rw [← z]; exact h1⟩
  have pk : (ws.map fun v => kOf (0, v)).Perm L := by
    have z := pm.map fun v => kOf (0, v)
    rw [List.map_map] at z
    exact z.trans pmL
  have I1 : Inv X pins σ H s1 := by
    have e : s1 = { s with heap := s1.heap, gens := s1.gens, drawn := s1.drawn, toks := s1.toks } := by cases s1; cases s; cases o1; rfl
    rw [e]
    exact I.call (ch := []) (Un.kept k1) (I.hok.kept k1) (by rw [g1]; exact I.bare) (fun _ z => nomatch z)
  refine wpAny_bind (wpAny_newList ?_ (by rw [hvl, sizeLine_eq]; omega))
  have hoL : (s1.heap.push (seqObj "list" ws.toArray 0)).get? s1.heap.objs.size = some (seqObj "list" ws.toArray 0) := Heap.get?_push_size _ rfl
  refine wpAny_bind (wpAny_holding (wpAny_call_entry slot_list_sort ⟨_, hoL, rfl⟩ entry_list_sort (list_sort_treeK strKind_oneLt (s := { s1 with heap := s1.heap.push (seqObj "list" ws.toArray 0) }) hoL hS.keysOf (fun v₁ v₂ rest e => keyKind_strs (by rw [← e]; exact hS)) (by rw [hvl]; exact h64) fun st' hp hs => ⟨_, rfl, ?_⟩) (args_list_sort _)))
  obtain ⟨ys, y1, y2, y3⟩ := sorted_out_str hS hp hs
  obtain ⟨e', he'⟩ := sortedHeap_at (vs := ws) (out := (arrOf st').map (·.2)) hoL
  have hl2 : (ys.map V.str).length ≤ sizeLine := by
    rw [List.length_map, y2.length_eq, pk.length_eq, sizeLine_eq]
    omega
  refine wpAny_pure ⟨_, rfl, .ref s1.heap.objs.size, upd H s1.heap.objs.size (.lst (ys.map V.str)), I1.laid (t' := s1.toks) (fun b u e => ?_) (Nat.le_refl _) (show ObjOk X.prog X.w _ _ _ (.lst (ys.map V.str)) from ⟨hl2, ((arrOf st').map (·.2)).toList, e', vals_of_strs y1, by rw [Array.toArray_toList]; exact he'⟩), rfl, q ys _ (y2.trans pk) y3 (I1.hok.fresh (Nat.le_refl _))⟩
  show (sortedHeap (s1.heap.push (seqObj "list" ws.toArray 0)) s1.heap.objs.size ws _).get? b = some u
  have hlt := Heap.lt_size e
  rw [sortedHeap_old (Nat.ne_of_lt hlt) (by rw [size_push']; exact Nat.lt_succ_of_lt hlt)]
  exact Heap.get?_push_of_some _ e
end
/-- walked: the outer clause -/
theorem sc2_it {J : It} {n : Nat} {G : Hp → Prop} {Y : Nat → Hp → V → Hp → Prop} (wk : Walk J n G Y) {w : World} {g g1 : TG} {tt tt1 : TT} {wi1 : TI} {te : TE} {vs vs1 : List Nat} {σ : L2.St} {H1 : Hp} {D : Addr} {Qd : Hp → Prop} (Pv : Nat → Hp → Prop) (h0 : Pv 0 (upd H1 D (SetSO w D []))) (hG : ∀ i H, i ≤ n → Pv i H → G H)
    (hs : ∀ i x H H', i < n → Pv i H → Y i H x H' → g x (wipe σ vs) H' fun σ2 H2 => wipe σ2 vs = wipe σ vs ∧ tt σ2 H2 fun b H3 =>
      if b = true then wi1 σ2 H3 fun J1 H4 => ∃ W1 : Nat → Nat → Hp → Prop, (∃ m, W1 0 m H4) ∧ ∀ j k H, W1 j k H →
        (J1.stop j H ∧ Pv (i + 1) H) ∨ (J1.go j H ∧ ∃ Nx1 : Hp → Prop, (∀ H', Nx1 H' → ∃ k', k' < k ∧ W1 (j + 1) k' H') ∧ ∀ x H', J1.yld j H x H' → g1 x (wipe σ2 vs1) H' fun σ3 H5 => wipe σ3 vs1 = wipe σ2 vs1 ∧ tt1 σ3 H5 fun b H6 =>
          if b = true then te σ3 H6 fun y H7 => ∃ k L, y = .str k ∧ H7 D = some (SetSO w D L) ∧ L.length + 1 < scanBound ∧ Nx1 (upd H7 D (SetSO w D (addL L k))) else Nx1 H6)
      else Pv (i + 1) H3) (hd : ∀ H, Pv n H → Qd H) :
    ∃ W : Nat → Nat → Hp → Prop, (∃ m, W 0 m (upd H1 D (SetSO w D []))) ∧ ∀ i m H, W i m H →
      (J.stop i H ∧ Qd H) ∨ (J.go i H ∧ ∃ Nx : Hp → Prop, (∀ H', Nx H' → ∃ m', m' < m ∧ W (i + 1) m' H') ∧ ∀ x H', J.yld i H x H' → g x (wipe σ vs) H' fun σ2 H2 => wipe σ2 vs = wipe σ vs ∧ tt σ2 H2 fun b H3 =>
        if b = true then wi1 σ2 H3 fun J1 H4 => ∃ W1 : Nat → Nat → Hp → Prop, (∃ m, W1 0 m H4) ∧ ∀ j k H, W1 j k H →
          (J1.stop j H ∧ Nx H) ∨ (J1.go j H ∧ ∃ Nx1 : Hp → Prop, (∀ H', Nx1 H' → ∃ k', k' < k ∧ W1 (j + 1) k' H') ∧ ∀ x H', J1.yld j H x H' → g1 x (wipe σ2 vs1) H' fun σ3 H5 => wipe σ3 vs1 = wipe σ2 vs1 ∧ tt1 σ3 H5 fun b H6 =>
            if b = true then te σ3 H6 fun y H7 => ∃ k L, y = .str k ∧ H7 D = some (SetSO w D L) ∧ L.length + 1 < scanBound ∧ Nx1 (upd H7 D (SetSO w D (addL L k))) else Nx1 H6)
        else Nx H3) := by
  refine ⟨fun i m H => m = n - i ∧ i ≤ n ∧ Pv i H, ⟨n, by simp, Nat.zero_le _, h0⟩, ?_⟩
  rintro i m H ⟨rfl, hi, p⟩
  have q := hG i H hi p
  by_cases c : i < n
  · exact .inr ⟨wk.goes i H c q, Pv (i + 1), fun H' p' => ⟨n - (i + 1), by omega, rfl, c, p'⟩, fun x H' y => hs i x H H' c p (wk.yields i H x H' c q y)⟩
  · obtain rfl : i = n := by omega
    exact .inl ⟨wk.stops H q, hd H p⟩
/-- walked: the inner clause -/
theorem in2_it {J1 : It} {n : Nat} {G : Hp → Prop} {Y : Nat → Hp → V → Hp → Prop} (wk : Walk J1 n G Y) {w : World} {g1 : TG} {tt1 : TT} {te : TE} {vs1 : List Nat} {σ2 : L2.St} {H4 : Hp} {D : Addr} {Nx : Hp → Prop} (Pv : Nat → Hp → Prop) (h0 : Pv 0 H4) (hG : ∀ i H, i ≤ n → Pv i H → G H)
    (hs : ∀ i x H H', i < n → Pv i H → Y i H x H' → g1 x (wipe σ2 vs1) H' fun σ3 H5 => wipe σ3 vs1 = wipe σ2 vs1 ∧ tt1 σ3 H5 fun b H6 =>
      if b = true then te σ3 H6 fun y H7 => ∃ k L, y = .str k ∧ H7 D = some (SetSO w D L) ∧ L.length + 1 < scanBound ∧ Pv (i + 1) (upd H7 D (SetSO w D (addL L k))) else Pv (i + 1) H6) (hd : ∀ H, Pv n H → Nx H) :
    ∃ W1 : Nat → Nat → Hp → Prop, (∃ m, W1 0 m H4) ∧ ∀ j k H, W1 j k H →
      (J1.stop j H ∧ Nx H) ∨ (J1.go j H ∧ ∃ Nx1 : Hp → Prop, (∀ H', Nx1 H' → ∃ k', k' < k ∧ W1 (j + 1) k' H') ∧ ∀ x H', J1.yld j H x H' → g1 x (wipe σ2 vs1) H' fun σ3 H5 => wipe σ3 vs1 = wipe σ2 vs1 ∧ tt1 σ3 H5 fun b H6 =>
        if b = true then te σ3 H6 fun y H7 => ∃ k L, y = .str k ∧ H7 D = some (SetSO w D L) ∧ L.length + 1 < scanBound ∧ Nx1 (upd H7 D (SetSO w D (addL L k))) else Nx1 H6) := by
  refine ⟨fun i m H => m = n - i ∧ i ≤ n ∧ Pv i H, ⟨n, by simp, Nat.zero_le _, h0⟩, ?_⟩
  rintro i m H ⟨rfl, hi, p⟩
  have q := hG i H hi p
  by_cases c : i < n
  · exact .inr ⟨wk.goes i H c q, Pv (i + 1), fun H' p' => ⟨n - (i + 1), by omega, rfl, c, p'⟩, fun x H' y => hs i x H H' c p (wk.yields i H x H' c q y)⟩
  · obtain rfl : i = n := by omega
    exact .inl ⟨wk.stops H q, hd H p⟩
end Ss
/-! set(xs) of a list of texts; len of such a set -/
namespace Ss
open PySem PySem.Spec PyProof.Rows L2
def addAll (L : List Str) (ks : List Str) : List Str := ks.foldl addL L
theorem addAll_len : ∀ (ks L : List Str), (addAll L ks).length ≤ L.length + ks.length
  | [], L => Nat.le_refl _
  | k :: ks, L => by
    have := addAll_len ks (addL L k)
    have h2 : (addL L k).length ≤ L.length + 1 := by
      unfold addL
      split
      · omega
      · rw [List.length_cons]; omega
    show (addAll (addL L k) ks).length ≤ _
    rw [List.length_cons]
    omega
theorem addAll_mem : ∀ (ks L : List Str) (x : Str), x ∈ addAll L ks ↔ x ∈ L ∨ x ∈ ks
  | [], L, x => by simp [addAll]
  | k :: ks, L, x => by
    show x ∈ addAll (addL L k) ks ↔ _
    rw [addAll_mem ks, mem_addL, List.mem_cons]
    constructor
    · rintro ((h | h) | h)
      · exact .inr (.inl h)
      · exact .inl h
      · exact .inr (.inr h)
    · rintro (h | h | h)
      · exact .inl (.inr h)
      · exact .inl (.inl h)
      · exact .inr h
theorem addAll_nd : ∀ (ks L : List Str), L.Nodup → (addAll L ks).Nodup
  | [], _, h => h
  | k :: ks, L, h => addAll_nd ks (addL L k) (nd_addL h)
theorem addAll_take {ks : List Str} {i : Nat} {k : Str} (h : ks[i]? = some k) : addAll [] (ks.take (i + 1)) = addL (addAll [] (ks.take i)) k := by
  unfold addAll
  rw [List.take_add_one, h, List.foldl_append]
  rfl
section
variable {P : Program} {w : World} {A : Around} {E : Value → Shared → Prop} {s : Shared}
theorem set_update_strs {I : Addr} {fp wr : List Addr} {G : Array GenState → Array GenState → Prop} {n : Nat} {Pv : Nat → Value → Prop} {St : Nat → Shared → Prop} {R : Result → Shared → Prop}
    (W : WalksS P w A.in1 I fp wr G n Pv St) (S : Addr) (hSf : S ∉ fp) (ns : List Str) (hn : n = ns.length) (hb : ns.length + 1 < scanBound) (hval : ∀ i v, Pv i v → ∃ k t, ns[i]? = some k ∧ v = .str k t) :
    ∀ (k i : Nat) (s : Shared), n - i = k → i ≤ n → St i s → SetS w s.heap S (addAll [] (ns.take i)) →
      (∀ s', Moved (S :: wr) G s s' → SetS w s'.heap S (addAll [] ns) → R (.ok (.ret .none)) s') →
      codeAny (model P w) A (.builtin "set.update.loop" ⟨[.ref S, .ref I], []⟩) R s := by
  have hSw : S ∉ wr := fun h => hSf (W.sub _ h)
  have hsub : ∀ b ∈ wr, b ∈ S :: wr := fun b hb => List.mem_cons_of_mem _ hb
  intro k
  induction k with
  | zero =>
    intro i s hk' hi hst hS hR
    have hin : i = n := by omega
    subst hin
    refine codeAny_builtin F.entry_set_update_loop ?_
    rw [Around.under_plainId F.plain_set_update_loop _]
    show wpAny _ A.in1 (pyNext (.ref I) >>= _) _ _ s
    refine wpAny_bind (W.done s _ _ hst fun s' hm => ?_)
    show wpAny _ A.in1 (ret Value.none) _ _ s'
    have e : ns.take i = ns := List.take_of_length_le (by omega)
    rw [e] at hS
    exact wpAny_pure (hR s' (hm.mono hsub) (hS.at fun o e => hm.heap S o hSw e))
  | succ k ih =>
    intro i s hk' hi hst hS hR
    have hlt : i < n := by omega
    refine codeAny_builtin F.entry_set_update_loop ?_
    rw [Around.under_plainId F.plain_set_update_loop _]
    show wpAny _ A.in1 (pyNext (.ref I) >>= _) _ _ s
    refine wpAny_bind (W.item i s _ _ hlt hst fun v s' hP hst' hm => ?_)
    obtain ⟨z, t, hz, rfl⟩ := hval i v hP
    have hS' : SetS w s'.heap S (addAll [] (ns.take i)) := hS.at fun o e => hm.heap S o hSw e
    have hl := addAll_len (ns.take i) []
    rw [List.length_take, List.length_nil] at hl
    show wpAny _ A.in1 (holding [Value.str z t] (setAdd S (.str z t)) >>= _) _ _ s'
    refine wpAny_bind (wpAny_holding ?_)
    unfold setAdd
    refine wpAny_holding ?_
    refine wpAny_bind ((PySem.strKind P w).pyHash (k := z) (isS z t) ?_)
    refine addS_hashed (s := { s' with toks := s'.toks + 1 }) hS' (by omega) fun h' b hsb hS2 => ?_
    rw [← addAll_take hz] at hS2
    refine wpAny_pure ⟨plainId_quiet F.plain_set_update_loop _, ih (i + 1) _ (by omega) hlt (W.frame _ s' _ _ hst' (Nat.le_succ _) fun b hb o e => ?_) hS2 fun s'' hm'' hS'' => ?_⟩
    · rw [hsb.2 b (fun h : b = S => hSf (by rw [← h]; exact hb))]; exact e
    · refine hR s'' (Moved.trans W.gtrans ((hm.mono hsub).then_heap (Nat.le_succ _) fun b o hb e => ?_) hm'') hS''
      rw [hsb.2 b (fun h : b = S => hb (by rw [h]; exact List.mem_cons_self))]; exact e
set_option maxHeartbeats 8000000 in
theorem set_of_strs {l : Addr} {its : Array Value} (ns : List Str) {Q : Value → Shared → Prop} (nh : A.handled = none) (il : s.heap.IsList l its) (ii : StrsAre its.toList ns) (nb : ns.length + 1 < scanBound)
    (fin : ∀ (g : Heap) (tk : Nat), SetS w g s.heap.objs.size (addAll [] ns) → (∀ b o, s.heap.get? b = some o → g.get? b = some o) → Q (.ref s.heap.objs.size) { s with heap := g, toks := tk }) :
    wpAny (model P w) A (call (.type "set") [.ref l]) Q E s := by
  have isz : its.size = ns.length := by
    have z := StrsAre.len_eq ii
    rwa [Array.length_toList] at z
  obtain ⟨_, _, mro⟩ := F.called_set.mro
  have m1 := F.called_set.made
  have m2 := F.called_set.sub
  have m3 := F.called_set.notType
  have m4 := F.called_set.canCreate
  have m5 := F.typeCall_set_1 (.ref l)
  refine wpAny_call (codeAny_of_tree (?_ : wpAny _ _ (callAny (.type "set") _) _ _ _))
  refine wpAny_pure ⟨Code.quiet_builtin _ (by decide +kernel), codeAny_builtin F.entry_type_call ?_⟩
  rw [Around.under_plain (weight_type_call_type "set" [.ref l] []) rfl]
  repeat (any_goals (first | assumption | wp_step))
  refine codeAny_mono (code_set_led1 (.ref l) (E := E) (Q₁ := fun ob z => ob = .ref s.heap.objs.size ∧ z = { s with heap := s.heap.push (emptySet w) }) ⟨rfl, rfl⟩) fun r z hz => ?_
  cases r with
  | error e => exact hz
  | ok fl =>
    cases fl with
    | ret ob =>
      obtain ⟨rfl, rfl⟩ := hz
      have zS : (s.heap.push (emptySet w)).get? s.heap.objs.size = some (emptySet w) := Heap.get?_push_size _ rfl
      have zT : Shared.TypeIs { s with heap := s.heap.push (emptySet w) } (.ref s.heap.objs.size) "set" := ⟨_, zS, rfl⟩
      have n1 := F.called_set.init.lookup
      have n2 := F.called_set.init.bind (.ref s.heap.objs.size)
      repeat (any_goals (first | assumption | wp_step))
      refine codeAny_mono (codeAny_call_builtin (R := wants (fun r z => r = .none ∧ ∃ g tk, z = { s with heap := g, toks := tk } ∧ SetS w g s.heap.objs.size (addAll [] ns) ∧ ∀ b o, s.heap.get? b = some o → g.get? b = some o) E)
        F.called_set.init.plain F.entry_set_init (check_set_init_1 zT ?_)) fun r2 z2 hz2 => ?_
      · obtain ⟨⟨oc, od, odt, osl⟩, ol, c1, nl, c2⟩ := il
        simp only at c1 c2
        subst c1 c2
        have ol2 : (s.heap.push (emptySet w)).get? l = some { cls := .type "list", dict := od, data := .seq its nl, slots := osl } := Heap.get?_push_of_some _ ol
        have k1 := F.sub_list_set
        have k2 := F.sub_list_frozenset
        have k3 : (Value.type "list" == Value.type "dict") = false := by decide
        have il2 : (s.heap.push (emptySet w)).IsList l its := ⟨_, ol2, rfl, nl, rfl⟩
        unfold Builtin.«set.__init__» noKeywords Builtin.Frozenset.updateFrom
        generalize ePI : pyIter = PI
        wp_walk
        subst ePI
        refine wpAny_pyIter_list il2 (wpAny_bind (wpAny_runValue ?_))
        have lS : l < s.heap.objs.size := Heap.lt_size ol
        have h3 : A.in1.in1.in1.handled = none := by simp [nh]
        have nI : l ≠ (s.heap.push (emptySet w)).objs.size := by
          rw [Heap.size_push]
          exact Nat.ne_of_lt (Nat.lt_succ_of_lt lS)
        have nf : s.heap.objs.size ∉ [(s.heap.push (emptySet w)).objs.size, l] := by
          rw [Heap.size_push]
          simp only [List.mem_cons, List.not_mem_nil, or_false, not_or]
          exact ⟨Nat.ne_of_lt (Nat.lt_succ_self _), Nat.ne_of_gt lS⟩
        have vl : ∀ (i : Nat) (v : Value), its[i]? = some v → ∃ k t, ns[i]? = some k ∧ v = .str k t := fun i v hv => by
          have hi : i < ns.length := by rw [← isz]; exact (Array.getElem?_eq_some_iff.mp hv).1
          obtain ⟨t, e⟩ := StrsAre.get ii i _ (List.getElem?_eq_getElem hi)
          refine ⟨ns[i], t, List.getElem?_eq_getElem hi, ?_⟩
          rw [← Array.getElem?_toList, e] at hv
          exact (Option.some.inj hv).symm
        refine set_update_strs ((Walks.list h3 _ l nI its).toS) s.heap.objs.size nf ns isz nb vl (its.size - 0) 0 _ (by omega) (Nat.zero_le _) ⟨⟨_, Heap.get?_push_size _ rfl, rfl, rfl⟩, il2.push _⟩ ?zStart ?zEnd
        case zStart => exact (setS_fresh w).at fun o e => Heap.get?_push_of_some _ e
        case zEnd =>
          intro z hm hS
          obtain ⟨g, gg, dd, tk, os⟩ := z
          have e1 : gg = s.gens := hm.gens
          have e2 : dd = s.drawn := hm.drawn
          have e3 : os = s.os := hm.os
          subst e1 e2 e3
          refine wpAny_pure (?_ : wpAny _ _ (ret Value.none) _ _ _)
          refine wpAny_pure ⟨rfl, g, tk, rfl, hS, fun b o e => ?_⟩
          have b0 : b < s.heap.objs.size := Heap.lt_size e
          refine hm.heap b o ?_ (Heap.get?_push_of_some _ (Heap.get?_push_of_some _ e))
          rw [Heap.size_push]
          simp only [List.mem_cons, List.not_mem_nil, or_false, not_or]
          exact ⟨Nat.ne_of_lt b0, Nat.ne_of_lt (Nat.lt_succ_of_lt b0)⟩
      · cases r2 with
        | error e => exact hz2
        | ok f2 =>
          cases f2 with
          | ret r =>
            obtain ⟨rfl, g, tk, rfl, q1, q3⟩ := hz2
            repeat (any_goals (first | assumption | wp_step))
            exact fin _ _ q1 q3
          | _ => exact hz2.elim
    | _ => exact hz.elim
end
theorem strs_vals : ∀ {ys : List Str} {its : List Value}, Vals (ys.map V.str) its → StrsAre its ys
  | [], _, .nil => .nil
  | y :: ys, _, .cons r rs => by
    obtain ⟨t, rfl⟩ := r
    exact .cons y t (strs_vals rs)
def rSetOS (K : PySem.W.Frag) (w : World) : List V → Hp → VK → Prop := fun xs H Q => ∃ (l : Addr) (ns : List Str), xs = [.ref l] ∧ SqL K H l (ns.map V.str) ∧ ns.length ≤ 60 ∧ ∀ p, H p = none → Q (.ref p) (upd H p (SetSO w p (addAll [] ns)))
theorem call_setOS {X : Cx} (hc : X.calm = true) : CallR X (.type "set") (rSetOS X.K X.w) := by
  intro pins s σ H xs us Q I r h
  obtain ⟨l, ns, rfl, hs, hl, q⟩ := h
  rw [Vals.ref1 r]
  obtain ⟨its, rv, pl, hz⟩ := I.list hs
  refine set_of_strs ns (I.ok.hd hc) pl.isList (strs_vals rv) (by unfold scanBound; omega) fun g tk R k => ?_
  exact ⟨.ref _, _, I.laid (t' := tk) k (Nat.le_refl _) (setSO_new R), rfl, q _ (I.hok.fresh (Nat.le_refl _))⟩
/-- len of a set of texts -/
def rLenSS (w : World) : List V → Hp → VK → Prop := fun xs H Q => ∃ (a : Addr) (L : List Str), xs = [.ref a] ∧ H a = some (SetSO w a L) ∧ Q (.int (L.length : Nat)) H
theorem call_lenSS {X : Cx} : CallR X (.builtin "len") (rLenSS X.w) := by
  intro pins s σ H xs us Q I r h
  obtain ⟨a, L, rfl, ha, q⟩ := h
  rw [Vals.ref1 r]
  have R := setSO_get I ha
  have hlen := @SetS.len _ _ _ _ R
  obtain ⟨o, es, ep, t, ho, hex, hd, g, pmL, nd, hb, hf, hr, hl⟩ := R
  have hn : es.size = L.length := hlen ho hd
  refine call_len_set ho hex hd hf (by unfold scanBound at hb; omega) ?_
  rw [hn]
  exact ⟨.int (L.length : Nat), H, I.tok _, ⟨_, rfl⟩, q⟩
end Ss
/-! a set of the texts of a tuple -/
namespace Ss
open PySem PySem.Spec PyProof.Rows L2
section
variable {P : Program} {w : World} {A : Around} {E : Value → Shared → Prop} {s : Shared}
set_option maxHeartbeats 8000000 in
theorem set_of_strsT {l : Addr} {its : Array Value} (ns : List Str) {Q : Value → Shared → Prop} (nh : A.handled = none) (il : s.heap.IsTuple l its) (ii : StrsAre its.toList ns) (nb : ns.length + 1 < scanBound)
    (fin : ∀ (g : Heap) (tk : Nat), SetS w g s.heap.objs.size (addAll [] ns) → (∀ b o, s.heap.get? b = some o → g.get? b = some o) → Q (.ref s.heap.objs.size) { s with heap := g, toks := tk }) :
    wpAny (model P w) A (call (.type "set") [.ref l]) Q E s := by
  have isz : its.size = ns.length := by
    have z := StrsAre.len_eq ii
    rwa [Array.length_toList] at z
  obtain ⟨_, _, mro⟩ := F.called_set.mro
  have m1 := F.called_set.made
  have m2 := F.called_set.sub
  have m3 := F.called_set.notType
  have m4 := F.called_set.canCreate
  have m5 := F.typeCall_set_1 (.ref l)
  refine wpAny_call (codeAny_of_tree (?_ : wpAny _ _ (callAny (.type "set") _) _ _ _))
  refine wpAny_pure ⟨Code.quiet_builtin _ (by decide +kernel), codeAny_builtin F.entry_type_call ?_⟩
  rw [Around.under_plain (weight_type_call_type "set" [.ref l] []) rfl]
  repeat (any_goals (first | assumption | wp_step))
  refine codeAny_mono (code_set_led1 (.ref l) (E := E) (Q₁ := fun ob z => ob = .ref s.heap.objs.size ∧ z = { s with heap := s.heap.push (emptySet w) }) ⟨rfl, rfl⟩) fun r z hz => ?_
  cases r with
  | error e => exact hz
  | ok fl =>
    cases fl with
    | ret ob =>
      obtain ⟨rfl, rfl⟩ := hz
      have zS : (s.heap.push (emptySet w)).get? s.heap.objs.size = some (emptySet w) := Heap.get?_push_size _ rfl
      have zT : Shared.TypeIs { s with heap := s.heap.push (emptySet w) } (.ref s.heap.objs.size) "set" := ⟨_, zS, rfl⟩
      have n1 := F.called_set.init.lookup
      have n2 := F.called_set.init.bind (.ref s.heap.objs.size)
      repeat (any_goals (first | assumption | wp_step))
      refine codeAny_mono (codeAny_call_builtin (R := wants (fun r z => r = .none ∧ ∃ g tk, z = { s with heap := g, toks := tk } ∧ SetS w g s.heap.objs.size (addAll [] ns) ∧ ∀ b o, s.heap.get? b = some o → g.get? b = some o) E)
        F.called_set.init.plain F.entry_set_init (check_set_init_1 zT ?_)) fun r2 z2 hz2 => ?_
      · obtain ⟨⟨oc, od, odt, osl⟩, ol, c1, nl, c2⟩ := il
        simp only at c1 c2
        subst c1 c2
        have ol2 : (s.heap.push (emptySet w)).get? l = some { cls := .type "tuple", dict := od, data := .seq its nl, slots := osl } := Heap.get?_push_of_some _ ol
        have k1 := F.sub_tuple_set
        have k2 := F.sub_tuple_frozenset
        have k3 : (Value.type "tuple" == Value.type "dict") = false := by decide
        have il2 : (s.heap.push (emptySet w)).IsTuple l its := ⟨_, ol2, rfl, nl, rfl⟩
        unfold Builtin.«set.__init__» noKeywords Builtin.Frozenset.updateFrom
        generalize ePI : pyIter = PI
        wp_walk
        subst ePI
        refine wpAny_pyIter_tuple il2 (wpAny_bind (wpAny_runValue ?_))
        have lS : l < s.heap.objs.size := Heap.lt_size ol
        have h3 : A.in1.in1.in1.handled = none := by simp [nh]
        have nI : l ≠ (s.heap.push (emptySet w)).objs.size := by
          rw [Heap.size_push]
          exact Nat.ne_of_lt (Nat.lt_succ_of_lt lS)
        have nf : s.heap.objs.size ∉ [(s.heap.push (emptySet w)).objs.size, l] := by
          rw [Heap.size_push]
          simp only [List.mem_cons, List.not_mem_nil, or_false, not_or]
          exact ⟨Nat.ne_of_lt (Nat.lt_succ_self _), Nat.ne_of_gt lS⟩
        have vl : ∀ (i : Nat) (v : Value), its[i]? = some v → ∃ k t, ns[i]? = some k ∧ v = .str k t := fun i v hv => by
          have hi : i < ns.length := by rw [← isz]; exact (Array.getElem?_eq_some_iff.mp hv).1
          obtain ⟨t, e⟩ := StrsAre.get ii i _ (List.getElem?_eq_getElem hi)
          refine ⟨ns[i], t, List.getElem?_eq_getElem hi, ?_⟩
          rw [← Array.getElem?_toList, e] at hv
          exact (Option.some.inj hv).symm
        refine set_update_strs ((Walks.tuple h3 _ l nI its).toS) s.heap.objs.size nf ns isz nb vl (its.size - 0) 0 _ (by omega) (Nat.zero_le _) ⟨⟨_, Heap.get?_push_size _ rfl, rfl, rfl⟩, il2.push _⟩ ?zStart ?zEnd
        case zStart => exact (setS_fresh w).at fun o e => Heap.get?_push_of_some _ e
        case zEnd =>
          intro z hm hS
          obtain ⟨g, gg, dd, tk, os⟩ := z
          have e1 : gg = s.gens := hm.gens
          have e2 : dd = s.drawn := hm.drawn
          have e3 : os = s.os := hm.os
          subst e1 e2 e3
          refine wpAny_pure (?_ : wpAny _ _ (ret Value.none) _ _ _)
          refine wpAny_pure ⟨rfl, g, tk, rfl, hS, fun b o e => ?_⟩
          have b0 : b < s.heap.objs.size := Heap.lt_size e
          refine hm.heap b o ?_ (Heap.get?_push_of_some _ (Heap.get?_push_of_some _ e))
          rw [Heap.size_push]
          simp only [List.mem_cons, List.not_mem_nil, or_false, not_or]
          exact ⟨Nat.ne_of_lt b0, Nat.ne_of_lt (Nat.lt_succ_of_lt b0)⟩
      · cases r2 with
        | error e => exact hz2
        | ok f2 =>
          cases f2 with
          | ret r =>
            obtain ⟨rfl, g, tk, rfl, q1, q3⟩ := hz2
            repeat (any_goals (first | assumption | wp_step))
            exact fin _ _ q1 q3
          | _ => exact hz2.elim
    | _ => exact hz.elim
end
def rSetTS (K : PySem.W.Frag) (w : World) : List V → Hp → VK → Prop := fun xs H Q => ∃ (l : Addr) (ns : List Str), xs = [.ref l] ∧ SqT K H l (ns.map V.str) ∧ ns.length ≤ 60 ∧ ∀ p, H p = none → Q (.ref p) (upd H p (SetSO w p (addAll [] ns)))
theorem call_setTS {X : Cx} (hc : X.calm = true) : CallR X (.type "set") (rSetTS X.K X.w) := by
  intro pins s σ H xs us Q I r h
  obtain ⟨l, ns, rfl, hs, hl, q⟩ := h
  rw [Vals.ref1 r]
  obtain ⟨its, rv, pl, hz⟩ := I.tuple hs
  refine set_of_strsT ns (I.ok.hd hc) pl (strs_vals rv) (by unfold scanBound; omega) fun g tk R k => ?_
  exact ⟨.ref _, _, I.laid (t' := tk) k (Nat.le_refl _) (setSO_new R), rfl, q _ (I.hok.fresh (Nat.le_refl _))⟩
theorem addAll_snoc (L ks : List Str) (k : Str) : addAll L (ks ++ [k]) = addL (addAll L ks) k := by
  unfold addAll
  rw [List.foldl_append]
  rfl
end Ss
namespace Th
open PySem PySem.Spec PyProof.Rows L2
/-! the text -/
def topS (i : Nat) : Stmt := PySem.Challenge.pw_throughlines_k08_what_is_a_way.main.body.getD i (.Pass ⟨0, 0, 0, 0⟩)
abbrev FnP (K : PySem.W.Frag) (x : Str) (st : Stmt) (f : Addr) (fd : FuncData) : Prop := FunD K x x (defArgs st) (defBody st) (defScope st) [] [] f fd
abbrev s_is_name : Stmt := topS 2
abbrev N_is_name : List Str := ["thing", "letter"]
theorem sc_is_name : FnScope N_is_name ["thing"] (defScope s_is_name) := ⟨rfl, rfl, rfl, by decide +kernel, rfl, by decide +kernel, by decide +kernel⟩
abbrev s_is_tuple : Stmt := topS 3
abbrev N_is_tuple : List Str := ["thing", "fewest", "most"]
theorem sc_is_tuple : FnScope N_is_tuple ["thing", "fewest", "most"] (defScope s_is_tuple) := ⟨rfl, rfl, rfl, by decide +kernel, rfl, by decide +kernel, by decide +kernel⟩
abbrev s_all_unlike : Stmt := topS 4
abbrev N_all_unlike : List Str := ["things"]
theorem sc_all_unlike : FnScope N_all_unlike ["things"] (defScope s_all_unlike) := ⟨rfl, rfl, rfl, by decide +kernel, rfl, by decide +kernel, by decide +kernel⟩
abbrev s_tie_between : Stmt := topS 6
abbrev N_tie_between : List Str := ["net", "place", "far", "one", "other", "line", "chains"]
theorem sc_tie_between : FnScope N_tie_between ["net", "place", "far"] (defScope s_tie_between) := ⟨rfl, rfl, rfl, by decide +kernel, rfl, by decide +kernel, by decide +kernel⟩
abbrev s_is_way : Stmt := topS 9
abbrev N_is_way : List Str := ["net", "thing", "stations", "place", "name", "line"]
theorem sc_is_way : FnScope N_is_way ["net", "thing"] (defScope s_is_way) := ⟨rfl, rfl, rfl, by decide +kernel, rfl, by decide +kernel, by decide +kernel⟩
abbrev s_ties_along : Stmt := topS 10
abbrev N_ties_along : List Str := ["net", "way", "place", "far"]
theorem sc_ties_along : FnScope N_ties_along ["net", "way"] (defScope s_ties_along) := ⟨rfl, rfl, rfl, by decide +kernel, rfl, by decide +kernel, by decide +kernel⟩
abbrev s_l_bag : Stmt := topS 12
abbrev N_l_bag : List Str := ["_law_script", "_law_at", "_law_cell", "_law_great", "_law_primes"]
theorem sc_l_bag : FnScope N_l_bag ["_law_script", "_law_at"] (defScope s_l_bag) := ⟨rfl, rfl, rfl, by decide +kernel, rfl, by decide +kernel, by decide +kernel⟩
abbrev s_l_take : Stmt := topS 13
abbrev N_l_take : List Str := ["_law_bag_here", "_law_many", "_law_digit"]
theorem sc_l_take : FnScope N_l_take ["_law_bag_here", "_law_many"] (defScope s_l_take) := ⟨rfl, rfl, rfl, by decide +kernel, rfl, by decide +kernel, by decide +kernel⟩
abbrev s_l_names : Stmt := topS 14
abbrev N_l_names : List Str := ["_law_bag_here", "_law_many", "_law_letters", "_law_found", "_law_k", "_law_size", "_law_stem", "_law_turn"]
theorem sc_l_names : FnScope N_l_names ["_law_bag_here", "_law_many"] (defScope s_l_names) := ⟨rfl, rfl, rfl, by decide +kernel, rfl, by decide +kernel, by decide +kernel⟩
abbrev s_l_spots : Stmt := topS 15
abbrev N_l_spots : List Str := ["_law_bag_here", "_law_many", "_law_junctions", "_law_found", "_law_here", "_law_k", "_law_some", "_law_turn"]
theorem sc_l_spots : FnScope N_l_spots ["_law_bag_here", "_law_many", "_law_junctions"] (defScope s_l_spots) := ⟨rfl, rfl, rfl, by decide +kernel, rfl, by decide +kernel, by decide +kernel⟩
abbrev s_l_places : Stmt := topS 16
abbrev N_l_places : List Str := ["_law_bag_here", "_law_many", "_law_junctions", "_law_more", "_law_names_here", "_law_spots_here", "_law_first", "_law_last", "_law_towns", "_law_k"]
theorem sc_l_places : FnScope N_l_places ["_law_bag_here", "_law_many"] (defScope s_l_places) := ⟨rfl, rfl, rfl, by decide +kernel, rfl, by decide +kernel, by decide +kernel⟩
abbrev s_l_net : Stmt := topS 17
abbrev N_l_net : List Str := ["_law_bag_here", "_law_many", "_law_lines", "_law_places_here", "_law_row", "_law_ties", "_law_k", "_law_one", "_law_other", "_law_common", "_law_chains", "_law_near", "_law_line"]
theorem sc_l_net : FnScope N_l_net ["_law_bag_here"] (defScope s_l_net) := ⟨rfl, rfl, rfl, by decide +kernel, rfl, by decide +kernel, by decide +kernel⟩
abbrev s_l_laid : Stmt := topS 18
abbrev N_l_laid : List Str := ["_law_bag_here", "_law_lines", "_law_places_here", "_law_ties", "_law_stations", "_law_junctions", "_law_rows", "_law_name", "_law_some", "_law_one", "_law_other", "_law_tie_here", "_law_line"]
theorem sc_l_laid : FnScope N_l_laid ["_law_bag_here", "_law_lines", "_law_places_here", "_law_ties"] (defScope s_l_laid) := ⟨rfl, rfl, rfl, by decide +kernel, rfl, by decide +kernel, by decide +kernel⟩
abbrev s_l_tie : Stmt := topS 19
abbrev N_l_tie : List Str := ["_law_net_here", "_law_place", "_law_far", "_law_found", "_law_one"]
theorem sc_l_tie : FnScope N_l_tie ["_law_net_here", "_law_place", "_law_far"] (defScope s_l_tie) := ⟨rfl, rfl, rfl, by decide +kernel, rfl, by decide +kernel, by decide +kernel⟩
abbrev s_l_walk : Stmt := topS 20
abbrev N_l_walk : List Str := ["_law_bag_here", "_law_net_here", "_law_way", "_law_stations", "_law_found", "_law_turn", "_law_some", "_law_ends", "_law_one", "_law_tie_here", "_law_place", "_law_at"]
theorem sc_l_walk : FnScope N_l_walk ["_law_bag_here", "_law_net_here", "_law_way"] (defScope s_l_walk) := ⟨rfl, rfl, rfl, by decide +kernel, rfl, by decide +kernel, by decide +kernel⟩
abbrev s_l_odd : Stmt := topS 21
abbrev N_l_odd : List Str := ["_law_bag_here", "_law_some"]
theorem sc_l_odd : FnScope N_l_odd ["_law_bag_here"] (defScope s_l_odd) := ⟨rfl, rfl, rfl, by decide +kernel, rfl, by decide +kernel, by decide +kernel⟩
abbrev s_l_bent : Stmt := topS 22
abbrev N_l_bent : List Str := ["_law_bag_here", "_law_net_here", "_law_way", "_law_turn", "_law_at", "_law_places_here", "_law_other", "_law_one"]
theorem sc_l_bent : FnScope N_l_bent ["_law_bag_here", "_law_net_here", "_law_way"] (defScope s_l_bent) := ⟨rfl, rfl, rfl, by decide +kernel, rfl, by decide +kernel, by decide +kernel⟩
abbrev s_l_is_way : Stmt := topS 23
abbrev N_l_is_way : List Str := ["_law_net_here", "_law_thing", "_law_stations", "_law_place", "_law_one", "_law_k"]
theorem sc_l_is_way : FnScope N_l_is_way ["_law_net_here", "_law_thing"] (defScope s_l_is_way) := ⟨rfl, rfl, rfl, by decide +kernel, rfl, by decide +kernel, by decide +kernel⟩
abbrev s_l_long : Stmt := topS 24
abbrev N_l_long : List Str := ["_law_bag_here", "_law_letters", "_law_stations", "_law_junctions", "_law_places_here", "_law_ties", "_law_k", "_law_one", "_law_place", "_law_far"]
theorem sc_l_long : FnScope N_l_long ["_law_bag_here"] (defScope s_l_long) := ⟨rfl, rfl, rfl, by decide +kernel, rfl, by decide +kernel, by decide +kernel⟩
abbrev s_law : Stmt := topS 25
abbrev N_law : List Str := ["_law_script", "_law_at", "_law_bag_here", "_law_net_here", "_law_way", "_law_things", "_law_one", "_law_thing", "_law_due", "_law_told", "_law_turn"]
theorem sc_law : FnScope N_law ["_law_script"] (defScope s_law) := ⟨rfl, rfl, rfl, by decide +kernel, rfl, by decide +kernel, by decide +kernel⟩
structure Defs (K : PySem.W.Frag) (mg : Str → Option Value) where
  a_is_name : Addr
  d_is_name : FuncData
  F_is_name : FnP K "is_name" s_is_name a_is_name d_is_name
  g_is_name : mg "is_name" = some (.ref a_is_name)
  b_is_name : Binds K d_is_name ["thing"] []
  a_is_tuple : Addr
  d_is_tuple : FuncData
  F_is_tuple : FnP K "is_tuple" s_is_tuple a_is_tuple d_is_tuple
  g_is_tuple : mg "is_tuple" = some (.ref a_is_tuple)
  b_is_tuple : Binds K d_is_tuple ["thing", "fewest", "most"] []
  a_all_unlike : Addr
  d_all_unlike : FuncData
  F_all_unlike : FnP K "all_unlike" s_all_unlike a_all_unlike d_all_unlike
  g_all_unlike : mg "all_unlike" = some (.ref a_all_unlike)
  b_all_unlike : Binds K d_all_unlike ["things"] []
  a_tie_between : Addr
  d_tie_between : FuncData
  F_tie_between : FnP K "tie_between" s_tie_between a_tie_between d_tie_between
  g_tie_between : mg "tie_between" = some (.ref a_tie_between)
  b_tie_between : Binds K d_tie_between ["net", "place", "far"] []
  a_is_way : Addr
  d_is_way : FuncData
  F_is_way : FnP K "is_way" s_is_way a_is_way d_is_way
  g_is_way : mg "is_way" = some (.ref a_is_way)
  b_is_way : Binds K d_is_way ["net", "thing"] []
  a_ties_along : Addr
  d_ties_along : FuncData
  F_ties_along : FnP K "ties_along" s_ties_along a_ties_along d_ties_along
  g_ties_along : mg "ties_along" = some (.ref a_ties_along)
  b_ties_along : Binds K d_ties_along ["net", "way"] []
  a_l_bag : Addr
  d_l_bag : FuncData
  F_l_bag : FnP K "_law_bag" s_l_bag a_l_bag d_l_bag
  g_l_bag : mg "_law_bag" = some (.ref a_l_bag)
  b_l_bag : Binds K d_l_bag ["_law_script", "_law_at"] []
  a_l_take : Addr
  d_l_take : FuncData
  F_l_take : FnP K "_law_take" s_l_take a_l_take d_l_take
  g_l_take : mg "_law_take" = some (.ref a_l_take)
  b_l_take : Binds K d_l_take ["_law_bag_here", "_law_many"] []
  a_l_names : Addr
  d_l_names : FuncData
  F_l_names : FnP K "_law_names" s_l_names a_l_names d_l_names
  g_l_names : mg "_law_names" = some (.ref a_l_names)
  b_l_names : Binds K d_l_names ["_law_bag_here", "_law_many"] []
  a_l_spots : Addr
  d_l_spots : FuncData
  F_l_spots : FnP K "_law_spots" s_l_spots a_l_spots d_l_spots
  g_l_spots : mg "_law_spots" = some (.ref a_l_spots)
  b_l_spots : Binds K d_l_spots ["_law_bag_here", "_law_many", "_law_junctions"] []
  a_l_places : Addr
  d_l_places : FuncData
  F_l_places : FnP K "_law_places" s_l_places a_l_places d_l_places
  g_l_places : mg "_law_places" = some (.ref a_l_places)
  b_l_places : Binds K d_l_places ["_law_bag_here", "_law_many"] []
  a_l_net : Addr
  d_l_net : FuncData
  F_l_net : FnP K "_law_net" s_l_net a_l_net d_l_net
  g_l_net : mg "_law_net" = some (.ref a_l_net)
  b_l_net : Binds K d_l_net ["_law_bag_here"] []
  a_l_laid : Addr
  d_l_laid : FuncData
  F_l_laid : FnP K "_law_laid" s_l_laid a_l_laid d_l_laid
  g_l_laid : mg "_law_laid" = some (.ref a_l_laid)
  b_l_laid : Binds K d_l_laid ["_law_bag_here", "_law_lines", "_law_places_here", "_law_ties"] []
  a_l_tie : Addr
  d_l_tie : FuncData
  F_l_tie : FnP K "_law_tie" s_l_tie a_l_tie d_l_tie
  g_l_tie : mg "_law_tie" = some (.ref a_l_tie)
  b_l_tie : Binds K d_l_tie ["_law_net_here", "_law_place", "_law_far"] []
  a_l_walk : Addr
  d_l_walk : FuncData
  F_l_walk : FnP K "_law_walk" s_l_walk a_l_walk d_l_walk
  g_l_walk : mg "_law_walk" = some (.ref a_l_walk)
  b_l_walk : Binds K d_l_walk ["_law_bag_here", "_law_net_here", "_law_way"] []
  a_l_odd : Addr
  d_l_odd : FuncData
  F_l_odd : FnP K "_law_odd" s_l_odd a_l_odd d_l_odd
  g_l_odd : mg "_law_odd" = some (.ref a_l_odd)
  b_l_odd : Binds K d_l_odd ["_law_bag_here"] []
  a_l_bent : Addr
  d_l_bent : FuncData
  F_l_bent : FnP K "_law_bent" s_l_bent a_l_bent d_l_bent
  g_l_bent : mg "_law_bent" = some (.ref a_l_bent)
  b_l_bent : Binds K d_l_bent ["_law_bag_here", "_law_net_here", "_law_way"] []
  a_l_is_way : Addr
  d_l_is_way : FuncData
  F_l_is_way : FnP K "_law_is_way" s_l_is_way a_l_is_way d_l_is_way
  g_l_is_way : mg "_law_is_way" = some (.ref a_l_is_way)
  b_l_is_way : Binds K d_l_is_way ["_law_net_here", "_law_thing"] []
  a_l_long : Addr
  d_l_long : FuncData
  F_l_long : FnP K "_law_long" s_l_long a_l_long d_l_long
  g_l_long : mg "_law_long" = some (.ref a_l_long)
  b_l_long : Binds K d_l_long ["_law_bag_here"] []
  t_LONGEST_NAME : Tok
  c_LONGEST_NAME : mg "LONGEST_NAME" = some (.int 8 t_LONGEST_NAME)
  t_MOST_PLACES : Tok
  c_MOST_PLACES : mg "MOST_PLACES" = some (.int 28 t_MOST_PLACES)
  z_abs : mg "abs" = none
  z_all : mg "all" = none
  z_bool : mg "bool" = none
  z_int : mg "int" = none
  z_isinstance : mg "isinstance" = none
  z_len : mg "len" = none
  z_list : mg "list" = none
  z_max : mg "max" = none
  z_min : mg "min" = none
  z_range : mg "range" = none
  z_set : mg "set" = none
  z_sorted : mg "sorted" = none
  z_str : mg "str" = none
  z_tuple : mg "tuple" = none
  z_zip : mg "zip" = none
end Th
namespace Th
open PySem PySem.Spec PyProof.Rows L2
section
variable {P : Program} {w : World} {K : PySem.W.Frag} {mg : Str → Option Value} {base : Heap} {k : Nat}
theorem ok_l_bag (T : Defs K mg) : FnOk P w K mg base CX0 (k + 1) T.a_l_bag T.d_l_bag ["_law_script", "_law_at"] (sp_bag K) := by
  refine T.F_l_bag.ok sc_l_bag (fun vs H Q E h => ?_) (fun cdv A outer s H vs Q E hr h => ?_)
  · obtain ⟨a, ns, i, rfl, _⟩ := h
    rfl
  · obtain ⟨a, ns, i, rfl, hS, hi, q⟩ := h
    refine ⟨_, PSs.nox
(pss_cons (ps_set (i := 2) sc_l_bag.nd rfl (.inl rfl) (pe_int))
    (pss_cons (ps_if (pt_cmpR op_lt (pv 1) (pe_callB (r := rLenS K) call_lenS (by rfl) T.z_len (by decide +kernel) (pa_cons (pv 0) pa_nil)) (nomark _))
      (pss_one (ps_set (i := 2) sc_l_bag.nd rfl (.inl rfl) (pe_ix (r := rIxL K) ix_list (pv 0) (pv 1) (fun _ _ => rfl))))
      pss_nil)
    (pss_cons (ps_set (i := 3) sc_l_bag.nd rfl (.inl rfl) (pe_int))
    (pss_cons (ps_if (pt_cmpR op_ge (pe_callB call_abs (by rfl) T.z_abs (by decide +kernel) (pa_cons (pv 2) pa_nil)) (pe_op op_pow (pe_int) (pe_int)) (nomark _))
      (pss_one (ps_set (i := 3) sc_l_bag.nd rfl (.inl rfl) (pe_callB call_abs (by rfl) T.z_abs (by decide +kernel) (pa_cons (pv 2) pa_nil))))
      pss_nil)
    (pss_cons (ps_set (i := 4) sc_l_bag.nd rfl (.inl rfl) (pe_lst (pa_cons (pe_int) (pa_cons (pe_int) (pa_cons (pe_int) (pa_cons (pe_int) (pa_cons (pe_int) (pa_cons (pe_int) (pa_cons (pe_int) (pa_cons (pe_int) pa_nil))))))))))
    (pss_one (ps_ret (pe_lst (pa_cons (pv 3) (pa_cons (pe_op op_mod (pe_op op_pow (pe_op op_add (pe_op op_add (pe_op op_mod (pv 2) (pe_int)) (pe_op op_mul (pe_int) (pv 1))) (pe_int)) (pe_int)) (pe_ix (r := rIxL K) ix_list (pv 4) (pe_op op_mod (pv 1) (pe_int)) (fun _ _ => rfl))) pa_nil))))))))))
      , ?_⟩
    obtain ⟨pr, hp, hp0, hp1⟩ := primes_at i
    have fin : ∀ (c g : Int), 0 ≤ g → ∀ l, H l = none → ∀ H1, H1 = upd H l (.lst [V.int 2147483629, .int 2147483587, .int 2147483579, .int 2147483563, .int 2147483549, .int 2147483543, .int 2147483497, .int 2147483489]) →
        ∀ p, H1 p = none → Q (.ref p) (upd H1 p (.lst [.int g, .int ((c % 2147483647 + 104729 * (i : Int) + 7) ^ (5 : Int).toNat % pr)])) := by
      intro c g hg l nl H1 e p np
      have s1 : Same H H1 := by rw [e]; exact same_upd nl
      exact q _ p (s1.trans (same_upd np)) (s1.free np) ⟨g, _, upd_same, hg, Int.emod_nonneg _ (by omega), Int.lt_trans (Int.emod_lt_of_pos _ hp0) hp1⟩
    refine ⟨.int i, rfl, .ref a, rfl, a, ns.map V.int, rfl, .inl hS, _, _, rfl, rfl, _, rfl, ite2 (fun e => ?_) (fun e => ?_)⟩
    · have lt : i < ns.length := by
        have := of_decide_eq_true e
        rw [List.length_map] at this
        omega
      have g1 : (ns.map V.int)[i]? = some (.int ns[i]) := by
        rw [List.getElem?_map, List.getElem?_eq_getElem lt]
        rfl
      refine ⟨.ref a, rfl, .int i, rfl, a, _, (i : Int), .int ns[i], rfl, rfl, hS, atI_nat g1, ?_⟩
      refine ⟨.int ns[i], rfl, _, rfl, 10, 18, rfl, rfl, ⟨by decide, by decide, by decide⟩, _, _, rfl, rfl, _, rfl, ite2 (fun e => ?_) (fun e => ?_)⟩
      · refine ⟨.int ns[i], rfl, _, rfl, ?_⟩
        refine ⟨by show 8 ≤ sizeLine; decide, fun l nl => ?_⟩
        refine ⟨_, rfl, .int ns[i], rfl, ns[i], 2147483647, rfl, rfl, pA, .int i, rfl, 104729, i, rfl, rfl, .inl ⟨by decide, by decide⟩, _, _, rfl, rfl, _, 7, rfl, rfl, _, 5, rfl, rfl, ⟨by decide, by decide, ?_⟩, .ref l, rfl, .int i, rfl, i, 8, rfl, rfl, p8, l, _, _, _, rfl, rfl, SqL.of upd_same, hp, _, pr, rfl, rfl, hp0, by show 2 ≤ sizeLine; decide, fin ns[i] _ ?_ l nl _ rfl⟩
        · omega
        · split <;> omega
      · refine ⟨by show 8 ≤ sizeLine; decide, fun l nl => ?_⟩
        refine ⟨_, rfl, .int ns[i], rfl, ns[i], 2147483647, rfl, rfl, pA, .int i, rfl, 104729, i, rfl, rfl, .inl ⟨by decide, by decide⟩, _, _, rfl, rfl, _, 7, rfl, rfl, _, 5, rfl, rfl, ⟨by decide, by decide, ?_⟩, .ref l, rfl, .int i, rfl, i, 8, rfl, rfl, p8, l, _, _, _, rfl, rfl, SqL.of upd_same, hp, _, pr, rfl, rfl, hp0, by show 2 ≤ sizeLine; decide, fin ns[i] 0 (by decide) l nl _ rfl⟩
        omega
    · refine ⟨.int 0, rfl, _, rfl, 10, 18, rfl, rfl, ⟨by decide, by decide, by decide⟩, _, _, rfl, rfl, _, rfl, ite2 (fun e => ?_) (fun e => ?_)⟩
      · exact absurd (of_decide_eq_true e) (by decide)
      · refine ⟨by show 8 ≤ sizeLine; decide, fun l nl => ?_⟩
        refine ⟨_, rfl, .int 0, rfl, 0, 2147483647, rfl, rfl, pA, .int i, rfl, 104729, i, rfl, rfl, .inl ⟨by decide, by decide⟩, _, _, rfl, rfl, _, 7, rfl, rfl, _, 5, rfl, rfl, ⟨by decide, by decide, ?_⟩, .ref l, rfl, .int i, rfl, i, 8, rfl, rfl, p8, l, _, _, _, rfl, rfl, SqL.of upd_same, hp, _, pr, rfl, rfl, hp0, by show 2 ≤ sizeLine; decide, fin 0 0 (by decide) l nl _ rfl⟩
        omega
theorem ok_l_take (T : Defs K mg) : FnOk P w K mg base CX0 (k + 1) T.a_l_take T.d_l_take ["_law_bag_here", "_law_many"] sp_take := by
  refine T.F_l_take.ok sc_l_take (fun vs H Q E h => ?_) (fun cdv A outer s H vs Q E hr h => ?_)
  · obtain ⟨p, m, rfl, _⟩ := h
    rfl
  · obtain ⟨p, m, rfl, ⟨g, r, hp, g0, r0, r1⟩, m0, m1, q⟩ := h
    refine ⟨_, PSs.nox
(pss_cons (ps_if (pt_cmpR op_gt (pe_ix (r := rIxL K) ix_list (pv 0) (pe_int) (fun _ _ => rfl)) (pe_int) (nomark _))
      (pss_cons (ps_set (i := 2) sc_l_take.nd rfl (.inl rfl) (pe_op op_mod (pe_ix (r := rIxL K) ix_list (pv 0) (pe_int) (fun _ _ => rfl)) (pv 1)))
      (pss_cons (ps_asg (pe_op op_fdiv (pe_ix (r := rIxL K) ix_list (pv 0) (pe_int) (fun _ _ => rfl)) (pv 1)) (pg_sub (pv 0) (pe_int) set_list))
      (pss_one (ps_ret (pv 2)))))
      pss_nil)
    (pss_cons (ps_asg (pe_op op_mod (pe_op op_add (pe_op op_mul (pe_ix (r := rIxL K) ix_list (pv 0) (pe_int) (fun _ _ => rfl)) (pe_int)) (pe_int)) (pe_int)) (pg_sub (pv 0) (pe_int) set_list))
    (pss_one (ps_ret (pe_op op_mod (pe_op op_mod (pe_op op_pow (pe_op op_fdiv (pe_ix (r := rIxL K) ix_list (pv 0) (pe_int) (fun _ _ => rfl)) (pe_int)) (pe_int)) (pe_int)) (pv 1))))))
      , ?_⟩
    refine ⟨.ref p, rfl, p, _, 0, .int g, rfl, rfl, SqL.of hp, atI_nat (j := 0) rfl, _, 0, rfl, rfl, _, rfl, ite2 (fun e => ?_) (fun e => ?_)⟩
    · refine ⟨.ref p, rfl, p, _, 0, .int g, rfl, rfl, SqL.of hp, atI_nat (j := 0) rfl, .int m, rfl, g, m, rfl, rfl, m0, ?_⟩
      refine ⟨.ref p, rfl, p, _, 0, .int g, rfl, rfl, SqL.of hp, atI_nat (j := 0) rfl, .int m, rfl, g, m, rfl, rfl, ⟨m0, m1⟩, .ref p, rfl, p, _, 0, 0, rfl, rfl, hp, rfl, ?_⟩
      refine ⟨_, rfl, q _ _ Keep.upd ⟨_, _, upd_same, ?_, r0, r1⟩ (Int.emod_nonneg _ (by omega)) (Int.emod_lt_of_pos _ m0)⟩
      exact Int.ediv_nonneg g0 (by omega)
    · refine ⟨.ref p, rfl, p, _, 1, .int r, rfl, rfl, SqL.of hp, atI_nat (j := 1) rfl, r, 48271, rfl, rfl, .inr ⟨by decide, by decide⟩, _, 11, rfl, rfl, _, 2147483647, rfl, rfl, pA, .ref p, rfl, p, _, 1, 1, rfl, rfl, hp, rfl, ?_⟩
      have hz0 : 0 ≤ (r * 48271 + 11) % 2147483647 := Int.emod_nonneg _ (by decide)
      have hz1 : (r * 48271 + 11) % 2147483647 < 2147483647 := Int.emod_lt_of_pos _ (by decide)
      refine ⟨.ref p, rfl, p, _, 1, _, rfl, rfl, SqL.of upd_same, atI_nat (j := 1) rfl, (r * 48271 + 11) % 2147483647, 8, rfl, rfl, ⟨by decide, by decide⟩, _, 3, rfl, rfl, ⟨by decide, by decide, ?_⟩, _, 2147483629, rfl, rfl, pB, .int m, rfl, _, m, rfl, rfl, m0, ?_⟩
      · omega
      · exact q _ _ Keep.upd ⟨_, _, upd_same, g0, hz0, by omega⟩ (Int.emod_nonneg _ (by omega)) (Int.emod_lt_of_pos _ m0)
end
end Th
namespace Th
open PySem PySem.Spec PyProof.Rows L2
/-! drawn names -/
abbrev nS (l : List Nat) : V := .str (SX.S l)
def Lower (l : List Nat) : Prop := ∀ c ∈ l, 97 ≤ c ∧ c ≤ 122
/-- a name: one to eight letters -/
def IsNm (l : List Nat) : Prop := 1 ≤ l.length ∧ l.length ≤ 8 ∧ Lower l
abbrev abc : Str := Str.ofString "abcdefghijklmnopqrstuvwxyz"
theorem abc_list : abc.cps.toList = (List.range 26).map (97 + ·) := by decide +kernel
theorem abc_at {d : Int} (h0 : 0 ≤ d) (h1 : d < 26) : atI abc.cps.toList d = some (97 + d.toNat) := by
  obtain ⟨j, rfl⟩ : ∃ j : Nat, d = (j : Int) := ⟨d.toNat, by omega⟩
  refine atI_nat ?_
  rw [abc_list, List.getElem?_map, List.getElem?_range (by omega)]
  rfl
theorem joinL_one : ∀ cs : List Nat, TL.joinL [] (cs.map fun c => [c]) = cs
  | [] => rfl
  | [_] => rfl
  | c :: d :: cs => by
    show [c] ++ ([] ++ TL.joinL [] ((d :: cs).map fun c => [c])) = _
    rw [joinL_one (d :: cs)]
    rfl
theorem join_signs (cs : List Nat) : Txt.join (SX.S []) ((cs.map fun c => [c]).map SX.S) = SX.S cs := by rw [SX.join_S, joinL_one]
/-- what is known of the k-th name -/
def NmAt (k : Nat) (l : List Nat) : Prop := (∃ st, l = st ++ [97 + k % 26] ∧ Lower st ∧ st.length ≤ 7) ∧ (k ≤ 25 → l.length ≤ 7) ∧ (25 < k → l.length = 8)
theorem NmAt.nm {k : Nat} {l : List Nat} (h : NmAt k l) : IsNm l := by
  obtain ⟨⟨st, rfl, hl, hn⟩, _⟩ := h
  refine ⟨by rw [List.length_append]; simp, by rw [List.length_append]; simp; omega, fun c hc => ?_⟩
  rcases List.mem_append.mp hc with z | z
  · exact hl c z
  · rw [List.mem_singleton.mp z]
    omega
theorem nm_unlike {i j : Nat} {a b : List Nat} (hi : NmAt i a) (hj : NmAt j b) (h : i < j) (hj2 : j < 52) : a ≠ b := fun e => by
  obtain ⟨⟨s1, e1, _⟩, h1, _⟩ := hi
  obtain ⟨⟨s2, e2, _⟩, _, h3⟩ := hj
  have l1 : a.getLast? = some (97 + i % 26) := by rw [e1]; simp
  have l2 : b.getLast? = some (97 + j % 26) := by rw [e2]; simp
  rw [e, l2] at l1
  have := Option.some.inj l1
  have h4 := h1 (by omega)
  have h5 := h3 (by omega)
  rw [e] at h4
  omega
theorem nm_nodup {zs : List (List Nat)} (h : ∀ k l, zs[k]? = some l → NmAt k l) (hn : zs.length ≤ 52) : zs.Nodup := by
  rw [List.nodup_iff_pairwise_ne, List.pairwise_iff_getElem]
  intro i j hi hj hij
  exact nm_unlike (h i _ (List.getElem?_eq_getElem hi)) (h j _ (List.getElem?_eq_getElem hj)) hij (by omega)
theorem p26 : (0 : Int) < 26 := by decide
section
variable {P : Program} {w : World} {K : PySem.W.Frag} {mg : Str → Option Value} {base : Heap} {k : Nat}
def sp_l_names : Sp := fun vs H Q _ => ∃ (p : Addr) (n : Nat), vs = [.ref p, .int n] ∧ Bag H p ∧ n ≤ 52 ∧ ∀ (H' : Hp) (l : Addr) (zs : List (List Nat)), Keep p H H' → Bag H' p → H l = none → H' l = some (.lst (zs.map nS)) → zs.length = n → zs.Nodup → (∀ z ∈ zs, IsNm z) → (∀ k l, zs[k]? = some l → NmAt k l) → Q (.ref l) H'
set_option maxHeartbeats 8000000 in
theorem ok_l_names (T : Defs K mg) : FnOk P w K mg base CX0 (k + 2) T.a_l_names T.d_l_names ["_law_bag_here", "_law_many"] sp_l_names := by
  have G_l_take : FnOk P w K mg base CX0 (k + 1) _ _ _ _ := ok_l_take T
  refine T.F_l_names.ok sc_l_names (fun vs H Q E h => ?_) (fun cdv A outer s H vs Q E hr h => ?_)
  · obtain ⟨p, n, rfl, _⟩ := h
    rfl
  · obtain ⟨p, n, rfl, b, hn, q⟩ := h
    refine ⟨_, PSs.nox
(pss_cons (ps_set (i := 2) sc_l_names.nd rfl (.inr rfl) (pe_str))
    (pss_cons (ps_set (i := 3) sc_l_names.nd rfl (.inl rfl) (pe_lst pa_nil))
    (pss_cons (ps_for PassesOwn.never rfl (pi_range1 (by rfl) T.z_range (pa_cons (pv 1) pa_nil)) (pg_name (i := 4) sc_l_names.nd rfl (.inl rfl))
      (Evl.pss_cut (ps_set (i := 5) sc_l_names.nd rfl (.inl rfl) (pe_ifExp (pt_cmpR op_gt (pv 4) (pe_int) (nomark _)) (pe_int) (pe_call G_l_take hr (by rfl) T.g_l_take T.F_l_take.kp T.b_l_take .nil pass0 (pa_cons (pv 0) (pa_cons (pe_int) pa_nil)))))
      (pss_cons (ps_set (i := 6) sc_l_names.nd rfl (.inl rfl) (pe_join (pe_str) (pe_lc (own := [("_law_turn", 7)]) (g := gName 7) rfl sc_l_names.nd (pi_range1 (by rfl) T.z_range (pa_cons (pv 5) pa_nil)) (blkOk_by (N := N_l_names) (sc := defScope s_l_names) (by decide +kernel)) (fun _ _ _ _ _ => (pg_name (i := 7) sc_l_names.nd rfl (.inl rfl))) (fun _ _ _ _ _ => pts_nil) (fun _ _ _ _ _ => (pe_ix ix_str (pv 2) (pe_call G_l_take hr (by rfl) T.g_l_take T.F_l_take.kp T.b_l_take .nil pass0 (pa_cons (pv 0) (pa_cons (pe_int) pa_nil))) (fun _ _ => rfl))))))
      (pss_one (ps_expr (pe_bm PySem.F.plainAttrs_list PySem.F.slot_list_append PySem.F.type_list_append mt_append (pv 3) (pa_cons (pe_op op_add_str (pv 6) (pe_ix ix_str (pv 2) (pe_op op_mod (pv 4) (pe_int)) (fun _ _ => rfl))) pa_nil)))))))
    (pss_one (ps_ret (pv 3))))))
      , ?_⟩
    refine ⟨Nat.zero_le _, fun F nF => ?_⟩
    have nFp : F ≠ p := b.ne nF
    refine ⟨.int n, rfl, n, rfl, by omega, by omega, ?_⟩
    rw [Int.toNat_natCast]
    refine for_range (lo := 0) (n := n) (fun i σ H3 => ∃ (y4 y5 y6 : Option V) (zs : List (List Nat)), σ = [some (.ref p), some (.int n), some (.str abc), some (.ref F), y4, y5, y6, none] ∧ Keep p H H3 ∧ Bag H3 p ∧ zs.length = i ∧ (∀ k l, zs[k]? = some l → NmAt k l) ∧ H3 F = some (.lst (zs.map nS)))
      ⟨none, none, none, [], rfl, .of (same_upd nF), b.keep (same_upd nF), rfl, fun k l h => by simp at h, upd_same⟩ (fun i σ H3 hi hp => ?_) (fun σ H3 hp => ?_)
    · obtain ⟨y4, y5, y6, zs, rfl, k3, b3, hl, hz, eF⟩ := hp
      -- size
      refine ⟨fun σ H4 => ∃ sz : Nat, σ = [some (.ref p), some (.int n), some (.str abc), some (.ref F), some (.int (0 + (i : Int))), some (.int sz), y6, none] ∧ Keep p H H4 ∧ Bag H4 p ∧ H4 F = some (.lst (zs.map nS)) ∧ (i ≤ 25 → sz ≤ 6) ∧ (25 < i → sz = 7), ?_, fun σ H4 mid => ?_⟩
      · refine ⟨.int (0 + (i : Int)), rfl, _, _, rfl, rfl, _, rfl, ite2 (fun c => ?_) (fun c => ?_)⟩
        · have c := of_decide_eq_true c
          exact ⟨7, rfl, k3, b3, eF, fun _ => by omega, fun _ => rfl⟩
        · have c : ¬ 25 < 0 + (i : Int) := fun z => c (decide_eq_true z)
          refine ⟨.ref p, rfl, p, 7, rfl, b3, by decide, by decide, fun H4 d k4 b4 d0 d1 => ?_⟩
          obtain ⟨sz, rfl⟩ : ∃ sz : Nat, d = (sz : Int) := ⟨d.toNat, by omega⟩
          exact ⟨sz, rfl, k3.trans k4, b4, k4 _ _ nFp eF, fun _ => by omega, fun _ => by omega⟩
      obtain ⟨sz, rfl, k4, b4, eF, hs1, hs2⟩ := mid
      -- stem
      refine ⟨⟨_, rfl⟩, .int sz, rfl, sz, rfl, by omega, by omega, fun D nD => ?_⟩
      have nDp : D ≠ p := b4.ne nD
      have nFD : F ≠ D := ne_of_none eF nD
      rw [Int.toNat_natCast]
      refine lc_it walk_range (fun j H5 => Keep p H4 H5 ∧ Bag H5 p ∧ ∃ cs : List Nat, cs.length = j ∧ Lower cs ∧ H5 D = some (.lst (((cs.map fun c => [c]).map SX.S).map V.str))) ⟨.of (same_upd nD), b4.keep (same_upd nD), [], rfl, fun c hc => by simp at hc, upd_same⟩ (fun _ _ _ _ => trivial) (fun j x H5 H6 hj pv y => ?_) (fun H5 pv => ?_)
      · obtain ⟨rfl, rfl⟩ := y
        obtain ⟨k5, b5, cs, hcl, hcs, eD⟩ := pv
        refine ⟨rfl, yes_ ?_⟩
        refine ⟨.str abc, rfl, .ref p, rfl, p, 26, rfl, b5, by decide, by decide, fun H7 d k7 b7 d0 d1 => ?_⟩
        refine ⟨abc, d, _, rfl, rfl, by decide +kernel, abc_at d0 d1, _, k7 _ _ nDp eD, by rw [List.length_map, List.length_map, List.length_map]; exact small5000 (by omega), ?_, b7.at (upd_ne nDp.symm), cs ++ [97 + d.toNat], by rw [List.length_append, hcl]; rfl, fun c hc => ?_, by rw [upd_same, List.map_append, List.map_append, List.map_append]; rfl⟩
        · intro c o nc ec
          rw [upd_ne (fun z => by rw [z] at ec; rw [nD] at ec; cases ec)]
          exact k7 _ _ nc (k5 _ _ nc ec)
        · rcases List.mem_append.mp hc with z | z
          · exact hcs c z
          · rw [List.mem_singleton.mp z]
            omega
      obtain ⟨k5, b5, cs, hcl, hcs, eD⟩ := pv
      have eF5 := k5 _ _ nFp eF
      have k5 := k4.trans k5
      refine ⟨_, D, (cs.map fun c => [c]).map SX.S, rfl, rfl, .inl (SqL.of eD), ?_, ?_⟩
      · rw [SX.lens, List.map_map, List.length_map, List.length_map]
        have e1 : (cs.map ((fun x : List Nat => x.length) ∘ fun c => [c])).sum = cs.length := by
          clear eD hcs hcl
          induction cs with
          | nil => rfl
          | cons c cs ih => rw [List.map_cons, List.sum_cons, ih, List.length_cons]; show 1 + _ = _; omega
        rw [e1]
        show cs.length + cs.length * 0 ≤ 16777216
        omega
      have ej : Txt.join (Str.ofString "") ((cs.map fun c => [c]).map SX.S) = SX.S cs := join_signs cs
      rw [ej]
      -- found.append(stem + letters[k % 26])
      have hm0 : 0 ≤ (0 + (i : Int)) % 26 := Int.emod_nonneg _ (by decide)
      have hm1 : (0 + (i : Int)) % 26 < 26 := Int.emod_lt_of_pos _ (by decide)
      refine ⟨.ref F, rfl, .inl ⟨rfl, _, SqL.of eF5⟩, nS cs, rfl, .str abc, rfl, .int (0 + (i : Int)), rfl, _, 26, rfl, rfl, p26, abc, _, _, rfl, rfl, by decide +kernel, abc_at hm0 hm1, _, _, rfl, rfl, ?_, ?_⟩
      · rw [SX.S_len]
        show cs.length + 1 ≤ sizeLine
        exact Nat.le_of_lt (small5000 (by omega))
      have ei : ((0 + (i : Int)) % 26).toNat = i % 26 := by omega
      refine ⟨F, _, _, rfl, rfl, eF5, by rw [List.length_map, hl]; exact small5000 (by omega), ?_⟩
      refine ⟨_, _, _, zs ++ [cs ++ [97 + i % 26]], rfl, fun c o nc ec => ?_, b5.at (upd_ne nFp.symm), by rw [List.length_append, hl]; rfl, fun k l hk => ?_, ?_⟩
      · rw [upd_ne (ne_of_none ec nF)]
        exact k5 _ _ nc ec
      · by_cases hk2 : k < zs.length
        · rw [List.getElem?_append_left hk2] at hk
          exact hz k l hk
        · rw [List.getElem?_append_right (by omega)] at hk
          have ek : k = i := by
            have := (List.getElem?_eq_some_iff.mp hk).1
            simp at this
            omega
          subst ek
          rw [hl, Nat.sub_self] at hk
          have := Option.some.inj hk
          subst this
          refine ⟨⟨cs, rfl, hcs, by omega⟩, fun h => ?_, fun h => ?_⟩
          · have := hs1 h
            rw [List.length_append]
            show cs.length + 1 ≤ 7
            omega
          · have := hs2 h
            rw [List.length_append]
            show cs.length + 1 = 8
            omega
      · rw [upd_same, List.map_append]
        show some (HO.lst (zs.map nS ++ [V.str (SX.S cs ++ SX.S [97 + ((0 + (i : Int)) % 26).toNat])])) = _
        rw [SX.S_cat, ei]
        rfl
    · obtain ⟨y4, y5, y6, zs, rfl, k3, b3, hl, hz, eF⟩ := hp
      refine ⟨.ref F, rfl, q _ F zs k3 b3 nF eF hl (nm_nodup hz (by omega)) (fun z hm => ?_) hz⟩
      obtain ⟨j, hj⟩ := List.getElem?_of_mem hm
      exact (hz j z hj).nm
end
end Th
namespace Th
open PySem PySem.Spec PyProof.Rows L2
/-! drawn spots: sorted lists of lines' places -/
abbrev jV (js : List Nat) : List V := js.map fun j => V.int ((j : Nat) : Int)
/-- strictly rising, below n, two at least -/
structure Spot (n : Nat) (js : List Nat) : Prop where
  rise : js.Pairwise (· < ·)
  lt : ∀ j ∈ js, j < n
  two : 2 ≤ js.length
theorem rise_len : ∀ {js : List Nat} {lo n : Nat}, js.Pairwise (· < ·) → (∀ j ∈ js, lo ≤ j ∧ j < n) → js.length + lo ≤ n ∨ js = []
  | [], _, _, _, _ => .inr rfl
  | a :: js, lo, n, h, hb => by
    have h' := List.pairwise_cons.mp h
    have ha := hb a (List.mem_cons_self ..)
    rcases rise_len (lo := a + 1) (n := n) h'.2 (fun j hj => ⟨h'.1 j hj, (hb j (List.mem_cons_of_mem _ hj)).2⟩) with z | z
    · rw [List.length_cons]
      omega
    · rw [z]
      simp only [List.length_cons, List.length_nil]
      omega
theorem Spot.len8 {n : Nat} {js : List Nat} (s : Spot n js) (h : n ≤ 8) : js.length ≤ 8 := by
  rcases rise_len (lo := 0) s.rise (fun j hj => ⟨Nat.zero_le _, s.lt j hj⟩) with z | z
  · omega
  · rw [z]
    exact Nat.zero_le _
theorem two_of {ns : List Int} {x y : Int} (hx : x ∈ ns) (hy : y ∈ ns) (h : x ≠ y) : 2 ≤ ns.length := by
  cases ns with
  | nil => cases hx
  | cons a r =>
    cases r with
    | nil =>
      rw [List.mem_singleton] at hx hy
      exact absurd (hx.trans hy.symm) h
    | cons b r =>
      rw [List.length_cons, List.length_cons]
      omega
theorem nats_of {ns : List Int} (h : ∀ x ∈ ns, 0 ≤ x) : ns = (ns.map Int.toNat).map fun j => ((j : Nat) : Int) := by
  rw [List.map_map]
  conv => lhs; rw [← List.map_id ns]
  refine List.map_congr_left fun x hx => ?_
  have := h x hx
  show x = ((x.toNat : Nat) : Int)
  omega
theorem ints_nats {ns : List Int} (h : ∀ x ∈ ns, 0 ≤ x) : ns.map V.int = jV (ns.map Int.toNat) := by
  conv => lhs; rw [nats_of h]
  rw [List.map_map]
  rfl
/-- neighbours have one in common -/
def Chained : List (List Nat) → Prop
  | a :: b :: r => (∃ x, x ∈ a ∧ x ∈ b) ∧ Chained (b :: r)
  | _ => True
theorem Chained.snoc : ∀ {qs : List (List Nat)} {a b : List Nat}, Chained (qs ++ [a]) → (∃ x, x ∈ a ∧ x ∈ b) → Chained (qs ++ [a] ++ [b])
  | [], a, b, _, h => ⟨h, trivial⟩
  | [c], a, b, h0, h => ⟨h0.1, h, trivial⟩
  | c :: d :: qs, a, b, h0, h => ⟨h0.1, Chained.snoc (qs := d :: qs) h0.2 h⟩
/-- lists of whole numbers at addresses -/
abbrev LLs (H : Hp) : List Addr → List (List Nat) → Prop := Paired fun a js => H a = some (.lst (jV js))
theorem paired_snoc {α β : Type} {R : α → β → Prop} : ∀ {as : List α} {bs : List β} {a : α} {b : β}, Paired R as bs → R a b → Paired R (as ++ [a]) (bs ++ [b])
  | _, _, _, _, .nil, r => .cons r .nil
  | _, _, _, _, .cons q t, r => .cons q (paired_snoc t r)
theorem paired_imp {α β : Type} {R S : α → β → Prop} : ∀ {as : List α} {bs : List β}, Paired R as bs → (∀ a ∈ as, ∀ b, R a b → S a b) → Paired S as bs
  | _, _, .nil, _ => .nil
  | _, _, .cons q t, f => .cons (f _ (List.mem_cons_self ..) _ q) (paired_imp t fun a ha b r => f a (List.mem_cons_of_mem _ ha) b r)
theorem paired_get {α β : Type} {R : α → β → Prop} : ∀ {as : List α} {bs : List β} {i : Nat} {a : α}, Paired R as bs → as[i]? = some a → ∃ b, bs[i]? = some b ∧ R a b
  | _, _, _, _, .nil, h => by simp at h
  | _, _, 0, _, .cons q t, h => by
    have e := Option.some.inj h
    subst e
    exact ⟨_, rfl, q⟩
  | _, _, i + 1, _, .cons q t, h => paired_get (i := i) t h
theorem paired_len {α β : Type} {R : α → β → Prop} : ∀ {as : List α} {bs : List β}, Paired R as bs → as.length = bs.length
  | _, _, .nil => rfl
  | _, _, .cons _ t => congrArg Nat.succ (paired_len t)
section
variable {P : Program} {w : World} {K : PySem.W.Frag} {mg : Str → Option Value} {base : Heap} {k : Nat}
def sp_l_spots : Sp := fun vs H Q _ => ∃ (p : Addr) (n m : Nat), vs = [.ref p, .int n, .int m] ∧ Bag H p ∧ 2 ≤ n ∧ n ≤ 8 ∧ 1 ≤ m ∧ m ≤ 12 ∧
  ∀ (H' : Hp) (l : Addr) (as : List Addr) (qs : List (List Nat)), Keep p H H' → Bag H' p → H l = none → H' l = some (.lst (as.map V.ref)) → qs.length = m → LLs H' as qs → (∀ a ∈ as, H a = none ∧ a ≠ l ∧ a ≠ p) → (∀ js ∈ qs, Spot n js) → Chained qs → Q (.ref l) H'
set_option maxHeartbeats 8000000 in
theorem ok_l_spots (T : Defs K mg) : FnOk P w K mg base CX0 (k + 2) T.a_l_spots T.d_l_spots ["_law_bag_here", "_law_many", "_law_junctions"] sp_l_spots := by
  have G_l_take : FnOk P w K mg base CX0 (k + 1) _ _ _ _ := ok_l_take T
  refine T.F_l_spots.ok sc_l_spots (fun vs H Q E h => ?_) (fun cdv A outer s H vs Q E hr h => ?_)
  · obtain ⟨p, n, m, rfl, _⟩ := h
    rfl
  · obtain ⟨p, n, m, rfl, b, n2, n8, m1, m12, q⟩ := h
    refine ⟨_, PSs.nox
(pss_cons (ps_set (i := 3) sc_l_spots.nd rfl (.inl rfl) (pe_lst pa_nil))
    (pss_cons (ps_set (i := 4) sc_l_spots.nd rfl (.inl rfl) (pe_call G_l_take hr (by rfl) T.g_l_take T.F_l_take.kp T.b_l_take .nil pass0 (pa_cons (pv 0) (pa_cons (pv 1) pa_nil))))
    (pss_cons (ps_for PassesOwn.never rfl (pi_range1 (by rfl) T.z_range (pa_cons (pv 2) pa_nil)) (pg_name (i := 5) sc_l_spots.nd rfl (.inl rfl))
      (pss_cons (ps_set (i := 6) sc_l_spots.nd rfl (.inl rfl) (pe_lst (pa_cons (pv 4) (pa_cons (pe_op op_mod (pe_op op_add (pe_op op_add (pv 4) (pe_int)) (pe_call G_l_take hr (by rfl) T.g_l_take T.F_l_take.kp T.b_l_take .nil pass0 (pa_cons (pv 0) (pa_cons (pe_op op_sub (pv 1) (pe_int)) pa_nil)))) (pv 1)) pa_nil))))
      (pss_cons (ps_for PassesOwn.never rfl (pi_range1 (by rfl) T.z_range (pa_cons (pe_op op_fdiv (pe_call G_l_take hr (by rfl) T.g_l_take T.F_l_take.kp T.b_l_take .nil pass0 (pa_cons (pv 0) (pa_cons (pe_int) pa_nil))) (pe_int)) pa_nil)) (pg_name (i := 7) sc_l_spots.nd rfl (.inl rfl))
        (pss_one (ps_expr (pe_bm PySem.F.plainAttrs_list PySem.F.slot_list_append PySem.F.type_list_append mt_append (pv 6) (pa_cons (pe_call G_l_take hr (by rfl) T.g_l_take T.F_l_take.kp T.b_l_take .nil pass0 (pa_cons (pv 0) (pa_cons (pv 1) pa_nil))) pa_nil)))))
      (pss_cons (ps_expr (pe_bm PySem.F.plainAttrs_list PySem.F.slot_list_append PySem.F.type_list_append mt_append (pv 3) (pa_cons (pe_callB (cr_sortedSet rfl) (by rfl) T.z_sorted (by decide +kernel) (pa_cons (pe_callTy (Sl.call_setI rfl) (by rfl) T.z_set (by decide +kernel) (pa_cons (pv 6) pa_nil)) pa_nil)) pa_nil)))
      (pss_one (ps_set (i := 4) sc_l_spots.nd rfl (.inl rfl) (pe_ix (r := rIxL K) ix_list (pe_ix (r := rIxL K) ix_list (pv 3) (pe_un un_neg (pe_int)) (fun _ _ => rfl)) (pe_call G_l_take hr (by rfl) T.g_l_take T.F_l_take.kp T.b_l_take .nil pass0 (pa_cons (pv 0) (pa_cons (pe_callB (r := rLenS K) call_lenS (by rfl) T.z_len (by decide +kernel) (pa_cons (pe_ix (r := rIxL K) ix_list (pv 3) (pe_un un_neg (pe_int)) (fun _ _ => rfl)) pa_nil)) pa_nil))) (fun _ _ => rfl))))))))
    (pss_one (ps_ret (pv 3))))))
      , ?_⟩
    refine ⟨Nat.zero_le _, fun F nF => ?_⟩
    have nFp : F ≠ p := b.ne nF
    -- here
    refine ⟨.ref p, rfl, .int n, rfl, p, n, rfl, b.keep (same_upd nF), by omega, by omega, fun H2 h0 k2 b2 h00 h01 => ?_⟩
    have eF2 : H2 F = some (.lst (([] : List Addr).map V.ref)) := k2 _ _ nFp upd_same
    have k2 : Keep p H H2 := (Keep.of (same_upd nF)).trans k2
    refine ⟨.int m, rfl, m, rfl, by omega, by omega, ?_⟩
    rw [Int.toNat_natCast]
    refine for_range (lo := 0) (n := m) (fun i σ H3 => ∃ (hh : Nat) (y5 y6 y7 : Option V) (as : List Addr) (qs : List (List Nat)), σ = [some (.ref p), some (.int n), some (.int m), some (.ref F), some (.int hh), y5, y6, y7] ∧ hh < n ∧ Keep p H H3 ∧ Bag H3 p ∧ H3 F = some (.lst (as.map V.ref)) ∧ qs.length = i ∧ LLs H3 as qs ∧ (∀ a ∈ as, H a = none ∧ a ≠ F ∧ a ≠ p) ∧ (∀ js ∈ qs, Spot n js) ∧ Chained qs ∧ (∀ js, qs.getLast? = some js → hh ∈ js))
      ⟨h0.toNat, none, none, none, [], [], by rw [show ((h0.toNat : Nat) : Int) = h0 by omega]; rfl, by omega, k2, b2, eF2, rfl, .nil, fun a ha => by simp at ha, fun a ha => by simp at ha, trivial, fun js h => by simp at h⟩ (fun i σ H3 hi hp => ?_) (fun σ H3 hp => ?_)
    · obtain ⟨hh, y5, y6, y7, as, qs, rfl, hh1, k3, b3, eF, hq, hL, hfr, hsp, hch, hlast⟩ := hp
      -- some = [here, (here + 1 + take(bag, many - 1)) % many]
      refine ⟨.int hh, rfl, .int hh, rfl, hh, 1, rfl, rfl, .ref p, rfl, .int n, rfl, n, 1, rfl, rfl, p, (n : Int) - 1, rfl, b3, by omega, by omega, fun H4 d k4 b4 d0 d1 => ?_⟩
      refine ⟨_, d, rfl, rfl, .int n, rfl, _, n, rfl, rfl, by omega, by show 2 ≤ sizeLine; decide, fun S nS => ?_⟩
      have nSp : S ≠ p := b4.ne nS
      have r0 : 0 ≤ ((hh : Int) + 1 + d) % (n : Int) := Int.emod_nonneg _ (by omega)
      have r1 : ((hh : Int) + 1 + d) % (n : Int) < n := Int.emod_lt_of_pos _ (by omega)
      have ne2 : (hh : Int) ≠ ((hh : Int) + 1 + d) % (n : Int) := by
        by_cases c : (hh : Int) + 1 + d < n
        · rw [Int.emod_eq_of_lt (by omega) c]
          omega
        · rw [← Int.sub_emod_right, Int.emod_eq_of_lt (by omega) (by omega)]
          omega
      dsimp only
      generalize ((hh : Int) + 1 + d) % (n : Int) = x2 at r0 r1 ne2 ⊢
      have eF4 : (upd H4 S (.lst [.int hh, .int x2])) F = some (.lst (as.map V.ref)) := same_upd nS _ _ (k4 _ _ nFp eF)
      have nFS : F ≠ S := ne_of_none (k4 _ _ nFp eF) nS
      have nHS : H S = none := k3.free b (k4.free b3 nS b4) b3
      -- for turn in range(take(bag, 4) // 2)
      refine ⟨.ref p, rfl, p, 4, rfl, b4.keep (same_upd nS), by decide, by decide, fun H5 d5 k5 b5 d50 d51 => ?_⟩
      have eS5 : H5 S = some (.lst (([(hh : Int), x2] : List Int).map V.int)) := k5 _ _ nSp upd_same
      have eF5 := k5 _ _ nFp eF4
      have k5 : Keep p H3 H5 := k4.trans ((Keep.of (same_upd nS)).trans k5)
      refine ⟨d5, 2, rfl, rfl, ⟨by decide, by decide⟩, _, rfl, by omega, by omega, ?_⟩
      refine for_range (lo := 0) (n := (d5 / 2).toNat) (fun j σ H6 => ∃ (y7 : Option V) (xs : List Int), σ = [some (.ref p), some (.int n), some (.int m), some (.ref F), some (.int hh), some (.int (0 + (i : Int))), some (.ref S), y7] ∧ Keep p H3 H6 ∧ Bag H6 p ∧ H6 F = some (.lst (as.map V.ref)) ∧ xs.length = 2 + j ∧ (∀ x ∈ xs, 0 ≤ x ∧ x < n) ∧ (hh : Int) ∈ xs ∧ x2 ∈ xs ∧ H6 S = some (.lst (xs.map V.int)))
        ⟨_, [(hh : Int), x2], rfl, k5, b5, eF5, rfl, fun x hx => by
          simp only [List.mem_cons, List.not_mem_nil, or_false] at hx
          omega, by simp, by simp, eS5⟩ (fun j σ H6 hj hp => ?_) (fun σ H6 hp => ?_)
      · obtain ⟨y7, xs, rfl, k6, b6, eF6, hxl, hx, hm1, hm2, eS6⟩ := hp
        refine ⟨.ref S, rfl, .inl ⟨rfl, _, SqL.of eS6⟩, .ref p, rfl, .int n, rfl, p, n, rfl, b6, by omega, by omega, fun H7 d7 k7 b7 d70 d71 => ?_⟩
        refine ⟨S, _, _, rfl, rfl, k7 _ _ nSp eS6, by rw [List.length_map, hxl]; exact small5000 (by omega), ?_⟩
        refine ⟨_, xs ++ [d7], rfl, fun c o nc ec => ?_, b7.at (upd_ne nSp.symm), by rw [upd_ne nFS]; exact k7 _ _ nFp eF6, by rw [List.length_append, hxl]; rfl, fun x hx' => ?_, List.mem_append_left _ hm1, List.mem_append_left _ hm2, by rw [upd_same, List.map_append]; rfl⟩
        · have nS3 : H3 S = none := k4.free b3 nS b4
          rw [upd_ne (ne_of_none ec nS3)]
          exact k7 _ _ nc (k6 _ _ nc ec)
        · rcases List.mem_append.mp hx' with z | z
          · exact hx x z
          · rw [List.mem_singleton.mp z]
            exact ⟨d70, d71⟩
      obtain ⟨y7, xs, rfl, k6, b6, eF6, hxl, hx, hm1, hm2, eS6⟩ := hp
      -- found.append(sorted(set(some)))
      refine ⟨.ref F, rfl, .inl ⟨rfl, _, SqL.of eF6⟩, .ref S, rfl, S, xs, rfl, SqL.of eS6, by omega, fun se c nse hc => ?_⟩
      refine ⟨se, _, c, rfl, upd_same, by omega, fun ns so pw mem len nso => ?_⟩
      have s7 : Same H6 (upd (upd H6 se (SetO w se (fun j => decide (j ∈ xs)) c)) so (.lst (ns.map V.int))) := (same_upd nse).trans (same_upd nso)
      have memx : ∀ x, x ∈ ns ↔ x ∈ xs := fun x => (mem x).trans decide_eq_true_iff
      have hns : ∀ x ∈ ns, 0 ≤ x ∧ x < n := fun x h => hx x ((memx x).mp h)
      have h2 : 2 ≤ ns.length := two_of ((memx _).mpr hm1) ((memx _).mpr hm2) ne2
      have eso : (upd (upd H6 se (SetO w se (fun j => decide (j ∈ xs)) c)) so (.lst (ns.map V.int))) so = some (.lst (jV (ns.map Int.toNat))) := by
        rw [upd_same, ints_nats fun x h => (hns x h).1]
      have nso6 : H6 so = none := (same_upd nse).free nso
      have nsop : so ≠ p := b6.ne nso6
      have nsoF : so ≠ F := (ne_of_none eF6 nso6).symm
      have k7 : Keep p H3 _ := k6.trans (.of s7)
      have b7 := b6.keep s7
      have eF7 := s7 _ _ eF6
      refine ⟨F, _, _, rfl, rfl, eF7, by rw [List.length_map, paired_len hL, hq]; exact small5000 (by omega), ?_⟩
      have spot : Spot n (ns.map Int.toNat) := by
        refine ⟨?_, fun j hj => ?_, by rw [List.length_map]; exact h2⟩
        · rw [List.pairwise_map]
          refine List.Pairwise.imp_of_mem ?_ pw
          intro a b ha hb hab
          have := hns a ha
          have := hns b hb
          omega
        · obtain ⟨x, hx', rfl⟩ := List.mem_map.mp hj
          have := hns x hx'
          omega
      have inH : hh ∈ ns.map Int.toNat := List.mem_map.mpr ⟨(hh : Int), (memx _).mpr hm1, by omega⟩
      have hjl : (ns.map Int.toNat).length ≤ 8 := by rw [List.length_map]; omega
      generalize ns.map Int.toNat = js at eso spot inH hjl
      obtain ⟨H7, hH7⟩ : ∃ X, X = upd (upd H6 se (SetO w se (fun j => decide (j ∈ xs)) c)) so (.lst (ns.map V.int)) := ⟨_, rfl⟩
      rw [← hH7] at s7 eso k7 b7 eF7
      -- here = found[-1][take(bag, len(found[-1]))]
      have eF8 : (upd H7 F (.lst (as.map V.ref ++ [.ref so]))) F = some (.lst ((as ++ [so]).map V.ref)) := by
        rw [upd_same, List.map_append]
        rfl
      have eso8 : (upd H7 F (.lst (as.map V.ref ++ [.ref so]))) so = some (.lst (jV js)) := by rw [upd_ne nsoF]; exact eso
      have b8 : Bag (upd H7 F (.lst (as.map V.ref ++ [.ref so]))) p := b7.at (upd_ne nFp.symm)
      have k8 : Keep p H (upd H7 F (.lst (as.map V.ref ++ [.ref so]))) := fun c o nc ec => by
        rw [upd_ne (ne_of_none ec nF)]
        exact k7 _ _ nc (k3 _ _ nc ec)
      have o8 : ∀ a o, a ≠ F → a ≠ p → H3 a = some o → (upd H7 F (.lst (as.map V.ref ++ [.ref so]))) a = some o := fun a o n1 n2 e => by
        rw [upd_ne n1]
        exact k7 _ _ n2 e
      subst hH7
      have lastR : atI ((as ++ [so]).map V.ref) (-1) = some (.ref so) := by
        rw [List.map_append]
        exact atI_last _ _
      refine ⟨.ref F, rfl, 1, rfl, F, _, -1, .ref so, rfl, rfl, SqL.of eF8, lastR, .ref p, rfl, .ref F, rfl, 1, rfl, F, _, -1, .ref so, rfl, rfl, SqL.of eF8, lastR, so, jV js, rfl, .inl (SqL.of eso8), p, js.length, by rw [List.length_map]; rfl, b8, by have := spot.two; omega, by omega, fun H9 d9 k9 b9 d90 d91 => ?_⟩
      obtain ⟨jj, rfl⟩ : ∃ jj : Nat, d9 = (jj : Int) := ⟨d9.toNat, by omega⟩
      have hjj : jj < js.length := by omega
      have gj : (jV js)[jj]? = some (.int (js[jj] : Nat)) := by
        rw [List.getElem?_map, List.getElem?_eq_getElem hjj]
        rfl
      refine ⟨so, _, (jj : Int), _, rfl, rfl, SqL.of (k9 _ _ nsop eso8), atI_nat gj, ?_⟩
      have nFp' := nFp
      refine ⟨js[jj], _, _, _, as ++ [so], qs ++ [js], rfl, spot.lt _ (List.getElem_mem hjj), k8.trans k9, b9, k9 _ _ nFp eF8, by rw [List.length_append, hq]; rfl, ?_, fun a ha => ?_, fun x hx => ?_, ?_, fun x hx => ?_⟩
      · refine paired_snoc (paired_imp hL fun a ha x e => ?_) (k9 _ _ nsop eso8)
        obtain ⟨_, f1, f2⟩ := hfr a ha
        exact k9 _ _ f2 (o8 _ _ f1 f2 e)
      · rcases List.mem_append.mp ha with z | z
        · exact hfr a z
        · rw [List.mem_singleton.mp z]
          exact ⟨k3.free b (k6.free b3 nso6 b6) b3, nsoF, nsop⟩
      · rcases List.mem_append.mp hx with z | z
        · exact hsp x z
        · rw [List.mem_singleton.mp z]
          exact spot
      · cases hqs : qs.getLast? with
        | none =>
          rw [List.getLast?_eq_none_iff] at hqs
          rw [hqs]
          exact trivial
        | some z =>
          obtain ⟨q0, rfl⟩ := List.getLast?_eq_some_iff.mp hqs
          exact Chained.snoc hch ⟨hh, hlast z hqs, inH⟩
      · rw [List.getLast?_concat] at hx
        rw [← Option.some.inj hx]
        exact List.getElem_mem hjj
    · obtain ⟨hh, y5, y6, y7, as, qs, rfl, hh1, k3, b3, eF, hq, hL, hfr, hsp, hch, hlast⟩ := hp
      exact ⟨.ref F, rfl, q _ F as qs k3 b3 nF eF hq hL hfr hsp hch⟩
end
end Th
namespace Th
open PySem PySem.Spec PyProof.Rows L2
/-! drawn places -/
theorem one_sz {x : V} : [x].length ≤ sizeLine := by show 1 ≤ sizeLine; decide
theorem paired_append {α β : Type} {R : α → β → Prop} : ∀ {as cs : List α} {bs ds : List β}, Paired R as bs → Paired R cs ds → Paired R (as ++ cs) (bs ++ ds)
  | _, _, _, _, .nil, h => h
  | _, _, _, _, .cons q t, h => .cons q (paired_append t h)
theorem paired_take {α β : Type} {R : α → β → Prop} : ∀ {as : List α} {bs : List β} (n : Nat), Paired R as bs → Paired R (as.take n) (bs.take n)
  | _, _, 0, _ => by rw [List.take_zero, List.take_zero]; exact .nil
  | _, _, n + 1, .nil => .nil
  | _, _, n + 1, .cons q t => .cons q (paired_take n t)
theorem cut_to (xs : List V) (j : Nat) : cutV xs none (some (j : Int)) = xs.take j := by
  unfold cutV
  rw [HT.sIx_none, HT.sIx_nat, List.drop_zero, Nat.sub_zero]
  by_cases h : j ≤ xs.length
  · rw [Nat.min_eq_left h]
  · rw [Nat.min_eq_right (by omega), List.take_of_length_le (Nat.le_refl _), List.take_of_length_le (by omega)]
theorem Chained.ends {f l : Nat} {ss : List (List Nat)} {a b : List Nat} (hc : Chained ss) (ha : ss.head? = some a) (hb : ss.getLast? = some b) (hf : f ∈ a) (hl : l ∈ b) : Chained (([f] :: ss) ++ [[l]]) := by
  have h1 : Chained ([f] :: ss) := by
    cases ss with
    | nil => cases ha
    | cons c r =>
      have := Option.some.inj ha
      subst this
      exact ⟨⟨f, by simp, hf⟩, hc⟩
  obtain ⟨q0, rfl⟩ := List.getLast?_eq_some_iff.mp hb
  exact Chained.snoc (qs := [f] :: q0) h1 ⟨l, hl, by simp⟩
/-- what is known of the lines by their numbers, place by place -/
structure PlQ (n J : Nat) (qs : List (List Nat)) : Prop where
  form : ∃ (f l : Nat) (ss : List (List Nat)) (tw : List Nat), qs = (([f] :: ss) ++ [[l]]) ++ tw.map (fun x => [x]) ∧ ss.length = J ∧ (∀ js ∈ ss, Spot n js) ∧ f < n ∧ l < n ∧ (∀ x ∈ tw, x < n) ∧ Chained (([f] :: ss) ++ [[l]]) ∧ tw.length ≤ 14
  most : J ≤ 12
theorem PlQ.len {n J : Nat} {qs : List (List Nat)} (h : PlQ n J qs) : J + 2 ≤ qs.length ∧ qs.length ≤ 28 := by
  obtain ⟨f, l, ss, tw, rfl, h1, _, _, _, _, _, h2⟩ := h.form
  have := h.most
  simp only [List.length_append, List.length_cons, List.length_map, List.length_nil]
  omega
/-- a list of pairs of a name and a list of numbers -/
structure PlAt (p : Addr) (H : Hp) (l : Addr) (ts : List Addr) (zs : List (List Nat)) (as : List Addr) (qs : List (List Nat)) : Prop where
  lst : H l = some (.lst (ts.map V.ref))
  tup : Lz.Tups H ts ((zs.map nS).zip (as.map V.ref))
  ll : LLs H as qs
  lz : zs.length = qs.length
  lt : ts.length = qs.length
  np : l ≠ p ∧ (∀ t ∈ ts, t ≠ p) ∧ ∀ a ∈ as, a ≠ p
theorem PlAt.keep {p : Addr} {H H' : Hp} {l : Addr} {ts as : List Addr} {zs qs : List (List Nat)} (h : PlAt p H l ts zs as qs) (k : Keep p H H') : PlAt p H' l ts zs as qs :=
  ⟨k _ _ h.np.1 h.lst, paired_imp h.tup fun t ht q e => k _ _ (h.np.2.1 t ht) e, paired_imp h.ll fun a ha q e => k _ _ (h.np.2.2 a ha) e, h.lz, h.lt, h.np⟩
section
variable {P : Program} {w : World} {K : PySem.W.Frag} {mg : Str → Option Value} {base : Heap} {k : Nat}
def sp_l_places : Sp := fun vs H Q _ => ∃ (p : Addr) (n : Nat), vs = [.ref p, .int n] ∧ Bag H p ∧ 1 ≤ n ∧ n ≤ 8 ∧
  ∀ (H' : Hp) (l : Addr) (ts as : List Addr) (zs qs : List (List Nat)) (J : Nat), Keep p H H' → Bag H' p → PlAt p H' l ts zs as qs → PlQ n J qs → zs.Nodup → (∀ z ∈ zs, IsNm z) → (∀ k l, zs[k]? = some l → NmAt k l) → H l = none → (∀ t ∈ ts, H t = none) → (∀ a ∈ as, H a = none) → Q (.ref l) H'
set_option maxHeartbeats 8000000 in
theorem ok_l_places (T : Defs K mg) : FnOk P w K mg base CX0 (k + 3) T.a_l_places T.d_l_places ["_law_bag_here", "_law_many"] sp_l_places := by
  have G_l_take : FnOk P w K mg base CX0 (k + 2) _ _ _ _ := ok_l_take (k := k + 1) T
  have G_l_names : FnOk P w K mg base CX0 (k + 2) _ _ _ _ := ok_l_names T
  have G_l_spots : FnOk P w K mg base CX0 (k + 2) _ _ _ _ := ok_l_spots T
  refine T.F_l_places.ok sc_l_places (fun vs H Q E h => ?_) (fun cdv A outer s H vs Q E hr h => ?_)
  · obtain ⟨p, n, rfl, _⟩ := h
    rfl
  · obtain ⟨p, n, rfl, b, n1, n8, q⟩ := h
    refine ⟨_, PSs.nox
(pss_cons (ps_set (i := 2) sc_l_places.nd rfl (.inl rfl) (pe_op op_mul (pe_ix (r := rIxT K) ix_tup (pe_tup (pa_cons (pe_int) (pa_cons (pe_int) (pa_cons (pe_int) (pa_cons (pe_int) (pa_cons (pe_int) (pa_cons (pe_int) pa_nil))))))) (pe_call G_l_take hr (by rfl) T.g_l_take T.F_l_take.kp T.b_l_take .nil pass0 (pa_cons (pv 0) (pa_cons (pe_int) pa_nil))) (fun _ _ => rfl)) (pe_callTy call_int1 (by rfl) T.z_int (by decide +kernel) (pa_cons (pe_cmpR op_gt (pv 1) (pe_int) (nomark _)) pa_nil))))
    (pss_cons (ps_set (i := 3) sc_l_places.nd rfl (.inl rfl) (pe_call G_l_take hr (by rfl) T.g_l_take T.F_l_take.kp T.b_l_take .nil pass0 (pa_cons (pv 0) (pa_cons (pe_int) pa_nil))))
    (pss_cons (ps_set (i := 4) sc_l_places.nd rfl (.inl rfl) (pe_call G_l_names hr (by rfl) T.g_l_names T.F_l_names.kp T.b_l_names .nil pass0 (pa_cons (pv 0) (pa_cons (pe_op op_add (pe_op op_add (pv 2) (pe_int)) (pv 3)) pa_nil))))
    (Evl.pss_cut (ps_set (i := 5) sc_l_places.nd rfl (.inl rfl) (pe_ifExp (pt_cmpR op_gt (pv 2) (pe_int) (nomark _)) (pe_call G_l_spots hr (by rfl) T.g_l_spots T.F_l_spots.kp T.b_l_spots .nil pass0 (pa_cons (pv 0) (pa_cons (pv 1) (pa_cons (pv 2) pa_nil)))) (pe_lst (pa_cons (pe_lst (pa_cons (pe_call G_l_take hr (by rfl) T.g_l_take T.F_l_take.kp T.b_l_take .nil pass0 (pa_cons (pv 0) (pa_cons (pv 1) pa_nil))) pa_nil)) pa_nil))))
    (pss_cons (ps_set (i := 6) sc_l_places.nd rfl (.inl rfl) (pe_lst (pa_cons (pe_ix (r := rIxL K) ix_list (pe_ix (r := rIxL K) ix_list (pv 5) (pe_int) (fun _ _ => rfl)) (pe_call G_l_take hr (by rfl) T.g_l_take T.F_l_take.kp T.b_l_take .nil pass0 (pa_cons (pv 0) (pa_cons (pe_callB (r := rLenS K) call_lenS (by rfl) T.z_len (by decide +kernel) (pa_cons (pe_ix (r := rIxL K) ix_list (pv 5) (pe_int) (fun _ _ => rfl)) pa_nil)) pa_nil))) (fun _ _ => rfl)) pa_nil)))
    (pss_cons (ps_set (i := 7) sc_l_places.nd rfl (.inl rfl) (pe_lst (pa_cons (pe_ix (r := rIxL K) ix_list (pe_ix (r := rIxL K) ix_list (pv 5) (pe_un un_neg (pe_int)) (fun _ _ => rfl)) (pe_call G_l_take hr (by rfl) T.g_l_take T.F_l_take.kp T.b_l_take .nil pass0 (pa_cons (pv 0) (pa_cons (pe_callB (r := rLenS K) call_lenS (by rfl) T.z_len (by decide +kernel) (pa_cons (pe_ix (r := rIxL K) ix_list (pv 5) (pe_un un_neg (pe_int)) (fun _ _ => rfl)) pa_nil)) pa_nil))) (fun _ _ => rfl)) pa_nil)))
    (pss_cons (ps_setLc (i := 8) (own := [("_law_k", 9)]) (g := gName 9) rfl sc_l_places.nd rfl rfl (sw_true rfl rfl rfl (by decide +kernel)) (pi_range1 (by rfl) T.z_range (pa_cons (pv 3) pa_nil)) (blkOk_by (N := N_l_places) (sc := defScope s_l_places) (by decide +kernel)) (fun _ _ _ _ _ => (pg_name (i := 9) sc_l_places.nd rfl (.inl rfl))) (fun _ _ _ _ _ => pts_nil) (fun _ _ _ _ _ => (pe_lst (pa_cons (pe_call G_l_take hr (by rfl) T.g_l_take T.F_l_take.kp T.b_l_take .nil pass0 (pa_cons (pv 0) (pa_cons (pv 1) pa_nil))) pa_nil))))
    (pss_one (ps_ret (Lz.pe_listZip rfl (by rfl) T.z_list (by rfl) T.z_zip (pa_cons (pv 4) (pa_cons (pe_op op_cat (pe_op op_cat (pe_op op_cat (pe_lst (pa_cons (pv 6) pa_nil)) (pe_slice sl_list (pv 5) po_none (po_some (pv 2)))) (pe_lst (pa_cons (pv 7) pa_nil))) (pv 8)) pa_nil))))))))))))
      , ?_⟩
    -- junctions
    refine ⟨by decide, fun t nt => ?_⟩
    have ntp : t ≠ p := b.ne nt
    refine ⟨.ref p, rfl, p, 6, rfl, b.keep (same_upd nt), by decide, by decide, fun H1 d k1 b1 d0 d1 => ?_⟩
    obtain ⟨m0, hm0, em0⟩ := pick (ms := [1, 12, 4, 7, 2, 0]) d0 d1
    refine ⟨t, _, d, _, rfl, rfl, SqT.of (k1 _ _ ntp upd_same), em0, ?_⟩
    have k1 : Keep p H H1 := (Keep.of (same_upd nt)).trans k1
    have hm : 0 ≤ m0 ∧ m0 ≤ 12 := by
      simp only [List.mem_cons, List.not_mem_nil, or_false] at hm0
      omega
    refine ⟨.int n, rfl, n, 1, rfl, rfl, .inr ⟨_, rfl, m0, _, rfl, rfl, .inl ⟨by omega, by omega⟩, ?_⟩⟩
    obtain ⟨J, hJ⟩ : ∃ J : Nat, m0 * (if decide ((1 : Int) < (n : Int)) then 1 else 0) = (J : Int) ∧ J ≤ 12 ∧ (0 < J → 2 ≤ n) := by
      by_cases c : (1 : Int) < n
      · rw [if_pos (decide_eq_true c)]
        exact ⟨m0.toNat, by omega, by omega, fun _ => by omega⟩
      · rw [if_neg (fun z => c (of_decide_eq_true z))]
        exact ⟨0, by omega, by omega, fun z => absurd z (Nat.lt_irrefl _)⟩
    obtain ⟨eJ, J12, J2⟩ := hJ
    dsimp only
    rw [eJ]
    -- more
    refine ⟨.ref p, rfl, p, 15, rfl, b1, by decide, by decide, fun H2 mo k2 b2 mo0 mo1 => ?_⟩
    obtain ⟨m, rfl⟩ : ∃ m : Nat, mo = (m : Int) := ⟨mo.toNat, by omega⟩
    have k2 := k1.trans k2
    -- names
    refine ⟨.ref p, rfl, .int J, rfl, J, 2, rfl, rfl, .int m, rfl, _, m, rfl, rfl, p, J + 2 + m, by dsimp only; rw [show ((J : Int) + 2 + (m : Int)) = ((J + 2 + m : Nat) : Int) by omega]; rfl, b2, by omega, fun H3 nl zs k3 b3 nnl enl hzs nd nms nat => ?_⟩
    have nnl0 : H nl = none := k2.free b nnl b2
    have nlp : nl ≠ p := b2.ne nnl
    have k3 := k2.trans k3
    -- spots
    refine ⟨fun σ H4 => ∃ (sp : Addr) (as : List Addr) (qs : List (List Nat)), σ = [some (.ref p), some (.int n), some (.int J), some (.int m), some (.ref nl), some (.ref sp), none, none, none, none] ∧ Keep p H3 H4 ∧ Bag H4 p ∧ H3 sp = none ∧ H4 sp = some (.lst (as.map V.ref)) ∧ LLs H4 as qs ∧ (∀ a ∈ as, H3 a = none ∧ a ≠ sp ∧ a ≠ p) ∧ 1 ≤ qs.length ∧ Chained qs ∧ (∀ js ∈ qs, (∀ j ∈ js, j < n) ∧ 1 ≤ js.length ∧ js.length ≤ 8) ∧ (0 < J → qs.length = J ∧ ∀ js ∈ qs, Spot n js) ∧ (J = 0 → ∃ x, qs = [[x]]), ?_, fun σ H4 mid => ?_⟩
    · refine ⟨.int J, rfl, _, _, rfl, rfl, _, rfl, ite2 (fun c => ?_) (fun c => ?_)⟩
      · have c := of_decide_eq_true c
        refine ⟨.ref p, rfl, .int n, rfl, .int J, rfl, p, n, J, rfl, b3, J2 (by omega), n8, by omega, J12, fun H4 sp as qs k4 b4 nsp esp hql hL hfr hsp hch => ?_⟩
        refine ⟨sp, as, qs, rfl, k4, b4, nsp, esp, hL, hfr, by omega, hch, fun js hj => ?_, fun _ => ⟨hql, hsp⟩, fun z => by omega⟩
        have s := hsp js hj
        exact ⟨s.lt, by have := s.two; omega, Spot.len8 s n8⟩
      · have c : ¬ (0 : Int) < (J : Int) := fun z => c (decide_eq_true z)
        refine ⟨.ref p, rfl, .int n, rfl, p, n, rfl, b3, by omega, by omega, fun H4 x k4 b4 x0 x1 => ?_⟩
        refine ⟨one_sz, fun a na => ⟨one_sz, fun sp nsp => ?_⟩⟩
        obtain ⟨x, rfl⟩ : ∃ j : Nat, x = (j : Int) := ⟨x.toNat, by omega⟩
        have nsp4 : H4 sp = none := (same_upd na).free nsp
        have nap : a ≠ p := b4.ne na
        have nspp : sp ≠ p := b4.ne nsp4
        have nas : a ≠ sp := fun z => by rw [← z, upd_same] at nsp; cases nsp
        refine ⟨sp, [a], [[x]], rfl, k4.trans (.of ((same_upd na).trans (same_upd nsp))), b4.keep ((same_upd na).trans (same_upd nsp)), k4.free b3 nsp4 b4, upd_same, .cons (by rw [upd_ne nas, upd_same]; rfl) .nil, fun c hc => ?_, by simp, trivial, fun js hj => ?_, fun z => by omega, fun _ => ⟨x, rfl⟩⟩
        · rw [List.mem_singleton.mp hc]
          exact ⟨k4.free b3 na b4, nas, nap⟩
        · rw [List.mem_singleton.mp hj]
          exact ⟨fun j hj => by rw [List.mem_singleton.mp hj]; omega, by simp, by simp⟩
    obtain ⟨sp, as, qs, rfl, k4, b4, nsp, esp, hL, hfr, hq1, hch, hqa, hJ0, hJ1⟩ := mid
    have nspp : sp ≠ p := b3.ne nsp
    have hal := paired_len hL
    obtain ⟨a0, qa, ha0, hqa0, ea0, h00⟩ : ∃ a0 qa, as[0]? = some a0 ∧ qs[0]? = some qa ∧ H4 a0 = some (.lst (jV qa)) ∧ qs.head? = some qa := by
      have h : 0 < as.length := by omega
      obtain ⟨qa, e1, e2⟩ := paired_get hL (List.getElem?_eq_getElem h)
      exact ⟨as[0], qa, List.getElem?_eq_getElem h, e1, e2, by rw [List.head?_eq_getElem?]; exact e1⟩
    obtain ⟨az, qz, haz, hqz, eaz, hzz⟩ : ∃ az qz, atI (as.map V.ref) (-1) = some (.ref az) ∧ qz ∈ qs ∧ H4 az = some (.lst (jV qz)) ∧ qs.getLast? = some qz := by
      have h : as.length - 1 < as.length := by omega
      obtain ⟨qz, e1, e2⟩ := paired_get hL (List.getElem?_eq_getElem h)
      have eas : as = as.take (as.length - 1) ++ [as[as.length - 1]] := by
        rw [List.take_append_getElem, List.take_of_length_le (by omega)]
      refine ⟨as[as.length - 1], qz, ?_, List.mem_of_getElem? e1, e2, by rw [List.getLast?_eq_getElem?, ← hal]; exact e1⟩
      conv => lhs; rw [eas]
      rw [List.map_append]
      exact atI_last _ _
    have m0' : a0 ∈ as := List.mem_of_getElem? ha0
    have q0m := hqa qa (List.mem_of_getElem? hqa0)
    have qzm := hqa qz hqz
    have a0p : a0 ≠ p := (hfr a0 m0').2.2
    have azp : az ≠ p := fun z => by
      obtain ⟨g, r, e, _⟩ := b4
      obtain ⟨j, hj⟩ := atI_get haz
      have hj := hj.2.1
      rw [List.getElem?_map] at hj
      cases hx : as[j]? with
      | none => rw [hx] at hj; cases hj
      | some y =>
        rw [hx] at hj
        have ey := V.ref.inj (Option.some.inj hj)
        exact (hfr y (List.mem_of_getElem? hx)).2.2 (ey.trans z)
    -- first
    have i0 : atI (as.map V.ref) 0 = some (.ref a0) := atI_nat (j := 0) (by rw [List.getElem?_map, ha0]; rfl)
    refine ⟨.ref sp, rfl, sp, _, 0, .ref a0, rfl, rfl, SqL.of esp, i0, .ref p, rfl, .ref sp, rfl, sp, _, 0, .ref a0, rfl, rfl, SqL.of esp, i0, a0, jV qa, rfl, .inl (SqL.of ea0), p, qa.length, by rw [List.length_map]; rfl, b4, by have := q0m.2.1; omega, by have := q0m.2.2; omega, fun H5 d5 k5 b5 d50 d51 => ?_⟩
    obtain ⟨j5, rfl⟩ : ∃ jj : Nat, d5 = (jj : Int) := ⟨d5.toNat, by omega⟩
    have hj5 : j5 < qa.length := by omega
    have g5 : (jV qa)[j5]? = some (.int (qa[j5] : Nat)) := by
      rw [List.getElem?_map, List.getElem?_eq_getElem hj5]
      rfl
    refine ⟨a0, _, (j5 : Int), _, rfl, rfl, SqL.of (k5 _ _ a0p ea0), atI_nat g5, one_sz, fun fa nfa => ?_⟩
    have inf : qa[j5] ∈ qa := List.getElem_mem hj5
    generalize qa[j5] = f at inf g5
    have nfap : fa ≠ p := b5.ne nfa
    have k6 : Keep p H4 (upd H5 fa (.lst [.int ((f : Nat) : Int)])) := k5.trans (.of (same_upd nfa))
    have b6 := b5.keep (same_upd (o := .lst [.int ((f : Nat) : Int)]) nfa)
    have efa : (upd H5 fa (.lst [.int ((f : Nat) : Int)])) fa = some (.lst (jV [f])) := upd_same
    have nfa4 : H4 fa = none := k5.free b4 nfa b5
    dsimp only
    generalize upd H5 fa (.lst [.int ((f : Nat) : Int)]) = H6 at k6 b6 efa ⊢
    -- last
    refine ⟨.ref sp, rfl, 1, rfl, sp, _, -1, .ref az, rfl, rfl, SqL.of (k6 _ _ nspp esp), haz, .ref p, rfl, .ref sp, rfl, 1, rfl, sp, _, -1, .ref az, rfl, rfl, SqL.of (k6 _ _ nspp esp), haz, az, jV qz, rfl, .inl (SqL.of (k6 _ _ azp eaz)), p, qz.length, by rw [List.length_map]; rfl, b6, by have := qzm.2.1; omega, by have := qzm.2.2; omega, fun H7 d7 k7 b7 d70 d71 => ?_⟩
    obtain ⟨j7, rfl⟩ : ∃ jj : Nat, d7 = (jj : Int) := ⟨d7.toNat, by omega⟩
    have hj7 : j7 < qz.length := by omega
    have g7 : (jV qz)[j7]? = some (.int (qz[j7] : Nat)) := by
      rw [List.getElem?_map, List.getElem?_eq_getElem hj7]
      rfl
    refine ⟨az, _, (j7 : Int), _, rfl, rfl, SqL.of (k7 _ _ azp (k6 _ _ azp eaz)), atI_nat g7, one_sz, fun la nla => ?_⟩
    have inl : qz[j7] ∈ qz := List.getElem_mem hj7
    generalize qz[j7] = l at inl g7
    have nlap : la ≠ p := b7.ne nla
    have nla4 : H4 la = none := k6.free b4 (k7.free b6 nla b7) b6
    have efa8 : (upd H7 la (.lst [.int ((l : Nat) : Int)])) fa = some (.lst (jV [f])) := same_upd nla _ _ (k7 _ _ nfap efa)
    have k8 : Keep p H4 (upd H7 la (.lst [.int ((l : Nat) : Int)])) := k6.trans (k7.trans (.of (same_upd nla)))
    have b8 := b7.keep (same_upd (o := .lst [.int ((l : Nat) : Int)]) nla)
    have ela8 : (upd H7 la (.lst [.int ((l : Nat) : Int)])) la = some (.lst (jV [l])) := upd_same
    dsimp only
    generalize upd H7 la (.lst [.int ((l : Nat) : Int)]) = H8 at k8 b8 efa8 ela8 ⊢
    -- towns
    refine ⟨.int m, rfl, m, rfl, by omega, by omega, fun D nD => ?_⟩
    have nDp : D ≠ p := b8.ne nD
    rw [Int.toNat_natCast]
    refine lc_it walk_range (fun j H9 => Keep p H8 H9 ∧ Bag H9 p ∧ ∃ (ta : List Addr) (tw : List Nat), tw.length = j ∧ (∀ x ∈ tw, x < n) ∧ H9 D = some (.lst (ta.map V.ref)) ∧ LLs H9 ta (tw.map fun x => [x]) ∧ ∀ a ∈ ta, H8 a = none ∧ a ≠ D ∧ a ≠ p) ⟨.of (same_upd nD), b8.keep (same_upd nD), [], [], rfl, fun c hc => by simp at hc, upd_same, .nil, fun c hc => by simp at hc⟩ (fun _ _ _ _ => trivial) (fun j x H9 H10 hj pv y => ?_) (fun H9 pv => ?_)
    · obtain ⟨rfl, rfl⟩ := y
      obtain ⟨k9, b9, ta, tw, htl, htw, eD, hTL, htf⟩ := pv
      refine ⟨rfl, yes_ ?_⟩
      refine ⟨.ref p, rfl, .int n, rfl, p, n, rfl, b9, by omega, by omega, fun H11 x k11 b11 x0 x1 => ⟨one_sz, fun c nc => ?_⟩⟩
      obtain ⟨x, rfl⟩ : ∃ j : Nat, x = (j : Int) := ⟨x.toNat, by omega⟩
      have ncp : c ≠ p := b11.ne nc
      have eD11 := k11 _ _ nDp eD
      have nDc : D ≠ c := ne_of_none eD11 nc
      have nc8 : H8 c = none := k9.free b8 (k11.free b9 nc b11) b9
      have tl := paired_len hTL
      rw [List.length_map] at tl
      refine ⟨_, same_upd nc _ _ eD11, by rw [List.length_map]; exact small5000 (by omega), fun e o ne ee => ?_, (b11.keep (same_upd nc)).at (upd_ne nDp.symm), ta ++ [c], tw ++ [x], by rw [List.length_append, htl]; rfl, fun y hy => ?_, by rw [upd_same, List.map_append]; rfl, ?_, fun e he => ?_⟩
      · rw [upd_ne (ne_of_none ee nD), upd_ne (ne_of_none (k11 _ _ ne (k9 _ _ ne ee)) nc)]
        exact k11 _ _ ne (k9 _ _ ne ee)
      · rcases List.mem_append.mp hy with z | z
        · exact htw y z
        · rw [List.mem_singleton.mp z]
          omega
      · rw [List.map_append]
        refine paired_snoc (paired_imp hTL fun a ha js e => ?_) (by rw [upd_ne nDc.symm, upd_same]; rfl)
        obtain ⟨_, f1, f2⟩ := htf a ha
        rw [upd_ne f1, upd_ne (ne_of_none (k11 _ _ f2 e) nc)]
        exact k11 _ _ f2 e
      · rcases List.mem_append.mp he with z | z
        · exact htf e z
        · rw [List.mem_singleton.mp z]
          exact ⟨nc8, nDc.symm, ncp⟩
    obtain ⟨k9, b9, ta, tw, htl, htw, eD, hTL, htf⟩ := pv
    have kk9 : Keep p H4 H9 := k8.trans k9
    have esp9 := kk9 _ _ nspp esp
    have enl9 : H9 nl = some (.lst (zs.map nS)) := kk9 _ _ nlp (k4 _ _ nlp enl)
    have efa9 := k9 _ _ nfap efa8
    have ela9 := k9 _ _ nlap ela8
    have hL9 : LLs H9 as qs := paired_imp hL fun a ha js e => kk9 _ _ (hfr a ha).2.2 e
    have tl := paired_len hTL
    rw [List.length_map] at tl
    -- list(zip(names, [first] + spots[:J] + [last] + towns))
    refine ⟨.ref nl, rfl, .ref fa, rfl, one_sz, fun c1 n1' => ?_⟩
    refine ⟨.ref sp, rfl, .int J, rfl, J, rfl, sp, _, rfl, SqL.of (same_upd n1' _ _ esp9), fun c2 n2' => ?_⟩
    rw [cut_to]
    have e2 : (upd (upd H9 c1 (.lst [.ref fa])) c2 (.lst ((as.map V.ref).take J))) c1 = some (.lst [.ref fa]) := same_upd n2' _ _ upd_same
    refine ⟨c1, c2, _, _, rfl, rfl, e2, upd_same, ?_, fun c3 n3' => ?_⟩
    · refine Nat.le_of_lt (small5000 ?_)
      rw [List.length_take, List.length_map]
      show 1 + _ ≤ 5000
      omega
    have s3 : Same H9 (upd (upd (upd H9 c1 (.lst [.ref fa])) c2 (.lst ((as.map V.ref).take J))) c3 (.lst ([.ref fa] ++ (as.map V.ref).take J))) := (same_upd n1').trans ((same_upd n2').trans (same_upd n3'))
    have e3 : (upd (upd (upd H9 c1 (.lst [.ref fa])) c2 (.lst ((as.map V.ref).take J))) c3 (.lst ([.ref fa] ++ (as.map V.ref).take J))) c3 = some (.lst ([.ref fa] ++ (as.map V.ref).take J)) := upd_same
    generalize upd (upd (upd H9 c1 (.lst [.ref fa])) c2 (.lst ((as.map V.ref).take J))) c3 (.lst ([.ref fa] ++ (as.map V.ref).take J)) = G3 at s3 e3 ⊢
    refine ⟨.ref la, rfl, one_sz, fun c4 n4' => ?_⟩
    refine ⟨c3, c4, _, _, rfl, rfl, same_upd n4' _ _ e3, upd_same, ?_, fun c5 n5' => ?_⟩
    · refine Nat.le_of_lt (small5000 ?_)
      rw [List.length_append, List.length_take, List.length_map]
      show 1 + _ + 1 ≤ 5000
      omega
    refine ⟨.ref D, rfl, c5, D, _, _, rfl, rfl, upd_same, same_upd n5' _ _ (same_upd n4' _ _ (s3 _ _ eD)), ?_, fun c6 n6' => ?_⟩
    · refine Nat.le_of_lt (small5000 ?_)
      rw [List.length_append, List.length_append, List.length_take, List.length_map, List.length_map]
      show 1 + _ + 1 + _ ≤ 5000
      omega
    have s6 := s3.trans ((same_upd (o := .lst [.ref la]) n4').trans ((same_upd (o := .lst ([.ref fa] ++ (as.map V.ref).take J ++ [.ref la])) n5').trans (same_upd (o := .lst ([.ref fa] ++ (as.map V.ref).take J ++ [.ref la] ++ ta.map V.ref)) n6')))
    have eLL : ([V.ref fa] ++ (as.map V.ref).take J ++ [.ref la] ++ ta.map V.ref) = ((([fa] ++ as.take J) ++ [la]) ++ ta).map V.ref := by
      simp only [List.map_append, List.map_take, List.map_cons, List.map_nil]
    have lens : ((([fa] ++ as.take J) ++ [la]) ++ ta).length = J + 2 + m := by
      simp only [List.length_append, List.length_take, List.length_cons, List.length_nil]
      by_cases c : 0 < J
      · have := (hJ0 c).1
        omega
      · omega
    refine ⟨nl, c6, zs.map nS, _, rfl, SqL.of (s6 _ _ enl9), SqL.of upd_same, by rw [eLL, List.length_map, List.length_map, lens]; exact hzs, by rw [List.length_map]; omega, fun H' l' ts st nl' nts nlt ndt elt htup => ?_⟩
    have s' := s6.trans st
    have kf : Keep p H H' := k3.trans (k4.trans (kk9.trans (.of s')))
    have fin : ∀ a, H9 a = none → H a = none := fun a h => k3.free b (k4.free b3 (kk9.free b4 h b9) b4) b3
    rw [eLL] at htup
    have tlen : ts.length = J + 2 + m := by
      have := paired_len htup
      rw [this, List.length_zip, List.length_map, List.length_map, lens, hzs, Nat.min_self]
    have pq : PlQ n J ((([f] :: qs.take J) ++ [[l]]) ++ tw.map fun x => [x]) := by
      refine ⟨⟨f, l, qs.take J, tw, rfl, ?_, fun js hj => ?_, q0m.1 f inf, qzm.1 l inl, htw, ?_, by omega⟩, J12⟩
      · rw [List.length_take]
        by_cases c : 0 < J
        · have := (hJ0 c).1
          omega
        · omega
      · by_cases c : 0 < J
        · exact (hJ0 c).2 js (List.mem_of_mem_take hj)
        · rw [show J = 0 by omega, List.take_zero] at hj
          cases hj
      · by_cases c : 0 < J
        · rw [List.take_of_length_le (by have := (hJ0 c).1; omega)]
          exact Chained.ends hch h00 hzz inf inl
        · have c0 : J = 0 := by omega
          obtain ⟨x, rfl⟩ := hJ1 c0
          rw [c0, List.take_zero]
          have e1 := Option.some.inj h00
          have e2 := Option.some.inj hzz
          subst e1
          subst e2
          rw [List.mem_singleton.mp inf, List.mem_singleton.mp inl]
          exact ⟨⟨x, by simp, by simp⟩, trivial⟩
    have n9 : ∀ a, H9 a = none → a ≠ p := fun a h => b9.ne h
    have nl9 : H9 l' = none := s6.free nl'
    have nt9 : ∀ t ∈ ts, H9 t = none := fun t ht => s6.free (nts t ht)
    have npa : ∀ a ∈ (([fa] ++ as.take J) ++ [la]) ++ ta, a ≠ p ∧ H a = none := fun a ha => by
      rcases List.mem_append.mp ha with z | z
      · rcases List.mem_append.mp z with z | z
        · rcases List.mem_append.mp z with z | z
          · rw [List.mem_singleton.mp z]
            exact ⟨nfap, k3.free b (k4.free b3 nfa4 b4) b3⟩
          · have := hfr a (List.mem_of_mem_take z)
            exact ⟨this.2.2, k3.free b this.1 b3⟩
        · rw [List.mem_singleton.mp z]
          exact ⟨nlap, k3.free b (k4.free b3 nla4 b4) b3⟩
      · have := htf a z
        exact ⟨this.2.2, k3.free b (k4.free b3 (k8.free b4 this.1 b8) b4) b3⟩
    refine q H' l' ts ((([fa] ++ as.take J) ++ [la]) ++ ta) zs _ J kf (b9.keep s') ⟨elt, htup, ?_, ?_, ?_, n9 _ nl9, fun t ht => n9 _ (nt9 t ht), fun a ha => (npa a ha).1⟩ pq nd nms nat (fin _ nl9) (fun t ht => fin _ (nt9 t ht)) fun a ha => (npa a ha).2
    · refine paired_append (paired_append (paired_append (as := [fa]) (bs := [[f]]) (.cons (s' _ _ efa9) .nil) (paired_take J (paired_imp hL9 fun a _ js e => s' _ _ e))) (.cons (s' _ _ ela9) .nil)) (paired_imp hTL fun a _ js e => s' _ _ e)
    · rw [hzs]
      simp only [List.length_append, List.length_take, List.length_cons, List.length_nil, List.length_map]
      by_cases c : 0 < J
      · have := (hJ0 c).1
        omega
      · omega
    · rw [tlen]
      simp only [List.length_append, List.length_take, List.length_cons, List.length_nil, List.length_map]
      by_cases c : 0 < J
      · have := (hJ0 c).1
        omega
      · omega
end
end Th
namespace Th
open PySem PySem.Spec PyProof.Rows L2
/-! the net laid out as four tuples -/
abbrev Nm := List Nat
/-- tuples stay, those whose object is known, too -/
structure TK (H H' : Hp) : Prop where
  t : ∀ a xs, H a = some (.tup xs) → H' a = some (.tup xs)
  f : ∀ a o xs, H a = some (.frz o (.tup xs)) → H' a = some (.frz o (.tup xs))
instance {H H' : Hp} : CoeFun (TK H H') fun _ => ∀ a xs, H a = some (.tup xs) → H' a = some (.tup xs) := ⟨TK.t⟩
theorem TK.of {H H' : Hp} (s : Same H H') : TK H H' := ⟨fun a xs e => s a _ e, fun a o xs e => s a _ e⟩
theorem TK.trans {H H' H2 : Hp} (a : TK H H') (b : TK H' H2) : TK H H2 := ⟨fun c xs e => b.t c xs (a.t c xs e), fun c o xs e => b.f c o xs (a.f c o xs e)⟩
theorem TK.keep {p : Addr} {H H' : Hp} (k : Keep p H H') (b : Bag H p) : TK H H' := by
  obtain ⟨g, r, e', _⟩ := b
  exact ⟨fun a xs e => k a _ (fun z => by rw [z, e'] at e; cases e) e, fun a o xs e => k a _ (fun z => by rw [z, e'] at e; cases e) e⟩
theorem TK.upd {c : Addr} {H : Hp} {o : HO} (h : ∀ xs, H c ≠ some (.tup xs)) (h2 : ∀ o' xs, H c ≠ some (.frz o' (.tup xs)) := by intro o' xs e; simp_all) : TK H (upd H c o) :=
  ⟨fun a xs e => by rw [upd_ne (fun z => h xs (by rw [← z]; exact e))]; exact e, fun a o' xs e => by rw [upd_ne (fun z => h2 o' xs (by rw [← z]; exact e))]; exact e⟩
theorem TpF.tk {H H' : Hp} {a : Addr} {xs : List V} (h : TpF H a xs) (k : TK H H') : TpF H' a xs := let ⟨o, e, d⟩ := h; ⟨o, k.f _ _ _ e, d⟩
theorem Keep.set {p S : Addr} {H H' : Hp} {o : HO} (k : Keep p H H') (n : H S = none) : Keep p H (L2.upd H' S o) := fun c o nc ec => by
  rw [upd_ne (ne_of_none ec n)]
  exact k c o nc ec
theorem same_set {S : Addr} {H H' : Hp} {o : HO} (k : Same H H') (n : H S = none) : Same H (upd H' S o) := fun c o ec => by
  rw [upd_ne (ne_of_none ec n)]
  exact k c o ec
theorem two_sz {x y : V} : [x, y].length ≤ sizeLine := by show 2 ≤ sizeLine; decide
theorem four_sz {x y z u : V} : [x, y, z, u].length ≤ sizeLine := by show 4 ≤ sizeLine; decide
def StAt (H : Hp) (a : Addr) (st : Nm × Nm) : Prop := H a = some (.tup [nS st.1, nS st.2])
def JnAt (H : Hp) (a : Addr) (jn : Nm × List Nm) : Prop := ∃ b, H a = some (.tup [nS jn.1, .ref b]) ∧ H b = some (.tup (jn.2.map nS))
structure Ti where
  a : Nm
  b : Nm
  ln : Nm
  ch : Nat
def TiAt (H : Hp) (x : Addr) (t : Ti) : Prop := H x = some (.tup [nS t.a, nS t.b, nS t.ln, .int t.ch])
/-- the net at its address -/
def NetAt (H : Hp) (r : Addr) (ls : List Nm) (sts : List (Nm × Nm)) (jns : List (Nm × List Nm)) (tis : List Ti) : Prop :=
  ∃ (a b c d : Addr) (sa ja ta : List Addr), H r = some (.tup [.ref a, .ref b, .ref c, .ref d]) ∧ TpF H a (ls.map nS) ∧ TpF H b (sa.map V.ref) ∧ Paired (StAt H) sa sts ∧
    TpF H c (ja.map V.ref) ∧ Paired (JnAt H) ja jns ∧ TpF H d (ta.map V.ref) ∧ Paired (TiAt H) ta tis
theorem NetAt.tk {H H' : Hp} {r : Addr} {ls : List Nm} {sts : List (Nm × Nm)} {jns : List (Nm × List Nm)} {tis : List Ti} (h : NetAt H r ls sts jns tis) (k : TK H H') : NetAt H' r ls sts jns tis := by
  obtain ⟨a, b, c, d, sa, ja, ta, e1, e2, e3, e4, e5, e6, e7, e8⟩ := h
  exact ⟨a, b, c, d, sa, ja, ta, k _ _ e1, e2.tk k, e3.tk k, paired_imp e4 fun x _ y e => k _ _ e, e5.tk k, paired_imp e6 (fun x _ y ⟨z, f1, f2⟩ => ⟨z, k _ _ f1, k _ _ f2⟩), e7.tk k, paired_imp e8 fun x _ y e => k _ _ e⟩
theorem paired_drop {α β : Type} {R : α → β → Prop} : ∀ {as : List α} {bs : List β} (n : Nat), Paired R as bs → Paired R (as.drop n) (bs.drop n)
  | _, _, 0, h => h
  | _, _, n + 1, .nil => .nil
  | _, _, n + 1, .cons q t => paired_drop n t
theorem paired_ins {α β : Type} {R : α → β → Prop} {as : List α} {bs : List β} (n : Nat) {a : α} {b : β} (h : Paired R as bs) (r : R a b) : Paired R (as.take n ++ [a] ++ as.drop n) (bs.take n ++ [b] ++ bs.drop n) :=
  paired_append (paired_append (paired_take n h) (.cons r .nil)) (paired_drop n h)
theorem perm_ins {α : Type} (xs : List α) (n : Nat) (x : α) : (xs.take n ++ [x] ++ xs.drop n).Perm (xs ++ [x]) := by
  have h1 : (xs.take n ++ [x] ++ xs.drop n).Perm (x :: (xs.take n ++ xs.drop n)) := by
    rw [List.append_assoc]
    exact List.perm_middle
  rw [List.take_append_drop] at h1
  exact h1.trans (List.perm_append_comm (l₁ := [x]) (l₂ := xs))
theorem ins_map {xs : List Addr} {n : Nat} {x : Addr} : (xs.map V.ref).take n ++ [V.ref x] ++ (xs.map V.ref).drop n = (xs.take n ++ [x] ++ xs.drop n).map V.ref := by
  simp only [List.map_append, List.map_take, List.map_drop, List.map_cons, List.map_nil]
def stOf (ls : List Nm) (x : Nm × List Nat) : Option (Nm × Nm) := if x.2.length = 1 then some (x.1, ls.getD (x.2.getD 0 0) []) else none
def jnOf (ls : List Nm) (x : Nm × List Nat) : Option (Nm × List Nm) := if x.2.length = 1 then none else some (x.1, x.2.map fun j => ls.getD j [])
/-- the dict of the ties -/
def TiD (H : Hp) (td : Addr) (tis : List Ti) : Prop := ∃ kvs : List (List Key × V), H td = some (.dT kvs) ∧ (kvs.map (·.1)).Nodup ∧
  Paired (fun kv (t : Ti) => kv.1 = [Sum.inr (SX.S t.a), Sum.inr (SX.S t.b)] ∧ ∃ v, kv.2 = .ref v ∧ H v = some (.tup [nS t.ln, .int t.ch])) kvs tis
theorem val_at : ∀ {kvs : List (List Key × V)} {i : Nat} {k : List Key} {v : V}, (kvs.map (·.1)).Nodup → kvs[i]? = some (k, v) → valV kvs k = some v
  | [], _, _, _, _, h => by simp at h
  | p :: r, 0, k, v, _, h => by
    have := Option.some.inj h
    subst this
    exact valV_pos rfl
  | p :: r, i + 1, k, v, hn, h => by
    have hn' := List.nodup_cons.mp hn
    rw [valV_neg]
    · exact val_at hn'.2 h
    · intro e
      exact hn'.1 (List.mem_map.mpr ⟨(k, v), List.mem_of_getElem? h, e.symm⟩)
section
variable {P : Program} {w : World} {K : PySem.W.Frag} {mg : Str → Option Value} {base : Heap} {k : Nat}
def sp_l_laid : Sp := fun vs H Q _ => ∃ (p ln pl td : Addr) (ts as : List Addr) (ls zs : List Nm) (qs : List (List Nat)) (tis : List Ti), vs = [.ref p, .ref ln, .ref pl, .ref td] ∧ Bag H p ∧ ln ≠ p ∧ H ln = some (.lst (ls.map nS)) ∧ ls.length ≤ 8 ∧
  PlAt p H pl ts zs as qs ∧ qs.length ≤ 28 ∧ (∀ js ∈ qs, 1 ≤ js.length ∧ js.length ≤ 8 ∧ ∀ j ∈ js, j < ls.length) ∧ TiD H td tis ∧ tis.length ≤ 100 ∧
  ∀ (H' : Hp) (r : Addr) (sts : List (Nm × Nm)) (jns : List (Nm × List Nm)) (rws : List Ti), Keep p H H' → Bag H' p → NetAt H' r ls sts jns rws → sts.Perm ((zs.zip qs).filterMap (stOf ls)) → jns.Perm ((zs.zip qs).filterMap (jnOf ls)) → rws.Perm tis → H r = none → Q (.ref r) H'
set_option maxHeartbeats 8000000 in
theorem ok_l_laid (T : Defs K mg) : FnOk P w K mg base CX0 (k + 2) T.a_l_laid T.d_l_laid ["_law_bag_here", "_law_lines", "_law_places_here", "_law_ties"] sp_l_laid := by
  have G_l_take : FnOk P w K mg base CX0 (k + 1) _ _ _ _ := ok_l_take T
  refine T.F_l_laid.ok sc_l_laid (fun vs H Q E h => ?_) (fun cdv A outer s H vs Q E hr h => ?_)
  · obtain ⟨p, ln, pl, td, ts, as, ls, zs, qs, tis, rfl, _⟩ := h
    rfl
  · obtain ⟨p, ln, pl, td, ts, as, ls, zs, qs, tis, rfl, b, nlp, eln, l8, pa, q28, hqs, htd, t100, q⟩ := h
    refine ⟨_, PSs.nox
(pss_cons (ps_par3 (i := 4) (j := 5) (l := 6) rfl sc_l_laid.nd rfl rfl rfl (by decide) (by decide) (by decide) rfl rfl rfl (pa_cons (pe_lst pa_nil) (pa_cons (pe_lst pa_nil) (pa_cons (pe_lst pa_nil) pa_nil))) (by rfl))
    (pss_cons (ps_for PassesOwn.never rfl (pi_list (pv 2)) (pg_tup rfl (pgs_cons (pg_name (i := 7) sc_l_laid.nd rfl (.inl rfl)) (pgs_cons (pg_name (i := 8) sc_l_laid.nd rfl (.inl rfl)) pgs_nil)))
      (pss_one (ps_if (pt_cmpR op_eq (pe_callB (r := rLenS K) call_lenS (by rfl) T.z_len (by decide +kernel) (pa_cons (pv 8) pa_nil)) (pe_int) (nomark _))
        (pss_one (ps_expr (pe_bm PySem.F.plainAttrs_list PySem.F.slot_list_insert PySem.F.type_list_insert mt_insert (pv 4) (pa_cons (pe_call G_l_take hr (by rfl) T.g_l_take T.F_l_take.kp T.b_l_take .nil pass0 (pa_cons (pv 0) (pa_cons (pe_op op_add (pe_callB (r := rLenS K) call_lenS (by rfl) T.z_len (by decide +kernel) (pa_cons (pv 4) pa_nil)) (pe_int)) pa_nil))) (pa_cons (pe_tup (pa_cons (pv 7) (pa_cons (pe_ix (r := rIxL K) ix_list (pv 1) (pe_ix (r := rIxL K) ix_list (pv 8) (pe_int) (fun _ _ => rfl)) (fun _ _ => rfl)) pa_nil))) pa_nil)))))
        (pss_one (ps_expr (pe_bm PySem.F.plainAttrs_list PySem.F.slot_list_insert PySem.F.type_list_insert mt_insert (pv 5) (pa_cons (pe_call G_l_take hr (by rfl) T.g_l_take T.F_l_take.kp T.b_l_take .nil pass0 (pa_cons (pv 0) (pa_cons (pe_op op_add (pe_callB (r := rLenS K) call_lenS (by rfl) T.z_len (by decide +kernel) (pa_cons (pv 5) pa_nil)) (pe_int)) pa_nil))) (pa_cons (pe_tup (pa_cons (pv 7) (pa_cons (pe_callTy call_tuple_of (by rfl) T.z_tuple (by decide +kernel) (pa_cons (pe_lc (own := [("_law_line", 12)]) (g := gName 12) rfl sc_l_laid.nd (pi_list (pv 8)) (blkOk_by (N := N_l_laid) (sc := defScope s_l_laid) (by decide +kernel)) (fun _ _ _ _ _ => (pg_name (i := 12) sc_l_laid.nd rfl (.inl rfl))) (fun _ _ _ _ _ => pts_nil) (fun _ _ _ _ _ => (pe_ix (r := rIxL K) ix_list (pv 1) (pv 12) (fun _ _ => rfl)))) pa_nil)) pa_nil))) pa_nil))))))))
    (pss_cons (ps_lock (ps_for PassesOwn.never rfl (pi_keys (pv 3)) (pg_tup rfl (pgs_cons (pg_name (i := 9) sc_l_laid.nd rfl (.inl rfl)) (pgs_cons (pg_name (i := 10) sc_l_laid.nd rfl (.inl rfl)) pgs_nil)))
      (pss_cons (ps_set (i := 11) sc_l_laid.nd rfl (.inl rfl) (pe_op op_catT (pe_tup (pa_cons (pv 9) (pa_cons (pv 10) pa_nil))) (pe_dget (hu_of hr) (pv 3) (pe_tup (pa_cons (pv 9) (pa_cons (pv 10) pa_nil))) (fun _ _ => rfl))))
      (pss_one (ps_expr (pe_bm PySem.F.plainAttrs_list PySem.F.slot_list_insert PySem.F.type_list_insert mt_insert (pv 6) (pa_cons (pe_call G_l_take hr (by rfl) T.g_l_take T.F_l_take.kp T.b_l_take .nil pass0 (pa_cons (pv 0) (pa_cons (pe_op op_add (pe_callB (r := rLenS K) call_lenS (by rfl) T.z_len (by decide +kernel) (pa_cons (pv 6) pa_nil)) (pe_int)) pa_nil))) (pa_cons (pv 11) pa_nil))))))))
    (pss_one (ps_ret (pe_tup (pa_cons (pe_callTy (r := rTupF K) call_tuple_ofF (by rfl) T.z_tuple (by decide +kernel) (pa_cons (pv 1) pa_nil)) (pa_cons (pe_callTy (r := rTupF K) call_tuple_ofF (by rfl) T.z_tuple (by decide +kernel) (pa_cons (pv 4) pa_nil)) (pa_cons (pe_callTy (r := rTupF K) call_tuple_ofF (by rfl) T.z_tuple (by decide +kernel) (pa_cons (pv 5) pa_nil)) (pa_cons (pe_callTy (r := rTupF K) call_tuple_ofF (by rfl) T.z_tuple (by decide +kernel) (pa_cons (pv 6) pa_nil)) pa_nil))))))))))
      , ?_⟩
    refine ⟨Nat.zero_le _, fun S nS' => ⟨Nat.zero_le _, fun J nJ' => ⟨Nat.zero_le _, fun R nR' => ⟨_, _, _, rfl, ?_⟩⟩⟩⟩
    have nJ0 : H J = none := (same_upd nS').free nJ'
    have nR1 := (same_upd nJ').free nR'
    have nR0 : H R = none := (same_upd nS').free nR1
    have eS0 : (upd (upd (upd H S (.lst [])) J (.lst [])) R (.lst [])) S = some (.lst (([] : List Addr).map V.ref)) := same_upd nR' _ _ (same_upd nJ' _ _ upd_same)
    have eJ0 : (upd (upd (upd H S (.lst [])) J (.lst [])) R (.lst [])) J = some (.lst (([] : List Addr).map V.ref)) := same_upd nR' _ _ upd_same
    have eR0 : (upd (upd (upd H S (.lst [])) J (.lst [])) R (.lst [])) R = some (.lst (([] : List Addr).map V.ref)) := upd_same
    have s0 : Same H (upd (upd (upd H S (.lst [])) J (.lst [])) R (.lst [])) := (same_upd nS').trans ((same_upd nJ').trans (same_upd nR'))
    have nSJ : S ≠ J := fun z => by rw [← z, upd_same] at nJ'; cases nJ'
    have nJR : J ≠ R := fun z => by rw [← z, upd_same] at nR'; cases nR'
    have nSR : S ≠ R := fun z => by rw [← z, upd_ne nSJ, upd_same] at nR'; cases nR'
    have nSp : S ≠ p := b.ne nS'
    have nJp : J ≠ p := b.ne nJ0
    have nRp : R ≠ p := b.ne nR0
    have b0 := b.keep s0
    generalize upd (upd (upd H S (.lst [])) J (.lst [])) R (.lst []) = H1 at eS0 eJ0 eR0 s0 b0 ⊢
    have lts : (ts.map V.ref).length = (zs.zip qs).length := by rw [List.length_map, List.length_zip, pa.lt, pa.lz, Nat.min_self]
    refine ⟨.ref pl, rfl, pl, rfl, ⟨_, SqL.of (s0 _ _ pa.lst)⟩, ?_⟩
    refine for_it (walk_list (xs := ts.map V.ref)) (fun i σ H3 => ∃ (y7 y8 : Option V) (sa ja : List Addr) (sts : List (Nm × Nm)) (jns : List (Nm × List Nm)), σ = [some (.ref p), some (.ref ln), some (.ref pl), some (.ref td), some (.ref S), some (.ref J), some (.ref R), y7, y8, none, none, none, none] ∧ Keep p H H3 ∧ Bag H3 p ∧ H3 S = some (.lst (sa.map V.ref)) ∧ H3 J = some (.lst (ja.map V.ref)) ∧ H3 R = some (.lst (([] : List Addr).map V.ref)) ∧ Paired (StAt H3) sa sts ∧ Paired (JnAt H3) ja jns ∧ sa.length ≤ i ∧ ja.length ≤ i ∧ sts.Perm (((zs.zip qs).take i).filterMap (stOf ls)) ∧ jns.Perm (((zs.zip qs).take i).filterMap (jnOf ls)))
      ⟨none, none, [], [], [], [], rfl, .of s0, b0, eS0, eJ0, eR0, .nil, .nil, Nat.le_refl _, Nat.le_refl _, by rw [List.take_zero]; exact .refl _, by rw [List.take_zero]; exact .refl _⟩ (fun i σ H3 _ hp => ?_) (fun i x σ H3₀ H3 hi hp y => ?_) (fun σ H3 hp => ?_)
    · obtain ⟨y7, y8, sa, ja, sts, jns, rfl, k3, _⟩ := hp
      exact SqL.of (k3 _ _ pa.np.1 pa.lst)
    · obtain ⟨rfl, ex⟩ := y
      obtain ⟨y7, y8, sa, ja, sts, jns, rfl, k3, b3, eS, eJ, eR, hS, hJ, lS, lJ, pS, pJ⟩ := hp
      obtain ⟨t, et, rfl⟩ : ∃ t, ts[i]? = some t ∧ x = .ref t := by
        rw [List.getElem?_map] at ex
        cases h : ts[i]? with
        | none => rw [h] at ex; cases ex
        | some t => rw [h] at ex; exact ⟨t, rfl, (Option.some.inj ex).symm⟩
      obtain ⟨pr, epr, etup⟩ := paired_get pa.tup et
      rw [List.getElem?_zip_eq_some, List.getElem?_map, List.getElem?_map] at epr
      obtain ⟨z, ez, ez1⟩ : ∃ z, zs[i]? = some z ∧ pr.1 = nS z := by
        cases h : zs[i]? with
        | none => rw [h] at epr; cases epr.1
        | some z => rw [h] at epr; exact ⟨z, rfl, (Option.some.inj epr.1).symm⟩
      obtain ⟨a, ea, ea1⟩ : ∃ a, as[i]? = some a ∧ pr.2 = .ref a := by
        cases h : as[i]? with
        | none => rw [h] at epr; cases epr.2
        | some z => rw [h] at epr; exact ⟨z, rfl, (Option.some.inj epr.2).symm⟩
      rw [ez1, ea1] at etup
      obtain ⟨js, ejs, eas⟩ := paired_get pa.ll ea
      have hjs := hqs js (List.mem_of_getElem? ejs)
      have nap := pa.np.2.2 a (List.mem_of_getElem? ea)
      have ntp := pa.np.2.1 t (List.mem_of_getElem? et)
      have e3t := k3 _ _ ntp etup
      have e3a := k3 _ _ nap eas
      have e3l := k3 _ _ nlp eln
      have tk1 : (zs.zip qs).take (i + 1) = (zs.zip qs).take i ++ [(z, js)] := by
        rw [List.take_add_one, (List.getElem?_zip_eq_some (l₁ := zs) (l₂ := qs) (z := (z, js)) (i := i)).mpr ⟨ez, ejs⟩]
        rfl
      have i28 : i < 28 := by
        rw [lts, List.length_zip] at hi
        omega
      refine ⟨t, _, rfl, SqT.of e3t, rfl, _, _, rfl, _, [], rfl, rfl, ?_⟩
      refine ⟨.ref a, rfl, a, jV js, rfl, .inl (SqL.of e3a), rfl, _, rfl, ite2 (fun c => ?_) (fun c => ?_)⟩
      · have c : js.length = 1 := by
          have c := V.int.inj (of_decide_eq_true c)
          rw [List.length_map] at c
          omega
        obtain ⟨j, rfl⟩ := List.length_eq_one_iff.mp c
        have hj : j < ls.length := hjs.2.2 j (by simp)
        have gl : (ls.map nS)[j]? = some (nS (ls.getD j [])) := by
          rw [List.getElem?_map, List.getElem?_eq_getElem hj, List.getD_eq_getElem?_getD, List.getElem?_eq_getElem hj]
          rfl
        refine ⟨.ref S, rfl, .inl ⟨rfl, _, SqL.of eS⟩, .ref p, rfl, .ref S, rfl, S, sa.map V.ref, rfl, .inl (SqL.of eS), _, 1, rfl, rfl, p, (sa.length : Int) + 1, by dsimp only; rw [List.length_map]; rfl, b3, by omega, by omega, fun H4 d k4 b4 d0 d1 => ?_⟩
        refine ⟨nS z, rfl, .ref ln, rfl, .ref a, rfl, a, jV [j], 0, .int (j : Nat), rfl, rfl, SqL.of (k4 _ _ nap e3a), atI_nat (j := 0) rfl, ln, _, (j : Nat), nS (ls.getD j []), rfl, rfl, SqL.of (k4 _ _ nlp e3l), atI_nat gl, two_sz, fun t' nt' => ?_⟩
        have eS4 := same_upd (o := .tup [nS z, nS (ls.getD j [])]) nt' _ _ (k4 _ _ nSp eS)
        refine ⟨S, _, d, .ref t', rfl, rfl, eS4, by rw [List.length_map]; exact small5000 (by omega), d0, by omega, ?_⟩
        have tk : TK H3 (upd (upd H4 t' (.tup [nS z, nS (ls.getD j [])])) S (.lst ((sa.map V.ref).take d.toNat ++ [.ref t'] ++ (sa.map V.ref).drop d.toNat))) := (TK.keep k4 b3).trans ((TK.of (same_upd nt')).trans (.upd fun xs e => by rw [eS4] at e; cases e))
        have ntS : t' ≠ S := fun z => by rw [← z, upd_same] at eS4; cases eS4
        refine ⟨_, _, sa.take d.toNat ++ [t'] ++ sa.drop d.toNat, ja, sts.take d.toNat ++ [(z, ls.getD j [])] ++ sts.drop d.toNat, jns, rfl, (k3.trans (k4.trans (.of (same_upd nt')))).set nS', (b4.keep (same_upd nt')).at (upd_ne nSp.symm), by rw [upd_same, ins_map], ?_, ?_, ?_, paired_imp hJ (fun x _ y ⟨z, f1, f2⟩ => ⟨z, tk _ _ f1, tk _ _ f2⟩), ?_, by omega, ?_, ?_⟩
        · rw [upd_ne nSJ.symm]
          exact same_upd nt' _ _ (k4 _ _ nJp eJ)
        · rw [upd_ne nSR.symm]
          exact same_upd nt' _ _ (k4 _ _ nRp eR)
        · refine paired_ins _ (paired_imp hS fun x _ y e => tk _ _ e) ?_
          show (upd (upd H4 t' _) S _) t' = _
          rw [upd_ne ntS, upd_same]
        · simp only [List.length_append, List.length_take, List.length_drop, List.length_cons, List.length_nil]
          omega
        · rw [tk1, List.filterMap_append]
          exact (perm_ins _ _ _).trans (pS.append_right _)
        · rw [tk1, List.filterMap_append]
          show jns.Perm (_ ++ [])
          rw [List.append_nil]
          exact pJ
      · have c : js.length ≠ 1 := fun z => c (decide_eq_true (by rw [List.length_map, z]; rfl))
        refine ⟨.ref J, rfl, .inl ⟨rfl, _, SqL.of eJ⟩, .ref p, rfl, .ref J, rfl, J, ja.map V.ref, rfl, .inl (SqL.of eJ), _, 1, rfl, rfl, p, (ja.length : Int) + 1, by dsimp only; rw [List.length_map]; rfl, b3, by omega, by omega, fun H4 d k4 b4 d0 d1 => ?_⟩
        refine ⟨nS z, rfl, .ref a, rfl, a, rfl, ⟨_, SqL.of (k4 _ _ nap e3a)⟩, fun M nM => ?_⟩
        refine lc_it (walk_list (xs := jV js)) (fun n H5 => Same H4 H5 ∧ H5 M = some (.lst (((js.take n).map fun j => ls.getD j []).map nS))) ⟨same_upd nM, upd_same⟩ (fun n H5 _ pv => SqL.of (pv.1 _ _ (k4 _ _ nap e3a))) (fun n x H5 H6 hn pv y => ?_) (fun H5 pv => ?_)
        · obtain ⟨rfl, ex⟩ := y
          obtain ⟨s5, eM⟩ := pv
          obtain ⟨j, ej, rfl⟩ : ∃ j, js[n]? = some j ∧ x = .int (j : Nat) := by
            rw [List.getElem?_map] at ex
            cases h : js[n]? with
            | none => rw [h] at ex; cases ex
            | some t => rw [h] at ex; exact ⟨t, rfl, (Option.some.inj ex).symm⟩
          have hj : j < ls.length := hjs.2.2 j (List.mem_of_getElem? ej)
          have gl : (ls.map nS)[j]? = some (nS (ls.getD j [])) := by
            rw [List.getElem?_map, List.getElem?_eq_getElem hj, List.getD_eq_getElem?_getD, List.getElem?_eq_getElem hj]
            rfl
          refine ⟨rfl, yes_ ?_⟩
          refine ⟨.ref ln, rfl, .int (j : Nat), rfl, ln, _, (j : Nat), nS (ls.getD j []), rfl, rfl, SqL.of (s5 _ _ (k4 _ _ nlp e3l)), atI_nat gl, _, eM, ?_, same_set s5 nM, ?_⟩
          · rw [List.length_map, List.length_map, List.length_take]
            exact small5000 (by omega)
          · rw [upd_same, List.take_add_one, ej, List.map_append, List.map_append]
            rfl
        obtain ⟨s5, eM⟩ := pv
        rw [List.length_map, List.take_length] at eM
        refine ⟨M, _, rfl, .inl ⟨SqL.of eM, fun jt njt => ⟨two_sz, fun t' nt' => ?_⟩⟩⟩
        have s6 := s5.trans ((same_upd (o := .tup ((js.map fun j => ls.getD j []).map nS)) njt).trans (same_upd (o := .tup [nS z, .ref jt]) nt'))
        have et' : (upd (upd H5 jt (.tup ((js.map fun j => ls.getD j []).map nS))) t' (.tup [nS z, .ref jt])) t' = some (.tup [nS z, .ref jt]) := upd_same
        have ejt : (upd (upd H5 jt (.tup ((js.map fun j => ls.getD j []).map nS))) t' (.tup [nS z, .ref jt])) jt = some (.tup ((js.map fun j => ls.getD j []).map nS)) := same_upd nt' _ _ upd_same
        generalize upd (upd H5 jt (.tup ((js.map fun j => ls.getD j []).map nS))) t' (.tup [nS z, .ref jt]) = H6 at s6 et' ejt ⊢
        have eJ6 := s6 _ _ (k4 _ _ nJp eJ)
        refine ⟨J, _, d, .ref t', rfl, rfl, eJ6, by rw [List.length_map]; exact small5000 (by omega), d0, by omega, ?_⟩
        have tk6 : TK H6 (upd H6 J (.lst ((ja.map V.ref).take d.toNat ++ [.ref t'] ++ (ja.map V.ref).drop d.toNat))) := .upd fun xs e => by rw [eJ6] at e; cases e
        have tk : TK H3 (upd H6 J (.lst ((ja.map V.ref).take d.toNat ++ [.ref t'] ++ (ja.map V.ref).drop d.toNat))) := (TK.keep k4 b3).trans ((TK.of s6).trans tk6)
        refine ⟨_, _, sa, ja.take d.toNat ++ [t'] ++ ja.drop d.toNat, sts, jns.take d.toNat ++ [(z, js.map fun j => ls.getD j [])] ++ jns.drop d.toNat, rfl, (k3.trans (k4.trans (.of s6))).set nJ0, (b4.keep s6).at (upd_ne nJp.symm), ?_, by rw [upd_same, ins_map], ?_, paired_imp hS fun x _ y e => tk _ _ e, ?_, by omega, ?_, ?_, ?_⟩
        · rw [upd_ne nSJ]
          exact s6 _ _ (k4 _ _ nSp eS)
        · rw [upd_ne nJR.symm]
          exact s6 _ _ (k4 _ _ nRp eR)
        · exact paired_ins _ (paired_imp hJ (fun x _ y ⟨z, f1, f2⟩ => ⟨z, tk _ _ f1, tk _ _ f2⟩)) ⟨jt, tk6 _ _ et', tk6 _ _ ejt⟩
        · simp only [List.length_append, List.length_take, List.length_drop, List.length_cons, List.length_nil]
          omega
        · rw [tk1, List.filterMap_append]
          show sts.Perm (_ ++ (([(z, js)] : List (Nm × List Nat)).filterMap (stOf ls)))
          rw [show ([(z, js)] : List (Nm × List Nat)).filterMap (stOf ls) = [] by
            rw [List.filterMap_cons]
            unfold stOf
            rw [if_neg c]
            rfl, List.append_nil]
          exact pS
        · rw [tk1, List.filterMap_append]
          rw [show ([(z, js)] : List (Nm × List Nat)).filterMap (jnOf ls) = [(z, js.map fun j => ls.getD j [])] by
            rw [List.filterMap_cons]
            unfold jnOf
            rw [if_neg c]
            rfl]
          exact (perm_ins _ _ _).trans (pJ.append_right _)
    · obtain ⟨y7, y8, sa, ja, sts, jns, rfl, k3, b3, eS, eJ, eR, hS, hJ, lS, lJ, pS, pJ⟩ := hp
      rw [lts, List.take_length] at pS pJ
      obtain ⟨kvs, etd, knd, hkt⟩ := htd
      have ntp : td ≠ p := fun z => by
        obtain ⟨g, r, e, _⟩ := b
        rw [z, e] at etd
        cases etd
      have etd3 := k3 _ _ ntp etd
      refine ⟨td, .dT kvs, etd3, trivial, fun od => ?_⟩
      have tkl : TK H3 (upd H3 td (.frz od (.dT kvs))) := .upd fun xs e => by rw [etd3] at e; cases e
      have nStd : S ≠ td := fun z => by rw [← z, nS'] at etd; cases etd
      have nJtd : J ≠ td := fun z => by rw [← z, nJ0] at etd; cases etd
      have nRtd : R ≠ td := fun z => by rw [← z, nR0] at etd; cases etd
      refine ⟨.ref td, rfl, td, od, rfl, .inr ⟨kvs, upd_same, ?_⟩⟩
      refine for_it (walk_keysT (kvs := kvs)) (fun i σ H5 => ∃ (y9 y10 y11 : Option V) (ra : List Addr) (rws : List Ti), σ = [some (.ref p), some (.ref ln), some (.ref pl), some (.ref td), some (.ref S), some (.ref J), some (.ref R), y7, y8, y9, y10, y11, none] ∧ Keep p (upd H td (.frz od (.dT kvs))) H5 ∧ Bag H5 p ∧ H5 td = some (.frz od (.dT kvs)) ∧ H5 S = some (.lst (sa.map V.ref)) ∧ H5 J = some (.lst (ja.map V.ref)) ∧ TK H3 H5 ∧ H5 R = some (.lst (ra.map V.ref)) ∧ Paired (TiAt H5) ra rws ∧ ra.length ≤ i ∧ rws.Perm (tis.take i))
        ⟨none, none, none, [], [], rfl, fun c o nc ec => ?_, b3.at (upd_ne ntp.symm), upd_same, by rw [upd_ne nStd]; exact eS, by rw [upd_ne nJtd]; exact eJ, tkl, by rw [upd_ne nRtd]; exact eR, .nil, Nat.le_refl _, by rw [List.take_zero]⟩ (fun i σ H5 _ hp => ?_) (fun i x σ H5₀ H5 hi hp y => ?_) (fun σ H5 hp => ?_)
      · by_cases z : c = td
        · rw [z, upd_same] at ec ⊢
          exact ec
        · rw [upd_ne z] at ec ⊢
          exact k3 _ _ nc ec
      · obtain ⟨y9, y10, y11, ra, rws, rfl, k5, b5, etd5, _⟩ := hp
        exact etd5
      · obtain ⟨rfl, kk, v, u, ekv, rfl, eu⟩ := y
        obtain ⟨y9, y10, y11, ra, rws, rfl, k5, b5, etd5, eS5, eJ5, tk5, eR5, hR, lR, pR⟩ := hp
        obtain ⟨ti, eti, ekk, v0, ev, ev0⟩ := paired_get hkt ekv
        dsimp only at ekk ev
        subst ekk
        subst ev
        have ev3 := (TK.keep k3 b) _ _ ev0
        refine ⟨u, _, rfl, SqT.of eu, rfl, _, _, rfl, _, [], rfl, rfl, ?_⟩
        refine ⟨nS ti.a, rfl, nS ti.b, rfl, two_sz, fun u1 n1 => ?_⟩
        refine ⟨.ref td, rfl, nS ti.a, rfl, nS ti.b, rfl, two_sz, fun u2 n2 => ?_⟩
        refine ⟨td, .ref v0, rfl, .inr ⟨kvs, [Sum.inr (SX.S ti.a), Sum.inr (SX.S ti.b)], u2, .inr ⟨od, same_upd n2 _ _ (same_upd n1 _ _ etd5)⟩, rfl, upd_same, (val_at knd ekv).symm⟩, ?_⟩
        refine ⟨u1, v0, [nS ti.a, nS ti.b], [nS ti.ln, .int ti.ch], rfl, rfl, SqT.of (same_upd n2 _ _ upd_same), SqT.of (same_upd n2 _ _ (same_upd n1 _ _ (tk5 _ _ ev3))), by simp, four_sz (x := nS ti.a) (y := nS ti.b) (z := nS ti.ln) (u := .int ti.ch), fun h => (by cases h), fun _ u3 n3 => ?_⟩
        have s6 := (same_upd (o := .tup [nS ti.a, nS ti.b]) n1).trans ((same_upd (o := .tup [nS ti.a, nS ti.b]) n2).trans (same_upd (o := .tup ([nS ti.a, nS ti.b] ++ [nS ti.ln, .int ti.ch])) n3))
        have eu3 : (upd (upd (upd H5 u1 (.tup [nS ti.a, nS ti.b])) u2 (.tup [nS ti.a, nS ti.b])) u3 (.tup ([nS ti.a, nS ti.b] ++ [nS ti.ln, .int ti.ch]))) u3 = some (.tup [nS ti.a, nS ti.b, nS ti.ln, .int ti.ch]) := upd_same
        generalize upd (upd (upd H5 u1 (.tup [nS ti.a, nS ti.b])) u2 (.tup [nS ti.a, nS ti.b])) u3 (.tup ([nS ti.a, nS ti.b] ++ [nS ti.ln, .int ti.ch])) = H6 at s6 eu3 ⊢
        have eR6 := s6 _ _ eR5
        have b6 := b5.keep s6
        have il : i < tis.length := (List.getElem?_eq_some_iff.mp eti).1
        refine ⟨.ref R, rfl, .inl ⟨rfl, _, SqL.of eR6⟩, .ref p, rfl, .ref R, rfl, R, ra.map V.ref, rfl, .inl (SqL.of eR6), _, 1, rfl, rfl, p, (ra.length : Int) + 1, by dsimp only; rw [List.length_map]; rfl, b6, by omega, by omega, fun H7 d k7 b7 d0 d1 => ?_⟩
        have eR7 := k7 _ _ nRp eR6
        refine ⟨.ref u3, rfl, R, _, d, .ref u3, rfl, rfl, eR7, by rw [List.length_map]; exact small5000 (by omega), d0, by omega, ?_⟩
        have tk7 : TK H6 (upd H7 R (.lst ((ra.map V.ref).take d.toNat ++ [.ref u3] ++ (ra.map V.ref).drop d.toNat))) := (TK.keep k7 b6).trans (.upd fun xs e => by rw [eR7] at e; cases e)
        have nRf : (upd H td (.frz od (.dT kvs))) R = none := by rw [upd_ne nRtd]; exact nR0
        refine ⟨_, _, _, ra.take d.toNat ++ [u3] ++ ra.drop d.toNat, rws.take d.toNat ++ [ti] ++ rws.drop d.toNat, rfl, (k5.trans ((Keep.of s6).trans k7)).set nRf, b7.at (upd_ne nRp.symm), ?_, ?_, ?_, tk5.trans ((TK.of s6).trans tk7), by rw [upd_same, ins_map], paired_ins _ (paired_imp hR fun x _ y e => tk7 _ _ (s6 _ _ e)) (tk7 _ _ eu3), ?_, ?_⟩
        · rw [upd_ne nRtd.symm]
          exact k7 _ _ ntp (s6 _ _ etd5)
        · rw [upd_ne nSR]
          exact k7 _ _ nSp (s6 _ _ eS5)
        · rw [upd_ne nJR]
          exact k7 _ _ nJp (s6 _ _ eJ5)
        · simp only [List.length_append, List.length_take, List.length_drop, List.length_cons, List.length_nil]
          omega
        · rw [List.take_add_one, eti]
          exact (perm_ins _ _ _).trans (pR.append_right _)
      · obtain ⟨y9, y10, y11, ra, rws, rfl, k5, b5, etd5, eS5, eJ5, tk5, eR5, hR, lR, pR⟩ := hp
        rw [paired_len hkt, List.take_length] at pR
        refine ⟨etd5, ?_⟩
        have kf : Keep p H (upd H5 td (.dT kvs)) := fun c o nc ec => by
          by_cases z : c = td
          · rw [z] at ec ⊢
            rw [upd_same, ← etd]
            exact ec
          · rw [upd_ne z]
            exact k5 _ _ nc (by rw [upd_ne z]; exact ec)
        have bf : Bag (upd H5 td (.dT kvs)) p := b5.at (upd_ne ntp.symm)
        have tkf : TK H5 (upd H5 td (.dT kvs)) := .upd fun xs e => by rw [etd5] at e; cases e
        have eSf : (upd H5 td (.dT kvs)) S = some (.lst (sa.map V.ref)) := by rw [upd_ne nStd]; exact eS5
        have eJf : (upd H5 td (.dT kvs)) J = some (.lst (ja.map V.ref)) := by rw [upd_ne nJtd]; exact eJ5
        have eRf : (upd H5 td (.dT kvs)) R = some (.lst (ra.map V.ref)) := by rw [upd_ne nRtd]; exact eR5
        generalize upd H5 td (.dT kvs) = Hf at kf bf tkf eSf eJf eRf ⊢
        have elf := kf _ _ nlp eln
        refine ⟨.ref ln, rfl, ln, _, rfl, SqL.of elf, fun a Ha na sa' ta' ua => ?_⟩
        refine ⟨.ref S, rfl, S, _, rfl, SqL.of (sa' _ _ eSf), fun b' Hb nb sb' tb' ub => ?_⟩
        refine ⟨.ref J, rfl, J, _, rfl, SqL.of (sb' _ _ (sa' _ _ eJf)), fun c Hc nc sc' tc' uc => ?_⟩
        refine ⟨.ref R, rfl, R, _, rfl, SqL.of (sc' _ _ (sb' _ _ (sa' _ _ eRf))), fun d Hd nd sd' td' ud => ?_⟩
        refine ⟨four_sz, fun r nr => ?_⟩
        have sr' := same_upd (o := .tup [.ref a, .ref b', .ref c, .ref d]) nr
        have sf := sa'.trans (sb'.trans (sc'.trans (sd'.trans sr')))
        have tkr : TK H5 _ := tkf.trans (.of sf)
        have nrf : Hf r = none := sa'.free (sb'.free (sc'.free (sd'.free nr)))
        refine q _ r sts jns rws (kf.trans (.of sf)) (bf.keep sf) ⟨a, b', c, d, sa, ja, ra, upd_same, (((ta'.same sb').same sc').same sd').same sr', ((tb'.same sc').same sd').same sr', paired_imp hS fun x _ y e => tkr _ _ (tk5 _ _ e), (tc'.same sd').same sr', paired_imp hJ (fun x _ y ⟨z, f1, f2⟩ => ⟨z, tkr _ _ (tk5 _ _ f1), tkr _ _ (tk5 _ _ f2)⟩), td'.same sr', paired_imp hR fun x _ y e => tkr _ _ e⟩ pS pJ pR (kf.free b nrf bf)
end
end Th
namespace Th
open PySem PySem.Spec PyProof.Rows L2
/-! the drawn net -/
def TieOk (zs : List Nm) (qs : List (List Nat)) (ls : List Nm) (t : Ti) : Prop := ∃ (i j x : Nat) (a b : List Nat), i ≠ j ∧ zs[i]? = some t.a ∧ zs[j]? = some t.b ∧ qs[i]? = some a ∧ qs[j]? = some b ∧ x ∈ a ∧ x ∈ b ∧ ls[x]? = some t.ln ∧ 1 ≤ t.ch ∧ t.ch ≤ 9999
def Apart (s t : Ti) : Prop := ¬ (s.a = t.a ∧ s.b = t.b) ∧ ¬ (s.a = t.b ∧ s.b = t.a)
structure NetOk (ls zs : List Nm) (qs : List (List Nat)) (J : Nat) (tis : List Ti) : Prop where
  l1 : 1 ≤ ls.length
  l8 : ls.length ≤ 8
  lnd : ls.Nodup
  lnm : ∀ z ∈ ls, IsNm z
  q : PlQ ls.length J qs
  lz : zs.length = qs.length
  znd : zs.Nodup
  znm : ∀ z ∈ zs, IsNm z
  ok : ∀ t ∈ tis, TieOk zs qs ls t
  ap : tis.Pairwise Apart
  way : ∀ i, i < J + 1 → ∃ t ∈ tis, zs[i]? = some t.a ∧ zs[i + 1]? = some t.b
  t40 : tis.length ≤ 40
theorem nms_of {ls : List Nm} (h : ∀ k l, ls[k]? = some l → NmAt k l) : ∀ z ∈ ls, IsNm z := fun z hz => by
  obtain ⟨k, hk⟩ := List.getElem?_of_mem hz
  exact (h k z hk).nm
theorem PlAt.at {p : Addr} {H : Hp} {l : Addr} {ts as : List Addr} {zs qs : List (List Nat)} (h : PlAt p H l ts zs as qs) {i : Nat} (hi : i < qs.length) :
    ∃ t z a js, ts[i]? = some t ∧ zs[i]? = some z ∧ as[i]? = some a ∧ qs[i]? = some js ∧ H t = some (.tup [nS z, .ref a]) ∧ H a = some (.lst (jV js)) ∧ t ≠ p ∧ a ≠ p := by
  have et : ts[i]? = some (ts[i]'(by rw [h.lt]; exact hi)) := List.getElem?_eq_getElem _
  obtain ⟨pr, epr, etup⟩ := paired_get h.tup et
  rw [List.getElem?_zip_eq_some, List.getElem?_map, List.getElem?_map] at epr
  obtain ⟨z, ez, ez1⟩ : ∃ z, zs[i]? = some z ∧ pr.1 = nS z := by
    cases h : zs[i]? with
    | none => rw [h] at epr; cases epr.1
    | some z => rw [h] at epr; exact ⟨z, rfl, (Option.some.inj epr.1).symm⟩
  obtain ⟨a, ea, ea1⟩ : ∃ a, as[i]? = some a ∧ pr.2 = .ref a := by
    cases h : as[i]? with
    | none => rw [h] at epr; cases epr.2
    | some z => rw [h] at epr; exact ⟨z, rfl, (Option.some.inj epr.2).symm⟩
  rw [ez1, ea1] at etup
  obtain ⟨js, ejs, eas⟩ := paired_get h.ll ea
  exact ⟨_, z, a, js, et, ez, ea, ejs, etup, eas, h.np.2.1 _ (List.mem_of_getElem? et), h.np.2.2 a (List.mem_of_getElem? ea)⟩
theorem PlQ.each {n J : Nat} {qs : List (List Nat)} (h : PlQ n J qs) (n8 : n ≤ 8) : ∀ js ∈ qs, 1 ≤ js.length ∧ js.length ≤ 8 ∧ ∀ j ∈ js, j < n := by
  obtain ⟨f, l, ss, tw, rfl, h1, h2, hf, hl, htw, _, _⟩ := h.form
  have one : ∀ x, x < n → 1 ≤ [x].length ∧ [x].length ≤ 8 ∧ ∀ j ∈ [x], j < n := fun x hx => ⟨by simp, by simp, fun j hj => by rw [List.mem_singleton.mp hj]; exact hx⟩
  intro js hj
  rcases List.mem_append.mp hj with z | z
  · rcases List.mem_append.mp z with z | z
    · rcases List.mem_cons.mp z with z | z
      · rw [z]
        exact one f hf
      · have s := h2 js z
        exact ⟨by have := s.two; omega, s.len8 n8, s.lt⟩
    · rw [List.mem_singleton.mp z]
      exact one l hl
  · obtain ⟨x, hx, rfl⟩ := List.mem_map.mp z
    exact one x (htw x hx)
theorem PlQ.count {n J : Nat} {qs : List (List Nat)} (h : PlQ n J qs) : qs.countP (fun js => decide (1 < js.length)) = J := by
  obtain ⟨f, l, ss, tw, rfl, h1, h2, _⟩ := h.form
  have e1 : ss.countP (fun js => decide (1 < js.length)) = ss.length := List.countP_eq_length.mpr fun js hj => decide_eq_true (by have := (h2 js hj).two; omega)
  have e2 : (tw.map fun x => [x]).countP (fun js : List Nat => decide (1 < js.length)) = 0 := List.countP_eq_zero.mpr fun js hj => by
    obtain ⟨x, _, rfl⟩ := List.mem_map.mp hj
    simp
  rw [List.countP_append, List.countP_append, List.countP_cons, e1, e2, List.countP_singleton, h1]
  simp
theorem tid_none {H : Hp} {kvs : List (List Key × V)} {tis : List Ti} (h : Paired (fun kv (t : Ti) => kv.1 = [Sum.inr (SX.S t.a), Sum.inr (SX.S t.b)] ∧ ∃ v, kv.2 = .ref v ∧ H v = some (.tup [nS t.ln, .int t.ch])) kvs tis) (a b : Nm) :
    valV kvs [Sum.inr (SX.S a), Sum.inr (SX.S b)] = none ↔ ∀ t ∈ tis, ¬ (t.a = a ∧ t.b = b) := by
  induction h with
  | nil => exact ⟨fun _ t ht => (by cases ht), fun _ => rfl⟩
  | @cons kv t kvs tis hk _ ih =>
    by_cases e : t.a = a ∧ t.b = b
    · rw [valV_pos (by rw [hk.1, e.1, e.2])]
      exact ⟨fun z => (by cases z), fun z => absurd e (z t (List.mem_cons_self ..))⟩
    · rw [valV_neg (fun z => e (by
        rw [hk.1] at z
        simp only [List.cons.injEq, Sum.inr.injEq, and_true] at z
        exact ⟨SX.S_inj z.1, SX.S_inj z.2⟩)), ih]
      exact ⟨fun z x hx => (List.mem_cons.mp hx).elim (fun q => by rw [q]; exact e) (z x), fun z x hx => z x (List.mem_cons_of_mem _ hx)⟩
theorem key_none {kvs : List (List Key × V)} {k : List Key} (h : valV kvs k = none) : k ∉ kvs.map (·.1) := fun z => by
  obtain ⟨kv, h1, h2⟩ := List.mem_map.mp z
  have := valV_any k kvs
  rw [h] at this
  have h3 : (kvs.any fun kv => decide (kv.1 = k)) = true := List.any_eq_true.mpr ⟨kv, h1, decide_eq_true h2⟩
  rw [h3] at this
  cases this
theorem jV_app (a b : List Nat) : jV (a ++ b) = jV a ++ jV b := List.map_append
theorem nodup_inj {α : Type} {zs : List α} (h : zs.Nodup) {x y : Nat} {z : α} (h1 : zs[x]? = some z) (h2 : zs[y]? = some z) : x = y := by
  rw [List.nodup_iff_pairwise_ne, List.pairwise_iff_getElem] at h
  obtain ⟨l1, g1⟩ := List.getElem?_eq_some_iff.mp h1
  obtain ⟨l2, g2⟩ := List.getElem?_eq_some_iff.mp h2
  rcases Nat.lt_trichotomy x y with c | c | c
  · exact absurd (g1.trans g2.symm) (h x y l1 l2 c)
  · exact c
  · exact absurd (g2.trans g1.symm) (h y x l2 l1 c)
theorem TiD.keep {p td : Addr} {H H' : Hp} {tis : List Ti} (h : TiD H td tis) (k : Keep p H H') (b : Bag H p) : TiD H' td tis := by
  obtain ⟨kvs, e, nd, hp⟩ := h
  have n : td ≠ p := fun z => by
    obtain ⟨g, r, e', _⟩ := b
    rw [z, e'] at e
    cases e
  exact ⟨kvs, k _ _ n e, nd, paired_imp hp fun kv _ t ⟨h1, v, h2, h3⟩ => ⟨h1, v, h2, (TK.keep k b) _ _ h3⟩⟩
theorem Chained.at : ∀ {l : List (List Nat)} {i : Nat} {a b : List Nat}, Chained l → l[i]? = some a → l[i + 1]? = some b → ∃ x, x ∈ a ∧ x ∈ b
  | [], _, _, _, _, h, _ => by simp at h
  | [_], 0, _, _, _, _, h => by simp at h
  | [_], i + 1, _, _, _, h, _ => by simp at h
  | c :: d :: r, 0, a, b, hc, h1, h2 => by
    have e1 := Option.some.inj h1
    have e2 := Option.some.inj h2
    subst e1
    subst e2
    exact hc.1
  | c :: d :: r, i + 1, a, b, hc, h1, h2 => Chained.at (l := d :: r) (i := i) hc.2 h1 h2
theorem PlQ.chain {n J : Nat} {qs : List (List Nat)} (h : PlQ n J qs) {i : Nat} (hi : i < J + 1) {a b : List Nat} (e1 : qs[i]? = some a) (e2 : qs[i + 1]? = some b) : ∃ x, x ∈ a ∧ x ∈ b := by
  obtain ⟨f, l, ss, tw, rfl, h1, _, _, _, _, hc, _⟩ := h.form
  have hl : (([f] :: ss) ++ [[l]]).length = J + 2 := by simp [h1]
  rw [List.getElem?_append_left (by omega)] at e1 e2
  exact Chained.at hc e1 e2
abbrev jI (js : List Nat) : List Int := js.map fun j => ((j : Nat) : Int)
theorem jV_ints (js : List Nat) : jV js = (jI js).map V.int := by rw [List.map_map]; rfl
/-- a place as data -/
abbrev plD (z : Nm) (js : List Nat) : PyData := .tuple [.str (SX.S z), dI (jI js)]
theorem dt_pl {H : Hp} {t a : Addr} {z : Nm} {js : List Nat} (e : H t = some (.tup [nS z, .ref a])) (ea : H a = some (.lst (jV js))) (h : js.length ≤ 5000) : Dt SA H (.ref t) (plD z js) :=
  .tup trivial e (by show 2 ≤ 5000; decide) (.cons (.str _) (.cons (dt_ints (by rw [ea, jV_ints]) (by rw [List.length_map]; exact h)) .nil))
theorem nm_ok {z : Nm} (h : IsNm z) : PyData.strOk (SX.S z) = true := by
  unfold PyData.strOk
  rw [Array.all_eq_true']
  intro c hc
  have hc : c ∈ z := by simpa [SX.S] using hc
  have := h.2.2 c hc
  exact decide_eq_true (by omega)
theorem lay_pl {z : Nm} (hz : IsNm z) (js : List Nat) : (plD z js).canLay0 = true := by
  show (PyData.strOk (SX.S z) && (PyData.canLay0 (dI (jI js)) && true)) = true
  rw [lay_ints, nm_ok hz]
  rfl
theorem shaped_pl {z : Nm} (hz : IsNm z) (js : List Nat) : SeqAt.shaped (plD z js) = true := Bool.and_eq_true_iff.mpr ⟨lay_pl hz js, decide_eq_true (by
  show max 0 (max (PyData.depth (dI (jI js))) 0) + 1 ≤ _
  rw [depth_ints]
  decide)⟩
theorem eqv_pl {z z' : Nm} {js js' : List Nat} (h : PyData.eqv (plD z js) (plD z' js') = true) : z = z' := by
  have h : (PyData.eqv (.str (SX.S z)) (.str (SX.S z')) && (PyData.eqv (dI (jI js)) (dI (jI js')) && true)) = true := h
  exact SX.S_inj (eq_of_beq (Bool.and_eq_true_iff.mp h).1)
theorem in_ints {x : Nat} {js : List Nat} : inV (.int (x : Nat)) (jV js) = decide (x ∈ js) := by
  unfold inV
  rw [List.any_map]
  by_cases h : x ∈ js
  · rw [decide_eq_true h]
    exact List.any_eq_true.mpr ⟨x, h, by show ((x : Int) == (x : Int)) = true; simp⟩
  · rw [decide_eq_false h]
    refine List.any_eq_false.mpr fun y hy z => h ?_
    have z : (((y : Nat) : Int) == ((x : Nat) : Int)) = true := z
    have := eq_of_beq z
    rw [show x = y by omega]
    exact hy
theorem flat_ints (js : List Nat) : (jV js).all flatV = true := List.all_eq_true.mpr fun x hx => by
  obtain ⟨j, _, rfl⟩ := List.mem_map.mp hx
  rfl
section
variable {P : Program} {w : World} {K : PySem.W.Frag} {mg : Str → Option Value} {base : Heap} {k : Nat}
def sp_l_net : Sp := fun vs H Q _ => ∃ p, vs = [.ref p] ∧ Bag H p ∧ ∀ (H' : Hp) (r nt wy : Addr) (ls zs : List Nm) (qs : List (List Nat)) (J : Nat) (tis : List Ti) (sts : List (Nm × Nm)) (jns : List (Nm × List Nm)) (rws : List Ti), Keep p H H' → Bag H' p → H' r = some (.tup [.ref nt, .ref wy]) →
  NetAt H' nt ls sts jns rws → TpF H' wy ((zs.take (J + 2)).map nS) → NetOk ls zs qs J tis → sts.Perm ((zs.zip qs).filterMap (stOf ls)) → jns.Perm ((zs.zip qs).filterMap (jnOf ls)) → rws.Perm tis → Q (.ref r) H'
set_option maxHeartbeats 8000000 in
theorem ok_l_net (T : Defs K mg) : FnOk P w K mg base CX0 (k + 4) T.a_l_net T.d_l_net ["_law_bag_here"] sp_l_net := by
  have G_l_take : FnOk P w K mg base CX0 (k + 3) _ _ _ _ := ok_l_take (k := k + 2) T
  have G_l_names : FnOk P w K mg base CX0 (k + 3) _ _ _ _ := ok_l_names (k := k + 1) T
  have G_l_places : FnOk P w K mg base CX0 (k + 3) _ _ _ _ := ok_l_places T
  have G_l_laid : FnOk P w K mg base CX0 (k + 3) _ _ _ _ := ok_l_laid (k := k + 1) T
  refine T.F_l_net.ok sc_l_net (fun vs H Q E h => ?_) (fun cdv A outer s H vs Q E hr h => ?_)
  · obtain ⟨p, rfl, _⟩ := h
    rfl
  · obtain ⟨p, rfl, b, q⟩ := h
    refine ⟨_, PSs.nox
(pss_cons (ps_set (i := 1) sc_l_net.nd rfl (.inl rfl) (pe_ix (r := rIxT K) ix_tup (pe_tup (pa_cons (pe_int) (pa_cons (pe_int) (pa_cons (pe_int) (pa_cons (pe_int) (pa_cons (pe_int) (pa_cons (pe_int) (pa_cons (pe_int) (pa_cons (pe_int) pa_nil))))))))) (pe_call G_l_take hr (by rfl) T.g_l_take T.F_l_take.kp T.b_l_take .nil pass0 (pa_cons (pv 0) (pa_cons (pe_int) pa_nil))) (fun _ _ => rfl)))
    (pss_cons (ps_set (i := 2) sc_l_net.nd rfl (.inl rfl) (pe_call G_l_names hr (by rfl) T.g_l_names T.F_l_names.kp T.b_l_names .nil pass0 (pa_cons (pv 0) (pa_cons (pv 1) pa_nil))))
    (pss_cons (ps_set (i := 3) sc_l_net.nd rfl (.inl rfl) (pe_call G_l_places hr (by rfl) T.g_l_places T.F_l_places.kp T.b_l_places .nil pass0 (pa_cons (pv 0) (pa_cons (pv 1) pa_nil))))
    (Evl.pss_cut (ps_if (pt_cmpR op_eq (pe_call G_l_take hr (by rfl) T.g_l_take T.F_l_take.kp T.b_l_take .nil pass0 (pa_cons (pv 0) (pa_cons (pe_int) pa_nil))) (pe_int) (nomark _))
      (pss_one (ps_asg (pe_ix (r := rIxT K) ix_tup (pe_ix (r := rIxL K) ix_list (pv 3) (pe_int) (fun _ _ => rfl)) (pe_int) (fun _ _ => rfl)) (pg_sub (pv 2) (pe_int) set_list)))
      pss_nil)
    (pss_cons (ps_set (i := 4) sc_l_net.nd rfl (.inl rfl) (pe_op op_add (pe_int) (pe_callB (r := rLenS K) call_lenS (by rfl) T.z_len (by decide +kernel) (pa_cons (pe_lc (own := [("_law_one", 7)]) (g := gName 7) rfl sc_l_net.nd (pi_list (pv 3)) (blkOk_by (N := N_l_net) (sc := defScope s_l_net) (by decide +kernel)) (fun _ _ _ _ _ => (pg_name (i := 7) sc_l_net.nd rfl (.inl rfl))) (fun _ _ _ _ _ => pts_one (pt_cmpR op_gt (pe_callB (r := rLenS K) call_lenS (by rfl) T.z_len (by decide +kernel) (pa_cons (pe_ix (r := rIxT K) ix_tup (pv 7) (pe_int) (fun _ _ => rfl)) pa_nil)) (pe_int) (nomark _))) (fun _ _ _ _ _ => (pv 7))) pa_nil))))
    (pss_cons (ps_set (i := 5) sc_l_net.nd rfl (.inl rfl) (pe_dnewT))
    (pss_cons (ps_for PassesOwn.never rfl (pi_range1 (by rfl) T.z_range (pa_cons (pe_op op_add (pe_op op_sub (pv 4) (pe_int)) (pe_call G_l_take hr (by rfl) T.g_l_take T.F_l_take.kp T.b_l_take .nil pass0 (pa_cons (pv 0) (pa_cons (pe_int) pa_nil)))) pa_nil)) (pg_name (i := 6) sc_l_net.nd rfl (.inl rfl))
      (pss_cons (ps_set (i := 7) sc_l_net.nd rfl (.inl rfl) (pe_ix (r := rIxL K) ix_list (pv 3) (pe_op op_mod (pv 6) (pe_callB (r := rLenS K) call_lenS (by rfl) T.z_len (by decide +kernel) (pa_cons (pv 3) pa_nil))) (fun _ _ => rfl)))
      (pss_cons (ps_set (i := 8) sc_l_net.nd rfl (.inr rfl) (pe_ix (r := rIxL K) ix_list (pv 3) (pe_op op_mod (pe_op op_add (pv 6) (pe_int)) (pe_callB (r := rLenS K) call_lenS (by rfl) T.z_len (by decide +kernel) (pa_cons (pv 3) pa_nil))) (fun _ _ => rfl)))
      (Evl.pss_cut (ps_if (pt_cmpR op_ge (pv 6) (pe_op op_sub (pv 4) (pe_int)) (nomark _))
        (pss_cons (ps_set (i := 7) sc_l_net.nd rfl (.inl rfl) (pe_ix (r := rIxL K) ix_list (pv 3) (pe_call G_l_take hr (by rfl) T.g_l_take T.F_l_take.kp T.b_l_take .nil pass0 (pa_cons (pv 0) (pa_cons (pe_callB (r := rLenS K) call_lenS (by rfl) T.z_len (by decide +kernel) (pa_cons (pv 3) pa_nil)) pa_nil))) (fun _ _ => rfl)))
        (pss_one (ps_set (i := 8) sc_l_net.nd rfl (.inr rfl) (pe_ix (r := rIxL K) ix_list (pv 3) (pe_call G_l_take hr (by rfl) T.g_l_take T.F_l_take.kp T.b_l_take .nil pass0 (pa_cons (pv 0) (pa_cons (pe_callB (r := rLenS K) call_lenS (by rfl) T.z_len (by decide +kernel) (pa_cons (pv 3) pa_nil)) pa_nil))) (fun _ _ => rfl)))))
        pss_nil)
      (pss_cons (ps_setLc (i := 9) (own := [("_law_line", 12)]) (g := gName 12) rfl sc_l_net.nd rfl rfl (sw_true rfl rfl rfl (by decide +kernel)) (pi_list (pe_ix (r := rIxT K) ix_tup (pv 7) (pe_int) (fun _ _ => rfl))) (blkOk_by (N := N_l_net) (sc := defScope s_l_net) (by decide +kernel)) (fun _ _ _ _ _ => (pg_name (i := 12) sc_l_net.nd rfl (.inl rfl))) (fun _ _ _ _ _ => pts_one (pt_cmpR (r := rIn K false) op_in_seq (pv 12) (pe_ix (r := rIxT K) ix_tup (pv 8) (pe_int) (fun _ _ => rfl)) (by rfl))) (fun _ _ _ _ _ => (pv 12)))
      (pss_cons (ps_set (i := 10) sc_l_net.nd rfl (.inl rfl) (pe_op op_add (pe_int) (pe_call G_l_take hr (by rfl) T.g_l_take T.F_l_take.kp T.b_l_take .nil pass0 (pa_cons (pv 0) (pa_cons (pe_ix (r := rIxT K) ix_tup (pe_tup (pa_cons (pe_int) (pa_cons (pe_int) (pa_cons (pe_int) pa_nil)))) (pe_call G_l_take hr (by rfl) T.g_l_take T.F_l_take.kp T.b_l_take .nil pass0 (pa_cons (pv 0) (pa_cons (pe_int) pa_nil))) (fun _ _ => rfl)) pa_nil)))))
      (Evl.pss_cut (ps_set (i := 11) sc_l_net.nd rfl (.inl rfl) (pe_or (pe_cmp (pc_din (hu_of hr) (pe_tup (pa_cons (pe_ix (r := rIxT K) ix_tup (pv 7) (pe_int) (fun _ _ => rfl)) (pa_cons (pe_ix (r := rIxT K) ix_tup (pv 8) (pe_int) (fun _ _ => rfl)) pa_nil))) (pv 5))) (pe_one (pe_cmp (pc_din (hu_of hr) (pe_tup (pa_cons (pe_ix (r := rIxT K) ix_tup (pv 8) (pe_int) (fun _ _ => rfl)) (pa_cons (pe_ix (r := rIxT K) ix_tup (pv 7) (pe_int) (fun _ _ => rfl)) pa_nil))) (pv 5))))))
      (pss_one (ps_if (PW.pt (pw_and (pt_cmpR (r := rNeD K) (op_neD hr.units) (pv 7) (pv 8) (nomark _)) (pw_and (pt_cmpR (r := rNeD K) (op_neD hr.units) (pv 9) (pe_lst pa_nil) (nomark _)) (pw_and1 (pt_not (pt_val (pv 11)))))))
        (pss_one (ps_dput (hu_of hr) (pv 5) (pe_tup (pa_cons (pe_ix (r := rIxT K) ix_tup (pv 7) (pe_int) (fun _ _ => rfl)) (pa_cons (pe_ix (r := rIxT K) ix_tup (pv 8) (pe_int) (fun _ _ => rfl)) pa_nil))) (pe_tup (pa_cons (pe_ix (r := rIxL K) ix_list (pv 2) (pe_ix (r := rIxL K) ix_list (pv 9) (pe_call G_l_take hr (by rfl) T.g_l_take T.F_l_take.kp T.b_l_take .nil pass0 (pa_cons (pv 0) (pa_cons (pe_callB (r := rLenS K) call_lenS (by rfl) T.z_len (by decide +kernel) (pa_cons (pv 9) pa_nil)) pa_nil))) (fun _ _ => rfl)) (fun _ _ => rfl)) (pa_cons (pv 10) pa_nil))) (by rfl)))
        pss_nil)))))))))
    (pss_one (ps_ret (pe_tup (pa_cons (pe_call G_l_laid hr (by rfl) T.g_l_laid T.F_l_laid.kp T.b_l_laid .nil pass0 (pa_cons (pv 0) (pa_cons (pv 2) (pa_cons (pv 3) (pa_cons (pv 5) pa_nil))))) (pa_cons (pe_callTy (r := rTupF K) call_tuple_ofF (by rfl) T.z_tuple (by decide +kernel) (pa_cons (pe_lc (own := [("_law_one", 7)]) (g := gName 7) rfl sc_l_net.nd (pi_list (pe_slice sl_list (pv 3) po_none (po_some (pv 4)))) (blkOk_by (N := N_l_net) (sc := defScope s_l_net) (by decide +kernel)) (fun _ _ _ _ _ => (pg_name (i := 7) sc_l_net.nd rfl (.inl rfl))) (fun _ _ _ _ _ => pts_nil) (fun _ _ _ _ _ => (pe_ix (r := rIxT K) ix_tup (pv 7) (pe_int) (fun _ _ => rfl)))) pa_nil)) pa_nil))))))))))))
      , ?_⟩
    refine ⟨by decide, fun t nt => ?_⟩
    have ntp : t ≠ p := b.ne nt
    refine ⟨.ref p, rfl, p, 8, rfl, b.keep (same_upd nt), by decide, by decide, fun H1 d k1 b1 d0 d1 => ?_⟩
    obtain ⟨m0, hm0, em0⟩ := pick (ms := [3, 8, 2, 5, 1, 4, 6, 7]) d0 d1
    refine ⟨t, _, d, _, rfl, rfl, SqT.of (k1 _ _ ntp upd_same), em0, ?_⟩
    have k1 : Keep p H H1 := (Keep.of (same_upd nt)).trans k1
    obtain ⟨n, rfl, n1, n8⟩ : ∃ n : Nat, m0 = (n : Int) ∧ 1 ≤ n ∧ n ≤ 8 := by
      simp only [List.mem_cons, List.not_mem_nil, or_false] at hm0
      exact ⟨m0.toNat, by omega, by omega, by omega⟩
    -- lines
    refine ⟨.ref p, rfl, .int n, rfl, p, n, rfl, b1, by omega, fun H2 ln ls0 k2 b2 nln eln hl0 _ _ nat0 => ?_⟩
    have nln0 : H ln = none := k1.free b nln b1
    have nlp : ln ≠ p := b1.ne nln
    have k2 := k1.trans k2
    -- places
    refine ⟨.ref p, rfl, .int n, rfl, p, n, rfl, b2, n1, n8, fun H3 pl ts as zs qs J k3 b3 pa pq znd znm znat npl nts nas => ?_⟩
    have eln3 := k3 _ _ nlp eln
    have k3 := k2.trans k3
    have lnpl : ln ≠ pl := ne_of_none eln npl
    have lnts : ∀ a ∈ ts, ln ≠ a := fun a ha => ne_of_none eln (nts a ha)
    have lnas : ∀ a ∈ as, ln ≠ a := fun a ha => ne_of_none eln (nas a ha)
    have hN := pq.len
    -- a line by a place's name
    refine ⟨fun σ H5 => ∃ ls : List Nm, σ = [some (.ref p), some (.int n), some (.ref ln), some (.ref pl), none, none, none, none, none, none, none, none, none] ∧ Keep p H H5 ∧ Bag H5 p ∧ PlAt p H5 pl ts zs as qs ∧ H5 ln = some (.lst (ls.map nS)) ∧ ls.length = n ∧ ∀ k l, ls[k]? = some l → NmAt k l, ?_, fun σ H5 mid => ?_⟩
    · refine ⟨.ref p, rfl, p, 3, rfl, b3, by decide, by decide, fun H4 d4 k4 b4 d40 d41 => ⟨rfl, _, rfl, ite2 (fun c => ?_) (fun c => ?_)⟩⟩
      · obtain ⟨t0, z0, a0, j0, et0, ez0, _, _, e0, _, nt0, _⟩ := (pa.keep k4).at (i := 0) (by omega)
        refine ⟨.ref pl, rfl, pl, ts.map V.ref, 0, .ref t0, rfl, rfl, SqL.of (pa.keep k4).lst, atI_nat (j := 0) (by rw [List.getElem?_map, et0]; rfl), t0, [nS z0, .ref a0], 0, nS z0, rfl, rfl, SqT.of e0, atI_nat (j := 0) rfl, ?_⟩
        refine ⟨.ref ln, rfl, ln, _, 0, 0, rfl, rfl, k4 _ _ nlp eln3, ?_, ?_⟩
        · rw [List.length_map, hl0]
          exact Evl.ixN_nat n1
        have eset : (ls0.map nS).set 0 (nS z0) = (ls0.set 0 z0).map nS := by rw [List.map_set]
        refine ⟨ls0.set 0 z0, rfl, (k3.trans k4).set nln0, b4.at (upd_ne nlp.symm), ?_, by rw [upd_same, eset], by rw [List.length_set, hl0], fun k l hk => ?_⟩
        · have pk := pa.keep k4
          refine ⟨by rw [upd_ne lnpl.symm]; exact pk.lst, paired_imp pk.tup fun a ha x e => by rw [upd_ne (lnts a ha).symm]; exact e, paired_imp pk.ll fun a ha x e => by rw [upd_ne (lnas a ha).symm]; exact e, pk.lz, pk.lt, pk.np⟩
        · rw [List.getElem?_set] at hk
          split at hk
          · rename_i z
            subst z
            split at hk
            · have := Option.some.inj hk
              subst this
              exact znat 0 _ ez0
            · cases hk
          · exact nat0 k l hk
      · exact ⟨ls0, rfl, k3.trans k4, b4, pa.keep k4, k4 _ _ nlp eln3, hl0, nat0⟩
    obtain ⟨ls, rfl, k5, b5, pa5, eln5, hln, lnat⟩ := mid
    -- row
    refine ⟨.ref pl, rfl, pl, rfl, ⟨_, SqL.of pa5.lst⟩, fun D nD => ?_⟩
    have lts : (ts.map V.ref).length = qs.length := by rw [List.length_map, pa5.lt]
    refine lc_it (walk_list (xs := ts.map V.ref)) (fun i H6 => Same H5 H6 ∧ ∃ xs : List V, H6 D = some (.lst xs) ∧ xs.length = (qs.take i).countP (fun js => decide (1 < js.length))) ⟨same_upd nD, [], upd_same, by rw [List.take_zero]; rfl⟩ (fun i H6 _ pv => SqL.of (pv.1 _ _ pa5.lst)) (fun i x H6₀ H6 hi pv y => ?_) (fun H6 pv => ?_)
    · obtain ⟨rfl, ex⟩ := y
      obtain ⟨s6, xs, eD, hxs⟩ := pv
      rw [lts] at hi
      obtain ⟨t1, z1, a1, js, et1, ez1, ea1, ejs, e1, e2, nt1, na1⟩ := pa5.at hi
      have hx : x = .ref t1 := by
        rw [List.getElem?_map, et1] at ex
        exact (Option.some.inj ex).symm
      subst hx
      have hc1 : (qs.take (i + 1)).countP (fun js => decide (1 < js.length)) = (qs.take i).countP (fun js => decide (1 < js.length)) + if 1 < js.length then 1 else 0 := by
        rw [List.take_add_one, ejs, List.countP_append]
        show _ + List.countP _ [js] = _
        rw [List.countP_singleton]
        simp
      refine ⟨rfl, .ref t1, rfl, t1, [nS z1, .ref a1], 1, .ref a1, rfl, rfl, SqT.of (s6 _ _ e1), atI_nat (j := 1) rfl, a1, jV js, rfl, .inl (SqL.of (s6 _ _ e2)), _, 1, rfl, rfl, _, rfl, ite2 (fun c => ?_) (fun c => ?_)⟩
      · have c := of_decide_eq_true c
        rw [List.length_map] at c
        refine ⟨.ref t1, rfl, xs, eD, ?_, same_set s6 nD, _, upd_same, ?_⟩
        · rw [hxs]
          refine small5000 (Nat.le_trans List.countP_le_length ?_)
          rw [List.length_take]
          omega
        · rw [List.length_append, hxs, hc1, if_pos (by omega)]
          rfl
      · have c : ¬ _ := fun z => c (decide_eq_true z)
        rw [List.length_map] at c
        exact ⟨s6, xs, eD, by rw [hxs, hc1, if_neg (by omega)]; rfl⟩
    obtain ⟨s6, xs, eD, hxs⟩ := pv
    rw [lts, List.take_length, pq.count] at hxs
    refine ⟨D, xs, rfl, .inl (SqL.of eD), 2, J, rfl, by rw [hxs], ?_⟩
    have k6 := k5.trans (.of s6)
    have b6 := b5.keep s6
    have pa6 := pa5.keep (.of s6)
    have eln6 := s6 _ _ eln5
    clear eD hxs
    intro td ntd
    have ntd0 : H td = none := k6.free b ntd b6
    have ntdp : td ≠ p := b6.ne ntd
    have k7 : Keep p H (upd H6 td (.dT [])) := k6.trans (.of (same_upd ntd))
    have b7 := b6.keep (same_upd (o := .dT []) ntd)
    have pa7 := pa6.keep (.of (same_upd (o := .dT []) ntd))
    have eln7 := same_upd (o := .dT []) ntd _ _ eln6
    have etd7 : (upd H6 td (.dT [])) td = some (.dT []) := upd_same
    have hlntd : ln ≠ td := ne_of_none eln6 ntd
    generalize upd H6 td (.dT []) = H7 at k7 b7 pa7 eln7 etd7 ⊢
    dsimp only
    refine ⟨.int (2 + (J : Int)), rfl, _, 1, rfl, rfl, .ref p, rfl, p, 28, rfl, b7, by decide, by decide, fun H8 x k8 b8 x0 x1 => ?_⟩
    obtain ⟨x, rfl⟩ : ∃ xn : Nat, x = (xn : Int) := ⟨x.toNat, by omega⟩
    refine ⟨_, _, rfl, rfl, _, rfl, by omega, by omega, ?_⟩
    rw [show (2 + (J : Int) - 1 + (x : Int)).toNat = J + 1 + x by omega]
    have each := pq.each n8
    refine for_range (lo := 0) (n := J + 1 + x) (fun i σ H9 => ∃ (y6 y7 y8 y9 y10 y11 : Option V) (tis : List Ti), σ = [some (.ref p), some (.int n), some (.ref ln), some (.ref pl), some (.int (2 + (J : Int))), some (.ref td), y6, y7, y8, y9, y10, y11, none] ∧ Keep p H H9 ∧ Bag H9 p ∧ PlAt p H9 pl ts zs as qs ∧ H9 ln = some (.lst (ls.map nS)) ∧ TiD H9 td tis ∧ tis.length ≤ i ∧ (∀ t ∈ tis, TieOk zs qs ls t) ∧ tis.Pairwise Apart ∧ (∀ j, j < i → j < J + 1 → ∃ t ∈ tis, zs[j]? = some t.a ∧ zs[j + 1]? = some t.b) ∧ (i ≤ J + 1 → ∀ t ∈ tis, ∃ j, j < i ∧ zs[j]? = some t.a ∧ zs[j + 1]? = some t.b))
      ⟨_, _, _, _, _, _, [], rfl, k7.trans k8, b8, pa7.keep k8, k8 _ _ nlp eln7, ⟨[], k8 _ _ ntdp etd7, List.nodup_nil, .nil⟩, Nat.le_refl _, fun t ht => (by cases ht), List.Pairwise.nil, fun j hj => absurd hj (Nat.not_lt_zero _), fun _ t ht => (by cases ht)⟩ (fun i σ H9 hi hp => ?_) (fun σ H9 hp => ?_)
    · obtain ⟨y6, y7, y8, y9, y10, y11, tis, rfl, k9, b9, pa9, eln9, htd, tl, tok, tap, tway, tfst⟩ := hp
      have lN : ((ts.map V.ref).length : Int) = (qs.length : Int) := by rw [lts]
      have m1 : i % qs.length < qs.length := Nat.mod_lt _ (by omega)
      have m2 : (i + 1) % qs.length < qs.length := Nat.mod_lt _ (by omega)
      obtain ⟨t1, et1⟩ : ∃ t1, ts[i % qs.length]? = some t1 := ⟨_, List.getElem?_eq_getElem (by rw [pa9.lt]; exact m1)⟩
      obtain ⟨t2, et2⟩ : ∃ t2, ts[(i + 1) % qs.length]? = some t2 := ⟨_, List.getElem?_eq_getElem (by rw [pa9.lt]; exact m2)⟩
      have at1 : atI (ts.map V.ref) ((0 + (i : Int)) % ((ts.map V.ref).length : Int)) = some (.ref t1) := by
        rw [lN, Int.zero_add, ← Int.natCast_emod]
        exact atI_nat (by rw [List.getElem?_map, et1]; rfl)
      have at2 : atI (ts.map V.ref) ((0 + (i : Int) + 1) % ((ts.map V.ref).length : Int)) = some (.ref t2) := by
        rw [lN, Int.zero_add, show ((i : Int) + 1) = ((i + 1 : Nat) : Int) by omega, ← Int.natCast_emod]
        exact atI_nat (by rw [List.getElem?_map, et2]; rfl)
      refine ⟨.ref pl, rfl, .int (0 + (i : Int)), rfl, .ref pl, rfl, pl, ts.map V.ref, rfl, .inl (SqL.of pa9.lst), _, _, rfl, rfl, by omega, pl, ts.map V.ref, _, .ref t1, rfl, rfl, SqL.of pa9.lst, at1, ?_⟩
      refine ⟨.ref pl, rfl, .int (0 + (i : Int)), rfl, _, 1, rfl, rfl, .ref pl, rfl, pl, ts.map V.ref, rfl, .inl (SqL.of pa9.lst), _, _, rfl, rfl, by omega, pl, ts.map V.ref, _, .ref t2, rfl, rfl, SqL.of pa9.lst, at2, ?_⟩
      refine ⟨fun σ H10 => ∃ (io jo : Nat) (t1 t2 : Addr), σ = [some (.ref p), some (.int n), some (.ref ln), some (.ref pl), some (.int (2 + (J : Int))), some (.ref td), some (.int (0 + (i : Int))), some (.ref t1), some (.ref t2), y9, y10, y11, none] ∧ Keep p H9 H10 ∧ Bag H10 p ∧ io < qs.length ∧ jo < qs.length ∧ ts[io]? = some t1 ∧ ts[jo]? = some t2 ∧ (i < J + 1 → io = i ∧ jo = i + 1), ?_, fun σ H10 mid => ?_⟩
      · refine ⟨.int (0 + (i : Int)), rfl, .int (2 + (J : Int)), rfl, _, 1, rfl, rfl, _, _, rfl, rfl, _, rfl, ite2 (fun c => ?_) (fun c => ?_)⟩
        · have c := of_decide_eq_true c
          refine ⟨.ref pl, rfl, .ref p, rfl, .ref pl, rfl, pl, ts.map V.ref, rfl, .inl (SqL.of pa9.lst), p, (qs.length : Int), by rw [lN]; rfl, b9, by omega, by omega, fun H10 d1 k10 b10 d10 d11 => ?_⟩
          obtain ⟨io, rfl⟩ : ∃ xn : Nat, d1 = (xn : Int) := ⟨d1.toNat, by omega⟩
          obtain ⟨t1', et1'⟩ : ∃ t1, ts[io]? = some t1 := ⟨_, List.getElem?_eq_getElem (by rw [pa9.lt]; omega)⟩
          have pa10 := pa9.keep k10
          refine ⟨pl, ts.map V.ref, _, .ref t1', rfl, rfl, SqL.of pa10.lst, atI_nat (by rw [List.getElem?_map, et1']; rfl), ?_⟩
          refine ⟨.ref pl, rfl, .ref p, rfl, .ref pl, rfl, pl, ts.map V.ref, rfl, .inl (SqL.of pa10.lst), p, (qs.length : Int), by rw [lN]; rfl, b10, by omega, by omega, fun H11 d2 k11 b11 d20 d21 => ?_⟩
          obtain ⟨jo, rfl⟩ : ∃ xn : Nat, d2 = (xn : Int) := ⟨d2.toNat, by omega⟩
          obtain ⟨t2', et2'⟩ : ∃ t1, ts[jo]? = some t1 := ⟨_, List.getElem?_eq_getElem (by rw [pa9.lt]; omega)⟩
          refine ⟨pl, ts.map V.ref, _, .ref t2', rfl, rfl, SqL.of (pa10.keep k11).lst, atI_nat (by rw [List.getElem?_map, et2']; rfl), ?_⟩
          exact ⟨io, jo, t1', t2', rfl, k10.trans k11, b11, by omega, by omega, et1', et2', fun z => by omega⟩
        · exact ⟨_, _, t1, t2, rfl, .refl _ _, b9, m1, m2, et1, et2, fun z => ⟨Nat.mod_eq_of_lt (by omega), Nat.mod_eq_of_lt (by omega)⟩⟩
      clear at1 at2 et1 et2 m1 m2 t1 t2
      obtain ⟨io, jo, t1, t2, rfl, k10, b10, hio, hjo, et1, et2, hij⟩ := mid
      have pa10 := pa9.keep k10
      have eln10 := k10 _ _ nlp eln9
      obtain ⟨t1', z1, a1, js1, f1, ez1, _, eq1, e1, e1a, nt1, na1⟩ := pa10.at hio
      rw [et1] at f1
      cases f1
      obtain ⟨t2', z2, a2, js2, f2, ez2, _, eq2, e2, e2a, nt2, na2⟩ := pa10.at hjo
      rw [et2] at f2
      cases f2
      have js1m := each js1 (List.mem_of_getElem? eq1)
      have js2m := each js2 (List.mem_of_getElem? eq2)
      -- common
      refine ⟨.ref t1, rfl, t1, [nS z1, .ref a1], 1, .ref a1, rfl, rfl, SqT.of e1, atI_nat (j := 1) rfl, a1, rfl, ⟨_, SqL.of e1a⟩, fun D nD => ?_⟩
      have nDp : D ≠ p := b10.ne nD
      refine lc_it (walk_list (xs := jV js1)) (fun m H11 => Same H10 H11 ∧ H11 D = some (.lst (jV ((js1.take m).filter fun x => decide (x ∈ js2))))) ⟨same_upd nD, by rw [List.take_zero]; exact upd_same⟩ (fun m H11 _ pv => SqL.of (pv.1 _ _ e1a)) (fun m x H11₀ H11 hm pv y => ?_) (fun H11 pv => ?_)
      · obtain ⟨rfl, ex⟩ := y
        obtain ⟨s11, eD⟩ := pv
        obtain ⟨j, ej, rfl⟩ : ∃ j, js1[m]? = some j ∧ x = .int (j : Nat) := by
          rw [List.getElem?_map] at ex
          cases h : js1[m]? with
          | none => rw [h] at ex; cases ex
          | some t => rw [h] at ex; exact ⟨t, rfl, (Option.some.inj ex).symm⟩
        have hf : ((js1.take (m + 1)).filter fun x => decide (x ∈ js2)) = ((js1.take m).filter fun x => decide (x ∈ js2)) ++ if j ∈ js2 then [j] else [] := by
          rw [List.take_add_one, ej, List.filter_append]
          congr 1
          show List.filter _ [j] = _
          by_cases h : j ∈ js2
          · simp [h]
          · simp [h]
        refine ⟨rfl, .int (j : Nat), rfl, .ref t2, rfl, t2, [nS z2, .ref a2], 1, .ref a2, rfl, rfl, SqT.of (s11 _ _ e2), atI_nat (j := 1) rfl, a2, jV js2, rfl, .inl (SqL.of (s11 _ _ e2a)), rfl, flat_ints js2, _, rfl, ite2 (fun c => ?_) (fun c => ?_)⟩
        · have c : inV (.int (j : Nat)) (jV js2) = true := c
          rw [in_ints] at c
          have c := of_decide_eq_true c
          refine ⟨.int (j : Nat), rfl, _, eD, ?_, same_set s11 nD, ?_⟩
          · rw [List.length_map]
            refine small5000 (Nat.le_trans (List.length_filter_le ..) ?_)
            rw [List.length_take]
            omega
          · rw [upd_same, hf, if_pos c, jV_app]
            rfl
        · have c : ¬ inV (.int (j : Nat)) (jV js2) = true := c
          rw [in_ints] at c
          have c : ¬ j ∈ js2 := fun z => c (decide_eq_true z)
          exact ⟨s11, by rw [hf, if_neg c, List.append_nil]; exact eD⟩
      obtain ⟨s11, eD⟩ := pv
      rw [List.length_map, List.take_length] at eD
      have mcm : ∀ x, x ∈ js1.filter (fun x => decide (x ∈ js2)) ↔ x ∈ js1 ∧ x ∈ js2 := fun x => by rw [List.mem_filter, decide_eq_true_iff]
      have cml : (js1.filter fun x => decide (x ∈ js2)).length ≤ 8 := Nat.le_trans (List.length_filter_le ..) js1m.2.1
      generalize js1.filter (fun x => decide (x ∈ js2)) = cm at eD mcm cml
      have k11 := k10.trans (.of s11)
      have b11 := b10.keep s11
      -- chains
      refine ⟨.ref p, rfl, by decide, fun t nt => ?_⟩
      have ntp : t ≠ p := b11.ne nt
      refine ⟨.ref p, rfl, p, 3, rfl, b11.keep (same_upd nt), by decide, by decide, fun H12 d k12 b12 d0 d1 => ?_⟩
      obtain ⟨mx, hmx, emx⟩ := pick (ms := [9, 400, 9999]) d0 d1
      refine ⟨t, _, d, _, rfl, rfl, SqT.of (k12 _ _ ntp upd_same), emx, p, mx, rfl, b12, ?_, ?_, fun H13 ch k13 b13 ch0 ch1 => ?_⟩
      · simp only [List.mem_cons, List.not_mem_nil, or_false] at hmx
        omega
      · simp only [List.mem_cons, List.not_mem_nil, or_false] at hmx
        omega
      have chb : ch < 9999 := by
        simp only [List.mem_cons, List.not_mem_nil, or_false] at hmx
        omega
      obtain ⟨ch, rfl⟩ : ∃ xn : Nat, ch = (xn : Int) := ⟨ch.toNat, by omega⟩
      refine ⟨1, _, rfl, rfl, ?_⟩
      have eD13 : H13 D = some (.lst (jV cm)) := k13 _ _ nDp (k12 _ _ nDp (same_upd nt _ _ eD))
      have k13 : Keep p H10 H13 := (Keep.of (s11.trans (same_upd nt))).trans (k12.trans k13)
      have k13' : Keep p H9 H13 := k10.trans k13
      have e1' := k13 _ _ nt1 e1
      have e2' := k13 _ _ nt2 e2
      have e1a' := k13 _ _ na1 e1a
      have e2a' := k13 _ _ na2 e2a
      have htd13 : TiD H13 td tis := htd.keep k13' b9
      -- near
      refine ⟨fun σ H14 => ∃ nb : Bool, σ = [some (.ref p), some (.int n), some (.ref ln), some (.ref pl), some (.int (2 + (J : Int))), some (.ref td), some (.int (0 + (i : Int))), some (.ref t1), some (.ref t2), some (.ref D), some (.int (1 + (ch : Int))), some (.bl nb), none] ∧ Same H13 H14 ∧ (nb = false ↔ (∀ t ∈ tis, ¬ (t.a = z1 ∧ t.b = z2)) ∧ ∀ t ∈ tis, ¬ (t.a = z2 ∧ t.b = z1)), ?_, fun σ H14 mid => ?_⟩
      · obtain ⟨kvs, etd, knd, hkt⟩ := htd13
        refine ⟨.ref t1, rfl, t1, [nS z1, .ref a1], 0, nS z1, rfl, rfl, SqT.of e1', atI_nat (j := 0) rfl, .ref t2, rfl, t2, [nS z2, .ref a2], 0, nS z2, rfl, rfl, SqT.of e2', atI_nat (j := 0) rfl, two_sz, fun u nu => ?_⟩
        refine ⟨.ref td, rfl, td, _, rfl, DGet.t (k := [Sum.inr (SX.S z1), Sum.inr (SX.S z2)]) (same_upd nu _ _ etd) upd_same, _, rfl, ite2 (fun c => ?_) (fun c => ?_)⟩
        · refine ⟨true, rfl, same_upd nu, ⟨fun z => (by cases z), fun z => ?_⟩⟩
          rw [(tid_none hkt z1 z2).mpr z.1] at c
          cases c
        · have c1 : valV kvs [Sum.inr (SX.S z1), Sum.inr (SX.S z2)] = none := by
            cases h : valV kvs [Sum.inr (SX.S z1), Sum.inr (SX.S z2)] with
            | none => rfl
            | some x => rw [h] at c; exact absurd rfl c
          refine ⟨.ref t2, rfl, t2, [nS z2, .ref a2], 0, nS z2, rfl, rfl, SqT.of (same_upd nu _ _ e2'), atI_nat (j := 0) rfl, .ref t1, rfl, t1, [nS z1, .ref a1], 0, nS z1, rfl, rfl, SqT.of (same_upd nu _ _ e1'), atI_nat (j := 0) rfl, two_sz, fun u2 nu2 => ?_⟩
          refine ⟨.ref td, rfl, td, _, rfl, DGet.t (k := [Sum.inr (SX.S z2), Sum.inr (SX.S z1)]) (same_upd nu2 _ _ (same_upd nu _ _ etd)) upd_same, ?_⟩
          refine ⟨_, rfl, (same_upd nu).trans (same_upd nu2), ?_⟩
          have c1 := (tid_none hkt z1 z2).mp c1
          have c2 := tid_none hkt z2 z1
          cases h : valV kvs [Sum.inr (SX.S z2), Sum.inr (SX.S z1)] with
          | none => exact ⟨fun _ => ⟨c1, c2.mp h⟩, fun _ => rfl⟩
          | some x => exact ⟨fun z => (by cases z), fun z => (by rw [c2.mpr z.2] at h; cases h)⟩
      obtain ⟨nb, rfl, s14, hnb⟩ := mid
      have k14 : Keep p H9 H14 := k13'.trans (.of s14)
      have b14 := b13.keep s14
      have e1 := s14 _ _ e1'
      have e2 := s14 _ _ e2'
      have e1a := s14 _ _ e1a'
      have e2a := s14 _ _ e2a'
      have eD14 := s14 _ _ eD13
      have stay : ∀ H', Keep p H9 H' → Bag H' p → ¬ i < J + 1 → (Keep p H H' ∧ Bag H' p ∧ PlAt p H' pl ts zs as qs ∧ H' ln = some (.lst (ls.map nS)) ∧ TiD H' td tis ∧ tis.length ≤ i + 1 ∧ (∀ t ∈ tis, TieOk zs qs ls t) ∧ tis.Pairwise Apart ∧ (∀ j, j < i + 1 → j < J + 1 → ∃ t ∈ tis, zs[j]? = some t.a ∧ zs[j + 1]? = some t.b) ∧ (i + 1 ≤ J + 1 → ∀ t ∈ tis, ∃ j, j < i + 1 ∧ zs[j]? = some t.a ∧ zs[j + 1]? = some t.b)) := fun H' k b' c =>
        ⟨k9.trans k, b', pa9.keep k, k _ _ nlp eln9, htd.keep k b9, by omega, tok, tap, fun j h1 h2 => tway j (by omega) h2, fun z => absurd (by omega) c⟩
      have nm1 := znm z1 (List.mem_of_getElem? ez1)
      have nm2 := znm z2 (List.mem_of_getElem? ez2)
      have eln14 := k14 _ _ nlp eln9
      have htd14 := htd.keep k14 b9
      have lj1 : js1.length ≤ 5000 := by omega
      have lj2 : js2.length ≤ 5000 := by omega
      -- if one != other and common != [] and not near
      refine ⟨.ref t1, rfl, .ref t2, rfl, _, _, (dt_pl e1 e1a lj1).dp, (dt_pl e2 e2a lj2).dp, shaped_pl nm1 js1, shaped_pl nm2 js2, _, rfl, ite2 (fun c => ?_) (fun c => ?_)⟩
      rotate_left
      · have c : PyData.eqv (plD z1 js1) (plD z2 js2) = true := by
          cases h : PyData.eqv (plD z1 js1) (plD z2 js2) with
          | true => rfl
          | false => rw [h] at c; exact absurd rfl c
        refine ⟨_, _, _, _, _, _, tis, rfl, stay _ k14 b14 fun z => ?_⟩
        have ez := eqv_pl c
        rw [← ez] at ez2
        have := nodup_inj znd ez1 ez2
        have := hij z
        omega
      have cne : PyData.eqv (plD z1 js1) (plD z2 js2) = false := by
        cases h : PyData.eqv (plD z1 js1) (plD z2 js2) with
        | false => rfl
        | true => rw [h] at c; cases c
      have nij : io ≠ jo := fun z => by
        subst z
        rw [ez1] at ez2
        rw [eq1] at eq2
        cases ez2
        cases eq2
        rw [SeqAt.eqv_refl _ (lay_pl nm1 js1)] at cne
        cases cne
      refine ⟨.ref D, rfl, Nat.zero_le _, fun e ne => ?_⟩
      have s15 := same_upd (o := .lst []) ne
      have dD : Dt SA (upd H14 e (.lst [])) (.ref D) (dI (jI cm)) := dt_ints (by rw [s15 _ _ eD14, jV_ints]) (by rw [List.length_map]; omega)
      have dE : Dt SA (upd H14 e (.lst [])) (.ref e) (dI []) := dt_ints upd_same (Nat.zero_le _)
      refine ⟨_, _, dD.dp, dE.dp, shaped_ints _, shaped_ints _, _, rfl, ite2 (fun c => ?_) (fun c => ?_)⟩
      rotate_left
      · have c : cm = [] := by
          cases h : cm with
          | nil => rfl
          | cons x r => rw [h] at c; exact absurd rfl c
        refine ⟨_, _, _, _, _, _, tis, rfl, stay _ (k14.trans (.of s15)) (b14.keep s15) fun z => ?_⟩
        obtain ⟨r1, r2⟩ := hij z
        subst r1
        subst r2
        obtain ⟨x, x1, x2⟩ := pq.chain z eq1 eq2
        have := (mcm x).mpr ⟨x1, x2⟩
        rw [c] at this
        cases this
      have cm1 : 1 ≤ cm.length := by
        cases h : cm with
        | nil => rw [h] at c; cases c
        | cons x r => rw [List.length_cons]; omega
      refine ⟨.bl nb, rfl, nb, rfl, ite2 (fun c => ?_) (fun c => ?_)⟩
      rotate_left
      · have c : nb = true := by cases nb with
          | true => rfl
          | false => exact absurd rfl c
        refine ⟨_, _, _, _, _, _, tis, rfl, stay _ (k14.trans (.of s15)) (b14.keep s15) fun z => ?_⟩
        obtain ⟨r1, r2⟩ := hij z
        subst r1
        subst r2
        have : nb = false := hnb.mpr ⟨fun t ht e => ?_, fun t ht e => ?_⟩
        · rw [c] at this
          cases this
        · obtain ⟨j, hj, f1, f2⟩ := tfst (by omega) t ht
          rw [e.1] at f1
          have := nodup_inj znd f1 ez1
          omega
        · obtain ⟨j, hj, f1, f2⟩ := tfst (by omega) t ht
          rw [e.1] at f1
          have := nodup_inj znd f1 ez2
          omega
      have c : nb = false := by cases nb with
        | false => rfl
        | true => cases c
      obtain ⟨nn1, nn2⟩ := hnb.mp c
      have k15 : Keep p H9 _ := k14.trans (.of s15)
      have b15 := b14.keep s15
      have eD15 := s15 _ _ eD14
      have e1 := s15 _ _ e1
      have e2 := s15 _ _ e2
      generalize upd H14 e (.lst []) = H15 at k15 b15 eD15 e1 e2 s15 ⊢
      -- ties[(one[0], other[0])] = (lines[..], chains)
      have eln15 := k15 _ _ nlp eln9
      refine ⟨.ref ln, rfl, .ref D, rfl, .ref p, rfl, .ref D, rfl, D, jV cm, rfl, .inl (SqL.of eD15), p, (cm.length : Int), by rw [List.length_map]; rfl, b15, by omega, by omega, fun H16 d k16 b16 d0 d1 => ?_⟩
      obtain ⟨dj, rfl⟩ : ∃ xn : Nat, d = (xn : Int) := ⟨d.toNat, by omega⟩
      have hdj : dj < cm.length := by omega
      have inx := List.getElem_mem hdj
      have gx : (jV cm)[dj]? = some (.int (cm[dj] : Nat)) := by
        rw [List.getElem?_map, List.getElem?_eq_getElem hdj]
        rfl
      generalize cm[dj] = xj at inx gx
      have hx := (mcm xj).mp inx
      have hxl : xj < ls.length := by rw [hln]; exact js1m.2.2 xj hx.1
      obtain ⟨lx, elx⟩ : ∃ lx, ls[xj]? = some lx := ⟨_, List.getElem?_eq_getElem hxl⟩
      refine ⟨D, jV cm, (dj : Int), _, rfl, rfl, SqL.of (k16 _ _ nDp eD15), atI_nat gx, ln, ls.map nS, (xj : Nat), nS lx, rfl, rfl, SqL.of (k16 _ _ nlp eln15), atI_nat (by rw [List.getElem?_map, elx]; rfl), .int (1 + (ch : Int)), rfl, two_sz, fun v nv => ?_⟩
      have sv := same_upd (o := .tup [nS lx, .int (1 + (ch : Int))]) nv
      refine ⟨.ref td, rfl, .ref t1, rfl, t1, [nS z1, .ref a1], 0, nS z1, rfl, rfl, SqT.of (sv _ _ (k16 _ _ nt1 e1)), atI_nat (j := 0) rfl, .ref t2, rfl, t2, [nS z2, .ref a2], 0, nS z2, rfl, rfl, SqT.of (sv _ _ (k16 _ _ nt2 e2)), atI_nat (j := 0) rfl, two_sz, fun u nu => ?_⟩
      have su := same_upd (o := .tup [nS z1, nS z2]) nu
      have k17 : Keep p H9 _ := k15.trans (k16.trans (.of (sv.trans su)))
      have b17 := b16.keep (sv.trans su)
      obtain ⟨kvs, etd, knd, hkt⟩ := htd.keep k17 b9
      have ev : (upd (upd H16 v (.tup [nS lx, .int (1 + (ch : Int))])) u (.tup [nS z1, nS z2])) v = some (.tup [nS lx, .int (1 + (ch : Int))]) := su _ _ upd_same
      have eu : (upd (upd H16 v (.tup [nS lx, .int (1 + (ch : Int))])) u (.tup [nS z1, nS z2])) u = some (.tup [nS z1, nS z2]) := upd_same
      generalize upd (upd H16 v (.tup [nS lx, .int (1 + (ch : Int))])) u (.tup [nS z1, nS z2]) = H17 at k17 b17 etd hkt ev eu ⊢
      have vn := (tid_none hkt z1 z2).mpr nn1
      have kl := paired_len hkt
      refine ⟨td, _, rfl, DPut.t (k := [Sum.inr (SX.S z1), Sum.inr (SX.S z2)]) etd eu (by rw [kl]; exact small5000 (by omega)), ?_⟩
      rw [putK_new _ vn]
      have tk17 : TK H17 (upd H17 td (.dT (kvs ++ [([Sum.inr (SX.S z1), Sum.inr (SX.S z2)], .ref v)]))) := .upd fun xs e => by rw [etd] at e; cases e
      refine ⟨_, _, _, _, _, _, tis ++ [⟨z1, z2, lx, 1 + ch⟩], rfl, (k9.trans k17).set ntd0, b17.at (upd_ne ntdp.symm), ?_, ?_, ⟨_, upd_same, ?_, ?_⟩, ?_, ?_, ?_, ?_, ?_⟩
      · have pk := pa9.keep k17
        have off : ∀ {a : Addr} {o : HO}, H17 a = some o → (∀ kvs, o ≠ .dT kvs) → (upd H17 td (.dT (kvs ++ [([Sum.inr (SX.S z1), Sum.inr (SX.S z2)], .ref v)]))) a = some o := fun {a o} e h => by
          rw [upd_ne (fun z => by rw [z, etd] at e; exact h _ (Option.some.inj e).symm)]
          exact e
        exact ⟨off pk.lst fun _ z => (by cases z), paired_imp pk.tup fun a _ x e => off e fun _ z => (by cases z), paired_imp pk.ll fun a _ x e => off e fun _ z => (by cases z), pk.lz, pk.lt, pk.np⟩
      · rw [upd_ne hlntd]
        exact k17 _ _ nlp eln9
      · rw [List.map_append]
        refine List.nodup_append.mpr ⟨knd, by simp, fun x hx y hy e => ?_⟩
        rw [List.map_singleton, List.mem_singleton] at hy
        rw [e, hy] at hx
        exact key_none vn hx
      · refine paired_snoc (paired_imp hkt fun kv _ t ⟨h1, v, h2, h3⟩ => ⟨h1, v, h2, tk17 _ _ h3⟩) ⟨rfl, v, rfl, ?_⟩
        rw [tk17 _ _ ev]
        rfl
      · rw [List.length_append]
        show _ + 1 ≤ _
        omega
      · intro t ht
        rcases List.mem_append.mp ht with z | z
        · exact tok t z
        · rw [List.mem_singleton.mp z]
          exact ⟨io, jo, xj, js1, js2, nij, ez1, ez2, eq1, eq2, hx.1, hx.2, elx, by show 1 ≤ 1 + ch; omega, by show 1 + ch ≤ 9999; omega⟩
      · refine List.pairwise_append.mpr ⟨tap, List.pairwise_singleton _ _, fun s hs t ht => ?_⟩
        rw [List.mem_singleton.mp ht]
        exact ⟨nn1 s hs, nn2 s hs⟩
      · intro j h1 h2
        by_cases h3 : j < i
        · obtain ⟨t, ht, r⟩ := tway j h3 h2
          exact ⟨t, List.mem_append_left _ ht, r⟩
        · have h4 : j = i := by omega
          subst h4
          obtain ⟨r1, r2⟩ := hij h2
          subst r1
          subst r2
          exact ⟨_, List.mem_append_right _ (List.mem_singleton.mpr rfl), ez1, ez2⟩
      · intro h t ht
        rcases List.mem_append.mp ht with z | z
        · obtain ⟨j, hj, r⟩ := tfst (by omega) t z
          exact ⟨j, by omega, r⟩
        · rw [List.mem_singleton.mp z]
          obtain ⟨r1, r2⟩ := hij (by omega)
          subst r1
          subst r2
          exact ⟨_, Nat.lt_succ_self _, ez1, ez2⟩
    · obtain ⟨y6, y7, y8, y9, y10, y11, tis, rfl, k9, b9, pa9, eln9, htd, tl, tok, tap, tway, tfst⟩ := hp
      refine ⟨.ref p, rfl, .ref ln, rfl, .ref pl, rfl, .ref td, rfl, p, ln, pl, td, ts, as, ls, zs, qs, tis, rfl, b9, nlp, eln9, by omega, pa9, by omega, by rw [hln]; exact each, htd, by omega, fun H10 r sts jns rws k10 b10 hnet pS pJ pR nr => ?_⟩
      have pa10 := pa9.keep k10
      refine ⟨.ref pl, rfl, .int (2 + (J : Int)), rfl, _, rfl, pl, _, rfl, SqL.of pa10.lst, fun c nc => ?_⟩
      rw [show (2 + (J : Int)) = ((J + 2 : Nat) : Int) by omega, cut_to, ← List.map_take]
      refine ⟨c, rfl, ⟨_, SqL.of upd_same⟩, fun D nD => ?_⟩
      have s11 := same_upd (o := .lst ((ts.take (J + 2)).map V.ref)) nc
      have ec : (upd H10 c (.lst ((ts.take (J + 2)).map V.ref))) c = some (.lst ((ts.take (J + 2)).map V.ref)) := upd_same
      have pa11 := pa10.keep (.of s11)
      have b11 := b10.keep s11
      generalize upd H10 c (.lst ((ts.take (J + 2)).map V.ref)) = H11 at s11 ec pa11 b11 nD ⊢
      refine lc_it (walk_list (xs := (ts.take (J + 2)).map V.ref)) (fun i H12 => Same H11 H12 ∧ H12 D = some (.lst ((zs.take i).map nS))) ⟨same_upd nD, upd_same⟩ (fun i H12 _ pv => SqL.of (pv.1 _ _ ec)) (fun i x H12₀ H12 hi pv y => ?_) (fun H12 pv => ?_)
      · obtain ⟨rfl, ex⟩ := y
        obtain ⟨s12, eD⟩ := pv
        rw [List.length_map, List.length_take] at hi
        obtain ⟨t1, z1, a1, js, et1, ez1, _, _, e1, _, _, _⟩ := pa11.at (i := i) (by omega)
        have hx : x = .ref t1 := by
          rw [List.getElem?_map, List.getElem?_take_of_lt (by omega), et1] at ex
          exact (Option.some.inj ex).symm
        subst hx
        refine ⟨rfl, yes_ ?_⟩
        refine ⟨.ref t1, rfl, t1, [nS z1, .ref a1], 0, nS z1, rfl, rfl, SqT.of (s12 _ _ e1), atI_nat (j := 0) rfl, _, eD, ?_, same_set s12 nD, ?_⟩
        · rw [List.length_map, List.length_take]
          exact small5000 (by omega)
        · rw [upd_same, List.take_add_one, ez1, List.map_append]
          rfl
      obtain ⟨s12, eD⟩ := pv
      rw [List.length_map, List.length_take, Nat.min_eq_left (by rw [pa9.lt]; omega)] at eD
      refine ⟨D, _, rfl, SqL.of eD, fun wy H13 nwy sF tF _ => ⟨two_sz, fun r2 nr2 => ?_⟩⟩
      have s13 := s11.trans (s12.trans (sF.trans (same_upd (o := .tup [.ref r, .ref wy]) nr2)))
      refine q _ r2 r wy ls zs qs J tis sts jns rws (k9.trans (k10.trans (.of s13))) (b10.keep s13) upd_same (hnet.tk (.of s13)) (tF.same (same_upd nr2)) ⟨by omega, by omega, nm_nodup lnat (by omega), nms_of lnat, by rw [hln]; exact pq, pa9.lz, znd, znm, tok, tap, fun j hj => tway j (by omega) hj, by have := pq.most; omega⟩ pS pJ pR
end
end Th
namespace Th
open PySem PySem.Spec PyProof.Rows L2
/-! the program's lines_by_place, lines_at, tie_between -/
def ent (sts : List (Nm × Nm)) (jns : List (Nm × List Nm)) : List (Nm × List Nm) := sts.map (fun s => (s.1, [s.2])) ++ jns
def lkF (es : List (Nm × List Nm)) (y : Nm) : Option (List Nm) := es.foldl (fun acc e => if y = e.1 then some e.2 else acc) none
theorem lkF_snoc (es : List (Nm × List Nm)) (e : Nm × List Nm) (y : Nm) : lkF (es ++ [e]) y = if y = e.1 then some e.2 else lkF es y := by
  unfold lkF
  rw [List.foldl_append]
  rfl
/-- what a dict tells of the places -/
structure DV (H : Hp) (kvs : List (Key × V)) (es : List (Nm × List Nm)) : Prop where
  no : ∀ z, lkF es z = none → valV kvs (Sum.inr (SX.S z)) = none
  yes : ∀ z l, lkF es z = some l → ∃ a, valV kvs (Sum.inr (SX.S z)) = some (.ref a) ∧ H a = some (.tup (l.map nS))
  ks : ∃ zs : List Nm, kvs.map (·.1) = (zs.map SX.S).map Sum.inr ∧ zs.length ≤ es.length ∧ (es ≠ [] → zs ≠ []) ∧ ∀ z ∈ zs, (lkF es z).isSome = true
theorem DV.tk {H H' : Hp} {kvs : List (Key × V)} {es : List (Nm × List Nm)} (h : DV H kvs es) (k : TK H H') : DV H' kvs es :=
  ⟨h.no, fun z l e => let ⟨a, h1, h2⟩ := h.yes z l e; ⟨a, h1, k _ _ h2⟩, h.ks⟩
theorem DV.nil {H : Hp} : DV H [] [] := ⟨fun _ _ => rfl, fun z l e => (by cases e), [], rfl, Nat.le_refl _, fun h => absurd rfl h, fun z h => (by cases h)⟩
theorem DV.put {H : Hp} {kvs : List (Key × V)} {es : List (Nm × List Nm)} (h : DV H kvs es) {z : Nm} {l : List Nm} {a : Addr} (e : H a = some (.tup (l.map nS))) : DV H (putK kvs (Sum.inr (SX.S z)) (.ref a)) (es ++ [(z, l)]) := by
  refine ⟨fun y hy => ?_, fun y m hy => ?_, ?_⟩
  · rw [lkF_snoc] at hy
    rw [valV_put]
    by_cases c : y = z
    · rw [if_pos c] at hy
      cases hy
    · rw [if_neg c] at hy
      rw [if_neg (fun q => c (SX.S_inj (Sum.inr.inj q)))]
      exact h.no y hy
  · rw [lkF_snoc] at hy
    rw [valV_put]
    by_cases c : y = z
    · rw [if_pos c] at hy
      have := Option.some.inj hy
      subst this
      rw [if_pos (by rw [c])]
      exact ⟨a, rfl, e⟩
    · rw [if_neg c] at hy
      rw [if_neg (fun q => c (SX.S_inj (Sum.inr.inj q)))]
      exact h.yes y m hy
  · obtain ⟨zs, h1, h2, h3, h4⟩ := h.ks
    cases hv : valV kvs (Sum.inr (SX.S z)) with
    | none =>
      rw [putK_new _ hv]
      refine ⟨zs ++ [z], by rw [List.map_append, h1, List.map_append, List.map_append]; rfl, by rw [List.length_append, List.length_append]; show _ + 1 ≤ _ + 1; omega, fun _ => by simp, fun y hy => ?_⟩
      rw [lkF_snoc]
      by_cases c : y = z
      · rw [if_pos c]
        rfl
      · rw [if_neg c]
        rcases List.mem_append.mp hy with q | q
        · exact h4 y q
        · exact absurd (List.mem_singleton.mp q) c
    | some v =>
      refine ⟨zs, ?_, by rw [List.length_append]; omega, fun _ q => ?_, fun y hy => ?_⟩
      · have ha : (kvs.any fun kv => decide (kv.1 = (Sum.inr (SX.S z) : Key))) = true := by
          rw [valV_any, hv]
          rfl
        unfold putK
        rw [if_pos ha, List.map_map, ← h1]
        refine List.map_congr_left fun kv _ => ?_
        show (if kv.1 = Sum.inr (SX.S z) then (kv.1, V.ref a) else kv).1 = kv.1
        split <;> rfl
      · rw [q] at h1
        rw [List.map_eq_nil_iff.mp h1] at hv
        cases hv
      · rw [lkF_snoc]
        by_cases c : y = z
        · rw [if_pos c]
          rfl
        · rw [if_neg c]
          exact h4 y hy
/-- the first tie of two places -/
def isTie (x y : Nm) (t : Ti) : Bool := decide ((t.a = x ∧ t.b = y) ∨ (t.a = y ∧ t.b = x))
abbrev prD (x y : Nm) : PyData := .tuple [.str (SX.S x), .str (SX.S y)]
theorem dt_pr {H : Hp} {u : Addr} {x y : Nm} (e : H u = some (.tup [nS x, nS y])) : Dt SA H (.ref u) (prD x y) := .tup trivial e (by show 2 ≤ 5000; decide) (.cons (.str _) (.cons (.str _) .nil))
theorem shaped_pr {x y : Nm} (hx : IsNm x) (hy : IsNm y) : SeqAt.shaped (prD x y) = true := Bool.and_eq_true_iff.mpr ⟨by
  show (PyData.strOk (SX.S x) && (PyData.strOk (SX.S y) && true)) = true
  rw [nm_ok hx, nm_ok hy]
  rfl, decide_eq_true (by show max 0 (max 0 0) + 1 ≤ 64; decide)⟩
theorem eqv_pr {x y x' y' : Nm} : PyData.eqv (prD x y) (prD x' y') = decide (x = x' ∧ y = y') := by
  show ((SX.S x == SX.S x') && ((SX.S y == SX.S y') && true)) = _
  by_cases h1 : x = x'
  · by_cases h2 : y = y'
    · rw [h1, h2, decide_eq_true ⟨rfl, rfl⟩]
      simp
    · rw [decide_eq_false (fun z => h2 z.2), beq_eq_false_iff_ne.mpr (fun z => h2 (SX.S_inj z))]
      simp
  · rw [decide_eq_false (fun z => h1 z.1), beq_eq_false_iff_ne.mpr (fun z => h1 (SX.S_inj z))]
    simp
section
variable {P : Program} {w : World} {K : PySem.W.Frag} {mg : Str → Option Value} {base : Heap} {k : Nat}
def sp_tie_between : Sp := fun vs H Q _ => ∃ (r : Addr) (x y : Nm) (ls : List Nm) (sts : List (Nm × Nm)) (jns : List (Nm × List Nm)) (tis : List Ti), vs = [.ref r, nS x, nS y] ∧ NetAt H r ls sts jns tis ∧ IsNm x ∧ IsNm y ∧ (∀ t ∈ tis, IsNm t.a ∧ IsNm t.b) ∧
  (∀ H', Same H H' → tis.find? (isTie x y) = none → Q .non H') ∧ ∀ H' u t, Same H H' → tis.find? (isTie x y) = some t → H' u = some (.tup [nS t.ln, .int t.ch]) → Q (.ref u) H'
theorem find_take {α : Type} {f : α → Bool} : ∀ {xs : List α} {i : Nat} {x : α}, xs[i]? = some x → (∀ j y, j < i → xs[j]? = some y → f y = false) → f x = true → xs.find? f = some x
  | [], _, _, h, _, _ => by simp at h
  | a :: r, 0, x, h, _, hx => by
    have := Option.some.inj h
    subst this
    rw [List.find?_cons_of_pos hx]
  | a :: r, i + 1, x, h, hn, hx => by
    rw [List.find?_cons_of_neg (by rw [hn 0 a (Nat.zero_lt_succ _) rfl]; exact Bool.false_ne_true)]
    exact find_take (i := i) h (fun j y hj e => hn (j + 1) y (Nat.succ_lt_succ hj) e) hx
set_option maxHeartbeats 8000000 in
theorem ok_tie_between (T : Defs K mg) : FnOk P w K mg base CX0 (k + 1) T.a_tie_between T.d_tie_between ["net", "place", "far"] sp_tie_between := by
  refine T.F_tie_between.ok sc_tie_between (fun vs H Q E h => ?_) (fun cdv A outer s H vs Q E hr h => ?_)
  · obtain ⟨r, x, y, ls, sts, jns, tis, rfl, _⟩ := h
    rfl
  · obtain ⟨r, x, y, ls, sts, jns, tis, rfl, hnet, nx, ny, hnm, q0, q1⟩ := h
    refine ⟨_, PSs.nox
(pss_cons (ps_for PassesOwn.never rfl (pi_tup (pe_ix (r := rIxT K) ix_tup (pv 0) (pe_int) (fun _ _ => rfl))) (pg_tup rfl (pgs_cons (pg_name (i := 3) sc_tie_between.nd rfl (.inl rfl)) (pgs_cons (pg_name (i := 4) sc_tie_between.nd rfl (.inl rfl)) (pgs_cons (pg_name (i := 5) sc_tie_between.nd rfl (.inl rfl)) (pgs_cons (pg_name (i := 6) sc_tie_between.nd rfl (.inl rfl)) pgs_nil)))))
      (pss_one (ps_if (PW.pt (pw_or (pt_cmpR (r := rEqD K) (op_eqD hr.units) (pe_tup (pa_cons (pv 3) (pa_cons (pv 4) pa_nil))) (pe_tup (pa_cons (pv 1) (pa_cons (pv 2) pa_nil))) (nomark _)) (pw_or1 (pt_cmpR (r := rEqD K) (op_eqD hr.units) (pe_tup (pa_cons (pv 3) (pa_cons (pv 4) pa_nil))) (pe_tup (pa_cons (pv 2) (pa_cons (pv 1) pa_nil))) (nomark _)))))
        (pss_one (ps_ret (pe_tup (pa_cons (pv 5) (pa_cons (pv 6) pa_nil)))))
        pss_nil)))
    (pss_one (ps_ret (pe_non))))
      , ?_⟩
    obtain ⟨a, b, c, d, sa, ja, ta, er, _, _, _, _, _, ed, hti⟩ := id hnet
    refine ⟨.ref r, rfl, r, [.ref a, .ref b, .ref c, .ref d], 3, .ref d, rfl, rfl, SqT.of er, atI_nat (j := 3) rfl, d, rfl, ⟨_, ed.sq⟩, ?_⟩
    have tl := paired_len hti
    refine for_it (walk_tup (xs := ta.map V.ref)) (fun i σ H3 => ∃ (y3 y4 y5 y6 : Option V), σ = [some (.ref r), some (nS x), some (nS y), y3, y4, y5, y6] ∧ Same H H3 ∧ ∀ j t, j < i → tis[j]? = some t → isTie x y t = false)
      ⟨_, _, _, _, rfl, .refl _, fun j t hj => absurd hj (Nat.not_lt_zero _)⟩ (fun i σ H3 _ hp => ?_) (fun i v σ H3₀ H3 hi hp yy => ?_) (fun σ H3 hp => ?_)
    · obtain ⟨_, _, _, _, _, s3, _⟩ := hp
      exact (ed.same s3).sq
    · obtain ⟨rfl, ex⟩ := yy
      obtain ⟨y3, y4, y5, y6, rfl, s3, hno⟩ := hp
      obtain ⟨u, eu, rfl⟩ : ∃ u, ta[i]? = some u ∧ v = .ref u := by
        rw [List.getElem?_map] at ex
        cases h : ta[i]? with
        | none => rw [h] at ex; cases ex
        | some t => rw [h] at ex; exact ⟨t, rfl, (Option.some.inj ex).symm⟩
      obtain ⟨t, et, hu⟩ := paired_get hti eu
      have hu3 := s3 _ _ hu
      obtain ⟨na, nb⟩ := hnm t (List.mem_of_getElem? et)
      refine ⟨u, _, rfl, SqT.of hu3, rfl, _, _, rfl, _, _, rfl, _, _, rfl, _, [], rfl, rfl, ?_⟩
      refine ⟨nS t.a, rfl, nS t.b, rfl, two_sz, fun u1 n1 => ?_⟩
      refine ⟨nS x, rfl, nS y, rfl, two_sz, fun u2 n2 => ?_⟩
      refine ⟨_, _, (dt_pr (same_upd n2 _ _ upd_same)).dp, (dt_pr upd_same).dp, shaped_pr na nb, shaped_pr nx ny, _, rfl, ?_⟩
      rw [eqv_pr]
      have s4 := s3.trans ((same_upd (o := .tup [nS t.a, nS t.b]) n1).trans (same_upd (o := .tup [nS x, nS y]) n2))
      generalize upd (upd H3 u1 (.tup [nS t.a, nS t.b])) u2 (.tup [nS x, nS y]) = H4 at s4 ⊢
      refine ite2 (fun c => ?_) (fun c => ?_)
      · have c := of_decide_eq_true c
        refine ⟨nS t.ln, rfl, .int t.ch, rfl, two_sz, fun u3 n3 => q1 _ u3 t (s4.trans (same_upd n3)) (find_take et hno (decide_eq_true (.inl c))) upd_same⟩
      · have c : ¬ (t.a = x ∧ t.b = y) := fun z => c (decide_eq_true z)
        refine ⟨nS t.a, rfl, nS t.b, rfl, two_sz, fun u3 n3 => ?_⟩
        refine ⟨nS y, rfl, nS x, rfl, two_sz, fun u4 n4 => ?_⟩
        refine ⟨_, _, (dt_pr (same_upd n4 _ _ upd_same)).dp, (dt_pr upd_same).dp, shaped_pr na nb, shaped_pr ny nx, _, rfl, ?_⟩
        rw [eqv_pr]
        have s5 := s4.trans ((same_upd (o := .tup [nS t.a, nS t.b]) n3).trans (same_upd (o := .tup [nS y, nS x]) n4))
        generalize upd (upd H4 u3 (.tup [nS t.a, nS t.b])) u4 (.tup [nS y, nS x]) = H5 at s5 ⊢
        refine ite2 (fun c2 => ?_) (fun c2 => ?_)
        · have c2 := of_decide_eq_true c2
          refine ⟨nS t.ln, rfl, .int t.ch, rfl, two_sz, fun u5 n5 => q1 _ u5 t (s5.trans (same_upd n5)) (find_take et hno (decide_eq_true (.inr c2))) upd_same⟩
        · have c2 : ¬ (t.a = y ∧ t.b = x) := fun z => c2 (decide_eq_true z)
          refine ⟨_, _, _, _, rfl, s5, fun j t' hj e => ?_⟩
          by_cases h : j < i
          · exact hno j t' h e
          · rw [show j = i by omega, et] at e
            have := Option.some.inj e
            subst this
            exact decide_eq_false fun z => z.elim c c2
    · obtain ⟨y3, y4, y5, y6, rfl, s3, hno⟩ := hp
      refine q0 _ s3 (List.find?_eq_none.mpr fun t ht => ?_)
      obtain ⟨j, hj⟩ := List.getElem?_of_mem ht
      rw [hno j t (by rw [List.length_map, tl]; exact (List.getElem?_eq_some_iff.mp hj).1) hj]
      exact Bool.false_ne_true
end
/-! the law's own tie -/
theorem in2 {x a b : Nm} : inV (nS x) [nS a, nS b] = decide (a = x ∨ b = x) := by
  show (SX.S a == SX.S x || (SX.S b == SX.S x || false)) = _
  by_cases h1 : a = x
  · rw [h1, decide_eq_true (.inl rfl)]
    simp
  · by_cases h2 : b = x
    · rw [h2, decide_eq_true (.inr rfl)]
      simp
    · rw [decide_eq_false (fun z => z.elim h1 h2), beq_eq_false_iff_ne.mpr (fun z => h1 (SX.S_inj z)), beq_eq_false_iff_ne.mpr (fun z => h2 (SX.S_inj z))]
      rfl
abbrev tiD (t : Ti) : PyData := .tuple [.str (SX.S t.ln), .int t.ch]
theorem dt_ti {H : Hp} {u : Addr} {t : Ti} (e : H u = some (.tup [nS t.ln, .int t.ch])) : Dt SA H (.ref u) (tiD t) := .tup trivial e (by show 2 ≤ 5000; decide) (.cons (.str _) (.cons (.int _) .nil))
theorem lay_ti {t : Ti} (h : IsNm t.ln) : (tiD t).canLay0 = true := by
  show (PyData.strOk (SX.S t.ln) && (true && true)) = true
  rw [nm_ok h]
  rfl
theorem depth_ti (t : Ti) : (tiD t).depth = 1 := rfl
theorem dtAll_ti {H : Hp} : ∀ {fa : List Addr} {ft : List Ti}, Paired (fun a (t : Ti) => H a = some (.tup [nS t.ln, .int t.ch])) fa ft → DtAll SA H (fa.map V.ref) (ft.map tiD)
  | _, _, .nil => .nil
  | _, _, .cons e t => .cons (dt_ti e) (dtAll_ti t)
theorem layAll_ti : ∀ {ft : List Ti}, (∀ t ∈ ft, IsNm t.ln) → PyData.canLayAll0 (ft.map tiD) = true
  | [], _ => rfl
  | t :: r, h => by
    show (PyData.canLay0 (tiD t) && PyData.canLayAll0 (r.map tiD)) = true
    rw [lay_ti (h t (List.mem_cons_self ..)), layAll_ti fun x hx => h x (List.mem_cons_of_mem _ hx)]
    rfl
theorem depthAll_ti : ∀ ft : List Ti, PyData.depthAll (ft.map tiD) ≤ 1
  | [] => Nat.zero_le _
  | t :: r => by
    show max (PyData.depth (tiD t)) (PyData.depthAll (r.map tiD)) ≤ 1
    have := depthAll_ti r
    rw [depth_ti]
    omega
section
variable {P : Program} {w : World} {K : PySem.W.Frag} {mg : Str → Option Value} {base : Heap} {k : Nat}
def sp_l_tie : Sp := fun vs H Q _ => ∃ (r : Addr) (x y : Nm) (ls : List Nm) (sts : List (Nm × Nm)) (jns : List (Nm × List Nm)) (tis : List Ti), vs = [.ref r, nS x, nS y] ∧ NetAt H r ls sts jns tis ∧ tis.length ≤ 100 ∧ (∀ t ∈ tis, IsNm t.ln ∧ t.a ≠ t.b) ∧
  (∀ H', Same H H' → tis.find? (isTie x y) = none → Q .non H') ∧ ∀ H' u t, Same H H' → tis.find? (isTie x y) = some t → H' u = some (.tup [nS t.ln, .int t.ch]) → Q (.ref u) H'
theorem head_filter {α : Type} {f : α → Bool} : ∀ xs : List α, (xs.filter f).head? = xs.find? f
  | [] => rfl
  | a :: r => by
    rw [List.find?_cons, List.filter_cons]
    cases h : f a with
    | true => rfl
    | false => exact head_filter r
set_option maxHeartbeats 8000000 in
theorem ok_l_tie (T : Defs K mg) : FnOk P w K mg base CX0 (k + 1) T.a_l_tie T.d_l_tie ["_law_net_here", "_law_place", "_law_far"] sp_l_tie := by
  refine T.F_l_tie.ok sc_l_tie (fun vs H Q E h => ?_) (fun cdv A outer s H vs Q E hr h => ?_)
  · obtain ⟨r, x, y, ls, sts, jns, tis, rfl, _⟩ := h
    rfl
  · obtain ⟨r, x, y, ls, sts, jns, tis, rfl, hnet, t100, hti0, q0, q1⟩ := h
    refine ⟨_, PSs.nox
(pss_cons (ps_setLc (i := 3) (own := [("_law_one", 4)]) (g := gName 4) rfl sc_l_tie.nd rfl rfl (sw_true rfl rfl rfl (by decide +kernel)) (pi_tup (pe_ix (r := rIxT K) ix_tup (pv 0) (pe_int) (fun _ _ => rfl))) (blkOk_by (N := N_l_tie) (sc := defScope s_l_tie) (by decide +kernel)) (fun _ _ _ _ _ => (pg_name (i := 4) sc_l_tie.nd rfl (.inl rfl))) (fun _ _ _ _ _ => pts_one (PW.pt (pw_and (pt_cmpR (r := rIn K false) op_in_seq (pv 1) (pe_slice (r := rSlT K) sl_tup (pv 4) po_none (po_some (pe_int))) (by rfl)) (pw_and (pt_cmpR (r := rIn K false) op_in_seq (pv 2) (pe_slice (r := rSlT K) sl_tup (pv 4) po_none (po_some (pe_int))) (by rfl)) (pw_and1 (pt_cmpR op_ne (pv 1) (pv 2) (nomark _))))))) (fun _ _ _ _ _ => (pe_slice (r := rSlT K) sl_tup (pv 4) (po_some (pe_int)) po_none)))
    (pss_one (ps_ret (pe_ifExp (pt_cmpR (r := rNeD K) (op_neD hr.units) (pv 3) (pe_lst pa_nil) (nomark _)) (pe_ix (r := rIxL K) ix_list (pv 3) (pe_int) (fun _ _ => rfl)) (pe_non)))))
      , ?_⟩
    obtain ⟨a, b, c, d, sa, ja, ta, er, _, _, _, _, _, ed, hti⟩ := id hnet
    have tl := paired_len hti
    refine ⟨.ref r, rfl, r, [.ref a, .ref b, .ref c, .ref d], 3, .ref d, rfl, rfl, SqT.of er, atI_nat (j := 3) rfl, d, rfl, ⟨_, ed.sq⟩, fun D nD => ?_⟩
    refine lc_it (walk_tup (xs := ta.map V.ref)) (fun i H3 => Same H H3 ∧ ∃ fa : List Addr, H3 D = some (.lst (fa.map V.ref)) ∧ Paired (fun a (t : Ti) => H3 a = some (.tup [nS t.ln, .int t.ch])) fa ((tis.take i).filter (isTie x y))) ⟨same_upd nD, [], upd_same, .nil⟩ (fun i H3 _ pv => (ed.same pv.1).sq) (fun i v H3₀ H3 hi pv yy => ?_) (fun H3 pv => ?_)
    · obtain ⟨rfl, ex⟩ := yy
      obtain ⟨s3, fa, eD, hfa⟩ := pv
      obtain ⟨u, eu, rfl⟩ : ∃ u, ta[i]? = some u ∧ v = .ref u := by
        rw [List.getElem?_map] at ex
        cases h : ta[i]? with
        | none => rw [h] at ex; cases ex
        | some t => rw [h] at ex; exact ⟨t, rfl, (Option.some.inj ex).symm⟩
      obtain ⟨t, et, hu⟩ := paired_get hti eu
      have hu3 : H3 u = some (.tup [nS t.a, nS t.b, nS t.ln, .int t.ch]) := s3 _ _ hu
      obtain ⟨nln, nab⟩ := hti0 t (List.mem_of_getElem? et)
      have tk1 : (tis.take (i + 1)).filter (isTie x y) = (tis.take i).filter (isTie x y) ++ if isTie x y t then [t] else [] := by
        rw [List.take_add_one, et, List.filter_append]
        congr 1
        show List.filter _ [t] = _
        cases h : isTie x y t <;> simp [h]
      have no : ∀ {H' : Hp}, Same H3 H' → isTie x y t = false → Same H H' ∧ ∃ fa : List Addr, H' D = some (.lst (fa.map V.ref)) ∧ Paired (fun a (t : Ti) => H' a = some (.tup [nS t.ln, .int t.ch])) fa ((tis.take (i + 1)).filter (isTie x y)) := fun {H'} s' h => by
        refine ⟨s3.trans s', fa, s' _ _ eD, ?_⟩
        rw [tk1, h]
        show Paired _ fa (_ ++ [])
        rw [List.append_nil]
        exact paired_imp hfa fun a _ t e => s' _ _ e
      refine ⟨rfl, nS x, rfl, .ref u, rfl, 2, rfl, u, _, rfl, SqT.of hu3, by show ¬ (0 = 0 ∧ 2 = 4); decide, fun p1 n1 => ?_⟩
      refine ⟨p1, [nS t.a, nS t.b], rfl, .inr (SqT.of upd_same), rfl, rfl, _, rfl, ?_⟩
      have s4 := same_upd (o := .tup (cutV [nS t.a, nS t.b, nS t.ln, .int t.ch] none (some 2))) n1
      refine ite2 (fun c => ?_) (fun c => ?_)
      · have c1 : t.a = x ∨ t.b = x := of_decide_eq_true (in2.symm.trans c)
        refine ⟨nS y, rfl, .ref u, rfl, 2, rfl, u, _, rfl, SqT.of (s4 _ _ hu3), by show ¬ (0 = 0 ∧ 2 = 4); decide, fun p2 n2 => ?_⟩
        refine ⟨p2, [nS t.a, nS t.b], rfl, .inr (SqT.of upd_same), rfl, rfl, _, rfl, ?_⟩
        have s5 := s4.trans (same_upd (o := .tup (cutV [nS t.a, nS t.b, nS t.ln, .int t.ch] none (some 2))) n2)
        refine ite2 (fun c => ?_) (fun c => ?_)
        · have c2 : t.a = y ∨ t.b = y := of_decide_eq_true (in2.symm.trans c)
          refine ⟨nS x, rfl, nS y, rfl, rfl, _, rfl, ?_⟩
          refine ite2 (fun c => ?_) (fun c => ?_)
          · have c3 : x ≠ y := fun z => by
              rw [z] at c
              simp at c
            have yes : isTie x y t = true := decide_eq_true (by
              rcases c1 with h | h
              · rcases c2 with h' | h'
                · exact absurd (h.symm.trans h') c3
                · exact .inl ⟨h, h'⟩
              · rcases c2 with h' | h'
                · exact .inr ⟨h', h⟩
                · exact absurd (h.symm.trans h') c3)
            refine ⟨.ref u, rfl, 2, rfl, u, _, rfl, SqT.of (s5 _ _ hu3), by show ¬ (2 = 0 ∧ 4 = 4); decide, fun p3 n3 => ?_⟩
            have s6 := s5.trans (same_upd (o := .tup [nS t.ln, .int t.ch]) n3)
            have fl := paired_len hfa
            refine ⟨_, s6 _ _ eD, ?_, same_set (s3.trans s6) nD, fa ++ [p3], by rw [upd_same, List.map_append]; rfl, ?_⟩
            · rw [List.length_map, fl]
              refine small5000 (Nat.le_trans (List.length_filter_le ..) ?_)
              rw [List.length_take]
              omega
            · have e3 : (upd (upd (upd H3 p1 (.tup (cutV [nS t.a, nS t.b, nS t.ln, .int t.ch] none (some 2)))) p2 (.tup (cutV [nS t.a, nS t.b, nS t.ln, .int t.ch] none (some 2)))) p3 (.tup [nS t.ln, .int t.ch])) D = some (.lst (fa.map V.ref)) := s6 _ _ eD
              have tkD : TK _ (upd (upd (upd (upd H3 p1 (.tup (cutV [nS t.a, nS t.b, nS t.ln, .int t.ch] none (some 2)))) p2 (.tup (cutV [nS t.a, nS t.b, nS t.ln, .int t.ch] none (some 2)))) p3 (.tup [nS t.ln, .int t.ch])) D (.lst (fa.map V.ref ++ [.ref p3]))) := .upd fun xs e => by rw [e3] at e; cases e
              rw [tk1, yes]
              exact paired_snoc (paired_imp hfa fun a _ t e => tkD _ _ (s6 _ _ e)) (tkD _ _ upd_same)
          · have c3 : x = y := by
              by_cases h : x = y
              · exact h
              · exfalso
                apply c
                show (!decide (nS x = nS y)) = true
                rw [decide_eq_false (fun z => h (SX.S_inj (V.str.inj z)))]
                rfl
            refine no s5 (decide_eq_false fun z => ?_)
            subst c3
            rcases z with z | z
            · exact nab (z.1.trans z.2.symm)
            · exact nab (z.1.trans z.2.symm)
        · have c2 : ¬ (t.a = y ∨ t.b = y) := fun z => c (in2.trans (decide_eq_true z))
          exact no s5 (decide_eq_false fun z => c2 (z.elim (fun q => .inr q.2) fun q => .inl q.1))
      · have c1 : ¬ (t.a = x ∨ t.b = x) := fun z => c (in2.trans (decide_eq_true z))
        exact no s4 (decide_eq_false fun z => c1 (z.elim (fun q => .inl q.1) fun q => .inr q.2))
    obtain ⟨s3, fa, eD, hfa⟩ := pv
    rw [List.length_map, tl, List.take_length] at hfa
    have fl := paired_len hfa
    have fl2 : fa.length ≤ 100 := by rw [fl]; exact Nat.le_trans (List.length_filter_le ..) t100
    refine ⟨.ref D, rfl, Nat.zero_le _, fun e ne => ?_⟩
    have s4 := same_upd (o := .lst []) ne
    have dD : Dt SA (upd H3 e (.lst [])) (.ref D) (.list ((tis.filter (isTie x y)).map tiD)) := .lst trivial (s4 _ _ eD) (by rw [List.length_map]; omega) (dtAll_ti (paired_imp hfa fun a _ t e => s4 _ _ e))
    have dE : Dt SA (upd H3 e (.lst [])) (.ref e) (.list []) := .lst trivial upd_same (Nat.zero_le _) .nil
    have sh : SeqAt.shaped (.list ((tis.filter (isTie x y)).map tiD)) = true := Bool.and_eq_true_iff.mpr ⟨layAll_ti fun t ht => (hti0 t (List.mem_filter.mp ht).1).1, decide_eq_true (by
      show PyData.depthAll _ + 1 ≤ 64
      have := depthAll_ti (tis.filter (isTie x y))
      omega)⟩
    refine ⟨_, _, dD.dp, dE.dp, sh, rfl, _, rfl, ?_⟩
    have hh := head_filter (f := isTie x y) tis
    generalize tis.filter (isTie x y) = ft at hfa hh dD sh fl
    cases hfa with
    | nil => exact q0 _ (s3.trans s4) hh.symm
    | @cons u t fa ft hu _ =>
      exact ⟨.ref D, rfl, D, _, 0, .ref u, rfl, rfl, SqL.of (s4 _ _ eD), atI_nat (j := 0) rfl, q1 _ u t (s3.trans s4) hh.symm (s4 _ _ hu)⟩
end
end Th
namespace Th
open PySem PySem.Spec PyProof.Rows L2
/-! ways: the ties along, legs -/
theorem in_nms {x : Nm} {zs : List Nm} : inV (nS x) (zs.map nS) = decide (x ∈ zs) := by
  unfold inV
  by_cases h : x ∈ zs
  · rw [decide_eq_true h, List.any_map]
    exact List.any_eq_true.mpr ⟨x, h, by show (SX.S x == SX.S x) = true; simp⟩
  · rw [decide_eq_false h, List.any_map]
    refine List.any_eq_false.mpr fun y hy z => h ?_
    have z : (SX.S y == SX.S x) = true := z
    rw [← SX.S_inj (eq_of_beq z)]
    exact hy
theorem flat_nms (zs : List Nm) : (zs.map nS).all flatV = true := by
  rw [List.all_map]
  exact List.all_eq_true.mpr fun _ _ => rfl
theorem snoc_or {α : Type} (xs : List α) : xs = [] ∨ ∃ ys y, xs = ys ++ [y] := by
  rcases List.eq_nil_or_concat xs with h | ⟨ys, y, h⟩
  · exact .inl h
  · exact .inr ⟨ys, y, by rw [h, List.concat_eq_append]⟩
/-- the ties along the places -/
structure Al (tis : List Ti) (ws : List Nm) (ts : List Ti) : Prop where
  len : ts.length + 1 = ws.length
  tie : ∀ i t, ts[i]? = some t → ∃ x y, ws[i]? = some x ∧ ws[i + 1]? = some y ∧ tis.find? (isTie x y) = some t
/-- a way and the net's ties -/
structure WayOk (tis : List Ti) (ws : List Nm) (ts : List Ti) : Prop where
  al : Al tis ws ts
  nm : ∀ z ∈ ws, IsNm z
  l28 : ws.length ≤ 28
  l2 : 2 ≤ ws.length
  t40 : tis.length ≤ 40
  ti : ∀ t ∈ tis, IsNm t.a ∧ IsNm t.b ∧ IsNm t.ln ∧ t.a ≠ t.b ∧ t.ch ≤ 9999
theorem WayOk.ti' {tis : List Ti} {ws : List Nm} {ts : List Ti} (h : WayOk tis ws ts) : ∀ t ∈ ts, t ∈ tis := fun t ht => by
  obtain ⟨i, hi⟩ := List.getElem?_of_mem ht
  obtain ⟨x, y, _, _, e⟩ := h.al.tie i t hi
  exact List.mem_of_find?_eq_some e
abbrev tiP (t : Ti) : Nm × Nat := (t.ln, t.ch)
def PrA (H : Hp) (a : Addr) (g : Nm × Nat) : Prop := H a = some (.tup [nS g.1, .int g.2])
/-- a list of pairs of a line and chains -/
def LgA (H : Hp) (D : Addr) (gs : List (Nm × Nat)) : Prop := ∃ fa : List Addr, H D = some (.lst (fa.map V.ref)) ∧ Paired (PrA H) fa gs
theorem LgA.same {H H' : Hp} {D : Addr} {gs : List (Nm × Nat)} (h : LgA H D gs) (s : Same H H') : LgA H' D gs := let ⟨fa, e, p⟩ := h; ⟨fa, s _ _ e, paired_imp p fun a _ g q => s _ _ q⟩
theorem up0 {H H' : Hp} {p : Addr} (s : Same H H') (n : H' p = none) : H p = none := by
  cases e : H p with
  | none => rfl
  | some o => rw [s _ _ e] at n; cases n
/-- one step of the legs -/
def leg (acc : List (Nm × Nat)) (x : Nm × Nat) : List (Nm × Nat) := match acc.getLast? with
  | some g => if g.1 = x.1 then acc.dropLast ++ [(x.1, g.2 + x.2)] else acc ++ [x]
  | none => acc ++ [x]
def legsM (xs : List (Nm × Nat)) : List (Nm × Nat) := xs.foldl leg []
theorem legsM_snoc (xs : List (Nm × Nat)) (x : Nm × Nat) : legsM (xs ++ [x]) = leg (legsM xs) x := by
  unfold legsM
  rw [List.foldl_append]
  rfl
theorem leg_nil (x : Nm × Nat) : leg [] x = [x] := rfl
theorem leg_one {acc : List (Nm × Nat)} {g x : Nm × Nat} (h : g.1 = x.1) : leg (acc ++ [g]) x = acc ++ [(x.1, g.2 + x.2)] := by
  unfold leg
  rw [List.getLast?_concat, List.dropLast_concat]
  exact if_pos h
theorem leg_two {acc : List (Nm × Nat)} {g x : Nm × Nat} (h : ¬ g.1 = x.1) : leg (acc ++ [g]) x = acc ++ [g] ++ [x] := by
  unfold leg
  rw [List.getLast?_concat]
  exact if_neg h
theorem leg_len (acc : List (Nm × Nat)) (x : Nm × Nat) : (leg acc x).length ≤ acc.length + 1 := by
  rcases snoc_or acc with rfl | ⟨as, g, rfl⟩
  · rw [leg_nil]; simp
  · by_cases h : g.1 = x.1
    · rw [leg_one h]; simp
    · rw [leg_two h]; simp
theorem legsM_len : ∀ (n : Nat) (xs : List (Nm × Nat)), xs.length = n → (legsM xs).length ≤ n
  | 0, xs, h => by rw [List.length_eq_zero_iff.mp h]; exact Nat.le_refl _
  | n + 1, xs, h => by
    rcases snoc_or xs with rfl | ⟨as, g, rfl⟩
    · simp at h
    · rw [legsM_snoc]
      have := leg_len (legsM as) g
      have := legsM_len n as (by simpa using h)
      omega
theorem legsM_mem : ∀ (n : Nat) (xs : List (Nm × Nat)), xs.length = n → ∀ g ∈ legsM xs, ∃ x ∈ xs, x.1 = g.1
  | 0, xs, h, g, hg => by rw [List.length_eq_zero_iff.mp h] at hg; cases hg
  | n + 1, xs, h, g, hg => by
    rcases snoc_or xs with rfl | ⟨as, x, rfl⟩
    · simp at h
    · rw [legsM_snoc] at hg
      have ih := legsM_mem n as (by simpa using h)
      have elder : g ∈ legsM as → ∃ y ∈ as ++ [x], y.1 = g.1 := fun hg => by
        obtain ⟨y, hy, e⟩ := ih g hg
        exact ⟨y, List.mem_append_left _ hy, e⟩
      have own : g.1 = x.1 → ∃ y ∈ as ++ [x], y.1 = g.1 := fun e => ⟨x, by simp, e.symm⟩
      rcases snoc_or (legsM as) with e | ⟨bs, b, e⟩
      · rw [e, leg_nil] at hg
        rw [List.mem_singleton.mp hg]
        exact ⟨x, by simp, rfl⟩
      · rw [e] at hg
        by_cases c : b.1 = x.1
        · rw [leg_one c] at hg
          rcases List.mem_append.mp hg with z | z
          · exact elder (by rw [e]; exact List.mem_append_left _ z)
          · rw [List.mem_singleton.mp z]
            exact ⟨x, by simp, rfl⟩
        · rw [leg_two c] at hg
          rcases List.mem_append.mp hg with z | z
          · exact elder (by rw [e]; exact z)
          · rw [List.mem_singleton.mp z]
            exact ⟨x, by simp, rfl⟩
theorem paired_inv {α β : Type} {R : α → β → Prop} {fa : List α} {bs : List β} {b : β} (h : Paired R fa (bs ++ [b])) : ∃ fi f, fa = fi ++ [f] ∧ Paired R fi bs ∧ R f b := by
  have l := paired_len h
  rcases snoc_or fa with rfl | ⟨fi, f, rfl⟩
  · simp at l
  · have l2 : fi.length = bs.length := by simpa using l
    refine ⟨fi, f, rfl, ?_, ?_⟩
    · have := paired_take fi.length h
      rw [List.take_left, l2, List.take_left] at this
      exact this
    · have := paired_drop fi.length h
      rw [List.drop_left, l2, List.drop_left] at this
      cases this with
      | cons q _ => exact q
theorem cutV_one {α : Type} (xs : List V) : cutV xs (some 1) none = xs.drop 1 := by
  cases xs with
  | nil => rfl
  | cons x xs =>
    unfold cutV
    have e1 : HT.sIx (x :: xs).length 0 (some 1) = 1 := by
      unfold HT.sIx
      simp
      try omega
    have e2 : HT.sIx (x :: xs).length (x :: xs).length none = (x :: xs).length := rfl
    rw [e1, e2]
    rw [List.take_of_length_le]
    rw [List.length_drop]
    exact Nat.le_refl _
section
variable {P : Program} {w : World} {K : PySem.W.Frag} {mg : Str → Option Value} {base : Heap} {k : Nat}
end
end Th
namespace Th
open PySem PySem.Spec PyProof.Rows L2
/-! a drawn way -/
theorem find_of {tis : List Ti} {x y : Nm} {t : Ti} (ht : t ∈ tis) (h : isTie x y t = true) : ∃ u, tis.find? (isTie x y) = some u := by
  cases e : tis.find? (isTie x y) with
  | none => exact absurd h (by rw [Bool.not_eq_true]; exact Bool.eq_false_iff.mpr (List.find?_eq_none.mp e t ht))
  | some u => exact ⟨u, rfl⟩
theorem Al.one (tis : List Ti) (x : Nm) : Al tis [x] [] := ⟨rfl, fun i t h => by simp at h⟩
theorem Al.snoc {tis : List Ti} {ws : List Nm} {x y : Nm} {ts : List Ti} {t : Ti} (h : Al tis (ws ++ [x]) ts) (ht : t ∈ tis) (hy : isTie x y t = true) : ∃ us, Al tis (ws ++ [x] ++ [y]) us := by
  obtain ⟨u, hu⟩ := find_of ht hy
  have l := h.len
  have l' : ts.length = ws.length := by simpa using l
  refine ⟨ts ++ [u], by rw [List.length_append, List.length_append, ← l]; rfl, fun i t hi => ?_⟩
  by_cases c : i < ts.length
  · rw [List.getElem?_append_left c] at hi
    obtain ⟨a, b, h1, h2, h3⟩ := h.tie i t hi
    exact ⟨a, b, by rw [List.getElem?_append_left (by rw [← l]; omega)]; exact h1, by rw [List.getElem?_append_left (by rw [← l]; omega)]; exact h2, h3⟩
  · rw [List.getElem?_append_right (by omega)] at hi
    have e : i = ts.length := by
      have := (List.getElem?_eq_some_iff.mp hi).1
      simp at this
      omega
    subst e
    rw [Nat.sub_self] at hi
    have := Option.some.inj hi
    subst this
    refine ⟨x, y, ?_, ?_, hu⟩
    · rw [List.getElem?_append_left (by rw [← l]; omega), l', List.getElem?_append_right (Nat.le_refl _), Nat.sub_self]
      rfl
    · rw [l, List.getElem?_append_right (Nat.le_refl _), Nat.sub_self]
      rfl
theorem Al.take {tis : List Ti} {ws : List Nm} {ts : List Ti} (h : Al tis ws ts) {n : Nat} (hn : n + 1 ≤ ws.length) : Al tis (ws.take (n + 1)) (ts.take n) := by
  have l := h.len
  refine ⟨by rw [List.length_take, List.length_take]; omega, fun i t hi => ?_⟩
  have hi2 := (List.getElem?_eq_some_iff.mp hi).1
  rw [List.length_take] at hi2
  rw [List.getElem?_take_of_lt (by omega)] at hi
  obtain ⟨a, b, h1, h2, h3⟩ := h.tie i t hi
  exact ⟨a, b, by rw [List.getElem?_take_of_lt (by omega)]; exact h1, by rw [List.getElem?_take_of_lt (by omega)]; exact h2, h3⟩
theorem dtAll_nms {H : Hp} : ∀ zs : List Nm, DtAll SA H (zs.map nS) (zs.map fun z => PyData.str (SX.S z))
  | [] => .nil
  | z :: zs => .cons (.str _) (dtAll_nms zs)
theorem dt_nms {H : Hp} {a : Addr} {p : List Nm} (e : H a = some (.lst (p.map nS))) (l : p.length ≤ 5000) : Dt SA H (.ref a) (.list (p.map fun z => PyData.str (SX.S z))) := .lst trivial e (by rw [List.length_map]; exact l) (dtAll_nms p)
theorem sh_nms {zs : List Nm} (h : ∀ z ∈ zs, IsNm z) : SeqAt.shaped (.list (zs.map fun z => PyData.str (SX.S z))) = true := by
  have h1 : ∀ zs : List Nm, (∀ z ∈ zs, IsNm z) → PyData.canLayAll0 (zs.map fun z => PyData.str (SX.S z)) = true := fun zs => by
    induction zs with
    | nil => exact fun _ => rfl
    | cons z r ih =>
      intro h
      show (PyData.strOk (SX.S z) && PyData.canLayAll0 (r.map fun z => PyData.str (SX.S z))) = true
      rw [nm_ok (h z (List.mem_cons_self ..)), ih fun x hx => h x (List.mem_cons_of_mem _ hx)]
      rfl
  have h2 : ∀ zs : List Nm, PyData.depthAll (zs.map fun z => PyData.str (SX.S z)) = 0 := fun zs => by
    induction zs with
    | nil => rfl
    | cons z r ih =>
      show max 0 (PyData.depthAll (r.map fun z => PyData.str (SX.S z))) = 0
      rw [ih]
      rfl
  refine Bool.and_eq_true_iff.mpr ⟨h1 zs h, decide_eq_true ?_⟩
  show PyData.depthAll _ + 1 ≤ 64
  rw [h2]
  decide
theorem TpF.set {H : Hp} {a G : Addr} {xs ys zs : List V} (h : TpF H a xs) (e : H G = some (.lst ys)) : TpF (upd H G (.lst zs)) a xs := by
  obtain ⟨o, h1, h2⟩ := h
  refine ⟨o, ?_, h2⟩
  rw [upd_ne fun z => by rw [z, e] at h1; cases h1]
  exact h1
/-- a way whose ends are stations -/
def StE (sts : List (Nm × Nm)) (ws : List Nm) : Prop := (∃ x, ws[0]? = some x ∧ x ∈ sts.map (·.1)) ∧ ∃ x, ws[ws.length - 1]? = some x ∧ x ∈ sts.map (·.1)
section
variable {P : Program} {w : World} {K : PySem.W.Frag} {mg : Str → Option Value} {base : Heap} {k : Nat}
def sp_l_walk : Sp := fun vs H Q _ => ∃ (p r wy : Addr) (ls : List Nm) (sts : List (Nm × Nm)) (jns : List (Nm × List Nm)) (tis : List Ti) (ws : List Nm) (ts : List Ti), vs = [.ref p, .ref r, .ref wy] ∧ Bag H p ∧ NetAt H r ls sts jns tis ∧ TpF H wy (ws.map nS) ∧ WayOk tis ws ts ∧ StE sts ws ∧ ws.Nodup ∧
  1 ≤ sts.length ∧ sts.length ≤ 100 ∧ (∀ s ∈ sts, IsNm s.1) ∧ ∀ H' u ws' ts', Keep p H H' → Bag H' p → TpF H' u (ws'.map nS) → WayOk tis ws' ts' → StE sts ws' → ws'.Nodup → Q (.ref u) H'
set_option maxHeartbeats 16000000 in
theorem ok_l_walk (T : Defs K mg) : FnOk P w K mg base CX0 (k + 2) T.a_l_walk T.d_l_walk ["_law_bag_here", "_law_net_here", "_law_way"] sp_l_walk := by
  have G_l_take : FnOk P w K mg base CX0 (k + 1) _ _ _ _ := ok_l_take T
  refine T.F_l_walk.ok sc_l_walk (fun vs H Q E h => ?_) (fun cdv A outer s H vs Q E hr h => ?_)
  · obtain ⟨p, r, wy, ls, sts, jns, tis, ws, ts, rfl, _⟩ := h
    rfl
  · obtain ⟨p, r, wy, ls, sts, jns, tis, ws, ts, rfl, b, hnet, ewy, hw, hSt, hnd, s1, s100, snm, q⟩ := h
    refine ⟨_, PSs.nox
(pss_cons (ps_set (i := 3) sc_l_walk.nd rfl (.inr rfl) (pe_lc (own := [("_law_one", 8)]) (g := gName 8) rfl sc_l_walk.nd (pi_tup (pe_ix (r := rIxT K) ix_tup (pv 1) (pe_int) (fun _ _ => rfl))) (blkOk_by (N := N_l_walk) (sc := defScope s_l_walk) (by decide +kernel)) (fun _ _ _ _ _ => (pg_name (i := 8) sc_l_walk.nd rfl (.inl rfl))) (fun _ _ _ _ _ => pts_nil) (fun _ _ _ _ _ => (pe_ix (r := rIxT K) ix_tup (pv 8) (pe_int) (fun _ _ => rfl)))))
    (pss_cons (ps_set (i := 4) sc_l_walk.nd rfl (.inr rfl) (pe_lst (pa_cons (pe_ix (r := rIxL K) ix_list (pv 3) (pe_call G_l_take hr (by rfl) T.g_l_take T.F_l_take.kp T.b_l_take .nil pass0 (pa_cons (pv 0) (pa_cons (pe_callB (r := rLenS K) call_lenS (by rfl) T.z_len (by decide +kernel) (pa_cons (pv 3) pa_nil)) pa_nil))) (fun _ _ => rfl)) pa_nil)))
    (pss_cons (ps_for PassesOwn.never rfl (pi_range1 (by rfl) T.z_range (pa_cons (pe_int) pa_nil)) (pg_name (i := 5) sc_l_walk.nd rfl (.inl rfl))
      (pss_cons (ps_setLc (i := 6) (own := [("_law_one", 8)]) (g := gName 8) rfl sc_l_walk.nd rfl rfl (sw_true rfl rfl rfl (by decide +kernel)) (pi_list (pe_lc (own := [("_law_tie_here", 9)]) (g := gName 9) rfl sc_l_walk.nd (pi_tup (pe_ix (r := rIxT K) ix_tup (pv 1) (pe_int) (fun _ _ => rfl))) (blkOk_by (N := N_l_walk) (sc := defScope s_l_walk) (by decide +kernel)) (fun _ _ _ _ _ => (pg_name (i := 9) sc_l_walk.nd rfl (.inl rfl))) (fun _ _ _ _ _ => pts_nil) (fun _ _ _ _ _ => (pe_slice (r := Tw.rSlF K) Tw.sl_tupF (pv 9) po_none (po_some (pe_int)))))) (blkOk_by (N := N_l_walk) (sc := defScope s_l_walk) (by decide +kernel)) (fun _ _ _ _ _ => (pg_name (i := 8) sc_l_walk.nd rfl (.inl rfl))) (fun _ _ _ _ _ => pts_one (pt_cmpR (r := rIn K false) op_in_seq (pe_ix (r := rIxL K) ix_list (pv 4) (pe_un un_neg (pe_int)) (fun _ _ => rfl)) (pv 8) (by rfl))) (fun _ _ _ _ _ => (pe_ix (r := rIxT K) ix_tup (pv 8) (pe_op op_sub (pe_int) (pe_mG (ty := Tw.tyTp) (r := Tw.rIdxT K) Tw.ty_tp PySem.F.plainAttrs_tuple PySem.F.slot_tuple_index PySem.F.type_tuple_index Tw.mt_tidx (pv 8) (pa_cons (pe_ix (r := rIxL K) ix_list (pv 4) (pe_un un_neg (pe_int)) (fun _ _ => rfl)) pa_nil))) (fun _ _ => rfl))))
      (pss_cons (ps_setLc (i := 6) (own := [("_law_place", 10)]) (g := gName 10) rfl sc_l_walk.nd rfl rfl (sw_true rfl rfl rfl (by decide +kernel)) (pi_list (pv 6)) (blkOk_by (N := N_l_walk) (sc := defScope s_l_walk) (by decide +kernel)) (fun _ _ _ _ _ => (pg_name (i := 10) sc_l_walk.nd rfl (.inl rfl))) (fun _ _ _ _ _ => pts_one (pt_cmpR (r := rIn K true) op_notIn_seq (pv 10) (pv 4) (by rfl))) (fun _ _ _ _ _ => (pv 10)))
      (pss_one (ps_if (pt_cmpR (r := rNeD K) (op_neD hr.units) (pv 6) (pe_lst pa_nil) (nomark _))
        (pss_one (ps_expr (pe_bm PySem.F.plainAttrs_list PySem.F.slot_list_append PySem.F.type_list_append mt_append (pv 4) (pa_cons (pe_ix (r := rIxL K) ix_list (pv 6) (pe_call G_l_take hr (by rfl) T.g_l_take T.F_l_take.kp T.b_l_take .nil pass0 (pa_cons (pv 0) (pa_cons (pe_callB (r := rLenS K) call_lenS (by rfl) T.z_len (by decide +kernel) (pa_cons (pv 6) pa_nil)) pa_nil))) (fun _ _ => rfl)) pa_nil))))
        pss_nil)))))
    (pss_cons (ps_setLc (i := 7) (own := [("_law_at", 11)]) (g := gName 11) rfl sc_l_walk.nd rfl rfl (sw_true rfl rfl rfl (by decide +kernel)) (pi_range2 (by rfl) T.z_range (pa_cons (pe_int) (pa_cons (pe_callB (r := rLenS K) call_lenS (by rfl) T.z_len (by decide +kernel) (pa_cons (pv 4) pa_nil)) pa_nil))) (blkOk_by (N := N_l_walk) (sc := defScope s_l_walk) (by decide +kernel)) (fun _ _ _ _ _ => (pg_name (i := 11) sc_l_walk.nd rfl (.inl rfl))) (fun _ _ _ _ _ => pts_one (pt_cmpR (r := rIn K false) op_in_seq (pe_ix (r := rIxL K) ix_list (pv 4) (pv 11) (fun _ _ => rfl)) (pv 3) (by rfl))) (fun _ _ _ _ _ => (pv 11)))
    (pss_cons (ps_if (PW.pt (pw_or (pt_cmpR (r := rEqD K) (op_eqD hr.units) (pv 7) (pe_lst pa_nil) (nomark _)) (pw_or1 (pt_cmpR op_eq (pe_call G_l_take hr (by rfl) T.g_l_take T.F_l_take.kp T.b_l_take .nil pass0 (pa_cons (pv 0) (pa_cons (pe_int) pa_nil))) (pe_int) (nomark _)))))
      (pss_one (ps_ret (pv 2)))
      pss_nil)
    (pss_one (ps_ret (pe_callTy (r := rTupF K) call_tuple_ofF (by rfl) T.z_tuple (by decide +kernel) (pa_cons (pe_slice sl_list (pv 4) po_none (po_some (pe_op op_add (pe_ix (r := rIxL K) ix_list (pv 7) (pe_op op_sub (pe_un un_neg (pe_int)) (pe_call G_l_take hr (by rfl) T.g_l_take T.F_l_take.kp T.b_l_take .nil pass0 (pa_cons (pv 0) (pa_cons (pe_callB (call_min2 rfl) (by rfl) T.z_min (by decide +kernel) (pa_cons (pe_int) (pa_cons (pe_callB (r := rLenS K) call_lenS (by rfl) T.z_len (by decide +kernel) (pa_cons (pv 7) pa_nil)) pa_nil))) pa_nil)))) (fun _ _ => rfl)) (pe_int)))) pa_nil)))))))))
      , ?_⟩
    obtain ⟨na, nb, nc, nd, sa, ja, ta, er, _, eb, hsa, _, _, ed, hta⟩ := id hnet
    have sl := paired_len hsa
    have tl := paired_len hta
    have t40 := hw.t40
    refine ⟨.ref r, rfl, r, [.ref na, .ref nb, .ref nc, .ref nd], 1, .ref nb, rfl, rfl, SqT.of er, atI_nat (j := 1) rfl, nb, rfl, ⟨_, eb.sq⟩, fun S nSt => ?_⟩
    have nSp : S ≠ p := b.ne nSt
    refine lc_it (walk_tup (xs := sa.map V.ref)) (fun i H3 => Same H H3 ∧ H3 S = some (.lst (((sts.take i).map (·.1)).map nS))) ⟨same_upd nSt, upd_same⟩ (fun i H3 _ pv => (eb.same pv.1).sq) (fun i v H3₀ H3 hi pv yy => ?_) (fun H3 pv => ?_)
    · obtain ⟨rfl, ex⟩ := yy
      obtain ⟨s3, eS⟩ := pv
      obtain ⟨u, eu, rfl⟩ : ∃ u, sa[i]? = some u ∧ v = .ref u := by
        rw [List.getElem?_map] at ex
        cases h : sa[i]? with
        | none => rw [h] at ex; cases ex
        | some t => rw [h] at ex; exact ⟨t, rfl, (Option.some.inj ex).symm⟩
      obtain ⟨st, est, hu⟩ := paired_get hsa eu
      refine ⟨rfl, yes_ ⟨.ref u, rfl, u, _, 0, nS st.1, rfl, rfl, SqT.of (s3 _ _ hu), atI_nat (j := 0) rfl, _, eS, by rw [List.length_map, List.length_map, List.length_take]; exact small5000 (by omega), same_set s3 nSt, ?_⟩⟩
      rw [upd_same, List.take_add_one, est, List.map_append, List.map_append]
      rfl
    obtain ⟨s3, eS⟩ := pv
    rw [List.length_map, sl, List.take_length] at eS
    have b3 := b.keep s3
    -- found
    refine ⟨.ref S, rfl, .ref p, rfl, .ref S, rfl, S, _, rfl, .inl (SqL.of eS), p, ((sts.map (·.1)).length : Nat), by rw [List.length_map]; rfl, b3, by rw [List.length_map]; omega, by rw [List.length_map]; omega, fun H4 d k4 b4 d0 d1 => ?_⟩
    obtain ⟨dd, rfl⟩ : ∃ dd : Nat, d = (dd : Int) := ⟨d.toNat, by omega⟩
    have hdd : dd < sts.length := by rw [List.length_map] at d1; omega
    have eS4 := k4 _ _ nSp eS
    refine ⟨S, _, (dd : Int), nS (sts[dd]).1, rfl, rfl, SqL.of eS4, atI_nat (by rw [List.getElem?_map, List.getElem?_map, List.getElem?_eq_getElem hdd]; rfl), by show 1 ≤ sizeLine; decide, fun F nF => ?_⟩
    have nFp : F ≠ p := b4.ne nF
    have k04 : Keep p H H4 := (Keep.of s3).trans k4
    have nF0 : H F = none := k04.free b nF b4
    have nSF : S ≠ F := ne_of_none eS4 nF
    refine ⟨27, rfl, by decide, by decide, ?_⟩
    refine for_range (lo := 0) (n := 27) (fun i σ H5 => ∃ (y5 y6 : Option V) (fs : List Nm) (x : Nm) (tf : List Ti), σ = [some (.ref p), some (.ref r), some (.ref wy), some (.ref S), some (.ref F), y5, y6, none, none, none, none, none] ∧ Keep p H H5 ∧ Bag H5 p ∧ H5 S = some (.lst ((sts.map (·.1)).map nS)) ∧ H5 F = some (.lst ((fs ++ [x]).map nS)) ∧ Al tis (fs ++ [x]) tf ∧ (∀ z ∈ fs ++ [x], IsNm z) ∧ fs.length ≤ i ∧ (fs ++ [x])[0]? = some (sts[dd]).1 ∧ (fs ++ [x]).Nodup)
      ⟨none, none, [], (sts[dd]).1, [], rfl, k04.new nF, b4.keep (same_upd nF), same_upd nF _ _ eS4, upd_same, Al.one _ _, fun z hz => by rw [List.mem_singleton.mp hz]; exact snm _ (List.getElem_mem hdd), Nat.zero_le _, rfl, by simp⟩ (fun i σ H5 hi hp => ?_) (fun σ H5 hp => ?_)
    · obtain ⟨y5, y6, fs, x, tf, rfl, k5, b5, eS5, eF5, hal, hnm, hfl, hf0, hfn⟩ := hp
      have tk5 : TK H H5 := .keep k5 b
      have last : ∀ {H' : Hp}, H' F = some (.lst ((fs ++ [x]).map nS)) → atI ((fs ++ [x]).map nS) (-1) = some (nS x) := fun _ => by rw [List.map_append]; exact atI_last _ _
      refine ⟨.ref r, rfl, r, [.ref na, .ref nb, .ref nc, .ref nd], 3, .ref nd, rfl, rfl, SqT.of (tk5 _ _ er), atI_nat (j := 3) rfl, nd, rfl, ⟨_, (ed.tk tk5).sq⟩, fun G nG => ?_⟩
      refine lc_it (walk_tup (xs := ta.map V.ref)) (fun j H6 => Same H5 H6 ∧ ∃ ga : List Addr, H6 G = some (.lst (ga.map V.ref)) ∧ Paired (fun a (t : Ti) => TpF H6 a [nS t.a, nS t.b]) ga (tis.take j)) ⟨same_upd nG, [], upd_same, .nil⟩ (fun j H6 _ pv => ((ed.tk tk5).same pv.1).sq) (fun j v H6₀ H6 hj pv yy => ?_) (fun H6 pv => ?_)
      · obtain ⟨rfl, ex⟩ := yy
        obtain ⟨s6, ga, eG, hga⟩ := pv
        obtain ⟨u, eu, rfl⟩ : ∃ u, ta[j]? = some u ∧ v = .ref u := by
          rw [List.getElem?_map] at ex
          cases h : ta[j]? with
          | none => rw [h] at ex; cases ex
          | some t => rw [h] at ex; exact ⟨t, rfl, (Option.some.inj ex).symm⟩
        obtain ⟨t, et, hu⟩ := paired_get hta eu
        have hu6 : H6 u = some (.tup [nS t.a, nS t.b, nS t.ln, .int t.ch]) := s6 _ _ (tk5 _ _ hu)
        refine ⟨rfl, yes_ ⟨.ref u, rfl, 2, rfl, u, _, rfl, SqT.of hu6, by show ¬ (0 = 0 ∧ 2 = 4); decide, fun c H7 nc7 s7 hc7 _ => ?_⟩⟩
        have eG7 := s7 _ _ eG
        refine ⟨_, eG7, by rw [List.length_map, paired_len hga, List.length_take]; exact small5000 (by omega), same_set (s6.trans s7) nG, ga ++ [c], by rw [upd_same, List.map_append]; rfl, ?_⟩
        rw [List.take_add_one, et]
        exact paired_snoc (paired_imp hga fun a _ t h => (h.same s7).set eG7) (TpF.set hc7 eG7)
      obtain ⟨s6, ga, eG, hga⟩ := pv
      rw [List.length_map, tl, List.take_length] at hga
      have gl := paired_len hga
      have eF6 := s6 _ _ eF5
      refine ⟨G, rfl, ⟨_, SqL.of eG⟩, fun M nM => ?_⟩
      refine lc_it (walk_list (xs := ga.map V.ref)) (fun j H7 => Same H6 H7 ∧ ∃ ys : List Nm, H7 M = some (.lst (ys.map nS)) ∧ ys.length ≤ j ∧ ∀ y ∈ ys, ∃ t ∈ tis, isTie x y t = true ∧ IsNm y) ⟨same_upd nM, [], upd_same, Nat.zero_le _, fun y hy => (by cases hy)⟩ (fun j H7 _ pv => SqL.of (pv.1 _ _ eG)) (fun j v H7₀ H7 hj pv yy => ?_) (fun H7 pv => ?_)
      · obtain ⟨rfl, ex⟩ := yy
        obtain ⟨s7, ys, eM, yl, hys⟩ := pv
        rw [List.length_map] at hj
        obtain ⟨a, ea, rfl⟩ : ∃ u, ga[j]? = some u ∧ v = .ref u := by
          rw [List.getElem?_map] at ex
          cases h : ga[j]? with
          | none => rw [h] at ex; cases ex
          | some t => rw [h] at ex; exact ⟨t, rfl, (Option.some.inj ex).symm⟩
        obtain ⟨t, et, ha⟩ := paired_get hga ea
        have tin := List.mem_of_getElem? et
        obtain ⟨nta, ntb, _, _, _⟩ := hw.ti t tin
        have ha7 := ha.same s7
        have eF7 := s7 _ _ eF6
        refine ⟨rfl, .ref F, rfl, 1, rfl, F, _, -1, nS x, rfl, rfl, SqL.of eF7, last eF7, .ref a, rfl, a, [nS t.a, nS t.b], rfl, .inr ha7.sq, rfl, rfl, _, rfl, ite2 (fun c => ?_) (fun c => ?_)⟩
        · have c : t.a = x ∨ t.b = x := of_decide_eq_true (in2.symm.trans c)
          by_cases ca : t.a = x
          · refine ⟨.ref a, rfl, .ref a, rfl, ⟨a, _, rfl, ha7⟩, .ref F, rfl, 1, rfl, F, _, -1, nS x, rfl, rfl, SqL.of eF7, last eF7, a, [SX.S t.a, SX.S t.b], SX.S x, 0, rfl, rfl, ha7.sq, by rw [ca]; rfl, fun m hm => absurd hm (Nat.not_lt_zero _), 1, ((0 : Nat) : Int), rfl, rfl, a, [nS t.a, nS t.b], 1 - ((0 : Nat) : Int), nS t.b, rfl, rfl, ha7.sq, atI_nat (j := 1) rfl, _, eM, by rw [List.length_map]; exact small5000 (by omega), same_set s7 nM, ys ++ [t.b], by rw [upd_same, List.map_append]; rfl, by rw [List.length_append]; exact Nat.succ_le_succ yl, fun y hy => ?_⟩
            rcases List.mem_append.mp hy with z | z
            · exact hys y z
            · rw [List.mem_singleton.mp z]
              exact ⟨t, tin, decide_eq_true (.inl ⟨ca, rfl⟩), ntb⟩
          · have cb : t.b = x := c.elim (fun z => absurd z ca) id
            refine ⟨.ref a, rfl, .ref a, rfl, ⟨a, _, rfl, ha7⟩, .ref F, rfl, 1, rfl, F, _, -1, nS x, rfl, rfl, SqL.of eF7, last eF7, a, [SX.S t.a, SX.S t.b], SX.S x, 1, rfl, rfl, ha7.sq, by rw [cb]; rfl, fun m hm => ?_, 1, ((1 : Nat) : Int), rfl, rfl, a, [nS t.a, nS t.b], 1 - ((1 : Nat) : Int), nS t.a, rfl, rfl, ha7.sq, atI_nat (j := 0) rfl, _, eM, by rw [List.length_map]; exact small5000 (by omega), same_set s7 nM, ys ++ [t.a], by rw [upd_same, List.map_append]; rfl, by rw [List.length_append]; exact Nat.succ_le_succ yl, fun y hy => ?_⟩
            · have : m = 0 := by omega
              subst this
              exact fun z => ca (SX.S_inj (Option.some.inj z))
            · rcases List.mem_append.mp hy with z | z
              · exact hys y z
              · rw [List.mem_singleton.mp z]
                exact ⟨t, tin, decide_eq_true (.inr ⟨rfl, cb⟩), nta⟩
        · exact ⟨s7, ys, eM, by omega, hys⟩
      obtain ⟨s7, ys, eM, yl, hys⟩ := pv
      rw [List.length_map, gl] at yl
      have eF7 := s7 _ _ eF6
      refine ⟨.ref M, rfl, M, rfl, ⟨_, SqL.of eM⟩, fun N nN => ?_⟩
      refine lc_it (walk_list (xs := ys.map nS)) (fun j H8 => Same H7 H8 ∧ ∃ zs : List Nm, H8 N = some (.lst (zs.map nS)) ∧ zs.length ≤ j ∧ ∀ z ∈ zs, z ∈ ys ∧ z ∉ fs ++ [x]) ⟨same_upd nN, [], upd_same, Nat.zero_le _, fun y hy => (by cases hy)⟩ (fun j H8 _ pv => SqL.of (pv.1 _ _ eM)) (fun j v H8₀ H8 hj pv yy => ?_) (fun H8 pv => ?_)
      · obtain ⟨rfl, ex⟩ := yy
        obtain ⟨s8, zs, eN, zl, hzs⟩ := pv
        rw [List.length_map] at hj
        obtain ⟨y, ey, rfl⟩ : ∃ l, ys[j]? = some l ∧ v = nS l := by
          rw [List.getElem?_map] at ex
          cases h : ys[j]? with
          | none => rw [h] at ex; cases ex
          | some t => rw [h] at ex; exact ⟨t, rfl, (Option.some.inj ex).symm⟩
        refine ⟨rfl, nS y, rfl, .ref F, rfl, F, _, rfl, .inl (SqL.of (s8 _ _ eF7)), rfl, flat_nms _, _, rfl, ite2 (fun c => ?_) (fun c => ?_)⟩
        · refine ⟨nS y, rfl, _, eN, by rw [List.length_map]; exact small5000 (by omega), same_set s8 nN, zs ++ [y], by rw [upd_same, List.map_append]; rfl, by rw [List.length_append]; exact Nat.succ_le_succ zl, fun z hz => ?_⟩
          rcases List.mem_append.mp hz with h | h
          · exact hzs z h
          · rw [List.mem_singleton.mp h]
            exact ⟨List.mem_of_getElem? ey, fun z => by
              have e : inV (nS y) ((fs ++ [x]).map nS) = true := in_nms.trans (decide_eq_true z)
              rw [e] at c
              exact absurd c (by decide)⟩
        · exact ⟨s8, zs, eN, by omega, hzs⟩
      obtain ⟨s8, zs, eN, zl, hzs⟩ := pv
      rw [List.length_map] at zl
      have s58 := s6.trans (s7.trans s8)
      have k58 : Keep p H H8 := k5.trans (Keep.of s58)
      have b8 := b5.keep s58
      refine ⟨.ref N, rfl, Nat.zero_le _, fun e ne => ?_⟩
      have s9 := same_upd (o := .lst []) ne
      have dN : Dt SA (upd H8 e (.lst [])) (.ref N) (.list (zs.map fun z => PyData.str (SX.S z))) := (dt_nms eN (by omega)).same s9
      have dE : Dt SA (upd H8 e (.lst [])) (.ref e) (.list []) := .lst trivial upd_same (Nat.zero_le _) .nil
      refine ⟨_, _, dN.dp, dE.dp, sh_nms fun z hz => let ⟨t, _, _, h⟩ := hys z (hzs z hz).1; h, rfl, _, rfl, ?_⟩
      have k9 := k58.trans (Keep.of s9)
      have b9 := b8.keep s9
      have eF9 := s9 _ _ (s8 _ _ eF7)
      have eS9 := s9 _ _ (s58 _ _ eS5)
      have eN9 := s9 _ _ eN
      have nN5 : H5 N = none := up0 (s6.trans s7) nN
      have nNp : N ≠ p := b5.ne nN5
      clear dN dE
      generalize upd H8 e (.lst []) = H9 at s9 k9 b9 eF9 eS9 eN9
      rcases zs with _ | ⟨z0, zr⟩
      · refine iteF ?_
        exact ⟨_, _, fs, x, tf, rfl, k9, b9, eS9, eF9, hal, hnm, by omega, hf0, hfn⟩
      · refine iteT ?_
        refine ⟨.ref F, rfl, .inl ⟨rfl, _, SqL.of eF9⟩, .ref N, rfl, .ref p, rfl, .ref N, rfl, N, _, rfl, .inl (SqL.of eN9), p, ((z0 :: zr).length : Nat), by rw [List.length_map]; rfl, b9, by simp only [List.length_cons]; omega, by omega, fun H10 d k10 b10 d0 d1 => ?_⟩
        obtain ⟨ee, rfl⟩ : ∃ ee : Nat, d = (ee : Int) := ⟨d.toNat, by omega⟩
        have hee : ee < (z0 :: zr).length := by omega
        have eF10 := k10 _ _ nFp eF9
        have zin := hzs _ (List.getElem_mem hee)
        obtain ⟨t, tin, htie, znm⟩ := hys _ zin.1
        obtain ⟨us, hus⟩ := hal.snoc tin htie
        refine ⟨N, _, (ee : Int), nS (z0 :: zr)[ee], rfl, rfl, SqL.of (k10 _ _ nNp eN9), atI_nat (by rw [List.getElem?_map, List.getElem?_eq_getElem hee]; rfl), F, _, _, rfl, rfl, eF10, by rw [List.length_map, List.length_append, List.length_singleton]; exact small5000 (by omega), ?_⟩
        refine ⟨_, _, fs ++ [x], (z0 :: zr)[ee], us, rfl, (k9.trans k10).set nF0, b10.at (upd_ne nFp.symm), by rw [upd_ne nSF]; exact k10 _ _ nSp eS9, by rw [upd_same, List.map_append (l₁ := fs ++ [x])]; rfl, hus, fun z hz => ?_, by rw [List.length_append, List.length_singleton]; omega, by rw [List.getElem?_append_left (by rw [List.length_append, List.length_singleton]; omega)]; exact hf0, List.nodup_append.mpr ⟨hfn, by simp, fun a ha b hb e => zin.2 (by rw [List.mem_singleton.mp hb] at e; rw [← e]; exact ha)⟩⟩
        rcases List.mem_append.mp hz with h | h
        · exact hnm z h
        · rw [List.mem_singleton.mp h]
          exact znm
    · obtain ⟨y5, y6, fs, x, tf, rfl, k5, b5, eS5, eF5, hal, hnm, hfl, hf0, hfn⟩ := hp
      have fl : (fs ++ [x]).length ≤ 28 := by rw [List.length_append, List.length_singleton]; omega
      have fl1 : 1 ≤ (fs ++ [x]).length := by rw [List.length_append, List.length_singleton]; omega
      generalize fs ++ [x] = gs at eF5 hal hnm fl fl1 hf0 hfn
      refine ⟨.ref F, rfl, F, _, rfl, .inl (SqL.of eF5), _, _, rfl, ⟨by decide, by decide, by rw [List.length_map]; omega, by rw [List.length_map]; omega⟩, fun En nE => ?_⟩
      rw [show (((gs.map nS).length : Int) - 1).toNat = gs.length - 1 by rw [List.length_map]; omega]
      refine lc_range (lo := 1) (n := gs.length - 1) (fun i H6 => Same H5 H6 ∧ ∃ es : List Int, H6 En = some (.lst (es.map V.int)) ∧ es.length ≤ i ∧ ∀ e ∈ es, 1 ≤ e ∧ e < gs.length ∧ ∃ y, gs[e.toNat]? = some y ∧ y ∈ sts.map (·.1)) ⟨same_upd nE, [], upd_same, Nat.zero_le _, fun e he => (by cases he)⟩ (fun i H6 hi pv => ?_) (fun H6 pv => ?_)
      · obtain ⟨s6, es, eE, el, hes⟩ := pv
        have gi : (gs.map nS)[i + 1]? = some (nS gs[i + 1]) := by rw [List.getElem?_map, List.getElem?_eq_getElem]; rfl
        refine ⟨rfl, .ref F, rfl, .int (1 + (i : Int)), rfl, F, _, 1 + (i : Int), nS (gs[i + 1]), rfl, rfl, SqL.of (s6 _ _ eF5), by rw [show (1 : Int) + (i : Int) = ((i + 1 : Nat) : Int) by omega]; exact atI_nat gi, .ref S, rfl, S, _, rfl, .inl (SqL.of (s6 _ _ eS5)), rfl, flat_nms _, _, rfl, ite2 (fun c => ?_) (fun c => ?_)⟩
        · refine ⟨.int (1 + (i : Int)), rfl, _, eE, by rw [List.length_map]; exact small5000 (by omega), same_set s6 nE, es ++ [1 + (i : Int)], by rw [upd_same, List.map_append]; rfl, by rw [List.length_append]; exact Nat.succ_le_succ el, fun e he => ?_⟩
          rcases List.mem_append.mp he with h | h
          · exact hes e h
          · rw [List.mem_singleton.mp h]
            refine ⟨by omega, by omega, gs[i + 1], ?_, of_decide_eq_true (in_nms.symm.trans c)⟩
            rw [show (1 + (i : Int)).toNat = i + 1 by omega]
            exact List.getElem?_eq_getElem (by omega)
        · exact ⟨s6, es, eE, by omega, hes⟩
      obtain ⟨s6, es, eE, el, hes⟩ := pv
      have nEp : En ≠ p := b5.ne nE
      refine ⟨.ref En, rfl, Nat.zero_le _, fun e ne => ?_⟩
      have s7 := same_upd (o := .lst []) ne
      have dN : Dt SA (upd H6 e (.lst [])) (.ref En) (dI es) := (dt_ints eE (by omega)).same s7
      have dE : Dt SA (upd H6 e (.lst [])) (.ref e) (.list []) := .lst trivial upd_same (Nat.zero_le _) .nil
      refine ⟨_, _, dN.dp, dE.dp, shaped_ints es, rfl, _, rfl, ?_⟩
      have k7 : Keep p H (upd H6 e (.lst [])) := k5.trans (Keep.of (s6.trans s7))
      have b7 := b5.keep (s6.trans s7)
      have eF7 := s7 _ _ (s6 _ _ eF5)
      have eE7 := s7 _ _ eE
      clear dN dE
      generalize upd H6 e (.lst []) = H7 at s7 k7 b7 eF7 eE7
      have own : ∀ {H' : Hp}, Keep p H H' → Bag H' p → Q (.ref wy) H' := fun k' b' => q _ wy ws ts k' b' (ewy.tk (TK.keep k' b)) hw hSt hnd
      rcases es with _ | ⟨e0, er0⟩
      · exact iteT (iteT ⟨.ref wy, rfl, own k7 b7⟩)
      · refine iteF ?_
        refine ⟨.ref p, rfl, p, 4, rfl, b7, by decide, by decide, fun H8 d8 k8 b8 d80 d81 => ⟨rfl, _, rfl, ite2 (fun c => ?_) (fun c => ?_)⟩⟩
        · exact ⟨.ref wy, rfl, own (k7.trans k8) b8⟩
        · have eF8 := k8 _ _ nFp eF7
          have eE8 := k8 _ _ nEp eE7
          refine ⟨.ref F, rfl, .ref En, rfl, 1, rfl, .ref p, rfl, .ref En, rfl, En, _, rfl, .inl (SqL.of eE8), _, _, rfl, p, _, rfl, b8, ?_, ?_, fun H9 d k9 b9 d0 d1 => ?_⟩
          · rw [List.length_map, List.length_cons]
            split <;> omega
          · rw [List.length_map, List.length_cons]
            split <;> omega
          · have d2 : d < ((e0 :: er0).length : Int) := by
              rw [List.length_map] at d1
              split at d1 <;> omega
            have eF9 := k9 _ _ nFp eF8
            have eE9 := k9 _ _ nEp eE8
            obtain ⟨ee, rfl⟩ : ∃ ee : Nat, d = (ee : Int) := ⟨d.toNat, by omega⟩
            have hj : (e0 :: er0).length - 1 - ee < (e0 :: er0).length := by omega
            have hat : atI ((e0 :: er0).map V.int) (-1 - (ee : Int)) = some (.int ((e0 :: er0)[(e0 :: er0).length - 1 - ee])) := by
              unfold atI ixN
              rw [List.length_map, if_neg (by omega), if_pos (by omega), show (-1 - (ee : Int) + ((e0 :: er0).length : Int)).toNat = (e0 :: er0).length - 1 - ee by omega]
              show ((e0 :: er0).map V.int)[(e0 :: er0).length - 1 - ee]? = _
              rw [List.getElem?_map, List.getElem?_eq_getElem hj]
              rfl
            have hein := hes _ (List.getElem_mem hj)
            generalize (e0 :: er0)[(e0 :: er0).length - 1 - ee] = en at hat hein
            obtain ⟨m, rfl⟩ : ∃ m : Nat, en = (m : Int) := ⟨en.toNat, by omega⟩
            refine ⟨-1, (ee : Int), rfl, rfl, En, _, -1 - (ee : Int), .int (m : Int), rfl, rfl, SqL.of eE9, hat, _, 1, rfl, rfl, _, rfl, F, _, rfl, SqL.of eF9, fun p2 np2 => ?_⟩
            rw [show ((m : Int) + 1) = ((m + 1 : Nat) : Int) by omega, cut_to]
            refine ⟨p2, _, rfl, SqL.of upd_same, fun u H10 nu sF tF _ => ?_⟩
            have s10 := (same_upd (o := .lst ((gs.map nS).take (m + 1))) np2).trans sF
            refine q _ u (gs.take (m + 1)) (tf.take m) ((k7.trans (k8.trans k9)).trans (Keep.of s10)) (b9.keep s10) (by rw [List.map_take]; exact tF) ⟨hal.take (by omega), fun z hz => hnm z (List.mem_of_mem_take hz), by rw [List.length_take]; omega, by rw [List.length_take]; omega, hw.t40, hw.ti⟩ ⟨⟨_, by rw [List.getElem?_take_of_lt (by omega)]; exact hf0, List.mem_map_of_mem (List.getElem_mem hdd)⟩, ?_⟩ (hfn.sublist (List.take_sublist ..))
            obtain ⟨y, hy1, hy2⟩ := hein.2.2
            rw [Int.toNat_natCast] at hy1
            refine ⟨y, ?_, hy2⟩
            rw [List.length_take, show min (m + 1) gs.length - 1 = m by omega, List.getElem?_take_of_lt (by omega)]
            exact hy1
end
end Th
namespace Th
open PySem PySem.Spec PyProof.Rows L2
/-! the law of legs, crossings, chains -/
theorem sq_same {K : PySem.W.Frag} {H H' : Hp} {a : Addr} {xs : List V} (s : Same H H') (h : SqL K H a xs) : SqL K H' a xs := by
  rcases h with (h | ⟨o, h⟩) | h
  · exact .inl (.inl (s _ _ h))
  · exact .inl (.inr ⟨o, s _ _ h⟩)
  · exact .inr h
theorem isTie_comm (x y : Nm) : isTie x y = isTie y x := by
  funext t
  unfold isTie
  by_cases h : (t.a = x ∧ t.b = y) ∨ (t.a = y ∧ t.b = x)
  · rw [decide_eq_true h, decide_eq_true h.symm]
  · rw [decide_eq_false h, decide_eq_false fun z => h z.symm]
theorem WayOk.rev {tis : List Ti} {ws : List Nm} {ts : List Ti} (h : WayOk tis ws ts) : WayOk tis ws.reverse ts.reverse := by
  have l := h.al.len
  refine ⟨⟨by rw [List.length_reverse, List.length_reverse]; exact l, fun i t hi => ?_⟩, fun z hz => h.nm z (List.mem_reverse.mp hz), by rw [List.length_reverse]; exact h.l28, by rw [List.length_reverse]; exact h.l2, h.t40, h.ti⟩
  have hi2 := (List.getElem?_eq_some_iff.mp hi).1
  rw [List.length_reverse] at hi2
  rw [List.getElem?_reverse hi2] at hi
  obtain ⟨x, y, h1, h2, h3⟩ := h.al.tie _ t hi
  refine ⟨y, x, ?_, ?_, by rw [isTie_comm]; exact h3⟩
  · rw [List.getElem?_reverse (by omega), show ws.length - 1 - i = ts.length - 1 - i + 1 by omega]
    exact h2
  · rw [List.getElem?_reverse (by omega), show ws.length - 1 - (i + 1) = ts.length - 1 - i by omega]
    exact h1
theorem net_ti {ls zs : List Nm} {qs : List (List Nat)} {J : Nat} {tis : List Ti} (h : NetOk ls zs qs J tis) : ∀ t ∈ tis, IsNm t.a ∧ IsNm t.b ∧ IsNm t.ln ∧ t.a ≠ t.b ∧ t.ch ≤ 9999 := fun t ht => by
  obtain ⟨i, j, x, a, b, hij, e1, e2, _, _, _, _, e3, _, c2⟩ := h.ok t ht
  exact ⟨h.znm _ (List.mem_of_getElem? e1), h.znm _ (List.mem_of_getElem? e2), h.lnm _ (List.mem_of_getElem? e3), fun z => hij (nodup_inj h.znd e1 (by rw [z]; exact e2)), c2⟩
theorem Al.build {tis : List Ti} : ∀ (n : Nat) (ws : List Nm), ws.length = n + 1 → (∀ i x y, ws[i]? = some x → ws[i + 1]? = some y → ∃ t ∈ tis, isTie x y t = true) → ∃ ts, Al tis ws ts
  | 0, ws, l, _ => by
    match ws, l with
    | [x], _ => exact ⟨[], Al.one _ _⟩
  | n + 1, ws, l, h => by
    rcases snoc_or ws with rfl | ⟨as, y, rfl⟩
    · simp at l
    · rcases snoc_or as with rfl | ⟨bs, x, rfl⟩
      · simp at l
      · obtain ⟨ts, hts⟩ := Al.build n (bs ++ [x]) (by simpa using l) fun i a b h1 h2 => h i a b (by rw [List.getElem?_append_left (List.getElem?_eq_some_iff.mp h1).1]; exact h1) (by rw [List.getElem?_append_left (List.getElem?_eq_some_iff.mp h2).1]; exact h2)
        obtain ⟨t, ht, hy⟩ := h bs.length x y (by rw [List.append_assoc, List.getElem?_append_right (Nat.le_refl _), Nat.sub_self]; rfl) (by rw [List.append_assoc, List.getElem?_append_right (by omega), Nat.add_sub_cancel_left]; rfl)
        exact hts.snoc ht hy
theorem net_way {ls zs : List Nm} {qs : List (List Nat)} {J : Nat} {tis rws : List Ti} (h : NetOk ls zs qs J tis) (p : rws.Perm tis) : ∃ ts, WayOk rws (zs.take (J + 2)) ts := by
  have hl := h.q.len
  have lz := h.lz
  have l : (zs.take (J + 2)).length = J + 2 := by rw [List.length_take]; omega
  obtain ⟨ts, hts⟩ := Al.build (tis := rws) (J + 1) (zs.take (J + 2)) l fun i x y h1 h2 => by
    have i2 := (List.getElem?_eq_some_iff.mp h2).1
    rw [l] at i2
    rw [List.getElem?_take_of_lt (by omega)] at h1 h2
    obtain ⟨t, ht, e1, e2⟩ := h.way i (by omega)
    exact ⟨t, p.mem_iff.mpr ht, decide_eq_true (.inl ⟨(Option.some.inj (h1.symm.trans e1)).symm, (Option.some.inj (h2.symm.trans e2)).symm⟩)⟩
  have := h.q.most
  exact ⟨ts, hts, fun z hz => h.znm z (List.mem_of_mem_take hz), by omega, by omega, by rw [p.length_eq]; exact h.t40, fun t ht => net_ti h t (p.mem_iff.mp ht)⟩
theorem net_st {ls zs : List Nm} {qs : List (List Nat)} {J : Nat} {tis : List Ti} {sts : List (Nm × Nm)} (h : NetOk ls zs qs J tis) (p : sts.Perm ((zs.zip qs).filterMap (stOf ls))) : 1 ≤ sts.length ∧ sts.length ≤ 100 ∧ ∀ s ∈ sts, IsNm s.1 := by
  have hl := h.q.len
  have lz := h.lz
  refine ⟨?_, ?_, fun s hs => ?_⟩
  · obtain ⟨f, l, ss, tw, e, _⟩ := h.q.form
    have e0 : qs[0]? = some [f] := by rw [e]; rfl
    have z0 : zs[0]? = some (zs[0]'(by omega)) := List.getElem?_eq_getElem _
    have m : (zs[0]'(by omega), [f]) ∈ zs.zip qs := List.mem_of_getElem? (i := 0) (List.getElem?_zip_eq_some.mpr ⟨z0, e0⟩)
    have : (zs[0]'(by omega), ls.getD ([f].getD 0 0) []) ∈ sts := p.mem_iff.mpr (List.mem_filterMap.mpr ⟨_, m, rfl⟩)
    exact List.length_pos_of_mem this
  · rw [p.length_eq]
    refine Nat.le_trans (List.length_filterMap_le _ _) ?_
    rw [List.length_zip]
    omega
  · obtain ⟨x, hx, ex⟩ := List.mem_filterMap.mp (p.mem_iff.mp hs)
    unfold stOf at ex
    split at ex
    · have := Option.some.inj ex
      subst this
      exact h.znm _ (List.of_mem_zip hx).1
    · cases ex
theorem lg_ne {H : Hp} {D p : Addr} {gs : List (Nm × Nat)} (h : LgA H D gs) (b : Bag H p) : D ≠ p := fun e => by
  obtain ⟨fa, e1, _⟩ := h
  obtain ⟨g, r, e2, _⟩ := b
  rw [e, e2] at e1
  have e1 : [V.int g, V.int r] = fa.map V.ref := by injection e1 with e1; injection e1
  cases fa with
  | nil => cases e1
  | cons f fs => cases e1
theorem LgA.keep {H H' : Hp} {D p : Addr} {gs : List (Nm × Nat)} (h : LgA H D gs) (k : Keep p H H') (b : Bag H p) : LgA H' D gs := by
  have n := lg_ne h b
  obtain ⟨fa, e, pp⟩ := h
  exact ⟨fa, k _ _ n e, paired_imp pp fun a _ g q => TK.keep k b _ _ q⟩
theorem LgA.off {H H' : Hp} {D : Addr} {gs : List (Nm × Nat)} (h : LgA H D gs) (e : ∀ o, H D = some o → H' D = some o) (t : TK H H') : LgA H' D gs := by
  obtain ⟨fa, e1, pp⟩ := h
  exact ⟨fa, e _ e1, paired_imp pp fun a _ g q => t _ _ q⟩
/-- one kept pair -/
def Kp1 (H : Hp) (Kp u : Addr) : Prop := ∃ (D E : Addr) (gs : List (Nm × Nat)), H u = some (.tup [.ref D, .ref E]) ∧ LgA H D gs ∧ LgA H E gs ∧ D ≠ Kp ∧ E ≠ Kp ∧ gs.length ≤ 28 ∧ ∀ g ∈ gs, IsNm g.1
def KpA (H : Hp) (Kp : Addr) (us : List Addr) : Prop := H Kp = some (.lst (us.map V.ref)) ∧ ∀ u ∈ us, Kp1 H Kp u
theorem KpA.same {H H' : Hp} {Kp : Addr} {us : List Addr} (h : KpA H Kp us) (s : Same H H') : KpA H' Kp us :=
  ⟨s _ _ h.1, fun u hu => let ⟨D, E, gs, e, a, b, r⟩ := h.2 u hu; ⟨D, E, gs, s _ _ e, a.same s, b.same s, r⟩⟩
theorem KpA.ne {H : Hp} {Kp p : Addr} {us : List Addr} (h : KpA H Kp us) (b : Bag H p) : Kp ≠ p := fun e => by
  have e1 := h.1
  obtain ⟨g, r, e2, _⟩ := b
  rw [e, e2] at e1
  have e1 : [V.int g, V.int r] = us.map V.ref := by injection e1 with e1; injection e1
  cases us with
  | nil => cases e1
  | cons f fs => cases e1
theorem KpA.keep {H H' : Hp} {Kp p : Addr} {us : List Addr} (h : KpA H Kp us) (k : Keep p H H') (b : Bag H p) : KpA H' Kp us :=
  ⟨k _ _ (h.ne b) h.1, fun u hu => let ⟨D, E, gs, e, a, c, r⟩ := h.2 u hu; ⟨D, E, gs, TK.keep k b _ _ e, a.keep k b, c.keep k b, r⟩⟩
theorem legs28 {tis : List Ti} {ws : List Nm} {ts : List Ti} (hw : WayOk tis ws ts) : (legsM (ts.map tiP)).length ≤ 28 := by
  have := legsM_len _ (ts.map tiP) rfl
  rw [List.length_map] at this
  have := hw.l28
  have := hw.al.len
  omega
def Wd (H : Hp) (rws : List Ti) (a : Addr) (x : List Nm × List Ti) : Prop := H a = some (.tup (x.1.map nS)) ∧ WayOk rws x.1 x.2
/-! stations at the ends of ways -/
theorem net_stl {ls zs : List Nm} {qs : List (List Nat)} {J : Nat} {tis rws : List Ti} {sts : List (Nm × Nm)} (h : NetOk ls zs qs J tis) (pS : sts.Perm ((zs.zip qs).filterMap (stOf ls))) (pR : rws.Perm tis) : ∀ t ∈ rws, ∀ z l, (z = t.a ∨ z = t.b) → (z, l) ∈ sts → l = t.ln := fun t ht z l hz hs => by
  obtain ⟨i, j, x, a, b, hij, e1, e2, e3, e4, e5, e6, e7, _⟩ := h.ok t (pR.mem_iff.mp ht)
  obtain ⟨y, hy, ey⟩ := List.mem_filterMap.mp (pS.mem_iff.mp hs)
  unfold stOf at ey
  split at ey
  · rename_i c
    have := Option.some.inj ey
    injection this with f1 f2
    obtain ⟨i', hi'⟩ := List.getElem?_of_mem hy
    obtain ⟨g1, g2⟩ := List.getElem?_zip_eq_some.mp hi'
    rw [f1] at g1
    have one : ∀ (n : Nat) (q : List Nat), zs[n]? = some z → qs[n]? = some q → x ∈ q → l = t.ln := fun n q h1 h2 h3 => by
      have := nodup_inj h.znd g1 h1
      subst this
      have := Option.some.inj (g2.symm.trans h2)
      subst this
      obtain ⟨k, hk⟩ := List.length_eq_one_iff.mp c
      rw [hk] at h3
      have := List.mem_singleton.mp h3
      subst this
      rw [← f2, hk]
      show ls.getD x [] = _
      rw [List.getD_eq_getElem?_getD, e7]
      rfl
    rcases hz with rfl | rfl
    · exact one i a e1 e3 e5
    · exact one j b e2 e4 e6
  · cases ey
theorem st_sub (ls : List Nm) : ∀ (zs : List Nm) (qs : List (List Nat)), (((zs.zip qs).filterMap (stOf ls)).map (·.1)).Sublist zs
  | [], _ => by simp
  | z :: zs, [] => by simp
  | z :: zs, q :: qs => by
    rw [List.zip_cons_cons, List.filterMap_cons]
    have ih := st_sub ls zs qs
    by_cases c : q.length = 1
    · have : stOf ls (z, q) = some (z, ls.getD (q.getD 0 0) []) := by unfold stOf; rw [if_pos c]
      rw [this]
      exact List.Sublist.cons_cons _ ih
    · have : stOf ls (z, q) = none := by unfold stOf; rw [if_neg c]
      rw [this]
      exact List.Sublist.cons _ ih
theorem net_snd {ls zs : List Nm} {qs : List (List Nat)} {J : Nat} {tis : List Ti} {sts : List (Nm × Nm)} (h : NetOk ls zs qs J tis) (pS : sts.Perm ((zs.zip qs).filterMap (stOf ls))) : (sts.map (·.1)).Nodup :=
  ((pS.map (·.1)).nodup_iff).mpr ((st_sub ls zs qs).nodup h.znd)
theorem net_ste {ls zs : List Nm} {qs : List (List Nat)} {J : Nat} {tis : List Ti} {sts : List (Nm × Nm)} (h : NetOk ls zs qs J tis) (pS : sts.Perm ((zs.zip qs).filterMap (stOf ls))) : StE sts (zs.take (J + 2)) := by
  have hl := h.q.len
  have lz := h.lz
  have mem : ∀ (i f : Nat), qs[i]? = some [f] → ∃ x, zs[i]? = some x ∧ x ∈ sts.map (·.1) := fun i f hi => by
    have il := (List.getElem?_eq_some_iff.mp hi).1
    have zi : zs[i]? = some (zs[i]'(by omega)) := List.getElem?_eq_getElem _
    have m : (zs[i]'(by omega), [f]) ∈ zs.zip qs := List.mem_of_getElem? (i := i) (List.getElem?_zip_eq_some.mpr ⟨zi, hi⟩)
    exact ⟨_, zi, List.mem_map.mpr ⟨_, pS.mem_iff.mpr (List.mem_filterMap.mpr ⟨_, m, rfl⟩), rfl⟩⟩
  have tl : (zs.take (J + 2)).length = J + 2 := by rw [List.length_take]; omega
  obtain ⟨f, l, ss, tw, e, e1, _⟩ := h.q.form
  have q0 : qs[0]? = some [f] := by rw [e]; rfl
  have q1 : qs[J + 1]? = some [l] := by
    rw [e, List.getElem?_append_left (by simp; omega), List.getElem?_append_right (by simp; omega)]
    simp [e1]
  refine ⟨?_, ?_⟩
  · obtain ⟨x, h1, h2⟩ := mem 0 f q0
    exact ⟨x, by rw [List.getElem?_take_of_lt (by omega)]; exact h1, h2⟩
  · obtain ⟨x, h1, h2⟩ := mem (J + 1) l q1
    exact ⟨x, by rw [tl, List.getElem?_take_of_lt (by omega)]; exact h1, h2⟩
theorem StE.rev {sts : List (Nm × Nm)} {ws : List Nm} (h : StE sts ws) (l : 1 ≤ ws.length) : StE sts ws.reverse := by
  obtain ⟨⟨x, a, b⟩, y, c, d⟩ := h
  refine ⟨⟨y, ?_, d⟩, x, ?_, b⟩
  · rw [List.getElem?_reverse (by omega), Nat.sub_zero]
    exact c
  · rw [List.length_reverse, List.getElem?_reverse (by omega), Nat.sub_self]
    exact a
end Th
namespace Th
open PySem PySem.Spec PyProof.Rows L2
def isiT : PyData → Bool
  | .tuple _ => true
  | _ => false
def isiS : PyData → Bool
  | .str _ => true
  | _ => false
theorem kit_T {K : PySem.W.Frag} : ∀ d : PyData, PySem.W.kitOne K (.type (tyN d)) (.type "tuple") = some (isiT d)
  | .none => kit_ty (a := "NoneType") (b := "tuple") (r := false) (by decide +kernel)
  | .bool _ => kit_ty (a := "bool") (b := "tuple") (r := false) (by decide +kernel)
  | .int _ => kit_ty (a := "int") (b := "tuple") (r := false) (by decide +kernel)
  | .str _ => kit_ty (a := "str") (b := "tuple") (r := false) (by decide +kernel)
  | .list _ => kit_ty (a := "list") (b := "tuple") (r := false) (by decide +kernel)
  | .tuple _ => kit_ty (a := "tuple") (b := "tuple") (r := true) (by decide +kernel)
  | .dict _ => kit_ty (a := "dict") (b := "tuple") (r := false) (by decide +kernel)
theorem kit_S {K : PySem.W.Frag} : ∀ d : PyData, PySem.W.kitOne K (.type (tyN d)) (.type "str") = some (isiS d)
  | .none => kit_ty (a := "NoneType") (b := "str") (r := false) (by decide +kernel)
  | .bool _ => kit_ty (a := "bool") (b := "str") (r := false) (by decide +kernel)
  | .int _ => kit_ty (a := "int") (b := "str") (r := false) (by decide +kernel)
  | .str _ => kit_ty (a := "str") (b := "str") (r := true) (by decide +kernel)
  | .list _ => kit_ty (a := "list") (b := "str") (r := false) (by decide +kernel)
  | .tuple _ => kit_ty (a := "tuple") (b := "str") (r := false) (by decide +kernel)
  | .dict _ => kit_ty (a := "dict") (b := "str") (r := false) (by decide +kernel)
def tupD (d : PyData) (lo hi : Int) : Bool := match d with
  | .tuple ds => decide (lo ≤ (ds.length : Int)) && decide ((ds.length : Int) ≤ hi)
  | _ => false
/-! any thing: is it a way? -/
theorem un65 {k : Nat} {A : Around} (h : Room k A) : A.units + 65 < cLine := by have := h.un; omega
def nmB (z : List Nat) : Bool := decide (1 ≤ z.length) && (decide (z.length ≤ 8) && z.all fun c => decide (97 ≤ c) && decide (c ≤ 122))
theorem nmB_iff {z : List Nat} : nmB z = true ↔ IsNm z := by
  unfold nmB IsNm Lower
  rw [Bool.and_eq_true, Bool.and_eq_true, List.all_eq_true, decide_eq_true_iff, decide_eq_true_iff]
  refine and_congr Iff.rfl (and_congr Iff.rfl (forall_congr' fun c => imp_congr Iff.rfl ?_))
  rw [Bool.and_eq_true, decide_eq_true_iff, decide_eq_true_iff]
theorem le_a (c : Nat) : (!decide ((⟨#[c]⟩ : Str).cps.toList < (Str.ofString "a").cps.toList)) = decide (97 ≤ c) := by
  rw [show (Str.ofString "a").cps.toList = [97] by decide +kernel]
  show (!decide ([c] < [97])) = _
  by_cases h : c < 97
  · rw [decide_eq_true (by simpa [List.cons_lt_cons_iff] using h), decide_eq_false (by omega)]
    rfl
  · rw [decide_eq_false (by simpa [List.cons_lt_cons_iff] using h), decide_eq_true (by omega)]
    rfl
theorem le_z (c : Nat) : (!decide ((Str.ofString "z").cps.toList < (⟨#[c]⟩ : Str).cps.toList)) = decide (c ≤ 122) := by
  rw [show (Str.ofString "z").cps.toList = [122] by decide +kernel]
  show (!decide ([122] < [c])) = _
  by_cases h : 122 < c
  · rw [decide_eq_true (by simpa [List.cons_lt_cons_iff] using h), decide_eq_false (by omega)]
    rfl
  · rw [decide_eq_false (by simpa [List.cons_lt_cons_iff] using h), decide_eq_true (by omega)]
    rfl
def nameD : PyData → Bool
  | .str x => nmB x.cps.toList
  | _ => false
structure Lay (d : PyData) : Prop where
  lay : d.canLay0 = true
  dep : d.depth ≤ 3
  sz : ∀ x, d = .str x → x.length ≤ sizeLine
mutual
/-- data whose tuples' objects are known; their lists are such as S says -/
inductive DF (S : Addr → Prop) (H : Hp) : V → PyData → Prop
  | non : DF S H .non .none
  | bl (b : Bool) : DF S H (.bl b) (.bool b)
  | int (i : Int) : DF S H (.int i) (.int i)
  | str (x : Str) : DF S H (.str x) (.str x)
  | lst {a : Addr} {xs : List V} {ds : List PyData} : S a → H a = some (.lst xs) → DFAll S H xs ds → DF S H (.ref a) (.list ds)
  | tup {a : Addr} {xs : List V} {ds : List PyData} : TpF H a xs → DFAll S H xs ds → DF S H (.ref a) (.tuple ds)
inductive DFAll (S : Addr → Prop) (H : Hp) : List V → List PyData → Prop
  | nil : DFAll S H [] []
  | cons {v : V} {vs : List V} {d : PyData} {ds : List PyData} : DF S H v d → DFAll S H vs ds → DFAll S H (v :: vs) (d :: ds)
end
mutual
theorem DF.mono {S S' : Addr → Prop} {H H' : Hp} (hS : ∀ a, S a → S' a) (hl : ∀ a o, S a → H a = some o → H' a = some o) (ht : ∀ a xs, TpF H a xs → TpF H' a xs) : ∀ {v : V} {d : PyData}, DF S H v d → DF S' H' v d
  | _, _, .non => .non
  | _, _, .bl b => .bl b
  | _, _, .int b => .int b
  | _, _, .str b => .str b
  | _, _, .lst s e r => .lst (hS _ s) (hl _ _ s e) (DFAll.mono hS hl ht r)
  | _, _, .tup e r => .tup (ht _ _ e) (DFAll.mono hS hl ht r)
theorem DFAll.mono {S S' : Addr → Prop} {H H' : Hp} (hS : ∀ a, S a → S' a) (hl : ∀ a o, S a → H a = some o → H' a = some o) (ht : ∀ a xs, TpF H a xs → TpF H' a xs) : ∀ {v : List V} {d : List PyData}, DFAll S H v d → DFAll S' H' v d
  | _, _, .nil => .nil
  | _, _, .cons a r => .cons (DF.mono hS hl ht a) (DFAll.mono hS hl ht r)
end
mutual
theorem DF.dp {K : PySem.W.Frag} {S : Addr → Prop} {H : Hp} : ∀ {v : V} {d : PyData}, DF S H v d → Dp K H v d
  | _, _, .non => .non
  | _, _, .bl b => .bl b
  | _, _, .int b => .int b
  | _, _, .str b => .str b
  | _, _, .lst s e r => .lst (SqL.of e) (DFAll.dp r)
  | _, _, .tup e r => .tup e.sq (DFAll.dp r)
theorem DFAll.dp {K : PySem.W.Frag} {S : Addr → Prop} {H : Hp} : ∀ {v : List V} {d : List PyData}, DFAll S H v d → DpAll K H v d
  | _, _, .nil => .nil
  | _, _, .cons a r => .cons (DF.dp a) (DFAll.dp r)
end
theorem DFAll.len {S : Addr → Prop} {H : Hp} : ∀ {v : List V} {d : List PyData}, DFAll S H v d → v.length = d.length
  | _, _, .nil => rfl
  | _, _, .cons _ r => congrArg Nat.succ r.len
theorem DFAll.get {S : Addr → Prop} {H : Hp} : ∀ {v : List V} {d : List PyData} {i : Nat} {x : V}, DFAll S H v d → v[i]? = some x → ∃ e, d[i]? = some e ∧ DF S H x e
  | _, _, _, _, .nil, h => by simp at h
  | _, _, 0, _, .cons a r, h => by
    have e := Option.some.inj h
    subst e
    exact ⟨_, rfl, a⟩
  | _, _, i + 1, _, .cons a r, h => r.get (i := i) h
theorem DFAll.get2 {S : Addr → Prop} {H : Hp} : ∀ {v : List V} {d : List PyData} {i : Nat} {x : PyData}, DFAll S H v d → d[i]? = some x → ∃ e, v[i]? = some e ∧ DF S H e x
  | _, _, _, _, .nil, h => by simp at h
  | _, _, 0, _, .cons a r, h => by
    have e := Option.some.inj h
    subst e
    exact ⟨_, rfl, a⟩
  | _, _, i + 1, _, .cons a r, h => r.get2 (i := i) h
theorem DFAll.app {S : Addr → Prop} {H : Hp} : ∀ {v v' : List V} {d d' : List PyData}, DFAll S H v d → DFAll S H v' d' → DFAll S H (v ++ v') (d ++ d')
  | _, _, _, _, .nil, h => h
  | _, _, _, _, .cons a r, h => .cons a (r.app h)
theorem DF.same {S : Addr → Prop} {H H' : Hp} {v : V} {d : PyData} (h : DF S H v d) (s : Same H H') : DF S H' v d := h.mono (fun _ x => x) (fun a o _ e => s a o e) fun a xs t => t.same s
theorem DFAll.same {S : Addr → Prop} {H H' : Hp} {v : List V} {d : List PyData} (h : DFAll S H v d) (s : Same H H') : DFAll S H' v d := h.mono (fun _ x => x) (fun a o _ e => s a o e) fun a xs t => t.same s
theorem DF.keep {S : Addr → Prop} {p : Addr} {H H' : Hp} {v : V} {d : PyData} (h : DF S H v d) (k : Keep p H H') (b : Bag H p) (hS : ∀ a, S a → a ≠ p) : DF S H' v d := h.mono (fun _ x => x) (fun a o n e => k a o (hS a n) e) fun a xs t => t.keep k b
theorem DFAll.keep {S : Addr → Prop} {p : Addr} {H H' : Hp} {v : List V} {d : List PyData} (h : DFAll S H v d) (k : Keep p H H') (b : Bag H p) (hS : ∀ a, S a → a ≠ p) : DFAll S H' v d := h.mono (fun _ x => x) (fun a o n e => k a o (hS a n) e) fun a xs t => t.keep k b
theorem DF.ty {K : PySem.W.Frag} {S : Addr → Prop} {H : Hp} {v : V} {d : PyData} (h : DF S H v d) : TyX K H v (.type (tyN d)) := by
  cases h with
  | non => exact .base .non
  | bl b => exact .base (.bl b)
  | int b => exact .base (.int b)
  | str b => exact .base (.str b)
  | lst s e r => exact .base (.lst e)
  | tup e r =>
    obtain ⟨o, e, _⟩ := e
    exact .fTuple e
def OkD (d : PyData) : Prop := ∀ ds, d = .tuple ds → ds.length ≤ 60 ∧ ∀ e ∈ ds, Lay e
/-- a thing -/
def TD (S : Addr → Prop) (H : Hp) (v : V) (d : PyData) : Prop := DF S H v d ∧ OkD d
theorem TD.same {S : Addr → Prop} {H H' : Hp} {v : V} {d : PyData} (h : TD S H v d) (s : Same H H') : TD S H' v d := ⟨h.1.same s, h.2⟩
theorem TD.keep {S : Addr → Prop} {p : Addr} {H H' : Hp} {v : V} {d : PyData} (h : TD S H v d) (k : Keep p H H') (b : Bag H p) (hS : ∀ a, S a → a ≠ p) : TD S H' v d := ⟨h.1.keep k b hS, h.2⟩
theorem TD.mono {S S' : Addr → Prop} {H : Hp} {v : V} {d : PyData} (h : TD S H v d) (hS : ∀ a, S a → S' a) : TD S' H v d := ⟨h.1.mono hS (fun _ _ _ e => e) fun _ _ t => t, h.2⟩
theorem TD.ty {K : PySem.W.Frag} {S : Addr → Prop} {H : Hp} {v : V} {d : PyData} (h : TD S H v d) : TyX K H v (.type (tyN d)) := h.1.ty
theorem TD.tup {S : Addr → Prop} {H : Hp} {v : V} {ds : List PyData} (h : TD S H v (.tuple ds)) : ∃ a xs, v = .ref a ∧ TpF H a xs ∧ xs.length ≤ 60 ∧ DFAll S H xs ds ∧ ∀ e ∈ ds, Lay e := by
  obtain ⟨h1, h2⟩ := h
  obtain ⟨l, hl⟩ := h2 ds rfl
  cases h1 with
  | tup e r => exact ⟨_, _, rfl, e, by rw [r.len]; exact l, r, hl⟩
/-- the data that make a way -/
def IsWay (sts : List (Nm × Nm)) (tis : List Ti) (d : PyData) : Prop := ∃ ws : List Nm, d = .tuple (ws.map fun z => .str (SX.S z)) ∧ 2 ≤ ws.length ∧ ws.length ≤ 28 ∧ (∀ z ∈ ws, IsNm z) ∧ ws.Nodup ∧ StE sts ws ∧
  ∀ i x y, ws[i]? = some x → ws[i + 1]? = some y → ∃ t ∈ tis, isTie x y t = true
section
variable {P : Program} {w : World} {K : PySem.W.Frag} {mg : Str → Option Value} {base : Heap} {k : Nat}
def sp_is_tuple : Sp := fun vs H Q _ => ∃ S v d lo hi, vs = [v, .int lo, .int hi] ∧ TD S H v d ∧ Q (.bl (tupD d lo hi)) H
theorem ok_is_tuple (T : Defs K mg) : FnOk P w K mg base CX0 (k + 1) T.a_is_tuple T.d_is_tuple ["thing", "fewest", "most"] sp_is_tuple := by
  refine T.F_is_tuple.ok sc_is_tuple (fun vs H Q E h => ?_) (fun cdv A outer s H vs Q E hr h => ?_)
  · obtain ⟨p, v, d, lo, hi, rfl, _⟩ := h
    rfl
  · obtain ⟨p, v, d, lo, hi, rfl, hv, q⟩ := h
    refine ⟨_, PSs.nox
(pss_one (ps_ret (pe_and (pe_callB (r := rIsi K) call_isi (by rfl) T.z_isinstance (by decide +kernel) (pa_cons (pv 0) (pa_cons (pe_bltn (v := .ty "tuple") (by rfl) T.z_tuple (by decide +kernel) rfl) pa_nil))) (pe_one (pe_chain op_le op_le (pv 1) (pe_callB (r := rLenS K) call_lenS (by rfl) T.z_len (by decide +kernel) (pa_cons (pv 0) pa_nil)) (pv 2))))))
      , ?_⟩
    refine ⟨v, rfl, v, .ty "tuple", _, _, _, rfl, .ty _, hv.ty, kit_T d, isiT d, rfl, ?_⟩
    by_cases ht : isiT d = true
    · obtain ⟨ds, rfl⟩ : ∃ ds, d = .tuple ds := by
        cases d with
        | tuple ds => exact ⟨ds, rfl⟩
        | _ => cases ht
      obtain ⟨a, xs, rfl, hT, _, hxs, _⟩ := hv.tup
      have xl := hxs.len
      refine iteT ⟨.int lo, rfl, .ref a, rfl, a, _, rfl, .inr hT.sq, lo, _, rfl, rfl, decide (lo ≤ (xs.length : Int)), rfl, ite2 (fun c => ?_) fun c => ?_⟩
      · refine ⟨.int hi, rfl, _, hi, rfl, rfl, ?_⟩
        have e : tupD (.tuple ds) lo hi = decide ((xs.length : Int) ≤ hi) := by show (decide (lo ≤ (ds.length : Int)) && decide ((ds.length : Int) ≤ hi)) = _; rw [← xl, c, Bool.true_and]
        rw [e] at q
        exact q
      · have e : tupD (.tuple ds) lo hi = false := by show (decide (lo ≤ (ds.length : Int)) && decide ((ds.length : Int) ≤ hi)) = _; rw [← xl, show decide (lo ≤ (xs.length : Int)) = false by simpa using c, Bool.false_and]
        rw [e] at q
        exact q
    · have h1 : isiT d = false := by simpa using ht
      rw [h1]
      have e : tupD d lo hi = false := by
        cases d with
        | tuple ds => cases h1
        | _ => rfl
      rw [e] at q
      exact iteF q
def sp_is_name : Sp := fun vs H Q _ => ∃ S v d, vs = [v] ∧ DF S H v d ∧ (∀ x, d = .str x → x.length ≤ sizeLine) ∧ ∀ H', Same H H' → Q (.bl (nameD d)) H'
theorem ok_is_name (T : Defs K mg) : FnOk P w K mg base CX0 (k + 1) T.a_is_name T.d_is_name ["thing"] sp_is_name := by
  refine T.F_is_name.ok sc_is_name (fun vs H Q E h => ?_) (fun cdv A outer s H vs Q E hr h => ?_)
  · obtain ⟨p, v, d, rfl, _⟩ := h
    rfl
  · obtain ⟨p, v, d, rfl, hv, hz, q⟩ := h
    refine ⟨_, PSs.nox
(pss_cons (ps_if (PW.pt (pw_or (pt_not (pt_val (pe_callB (r := rIsi K) call_isi (by rfl) T.z_isinstance (by decide +kernel) (pa_cons (pv 0) (pa_cons (pe_bltn (v := .ty "str") (by rfl) T.z_str (by decide +kernel) rfl) pa_nil))))) (pw_or1 (pt_not (pt_chain op_le op_le (pe_int) (pe_callB call_len_str (by rfl) T.z_len (by decide +kernel) (pa_cons (pv 0) pa_nil)) (pe_glob (v := .int 8) (by rfl) T.c_LONGEST_NAME ⟨_, rfl⟩))))))
      (pss_one (ps_ret (pe_bl)))
      pss_nil)
    (pss_one (ps_ret (pe_callB (r := rAll K) (cr_all rfl) (by rfl) T.z_all (by decide +kernel) (pa_cons (pe_lc (own := [("letter", 1)]) (g := gName 1) rfl sc_is_name.nd (pi_str (pv 0)) (blkOk_by (N := N_is_name) (sc := defScope s_is_name) (by decide +kernel)) (fun _ _ _ _ _ => (pg_name (i := 1) sc_is_name.nd rfl (.inl rfl))) (fun _ _ _ _ _ => pts_nil) (fun _ _ _ _ _ => (pe_chain op_le_str op_le_str (pe_str) (pv 1) (pe_str)))) pa_nil)))))
      , ?_⟩
    refine ⟨v, rfl, v, .ty "str", _, _, _, rfl, .ty _, hv.ty, kit_S d, isiS d, rfl, ?_⟩
    by_cases hs : isiS d = true
    · obtain ⟨x, rfl⟩ : ∃ x, d = .str x := by
        cases d with
        | str x => exact ⟨x, rfl⟩
        | _ => cases hs
      cases hv
      have hx := hz x rfl
      have xl : x.length = x.cps.toList.length := rfl
      have no : (¬ (1 ≤ x.length ∧ x.length ≤ 8)) → Q (.bl false) H := fun h => by
        have q := q H (.refl _)
        rw [show nameD (.str x) = false from Bool.eq_false_iff.mpr fun z => h ⟨(nmB_iff.mp z).1, (nmB_iff.mp z).2.1⟩] at q
        exact q
      refine iteF ⟨.str x, rfl, x, rfl, hx, 1, (x.length : Int), rfl, rfl, decide ((1 : Int) ≤ (x.length : Int)), rfl, ite2 (fun c1 => ?_) (fun c1 => ?_)⟩
      · refine ⟨(x.length : Int), 8, rfl, rfl, ?_⟩
        dsimp only
        have c1 := of_decide_eq_true c1
        by_cases c2 : (x.length : Int) ≤ 8
        · rw [decide_eq_true c2]
          refine ⟨true, rfl, iteF ?_⟩
          refine ⟨.str x, rfl, x, rfl, fun D nD => ?_⟩
          refine lc_it (walk_str (z := x)) (fun i H3 => Same H H3 ∧ H3 D = some (.lst (((x.cps.toList.take i).map fun c => decide (97 ≤ c) && decide (c ≤ 122)).map V.bl))) ⟨same_upd nD, upd_same⟩ (fun i H3 _ pv => trivial) (fun i v H3₀ H3 hi pv yy => ?_) (fun H3 pv => ?_)
          · obtain ⟨rfl, c, ec, rfl⟩ := yy
            obtain ⟨s3, eD⟩ := pv
            have hi8 : i < 8 := by
              have e : x.length = x.cps.size := rfl
              omega
            have ec2 : x.cps.toList[i]? = some c := by rw [Array.getElem?_toList]; exact ec
            have room : (((x.cps.toList.take i).map fun c => decide (97 ≤ c) && decide (c ≤ 122)).map V.bl).length < sizeLine := by
              rw [List.length_map, List.length_map, List.length_take]
              exact small5000 (by omega)
            have put : ∀ b, b = (decide (97 ≤ c) && decide (c ≤ 122)) → upd H3 D (.lst ((((x.cps.toList.take i).map fun c => decide (97 ≤ c) && decide (c ≤ 122)).map V.bl) ++ [V.bl b])) D = some (.lst (((x.cps.toList.take (i + 1)).map fun c => decide (97 ≤ c) && decide (c ≤ 122)).map V.bl)) := fun b e => by
              rw [upd_same, List.take_add_one, ec2, List.map_append, List.map_append, e]
              rfl
            refine ⟨rfl, yes_ ⟨.str ⟨#[c]⟩, rfl, Str.ofString "a", ⟨#[c]⟩, rfl, rfl, _, rfl, ?_⟩⟩
            rw [le_a]
            refine ite2 (fun c1 => ?_) (fun c1 => ?_)
            · refine ⟨⟨#[c]⟩, Str.ofString "z", rfl, rfl, ?_⟩
              rw [le_z]
              exact ⟨_, eD, room, same_set s3 nD, put _ (by rw [c1, Bool.true_and])⟩
            · exact ⟨_, eD, room, same_set s3 nD, put _ (by rw [show decide (97 ≤ c) = false by simpa using c1]; rfl)⟩
          · obtain ⟨s3, eD⟩ := pv
            rw [show x.cps.size = x.cps.toList.length from rfl, List.take_length] at eD
            refine ⟨D, _, rfl, SqL.of eD, ?_⟩
            have q := q H3 s3
            have e : nameD (.str x) = (x.cps.toList.map fun c => decide (97 ≤ c) && decide (c ≤ 122)).all id := by
              show nmB x.cps.toList = _
              unfold nmB
              rw [decide_eq_true (by omega : 1 ≤ x.cps.toList.length), decide_eq_true (by omega : x.cps.toList.length ≤ 8), List.all_map]
              rfl
            rw [e] at q
            exact q
        · rw [decide_eq_false c2]
          exact ⟨false, rfl, iteT (no fun z => c2 (by omega))⟩
      · have c1 : ¬ (1 : Int) ≤ (x.length : Int) := fun z => c1 (decide_eq_true z)
        exact ⟨false, rfl, iteT (no fun z => c1 (by omega))⟩
    · have e : nameD d = false := by
        cases d with
        | str x => exact absurd rfl hs
        | _ => rfl
      rw [show isiS d = false by simpa using hs]
      have q := q H (.refl _)
      rw [e] at q
      exact iteT (iteT q)
theorem addAll_sub {ks L : List Str} {x : Str} (h : x ∈ L) : x ∈ Ss.addAll L ks := by
  unfold Ss.addAll
  induction ks generalizing L with
  | nil => exact h
  | cons k r ih => exact ih (Ss.mem_addL.mpr (.inr h))
theorem addAll_nd : ∀ {ks L : List Str}, (Ss.addAll L ks).length = L.length + ks.length ↔ (ks.Nodup ∧ ∀ x ∈ ks, x ∉ L)
  | [], L => ⟨fun _ => ⟨List.nodup_nil, fun x hx => (by cases hx)⟩, fun _ => rfl⟩
  | k :: r, L => by
    show (Ss.addAll (Ss.addL L k) r).length = L.length + (r.length + 1) ↔ _
    have le := Ss.addAll_len r (Ss.addL L k)
    by_cases h : k ∈ L
    · have e : Ss.addL L k = L := by unfold Ss.addL; rw [if_pos h]
      rw [e] at le ⊢
      exact ⟨fun z => by omega, fun z => absurd h (z.2 k (List.mem_cons_self ..))⟩
    · have e : Ss.addL L k = k :: L := by unfold Ss.addL; rw [if_neg h]
      rw [e]
      have ih := addAll_nd (ks := r) (L := k :: L)
      rw [List.length_cons] at ih
      rw [show L.length + (r.length + 1) = L.length + 1 + r.length by omega, ih, List.nodup_cons]
      refine ⟨fun ⟨h1, h2⟩ => ⟨⟨fun z => h2 k z (List.mem_cons_self ..), h1⟩, fun x hx z => ?_⟩, fun ⟨⟨h1, h2⟩, h3⟩ => ⟨h2, fun x hx z => ?_⟩⟩
      · rcases List.mem_cons.mp hx with rfl | y
        · exact h z
        · exact h2 x y (List.mem_cons_of_mem _ z)
      · rcases List.mem_cons.mp z with rfl | y
        · exact h1 hx
        · exact h3 x (List.mem_cons_of_mem _ hx) y
theorem sqT_same {H H' : Hp} {a : Addr} {xs : List V} (s : Same H H') (h : SqT K H a xs) : SqT K H' a xs := by
  rcases h with (h | ⟨o, h⟩) | h
  · exact .inl (.inl (s _ _ h))
  · exact .inl (.inr ⟨o, s _ _ h⟩)
  · exact .inr h
def sp_all_unlike : Sp := fun vs H Q _ => ∃ (a : Addr) (ns : List Str), vs = [.ref a] ∧ SqT K H a (ns.map V.str) ∧ ns.length ≤ 60 ∧ ∀ H', Same H H' → Q (.bl (decide ns.Nodup)) H'
theorem ok_all_unlike (T : Defs K mg) : FnOk P w K mg base CX0 (k + 1) T.a_all_unlike T.d_all_unlike ["things"] (sp_all_unlike (K := K)) := by
  refine T.F_all_unlike.ok sc_all_unlike (fun vs H Q E h => ?_) (fun cdv A outer s H vs Q E hr h => ?_)
  · obtain ⟨p, v, rfl, _⟩ := h
    rfl
  · obtain ⟨a, ns, rfl, hs, hl, q⟩ := h
    refine ⟨_, PSs.nox
(pss_one (ps_ret (pe_cmpR op_eq (pe_callB (r := Ss.rLenSS w) Ss.call_lenSS (by rfl) T.z_len (by decide +kernel) (pa_cons (pe_callTy (r := Ss.rSetTS K w) (Ss.call_setTS rfl) (by rfl) T.z_set (by decide +kernel) (pa_cons (pv 0) pa_nil)) pa_nil)) (pe_callB (r := rLenS K) call_lenS (by rfl) T.z_len (by decide +kernel) (pa_cons (pv 0) pa_nil)) (nomark _))))
      , ?_⟩
    refine ⟨.ref a, rfl, a, ns, rfl, hs, hl, fun p np => ⟨p, _, rfl, upd_same, .ref a, rfl, a, _, rfl, .inr (sqT_same (same_upd np) hs), ?_⟩⟩
    refine ⟨rfl, ?_⟩
    have e : decide (V.int ((Ss.addAll [] ns).length : Nat) = V.int ((ns.map V.str).length : Nat)) = decide ns.Nodup := by
      have h := addAll_nd (ks := ns) (L := [])
      rw [List.length_nil, Nat.zero_add] at h
      refine decide_eq_decide.mpr ⟨fun z => ?_, fun z => ?_⟩
      · have := V.int.inj z
        rw [List.length_map] at this
        exact (h.mp (by omega)).1
      · rw [List.length_map, h.mpr ⟨z, fun x _ y => (by cases y)⟩]
    have q := q _ (same_upd (o := Ss.SetSO w p (Ss.addAll [] ns)) np)
    rw [← e] at q
    exact q
/-- a tie or none -/
def optD : Option Ti → PyData
  | none => .none
  | some t => tiD t
def TiO (H : Hp) (v : V) : Option Ti → Prop
  | none => v = .non
  | some t => ∃ u, v = .ref u ∧ H u = some (.tup [nS t.ln, .int t.ch])
theorem TiO.tk {H H' : Hp} {v : V} {o : Option Ti} (h : TiO H v o) (k : TK H H') : TiO H' v o := by
  cases o with
  | none => exact h
  | some t =>
    obtain ⟨u, e, h⟩ := h
    exact ⟨u, e, k _ _ h⟩
def tiesO (tis : List Ti) (ws : List Nm) : List (Option Ti) := (ws.zip (ws.drop 1)).map fun p => tis.find? (isTie p.1 p.2)
theorem dtAll_tiO {H : Hp} : ∀ {vs : List V} {os : List (Option Ti)}, Paired (TiO H) vs os → DtAll SA H vs (os.map optD)
  | _, _, .nil => .nil
  | v :: vs, o :: os, .cons e t => by
    refine .cons ?_ (dtAll_tiO t)
    cases o with
    | none =>
      have e : v = .non := e
      subst e
      exact .non
    | some t =>
      obtain ⟨u, rfl, h⟩ := e
      exact dt_ti h
def sp_ties_along : Sp := fun vs H Q _ => ∃ (r wy : Addr) (ls : List Nm) (sts : List (Nm × Nm)) (jns : List (Nm × List Nm)) (tis : List Ti) (ws : List Nm), vs = [.ref r, .ref wy] ∧ NetAt H r ls sts jns tis ∧ TpF H wy (ws.map nS) ∧ ws.length ≤ 28 ∧ (∀ z ∈ ws, IsNm z) ∧ (∀ t ∈ tis, IsNm t.a ∧ IsNm t.b) ∧
  ∀ H' D vs, Same H H' → H' D = some (.lst vs) → Paired (TiO H') vs (tiesO tis ws) → Q (.ref D) H'
set_option maxHeartbeats 8000000 in
theorem ok_ties_along (T : Defs K mg) : FnOk P w K mg base CX0 (k + 2) T.a_ties_along T.d_ties_along ["net", "way"] sp_ties_along := by
  have G_tie_between : FnOk P w K mg base CX0 (k + 1) _ _ _ _ := ok_tie_between T
  refine T.F_ties_along.ok sc_ties_along (fun vs H Q E h => ?_) (fun cdv A outer s H vs Q E hr h => ?_)
  · obtain ⟨r, wy, ls, sts, jns, tis, ws, rfl, _⟩ := h
    rfl
  · obtain ⟨r, wy, ls, sts, jns, tis, ws, rfl, hnet, ewy, l28, nm, hti, q⟩ := h
    refine ⟨_, PSs.nox
(pss_one (ps_ret (pe_lc (own := [("place", 2), ("far", 3)]) (g := gTup K 2 (gCons (gName 2) (gCons (gName 3) gNil))) rfl sc_ties_along.nd (RZ.pi_zipA (by rfl) T.z_zip (pa_cons (pv 1) (pa_cons (pe_slice (r := Tk.rSlK K) Tk.sl_tupK (pv 1) (po_some (pe_int)) po_none) pa_nil))) (blkOk_by (N := N_ties_along) (sc := defScope s_ties_along) (by decide +kernel)) (fun _ _ _ _ _ => (pg_tup rfl (pgs_cons (pg_name (i := 2) sc_ties_along.nd rfl (.inl rfl)) (pgs_cons (pg_name (i := 3) sc_ties_along.nd rfl (.inl rfl)) pgs_nil)))) (fun _ _ _ _ _ => pts_nil) (fun _ _ _ _ _ => (pe_call G_tie_between hr (by rfl) T.g_tie_between T.F_tie_between.kp T.b_tie_between .nil pass0 (pa_cons (pv 0) (pa_cons (pv 2) (pa_cons (pv 3) pa_nil))))))))
      , ?_⟩
    refine ⟨.ref wy, rfl, .ref wy, rfl, 1, rfl, wy, _, rfl, ewy, fun c H1 s1 ec => ?_⟩
    rw [cutV_one (α := Nat)] at ec
    refine ⟨wy, c, _, _, rfl, .inr ⟨(ewy.same s1).sq, ec.sq, fun D nD => ?_⟩⟩
    have nD0 := up0 s1 nD
    refine lc_it (walk_zipT (n := (ws.zip (ws.drop 1)).length) (xs := ws.map nS) (ys := (ws.map nS).drop 1) (by rw [List.length_zip, List.length_drop, List.length_drop, List.length_map])) (fun i H3 => Same H H3 ∧ Same H1 H3 ∧ ∃ vs, H3 D = some (.lst vs) ∧ Paired (TiO H3) vs ((tiesO tis ws).take i)) ⟨s1.trans (same_upd nD), same_upd nD, [], upd_same, .nil⟩ (fun i H3 _ pv => ⟨(ewy.same pv.1).sq, (ec.same pv.2.1).sq⟩) (fun i v H3 H4 hi pv yy => ?_) (fun H3 pv => ?_)
    · obtain ⟨U, x, y, rfl, nU, rfl, ex, ey⟩ := yy
      obtain ⟨s3, s31, fa, eD, hfa⟩ := pv
      have hi2 : i < ws.length ∧ i < (ws.drop 1).length := by rw [List.length_zip] at hi; omega
      obtain ⟨x', ex'⟩ : ∃ x', ws[i]? = some x' := ⟨_, List.getElem?_eq_getElem hi2.1⟩
      obtain ⟨y', ey'⟩ : ∃ y', (ws.drop 1)[i]? = some y' := ⟨_, List.getElem?_eq_getElem hi2.2⟩
      have e1 : nS x' = x := Option.some.inj ((by rw [List.getElem?_map, ex']; rfl : (ws.map nS)[i]? = some (nS x')).symm.trans ex)
      have e2 : nS y' = y := Option.some.inj ((by rw [← List.map_drop, List.getElem?_map, ey']; rfl : ((ws.map nS).drop 1)[i]? = some (nS y')).symm.trans ey)
      subst e1 e2
      have s4 := s3.trans (same_upd (o := .tup [nS x', nS y']) nU)
      have et : (tiesO tis ws)[i]? = some (tis.find? (isTie x' y')) := by
        unfold tiesO
        rw [List.getElem?_map, show (ws.zip (ws.drop 1))[i]? = some (x', y') from List.getElem?_zip_eq_some.mpr ⟨ex', ey'⟩]
        rfl
      have room : fa.length < sizeLine := by
        rw [paired_len hfa, List.length_take]
        exact small5000 (by omega)
      refine ⟨U, _, rfl, SqT.of upd_same, rfl, nS x', [nS y'], rfl, nS y', [], rfl, rfl, rfl, yes_ ?_⟩
      refine ⟨.ref r, rfl, nS x', rfl, nS y', rfl, r, x', y', ls, sts, jns, tis, rfl, hnet.tk (.of s4), nm _ (List.mem_of_getElem? ex'), nm _ (List.mem_of_mem_drop (List.mem_of_getElem? ey')), hti, fun H5 s5 z => ?_, fun H5 u t' s5 z eu => ?_⟩
      all_goals
        have s45 : Same H3 H5 := (same_upd (o := .tup [nS x', nS y']) nU).trans s5
        have eD5 := s45 _ _ eD
        refine ⟨_, eD5, room, same_set (s3.trans s45) nD0, same_set (s31.trans s45) nD, _, upd_same, ?_⟩
        rw [List.take_add_one, et, z]
        have tkD : ∀ ys, TK H5 (upd H5 D (.lst ys)) := fun ys => .upd fun xs e => by rw [eD5] at e; cases e
      · exact paired_snoc (paired_imp hfa fun a _ g e => (e.tk (.of s45)).tk (tkD _)) rfl
      · exact paired_snoc (paired_imp hfa fun a _ g e => (e.tk (.of s45)).tk (tkD _)) ⟨u, rfl, tkD _ _ _ eu⟩
    · obtain ⟨s3, _, vs, eD, h⟩ := pv
      rw [show (ws.zip (ws.drop 1)).length = (tiesO tis ws).length by unfold tiesO; rw [List.length_map], List.take_length] at h
      exact q _ D vs s3 eD h
end
end Th
namespace Th
open PySem PySem.Spec PyProof.Rows L2
theorem nm_all : ∀ {ds : List PyData}, (ds.map nameD).all id = true → ∃ ws : List Nm, ds = (ws.map fun z => .str (SX.S z)) ∧ ∀ z ∈ ws, IsNm z
  | [], _ => ⟨[], rfl, fun z h => (by cases h)⟩
  | d :: r, h => by
    rw [List.map_cons, List.all_cons, Bool.and_eq_true] at h
    obtain ⟨ws, e, hw⟩ := nm_all (ds := r) h.2
    cases d with
    | str x => exact ⟨x.cps.toList :: ws, by rw [List.map_cons, SX.S_tl, ← e], fun z hz => (List.mem_cons.mp hz).elim (fun q => by rw [q]; exact nmB_iff.mp h.1) (hw z)⟩
    | none => cases h.1
    | bool _ => cases h.1
    | int _ => cases h.1
    | list _ => cases h.1
    | tuple _ => cases h.1
    | dict _ => cases h.1
theorem nm_all2 {ws : List Nm} (h : ∀ z ∈ ws, IsNm z) : ((ws.map fun z => PyData.str (SX.S z)).map nameD).all id = true := by
  rw [List.all_eq_true]
  intro b hb
  obtain ⟨d, hd, rfl⟩ := List.mem_map.mp hb
  obtain ⟨z, hz, rfl⟩ := List.mem_map.mp hd
  exact nmB_iff.mpr (h z hz)
theorem dt_strs {S : Addr → Prop} {H : Hp} : ∀ {ws : List Nm} {xs : List V}, DFAll S H xs (ws.map fun z => PyData.str (SX.S z)) → xs = ws.map nS
  | [], _, .nil => rfl
  | z :: ws, _, .cons (.str _) t => by rw [dt_strs t]; rfl
theorem strs_inj : ∀ {as bs : List Nm}, (as.map fun z => PyData.str (SX.S z)) = (bs.map fun z => PyData.str (SX.S z)) → as = bs
  | [], [], _ => rfl
  | a :: as, b :: bs, h => by
    rw [List.map_cons, List.map_cons] at h
    injection h with h1 h2
    injection h1 with h1
    rw [SX.S_inj h1, strs_inj h2]
  | [], _ :: _, h => by cases h
  | _ :: _, [], h => by cases h
theorem nodup_S {ws : List Nm} : (ws.map SX.S).Nodup ↔ ws.Nodup := by
  rw [List.nodup_iff_pairwise_ne, List.nodup_iff_pairwise_ne, List.pairwise_map]
  exact ⟨fun h => h.imp fun n e => n (by rw [e]), fun h => h.imp fun n e => n (SX.S_inj e)⟩
theorem ties_all {tis : List Ti} {ws : List Nm} : (∀ o ∈ tiesO tis ws, o ≠ none) ↔ ∀ i x y, ws[i]? = some x → ws[i + 1]? = some y → ∃ t ∈ tis, isTie x y t = true := by
  refine ⟨fun h i x y h1 h2 => ?_, fun h o ho => ?_⟩
  · have e : (tiesO tis ws)[i]? = some (tis.find? (isTie x y)) := by
      unfold tiesO
      rw [List.getElem?_map, show (ws.zip (ws.drop 1))[i]? = some (x, y) from List.getElem?_zip_eq_some.mpr ⟨h1, by rw [List.getElem?_drop, Nat.add_comm]; exact h2⟩]
      rfl
    have n := h _ (List.mem_of_getElem? e)
    cases hf : tis.find? (isTie x y) with
    | none => exact absurd hf n
    | some t => exact ⟨t, List.mem_of_find?_eq_some hf, List.find?_some hf⟩
  · obtain ⟨i, hi⟩ := List.getElem?_of_mem ho
    unfold tiesO at hi
    rw [List.getElem?_map] at hi
    cases hz : (ws.zip (ws.drop 1))[i]? with
    | none => rw [hz] at hi; cases hi
    | some p =>
      rw [hz] at hi
      obtain ⟨x, y⟩ := p
      obtain ⟨h1, h2⟩ := List.getElem?_zip_eq_some.mp hz
      rw [List.getElem?_drop, Nat.add_comm] at h2
      obtain ⟨t, ht, hy⟩ := h i x y h1 h2
      obtain ⟨u, hu⟩ := find_of ht hy
      have := Option.some.inj hi
      have this : tis.find? (isTie x y) = o := this
      rw [← this, hu]
      exact fun z => (by cases z)
theorem tup_len {d : PyData} {lo hi : Int} (h : tupD d lo hi = true) : ∃ ds, d = .tuple ds ∧ lo ≤ (ds.length : Int) ∧ (ds.length : Int) ≤ hi := by
  cases d with
  | tuple ds =>
    have h : (decide (lo ≤ (ds.length : Int)) && decide ((ds.length : Int) ≤ hi)) = true := h
    rw [Bool.and_eq_true, decide_eq_true_iff, decide_eq_true_iff] at h
    exact ⟨ds, rfl, h.1, h.2⟩
  | _ => cases h
theorem at_last {ws : List Nm} {x : Nm} (h : ws[ws.length - 1]? = some x) : atI (ws.map nS) (-1) = some (nS x) := by
  rcases snoc_or ws with rfl | ⟨ys, y, rfl⟩
  · cases h
  · rw [List.length_append, List.length_singleton, Nat.add_sub_cancel, List.getElem?_append_right (Nat.le_refl _), Nat.sub_self] at h
    have : y = x := Option.some.inj h
    rw [← this, List.map_append]
    exact atI_last _ _
theorem lay_opts : ∀ {os : List (Option Ti)}, (∀ t, some t ∈ os → IsNm t.ln) → PyData.canLayAll0 (os.map optD) = true
  | [], _ => rfl
  | none :: r, h => lay_opts (os := r) fun t ht => h t (List.mem_cons_of_mem _ ht)
  | some t :: r, h => by
    show (PyData.canLay0 (tiD t) && PyData.canLayAll0 (r.map optD)) = true
    rw [lay_ti (h t (List.mem_cons_self ..)), lay_opts (os := r) fun t ht => h t (List.mem_cons_of_mem _ ht)]
    rfl
theorem dep_opts : ∀ os : List (Option Ti), PyData.depthAll (os.map optD) ≤ 1
  | [] => Nat.zero_le _
  | none :: r => by
    show max 0 (PyData.depthAll (r.map optD)) ≤ 1
    have := dep_opts r
    omega
  | some t :: r => by
    show max (PyData.depth (tiD t)) (PyData.depthAll (r.map optD)) ≤ 1
    have := dep_opts r
    rw [depth_ti]
    omega
theorem sh_opts {os : List (Option Ti)} (h : ∀ t, some t ∈ os → IsNm t.ln) : SeqAt.shaped (.list (os.map optD)) = true := by
  refine Bool.and_eq_true_iff.mpr ⟨lay_opts h, decide_eq_true ?_⟩
  show PyData.depthAll _ + 1 ≤ 64
  have := dep_opts os
  omega
theorem none_in : ∀ os : List (Option Ti), (!(os.map optD).any fun z => PyData.eqv z .none) = true ↔ ∀ o ∈ os, o ≠ none
  | [] => ⟨fun _ o h => (by cases h), fun _ => rfl⟩
  | none :: r => by
    refine ⟨fun h => ?_, fun h => absurd rfl (h none (List.mem_cons_self ..))⟩
    cases h
  | some t :: r => by
    rw [List.map_cons, List.any_cons, show PyData.eqv (optD (some t)) .none = false from rfl, Bool.false_or, none_in r]
    exact ⟨fun h o ho => (List.mem_cons.mp ho).elim (fun e => by rw [e]; exact fun z => (by cases z)) (h o), fun h o ho => h o (List.mem_cons_of_mem _ ho)⟩
theorem ties_ln {tis : List Ti} {ws : List Nm} (h : ∀ t ∈ tis, IsNm t.ln) : ∀ t, some t ∈ tiesO tis ws → IsNm t.ln := fun t ht => by
  unfold tiesO at ht
  obtain ⟨p, _, e⟩ := List.mem_map.mp ht
  exact h t (List.mem_of_find?_eq_some e)
section
variable {P : Program} {w : World} {K : PySem.W.Frag} {mg : Str → Option Value} {base : Heap} {k : Nat}
def sp_is_way : Sp := fun vs H Q _ => ∃ (S : Addr → Prop) (r : Addr) (v : V) (d : PyData) (ls : List Nm) (sts : List (Nm × Nm)) (jns : List (Nm × List Nm)) (tis : List Ti), vs = [.ref r, v] ∧ NetAt H r ls sts jns tis ∧ TD S H v d ∧ sts.length ≤ 100 ∧ tis.length ≤ 40 ∧ (∀ t ∈ tis, IsNm t.a ∧ IsNm t.b ∧ IsNm t.ln ∧ t.a ≠ t.b) ∧ (∀ s ∈ sts, IsNm s.1) ∧
  ∀ H' b, Same H H' → (b = true ↔ IsWay sts tis d) → Q (.bl b) H'
set_option maxHeartbeats 8000000 in
theorem ok_is_way (T : Defs K mg) : FnOk P w K mg base CX0 (k + 3) T.a_is_way T.d_is_way ["net", "thing"] sp_is_way := by
  have G_is_tuple : FnOk P w K mg base CX0 (k + 2) _ _ _ _ := ok_is_tuple (k := k + 1) T
  have G_is_name : FnOk P w K mg base CX0 (k + 2) _ _ _ _ := ok_is_name (k := k + 1) T
  have G_all_unlike : FnOk P w K mg base CX0 (k + 2) _ _ _ _ := ok_all_unlike (k := k + 1) T
  have G_ties_along : FnOk P w K mg base CX0 (k + 2) _ _ _ _ := ok_ties_along T
  refine T.F_is_way.ok sc_is_way (fun vs H Q E h => ?_) (fun cdv A outer s H vs Q E hr h => ?_)
  · obtain ⟨p, r, v, d, ls, sts, jns, tis, rfl, _⟩ := h
    rfl
  · obtain ⟨p, r, v, d, ls, sts, jns, tis, rfl, hnet, hv, s100, t40, hti, hst, q⟩ := h
    refine ⟨_, PSs.nox
(pss_cons (ps_if (pt_not (pt_val (pe_call G_is_tuple hr (by rfl) T.g_is_tuple T.F_is_tuple.kp T.b_is_tuple .nil pass0 (pa_cons (pv 1) (pa_cons (pe_int) (pa_cons (pe_glob (v := .int 28) (by rfl) T.c_MOST_PLACES ⟨_, rfl⟩) pa_nil))))))
      (pss_one (ps_ret (pe_bl)))
      pss_nil)
    (pss_cons (ps_if (PW.pt (pw_or (pt_not (pt_val (pe_callB (r := rAll K) (cr_all rfl) (by rfl) T.z_all (by decide +kernel) (pa_cons (pe_lc (own := [("place", 3)]) (g := gName 3) rfl sc_is_way.nd (pi_tup (pv 1)) (blkOk_by (N := N_is_way) (sc := defScope s_is_way) (by decide +kernel)) (fun _ _ _ _ _ => (pg_name (i := 3) sc_is_way.nd rfl (.inl rfl))) (fun _ _ _ _ _ => pts_nil) (fun _ _ _ _ _ => (pe_call G_is_name hr (by rfl) T.g_is_name T.F_is_name.kp T.b_is_name .nil pass0 (pa_cons (pv 3) pa_nil)))) pa_nil)))) (pw_or1 (pt_not (pt_val (pe_call G_all_unlike hr (by rfl) T.g_all_unlike T.F_all_unlike.kp T.b_all_unlike .nil pass0 (pa_cons (pv 1) pa_nil)))))))
      (pss_one (ps_ret (pe_bl)))
      pss_nil)
    (pss_cons (ps_setLc (i := 2) (own := [("name", 4), ("line", 5)]) (g := gTup K 2 (gCons (gName 4) (gCons (gName 5) gNil))) rfl sc_is_way.nd rfl rfl (sw_true rfl rfl rfl (by decide +kernel)) (pi_tup (pe_ix (r := rIxT K) ix_tup (pv 0) (pe_int) (fun _ _ => rfl))) (blkOk_by (N := N_is_way) (sc := defScope s_is_way) (by decide +kernel)) (fun _ _ _ _ _ => (pg_tup rfl (pgs_cons (pg_name (i := 4) sc_is_way.nd rfl (.inl rfl)) (pgs_cons (pg_name (i := 5) sc_is_way.nd rfl (.inl rfl)) pgs_nil)))) (fun _ _ _ _ _ => pts_nil) (fun _ _ _ _ _ => (pv 4)))
    (pss_one (ps_ret (pe_and (pe_cmpR (r := rIn K false) op_in_seq (pe_ix (r := rIxT K) ix_tup (pv 1) (pe_int) (fun _ _ => rfl)) (pv 2) (by rfl)) (pe_and (pe_cmpR (r := rIn K false) op_in_seq (pe_ix (r := rIxT K) ix_tup (pv 1) (pe_un un_neg (pe_int)) (fun _ _ => rfl)) (pv 2) (by rfl)) (pe_one (pe_cmpR (op_notInD (un65 hr)) (pe_non) (pe_call G_ties_along hr (by rfl) T.g_ties_along T.F_ties_along.kp T.b_ties_along .nil pass0 (pa_cons (pv 0) (pa_cons (pv 1) pa_nil))) (by rfl))))))))))
      , ?_⟩
    have no : ∀ {H'}, Same H H' → ¬ IsWay sts tis d → Q (.bl false) H' := fun s h => q _ false s ⟨fun z => (by cases z), fun z => absurd z h⟩
    refine ⟨v, rfl, p, v, d, 2, 28, rfl, hv, tupD d 2 28, rfl, ?_⟩
    by_cases c : tupD d 2 28 = true
    · rw [c]
      refine iteF ?_
      obtain ⟨ds, rfl, d2, d28⟩ := tup_len c
      obtain ⟨a, xs, rfl, hT, l60, hxs, hlay⟩ := hv.tup
      have xl := hxs.len
      refine ⟨.ref a, rfl, a, rfl, ⟨_, hT.sq⟩, fun D nD => ?_⟩
      refine lc_it (walk_tup (xs := xs)) (fun i H3 => Same H H3 ∧ H3 D = some (.lst (((ds.take i).map nameD).map V.bl))) ⟨same_upd nD, upd_same⟩ (fun i H3 _ pv => (hT.same pv.1).sq) (fun i x H3₀ H3 hi pv yy => ?_) (fun H3 pv => ?_)
      · obtain ⟨rfl, ex⟩ := yy
        obtain ⟨s3, eD⟩ := pv
        obtain ⟨e, ee, he⟩ := (hxs.same s3).get ex
        refine ⟨rfl, yes_ ⟨x, rfl, _, x, e, rfl, he, ?_, fun H4 s4 => ?_⟩⟩
        · exact (hlay e (List.mem_of_getElem? ee)).sz
        refine ⟨_, s4 _ _ eD, by rw [List.length_map, List.length_map, List.length_take]; exact small5000 (by omega), same_set (s3.trans s4) nD, ?_⟩
        rw [upd_same, List.take_add_one, ee, List.map_append, List.map_append]
        rfl
      obtain ⟨s3, eD⟩ := pv
      rw [xl, List.take_length] at eD
      refine ⟨D, _, rfl, SqL.of eD, ?_⟩
      by_cases c2 : (ds.map nameD).all id = true
      · rw [c2]
        obtain ⟨ws, rfl, hws⟩ := nm_all c2
        have exs := dt_strs hxs
        subst exs
        rw [List.length_map] at d2 d28
        refine ⟨true, rfl, iteF ⟨.ref a, rfl, a, ws.map SX.S, rfl, ?_, by rw [List.length_map]; omega, fun H4 s4 => ⟨_, rfl, ?_⟩⟩⟩
        · rw [List.map_map]
          exact (hT.same s3).sq
        have s04 := s3.trans s4
        by_cases c3 : (ws.map SX.S).Nodup
        · rw [decide_eq_true c3]
          refine iteF ?_
          have wnd := nodup_S.mp c3
          have hnet4 := hnet.tk (.of s04)
          have hT4 := hT.same s04
          obtain ⟨na, nb, nc, nd, sa, ja, ta, er, _, eb, hsa, _, _, ed, hta⟩ := id hnet4
          refine ⟨.ref r, rfl, r, [.ref na, .ref nb, .ref nc, .ref nd], 1, .ref nb, rfl, rfl, SqT.of er, atI_nat (j := 1) rfl, nb, rfl, ⟨_, eb.sq⟩, fun S nSt => ?_⟩
          have sl := paired_len hsa
          refine lc_it (walk_tup (xs := sa.map V.ref)) (fun i H5 => Same H4 H5 ∧ H5 S = some (.lst (((sts.take i).map (·.1)).map nS))) ⟨same_upd nSt, upd_same⟩ (fun i H5 _ pv => (eb.same pv.1).sq) (fun i v H3₀ H5 hi pv yy => ?_) (fun H5 pv => ?_)
          · obtain ⟨rfl, ex⟩ := yy
            obtain ⟨s5, eS⟩ := pv
            obtain ⟨u, eu, rfl⟩ : ∃ u, sa[i]? = some u ∧ v = .ref u := by
              rw [List.getElem?_map] at ex
              cases h : sa[i]? with
              | none => rw [h] at ex; cases ex
              | some t => rw [h] at ex; exact ⟨t, rfl, (Option.some.inj ex).symm⟩
            obtain ⟨st, est, hu⟩ := paired_get hsa eu
            rw [List.length_map] at hi
            refine ⟨u, _, rfl, SqT.of (s5 _ _ hu), rfl, nS st.1, [nS st.2], rfl, nS st.2, [], rfl, rfl, rfl, yes_ ⟨nS st.1, rfl, _, eS, by rw [List.length_map, List.length_map, List.length_take]; exact small5000 (by omega), same_set s5 nSt, ?_⟩⟩
            rw [upd_same, List.take_add_one, est, List.map_append, List.map_append]
            rfl
          obtain ⟨s5, eS⟩ := pv
          rw [List.length_map, sl, List.take_length] at eS
          obtain ⟨x0, e0⟩ : ∃ x, ws[0]? = some x := ⟨_, List.getElem?_eq_getElem (by omega)⟩
          obtain ⟨x1, e1⟩ : ∃ x, ws[ws.length - 1]? = some x := ⟨_, List.getElem?_eq_getElem (by omega)⟩
          have hT5 := hT4.same s5
          have nost : ∀ {H'}, Same H H' → ¬ (x0 ∈ sts.map (·.1) ∧ x1 ∈ sts.map (·.1) ∧ ∀ o ∈ tiesO tis ws, o ≠ none) → Q (.bl false) H' := fun s h => no s fun ⟨ws', e, _, _, _, _, hst, hto⟩ => by
            injection e with e
            have e := strs_inj e
            subst e
            obtain ⟨⟨y0, f0, m0⟩, y1, f1, m1⟩ := hst
            rw [e0] at f0
            rw [e1] at f1
            rw [← Option.some.inj f0] at m0
            rw [← Option.some.inj f1] at m1
            exact h ⟨m0, m1, ties_all.mpr hto⟩
          refine ⟨.ref a, rfl, a, ws.map nS, 0, nS x0, rfl, rfl, hT5.sq, atI_nat (j := 0) (by rw [List.getElem?_map, e0]; rfl), .ref S, rfl, S, _, rfl, .inl (SqL.of eS), rfl, flat_nms _, ?_⟩
          refine ⟨decide (x0 ∈ sts.map (·.1)), congrArg V.bl ((if_neg (by decide)).trans in_nms), ite2 (fun m0 => ?_) (fun m0 => nost (s04.trans s5) fun z => m0 (decide_eq_true z.1))⟩
          have m0 := of_decide_eq_true m0
          refine ⟨.ref a, rfl, 1, rfl, a, ws.map nS, -1, nS x1, rfl, rfl, hT5.sq, at_last e1, .ref S, rfl, S, _, rfl, .inl (SqL.of eS), rfl, flat_nms _, ?_⟩
          refine ⟨decide (x1 ∈ sts.map (·.1)), congrArg V.bl ((if_neg (by decide)).trans in_nms), ite2 (fun m1 => ?_) (fun m1 => nost (s04.trans s5) fun z => m1 (decide_eq_true z.2.1))⟩
          have m1 := of_decide_eq_true m1
          refine ⟨.ref r, rfl, .ref a, rfl, r, a, ls, sts, jns, tis, ws, rfl, hnet.tk (.of (s04.trans s5)), hT5, by omega, hws, fun t ht => ⟨(hti t ht).1, (hti t ht).2.1⟩, fun H6 D6 vs s6 eD6 h6 => ?_⟩
          have vl := paired_len h6
          have ol : (tiesO tis ws).length ≤ 28 := by
            unfold tiesO
            rw [List.length_map, List.length_zip]
            omega
          refine ⟨.none, (tiesO tis ws).map optD, (Dt.non (S := SA)).dp, (Dt.lst (S := SA) trivial eD6 (by omega) (dtAll_tiO h6)).dp, rfl, sh_opts (ties_ln fun t ht => (hti t ht).2.2.1), ?_⟩
          refine q _ _ ((s04.trans s5).trans s6) ((none_in _).trans ⟨fun h => ⟨ws, rfl, by omega, by omega, hws, wnd, ⟨⟨x0, e0, m0⟩, x1, e1, m1⟩, ties_all.mp h⟩, fun ⟨ws', e, _, _, _, _, _, hto⟩ => ?_⟩)
          injection e with e
          rw [strs_inj e]
          exact ties_all.mpr hto
        · rw [decide_eq_false c3]
          exact iteT (no s04 fun ⟨ws', e, _, _, _, hnd, _⟩ => by
            injection e with e
            rw [strs_inj e] at c3
            exact c3 (nodup_S.mpr hnd))
      · rw [show (ds.map nameD).all id = false by simpa using c2]
        exact ⟨false, rfl, iteT (no s3 fun ⟨ws, e, _, _, hw, _⟩ => by
          injection e with e
          rw [e] at c2
          exact c2 (nm_all2 hw))⟩
    · rw [show tupD d 2 28 = false by simpa using c]
      refine iteT (no (.refl _) fun ⟨ws, e, h2, h28, _⟩ => ?_)
      rw [e] at c
      refine c ?_
      show (decide ((2 : Int) ≤ ((ws.map fun z => PyData.str (SX.S z)).length : Int)) && decide (((ws.map fun z => PyData.str (SX.S z)).length : Int) ≤ 28)) = true
      rw [List.length_map, decide_eq_true (by omega), decide_eq_true (by omega)]
      rfl
end
end Th
namespace Th
open PySem PySem.Spec PyProof.Rows L2
/-! odd things; the law's own look -/
def layB (d : PyData) : Bool := d.canLay0 && (decide (d.depth ≤ 3) && match d with
  | .str x => decide (x.length ≤ 100)
  | _ => true)
theorem layB_ok {d : PyData} (h : layB d = true) : Lay d := by
  unfold layB at h
  rw [Bool.and_eq_true, Bool.and_eq_true] at h
  refine ⟨h.1, of_decide_eq_true h.2.1, fun x e => ?_⟩
  subst e
  have := of_decide_eq_true h.2.2
  exact Nat.le_trans this (by decide)
def okB (d : PyData) : Bool := match d with
  | .tuple ds => decide (ds.length ≤ 60) && ds.all layB
  | _ => true
theorem okB_ok {d : PyData} (h : okB d = true) : OkD d := fun ds e => by
  subst e
  have h : (decide (ds.length ≤ 60) && ds.all layB) = true := h
  rw [Bool.and_eq_true, List.all_eq_true] at h
  exact ⟨of_decide_eq_true h.1, fun e he => layB_ok (h.2 e he)⟩
theorem lay_nm {z : Nm} (h : IsNm z) : Lay (.str (SX.S z)) := ⟨nm_ok h, Nat.zero_le _, fun x e => by
  injection e with e
  rw [← e, SX.S_len]
  exact Nat.le_trans h.2.1 (by decide)⟩
def oddL : List PyData := [.none, .bool true, .int 0, .int 5, .str (Str.ofString ""), .str (Str.ofString "A"), .str (Str.ofString "nowhere"), .list [], .tuple [], .list [.str (Str.ofString "a")], .tuple [.str (Str.ofString "a"), .str (Str.ofString "b")], .tuple [.tuple []], .tuple [.none, .none], .tuple [.list [], .list []], .str (Str.ofString "ab")]
theorem odd_ok : (oddL.all fun d => okB d && layB d) = true := by decide +kernel
section
variable {P : Program} {w : World} {K : PySem.W.Frag} {mg : Str → Option Value} {base : Heap} {k : Nat}
def sp_l_odd : Sp := fun vs H Q _ => ∃ p, vs = [.ref p] ∧ Bag H p ∧ ∀ H' v d, Keep p H H' → Bag H' p → DF (fun a => H a = none) H' v d → OkD d → Lay d → Q v H'
set_option maxHeartbeats 8000000 in
theorem ok_l_odd (T : Defs K mg) : FnOk P w K mg base CX0 (k + 2) T.a_l_odd T.d_l_odd ["_law_bag_here"] sp_l_odd := by
  have G_l_take : FnOk P w K mg base CX0 (k + 1) _ _ _ _ := ok_l_take T
  refine T.F_l_odd.ok sc_l_odd (fun vs H Q E h => ?_) (fun cdv A outer s H vs Q E hr h => ?_)
  · obtain ⟨p, rfl, _⟩ := h
    rfl
  · obtain ⟨p, rfl, b, q⟩ := h
    refine ⟨_, PSs.nox
(pss_cons (ps_set (i := 1) sc_l_odd.nd rfl (.inl rfl) (pe_lst (pa_cons (pe_non) (pa_cons (pe_bl) (pa_cons (pe_int) (pa_cons (pe_int) (pa_cons (pe_str) (pa_cons (pe_str) (pa_cons (pe_str) (pa_cons (pe_lst pa_nil) (pa_cons (Tk.pe_tupK pa_nil) (pa_cons (pe_lst (pa_cons (pe_str) pa_nil)) (pa_cons (Tk.pe_tupK (pa_cons (pe_str) (pa_cons (pe_str) pa_nil))) (pa_cons (Tk.pe_tupK (pa_cons (Tk.pe_tupK pa_nil) pa_nil)) (pa_cons (Tk.pe_tupK (pa_cons (pe_non) (pa_cons (pe_non) pa_nil))) (pa_cons (Tk.pe_tupK (pa_cons (pe_lst pa_nil) (pa_cons (pe_lst pa_nil) pa_nil))) (pa_cons (pe_str) pa_nil)))))))))))))))))
    (pss_one (ps_ret (pe_ix (r := rIxL K) ix_list (pv 1) (pe_call G_l_take hr (by rfl) T.g_l_take T.F_l_take.kp T.b_l_take .nil pass0 (pa_cons (pv 0) (pa_cons (pe_int) pa_nil))) (fun _ _ => rfl)))))
      , ?_⟩
    refine ⟨Nat.zero_le _, fun l1 n1 => ?_⟩
    have s1 := same_upd (o := .lst []) n1
    have f1 : DF (fun a => H a = none) (upd H l1 (.lst [])) (.ref l1) (.list []) := .lst n1 upd_same .nil
    have b1 := b.keep s1
    generalize upd H l1 (.lst []) = H1 at s1 f1 b1 ⊢
    refine ⟨Nat.zero_le _, fun t1 H2 n2 s2 g2 _ => ?_⟩
    have f2 : DF (fun a => H a = none) H2 (.ref t1) (.tuple []) := .tup g2 .nil
    have b2 := b1.keep s2
    refine ⟨by show 1 ≤ sizeLine; decide, fun l2 n3 => ?_⟩
    have s3 := same_upd (o := .lst [.str (Str.ofString "a")]) n3
    have f3 : DF (fun a => H a = none) (upd H2 l2 (.lst [.str (Str.ofString "a")])) (.ref l2) (.list [.str (Str.ofString "a")]) := .lst (up0 (s1.trans s2) n3) upd_same (.cons (.str _) .nil)
    have b3 := b2.keep s3
    generalize upd H2 l2 (.lst [.str (Str.ofString "a")]) = H3 at s3 f3 b3 ⊢
    refine ⟨by show 2 ≤ sizeLine; decide, fun t2 H4 n4 s4 g4 _ => ?_⟩
    have f4 : DF (fun a => H a = none) H4 (.ref t2) (.tuple [.str (Str.ofString "a"), .str (Str.ofString "b")]) := .tup g4 (.cons (.str _) (.cons (.str _) .nil))
    refine ⟨Nat.zero_le _, fun t3 H5 n5 s5 g5 _ => ?_⟩
    have f5 : DF (fun a => H a = none) H5 (.ref t3) (.tuple []) := .tup g5 .nil
    refine ⟨by show 1 ≤ sizeLine; decide, fun t4 H6 n6 s6 g6 _ => ?_⟩
    have f6 : DF (fun a => H a = none) H6 (.ref t4) (.tuple [.tuple []]) := .tup g6 (.cons (f5.same s6) .nil)
    refine ⟨by show 2 ≤ sizeLine; decide, fun t5 H7 n7 s7 g7 _ => ?_⟩
    have f7 : DF (fun a => H a = none) H7 (.ref t5) (.tuple [.none, .none]) := .tup g7 (.cons .non (.cons .non .nil))
    have b7 := b3.keep (s4.trans (s5.trans (s6.trans s7)))
    have s07 := s1.trans (s2.trans (s3.trans (s4.trans (s5.trans (s6.trans s7)))))
    refine ⟨Nat.zero_le _, fun l3 n8 => ?_⟩
    have s8 := same_upd (o := .lst []) n8
    have f8 : DF (fun a => H a = none) (upd H7 l3 (.lst [])) (.ref l3) (.list []) := .lst (up0 s07 n8) upd_same .nil
    have b8 := b7.keep s8
    generalize upd H7 l3 (.lst []) = H8 at s8 f8 b8 ⊢
    refine ⟨Nat.zero_le _, fun l4 n9 => ?_⟩
    have s9 := same_upd (o := .lst []) n9
    have f9 : DF (fun a => H a = none) (upd H8 l4 (.lst [])) (.ref l4) (.list []) := .lst (up0 (s07.trans s8) n9) upd_same .nil
    have b9 := b8.keep s9
    generalize upd H8 l4 (.lst []) = H9 at s9 f9 b9 ⊢
    refine ⟨by show 2 ≤ sizeLine; decide, fun t6 H10 n10 s10 g10 _ => ?_⟩
    have f10 : DF (fun a => H a = none) H10 (.ref t6) (.tuple [.list [], .list []]) := .tup g10 (.cons ((f8.same s9).same s10) (.cons (f9.same s10) .nil))
    refine ⟨by show 15 ≤ sizeLine; decide, fun S nS => ?_⟩
    have b10 := b9.keep s10
    have sS := same_upd (o := .lst [.non, .bl true, .int 0, .int 5, .str (Str.ofString ""), .str (Str.ofString "A"), .str (Str.ofString "nowhere"), .ref l1, .ref t1, .ref l2, .ref t2, .ref t4, .ref t5, .ref t6, .str (Str.ofString "ab")]) nS
    have nSp := b10.ne nS
    have s710 := s8.trans (s9.trans s10)
    have s610 := s7.trans s710
    have s410 := s5.trans (s6.trans s610)
    have s310 := s4.trans s410
    have s210 := s3.trans s310
    have all : DFAll (fun a => H a = none) H10 [.non, .bl true, .int 0, .int 5, .str (Str.ofString ""), .str (Str.ofString "A"), .str (Str.ofString "nowhere"), .ref l1, .ref t1, .ref l2, .ref t2, .ref t4, .ref t5, .ref t6, .str (Str.ofString "ab")] oddL :=
      .cons .non (.cons (.bl _) (.cons (.int _) (.cons (.int _) (.cons (.str _) (.cons (.str _) (.cons (.str _) (.cons (f1.same (s2.trans s210)) (.cons (f2.same s210) (.cons (f3.same s310) (.cons (f4.same s410) (.cons (f6.same s610) (.cons (f7.same s710) (.cons f10 (.cons (.str _) .nil))))))))))))))
    have k0 : Keep p H (upd H10 S _) := Keep.of ((s1.trans (s2.trans s210)).trans sS)
    refine ⟨.ref S, rfl, .ref p, rfl, p, 15, rfl, b10.keep sS, by decide, by decide, fun H11 d k11 b11 d0 d1 => ?_⟩
    obtain ⟨dd, rfl⟩ : ∃ dd : Nat, d = (dd : Int) := ⟨d.toNat, by omega⟩
    have all11 := (all.same sS).keep k11 (b10.keep sS) fun a n => b.ne n
    have eS11 := k11 _ _ nSp upd_same
    obtain ⟨x, ex⟩ : ∃ x, oddL[dd]? = some x := ⟨_, List.getElem?_eq_getElem (by show dd < 15; omega)⟩
    obtain ⟨v, ev, hv⟩ := all11.get2 ex
    have ok := List.all_eq_true.mp odd_ok x (List.mem_of_getElem? ex)
    rw [Bool.and_eq_true] at ok
    exact ⟨S, _, (dd : Int), v, rfl, rfl, SqL.of eS11, atI_nat ev, q _ v x (k0.trans k11) b11 hv (okB_ok ok.1) (layB_ok ok.2)⟩
end
end Th
namespace Th
open PySem PySem.Spec PyProof.Rows L2
/-! the law's own look at a thing -/
def cntB (ds : List PyData) (e : PyData) : Bool := isiS e && decide (((ds.countP fun y => PyData.eqv y e : Nat) : Int) = 1)
theorem str_all : ∀ {ds es : List PyData}, (ds.map (cntB es)).all id = true → ∃ ws : List Nm, ds = (ws.map fun z => .str (SX.S z))
  | [], _, _ => ⟨[], rfl⟩
  | d :: r, es, h => by
    rw [List.map_cons, List.all_cons, Bool.and_eq_true] at h
    obtain ⟨ws, e⟩ := str_all (ds := r) h.2
    cases d with
    | str x => exact ⟨x.cps.toList :: ws, by rw [List.map_cons, SX.S_tl, ← e]⟩
    | none => cases h.1
    | bool _ => cases h.1
    | int _ => cases h.1
    | list _ => cases h.1
    | tuple _ => cases h.1
    | dict _ => cases h.1
theorem cnt_str (ws : List Nm) (z : Nm) : ((ws.map fun z => PyData.str (SX.S z)).countP fun y => PyData.eqv y (.str (SX.S z))) = ws.count z := by
  rw [List.countP_map]
  unfold List.count
  refine List.countP_congr fun y _ => ?_
  show (SX.S y == SX.S z) = true ↔ (y == z) = true
  rw [beq_iff_eq, beq_iff_eq]
  exact ⟨fun e => SX.S_inj e, fun e => by rw [e]⟩
theorem cnt_nd {ws : List Nm} : (((ws.map fun z => PyData.str (SX.S z)).map (cntB (ws.map fun z => PyData.str (SX.S z)))).all id = true) ↔ ws.Nodup := by
  rw [List.all_eq_true]
  constructor
  · intro h
    rw [List.nodup_iff_count]
    intro a
    by_cases ha : a ∈ ws
    · have h1 := h _ (List.mem_map_of_mem (List.mem_map_of_mem (f := fun z => PyData.str (SX.S z)) ha))
      have h2 : decide (((ws.map fun z => PyData.str (SX.S z)).countP fun y => PyData.eqv y (.str (SX.S a)) : Int) = 1) = true := h1
      have h2 := of_decide_eq_true h2
      rw [cnt_str] at h2
      omega
    · rw [List.count_eq_zero_of_not_mem ha]
      exact Nat.zero_le _
  · intro h b hb
    obtain ⟨d, hd, rfl⟩ := List.mem_map.mp hb
    obtain ⟨z, hz, rfl⟩ := List.mem_map.mp hd
    show decide (((ws.map fun z => PyData.str (SX.S z)).countP fun y => PyData.eqv y (.str (SX.S z)) : Int) = 1) = true
    rw [cnt_str]
    have h1 := List.nodup_iff_count.mp h z
    have h2 := List.count_pos_iff.mpr hz
    exact decide_eq_true (by omega)
theorem lay_all : ∀ {ds : List PyData}, (∀ e ∈ ds, Lay e) → PyData.canLayAll0 ds = true ∧ PyData.depthAll ds ≤ 3
  | [], _ => ⟨rfl, Nat.zero_le _⟩
  | d :: r, h => by
    obtain ⟨h1, h2⟩ := lay_all (ds := r) fun e he => h e (List.mem_cons_of_mem _ he)
    have h3 := h d (List.mem_cons_self ..)
    refine ⟨?_, ?_⟩
    · show (PyData.canLay0 d && PyData.canLayAll0 r) = true
      rw [h3.lay, h1]
      rfl
    · show max (PyData.depth d) (PyData.depthAll r) ≤ 3
      have := h3.dep
      omega
theorem sh_tup {ds : List PyData} (h : ∀ e ∈ ds, Lay e) : SeqAt.shaped (.tuple ds) = true := by
  obtain ⟨h1, h2⟩ := lay_all h
  refine Bool.and_eq_true_iff.mpr ⟨h1, decide_eq_true ?_⟩
  show PyData.depthAll _ + 1 ≤ 64
  omega
theorem sh_lay {d : PyData} (h : Lay d) : SeqAt.shaped d = true := by
  refine Bool.and_eq_true_iff.mpr ⟨h.lay, decide_eq_true ?_⟩
  have := h.dep
  omega
/-- ends that are stations and ties between them make names -/
theorem way_nms {tis : List Ti} {ws : List Nm} (h2 : 2 ≤ ws.length) (hti : ∀ t ∈ tis, IsNm t.a ∧ IsNm t.b) (h : ∀ i x y, ws[i]? = some x → ws[i + 1]? = some y → ∃ t ∈ tis, isTie x y t = true) : ∀ z ∈ ws, IsNm z := fun z hz => by
  obtain ⟨i, hi⟩ := List.getElem?_of_mem hz
  have il := (List.getElem?_eq_some_iff.mp hi).1
  by_cases c : i + 1 < ws.length
  · obtain ⟨t, ht, e⟩ := h i z _ hi (List.getElem?_eq_getElem c)
    rcases of_decide_eq_true e with ⟨q, _⟩ | ⟨_, q⟩
    · rw [← q]; exact (hti t ht).1
    · rw [← q]; exact (hti t ht).2
  · obtain ⟨t, ht, e⟩ := h (i - 1) _ z (List.getElem?_eq_getElem (by omega)) (by rw [show i - 1 + 1 = i by omega]; exact hi)
    rcases of_decide_eq_true e with ⟨_, q⟩ | ⟨q, _⟩
    · rw [← q]; exact (hti t ht).2
    · rw [← q]; exact (hti t ht).1
section
variable {P : Program} {w : World} {K : PySem.W.Frag} {mg : Str → Option Value} {base : Heap} {k : Nat}
set_option maxHeartbeats 8000000 in
theorem ok_l_is_way (T : Defs K mg) : FnOk P w K mg base CX0 (k + 2) T.a_l_is_way T.d_l_is_way ["_law_net_here", "_law_thing"] sp_is_way := by
  have G_l_tie : FnOk P w K mg base CX0 (k + 1) _ _ _ _ := ok_l_tie T
  refine T.F_l_is_way.ok sc_l_is_way (fun vs H Q E h => ?_) (fun cdv A outer s H vs Q E hr h => ?_)
  · obtain ⟨p, r, v, d, ls, sts, jns, tis, rfl, _⟩ := h
    rfl
  · obtain ⟨p, r, v, d, ls, sts, jns, tis, rfl, hnet, hv, s100, t40, hti, hst, q⟩ := h
    refine ⟨_, PSs.nox
(pss_cons (ps_if (PW.pt (pw_or (pt_not (pt_val (pe_callB (r := rIsi K) call_isi (by rfl) T.z_isinstance (by decide +kernel) (pa_cons (pv 1) (pa_cons (pe_bltn (v := .ty "tuple") (by rfl) T.z_tuple (by decide +kernel) rfl) pa_nil))))) (pw_or1 (pt_not (pt_chain op_le op_le (pe_int) (pe_callB (r := rLenS K) call_lenS (by rfl) T.z_len (by decide +kernel) (pa_cons (pv 1) pa_nil)) (pe_int))))))
      (pss_one (ps_ret (pe_bl)))
      pss_nil)
    (pss_cons (ps_if (pt_not (pt_val (pe_callB (r := rAll K) (cr_all rfl) (by rfl) T.z_all (by decide +kernel) (pa_cons (pe_lc (own := [("_law_place", 3)]) (g := gName 3) rfl sc_l_is_way.nd (pi_tup (pv 1)) (blkOk_by (N := N_l_is_way) (sc := defScope s_l_is_way) (by decide +kernel)) (fun _ _ _ _ _ => (pg_name (i := 3) sc_l_is_way.nd rfl (.inl rfl))) (fun _ _ _ _ _ => pts_nil) (fun _ _ _ _ _ => (pe_and (pe_callB (r := rIsi K) call_isi (by rfl) T.z_isinstance (by decide +kernel) (pa_cons (pv 3) (pa_cons (pe_bltn (v := .ty "str") (by rfl) T.z_str (by decide +kernel) rfl) pa_nil))) (pe_one (pe_cmpR op_eq (pe_mG (ty := Tw.tyTp) (r := Tk.rCntT K) Tw.ty_tp PySem.F.plainAttrs_tuple PySem.F.slot_tuple_count PySem.F.type_tuple_count (Tk.mt_tcount (un65 hr)) (pv 1) (pa_cons (pv 3) pa_nil)) (pe_int) (nomark _)))))) pa_nil))))
      (pss_one (ps_ret (pe_bl)))
      pss_nil)
    (pss_cons (ps_setLc (i := 2) (own := [("_law_one", 4)]) (g := gName 4) rfl sc_l_is_way.nd rfl rfl (sw_true rfl rfl rfl (by decide +kernel)) (pi_tup (pe_ix (r := rIxT K) ix_tup (pv 0) (pe_int) (fun _ _ => rfl))) (blkOk_by (N := N_l_is_way) (sc := defScope s_l_is_way) (by decide +kernel)) (fun _ _ _ _ _ => (pg_name (i := 4) sc_l_is_way.nd rfl (.inl rfl))) (fun _ _ _ _ _ => pts_nil) (fun _ _ _ _ _ => (pe_ix (r := rIxT K) ix_tup (pv 4) (pe_int) (fun _ _ => rfl))))
    (pss_cons (ps_if (PW.pt (pw_or (pt_cmpR (r := rIn K true) op_notIn_seq (pe_ix (r := rIxT K) ix_tup (pv 1) (pe_int) (fun _ _ => rfl)) (pv 2) (by rfl)) (pw_or1 (pt_cmpR (r := rIn K true) op_notIn_seq (pe_ix (r := rIxT K) ix_tup (pv 1) (pe_un un_neg (pe_int)) (fun _ _ => rfl)) (pv 2) (by rfl)))))
      (pss_one (ps_ret (pe_bl)))
      pss_nil)
    (pss_one (ps_ret (pe_callB (r := rAll K) (cr_all rfl) (by rfl) T.z_all (by decide +kernel) (pa_cons (pe_lc (own := [("_law_k", 5)]) (g := gName 5) rfl sc_l_is_way.nd (pi_range1 (by rfl) T.z_range (pa_cons (pe_op op_sub (pe_callB (r := rLenS K) call_lenS (by rfl) T.z_len (by decide +kernel) (pa_cons (pv 1) pa_nil)) (pe_int)) pa_nil)) (blkOk_by (N := N_l_is_way) (sc := defScope s_l_is_way) (by decide +kernel)) (fun _ _ _ _ _ => (pg_name (i := 5) sc_l_is_way.nd rfl (.inl rfl))) (fun _ _ _ _ _ => pts_nil) (fun _ _ _ _ _ => (pe_cmpR op_notN (pe_call G_l_tie hr (by rfl) T.g_l_tie T.F_l_tie.kp T.b_l_tie .nil pass0 (pa_cons (pv 0) (pa_cons (pe_ix (r := rIxT K) ix_tup (pv 1) (pv 5) (fun _ _ => rfl)) (pa_cons (pe_ix (r := rIxT K) ix_tup (pv 1) (pe_op op_add (pv 5) (pe_int)) (fun _ _ => rfl)) pa_nil)))) (pe_non) (nomark _)))) pa_nil))))))))
      , ?_⟩
    have no : ∀ {H'}, Same H H' → ¬ IsWay sts tis d → Q (.bl false) H' := fun s h => q _ false s ⟨fun z => (by cases z), fun z => absurd z h⟩
    refine ⟨v, rfl, v, .ty "tuple", _, _, _, rfl, .ty _, hv.ty, kit_T d, isiT d, rfl, ?_⟩
    by_cases ht : isiT d = true
    · obtain ⟨ds, rfl⟩ : ∃ ds, d = .tuple ds := by
        cases d with
        | tuple ds => exact ⟨ds, rfl⟩
        | _ => cases ht
      obtain ⟨a, xs, rfl, hT, l60, hxs, hlay⟩ := hv.tup
      have xl := hxs.len
      have nolen : (¬ (2 ≤ xs.length ∧ xs.length ≤ 28)) → Q (.bl false) H := fun h => no (.refl _) fun ⟨ws, e, h2, h28, _⟩ => by
        injection e with e
        rw [e, List.length_map] at xl
        exact h ⟨by omega, by omega⟩
      refine iteF ⟨.ref a, rfl, a, _, rfl, .inr hT.sq, 2, (xs.length : Int), rfl, rfl, decide ((2 : Int) ≤ (xs.length : Int)), rfl, ite2 (fun c1 => ?_) (fun c1 => ?_)⟩
      · have c1 := of_decide_eq_true c1
        refine ⟨(xs.length : Int), 28, rfl, rfl, ?_⟩
        dsimp only
        by_cases c2 : (xs.length : Int) ≤ 28
        · rw [decide_eq_true c2]
          refine ⟨true, rfl, iteF ?_⟩
          refine ⟨.ref a, rfl, a, rfl, ⟨_, hT.sq⟩, fun D nD => ?_⟩
          refine lc_it (walk_tup (xs := xs)) (fun i H3 => Same H H3 ∧ H3 D = some (.lst (((ds.take i).map (cntB ds)).map V.bl))) ⟨same_upd nD, upd_same⟩ (fun i H3 _ pv => (hT.same pv.1).sq) (fun i x H3₀ H3 hi pv yy => ?_) (fun H3 pv => ?_)
          · obtain ⟨rfl, ex⟩ := yy
            obtain ⟨s3, eD⟩ := pv
            obtain ⟨e, ee, he⟩ := (hxs.same s3).get ex
            have put : ∀ bb, bb = cntB ds e → upd H3 D (.lst ((((ds.take i).map (cntB ds)).map V.bl) ++ [V.bl bb])) D = some (.lst (((ds.take (i + 1)).map (cntB ds)).map V.bl)) := fun bb q => by
              rw [upd_same, List.take_add_one, ee, List.map_append, List.map_append, q]
              rfl
            have room : (((ds.take i).map (cntB ds)).map V.bl).length < sizeLine := by
              rw [List.length_map, List.length_map, List.length_take]
              exact small5000 (by omega)
            refine ⟨rfl, yes_ ⟨x, rfl, x, .ty "str", _, _, _, rfl, .ty _, he.ty, kit_S e, isiS e, rfl, ite2 (fun ci => ?_) (fun ci => ?_)⟩⟩
            · refine ⟨.ref a, rfl, ⟨a, _, rfl, hT.same s3⟩, x, rfl, a, x, ds, e, rfl, rfl, (DF.tup (hT.same s3) (hxs.same s3)).dp, he.dp, sh_tup hlay, sh_lay (hlay e (List.mem_of_getElem? ee)), rfl, ?_⟩
              refine ⟨_, eD, room, same_set s3 nD, put _ ?_⟩
              unfold cntB
              rw [ci, Bool.true_and]
              exact decide_eq_decide.mpr ⟨fun z => V.int.inj z, fun z => by rw [z]⟩
            · refine ⟨_, eD, room, same_set s3 nD, put _ ?_⟩
              unfold cntB
              rw [show isiS e = false by simpa using ci, Bool.false_and]
          obtain ⟨s3, eD⟩ := pv
          rw [xl, List.take_length] at eD
          refine ⟨D, _, rfl, SqL.of eD, ?_⟩
          by_cases c3 : (ds.map (cntB ds)).all id = true
          · rw [c3]
            refine ⟨true, rfl, iteF ?_⟩
            obtain ⟨ws, rfl⟩ := str_all c3
            have exs := dt_strs hxs
            subst exs
            have wnd := cnt_nd.mp c3
            rw [List.length_map] at c1 c2
            have hnet4 := hnet.tk (.of s3)
            have hT4 := hT.same s3
            obtain ⟨na, nb, nc, nd, sa, ja, ta, er, _, eb, hsa, _, _, ed, hta⟩ := id hnet4
            refine ⟨.ref r, rfl, r, [.ref na, .ref nb, .ref nc, .ref nd], 1, .ref nb, rfl, rfl, SqT.of er, atI_nat (j := 1) rfl, nb, rfl, ⟨_, eb.sq⟩, fun S nSt => ?_⟩
            have sl := paired_len hsa
            refine lc_it (walk_tup (xs := sa.map V.ref)) (fun i H5 => Same H3 H5 ∧ H5 S = some (.lst (((sts.take i).map (·.1)).map nS))) ⟨same_upd nSt, upd_same⟩ (fun i H5 _ pv => (eb.same pv.1).sq) (fun i v H3₀ H5 hi pv yy => ?_) (fun H5 pv => ?_)
            · obtain ⟨rfl, ex⟩ := yy
              obtain ⟨s5, eS⟩ := pv
              obtain ⟨u, eu, rfl⟩ : ∃ u, sa[i]? = some u ∧ v = .ref u := by
                rw [List.getElem?_map] at ex
                cases h : sa[i]? with
                | none => rw [h] at ex; cases ex
                | some t => rw [h] at ex; exact ⟨t, rfl, (Option.some.inj ex).symm⟩
              obtain ⟨st, est, hu⟩ := paired_get hsa eu
              rw [List.length_map] at hi
              refine ⟨rfl, yes_ ⟨.ref u, rfl, u, _, 0, nS st.1, rfl, rfl, SqT.of (s5 _ _ hu), atI_nat (j := 0) rfl, _, eS, by rw [List.length_map, List.length_map, List.length_take]; exact small5000 (by omega), same_set s5 nSt, ?_⟩⟩
              rw [upd_same, List.take_add_one, est, List.map_append, List.map_append]
              rfl
            obtain ⟨s5, eS⟩ := pv
            rw [List.length_map, sl, List.take_length] at eS
            obtain ⟨x0, e0⟩ : ∃ x, ws[0]? = some x := ⟨_, List.getElem?_eq_getElem (by omega)⟩
            obtain ⟨x1, e1⟩ : ∃ x, ws[ws.length - 1]? = some x := ⟨_, List.getElem?_eq_getElem (by omega)⟩
            have hT5 := hT4.same s5
            have nost : ¬ (x0 ∈ sts.map (·.1) ∧ x1 ∈ sts.map (·.1)) → Q (.bl false) H5 := fun h => no (s3.trans s5) fun ⟨ws', e, _, _, _, _, hst, hto⟩ => by
              injection e with e
              have e := strs_inj e
              subst e
              obtain ⟨⟨y0, f0, m0⟩, y1, f1, m1⟩ := hst
              rw [e0] at f0
              rw [e1] at f1
              rw [← Option.some.inj f0] at m0
              rw [← Option.some.inj f1] at m1
              exact h ⟨m0, m1⟩
            refine ⟨.ref a, rfl, a, ws.map nS, 0, nS x0, rfl, rfl, hT5.sq, atI_nat (j := 0) (by rw [List.getElem?_map, e0]; rfl), .ref S, rfl, S, _, rfl, .inl (SqL.of eS), rfl, flat_nms _, ?_⟩
            refine ⟨!decide (x0 ∈ sts.map (·.1)), congrArg V.bl ((if_pos rfl).trans (congrArg not in_nms)), ite2 (fun m0 => ?_) (fun m0 => ?_)⟩
            · have m0 : x0 ∉ sts.map (·.1) := by simpa using m0
              exact iteT (nost fun z => m0 z.1)
            have m0 : x0 ∈ sts.map (·.1) := by simpa using m0
            refine ⟨.ref a, rfl, 1, rfl, a, ws.map nS, -1, nS x1, rfl, rfl, hT5.sq, at_last e1, .ref S, rfl, S, _, rfl, .inl (SqL.of eS), rfl, flat_nms _, ?_⟩
            refine ⟨!decide (x1 ∈ sts.map (·.1)), congrArg V.bl ((if_pos rfl).trans (congrArg not in_nms)), ite2 (fun m1 => ?_) (fun m1 => ?_)⟩
            · have m1 : x1 ∉ sts.map (·.1) := by simpa using m1
              exact nost fun z => m1 z.2
            have m1 : x1 ∈ sts.map (·.1) := by simpa using m1
            have s05 := s3.trans s5
            refine ⟨.ref a, rfl, a, _, rfl, .inr hT5.sq, (((ws.map nS).length : Nat) : Int), 1, rfl, rfl, _, rfl, ?_, ?_, fun D2 nD2 => ?_⟩
            · rw [List.length_map]
              omega
            · rw [List.length_map]
              omega
            rw [show ((((ws.map nS).length : Nat) : Int) - 1).toNat = ws.length - 1 by rw [List.length_map]; omega]
            have tl : (tiesO tis ws).length = ws.length - 1 := by
              unfold tiesO
              rw [List.length_map, List.length_zip, List.length_drop]
              omega
            refine lc_it walk_range (fun i H6 => Same H5 H6 ∧ H6 D2 = some (.lst (((tiesO tis ws).take i |>.map Option.isSome).map V.bl))) ⟨same_upd nD2, upd_same⟩ (fun _ _ _ _ => trivial) (fun i v H5₀ H6 hi pv yy => ?_) (fun H6 pv => ?_)
            · obtain ⟨rfl, rfl⟩ := yy
              obtain ⟨s6, eD2⟩ := pv
              obtain ⟨x, ex⟩ : ∃ x, ws[i]? = some x := ⟨_, List.getElem?_eq_getElem (by omega)⟩
              obtain ⟨y, ey⟩ : ∃ y, ws[i + 1]? = some y := ⟨_, List.getElem?_eq_getElem (by omega)⟩
              have et : (tiesO tis ws)[i]? = some (tis.find? (isTie x y)) := by
                unfold tiesO
                rw [List.getElem?_map, show (ws.zip (ws.drop 1))[i]? = some (x, y) from List.getElem?_zip_eq_some.mpr ⟨ex, by rw [List.getElem?_drop, Nat.add_comm]; exact ey⟩]
                rfl
              have hT6 := hT5.same s6
              refine ⟨rfl, yes_ ⟨.ref r, rfl, .ref a, rfl, .int (0 + (i : Int)), rfl, a, ws.map nS, 0 + (i : Int), nS x, rfl, rfl, hT6.sq, by rw [Int.zero_add]; exact atI_nat (by rw [List.getElem?_map, ex]; rfl), .ref a, rfl, .int (0 + (i : Int)), rfl, 0 + (i : Int), 1, rfl, rfl, a, ws.map nS, 0 + (i : Int) + 1, nS y, rfl, rfl, hT6.sq, by rw [show (0 : Int) + (i : Int) + 1 = ((i + 1 : Nat) : Int) by omega]; exact atI_nat (by rw [List.getElem?_map, ey]; rfl), r, x, y, ls, sts, jns, tis, rfl, hnet.tk (.of (s05.trans s6)), by omega, fun t ht => ⟨(hti t ht).2.2.1, (hti t ht).2.2.2⟩, fun H7 s7 z => ?_, fun H7 u t s7 z eu => ?_⟩⟩
              all_goals
                refine ⟨rfl, _, s7 _ _ eD2, by rw [List.length_map, List.length_map, List.length_take]; exact small5000 (by omega), same_set (s6.trans s7) nD2, ?_⟩
                rw [upd_same, List.take_add_one, et, z, List.map_append, List.map_append]
                rfl
            obtain ⟨s6, eD2⟩ := pv
            rw [← tl, List.take_length] at eD2
            refine ⟨D2, _, rfl, SqL.of eD2, ?_⟩
            refine q _ _ (s05.trans s6) ⟨fun h => ?_, fun ⟨ws', e, _, _, _, _, _, hto⟩ => ?_⟩
            · have h := List.all_eq_true.mp h
              have hto : ∀ o ∈ tiesO tis ws, o ≠ none := fun o ho z => by
                have := h _ (List.mem_map_of_mem (f := Option.isSome) ho)
                rw [z] at this
                cases this
              have hto := ties_all.mp hto
              exact ⟨ws, rfl, by omega, by omega, way_nms (by omega) (fun t ht => ⟨(hti t ht).1, (hti t ht).2.1⟩) hto, wnd, ⟨⟨x0, e0, m0⟩, x1, e1, m1⟩, hto⟩
            · injection e with e
              have e := strs_inj e
              subst e
              refine List.all_eq_true.mpr fun bb hb => ?_
              obtain ⟨o, ho, rfl⟩ := List.mem_map.mp hb
              have := ties_all.mpr hto o ho
              cases o with
              | none => exact absurd rfl this
              | some t => rfl
          · rw [show (ds.map (cntB ds)).all id = false by simpa using c3]
            exact ⟨false, rfl, iteT (no s3 fun ⟨ws, e, _, _, _, hnd, _⟩ => by
              injection e with e
              rw [e] at c3
              exact c3 (cnt_nd.mpr hnd))⟩
        · rw [decide_eq_false c2]
          exact ⟨false, rfl, iteT (nolen fun z => c2 (by omega))⟩
      · have c1 : ¬ (2 : Int) ≤ (xs.length : Int) := fun z => c1 (decide_eq_true z)
        exact ⟨false, rfl, iteT (nolen fun z => c1 (by omega))⟩
    · have h1 : isiT d = false := by simpa using ht
      rw [h1]
      exact iteT (iteT (no (.refl _) fun ⟨ws, e, _⟩ => by rw [e] at h1; cases h1))
end
end Th
namespace Th
open PySem PySem.Spec PyProof.Rows L2
/-! a way bent -/
theorem cut_wp (ws : List Nm) (lo hi : Option Int) : ∃ ws' : List Nm, cutV (ws.map nS) lo hi = ws'.map nS ∧ ws'.length ≤ ws.length ∧ ∀ z ∈ ws', z ∈ ws := by
  unfold cutV
  refine ⟨(ws.drop (HT.sIx (ws.map nS).length 0 lo)).take (HT.sIx (ws.map nS).length (ws.map nS).length hi - HT.sIx (ws.map nS).length 0 lo), by rw [List.map_take, List.map_drop], ?_, fun z hz => List.mem_of_mem_drop (List.mem_of_mem_take hz)⟩
  rw [List.length_take, List.length_drop]
  omega
/-- a tuple's items that may stand in a thing -/
def Fine (S : Addr → Prop) (H : Hp) (xs : List V) : Prop := ∃ ds, DFAll S H xs ds ∧ ∀ e ∈ ds, Lay e
theorem Fine.nms {S : Addr → Prop} {H : Hp} : ∀ {ws : List Nm}, (∀ z ∈ ws, IsNm z) → Fine S H (ws.map nS)
  | [], _ => ⟨[], .nil, fun e he => (by cases he)⟩
  | z :: r, h => by
    obtain ⟨ds, h1, h2⟩ := Fine.nms (S := S) (H := H) (ws := r) fun x hx => h x (List.mem_cons_of_mem _ hx)
    exact ⟨.str (SX.S z) :: ds, .cons (.str _) h1, fun e he => (List.mem_cons.mp he).elim (fun q => by rw [q]; exact lay_nm (h z (List.mem_cons_self ..))) (h2 e)⟩
theorem Fine.cut {S : Addr → Prop} {H : Hp} {ws : List Nm} (h : ∀ z ∈ ws, IsNm z) (lo hi : Option Int) : Fine S H (cutV (ws.map nS) lo hi) := by
  obtain ⟨ws', e, _, m⟩ := cut_wp ws lo hi
  rw [e]
  exact .nms fun z hz => h z (m z hz)
theorem Fine.app {S : Addr → Prop} {H : Hp} {xs ys : List V} (h1 : Fine S H xs) (h2 : Fine S H ys) : Fine S H (xs ++ ys) := by
  obtain ⟨as, a1, a2⟩ := h1
  obtain ⟨bs, b1, b2⟩ := h2
  exact ⟨as ++ bs, a1.app b1, fun e he => (List.mem_append.mp he).elim (a2 e) (b2 e)⟩
theorem Fine.one {S : Addr → Prop} {H : Hp} {v : V} {d : PyData} (h : DF S H v d) (l : Lay d) : Fine S H [v] := ⟨[d], .cons h .nil, fun e he => by rw [List.mem_singleton.mp he]; exact l⟩
theorem Fine.td {S : Addr → Prop} {H : Hp} {a : Addr} {xs : List V} (h : Fine S H xs) (t : TpF H a xs) (l : xs.length ≤ 60) : ∃ d, TD S H (.ref a) d := by
  obtain ⟨ds, h1, h2⟩ := h
  exact ⟨.tuple ds, .tup t h1, fun es e => by
    injection e with e
    subst e
    exact ⟨by rw [← h1.len]; exact l, h2⟩⟩
theorem cut_le (ws : List Nm) (lo hi : Option Int) : (cutV (ws.map nS) lo hi).length ≤ ws.length := by
  obtain ⟨ws', e, l, _⟩ := cut_wp ws lo hi
  rw [e, List.length_map]
  exact l
/-- a drawn net with its way -/
structure NW (sts : List (Nm × Nm)) (jns : List (Nm × List Nm)) (tis : List Ti) (ws : List Nm) : Prop where
  way : ∃ ts, WayOk tis ws ts
  ste : StE sts ws
  nd : ws.Nodup
  s1 : 1 ≤ sts.length
  s100 : sts.length ≤ 100
  snm : ∀ s ∈ sts, IsNm s.1
  jnm : ∀ s ∈ jns, IsNm s.1
  j100 : jns.length ≤ 100
section
variable {P : Program} {w : World} {K : PySem.W.Frag} {mg : Str → Option Value} {base : Heap} {k : Nat}
def sp_l_bent : Sp := fun vs H Q _ => ∃ (p r wy : Addr) (ls : List Nm) (sts : List (Nm × Nm)) (jns : List (Nm × List Nm)) (tis : List Ti) (ws : List Nm), vs = [.ref p, .ref r, .ref wy] ∧ Bag H p ∧ NetAt H r ls sts jns tis ∧ TpF H wy (ws.map nS) ∧ NW sts jns tis ws ∧
  ∀ H' v d, Keep p H H' → Bag H' p → TD (fun a => H a = none) H' v d → Q v H'
set_option maxHeartbeats 16000000 in
theorem ok_l_bent (T : Defs K mg) : FnOk P w K mg base CX0 (k + 3) T.a_l_bent T.d_l_bent ["_law_bag_here", "_law_net_here", "_law_way"] sp_l_bent := by
  have G_l_take : FnOk P w K mg base CX0 (k + 2) _ _ _ _ := ok_l_take (k := k + 1) T
  have G_l_odd : FnOk P w K mg base CX0 (k + 2) _ _ _ _ := ok_l_odd T
  refine T.F_l_bent.ok sc_l_bent (fun vs H Q E h => ?_) (fun cdv A outer s H vs Q E hr h => ?_)
  · obtain ⟨p, r, wy, ls, sts, jns, tis, ws, rfl, _⟩ := h
    rfl
  · obtain ⟨p, r, wy, ls, sts, jns, tis, ws, rfl, b, hnet, hwy, hN, q⟩ := h
    refine ⟨_, PSs.nox
(pss_cons (ps_set (i := 3) sc_l_bent.nd rfl (.inl rfl) (pe_call G_l_take hr (by rfl) T.g_l_take T.F_l_take.kp T.b_l_take .nil pass0 (pa_cons (pv 0) (pa_cons (pe_int) pa_nil))))
    (pss_cons (ps_set (i := 4) sc_l_bent.nd rfl (.inl rfl) (pe_call G_l_take hr (by rfl) T.g_l_take T.F_l_take.kp T.b_l_take .nil pass0 (pa_cons (pv 0) (pa_cons (pe_callB (r := rLenS K) call_lenS (by rfl) T.z_len (by decide +kernel) (pa_cons (pv 2) pa_nil)) pa_nil))))
    (pss_cons (ps_setLc (i := 5) (own := [("_law_one", 7)]) (g := gName 7) rfl sc_l_bent.nd rfl rfl (sw_true rfl rfl rfl (by decide +kernel)) (pi_tup (pe_op Tk.op_catK (pe_ix (r := rIxT K) ix_tup (pv 1) (pe_int) (fun _ _ => rfl)) (pe_ix (r := rIxT K) ix_tup (pv 1) (pe_int) (fun _ _ => rfl)))) (blkOk_by (N := N_l_bent) (sc := defScope s_l_bent) (by decide +kernel)) (fun _ _ _ _ _ => (pg_name (i := 7) sc_l_bent.nd rfl (.inl rfl))) (fun _ _ _ _ _ => pts_nil) (fun _ _ _ _ _ => (pe_ix (r := rIxT K) ix_tup (pv 7) (pe_int) (fun _ _ => rfl))))
    (pss_cons (ps_set (i := 6) sc_l_bent.nd rfl (.inl rfl) (pe_ix (r := rIxL K) ix_list (pe_lst (pa_cons (pe_ix (r := rIxL K) ix_list (pv 5) (pe_call G_l_take hr (by rfl) T.g_l_take T.F_l_take.kp T.b_l_take .nil pass0 (pa_cons (pv 0) (pa_cons (pe_callB (r := rLenS K) call_lenS (by rfl) T.z_len (by decide +kernel) (pa_cons (pv 5) pa_nil)) pa_nil))) (fun _ _ => rfl)) (pa_cons (pe_call G_l_odd hr (by rfl) T.g_l_odd T.F_l_odd.kp T.b_l_odd .nil pass0 (pa_cons (pv 0) pa_nil)) pa_nil))) (pe_callTy call_int1 (by rfl) T.z_int (by decide +kernel) (pa_cons (pe_cmpR op_eq (pe_call G_l_take hr (by rfl) T.g_l_take T.F_l_take.kp T.b_l_take .nil pass0 (pa_cons (pv 0) (pa_cons (pe_int) pa_nil))) (pe_int) (nomark _)) pa_nil)) (fun _ _ => rfl)))
    (pss_cons (ps_if (pt_cmpR op_eq (pv 3) (pe_int) (nomark _))
      (pss_one (ps_ret (pe_op Tk.op_catK (pe_slice (r := Tk.rSlK K) Tk.sl_tupK (pv 2) po_none (po_some (pv 4))) (pe_slice (r := Tk.rSlK K) Tk.sl_tupK (pv 2) (po_some (pe_op op_add (pv 4) (pe_int))) po_none))))
      pss_nil)
    (pss_cons (ps_if (pt_cmpR op_eq (pv 3) (pe_int) (nomark _))
      (pss_one (ps_ret (pe_op Tk.op_catK (pe_op Tk.op_catK (pe_slice (r := Tk.rSlK K) Tk.sl_tupK (pv 2) po_none (po_some (pv 4))) (Tk.pe_tupK (pa_cons (pv 6) pa_nil))) (pe_slice (r := Tk.rSlK K) Tk.sl_tupK (pv 2) (po_some (pv 4)) po_none))))
      pss_nil)
    (pss_cons (ps_if (pt_cmpR op_eq (pv 3) (pe_int) (nomark _))
      (pss_one (ps_ret (pe_op Tk.op_catK (pe_op Tk.op_catK (pe_slice (r := Tk.rSlK K) Tk.sl_tupK (pv 2) po_none (po_some (pv 4))) (Tk.pe_tupK (pa_cons (pe_ix (r := rIxT K) ix_tup (pv 2) (pv 4) (fun _ _ => rfl)) pa_nil))) (pe_slice (r := Tk.rSlK K) Tk.sl_tupK (pv 2) (po_some (pv 4)) po_none))))
      pss_nil)
    (pss_cons (ps_if (pt_cmpR op_eq (pv 3) (pe_int) (nomark _))
      (pss_one (ps_ret (pe_op Tk.op_catK (pe_op Tk.op_catK (pe_slice (r := Tk.rSlK K) Tk.sl_tupK (pv 2) po_none (po_some (pv 4))) (Tk.pe_tupK (pa_cons (pe_ix (r := rIxT K) ix_tup (pv 2) (pe_op op_sub (pv 4) (pe_int)) (fun _ _ => rfl)) pa_nil))) (pe_slice (r := Tk.rSlK K) Tk.sl_tupK (pv 2) (po_some (pe_op op_add (pv 4) (pe_int))) po_none))))
      pss_nil)
    (pss_cons (ps_if (pt_cmpR op_eq (pv 3) (pe_int) (nomark _))
      (pss_one (ps_ret (pe_ix (r := rIxL K) ix_list (pe_lst (pa_cons (pe_callTy call_list_of (by rfl) T.z_list (by decide +kernel) (pa_cons (pv 2) pa_nil)) (pa_cons (pe_op Tk.op_catK (pv 2) (Tk.pe_rev2K (pv 2))) (pa_cons (pe_call G_l_odd hr (by rfl) T.g_l_odd T.F_l_odd.kp T.b_l_odd .nil pass0 (pa_cons (pv 0) pa_nil)) pa_nil)))) (pe_call G_l_take hr (by rfl) T.g_l_take T.F_l_take.kp T.b_l_take .nil pass0 (pa_cons (pv 0) (pa_cons (pe_int) pa_nil))) (fun _ _ => rfl))))
      pss_nil)
    (pss_cons (ps_if (pt_cmpR op_eq (pv 3) (pe_int) (nomark _))
      (pss_one (ps_ret (pe_slice (r := Tk.rSlK K) Tk.sl_tupK (pv 2) (po_some (pv 4)) po_none)))
      pss_nil)
    (pss_cons (ps_if (pt_cmpR op_eq (pv 3) (pe_int) (nomark _))
      (pss_one (ps_ret (pe_slice (r := Tk.rSlK K) Tk.sl_tupK (pv 2) po_none (po_some (pe_op op_add (pv 4) (pe_int))))))
      pss_nil)
    (pss_one (ps_ret (pe_op Tk.op_catK (pe_op Tk.op_catK (pe_slice (r := Tk.rSlK K) Tk.sl_tupK (pv 2) po_none (po_some (pv 4))) (Tk.pe_tupK (pa_cons (pv 6) pa_nil))) (pe_slice (r := Tk.rSlK K) Tk.sl_tupK (pv 2) (po_some (pe_op op_add (pv 4) (pe_int))) po_none)))))))))))))))
      , ?_⟩
    obtain ⟨ts, hw⟩ := hN.way
    have l2 := hw.l2
    have l28 := hw.l28
    refine ⟨.ref p, rfl, p, 8, rfl, b, by decide, by decide, fun H1 d1 k1 b1 d10 d11 => ?_⟩
    have hwy1 := hwy.keep k1 b
    refine ⟨.ref p, rfl, .ref wy, rfl, wy, _, rfl, .inr hwy1.sq, p, (ws.length : Nat), by rw [List.length_map]; rfl, b1, by omega, by omega, fun H2 d2 k2 b2 d20 d21 => ?_⟩
    obtain ⟨at_, rfl⟩ : ∃ n : Nat, d2 = (n : Int) := ⟨d2.toNat, by omega⟩
    have k02 := k1.trans k2
    have hwy2 := hwy1.keep k2 b1
    have hnet2 := hnet.tk (.keep k02 b)
    obtain ⟨na, nb, nc, nd, sa, ja, ta, er, _, eb, hsa, ec, hja, _, _⟩ := id hnet2
    have sl := paired_len hsa
    have jl := paired_len hja
    have s1 := hN.s1
    have s100 := hN.s100
    have j100 := hN.j100
    refine ⟨.ref r, rfl, r, [.ref na, .ref nb, .ref nc, .ref nd], 1, .ref nb, rfl, rfl, SqT.of er, atI_nat (j := 1) rfl, .ref r, rfl, r, [.ref na, .ref nb, .ref nc, .ref nd], 2, .ref nc, rfl, rfl, SqT.of er, atI_nat (j := 2) rfl, nb, nc, sa.map V.ref, ja.map V.ref, rfl, rfl, eb, ec, ?_, fun c H3 s3 ec3 => ?_⟩
    · rw [List.length_map, List.length_map]
      exact Nat.le_of_lt (small5000 (by omega))
    rw [← List.map_append] at ec3
    have each : ∀ u ∈ sa ++ ja, ∃ z y, H3 u = some (.tup [nS z, y]) ∧ IsNm z := fun u hu => by
      rcases List.mem_append.mp hu with h | h
      · obtain ⟨i, hi⟩ := List.getElem?_of_mem h
        obtain ⟨st, e, hh⟩ := paired_get hsa hi
        exact ⟨_, _, s3 _ _ hh, hN.snm _ (List.mem_of_getElem? e)⟩
      · obtain ⟨i, hi⟩ := List.getElem?_of_mem h
        obtain ⟨st, e, bb, hh, _⟩ := paired_get hja hi
        exact ⟨_, _, s3 _ _ hh, hN.jnm _ (List.mem_of_getElem? e)⟩
    refine ⟨c, rfl, ⟨_, ec3.sq⟩, fun G nG => ?_⟩
    have ll : (sa ++ ja).length ≤ 200 := by rw [List.length_append]; omega
    refine lc_it (walk_tup (xs := (sa ++ ja).map V.ref)) (fun i H4 => Same H3 H4 ∧ ∃ zs : List Nm, H4 G = some (.lst (zs.map nS)) ∧ zs.length = i ∧ ∀ z ∈ zs, IsNm z) ⟨same_upd nG, [], upd_same, rfl, fun z hz => (by cases hz)⟩ (fun i H4 _ pv => (ec3.same pv.1).sq) (fun i v H3₀ H4 hi pv yy => ?_) (fun H4 pv => ?_)
    · obtain ⟨rfl, ex⟩ := yy
      obtain ⟨s4, zs, eG, zl, hzs⟩ := pv
      rw [List.length_map] at hi
      obtain ⟨u, eu, rfl⟩ : ∃ u, (sa ++ ja)[i]? = some u ∧ v = .ref u := by
        rw [List.getElem?_map] at ex
        cases h : (sa ++ ja)[i]? with
        | none => rw [h] at ex; cases ex
        | some t => rw [h] at ex; exact ⟨t, rfl, (Option.some.inj ex).symm⟩
      obtain ⟨z, y, hu, hz⟩ := each u (List.mem_of_getElem? eu)
      refine ⟨rfl, yes_ ⟨.ref u, rfl, u, _, 0, nS z, rfl, rfl, SqT.of (s4 _ _ hu), atI_nat (j := 0) rfl, _, eG, by rw [List.length_map]; exact small5000 (by omega), same_set s4 nG, zs ++ [z], by rw [upd_same, List.map_append]; rfl, by rw [List.length_append, zl]; rfl, fun x hx => ?_⟩⟩
      rcases List.mem_append.mp hx with h | h
      · exact hzs x h
      · rw [List.mem_singleton.mp h]
        exact hz
    obtain ⟨s4, zs, eG, zl, hzs⟩ := pv
    rw [List.length_map] at zl
    have zl1 : 1 ≤ zs.length := by rw [zl, List.length_append]; omega
    have k04 : Keep p H H4 := k02.trans (.of (s3.trans s4))
    have b4 := b2.keep (s3.trans s4)
    have hwy4 := (hwy2.same s3).same s4
    have nGp : G ≠ p := (b2.keep s3).ne nG
    clear each
    -- other
    refine ⟨.ref G, rfl, .ref p, rfl, .ref G, rfl, G, _, rfl, .inl (SqL.of eG), p, (zs.length : Nat), by rw [List.length_map]; rfl, b4, by omega, by omega, fun H5 d5 k5 b5 d50 d51 => ?_⟩
    obtain ⟨i5, rfl⟩ : ∃ n : Nat, d5 = (n : Int) := ⟨d5.toNat, by omega⟩
    have hi5 : i5 < zs.length := by omega
    refine ⟨G, _, (i5 : Int), nS zs[i5], rfl, rfl, SqL.of (k5 _ _ nGp eG), atI_nat (by rw [List.getElem?_map, List.getElem?_eq_getElem hi5]; rfl), .ref p, rfl, p, rfl, b5, fun H6 ov od k6 b6 hov _ lov => ⟨two_sz, fun M nM => ?_⟩⟩
    have z5 := hzs _ (List.getElem_mem hi5)
    generalize zs[i5] = zo at z5 nM
    have sM := same_upd (o := .lst [nS zo, ov]) nM
    have nMp := b6.ne nM
    refine ⟨.ref p, rfl, p, 4, rfl, b6.keep sM, by decide, by decide, fun H7 d7 k7 b7 d70 d71 => ?_⟩
    have k47 : Keep p H4 H7 := (k5.trans k6).trans ((Keep.of sM).trans k7)
    have eM7 := k7 _ _ nMp upd_same
    have hov := hov.mono (S' := fun a => H a = none) (fun a n => (k04.trans k5).free b n b5) (fun _ _ _ e => e) fun _ _ t => t
    have hov7 := (hov.same sM).keep k7 (b6.keep sM) fun a n => b.ne n
    have hwy7 := hwy4.keep k47 b4
    have k07 := k04.trans k47
    have nm := hw.nm
    obtain ⟨v', d', hat, hv', lv'⟩ : ∃ v' d', atI [nS zo, ov] (if decide (V.int d7 = V.int 0) = true then 1 else 0) = some v' ∧ DF (fun a => H a = none) H7 v' d' ∧ Lay d' := by
      by_cases c : decide (V.int d7 = V.int 0) = true
      · rw [if_pos c]
        exact ⟨_, _, atI_nat (j := 1) rfl, hov7, lov⟩
      · rw [if_neg c]
        exact ⟨_, _, atI_nat (j := 0) rfl, .str _, lay_nm z5⟩
    refine ⟨rfl, .inr ⟨_, rfl, M, _, _, v', rfl, rfl, SqL.of eM7, hat, ?_⟩⟩
    clear hat
    have fin : ∀ {H' : Hp} {c : Addr} {xs : List V}, Same H7 H' → TpF H' c xs → Fine (fun a => H a = none) H' xs → xs.length ≤ 60 → Q (.ref c) H' := fun s t f l => let ⟨d, h⟩ := f.td t l; q _ _ d (k07.trans (.of s)) (b7.keep s) h
    have szc : ∀ lo hi, (cutV (ws.map nS) lo hi).length ≤ 28 := fun lo hi => Nat.le_trans (cut_le ws lo hi) l28
    have z60 : 60 ≤ sizeLine := by decide
    have cutF : ∀ {H' : Hp} lo hi, Fine (fun a => H a = none) H' (cutV (ws.map nS) lo hi) := fun lo hi => Fine.cut nm lo hi
    have atw : (ws.map nS)[at_]? = some (nS (ws[at_]'(by omega))) := by rw [List.getElem?_map, List.getElem?_eq_getElem (by omega)]; rfl
    have naw : IsNm (ws[at_]'(by omega)) := nm _ (List.getElem_mem _)
    generalize ws[at_]'(by omega) = zat at atw naw
    obtain ⟨zb, hzb, nzb⟩ : ∃ zb, atI (ws.map nS) ((at_ : Int) - 1) = some (nS zb) ∧ IsNm zb := by
      by_cases c : at_ = 0
      · subst c
        have e1 : ws[ws.length - 1]? = some (ws[ws.length - 1]'(by omega)) := List.getElem?_eq_getElem (by omega)
        exact ⟨_, at_last e1, nm _ (List.getElem_mem _)⟩
      · refine ⟨ws[at_ - 1]'(by omega), ?_, nm _ (List.getElem_mem _)⟩
        rw [show (at_ : Int) - 1 = ((at_ - 1 : Nat) : Int) by omega]
        exact atI_nat (by rw [List.getElem?_map, List.getElem?_eq_getElem (by omega)]; rfl)
    refine ⟨.int d1, rfl, rfl, _, rfl, ite2 (fun c => ?_) (fun c => ?_)⟩
    · refine ⟨.ref wy, rfl, .int at_, rfl, at_, rfl, wy, _, rfl, hwy7, fun c1 H8 s8 hc1 => ⟨.ref wy, rfl, .int at_, rfl, _, 1, rfl, rfl, _, rfl, wy, _, rfl, hwy7.same s8, fun c2 H9 s9 hc2 => ⟨c1, c2, _, _, rfl, rfl, hc1.same s9, hc2, ?_, fun c3 H10 s10 hc3 => fin (s8.trans (s9.trans s10)) hc3 ((cutF _ _).app (cutF _ _)) ?_⟩⟩⟩
      · have h1 := szc none (some (at_ : Int))
        have h2 := szc (some ((at_ : Int) + 1)) none
        omega
      · rw [List.length_append]
        have h1 := szc none (some (at_ : Int))
        have h2 := szc (some ((at_ : Int) + 1)) none
        omega
    refine ⟨.int d1, rfl, rfl, _, rfl, ite2 (fun c => ?_) (fun c => ?_)⟩
    · refine ⟨.ref wy, rfl, .int at_, rfl, at_, rfl, wy, _, rfl, hwy7, fun c1 H8 s8 hc1 => ⟨v', rfl, by show 1 ≤ sizeLine; decide, fun u H9 nu s9 hu _ => ⟨c1, u, _, _, rfl, rfl, hc1.same s9, hu, ?_, fun c3 H10 s10 hc3 => ⟨.ref wy, rfl, .int at_, rfl, at_, rfl, wy, _, rfl, ((hwy7.same s8).same s9).same s10, fun c2 H11 s11 hc2 => ⟨c3, c2, _, _, rfl, rfl, hc3.same s11, hc2, ?_, fun c4 H12 s12 hc4 => ?_⟩⟩⟩⟩⟩
      · have h1 := szc none (some (at_ : Int))
        rw [List.length_singleton]
        omega
      · rw [List.length_append, List.length_singleton]
        have h1 := szc none (some (at_ : Int))
        have h2 := szc (some (at_ : Int)) none
        omega
      · have s7 := s8.trans (s9.trans (s10.trans (s11.trans s12)))
        refine fin s7 hc4 (((cutF _ _).app (.one (hv'.same s7) lv')).app (cutF _ _)) ?_
        rw [List.length_append, List.length_append, List.length_singleton]
        have h1 := szc none (some (at_ : Int))
        have h2 := szc (some (at_ : Int)) none
        omega
    refine ⟨.int d1, rfl, rfl, _, rfl, ite2 (fun c => ?_) (fun c => ?_)⟩
    · refine ⟨.ref wy, rfl, .int at_, rfl, at_, rfl, wy, _, rfl, hwy7, fun c1 H8 s8 hc1 => ⟨.ref wy, rfl, .int at_, rfl, wy, _, at_, nS zat, rfl, rfl, (hwy7.same s8).sq, atI_nat atw, by show 1 ≤ sizeLine; decide, fun u H9 nu s9 hu _ => ⟨c1, u, _, _, rfl, rfl, hc1.same s9, hu, ?_, fun c3 H10 s10 hc3 => ⟨.ref wy, rfl, .int at_, rfl, at_, rfl, wy, _, rfl, ((hwy7.same s8).same s9).same s10, fun c2 H11 s11 hc2 => ⟨c3, c2, _, _, rfl, rfl, hc3.same s11, hc2, ?_, fun c4 H12 s12 hc4 => ?_⟩⟩⟩⟩⟩
      · have h1 := szc none (some (at_ : Int))
        rw [List.length_singleton]
        omega
      · rw [List.length_append, List.length_singleton]
        have h1 := szc none (some (at_ : Int))
        have h2 := szc (some (at_ : Int)) none
        omega
      · have s7 := s8.trans (s9.trans (s10.trans (s11.trans s12)))
        refine fin s7 hc4 (((cutF _ _).app (.one (.str _) (lay_nm naw))).app (cutF _ _)) ?_
        rw [List.length_append, List.length_append, List.length_singleton]
        have h1 := szc none (some (at_ : Int))
        have h2 := szc (some (at_ : Int)) none
        omega
    refine ⟨.int d1, rfl, rfl, _, rfl, ite2 (fun c => ?_) (fun c => ?_)⟩
    · refine ⟨.ref wy, rfl, .int at_, rfl, at_, rfl, wy, _, rfl, hwy7, fun c1 H8 s8 hc1 => ⟨.ref wy, rfl, .int at_, rfl, _, 1, rfl, rfl, wy, _, (at_ : Int) - 1, nS zb, rfl, rfl, (hwy7.same s8).sq, hzb, by show 1 ≤ sizeLine; decide, fun u H9 nu s9 hu _ => ⟨c1, u, _, _, rfl, rfl, hc1.same s9, hu, ?_, fun c3 H10 s10 hc3 => ⟨.ref wy, rfl, .int at_, rfl, _, 1, rfl, rfl, _, rfl, wy, _, rfl, ((hwy7.same s8).same s9).same s10, fun c2 H11 s11 hc2 => ⟨c3, c2, _, _, rfl, rfl, hc3.same s11, hc2, ?_, fun c4 H12 s12 hc4 => ?_⟩⟩⟩⟩⟩
      · have h1 := szc none (some (at_ : Int))
        rw [List.length_singleton]
        omega
      · rw [List.length_append, List.length_singleton]
        have h1 := szc none (some (at_ : Int))
        have h2 := szc (some ((at_ : Int) + 1)) none
        omega
      · have s7 := s8.trans (s9.trans (s10.trans (s11.trans s12)))
        refine fin s7 hc4 (((cutF _ _).app (.one (.str _) (lay_nm nzb))).app (cutF _ _)) ?_
        rw [List.length_append, List.length_append, List.length_singleton]
        have h1 := szc none (some (at_ : Int))
        have h2 := szc (some ((at_ : Int) + 1)) none
        omega
    refine ⟨.int d1, rfl, rfl, _, rfl, ite2 (fun c => ?_) (fun c => ?_)⟩
    · refine ⟨.ref wy, rfl, wy, _, rfl, .inr hwy7.sq, fun l nl => ?_⟩
      have nlp : l ≠ p := b7.ne nl
      have nl0 : H l = none := k07.free b nl b7
      have s8 := same_upd (o := .lst (ws.map nS)) nl
      have el8 : (upd H7 l (.lst (ws.map nS))) l = some (.lst (ws.map nS)) := upd_same
      generalize upd H7 l (.lst (ws.map nS)) = H8 at s8 el8 ⊢
      refine ⟨.ref wy, rfl, .ref wy, rfl, wy, _, rfl, hwy7.same s8, by rw [List.length_map]; exact l2, fun c1 H9 n1 s9 hc1 => ?_⟩
      have rl : ((ws.map nS).take ((ws.map nS).length - 1)).reverse.length ≤ 28 := by
        rw [List.length_reverse, List.length_take, List.length_map]
        omega
      have wl28 : (ws.map nS).length ≤ 28 := by rw [List.length_map]; exact l28
      have rF : ∀ {H' : Hp}, Fine (fun a => H a = none) H' ((ws.map nS).take ((ws.map nS).length - 1)).reverse := fun {H'} => by
        rw [← List.map_take, ← List.map_reverse]
        exact .nms fun z hz => nm z (List.mem_of_mem_take (List.mem_reverse.mp hz))
      refine ⟨wy, c1, _, _, rfl, rfl, (hwy7.same s8).same s9, hc1, by have h1 := rl; have h2 := wl28; omega, fun c2 H10 s10 hc2 => ?_⟩
      have s710 := s8.trans (s9.trans s10)
      refine ⟨.ref p, rfl, p, rfl, b7.keep s710, fun H11 v d k11 b11 hv okd layd => ⟨by show 3 ≤ sizeLine; decide, fun M2 nM2 => ?_⟩⟩
      have sM2 := same_upd (o := .lst [.ref l, .ref c2, v]) nM2
      have nM2p := b11.ne nM2
      have b10' := b7.keep s710
      have hv := hv.mono (S' := fun a => H a = none) (fun a n => (k07.trans (.of s710)).free b n b10') (fun _ _ _ e => e) fun _ _ t => t
      refine ⟨.ref p, rfl, p, 3, rfl, b11.keep sM2, by decide, by decide, fun H12 dd k12 b12 d0 d1 => ?_⟩
      have b10 := b7.keep s710
      have b11M := b11.keep sM2
      have k712 : Keep p H10 H12 := k11.trans ((Keep.of sM2).trans k12)
      have e12 := k12 _ _ nM2p upd_same
      have k0 : Keep p H H12 := k07.trans ((Keep.of s710).trans k712)
      by_cases c0 : dd = 0
      · subst c0
        refine ⟨M2, _, 0, .ref l, rfl, rfl, SqL.of e12, atI_nat (j := 0) rfl, ?_⟩
        obtain ⟨ds, f1, _⟩ := Fine.nms (S := fun a => H a = none) (H := H12) nm
        exact q _ _ (.list ds) k0 b12 ⟨.lst nl0 (k712 _ _ nlp (s10 _ _ (s9 _ _ el8))) f1, fun es e => (by cases e)⟩
      by_cases c1' : dd = 1
      · subst c1'
        refine ⟨M2, _, 1, .ref c2, rfl, rfl, SqL.of e12, atI_nat (j := 1) rfl, ?_⟩
        obtain ⟨d, h⟩ := ((Fine.nms nm).app rF).td (S := fun a => H a = none) (H := H12) (hc2.keep k712 b10) (by rw [List.length_append]; have h1 := rl; have h2 := wl28; omega)
        exact q _ _ d k0 b12 h
      · have : dd = 2 := by omega
        subst this
        refine ⟨M2, _, 2, v, rfl, rfl, SqL.of e12, atI_nat (j := 2) rfl, ?_⟩
        exact q _ _ d k0 b12 ⟨(hv.same sM2).keep k12 b11M fun a n => b.ne n, okd⟩
    refine ⟨.int d1, rfl, rfl, _, rfl, ite2 (fun c => ?_) (fun c => ?_)⟩
    · exact ⟨.ref wy, rfl, .int at_, rfl, at_, rfl, wy, _, rfl, hwy7, fun c1 H8 s8 hc1 => fin s8 hc1 (cutF _ _) (by have := szc (some (at_ : Int)) none; omega)⟩
    refine ⟨.int d1, rfl, rfl, _, rfl, ite2 (fun c => ?_) (fun c => ?_)⟩
    · exact ⟨.ref wy, rfl, .int at_, rfl, _, 1, rfl, rfl, _, rfl, wy, _, rfl, hwy7, fun c1 H8 s8 hc1 => fin s8 hc1 (cutF _ _) (by have := szc none (some ((at_ : Int) + 1)); omega)⟩
    · refine ⟨.ref wy, rfl, .int at_, rfl, at_, rfl, wy, _, rfl, hwy7, fun c1 H8 s8 hc1 => ⟨v', rfl, by show 1 ≤ sizeLine; decide, fun u H9 nu s9 hu _ => ⟨c1, u, _, _, rfl, rfl, hc1.same s9, hu, ?_, fun c3 H10 s10 hc3 => ⟨.ref wy, rfl, .int at_, rfl, _, 1, rfl, rfl, _, rfl, wy, _, rfl, ((hwy7.same s8).same s9).same s10, fun c2 H11 s11 hc2 => ⟨c3, c2, _, _, rfl, rfl, hc3.same s11, hc2, ?_, fun c4 H12 s12 hc4 => ?_⟩⟩⟩⟩⟩
      · have h1 := szc none (some (at_ : Int))
        rw [List.length_singleton]
        omega
      · rw [List.length_append, List.length_singleton]
        have h1 := szc none (some (at_ : Int))
        have h2 := szc (some ((at_ : Int) + 1)) none
        omega
      · have s7 := s8.trans (s9.trans (s10.trans (s11.trans s12)))
        refine fin s7 hc4 (((cutF _ _).app (.one (hv'.same s7) lv')).app (cutF _ _)) ?_
        rw [List.length_append, List.length_append, List.length_singleton]
        have h1 := szc none (some (at_ : Int))
        have h2 := szc (some ((at_ : Int) + 1)) none
        omega
end
end Th
namespace Th
open PySem PySem.Spec PyProof.Rows L2
/-! the longest way -/
theorem net_nw {ls zs : List Nm} {qs : List (List Nat)} {J : Nat} {tis rws : List Ti} {sts : List (Nm × Nm)} {jns : List (Nm × List Nm)} (h : NetOk ls zs qs J tis) (pS : sts.Perm ((zs.zip qs).filterMap (stOf ls))) (pJ : jns.Perm ((zs.zip qs).filterMap (jnOf ls))) (pR : rws.Perm tis) : NW sts jns rws (zs.take (J + 2)) := by
  obtain ⟨h1, h2, h3⟩ := net_st h pS
  have hl := h.q.len
  have mem : ∀ y ∈ (zs.zip qs).filterMap (jnOf ls), IsNm y.1 := fun y hy => by
    obtain ⟨x, hx, ex⟩ := List.mem_filterMap.mp hy
    unfold jnOf at ex
    split at ex
    · cases ex
    · have := Option.some.inj ex
      rw [← this]
      exact h.znm _ (List.of_mem_zip hx).1
  refine ⟨net_way h pR, net_ste h pS, h.znd.sublist (List.take_sublist ..), h1, h2, h3, fun s hs => mem s (pJ.mem_iff.mp hs), ?_⟩
  rw [pJ.length_eq]
  refine Nat.le_trans (List.length_filterMap_le ..) ?_
  rw [List.length_zip]
  have := h.lz
  have := h.q.most
  omega
def lnm (s : String) : Nm := (Str.ofString s).cps.toList
def longS : List (Nm × Nm) := (List.range 16).map fun i => ([115, 97 + i], lnm "one")
def longJ : List (Nm × List Nm) := (List.range 12).map fun i => ([106, 97 + i], [lnm "one", lnm "two"])
def longW : List Nm := [[115, 97]] ++ longJ.map (·.1) ++ (longS.drop 1).map (·.1)
theorem longW_len : longW.length = 28 := by decide +kernel
theorem longW_nd : longW.Nodup := by decide +kernel
theorem longW_nm : ∀ z ∈ longW, IsNm z := fun z hz => nmB_iff.mp ((List.all_eq_true.mp (by decide +kernel : longW.all nmB = true)) z hz)
theorem longS_nm : ∀ s ∈ longS, IsNm s.1 := fun z hz => nmB_iff.mp ((List.all_eq_true.mp (by decide +kernel : (longS.all fun s => nmB s.1) = true)) z hz)
theorem longJ_nm : ∀ s ∈ longJ, IsNm s.1 := fun z hz => nmB_iff.mp ((List.all_eq_true.mp (by decide +kernel : (longJ.all fun s => nmB s.1) = true)) z hz)
/-- the ties of the longest way -/
def LongT (tis : List Ti) : Prop := ∃ cs : List Nat, cs.length = 27 ∧ (∀ c ∈ cs, c ≤ 9999) ∧ tis = (List.range 27).map fun i => ⟨longW.getD i [], longW.getD (i + 1) [], lnm "one", cs.getD i 0⟩
theorem long_nw {tis : List Ti} (h : ∀ i, i < 27 → ∃ c, c ≤ 9999 ∧ tis[i]? = some ⟨longW.getD i [], longW.getD (i + 1) [], lnm "one", c⟩) (hl : tis.length = 27) : NW longS longJ tis longW := by
  have at_ : ∀ {i : Nat} {x : Nm}, longW[i]? = some x → longW.getD i [] = x := fun e => by rw [List.getD_eq_getElem?_getD, e]; rfl
  have ok : ∀ t ∈ tis, IsNm t.a ∧ IsNm t.b ∧ IsNm t.ln ∧ t.a ≠ t.b ∧ t.ch ≤ 9999 := fun t ht => by
    obtain ⟨i, hi⟩ := List.getElem?_of_mem ht
    have il := (List.getElem?_eq_some_iff.mp hi).1
    obtain ⟨c, hc, e⟩ := h i (by omega)
    rw [hi] at e
    have := Option.some.inj e
    subst this
    have l := longW_len
    have e1 : longW[i]? = some (longW[i]'(by omega)) := List.getElem?_eq_getElem _
    have e2 : longW[i + 1]? = some (longW[i + 1]'(by omega)) := List.getElem?_eq_getElem _
    refine ⟨?_, ?_, nmB_iff.mp (show nmB (lnm "one") = true by decide +kernel), ?_, hc⟩
    · show IsNm (longW.getD i [])
      rw [at_ e1]
      exact longW_nm _ (List.getElem_mem _)
    · show IsNm (longW.getD (i + 1) [])
      rw [at_ e2]
      exact longW_nm _ (List.getElem_mem _)
    · show longW.getD i [] ≠ longW.getD (i + 1) []
      rw [at_ e1, at_ e2]
      intro z
      have := nodup_inj longW_nd e1 (by rw [z]; exact e2)
      omega
  have l := longW_len
  obtain ⟨ts, hts⟩ := Al.build (tis := tis) 27 longW l fun i x y h1 h2 => by
    have i2 := (List.getElem?_eq_some_iff.mp h2).1
    obtain ⟨c, _, e⟩ := h i (by omega)
    refine ⟨_, List.mem_of_getElem? e, decide_eq_true (.inl ⟨at_ h1, at_ h2⟩)⟩
  refine ⟨⟨ts, hts, longW_nm, by omega, by omega, by omega, ok⟩, ⟨⟨[115, 97], by decide +kernel, by decide +kernel⟩, [115, 112], by decide +kernel, by decide +kernel⟩, longW_nd, by decide +kernel, by decide +kernel, longS_nm, longJ_nm, by decide +kernel⟩
abbrev abP : Str := Str.ofString "abcdefghijklmnop"
theorem abP_list : abP.cps.toList = (List.range 16).map (97 + ·) := by decide +kernel
theorem abP_at {i : Nat} (h : i < 16) : atI abP.cps.toList (0 + (i : Int)) = some (97 + i) := by
  rw [Int.zero_add]
  refine atI_nat ?_
  rw [abP_list, List.getElem?_map, List.getElem?_range h]
  rfl
theorem s_cat (c : Nat) : Str.ofString "s" ++ (⟨#[c]⟩ : Str) = SX.S [115, c] := by
  rw [show Str.ofString "s" = SX.S [115] by decide +kernel]
  exact SX.S_cat [115] [c]
theorem j_cat (c : Nat) : Str.ofString "j" ++ (⟨#[c]⟩ : Str) = SX.S [106, c] := by
  rw [show Str.ofString "j" = SX.S [106] by decide +kernel]
  exact SX.S_cat [106] [c]
theorem lnm_S (s : String) : V.str (Str.ofString s) = nS (lnm s) := congrArg V.str (SX.S_tl _).symm
theorem longS_at {i : Nat} (h : i < 16) : longS[i]? = some ([115, 97 + i], lnm "one") := by
  unfold longS
  rw [List.getElem?_map, List.getElem?_range h]
  rfl
theorem longJ_at {i : Nat} (h : i < 12) : longJ[i]? = some ([106, 97 + i], [lnm "one", lnm "two"]) := by
  unfold longJ
  rw [List.getElem?_map, List.getElem?_range h]
  rfl
section
variable {P : Program} {w : World} {K : PySem.W.Frag} {mg : Str → Option Value} {base : Heap} {k : Nat}
def sp_l_long : Sp := fun vs H Q _ => ∃ (p : Addr), vs = [.ref p] ∧ Bag H p ∧ ∀ (H' : Hp) (r nt wy : Addr) (ls : List Nm) (sts : List (Nm × Nm)) (jns : List (Nm × List Nm)) (tis : List Ti) (ws : List Nm), Keep p H H' → Bag H' p → H' r = some (.tup [.ref nt, .ref wy]) → NetAt H' nt ls sts jns tis → TpF H' wy (ws.map nS) → NW sts jns tis ws → Q (.ref r) H'
set_option maxHeartbeats 16000000 in
theorem ok_l_long (T : Defs K mg) : FnOk P w K mg base CX0 (k + 2) T.a_l_long T.d_l_long ["_law_bag_here"] sp_l_long := by
  have G_l_take : FnOk P w K mg base CX0 (k + 1) _ _ _ _ := ok_l_take T
  refine T.F_l_long.ok sc_l_long (fun vs H Q E h => ?_) (fun cdv A outer s H vs Q E hr h => ?_)
  · obtain ⟨p, rfl, _⟩ := h
    rfl
  · obtain ⟨p, rfl, b, q⟩ := h
    refine ⟨_, PSs.nox
(pss_cons (ps_set (i := 1) sc_l_long.nd rfl (.inr rfl) (pe_str))
    (pss_cons (ps_setLc (i := 2) (own := [("_law_k", 6)]) (g := gName 6) rfl sc_l_long.nd rfl rfl (sw_true rfl rfl rfl (by decide +kernel)) (pi_range1 (by rfl) T.z_range (pa_cons (pe_int) pa_nil)) (blkOk_by (N := N_l_long) (sc := defScope s_l_long) (by decide +kernel)) (fun _ _ _ _ _ => (pg_name (i := 6) sc_l_long.nd rfl (.inl rfl))) (fun _ _ _ _ _ => pts_nil) (fun _ _ _ _ _ => (pe_tup (pa_cons (pe_op op_add_str (pe_str) (pe_ix ix_str (pv 1) (pv 6) (fun _ _ => rfl))) (pa_cons (pe_str) pa_nil)))))
    (pss_cons (ps_setLc (i := 3) (own := [("_law_k", 6)]) (g := gName 6) rfl sc_l_long.nd rfl rfl (sw_true rfl rfl rfl (by decide +kernel)) (pi_range1 (by rfl) T.z_range (pa_cons (pe_int) pa_nil)) (blkOk_by (N := N_l_long) (sc := defScope s_l_long) (by decide +kernel)) (fun _ _ _ _ _ => (pg_name (i := 6) sc_l_long.nd rfl (.inl rfl))) (fun _ _ _ _ _ => pts_nil) (fun _ _ _ _ _ => (pe_tup (pa_cons (pe_op op_add_str (pe_str) (pe_ix ix_str (pv 1) (pv 6) (fun _ _ => rfl))) (pa_cons (pe_tup (pa_cons (pe_str) (pa_cons (pe_str) pa_nil))) pa_nil)))))
    (pss_cons (ps_set (i := 4) sc_l_long.nd rfl (.inl rfl) (pe_op op_cat (pe_op op_cat (pe_lst (pa_cons (pe_ix (r := rIxT K) ix_tup (pe_ix (r := rIxL K) ix_list (pv 2) (pe_int) (fun _ _ => rfl)) (pe_int) (fun _ _ => rfl)) pa_nil)) (pe_lc (own := [("_law_one", 7)]) (g := gName 7) rfl sc_l_long.nd (pi_list (pv 3)) (blkOk_by (N := N_l_long) (sc := defScope s_l_long) (by decide +kernel)) (fun _ _ _ _ _ => (pg_name (i := 7) sc_l_long.nd rfl (.inl rfl))) (fun _ _ _ _ _ => pts_nil) (fun _ _ _ _ _ => (pe_ix (r := rIxT K) ix_tup (pv 7) (pe_int) (fun _ _ => rfl))))) (pe_lc (own := [("_law_one", 7)]) (g := gName 7) rfl sc_l_long.nd (pi_list (pe_slice sl_list (pv 2) (po_some (pe_int)) po_none)) (blkOk_by (N := N_l_long) (sc := defScope s_l_long) (by decide +kernel)) (fun _ _ _ _ _ => (pg_name (i := 7) sc_l_long.nd rfl (.inl rfl))) (fun _ _ _ _ _ => pts_nil) (fun _ _ _ _ _ => (pe_ix (r := rIxT K) ix_tup (pv 7) (pe_int) (fun _ _ => rfl))))))
    (pss_cons (ps_setLc (i := 5) (own := [("_law_place", 8), ("_law_far", 9)]) (g := gTup K 2 (gCons (gName 8) (gCons (gName 9) gNil))) rfl sc_l_long.nd rfl rfl (sw_true rfl rfl rfl (by decide +kernel)) (RZ.pi_zipA (by rfl) T.z_zip (pa_cons (pv 4) (pa_cons (pe_slice sl_list (pv 4) (po_some (pe_int)) po_none) pa_nil))) (blkOk_by (N := N_l_long) (sc := defScope s_l_long) (by decide +kernel)) (fun _ _ _ _ _ => (pg_tup rfl (pgs_cons (pg_name (i := 8) sc_l_long.nd rfl (.inl rfl)) (pgs_cons (pg_name (i := 9) sc_l_long.nd rfl (.inl rfl)) pgs_nil)))) (fun _ _ _ _ _ => pts_nil) (fun _ _ _ _ _ => (pe_tup (pa_cons (pv 8) (pa_cons (pv 9) (pa_cons (pe_str) (pa_cons (pe_op op_add (pe_int) (pe_call G_l_take hr (by rfl) T.g_l_take T.F_l_take.kp T.b_l_take .nil pass0 (pa_cons (pv 0) (pa_cons (pe_int) pa_nil)))) pa_nil)))))))
    (pss_one (ps_ret (pe_tup (pa_cons (pe_tup (pa_cons (Tk.pe_tupK (pa_cons (pe_str) (pa_cons (pe_str) pa_nil))) (pa_cons (pe_callTy (r := rTupF K) call_tuple_ofF (by rfl) T.z_tuple (by decide +kernel) (pa_cons (pv 2) pa_nil)) (pa_cons (pe_callTy (r := rTupF K) call_tuple_ofF (by rfl) T.z_tuple (by decide +kernel) (pa_cons (pv 3) pa_nil)) (pa_cons (pe_callTy (r := rTupF K) call_tuple_ofF (by rfl) T.z_tuple (by decide +kernel) (pa_cons (pv 5) pa_nil)) pa_nil))))) (pa_cons (pe_callTy (r := rTupF K) call_tuple_ofF (by rfl) T.z_tuple (by decide +kernel) (pa_cons (pv 4) pa_nil)) pa_nil))))))))))
      , ?_⟩
    -- stations
    refine ⟨16, rfl, by decide, by decide, fun S nSt => ?_⟩
    refine lc_it walk_range (fun i H3 => Same H H3 ∧ ∃ sa : List Addr, H3 S = some (.lst (sa.map V.ref)) ∧ Paired (StAt H3) sa (longS.take i)) ⟨same_upd nSt, [], upd_same, .nil⟩ (fun _ _ _ _ => trivial) (fun i v H3₀ H3 hi pv yy => ?_) (fun H3 pv => ?_)
    · obtain ⟨rfl, rfl⟩ := yy
      obtain ⟨s3, sa, eS, hsa⟩ := pv
      have hi : i < 16 := hi
      refine ⟨rfl, yes_ ⟨.str abP, rfl, .int (0 + (i : Int)), rfl, abP, 0 + (i : Int), 97 + i, rfl, rfl, by decide +kernel, abP_at hi, Str.ofString "s", ⟨#[97 + i]⟩, rfl, rfl, by rw [show (Str.ofString "s").length = 1 by decide +kernel]; show 1 + 1 ≤ sizeLine; decide, two_sz, fun u nu => ?_⟩⟩
      rw [s_cat, lnm_S]
      have su := same_upd (o := .tup [nS [115, 97 + i], nS (lnm "one")]) nu
      refine ⟨_, su _ _ eS, by rw [List.length_map, paired_len hsa, List.length_take]; exact small5000 (by omega), same_set (s3.trans su) nSt, sa ++ [u], by rw [upd_same, List.map_append]; rfl, ?_⟩
      rw [List.take_add_one, longS_at hi]
      have eS3 := su _ _ eS
      have tkS : ∀ ys, TK (upd H3 u (.tup [nS [115, 97 + i], nS (lnm "one")])) (upd (upd H3 u (.tup [nS [115, 97 + i], nS (lnm "one")])) S (.lst ys)) := fun ys => .upd fun xs e => by rw [eS3] at e; cases e
      exact paired_snoc (paired_imp hsa fun a _ g e => tkS _ _ _ (su _ _ e)) (tkS _ _ _ upd_same)
    obtain ⟨s3, sa, eS, hsa⟩ := pv
    rw [show longS.take (Int.toNat 16) = longS by decide +kernel] at hsa
    have b3 := b.keep s3
    -- junctions
    refine ⟨12, rfl, by decide, by decide, fun J nJ => ?_⟩
    refine lc_it walk_range (fun i H4 => Same H3 H4 ∧ ∃ ja : List Addr, H4 J = some (.lst (ja.map V.ref)) ∧ Paired (JnAt H4) ja (longJ.take i)) ⟨same_upd nJ, [], upd_same, .nil⟩ (fun _ _ _ _ => trivial) (fun i v H3₀ H4 hi pv yy => ?_) (fun H4 pv => ?_)
    · obtain ⟨rfl, rfl⟩ := yy
      obtain ⟨s4, ja, eJ, hja⟩ := pv
      have hi : i < 12 := hi
      refine ⟨rfl, yes_ ⟨.str abP, rfl, .int (0 + (i : Int)), rfl, abP, 0 + (i : Int), 97 + i, rfl, rfl, by decide +kernel, abP_at (by omega), Str.ofString "j", ⟨#[97 + i]⟩, rfl, rfl, by rw [show (Str.ofString "j").length = 1 by decide +kernel]; show 1 + 1 ≤ sizeLine; decide, two_sz, fun u nu => ⟨two_sz, fun u2 nu2 => ?_⟩⟩⟩
      rw [lnm_S, lnm_S] at nu2 ⊢
      rw [j_cat]
      have su := same_upd (o := .tup [nS (lnm "one"), nS (lnm "two")]) nu
      have su2 := same_upd (o := .tup [nS [106, 97 + i], .ref u]) nu2
      have eu : (upd (upd H4 u (.tup [nS (lnm "one"), nS (lnm "two")])) u2 (.tup [nS [106, 97 + i], .ref u])) u = some (.tup ([lnm "one", lnm "two"].map nS)) := su2 _ _ upd_same
      have eu2 : (upd (upd H4 u (.tup [nS (lnm "one"), nS (lnm "two")])) u2 (.tup [nS [106, 97 + i], .ref u])) u2 = some (.tup [nS [106, 97 + i], .ref u]) := upd_same
      have s42 := su.trans su2
      generalize upd (upd H4 u (.tup [nS (lnm "one"), nS (lnm "two")])) u2 (.tup [nS [106, 97 + i], .ref u]) = H5 at s42 eu eu2 ⊢
      have eJ5 := s42 _ _ eJ
      refine ⟨_, eJ5, by rw [List.length_map, paired_len hja, List.length_take]; exact small5000 (by omega), same_set (s4.trans s42) nJ, ja ++ [u2], by rw [upd_same, List.map_append]; rfl, ?_⟩
      rw [List.take_add_one, longJ_at hi]
      have tkJ : ∀ ys, TK H5 (upd H5 J (.lst ys)) := fun ys => .upd fun xs e => by rw [eJ5] at e; cases e
      exact paired_snoc (paired_imp hja fun a _ g ⟨bb, e, e2⟩ => ⟨bb, tkJ _ _ _ (s42 _ _ e), tkJ _ _ _ (s42 _ _ e2)⟩) ⟨u, tkJ _ _ _ eu2, tkJ _ _ _ eu⟩
    obtain ⟨s4, ja, eJ, hja⟩ := pv
    rw [show longJ.take (Int.toNat 12) = longJ by decide +kernel] at hja
    have b4 := b3.keep s4
    have eS4 := s4 _ _ eS
    have hsa4 : Paired (StAt H4) sa longS := paired_imp hsa fun a _ g e => s4 _ _ e
    have sl := paired_len hsa4
    have jl := paired_len hja
    have sl : sa.length = 16 := sl
    have jl : ja.length = 12 := jl
    -- places
    obtain ⟨s0, es0⟩ : ∃ s0, sa[0]? = some s0 := ⟨_, List.getElem?_eq_getElem (by omega)⟩
    obtain ⟨st0, e0, hs0⟩ := paired_get hsa4 es0
    rw [longS_at (by omega)] at e0
    have := Option.some.inj e0
    subst this
    refine ⟨.ref S, rfl, S, _, 0, .ref s0, rfl, rfl, SqL.of eS4, atI_nat (j := 0) (by rw [List.getElem?_map, es0]; rfl), s0, _, 0, nS [115, 97], rfl, rfl, SqT.of hs0, atI_nat (j := 0) rfl, by show 1 ≤ sizeLine; decide, fun L1 nL1 => ?_⟩
    have sL := same_upd (o := .lst [nS [115, 97]]) nL1
    refine ⟨.ref J, rfl, J, rfl, ⟨_, SqL.of (sL _ _ eJ)⟩, fun D nD => ?_⟩
    refine lc_it (walk_list (xs := ja.map V.ref)) (fun i H6 => Same (upd H4 L1 (.lst [nS [115, 97]])) H6 ∧ H6 D = some (.lst (((longJ.take i).map (·.1)).map nS))) ⟨same_upd nD, upd_same⟩ (fun i H6 _ pv => SqL.of (pv.1 _ _ (sL _ _ eJ))) (fun i v H3₀ H6 hi pv yy => ?_) (fun H6 pv => ?_)
    · obtain ⟨rfl, ex⟩ := yy
      obtain ⟨s6, eD⟩ := pv
      rw [List.length_map] at hi
      obtain ⟨u, eu, rfl⟩ : ∃ u, ja[i]? = some u ∧ v = .ref u := by
        rw [List.getElem?_map] at ex
        cases h : ja[i]? with
        | none => rw [h] at ex; cases ex
        | some t => rw [h] at ex; exact ⟨t, rfl, (Option.some.inj ex).symm⟩
      obtain ⟨jn, ejn, bb, hu, _⟩ := paired_get hja eu
      refine ⟨rfl, yes_ ⟨.ref u, rfl, u, _, 0, nS jn.1, rfl, rfl, SqT.of (s6 _ _ (sL _ _ hu)), atI_nat (j := 0) rfl, _, eD, by rw [List.length_map, List.length_map, List.length_take]; exact small5000 (by omega), same_set s6 nD, ?_⟩⟩
      rw [upd_same, List.take_add_one, ejn, List.map_append, List.map_append]
      rfl
    obtain ⟨s6, eD⟩ := pv
    rw [List.length_map, jl, show longJ.take 12 = longJ by decide +kernel] at eD
    refine ⟨L1, D, _, _, rfl, rfl, s6 _ _ upd_same, eD, ?_, fun L2 nL2 => ?_⟩
    · show 1 + _ ≤ sizeLine
      rw [List.length_map, List.length_map]
      show 1 + 12 ≤ sizeLine
      decide
    have sL2 := same_upd (o := .lst ([nS [115, 97]] ++ (longJ.map (·.1)).map nS)) nL2
    have eL2 : (upd H6 L2 (.lst ([nS [115, 97]] ++ (longJ.map (·.1)).map nS))) L2 = some (.lst ([nS [115, 97]] ++ (longJ.map (·.1)).map nS)) := upd_same
    have s47 := sL.trans (s6.trans sL2)
    generalize upd H6 L2 (.lst ([nS [115, 97]] ++ (longJ.map (·.1)).map nS)) = H7 at s47 eL2 ⊢
    clear eD sL2 s6 nL2
    refine ⟨.ref S, rfl, 1, rfl, S, _, rfl, SqL.of (s47 _ _ eS4), fun c nc => ?_⟩
    rw [cutV_one (α := Nat), ← List.map_drop]
    have sc := same_upd (o := .lst ((sa.drop 1).map V.ref)) nc
    refine ⟨c, rfl, ⟨_, SqL.of upd_same⟩, fun D nD => ?_⟩
    have ec : (upd H7 c (.lst ((sa.drop 1).map V.ref))) c = some (.lst ((sa.drop 1).map V.ref)) := upd_same
    have eL8 := sc _ _ eL2
    have s48 := s47.trans sc
    generalize upd H7 c (.lst ((sa.drop 1).map V.ref)) = H8 at sc ec eL8 s48 nD ⊢
    have hsd : Paired (StAt H8) (sa.drop 1) (longS.drop 1) := paired_drop 1 (paired_imp hsa4 fun a _ g e => s48 _ _ e)
    refine lc_it (walk_list (xs := (sa.drop 1).map V.ref)) (fun i H9 => Same H8 H9 ∧ H9 D = some (.lst ((((longS.drop 1).take i).map (·.1)).map nS))) ⟨same_upd nD, upd_same⟩ (fun i H9 _ pv => SqL.of (pv.1 _ _ ec)) (fun i v H3₀ H9 hi pv yy => ?_) (fun H9 pv => ?_)
    · obtain ⟨rfl, ex⟩ := yy
      obtain ⟨s9, eD⟩ := pv
      rw [List.length_map, List.length_drop] at hi
      obtain ⟨u, eu, rfl⟩ : ∃ u, (sa.drop 1)[i]? = some u ∧ v = .ref u := by
        rw [List.getElem?_map] at ex
        cases h : (sa.drop 1)[i]? with
        | none => rw [h] at ex; cases ex
        | some t => rw [h] at ex; exact ⟨t, rfl, (Option.some.inj ex).symm⟩
      obtain ⟨st, est, hu⟩ := paired_get hsd eu
      refine ⟨rfl, yes_ ⟨.ref u, rfl, u, _, 0, nS st.1, rfl, rfl, SqT.of (s9 _ _ hu), atI_nat (j := 0) rfl, _, eD, by rw [List.length_map, List.length_map, List.length_take]; exact small5000 (by omega), same_set s9 nD, ?_⟩⟩
      rw [upd_same, List.take_add_one, est, List.map_append, List.map_append]
      rfl
    obtain ⟨s9, eD⟩ := pv
    rw [List.length_map, List.length_drop, sl, show (longS.drop 1).take (16 - 1) = longS.drop 1 by decide +kernel] at eD
    refine ⟨L2, D, _, _, rfl, rfl, s9 _ _ eL8, eD, ?_, fun Pl nPl => ?_⟩
    · rw [List.length_append, List.length_map, List.length_map, List.length_map, List.length_map]
      show 1 + 12 + 15 ≤ sizeLine
      decide
    have ePl : (upd H9 Pl (.lst ([nS [115, 97]] ++ (longJ.map (·.1)).map nS ++ ((longS.drop 1).map (·.1)).map nS))) Pl = some (.lst (longW.map nS)) := by
      rw [upd_same]
      unfold longW
      rw [List.map_append, List.map_append]
      rfl
    have sPl := same_upd (o := .lst ([nS [115, 97]] ++ (longJ.map (·.1)).map nS ++ ((longS.drop 1).map (·.1)).map nS)) nPl
    generalize upd H9 Pl (.lst ([nS [115, 97]] ++ (longJ.map (·.1)).map nS ++ ((longS.drop 1).map (·.1)).map nS)) = H10 at ePl sPl ⊢
    have s410 := s48.trans (s9.trans sPl)
    have b10 := b4.keep s410
    have nPlp : Pl ≠ p := (b4.keep (s48.trans s9)).ne nPl
    clear eD nD hsd s9 sPl eL8 ec sc nc eL2
    -- ties
    refine ⟨.ref Pl, rfl, .ref Pl, rfl, 1, rfl, Pl, _, rfl, SqL.of ePl, fun c2 nc2 => ?_⟩
    rw [cutV_one (α := Nat), ← List.map_drop]
    have sc2 := same_upd (o := .lst ((longW.drop 1).map nS)) nc2
    have ec2 : (upd H10 c2 (.lst ((longW.drop 1).map nS))) c2 = some (.lst ((longW.drop 1).map nS)) := upd_same
    have nc2p := b10.ne nc2
    have eP2 := sc2 _ _ ePl
    have b11 := b10.keep sc2
    have s411 := s410.trans sc2
    generalize upd H10 c2 (.lst ((longW.drop 1).map nS)) = H11 at sc2 ec2 eP2 b11 s411 ⊢
    refine ⟨Pl, c2, _, _, rfl, .inl ⟨SqL.of eP2, SqL.of ec2, fun D nD => ?_⟩⟩
    have nDp := b11.ne nD
    have wl := longW_len
    refine lc_it (walk_zip (n := 27) (xs := longW.map nS) (ys := (longW.drop 1).map nS) (by rw [List.length_map, List.length_map, List.length_drop, wl]; rfl)) (fun i H12 => Keep p H11 H12 ∧ Bag H12 p ∧ ∃ (ta : List Addr) (tis : List Ti), H12 D = some (.lst (ta.map V.ref)) ∧ Paired (TiAt H12) ta tis ∧ tis.length = i ∧ ∀ j, j < i → ∃ c, c ≤ 9999 ∧ tis[j]? = some ⟨longW.getD j [], longW.getD (j + 1) [], lnm "one", c⟩) ⟨.of (same_upd nD), b11.keep (same_upd nD), [], [], upd_same, .nil, rfl, fun j h => absurd h (Nat.not_lt_zero _)⟩ (fun i H12 _ pv => ⟨SqL.of (pv.1 _ _ nPlp eP2), SqL.of (pv.1 _ _ nc2p ec2)⟩) (fun i v H12 H12' hi pv yy => ?_) (fun H12 pv => ?_)
    · obtain ⟨U, x, y, rfl, nU, rfl, ex, ey⟩ := yy
      obtain ⟨k12, b12, ta, tis, eD, hta, tl, htt⟩ := pv
      have e1 : longW[i]? = some (longW[i]'(by omega)) := List.getElem?_eq_getElem _
      have e2 : longW[i + 1]? = some (longW[i + 1]'(by omega)) := List.getElem?_eq_getElem _
      have d1 : longW.getD i [] = longW[i]'(by omega) := by rw [List.getD_eq_getElem?_getD, e1]; rfl
      have d2 : longW.getD (i + 1) [] = longW[i + 1]'(by omega) := by rw [List.getD_eq_getElem?_getD, e2]; rfl
      generalize longW[i]'(by omega) = x' at e1 d1
      generalize longW[i + 1]'(by omega) = y' at e2 d2
      have f1 : nS x' = x := Option.some.inj ((by rw [List.getElem?_map, e1]; rfl : (longW.map nS)[i]? = some (nS x')).symm.trans ex)
      have f2 : nS y' = y := Option.some.inj ((by rw [List.getElem?_map, List.getElem?_drop, Nat.add_comm 1 i, e2]; rfl : ((longW.drop 1).map nS)[i]? = some (nS y')).symm.trans ey)
      subst f1 f2
      have sU := same_upd (o := .tup [nS x', nS y']) nU
      refine ⟨U, _, rfl, SqT.of upd_same, rfl, nS x', [nS y'], rfl, nS y', [], rfl, rfl, rfl, yes_ ?_⟩
      refine ⟨nS x', rfl, nS y', rfl, .ref p, rfl, p, 99, rfl, b12.keep sU, by decide, by decide, fun H13 d k13 b13 d0 d1' => ⟨1, d, rfl, rfl, four_sz, fun u nu => ?_⟩⟩
      obtain ⟨dd, rfl⟩ : ∃ dd : Nat, d = (dd : Int) := ⟨d.toNat, by omega⟩
      rw [lnm_S]
      dsimp only
      rw [show (1 : Int) + (dd : Int) = ((1 + dd : Nat) : Int) by omega]
      have su := same_upd (o := .tup [nS x', nS y', nS (lnm "one"), .int ((1 + dd : Nat) : Int)]) nu
      have eu : (upd H13 u (.tup [nS x', nS y', nS (lnm "one"), .int ((1 + dd : Nat) : Int)])) u = some (.tup [nS x', nS y', nS (lnm "one"), .int ((1 + dd : Nat) : Int)]) := upd_same
      have k14 : Keep p H12 (upd H13 u (.tup [nS x', nS y', nS (lnm "one"), .int ((1 + dd : Nat) : Int)])) := (Keep.of sU).trans (k13.trans (.of su))
      have b14 := b13.keep su
      generalize upd H13 u (.tup [nS x', nS y', nS (lnm "one"), .int ((1 + dd : Nat) : Int)]) = H14 at eu k14 b14 ⊢
      have eD14 := k14 _ _ nDp eD
      have tkD : ∀ ys, TK H14 (upd H14 D (.lst ys)) := fun ys => .upd fun xs e => by rw [eD14] at e; cases e
      refine ⟨_, eD14, by rw [List.length_map, paired_len hta]; exact small5000 (by omega), (k12.trans k14).set nD, b14.at (upd_ne nDp.symm), ta ++ [u], tis ++ [⟨x', y', lnm "one", 1 + dd⟩], by rw [upd_same, List.map_append]; rfl, ?_, by rw [List.length_append, tl]; rfl, fun j hj => ?_⟩
      · exact paired_snoc (paired_imp hta fun a _ g e => tkD _ _ _ ((TK.keep k14 b12) _ _ e)) (tkD _ _ _ eu)
      · by_cases hji : j < i
        · obtain ⟨cc, hc, e⟩ := htt j hji
          exact ⟨cc, hc, by rw [List.getElem?_append_left (by omega)]; exact e⟩
        · have : j = i := by omega
          subst this
          refine ⟨1 + dd, by omega, ?_⟩
          rw [List.getElem?_append_right (by omega), tl, Nat.sub_self, d1, d2]
          rfl
    obtain ⟨k12, b12, ta, tis, eD, hta, tl, htt⟩ := pv
    have s011 := s3.trans (s4.trans s411)
    have k0 : Keep p H H12 := (Keep.of s011).trans k12
    have nSp : S ≠ p := b.ne nSt
    have nJp : J ≠ p := b3.ne nJ
    have eS12 := k12 _ _ nSp (s411 _ _ eS4)
    have eJ12 := k12 _ _ nJp (s411 _ _ eJ)
    have tk12 : TK H4 H12 := (TK.of s411).trans (.keep k12 b11)
    have hs12 : Paired (StAt H12) sa longS := paired_imp hsa4 fun a _ g e => tk12 _ _ e
    have hj12 : Paired (JnAt H12) ja longJ := paired_imp hja fun a _ g ⟨bb, e, e2⟩ => ⟨bb, tk12 _ _ e, tk12 _ _ e2⟩
    have eP12 := k12 _ _ nPlp eP2
    refine ⟨two_sz, fun n1 H13 _ s13 t13 _ => ?_⟩
    rw [lnm_S, lnm_S] at t13
    refine ⟨.ref S, rfl, S, _, rfl, SqL.of (s13 _ _ eS12), fun n2 H14 _ s14 t14 _ => ?_⟩
    refine ⟨.ref J, rfl, J, _, rfl, SqL.of (s14 _ _ (s13 _ _ eJ12)), fun n3 H15 _ s15 t15 _ => ?_⟩
    refine ⟨.ref D, rfl, D, _, rfl, SqL.of (s15 _ _ (s14 _ _ (s13 _ _ eD))), fun n4 H16 _ s16 t16 _ => ⟨four_sz, fun nt nnt => ?_⟩⟩
    have s17 := same_upd (o := .tup [.ref n1, .ref n2, .ref n3, .ref n4]) nnt
    have ent : (upd H16 nt (.tup [.ref n1, .ref n2, .ref n3, .ref n4])) nt = some (.tup [.ref n1, .ref n2, .ref n3, .ref n4]) := upd_same
    generalize upd H16 nt (.tup [.ref n1, .ref n2, .ref n3, .ref n4]) = H17 at s17 ent ⊢
    have s1217 := s13.trans (s14.trans (s15.trans (s16.trans s17)))
    refine ⟨.ref Pl, rfl, Pl, _, rfl, SqL.of (s1217 _ _ eP12), fun wy H18 _ s18 t18 _ => ⟨two_sz, fun r nr => ?_⟩⟩
    have sr := same_upd (o := .tup [.ref nt, .ref wy]) nr
    have s1219 := s1217.trans (s18.trans sr)
    have s1719 := s18.trans sr
    have tkz := TK.of s1219
    refine q _ r nt wy [lnm "one", lnm "two"] longS longJ tis longW (k0.trans (.of s1219)) (b12.keep s1219) upd_same ?_ (t18.same sr) (long_nw htt tl)
    exact ⟨n1, n2, n3, n4, sa, ja, ta, s1719 _ _ ent, ((((t13.same s14).same s15).same s16).same s17).same s1719, (((t14.same s15).same s16).same s17).same s1719, paired_imp hs12 fun a _ g e => tkz _ _ e, ((t15.same s16).same s17).same s1719, paired_imp hj12 fun a _ g ⟨bb, e, e2⟩ => ⟨bb, tkz _ _ e, tkz _ _ e2⟩, (t16.same s17).same s1719, paired_imp hta fun a _ g e => tkz _ _ e⟩
end
end Th
namespace Th
open PySem PySem.Spec PyProof.Rows L2
/-! the law -/
theorem three_sz {x y z : V} : [x, y, z].length ≤ sizeLine := by show 3 ≤ sizeLine; decide
theorem TpF.same' {p : Addr} {H H' : Hp} {a : Addr} {xs : List V} (h : TpF H a xs) (k : Keep p H H') (b : Bag H p) : TpF H' a xs := h.keep k b
def strD (ws : List Nm) : PyData := .tuple (ws.map fun z => .str (SX.S z))
theorem dfa_nms {S : Addr → Prop} {H : Hp} : ∀ ws : List Nm, DFAll S H (ws.map nS) (ws.map fun z => PyData.str (SX.S z))
  | [] => .nil
  | z :: ws => .cons (.str _) (dfa_nms ws)
theorem td_way {S : Addr → Prop} {H : Hp} {a : Addr} {ws : List Nm} (h : TpF H a (ws.map nS)) (l : ws.length ≤ 60) (nm : ∀ z ∈ ws, IsNm z) : TD S H (.ref a) (strD ws) := by
  refine ⟨.tup h (dfa_nms ws), fun ds e => ?_⟩
  injection e with e
  subst e
  refine ⟨by rw [List.length_map]; exact l, fun d hd => ?_⟩
  obtain ⟨z, hz, rfl⟩ := List.mem_map.mp hd
  exact lay_nm (nm z hz)
theorem NW.is {sts : List (Nm × Nm)} {jns : List (Nm × List Nm)} {tis : List Ti} {ws : List Nm} (h : NW sts jns tis ws) : IsWay sts tis (strD ws) := by
  obtain ⟨ts, hw⟩ := h.way
  refine ⟨ws, rfl, hw.l2, hw.l28, hw.nm, h.nd, h.ste, fun i x y h1 h2 => ?_⟩
  have il := (List.getElem?_eq_some_iff.mp h2).1
  have l := hw.al.len
  obtain ⟨x', y', f1, f2, f3⟩ := hw.al.tie i _ (List.getElem?_eq_getElem (by omega))
  rw [h1] at f1
  rw [h2] at f2
  rw [← Option.some.inj f1, ← Option.some.inj f2] at f3
  exact ⟨_, List.mem_of_find?_eq_some f3, List.find?_some f3⟩
theorem NW.to {sts : List (Nm × Nm)} {jns : List (Nm × List Nm)} {tis : List Ti} {ws ws' : List Nm} {ts : List Ti} (h : NW sts jns tis ws) (hw : WayOk tis ws' ts) (hs : StE sts ws') (hn : ws'.Nodup) : NW sts jns tis ws' := ⟨⟨ts, hw⟩, hs, hn, h.s1, h.s100, h.snm, h.jnm, h.j100⟩
mutual
theorem DF.off {S : Addr → Prop} {H : Hp} {L : Addr} (n : H L = none) : ∀ {v : V} {d : PyData}, DF S H v d → DF (fun a => S a ∧ a ≠ L) H v d
  | _, _, .non => .non
  | _, _, .bl b => .bl b
  | _, _, .int b => .int b
  | _, _, .str b => .str b
  | _, _, .lst s e r => .lst ⟨s, fun z => by rw [z, n] at e; cases e⟩ e (DFAll.off n r)
  | _, _, .tup e r => .tup e (DFAll.off n r)
theorem DFAll.off {S : Addr → Prop} {H : Hp} {L : Addr} (n : H L = none) : ∀ {v : List V} {d : List PyData}, DFAll S H v d → DFAll (fun a => S a ∧ a ≠ L) H v d
  | _, _, .nil => .nil
  | _, _, .cons a r => .cons (DF.off n a) (DFAll.off n r)
end
/-- the list L of things -/
def ThL (p : Addr) (H : Hp) (L : Addr) (n : Nat) : Prop := ∃ vs ds, H L = some (.lst vs) ∧ Paired (TD (fun a => a ≠ p ∧ a ≠ L) H) vs ds ∧ vs.length ≤ n
theorem ThL.same {p L : Addr} {H H' : Hp} {n : Nat} (h : ThL p H L n) (s : Same H H') : ThL p H' L n := let ⟨vs, ds, e, hp, l⟩ := h; ⟨vs, ds, s _ _ e, paired_imp hp fun _ _ _ h => h.same s, l⟩
theorem ThL.keep {p L : Addr} {H H' : Hp} {n : Nat} (h : ThL p H L n) (k : Keep p H H') (b : Bag H p) (np : L ≠ p) : ThL p H' L n := let ⟨vs, ds, e, hp, l⟩ := h; ⟨vs, ds, k _ _ np e, paired_imp hp fun _ _ _ h => h.keep k b fun _ z => z.1, l⟩
/-- all but the bag and L stays -/
def KK (p L : Addr) (H H' : Hp) : Prop := ∀ c o, c ≠ p → c ≠ L → H c = some o → H' c = some o
theorem KK.of {p L : Addr} {H H' : Hp} (k : Keep p H H') : KK p L H H' := fun c o n _ e => k c o n e
theorem KK.trans {p L : Addr} {H H' H2 : Hp} (a : KK p L H H') (b : KK p L H' H2) : KK p L H H2 := fun c o n m e => b c o n m (a c o n m e)
theorem KK.upd {p L : Addr} {H : Hp} {o : HO} : KK p L H (L2.upd H L o) := fun c o n m e => by rw [upd_ne m]; exact e
theorem KK.tk {p L : Addr} {H H' : Hp} {vs : List V} (k : KK p L H H') (b : Bag H p) (e : H L = some (.lst vs)) : TK H H' := by
  obtain ⟨g, r, e', _⟩ := b
  exact ⟨fun a xs f => k a _ (fun z => by rw [z, e'] at f; cases f) (fun z => by rw [z, e] at f; cases f) f, fun a o xs f => k a _ (fun z => by rw [z, e'] at f; cases f) (fun z => by rw [z, e] at f; cases f) f⟩
section
variable {P : Program} {w : World} {K : PySem.W.Frag} {mg : Str → Option Value} {base : Heap} {k : Nat}
def sp_law (K : PySem.W.Frag) : Sp := fun vs H Q _ => ∃ (a : Addr) (ns : List Int), vs = [.ref a] ∧ SqL K H a (ns.map V.int) ∧ ns.length ≤ 63 ∧ ∀ H', Q (.bl true) H'
set_option maxHeartbeats 32000000 in
theorem ok_law {f : Addr} {fd : FuncData} (F : FnP K "law" s_law f fd) (T : Defs K mg) : FnOk P w K mg base CX0 5 f fd ["_law_script"] (sp_law K) := by
  have G_l_bag : FnOk P w K mg base CX0 4 _ _ _ _ := ok_l_bag T
  have G_l_take : FnOk P w K mg base CX0 4 _ _ _ _ := ok_l_take (k := 3) T
  have G_l_net : FnOk P w K mg base CX0 4 _ _ _ _ := ok_l_net (k := 0) T
  have G_l_long : FnOk P w K mg base CX0 4 _ _ _ _ := ok_l_long (k := 2) T
  have G_l_walk : FnOk P w K mg base CX0 4 _ _ _ _ := ok_l_walk (k := 2) T
  have G_l_odd : FnOk P w K mg base CX0 4 _ _ _ _ := ok_l_odd (k := 2) T
  have G_l_bent : FnOk P w K mg base CX0 4 _ _ _ _ := ok_l_bent (k := 1) T
  have G_l_is_way : FnOk P w K mg base CX0 4 _ _ _ _ := ok_l_is_way (k := 2) T
  have G_is_way : FnOk P w K mg base CX0 4 _ _ _ _ := ok_is_way (k := 1) T
  refine F.ok sc_law (fun vs H Q E h => ?_) (fun cdv A outer s H vs Q E hr h => ?_)
  · obtain ⟨a, ns, rfl, _⟩ := h
    rfl
  · obtain ⟨a, ns, rfl, hS, hlen, q⟩ := h
    refine ⟨_, PSs.nox
(pss_cons (ps_for PassesOwn.never rfl (pi_range1 (by rfl) T.z_range (pa_cons (pe_callB (call_max2 rfl) (by rfl) T.z_max (by decide +kernel) (pa_cons (pe_int) (pa_cons (pe_callB (call_min2 rfl) (by rfl) T.z_min (by decide +kernel) (pa_cons (pe_int) (pa_cons (pe_callB (r := rLenS K) call_lenS (by rfl) T.z_len (by decide +kernel) (pa_cons (pv 0) pa_nil)) pa_nil))) pa_nil))) pa_nil)) (pg_name (i := 1) sc_law.nd rfl (.inl rfl))
      (pss_cons (ps_set (i := 2) sc_law.nd rfl (.inr rfl) (pe_call G_l_bag hr (by rfl) T.g_l_bag T.F_l_bag.kp T.b_l_bag .nil pass0 (pa_cons (pv 0) (pa_cons (pv 1) pa_nil))))
      (pss_cons (ps_asg (pe_call G_l_net hr (by rfl) T.g_l_net T.F_l_net.kp T.b_l_net .nil pass0 (pa_cons (pv 2) pa_nil)) (pg_tup rfl (pgs_cons (pg_name (i := 3) sc_law.nd rfl (.inr rfl)) (pgs_cons (pg_name (i := 4) sc_law.nd rfl (.inl rfl)) pgs_nil))))
      (Evl.pss_cut (ps_if (pt_cmpR op_eq (pe_call G_l_take hr (by rfl) T.g_l_take T.F_l_take.kp T.b_l_take .nil pass0 (pa_cons (pv 2) (pa_cons (pe_int) pa_nil))) (pe_int) (nomark _))
        (pss_one (ps_asg (pe_call G_l_long hr (by rfl) T.g_l_long T.F_l_long.kp T.b_l_long .nil pass0 (pa_cons (pv 2) pa_nil)) (pg_tup rfl (pgs_cons (pg_name (i := 3) sc_law.nd rfl (.inr rfl)) (pgs_cons (pg_name (i := 4) sc_law.nd rfl (.inl rfl)) pgs_nil)))))
        pss_nil)
      (pss_cons (ps_set (i := 5) sc_law.nd rfl (.inl rfl) (pe_lst (pa_cons (pe_call G_l_odd hr (by rfl) T.g_l_odd T.F_l_odd.kp T.b_l_odd .nil pass0 (pa_cons (pv 2) pa_nil)) (pa_cons (pv 4) (pa_cons (Tk.pe_revK (pv 4)) pa_nil)))))
      (pss_cons (ps_for PassesOwn.never rfl (pi_list (pe_lst (pa_cons (pv 4) (pa_cons (pe_call G_l_walk hr (by rfl) T.g_l_walk T.F_l_walk.kp T.b_l_walk .nil pass0 (pa_cons (pv 2) (pa_cons (pv 3) (pa_cons (pv 4) pa_nil)))) (pa_cons (pe_call G_l_walk hr (by rfl) T.g_l_walk T.F_l_walk.kp T.b_l_walk .nil pass0 (pa_cons (pv 2) (pa_cons (pv 3) (pa_cons (pv 4) pa_nil)))) pa_nil))))) (pg_name (i := 6) sc_law.nd rfl (.inr rfl))
        (pss_cons (ps_if (pt_cmpR op_isnot_bl (pe_call G_is_way hr (by rfl) T.g_is_way T.F_is_way.kp T.b_is_way .nil pass0 (pa_cons (pv 3) (pa_cons (pv 6) pa_nil))) (pe_bl) (nomark _))
          (pss_one (ps_ret (pe_bl)))
          pss_nil)
        (pss_one (ps_expr (pe_bm PySem.F.plainAttrs_list PySem.F.slot_list_extend PySem.F.type_list_extend mt_extend (pv 5) (pa_cons (pe_lc (own := [("_law_turn", 10)]) (g := gName 10) rfl sc_law.nd (pi_range1 (by rfl) T.z_range (pa_cons (pe_int) pa_nil)) (blkOk_by (N := N_law) (sc := defScope s_law) (by decide +kernel)) (fun _ _ _ _ _ => (pg_name (i := 10) sc_law.nd rfl (.inl rfl))) (fun _ _ _ _ _ => pts_nil) (fun _ _ _ _ _ => (pe_call G_l_bent hr (by rfl) T.g_l_bent T.F_l_bent.kp T.b_l_bent .nil pass0 (pa_cons (pv 2) (pa_cons (pv 3) (pa_cons (pv 6) pa_nil)))))) pa_nil))))))
      (pss_one (ps_for PassesOwn.never rfl (pi_list (pv 5)) (pg_name (i := 7) sc_law.nd rfl (.inl rfl))
        (pss_cons (ps_set (i := 8) sc_law.nd rfl (.inl rfl) (pe_call G_l_is_way hr (by rfl) T.g_l_is_way T.F_l_is_way.kp T.b_l_is_way .nil pass0 (pa_cons (pv 3) (pa_cons (pv 7) pa_nil))))
        (pss_one (ps_for PassesOwn.never rfl (pi_list (pe_lst (pa_cons (pe_call G_is_way hr (by rfl) T.g_is_way T.F_is_way.kp T.b_is_way .nil pass0 (pa_cons (pv 3) (pa_cons (pv 7) pa_nil))) (pa_cons (pe_call G_is_way hr (by rfl) T.g_is_way T.F_is_way.kp T.b_is_way .nil pass0 (pa_cons (pv 3) (pa_cons (pv 7) pa_nil))) pa_nil)))) (pg_name (i := 9) sc_law.nd rfl (.inl rfl))
          (pss_one (ps_if (PW.pt (pw_or (pt_not (pt_val (pe_callB (r := rIsi K) call_isi (by rfl) T.z_isinstance (by decide +kernel) (pa_cons (pv 9) (pa_cons (pe_bltn (v := .ty "bool") (by rfl) T.z_bool (by decide +kernel) rfl) pa_nil))))) (pw_or1 (pt_cmpR op_ne (pv 9) (pv 8) (nomark _)))))
            (pss_one (ps_ret (pe_bl)))
            pss_nil)))))))))))))
    (pss_one (ps_ret (pe_bl))))
      , ?_⟩
    have lenV : (ns.map V.int).length = ns.length := List.length_map _
    refine ⟨.ref a, rfl, a, _, rfl, .inl hS, 4, _, rfl, 2, _, rfl, _, rfl, ?_, ?_, ?_⟩
    · rw [lenV]
      split <;> split <;> omega
    · rw [lenV]
      split <;> split <;> omega
    · obtain ⟨n, en, hn⟩ : ∃ n : Nat, (if (if ((ns.map V.int).length : Int) < 4 then ((ns.map V.int).length : Int) else 4) > 2 then (if ((ns.map V.int).length : Int) < 4 then ((ns.map V.int).length : Int) else 4) else 2) = (n : Int) ∧ n ≤ 4 := by
        rw [lenV]
        refine ⟨(if (if (ns.length : Int) < 4 then (ns.length : Int) else 4) > 2 then (if (ns.length : Int) < 4 then (ns.length : Int) else 4) else 2).toNat, ?_, ?_⟩
        · split <;> split <;> omega
        · split <;> split <;> omega
      rw [en, Int.toNat_natCast]
      refine for_range (lo := 0) (n := n) (fun i σ H3 => ∃ (y1 y2 y3 y4 y5 y6 y7 y8 y9 : Option V), σ = [some (.ref a), y1, y2, y3, y4, y5, y6, y7, y8, y9, none] ∧ Same H H3)
        ⟨none, none, none, none, none, none, none, none, none, rfl, .refl _⟩ (fun i σ H3 hi hp => ?_) (fun σ H3 hp => ?_)
      · obtain ⟨y1, y2, y3, y4, y5, y6, y7, y8, y9, rfl, s3⟩ := hp
        have hS3 : SqL K H3 a (ns.map V.int) := sq_same s3 hS
        refine ⟨.ref a, rfl, .int (0 + (i : Int)), rfl, a, ns, i, by rw [Int.zero_add]; rfl, hS3, by omega, fun H4 p s4 np b4 => ?_⟩
        have nHp : H p = none := up0 s3 np
        have s04 := s3.trans s4
        refine ⟨.ref p, rfl, p, rfl, b4, fun H5 r nt wy ls zs qs J tis sts jns rws k5 b5 er hnet hwy hok pS pJ pR => ?_⟩
        refine ⟨r, _, rfl, SqT.of er, rfl, _, _, rfl, _, [], rfl, rfl, ?_⟩
        have hN := net_nw hok pS pJ pR
        refine ⟨fun σ H6 => ∃ (nt wy : Addr) (ls : List Nm) (sts : List (Nm × Nm)) (jns : List (Nm × List Nm)) (tis : List Ti) (ws : List Nm), σ = [some (.ref a), some (.int (0 + (i : Int))), some (.ref p), some (.ref nt), some (.ref wy), y5, y6, y7, y8, y9, none] ∧ Keep p H4 H6 ∧ Bag H6 p ∧ NetAt H6 nt ls sts jns tis ∧ TpF H6 wy (ws.map nS) ∧ NW sts jns tis ws, ?_, fun σ H6 mid => ?_⟩
        · refine ⟨.ref p, rfl, p, 6, rfl, b5, by decide, by decide, fun H6 d k6 b6 d0 d1 => ⟨rfl, _, rfl, ite2 (fun c => ?_) (fun c => ?_)⟩⟩
          · refine ⟨.ref p, rfl, p, rfl, b6, fun H7 r nt wy ls sts jns tis ws k7 b7 er hnet hwy hN => ?_⟩
            exact ⟨r, _, rfl, SqT.of er, rfl, _, _, rfl, _, [], rfl, rfl, nt, wy, ls, sts, jns, tis, ws, rfl, k5.trans (k6.trans k7), b7, hnet, hwy, hN⟩
          · exact ⟨nt, wy, ls, sts, jns, rws, _, rfl, k5.trans k6, b6, hnet.tk (.keep k6 b5), hwy.keep k6 b5, hN⟩
        clear hN pS pJ pR hok hwy hnet er b5 k5 r nt wy ls zs qs J tis sts jns rws H5
        obtain ⟨nt, wy, ls, sts, jns, tis, ws, rfl, k6, b6, hnet, hwy, hN⟩ := mid
        obtain ⟨ts, hw⟩ := hN.way
        have hti : ∀ t ∈ tis, IsNm t.a ∧ IsNm t.b ∧ IsNm t.ln ∧ t.a ≠ t.b := fun t ht => ⟨(hw.ti t ht).1, (hw.ti t ht).2.1, (hw.ti t ht).2.2.1, (hw.ti t ht).2.2.2.1⟩
        have s06 : Same H H6 := fun c o e => k6 _ _ (ne_of_none e nHp) (s04 _ _ e)
        clear k6 s04 s4 b4 hS3
        -- things
        refine ⟨.ref p, rfl, p, rfl, b6, fun H7 v d k7 b7 hv okd layd => ⟨.ref wy, rfl, .ref wy, rfl, wy, _, rfl, hwy.keep k7 b6, fun rv H8 nrv s8 hrv => ⟨three_sz, fun L nL => ?_⟩⟩⟩
        have sL := same_upd (o := .lst [v, .ref wy, .ref rv]) nL
        have b8 := b7.keep s8
        have nLp := b8.ne nL
        have hwy8 := (hwy.keep k7 b6).same s8
        have nL0 : H L = none := by
          have s08 : Same H H8 := fun c o e => s8 _ _ (k7 _ _ (ne_of_none e nHp) (s06 _ _ e))
          exact up0 s08 nL
        have hv8 : TD (fun a => a ≠ p ∧ a ≠ L) H8 v d := TD.mono (S := fun a => H6 a = none ∧ a ≠ L) ⟨(hv.same s8).off nL, okd⟩ fun a z => ⟨b6.ne z.1, z.2⟩
        have hTh : ThL p (upd H8 L (.lst [v, .ref wy, .ref rv])) L 3 := by
          refine ⟨_, [d, strD ws, strD ws.reverse], upd_same, ?_, Nat.le_refl _⟩
          refine .cons (hv8.same sL) (.cons (td_way (hwy8.same sL) (by have := hw.l28; omega) hw.nm) (.cons (td_way (ws := ws.reverse) (by rw [List.map_reverse]; exact hrv.same sL) (by rw [List.length_reverse]; have := hw.l28; omega) fun z hz => hw.nm z (List.mem_reverse.mp hz)) .nil))
        have k69 : Keep p H6 (upd H8 L (.lst [v, .ref wy, .ref rv])) := k7.trans (.of (s8.trans sL))
        have b9 := b8.keep sL
        generalize upd H8 L (.lst [v, .ref wy, .ref rv]) = H9 at hTh k69 b9 ⊢
        have s09 : Same H H9 := fun c o e => k69 _ _ (ne_of_none e nHp) (s06 _ _ e)
        have hnet9 := hnet.tk (.keep k69 b6)
        have hwy9 := hwy.keep k69 b6
        clear hv hv8 sL hrv s8 k7 b7 nrv nL
        -- three ways
        refine ⟨.ref wy, rfl, .ref p, rfl, .ref nt, rfl, .ref wy, rfl, p, nt, wy, ls, sts, jns, tis, ws, ts, rfl, b9, hnet9, hwy9, hw, hN.ste, hN.nd, hN.s1, hN.s100, hN.snm, fun H10 w1 ws1 ts1 k10 b10 hw1 hwo1 ste1 nd1 => ?_⟩
        refine ⟨.ref p, rfl, .ref nt, rfl, .ref wy, rfl, p, nt, wy, ls, sts, jns, tis, ws, ts, rfl, b10, hnet9.tk (.keep k10 b9), hwy9.keep k10 b9, hw, hN.ste, hN.nd, hN.s1, hN.s100, hN.snm, fun H11 w2 ws2 ts2 k11 b11 hw2 hwo2 ste2 nd2 => ⟨three_sz, fun O nO => ⟨O, rfl, ⟨_, SqL.of upd_same⟩, ?_⟩⟩⟩
        have sO := same_upd (o := .lst [.ref wy, .ref w1, .ref w2]) nO
        have nOp := b11.ne nO
        have nOL : O ≠ L := by
          obtain ⟨_, _, e, _⟩ := hTh.keep (k10.trans k11) b9 nLp
          exact (ne_of_none e nO).symm
        have k912 : Keep p H9 (upd H11 O (.lst [.ref wy, .ref w1, .ref w2])) := k10.trans (k11.trans (.of sO))
        have eO : (upd H11 O (.lst [.ref wy, .ref w1, .ref w2])) O = some (.lst ([wy, w1, w2].map V.ref)) := upd_same
        have p3 : Paired (fun c wz => TpF (upd H11 O (.lst [.ref wy, .ref w1, .ref w2])) c (wz.map nS) ∧ NW sts jns tis wz) [wy, w1, w2] [ws, ws1, ws2] :=
          .cons ⟨hwy9.keep k912 b9, hN⟩ (.cons ⟨(hw1.keep k11 b10).same sO, hN.to hwo1 ste1 nd1⟩ (.cons ⟨hw2.same sO, hN.to hwo2 ste2 nd2⟩ .nil))
        have b12 := b11.keep sO
        generalize upd H11 O (.lst [.ref wy, .ref w1, .ref w2]) = H12 at k912 eO p3 b12 ⊢
        have vl3 : [wy, w1, w2].length = 3 := rfl
        generalize [wy, w1, w2] = va at eO p3 vl3
        generalize [ws, ws1, ws2] = wl at p3
        have s012 : Same H H12 := fun c o e => k912 _ _ (ne_of_none e nHp) (s09 _ _ e)
        have hnet12 := hnet9.tk (.keep k912 b9)
        have hTh12 := hTh.keep k912 b9 nLp
        refine for_it (walk_list (xs := va.map V.ref)) (fun j σ H13 => ∃ (y6 y7 y8 y9 : Option V), σ = [some (.ref a), some (.int (0 + (i : Int))), some (.ref p), some (.ref nt), some (.ref wy), some (.ref L), y6, y7, y8, y9, none] ∧ KK p L H12 H13 ∧ Bag H13 p ∧ ThL p H13 L (3 + 4 * j))
          ⟨_, _, _, _, rfl, fun _ _ _ _ e => e, b12, hTh12⟩ (fun j σ H13 _ hp => ?_) (fun j v σ H13₀ H13 hj hp yy => ?_) (fun σ H13 hp => ?_)
        · obtain ⟨_, _, _, _, _, k13, _⟩ := hp
          exact SqL.of (k13 _ _ nOp nOL eO)
        · obtain ⟨rfl, ex⟩ := yy
          obtain ⟨y6, y7, y8, y9, rfl, k13, b13, hTh13⟩ := hp
          rw [List.length_map] at hj
          obtain ⟨u, eu, rfl⟩ : ∃ u, va[j]? = some u ∧ v = .ref u := by
            rw [List.getElem?_map] at ex
            cases h : va[j]? with
            | none => rw [h] at ex; cases ex
            | some t => rw [h] at ex; exact ⟨t, rfl, (Option.some.inj ex).symm⟩
          obtain ⟨wz, _, hu⟩ := paired_get p3 eu
          have hNz := hu.2
          have tk13 : TK H12 H13 := by
            obtain ⟨_, _, e, _⟩ := hTh12
            exact k13.tk b12 e
          have hu13 := hu.1.tk tk13
          have hnet13 := hnet12.tk tk13
          obtain ⟨tz, hwz⟩ := hNz.way
          refine ⟨.ref nt, rfl, .ref u, rfl, SA, nt, .ref u, strD wz, ls, sts, jns, tis, rfl, hnet13, td_way hu13 (by have := hwz.l28; omega) hwz.nm, hN.s100, hw.t40, hti, hN.snm, fun H14 bb s14 hbb => ?_⟩
          have := hbb.mpr hNz.is
          subst this
          refine ⟨true, true, rfl, rfl, _, rfl, iteF ?_⟩
          have b14 := b13.keep s14
          have hTh14 := hTh13.same s14
          have hnet14 := hnet13.tk (.of s14)
          have hu14 := hu13.same s14
          obtain ⟨vs, ds, eL, hvs, vl⟩ := id hTh14
          refine ⟨.ref L, rfl, .inl ⟨rfl, _, SqL.of eL⟩, 4, rfl, by decide, by decide, fun B nB => ?_⟩
          have nBp := b14.ne nB
          have nBL : B ≠ L := (ne_of_none eL nB).symm
          refine lc_it walk_range (fun m H15 => Keep p H14 H15 ∧ Bag H15 p ∧ ∃ ws ds, H15 B = some (.lst ws) ∧ Paired (TD (fun a => a ≠ p ∧ a ≠ L ∧ a ≠ B) H15) ws ds ∧ ws.length = m) ⟨.of (same_upd nB), b14.keep (same_upd nB), [], [], upd_same, .nil, rfl⟩ (fun _ _ _ _ => trivial) (fun m v H15₀ H15 hm pv yy => ?_) (fun H15 pv => ?_)
          · obtain ⟨rfl, rfl⟩ := yy
            obtain ⟨k15, b15, ws, ds', eB, hws, wl15⟩ := pv
            have hm : m < 4 := hm
            have eL15 := k15 _ _ nLp eL
            refine ⟨rfl, yes_ ⟨.ref p, rfl, .ref nt, rfl, .ref u, rfl, p, nt, u, ls, sts, jns, tis, wz, rfl, b15, hnet14.tk (.keep k15 b14), hu14.keep k15 b14, hNz, fun H16 v d k16 b16 htd => ?_⟩⟩
            have eB16 := k16 _ _ nBp eB
            have htd := htd.mono (S' := fun a => a ≠ p ∧ a ≠ L ∧ a ≠ B) fun a n => ⟨b15.ne n, (ne_of_none eL15 n).symm, (ne_of_none eB n).symm⟩
            have tdS : ∀ {x : V} {d : PyData} (ys : List V), TD (fun a => a ≠ p ∧ a ≠ L ∧ a ≠ B) H16 x d → TD (fun a => a ≠ p ∧ a ≠ L ∧ a ≠ B) (upd H16 B (.lst (ws ++ ys))) x d := fun {x} {d} ys h => ⟨h.1.mono (fun _ z => z) (fun a o n e => by rw [upd_ne n.2.2]; exact e) fun a xs t => t.set eB16, h.2⟩
            exact ⟨_, eB16, by rw [wl15]; exact small5000 (by omega), (k15.trans k16).set nB, b16.at (upd_ne nBp.symm), ws ++ [v], ds' ++ [d], upd_same, paired_snoc (paired_imp hws fun x _ e h => tdS _ (h.keep k16 b15 fun _ z => z.1)) (tdS _ htd), by rw [List.length_append, wl15]; rfl⟩
          obtain ⟨k15, b15, ws, ds', eB, hws, wl15⟩ := pv
          have wl15 : ws.length = 4 := wl15
          have eL15 := k15 _ _ nLp eL
          refine ⟨L, B, vs, ws, rfl, rfl, eL15, eB, ?_, ?_⟩
          · rw [wl15]
            have : j < 3 := by omega
            exact Nat.le_of_lt (small5000 (by omega))
          have tdL : ∀ {x : V} {d : PyData}, TD (fun a => a ≠ p ∧ a ≠ L) H15 x d → TD (fun a => a ≠ p ∧ a ≠ L) (upd H15 L (.lst (vs ++ ws))) x d := fun {x} {d} h => ⟨h.1.mono (fun _ z => z) (fun a o n e => by rw [upd_ne n.2]; exact e) fun a xs t => t.set eL15, h.2⟩
          refine ⟨_, _, _, _, rfl, k13.trans ((KK.of ((Keep.of s14).trans k15)).trans .upd), b15.at (upd_ne nLp.symm), vs ++ ws, ds ++ ds', upd_same, paired_append (paired_imp hvs fun x _ e h => tdL (h.keep k15 b14 fun _ z => z.1)) (paired_imp hws fun x _ e h => tdL (h.mono fun a z => ⟨z.1, z.2.1⟩)), by rw [List.length_append, wl15]; omega⟩
        · obtain ⟨y6, y7, y8, y9, rfl, k13, b13, hTh13⟩ := hp
          have s013 : Same H H13 := fun c o e => k13 _ _ (ne_of_none e nHp) (ne_of_none e nL0) (s012 _ _ e)
          have tk13 : TK H12 H13 := by
            obtain ⟨_, _, e, _⟩ := hTh12
            exact k13.tk b12 e
          have hnet13 := hnet12.tk tk13
          obtain ⟨vs, ds, eL, hvs, vl⟩ := hTh13
          refine ⟨.ref L, rfl, L, rfl, ⟨_, SqL.of eL⟩, ?_⟩
          refine for_it (walk_list (xs := vs)) (fun j σ H14 => ∃ (y7 y8 y9 : Option V), σ = [some (.ref a), some (.int (0 + (i : Int))), some (.ref p), some (.ref nt), some (.ref wy), some (.ref L), y6, y7, y8, y9, none] ∧ Same H13 H14)
            ⟨_, _, _, rfl, .refl _⟩ (fun j σ H14 _ hp => ?_) (fun j v σ H14₀ H14 hj hp yy => ?_) (fun σ H14 hp => ?_)
          · obtain ⟨_, _, _, _, s14⟩ := hp
            exact SqL.of (s14 _ _ eL)
          · obtain ⟨rfl, ex⟩ := yy
            obtain ⟨y7, y8, y9, rfl, s14⟩ := hp
            obtain ⟨d, _, hd⟩ := paired_get hvs ex
            have hd14 := hd.same s14
            have hnet14 := hnet13.tk (.of s14)
            refine ⟨.ref nt, rfl, v, rfl, _, nt, v, d, ls, sts, jns, tis, rfl, hnet14, hd14, hN.s100, hw.t40, hti, hN.snm, fun H15 b1 s15 h1 => ?_⟩
            refine ⟨.ref nt, rfl, v, rfl, _, nt, v, d, ls, sts, jns, tis, rfl, hnet14.tk (.of s15), hd14.same s15, hN.s100, hw.t40, hti, hN.snm, fun H16 b2 s16 h2 => ?_⟩
            refine ⟨.ref nt, rfl, v, rfl, _, nt, v, d, ls, sts, jns, tis, rfl, (hnet14.tk (.of s15)).tk (.of s16), (hd14.same s15).same s16, hN.s100, hw.t40, hti, hN.snm, fun H17 b3 s17 h3 => ?_⟩
            have e2 : b2 = b1 := Bool.eq_iff_iff.mpr (h2.trans h1.symm)
            have e3 : b3 = b1 := Bool.eq_iff_iff.mpr (h3.trans h1.symm)
            rw [e2, e3]
            clear e2 e3 h2 h3
            refine ⟨two_sz, fun Tl nTl => ⟨Tl, rfl, ⟨_, SqL.of upd_same⟩, ?_⟩⟩
            have sT := same_upd (o := .lst [.bl b1, .bl b1]) nTl
            have eT : (upd H17 Tl (.lst [.bl b1, .bl b1])) Tl = some (.lst [.bl b1, .bl b1]) := upd_same
            have s1318 := s14.trans (s15.trans (s16.trans (s17.trans sT)))
            generalize upd H17 Tl (.lst [.bl b1, .bl b1]) = H18 at eT s1318 ⊢
            refine for_it (walk_list (xs := [.bl b1, .bl b1])) (fun m σ H19 => ∃ (y9 : Option V), σ = [some (.ref a), some (.int (0 + (i : Int))), some (.ref p), some (.ref nt), some (.ref wy), some (.ref L), y6, some v, some (.bl b1), y9, none] ∧ Same H18 H19)
              ⟨_, rfl, .refl _⟩ (fun m σ H19 _ hp => ?_) (fun m z σ H19₀ H19 hm hp yy => ?_) (fun σ H19 hp => ?_)
            · obtain ⟨_, _, s19⟩ := hp
              exact SqL.of (s19 _ _ eT)
            · obtain ⟨rfl, ez⟩ := yy
              obtain ⟨y9, rfl, s19⟩ := hp
              have ez : z = .bl b1 := by
                match m, ez with
                | 0, ez => exact (Option.some.inj ez).symm
                | 1, ez => exact (Option.some.inj ez).symm
                | m + 2, ez => cases ez
              subst ez
              refine ⟨.bl b1, rfl, .bl b1, .ty "bool", _, _, _, rfl, .ty _, .base (.bl b1), kit_ty (a := "bool") (b := "bool") (r := true) (by decide +kernel), true, rfl, iteF ?_⟩
              refine ⟨.bl b1, rfl, .bl b1, rfl, rfl, _, rfl, ?_⟩
              rw [decide_eq_true rfl]
              exact iteF ⟨_, rfl, s19⟩
            · obtain ⟨y9, rfl, s19⟩ := hp
              exact ⟨_, _, _, rfl, s1318.trans s19⟩
          · obtain ⟨y7, y8, y9, rfl, s14⟩ := hp
            exact ⟨_, _, _, _, _, _, _, _, _, rfl, s013.trans s14⟩
      · obtain ⟨y1, y2, y3, y4, y5, y6, y7, y8, y9, rfl, s3⟩ := hp
        exact q _
end
end Th
namespace Th
open PySem PySem.Spec PyProof.Rows L2
def dd_is_name : He.DefD := ⟨("is_name", none), "is_name", "is_name", defArgs s_is_name, defBody s_is_name, defScope s_is_name, [], []⟩
def dd_is_tuple : He.DefD := ⟨("is_tuple", none), "is_tuple", "is_tuple", defArgs s_is_tuple, defBody s_is_tuple, defScope s_is_tuple, [], []⟩
def dd_all_unlike : He.DefD := ⟨("all_unlike", none), "all_unlike", "all_unlike", defArgs s_all_unlike, defBody s_all_unlike, defScope s_all_unlike, [], []⟩
def dd_tie_between : He.DefD := ⟨("tie_between", none), "tie_between", "tie_between", defArgs s_tie_between, defBody s_tie_between, defScope s_tie_between, [], []⟩
def dd_is_way : He.DefD := ⟨("is_way", none), "is_way", "is_way", defArgs s_is_way, defBody s_is_way, defScope s_is_way, [], []⟩
def dd_ties_along : He.DefD := ⟨("ties_along", none), "ties_along", "ties_along", defArgs s_ties_along, defBody s_ties_along, defScope s_ties_along, [], []⟩
def dd_l_bag : He.DefD := ⟨("_law_bag", none), "_law_bag", "_law_bag", defArgs s_l_bag, defBody s_l_bag, defScope s_l_bag, [], []⟩
def dd_l_take : He.DefD := ⟨("_law_take", none), "_law_take", "_law_take", defArgs s_l_take, defBody s_l_take, defScope s_l_take, [], []⟩
def dd_l_names : He.DefD := ⟨("_law_names", none), "_law_names", "_law_names", defArgs s_l_names, defBody s_l_names, defScope s_l_names, [], []⟩
def dd_l_spots : He.DefD := ⟨("_law_spots", none), "_law_spots", "_law_spots", defArgs s_l_spots, defBody s_l_spots, defScope s_l_spots, [], []⟩
def dd_l_places : He.DefD := ⟨("_law_places", none), "_law_places", "_law_places", defArgs s_l_places, defBody s_l_places, defScope s_l_places, [], []⟩
def dd_l_net : He.DefD := ⟨("_law_net", none), "_law_net", "_law_net", defArgs s_l_net, defBody s_l_net, defScope s_l_net, [], []⟩
def dd_l_laid : He.DefD := ⟨("_law_laid", none), "_law_laid", "_law_laid", defArgs s_l_laid, defBody s_l_laid, defScope s_l_laid, [], []⟩
def dd_l_tie : He.DefD := ⟨("_law_tie", none), "_law_tie", "_law_tie", defArgs s_l_tie, defBody s_l_tie, defScope s_l_tie, [], []⟩
def dd_l_walk : He.DefD := ⟨("_law_walk", none), "_law_walk", "_law_walk", defArgs s_l_walk, defBody s_l_walk, defScope s_l_walk, [], []⟩
def dd_l_odd : He.DefD := ⟨("_law_odd", none), "_law_odd", "_law_odd", defArgs s_l_odd, defBody s_l_odd, defScope s_l_odd, [], []⟩
def dd_l_bent : He.DefD := ⟨("_law_bent", none), "_law_bent", "_law_bent", defArgs s_l_bent, defBody s_l_bent, defScope s_l_bent, [], []⟩
def dd_l_is_way : He.DefD := ⟨("_law_is_way", none), "_law_is_way", "_law_is_way", defArgs s_l_is_way, defBody s_l_is_way, defScope s_l_is_way, [], []⟩
def dd_l_long : He.DefD := ⟨("_law_long", none), "_law_long", "_law_long", defArgs s_l_long, defBody s_l_long, defScope s_l_long, [], []⟩
def dd_law : He.DefD := ⟨("law", none), "law", "law", defArgs s_law, defBody s_law, defScope s_law, [], []⟩
def fn : List He.DefD := [dd_is_name, dd_is_tuple, dd_all_unlike, dd_tie_between, dd_is_way, dd_ties_along, dd_l_bag, dd_l_take, dd_l_names, dd_l_spots, dd_l_places, dd_l_net, dd_l_laid, dd_l_tie, dd_l_walk, dd_l_odd, dd_l_bent, dd_l_is_way, dd_l_long, dd_law]
def fa : List He.Fa := .glo "is_name" :: .glo "is_tuple" :: .glo "all_unlike" :: .glo "tie_between" :: .glo "is_way" :: .glo "ties_along" :: .glo "_law_bag" :: .glo "_law_take" :: .glo "_law_names" :: .glo "_law_spots" :: .glo "_law_places" :: .glo "_law_net" :: .glo "_law_laid" :: .glo "_law_tie" :: .glo "_law_walk" :: .glo "_law_odd" :: .glo "_law_bent" :: .glo "_law_is_way" :: .glo "_law_long" :: .glo "law" :: .int "LONGEST_NAME" 8 :: .int "MOST_PLACES" 28 :: .free "abs" :: .free "all" :: .free "bool" :: .free "int" :: .free "isinstance" :: .free "len" :: .free "list" :: .free "max" :: .free "min" :: .free "range" :: .free "set" :: .free "sorted" :: .free "str" :: .free "tuple" :: .free "zip" :: []
abbrev R : PySem.W.OpenRow := PySem.W.OpenLaw.row PySem.Challenge.rw_throughlines_k08_what_is_a_way
abbrev hk : PySem.W.Hook := He.hookD 4 fa fn
def ob (s : PySem.W.SharedT) : He.AlD := He.obsDG 4 fa fn (HandSHeadRun.getT s)
theorem ob_eq (s : PySem.W.SharedT) : ob s = hk.obs s.abs := He.obsDG_eq (HandSHeadRun.getT_eq s)
def loose : List PySem.Str := "is_name" :: "is_tuple" :: "all_unlike" :: "tie_between" :: "is_way" :: "ties_along" :: "_law_bag" :: "_law_take" :: "_law_names" :: "_law_spots" :: "_law_places" :: "_law_net" :: "_law_laid" :: "_law_tie" :: "_law_walk" :: "_law_odd" :: "_law_bent" :: "_law_is_way" :: "_law_long" :: "LONGEST_NAME" :: "MOST_PLACES" :: []
set_option maxHeartbeats 0 in
theorem run (w : World) : HandSHeadRun.RunEq R (PySem.W.view R.prog [25]) hk ob 2000 loose w := by
  intro os
  kernel_rfl
theorem facts {P : Program} {w : World} {K : PySem.W.Frag} {h : Heap} {mg : Str → Option Value} {f : Addr} (X : K.In h) (G : h.Ns mainGlobals mg) (hfa : mg ("law" : Str) = some (.ref f)) (c : He.SaysD fa fn K) :
    ∃ fd : FuncData, (∀ (s : Shared) (v : Value), BindsTo s fd ⟨[v], []⟩ [("_law_script", v)]) ∧ ∀ base : Heap, K.In base → base.Ns mainGlobals mg → FnOk P w K mg base CX0 5 f fd ["_law_script"] (sp_law K) := by
  obtain ⟨d_is_name, F_is_name⟩ := c.def_ 0 (d := dd_is_name) rfl
  have b_is_name : Binds K d_is_name ["thing"] [] := FunD.bindsN F_is_name fun _ _ _ _ _ _ us hl => match us, hl with | [_], _ => rfl
  obtain ⟨d_is_tuple, F_is_tuple⟩ := c.def_ 1 (d := dd_is_tuple) rfl
  have b_is_tuple : Binds K d_is_tuple ["thing", "fewest", "most"] [] := FunD.bindsN F_is_tuple fun _ _ _ _ _ _ us hl => match us, hl with | [_, _, _], _ => rfl
  obtain ⟨d_all_unlike, F_all_unlike⟩ := c.def_ 2 (d := dd_all_unlike) rfl
  have b_all_unlike : Binds K d_all_unlike ["things"] [] := FunD.bindsN F_all_unlike fun _ _ _ _ _ _ us hl => match us, hl with | [_], _ => rfl
  obtain ⟨d_tie_between, F_tie_between⟩ := c.def_ 3 (d := dd_tie_between) rfl
  have b_tie_between : Binds K d_tie_between ["net", "place", "far"] [] := FunD.bindsN F_tie_between fun _ _ _ _ _ _ us hl => match us, hl with | [_, _, _], _ => rfl
  obtain ⟨d_is_way, F_is_way⟩ := c.def_ 4 (d := dd_is_way) rfl
  have b_is_way : Binds K d_is_way ["net", "thing"] [] := FunD.bindsN F_is_way fun _ _ _ _ _ _ us hl => match us, hl with | [_, _], _ => rfl
  obtain ⟨d_ties_along, F_ties_along⟩ := c.def_ 5 (d := dd_ties_along) rfl
  have b_ties_along : Binds K d_ties_along ["net", "way"] [] := FunD.bindsN F_ties_along fun _ _ _ _ _ _ us hl => match us, hl with | [_, _], _ => rfl
  obtain ⟨d_l_bag, F_l_bag⟩ := c.def_ 6 (d := dd_l_bag) rfl
  have b_l_bag : Binds K d_l_bag ["_law_script", "_law_at"] [] := FunD.bindsN F_l_bag fun _ _ _ _ _ _ us hl => match us, hl with | [_, _], _ => rfl
  obtain ⟨d_l_take, F_l_take⟩ := c.def_ 7 (d := dd_l_take) rfl
  have b_l_take : Binds K d_l_take ["_law_bag_here", "_law_many"] [] := FunD.bindsN F_l_take fun _ _ _ _ _ _ us hl => match us, hl with | [_, _], _ => rfl
  obtain ⟨d_l_names, F_l_names⟩ := c.def_ 8 (d := dd_l_names) rfl
  have b_l_names : Binds K d_l_names ["_law_bag_here", "_law_many"] [] := FunD.bindsN F_l_names fun _ _ _ _ _ _ us hl => match us, hl with | [_, _], _ => rfl
  obtain ⟨d_l_spots, F_l_spots⟩ := c.def_ 9 (d := dd_l_spots) rfl
  have b_l_spots : Binds K d_l_spots ["_law_bag_here", "_law_many", "_law_junctions"] [] := FunD.bindsN F_l_spots fun _ _ _ _ _ _ us hl => match us, hl with | [_, _, _], _ => rfl
  obtain ⟨d_l_places, F_l_places⟩ := c.def_ 10 (d := dd_l_places) rfl
  have b_l_places : Binds K d_l_places ["_law_bag_here", "_law_many"] [] := FunD.bindsN F_l_places fun _ _ _ _ _ _ us hl => match us, hl with | [_, _], _ => rfl
  obtain ⟨d_l_net, F_l_net⟩ := c.def_ 11 (d := dd_l_net) rfl
  have b_l_net : Binds K d_l_net ["_law_bag_here"] [] := FunD.bindsN F_l_net fun _ _ _ _ _ _ us hl => match us, hl with | [_], _ => rfl
  obtain ⟨d_l_laid, F_l_laid⟩ := c.def_ 12 (d := dd_l_laid) rfl
  have b_l_laid : Binds K d_l_laid ["_law_bag_here", "_law_lines", "_law_places_here", "_law_ties"] [] := FunD.bindsN F_l_laid fun _ _ _ _ _ _ us hl => match us, hl with | [_, _, _, _], _ => rfl
  obtain ⟨d_l_tie, F_l_tie⟩ := c.def_ 13 (d := dd_l_tie) rfl
  have b_l_tie : Binds K d_l_tie ["_law_net_here", "_law_place", "_law_far"] [] := FunD.bindsN F_l_tie fun _ _ _ _ _ _ us hl => match us, hl with | [_, _, _], _ => rfl
  obtain ⟨d_l_walk, F_l_walk⟩ := c.def_ 14 (d := dd_l_walk) rfl
  have b_l_walk : Binds K d_l_walk ["_law_bag_here", "_law_net_here", "_law_way"] [] := FunD.bindsN F_l_walk fun _ _ _ _ _ _ us hl => match us, hl with | [_, _, _], _ => rfl
  obtain ⟨d_l_odd, F_l_odd⟩ := c.def_ 15 (d := dd_l_odd) rfl
  have b_l_odd : Binds K d_l_odd ["_law_bag_here"] [] := FunD.bindsN F_l_odd fun _ _ _ _ _ _ us hl => match us, hl with | [_], _ => rfl
  obtain ⟨d_l_bent, F_l_bent⟩ := c.def_ 16 (d := dd_l_bent) rfl
  have b_l_bent : Binds K d_l_bent ["_law_bag_here", "_law_net_here", "_law_way"] [] := FunD.bindsN F_l_bent fun _ _ _ _ _ _ us hl => match us, hl with | [_, _, _], _ => rfl
  obtain ⟨d_l_is_way, F_l_is_way⟩ := c.def_ 17 (d := dd_l_is_way) rfl
  have b_l_is_way : Binds K d_l_is_way ["_law_net_here", "_law_thing"] [] := FunD.bindsN F_l_is_way fun _ _ _ _ _ _ us hl => match us, hl with | [_, _], _ => rfl
  obtain ⟨d_l_long, F_l_long⟩ := c.def_ 18 (d := dd_l_long) rfl
  have b_l_long : Binds K d_l_long ["_law_bag_here"] [] := FunD.bindsN F_l_long fun _ _ _ _ _ _ us hl => match us, hl with | [_], _ => rfl
  obtain ⟨d_law, F_law⟩ := c.def_ 19 (d := dd_law) rfl
  obtain ⟨t_LONGEST_NAME, c_LONGEST_NAME⟩ := He.int_ok X G (c.fact 20 (f := .int "LONGEST_NAME" 8) rfl)
  obtain ⟨t_MOST_PLACES, c_MOST_PLACES⟩ := He.int_ok X G (c.fact 21 (f := .int "MOST_PLACES" 28) rfl)
  have T : Defs K mg := {
    a_is_name := _,
    d_is_name := d_is_name,
    F_is_name := F_is_name,
    g_is_name := He.glo_ok X G (c.fact 0 (f := .glo "is_name") rfl),
    b_is_name := b_is_name,
    a_is_tuple := _,
    d_is_tuple := d_is_tuple,
    F_is_tuple := F_is_tuple,
    g_is_tuple := He.glo_ok X G (c.fact 1 (f := .glo "is_tuple") rfl),
    b_is_tuple := b_is_tuple,
    a_all_unlike := _,
    d_all_unlike := d_all_unlike,
    F_all_unlike := F_all_unlike,
    g_all_unlike := He.glo_ok X G (c.fact 2 (f := .glo "all_unlike") rfl),
    b_all_unlike := b_all_unlike,
    a_tie_between := _,
    d_tie_between := d_tie_between,
    F_tie_between := F_tie_between,
    g_tie_between := He.glo_ok X G (c.fact 3 (f := .glo "tie_between") rfl),
    b_tie_between := b_tie_between,
    a_is_way := _,
    d_is_way := d_is_way,
    F_is_way := F_is_way,
    g_is_way := He.glo_ok X G (c.fact 4 (f := .glo "is_way") rfl),
    b_is_way := b_is_way,
    a_ties_along := _,
    d_ties_along := d_ties_along,
    F_ties_along := F_ties_along,
    g_ties_along := He.glo_ok X G (c.fact 5 (f := .glo "ties_along") rfl),
    b_ties_along := b_ties_along,
    a_l_bag := _,
    d_l_bag := d_l_bag,
    F_l_bag := F_l_bag,
    g_l_bag := He.glo_ok X G (c.fact 6 (f := .glo "_law_bag") rfl),
    b_l_bag := b_l_bag,
    a_l_take := _,
    d_l_take := d_l_take,
    F_l_take := F_l_take,
    g_l_take := He.glo_ok X G (c.fact 7 (f := .glo "_law_take") rfl),
    b_l_take := b_l_take,
    a_l_names := _,
    d_l_names := d_l_names,
    F_l_names := F_l_names,
    g_l_names := He.glo_ok X G (c.fact 8 (f := .glo "_law_names") rfl),
    b_l_names := b_l_names,
    a_l_spots := _,
    d_l_spots := d_l_spots,
    F_l_spots := F_l_spots,
    g_l_spots := He.glo_ok X G (c.fact 9 (f := .glo "_law_spots") rfl),
    b_l_spots := b_l_spots,
    a_l_places := _,
    d_l_places := d_l_places,
    F_l_places := F_l_places,
    g_l_places := He.glo_ok X G (c.fact 10 (f := .glo "_law_places") rfl),
    b_l_places := b_l_places,
    a_l_net := _,
    d_l_net := d_l_net,
    F_l_net := F_l_net,
    g_l_net := He.glo_ok X G (c.fact 11 (f := .glo "_law_net") rfl),
    b_l_net := b_l_net,
    a_l_laid := _,
    d_l_laid := d_l_laid,
    F_l_laid := F_l_laid,
    g_l_laid := He.glo_ok X G (c.fact 12 (f := .glo "_law_laid") rfl),
    b_l_laid := b_l_laid,
    a_l_tie := _,
    d_l_tie := d_l_tie,
    F_l_tie := F_l_tie,
    g_l_tie := He.glo_ok X G (c.fact 13 (f := .glo "_law_tie") rfl),
    b_l_tie := b_l_tie,
    a_l_walk := _,
    d_l_walk := d_l_walk,
    F_l_walk := F_l_walk,
    g_l_walk := He.glo_ok X G (c.fact 14 (f := .glo "_law_walk") rfl),
    b_l_walk := b_l_walk,
    a_l_odd := _,
    d_l_odd := d_l_odd,
    F_l_odd := F_l_odd,
    g_l_odd := He.glo_ok X G (c.fact 15 (f := .glo "_law_odd") rfl),
    b_l_odd := b_l_odd,
    a_l_bent := _,
    d_l_bent := d_l_bent,
    F_l_bent := F_l_bent,
    g_l_bent := He.glo_ok X G (c.fact 16 (f := .glo "_law_bent") rfl),
    b_l_bent := b_l_bent,
    a_l_is_way := _,
    d_l_is_way := d_l_is_way,
    F_l_is_way := F_l_is_way,
    g_l_is_way := He.glo_ok X G (c.fact 17 (f := .glo "_law_is_way") rfl),
    b_l_is_way := b_l_is_way,
    a_l_long := _,
    d_l_long := d_l_long,
    F_l_long := F_l_long,
    g_l_long := He.glo_ok X G (c.fact 18 (f := .glo "_law_long") rfl),
    b_l_long := b_l_long,
    t_LONGEST_NAME := t_LONGEST_NAME,
    c_LONGEST_NAME := c_LONGEST_NAME,
    t_MOST_PLACES := t_MOST_PLACES,
    c_MOST_PLACES := c_MOST_PLACES,
    z_abs := He.free_ok X G (c.fact 22 (f := .free "abs") rfl),
    z_all := He.free_ok X G (c.fact 23 (f := .free "all") rfl),
    z_bool := He.free_ok X G (c.fact 24 (f := .free "bool") rfl),
    z_int := He.free_ok X G (c.fact 25 (f := .free "int") rfl),
    z_isinstance := He.free_ok X G (c.fact 26 (f := .free "isinstance") rfl),
    z_len := He.free_ok X G (c.fact 27 (f := .free "len") rfl),
    z_list := He.free_ok X G (c.fact 28 (f := .free "list") rfl),
    z_max := He.free_ok X G (c.fact 29 (f := .free "max") rfl),
    z_min := He.free_ok X G (c.fact 30 (f := .free "min") rfl),
    z_range := He.free_ok X G (c.fact 31 (f := .free "range") rfl),
    z_set := He.free_ok X G (c.fact 32 (f := .free "set") rfl),
    z_sorted := He.free_ok X G (c.fact 33 (f := .free "sorted") rfl),
    z_str := He.free_ok X G (c.fact 34 (f := .free "str") rfl),
    z_tuple := He.free_ok X G (c.fact 35 (f := .free "tuple") rfl),
    z_zip := He.free_ok X G (c.fact 36 (f := .free "zip") rfl) }
  have e := hfa.symm.trans (He.glo_ok X G (c.fact 19 (f := .glo "law") rfl))
  cases e
  have b := FunD.bindsA (ps := ["_law_script"]) F_law fun _ _ _ _ _ _ us hl => match us, hl with | [_], _ => rfl
  exact ⟨d_law, fun s v => b s [v] rfl, fun base _ _ => ok_law F_law T⟩
end Th
open PySem PySem.W PySem.Calls PyProof.Rows
set_option maxHeartbeats 0 in
theorem PySem.Challenge.cw_throughlines_k08_what_is_a_way_holds : PySem.Challenge.rw_throughlines_k08_what_is_a_way.Holds := by
  w_on; o_law
  refine HandSHeadRun.head_any (r := OpenLaw.row PySem.Challenge.rw_throughlines_k08_what_is_a_way) (q := view (OpenLaw.row PySem.Challenge.rw_throughlines_k08_what_is_a_way).prog [25]) (H := Th.hk) (ob := Th.ob) (M := 2000) (loose := Th.loose) (d := HandSHeadRun.topDef (OpenLaw.row PySem.Challenge.rw_throughlines_k08_what_is_a_way).prog 25) (kwd := []) Th.ob_eq
    (by kernel_rfl) (fun s => by kernel_rfl) Th.run (by kernel_rfl) (by kernel_rfl) (by kernel_rfl) (by rfl) (by first | assumption | decide +kernel) (by decide +kernel) ⟨rfl, rfl, rfl, rfl, rfl, by decide +kernel⟩ ?hw ?hc
  case hw => w_witness2
  case hc =>
    refine L2.walk_ofE (l := PySem.Challenge.rw_throughlines_k08_what_is_a_way) (n := 63) (k := 5) (x := "_law_script") (CX := L2.CX0) rfl (by decide) (by kernel_rfl) ⟨rfl, by decide, by decide⟩ ?F (fun _ _ _ _ z => z)
    intro w mg fa h Y G hmg0
    obtain ⟨K, KX, c⟩ := Y
    have hmg : mg ("law" : PySem.Str) = some (.ref fa) := by
      have e : (HandSHeadRun.topDef (OpenLaw.row PySem.Challenge.rw_throughlines_k08_what_is_a_way).prog 25).name = ("law" : PySem.Str) := by kernel_rfl
      rw [← e]
      exact hmg0
    obtain ⟨fd, hb, hF⟩ := Th.facts (P := (PySem.Challenge.rw_throughlines_k08_what_is_a_way).prog) (w := w) KX G hmg c
    exact ⟨K, fd, Th.sp_law K, KX, hb, fun H a ns hl _ hS => ⟨a, ns, rfl, hS, hl, fun _ => rfl⟩, hF⟩
