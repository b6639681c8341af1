import PyProof.Rows.All
import Wide.All
import OpenK.AllK
import Wide.FinOn
import KE.KStateDown
import Lean
import HandS.ForMost
import HandS.More
import HandS.WordsExc
import HandS.Defaults
import HandS.IsInst
import HandS.Zip
import HandS.Walk
import HandS.Wide
import HandS.Flow
import HandS.Evl
import HandS.Strs
import HandS.SetFor
import KE.KDictZip
import KE.KItemsList
import HandS.DictComp
import HandS.Style
import HandS.Set
import HandS.SetBool
import HandS.TupAny
import KE.KDictPairs
import KE.SortData
import HandS.ReCall
import KE.KRevSl
import HandS.Codes
import HandS.DictTup
import HandS.ListItems
import HandS.Head0
import HandS.Head1
import HandS.Head2
import HandS.HeadEnd
import HandS.HeadHook1
import HandS.HeadHook2
import PySem.Challenge.RW_throughlines_k51_whole_losses
set_option Elab.async false
set_option linter.all false
set_option maxRecDepth 100000
set_option maxHeartbeats 4000000
namespace Th
open PySem PySem.Spec PyProof.Rows L2
/-! heaps -/
theorem same_upd {H : Hp} {p : Addr} {o : HO} (h : H p = none) : Same H (upd H p o) := fun b x e => by
  rw [upd_ne (ne_of_none e h)]
  exact e
/-- all but p stays -/
def Keep (p : Addr) (H H' : Hp) : Prop := ∀ b o, b ≠ p → H b = some o → H' b = some o
theorem Keep.refl (p : Addr) (H : Hp) : Keep p H H := fun _ _ _ h => h
theorem Keep.trans {p : Addr} {H H1 H2 : Hp} (a : Keep p H H1) (b : Keep p H1 H2) : Keep p H H2 := fun c o n h => b c o n (a c o n h)
theorem Keep.of {p : Addr} {H H1 : Hp} (a : Same H H1) : Keep p H H1 := fun c o _ h => a c o h
theorem Keep.upd {p : Addr} {H : Hp} {o : HO} : Keep p H (upd H p o) := fun c o n h => by rw [upd_ne n]; exact h
/-- the bag of draws at p -/
def Bag (H : Hp) (p : Addr) : Prop := ∃ g r : Int, H p = some (.lst [.int g, .int r]) ∧ 0 ≤ g ∧ 0 ≤ r ∧ r < 2147483648
theorem Bag.keep {H H' : Hp} {p : Addr} (b : Bag H p) (s : Same H H') : Bag H' p := by
  obtain ⟨g, r, e, h⟩ := b
  exact ⟨g, r, s _ _ e, h⟩
theorem Bag.some {H : Hp} {p : Addr} (b : Bag H p) : ∃ o, H p = Option.some o := by
  obtain ⟨g, r, e, _⟩ := b
  exact ⟨_, e⟩
theorem Bag.ne {H : Hp} {p q : Addr} (b : Bag H p) (h : H q = none) : q ≠ p := by
  obtain ⟨g, r, e, _⟩ := b
  exact (ne_of_none e h).symm
theorem p8 : (0 : Int) < 8 := by decide
theorem pA : (0 : Int) < 2147483647 := by decide
theorem pB : (0 : Int) < 2147483629 := by decide
theorem primes_at (i : Nat) : ∃ pr : Int, atI [V.int 2147483629, .int 2147483587, .int 2147483579, .int 2147483563, .int 2147483549, .int 2147483543, .int 2147483497, .int 2147483489] ((i : Int) % 8) = some (.int pr) ∧ 0 < pr ∧ pr < 2147483648 := by
  have e : ((i : Int) % 8) = ((i % 8 : Nat) : Int) := by omega
  rw [e]
  have h : i % 8 < 8 := Nat.mod_lt _ (by decide)
  generalize i % 8 = j at h
  have c : j = 0 ∨ j = 1 ∨ j = 2 ∨ j = 3 ∨ j = 4 ∨ j = 5 ∨ j = 6 ∨ j = 7 := by omega
  rcases c with rfl | rfl | rfl | rfl | rfl | rfl | rfl | rfl
  all_goals exact ⟨_, atI_nat rfl, by decide, by decide⟩
def sp_bag (K : PySem.W.Frag) : Sp := fun vs H Q _ => ∃ (a : Addr) (ns : List Int) (i : Nat), vs = [.ref a, .int i] ∧ SqL K H a (ns.map V.int) ∧ i < 1000000 ∧ ∀ H' p, Same H H' → H p = none → Bag H' p → Q (.ref p) H'
def sp_take : Sp := fun vs H Q _ => ∃ (p : Addr) (m : Int), vs = [.ref p, .int m] ∧ Bag H p ∧ 0 < m ∧ m < 1073741824 ∧ ∀ H' d, Keep p H H' → Bag H' p → 0 ≤ d → d < m → Q (.int d) H'
/-! data that is tracked, at addresses of which S holds -/
mutual
inductive Dt (S : Addr → Prop) (H : Hp) : V → PyData → Prop
  | non : Dt S H .non .none
  | bl (b : Bool) : Dt S H (.bl b) (.bool b)
  | int (i : Int) : Dt S H (.int i) (.int i)
  | str (x : Str) : Dt S H (.str x) (.str x)
  | lst {a : Addr} {xs : List V} {ds : List PyData} : S a → H a = some (.lst xs) → xs.length ≤ 5000 → DtAll S H xs ds → Dt S H (.ref a) (.list ds)
  | tup {a : Addr} {xs : List V} {ds : List PyData} : S a → H a = some (.tup xs) → xs.length ≤ 5000 → DtAll S H xs ds → Dt S H (.ref a) (.tuple ds)
inductive DtAll (S : Addr → Prop) (H : Hp) : List V → List PyData → Prop
  | nil : DtAll S H [] []
  | cons {v : V} {vs : List V} {d : PyData} {ds : List PyData} : Dt S H v d → DtAll S H vs ds → DtAll S H (v :: vs) (d :: ds)
end
mutual
theorem Dt.mono {S S' : Addr → Prop} {H H' : Hp} (hS : ∀ a, S a → S' a) (hh : ∀ a o, S a → H a = some o → H' a = some o) : ∀ {v : V} {d : PyData}, Dt S H v d → Dt S' H' v d
  | _, _, .non => .non
  | _, _, .bl b => .bl b
  | _, _, .int b => .int b
  | _, _, .str b => .str b
  | _, _, .lst s e l r => .lst (hS _ s) (hh _ _ s e) l (DtAll.mono hS hh r)
  | _, _, .tup s e l r => .tup (hS _ s) (hh _ _ s e) l (DtAll.mono hS hh r)
theorem DtAll.mono {S S' : Addr → Prop} {H H' : Hp} (hS : ∀ a, S a → S' a) (hh : ∀ a o, S a → H a = some o → H' a = some o) : ∀ {v : List V} {d : List PyData}, DtAll S H v d → DtAll S' H' v d
  | _, _, .nil => .nil
  | _, _, .cons a r => .cons (Dt.mono hS hh a) (DtAll.mono hS hh r)
end
mutual
theorem Dt.dp {K : PySem.W.Frag} {S : Addr → Prop} {H : Hp} : ∀ {v : V} {d : PyData}, Dt S H v d → Dp K H v d
  | _, _, .non => .non
  | _, _, .bl b => .bl b
  | _, _, .int b => .int b
  | _, _, .str b => .str b
  | _, _, .lst s e l r => .lst (SqL.of e) (DtAll.dp r)
  | _, _, .tup s e l r => .tup (SqT.of e) (DtAll.dp r)
theorem DtAll.dp {K : PySem.W.Frag} {S : Addr → Prop} {H : Hp} : ∀ {v : List V} {d : List PyData}, DtAll S H v d → DpAll K H v d
  | _, _, .nil => .nil
  | _, _, .cons a r => .cons (Dt.dp a) (DtAll.dp r)
end
abbrev SA : Addr → Prop := fun _ => True
theorem Dt.same {H H' : Hp} {v : V} {d : PyData} (s : Same H H') (h : Dt SA H v d) : Dt SA H' v d := h.mono (fun _ x => x) fun a o _ e => s a o e
theorem DtAll.same {H H' : Hp} {v : List V} {d : List PyData} (s : Same H H') (h : DtAll SA H v d) : DtAll SA H' v d := h.mono (fun _ x => x) fun a o _ e => s a o e
theorem DtAll.len {S : Addr → Prop} {H : Hp} : ∀ {v : List V} {d : List PyData}, DtAll S H v d → v.length = d.length
  | _, _, .nil => rfl
  | _, _, .cons _ r => congrArg Nat.succ r.len
theorem DtAll.get {S : Addr → Prop} {H : Hp} : ∀ {v : List V} {d : List PyData} {i : Nat} {x : V}, DtAll S H v d → v[i]? = some x → ∃ e, d[i]? = some e ∧ Dt S H x e
  | _, _, _, _, .nil, h => by simp at h
  | _, _, 0, _, .cons a r, h => by
    have e := Option.some.inj h
    subst e
    exact ⟨_, rfl, a⟩
  | _, _, i + 1, _, .cons a r, h => r.get (i := i) h
/-! depth, what may be laid -/
theorem depth_mem : ∀ {ds : List PyData} {i : Nat} {d : PyData}, ds[i]? = some d → PyData.depth d ≤ PyData.depthAll ds
  | [], _, _, h => by simp at h
  | x :: xs, 0, d, h => by
    have e := Option.some.inj h
    subst e
    rw [PyData.depthAll]
    exact Nat.le_max_left _ _
  | x :: xs, i + 1, d, h => by
    rw [PyData.depthAll]
    exact Nat.le_trans (depth_mem (i := i) h) (Nat.le_max_right _ _)
theorem lay_mem : ∀ {ds : List PyData} {i : Nat} {d : PyData}, PyData.canLayAll0 ds = true → ds[i]? = some d → PyData.canLay0 d = true
  | [], _, _, _, h => by simp at h
  | x :: xs, 0, d, c, h => by
    have e := Option.some.inj h
    subst e
    rw [PyData.canLayAll0, Bool.and_eq_true_iff] at c
    exact c.1
  | x :: xs, i + 1, d, c, h => by
    rw [PyData.canLayAll0, Bool.and_eq_true_iff] at c
    exact lay_mem (i := i) c.2 h
/-! the types -/
def tyN : PyData → String
  | .none => "NoneType"
  | .bool _ => "bool"
  | .int _ => "int"
  | .str _ => "str"
  | .list _ => "list"
  | .tuple _ => "tuple"
  | .dict _ => "dict"
theorem Dt.ty {K : PySem.W.Frag} {S : Addr → Prop} {H : Hp} {v : V} {d : PyData} (h : Dt S H v d) : TyX K H v (.type (tyN d)) := by
  cases h with
  | non => exact .base .non
  | bl b => exact .base (.bl b)
  | int b => exact .base (.int b)
  | str b => exact .base (.str b)
  | lst s e l r => exact .base (.lst e)
  | tup s e l r => exact .base (.tup e)
def isB : PyData → Bool
  | .bool _ => true
  | _ => false
def isSeq : PyData → Bool
  | .list _ => true
  | .tuple _ => true
  | _ => false
theorem kit_bool {K : PySem.W.Frag} {S : Addr → Prop} {H : Hp} {v : V} {d : PyData} (h : Dt S H v d) : PySem.W.kitOne K (.type (tyN d)) (.type "bool") = some (isB d) := by
  cases h with
  | non => exact kit_ty (a := "NoneType") (b := "bool") (r := false) (by decide +kernel)
  | bl b => exact kit_ty (a := "bool") (b := "bool") (r := true) (by decide +kernel)
  | int b => exact kit_ty (a := "int") (b := "bool") (r := false) (by decide +kernel)
  | str b => exact kit_ty (a := "str") (b := "bool") (r := false) (by decide +kernel)
  | lst s e l r => exact kit_ty (a := "list") (b := "bool") (r := false) (by decide +kernel)
  | tup s e l r => exact kit_ty (a := "tuple") (b := "bool") (r := false) (by decide +kernel)
theorem kit2 {K : PySem.W.Frag} {n : String} (h1 : kitB n "list" = some false) (h2 : kitB n "tuple" = some false) : PySem.W.kitAny K (.type n) [.type "list", .type "tuple"] = some false :=
  kitAny_cons (b := false) (kit_ty h1) (fun _ => kitAny_cons (b := false) (kit_ty h2) (fun _ => kitAny_nil) (fun z => nomatch z)) (fun z => nomatch z)
theorem kit_seq {K : PySem.W.Frag} {S : Addr → Prop} {H : Hp} {v : V} {d : PyData} (h : Dt S H v d) : PySem.W.kitAny K (.type (tyN d)) [.type "list", .type "tuple"] = some (isSeq d) := by
  cases h with
  | non => exact kit2 (n := "NoneType") (by decide +kernel) (by decide +kernel)
  | bl b => exact kit2 (n := "bool") (by decide +kernel) (by decide +kernel)
  | int b => exact kit2 (n := "int") (by decide +kernel) (by decide +kernel)
  | str b => exact kit2 (n := "str") (by decide +kernel) (by decide +kernel)
  | lst s e l r => exact kitAny_cons (b := true) (kit_ty (a := "list") (by decide +kernel)) (fun z => nomatch z) (fun _ => rfl)
  | tup s e l r => exact kitAny_cons (b := false) (kit_ty (a := "tuple") (by decide +kernel)) (fun _ => kitAny_cons (b := true) (kit_ty (a := "tuple") (by decide +kernel)) (fun z => nomatch z) (fun _ => rfl)) (fun z => nomatch z)
/-! zip of two tuples, walked -/
theorem walk_zipT {K : PySem.W.Frag} {a b : Addr} {xs ys : List V} {n : Nat} (hn : n = min xs.length ys.length) : Walk (RZ.ItzT K a b) n (fun H => SqT K H a xs ∧ SqT K H b ys) (YPair (fun i => xs[i]?) (fun i => ys[i]?)) := by
  subst hn
  refine ⟨fun i _ hi q => ?_, fun _ q => ⟨xs, ys, q.1, q.2, by omega⟩, fun i H v H' _ q y => ?_⟩
  · have h1 : i < xs.length := by omega
    have h2 : i < ys.length := by omega
    exact ⟨xs, ys, xs[i], ys[i], q.1, q.2, by simp [h1], by simp [h2]⟩
  · obtain ⟨T, x, z, h1, h2, h3, h4, h5⟩ := y
    exact ⟨T, x, z, h1, h2, h3, h4 xs q.1, h5 ys q.2⟩
theorem yes_ {σ : L2.St} {H : Hp} {A B : Hp → Prop} (h : A H) : tYes σ H fun b H3 => if b = true then A H3 else B H3 := by
  show if true = true then A H else B H
  exact iteT h
theorem small5000 {n : Nat} (h : n ≤ 5000) : n < sizeLine := Nat.lt_of_le_of_lt h (by decide)
/-- told and due are the same data, of a depth below n: True -/
def sp_like (n : Nat) : Sp := fun vs H Q _ => ∃ (v u : V) (d : PyData), vs = [v, u] ∧ Dt SA H v d ∧ Dt SA H u d ∧ d.canLay0 = true ∧ d.depth < n ∧ n ≤ 60 ∧ ∀ H', Same H H' → Q (.bl true) H'
/-- xs[i] read for an augmented store, i from 0 on -/
theorem get_listN {X : Cx} : PGet X (fun o i H Q => ∃ (p : Addr) (xs : List V) (j : Nat) (v : V), o = .ref p ∧ i = .int j ∧ H p = some (.lst xs) ∧ xs[j]? = some v ∧ Q v H) := by
  intro pins s σ H o i ov iv Q I ro ri h
  obtain ⟨p, xs, j, v, rfl, rfl, hp, hx, q⟩ := h
  cases (show ov = Value.ref p from ro)
  obtain ⟨t, rfl⟩ := ri
  obtain ⟨its, r, pl, hz⟩ := I.list (SqL.of hp)
  obtain ⟨u, eu, ru⟩ := r.get hx
  have hj : j < xs.length := (List.getElem?_eq_some_iff.mp hx).1
  have h63 := line63
  exact wpAny_getItem_list pl.isList (by omega) (by omega) (by simpa using eu) ⟨v, H, I, ru, q⟩
/-- the d-th of some whole numbers -/
theorem pick {ms : List Int} {d : Int} (h0 : 0 ≤ d) (h1 : d < ms.length) : ∃ m ∈ ms, atI (ms.map V.int) d = some (.int m) := by
  obtain ⟨j, rfl⟩ : ∃ j : Nat, d = (j : Int) := ⟨d.toNat, by omega⟩
  have hj : j < ms.length := by omega
  refine ⟨ms[j], List.getElem_mem hj, atI_nat ?_⟩
  rw [List.getElem?_map, List.getElem?_eq_getElem hj]
  rfl
theorem Bag.at {H H' : Hp} {p : Addr} (b : Bag H p) (e : H' p = H p) : Bag H' p := by
  obtain ⟨g, r, h, k⟩ := b
  exact ⟨g, r, e.trans h, k⟩
theorem Keep.new {p q : Addr} {H H' : Hp} {o : HO} (k : Keep p H H') (n : H' q = none) : Keep p H (L2.upd H' q o) := k.trans (.of (same_upd n))
theorem Keep.free {p q : Addr} {H H' : Hp} (k : Keep p H H') (b : Bag H p) (h : H' q = none) (b' : Bag H' p) : H q = none := by
  cases e : H q with
  | none => rfl
  | some o =>
    by_cases z : q = p
    · rw [z] at h
      obtain ⟨g, r, e', _⟩ := b'
      rw [e'] at h
      cases h
    · rw [k q o z e] at h
      cases h
theorem rep_one {α : Type} (x : α) (m : Nat) : (List.replicate m [x]).flatten = List.replicate m x := by
  induction m with
  | zero => rfl
  | succ m ih => rw [List.replicate_succ, List.flatten_cons, ih, List.replicate_succ]; rfl
/-! lists of whole numbers as data -/
abbrev dI (zs : List Int) : PyData := .list (zs.map PyData.int)
theorem dtAll_ints {S : Addr → Prop} {H : Hp} : ∀ zs : List Int, DtAll S H (zs.map V.int) (zs.map PyData.int)
  | [] => .nil
  | z :: zs => .cons (.int z) (dtAll_ints zs)
theorem dt_ints {H : Hp} {x : Addr} {zs : List Int} (h : H x = some (.lst (zs.map V.int))) (hl : zs.length ≤ 5000) : Dt SA H (.ref x) (dI zs) := .lst trivial h (by rw [List.length_map]; exact hl) (dtAll_ints zs)
theorem layAll_ints : ∀ zs : List Int, PyData.canLayAll0 (zs.map PyData.int) = true
  | [] => rfl
  | z :: zs => by rw [List.map_cons, PyData.canLayAll0, layAll_ints zs]; rfl
theorem lay_ints (zs : List Int) : (dI zs).canLay0 = true := layAll_ints zs
theorem depthAll_ints : ∀ zs : List Int, PyData.depthAll (zs.map PyData.int) = 0
  | [] => rfl
  | z :: zs => by rw [List.map_cons, PyData.depthAll, depthAll_ints zs]; rfl
theorem depth_ints (zs : List Int) : (dI zs).depth = 1 := by
  show PyData.depthAll (zs.map PyData.int) + 1 = 1
  rw [depthAll_ints]
theorem shaped_ints (zs : List Int) : SeqAt.shaped (dI zs) = true := Bool.and_eq_true_iff.mpr ⟨lay_ints zs, decide_eq_true (by rw [depth_ints]; decide)⟩
theorem eqv_ints (zs : List Int) : PyData.eqv (dI zs) (dI zs) = true := SeqAt.eqv_refl _ (lay_ints zs)
/-! len by a reading that names K -/
def rLenS (K : PySem.W.Frag) : List V → Hp → VK → Prop := fun xs H Q => ∃ (p : Addr) (ys : List V), xs = [.ref p] ∧ (SqL K H p ys ∨ SqT K H p ys) ∧ Q (.int ys.length) H
theorem call_lenS {X : Cx} : CallR X (.builtin "len") (rLenS X.K) := call_len_seq
theorem nn_sum : ∀ {ws : List Int}, (∀ w ∈ ws, 0 ≤ w) → 0 ≤ ws.sum
  | [], _ => by simp
  | w :: ws, h => by
    have h1 := h w (List.mem_cons_self ..)
    have h2 := nn_sum (ws := ws) fun x hx => h x (List.mem_cons_of_mem _ hx)
    rw [List.sum_cons]
    omega
theorem pos_sum : ∀ {ws : List Int} {j : Nat} {x : Int}, (∀ w ∈ ws, 0 ≤ w) → ws[j]? = some x → 0 < x → 0 < ws.sum
  | [], _, _, _, h, _ => by simp at h
  | w :: ws, 0, x, hw, h, hx => by
    have e : w = x := Option.some.inj h
    have h2 := nn_sum (ws := ws) fun x hx => hw x (List.mem_cons_of_mem _ hx)
    rw [List.sum_cons]
    omega
  | w :: ws, j + 1, x, hw, h, hx => by
    have h1 := hw w (List.mem_cons_self ..)
    have h2 := pos_sum (ws := ws) (j := j) (x := x) (fun x hx => hw x (List.mem_cons_of_mem _ hx)) h hx
    rw [List.sum_cons]
    omega
theorem cut_ints (ws : List Int) (lo hi : Option Int) : ∃ ys : List Int, cutV (ws.map V.int) lo hi = ys.map V.int := by
  unfold cutV
  exact ⟨(ws.drop _).take _, by rw [List.map_take, List.map_drop]⟩
end Th
namespace Sl
open PySem PySem.Spec PyProof.Rows L2
/-- the object of a set just made -/
abbrev set0 (w : World) : Obj := { cls := .type "set", dict := none, data := .set #[] 0 (.fresh 0 0 (!w.params.followText "set-order")) }
section
variable {P : Program} {w : World} {A : Around} {E : Value → Shared → Prop} {s : Shared}
set_option maxHeartbeats 8000000 in
/-- set(xs) of a list of whole numbers -/
theorem set_of_ints {l : Addr} {its : Array Value} (ns : List Int) {Q : Value → Shared → Prop} (nh : A.handled = none) (il : s.heap.IsList l its) (ii : IntsAre its.toList ns) (nb : ns.length + 1 < scanBound)
    (fin : ∀ (g : Heap) (tk c : Nat), SetR w g s.heap.objs.size (fun j => decide (j ∈ ns)) c → c ≤ ns.length → (∀ b o, s.heap.get? b = some o → g.get? b = some o) → Q (.ref s.heap.objs.size) { s with heap := g, toks := tk }) :
    wpAny (model P w) A (call (.type "set") [.ref l]) Q E s := by
  have isz : its.size = ns.length := by
    have z := IntsAre.length ii
    rwa [Array.length_toList] at z
  obtain ⟨_, _, mro⟩ := F.called_set.mro
  have m1 := F.called_set.made
  have m2 := F.called_set.sub
  have m3 := F.called_set.notType
  have m4 := F.called_set.canCreate
  have m5 := F.typeCall_set_1 (.ref l)
  refine wpAny_call (codeAny_of_tree (?_ : wpAny _ _ (callAny (.type "set") _) _ _ _))
  refine wpAny_pure ⟨Code.quiet_builtin _ (by decide +kernel), codeAny_builtin F.entry_type_call ?_⟩
  rw [Around.under_plain (weight_type_call_type "set" [.ref l] []) rfl]
  repeat (any_goals (first | assumption | wp_step))
  refine codeAny_mono (code_set_led1 (.ref l) (E := E) (Q₁ := fun ob z => ob = .ref s.heap.objs.size ∧ z = { s with heap := s.heap.push (set0 w) }) ⟨rfl, rfl⟩) fun r z hz => ?_
  cases r with
  | error e => exact hz
  | ok fl =>
    cases fl with
    | ret ob =>
      obtain ⟨rfl, rfl⟩ := hz
      have zS : (s.heap.push (set0 w)).get? s.heap.objs.size = some (set0 w) := Heap.get?_push_size _ rfl
      have zT : Shared.TypeIs { s with heap := s.heap.push (set0 w) } (.ref s.heap.objs.size) "set" := ⟨_, zS, rfl⟩
      have n1 := F.called_set.init.lookup
      have n2 := F.called_set.init.bind (.ref s.heap.objs.size)
      repeat (any_goals (first | assumption | wp_step))
      refine codeAny_mono (codeAny_call_builtin (R := wants (fun r z => r = .none ∧ ∃ g tk c, z = { s with heap := g, toks := tk } ∧ SetR w g s.heap.objs.size (fun j => decide (j ∈ ns)) c ∧ c ≤ ns.length ∧ ∀ b o, s.heap.get? b = some o → g.get? b = some o) E)
        F.called_set.init.plain F.entry_set_init (check_set_init_1 zT ?_)) fun r2 z2 hz2 => ?_
      · obtain ⟨⟨oc, od, odt, osl⟩, ol, c1, nl, c2⟩ := il
        simp only at c1 c2
        subst c1 c2
        have ol2 : (s.heap.push (set0 w)).get? l = some { cls := .type "list", dict := od, data := .seq its nl, slots := osl } := Heap.get?_push_of_some _ ol
        have k1 := F.sub_list_set
        have k2 := F.sub_list_frozenset
        have k3 : (Value.type "list" == Value.type "dict") = false := by decide
        have il2 : (s.heap.push (set0 w)).IsList l its := ⟨_, ol2, rfl, nl, rfl⟩
        unfold Builtin.«set.__init__» noKeywords Builtin.Frozenset.updateFrom
        generalize ePI : pyIter = PI
        wp_walk
        subst ePI
        refine wpAny_pyIter_list il2 (wpAny_bind (wpAny_runValue ?_))
        have lS : l < s.heap.objs.size := Heap.lt_size ol
        have h3 : A.in1.in1.in1.handled = none := by simp [nh]
        have nI : l ≠ (s.heap.push (set0 w)).objs.size := by
          rw [Heap.size_push]
          exact Nat.ne_of_lt (Nat.lt_succ_of_lt lS)
        have nf : s.heap.objs.size ∉ [(s.heap.push (set0 w)).objs.size, l] := by
          rw [Heap.size_push]
          simp only [List.mem_cons, List.not_mem_nil, or_false, not_or]
          exact ⟨Nat.ne_of_lt (Nat.lt_succ_self _), Nat.ne_of_gt lS⟩
        have vl : ∀ (i : Nat) (v : Value), its[i]? = some v → ∃ k t, ns[i]? = some k ∧ v = .int k t := fun i v hv => by
          have hi : i < ns.length := by rw [← isz]; exact (Array.getElem?_eq_some_iff.mp hv).1
          obtain ⟨t, e⟩ := IntsAre.int_at ii i v (by rw [Array.getElem?_toList]; exact hv)
          refine ⟨ns[i], t, List.getElem?_eq_getElem hi, ?_⟩
          rw [e, List.getD_eq_getElem?_getD, List.getElem?_eq_getElem hi] <;> rfl
        refine set_update_ints ((Walks.list h3 _ l nI its).toS) s.heap.objs.size nf ns isz nb vl (its.size - 0) 0 _ (by omega) (Nat.zero_le _) ⟨⟨_, Heap.get?_push_size _ rfl, rfl, rfl⟩, il2.push _⟩ ?zStart ?zEnd
        case zStart => exact ⟨0, Nat.le_refl 0, setR_new_at (Heap.get?_push_of_some _ zS)⟩
        case zEnd =>
          intro z c hm hc hS
          obtain ⟨g, gg, dd, tk, os⟩ := z
          have e1 : gg = s.gens := hm.gens
          have e2 : dd = s.drawn := hm.drawn
          have e3 : os = s.os := hm.os
          subst e1 e2 e3
          refine wpAny_pure (?_ : wpAny _ _ (ret Value.none) _ _ _)
          rw [isz] at hc
          refine wpAny_pure ⟨rfl, g, tk, c, rfl, hS, hc, fun b o e => ?_⟩
          have b0 : b < s.heap.objs.size := Heap.lt_size e
          refine hm.heap b o ?_ (Heap.get?_push_of_some _ (Heap.get?_push_of_some _ e))
          rw [Heap.size_push]
          simp only [List.mem_cons, List.not_mem_nil, or_false, not_or]
          exact ⟨Nat.ne_of_lt b0, Nat.ne_of_lt (Nat.lt_succ_of_lt b0)⟩
      · cases r2 with
        | error e => exact hz2
        | ok f2 =>
          cases f2 with
          | ret r =>
            obtain ⟨rfl, g, tk, c, rfl, q1, q2, q3⟩ := hz2
            repeat (any_goals (first | assumption | wp_step))
            exact fin _ _ _ q1 q2 q3
          | _ => exact hz2.elim
    | _ => exact hz.elim
end
def rSetI (K : PySem.W.Frag) (w : World) : List V → Hp → VK → Prop := fun xs H Q => ∃ (l : Addr) (ns : List Int), xs = [.ref l] ∧ SqL K H l (ns.map V.int) ∧ ns.length ≤ 1000 ∧ ∀ p c, H p = none → c ≤ ns.length → Q (.ref p) (upd H p (SetO w p (fun j => decide (j ∈ ns)) c))
theorem call_setI {X : Cx} (hc : X.calm = true) : CallR X (.type "set") (rSetI X.K X.w) := by
  intro pins s σ H xs us Q I r h
  obtain ⟨l, ns, rfl, hs, hl, q⟩ := h
  rw [Vals.ref1 r]
  obtain ⟨its, rv, pl, hz⟩ := I.list hs
  refine set_of_ints ns (I.ok.hd hc) pl.isList (ints_of_vals rv) (by unfold scanBound; omega) fun g tk c R hcn k => ?_
  exact ⟨.ref _, _, I.laid (t' := tk) k (Nat.le_refl _) (setO_new R), rfl, q _ c (I.hok.fresh (Nat.le_refl _)) hcn⟩
end Sl
/-! list(zip(xs, ys)), xs and ys lists of one length: a new list of new tuples -/
namespace Lz
open PySem PySem.Spec PyProof.Rows L2
theorem no_len : typeLookup (.type "zip") "__len__" = pure none := am_miss_of_fast (by decide +kernel)
theorem no_hint : typeLookup (.type "zip") "__length_hint__" = pure none := am_miss_of_fast (by decide +kernel)
structure ZS (z TI TO i1 i2 l1 l2 S : Addr) (xs ys : Array Value) (i : Nat) (h : Heap) : Prop where
  ti : IsPair h TI (.ref i1) (.ref i2)
  a1 : h.IsListIter i1 l1 i
  a2 : h.IsListIter i2 l2 i
  b1 : h.IsList l1 xs
  b2 : h.IsList l2 ys
  zz : (IsZip h z TI TO .none ∧ ∃ a b, IsPair h TO a b) ∨ ∃ T f oT, IsZipHeld h z TI TO T f ∧ h.get? T = some oT ∧ T ≠ z ∧ T ≠ i1 ∧ T ≠ i2 ∧ T ≠ S
structure Off (z TI TO i1 i2 l1 l2 S : Addr) : Prop where
  z : z ≠ S
  ti : TI ≠ S
  to' : TO ≠ S
  i1 : i1 ≠ S
  i2 : i2 ≠ S
  l1 : l1 ≠ S
  l2 : l2 ≠ S
theorem ZS.frame {z TI TO i1 i2 l1 l2 S : Addr} {xs ys : Array Value} {i : Nat} {h h' : Heap} (O : Off z TI TO i1 i2 l1 l2 S) (st : ZS z TI TO i1 i2 l1 l2 S xs ys i h) (hk : ∀ b o, b ≠ S → h.get? b = some o → h'.get? b = some o) : ZS z TI TO i1 i2 l1 l2 S xs ys i h' := by
  refine ⟨hk _ _ O.ti st.ti, st.a1.at fun o e => hk _ o O.i1 e, st.a2.at fun o e => hk _ o O.i2 e, st.b1.at fun o e => hk _ o O.l1 e, st.b2.at fun o e => hk _ o O.l2 e, ?_⟩
  rcases st.zz with ⟨hz, a, b, hTO⟩ | ⟨T, f, oT, hz, hT, r1, r2, r3, r4⟩
  · exact .inl ⟨hk _ _ O.z hz, a, b, hk _ _ O.to' hTO⟩
  · exact .inr ⟨T, f, oT, hk _ _ O.z hz, hk _ _ r4 hT, r1, r2, r3, r4⟩
structure ZG (xs ys : Array Value) (lo : Addr) (h : Heap) (as : List Addr) : Prop where
  rise : as.Pairwise (· < ·)
  above : ∀ a ∈ as, lo < a
  pairs : ∀ (j : Nat) (a : Addr), as[j]? = some a → ∃ x y, xs[j]? = some x ∧ ys[j]? = some y ∧ h.get? a = some { cls := .type "tuple", data := .seq #[x, y] }
theorem ZG.there {xs ys : Array Value} {lo : Addr} {h : Heap} {as : List Addr} (g : ZG xs ys lo h as) {a : Addr} (ha : a ∈ as) : a < h.objs.size := by
  obtain ⟨j, hj⟩ := List.mem_iff_getElem?.mp ha
  obtain ⟨_, _, _, _, e⟩ := g.pairs j a hj
  exact Heap.lt_size e
section
variable {prog : Program} {w : World} {A : Around} {E : Value → Shared → Prop} {s : Shared} {z TI TO i1 i2 l1 l2 S : Addr} {xs ys : Array Value} {i : Nat}
theorem z_item {x y : Value} {Q : Option Value → Shared → Prop} (D : ZipApart z TI TO i1 i2 l1 l2) (st : ZS z TI TO i1 i2 l1 l2 S xs ys i s.heap) (hS : S < s.heap.objs.size) (ex : xs[i]? = some x) (ey : ys[i]? = some y)
    (hQ : ∀ h', ZS z TI TO i1 i2 l1 l2 S xs ys (i + 1) h' → IsPair h' s.heap.objs.size x y → (∀ c o, c ≠ z → c ≠ TO → c ≠ i1 → c ≠ i2 → s.heap.get? c = some o → h'.get? c = some o) → Q (some (.ref s.heap.objs.size)) { s with heap := h' }) :
    wpAny (model prog w) A (pyNext (.ref z)) Q E s := by
  obtain ⟨hTI, h1, h2, hl1, hl2, hz⟩ := st
  have lt : ∀ {c o}, s.heap.get? c = some o → s.heap.objs.size ≠ c := fun e => Nat.ne_of_gt (Heap.lt_size e)
  have n1 : s.heap.objs.size ≠ i1 := let ⟨_, e, _⟩ := h1; lt e
  have n2 : s.heap.objs.size ≠ i2 := let ⟨_, e, _⟩ := h2; lt e
  rcases hz with ⟨hz, a, b, hTO⟩ | ⟨T, f, oT, hz, hT, r1, r2, r3, r4⟩
  · refine wpAny_pyNext_zip_item D hz hTI hTO h1 h2 hl1 hl2 ex ey fun h' a1 a2 a3 a4 a5 a6 hk => ?_
    exact hQ h' ⟨hk _ _ D.TIz D.TITO D.TIi1 D.TIi2 hTI, a3, a4, hl1.at fun o e => hk _ o D.l1z D.l1TO D.l1i1 D.l1i2 e, hl2.at fun o e => hk _ o D.l2z D.l2TO D.l2i1 D.l2i2 e, .inr ⟨s.heap.objs.size, false, _, a1, a5, lt hz, n1, n2, Nat.ne_of_gt hS⟩⟩ a5 hk
  · refine wpAny_pyNext_zip_item_held D hz hT hTI h1 h2 hl1 hl2 ex ey fun h' a1 a3 a4 a5 a6 hk => ?_
    exact hQ h' ⟨hk _ _ D.TIz D.TIi1 D.TIi2 hTI, a3, a4, hl1.at fun o e => hk _ o D.l1z D.l1i1 D.l1i2 e, hl2.at fun o e => hk _ o D.l2z D.l2i1 D.l2i2 e, .inr ⟨T, true, oT, a1, hk _ _ r1 r2 r3 hT, r1, r2, r3, r4⟩⟩ a5 fun c o c1 _ c3 c4 e => hk c o c1 c3 c4 e
theorem z_done {Q : Option Value → Shared → Prop} (hA : A.handled = none) (D : ZipApart z TI TO i1 i2 l1 l2) (st : ZS z TI TO i1 i2 l1 l2 S xs ys i s.heap) (hend : xs[i]? = none ∨ ys[i]? = none)
    (hQ : ∀ h', (∀ c o, c ≠ z → c ≠ TO → c ≠ i1 → c ≠ i2 → s.heap.get? c = some o → h'.get? c = some o) → Q none { s with heap := h' }) : wpAny (model prog w) A (pyNext (.ref z)) Q E s := by
  obtain ⟨hTI, h1, h2, hl1, hl2, hz⟩ := st
  rcases hz with ⟨hz, a, b, hTO⟩ | ⟨T, f, oT, hz, hT, r1, r2, r3, r4⟩
  · exact wpAny_pyNext_zip_end hA D hz hTI hTO h1 h2 hl1 hl2 hend fun h' hk => hQ h' hk
  · exact wpAny_pyNext_zip_end_held hA D hz hT hTI h1 h2 hl1 hl2 hend fun h' hk => hQ h' fun c o c1 _ c3 c4 e => hk c o c1 c3 c4 e
theorem z_loop {R : Result → Shared → Prop} (hh : A.handled = none) (D : ZipApart z TI TO i1 i2 l1 l2) (O : Off z TI TO i1 i2 l1 l2 S) (lz : z < S) (lt : TO < S) (li1 : i1 < S) (li2 : i2 < S) {n : Nat} (hx : xs.size = n) (hy : ys.size = n) (hn : n ≤ sizeLine) (res : Value) {h₁ : Heap}
    (hR : ∀ h' tk acc c as, (∀ b o, b ≠ S → b ≠ z → b ≠ TO → b ≠ i1 → b ≠ i2 → h₁.get? b = some o → h'.get? b = some o) → h'.get? S = some { cls := .type "list", dict := none, data := .seq acc c, slots := #[] } → as.length = n → ZG xs ys S h' as →
      acc.toList = as.map Value.ref → R (.ok (.ret res)) { s with heap := h', toks := tk }) :
    ∀ (k i : Nat) (h : Heap) (tk c : Nat) (acc : Array Value) (as : List Addr), n - i = k → i ≤ n → ZS z TI TO i1 i2 l1 l2 S xs ys i h → (∀ b o, b ≠ S → b ≠ z → b ≠ TO → b ≠ i1 → b ≠ i2 → h₁.get? b = some o → h.get? b = some o) →
      h.get? S = some { cls := .type "list", dict := none, data := .seq acc c, slots := #[] } → acc.toList = as.map Value.ref → as.length = i → ZG xs ys S h as →
      codeAny (model prog w) A (.builtin "list.extend.loop" ⟨[.ref S, .ref z, res], []⟩) R { s with heap := h, toks := tk } := by
  intro k
  induction k with
  | zero =>
    intro i h tk c acc as hk hi hst hkeep hS hacc hal hG
    refine codeAny_builtin PySem.F.entry_extend_loop ?_
    rw [Around.under_plainId PySem.F.plain_extend_loop _]
    show wpAny _ A.in1 (pyNext (.ref z) >>= _) _ _ _
    refine wpAny_bind (z_done (s := { s with heap := h, toks := tk }) (A := A.in1) hh D hst (.inl (Array.getElem?_eq_none (by omega))) fun h' he => ?_)
    refine wpAny_pure (hR h' tk acc c as (fun b o h1 h2 h3 h4 h5 e => he b o h2 h3 h4 h5 (hkeep b o h1 h2 h3 h4 h5 e)) (he S _ O.z.symm O.to'.symm O.i1.symm O.i2.symm hS) (by omega) ⟨hG.rise, hG.above, fun j a hj => ?_⟩ hacc)
    obtain ⟨x, y, e1, e2, e3⟩ := hG.pairs j a hj
    have ab := hG.above a (List.mem_of_getElem? hj)
    exact ⟨x, y, e1, e2, he a _ (Nat.ne_of_gt (Nat.lt_trans lz ab)) (Nat.ne_of_gt (Nat.lt_trans lt ab)) (Nat.ne_of_gt (Nat.lt_trans li1 ab)) (Nat.ne_of_gt (Nat.lt_trans li2 ab)) e3⟩
  | succ k ih =>
    intro i h tk c acc as hk hi hst hkeep hS hacc hal hG
    have hlt : i < n := by omega
    obtain ⟨x, ex⟩ : ∃ p, xs[i]? = some p := ⟨xs[i], Array.getElem?_eq_getElem (by omega)⟩
    obtain ⟨y, ey⟩ : ∃ p, ys[i]? = some p := ⟨ys[i], Array.getElem?_eq_getElem (by omega)⟩
    have hsz : acc.size = i := by rw [← Array.length_toList, hacc, List.length_map, hal]
    have hSl : S < h.objs.size := Heap.lt_size hS
    refine codeAny_builtin PySem.F.entry_extend_loop ?_
    rw [Around.under_plainId PySem.F.plain_extend_loop _]
    show wpAny _ A.in1 (pyNext (.ref z) >>= _) _ _ _
    refine wpAny_bind (z_item (s := { s with heap := h, toks := tk }) (S := S) D hst hSl ex ey fun h' hst' ht hkp => ?_)
    dsimp only at ht hkp ⊢
    have hS' := hkp S _ O.z.symm O.to'.symm O.i1.symm O.i2.symm hS
    have up : ∀ b o, b ≠ S → h'.get? b = some o → (h'.update S (Obj.mapSeq (·.push (Value.ref h.objs.size)))).get? b = some o := fun b o hb e => (Heap.get?_update_other _ _ (Ne.symm hb)).trans e
    show wpAny _ A.in1 (updateSeq S (·.push (Value.ref h.objs.size)) >>= _) _ _ _
    refine wpAny_bind ?_
    refine wpAny_updateSeq hS' rfl (wpAny_pure ⟨plainId_quiet PySem.F.plain_extend_loop _, ih (i + 1) _ tk _ (acc.push (Value.ref h.objs.size)) (as ++ [h.objs.size]) (by omega) hlt (hst'.frame O up)
      (fun b o h1 h2 h3 h4 h5 e => up b o h1 (hkp b o h2 h3 h4 h5 (hkeep b o h1 h2 h3 h4 h5 e))) (Heap.get?_update_self _ hS' rfl) (by rw [Array.toList_push, hacc, List.map_append]; rfl) (by rw [List.length_append, hal]; rfl) ⟨?_, ?_, ?_⟩⟩) (by rw [hsz]; omega) (by show (acc.push (Value.ref h.objs.size)).size ≤ sizeLine + 1; rw [Array.size_push, hsz]; omega)
    · refine List.pairwise_append.mpr ⟨hG.rise, List.pairwise_singleton _ _, fun a ha b hb => ?_⟩
      rw [List.mem_singleton.mp hb]
      exact hG.there ha
    · intro a ha
      rcases List.mem_append.mp ha with ha | ha
      · exact hG.above a ha
      · rw [List.mem_singleton.mp ha]
        exact hSl
    · intro j b hj
      rcases Nat.lt_trichotomy j as.length with h1 | h1 | h1
      · rw [List.getElem?_append_left h1] at hj
        obtain ⟨x', y', e1, e2, e3⟩ := hG.pairs j b hj
        have ab := hG.above b (List.mem_of_getElem? hj)
        exact ⟨x', y', e1, e2, up b _ (Nat.ne_of_gt ab) (hkp b _ (Nat.ne_of_gt (Nat.lt_trans lz ab)) (Nat.ne_of_gt (Nat.lt_trans lt ab)) (Nat.ne_of_gt (Nat.lt_trans li1 ab)) (Nat.ne_of_gt (Nat.lt_trans li2 ab)) e3)⟩
      · subst h1
        have hb : h.objs.size = b := by simpa using hj
        subst hb
        exact ⟨x, y, by rw [hal]; exact ex, by rw [hal]; exact ey, up _ _ (Nat.ne_of_gt hSl) ht⟩
      · have hnone : (as ++ [h.objs.size])[j]? = none := List.getElem?_eq_none (by rw [List.length_append, List.length_singleton]; omega)
        rw [hnone] at hj
        cases hj
theorem z_hint (hT : s.TypeIs (.ref z) "zip") {Q : Bool → Shared → Prop} (h : Q true s) : wpAny (model prog w) A (Builtin.List.listLengthHint (.ref z)) Q E s := by
  unfold Builtin.List.listLengthHint
  refine wpAny_bind (wpAny_specialOf hT no_len ?_)
  show wpAny _ _ (specialOf (Value.ref z) (Str.ofString "__length_hint__") >>= _) _ _ _
  refine wpAny_bind (wpAny_specialOf hT no_hint ?_)
  exact wpAny_pure h
theorem z_extend {R : Result → Shared → Prop} (hh : A.handled = none) (D : ZipApart z TI TO i1 i2 l1 l2) (O : Off z TI TO i1 i2 l1 l2 S) (lz : z < S) (lt : TO < S) (li1 : i1 < S) (li2 : i2 < S) {n : Nat} (hx : xs.size = n) (hy : ys.size = n) (hn : n ≤ sizeLine) (res : Value) (c₀ : Nat)
    (hz : IsZip s.heap z TI TO .none) (st : ZS z TI TO i1 i2 l1 l2 S xs ys 0 s.heap) (hS : s.heap.get? S = some { cls := .type "list", data := .seq #[] c₀ })
    (hR : ∀ h' tk acc c as, (∀ b o, b ≠ S → b ≠ z → b ≠ TO → b ≠ i1 → b ≠ i2 → s.heap.get? b = some o → h'.get? b = some o) → h'.get? S = some { cls := .type "list", dict := none, data := .seq acc c, slots := #[] } → as.length = n → ZG xs ys S h' as →
      acc.toList = as.map Value.ref → R (.ok (.ret res)) { s with heap := h', toks := tk }) :
    wpAny (model prog w) A.in1 (Builtin.List.listExtendWith (.ref S) (.ref z) res)
      (fun fin s' => match fin with | .done f => R (.ok f) s' | .again c' => c'.quiet = true ∧ codeAny (model prog w) A c' R s') (fun e s' => R (.error e) s') s := by
  have hT : s.TypeIs (.ref z) "zip" := ⟨_, hz, rfl⟩
  have key : ∀ (h : Heap) (c₁ tk : Nat), (∀ b o, b ≠ S → s.heap.get? b = some o → h.get? b = some o) → h.get? S = some { cls := .type "list", data := .seq #[] c₁ } → codeAny (model prog w) A (.builtin "list.extend.loop" ⟨[.ref S, .ref z, res], []⟩) R { s with heap := h, toks := tk } := by
    intro h c₁ tk hk hS₁
    exact z_loop (s := s) (h₁ := s.heap) hh D O lz lt li1 li2 hx hy hn res hR n 0 h tk c₁ #[] [] (Nat.sub_zero _) (Nat.zero_le _) (st.frame O hk) (fun b o hb _ _ _ _ e => hk b o hb e) hS₁ rfl rfl ⟨List.Pairwise.nil, (fun _ ha => nomatch ha), (fun j a hj => by simp at hj)⟩
  unfold Builtin.List.listExtendWith
  refine wpAny_bind (wpAny_typeOf (T := "zip") hT ?_)
  have h1 : Builtin.List.listSameRef (.ref S) (.ref z) = false := by simp [Builtin.List.listSameRef, O.z.symm]
  have h2 : (Value.type "zip" == Value.type "list") = false := by decide
  have h3 : (Value.type "zip" == Value.type "tuple") = false := by decide
  simp only [h1, h2, h3, Bool.or_false, Bool.false_eq_true, if_false]
  refine wpAny_bind (wpAny_pyIter_zip hz ?_)
  refine wpAny_bind (wpAny_holding (z_hint hT ?_))
  refine wpAny_ite_split (fun _ => ?_) (fun _ => wpAny_pure ⟨plainId_quiet PySem.F.plain_extend_loop _, key _ c₀ _ (fun b o _ e => e) hS⟩)
  refine wpAny_bind (wpAny_rule ?_)
  refine wpAny_bind ?_
  show wpAny _ _ (updateSeq S (·.push .none) >>= fun _ => updateSeq S (·.pop)) _ _ _
  refine wpAny_bind (wpAny_updateSeq hS rfl ?_)
  have hS₂ := Heap.get?_update_self (Obj.mapSeq (·.push Value.none)) hS rfl
  refine wpAny_updateSeq (hz := by seq_fits) hS₂ rfl ?_
  have hS₃ := Heap.get?_update_self (Obj.mapSeq (·.pop)) hS₂ rfl
  refine wpAny_pure ⟨plainId_quiet PySem.F.plain_extend_loop _, key _ _ _ (fun b o hb e => ?_) hS₃⟩
  exact (Heap.get?_update_other _ _ (Ne.symm hb)).trans ((Heap.get?_update_other _ _ (Ne.symm hb)).trans e)
theorem z_init {R : Result → Shared → Prop} (hh : A.handled = none) (D : ZipApart z TI TO i1 i2 l1 l2) (O : Off z TI TO i1 i2 l1 l2 S) (lz : z < S) (lt : TO < S) (li1 : i1 < S) (li2 : i2 < S) {n : Nat} (hx : xs.size = n) (hy : ys.size = n) (hn : n ≤ sizeLine)
    (hz : IsZip s.heap z TI TO .none) (st : ZS z TI TO i1 i2 l1 l2 S xs ys 0 s.heap) (hS : s.heap.get? S = some { cls := .type "list", data := .seq #[] })
    (hR : ∀ h' tk acc c as, (∀ b o, b ≠ S → b ≠ z → b ≠ TO → b ≠ i1 → b ≠ i2 → s.heap.get? b = some o → h'.get? b = some o) → h'.get? S = some { cls := .type "list", dict := none, data := .seq acc c, slots := #[] } → as.length = n → ZG xs ys S h' as →
      acc.toList = as.map Value.ref → R (.ok (.ret .none)) { s with heap := h', toks := tk }) :
    wpAny (model prog w) A.in1 (Builtin.«list.__init__» ⟨[.ref S, .ref z], []⟩)
      (fun fin s' => match fin with | .done f => R (.ok f) s' | .again c' => c'.quiet = true ∧ codeAny (model prog w) A c' R s') (fun e s' => R (.error e) s') s := by
  show wpAny _ _ (do let old ← Builtin.List.listItems (.ref S); Builtin.List.listUpdate (.ref S) (fun _ => #[]); letGo old.toList.reverse; Builtin.List.listExtendWith (.ref S) (.ref z) .none) _ _ s
  refine wpAny_bind ?_
  unfold Builtin.List.listItems
  refine wpAny_bind (wpAny_seqItems hS rfl (wpAny_pure ?_))
  show wpAny _ _ (updateSeq S (fun _ => #[]) >>= fun _ => letGo (#[] : Array Value).toList.reverse >>= fun _ => Builtin.List.listExtendWith (.ref S) (.ref z) .none) _ _ s
  refine wpAny_bind (wpAny_updateSeq hS rfl ?_)
  have hS₂ := Heap.get?_update_self (Obj.mapSeq (fun _ => (#[] : Array Value))) hS rfl
  have oth : ∀ b o, b ≠ S → s.heap.get? b = some o → (s.heap.update S (Obj.mapSeq (fun _ => (#[] : Array Value)))).get? b = some o :=
    fun b o hb e => (Heap.get?_update_other _ _ (Ne.symm hb)).trans e
  refine wpAny_bind (wpAny_letGo ?_)
  refine z_extend hh D O lz lt li1 li2 hx hy hn .none _ (oth _ _ O.z hz) (st.frame O oth) hS₂ (fun h' tk acc c as hk hS' hl hG hacc => ?_)
  exact hR h' tk acc c as (fun b o hb h2 h3 h4 h5 e => hk b o hb h2 h3 h4 h5 (oth b o hb e)) hS' hl hG hacc
theorem z_call {Q : Value → Shared → Prop} (hh : A.handled = none) (D : ZipApart z TI TO i1 i2 l1 l2) {n : Nat} (hx : xs.size = n) (hy : ys.size = n) (hn : n ≤ sizeLine)
    (hz : IsZip s.heap z TI TO .none) (hTI : IsPair s.heap TI (.ref i1) (.ref i2)) {va vb : Value} (hTO : IsPair s.heap TO va vb) (h1 : s.heap.IsListIter i1 l1 0) (h2 : s.heap.IsListIter i2 l2 0) (hl1 : s.heap.IsList l1 xs) (hl2 : s.heap.IsList l2 ys)
    (hQ : ∀ h' tk acc c as, (∀ b o, b ≠ z → b ≠ TO → b ≠ i1 → b ≠ i2 → s.heap.get? b = some o → h'.get? b = some o) → h'.get? s.heap.objs.size = some { cls := .type "list", dict := none, data := .seq acc c, slots := #[] } → as.length = n → ZG xs ys s.heap.objs.size h' as →
      acc.toList = as.map Value.ref → Q (.ref s.heap.objs.size) { s with heap := h', toks := tk }) :
    wpAny (model prog w) A (call (.type "list") [.ref z]) Q E s := by
  refine callType_codes (Q₁ := fun obj s₁ => obj = .ref s.heap.objs.size ∧ s₁ = { s with heap := s.heap.push { cls := .type "list", data := .seq #[] } }) PySem.F.called_list (PySem.F.typeCall_list_1 _) PySem.F.entry_list_init
    (code_list_new _ ⟨rfl, rfl⟩) fun obj s₁ h₁ => ?_
  obtain ⟨rfl, rfl⟩ := h₁
  have hS : (s.heap.push { cls := .type "list", data := .seq #[] }).get? s.heap.objs.size = some { cls := .type "list", data := .seq #[] } := Heap.get?_push_size _ rfl
  have lz := Heap.lt_size hz
  have lti := Heap.lt_size hTI
  have lt := Heap.lt_size hTO
  obtain ⟨_, e1, _⟩ := id h1
  obtain ⟨_, e2, _⟩ := id h2
  obtain ⟨_, e3, _⟩ := id hl1
  obtain ⟨_, e4, _⟩ := id hl2
  have li1 := Heap.lt_size e1
  have li2 := Heap.lt_size e2
  have ll1 := Heap.lt_size e3
  have ll2 := Heap.lt_size e4
  have O : Off z TI TO i1 i2 l1 l2 s.heap.objs.size := ⟨Nat.ne_of_lt lz, Nat.ne_of_lt lti, Nat.ne_of_lt lt, Nat.ne_of_lt li1, Nat.ne_of_lt li2, Nat.ne_of_lt ll1, Nat.ne_of_lt ll2⟩
  refine ⟨⟨_, hS, rfl⟩, PySem.F.args_list_init_2 _ _, z_init (A := A.in1) hh D O lz lt li1 li2 hx hy hn (Heap.get?_push_of_some _ hz) ⟨Heap.get?_push_of_some _ hTI, h1.at fun o e => Heap.get?_push_of_some _ e, h2.at fun o e => Heap.get?_push_of_some _ e, hl1.at fun o e => Heap.get?_push_of_some _ e, hl2.at fun o e => Heap.get?_push_of_some _ e, .inl ⟨Heap.get?_push_of_some _ hz, _, _, Heap.get?_push_of_some _ hTO⟩⟩ hS (fun h' tk acc c as hk hS' hl hG hacc => ?_)⟩
  exact ⟨rfl, hQ h' tk acc c as (fun b o b1 b2 b3 b4 e => hk b o (Nat.ne_of_lt (Heap.lt_size e)) b1 b2 b3 b4 (Heap.get?_push_of_some _ e)) hS' hl hG hacc⟩
end
/-- the tuples at their addresses -/
def putP : Hp → List Addr → List (V × V) → Hp
  | H, a :: as, p :: ps => putP (upd H a (.tup [p.1, p.2])) as ps
  | H, _, _ => H
theorem putP_off {b : Addr} : ∀ (as : List Addr) (ps : List (V × V)) (H : Hp), b ∉ as → putP H as ps b = H b
  | [], _, _, _ => rfl
  | _ :: _, [], _, _ => rfl
  | a :: as, p :: ps, H, h => by
    show putP (upd H a (.tup [p.1, p.2])) as ps b = H b
    rw [putP_off as ps _ (fun z => h (List.mem_cons_of_mem _ z)), upd_ne (fun z => h (by rw [z]; exact List.mem_cons_self))]
/-- as many tuples as pairs, each its pair -/
abbrev Tups (H : Hp) : List Addr → List (V × V) → Prop := Paired fun t q => H t = some (.tup [q.1, q.2])
theorem putP_at : ∀ (as : List Addr) (ps : List (V × V)) (H : Hp), as.length = ps.length → as.Nodup → Tups (putP H as ps) as ps
  | [], [], _, _, _ => .nil
  | [], _ :: _, _, h, _ => by cases h
  | _ :: _, [], _, h, _ => by cases h
  | a :: as, p :: ps, H, h, hn => by
    have hn' := List.nodup_cons.mp hn
    refine .cons ?_ (putP_at as ps (upd H a (.tup [p.1, p.2])) (Nat.succ.inj h) hn'.2)
    show putP (upd H a (.tup [p.1, p.2])) as ps a = some (.tup [p.1, p.2])
    rw [putP_off as ps _ hn'.1, upd_same]
theorem paired_ix {α β : Type} {F : α → β → Prop} : ∀ {xs : List α} {ys : List β}, Paired F xs ys → ∀ {x : α}, x ∈ xs → ∃ (j : Nat) (y : β), xs[j]? = some x ∧ ys[j]? = some y ∧ F x y
  | _, _, .cons h t, x, hx => by
    rcases List.mem_cons.mp hx with e | hx
    · rw [e]
      exact ⟨0, _, rfl, rfl, h⟩
    · obtain ⟨j, y, e1, e2, e3⟩ := paired_ix t hx
      exact ⟨j + 1, y, e1, e2, e3⟩
theorem refs_vals : ∀ as : List Addr, Vals (as.map V.ref) (as.map Value.ref)
  | [] => .nil
  | _ :: as => .cons rfl (refs_vals as)
section
variable {X : Cx}
theorem z_laid {pins : List (Addr × Obj)} {σ : L2.St} {H : Hp} {s : Shared} {h' : Heap} {tk : Nat} {S : Addr} {vs us : List V} {xs ys : List Value} {acc : Array Value} {c : Nat} {as : List Addr} (I : Inv X pins σ H s) (hS0 : s.heap.objs.size ≤ S) (rx : Vals vs xs) (ry : Vals us ys) (hlen : vs.length = us.length) (hz : vs.length ≤ sizeLine)
    (hk : ∀ b o, s.heap.get? b = some o → h'.get? b = some o) (hS : h'.get? S = some { cls := .type "list", dict := none, data := .seq acc c, slots := #[] }) (hl : as.length = vs.length) (hG : ZG xs.toArray ys.toArray S h' as) (hacc : acc.toList = as.map Value.ref) :
    ∃ H' : Hp, Same H H' ∧ H S = none ∧ (∀ t ∈ as, H t = none) ∧ S ∉ as ∧ as.Nodup ∧ H' S = some (.lst (as.map V.ref)) ∧ Tups H' as (vs.zip us) ∧ Inv X pins σ H' { s with heap := h', toks := tk } := by
  have hSn : S ∉ as := fun z => Nat.lt_irrefl _ (hG.above _ z)
  have nd : as.Nodup := List.Pairwise.imp (fun {a b} (h : a < b) => Nat.ne_of_lt h) hG.rise
  have new : ∀ t ∈ as, H t = none := fun t ht => I.hok.fresh (Nat.le_trans hS0 (Nat.le_of_lt (hG.above t ht)))
  have newS : H S = none := I.hok.fresh hS0
  have lz : (vs.zip us).length = vs.length := by rw [List.length_zip]; omega
  have atP := putP_at as (vs.zip us) (upd H S (.lst (as.map V.ref))) (by omega) nd
  have off : ∀ b, b ∉ as → b ≠ S → putP (upd H S (.lst (as.map V.ref))) as (vs.zip us) b = H b := fun b h1 h2 => by rw [putP_off as _ _ h1, upd_ne h2]
  have low : ∀ b o, s.heap.get? b = some o → b ∉ as ∧ b ≠ S := fun b o e => ⟨fun z => absurd (Heap.lt_size e) (Nat.not_lt.mpr (Nat.le_trans hS0 (Nat.le_of_lt (hG.above b z)))), Nat.ne_of_lt (Nat.lt_of_lt_of_le (Heap.lt_size e) hS0)⟩
  have kp : ∀ b u, H b = some u → (putP (upd H S (.lst (as.map V.ref))) as (vs.zip us)) b = some u := fun b u e => by
    rw [off b (fun z => by rw [new b z] at e; cases e) (fun z => by rw [z, newS] at e; cases e)]
    exact e
  have eS : putP (upd H S (.lst (as.map V.ref))) as (vs.zip us) S = some (.lst (as.map V.ref)) := by rw [putP_off as _ _ hSn, upd_same]
  refine ⟨putP (upd H S (.lst (as.map V.ref))) as (vs.zip us), kp, newS, new, hSn, nd, eS, atP, ?_⟩
  refine I.call' (ch := []) rfl ⟨fun b o q _ _ _ => hk b o q, fun b o q _ _ _ => ⟨o.slots, hk b o q⟩, fun b o q n _ => ?_, fun b o q _ => ⟨o, hk b o q⟩, fun b xs q => kp b _ q, fun b o u q => kp b _ q, fun b ps q => ⟨#[], by rw [kp b _ q]; simp⟩⟩ (fun b u q => ?_) I.bare fun b z => by simp at z
  · obtain ⟨z1, z2⟩ := low b o q
    rw [off b z1 z2]
    exact n
  · by_cases hb : b ∈ as
    · obtain ⟨j, pk, e1, e2, e3⟩ := paired_ix atP hb
      rw [e3] at q
      cases q
      obtain ⟨x, y, f1, f2, f3⟩ := hG.pairs j b e1
      rw [List.getElem?_zip_eq_some] at e2
      obtain ⟨x', g1, r1⟩ := rx.get e2.1
      obtain ⟨y', g2, r2⟩ := ry.get e2.2
      have f1 : xs[j]? = some x := by simpa using f1
      have f2 : ys[j]? = some y := by simpa using f2
      rw [f1] at g1
      rw [f2] at g2
      cases g1
      cases g2
      exact ⟨by show 2 ≤ sizeLine; decide, [x, y], .cons r1 (.cons r2 .nil), ⟨_, f3, rfl, _, rfl⟩⟩
    · by_cases hb2 : b = S
      · rw [hb2] at q ⊢
        rw [eS] at q
        cases q
        refine ⟨by rw [List.length_map]; omega, acc.toList, c, by rw [hacc]; exact refs_vals as, ?_⟩
        rw [Array.toArray_toList]
        exact hS
      · rw [off b hb hb2] at q
        exact (I.hok b u q).stay (fun d v _ y => hk d v y) (fun d y => kp d _ y) fun d xs y => kp d _ y
/-- list(zip(xs, ys)) -/
def tListZip (K : PySem.W.Frag) (ta : TA) : TE := fun σ H Q => ta σ H fun vs H1 => ∃ (a b : Addr) (xs ys : List V), vs = [.ref a, .ref b] ∧ SqL K H1 a xs ∧ SqL K H1 b ys ∧ xs.length = ys.length ∧ xs.length ≤ 5000 ∧
  ∀ (H' : Hp) (p : Addr) (ts : List Addr), Same H1 H' → H1 p = none → (∀ t ∈ ts, H1 t = none) → p ∉ ts → ts.Nodup → H' p = some (.lst (ts.map V.ref)) → Tups H' ts (xs.zip ys) → Q (.ref p) H'
theorem pe_listZip {e1 e2 : Expr} {ta : TA} {p p2 pos pos2 : Pos} (hcalm : X.calm = true) (hg : Gl X "list") (hm : X.mg "list" = none) (hgz : Gl X "zip") (hmz : X.mg "zip" = none) (ha : PA X [e1, e2] ta)
    (hs : starEach [e1, e2] X.env = (false, eval e1 X.env) :: starEach [e2] X.env := by rfl) (hpl : (backTo pos2 (starEach [e2] X.env)).any (·.1) = false := by rfl) :
    PE X (.Call (.Name "list" p) [.Call (.Name "zip" p2) [e1, e2] [] pos2] [] pos) (tListZip X.K ta) := by
  refine ⟨fun pins s σ H Q I h => ?_⟩
  refine Call_ (ld_blt I hg hm PyProof.Rows.boot_list (PyProof.Rows.callWith_type1 (args_cons (Call_ (ld_blt I hgz hmz PyProof.Rows.boot_zip (PyProof.Rows.callWith_type1 (thn (ha.run pos2 pins s σ H _ I h) fun us s1 ⟨vs, H1, I1, r1, q1⟩ => ?_) hs hpl))) (by rfl)) (by rfl)))
  obtain ⟨a, b, xs, ys, rfl, sa, sb, hl, hk, q⟩ := q1
  obtain ⟨u1, u2, rfl, ra, rb⟩ := vals2 r1
  cases (show u1 = Value.ref a from ra)
  cases (show u2 = Value.ref b from rb)
  obtain ⟨its, rv, p1, _⟩ := I1.list sa
  obtain ⟨its2, rv2, p2', _⟩ := I1.list sb
  have n1 := rv.length
  have n2 := rv2.length
  refine call_zip_2 p1.isList p2'.isList fun h1 hz hTI hTO i1 i2 hsz hk1 => args_nil ?_
  have D := PySem.W.ktu_apart s1.heap.objs.size a b p1.lt p2'.lt
  refine z_call (s := { s1 with heap := h1 }) (n := xs.length) (I1.ok.hd hcalm) D (by rw [List.size_toArray]; omega) (by rw [List.size_toArray]; omega) (Nat.le_trans hk (by decide)) hz hTI hTO i1 i2 (p1.isList.at fun o e => hk1 _ o e) (p2'.isList.at fun o e => hk1 _ o e) fun h' tk acc c as hkp hS hla hG hacc => ?_
  have k : ∀ c o, s1.heap.get? c = some o → h'.get? c = some o := fun c o e => by
    have lt := Heap.lt_size e
    exact hkp c o (Nat.ne_of_lt (Nat.lt_of_lt_of_le lt (Nat.le_add_right _ _))) (Nat.ne_of_lt (Nat.lt_of_lt_of_le lt (Nat.le_add_right _ _))) (Nat.ne_of_lt lt) (Nat.ne_of_lt (Nat.lt_of_lt_of_le lt (Nat.le_add_right _ _))) (hk1 c o e)
  obtain ⟨H', t1, t2, t3, t4, t5, t6, t7, J⟩ := z_laid (tk := tk) I1 (S := h1.objs.size) (by omega) rv rv2 hl (Nat.le_trans hk (by decide)) k hS hla hG hacc
  exact ⟨.ref _, H', J, rfl, q H' _ as t1 t2 t3 t4 t5 t6 t7⟩
end
end Lz
/-! y = {k: v for .. in ..}, y a local name of a def -/
namespace Ds
open PySem PySem.Spec PyProof.Rows L2
section
variable {X : Cx}
theorem ps_setDc {i : Nat} {y : Str} {py : Pos} {kx vx tg iter : Expr} {ifs : List Expr} {scope : Scope} {own : List (Str × Nat)} {pos spos : Pos} {wi : TI} {g : TG} {tt : TT} {tk tv : TE} (hc : X.calm = true) (hN : X.N.Nodup) (hy : X.N[i]? = some y) (hyl : X.env.scope.names.lookup y = some .local)
    (hsw : swapsWith (.DictComp kx vx [⟨tg, iter, ifs, 0⟩] scope pos) (some (.Name y py)) spos.line X.env = pure true) (hi : PI X tg iter wi) (ok : BlkOk X.N X.env.scope scope own)
    (hg : ∀ (s : Shared) (H : Hp) (C : Addr) (cl : List (Str × Addr)) (fp : List Addr), PG (X.blk s H scope (compEnvC scope cl C X.env) fp) tg g) (ht : ∀ (s : Shared) (H : Hp) (C : Addr) (cl : List (Str × Addr)) (fp : List Addr), PTs (X.blk s H scope (compEnvC scope cl C X.env) fp) ifs tt)
    (hk : ∀ (s : Shared) (H : Hp) (C : Addr) (cl : List (Str × Addr)) (fp : List Addr), PE (X.blk s H scope (compEnvC scope cl C X.env) fp) kx tk)
    (he : ∀ (s : Shared) (H : Hp) (C : Addr) (cl : List (Str × Addr)) (fp : List Addr), PE (X.blk s H scope (compEnvC scope cl C X.env) fp) vx tv) (hs : ∀ x, foldedSetIterable iter X.env x = pure x := by intro _; rfl) :
    PS X (.Assign [.Name y py] (.DictComp kx vx [⟨tg, iter, ifs, 0⟩] scope pos) spos) (tAsg (tDc wi g tt tk tv (own.map (·.2))) (gName i)) := by
  refine ⟨fun pins s σ H D I h => ?_⟩
  rw [exec_Assign_Name_used _ _ _ _ hsw]
  refine wpAny_bind (wpAny_standAt (wpAny_bind ?_))
  show wpAny _ X.A (do let _ ← comprehension (.DictComp kx vx [⟨tg, iter, ifs, 0⟩] scope pos) scope X.env (firstIterPos [⟨tg, iter, ifs, 0⟩] pos) newDict false (eval iter X.env) (some (assign (.Name y py) X.env))) _ _ s
  have h : tDc wi g tt tk tv (own.map (·.2)) σ H (fun x H1 => gName i x σ H1 D.nx) := h
  refine wpAny_bind (thn (dc_core (Qf := fun _ s' => SP X pins D .next s') hc hN I hi ok hg ht hk he hs h fun L C s' m H' I' q hn f => ?_) fun _ s' hq => wpAny_pure (wpAny_pure hq))
  show wpAny _ _ (assign (.Name y py) X.env (.ref L)) _ _ _
  refine wpAny_assign_Name (store_ok2 (v := V.ref L) I' hN hy (.inl hyl) rfl (fun s2 I2 ⟨a, sb, ha⟩ => ?_) (.inr hyl))
  obtain ⟨f0, f1, f2, f3, f4, f5⟩ := f
  have haC : C ≠ a := by
    rcases ha with z | z
    · rw [z]; exact f1
    · exact fun e => f4 y a z e.symm
  refine ⟨m, hn.sameBut sb haC, fun h3 sb3 => ?_⟩
  exact ⟨_, H', I2.turned (t' := s2.toks) (fun b o hb e => (sb3.2 b hb).trans e) f0 f1 f3 f4 f5, q⟩
theorem sw_trueD {kx vx : Expr} {gs : List Comprehension} {scope : Scope} {pos py : Pos} {y : Str} {l : Nat} {env : Env} (hk : env.scope.kind = .function) (hy : env.scope.names.lookup y = some .local) (hl : (py.line == pos.line) = true)
    (ha : (scope.names.any fun (n, k) => n == y && (k == .local || k == .cell)) = false) : swapsWith (.DictComp kx vx gs scope pos) (some (.Name y py)) l env = pure true := by
  have ky : env.kindOf y = some .local := hy
  have hb : env.blockKind = .function := by unfold Env.blockKind; rw [hk]; rfl
  unfold swapsWith
  simp only [hb, ky, ha, Expr.pos, hl]
  rfl
end
end Ds
/-! t[1::-1] of a tuple of four: a new tuple of its second and its first thing -/
namespace Rt
open PySem PySem.Spec PyProof.Rows L2 HT
section
variable {prog : Program} {w : World} {A : Around} {E : Value → Shared → Prop} {s : Shared}
theorem applied {sl : Addr} {vl vu vs : Value} {Q : Int × Int × Nat → Shared → Prop} (hs : s.heap.IsSliceOf sl vl vu vs) (pl : IsPart vl (some 1)) (pu : IsPart vu none) (ps : IsPart vs (some (-1)))
    (h : Q (1, -1, 2) s) : wpAny (model prog w) A (Builtin.Slice.sliceApplied (.ref sl) (pure 4)) Q E s := by
  obtain ⟨os, hos, hcs, hds⟩ := id hs
  unfold Builtin.Slice.sliceApplied Builtin.Slice.sliceFields
  refine wpAny_bind (wpAny_bind (wpAny_field hos hds (x := vl) rfl (wpAny_bind (wpAny_field hos hds (x := vu) rfl (wpAny_bind (wpAny_field hos hds (x := vs) rfl (wpAny_pure ?_)))))))
  refine wpAny_bind (slicePart_ ps ?_)
  show wpAny _ _ (if ((-1 : Int) == 0) = true then _ else _) _ _ s
  rw [if_neg (by decide)]
  refine wpAny_bind (slicePart_ pl (wpAny_bind (slicePart_ pu (wpAny_bind (wpAny_pure ?_)))))
  exact wpAny_pure h
theorem item4 {t sl : Addr} {x0 x1 x2 x3 : Value} {vl vu vs : Value} {Q : Value → Shared → Prop} (ht : IsTup s.heap t #[x0, x1, x2, x3]) (hs : s.heap.IsSliceOf sl vl vu vs) (pl : IsPart vl (some 1)) (pu : IsPart vu none) (ps : IsPart vs (some (-1)))
    (h : Q (.ref s.heap.objs.size) { s with heap := s.heap.push { cls := .type "tuple", data := .seq #[x1, x0] } }) : wpAny (model prog w) A (getItem (.ref t) (.ref sl)) Q E s := by
  have htake : sizeOk (.seq #[x1, x0]) := by
    show 2 ≤ sizeLine
    decide
  obtain ⟨os, hos, hcs, hds⟩ := id hs
  have hTs : s.TypeIs (.ref sl) "slice" := ⟨os, hos, hcs⟩
  unfold getItem
  try with_reducible refine wpAny_holding ?_
  first | refine wpAny_bind (wpAny_pure ?_) | skip
  refine wpAny_bind (wpAny_sequenceKey ht.typeIs (by decide) ?_)
  refine wpAny_bind (wpAny_callSpecial?_slot (name := Str.ofString "__getitem__") ht.typeIs PyProof.Rows.slot_tuple_getitem
    (wpAny_call_entry PyProof.Rows.slot_tuple_getitem ht.typeIs entry_tuple_getitem ?_ (args_tuple_getitem _ _)))
  show wpAny _ _ (Builtin.Tuple.tupleItemsOf (.ref t) >>= _) _ _ s
  refine wpAny_bind (tupleItemsOf_ ht ?_)
  refine wpAny_bind (wpAny_typeOf hTs ?_)
  rw [if_pos (by decide)]
  refine wpAny_bind (applied hs pl pu ps ?_)
  show wpAny _ _ (if ((1 : Int) == 0 && (-1 : Int) == 1 && (2 : Nat) == 4) = true then _ else _) _ _ s
  rw [if_neg (by decide)]
  first
    | exact wpAny_bind (m := Builtin.Tuple.tupleExact _) (wpAny_newObj_type (wpAny_pure ⟨_, rfl, wpAny_pure h⟩) htake)
    | exact wpAny_bind (m := Builtin.Tuple.tupleExact _) (wpAny_newObj_type (wpAny_bind (wpAny_pure (wpAny_pure ⟨_, rfl, wpAny_pure h⟩))) htake)
    | exact wpAny_bind (wpAny_bind (m := Builtin.Tuple.tupleExact _) (wpAny_newObj_type (wpAny_pure (wpAny_pure ⟨_, rfl, wpAny_pure h⟩)) htake))
    | exact wpAny_bind (wpAny_bind (m := Builtin.Tuple.tupleExact _) (wpAny_newObj_type (wpAny_pure ⟨_, rfl, wpAny_pure h⟩) htake))
end
section
variable {X : Cx}
def tRev2 (K : PySem.W.Frag) (te : TE) : TE := fun σ H Q => te σ H fun x H1 => ∃ a x0 x1 x2 x3, x = .ref a ∧ SqT K H1 a [x0, x1, x2, x3] ∧ ∀ p, H1 p = none → Q (.ref p) (upd H1 p (.tup [x1, x0]))
theorem pe_rev2 {e : Expr} {te : TE} {k0 k : Nat} {p0 p1 p2 p3 pos : Pos} (he : PE X e te) : PE X (.Subscript e (.Slice (some (.Constant (.int 1) k0 p0)) none (some (.UnaryOp .USub (.Constant (.int 1) k p1) p2)) p3) pos) (tRev2 X.K te) := by
  refine ⟨fun pins s σ H Q I h => ?_⟩
  refine Subscript_ (thn (he.run pins s σ H _ I h) fun v s1 ⟨x, H1, I1, r1, q1⟩ => ?_)
  obtain ⟨a, x0, x1, x2, x3, ex, hx, q⟩ := q1
  subst ex
  cases r1
  have hlo : PO X (some (.Constant (.int 1) k0 p0)) (tPart (tC (.int 1))) := po_some pe_int
  have hst : PO X (some (.UnaryOp .USub (.Constant (.int 1) k p1) p2)) (tPart (tUn (rU fun i => .int (-i)) (tC (.int 1)))) := po_some (pe_un un_neg pe_int)
  refine wpAny_Slice (thn (hlo.run pins s1 σ H1 (fun o H2 => o = some 1 ∧ H2 = H1) I1 ⟨1, rfl, rfl, rfl⟩) fun vl s2 ⟨l, H2, I2, pl, el, e2⟩ => ?_)
  subst el e2
  refine thn (po_none.run pins s2 σ H2 (fun o H3 => o = none ∧ H3 = H2) I2 ⟨rfl, rfl⟩) fun vu s3 ⟨u, H3, I3, pu, eu, e3⟩ => ?_
  subst eu e3
  refine thn (hst.run pins s3 σ H3 (fun o H4 => o = some (-1) ∧ H4 = H3) I3 ⟨1, rfl, -1, rfl, rfl, rfl⟩) fun vs s4 ⟨o, H4, I4, ps, eo, e4⟩ => ?_
  subst eo e4
  have I5 : Inv X pins σ H4 { s4 with heap := s4.heap.push { cls := .type "slice", data := .fields #[vl, vu, vs] } } := I4.kept (t' := s4.toks) fun b ob q => Heap.get?_push_of_some _ q
  obtain ⟨its, r, ht, hz⟩ := I5.tuple hx
  show wpAny (model X.prog X.w) X.A (subscriptTail e (.Slice (some (.Constant (.int 1) k0 p0)) none (some (.UnaryOp .USub (.Constant (.int 1) k p1) p2)) p3) (.ref a) (.ref s4.heap.objs.size)) (EP X pins σ Q) X.xe { s4 with heap := s4.heap.push { cls := .type "slice", data := .fields #[vl, vu, vs] } }
  refine tail_any (ops := [.ref a, .ref s4.heap.objs.size]) ht.typeIs (PyProof.Rows.slot_tuple_getitem.lookup) ?_ (by with_unfolding_all rfl)
  cases r with
  | cons r0 r =>
    cases r with
    | cons r1 r =>
      cases r with
      | cons r2 r =>
        cases r with
        | cons r3 r =>
          cases r
          refine item4 ht (Heap.IsSliceOf.new _ vl vu vs) pl pu ps ?_
          refine ⟨.ref _, _, I5.laid (t' := s4.toks) (o := .tup [x1, x0]) (fun b ob q => Heap.get?_push_of_some _ q) (Nat.le_refl _) ?_, rfl, q _ (I5.hok.fresh (Nat.le_refl _))⟩
          exact ⟨by show 2 ≤ sizeLine; decide, _, .cons r1 (.cons r0 .nil), IsTup.new _ _⟩
end
end Rt
/-! sets of texts: their members as a list; a comprehension of two clauses; sorted of it -/
namespace Ss
open PySem PySem.Spec PyProof.Rows L2
def kOf (e : Int × Value) : Str := match e.2 with
  | .str k _ => k
  | _ => ⟨#[]⟩
def Gd (w : World) (e : Int × Value) : Prop := ∃ k tk, e.2 = Value.str k tk ∧ e.1 = hashStr w k
def addL (L : List Str) (k : Str) : List Str := if k ∈ L then L else k :: L
theorem mem_addL {L : List Str} {k x : Str} : x ∈ addL L k ↔ x = k ∨ x ∈ L := by
  unfold addL
  split
  · exact ⟨.inr, fun z => z.elim (fun e => by rw [e]; assumption) id⟩
  · exact List.mem_cons
theorem nd_addL {L : List Str} {k : Str} (h : L.Nodup) : (addL L k).Nodup := by
  unfold addL
  split
  · exact h
  · exact List.nodup_cons.mpr ⟨by assumption, h⟩
abbrev Led (w : World) (t : SetTable) : Prop := w.params.followText "set-order" = true ∨ t.led = true
/-- the set of texts at a, its members the list L -/
def SetS (w : World) (h : Heap) (a : Addr) (L : List Str) : Prop := ∃ o es ep t, h.get? a = some o ∧ o.ExactSet ∧ o.data = .set es ep t ∧ (∀ e ∈ es.toList, Gd w e) ∧ (es.toList.map kOf).Perm L ∧ L.Nodup ∧ es.size < scanBound ∧ t.fits es.size = true ∧ Ris t.place.toList ∧ Led w t
section
variable {P : Program} {w : World} {A : Around} {E : Value → Shared → Prop} {s : Shared} {a : Addr} {L : List Str} {h h' : Heap}
theorem isS (k : Str) (u : Tok) : (PySem.strKind P w).is k (.str k u) = true := by show Value.isStrOf k (.str k u) = true; simp [Value.isStrOf]
theorem SetS.at (R : SetS w h a L) (k : ∀ o, h.get? a = some o → h'.get? a = some o) : SetS w h' a L := let ⟨o, es, ep, t, ho, r⟩ := R; ⟨o, es, ep, t, k o ho, r⟩
theorem gd_elems {l : List (Int × Value)} (g : ∀ e ∈ l, Gd w e) : ElemsOf (PySem.strKind P w) l := fun e he => let ⟨k, tk, h1, h2⟩ := g e he; ⟨⟨k, h1 ▸ isS k tk, h2⟩, by rw [h1]; rfl⟩
theorem gd_is {e : Int × Value} (g : Gd w e) (k : Str) : (PySem.strKind P w).is k e.2 = true ↔ kOf e = k := by
  obtain ⟨k0, tk, h1, -⟩ := g
  have ek : kOf e = k0 := by unfold kOf; rw [h1]
  rw [ek, h1]
  constructor
  · intro z
    obtain ⟨t, et⟩ := Value.isStrOf_shape (x := k) (v := .str k0 tk) z
    injection et
  · intro z
    rw [z]
    exact isS k tk
theorem gd_mem {l : List (Int × Value)} (g : ∀ e ∈ l, Gd w e) (k : Str) : k ∈ l.map kOf ↔ ∃ e ∈ l, (PySem.strKind P w).is k e.2 = true :=
  ⟨fun z => let ⟨e, he, q⟩ := List.mem_map.mp z; ⟨e, he, (gd_is (g e he) k).2 q⟩, fun ⟨e, he, q⟩ => List.mem_map.mpr ⟨e, he, (gd_is (g e he) k).1 q⟩⟩
theorem SetS.len (R : SetS w h a L) : ∀ {o es ep t}, h.get? a = some o → o.data = .set es ep t → es.size = L.length := by
  obtain ⟨o', es', ep', t', ho', _, hd', _, pm, _⟩ := R
  intro o es ep t ho hd
  rw [ho'] at ho
  cases ho
  rw [hd'] at hd
  cases hd
  have z := pm.length_eq
  rw [List.length_map, Array.length_toList] at z
  exact z
theorem SetS.setOf (R : SetS w h a L) : h.SetOf (PySem.strKind P w) a (fun k => decide (k ∈ L)) L.length := by
  have hlen := @SetS.len _ _ _ _ R
  obtain ⟨o, es, ep, t, ho, hx, hd, g, pm, nd, hb, hf, -⟩ := R
  exact ⟨o, es, ep, t, ho, hx, hd, gd_elems g, fun k => by rw [decide_eq_true_eq, ← pm.mem_iff]; exact gd_mem g k, hb, hf, hlen ho hd⟩
theorem putS {o : Obj} {es es' : Array (Int × Value)} {ep : Nat} {t t' : SetTable} (ho : h.get? a = some o) (hd : o.data = .set es ep t) : (h.update a (Obj.putSet es' t')).get? a = some { o with data := .set es' (ep + 1) t' } := by
  have z := Heap.get?_update_self (Obj.putSet es' t') ho (by rw [putSet_of es' t' hd]; rfl)
  rwa [putSet_of es' t' hd] at z
/-- the store behind an add, with the table laid anew where it is too full -/
theorem tailS {g : Bool → Sem Unit} (hg : ∀ (b : Bool) (s1 : Shared) (Q1 : Unit → Shared → Prop), Q1 () s1 → wpAny (model P w) A (g b) Q1 E s1) {o : Obj} {es : Array (Int × Value)} {ep : Nat} {t : SetTable} (ho : s.heap.get? a = some o) (hex : o.ExactSet) (hd : o.data = .set es ep t)
    {fs : Array (Int × Value)} {u : SetTable} {M : List Str} (gf : ∀ e ∈ fs.toList, Gd w e) (pf : (fs.toList.map kOf).Perm M) (nf : M.Nodup) (bf : fs.size < scanBound) (ff : u.fits fs.size = true) (rf : Ris u.place.toList) (lf : Led w u) {dm : Bool} {R : Option Bool → Shared → Prop}
    (hR : ∀ h', Heap.SameBut a s.heap h' → SetS w h' a M → R (some true) { s with heap := h' }) :
    wpAny (model P w) A (do
        storeSet a fs u
        if (!dm && u.tooFull) = true then do
            g (relayAll u fs (SetTable.grown fs.size)).2.2
            storeSet a (relayAll u fs (SetTable.grown fs.size)).1 (relayAll u fs (SetTable.grown fs.size)).2.1
            pure (some true)
          else pure (some true)) R E s := by
  refine wpAny_bind (wpAny_storeSet_of ho hd ?_ (fits_of_scanBound bf))
  have h1 := putS (es' := fs) (t' := u) ho hd
  have b1 := Heap.SameBut.update s.heap a (Obj.putSet fs u)
  split
  · have pm := relayAll_perm u fs (SetTable.grown fs.size)
    have f3 := relayAll_fits u fs (SetTable.grown fs.size)
    have r3 := relayAll_ris u fs (SetTable.grown fs.size)
    have l3 := relayAll_led u fs (SetTable.grown fs.size)
    generalize relayAll u fs (SetTable.grown fs.size) = Z at pm f3 r3 l3 ⊢
    obtain ⟨gs, v, gave⟩ := Z
    dsimp only at pm f3 r3 l3 ⊢
    have hz : gs.size = fs.size := by
      have z := pm.length_eq
      rwa [Array.length_toList, Array.length_toList] at z
    have bg : gs.size < scanBound := hz ▸ bf
    refine wpAny_bind (hg _ _ _ (wpAny_bind (wpAny_storeSet_of h1 rfl ?_ (fits_of_scanBound bg))))
    have h2 := putS (es' := gs) (t' := v) h1 rfl
    exact wpAny_pure (hR _ (b1.trans (Heap.SameBut.update _ a _)) ⟨_, gs, _, v, h2, hex, rfl, fun e he => gf e (pm.mem_iff.mp he), (pm.map kOf).trans pf, nf, bg, f3, r3, lf.imp id fun z => l3.trans z⟩)
  · exact wpAny_pure (hR _ b1 ⟨_, fs, _, u, h1, hex, rfl, gf, pf, nf, bf, ff, rf, lf⟩)
theorem addS_hashed {k : Str} {tk : Tok} {Q : Bool → Shared → Prop} (R : SetS w s.heap a L) (room : L.length + 1 < scanBound)
    (hQ : ∀ h' b, Heap.SameBut a s.heap h' → SetS w h' a (addL L k) → Q b { s with heap := h' }) : wpAny (model P w) A (setAddHashed a (.str k tk) ((PySem.strKind P w).hash k)) Q E s := by
  have hlen := @SetS.len _ _ _ _ R
  obtain ⟨o, es, ep, t, ho, hex, hd, g, pmL, nd, hb, hf, hr, hl⟩ := R
  have hn : es.size = L.length := hlen ho hd
  have hsc : (Value.str k tk).scannable = true := rfl
  have hel : ElemsOf (PySem.strKind P w) es.toList := gd_elems g
  unfold setAddHashed setAddHashedIn
  refine wpAny_holding (wpAny_bind (wpAny_setState_of ho hd hf ?_))
  dsimp only
  rw [byScan_of hsc hb hel]
  simp only [↓reduceIte]
  unfold setAddByScan
  refine wpAny_bind (wpAny_bind (wpAny_rule (wpAny_bind (wpAny_setScan_of (isS k tk) ho hd hf hel ?_))))
  cases hfi : List.findIdx? (fun e => (PySem.strKind P w).is k e.2) es.toList with
  | some j =>
    dsimp only
    obtain ⟨hj, pj, -⟩ := List.findIdx?_eq_some_iff_getElem.mp hfi
    have hk : k ∈ L := pmL.mem_iff.mp ((gd_mem (P := P) g k).2 ⟨es.toList[j], List.getElem_mem hj, pj⟩)
    have eL : addL L k = L := by unfold addL; rw [if_pos hk]
    exact wpAny_pure (wpAny_pure (hQ s.heap _ (Heap.SameBut.refl a s.heap) ⟨o, es, ep, t, ho, hex, hd, g, by rw [eL]; exact pmL, nd_addL nd, hb, hf, hr, hl⟩))
  | none =>
    dsimp only
    have hk : k ∉ L := fun z => by
      obtain ⟨e, he, q⟩ := (gd_mem (P := P) g k).1 (pmL.mem_iff.mpr z)
      have c := List.findIdx?_eq_none_iff.mp hfi e he
      rw [q] at c
      cases c
    have eL : addL L k = k :: L := by unfold addL; rw [if_neg hk]
    have pm := layNew_perm t es ((PySem.strKind P w).hash k) (.str k tk)
    have f1 := layNew_fits t es ((PySem.strKind P w).hash k) (.str k tk)
    have r1 := layNew_ris t es ((PySem.strKind P w).hash k) (.str k tk) hr
    have l1 := layNew_led t es ((PySem.strKind P w).hash k) (.str k tk)
    generalize layNew t es ((PySem.strKind P w).hash k) (.str k tk) = Z at pm f1 r1 l1 ⊢
    obtain ⟨fs, u, dm, gave⟩ := Z
    dsimp only at pm f1 r1 l1 ⊢
    rw [Array.toList_push] at pm
    have pc : fs.toList.Perm (((PySem.strKind P w).hash k, Value.str k tk) :: es.toList) := pm.trans (List.perm_append_singleton _ _)
    have pf : (fs.toList.map kOf).Perm (addL L k) := by rw [eL]; exact (pc.map kOf).trans (pmL.cons k)
    have gf : ∀ e ∈ fs.toList, Gd w e := fun e he => (List.mem_cons.mp (pc.mem_iff.mp he)).elim (fun z => z ▸ ⟨k, tk, rfl, rfl⟩) (g e)
    have hz : fs.size = L.length + 1 := by rw [← Array.length_toList, pc.length_eq, List.length_cons, Array.length_toList, hn]
    have bf : fs.size < scanBound := hz ▸ room
    have lf : Led w u := hl.imp id fun z => l1.trans z
    have gw : ∀ (b : Bool) (s1 : Shared) (Q1 : Unit → Shared → Prop), Q1 () s1 → wpAny (model P w) A (match b with | true => rule "set.scan.the-table-gave-way" | false => pure ()) Q1 E s1 :=
      fun b s1 Q1 z => by cases b <;> first | exact wpAny_pure z | exact wpAny_rule z
    refine wpAny_bind (gw _ _ _ ?_)
    split
    · refine wpAny_bind ?_
      rw [hashByValue_scannable 8 hsc]
      refine wpAny_pure ?_
      refine tailS ?_ ho hex hd gf pf (nd_addL nd) bf ?_ ?_ ?_ fun h' sb r => by dsimp only; exact wpAny_pure (hQ h' _ sb r)
      · intro b s1 Q1 z; cases b <;> first | exact wpAny_pure z | exact wpAny_rule z
      · first | (split <;> first | exact f1 | exact SetTable.fits_plain_off f1) | exact f1
      · first | (split <;> exact r1) | exact r1
      · first | (split <;> exact lf) | exact lf
    · refine wpAny_bind (wpAny_pure ?_)
      simp only [↓reduceIte]
      refine tailS ?_ ho hex hd gf pf (nd_addL nd) bf f1 r1 lf ?_
      · intro b s1 Q1 z; cases b <;> first | exact wpAny_pure z | exact wpAny_rule z
      · intro h' sb r; dsimp only; exact wpAny_pure (hQ h' _ sb r)
theorem addS {k : Str} {tk : Tok} {Q : Value → Shared → Prop} (R : SetS w s.heap a L) (room : L.length + 1 < scanBound)
    (hQ : ∀ h', Heap.SameBut a s.heap h' → SetS w h' a (addL L k) → Q .none { s with heap := h', toks := s.toks + 1 }) : wpAny (model P w) A (call (.builtin "set.add") [.ref a, .str k tk]) Q E s := by
  have hS : s.heap.SetOf (PySem.strKind P w) a (fun k => decide (k ∈ L)) L.length := R.setOf
  refine wpAny_call_entry F.slot_set_add hS.typeIs F.entry_set_add ?_ (F.args_set_add_2 _ _)
  unfold Builtin.«set.add» Builtin.Frozenset.oneOther
  simp only [List.isEmpty_nil, bind_assoc]
  unfold Builtin.Frozenset.addrOf setAdd
  refine wpAny_bind (wpAny_pure ?_)
  try dsimp only
  refine wpAny_bind (wpAny_pure ?_)
  try dsimp only
  refine wpAny_bind (wpAny_holding (wpAny_bind ((PySem.strKind P w).pyHash (isS k tk) ?_)))
  refine addS_hashed (s := { s with toks := s.toks + 1 }) R room fun h' b sb r => ?_
  show wpAny _ _ (ret Value.none) _ _ _
  exact wpAny_pure ⟨_, rfl, hQ h' sb r⟩
end
/-! a comprehension of two clauses -/
abbrev SC2 (elt t0 i0 t1 i1 : Expr) (f0 f1 : List Expr) (sc : Scope) (pos : Pos) : Expr := .SetComp elt [⟨t0, i0, f0, 0⟩, ⟨t1, i1, f1, 0⟩] sc pos
abbrev Tests (prog : Program) (w : World) (A : Around) (fs : List Expr) (env : Env) (Q : Bool → Shared → Prop) (E : Value → Shared → Prop) (s : Shared) : Prop :=
  wpAny (model prog w) A (forIn fs true fun c r => if r = true then do let ok ← isTrue c env (eval c env); pure (ForInStep.yield ok) else pure (ForInStep.yield r)) Q E s
section
variable {prog : Program} {w : World} {A : Around} {R : Result → Shared → Prop} {s : Shared} {elt t0 i0 t1 i1 : Expr} {f0 f1 : List Expr} {sc : Scope} {pos : Pos} {it acc : Value} {env : Env}
theorem turnOut : compTurn (SC2 elt t0 i0 t1 i1 f0 f1 sc pos) 0 it acc env = (do
      standAt i0.pos
      match ← pyNext it with
      | none => pure (.done .next)
      | some v =>
        letOwnedTupleGo t0 it v
        assign t0 env v
        let mut ok := true
        for c in f0 do
          if ok then ok ← isTrue c env (eval c env)
        if ok then
          let x ← eval i1 env
          standAt i1.pos
          let x ← foldedSetIterable i1 env x
          let _ ← runOwn (.compStart (SC2 elt t0 i0 t1 i1 f0 f1 sc pos) 1 (← holding [x] (pyIter x)) acc env) env
        again (.compLoop (SC2 elt t0 i0 t1 i1 f0 f1 sc pos) 0 it acc env)) := by rfl
theorem turnIn : compTurn (SC2 elt t0 i0 t1 i1 f0 f1 sc pos) 1 it acc env = (do
      standAt i1.pos
      match ← pyNext it with
      | none => pure (.done .next)
      | some v =>
        letOwnedTupleGo t1 it v
        assign t1 env v
        let mut ok := true
        for c in f1 do
          if ok then ok ← isTrue c env (eval c env)
        if ok then
          (do let v ← eval elt env; standAt elt.pos; let _ ← call (.builtin "set.add") [acc, v])
        again (.compLoop (SC2 elt t0 i0 t1 i1 f0 f1 sc pos) 1 it acc env)) := by rfl
abbrev Er (prog : Program) (w : World) (A : Around) (env : Env) (R : Result → Shared → Prop) : Value → Shared → Prop := notedBy (model prog w) A env fun e s' => R (.error e) s'
theorem loopOut (hs : ∀ x, foldedSetIterable i1 env x = pure x) (I : Nat → Shared → Prop)
    (turn : ∀ n s, I n s → wpAny (model prog w) A (pyNext it) (fun r s1 => match r with
      | none => R (.ok .next) s1
      | some v => wpAny (model prog w) A (letOwnedTupleGo t0 it v) (fun _ s2 => wpAny (model prog w) A (assign t0 env v) (fun _ s3 => Tests prog w A f0 env (fun ok s4 =>
            if ok = true then wpAny (model prog w) A (eval i1 env) (fun x s5 => wpAny (model prog w) A (pyIter x) (fun it1 s6 => codeAny (model prog w) A (.compStart (SC2 elt t0 i0 t1 i1 f0 f1 sc pos) 1 it1 acc env) (fun r s' => match r with
                | .ok _ => ∃ m, m < n ∧ I m s'
                | .error _ => False) s6) (Er prog w A env R) s5) (Er prog w A env R) s4
            else ∃ m, m < n ∧ I m s4) (Er prog w A env R) s3) (Er prog w A env R) s2) (Er prog w A env R) s1) (Er prog w A env R) s) (n : Nat) (h : I n s) :
    codeAny (model prog w) A (.compLoop (SC2 elt t0 i0 t1 i1 f0 f1 sc pos) 0 it acc env) R s := by
  refine codeAny_loop rfl I (fun n s hI => ?_) n h
  show wpAny _ A ((compTurn (SC2 elt t0 i0 t1 i1 f0 f1 sc pos) 0 it acc env).onRaise (fun x => do noteFrame x env; theTreesLotGoes x)) _ _ s
  refine wpAny_noted ?_
  rw [turnOut]
  refine wpAny_bind (wpAny_standAt (wpAny_bind (wpAny_mono (turn n s hI) (fun r s1 h1 => ?_) fun _ _ z => z)))
  cases r with
  | none => exact wpAny_pure h1
  | some v =>
    refine wpAny_bind (wpAny_mono h1 (fun _ s2 h2 => wpAny_bind (wpAny_mono h2 (fun _ s3 h3 => wpAny_bind (wpAny_mono h3 (fun ok s4 h4 => ?_) fun _ _ z => z)) fun _ _ z => z)) fun _ _ z => z)
    cases ok with
    | false => exact wpAny_pure ⟨rfl, h4⟩
    | true =>
      refine wpAny_bind (wpAny_mono h4 (fun x s5 h5 => wpAny_bind (wpAny_standAt (wpAny_bind (wpAny_of_eq (hs x) (wpAny_bind (wpAny_holding (wpAny_mono h5 (fun it1 s6 h6 => ?_) fun _ _ z => z))))))) fun _ _ z => z)
      refine wpAny_bind (wpAny_runOwn ?_)
      rw [Around.mark_none]
      refine codeAny_mono h6 fun r s' hr => ?_
      cases r with
      | ok f => first | exact wpAny_pure ⟨rfl, hr⟩ | exact wpAny_bind (wpAny_pure (wpAny_pure ⟨rfl, hr⟩))
      | error e => exact hr.elim
theorem loopIn (I : Nat → Shared → Prop)
    (turn : ∀ n s, I n s → wpAny (model prog w) A (pyNext it) (fun r s1 => match r with
      | none => R (.ok .next) s1
      | some v => wpAny (model prog w) A (letOwnedTupleGo t1 it v) (fun _ s2 => wpAny (model prog w) A (assign t1 env v) (fun _ s3 => Tests prog w A f1 env (fun ok s4 =>
            if ok = true then wpAny (model prog w) A (eval elt env) (fun x s5 => wpAny (model prog w) A (call (.builtin "set.add") [acc, x]) (fun _ s6 => ∃ m, m < n ∧ I m s6) (Er prog w A env R) s5) (Er prog w A env R) s4
            else ∃ m, m < n ∧ I m s4) (Er prog w A env R) s3) (Er prog w A env R) s2) (Er prog w A env R) s1) (Er prog w A env R) s) (n : Nat) (h : I n s) :
    codeAny (model prog w) A (.compLoop (SC2 elt t0 i0 t1 i1 f0 f1 sc pos) 1 it acc env) R s := by
  refine codeAny_loop rfl I (fun n s hI => ?_) n h
  show wpAny _ A ((compTurn (SC2 elt t0 i0 t1 i1 f0 f1 sc pos) 1 it acc env).onRaise (fun x => do noteFrame x env; theTreesLotGoes x)) _ _ s
  refine wpAny_noted ?_
  rw [turnIn]
  refine wpAny_bind (wpAny_standAt (wpAny_bind (wpAny_mono (turn n s hI) (fun r s1 h1 => ?_) fun _ _ z => z)))
  cases r with
  | none => exact wpAny_pure h1
  | some v =>
    refine wpAny_bind (wpAny_mono h1 (fun _ s2 h2 => wpAny_bind (wpAny_mono h2 (fun _ s3 h3 => wpAny_bind (wpAny_mono h3 (fun ok s4 h4 => ?_) fun _ _ z => z)) fun _ _ z => z)) fun _ _ z => z)
    cases ok with
    | false => exact wpAny_pure ⟨rfl, h4⟩
    | true => exact wpAny_bind (wpAny_bind (wpAny_mono h4 (fun x s5 h5 => wpAny_bind (wpAny_standAt (wpAny_bind (wpAny_mono h5 (fun _ s6 h6 => wpAny_pure (wpAny_pure ⟨rfl, h6⟩)) fun _ _ z => z)))) fun _ _ z => z))
theorem startIn (h0 : codeAny (model prog w) A (.compLoop (SC2 elt t0 i0 t1 i1 f0 f1 sc pos) 1 it acc env) R s)
    (h : wpAny (model prog w) A (pyIter it) (fun it' s' => codeAny (model prog w) A (.compLoop (SC2 elt t0 i0 t1 i1 f0 f1 sc pos) 1 it' acc env) R s') (Er prog w A env R) s) :
    codeAny (model prog w) A (.compStart (SC2 elt t0 i0 t1 i1 f0 f1 sc pos) 1 it acc env) R s := by
  refine codeAny_of_tree ?_
  show wpAny _ _ ((compStart (SC2 elt t0 i0 t1 i1 f0 f1 sc pos) 1 it acc env).onRaise (fun x => do noteFrame x env; standAt theWindowsPlace)) _ _ s
  refine wpAny_notedAt ?_
  unfold compStart
  show wpAny _ _ (ask >>= _) _ _ s
  refine wpAny_bind (wpAny_askSetting (wpAny_ite ?_))
  split
  · first | exact wpAny_bind (wpAny_pure (wpAny_pure (And.intro rfl h0))) | exact wpAny_pure (And.intro rfl h0)
  · first
      | exact wpAny_bind (wpAny_rule (wpAny_bind (wpAny_standAt (wpAny_bind (wpAny_mono h (fun it' s' z => wpAny_pure (And.intro rfl z)) fun _ _ z => z)))))
      | (refine wpAny_bind (wpAny_rule ?_); show wpAny _ _ (standAt i1.pos >>= _) _ _ s; exact wpAny_bind (wpAny_standAt (wpAny_bind (wpAny_mono h (fun it' s' z => wpAny_pure (And.intro rfl z)) fun _ _ z => z))))
end
/-! as a tracked thing -/
def SetSO (w : World) (a : Addr) (L : List Str) : HO := .ext fun h => SetS w h a L
theorem setSO_new {w : World} {P : Program} {H : Hp} {h : Heap} {a : Addr} {L : List Str} (R : SetS w h a L) : ObjOk P w H h a (SetSO w a L) := let ⟨o, _, _, _, ho, _⟩ := id R; ⟨R, ⟨o, ho⟩, fun h1 h2 p k => SetS.at p k⟩
abbrev emptySet (w : World) : Obj := { cls := .type "set", dict := none, data := .set #[] 0 (.fresh 0 0 (!w.params.followText "set-order")) }
theorem setS_fresh {h : Heap} (w : World) : SetS w (h.push (emptySet w)) h.objs.size [] :=
  ⟨_, #[], 0, _, Heap.get?_push_size _ rfl, ⟨rfl, rfl, rfl⟩, rfl, (fun e he => by simp at he), (by simp), .nil, (by decide), (by rfl), List.Pairwise.nil, by
    show _ ∨ (!w.params.followText "set-order") = true
    cases w.params.followText "set-order"
    · exact .inr rfl
    · exact .inl rfl⟩
section
variable {X : Cx}
theorem setSO_get {pins : List (Addr × Obj)} {σ : L2.St} {H : Hp} {s : Shared} {a : Addr} {L : List Str} (I : Inv X pins σ H s) (ha : H a = some (SetSO X.w a L)) : SetS X.w s.heap a L := (I.hok a _ ha).1
theorem addS_ok {pins : List (Addr × Obj)} {σ : L2.St} {H : Hp} {s : Shared} {E : Value → Shared → Prop} {D : Addr} {L : List Str} {y : Str} {u : Tok} {Q : Value → Shared → Prop} (I : Inv X pins σ H s) (hD : H D = some (SetSO X.w D L)) (room : L.length + 1 < scanBound)
    (h : ∀ s', Inv X pins σ (upd H D (SetSO X.w D (addL L y))) s' → Q .none s') : wpAny (model X.prog X.w) X.A (call (.builtin "set.add") [.ref D, .str y u]) Q E s :=
  addS (setSO_get I hD) room fun h' sb new => h _ (I.write (e := D) (t' := s.toks + 1) (by rw [hD]; trivial) (.inl rfl) (fun b o hb e => (sb.2 b hb).trans e) (let ⟨o, _, _, _, ho, _⟩ := id new; ⟨o, ho⟩) (setSO_new new))
/-- {elt for tg in iter if .. for tg1 in iter1 if ..}, elt a text: D the new set -/
def tSc2 (w : World) (wi : TI) (g : TG) (tt : TT) (wi1 : TI) (g1 : TG) (tt1 : TT) (te : TE) (vs vs1 : List Nat) : TE := fun σ H Q => wi σ H fun J H1 => ∀ D, H1 D = none → ∃ W : Nat → Nat → Hp → Prop, (∃ m, W 0 m (upd H1 D (SetSO w D []))) ∧ ∀ i m H, W i m H →
  (J.stop i H ∧ Q (.ref D) H) ∨ (J.go i H ∧ ∃ Nx : Hp → Prop, (∀ H', Nx H' → ∃ m', m' < m ∧ W (i + 1) m' H') ∧ ∀ x H', J.yld i H x H' → g x (wipe σ vs) H' fun σ2 H2 => wipe σ2 vs = wipe σ vs ∧ tt σ2 H2 fun b H3 =>
    if b = true then wi1 σ2 H3 fun J1 H4 => ∃ W1 : Nat → Nat → Hp → Prop, (∃ m, W1 0 m H4) ∧ ∀ j k H, W1 j k H →
      (J1.stop j H ∧ Nx H) ∨ (J1.go j H ∧ ∃ Nx1 : Hp → Prop, (∀ H', Nx1 H' → ∃ k', k' < k ∧ W1 (j + 1) k' H') ∧ ∀ x H', J1.yld j H x H' → g1 x (wipe σ2 vs1) H' fun σ3 H5 => wipe σ3 vs1 = wipe σ2 vs1 ∧ tt1 σ3 H5 fun b H6 =>
        if b = true then te σ3 H6 fun y H7 => ∃ k L, y = .str k ∧ H7 D = some (SetSO w D L) ∧ L.length + 1 < scanBound ∧ Nx1 (upd H7 D (SetSO w D (addL L k))) else Nx1 H6)
    else Nx H3)
abbrev Blk (X : Cx) (sc : Scope) (s : Shared) (H : Hp) (C : Addr) (cl : List (PySem.Str × Addr)) (fp : List Addr) : Cx := X.blk s H sc (compEnvC sc cl C X.env) fp
theorem sc2_core {pins : List (Addr × Obj)} {s : Shared} {σ : L2.St} {H : Hp} {Q : VK} {elt tg iter tg1 iter1 : Expr} {ifs ifs1 : List Expr} {sc : Scope} {own : List (PySem.Str × Nat)} {vs1 : List Nat} {pos pos' : Pos} {wi wi1 : TI} {g g1 : TG} {tt tt1 : TT} {te : TE} {use : Option (Value → Sem Unit)} {Qf : Value → Shared → Prop}
    (hc : X.calm = true) (hN : X.N.Nodup) (I : Inv X pins σ H s) (hi : PI X tg iter wi) (ok : BlkOk X.N X.env.scope sc own) (hv : ∀ i ∈ vs1, i ∈ own.map (·.2))
    (hg : ∀ s H C cl fp, PG (Blk X sc s H C cl fp) tg g) (ht : ∀ s H C cl fp, PTs (Blk X sc s H C cl fp) ifs tt) (he : ∀ s H C cl fp, PE (Blk X sc s H C cl fp) elt te) (hs : ∀ x, foldedSetIterable iter X.env x = pure x)
    (hi1 : ∀ s H C cl fp, PI (Blk X sc s H C cl fp) tg1 iter1 wi1) (hg1 : ∀ s H C cl fp, PG (Blk X sc s H C cl fp) tg1 g1) (ht1 : ∀ s H C cl fp, PTs (Blk X sc s H C cl fp) ifs1 tt1) (hs1 : ∀ env x, foldedSetIterable iter1 env x = pure x)
    (h : tSc2 X.w wi g tt wi1 g1 tt1 te (own.map (·.2)) vs1 σ H Q)
    (hRR : ∀ D C s' m H', Inv X pins σ H' s' → Q (.ref D) H' → s'.heap.Ns C m → FpOk X pins H' C → compPost (model X.prog X.w) X.A X.xe use Qf (.ref D) C (.ok .next) s') :
    wpAny (model X.prog X.w) X.A (comprehension (SC2 elt tg iter tg1 iter1 ifs ifs1 sc pos) sc X.env pos' (newSet (.type "set")) false (eval iter X.env) use) Qf X.xe s := by
  have hfree : ∀ y ∈ sc.names, y.2 = .free → ∃ c, X.env.cells.lookup y.1 = some c := fun y hy e => (ok.free y hy e).elim (fun k => I.ok.has _ (.inl k)) fun k => I.ok.has _ (.inr k)
  refine wpAny_comprehension_free (use := use) rfl hs (closure_ok hfree) ok.kind (fun y hy e => by rw [ok.uniq y hy, e]) (thn (hi.run pins s σ H _ I h) fun xv s1 hx => thn hx fun itv s2 h2 => ?_)
  obtain ⟨it, fp, tn, J, H2, e, I2, T, st2, f2, q⟩ := h2
  subst e
  refine PpSet.newSet_ok (newEnv_comp ?_)
  generalize hD : s2.heap.objs.size = D
  have hDn : H2 D = none := I2.hok.fresh (Nat.le_of_eq hD)
  obtain ⟨W, ⟨m0, w0⟩, turn⟩ := q D hDn
  generalize hs3 : ({ s2 with heap := s2.heap.push (emptySet X.w) } : Shared) = s3
  have I3 : Inv X pins σ (upd H2 D (SetSO X.w D [])) s3 := by
    rw [← hs3]
    exact I2.laid (t' := s2.toks) (fun b o e => Heap.get?_push_of_some _ e) (Nat.le_of_eq hD) (hD ▸ setSO_new (setS_fresh X.w))
  have h3 : s3.heap = s2.heap.push (emptySet X.w) := by rw [← hs3]
  have sz : ∀ b ∈ fp, b < s2.heap.objs.size := fun b hb => let ⟨o, e, _⟩ := T.obj _ _ st2 b hb; Heap.lt_size e
  have f3 : ∀ b ∈ fp, FpOk X pins (upd H2 D (SetSO X.w D [])) b ∧ b < s3.heap.objs.size := fun b hb =>
    ⟨⟨by rw [upd_ne (by rw [← hD]; exact Nat.ne_of_lt (sz b hb))]; exact (f2 b hb).1, (f2 b hb).2⟩, by rw [h3, Heap.size_push]; exact Nat.lt_succ_of_lt (sz b hb)⟩
  have st3 : tn 0 s3.heap := T.keep _ _ _ st2 fun b _ o e => by rw [h3]; exact Heap.get?_push_of_some _ e
  have I4 := block_start I3 ok hN f3
  generalize hcl : cellsFrom (s3.heap.objs.size + 1) sc.names (cloFrom X.env.cells sc.names []) = cl at I4
  have pg : PG (X.blk s3 (upd H2 D (SetSO X.w D [])) sc (compEnvC sc cl s3.heap.objs.size X.env) fp) tg g := hg s3 _ _ cl fp
  have pt : PTs (X.blk s3 (upd H2 D (SetSO X.w D [])) sc (compEnvC sc cl s3.heap.objs.size X.env) fp) ifs tt := ht s3 _ _ cl fp
  have pe : PE (X.blk s3 (upd H2 D (SetSO X.w D [])) sc (compEnvC sc cl s3.heap.objs.size X.env) fp) elt te := he s3 _ _ cl fp
  have pi1 : PI (X.blk s3 (upd H2 D (SetSO X.w D [])) sc (compEnvC sc cl s3.heap.objs.size X.env) fp) tg1 iter1 wi1 := hi1 s3 _ _ cl fp
  have pg1 : PG (X.blk s3 (upd H2 D (SetSO X.w D [])) sc (compEnvC sc cl s3.heap.objs.size X.env) fp) tg1 g1 := hg1 s3 _ _ cl fp
  have pt1 : PTs (X.blk s3 (upd H2 D (SetSO X.w D [])) sc (compEnvC sc cl s3.heap.objs.size X.env) fp) ifs1 tt1 := ht1 s3 _ _ cl fp
  show codeAny _ _ (.compStart (SC2 elt tg iter tg1 iter1 ifs ifs1 sc pos) 0 (.ref it) (.ref D) (compEnvC sc cl s3.heap.objs.size X.env)) (compPost (model X.prog X.w) X.A X.xe use Qf (.ref D) s3.heap.objs.size) { s3 with heap := pushCells (s3.heap.push { cls := .type "dict", data := .dict #[] }) sc.names }
  have nfp : ∀ b ∈ fp, (upd H2 D (SetSO X.w D [])) b = none := fun b hb => (f3 b hb).1.1
  generalize hce : compEnvC sc cl s3.heap.objs.size X.env = ce at I4 pg pt pe pi1 pg1 pt1 ⊢
  have cL : ce.locals = s3.heap.objs.size := by subst hce; rfl
  generalize hH3 : upd H2 D (SetSO X.w D []) = H3 at I3 I4 pg pt pe pi1 pg1 pt1 w0 nfp f3
  generalize hs4 : ({ s3 with heap := pushCells (s3.heap.push { cls := .type "dict", data := .dict #[] }) sc.names } : Shared) = s4 at I4 ⊢
  have st4 : tn 0 s4.heap := T.keep _ _ _ st3 fun b _ o e => by rw [← hs4]; exact pushCells_keeps _ _ _ _ (Heap.get?_push_of_some _ e)
  have stat : ∀ {σ' : L2.St} {H' : Hp} {s' : Shared}, Inv (X.blk s3 H3 sc ce fp) [] σ' H' s' → (∀ b ∈ fp, H' b = none) → ∀ b ∈ fp, FpOk (X.blk s3 H3 sc ce fp) [] H' b := fun I' hn b hb =>
    ⟨hn b hb, (I'.ok.exf b hb).1, I'.ok.exfs b hb, .inl hb, fun x c e => (I'.ok.exf b hb).2 x c e, fun p hp => absurd (show p ∈ ([] : List (Addr × Obj)) ++ [] from hp) (by simp)⟩
  have loop : codeAny (model X.prog X.w) X.A (.compLoop (SC2 elt tg iter tg1 iter1 ifs ifs1 sc pos) 0 (.ref it) (.ref D) ce) (compPost (model X.prog X.w) X.A X.xe use Qf (.ref D) s3.heap.objs.size) s4 := by
    refine loopOut (hs1 ce) (fun n s' => ∃ i H', Inv (X.blk s3 H3 sc ce fp) [] (wipe σ (own.map (·.2))) H' s' ∧ tn i s'.heap ∧ (∀ b ∈ fp, H' b = none) ∧ W i n H') ?_ m0 ⟨0, H3, I4, st4, nfp, w0⟩
    rintro n s5 ⟨i, H5, I5, st5, n5, w5⟩
    rcases turn i n H5 w5 with ⟨stop, qq⟩ | ⟨go, Nx, hNx, step⟩
    · refine thnF (T.done (X.blk s3 H3 sc ce fp) rfl rfl rfl hc i [] s5 _ H5 (fun _ _ => False) I5 (stat I5 n5) st5 stop) fun r s6 ⟨hr, I6⟩ => ?_
      subst hr
      have I7 : Inv X pins σ H5 s6 := I3.call' (ch := fp) I6.os I6.base I6.hok I6.bare fun b hb => let z := (f3 b hb).1.2; ⟨z.2.2.1, z.1, z.2.2.2.1, z.2.2.2.2⟩
      have nC : H5 s3.heap.objs.size = none := cL ▸ (show H5 ce.locals = none from I6.free)
      obtain ⟨m, hn, -⟩ := I6.loc
      exact hRR D s3.heap.objs.size s6 m H5 I7 qq (cL ▸ (show s6.heap.Ns ce.locals m from hn)) (I3.fpOk (Nat.le_refl _) nC)
    · refine thnF (T.item (X.blk s3 H3 sc ce fp) rfl rfl rfl hc i [] s5 _ H5 (fun _ _ => False) I5 (stat I5 n5) st5 go) fun r s6 ⟨u, hr, h6⟩ => ?_
      subst hr
      refine thnF h6 fun _ s7 ⟨x, H7, I7, r7, y7, st7, n7⟩ => ?_
      have I7' := I7.pinned (stat I7 n7) (T.obj _ _ st7)
      refine thnF (pg.run _ s7 _ H7 x u _ I7' r7 (step x H7 y7)) fun _ s8 ⟨σ8, H8, I8, hw8, q8⟩ => thnF (pt.run _ s8 σ8 H8 _ I8 q8) fun b s9 ⟨H9, I9, q9⟩ => ?_
      have fin : ∀ {σ9 : L2.St} {s' : Shared} {H' : Hp}, Inv (X.blk s3 H3 sc ce fp) ([] ++ pinsAt fp s7.heap) σ9 H' s' → (wipe σ (own.map (·.2))).length = σ9.length → (∀ (j : Nat) v, (wipe σ (own.map (·.2)))[j]? = some (some v) → σ9[j]? = some (some v)) → Nx H' →
          ∃ m, m < n ∧ ∃ i H', Inv (X.blk s3 H3 sc ce fp) [] (wipe σ (own.map (·.2))) H' s' ∧ tn i s'.heap ∧ (∀ b ∈ fp, H' b = none) ∧ W i m H' := fun {σ9 s' H'} I' hl hk nx => by
        obtain ⟨m', hm, w'⟩ := hNx H' nx
        have pin' : ∀ b ∈ fp, ∀ o, s7.heap.get? b = some o → s'.heap.get? b = some o ∧ H' b = none := fun b hb o e =>
          let z := I'.pin (b, o) (List.mem_append_right _ (List.mem_append_right _ (mem_pinsAt hb e))); ⟨z.1, z.2.1⟩
        exact ⟨m', hm, i + 1, H', (I'.unpinned (pins := [])).weak hl hk, T.keep _ _ _ st7 fun b hb o e => (pin' b hb o e).1, fun b hb => let ⟨o, e, _⟩ := T.obj _ _ st7 b hb; (pin' b hb o e).2, w'⟩
      have hl8 : (wipe σ (own.map (·.2))).length = σ8.length := by rw [← hw8, wipe_length]
      have hk8 : ∀ (j : Nat) v, (wipe σ (own.map (·.2)))[j]? = some (some v) → σ8[j]? = some (some v) := fun j v e => (wipe_some (hw8 ▸ e)).1
      have hk9 : ∀ (j : Nat) v, (wipe σ (own.map (·.2)))[j]? = some (some v) → (wipe σ8 vs1)[j]? = some (some v) := fun j v e => by
        rw [← hw8] at e
        rw [wipe_out fun z => (wipe_some e).2 (hv j z)]
        exact (wipe_some e).1
      cases b with
      | false => simp only [Bool.false_eq_true, if_false] at q9 ⊢; exact fin I9 hl8 hk8 q9
      | true =>
        simp only [if_true] at q9 ⊢
        refine thnF (pi1.run _ s9 σ8 H9 _ I9 q9) fun xv s10 hx => thnF hx fun itv s11 h11 => ?_
        obtain ⟨it1, fp1, tn1, J1, H11, e1, I11, T1, st11, f11, W1, ⟨m1, w1⟩, turn1⟩ := h11
        subst e1
        have stat1 : ∀ {H' : Hp}, (∀ b ∈ fp1, H' b = none) → ∀ b ∈ fp1, FpOk (X.blk s3 H3 sc ce fp) ([] ++ pinsAt fp s7.heap) H' b := fun hn b hb => ⟨hn b hb, (f11 b hb).2⟩
        have loop1 : codeAny (model X.prog X.w) X.A (.compLoop (SC2 elt tg iter tg1 iter1 ifs ifs1 sc pos) 1 (.ref it1) (.ref D) ce)
            (fun r s' => match r with
              | .ok _ => ∃ m, m < n ∧ ∃ i H', Inv (X.blk s3 H3 sc ce fp) [] (wipe σ (own.map (·.2))) H' s' ∧ tn i s'.heap ∧ (∀ b ∈ fp, H' b = none) ∧ W i m H'
              | .error _ => False) s11 := by
          refine loopIn (fun k s' => ∃ j H', Inv (X.blk s3 H3 sc ce fp) ([] ++ pinsAt fp s7.heap) (wipe σ8 vs1) H' s' ∧ tn1 j s'.heap ∧ (∀ b ∈ fp1, H' b = none) ∧ W1 j k H') ?_ m1 ⟨0, H11, I11.weak (wipe_length _ _) (fun j v e => (wipe_some e).1), st11, fun b hb => (f11 b hb).1, w1⟩
          rintro k s12 ⟨j, H12, I12, st12, n12, w12⟩
          rcases turn1 j k H12 w12 with ⟨stop1, nx1⟩ | ⟨go1, Nx1, hNx1, step1⟩
          · refine thnF (T1.done (X.blk s3 H3 sc ce fp) rfl rfl rfl hc j _ s12 (wipe σ8 vs1) H12 (fun _ _ => False) I12 (stat1 n12) st12 stop1) fun r s13 ⟨hr, I13⟩ => ?_
            subst hr
            exact fin I13 (hl8.trans (wipe_length σ8 vs1).symm) hk9 nx1
          · refine thnF (T1.item (X.blk s3 H3 sc ce fp) rfl rfl rfl hc j _ s12 (wipe σ8 vs1) H12 (fun _ _ => False) I12 (stat1 n12) st12 go1) fun r s13 ⟨u1, hr, h13⟩ => ?_
            subst hr
            refine thnF h13 fun _ s14 ⟨x1, H14, I14, r14, y14, st14, n14⟩ => ?_
            have I14' := I14.pinned (stat1 n14) (T1.obj _ _ st14)
            refine thnF (pg1.run _ s14 (wipe σ8 vs1) H14 x1 u1 _ I14' r14 (step1 x1 H14 y14)) fun _ s15 ⟨σ15, H15, I15, hw15, q15⟩ => thnF (pt1.run _ s15 σ15 H15 _ I15 q15) fun b1 s16 ⟨H16, I16, q16⟩ => ?_
            have fin1 : ∀ {s' : Shared} {H' : Hp}, Inv (X.blk s3 H3 sc ce fp) (([] ++ pinsAt fp s7.heap) ++ pinsAt fp1 s14.heap) σ15 H' s' → Nx1 H' → ∃ m, m < k ∧ ∃ j H', Inv (X.blk s3 H3 sc ce fp) ([] ++ pinsAt fp s7.heap) (wipe σ8 vs1) H' s' ∧ tn1 j s'.heap ∧ (∀ b ∈ fp1, H' b = none) ∧ W1 j m H' := fun {s' H'} I' nx => by
              obtain ⟨m', hm, w'⟩ := hNx1 H' nx
              have pin' : ∀ b ∈ fp1, ∀ o, s14.heap.get? b = some o → s'.heap.get? b = some o ∧ H' b = none := fun b hb o e =>
                let z := I'.pin (b, o) (List.mem_append_right _ (List.mem_append_right _ (mem_pinsAt hb e))); ⟨z.1, z.2.1⟩
              exact ⟨m', hm, j + 1, H', I'.unpinned.weak (by rw [← hw15, wipe_length]) (fun j v e => (wipe_some (hw15 ▸ e)).1), T1.keep _ _ _ st14 fun b hb o e => (pin' b hb o e).1, fun b hb => let ⟨o, e, _⟩ := T1.obj _ _ st14 b hb; (pin' b hb o e).2, w'⟩
            cases b1 with
            | false => simp only [Bool.false_eq_true, if_false] at q16 ⊢; exact fin1 I16 q16
            | true =>
              simp only [if_true] at q16 ⊢
              refine thnF (pe.run _ s16 σ15 H16 _ I16 q16) fun z s17 ⟨yv, H17, I17, r17, ky, L17, ey, hD17, hz17, nx⟩ => ?_
              subst ey
              obtain ⟨tk, rfl⟩ := r17
              exact addS_ok (X := X.blk s3 H3 sc ce fp) I17 hD17 hz17 fun s18 I18 => fin1 I18 nx
        exact startIn loop1 (T1.self X.A 0 _ _ _ st11 loop1)
  exact PpSet.codeAny_compStart_set loop (T.self X.A 0 _ _ _ st4 loop)
/-- as a value -/
theorem pe_sc2 {elt tg iter tg1 iter1 : Expr} {ifs ifs1 : List Expr} {sc : Scope} {own : List (PySem.Str × Nat)} {vs1 : List Nat} {pos : Pos} {wi wi1 : TI} {g g1 : TG} {tt tt1 : TT} {te : TE} (hc : X.calm = true) (hN : X.N.Nodup) (hi : PI X tg iter wi) (ok : BlkOk X.N X.env.scope sc own) (hv : ∀ i ∈ vs1, i ∈ own.map (·.2))
    (hg : ∀ s H C cl fp, PG (Blk X sc s H C cl fp) tg g) (ht : ∀ s H C cl fp, PTs (Blk X sc s H C cl fp) ifs tt) (hi1 : ∀ s H C cl fp, PI (Blk X sc s H C cl fp) tg1 iter1 wi1) (hg1 : ∀ s H C cl fp, PG (Blk X sc s H C cl fp) tg1 g1) (ht1 : ∀ s H C cl fp, PTs (Blk X sc s H C cl fp) ifs1 tt1)
    (he : ∀ s H C cl fp, PE (Blk X sc s H C cl fp) elt te) (hs : ∀ x, foldedSetIterable iter X.env x = pure x := by intro _; rfl) (hs1 : ∀ env x, foldedSetIterable iter1 env x = pure x := by intro _ _; rfl) :
    PE X (SC2 elt tg iter tg1 iter1 ifs ifs1 sc pos) (tSc2 X.w wi g tt wi1 g1 tt1 te (own.map (·.2)) vs1) := by
  refine ⟨fun pins s σ H Q I h => ?_⟩
  rw [PpSet.eval_SetComp]
  refine sc2_core hc hN I hi ok hv hg ht he hs hi1 hg1 ht1 hs1 h fun D C s' m H' I' q hn f => ⟨m, hn, fun h'' sb => ?_⟩
  obtain ⟨f0, f1, f2, f3, f4, f5⟩ := f
  exact ⟨.ref D, H', I'.turned (t' := s'.toks) (fun b o hb e => (sb.2 b hb).trans e) f0 f1 f3 f4 f5, rfl, q⟩
/-- sorted of such a set, fewer than 64 members -/
def rSortS (w : World) : List V → Hp → VK → Prop := fun vs H Q => ∃ (a : Addr) (L : List Str), vs = [V.ref a] ∧ H a = some (SetSO w a L) ∧ L.length < 64 ∧ ∀ (ys : List Str) (p : Addr), ys.Perm L → sortedS ys = true → H p = none → Q (.ref p) (upd H p (.lst (ys.map V.str)))
theorem strs_of : ∀ (l : List Value), (∀ v ∈ l, ∃ k tk, v = Value.str k tk) → StrsAre l (l.map fun v => kOf (0, v))
  | [], _ => .nil
  | v :: l, h => by
    obtain ⟨k, tk, rfl⟩ := h v List.mem_cons_self
    exact .cons k tk (strs_of l fun u hu => h u (List.mem_cons_of_mem _ hu))
theorem cr_sortS (hc : X.calm = true) : CallR X (.builtin "sorted") (rSortS X.w) := by
  intro pins s σ H vs us Q I r h
  obtain ⟨a, L, rfl, ha, h64, q⟩ := h
  have R := setSO_get I ha
  have hlen := @SetS.len _ _ _ _ R
  rw [Vals.ref1 r]
  obtain ⟨o, es, ep, t, ho, hex, hd, g, pmL, nd, hb, hf, hr, hl⟩ := R
  have hn : es.size = L.length := hlen ho hd
  refine Calls.call_function_entry kind_sorted plain_sorted entry_sorted (args_sorted1 _) ?_
  unfold Builtin.«sorted»
  refine wpAny_bind (m := checkCount "sorted" 1 1 _) (wpAny_pure (wpAny_bind (collect_set (A := X.A.in1) (I.ok.hd hc) ⟨o, ho, hex.1, hd⟩ hf hb hr hl fun s1 ws k1 hz g1 o1 pm => ?_)))
  have hvl : ws.length = L.length := by rw [pm.length_eq, List.length_map, Array.length_toList]; exact hn
  have hS : StrsAre ws (ws.map fun v => kOf (0, v)) := strs_of ws fun v hv => by
    obtain ⟨e, he, z⟩ := List.mem_map.mp (pm.mem_iff.mp hv)
    obtain ⟨k, tk, h1, -⟩ := g e he
    exact ⟨k, tk, by rw [← z]; exact h1⟩
  have pk : (ws.map fun v => kOf (0, v)).Perm L := by
    have z := pm.map fun v => kOf (0, v)
    rw [List.map_map] at z
    exact z.trans pmL
  have I1 : Inv X pins σ H s1 := by
    have e : s1 = { s with heap := s1.heap, gens := s1.gens, drawn := s1.drawn, toks := s1.toks } := by cases s1; cases s; cases o1; rfl
    rw [e]
    exact I.call (ch := []) (Un.kept k1) (I.hok.kept k1) (by rw [g1]; exact I.bare) (fun _ z => nomatch z)
  refine wpAny_bind (wpAny_newList ?_ (by rw [hvl, sizeLine_eq]; omega))
  have hoL : (s1.heap.push (seqObj "list" ws.toArray 0)).get? s1.heap.objs.size = some (seqObj "list" ws.toArray 0) := Heap.get?_push_size _ rfl
  refine wpAny_bind (wpAny_holding (wpAny_call_entry slot_list_sort ⟨_, hoL, rfl⟩ entry_list_sort (list_sort_treeK strKind_oneLt (s := { s1 with heap := s1.heap.push (seqObj "list" ws.toArray 0) }) hoL hS.keysOf (fun v₁ v₂ rest e => keyKind_strs (by rw [← e]; exact hS)) (by rw [hvl]; exact h64) fun st' hp hs => ⟨_, rfl, ?_⟩) (args_list_sort _)))
  obtain ⟨ys, y1, y2, y3⟩ := sorted_out_str hS hp hs
  obtain ⟨e', he'⟩ := sortedHeap_at (vs := ws) (out := (arrOf st').map (·.2)) hoL
  have hl2 : (ys.map V.str).length ≤ sizeLine := by
    rw [List.length_map, y2.length_eq, pk.length_eq, sizeLine_eq]
    omega
  refine wpAny_pure ⟨_, rfl, .ref s1.heap.objs.size, upd H s1.heap.objs.size (.lst (ys.map V.str)), I1.laid (t' := s1.toks) (fun b u e => ?_) (Nat.le_refl _) (show ObjOk X.prog X.w _ _ _ (.lst (ys.map V.str)) from ⟨hl2, ((arrOf st').map (·.2)).toList, e', vals_of_strs y1, by rw [Array.toArray_toList]; exact he'⟩), rfl, q ys _ (y2.trans pk) y3 (I1.hok.fresh (Nat.le_refl _))⟩
  show (sortedHeap (s1.heap.push (seqObj "list" ws.toArray 0)) s1.heap.objs.size ws _).get? b = some u
  have hlt := Heap.lt_size e
  rw [sortedHeap_old (Nat.ne_of_lt hlt) (by rw [size_push']; exact Nat.lt_succ_of_lt hlt)]
  exact Heap.get?_push_of_some _ e
end
/-- walked: the outer clause -/
theorem sc2_it {J : It} {n : Nat} {G : Hp → Prop} {Y : Nat → Hp → V → Hp → Prop} (wk : Walk J n G Y) {w : World} {g g1 : TG} {tt tt1 : TT} {wi1 : TI} {te : TE} {vs vs1 : List Nat} {σ : L2.St} {H1 : Hp} {D : Addr} {Qd : Hp → Prop} (Pv : Nat → Hp → Prop) (h0 : Pv 0 (upd H1 D (SetSO w D []))) (hG : ∀ i H, i ≤ n → Pv i H → G H)
    (hs : ∀ i x H H', i < n → Pv i H → Y i H x H' → g x (wipe σ vs) H' fun σ2 H2 => wipe σ2 vs = wipe σ vs ∧ tt σ2 H2 fun b H3 =>
      if b = true then wi1 σ2 H3 fun J1 H4 => ∃ W1 : Nat → Nat → Hp → Prop, (∃ m, W1 0 m H4) ∧ ∀ j k H, W1 j k H →
        (J1.stop j H ∧ Pv (i + 1) H) ∨ (J1.go j H ∧ ∃ Nx1 : Hp → Prop, (∀ H', Nx1 H' → ∃ k', k' < k ∧ W1 (j + 1) k' H') ∧ ∀ x H', J1.yld j H x H' → g1 x (wipe σ2 vs1) H' fun σ3 H5 => wipe σ3 vs1 = wipe σ2 vs1 ∧ tt1 σ3 H5 fun b H6 =>
          if b = true then te σ3 H6 fun y H7 => ∃ k L, y = .str k ∧ H7 D = some (SetSO w D L) ∧ L.length + 1 < scanBound ∧ Nx1 (upd H7 D (SetSO w D (addL L k))) else Nx1 H6)
      else Pv (i + 1) H3) (hd : ∀ H, Pv n H → Qd H) :
    ∃ W : Nat → Nat → Hp → Prop, (∃ m, W 0 m (upd H1 D (SetSO w D []))) ∧ ∀ i m H, W i m H →
      (J.stop i H ∧ Qd H) ∨ (J.go i H ∧ ∃ Nx : Hp → Prop, (∀ H', Nx H' → ∃ m', m' < m ∧ W (i + 1) m' H') ∧ ∀ x H', J.yld i H x H' → g x (wipe σ vs) H' fun σ2 H2 => wipe σ2 vs = wipe σ vs ∧ tt σ2 H2 fun b H3 =>
        if b = true then wi1 σ2 H3 fun J1 H4 => ∃ W1 : Nat → Nat → Hp → Prop, (∃ m, W1 0 m H4) ∧ ∀ j k H, W1 j k H →
          (J1.stop j H ∧ Nx H) ∨ (J1.go j H ∧ ∃ Nx1 : Hp → Prop, (∀ H', Nx1 H' → ∃ k', k' < k ∧ W1 (j + 1) k' H') ∧ ∀ x H', J1.yld j H x H' → g1 x (wipe σ2 vs1) H' fun σ3 H5 => wipe σ3 vs1 = wipe σ2 vs1 ∧ tt1 σ3 H5 fun b H6 =>
            if b = true then te σ3 H6 fun y H7 => ∃ k L, y = .str k ∧ H7 D = some (SetSO w D L) ∧ L.length + 1 < scanBound ∧ Nx1 (upd H7 D (SetSO w D (addL L k))) else Nx1 H6)
        else Nx H3) := by
  refine ⟨fun i m H => m = n - i ∧ i ≤ n ∧ Pv i H, ⟨n, by simp, Nat.zero_le _, h0⟩, ?_⟩
  rintro i m H ⟨rfl, hi, p⟩
  have q := hG i H hi p
  by_cases c : i < n
  · exact .inr ⟨wk.goes i H c q, Pv (i + 1), fun H' p' => ⟨n - (i + 1), by omega, rfl, c, p'⟩, fun x H' y => hs i x H H' c p (wk.yields i H x H' c q y)⟩
  · obtain rfl : i = n := by omega
    exact .inl ⟨wk.stops H q, hd H p⟩
/-- walked: the inner clause -/
theorem in2_it {J1 : It} {n : Nat} {G : Hp → Prop} {Y : Nat → Hp → V → Hp → Prop} (wk : Walk J1 n G Y) {w : World} {g1 : TG} {tt1 : TT} {te : TE} {vs1 : List Nat} {σ2 : L2.St} {H4 : Hp} {D : Addr} {Nx : Hp → Prop} (Pv : Nat → Hp → Prop) (h0 : Pv 0 H4) (hG : ∀ i H, i ≤ n → Pv i H → G H)
    (hs : ∀ i x H H', i < n → Pv i H → Y i H x H' → g1 x (wipe σ2 vs1) H' fun σ3 H5 => wipe σ3 vs1 = wipe σ2 vs1 ∧ tt1 σ3 H5 fun b H6 =>
      if b = true then te σ3 H6 fun y H7 => ∃ k L, y = .str k ∧ H7 D = some (SetSO w D L) ∧ L.length + 1 < scanBound ∧ Pv (i + 1) (upd H7 D (SetSO w D (addL L k))) else Pv (i + 1) H6) (hd : ∀ H, Pv n H → Nx H) :
    ∃ W1 : Nat → Nat → Hp → Prop, (∃ m, W1 0 m H4) ∧ ∀ j k H, W1 j k H →
      (J1.stop j H ∧ Nx H) ∨ (J1.go j H ∧ ∃ Nx1 : Hp → Prop, (∀ H', Nx1 H' → ∃ k', k' < k ∧ W1 (j + 1) k' H') ∧ ∀ x H', J1.yld j H x H' → g1 x (wipe σ2 vs1) H' fun σ3 H5 => wipe σ3 vs1 = wipe σ2 vs1 ∧ tt1 σ3 H5 fun b H6 =>
        if b = true then te σ3 H6 fun y H7 => ∃ k L, y = .str k ∧ H7 D = some (SetSO w D L) ∧ L.length + 1 < scanBound ∧ Nx1 (upd H7 D (SetSO w D (addL L k))) else Nx1 H6) := by
  refine ⟨fun i m H => m = n - i ∧ i ≤ n ∧ Pv i H, ⟨n, by simp, Nat.zero_le _, h0⟩, ?_⟩
  rintro i m H ⟨rfl, hi, p⟩
  have q := hG i H hi p
  by_cases c : i < n
  · exact .inr ⟨wk.goes i H c q, Pv (i + 1), fun H' p' => ⟨n - (i + 1), by omega, rfl, c, p'⟩, fun x H' y => hs i x H H' c p (wk.yields i H x H' c q y)⟩
  · obtain rfl : i = n := by omega
    exact .inl ⟨wk.stops H q, hd H p⟩
end Ss
/-! set(xs) of a list of texts; len of such a set -/
namespace Ss
open PySem PySem.Spec PyProof.Rows L2
def addAll (L : List Str) (ks : List Str) : List Str := ks.foldl addL L
theorem addAll_len : ∀ (ks L : List Str), (addAll L ks).length ≤ L.length + ks.length
  | [], L => Nat.le_refl _
  | k :: ks, L => by
    have := addAll_len ks (addL L k)
    have h2 : (addL L k).length ≤ L.length + 1 := by
      unfold addL
      split
      · omega
      · rw [List.length_cons]; omega
    show (addAll (addL L k) ks).length ≤ _
    rw [List.length_cons]
    omega
theorem addAll_mem : ∀ (ks L : List Str) (x : Str), x ∈ addAll L ks ↔ x ∈ L ∨ x ∈ ks
  | [], L, x => by simp [addAll]
  | k :: ks, L, x => by
    show x ∈ addAll (addL L k) ks ↔ _
    rw [addAll_mem ks, mem_addL, List.mem_cons]
    constructor
    · rintro ((h | h) | h)
      · exact .inr (.inl h)
      · exact .inl h
      · exact .inr (.inr h)
    · rintro (h | h | h)
      · exact .inl (.inr h)
      · exact .inl (.inl h)
      · exact .inr h
theorem addAll_nd : ∀ (ks L : List Str), L.Nodup → (addAll L ks).Nodup
  | [], _, h => h
  | k :: ks, L, h => addAll_nd ks (addL L k) (nd_addL h)
theorem addAll_take {ks : List Str} {i : Nat} {k : Str} (h : ks[i]? = some k) : addAll [] (ks.take (i + 1)) = addL (addAll [] (ks.take i)) k := by
  unfold addAll
  rw [List.take_add_one, h, List.foldl_append]
  rfl
section
variable {P : Program} {w : World} {A : Around} {E : Value → Shared → Prop} {s : Shared}
theorem set_update_strs {I : Addr} {fp wr : List Addr} {G : Array GenState → Array GenState → Prop} {n : Nat} {Pv : Nat → Value → Prop} {St : Nat → Shared → Prop} {R : Result → Shared → Prop}
    (W : WalksS P w A.in1 I fp wr G n Pv St) (S : Addr) (hSf : S ∉ fp) (ns : List Str) (hn : n = ns.length) (hb : ns.length + 1 < scanBound) (hval : ∀ i v, Pv i v → ∃ k t, ns[i]? = some k ∧ v = .str k t) :
    ∀ (k i : Nat) (s : Shared), n - i = k → i ≤ n → St i s → SetS w s.heap S (addAll [] (ns.take i)) →
      (∀ s', Moved (S :: wr) G s s' → SetS w s'.heap S (addAll [] ns) → R (.ok (.ret .none)) s') →
      codeAny (model P w) A (.builtin "set.update.loop" ⟨[.ref S, .ref I], []⟩) R s := by
  have hSw : S ∉ wr := fun h => hSf (W.sub _ h)
  have hsub : ∀ b ∈ wr, b ∈ S :: wr := fun b hb => List.mem_cons_of_mem _ hb
  intro k
  induction k with
  | zero =>
    intro i s hk' hi hst hS hR
    have hin : i = n := by omega
    subst hin
    refine codeAny_builtin F.entry_set_update_loop ?_
    rw [Around.under_plainId F.plain_set_update_loop _]
    show wpAny _ A.in1 (pyNext (.ref I) >>= _) _ _ s
    refine wpAny_bind (W.done s _ _ hst fun s' hm => ?_)
    show wpAny _ A.in1 (ret Value.none) _ _ s'
    have e : ns.take i = ns := List.take_of_length_le (by omega)
    rw [e] at hS
    exact wpAny_pure (hR s' (hm.mono hsub) (hS.at fun o e => hm.heap S o hSw e))
  | succ k ih =>
    intro i s hk' hi hst hS hR
    have hlt : i < n := by omega
    refine codeAny_builtin F.entry_set_update_loop ?_
    rw [Around.under_plainId F.plain_set_update_loop _]
    show wpAny _ A.in1 (pyNext (.ref I) >>= _) _ _ s
    refine wpAny_bind (W.item i s _ _ hlt hst fun v s' hP hst' hm => ?_)
    obtain ⟨z, t, hz, rfl⟩ := hval i v hP
    have hS' : SetS w s'.heap S (addAll [] (ns.take i)) := hS.at fun o e => hm.heap S o hSw e
    have hl := addAll_len (ns.take i) []
    rw [List.length_take, List.length_nil] at hl
    show wpAny _ A.in1 (holding [Value.str z t] (setAdd S (.str z t)) >>= _) _ _ s'
    refine wpAny_bind (wpAny_holding ?_)
    unfold setAdd
    refine wpAny_holding ?_
    refine wpAny_bind ((PySem.strKind P w).pyHash (k := z) (isS z t) ?_)
    refine addS_hashed (s := { s' with toks := s'.toks + 1 }) hS' (by omega) fun h' b hsb hS2 => ?_
    rw [← addAll_take hz] at hS2
    refine wpAny_pure ⟨plainId_quiet F.plain_set_update_loop _, ih (i + 1) _ (by omega) hlt (W.frame _ s' _ _ hst' (Nat.le_succ _) fun b hb o e => ?_) hS2 fun s'' hm'' hS'' => ?_⟩
    · rw [hsb.2 b (fun h : b = S => hSf (by rw [← h]; exact hb))]; exact e
    · refine hR s'' (Moved.trans W.gtrans ((hm.mono hsub).then_heap (Nat.le_succ _) fun b o hb e => ?_) hm'') hS''
      rw [hsb.2 b (fun h : b = S => hb (by rw [h]; exact List.mem_cons_self))]; exact e
set_option maxHeartbeats 8000000 in
theorem set_of_strs {l : Addr} {its : Array Value} (ns : List Str) {Q : Value → Shared → Prop} (nh : A.handled = none) (il : s.heap.IsList l its) (ii : StrsAre its.toList ns) (nb : ns.length + 1 < scanBound)
    (fin : ∀ (g : Heap) (tk : Nat), SetS w g s.heap.objs.size (addAll [] ns) → (∀ b o, s.heap.get? b = some o → g.get? b = some o) → Q (.ref s.heap.objs.size) { s with heap := g, toks := tk }) :
    wpAny (model P w) A (call (.type "set") [.ref l]) Q E s := by
  have isz : its.size = ns.length := by
    have z := StrsAre.len_eq ii
    rwa [Array.length_toList] at z
  obtain ⟨_, _, mro⟩ := F.called_set.mro
  have m1 := F.called_set.made
  have m2 := F.called_set.sub
  have m3 := F.called_set.notType
  have m4 := F.called_set.canCreate
  have m5 := F.typeCall_set_1 (.ref l)
  refine wpAny_call (codeAny_of_tree (?_ : wpAny _ _ (callAny (.type "set") _) _ _ _))
  refine wpAny_pure ⟨Code.quiet_builtin _ (by decide +kernel), codeAny_builtin F.entry_type_call ?_⟩
  rw [Around.under_plain (weight_type_call_type "set" [.ref l] []) rfl]
  repeat (any_goals (first | assumption | wp_step))
  refine codeAny_mono (code_set_led1 (.ref l) (E := E) (Q₁ := fun ob z => ob = .ref s.heap.objs.size ∧ z = { s with heap := s.heap.push (emptySet w) }) ⟨rfl, rfl⟩) fun r z hz => ?_
  cases r with
  | error e => exact hz
  | ok fl =>
    cases fl with
    | ret ob =>
      obtain ⟨rfl, rfl⟩ := hz
      have zS : (s.heap.push (emptySet w)).get? s.heap.objs.size = some (emptySet w) := Heap.get?_push_size _ rfl
      have zT : Shared.TypeIs { s with heap := s.heap.push (emptySet w) } (.ref s.heap.objs.size) "set" := ⟨_, zS, rfl⟩
      have n1 := F.called_set.init.lookup
      have n2 := F.called_set.init.bind (.ref s.heap.objs.size)
      repeat (any_goals (first | assumption | wp_step))
      refine codeAny_mono (codeAny_call_builtin (R := wants (fun r z => r = .none ∧ ∃ g tk, z = { s with heap := g, toks := tk } ∧ SetS w g s.heap.objs.size (addAll [] ns) ∧ ∀ b o, s.heap.get? b = some o → g.get? b = some o) E)
        F.called_set.init.plain F.entry_set_init (check_set_init_1 zT ?_)) fun r2 z2 hz2 => ?_
      · obtain ⟨⟨oc, od, odt, osl⟩, ol, c1, nl, c2⟩ := il
        simp only at c1 c2
        subst c1 c2
        have ol2 : (s.heap.push (emptySet w)).get? l = some { cls := .type "list", dict := od, data := .seq its nl, slots := osl } := Heap.get?_push_of_some _ ol
        have k1 := F.sub_list_set
        have k2 := F.sub_list_frozenset
        have k3 : (Value.type "list" == Value.type "dict") = false := by decide
        have il2 : (s.heap.push (emptySet w)).IsList l its := ⟨_, ol2, rfl, nl, rfl⟩
        unfold Builtin.«set.__init__» noKeywords Builtin.Frozenset.updateFrom
        generalize ePI : pyIter = PI
        wp_walk
        subst ePI
        refine wpAny_pyIter_list il2 (wpAny_bind (wpAny_runValue ?_))
        have lS : l < s.heap.objs.size := Heap.lt_size ol
        have h3 : A.in1.in1.in1.handled = none := by simp [nh]
        have nI : l ≠ (s.heap.push (emptySet w)).objs.size := by
          rw [Heap.size_push]
          exact Nat.ne_of_lt (Nat.lt_succ_of_lt lS)
        have nf : s.heap.objs.size ∉ [(s.heap.push (emptySet w)).objs.size, l] := by
          rw [Heap.size_push]
          simp only [List.mem_cons, List.not_mem_nil, or_false, not_or]
          exact ⟨Nat.ne_of_lt (Nat.lt_succ_self _), Nat.ne_of_gt lS⟩
        have vl : ∀ (i : Nat) (v : Value), its[i]? = some v → ∃ k t, ns[i]? = some k ∧ v = .str k t := fun i v hv => by
          have hi : i < ns.length := by rw [← isz]; exact (Array.getElem?_eq_some_iff.mp hv).1
          obtain ⟨t, e⟩ := StrsAre.get ii i _ (List.getElem?_eq_getElem hi)
          refine ⟨ns[i], t, List.getElem?_eq_getElem hi, ?_⟩
          rw [← Array.getElem?_toList, e] at hv
          exact (Option.some.inj hv).symm
        refine set_update_strs ((Walks.list h3 _ l nI its).toS) s.heap.objs.size nf ns isz nb vl (its.size - 0) 0 _ (by omega) (Nat.zero_le _) ⟨⟨_, Heap.get?_push_size _ rfl, rfl, rfl⟩, il2.push _⟩ ?zStart ?zEnd
        case zStart => exact (setS_fresh w).at fun o e => Heap.get?_push_of_some _ e
        case zEnd =>
          intro z hm hS
          obtain ⟨g, gg, dd, tk, os⟩ := z
          have e1 : gg = s.gens := hm.gens
          have e2 : dd = s.drawn := hm.drawn
          have e3 : os = s.os := hm.os
          subst e1 e2 e3
          refine wpAny_pure (?_ : wpAny _ _ (ret Value.none) _ _ _)
          refine wpAny_pure ⟨rfl, g, tk, rfl, hS, fun b o e => ?_⟩
          have b0 : b < s.heap.objs.size := Heap.lt_size e
          refine hm.heap b o ?_ (Heap.get?_push_of_some _ (Heap.get?_push_of_some _ e))
          rw [Heap.size_push]
          simp only [List.mem_cons, List.not_mem_nil, or_false, not_or]
          exact ⟨Nat.ne_of_lt b0, Nat.ne_of_lt (Nat.lt_succ_of_lt b0)⟩
      · cases r2 with
        | error e => exact hz2
        | ok f2 =>
          cases f2 with
          | ret r =>
            obtain ⟨rfl, g, tk, rfl, q1, q3⟩ := hz2
            repeat (any_goals (first | assumption | wp_step))
            exact fin _ _ q1 q3
          | _ => exact hz2.elim
    | _ => exact hz.elim
end
theorem strs_vals : ∀ {ys : List Str} {its : List Value}, Vals (ys.map V.str) its → StrsAre its ys
  | [], _, .nil => .nil
  | y :: ys, _, .cons r rs => by
    obtain ⟨t, rfl⟩ := r
    exact .cons y t (strs_vals rs)
def rSetOS (K : PySem.W.Frag) (w : World) : List V → Hp → VK → Prop := fun xs H Q => ∃ (l : Addr) (ns : List Str), xs = [.ref l] ∧ SqL K H l (ns.map V.str) ∧ ns.length ≤ 60 ∧ ∀ p, H p = none → Q (.ref p) (upd H p (SetSO w p (addAll [] ns)))
theorem call_setOS {X : Cx} (hc : X.calm = true) : CallR X (.type "set") (rSetOS X.K X.w) := by
  intro pins s σ H xs us Q I r h
  obtain ⟨l, ns, rfl, hs, hl, q⟩ := h
  rw [Vals.ref1 r]
  obtain ⟨its, rv, pl, hz⟩ := I.list hs
  refine set_of_strs ns (I.ok.hd hc) pl.isList (strs_vals rv) (by unfold scanBound; omega) fun g tk R k => ?_
  exact ⟨.ref _, _, I.laid (t' := tk) k (Nat.le_refl _) (setSO_new R), rfl, q _ (I.hok.fresh (Nat.le_refl _))⟩
/-- len of a set of texts -/
def rLenSS (w : World) : List V → Hp → VK → Prop := fun xs H Q => ∃ (a : Addr) (L : List Str), xs = [.ref a] ∧ H a = some (SetSO w a L) ∧ Q (.int (L.length : Nat)) H
theorem call_lenSS {X : Cx} : CallR X (.builtin "len") (rLenSS X.w) := by
  intro pins s σ H xs us Q I r h
  obtain ⟨a, L, rfl, ha, q⟩ := h
  rw [Vals.ref1 r]
  have R := setSO_get I ha
  have hlen := @SetS.len _ _ _ _ R
  obtain ⟨o, es, ep, t, ho, hex, hd, g, pmL, nd, hb, hf, hr, hl⟩ := R
  have hn : es.size = L.length := hlen ho hd
  refine call_len_set ho hex hd hf (by unfold scanBound at hb; omega) ?_
  rw [hn]
  exact ⟨.int (L.length : Nat), H, I.tok _, ⟨_, rfl⟩, q⟩
end Ss
/-! tuple + tuple and slices of tuples, whichever object comes -/
namespace Th
open PySem PySem.Spec PyProof.Rows L2
def rCatS (K : PySem.W.Frag) : R2 := fun x y H Q => ∃ (a b : Addr) (xs ys : List V), x = .ref a ∧ y = .ref b ∧ H a = some (.tup xs) ∧ H b = some (.tup ys) ∧ xs.length + ys.length ≤ sizeLine ∧ ∀ (c : Addr) (H' : Hp), Same H H' → H' c = some (.tup (xs ++ ys)) → Q (.ref c) H'
theorem op_catS {X : Cx} : OpR X (binaryOp .Add) (rCatS X.K) := by
  intro pins s σ H x y v u Q I rx ry h
  obtain ⟨a, b, xs, ys, rfl, rfl, hx, hy, hz, h⟩ := h
  exact op_catA pins s σ H _ _ v u Q I rx ry ⟨a, b, xs, ys, rfl, rfl, SqT.of hx, SqT.of hy, hz, fun e => h b H (.refl _) (by rw [hy, e]; rfl), fun _ e => h a H (.refl _) (by rw [hx, e, List.append_nil]), fun _ _ p np => h p _ (same_upd np) upd_same⟩
def rSlS (K : PySem.W.Frag) : V → Option Int → Option Int → Hp → VK → Prop := fun x lo hi H Q => ∃ (a : Addr) (xs : List V), x = .ref a ∧ H a = some (.tup xs) ∧ ∀ (c : Addr) (H' : Hp), Same H H' → H' c = some (.tup (cutV xs lo hi)) → Q (.ref c) H'
theorem sl_tupS {X : Cx} : SlR X (rSlS X.K) := by
  intro pins s σ H x v vl vu lo hi sl Q I rx hs pl pu h
  obtain ⟨a, xs, rfl, hx, h⟩ := h
  exact sl_tupA pins s σ H _ v vl vu lo hi sl Q I rx hs pl pu ⟨a, xs, rfl, SqT.of hx, fun e => h a H (.refl _) (by rw [hx]; unfold cutV; rw [e.1, e.2, List.drop_zero, Nat.sub_zero, List.take_length]), fun _ p np => h p _ (same_upd np) upd_same⟩
end Th
/-! tuples told with their objects; dict of such; sorted of data -/
namespace Th
open PySem PySem.Spec PyProof.Rows L2
/-- the tuple xs at a, its object known to be plain -/
def TpF (H : Hp) (a : Addr) (xs : List V) : Prop := ∃ o : Obj, H a = some (.frz o (.tup xs)) ∧ o.dict = none
theorem TpF.sq {K : PySem.W.Frag} {H : Hp} {a : Addr} {xs : List V} (h : TpF H a xs) : SqT K H a xs := let ⟨o, e, _⟩ := h; .inl (.inr ⟨o, e⟩)
theorem TpF.same {H H' : Hp} {a : Addr} {xs : List V} (h : TpF H a xs) (s : Same H H') : TpF H' a xs := let ⟨o, e, d⟩ := h; ⟨o, s _ _ e, d⟩
theorem TpF.keep {p : Addr} {H H' : Hp} {a : Addr} {xs : List V} (h : TpF H a xs) (k : Keep p H H') (b : Bag H p) : TpF H' a xs := by
  obtain ⟨o, e, d⟩ := h
  refine ⟨o, k _ _ (fun z => ?_) e, d⟩
  obtain ⟨g, r, e', _⟩ := b
  rw [z, e'] at e
  cases e
def rTupF (K : PySem.W.Frag) : List V → Hp → VK → Prop := fun xs H Q => ∃ (p : Addr) (ys : List V), xs = [.ref p] ∧ SqL K H p ys ∧ ∀ (l : Addr) (H' : Hp), H l = none → Same H H' → TpF H' l ys → (∀ q, q ≠ l → H' q = H q) → Q (.ref l) H'
theorem call_tuple_ofF {X : Cx} : CallR X (.type "tuple") (rTupF X.K) := by
  intro pins s σ H xs us Q I r h
  obtain ⟨p, ys, rfl, hq, q⟩ := h
  obtain ⟨u, rfl, rx⟩ := vals1 r
  cases rx
  obtain ⟨its, r', pl, hz⟩ := I.list hq
  have hlen := r'.length
  refine call_tuple_list pl.isList (fun h' kp => ?_) (by simp only [List.size_toArray] <;> omega)
  have I1 : Inv X pins σ H { s with heap := h' } := I.kept (t' := s.toks) kp
  have I2 : Inv X pins σ (upd H h'.objs.size (.frz { cls := .type "tuple", data := .seq its.toArray } (.tup ys))) { s with heap := h'.push { cls := .type "tuple", data := .seq its.toArray } } :=
    I1.laid (t' := s.toks) (fun b o e => Heap.get?_push_of_some _ e) (Nat.le_refl _) (show ObjOk X.prog X.w _ _ _ (.frz _ (.tup ys)) from ⟨Heap.get?_push_size _ rfl, hz, its, r', IsTup.new _ _⟩)
  have nl := I1.hok.fresh (Nat.le_refl h'.objs.size)
  exact ⟨.ref h'.objs.size, _, I2, rfl, q _ _ nl (same_upd nl) ⟨_, upd_same, rfl⟩ fun q hq => upd_ne hq⟩
theorem choose_list {α β : Type} : ∀ {xs : List α} {R : Nat → α → β → Prop}, (∀ j x, xs[j]? = some x → ∃ y, R j x y) → ∃ ys : List β, ys.length = xs.length ∧ ∀ j y, ys[j]? = some y → ∃ x, xs[j]? = some x ∧ R j x y
  | [], _, _ => ⟨[], rfl, fun j y e => by simp at e⟩
  | x :: xs, R, h => by
    obtain ⟨y, hy⟩ := h 0 x rfl
    obtain ⟨ys, h1, h2⟩ := choose_list (xs := xs) (R := fun j => R (j + 1)) fun j x e => h (j + 1) x e
    refine ⟨y :: ys, by rw [List.length_cons, h1, List.length_cons], fun j z e => ?_⟩
    match j, e with
    | 0, e =>
      have : y = z := Option.some.inj e
      subst this
      exact ⟨x, rfl, hy⟩
    | j + 1, e => exact h2 j z e
def rDictF (K : PySem.W.Frag) : List V → Hp → VK → Prop := fun xs H Q => ∃ (a : Addr) (ps : List Addr) (kvs : List (Key × V)), xs = [.ref a] ∧ TpF H a (ps.map V.ref) ∧ Paired (fun p kv => SqT K H p [kV kv.1, kv.2]) ps kvs ∧
    ∀ p, H p = none → Q (.ref p) (upd H p (.dK (mergeK [] kvs)))
theorem call_dictF {X : Cx} (hcalm : X.calm = true) : CallR X (.type "dict") (rDictF X.K) := by
  intro pins s σ H xs us Q I r h
  obtain ⟨a, ps, kvs, rfl, ⟨ob, hob, hnd⟩, hp, q⟩ := h
  obtain ⟨u, rfl, rx⟩ := vals1 r
  cases rx
  obtain ⟨hg, hz, its, rv, o', ho', hc, n, hdat⟩ := (show ObjOk X.prog X.w H s.heap a (.frz ob (.tup (ps.map V.ref))) from I.hok a _ hob)
  rw [hg] at ho'
  cases ho'
  have ei := refs_at rv
  subst ei
  rw [List.length_map] at hz
  obtain ⟨prs, rel, hl, hpr⟩ := pairs_of I hp
  obtain ⟨vv, hvl, hvv⟩ := choose_list (R := fun j (q : Key × Value) (k : Value) => ∃ b, ps[j]? = some b ∧ IsTup s.heap b #[k, q.2] ∧ keyIs q.1 k = true) (xs := prs) fun j q e => let ⟨b, u, h⟩ := hpr j q e; ⟨u, b, h⟩
  have len : (vv.zip (prs.map (·.2))).length = ps.length := by rw [List.length_zip, List.length_map, hvl, hl]; omega
  have each : ∀ j k v, (vv.zip (prs.map (·.2)))[j]? = some (k, v) → ∃ (b : Addr) (q : Key × Value), ps[j]? = some b ∧ prs[j]? = some q ∧ v = q.2 ∧ IsTup s.heap b #[k, v] ∧ keyIs q.1 k = true := fun j k v e => by
    rw [List.getElem?_zip_eq_some, List.getElem?_map] at e
    obtain ⟨q, hq, b, h1, h2, h3⟩ := hvv j k e.1
    rw [hq] at e
    have : q.2 = v := Option.some.inj e.2
    subst this
    exact ⟨b, q, h1, hq, rfl, h2, h3⟩
  have P := PairArg.tuple (prog := X.prog) (w := X.w) a (ps.map Value.ref).toArray (fun j => ps.getD j 0) (vv.zip (prs.map (·.2)))
  refine PySem.call_dict_pairs (knd := mixKind X.prog X.w) (kvs := prs) P (I.ok.hd hcalm) ⟨⟨ob, n, hg, hc, hnd, hdat⟩, ?_, fun j k v e => ?_⟩ ⟨by rw [len, hl], fun j k v e => ?_⟩ ?_ fun h' tk hd' k => ?_
  · rw [List.size_toArray, List.length_map, len]
  · obtain ⟨b, q, h1, h2, h3, h4, h5⟩ := each j k v e
    refine ⟨?_, .inl ?_⟩
    · show (ps.map Value.ref).toArray[j]? = some (Value.ref (ps.getD j 0))
      rw [List.getD_eq_getElem?_getD, h1]
      simp [h1]
    · show s.heap.IsTuple (ps.getD j 0) #[k, v]
      rw [List.getD_eq_getElem?_getD, h1]
      exact h4
  · obtain ⟨b, q, h1, h2, h3, h4, h5⟩ := each j k v e
    exact ⟨q.1, by rw [h2, h3], h5⟩
  · rw [len]
    exact hz
  · have hm : (s.heap.objs.size == sysModules) = false := beq_eq_false_iff_ne.mpr (Nat.ne_of_gt I.big)
    have hlen : (mergeK [] kvs).length ≤ sizeLine := by
      refine Nat.le_trans (length_mergeK kvs []) ?_
      rw [List.length_nil, Nat.zero_add, rel.length, hl]
      exact hz
    exact ⟨.ref s.heap.objs.size, upd H s.heap.objs.size (.dK (mergeK [] kvs)), I.laid (t' := tk) (fun b o e => k b o (by simp) e) (Nat.le_refl _) (show ObjOk X.prog X.w _ _ _ (.dK (mergeK [] kvs)) from ⟨hlen, hm, merged [] prs, KV.merge rel .nil, hd'⟩), rfl, q _ (I.hok.fresh (Nat.le_refl _))⟩
/-- what such a dict tells, the keys unlike -/
theorem val_mergeK : ∀ (kvs acc : List (Key × V)) (k : Key), valV (mergeK acc kvs) k = match kvs.reverse.find? (fun p => decide (p.1 = k)) with | some p => some p.2 | none => valV acc k
  | [], acc, k => rfl
  | p :: kvs, acc, k => by
    show valV (mergeK (putK acc p.1 p.2) kvs) k = _
    rw [val_mergeK kvs, valV_put, List.reverse_cons, List.find?_append]
    cases h : kvs.reverse.find? (fun p => decide (p.1 = k)) with
    | some q => rfl
    | none =>
      show (if k = p.1 then some p.2 else valV acc k) = _
      by_cases c : k = p.1
      · rw [if_pos c]
        simp [c]
      · rw [if_neg c]
        have : ¬ p.1 = k := fun e => c e.symm
        simp [this]
theorem val_merge_nd {kvs : List (Key × V)} (nd : (kvs.map (·.1)).Nodup) {k : Key} {v : V} (h : (k, v) ∈ kvs) : valV (mergeK [] kvs) k = some v := by
  rw [val_mergeK]
  have : kvs.reverse.find? (fun p => decide (p.1 = k)) = some (k, v) := by
    cases f : kvs.reverse.find? (fun p => decide (p.1 = k)) with
    | none =>
      have := List.find?_eq_none.mp f (k, v) (List.mem_reverse.mpr h)
      simp at this
    | some q =>
      have hq : q.1 = k := by
        have := List.find?_some f
        exact of_decide_eq_true this
      have hm : q ∈ kvs := List.mem_reverse.mp (List.mem_of_find?_eq_some f)
      obtain ⟨i, hi⟩ := List.getElem?_of_mem h
      obtain ⟨j, hj⟩ := List.getElem?_of_mem hm
      have e1 : (kvs.map (·.1))[i]? = some k := by rw [List.getElem?_map, hi]; rfl
      have e2 : (kvs.map (·.1))[j]? = some k := by rw [List.getElem?_map, hj, ← hq]; rfl
      have l1 := (List.getElem?_eq_some_iff.mp e1).1
      have ij : i = j := (List.getElem?_inj l1 nd).mp (e1.trans e2.symm)
      subst ij
      rw [hi] at hj
      exact hj.symm
  rw [this]
/-- sorted of data -/
def rSortD {β : Type} (enc : β → PyData) (K : PySem.W.Frag) : List V → Hp → VK → Prop := fun vs H Q => ∃ (a : Addr) (xs : List V) (bs : List β) (R : V → β → Prop), vs = [.ref a] ∧ SqL K H a xs ∧ Paired R xs bs ∧ (∀ v b, b ∈ bs → R v b → Dp K H v (enc b)) ∧ PySem.W.AllAlike (bs.map enc) ∧ PySem.W.Sortable (bs.map enc) ∧ (∀ b ∈ bs, (enc b).depth ≤ 60) ∧
  ∀ (p : Addr) (ys : List V), H p = none → Paired R ys (bs.mergeSort (PySem.W.dataLe false enc)) → Q (.ref p) (upd H p (.lst ys))
theorem each_of {β : Type} {R : V → β → Prop} {S : Value → β → Prop} : ∀ {xs : List V} {us : List Value} {bs : List β}, Vals xs us → Paired R xs bs → (∀ v u b, b ∈ bs → RelV v u → R v b → S u b) → PySem.W.EachIs S us bs
  | _, _, _, .nil, .nil, _ => .nil
  | _, _, _, .cons r rs, .cons h hs, k => .cons (k _ _ _ List.mem_cons_self r h) (each_of rs hs fun v u b hb => k v u b (List.mem_cons_of_mem _ hb))
theorem of_each {β : Type} {R : V → β → Prop} : ∀ {us : List Value} {bs : List β}, PySem.W.EachIs (fun u b => ∃ v, RelV v u ∧ R v b) us bs → ∃ xs, Vals xs us ∧ Paired R xs bs
  | _, _, .nil => ⟨[], .nil, .nil⟩
  | _, _, .cons ⟨v, r, h⟩ hs => let ⟨xs, h1, h2⟩ := of_each hs; ⟨v :: xs, .cons r h1, .cons h h2⟩
theorem cr_sortD {X : Cx} {β : Type} (enc : β → PyData) (hu : X.A.units + 64 < cLine) : CallR X (.builtin "sorted") (rSortD enc X.K) := by
  intro pins s σ H vs us Q I r h
  obtain ⟨a, xs, bs, R, rfl, hs, hR, hd, hal, hk, hdep, q⟩ := h
  obtain ⟨its, rv, hl, hz⟩ := I.list hs
  rw [Vals.ref1 r]
  have lb : its.length = bs.length := by rw [← rv.length, hR.length]
  refine PySem.W.sorted_data (enc := enc) (bs := bs) (R := fun u b => ∃ v, RelV v u ∧ R v b) hl.isList (each_of rv hR fun v u b _ r h => ⟨v, r, h⟩) (each_of rv hR fun v u b hb r h => Dp.reads I (enc b) v u (hd v b hb h) r) hal hk (by rw [← lb, ← rv.length]; exact hz) (fun b hb => by have := hdep b hb; omega) fun out hlen hout => ?_
  obtain ⟨ys, h1, h2⟩ := of_each hout
  obtain ⟨ep, he⟩ := sortedAll_at s.heap its out.toArray
  have hly : ys.length ≤ sizeLine := by
    rw [h1.length, hlen, ← lb, ← rv.length]
    exact hz
  exact ⟨.ref _, upd H (s.heap.objs.size + 1) (.lst ys), I.laid (t' := s.toks) (fun _ _ => sortedAll_old) (Nat.le_succ _) (show ObjOk X.prog X.w _ _ _ (.lst ys) from ⟨hly, out, ep, h1, he⟩), rfl, q _ ys (I.hok.fresh (Nat.le_succ _)) h2⟩
end Th
/-! slices of tuples whose object is known; t.index(x) of such; t[::-1] of a tuple -/
namespace Tw
open PySem PySem.Spec PyProof.Rows L2 HT Th
section
variable {X : Cx}
def tyTp (x : V) (H : Hp) : Prop := ∃ a xs, x = .ref a ∧ TpF H a xs
theorem ty_tp : TyOk X "tuple" tyTp := by
  intro pins σ H s x v I r ty
  obtain ⟨a, xs, rfl, ob, hob, hnd⟩ := ty
  cases r
  obtain ⟨hg, hz, its, rv, o', ho', hc, n, hdat⟩ := (show ObjOk X.prog X.w H s.heap a (.frz ob (.tup xs)) from I.hok a _ hob)
  refine ⟨⟨o', ho', hc⟩, fun b e => ?_⟩
  cases e
  exact ⟨ob, hg, hnd⟩
def rIdxT (K : PySem.W.Frag) : V → List V → Hp → VK → Prop := fun x xs H Q => ∃ p, ∃ ys : List Str, ∃ z j, x = .ref p ∧ xs = [.str z] ∧ SqT K H p (ys.map V.str) ∧ ys[j]? = some z ∧ (∀ m, m < j → ys[m]? ≠ some z) ∧ Q (.int (j : Nat)) H
theorem mt_tidx : MtR X "tuple.index" (rIdxT X.K) := mt_tup_index
def rSlF (K : PySem.W.Frag) : V → Option Int → Option Int → Hp → VK → Prop := fun x lo hi H Q => ∃ a xs, x = .ref a ∧ SqT K H a xs ∧ ¬ (HT.sIx xs.length 0 lo = 0 ∧ HT.sIx xs.length xs.length hi = xs.length) ∧
  ∀ (p : Addr) (H' : Hp), H p = none → Same H H' → TpF H' p (cutV xs lo hi) → (∀ q, q ≠ p → H' q = H q) → Q (.ref p) H'
theorem sl_tupF : SlR X (rSlF X.K) := by
  intro pins s σ H x v vl vu lo hi sl Q I rx hs pl pu h
  obtain ⟨a, xs, rfl, hx, hw, q⟩ := h
  cases rx
  obtain ⟨its, r, ht, hz⟩ := I.tuple hx
  have hlen : its.toArray.size = xs.length := by rw [List.size_toArray]; exact r.length.symm
  refine ⟨"tuple", _, PyProof.Rows.slot_tuple_getitem.lookup, ht.typeIs, ?_⟩
  refine HT.getItem_tuple_cut ht hs pl pu (by rw [hlen]; exact hw) ?_ (by rw [hlen]; exact hz)
  rw [hlen]
  have nl := I.hok.fresh (Nat.le_refl s.heap.objs.size)
  refine ⟨.ref s.heap.objs.size, upd H s.heap.objs.size (.frz { cls := .type "tuple", data := .seq ((its.toArray.toList.drop (HT.sIx xs.length 0 lo)).take (HT.sIx xs.length xs.length hi - HT.sIx xs.length 0 lo)).toArray } (.tup (cutV xs lo hi))), I.laid (t' := s.toks) (fun b ob q => Heap.get?_push_of_some _ q) (Nat.le_refl _) ?_, rfl, q _ _ nl (same_upd nl) ⟨_, upd_same, rfl⟩ fun q hq => upd_ne hq⟩
  exact ⟨Heap.get?_push_size _ rfl, Nat.le_trans (cutV_length xs lo hi) hz, _, (r.drop (HT.sIx xs.length 0 lo)).take (HT.sIx xs.length xs.length hi - HT.sIx xs.length 0 lo), IsTup.new _ _⟩
end
section
variable {prog : Program} {w : World} {A : Around} {E : Value → Shared → Prop} {s : Shared}
theorem places (n : Nat) : Builtin.Slice.slicePlaces ((n : Int) - 1) (-1) (-1) = n := by
  unfold Builtin.Slice.slicePlaces
  rw [if_neg (by decide)]
  by_cases h : (n : Int) - 1 > -1
  · rw [if_pos h]
    have e : ((n : Int) - 1 - -1 - 1) / (- -1) + 1 = (n : Int) := by
      rw [show (- -1 : Int) = 1 by decide, Int.ediv_one]
      omega
    rw [e]
    rfl
  · rw [if_neg h]
    have : n = 0 := by omega
    subst this
    rfl
theorem applied {sl : Addr} {n : Nat} {vl vu vs : Value} {Q : Int × Int × Nat → Shared → Prop} (hs : s.heap.IsSliceOf sl vl vu vs) (pl : IsPart vl none) (pu : IsPart vu none) (ps : IsPart vs (some (-1)))
    (h : Q ((n : Int) - 1, -1, n) s) : wpAny (model prog w) A (Builtin.Slice.sliceApplied (.ref sl) (pure (n : Int))) Q E s := by
  obtain ⟨os, hos, hcs, hds⟩ := id hs
  unfold Builtin.Slice.sliceApplied Builtin.Slice.sliceFields
  refine wpAny_bind (wpAny_bind (wpAny_field hos hds (x := vl) rfl (wpAny_bind (wpAny_field hos hds (x := vu) rfl (wpAny_bind (wpAny_field hos hds (x := vs) rfl (wpAny_pure ?_)))))))
  refine wpAny_bind (slicePart_ ps ?_)
  show wpAny _ _ (if ((-1 : Int) == 0) = true then _ else _) _ _ s
  rw [if_neg (by decide)]
  refine wpAny_bind (slicePart_ pl (wpAny_bind (slicePart_ pu (wpAny_bind (wpAny_pure ?_)))))
  have e : Builtin.Slice.sliceAdjust none none (-1) (n : Int) = ((n : Int) - 1, -1) := by
    unfold Builtin.Slice.sliceAdjust
    simp
  show wpAny _ _ (match Builtin.Slice.sliceAdjust none none (-1) (n : Int) with | (lo, hi) => pure (lo, (-1 : Int), Builtin.Slice.slicePlaces lo hi (-1))) Q E s
  rw [e]
  refine wpAny_pure ?_
  show Q (_, _, Builtin.Slice.slicePlaces ((n : Int) - 1) (-1) (-1)) s
  rw [places]
  exact h
theorem fm_congr {α β : Type} {f g : α → Option β} : ∀ {l : List α}, (∀ x ∈ l, f x = g x) → l.filterMap f = l.filterMap g
  | [], _ => rfl
  | x :: l, h => by
    rw [List.filterMap_cons, List.filterMap_cons, h x List.mem_cons_self, fm_congr fun y hy => h y (List.mem_cons_of_mem _ hy)]
theorem back (xs : Array Value) : ((List.range xs.size).filterMap fun (k : Nat) => xs[(((xs.size : Int) - 1) + (k : Int) * (-1)).toNat]?) = xs.toList.reverse := by
  have e : ((List.range xs.size).filterMap fun (k : Nat) => xs[(((xs.size : Int) - 1) + (k : Int) * (-1)).toNat]?) = ((List.range xs.size).map fun k => xs.size - 1 - k).filterMap (xs[·]?) := by
    rw [List.filterMap_map]
    refine fm_congr fun k hk => ?_
    have := List.mem_range.mp hk
    show _ = xs[xs.size - 1 - k]?
    congr 1
    omega
  rw [e, PySem.W.krv_range, List.filterMap_reverse, PySem.W.krv_all]
theorem item_rev {t sl : Addr} {items : Array Value} {vl vu vs : Value} {Q : Value → Shared → Prop} (ht : IsTup s.heap t items) (hs : s.heap.IsSliceOf sl vl vu vs) (pl : IsPart vl none) (pu : IsPart vu none) (ps : IsPart vs (some (-1))) (hz : items.size ≤ sizeLine)
    (h : Q (.ref s.heap.objs.size) { s with heap := s.heap.push { cls := .type "tuple", data := .seq items.toList.reverse.toArray } }) : wpAny (model prog w) A (getItem (.ref t) (.ref sl)) Q E s := by
  have htake : sizeOk (.seq items.toList.reverse.toArray) := by
    show items.toList.reverse.toArray.size ≤ sizeLine
    simpa using hz
  obtain ⟨os, hos, hcs, hds⟩ := id hs
  have hTs : s.TypeIs (.ref sl) "slice" := ⟨os, hos, hcs⟩
  unfold getItem
  try with_reducible refine wpAny_holding ?_
  first | refine wpAny_bind (wpAny_pure ?_) | skip
  refine wpAny_bind (wpAny_sequenceKey ht.typeIs (by decide) ?_)
  refine wpAny_bind (wpAny_callSpecial?_slot (name := Str.ofString "__getitem__") ht.typeIs PyProof.Rows.slot_tuple_getitem
    (wpAny_call_entry PyProof.Rows.slot_tuple_getitem ht.typeIs entry_tuple_getitem ?_ (args_tuple_getitem _ _)))
  show wpAny _ _ (Builtin.Tuple.tupleItemsOf (.ref t) >>= _) _ _ s
  refine wpAny_bind (tupleItemsOf_ ht ?_)
  refine wpAny_bind (wpAny_typeOf hTs ?_)
  rw [if_pos (by decide)]
  refine wpAny_bind (applied hs pl pu ps ?_)
  show wpAny _ _ (if (((items.size : Int) - 1) == 0 && (-1 : Int) == 1 && items.size == items.size) = true then _ else _) _ _ s
  rw [if_neg (by simp)]
  show wpAny _ _ (Builtin.Tuple.tupleExact ((List.range items.size).filterMap fun (k : Nat) => items[(((items.size : Int) - 1) + (k : Int) * (-1)).toNat]?).toArray >>= _) _ _ s
  rw [back]
  first
    | exact wpAny_bind (m := Builtin.Tuple.tupleExact _) (wpAny_newObj_type (wpAny_pure ⟨_, rfl, wpAny_pure h⟩) htake)
    | exact wpAny_bind (m := Builtin.Tuple.tupleExact _) (wpAny_newObj_type (wpAny_bind (wpAny_pure (wpAny_pure ⟨_, rfl, wpAny_pure h⟩))) htake)
    | exact wpAny_bind (wpAny_bind (m := Builtin.Tuple.tupleExact _) (wpAny_newObj_type (wpAny_pure (wpAny_pure ⟨_, rfl, wpAny_pure h⟩)) htake))
    | exact wpAny_bind (wpAny_bind (m := Builtin.Tuple.tupleExact _) (wpAny_newObj_type (wpAny_pure ⟨_, rfl, wpAny_pure h⟩) htake))
end
section
variable {X : Cx}
def tRevT (K : PySem.W.Frag) (te : TE) : TE := fun σ H Q => te σ H fun x H1 => ∃ a xs, x = .ref a ∧ SqT K H1 a xs ∧ ∀ p, H1 p = none → Q (.ref p) (upd H1 p (.tup xs.reverse))
theorem pe_revT {K : PySem.W.Frag} {e : Expr} {te : TE} {k : Nat} {p1 p2 p3 pos : Pos} (he : PE X e te) (hK : X.K = K := by rfl) : PE X (.Subscript e (.Slice none none (some (.UnaryOp .USub (.Constant (.int 1) k p1) p2)) p3) pos) (tRevT K te) := by
  subst hK
  refine ⟨fun pins s σ H Q I h => ?_⟩
  refine Subscript_ (thn (he.run pins s σ H _ I h) fun v s1 ⟨x, H1, I1, r1, q1⟩ => ?_)
  obtain ⟨a, xs, ex, hx, q⟩ := q1
  subst ex
  cases r1
  have hst : PO X (some (.UnaryOp .USub (.Constant (.int 1) k p1) p2)) (tPart (tUn (rU fun i => .int (-i)) (tC (.int 1)))) := po_some (pe_un un_neg pe_int)
  refine wpAny_Slice (thn (po_none.run pins s1 σ H1 (fun o H2 => o = none ∧ H2 = H1) I1 ⟨rfl, rfl⟩) fun vl s2 ⟨l, H2, I2, pl, el, e2⟩ => ?_)
  subst el e2
  refine thn (po_none.run pins s2 σ H2 (fun o H3 => o = none ∧ H3 = H2) I2 ⟨rfl, rfl⟩) fun vu s3 ⟨u, H3, I3, pu, eu, e3⟩ => ?_
  subst eu e3
  refine thn (hst.run pins s3 σ H3 (fun o H4 => o = some (-1) ∧ H4 = H3) I3 ⟨1, rfl, -1, rfl, rfl, rfl⟩) fun vs s4 ⟨o, H4, I4, ps, eo, e4⟩ => ?_
  subst eo e4
  have I5 : Inv X pins σ H4 { s4 with heap := s4.heap.push { cls := .type "slice", data := .fields #[vl, vu, vs] } } := I4.kept (t' := s4.toks) fun b ob q => Heap.get?_push_of_some _ q
  obtain ⟨its, r, ht, hz⟩ := I5.tuple hx
  have hlen := r.length
  show wpAny (model X.prog X.w) X.A (subscriptTail e (.Slice none none (some (.UnaryOp .USub (.Constant (.int 1) k p1) p2)) p3) (.ref a) (.ref s4.heap.objs.size)) (EP X pins σ Q) X.xe { s4 with heap := s4.heap.push { cls := .type "slice", data := .fields #[vl, vu, vs] } }
  refine tail_any (ops := [.ref a, .ref s4.heap.objs.size]) ht.typeIs (PyProof.Rows.slot_tuple_getitem.lookup) ?_ (by with_unfolding_all rfl)
  refine item_rev ht (Heap.IsSliceOf.new _ vl vu vs) pl pu ps (by rw [List.size_toArray]; omega) ?_
  refine ⟨.ref _, _, I5.laid (t' := s4.toks) (o := .tup xs.reverse) (fun b ob q => Heap.get?_push_of_some _ q) (Nat.le_refl _) ?_, rfl, q _ (I5.hok.fresh (Nat.le_refl _))⟩
  exact ⟨by rw [List.length_reverse]; exact hz, _, r.reverse, IsTup.new _ _⟩
end
end Tw
namespace Th
open PySem PySem.Spec PyProof.Rows L2
/-! the text -/
def topS (i : Nat) : Stmt := PySem.Challenge.pw_throughlines_k51_whole_losses.main.body.getD i (.Pass ⟨0, 0, 0, 0⟩)
abbrev FnP (K : PySem.W.Frag) (x : Str) (st : Stmt) (f : Addr) (fd : FuncData) : Prop := FunD K x x (defArgs st) (defBody st) (defScope st) [] [] f fd
abbrev s_tie_between : Stmt := topS 1
abbrev N_tie_between : List Str := ["net", "place", "far", "one", "other", "line", "chains"]
theorem sc_tie_between : FnScope N_tie_between ["net", "place", "far"] (defScope s_tie_between) := ⟨rfl, rfl, rfl, by decide +kernel, rfl, by decide +kernel, by decide +kernel⟩
abbrev s_ties_along : Stmt := topS 3
abbrev N_ties_along : List Str := ["net", "way", "place", "far"]
theorem sc_ties_along : FnScope N_ties_along ["net", "way"] (defScope s_ties_along) := ⟨rfl, rfl, rfl, by decide +kernel, rfl, by decide +kernel, by decide +kernel⟩
abbrev s_legs : Stmt := topS 4
abbrev N_legs : List Str := ["net", "way", "told", "line", "chains"]
theorem sc_legs : FnScope N_legs ["net", "way"] (defScope s_legs) := ⟨rfl, rfl, rfl, by decide +kernel, rfl, by decide +kernel, by decide +kernel⟩
abbrev s_line_chains : Stmt := topS 5
abbrev N_line_chains : List Str := ["net", "way"]
theorem sc_line_chains : FnScope N_line_chains ["net", "way"] (defScope s_line_chains) := ⟨rfl, rfl, rfl, by decide +kernel, rfl, by decide +kernel, by decide +kernel⟩
abbrev s_chains_by_line : Stmt := topS 6
abbrev N_chains_by_line : List Str := ["run", "found", "line", "chains"]
theorem sc_chains_by_line : FnScope N_chains_by_line ["run"] (defScope s_chains_by_line) := ⟨rfl, rfl, rfl, by decide +kernel, rfl, by decide +kernel, by decide +kernel⟩
abbrev s_bearers : Stmt := topS 8
abbrev N_bearers : List Str := ["net", "way", "seals", "broken", "whole", "first", "at", "seal"]
theorem sc_bearers : FnScope N_bearers ["net", "way", "seals"] (defScope s_bearers) := ⟨rfl, rfl, rfl, by decide +kernel, rfl, by decide +kernel, by decide +kernel⟩
abbrev s_l_bag : Stmt := topS 10
abbrev N_l_bag : List Str := ["_law_script", "_law_at", "_law_cell", "_law_great", "_law_primes"]
theorem sc_l_bag : FnScope N_l_bag ["_law_script", "_law_at"] (defScope s_l_bag) := ⟨rfl, rfl, rfl, by decide +kernel, rfl, by decide +kernel, by decide +kernel⟩
abbrev s_l_take : Stmt := topS 11
abbrev N_l_take : List Str := ["_law_bag_here", "_law_many", "_law_digit"]
theorem sc_l_take : FnScope N_l_take ["_law_bag_here", "_law_many"] (defScope s_l_take) := ⟨rfl, rfl, rfl, by decide +kernel, rfl, by decide +kernel, by decide +kernel⟩
abbrev s_l_names : Stmt := topS 12
abbrev N_l_names : List Str := ["_law_bag_here", "_law_many", "_law_letters", "_law_found", "_law_k", "_law_size", "_law_stem", "_law_turn"]
theorem sc_l_names : FnScope N_l_names ["_law_bag_here", "_law_many"] (defScope s_l_names) := ⟨rfl, rfl, rfl, by decide +kernel, rfl, by decide +kernel, by decide +kernel⟩
abbrev s_l_spots : Stmt := topS 13
abbrev N_l_spots : List Str := ["_law_bag_here", "_law_many", "_law_junctions", "_law_found", "_law_here", "_law_k", "_law_some", "_law_turn"]
theorem sc_l_spots : FnScope N_l_spots ["_law_bag_here", "_law_many", "_law_junctions"] (defScope s_l_spots) := ⟨rfl, rfl, rfl, by decide +kernel, rfl, by decide +kernel, by decide +kernel⟩
abbrev s_l_places : Stmt := topS 14
abbrev N_l_places : List Str := ["_law_bag_here", "_law_many", "_law_junctions", "_law_more", "_law_names_here", "_law_spots_here", "_law_first", "_law_last", "_law_towns", "_law_k"]
theorem sc_l_places : FnScope N_l_places ["_law_bag_here", "_law_many"] (defScope s_l_places) := ⟨rfl, rfl, rfl, by decide +kernel, rfl, by decide +kernel, by decide +kernel⟩
abbrev s_l_net : Stmt := topS 15
abbrev N_l_net : List Str := ["_law_bag_here", "_law_many", "_law_lines", "_law_places_here", "_law_row", "_law_ties", "_law_k", "_law_one", "_law_other", "_law_common", "_law_chains", "_law_near", "_law_line"]
theorem sc_l_net : FnScope N_l_net ["_law_bag_here"] (defScope s_l_net) := ⟨rfl, rfl, rfl, by decide +kernel, rfl, by decide +kernel, by decide +kernel⟩
abbrev s_l_laid : Stmt := topS 16
abbrev N_l_laid : List Str := ["_law_bag_here", "_law_lines", "_law_places_here", "_law_ties", "_law_stations", "_law_junctions", "_law_rows", "_law_name", "_law_some", "_law_one", "_law_other", "_law_tie", "_law_line"]
theorem sc_l_laid : FnScope N_l_laid ["_law_bag_here", "_law_lines", "_law_places_here", "_law_ties"] (defScope s_l_laid) := ⟨rfl, rfl, rfl, by decide +kernel, rfl, by decide +kernel, by decide +kernel⟩
abbrev s_l_walk : Stmt := topS 17
abbrev N_l_walk : List Str := ["_law_bag_here", "_law_net_here", "_law_way", "_law_stations", "_law_found", "_law_turn", "_law_some", "_law_ends", "_law_one", "_law_tie", "_law_place", "_law_at"]
theorem sc_l_walk : FnScope N_l_walk ["_law_bag_here", "_law_net_here", "_law_way"] (defScope s_l_walk) := ⟨rfl, rfl, rfl, by decide +kernel, rfl, by decide +kernel, by decide +kernel⟩
abbrev s_l_chains_of : Stmt := topS 18
abbrev N_l_chains_of : List Str := ["_law_rows", "_law_found", "_law_row", "_law_line", "_law_some"]
theorem sc_l_chains_of : FnScope N_l_chains_of ["_law_rows"] (defScope s_l_chains_of) := ⟨rfl, rfl, rfl, by decide +kernel, rfl, by decide +kernel, by decide +kernel⟩
abbrev s_l_holds : Stmt := topS 19
abbrev N_l_holds : List Str := ["_law_bag_here", "_law_net_here", "_law_way", "_law_some", "_law_many", "_law_known", "_law_first", "_law_last", "_law_row", "_law_told", "_law_more", "_law_early", "_law_line", "_law_one", "_law_at"]
theorem sc_l_holds : FnScope N_l_holds ["_law_bag_here", "_law_net_here", "_law_way"] (defScope s_l_holds) := ⟨rfl, rfl, rfl, by decide +kernel, rfl, by decide +kernel, by decide +kernel⟩
abbrev s_law : Stmt := topS 20
abbrev N_law : List Str := ["_law_script", "_law_at", "_law_bag_here", "_law_net_here", "_law_way", "_law_one", "_law_turn"]
theorem sc_law : FnScope N_law ["_law_script"] (defScope s_law) := ⟨rfl, rfl, rfl, by decide +kernel, rfl, by decide +kernel, by decide +kernel⟩
structure Defs (K : PySem.W.Frag) (mg : Str → Option Value) where
  a_tie_between : Addr
  d_tie_between : FuncData
  F_tie_between : FnP K "tie_between" s_tie_between a_tie_between d_tie_between
  g_tie_between : mg "tie_between" = some (.ref a_tie_between)
  b_tie_between : Binds K d_tie_between ["net", "place", "far"] []
  a_ties_along : Addr
  d_ties_along : FuncData
  F_ties_along : FnP K "ties_along" s_ties_along a_ties_along d_ties_along
  g_ties_along : mg "ties_along" = some (.ref a_ties_along)
  b_ties_along : Binds K d_ties_along ["net", "way"] []
  a_legs : Addr
  d_legs : FuncData
  F_legs : FnP K "legs" s_legs a_legs d_legs
  g_legs : mg "legs" = some (.ref a_legs)
  b_legs : Binds K d_legs ["net", "way"] []
  a_line_chains : Addr
  d_line_chains : FuncData
  F_line_chains : FnP K "line_chains" s_line_chains a_line_chains d_line_chains
  g_line_chains : mg "line_chains" = some (.ref a_line_chains)
  b_line_chains : Binds K d_line_chains ["net", "way"] []
  a_chains_by_line : Addr
  d_chains_by_line : FuncData
  F_chains_by_line : FnP K "chains_by_line" s_chains_by_line a_chains_by_line d_chains_by_line
  g_chains_by_line : mg "chains_by_line" = some (.ref a_chains_by_line)
  b_chains_by_line : Binds K d_chains_by_line ["run"] []
  a_bearers : Addr
  d_bearers : FuncData
  F_bearers : FnP K "bearers" s_bearers a_bearers d_bearers
  g_bearers : mg "bearers" = some (.ref a_bearers)
  b_bearers : Binds K d_bearers ["net", "way", "seals"] []
  a_l_bag : Addr
  d_l_bag : FuncData
  F_l_bag : FnP K "_law_bag" s_l_bag a_l_bag d_l_bag
  g_l_bag : mg "_law_bag" = some (.ref a_l_bag)
  b_l_bag : Binds K d_l_bag ["_law_script", "_law_at"] []
  a_l_take : Addr
  d_l_take : FuncData
  F_l_take : FnP K "_law_take" s_l_take a_l_take d_l_take
  g_l_take : mg "_law_take" = some (.ref a_l_take)
  b_l_take : Binds K d_l_take ["_law_bag_here", "_law_many"] []
  a_l_names : Addr
  d_l_names : FuncData
  F_l_names : FnP K "_law_names" s_l_names a_l_names d_l_names
  g_l_names : mg "_law_names" = some (.ref a_l_names)
  b_l_names : Binds K d_l_names ["_law_bag_here", "_law_many"] []
  a_l_spots : Addr
  d_l_spots : FuncData
  F_l_spots : FnP K "_law_spots" s_l_spots a_l_spots d_l_spots
  g_l_spots : mg "_law_spots" = some (.ref a_l_spots)
  b_l_spots : Binds K d_l_spots ["_law_bag_here", "_law_many", "_law_junctions"] []
  a_l_places : Addr
  d_l_places : FuncData
  F_l_places : FnP K "_law_places" s_l_places a_l_places d_l_places
  g_l_places : mg "_law_places" = some (.ref a_l_places)
  b_l_places : Binds K d_l_places ["_law_bag_here", "_law_many"] []
  a_l_net : Addr
  d_l_net : FuncData
  F_l_net : FnP K "_law_net" s_l_net a_l_net d_l_net
  g_l_net : mg "_law_net" = some (.ref a_l_net)
  b_l_net : Binds K d_l_net ["_law_bag_here"] []
  a_l_laid : Addr
  d_l_laid : FuncData
  F_l_laid : FnP K "_law_laid" s_l_laid a_l_laid d_l_laid
  g_l_laid : mg "_law_laid" = some (.ref a_l_laid)
  b_l_laid : Binds K d_l_laid ["_law_bag_here", "_law_lines", "_law_places_here", "_law_ties"] []
  a_l_walk : Addr
  d_l_walk : FuncData
  F_l_walk : FnP K "_law_walk" s_l_walk a_l_walk d_l_walk
  g_l_walk : mg "_law_walk" = some (.ref a_l_walk)
  b_l_walk : Binds K d_l_walk ["_law_bag_here", "_law_net_here", "_law_way"] []
  a_l_chains_of : Addr
  d_l_chains_of : FuncData
  F_l_chains_of : FnP K "_law_chains_of" s_l_chains_of a_l_chains_of d_l_chains_of
  g_l_chains_of : mg "_law_chains_of" = some (.ref a_l_chains_of)
  b_l_chains_of : Binds K d_l_chains_of ["_law_rows"] []
  a_l_holds : Addr
  d_l_holds : FuncData
  F_l_holds : FnP K "_law_holds" s_l_holds a_l_holds d_l_holds
  g_l_holds : mg "_law_holds" = some (.ref a_l_holds)
  b_l_holds : Binds K d_l_holds ["_law_bag_here", "_law_net_here", "_law_way"] []
  z_abs : mg "abs" = none
  z_all : mg "all" = none
  z_dict : mg "dict" = none
  z_enumerate : mg "enumerate" = none
  z_int : mg "int" = none
  z_len : mg "len" = none
  z_list : mg "list" = none
  z_max : mg "max" = none
  z_min : mg "min" = none
  z_range : mg "range" = none
  z_set : mg "set" = none
  z_sorted : mg "sorted" = none
  z_tuple : mg "tuple" = none
  z_zip : mg "zip" = none
end Th
namespace Th
open PySem PySem.Spec PyProof.Rows L2
section
variable {P : Program} {w : World} {K : PySem.W.Frag} {mg : Str → Option Value} {base : Heap} {k : Nat}
theorem ok_l_bag (T : Defs K mg) : FnOk P w K mg base CX0 (k + 1) T.a_l_bag T.d_l_bag ["_law_script", "_law_at"] (sp_bag K) := by
  refine T.F_l_bag.ok sc_l_bag (fun vs H Q E h => ?_) (fun cdv A outer s H vs Q E hr h => ?_)
  · obtain ⟨a, ns, i, rfl, _⟩ := h
    rfl
  · obtain ⟨a, ns, i, rfl, hS, hi, q⟩ := h
    refine ⟨_, PSs.nox
(pss_cons (ps_set (i := 2) sc_l_bag.nd rfl (.inl rfl) (pe_int))
    (pss_cons (ps_if (pt_cmpR op_lt (pv 1) (pe_callB (r := rLenS K) call_lenS (by rfl) T.z_len (by decide +kernel) (pa_cons (pv 0) pa_nil)) (nomark _))
      (pss_one (ps_set (i := 2) sc_l_bag.nd rfl (.inl rfl) (pe_ix (r := rIxL K) ix_list (pv 0) (pv 1) (fun _ _ => rfl))))
      pss_nil)
    (pss_cons (ps_set (i := 3) sc_l_bag.nd rfl (.inl rfl) (pe_int))
    (pss_cons (ps_if (pt_cmpR op_ge (pe_callB call_abs (by rfl) T.z_abs (by decide +kernel) (pa_cons (pv 2) pa_nil)) (pe_op op_pow (pe_int) (pe_int)) (nomark _))
      (pss_one (ps_set (i := 3) sc_l_bag.nd rfl (.inl rfl) (pe_callB call_abs (by rfl) T.z_abs (by decide +kernel) (pa_cons (pv 2) pa_nil))))
      pss_nil)
    (pss_cons (ps_set (i := 4) sc_l_bag.nd rfl (.inl rfl) (pe_lst (pa_cons (pe_int) (pa_cons (pe_int) (pa_cons (pe_int) (pa_cons (pe_int) (pa_cons (pe_int) (pa_cons (pe_int) (pa_cons (pe_int) (pa_cons (pe_int) pa_nil))))))))))
    (pss_one (ps_ret (pe_lst (pa_cons (pv 3) (pa_cons (pe_op op_mod (pe_op op_pow (pe_op op_add (pe_op op_add (pe_op op_mod (pv 2) (pe_int)) (pe_op op_mul (pe_int) (pv 1))) (pe_int)) (pe_int)) (pe_ix (r := rIxL K) ix_list (pv 4) (pe_op op_mod (pv 1) (pe_int)) (fun _ _ => rfl))) pa_nil))))))))))
      , ?_⟩
    obtain ⟨pr, hp, hp0, hp1⟩ := primes_at i
    have fin : ∀ (c g : Int), 0 ≤ g → ∀ l, H l = none → ∀ H1, H1 = upd H l (.lst [V.int 2147483629, .int 2147483587, .int 2147483579, .int 2147483563, .int 2147483549, .int 2147483543, .int 2147483497, .int 2147483489]) →
        ∀ p, H1 p = none → Q (.ref p) (upd H1 p (.lst [.int g, .int ((c % 2147483647 + 104729 * (i : Int) + 7) ^ (5 : Int).toNat % pr)])) := by
      intro c g hg l nl H1 e p np
      have s1 : Same H H1 := by rw [e]; exact same_upd nl
      exact q _ p (s1.trans (same_upd np)) (s1.free np) ⟨g, _, upd_same, hg, Int.emod_nonneg _ (by omega), Int.lt_trans (Int.emod_lt_of_pos _ hp0) hp1⟩
    refine ⟨.int i, rfl, .ref a, rfl, a, ns.map V.int, rfl, .inl hS, _, _, rfl, rfl, _, rfl, ite2 (fun e => ?_) (fun e => ?_)⟩
    · have lt : i < ns.length := by
        have := of_decide_eq_true e
        rw [List.length_map] at this
        omega
      have g1 : (ns.map V.int)[i]? = some (.int ns[i]) := by
        rw [List.getElem?_map, List.getElem?_eq_getElem lt]
        rfl
      refine ⟨.ref a, rfl, .int i, rfl, a, _, (i : Int), .int ns[i], rfl, rfl, hS, atI_nat g1, ?_⟩
      refine ⟨.int ns[i], rfl, _, rfl, 10, 18, rfl, rfl, ⟨by decide, by decide, by decide⟩, _, _, rfl, rfl, _, rfl, ite2 (fun e => ?_) (fun e => ?_)⟩
      · refine ⟨.int ns[i], rfl, _, rfl, ?_⟩
        refine ⟨by show 8 ≤ sizeLine; decide, fun l nl => ?_⟩
        refine ⟨_, rfl, .int ns[i], rfl, ns[i], 2147483647, rfl, rfl, pA, .int i, rfl, 104729, i, rfl, rfl, .inl ⟨by decide, by decide⟩, _, _, rfl, rfl, _, 7, rfl, rfl, _, 5, rfl, rfl, ⟨by decide, by decide, ?_⟩, .ref l, rfl, .int i, rfl, i, 8, rfl, rfl, p8, l, _, _, _, rfl, rfl, SqL.of upd_same, hp, _, pr, rfl, rfl, hp0, by show 2 ≤ sizeLine; decide, fin ns[i] _ ?_ l nl _ rfl⟩
        · omega
        · split <;> omega
      · refine ⟨by show 8 ≤ sizeLine; decide, fun l nl => ?_⟩
        refine ⟨_, rfl, .int ns[i], rfl, ns[i], 2147483647, rfl, rfl, pA, .int i, rfl, 104729, i, rfl, rfl, .inl ⟨by decide, by decide⟩, _, _, rfl, rfl, _, 7, rfl, rfl, _, 5, rfl, rfl, ⟨by decide, by decide, ?_⟩, .ref l, rfl, .int i, rfl, i, 8, rfl, rfl, p8, l, _, _, _, rfl, rfl, SqL.of upd_same, hp, _, pr, rfl, rfl, hp0, by show 2 ≤ sizeLine; decide, fin ns[i] 0 (by decide) l nl _ rfl⟩
        omega
    · refine ⟨.int 0, rfl, _, rfl, 10, 18, rfl, rfl, ⟨by decide, by decide, by decide⟩, _, _, rfl, rfl, _, rfl, ite2 (fun e => ?_) (fun e => ?_)⟩
      · exact absurd (of_decide_eq_true e) (by decide)
      · refine ⟨by show 8 ≤ sizeLine; decide, fun l nl => ?_⟩
        refine ⟨_, rfl, .int 0, rfl, 0, 2147483647, rfl, rfl, pA, .int i, rfl, 104729, i, rfl, rfl, .inl ⟨by decide, by decide⟩, _, _, rfl, rfl, _, 7, rfl, rfl, _, 5, rfl, rfl, ⟨by decide, by decide, ?_⟩, .ref l, rfl, .int i, rfl, i, 8, rfl, rfl, p8, l, _, _, _, rfl, rfl, SqL.of upd_same, hp, _, pr, rfl, rfl, hp0, by show 2 ≤ sizeLine; decide, fin 0 0 (by decide) l nl _ rfl⟩
        omega
theorem ok_l_take (T : Defs K mg) : FnOk P w K mg base CX0 (k + 1) T.a_l_take T.d_l_take ["_law_bag_here", "_law_many"] sp_take := by
  refine T.F_l_take.ok sc_l_take (fun vs H Q E h => ?_) (fun cdv A outer s H vs Q E hr h => ?_)
  · obtain ⟨p, m, rfl, _⟩ := h
    rfl
  · obtain ⟨p, m, rfl, ⟨g, r, hp, g0, r0, r1⟩, m0, m1, q⟩ := h
    refine ⟨_, PSs.nox
(pss_cons (ps_if (pt_cmpR op_gt (pe_ix (r := rIxL K) ix_list (pv 0) (pe_int) (fun _ _ => rfl)) (pe_int) (nomark _))
      (pss_cons (ps_set (i := 2) sc_l_take.nd rfl (.inl rfl) (pe_op op_mod (pe_ix (r := rIxL K) ix_list (pv 0) (pe_int) (fun _ _ => rfl)) (pv 1)))
      (pss_cons (ps_asg (pe_op op_fdiv (pe_ix (r := rIxL K) ix_list (pv 0) (pe_int) (fun _ _ => rfl)) (pv 1)) (pg_sub (pv 0) (pe_int) set_list))
      (pss_one (ps_ret (pv 2)))))
      pss_nil)
    (pss_cons (ps_asg (pe_op op_mod (pe_op op_add (pe_op op_mul (pe_ix (r := rIxL K) ix_list (pv 0) (pe_int) (fun _ _ => rfl)) (pe_int)) (pe_int)) (pe_int)) (pg_sub (pv 0) (pe_int) set_list))
    (pss_one (ps_ret (pe_op op_mod (pe_op op_mod (pe_op op_pow (pe_op op_fdiv (pe_ix (r := rIxL K) ix_list (pv 0) (pe_int) (fun _ _ => rfl)) (pe_int)) (pe_int)) (pe_int)) (pv 1))))))
      , ?_⟩
    refine ⟨.ref p, rfl, p, _, 0, .int g, rfl, rfl, SqL.of hp, atI_nat (j := 0) rfl, _, 0, rfl, rfl, _, rfl, ite2 (fun e => ?_) (fun e => ?_)⟩
    · refine ⟨.ref p, rfl, p, _, 0, .int g, rfl, rfl, SqL.of hp, atI_nat (j := 0) rfl, .int m, rfl, g, m, rfl, rfl, m0, ?_⟩
      refine ⟨.ref p, rfl, p, _, 0, .int g, rfl, rfl, SqL.of hp, atI_nat (j := 0) rfl, .int m, rfl, g, m, rfl, rfl, ⟨m0, m1⟩, .ref p, rfl, p, _, 0, 0, rfl, rfl, hp, rfl, ?_⟩
      refine ⟨_, rfl, q _ _ Keep.upd ⟨_, _, upd_same, ?_, r0, r1⟩ (Int.emod_nonneg _ (by omega)) (Int.emod_lt_of_pos _ m0)⟩
      exact Int.ediv_nonneg g0 (by omega)
    · refine ⟨.ref p, rfl, p, _, 1, .int r, rfl, rfl, SqL.of hp, atI_nat (j := 1) rfl, r, 48271, rfl, rfl, .inr ⟨by decide, by decide⟩, _, 11, rfl, rfl, _, 2147483647, rfl, rfl, pA, .ref p, rfl, p, _, 1, 1, rfl, rfl, hp, rfl, ?_⟩
      have hz0 : 0 ≤ (r * 48271 + 11) % 2147483647 := Int.emod_nonneg _ (by decide)
      have hz1 : (r * 48271 + 11) % 2147483647 < 2147483647 := Int.emod_lt_of_pos _ (by decide)
      refine ⟨.ref p, rfl, p, _, 1, _, rfl, rfl, SqL.of upd_same, atI_nat (j := 1) rfl, (r * 48271 + 11) % 2147483647, 8, rfl, rfl, ⟨by decide, by decide⟩, _, 3, rfl, rfl, ⟨by decide, by decide, ?_⟩, _, 2147483629, rfl, rfl, pB, .int m, rfl, _, m, rfl, rfl, m0, ?_⟩
      · omega
      · exact q _ _ Keep.upd ⟨_, _, upd_same, g0, hz0, by omega⟩ (Int.emod_nonneg _ (by omega)) (Int.emod_lt_of_pos _ m0)
end
end Th
namespace Th
open PySem PySem.Spec PyProof.Rows L2
/-! drawn names -/
abbrev nS (l : List Nat) : V := .str (SX.S l)
def Lower (l : List Nat) : Prop := ∀ c ∈ l, 97 ≤ c ∧ c ≤ 122
/-- a name: one to eight letters -/
def IsNm (l : List Nat) : Prop := 1 ≤ l.length ∧ l.length ≤ 8 ∧ Lower l
abbrev abc : Str := Str.ofString "abcdefghijklmnopqrstuvwxyz"
theorem abc_list : abc.cps.toList = (List.range 26).map (97 + ·) := by decide +kernel
theorem abc_at {d : Int} (h0 : 0 ≤ d) (h1 : d < 26) : atI abc.cps.toList d = some (97 + d.toNat) := by
  obtain ⟨j, rfl⟩ : ∃ j : Nat, d = (j : Int) := ⟨d.toNat, by omega⟩
  refine atI_nat ?_
  rw [abc_list, List.getElem?_map, List.getElem?_range (by omega)]
  rfl
theorem joinL_one : ∀ cs : List Nat, TL.joinL [] (cs.map fun c => [c]) = cs
  | [] => rfl
  | [_] => rfl
  | c :: d :: cs => by
    show [c] ++ ([] ++ TL.joinL [] ((d :: cs).map fun c => [c])) = _
    rw [joinL_one (d :: cs)]
    rfl
theorem join_signs (cs : List Nat) : Txt.join (SX.S []) ((cs.map fun c => [c]).map SX.S) = SX.S cs := by rw [SX.join_S, joinL_one]
/-- what is known of the k-th name -/
def NmAt (k : Nat) (l : List Nat) : Prop := (∃ st, l = st ++ [97 + k % 26] ∧ Lower st ∧ st.length ≤ 7) ∧ (k ≤ 25 → l.length ≤ 7) ∧ (25 < k → l.length = 8)
theorem NmAt.nm {k : Nat} {l : List Nat} (h : NmAt k l) : IsNm l := by
  obtain ⟨⟨st, rfl, hl, hn⟩, _⟩ := h
  refine ⟨by rw [List.length_append]; simp, by rw [List.length_append]; simp; omega, fun c hc => ?_⟩
  rcases List.mem_append.mp hc with z | z
  · exact hl c z
  · rw [List.mem_singleton.mp z]
    omega
theorem nm_unlike {i j : Nat} {a b : List Nat} (hi : NmAt i a) (hj : NmAt j b) (h : i < j) (hj2 : j < 52) : a ≠ b := fun e => by
  obtain ⟨⟨s1, e1, _⟩, h1, _⟩ := hi
  obtain ⟨⟨s2, e2, _⟩, _, h3⟩ := hj
  have l1 : a.getLast? = some (97 + i % 26) := by rw [e1]; simp
  have l2 : b.getLast? = some (97 + j % 26) := by rw [e2]; simp
  rw [e, l2] at l1
  have := Option.some.inj l1
  have h4 := h1 (by omega)
  have h5 := h3 (by omega)
  rw [e] at h4
  omega
theorem nm_nodup {zs : List (List Nat)} (h : ∀ k l, zs[k]? = some l → NmAt k l) (hn : zs.length ≤ 52) : zs.Nodup := by
  rw [List.nodup_iff_pairwise_ne, List.pairwise_iff_getElem]
  intro i j hi hj hij
  exact nm_unlike (h i _ (List.getElem?_eq_getElem hi)) (h j _ (List.getElem?_eq_getElem hj)) hij (by omega)
theorem p26 : (0 : Int) < 26 := by decide
section
variable {P : Program} {w : World} {K : PySem.W.Frag} {mg : Str → Option Value} {base : Heap} {k : Nat}
def sp_l_names : Sp := fun vs H Q _ => ∃ (p : Addr) (n : Nat), vs = [.ref p, .int n] ∧ Bag H p ∧ n ≤ 52 ∧ ∀ (H' : Hp) (l : Addr) (zs : List (List Nat)), Keep p H H' → Bag H' p → H l = none → H' l = some (.lst (zs.map nS)) → zs.length = n → zs.Nodup → (∀ z ∈ zs, IsNm z) → (∀ k l, zs[k]? = some l → NmAt k l) → Q (.ref l) H'
set_option maxHeartbeats 8000000 in
theorem ok_l_names (T : Defs K mg) : FnOk P w K mg base CX0 (k + 2) T.a_l_names T.d_l_names ["_law_bag_here", "_law_many"] sp_l_names := by
  have G_l_take : FnOk P w K mg base CX0 (k + 1) _ _ _ _ := ok_l_take T
  refine T.F_l_names.ok sc_l_names (fun vs H Q E h => ?_) (fun cdv A outer s H vs Q E hr h => ?_)
  · obtain ⟨p, n, rfl, _⟩ := h
    rfl
  · obtain ⟨p, n, rfl, b, hn, q⟩ := h
    refine ⟨_, PSs.nox
(pss_cons (ps_set (i := 2) sc_l_names.nd rfl (.inr rfl) (pe_str))
    (pss_cons (ps_set (i := 3) sc_l_names.nd rfl (.inl rfl) (pe_lst pa_nil))
    (pss_cons (ps_for PassesOwn.never rfl (pi_range1 (by rfl) T.z_range (pa_cons (pv 1) pa_nil)) (pg_name (i := 4) sc_l_names.nd rfl (.inl rfl))
      (Evl.pss_cut (ps_set (i := 5) sc_l_names.nd rfl (.inl rfl) (pe_ifExp (pt_cmpR op_gt (pv 4) (pe_int) (nomark _)) (pe_int) (pe_call G_l_take hr (by rfl) T.g_l_take T.F_l_take.kp T.b_l_take .nil pass0 (pa_cons (pv 0) (pa_cons (pe_int) pa_nil)))))
      (pss_cons (ps_set (i := 6) sc_l_names.nd rfl (.inl rfl) (pe_join (pe_str) (pe_lc (own := [("_law_turn", 7)]) (g := gName 7) rfl sc_l_names.nd (pi_range1 (by rfl) T.z_range (pa_cons (pv 5) pa_nil)) (blkOk_by (N := N_l_names) (sc := defScope s_l_names) (by decide +kernel)) (fun _ _ _ _ _ => (pg_name (i := 7) sc_l_names.nd rfl (.inl rfl))) (fun _ _ _ _ _ => pts_nil) (fun _ _ _ _ _ => (pe_ix ix_str (pv 2) (pe_call G_l_take hr (by rfl) T.g_l_take T.F_l_take.kp T.b_l_take .nil pass0 (pa_cons (pv 0) (pa_cons (pe_int) pa_nil))) (fun _ _ => rfl))))))
      (pss_one (ps_expr (pe_bm PySem.F.plainAttrs_list PySem.F.slot_list_append PySem.F.type_list_append mt_append (pv 3) (pa_cons (pe_op op_add_str (pv 6) (pe_ix ix_str (pv 2) (pe_op op_mod (pv 4) (pe_int)) (fun _ _ => rfl))) pa_nil)))))))
    (pss_one (ps_ret (pv 3))))))
      , ?_⟩
    refine ⟨Nat.zero_le _, fun F nF => ?_⟩
    have nFp : F ≠ p := b.ne nF
    refine ⟨.int n, rfl, n, rfl, by omega, by omega, ?_⟩
    rw [Int.toNat_natCast]
    refine for_range (lo := 0) (n := n) (fun i σ H3 => ∃ (y4 y5 y6 : Option V) (zs : List (List Nat)), σ = [some (.ref p), some (.int n), some (.str abc), some (.ref F), y4, y5, y6, none] ∧ Keep p H H3 ∧ Bag H3 p ∧ zs.length = i ∧ (∀ k l, zs[k]? = some l → NmAt k l) ∧ H3 F = some (.lst (zs.map nS)))
      ⟨none, none, none, [], rfl, .of (same_upd nF), b.keep (same_upd nF), rfl, fun k l h => by simp at h, upd_same⟩ (fun i σ H3 hi hp => ?_) (fun σ H3 hp => ?_)
    · obtain ⟨y4, y5, y6, zs, rfl, k3, b3, hl, hz, eF⟩ := hp
      -- size
      refine ⟨fun σ H4 => ∃ sz : Nat, σ = [some (.ref p), some (.int n), some (.str abc), some (.ref F), some (.int (0 + (i : Int))), some (.int sz), y6, none] ∧ Keep p H H4 ∧ Bag H4 p ∧ H4 F = some (.lst (zs.map nS)) ∧ (i ≤ 25 → sz ≤ 6) ∧ (25 < i → sz = 7), ?_, fun σ H4 mid => ?_⟩
      · refine ⟨.int (0 + (i : Int)), rfl, _, _, rfl, rfl, _, rfl, ite2 (fun c => ?_) (fun c => ?_)⟩
        · have c := of_decide_eq_true c
          exact ⟨7, rfl, k3, b3, eF, fun _ => by omega, fun _ => rfl⟩
        · have c : ¬ 25 < 0 + (i : Int) := fun z => c (decide_eq_true z)
          refine ⟨.ref p, rfl, p, 7, rfl, b3, by decide, by decide, fun H4 d k4 b4 d0 d1 => ?_⟩
          obtain ⟨sz, rfl⟩ : ∃ sz : Nat, d = (sz : Int) := ⟨d.toNat, by omega⟩
          exact ⟨sz, rfl, k3.trans k4, b4, k4 _ _ nFp eF, fun _ => by omega, fun _ => by omega⟩
      obtain ⟨sz, rfl, k4, b4, eF, hs1, hs2⟩ := mid
      -- stem
      refine ⟨⟨_, rfl⟩, .int sz, rfl, sz, rfl, by omega, by omega, fun D nD => ?_⟩
      have nDp : D ≠ p := b4.ne nD
      have nFD : F ≠ D := ne_of_none eF nD
      rw [Int.toNat_natCast]
      refine lc_it walk_range (fun j H5 => Keep p H4 H5 ∧ Bag H5 p ∧ ∃ cs : List Nat, cs.length = j ∧ Lower cs ∧ H5 D = some (.lst (((cs.map fun c => [c]).map SX.S).map V.str))) ⟨.of (same_upd nD), b4.keep (same_upd nD), [], rfl, fun c hc => by simp at hc, upd_same⟩ (fun _ _ _ _ => trivial) (fun j x H5 H6 hj pv y => ?_) (fun H5 pv => ?_)
      · obtain ⟨rfl, rfl⟩ := y
        obtain ⟨k5, b5, cs, hcl, hcs, eD⟩ := pv
        refine ⟨rfl, yes_ ?_⟩
        refine ⟨.str abc, rfl, .ref p, rfl, p, 26, rfl, b5, by decide, by decide, fun H7 d k7 b7 d0 d1 => ?_⟩
        refine ⟨abc, d, _, rfl, rfl, by decide +kernel, abc_at d0 d1, _, k7 _ _ nDp eD, by rw [List.length_map, List.length_map, List.length_map]; exact small5000 (by omega), ?_, b7.at (upd_ne nDp.symm), cs ++ [97 + d.toNat], by rw [List.length_append, hcl]; rfl, fun c hc => ?_, by rw [upd_same, List.map_append, List.map_append, List.map_append]; rfl⟩
        · intro c o nc ec
          rw [upd_ne (fun z => by rw [z] at ec; rw [nD] at ec; cases ec)]
          exact k7 _ _ nc (k5 _ _ nc ec)
        · rcases List.mem_append.mp hc with z | z
          · exact hcs c z
          · rw [List.mem_singleton.mp z]
            omega
      obtain ⟨k5, b5, cs, hcl, hcs, eD⟩ := pv
      have eF5 := k5 _ _ nFp eF
      have k5 := k4.trans k5
      refine ⟨_, D, (cs.map fun c => [c]).map SX.S, rfl, rfl, .inl (SqL.of eD), ?_, ?_⟩
      · rw [SX.lens, List.map_map, List.length_map, List.length_map]
        have e1 : (cs.map ((fun x : List Nat => x.length) ∘ fun c => [c])).sum = cs.length := by
          clear eD hcs hcl
          induction cs with
          | nil => rfl
          | cons c cs ih => rw [List.map_cons, List.sum_cons, ih, List.length_cons]; show 1 + _ = _; omega
        rw [e1]
        show cs.length + cs.length * 0 ≤ 16777216
        omega
      have ej : Txt.join (Str.ofString "") ((cs.map fun c => [c]).map SX.S) = SX.S cs := join_signs cs
      rw [ej]
      -- found.append(stem + letters[k % 26])
      have hm0 : 0 ≤ (0 + (i : Int)) % 26 := Int.emod_nonneg _ (by decide)
      have hm1 : (0 + (i : Int)) % 26 < 26 := Int.emod_lt_of_pos _ (by decide)
      refine ⟨.ref F, rfl, .inl ⟨rfl, _, SqL.of eF5⟩, nS cs, rfl, .str abc, rfl, .int (0 + (i : Int)), rfl, _, 26, rfl, rfl, p26, abc, _, _, rfl, rfl, by decide +kernel, abc_at hm0 hm1, _, _, rfl, rfl, ?_, ?_⟩
      · rw [SX.S_len]
        show cs.length + 1 ≤ sizeLine
        exact Nat.le_of_lt (small5000 (by omega))
      have ei : ((0 + (i : Int)) % 26).toNat = i % 26 := by omega
      refine ⟨F, _, _, rfl, rfl, eF5, by rw [List.length_map, hl]; exact small5000 (by omega), ?_⟩
      refine ⟨_, _, _, zs ++ [cs ++ [97 + i % 26]], rfl, fun c o nc ec => ?_, b5.at (upd_ne nFp.symm), by rw [List.length_append, hl]; rfl, fun k l hk => ?_, ?_⟩
      · rw [upd_ne (ne_of_none ec nF)]
        exact k5 _ _ nc ec
      · by_cases hk2 : k < zs.length
        · rw [List.getElem?_append_left hk2] at hk
          exact hz k l hk
        · rw [List.getElem?_append_right (by omega)] at hk
          have ek : k = i := by
            have := (List.getElem?_eq_some_iff.mp hk).1
            simp at this
            omega
          subst ek
          rw [hl, Nat.sub_self] at hk
          have := Option.some.inj hk
          subst this
          refine ⟨⟨cs, rfl, hcs, by omega⟩, fun h => ?_, fun h => ?_⟩
          · have := hs1 h
            rw [List.length_append]
            show cs.length + 1 ≤ 7
            omega
          · have := hs2 h
            rw [List.length_append]
            show cs.length + 1 = 8
            omega
      · rw [upd_same, List.map_append]
        show some (HO.lst (zs.map nS ++ [V.str (SX.S cs ++ SX.S [97 + ((0 + (i : Int)) % 26).toNat])])) = _
        rw [SX.S_cat, ei]
        rfl
    · obtain ⟨y4, y5, y6, zs, rfl, k3, b3, hl, hz, eF⟩ := hp
      refine ⟨.ref F, rfl, q _ F zs k3 b3 nF eF hl (nm_nodup hz (by omega)) (fun z hm => ?_) hz⟩
      obtain ⟨j, hj⟩ := List.getElem?_of_mem hm
      exact (hz j z hj).nm
end
end Th
namespace Th
open PySem PySem.Spec PyProof.Rows L2
/-! drawn spots: sorted lists of lines' places -/
abbrev jV (js : List Nat) : List V := js.map fun j => V.int ((j : Nat) : Int)
/-- strictly rising, below n, two at least -/
structure Spot (n : Nat) (js : List Nat) : Prop where
  rise : js.Pairwise (· < ·)
  lt : ∀ j ∈ js, j < n
  two : 2 ≤ js.length
theorem rise_len : ∀ {js : List Nat} {lo n : Nat}, js.Pairwise (· < ·) → (∀ j ∈ js, lo ≤ j ∧ j < n) → js.length + lo ≤ n ∨ js = []
  | [], _, _, _, _ => .inr rfl
  | a :: js, lo, n, h, hb => by
    have h' := List.pairwise_cons.mp h
    have ha := hb a (List.mem_cons_self ..)
    rcases rise_len (lo := a + 1) (n := n) h'.2 (fun j hj => ⟨h'.1 j hj, (hb j (List.mem_cons_of_mem _ hj)).2⟩) with z | z
    · rw [List.length_cons]
      omega
    · rw [z]
      simp only [List.length_cons, List.length_nil]
      omega
theorem Spot.len8 {n : Nat} {js : List Nat} (s : Spot n js) (h : n ≤ 8) : js.length ≤ 8 := by
  rcases rise_len (lo := 0) s.rise (fun j hj => ⟨Nat.zero_le _, s.lt j hj⟩) with z | z
  · omega
  · rw [z]
    exact Nat.zero_le _
theorem two_of {ns : List Int} {x y : Int} (hx : x ∈ ns) (hy : y ∈ ns) (h : x ≠ y) : 2 ≤ ns.length := by
  cases ns with
  | nil => cases hx
  | cons a r =>
    cases r with
    | nil =>
      rw [List.mem_singleton] at hx hy
      exact absurd (hx.trans hy.symm) h
    | cons b r =>
      rw [List.length_cons, List.length_cons]
      omega
theorem nats_of {ns : List Int} (h : ∀ x ∈ ns, 0 ≤ x) : ns = (ns.map Int.toNat).map fun j => ((j : Nat) : Int) := by
  rw [List.map_map]
  conv => lhs; rw [← List.map_id ns]
  refine List.map_congr_left fun x hx => ?_
  have := h x hx
  show x = ((x.toNat : Nat) : Int)
  omega
theorem ints_nats {ns : List Int} (h : ∀ x ∈ ns, 0 ≤ x) : ns.map V.int = jV (ns.map Int.toNat) := by
  conv => lhs; rw [nats_of h]
  rw [List.map_map]
  rfl
/-- neighbours have one in common -/
def Chained : List (List Nat) → Prop
  | a :: b :: r => (∃ x, x ∈ a ∧ x ∈ b) ∧ Chained (b :: r)
  | _ => True
theorem Chained.snoc : ∀ {qs : List (List Nat)} {a b : List Nat}, Chained (qs ++ [a]) → (∃ x, x ∈ a ∧ x ∈ b) → Chained (qs ++ [a] ++ [b])
  | [], a, b, _, h => ⟨h, trivial⟩
  | [c], a, b, h0, h => ⟨h0.1, h, trivial⟩
  | c :: d :: qs, a, b, h0, h => ⟨h0.1, Chained.snoc (qs := d :: qs) h0.2 h⟩
/-- lists of whole numbers at addresses -/
abbrev LLs (H : Hp) : List Addr → List (List Nat) → Prop := Paired fun a js => H a = some (.lst (jV js))
theorem paired_snoc {α β : Type} {R : α → β → Prop} : ∀ {as : List α} {bs : List β} {a : α} {b : β}, Paired R as bs → R a b → Paired R (as ++ [a]) (bs ++ [b])
  | _, _, _, _, .nil, r => .cons r .nil
  | _, _, _, _, .cons q t, r => .cons q (paired_snoc t r)
theorem paired_imp {α β : Type} {R S : α → β → Prop} : ∀ {as : List α} {bs : List β}, Paired R as bs → (∀ a ∈ as, ∀ b, R a b → S a b) → Paired S as bs
  | _, _, .nil, _ => .nil
  | _, _, .cons q t, f => .cons (f _ (List.mem_cons_self ..) _ q) (paired_imp t fun a ha b r => f a (List.mem_cons_of_mem _ ha) b r)
theorem paired_get {α β : Type} {R : α → β → Prop} : ∀ {as : List α} {bs : List β} {i : Nat} {a : α}, Paired R as bs → as[i]? = some a → ∃ b, bs[i]? = some b ∧ R a b
  | _, _, _, _, .nil, h => by simp at h
  | _, _, 0, _, .cons q t, h => by
    have e := Option.some.inj h
    subst e
    exact ⟨_, rfl, q⟩
  | _, _, i + 1, _, .cons q t, h => paired_get (i := i) t h
theorem paired_len {α β : Type} {R : α → β → Prop} : ∀ {as : List α} {bs : List β}, Paired R as bs → as.length = bs.length
  | _, _, .nil => rfl
  | _, _, .cons _ t => congrArg Nat.succ (paired_len t)
section
variable {P : Program} {w : World} {K : PySem.W.Frag} {mg : Str → Option Value} {base : Heap} {k : Nat}
def sp_l_spots : Sp := fun vs H Q _ => ∃ (p : Addr) (n m : Nat), vs = [.ref p, .int n, .int m] ∧ Bag H p ∧ 2 ≤ n ∧ n ≤ 8 ∧ 1 ≤ m ∧ m ≤ 12 ∧
  ∀ (H' : Hp) (l : Addr) (as : List Addr) (qs : List (List Nat)), Keep p H H' → Bag H' p → H l = none → H' l = some (.lst (as.map V.ref)) → qs.length = m → LLs H' as qs → (∀ a ∈ as, H a = none ∧ a ≠ l ∧ a ≠ p) → (∀ js ∈ qs, Spot n js) → Chained qs → Q (.ref l) H'
set_option maxHeartbeats 8000000 in
theorem ok_l_spots (T : Defs K mg) : FnOk P w K mg base CX0 (k + 2) T.a_l_spots T.d_l_spots ["_law_bag_here", "_law_many", "_law_junctions"] sp_l_spots := by
  have G_l_take : FnOk P w K mg base CX0 (k + 1) _ _ _ _ := ok_l_take T
  refine T.F_l_spots.ok sc_l_spots (fun vs H Q E h => ?_) (fun cdv A outer s H vs Q E hr h => ?_)
  · obtain ⟨p, n, m, rfl, _⟩ := h
    rfl
  · obtain ⟨p, n, m, rfl, b, n2, n8, m1, m12, q⟩ := h
    refine ⟨_, PSs.nox
(pss_cons (ps_set (i := 3) sc_l_spots.nd rfl (.inl rfl) (pe_lst pa_nil))
    (pss_cons (ps_set (i := 4) sc_l_spots.nd rfl (.inl rfl) (pe_call G_l_take hr (by rfl) T.g_l_take T.F_l_take.kp T.b_l_take .nil pass0 (pa_cons (pv 0) (pa_cons (pv 1) pa_nil))))
    (pss_cons (ps_for PassesOwn.never rfl (pi_range1 (by rfl) T.z_range (pa_cons (pv 2) pa_nil)) (pg_name (i := 5) sc_l_spots.nd rfl (.inl rfl))
      (pss_cons (ps_set (i := 6) sc_l_spots.nd rfl (.inl rfl) (pe_lst (pa_cons (pv 4) (pa_cons (pe_op op_mod (pe_op op_add (pe_op op_add (pv 4) (pe_int)) (pe_call G_l_take hr (by rfl) T.g_l_take T.F_l_take.kp T.b_l_take .nil pass0 (pa_cons (pv 0) (pa_cons (pe_op op_sub (pv 1) (pe_int)) pa_nil)))) (pv 1)) pa_nil))))
      (pss_cons (ps_for PassesOwn.never rfl (pi_range1 (by rfl) T.z_range (pa_cons (pe_op op_fdiv (pe_call G_l_take hr (by rfl) T.g_l_take T.F_l_take.kp T.b_l_take .nil pass0 (pa_cons (pv 0) (pa_cons (pe_int) pa_nil))) (pe_int)) pa_nil)) (pg_name (i := 7) sc_l_spots.nd rfl (.inl rfl))
        (pss_one (ps_expr (pe_bm PySem.F.plainAttrs_list PySem.F.slot_list_append PySem.F.type_list_append mt_append (pv 6) (pa_cons (pe_call G_l_take hr (by rfl) T.g_l_take T.F_l_take.kp T.b_l_take .nil pass0 (pa_cons (pv 0) (pa_cons (pv 1) pa_nil))) pa_nil)))))
      (pss_cons (ps_expr (pe_bm PySem.F.plainAttrs_list PySem.F.slot_list_append PySem.F.type_list_append mt_append (pv 3) (pa_cons (pe_callB (cr_sortedSet rfl) (by rfl) T.z_sorted (by decide +kernel) (pa_cons (pe_callTy (Sl.call_setI rfl) (by rfl) T.z_set (by decide +kernel) (pa_cons (pv 6) pa_nil)) pa_nil)) pa_nil)))
      (pss_one (ps_set (i := 4) sc_l_spots.nd rfl (.inl rfl) (pe_ix (r := rIxL K) ix_list (pe_ix (r := rIxL K) ix_list (pv 3) (pe_un un_neg (pe_int)) (fun _ _ => rfl)) (pe_call G_l_take hr (by rfl) T.g_l_take T.F_l_take.kp T.b_l_take .nil pass0 (pa_cons (pv 0) (pa_cons (pe_callB (r := rLenS K) call_lenS (by rfl) T.z_len (by decide +kernel) (pa_cons (pe_ix (r := rIxL K) ix_list (pv 3) (pe_un un_neg (pe_int)) (fun _ _ => rfl)) pa_nil)) pa_nil))) (fun _ _ => rfl))))))))
    (pss_one (ps_ret (pv 3))))))
      , ?_⟩
    refine ⟨Nat.zero_le _, fun F nF => ?_⟩
    have nFp : F ≠ p := b.ne nF
    -- here
    refine ⟨.ref p, rfl, .int n, rfl, p, n, rfl, b.keep (same_upd nF), by omega, by omega, fun H2 h0 k2 b2 h00 h01 => ?_⟩
    have eF2 : H2 F = some (.lst (([] : List Addr).map V.ref)) := k2 _ _ nFp upd_same
    have k2 : Keep p H H2 := (Keep.of (same_upd nF)).trans k2
    refine ⟨.int m, rfl, m, rfl, by omega, by omega, ?_⟩
    rw [Int.toNat_natCast]
    refine for_range (lo := 0) (n := m) (fun i σ H3 => ∃ (hh : Nat) (y5 y6 y7 : Option V) (as : List Addr) (qs : List (List Nat)), σ = [some (.ref p), some (.int n), some (.int m), some (.ref F), some (.int hh), y5, y6, y7] ∧ hh < n ∧ Keep p H H3 ∧ Bag H3 p ∧ H3 F = some (.lst (as.map V.ref)) ∧ qs.length = i ∧ LLs H3 as qs ∧ (∀ a ∈ as, H a = none ∧ a ≠ F ∧ a ≠ p) ∧ (∀ js ∈ qs, Spot n js) ∧ Chained qs ∧ (∀ js, qs.getLast? = some js → hh ∈ js))
      ⟨h0.toNat, none, none, none, [], [], by rw [show ((h0.toNat : Nat) : Int) = h0 by omega]; rfl, by omega, k2, b2, eF2, rfl, .nil, fun a ha => by simp at ha, fun a ha => by simp at ha, trivial, fun js h => by simp at h⟩ (fun i σ H3 hi hp => ?_) (fun σ H3 hp => ?_)
    · obtain ⟨hh, y5, y6, y7, as, qs, rfl, hh1, k3, b3, eF, hq, hL, hfr, hsp, hch, hlast⟩ := hp
      -- some = [here, (here + 1 + take(bag, many - 1)) % many]
      refine ⟨.int hh, rfl, .int hh, rfl, hh, 1, rfl, rfl, .ref p, rfl, .int n, rfl, n, 1, rfl, rfl, p, (n : Int) - 1, rfl, b3, by omega, by omega, fun H4 d k4 b4 d0 d1 => ?_⟩
      refine ⟨_, d, rfl, rfl, .int n, rfl, _, n, rfl, rfl, by omega, by show 2 ≤ sizeLine; decide, fun S nS => ?_⟩
      have nSp : S ≠ p := b4.ne nS
      have r0 : 0 ≤ ((hh : Int) + 1 + d) % (n : Int) := Int.emod_nonneg _ (by omega)
      have r1 : ((hh : Int) + 1 + d) % (n : Int) < n := Int.emod_lt_of_pos _ (by omega)
      have ne2 : (hh : Int) ≠ ((hh : Int) + 1 + d) % (n : Int) := by
        by_cases c : (hh : Int) + 1 + d < n
        · rw [Int.emod_eq_of_lt (by omega) c]
          omega
        · rw [← Int.sub_emod_right, Int.emod_eq_of_lt (by omega) (by omega)]
          omega
      dsimp only
      generalize ((hh : Int) + 1 + d) % (n : Int) = x2 at r0 r1 ne2 ⊢
      have eF4 : (upd H4 S (.lst [.int hh, .int x2])) F = some (.lst (as.map V.ref)) := same_upd nS _ _ (k4 _ _ nFp eF)
      have nFS : F ≠ S := ne_of_none (k4 _ _ nFp eF) nS
      have nHS : H S = none := k3.free b (k4.free b3 nS b4) b3
      -- for turn in range(take(bag, 4) // 2)
      refine ⟨.ref p, rfl, p, 4, rfl, b4.keep (same_upd nS), by decide, by decide, fun H5 d5 k5 b5 d50 d51 => ?_⟩
      have eS5 : H5 S = some (.lst (([(hh : Int), x2] : List Int).map V.int)) := k5 _ _ nSp upd_same
      have eF5 := k5 _ _ nFp eF4
      have k5 : Keep p H3 H5 := k4.trans ((Keep.of (same_upd nS)).trans k5)
      refine ⟨d5, 2, rfl, rfl, ⟨by decide, by decide⟩, _, rfl, by omega, by omega, ?_⟩
      refine for_range (lo := 0) (n := (d5 / 2).toNat) (fun j σ H6 => ∃ (y7 : Option V) (xs : List Int), σ = [some (.ref p), some (.int n), some (.int m), some (.ref F), some (.int hh), some (.int (0 + (i : Int))), some (.ref S), y7] ∧ Keep p H3 H6 ∧ Bag H6 p ∧ H6 F = some (.lst (as.map V.ref)) ∧ xs.length = 2 + j ∧ (∀ x ∈ xs, 0 ≤ x ∧ x < n) ∧ (hh : Int) ∈ xs ∧ x2 ∈ xs ∧ H6 S = some (.lst (xs.map V.int)))
        ⟨_, [(hh : Int), x2], rfl, k5, b5, eF5, rfl, fun x hx => by
          simp only [List.mem_cons, List.not_mem_nil, or_false] at hx
          omega, by simp, by simp, eS5⟩ (fun j σ H6 hj hp => ?_) (fun σ H6 hp => ?_)
      · obtain ⟨y7, xs, rfl, k6, b6, eF6, hxl, hx, hm1, hm2, eS6⟩ := hp
        refine ⟨.ref S, rfl, .inl ⟨rfl, _, SqL.of eS6⟩, .ref p, rfl, .int n, rfl, p, n, rfl, b6, by omega, by omega, fun H7 d7 k7 b7 d70 d71 => ?_⟩
        refine ⟨S, _, _, rfl, rfl, k7 _ _ nSp eS6, by rw [List.length_map, hxl]; exact small5000 (by omega), ?_⟩
        refine ⟨_, xs ++ [d7], rfl, fun c o nc ec => ?_, b7.at (upd_ne nSp.symm), by rw [upd_ne nFS]; exact k7 _ _ nFp eF6, by rw [List.length_append, hxl]; rfl, fun x hx' => ?_, List.mem_append_left _ hm1, List.mem_append_left _ hm2, by rw [upd_same, List.map_append]; rfl⟩
        · have nS3 : H3 S = none := k4.free b3 nS b4
          rw [upd_ne (ne_of_none ec nS3)]
          exact k7 _ _ nc (k6 _ _ nc ec)
        · rcases List.mem_append.mp hx' with z | z
          · exact hx x z
          · rw [List.mem_singleton.mp z]
            exact ⟨d70, d71⟩
      obtain ⟨y7, xs, rfl, k6, b6, eF6, hxl, hx, hm1, hm2, eS6⟩ := hp
      -- found.append(sorted(set(some)))
      refine ⟨.ref F, rfl, .inl ⟨rfl, _, SqL.of eF6⟩, .ref S, rfl, S, xs, rfl, SqL.of eS6, by omega, fun se c nse hc => ?_⟩
      refine ⟨se, _, c, rfl, upd_same, by omega, fun ns so pw mem len nso => ?_⟩
      have s7 : Same H6 (upd (upd H6 se (SetO w se (fun j => decide (j ∈ xs)) c)) so (.lst (ns.map V.int))) := (same_upd nse).trans (same_upd nso)
      have memx : ∀ x, x ∈ ns ↔ x ∈ xs := fun x => (mem x).trans decide_eq_true_iff
      have hns : ∀ x ∈ ns, 0 ≤ x ∧ x < n := fun x h => hx x ((memx x).mp h)
      have h2 : 2 ≤ ns.length := two_of ((memx _).mpr hm1) ((memx _).mpr hm2) ne2
      have eso : (upd (upd H6 se (SetO w se (fun j => decide (j ∈ xs)) c)) so (.lst (ns.map V.int))) so = some (.lst (jV (ns.map Int.toNat))) := by
        rw [upd_same, ints_nats fun x h => (hns x h).1]
      have nso6 : H6 so = none := (same_upd nse).free nso
      have nsop : so ≠ p := b6.ne nso6
      have nsoF : so ≠ F := (ne_of_none eF6 nso6).symm
      have k7 : Keep p H3 _ := k6.trans (.of s7)
      have b7 := b6.keep s7
      have eF7 := s7 _ _ eF6
      refine ⟨F, _, _, rfl, rfl, eF7, by rw [List.length_map, paired_len hL, hq]; exact small5000 (by omega), ?_⟩
      have spot : Spot n (ns.map Int.toNat) := by
        refine ⟨?_, fun j hj => ?_, by rw [List.length_map]; exact h2⟩
        · rw [List.pairwise_map]
          refine List.Pairwise.imp_of_mem ?_ pw
          intro a b ha hb hab
          have := hns a ha
          have := hns b hb
          omega
        · obtain ⟨x, hx', rfl⟩ := List.mem_map.mp hj
          have := hns x hx'
          omega
      have inH : hh ∈ ns.map Int.toNat := List.mem_map.mpr ⟨(hh : Int), (memx _).mpr hm1, by omega⟩
      have hjl : (ns.map Int.toNat).length ≤ 8 := by rw [List.length_map]; omega
      generalize ns.map Int.toNat = js at eso spot inH hjl
      obtain ⟨H7, hH7⟩ : ∃ X, X = upd (upd H6 se (SetO w se (fun j => decide (j ∈ xs)) c)) so (.lst (ns.map V.int)) := ⟨_, rfl⟩
      rw [← hH7] at s7 eso k7 b7 eF7
      -- here = found[-1][take(bag, len(found[-1]))]
      have eF8 : (upd H7 F (.lst (as.map V.ref ++ [.ref so]))) F = some (.lst ((as ++ [so]).map V.ref)) := by
        rw [upd_same, List.map_append]
        rfl
      have eso8 : (upd H7 F (.lst (as.map V.ref ++ [.ref so]))) so = some (.lst (jV js)) := by rw [upd_ne nsoF]; exact eso
      have b8 : Bag (upd H7 F (.lst (as.map V.ref ++ [.ref so]))) p := b7.at (upd_ne nFp.symm)
      have k8 : Keep p H (upd H7 F (.lst (as.map V.ref ++ [.ref so]))) := fun c o nc ec => by
        rw [upd_ne (ne_of_none ec nF)]
        exact k7 _ _ nc (k3 _ _ nc ec)
      have o8 : ∀ a o, a ≠ F → a ≠ p → H3 a = some o → (upd H7 F (.lst (as.map V.ref ++ [.ref so]))) a = some o := fun a o n1 n2 e => by
        rw [upd_ne n1]
        exact k7 _ _ n2 e
      subst hH7
      have lastR : atI ((as ++ [so]).map V.ref) (-1) = some (.ref so) := by
        rw [List.map_append]
        exact atI_last _ _
      refine ⟨.ref F, rfl, 1, rfl, F, _, -1, .ref so, rfl, rfl, SqL.of eF8, lastR, .ref p, rfl, .ref F, rfl, 1, rfl, F, _, -1, .ref so, rfl, rfl, SqL.of eF8, lastR, so, jV js, rfl, .inl (SqL.of eso8), p, js.length, by rw [List.length_map]; rfl, b8, by have := spot.two; omega, by omega, fun H9 d9 k9 b9 d90 d91 => ?_⟩
      obtain ⟨jj, rfl⟩ : ∃ jj : Nat, d9 = (jj : Int) := ⟨d9.toNat, by omega⟩
      have hjj : jj < js.length := by omega
      have gj : (jV js)[jj]? = some (.int (js[jj] : Nat)) := by
        rw [List.getElem?_map, List.getElem?_eq_getElem hjj]
        rfl
      refine ⟨so, _, (jj : Int), _, rfl, rfl, SqL.of (k9 _ _ nsop eso8), atI_nat gj, ?_⟩
      have nFp' := nFp
      refine ⟨js[jj], _, _, _, as ++ [so], qs ++ [js], rfl, spot.lt _ (List.getElem_mem hjj), k8.trans k9, b9, k9 _ _ nFp eF8, by rw [List.length_append, hq]; rfl, ?_, fun a ha => ?_, fun x hx => ?_, ?_, fun x hx => ?_⟩
      · refine paired_snoc (paired_imp hL fun a ha x e => ?_) (k9 _ _ nsop eso8)
        obtain ⟨_, f1, f2⟩ := hfr a ha
        exact k9 _ _ f2 (o8 _ _ f1 f2 e)
      · rcases List.mem_append.mp ha with z | z
        · exact hfr a z
        · rw [List.mem_singleton.mp z]
          exact ⟨k3.free b (k6.free b3 nso6 b6) b3, nsoF, nsop⟩
      · rcases List.mem_append.mp hx with z | z
        · exact hsp x z
        · rw [List.mem_singleton.mp z]
          exact spot
      · cases hqs : qs.getLast? with
        | none =>
          rw [List.getLast?_eq_none_iff] at hqs
          rw [hqs]
          exact trivial
        | some z =>
          obtain ⟨q0, rfl⟩ := List.getLast?_eq_some_iff.mp hqs
          exact Chained.snoc hch ⟨hh, hlast z hqs, inH⟩
      · rw [List.getLast?_concat] at hx
        rw [← Option.some.inj hx]
        exact List.getElem_mem hjj
    · obtain ⟨hh, y5, y6, y7, as, qs, rfl, hh1, k3, b3, eF, hq, hL, hfr, hsp, hch, hlast⟩ := hp
      exact ⟨.ref F, rfl, q _ F as qs k3 b3 nF eF hq hL hfr hsp hch⟩
end
end Th
namespace Th
open PySem PySem.Spec PyProof.Rows L2
/-! drawn places -/
theorem one_sz {x : V} : [x].length ≤ sizeLine := by show 1 ≤ sizeLine; decide
theorem paired_append {α β : Type} {R : α → β → Prop} : ∀ {as cs : List α} {bs ds : List β}, Paired R as bs → Paired R cs ds → Paired R (as ++ cs) (bs ++ ds)
  | _, _, _, _, .nil, h => h
  | _, _, _, _, .cons q t, h => .cons q (paired_append t h)
theorem paired_take {α β : Type} {R : α → β → Prop} : ∀ {as : List α} {bs : List β} (n : Nat), Paired R as bs → Paired R (as.take n) (bs.take n)
  | _, _, 0, _ => by rw [List.take_zero, List.take_zero]; exact .nil
  | _, _, n + 1, .nil => .nil
  | _, _, n + 1, .cons q t => .cons q (paired_take n t)
theorem cut_to (xs : List V) (j : Nat) : cutV xs none (some (j : Int)) = xs.take j := by
  unfold cutV
  rw [HT.sIx_none, HT.sIx_nat, List.drop_zero, Nat.sub_zero]
  by_cases h : j ≤ xs.length
  · rw [Nat.min_eq_left h]
  · rw [Nat.min_eq_right (by omega), List.take_of_length_le (Nat.le_refl _), List.take_of_length_le (by omega)]
theorem Chained.ends {f l : Nat} {ss : List (List Nat)} {a b : List Nat} (hc : Chained ss) (ha : ss.head? = some a) (hb : ss.getLast? = some b) (hf : f ∈ a) (hl : l ∈ b) : Chained (([f] :: ss) ++ [[l]]) := by
  have h1 : Chained ([f] :: ss) := by
    cases ss with
    | nil => cases ha
    | cons c r =>
      have := Option.some.inj ha
      subst this
      exact ⟨⟨f, by simp, hf⟩, hc⟩
  obtain ⟨q0, rfl⟩ := List.getLast?_eq_some_iff.mp hb
  exact Chained.snoc (qs := [f] :: q0) h1 ⟨l, hl, by simp⟩
/-- what is known of the lines by their numbers, place by place -/
structure PlQ (n J : Nat) (qs : List (List Nat)) : Prop where
  form : ∃ (f l : Nat) (ss : List (List Nat)) (tw : List Nat), qs = (([f] :: ss) ++ [[l]]) ++ tw.map (fun x => [x]) ∧ ss.length = J ∧ (∀ js ∈ ss, Spot n js) ∧ f < n ∧ l < n ∧ (∀ x ∈ tw, x < n) ∧ Chained (([f] :: ss) ++ [[l]]) ∧ tw.length ≤ 14
  most : J ≤ 12
theorem PlQ.len {n J : Nat} {qs : List (List Nat)} (h : PlQ n J qs) : J + 2 ≤ qs.length ∧ qs.length ≤ 28 := by
  obtain ⟨f, l, ss, tw, rfl, h1, _, _, _, _, _, h2⟩ := h.form
  have := h.most
  simp only [List.length_append, List.length_cons, List.length_map, List.length_nil]
  omega
/-- a list of pairs of a name and a list of numbers -/
structure PlAt (p : Addr) (H : Hp) (l : Addr) (ts : List Addr) (zs : List (List Nat)) (as : List Addr) (qs : List (List Nat)) : Prop where
  lst : H l = some (.lst (ts.map V.ref))
  tup : Lz.Tups H ts ((zs.map nS).zip (as.map V.ref))
  ll : LLs H as qs
  lz : zs.length = qs.length
  lt : ts.length = qs.length
  np : l ≠ p ∧ (∀ t ∈ ts, t ≠ p) ∧ ∀ a ∈ as, a ≠ p
theorem PlAt.keep {p : Addr} {H H' : Hp} {l : Addr} {ts as : List Addr} {zs qs : List (List Nat)} (h : PlAt p H l ts zs as qs) (k : Keep p H H') : PlAt p H' l ts zs as qs :=
  ⟨k _ _ h.np.1 h.lst, paired_imp h.tup fun t ht q e => k _ _ (h.np.2.1 t ht) e, paired_imp h.ll fun a ha q e => k _ _ (h.np.2.2 a ha) e, h.lz, h.lt, h.np⟩
section
variable {P : Program} {w : World} {K : PySem.W.Frag} {mg : Str → Option Value} {base : Heap} {k : Nat}
def sp_l_places : Sp := fun vs H Q _ => ∃ (p : Addr) (n : Nat), vs = [.ref p, .int n] ∧ Bag H p ∧ 1 ≤ n ∧ n ≤ 8 ∧
  ∀ (H' : Hp) (l : Addr) (ts as : List Addr) (zs qs : List (List Nat)) (J : Nat), Keep p H H' → Bag H' p → PlAt p H' l ts zs as qs → PlQ n J qs → zs.Nodup → (∀ z ∈ zs, IsNm z) → (∀ k l, zs[k]? = some l → NmAt k l) → H l = none → (∀ t ∈ ts, H t = none) → (∀ a ∈ as, H a = none) → Q (.ref l) H'
set_option maxHeartbeats 8000000 in
theorem ok_l_places (T : Defs K mg) : FnOk P w K mg base CX0 (k + 3) T.a_l_places T.d_l_places ["_law_bag_here", "_law_many"] sp_l_places := by
  have G_l_take : FnOk P w K mg base CX0 (k + 2) _ _ _ _ := ok_l_take (k := k + 1) T
  have G_l_names : FnOk P w K mg base CX0 (k + 2) _ _ _ _ := ok_l_names T
  have G_l_spots : FnOk P w K mg base CX0 (k + 2) _ _ _ _ := ok_l_spots T
  refine T.F_l_places.ok sc_l_places (fun vs H Q E h => ?_) (fun cdv A outer s H vs Q E hr h => ?_)
  · obtain ⟨p, n, rfl, _⟩ := h
    rfl
  · obtain ⟨p, n, rfl, b, n1, n8, q⟩ := h
    refine ⟨_, PSs.nox
(pss_cons (ps_set (i := 2) sc_l_places.nd rfl (.inl rfl) (pe_op op_mul (pe_ix (r := rIxT K) ix_tup (pe_tup (pa_cons (pe_int) (pa_cons (pe_int) (pa_cons (pe_int) (pa_cons (pe_int) (pa_cons (pe_int) (pa_cons (pe_int) pa_nil))))))) (pe_call G_l_take hr (by rfl) T.g_l_take T.F_l_take.kp T.b_l_take .nil pass0 (pa_cons (pv 0) (pa_cons (pe_int) pa_nil))) (fun _ _ => rfl)) (pe_callTy call_int1 (by rfl) T.z_int (by decide +kernel) (pa_cons (pe_cmpR op_gt (pv 1) (pe_int) (nomark _)) pa_nil))))
    (pss_cons (ps_set (i := 3) sc_l_places.nd rfl (.inl rfl) (pe_call G_l_take hr (by rfl) T.g_l_take T.F_l_take.kp T.b_l_take .nil pass0 (pa_cons (pv 0) (pa_cons (pe_int) pa_nil))))
    (pss_cons (ps_set (i := 4) sc_l_places.nd rfl (.inl rfl) (pe_call G_l_names hr (by rfl) T.g_l_names T.F_l_names.kp T.b_l_names .nil pass0 (pa_cons (pv 0) (pa_cons (pe_op op_add (pe_op op_add (pv 2) (pe_int)) (pv 3)) pa_nil))))
    (Evl.pss_cut (ps_set (i := 5) sc_l_places.nd rfl (.inl rfl) (pe_ifExp (pt_cmpR op_gt (pv 2) (pe_int) (nomark _)) (pe_call G_l_spots hr (by rfl) T.g_l_spots T.F_l_spots.kp T.b_l_spots .nil pass0 (pa_cons (pv 0) (pa_cons (pv 1) (pa_cons (pv 2) pa_nil)))) (pe_lst (pa_cons (pe_lst (pa_cons (pe_call G_l_take hr (by rfl) T.g_l_take T.F_l_take.kp T.b_l_take .nil pass0 (pa_cons (pv 0) (pa_cons (pv 1) pa_nil))) pa_nil)) pa_nil))))
    (pss_cons (ps_set (i := 6) sc_l_places.nd rfl (.inl rfl) (pe_lst (pa_cons (pe_ix (r := rIxL K) ix_list (pe_ix (r := rIxL K) ix_list (pv 5) (pe_int) (fun _ _ => rfl)) (pe_call G_l_take hr (by rfl) T.g_l_take T.F_l_take.kp T.b_l_take .nil pass0 (pa_cons (pv 0) (pa_cons (pe_callB (r := rLenS K) call_lenS (by rfl) T.z_len (by decide +kernel) (pa_cons (pe_ix (r := rIxL K) ix_list (pv 5) (pe_int) (fun _ _ => rfl)) pa_nil)) pa_nil))) (fun _ _ => rfl)) pa_nil)))
    (pss_cons (ps_set (i := 7) sc_l_places.nd rfl (.inl rfl) (pe_lst (pa_cons (pe_ix (r := rIxL K) ix_list (pe_ix (r := rIxL K) ix_list (pv 5) (pe_un un_neg (pe_int)) (fun _ _ => rfl)) (pe_call G_l_take hr (by rfl) T.g_l_take T.F_l_take.kp T.b_l_take .nil pass0 (pa_cons (pv 0) (pa_cons (pe_callB (r := rLenS K) call_lenS (by rfl) T.z_len (by decide +kernel) (pa_cons (pe_ix (r := rIxL K) ix_list (pv 5) (pe_un un_neg (pe_int)) (fun _ _ => rfl)) pa_nil)) pa_nil))) (fun _ _ => rfl)) pa_nil)))
    (pss_cons (ps_setLc (i := 8) (own := [("_law_k", 9)]) (g := gName 9) rfl sc_l_places.nd rfl rfl (sw_true rfl rfl rfl (by decide +kernel)) (pi_range1 (by rfl) T.z_range (pa_cons (pv 3) pa_nil)) (blkOk_by (N := N_l_places) (sc := defScope s_l_places) (by decide +kernel)) (fun _ _ _ _ _ => (pg_name (i := 9) sc_l_places.nd rfl (.inl rfl))) (fun _ _ _ _ _ => pts_nil) (fun _ _ _ _ _ => (pe_lst (pa_cons (pe_call G_l_take hr (by rfl) T.g_l_take T.F_l_take.kp T.b_l_take .nil pass0 (pa_cons (pv 0) (pa_cons (pv 1) pa_nil))) pa_nil))))
    (pss_one (ps_ret (Lz.pe_listZip rfl (by rfl) T.z_list (by rfl) T.z_zip (pa_cons (pv 4) (pa_cons (pe_op op_cat (pe_op op_cat (pe_op op_cat (pe_lst (pa_cons (pv 6) pa_nil)) (pe_slice sl_list (pv 5) po_none (po_some (pv 2)))) (pe_lst (pa_cons (pv 7) pa_nil))) (pv 8)) pa_nil))))))))))))
      , ?_⟩
    -- junctions
    refine ⟨by decide, fun t nt => ?_⟩
    have ntp : t ≠ p := b.ne nt
    refine ⟨.ref p, rfl, p, 6, rfl, b.keep (same_upd nt), by decide, by decide, fun H1 d k1 b1 d0 d1 => ?_⟩
    obtain ⟨m0, hm0, em0⟩ := pick (ms := [1, 12, 4, 7, 2, 0]) d0 d1
    refine ⟨t, _, d, _, rfl, rfl, SqT.of (k1 _ _ ntp upd_same), em0, ?_⟩
    have k1 : Keep p H H1 := (Keep.of (same_upd nt)).trans k1
    have hm : 0 ≤ m0 ∧ m0 ≤ 12 := by
      simp only [List.mem_cons, List.not_mem_nil, or_false] at hm0
      omega
    refine ⟨.int n, rfl, n, 1, rfl, rfl, .inr ⟨_, rfl, m0, _, rfl, rfl, .inl ⟨by omega, by omega⟩, ?_⟩⟩
    obtain ⟨J, hJ⟩ : ∃ J : Nat, m0 * (if decide ((1 : Int) < (n : Int)) then 1 else 0) = (J : Int) ∧ J ≤ 12 ∧ (0 < J → 2 ≤ n) := by
      by_cases c : (1 : Int) < n
      · rw [if_pos (decide_eq_true c)]
        exact ⟨m0.toNat, by omega, by omega, fun _ => by omega⟩
      · rw [if_neg (fun z => c (of_decide_eq_true z))]
        exact ⟨0, by omega, by omega, fun z => absurd z (Nat.lt_irrefl _)⟩
    obtain ⟨eJ, J12, J2⟩ := hJ
    dsimp only
    rw [eJ]
    -- more
    refine ⟨.ref p, rfl, p, 15, rfl, b1, by decide, by decide, fun H2 mo k2 b2 mo0 mo1 => ?_⟩
    obtain ⟨m, rfl⟩ : ∃ m : Nat, mo = (m : Int) := ⟨mo.toNat, by omega⟩
    have k2 := k1.trans k2
    -- names
    refine ⟨.ref p, rfl, .int J, rfl, J, 2, rfl, rfl, .int m, rfl, _, m, rfl, rfl, p, J + 2 + m, by dsimp only; rw [show ((J : Int) + 2 + (m : Int)) = ((J + 2 + m : Nat) : Int) by omega]; rfl, b2, by omega, fun H3 nl zs k3 b3 nnl enl hzs nd nms nat => ?_⟩
    have nnl0 : H nl = none := k2.free b nnl b2
    have nlp : nl ≠ p := b2.ne nnl
    have k3 := k2.trans k3
    -- spots
    refine ⟨fun σ H4 => ∃ (sp : Addr) (as : List Addr) (qs : List (List Nat)), σ = [some (.ref p), some (.int n), some (.int J), some (.int m), some (.ref nl), some (.ref sp), none, none, none, none] ∧ Keep p H3 H4 ∧ Bag H4 p ∧ H3 sp = none ∧ H4 sp = some (.lst (as.map V.ref)) ∧ LLs H4 as qs ∧ (∀ a ∈ as, H3 a = none ∧ a ≠ sp ∧ a ≠ p) ∧ 1 ≤ qs.length ∧ Chained qs ∧ (∀ js ∈ qs, (∀ j ∈ js, j < n) ∧ 1 ≤ js.length ∧ js.length ≤ 8) ∧ (0 < J → qs.length = J ∧ ∀ js ∈ qs, Spot n js) ∧ (J = 0 → ∃ x, qs = [[x]]), ?_, fun σ H4 mid => ?_⟩
    · refine ⟨.int J, rfl, _, _, rfl, rfl, _, rfl, ite2 (fun c => ?_) (fun c => ?_)⟩
      · have c := of_decide_eq_true c
        refine ⟨.ref p, rfl, .int n, rfl, .int J, rfl, p, n, J, rfl, b3, J2 (by omega), n8, by omega, J12, fun H4 sp as qs k4 b4 nsp esp hql hL hfr hsp hch => ?_⟩
        refine ⟨sp, as, qs, rfl, k4, b4, nsp, esp, hL, hfr, by omega, hch, fun js hj => ?_, fun _ => ⟨hql, hsp⟩, fun z => by omega⟩
        have s := hsp js hj
        exact ⟨s.lt, by have := s.two; omega, Spot.len8 s n8⟩
      · have c : ¬ (0 : Int) < (J : Int) := fun z => c (decide_eq_true z)
        refine ⟨.ref p, rfl, .int n, rfl, p, n, rfl, b3, by omega, by omega, fun H4 x k4 b4 x0 x1 => ?_⟩
        refine ⟨one_sz, fun a na => ⟨one_sz, fun sp nsp => ?_⟩⟩
        obtain ⟨x, rfl⟩ : ∃ j : Nat, x = (j : Int) := ⟨x.toNat, by omega⟩
        have nsp4 : H4 sp = none := (same_upd na).free nsp
        have nap : a ≠ p := b4.ne na
        have nspp : sp ≠ p := b4.ne nsp4
        have nas : a ≠ sp := fun z => by rw [← z, upd_same] at nsp; cases nsp
        refine ⟨sp, [a], [[x]], rfl, k4.trans (.of ((same_upd na).trans (same_upd nsp))), b4.keep ((same_upd na).trans (same_upd nsp)), k4.free b3 nsp4 b4, upd_same, .cons (by rw [upd_ne nas, upd_same]; rfl) .nil, fun c hc => ?_, by simp, trivial, fun js hj => ?_, fun z => by omega, fun _ => ⟨x, rfl⟩⟩
        · rw [List.mem_singleton.mp hc]
          exact ⟨k4.free b3 na b4, nas, nap⟩
        · rw [List.mem_singleton.mp hj]
          exact ⟨fun j hj => by rw [List.mem_singleton.mp hj]; omega, by simp, by simp⟩
    obtain ⟨sp, as, qs, rfl, k4, b4, nsp, esp, hL, hfr, hq1, hch, hqa, hJ0, hJ1⟩ := mid
    have nspp : sp ≠ p := b3.ne nsp
    have hal := paired_len hL
    obtain ⟨a0, qa, ha0, hqa0, ea0, h00⟩ : ∃ a0 qa, as[0]? = some a0 ∧ qs[0]? = some qa ∧ H4 a0 = some (.lst (jV qa)) ∧ qs.head? = some qa := by
      have h : 0 < as.length := by omega
      obtain ⟨qa, e1, e2⟩ := paired_get hL (List.getElem?_eq_getElem h)
      exact ⟨as[0], qa, List.getElem?_eq_getElem h, e1, e2, by rw [List.head?_eq_getElem?]; exact e1⟩
    obtain ⟨az, qz, haz, hqz, eaz, hzz⟩ : ∃ az qz, atI (as.map V.ref) (-1) = some (.ref az) ∧ qz ∈ qs ∧ H4 az = some (.lst (jV qz)) ∧ qs.getLast? = some qz := by
      have h : as.length - 1 < as.length := by omega
      obtain ⟨qz, e1, e2⟩ := paired_get hL (List.getElem?_eq_getElem h)
      have eas : as = as.take (as.length - 1) ++ [as[as.length - 1]] := by
        rw [List.take_append_getElem, List.take_of_length_le (by omega)]
      refine ⟨as[as.length - 1], qz, ?_, List.mem_of_getElem? e1, e2, by rw [List.getLast?_eq_getElem?, ← hal]; exact e1⟩
      conv => lhs; rw [eas]
      rw [List.map_append]
      exact atI_last _ _
    have m0' : a0 ∈ as := List.mem_of_getElem? ha0
    have q0m := hqa qa (List.mem_of_getElem? hqa0)
    have qzm := hqa qz hqz
    have a0p : a0 ≠ p := (hfr a0 m0').2.2
    have azp : az ≠ p := fun z => by
      obtain ⟨g, r, e, _⟩ := b4
      obtain ⟨j, hj⟩ := atI_get haz
      have hj := hj.2.1
      rw [List.getElem?_map] at hj
      cases hx : as[j]? with
      | none => rw [hx] at hj; cases hj
      | some y =>
        rw [hx] at hj
        have ey := V.ref.inj (Option.some.inj hj)
        exact (hfr y (List.mem_of_getElem? hx)).2.2 (ey.trans z)
    -- first
    have i0 : atI (as.map V.ref) 0 = some (.ref a0) := atI_nat (j := 0) (by rw [List.getElem?_map, ha0]; rfl)
    refine ⟨.ref sp, rfl, sp, _, 0, .ref a0, rfl, rfl, SqL.of esp, i0, .ref p, rfl, .ref sp, rfl, sp, _, 0, .ref a0, rfl, rfl, SqL.of esp, i0, a0, jV qa, rfl, .inl (SqL.of ea0), p, qa.length, by rw [List.length_map]; rfl, b4, by have := q0m.2.1; omega, by have := q0m.2.2; omega, fun H5 d5 k5 b5 d50 d51 => ?_⟩
    obtain ⟨j5, rfl⟩ : ∃ jj : Nat, d5 = (jj : Int) := ⟨d5.toNat, by omega⟩
    have hj5 : j5 < qa.length := by omega
    have g5 : (jV qa)[j5]? = some (.int (qa[j5] : Nat)) := by
      rw [List.getElem?_map, List.getElem?_eq_getElem hj5]
      rfl
    refine ⟨a0, _, (j5 : Int), _, rfl, rfl, SqL.of (k5 _ _ a0p ea0), atI_nat g5, one_sz, fun fa nfa => ?_⟩
    have inf : qa[j5] ∈ qa := List.getElem_mem hj5
    generalize qa[j5] = f at inf g5
    have nfap : fa ≠ p := b5.ne nfa
    have k6 : Keep p H4 (upd H5 fa (.lst [.int ((f : Nat) : Int)])) := k5.trans (.of (same_upd nfa))
    have b6 := b5.keep (same_upd (o := .lst [.int ((f : Nat) : Int)]) nfa)
    have efa : (upd H5 fa (.lst [.int ((f : Nat) : Int)])) fa = some (.lst (jV [f])) := upd_same
    have nfa4 : H4 fa = none := k5.free b4 nfa b5
    dsimp only
    generalize upd H5 fa (.lst [.int ((f : Nat) : Int)]) = H6 at k6 b6 efa ⊢
    -- last
    refine ⟨.ref sp, rfl, 1, rfl, sp, _, -1, .ref az, rfl, rfl, SqL.of (k6 _ _ nspp esp), haz, .ref p, rfl, .ref sp, rfl, 1, rfl, sp, _, -1, .ref az, rfl, rfl, SqL.of (k6 _ _ nspp esp), haz, az, jV qz, rfl, .inl (SqL.of (k6 _ _ azp eaz)), p, qz.length, by rw [List.length_map]; rfl, b6, by have := qzm.2.1; omega, by have := qzm.2.2; omega, fun H7 d7 k7 b7 d70 d71 => ?_⟩
    obtain ⟨j7, rfl⟩ : ∃ jj : Nat, d7 = (jj : Int) := ⟨d7.toNat, by omega⟩
    have hj7 : j7 < qz.length := by omega
    have g7 : (jV qz)[j7]? = some (.int (qz[j7] : Nat)) := by
      rw [List.getElem?_map, List.getElem?_eq_getElem hj7]
      rfl
    refine ⟨az, _, (j7 : Int), _, rfl, rfl, SqL.of (k7 _ _ azp (k6 _ _ azp eaz)), atI_nat g7, one_sz, fun la nla => ?_⟩
    have inl : qz[j7] ∈ qz := List.getElem_mem hj7
    generalize qz[j7] = l at inl g7
    have nlap : la ≠ p := b7.ne nla
    have nla4 : H4 la = none := k6.free b4 (k7.free b6 nla b7) b6
    have efa8 : (upd H7 la (.lst [.int ((l : Nat) : Int)])) fa = some (.lst (jV [f])) := same_upd nla _ _ (k7 _ _ nfap efa)
    have k8 : Keep p H4 (upd H7 la (.lst [.int ((l : Nat) : Int)])) := k6.trans (k7.trans (.of (same_upd nla)))
    have b8 := b7.keep (same_upd (o := .lst [.int ((l : Nat) : Int)]) nla)
    have ela8 : (upd H7 la (.lst [.int ((l : Nat) : Int)])) la = some (.lst (jV [l])) := upd_same
    dsimp only
    generalize upd H7 la (.lst [.int ((l : Nat) : Int)]) = H8 at k8 b8 efa8 ela8 ⊢
    -- towns
    refine ⟨.int m, rfl, m, rfl, by omega, by omega, fun D nD => ?_⟩
    have nDp : D ≠ p := b8.ne nD
    rw [Int.toNat_natCast]
    refine lc_it walk_range (fun j H9 => Keep p H8 H9 ∧ Bag H9 p ∧ ∃ (ta : List Addr) (tw : List Nat), tw.length = j ∧ (∀ x ∈ tw, x < n) ∧ H9 D = some (.lst (ta.map V.ref)) ∧ LLs H9 ta (tw.map fun x => [x]) ∧ ∀ a ∈ ta, H8 a = none ∧ a ≠ D ∧ a ≠ p) ⟨.of (same_upd nD), b8.keep (same_upd nD), [], [], rfl, fun c hc => by simp at hc, upd_same, .nil, fun c hc => by simp at hc⟩ (fun _ _ _ _ => trivial) (fun j x H9 H10 hj pv y => ?_) (fun H9 pv => ?_)
    · obtain ⟨rfl, rfl⟩ := y
      obtain ⟨k9, b9, ta, tw, htl, htw, eD, hTL, htf⟩ := pv
      refine ⟨rfl, yes_ ?_⟩
      refine ⟨.ref p, rfl, .int n, rfl, p, n, rfl, b9, by omega, by omega, fun H11 x k11 b11 x0 x1 => ⟨one_sz, fun c nc => ?_⟩⟩
      obtain ⟨x, rfl⟩ : ∃ j : Nat, x = (j : Int) := ⟨x.toNat, by omega⟩
      have ncp : c ≠ p := b11.ne nc
      have eD11 := k11 _ _ nDp eD
      have nDc : D ≠ c := ne_of_none eD11 nc
      have nc8 : H8 c = none := k9.free b8 (k11.free b9 nc b11) b9
      have tl := paired_len hTL
      rw [List.length_map] at tl
      refine ⟨_, same_upd nc _ _ eD11, by rw [List.length_map]; exact small5000 (by omega), fun e o ne ee => ?_, (b11.keep (same_upd nc)).at (upd_ne nDp.symm), ta ++ [c], tw ++ [x], by rw [List.length_append, htl]; rfl, fun y hy => ?_, by rw [upd_same, List.map_append]; rfl, ?_, fun e he => ?_⟩
      · rw [upd_ne (ne_of_none ee nD), upd_ne (ne_of_none (k11 _ _ ne (k9 _ _ ne ee)) nc)]
        exact k11 _ _ ne (k9 _ _ ne ee)
      · rcases List.mem_append.mp hy with z | z
        · exact htw y z
        · rw [List.mem_singleton.mp z]
          omega
      · rw [List.map_append]
        refine paired_snoc (paired_imp hTL fun a ha js e => ?_) (by rw [upd_ne nDc.symm, upd_same]; rfl)
        obtain ⟨_, f1, f2⟩ := htf a ha
        rw [upd_ne f1, upd_ne (ne_of_none (k11 _ _ f2 e) nc)]
        exact k11 _ _ f2 e
      · rcases List.mem_append.mp he with z | z
        · exact htf e z
        · rw [List.mem_singleton.mp z]
          exact ⟨nc8, nDc.symm, ncp⟩
    obtain ⟨k9, b9, ta, tw, htl, htw, eD, hTL, htf⟩ := pv
    have kk9 : Keep p H4 H9 := k8.trans k9
    have esp9 := kk9 _ _ nspp esp
    have enl9 : H9 nl = some (.lst (zs.map nS)) := kk9 _ _ nlp (k4 _ _ nlp enl)
    have efa9 := k9 _ _ nfap efa8
    have ela9 := k9 _ _ nlap ela8
    have hL9 : LLs H9 as qs := paired_imp hL fun a ha js e => kk9 _ _ (hfr a ha).2.2 e
    have tl := paired_len hTL
    rw [List.length_map] at tl
    -- list(zip(names, [first] + spots[:J] + [last] + towns))
    refine ⟨.ref nl, rfl, .ref fa, rfl, one_sz, fun c1 n1' => ?_⟩
    refine ⟨.ref sp, rfl, .int J, rfl, J, rfl, sp, _, rfl, SqL.of (same_upd n1' _ _ esp9), fun c2 n2' => ?_⟩
    rw [cut_to]
    have e2 : (upd (upd H9 c1 (.lst [.ref fa])) c2 (.lst ((as.map V.ref).take J))) c1 = some (.lst [.ref fa]) := same_upd n2' _ _ upd_same
    refine ⟨c1, c2, _, _, rfl, rfl, e2, upd_same, ?_, fun c3 n3' => ?_⟩
    · refine Nat.le_of_lt (small5000 ?_)
      rw [List.length_take, List.length_map]
      show 1 + _ ≤ 5000
      omega
    have s3 : Same H9 (upd (upd (upd H9 c1 (.lst [.ref fa])) c2 (.lst ((as.map V.ref).take J))) c3 (.lst ([.ref fa] ++ (as.map V.ref).take J))) := (same_upd n1').trans ((same_upd n2').trans (same_upd n3'))
    have e3 : (upd (upd (upd H9 c1 (.lst [.ref fa])) c2 (.lst ((as.map V.ref).take J))) c3 (.lst ([.ref fa] ++ (as.map V.ref).take J))) c3 = some (.lst ([.ref fa] ++ (as.map V.ref).take J)) := upd_same
    generalize upd (upd (upd H9 c1 (.lst [.ref fa])) c2 (.lst ((as.map V.ref).take J))) c3 (.lst ([.ref fa] ++ (as.map V.ref).take J)) = G3 at s3 e3 ⊢
    refine ⟨.ref la, rfl, one_sz, fun c4 n4' => ?_⟩
    refine ⟨c3, c4, _, _, rfl, rfl, same_upd n4' _ _ e3, upd_same, ?_, fun c5 n5' => ?_⟩
    · refine Nat.le_of_lt (small5000 ?_)
      rw [List.length_append, List.length_take, List.length_map]
      show 1 + _ + 1 ≤ 5000
      omega
    refine ⟨.ref D, rfl, c5, D, _, _, rfl, rfl, upd_same, same_upd n5' _ _ (same_upd n4' _ _ (s3 _ _ eD)), ?_, fun c6 n6' => ?_⟩
    · refine Nat.le_of_lt (small5000 ?_)
      rw [List.length_append, List.length_append, List.length_take, List.length_map, List.length_map]
      show 1 + _ + 1 + _ ≤ 5000
      omega
    have s6 := s3.trans ((same_upd (o := .lst [.ref la]) n4').trans ((same_upd (o := .lst ([.ref fa] ++ (as.map V.ref).take J ++ [.ref la])) n5').trans (same_upd (o := .lst ([.ref fa] ++ (as.map V.ref).take J ++ [.ref la] ++ ta.map V.ref)) n6')))
    have eLL : ([V.ref fa] ++ (as.map V.ref).take J ++ [.ref la] ++ ta.map V.ref) = ((([fa] ++ as.take J) ++ [la]) ++ ta).map V.ref := by
      simp only [List.map_append, List.map_take, List.map_cons, List.map_nil]
    have lens : ((([fa] ++ as.take J) ++ [la]) ++ ta).length = J + 2 + m := by
      simp only [List.length_append, List.length_take, List.length_cons, List.length_nil]
      by_cases c : 0 < J
      · have := (hJ0 c).1
        omega
      · omega
    refine ⟨nl, c6, zs.map nS, _, rfl, SqL.of (s6 _ _ enl9), SqL.of upd_same, by rw [eLL, List.length_map, List.length_map, lens]; exact hzs, by rw [List.length_map]; omega, fun H' l' ts st nl' nts nlt ndt elt htup => ?_⟩
    have s' := s6.trans st
    have kf : Keep p H H' := k3.trans (k4.trans (kk9.trans (.of s')))
    have fin : ∀ a, H9 a = none → H a = none := fun a h => k3.free b (k4.free b3 (kk9.free b4 h b9) b4) b3
    rw [eLL] at htup
    have tlen : ts.length = J + 2 + m := by
      have := paired_len htup
      rw [this, List.length_zip, List.length_map, List.length_map, lens, hzs, Nat.min_self]
    have pq : PlQ n J ((([f] :: qs.take J) ++ [[l]]) ++ tw.map fun x => [x]) := by
      refine ⟨⟨f, l, qs.take J, tw, rfl, ?_, fun js hj => ?_, q0m.1 f inf, qzm.1 l inl, htw, ?_, by omega⟩, J12⟩
      · rw [List.length_take]
        by_cases c : 0 < J
        · have := (hJ0 c).1
          omega
        · omega
      · by_cases c : 0 < J
        · exact (hJ0 c).2 js (List.mem_of_mem_take hj)
        · rw [show J = 0 by omega, List.take_zero] at hj
          cases hj
      · by_cases c : 0 < J
        · rw [List.take_of_length_le (by have := (hJ0 c).1; omega)]
          exact Chained.ends hch h00 hzz inf inl
        · have c0 : J = 0 := by omega
          obtain ⟨x, rfl⟩ := hJ1 c0
          rw [c0, List.take_zero]
          have e1 := Option.some.inj h00
          have e2 := Option.some.inj hzz
          subst e1
          subst e2
          rw [List.mem_singleton.mp inf, List.mem_singleton.mp inl]
          exact ⟨⟨x, by simp, by simp⟩, trivial⟩
    have n9 : ∀ a, H9 a = none → a ≠ p := fun a h => b9.ne h
    have nl9 : H9 l' = none := s6.free nl'
    have nt9 : ∀ t ∈ ts, H9 t = none := fun t ht => s6.free (nts t ht)
    have npa : ∀ a ∈ (([fa] ++ as.take J) ++ [la]) ++ ta, a ≠ p ∧ H a = none := fun a ha => by
      rcases List.mem_append.mp ha with z | z
      · rcases List.mem_append.mp z with z | z
        · rcases List.mem_append.mp z with z | z
          · rw [List.mem_singleton.mp z]
            exact ⟨nfap, k3.free b (k4.free b3 nfa4 b4) b3⟩
          · have := hfr a (List.mem_of_mem_take z)
            exact ⟨this.2.2, k3.free b this.1 b3⟩
        · rw [List.mem_singleton.mp z]
          exact ⟨nlap, k3.free b (k4.free b3 nla4 b4) b3⟩
      · have := htf a z
        exact ⟨this.2.2, k3.free b (k4.free b3 (k8.free b4 this.1 b8) b4) b3⟩
    refine q H' l' ts ((([fa] ++ as.take J) ++ [la]) ++ ta) zs _ J kf (b9.keep s') ⟨elt, htup, ?_, ?_, ?_, n9 _ nl9, fun t ht => n9 _ (nt9 t ht), fun a ha => (npa a ha).1⟩ pq nd nms nat (fin _ nl9) (fun t ht => fin _ (nt9 t ht)) fun a ha => (npa a ha).2
    · refine paired_append (paired_append (paired_append (as := [fa]) (bs := [[f]]) (.cons (s' _ _ efa9) .nil) (paired_take J (paired_imp hL9 fun a _ js e => s' _ _ e))) (.cons (s' _ _ ela9) .nil)) (paired_imp hTL fun a _ js e => s' _ _ e)
    · rw [hzs]
      simp only [List.length_append, List.length_take, List.length_cons, List.length_nil, List.length_map]
      by_cases c : 0 < J
      · have := (hJ0 c).1
        omega
      · omega
    · rw [tlen]
      simp only [List.length_append, List.length_take, List.length_cons, List.length_nil, List.length_map]
      by_cases c : 0 < J
      · have := (hJ0 c).1
        omega
      · omega
end
end Th
namespace Th
open PySem PySem.Spec PyProof.Rows L2
/-! the net laid out as four tuples -/
abbrev Nm := List Nat
def TK (H H' : Hp) : Prop := ∀ a xs, H a = some (.tup xs) → H' a = some (.tup xs)
theorem TK.of {H H' : Hp} (s : Same H H') : TK H H' := fun a xs e => s a _ e
theorem TK.trans {H H' H2 : Hp} (a : TK H H') (b : TK H' H2) : TK H H2 := fun c xs e => b c xs (a c xs e)
theorem TK.keep {p : Addr} {H H' : Hp} (k : Keep p H H') (b : Bag H p) : TK H H' := fun a xs e => k a _ (fun z => by
  obtain ⟨g, r, e', _⟩ := b
  rw [z, e'] at e
  cases e) e
theorem TK.upd {c : Addr} {H : Hp} {o : HO} (h : ∀ xs, H c ≠ some (.tup xs)) : TK H (upd H c o) := fun a xs e => by
  rw [upd_ne (fun z => h xs (by rw [← z]; exact e))]
  exact e
theorem Keep.set {p S : Addr} {H H' : Hp} {o : HO} (k : Keep p H H') (n : H S = none) : Keep p H (L2.upd H' S o) := fun c o nc ec => by
  rw [upd_ne (ne_of_none ec n)]
  exact k c o nc ec
theorem same_set {S : Addr} {H H' : Hp} {o : HO} (k : Same H H') (n : H S = none) : Same H (upd H' S o) := fun c o ec => by
  rw [upd_ne (ne_of_none ec n)]
  exact k c o ec
theorem two_sz {x y : V} : [x, y].length ≤ sizeLine := by show 2 ≤ sizeLine; decide
theorem four_sz {x y z u : V} : [x, y, z, u].length ≤ sizeLine := by show 4 ≤ sizeLine; decide
def StAt (H : Hp) (a : Addr) (st : Nm × Nm) : Prop := H a = some (.tup [nS st.1, nS st.2])
def JnAt (H : Hp) (a : Addr) (jn : Nm × List Nm) : Prop := ∃ b, H a = some (.tup [nS jn.1, .ref b]) ∧ H b = some (.tup (jn.2.map nS))
structure Ti where
  a : Nm
  b : Nm
  ln : Nm
  ch : Nat
def TiAt (H : Hp) (x : Addr) (t : Ti) : Prop := H x = some (.tup [nS t.a, nS t.b, nS t.ln, .int t.ch])
/-- the net at its address -/
def NetAt (H : Hp) (r : Addr) (ls : List Nm) (sts : List (Nm × Nm)) (jns : List (Nm × List Nm)) (tis : List Ti) : Prop :=
  ∃ (a b c d : Addr) (sa ja ta : List Addr), H r = some (.tup [.ref a, .ref b, .ref c, .ref d]) ∧ H a = some (.tup (ls.map nS)) ∧ H b = some (.tup (sa.map V.ref)) ∧ Paired (StAt H) sa sts ∧
    H c = some (.tup (ja.map V.ref)) ∧ Paired (JnAt H) ja jns ∧ H d = some (.tup (ta.map V.ref)) ∧ Paired (TiAt H) ta tis
theorem NetAt.tk {H H' : Hp} {r : Addr} {ls : List Nm} {sts : List (Nm × Nm)} {jns : List (Nm × List Nm)} {tis : List Ti} (h : NetAt H r ls sts jns tis) (k : TK H H') : NetAt H' r ls sts jns tis := by
  obtain ⟨a, b, c, d, sa, ja, ta, e1, e2, e3, e4, e5, e6, e7, e8⟩ := h
  exact ⟨a, b, c, d, sa, ja, ta, k _ _ e1, k _ _ e2, k _ _ e3, paired_imp e4 fun x _ y e => k _ _ e, k _ _ e5, paired_imp e6 (fun x _ y ⟨z, f1, f2⟩ => ⟨z, k _ _ f1, k _ _ f2⟩), k _ _ e7, paired_imp e8 fun x _ y e => k _ _ e⟩
theorem paired_drop {α β : Type} {R : α → β → Prop} : ∀ {as : List α} {bs : List β} (n : Nat), Paired R as bs → Paired R (as.drop n) (bs.drop n)
  | _, _, 0, h => h
  | _, _, n + 1, .nil => .nil
  | _, _, n + 1, .cons q t => paired_drop n t
theorem paired_ins {α β : Type} {R : α → β → Prop} {as : List α} {bs : List β} (n : Nat) {a : α} {b : β} (h : Paired R as bs) (r : R a b) : Paired R (as.take n ++ [a] ++ as.drop n) (bs.take n ++ [b] ++ bs.drop n) :=
  paired_append (paired_append (paired_take n h) (.cons r .nil)) (paired_drop n h)
theorem perm_ins {α : Type} (xs : List α) (n : Nat) (x : α) : (xs.take n ++ [x] ++ xs.drop n).Perm (xs ++ [x]) := by
  have h1 : (xs.take n ++ [x] ++ xs.drop n).Perm (x :: (xs.take n ++ xs.drop n)) := by
    rw [List.append_assoc]
    exact List.perm_middle
  rw [List.take_append_drop] at h1
  exact h1.trans (List.perm_append_comm (l₁ := [x]) (l₂ := xs))
theorem ins_map {xs : List Addr} {n : Nat} {x : Addr} : (xs.map V.ref).take n ++ [V.ref x] ++ (xs.map V.ref).drop n = (xs.take n ++ [x] ++ xs.drop n).map V.ref := by
  simp only [List.map_append, List.map_take, List.map_drop, List.map_cons, List.map_nil]
def stOf (ls : List Nm) (x : Nm × List Nat) : Option (Nm × Nm) := if x.2.length = 1 then some (x.1, ls.getD (x.2.getD 0 0) []) else none
def jnOf (ls : List Nm) (x : Nm × List Nat) : Option (Nm × List Nm) := if x.2.length = 1 then none else some (x.1, x.2.map fun j => ls.getD j [])
/-- the dict of the ties -/
def TiD (H : Hp) (td : Addr) (tis : List Ti) : Prop := ∃ kvs : List (List Key × V), H td = some (.dT kvs) ∧ (kvs.map (·.1)).Nodup ∧
  Paired (fun kv (t : Ti) => kv.1 = [Sum.inr (SX.S t.a), Sum.inr (SX.S t.b)] ∧ ∃ v, kv.2 = .ref v ∧ H v = some (.tup [nS t.ln, .int t.ch])) kvs tis
theorem val_at : ∀ {kvs : List (List Key × V)} {i : Nat} {k : List Key} {v : V}, (kvs.map (·.1)).Nodup → kvs[i]? = some (k, v) → valV kvs k = some v
  | [], _, _, _, _, h => by simp at h
  | p :: r, 0, k, v, _, h => by
    have := Option.some.inj h
    subst this
    exact valV_pos rfl
  | p :: r, i + 1, k, v, hn, h => by
    have hn' := List.nodup_cons.mp hn
    rw [valV_neg]
    · exact val_at hn'.2 h
    · intro e
      exact hn'.1 (List.mem_map.mpr ⟨(k, v), List.mem_of_getElem? h, e.symm⟩)
section
variable {P : Program} {w : World} {K : PySem.W.Frag} {mg : Str → Option Value} {base : Heap} {k : Nat}
def sp_l_laid : Sp := fun vs H Q _ => ∃ (p ln pl td : Addr) (ts as : List Addr) (ls zs : List Nm) (qs : List (List Nat)) (tis : List Ti), vs = [.ref p, .ref ln, .ref pl, .ref td] ∧ Bag H p ∧ ln ≠ p ∧ H ln = some (.lst (ls.map nS)) ∧ ls.length ≤ 8 ∧
  PlAt p H pl ts zs as qs ∧ qs.length ≤ 28 ∧ (∀ js ∈ qs, 1 ≤ js.length ∧ js.length ≤ 8 ∧ ∀ j ∈ js, j < ls.length) ∧ TiD H td tis ∧ tis.length ≤ 100 ∧
  ∀ (H' : Hp) (r : Addr) (sts : List (Nm × Nm)) (jns : List (Nm × List Nm)) (rws : List Ti), Keep p H H' → Bag H' p → NetAt H' r ls sts jns rws → sts.Perm ((zs.zip qs).filterMap (stOf ls)) → jns.Perm ((zs.zip qs).filterMap (jnOf ls)) → rws.Perm tis → H r = none → Q (.ref r) H'
set_option maxHeartbeats 8000000 in
theorem ok_l_laid (T : Defs K mg) : FnOk P w K mg base CX0 (k + 2) T.a_l_laid T.d_l_laid ["_law_bag_here", "_law_lines", "_law_places_here", "_law_ties"] sp_l_laid := by
  have G_l_take : FnOk P w K mg base CX0 (k + 1) _ _ _ _ := ok_l_take T
  refine T.F_l_laid.ok sc_l_laid (fun vs H Q E h => ?_) (fun cdv A outer s H vs Q E hr h => ?_)
  · obtain ⟨p, ln, pl, td, ts, as, ls, zs, qs, tis, rfl, _⟩ := h
    rfl
  · obtain ⟨p, ln, pl, td, ts, as, ls, zs, qs, tis, rfl, b, nlp, eln, l8, pa, q28, hqs, htd, t100, q⟩ := h
    refine ⟨_, PSs.nox
(pss_cons (ps_par3 (i := 4) (j := 5) (l := 6) rfl sc_l_laid.nd rfl rfl rfl (by decide) (by decide) (by decide) rfl rfl rfl (pa_cons (pe_lst pa_nil) (pa_cons (pe_lst pa_nil) (pa_cons (pe_lst pa_nil) pa_nil))) (by rfl))
    (pss_cons (ps_for PassesOwn.never rfl (pi_list (pv 2)) (pg_tup rfl (pgs_cons (pg_name (i := 7) sc_l_laid.nd rfl (.inl rfl)) (pgs_cons (pg_name (i := 8) sc_l_laid.nd rfl (.inl rfl)) pgs_nil)))
      (pss_one (ps_if (pt_cmpR op_eq (pe_callB (r := rLenS K) call_lenS (by rfl) T.z_len (by decide +kernel) (pa_cons (pv 8) pa_nil)) (pe_int) (nomark _))
        (pss_one (ps_expr (pe_bm PySem.F.plainAttrs_list PySem.F.slot_list_insert PySem.F.type_list_insert mt_insert (pv 4) (pa_cons (pe_call G_l_take hr (by rfl) T.g_l_take T.F_l_take.kp T.b_l_take .nil pass0 (pa_cons (pv 0) (pa_cons (pe_op op_add (pe_callB (r := rLenS K) call_lenS (by rfl) T.z_len (by decide +kernel) (pa_cons (pv 4) pa_nil)) (pe_int)) pa_nil))) (pa_cons (pe_tup (pa_cons (pv 7) (pa_cons (pe_ix (r := rIxL K) ix_list (pv 1) (pe_ix (r := rIxL K) ix_list (pv 8) (pe_int) (fun _ _ => rfl)) (fun _ _ => rfl)) pa_nil))) pa_nil)))))
        (pss_one (ps_expr (pe_bm PySem.F.plainAttrs_list PySem.F.slot_list_insert PySem.F.type_list_insert mt_insert (pv 5) (pa_cons (pe_call G_l_take hr (by rfl) T.g_l_take T.F_l_take.kp T.b_l_take .nil pass0 (pa_cons (pv 0) (pa_cons (pe_op op_add (pe_callB (r := rLenS K) call_lenS (by rfl) T.z_len (by decide +kernel) (pa_cons (pv 5) pa_nil)) (pe_int)) pa_nil))) (pa_cons (pe_tup (pa_cons (pv 7) (pa_cons (pe_callTy call_tuple_of (by rfl) T.z_tuple (by decide +kernel) (pa_cons (pe_lc (own := [("_law_line", 12)]) (g := gName 12) rfl sc_l_laid.nd (pi_list (pv 8)) (blkOk_by (N := N_l_laid) (sc := defScope s_l_laid) (by decide +kernel)) (fun _ _ _ _ _ => (pg_name (i := 12) sc_l_laid.nd rfl (.inl rfl))) (fun _ _ _ _ _ => pts_nil) (fun _ _ _ _ _ => (pe_ix (r := rIxL K) ix_list (pv 1) (pv 12) (fun _ _ => rfl)))) pa_nil)) pa_nil))) pa_nil))))))))
    (pss_cons (ps_lock (ps_for PassesOwn.never rfl (pi_keys (pv 3)) (pg_tup rfl (pgs_cons (pg_name (i := 9) sc_l_laid.nd rfl (.inl rfl)) (pgs_cons (pg_name (i := 10) sc_l_laid.nd rfl (.inl rfl)) pgs_nil)))
      (pss_cons (ps_set (i := 11) sc_l_laid.nd rfl (.inl rfl) (pe_op op_catT (pe_tup (pa_cons (pv 9) (pa_cons (pv 10) pa_nil))) (pe_dget (hu_of hr) (pv 3) (pe_tup (pa_cons (pv 9) (pa_cons (pv 10) pa_nil))) (fun _ _ => rfl))))
      (pss_one (ps_expr (pe_bm PySem.F.plainAttrs_list PySem.F.slot_list_insert PySem.F.type_list_insert mt_insert (pv 6) (pa_cons (pe_call G_l_take hr (by rfl) T.g_l_take T.F_l_take.kp T.b_l_take .nil pass0 (pa_cons (pv 0) (pa_cons (pe_op op_add (pe_callB (r := rLenS K) call_lenS (by rfl) T.z_len (by decide +kernel) (pa_cons (pv 6) pa_nil)) (pe_int)) pa_nil))) (pa_cons (pv 11) pa_nil))))))))
    (pss_one (ps_ret (pe_tup (pa_cons (pe_callTy call_tuple_of (by rfl) T.z_tuple (by decide +kernel) (pa_cons (pv 1) pa_nil)) (pa_cons (pe_callTy call_tuple_of (by rfl) T.z_tuple (by decide +kernel) (pa_cons (pv 4) pa_nil)) (pa_cons (pe_callTy call_tuple_of (by rfl) T.z_tuple (by decide +kernel) (pa_cons (pv 5) pa_nil)) (pa_cons (pe_callTy call_tuple_of (by rfl) T.z_tuple (by decide +kernel) (pa_cons (pv 6) pa_nil)) pa_nil))))))))))
      , ?_⟩
    refine ⟨Nat.zero_le _, fun S nS' => ⟨Nat.zero_le _, fun J nJ' => ⟨Nat.zero_le _, fun R nR' => ⟨_, _, _, rfl, ?_⟩⟩⟩⟩
    have nJ0 : H J = none := (same_upd nS').free nJ'
    have nR1 := (same_upd nJ').free nR'
    have nR0 : H R = none := (same_upd nS').free nR1
    have eS0 : (upd (upd (upd H S (.lst [])) J (.lst [])) R (.lst [])) S = some (.lst (([] : List Addr).map V.ref)) := same_upd nR' _ _ (same_upd nJ' _ _ upd_same)
    have eJ0 : (upd (upd (upd H S (.lst [])) J (.lst [])) R (.lst [])) J = some (.lst (([] : List Addr).map V.ref)) := same_upd nR' _ _ upd_same
    have eR0 : (upd (upd (upd H S (.lst [])) J (.lst [])) R (.lst [])) R = some (.lst (([] : List Addr).map V.ref)) := upd_same
    have s0 : Same H (upd (upd (upd H S (.lst [])) J (.lst [])) R (.lst [])) := (same_upd nS').trans ((same_upd nJ').trans (same_upd nR'))
    have nSJ : S ≠ J := fun z => by rw [← z, upd_same] at nJ'; cases nJ'
    have nJR : J ≠ R := fun z => by rw [← z, upd_same] at nR'; cases nR'
    have nSR : S ≠ R := fun z => by rw [← z, upd_ne nSJ, upd_same] at nR'; cases nR'
    have nSp : S ≠ p := b.ne nS'
    have nJp : J ≠ p := b.ne nJ0
    have nRp : R ≠ p := b.ne nR0
    have b0 := b.keep s0
    generalize upd (upd (upd H S (.lst [])) J (.lst [])) R (.lst []) = H1 at eS0 eJ0 eR0 s0 b0 ⊢
    have lts : (ts.map V.ref).length = (zs.zip qs).length := by rw [List.length_map, List.length_zip, pa.lt, pa.lz, Nat.min_self]
    refine ⟨.ref pl, rfl, pl, rfl, ⟨_, SqL.of (s0 _ _ pa.lst)⟩, ?_⟩
    refine for_it (walk_list (xs := ts.map V.ref)) (fun i σ H3 => ∃ (y7 y8 : Option V) (sa ja : List Addr) (sts : List (Nm × Nm)) (jns : List (Nm × List Nm)), σ = [some (.ref p), some (.ref ln), some (.ref pl), some (.ref td), some (.ref S), some (.ref J), some (.ref R), y7, y8, none, none, none, none] ∧ Keep p H H3 ∧ Bag H3 p ∧ H3 S = some (.lst (sa.map V.ref)) ∧ H3 J = some (.lst (ja.map V.ref)) ∧ H3 R = some (.lst (([] : List Addr).map V.ref)) ∧ Paired (StAt H3) sa sts ∧ Paired (JnAt H3) ja jns ∧ sa.length ≤ i ∧ ja.length ≤ i ∧ sts.Perm (((zs.zip qs).take i).filterMap (stOf ls)) ∧ jns.Perm (((zs.zip qs).take i).filterMap (jnOf ls)))
      ⟨none, none, [], [], [], [], rfl, .of s0, b0, eS0, eJ0, eR0, .nil, .nil, Nat.le_refl _, Nat.le_refl _, by rw [List.take_zero]; exact .refl _, by rw [List.take_zero]; exact .refl _⟩ (fun i σ H3 _ hp => ?_) (fun i x σ H3₀ H3 hi hp y => ?_) (fun σ H3 hp => ?_)
    · obtain ⟨y7, y8, sa, ja, sts, jns, rfl, k3, _⟩ := hp
      exact SqL.of (k3 _ _ pa.np.1 pa.lst)
    · obtain ⟨rfl, ex⟩ := y
      obtain ⟨y7, y8, sa, ja, sts, jns, rfl, k3, b3, eS, eJ, eR, hS, hJ, lS, lJ, pS, pJ⟩ := hp
      obtain ⟨t, et, rfl⟩ : ∃ t, ts[i]? = some t ∧ x = .ref t := by
        rw [List.getElem?_map] at ex
        cases h : ts[i]? with
        | none => rw [h] at ex; cases ex
        | some t => rw [h] at ex; exact ⟨t, rfl, (Option.some.inj ex).symm⟩
      obtain ⟨pr, epr, etup⟩ := paired_get pa.tup et
      rw [List.getElem?_zip_eq_some, List.getElem?_map, List.getElem?_map] at epr
      obtain ⟨z, ez, ez1⟩ : ∃ z, zs[i]? = some z ∧ pr.1 = nS z := by
        cases h : zs[i]? with
        | none => rw [h] at epr; cases epr.1
        | some z => rw [h] at epr; exact ⟨z, rfl, (Option.some.inj epr.1).symm⟩
      obtain ⟨a, ea, ea1⟩ : ∃ a, as[i]? = some a ∧ pr.2 = .ref a := by
        cases h : as[i]? with
        | none => rw [h] at epr; cases epr.2
        | some z => rw [h] at epr; exact ⟨z, rfl, (Option.some.inj epr.2).symm⟩
      rw [ez1, ea1] at etup
      obtain ⟨js, ejs, eas⟩ := paired_get pa.ll ea
      have hjs := hqs js (List.mem_of_getElem? ejs)
      have nap := pa.np.2.2 a (List.mem_of_getElem? ea)
      have ntp := pa.np.2.1 t (List.mem_of_getElem? et)
      have e3t := k3 _ _ ntp etup
      have e3a := k3 _ _ nap eas
      have e3l := k3 _ _ nlp eln
      have tk1 : (zs.zip qs).take (i + 1) = (zs.zip qs).take i ++ [(z, js)] := by
        rw [List.take_add_one, (List.getElem?_zip_eq_some (l₁ := zs) (l₂ := qs) (z := (z, js)) (i := i)).mpr ⟨ez, ejs⟩]
        rfl
      have i28 : i < 28 := by
        rw [lts, List.length_zip] at hi
        omega
      refine ⟨t, _, rfl, SqT.of e3t, rfl, _, _, rfl, _, [], rfl, rfl, ?_⟩
      refine ⟨.ref a, rfl, a, jV js, rfl, .inl (SqL.of e3a), rfl, _, rfl, ite2 (fun c => ?_) (fun c => ?_)⟩
      · have c : js.length = 1 := by
          have c := V.int.inj (of_decide_eq_true c)
          rw [List.length_map] at c
          omega
        obtain ⟨j, rfl⟩ := List.length_eq_one_iff.mp c
        have hj : j < ls.length := hjs.2.2 j (by simp)
        have gl : (ls.map nS)[j]? = some (nS (ls.getD j [])) := by
          rw [List.getElem?_map, List.getElem?_eq_getElem hj, List.getD_eq_getElem?_getD, List.getElem?_eq_getElem hj]
          rfl
        refine ⟨.ref S, rfl, .inl ⟨rfl, _, SqL.of eS⟩, .ref p, rfl, .ref S, rfl, S, sa.map V.ref, rfl, .inl (SqL.of eS), _, 1, rfl, rfl, p, (sa.length : Int) + 1, by dsimp only; rw [List.length_map]; rfl, b3, by omega, by omega, fun H4 d k4 b4 d0 d1 => ?_⟩
        refine ⟨nS z, rfl, .ref ln, rfl, .ref a, rfl, a, jV [j], 0, .int (j : Nat), rfl, rfl, SqL.of (k4 _ _ nap e3a), atI_nat (j := 0) rfl, ln, _, (j : Nat), nS (ls.getD j []), rfl, rfl, SqL.of (k4 _ _ nlp e3l), atI_nat gl, two_sz, fun t' nt' => ?_⟩
        have eS4 := same_upd (o := .tup [nS z, nS (ls.getD j [])]) nt' _ _ (k4 _ _ nSp eS)
        refine ⟨S, _, d, .ref t', rfl, rfl, eS4, by rw [List.length_map]; exact small5000 (by omega), d0, by omega, ?_⟩
        have tk : TK H3 (upd (upd H4 t' (.tup [nS z, nS (ls.getD j [])])) S (.lst ((sa.map V.ref).take d.toNat ++ [.ref t'] ++ (sa.map V.ref).drop d.toNat))) := (TK.keep k4 b3).trans ((TK.of (same_upd nt')).trans (.upd fun xs e => by rw [eS4] at e; cases e))
        have ntS : t' ≠ S := fun z => by rw [← z, upd_same] at eS4; cases eS4
        refine ⟨_, _, sa.take d.toNat ++ [t'] ++ sa.drop d.toNat, ja, sts.take d.toNat ++ [(z, ls.getD j [])] ++ sts.drop d.toNat, jns, rfl, (k3.trans (k4.trans (.of (same_upd nt')))).set nS', (b4.keep (same_upd nt')).at (upd_ne nSp.symm), by rw [upd_same, ins_map], ?_, ?_, ?_, paired_imp hJ (fun x _ y ⟨z, f1, f2⟩ => ⟨z, tk _ _ f1, tk _ _ f2⟩), ?_, by omega, ?_, ?_⟩
        · rw [upd_ne nSJ.symm]
          exact same_upd nt' _ _ (k4 _ _ nJp eJ)
        · rw [upd_ne nSR.symm]
          exact same_upd nt' _ _ (k4 _ _ nRp eR)
        · refine paired_ins _ (paired_imp hS fun x _ y e => tk _ _ e) ?_
          show (upd (upd H4 t' _) S _) t' = _
          rw [upd_ne ntS, upd_same]
        · simp only [List.length_append, List.length_take, List.length_drop, List.length_cons, List.length_nil]
          omega
        · rw [tk1, List.filterMap_append]
          exact (perm_ins _ _ _).trans (pS.append_right _)
        · rw [tk1, List.filterMap_append]
          show jns.Perm (_ ++ [])
          rw [List.append_nil]
          exact pJ
      · have c : js.length ≠ 1 := fun z => c (decide_eq_true (by rw [List.length_map, z]; rfl))
        refine ⟨.ref J, rfl, .inl ⟨rfl, _, SqL.of eJ⟩, .ref p, rfl, .ref J, rfl, J, ja.map V.ref, rfl, .inl (SqL.of eJ), _, 1, rfl, rfl, p, (ja.length : Int) + 1, by dsimp only; rw [List.length_map]; rfl, b3, by omega, by omega, fun H4 d k4 b4 d0 d1 => ?_⟩
        refine ⟨nS z, rfl, .ref a, rfl, a, rfl, ⟨_, SqL.of (k4 _ _ nap e3a)⟩, fun M nM => ?_⟩
        refine lc_it (walk_list (xs := jV js)) (fun n H5 => Same H4 H5 ∧ H5 M = some (.lst (((js.take n).map fun j => ls.getD j []).map nS))) ⟨same_upd nM, upd_same⟩ (fun n H5 _ pv => SqL.of (pv.1 _ _ (k4 _ _ nap e3a))) (fun n x H5 H6 hn pv y => ?_) (fun H5 pv => ?_)
        · obtain ⟨rfl, ex⟩ := y
          obtain ⟨s5, eM⟩ := pv
          obtain ⟨j, ej, rfl⟩ : ∃ j, js[n]? = some j ∧ x = .int (j : Nat) := by
            rw [List.getElem?_map] at ex
            cases h : js[n]? with
            | none => rw [h] at ex; cases ex
            | some t => rw [h] at ex; exact ⟨t, rfl, (Option.some.inj ex).symm⟩
          have hj : j < ls.length := hjs.2.2 j (List.mem_of_getElem? ej)
          have gl : (ls.map nS)[j]? = some (nS (ls.getD j [])) := by
            rw [List.getElem?_map, List.getElem?_eq_getElem hj, List.getD_eq_getElem?_getD, List.getElem?_eq_getElem hj]
            rfl
          refine ⟨rfl, yes_ ?_⟩
          refine ⟨.ref ln, rfl, .int (j : Nat), rfl, ln, _, (j : Nat), nS (ls.getD j []), rfl, rfl, SqL.of (s5 _ _ (k4 _ _ nlp e3l)), atI_nat gl, _, eM, ?_, same_set s5 nM, ?_⟩
          · rw [List.length_map, List.length_map, List.length_take]
            exact small5000 (by omega)
          · rw [upd_same, List.take_add_one, ej, List.map_append, List.map_append]
            rfl
        obtain ⟨s5, eM⟩ := pv
        rw [List.length_map, List.take_length] at eM
        refine ⟨M, _, rfl, .inl ⟨SqL.of eM, fun jt njt => ⟨two_sz, fun t' nt' => ?_⟩⟩⟩
        have s6 := s5.trans ((same_upd (o := .tup ((js.map fun j => ls.getD j []).map nS)) njt).trans (same_upd (o := .tup [nS z, .ref jt]) nt'))
        have et' : (upd (upd H5 jt (.tup ((js.map fun j => ls.getD j []).map nS))) t' (.tup [nS z, .ref jt])) t' = some (.tup [nS z, .ref jt]) := upd_same
        have ejt : (upd (upd H5 jt (.tup ((js.map fun j => ls.getD j []).map nS))) t' (.tup [nS z, .ref jt])) jt = some (.tup ((js.map fun j => ls.getD j []).map nS)) := same_upd nt' _ _ upd_same
        generalize upd (upd H5 jt (.tup ((js.map fun j => ls.getD j []).map nS))) t' (.tup [nS z, .ref jt]) = H6 at s6 et' ejt ⊢
        have eJ6 := s6 _ _ (k4 _ _ nJp eJ)
        refine ⟨J, _, d, .ref t', rfl, rfl, eJ6, by rw [List.length_map]; exact small5000 (by omega), d0, by omega, ?_⟩
        have tk6 : TK H6 (upd H6 J (.lst ((ja.map V.ref).take d.toNat ++ [.ref t'] ++ (ja.map V.ref).drop d.toNat))) := .upd fun xs e => by rw [eJ6] at e; cases e
        have tk : TK H3 (upd H6 J (.lst ((ja.map V.ref).take d.toNat ++ [.ref t'] ++ (ja.map V.ref).drop d.toNat))) := (TK.keep k4 b3).trans ((TK.of s6).trans tk6)
        refine ⟨_, _, sa, ja.take d.toNat ++ [t'] ++ ja.drop d.toNat, sts, jns.take d.toNat ++ [(z, js.map fun j => ls.getD j [])] ++ jns.drop d.toNat, rfl, (k3.trans (k4.trans (.of s6))).set nJ0, (b4.keep s6).at (upd_ne nJp.symm), ?_, by rw [upd_same, ins_map], ?_, paired_imp hS fun x _ y e => tk _ _ e, ?_, by omega, ?_, ?_, ?_⟩
        · rw [upd_ne nSJ]
          exact s6 _ _ (k4 _ _ nSp eS)
        · rw [upd_ne nJR.symm]
          exact s6 _ _ (k4 _ _ nRp eR)
        · exact paired_ins _ (paired_imp hJ (fun x _ y ⟨z, f1, f2⟩ => ⟨z, tk _ _ f1, tk _ _ f2⟩)) ⟨jt, tk6 _ _ et', tk6 _ _ ejt⟩
        · simp only [List.length_append, List.length_take, List.length_drop, List.length_cons, List.length_nil]
          omega
        · rw [tk1, List.filterMap_append]
          show sts.Perm (_ ++ (([(z, js)] : List (Nm × List Nat)).filterMap (stOf ls)))
          rw [show ([(z, js)] : List (Nm × List Nat)).filterMap (stOf ls) = [] by
            rw [List.filterMap_cons]
            unfold stOf
            rw [if_neg c]
            rfl, List.append_nil]
          exact pS
        · rw [tk1, List.filterMap_append]
          rw [show ([(z, js)] : List (Nm × List Nat)).filterMap (jnOf ls) = [(z, js.map fun j => ls.getD j [])] by
            rw [List.filterMap_cons]
            unfold jnOf
            rw [if_neg c]
            rfl]
          exact (perm_ins _ _ _).trans (pJ.append_right _)
    · obtain ⟨y7, y8, sa, ja, sts, jns, rfl, k3, b3, eS, eJ, eR, hS, hJ, lS, lJ, pS, pJ⟩ := hp
      rw [lts, List.take_length] at pS pJ
      obtain ⟨kvs, etd, knd, hkt⟩ := htd
      have ntp : td ≠ p := fun z => by
        obtain ⟨g, r, e, _⟩ := b
        rw [z, e] at etd
        cases etd
      have etd3 := k3 _ _ ntp etd
      refine ⟨td, .dT kvs, etd3, trivial, fun od => ?_⟩
      have tkl : TK H3 (upd H3 td (.frz od (.dT kvs))) := .upd fun xs e => by rw [etd3] at e; cases e
      have nStd : S ≠ td := fun z => by rw [← z, nS'] at etd; cases etd
      have nJtd : J ≠ td := fun z => by rw [← z, nJ0] at etd; cases etd
      have nRtd : R ≠ td := fun z => by rw [← z, nR0] at etd; cases etd
      refine ⟨.ref td, rfl, td, od, rfl, .inr ⟨kvs, upd_same, ?_⟩⟩
      refine for_it (walk_keysT (kvs := kvs)) (fun i σ H5 => ∃ (y9 y10 y11 : Option V) (ra : List Addr) (rws : List Ti), σ = [some (.ref p), some (.ref ln), some (.ref pl), some (.ref td), some (.ref S), some (.ref J), some (.ref R), y7, y8, y9, y10, y11, none] ∧ Keep p (upd H td (.frz od (.dT kvs))) H5 ∧ Bag H5 p ∧ H5 td = some (.frz od (.dT kvs)) ∧ H5 S = some (.lst (sa.map V.ref)) ∧ H5 J = some (.lst (ja.map V.ref)) ∧ TK H3 H5 ∧ H5 R = some (.lst (ra.map V.ref)) ∧ Paired (TiAt H5) ra rws ∧ ra.length ≤ i ∧ rws.Perm (tis.take i))
        ⟨none, none, none, [], [], rfl, fun c o nc ec => ?_, b3.at (upd_ne ntp.symm), upd_same, by rw [upd_ne nStd]; exact eS, by rw [upd_ne nJtd]; exact eJ, tkl, by rw [upd_ne nRtd]; exact eR, .nil, Nat.le_refl _, by rw [List.take_zero]⟩ (fun i σ H5 _ hp => ?_) (fun i x σ H5₀ H5 hi hp y => ?_) (fun σ H5 hp => ?_)
      · by_cases z : c = td
        · rw [z, upd_same] at ec ⊢
          exact ec
        · rw [upd_ne z] at ec ⊢
          exact k3 _ _ nc ec
      · obtain ⟨y9, y10, y11, ra, rws, rfl, k5, b5, etd5, _⟩ := hp
        exact etd5
      · obtain ⟨rfl, kk, v, u, ekv, rfl, eu⟩ := y
        obtain ⟨y9, y10, y11, ra, rws, rfl, k5, b5, etd5, eS5, eJ5, tk5, eR5, hR, lR, pR⟩ := hp
        obtain ⟨ti, eti, ekk, v0, ev, ev0⟩ := paired_get hkt ekv
        dsimp only at ekk ev
        subst ekk
        subst ev
        have ev3 := (TK.keep k3 b) _ _ ev0
        refine ⟨u, _, rfl, SqT.of eu, rfl, _, _, rfl, _, [], rfl, rfl, ?_⟩
        refine ⟨nS ti.a, rfl, nS ti.b, rfl, two_sz, fun u1 n1 => ?_⟩
        refine ⟨.ref td, rfl, nS ti.a, rfl, nS ti.b, rfl, two_sz, fun u2 n2 => ?_⟩
        refine ⟨td, .ref v0, rfl, .inr ⟨kvs, [Sum.inr (SX.S ti.a), Sum.inr (SX.S ti.b)], u2, .inr ⟨od, same_upd n2 _ _ (same_upd n1 _ _ etd5)⟩, rfl, upd_same, (val_at knd ekv).symm⟩, ?_⟩
        refine ⟨u1, v0, [nS ti.a, nS ti.b], [nS ti.ln, .int ti.ch], rfl, rfl, SqT.of (same_upd n2 _ _ upd_same), SqT.of (same_upd n2 _ _ (same_upd n1 _ _ (tk5 _ _ ev3))), by simp, four_sz (x := nS ti.a) (y := nS ti.b) (z := nS ti.ln) (u := .int ti.ch), fun h => (by cases h), fun _ u3 n3 => ?_⟩
        have s6 := (same_upd (o := .tup [nS ti.a, nS ti.b]) n1).trans ((same_upd (o := .tup [nS ti.a, nS ti.b]) n2).trans (same_upd (o := .tup ([nS ti.a, nS ti.b] ++ [nS ti.ln, .int ti.ch])) n3))
        have eu3 : (upd (upd (upd H5 u1 (.tup [nS ti.a, nS ti.b])) u2 (.tup [nS ti.a, nS ti.b])) u3 (.tup ([nS ti.a, nS ti.b] ++ [nS ti.ln, .int ti.ch]))) u3 = some (.tup [nS ti.a, nS ti.b, nS ti.ln, .int ti.ch]) := upd_same
        generalize upd (upd (upd H5 u1 (.tup [nS ti.a, nS ti.b])) u2 (.tup [nS ti.a, nS ti.b])) u3 (.tup ([nS ti.a, nS ti.b] ++ [nS ti.ln, .int ti.ch])) = H6 at s6 eu3 ⊢
        have eR6 := s6 _ _ eR5
        have b6 := b5.keep s6
        have il : i < tis.length := (List.getElem?_eq_some_iff.mp eti).1
        refine ⟨.ref R, rfl, .inl ⟨rfl, _, SqL.of eR6⟩, .ref p, rfl, .ref R, rfl, R, ra.map V.ref, rfl, .inl (SqL.of eR6), _, 1, rfl, rfl, p, (ra.length : Int) + 1, by dsimp only; rw [List.length_map]; rfl, b6, by omega, by omega, fun H7 d k7 b7 d0 d1 => ?_⟩
        have eR7 := k7 _ _ nRp eR6
        refine ⟨.ref u3, rfl, R, _, d, .ref u3, rfl, rfl, eR7, by rw [List.length_map]; exact small5000 (by omega), d0, by omega, ?_⟩
        have tk7 : TK H6 (upd H7 R (.lst ((ra.map V.ref).take d.toNat ++ [.ref u3] ++ (ra.map V.ref).drop d.toNat))) := (TK.keep k7 b6).trans (.upd fun xs e => by rw [eR7] at e; cases e)
        have nRf : (upd H td (.frz od (.dT kvs))) R = none := by rw [upd_ne nRtd]; exact nR0
        refine ⟨_, _, _, ra.take d.toNat ++ [u3] ++ ra.drop d.toNat, rws.take d.toNat ++ [ti] ++ rws.drop d.toNat, rfl, (k5.trans ((Keep.of s6).trans k7)).set nRf, b7.at (upd_ne nRp.symm), ?_, ?_, ?_, tk5.trans ((TK.of s6).trans tk7), by rw [upd_same, ins_map], paired_ins _ (paired_imp hR fun x _ y e => tk7 _ _ (s6 _ _ e)) (tk7 _ _ eu3), ?_, ?_⟩
        · rw [upd_ne nRtd.symm]
          exact k7 _ _ ntp (s6 _ _ etd5)
        · rw [upd_ne nSR]
          exact k7 _ _ nSp (s6 _ _ eS5)
        · rw [upd_ne nJR]
          exact k7 _ _ nJp (s6 _ _ eJ5)
        · simp only [List.length_append, List.length_take, List.length_drop, List.length_cons, List.length_nil]
          omega
        · rw [List.take_add_one, eti]
          exact (perm_ins _ _ _).trans (pR.append_right _)
      · obtain ⟨y9, y10, y11, ra, rws, rfl, k5, b5, etd5, eS5, eJ5, tk5, eR5, hR, lR, pR⟩ := hp
        rw [paired_len hkt, List.take_length] at pR
        refine ⟨etd5, ?_⟩
        have kf : Keep p H (upd H5 td (.dT kvs)) := fun c o nc ec => by
          by_cases z : c = td
          · rw [z] at ec ⊢
            rw [upd_same, ← etd]
            exact ec
          · rw [upd_ne z]
            exact k5 _ _ nc (by rw [upd_ne z]; exact ec)
        have bf : Bag (upd H5 td (.dT kvs)) p := b5.at (upd_ne ntp.symm)
        have tkf : TK H5 (upd H5 td (.dT kvs)) := .upd fun xs e => by rw [etd5] at e; cases e
        have eSf : (upd H5 td (.dT kvs)) S = some (.lst (sa.map V.ref)) := by rw [upd_ne nStd]; exact eS5
        have eJf : (upd H5 td (.dT kvs)) J = some (.lst (ja.map V.ref)) := by rw [upd_ne nJtd]; exact eJ5
        have eRf : (upd H5 td (.dT kvs)) R = some (.lst (ra.map V.ref)) := by rw [upd_ne nRtd]; exact eR5
        generalize upd H5 td (.dT kvs) = Hf at kf bf tkf eSf eJf eRf ⊢
        have elf := kf _ _ nlp eln
        refine ⟨.ref ln, rfl, ln, _, rfl, .inl ⟨SqL.of elf, fun a na => ?_⟩⟩
        refine ⟨.ref S, rfl, S, _, rfl, .inl ⟨SqL.of (same_upd na _ _ eSf), fun b' nb => ?_⟩⟩
        refine ⟨.ref J, rfl, J, _, rfl, .inl ⟨SqL.of (same_upd nb _ _ (same_upd na _ _ eJf)), fun c nc => ?_⟩⟩
        refine ⟨.ref R, rfl, R, _, rfl, .inl ⟨SqL.of (same_upd nc _ _ (same_upd nb _ _ (same_upd na _ _ eRf))), fun d nd => ?_⟩⟩
        refine ⟨four_sz, fun r nr => ?_⟩
        have sa' := same_upd (o := .tup (ls.map nS)) na
        have sb' := same_upd (o := .tup (sa.map V.ref)) nb
        have sc' := same_upd (o := .tup (ja.map V.ref)) nc
        have sd' := same_upd (o := .tup (ra.map V.ref)) nd
        have sr' := same_upd (o := .tup [.ref a, .ref b', .ref c, .ref d]) nr
        have sf := sa'.trans (sb'.trans (sc'.trans (sd'.trans sr')))
        have tkr : TK H5 _ := tkf.trans (.of sf)
        have nrf : Hf r = none := sa'.free (sb'.free (sc'.free (sd'.free nr)))
        refine q _ r sts jns rws (kf.trans (.of sf)) (bf.keep sf) ⟨a, b', c, d, sa, ja, ra, upd_same, sr' _ _ (sd' _ _ (sc' _ _ (sb' _ _ upd_same))), sr' _ _ (sd' _ _ (sc' _ _ upd_same)), paired_imp hS fun x _ y e => tkr _ _ (tk5 _ _ e), sr' _ _ (sd' _ _ upd_same), paired_imp hJ (fun x _ y ⟨z, f1, f2⟩ => ⟨z, tkr _ _ (tk5 _ _ f1), tkr _ _ (tk5 _ _ f2)⟩), sr' _ _ upd_same, paired_imp hR fun x _ y e => tkr _ _ e⟩ pS pJ pR (kf.free b nrf bf)
end
end Th
namespace Th
open PySem PySem.Spec PyProof.Rows L2
/-! the drawn net -/
def TieOk (zs : List Nm) (qs : List (List Nat)) (ls : List Nm) (t : Ti) : Prop := ∃ (i j x : Nat) (a b : List Nat), i ≠ j ∧ zs[i]? = some t.a ∧ zs[j]? = some t.b ∧ qs[i]? = some a ∧ qs[j]? = some b ∧ x ∈ a ∧ x ∈ b ∧ ls[x]? = some t.ln ∧ 1 ≤ t.ch ∧ t.ch ≤ 9999
def Apart (s t : Ti) : Prop := ¬ (s.a = t.a ∧ s.b = t.b) ∧ ¬ (s.a = t.b ∧ s.b = t.a)
structure NetOk (ls zs : List Nm) (qs : List (List Nat)) (J : Nat) (tis : List Ti) : Prop where
  l1 : 1 ≤ ls.length
  l8 : ls.length ≤ 8
  lnd : ls.Nodup
  lnm : ∀ z ∈ ls, IsNm z
  q : PlQ ls.length J qs
  lz : zs.length = qs.length
  znd : zs.Nodup
  znm : ∀ z ∈ zs, IsNm z
  ok : ∀ t ∈ tis, TieOk zs qs ls t
  ap : tis.Pairwise Apart
  way : ∀ i, i < J + 1 → ∃ t ∈ tis, zs[i]? = some t.a ∧ zs[i + 1]? = some t.b
  t40 : tis.length ≤ 40
theorem nms_of {ls : List Nm} (h : ∀ k l, ls[k]? = some l → NmAt k l) : ∀ z ∈ ls, IsNm z := fun z hz => by
  obtain ⟨k, hk⟩ := List.getElem?_of_mem hz
  exact (h k z hk).nm
theorem PlAt.at {p : Addr} {H : Hp} {l : Addr} {ts as : List Addr} {zs qs : List (List Nat)} (h : PlAt p H l ts zs as qs) {i : Nat} (hi : i < qs.length) :
    ∃ t z a js, ts[i]? = some t ∧ zs[i]? = some z ∧ as[i]? = some a ∧ qs[i]? = some js ∧ H t = some (.tup [nS z, .ref a]) ∧ H a = some (.lst (jV js)) ∧ t ≠ p ∧ a ≠ p := by
  have et : ts[i]? = some (ts[i]'(by rw [h.lt]; exact hi)) := List.getElem?_eq_getElem _
  obtain ⟨pr, epr, etup⟩ := paired_get h.tup et
  rw [List.getElem?_zip_eq_some, List.getElem?_map, List.getElem?_map] at epr
  obtain ⟨z, ez, ez1⟩ : ∃ z, zs[i]? = some z ∧ pr.1 = nS z := by
    cases h : zs[i]? with
    | none => rw [h] at epr; cases epr.1
    | some z => rw [h] at epr; exact ⟨z, rfl, (Option.some.inj epr.1).symm⟩
  obtain ⟨a, ea, ea1⟩ : ∃ a, as[i]? = some a ∧ pr.2 = .ref a := by
    cases h : as[i]? with
    | none => rw [h] at epr; cases epr.2
    | some z => rw [h] at epr; exact ⟨z, rfl, (Option.some.inj epr.2).symm⟩
  rw [ez1, ea1] at etup
  obtain ⟨js, ejs, eas⟩ := paired_get h.ll ea
  exact ⟨_, z, a, js, et, ez, ea, ejs, etup, eas, h.np.2.1 _ (List.mem_of_getElem? et), h.np.2.2 a (List.mem_of_getElem? ea)⟩
theorem PlQ.each {n J : Nat} {qs : List (List Nat)} (h : PlQ n J qs) (n8 : n ≤ 8) : ∀ js ∈ qs, 1 ≤ js.length ∧ js.length ≤ 8 ∧ ∀ j ∈ js, j < n := by
  obtain ⟨f, l, ss, tw, rfl, h1, h2, hf, hl, htw, _, _⟩ := h.form
  have one : ∀ x, x < n → 1 ≤ [x].length ∧ [x].length ≤ 8 ∧ ∀ j ∈ [x], j < n := fun x hx => ⟨by simp, by simp, fun j hj => by rw [List.mem_singleton.mp hj]; exact hx⟩
  intro js hj
  rcases List.mem_append.mp hj with z | z
  · rcases List.mem_append.mp z with z | z
    · rcases List.mem_cons.mp z with z | z
      · rw [z]
        exact one f hf
      · have s := h2 js z
        exact ⟨by have := s.two; omega, s.len8 n8, s.lt⟩
    · rw [List.mem_singleton.mp z]
      exact one l hl
  · obtain ⟨x, hx, rfl⟩ := List.mem_map.mp z
    exact one x (htw x hx)
theorem PlQ.count {n J : Nat} {qs : List (List Nat)} (h : PlQ n J qs) : qs.countP (fun js => decide (1 < js.length)) = J := by
  obtain ⟨f, l, ss, tw, rfl, h1, h2, _⟩ := h.form
  have e1 : ss.countP (fun js => decide (1 < js.length)) = ss.length := List.countP_eq_length.mpr fun js hj => decide_eq_true (by have := (h2 js hj).two; omega)
  have e2 : (tw.map fun x => [x]).countP (fun js : List Nat => decide (1 < js.length)) = 0 := List.countP_eq_zero.mpr fun js hj => by
    obtain ⟨x, _, rfl⟩ := List.mem_map.mp hj
    simp
  rw [List.countP_append, List.countP_append, List.countP_cons, e1, e2, List.countP_singleton, h1]
  simp
theorem tid_none {H : Hp} {kvs : List (List Key × V)} {tis : List Ti} (h : Paired (fun kv (t : Ti) => kv.1 = [Sum.inr (SX.S t.a), Sum.inr (SX.S t.b)] ∧ ∃ v, kv.2 = .ref v ∧ H v = some (.tup [nS t.ln, .int t.ch])) kvs tis) (a b : Nm) :
    valV kvs [Sum.inr (SX.S a), Sum.inr (SX.S b)] = none ↔ ∀ t ∈ tis, ¬ (t.a = a ∧ t.b = b) := by
  induction h with
  | nil => exact ⟨fun _ t ht => (by cases ht), fun _ => rfl⟩
  | @cons kv t kvs tis hk _ ih =>
    by_cases e : t.a = a ∧ t.b = b
    · rw [valV_pos (by rw [hk.1, e.1, e.2])]
      exact ⟨fun z => (by cases z), fun z => absurd e (z t (List.mem_cons_self ..))⟩
    · rw [valV_neg (fun z => e (by
        rw [hk.1] at z
        simp only [List.cons.injEq, Sum.inr.injEq, and_true] at z
        exact ⟨SX.S_inj z.1, SX.S_inj z.2⟩)), ih]
      exact ⟨fun z x hx => (List.mem_cons.mp hx).elim (fun q => by rw [q]; exact e) (z x), fun z x hx => z x (List.mem_cons_of_mem _ hx)⟩
theorem key_none {kvs : List (List Key × V)} {k : List Key} (h : valV kvs k = none) : k ∉ kvs.map (·.1) := fun z => by
  obtain ⟨kv, h1, h2⟩ := List.mem_map.mp z
  have := valV_any k kvs
  rw [h] at this
  have h3 : (kvs.any fun kv => decide (kv.1 = k)) = true := List.any_eq_true.mpr ⟨kv, h1, decide_eq_true h2⟩
  rw [h3] at this
  cases this
theorem jV_app (a b : List Nat) : jV (a ++ b) = jV a ++ jV b := List.map_append
theorem nodup_inj {α : Type} {zs : List α} (h : zs.Nodup) {x y : Nat} {z : α} (h1 : zs[x]? = some z) (h2 : zs[y]? = some z) : x = y := by
  rw [List.nodup_iff_pairwise_ne, List.pairwise_iff_getElem] at h
  obtain ⟨l1, g1⟩ := List.getElem?_eq_some_iff.mp h1
  obtain ⟨l2, g2⟩ := List.getElem?_eq_some_iff.mp h2
  rcases Nat.lt_trichotomy x y with c | c | c
  · exact absurd (g1.trans g2.symm) (h x y l1 l2 c)
  · exact c
  · exact absurd (g2.trans g1.symm) (h y x l2 l1 c)
theorem TiD.keep {p td : Addr} {H H' : Hp} {tis : List Ti} (h : TiD H td tis) (k : Keep p H H') (b : Bag H p) : TiD H' td tis := by
  obtain ⟨kvs, e, nd, hp⟩ := h
  have n : td ≠ p := fun z => by
    obtain ⟨g, r, e', _⟩ := b
    rw [z, e'] at e
    cases e
  exact ⟨kvs, k _ _ n e, nd, paired_imp hp fun kv _ t ⟨h1, v, h2, h3⟩ => ⟨h1, v, h2, (TK.keep k b) _ _ h3⟩⟩
theorem Chained.at : ∀ {l : List (List Nat)} {i : Nat} {a b : List Nat}, Chained l → l[i]? = some a → l[i + 1]? = some b → ∃ x, x ∈ a ∧ x ∈ b
  | [], _, _, _, _, h, _ => by simp at h
  | [_], 0, _, _, _, _, h => by simp at h
  | [_], i + 1, _, _, _, h, _ => by simp at h
  | c :: d :: r, 0, a, b, hc, h1, h2 => by
    have e1 := Option.some.inj h1
    have e2 := Option.some.inj h2
    subst e1
    subst e2
    exact hc.1
  | c :: d :: r, i + 1, a, b, hc, h1, h2 => Chained.at (l := d :: r) (i := i) hc.2 h1 h2
theorem PlQ.chain {n J : Nat} {qs : List (List Nat)} (h : PlQ n J qs) {i : Nat} (hi : i < J + 1) {a b : List Nat} (e1 : qs[i]? = some a) (e2 : qs[i + 1]? = some b) : ∃ x, x ∈ a ∧ x ∈ b := by
  obtain ⟨f, l, ss, tw, rfl, h1, _, _, _, _, hc, _⟩ := h.form
  have hl : (([f] :: ss) ++ [[l]]).length = J + 2 := by simp [h1]
  rw [List.getElem?_append_left (by omega)] at e1 e2
  exact Chained.at hc e1 e2
abbrev jI (js : List Nat) : List Int := js.map fun j => ((j : Nat) : Int)
theorem jV_ints (js : List Nat) : jV js = (jI js).map V.int := by rw [List.map_map]; rfl
/-- a place as data -/
abbrev plD (z : Nm) (js : List Nat) : PyData := .tuple [.str (SX.S z), dI (jI js)]
theorem dt_pl {H : Hp} {t a : Addr} {z : Nm} {js : List Nat} (e : H t = some (.tup [nS z, .ref a])) (ea : H a = some (.lst (jV js))) (h : js.length ≤ 5000) : Dt SA H (.ref t) (plD z js) :=
  .tup trivial e (by show 2 ≤ 5000; decide) (.cons (.str _) (.cons (dt_ints (by rw [ea, jV_ints]) (by rw [List.length_map]; exact h)) .nil))
theorem nm_ok {z : Nm} (h : IsNm z) : PyData.strOk (SX.S z) = true := by
  unfold PyData.strOk
  rw [Array.all_eq_true']
  intro c hc
  have hc : c ∈ z := by simpa [SX.S] using hc
  have := h.2.2 c hc
  exact decide_eq_true (by omega)
theorem lay_pl {z : Nm} (hz : IsNm z) (js : List Nat) : (plD z js).canLay0 = true := by
  show (PyData.strOk (SX.S z) && (PyData.canLay0 (dI (jI js)) && true)) = true
  rw [lay_ints, nm_ok hz]
  rfl
theorem shaped_pl {z : Nm} (hz : IsNm z) (js : List Nat) : SeqAt.shaped (plD z js) = true := Bool.and_eq_true_iff.mpr ⟨lay_pl hz js, decide_eq_true (by
  show max 0 (max (PyData.depth (dI (jI js))) 0) + 1 ≤ _
  rw [depth_ints]
  decide)⟩
theorem eqv_pl {z z' : Nm} {js js' : List Nat} (h : PyData.eqv (plD z js) (plD z' js') = true) : z = z' := by
  have h : (PyData.eqv (.str (SX.S z)) (.str (SX.S z')) && (PyData.eqv (dI (jI js)) (dI (jI js')) && true)) = true := h
  exact SX.S_inj (eq_of_beq (Bool.and_eq_true_iff.mp h).1)
theorem in_ints {x : Nat} {js : List Nat} : inV (.int (x : Nat)) (jV js) = decide (x ∈ js) := by
  unfold inV
  rw [List.any_map]
  by_cases h : x ∈ js
  · rw [decide_eq_true h]
    exact List.any_eq_true.mpr ⟨x, h, by show ((x : Int) == (x : Int)) = true; simp⟩
  · rw [decide_eq_false h]
    refine List.any_eq_false.mpr fun y hy z => h ?_
    have z : (((y : Nat) : Int) == ((x : Nat) : Int)) = true := z
    have := eq_of_beq z
    rw [show x = y by omega]
    exact hy
theorem flat_ints (js : List Nat) : (jV js).all flatV = true := List.all_eq_true.mpr fun x hx => by
  obtain ⟨j, _, rfl⟩ := List.mem_map.mp hx
  rfl
section
variable {P : Program} {w : World} {K : PySem.W.Frag} {mg : Str → Option Value} {base : Heap} {k : Nat}
def sp_l_net : Sp := fun vs H Q _ => ∃ p, vs = [.ref p] ∧ Bag H p ∧ ∀ (H' : Hp) (r nt wy : Addr) (ls zs : List Nm) (qs : List (List Nat)) (J : Nat) (tis : List Ti) (sts : List (Nm × Nm)) (jns : List (Nm × List Nm)) (rws : List Ti), Keep p H H' → Bag H' p → H' r = some (.tup [.ref nt, .ref wy]) →
  NetAt H' nt ls sts jns rws → H' wy = some (.tup ((zs.take (J + 2)).map nS)) → NetOk ls zs qs J tis → sts.Perm ((zs.zip qs).filterMap (stOf ls)) → jns.Perm ((zs.zip qs).filterMap (jnOf ls)) → rws.Perm tis → Q (.ref r) H'
set_option maxHeartbeats 8000000 in
theorem ok_l_net (T : Defs K mg) : FnOk P w K mg base CX0 (k + 4) T.a_l_net T.d_l_net ["_law_bag_here"] sp_l_net := by
  have G_l_take : FnOk P w K mg base CX0 (k + 3) _ _ _ _ := ok_l_take (k := k + 2) T
  have G_l_names : FnOk P w K mg base CX0 (k + 3) _ _ _ _ := ok_l_names (k := k + 1) T
  have G_l_places : FnOk P w K mg base CX0 (k + 3) _ _ _ _ := ok_l_places T
  have G_l_laid : FnOk P w K mg base CX0 (k + 3) _ _ _ _ := ok_l_laid (k := k + 1) T
  refine T.F_l_net.ok sc_l_net (fun vs H Q E h => ?_) (fun cdv A outer s H vs Q E hr h => ?_)
  · obtain ⟨p, rfl, _⟩ := h
    rfl
  · obtain ⟨p, rfl, b, q⟩ := h
    refine ⟨_, PSs.nox
(pss_cons (ps_set (i := 1) sc_l_net.nd rfl (.inl rfl) (pe_ix (r := rIxT K) ix_tup (pe_tup (pa_cons (pe_int) (pa_cons (pe_int) (pa_cons (pe_int) (pa_cons (pe_int) (pa_cons (pe_int) (pa_cons (pe_int) (pa_cons (pe_int) (pa_cons (pe_int) pa_nil))))))))) (pe_call G_l_take hr (by rfl) T.g_l_take T.F_l_take.kp T.b_l_take .nil pass0 (pa_cons (pv 0) (pa_cons (pe_int) pa_nil))) (fun _ _ => rfl)))
    (pss_cons (ps_set (i := 2) sc_l_net.nd rfl (.inl rfl) (pe_call G_l_names hr (by rfl) T.g_l_names T.F_l_names.kp T.b_l_names .nil pass0 (pa_cons (pv 0) (pa_cons (pv 1) pa_nil))))
    (pss_cons (ps_set (i := 3) sc_l_net.nd rfl (.inl rfl) (pe_call G_l_places hr (by rfl) T.g_l_places T.F_l_places.kp T.b_l_places .nil pass0 (pa_cons (pv 0) (pa_cons (pv 1) pa_nil))))
    (Evl.pss_cut (ps_if (pt_cmpR op_eq (pe_call G_l_take hr (by rfl) T.g_l_take T.F_l_take.kp T.b_l_take .nil pass0 (pa_cons (pv 0) (pa_cons (pe_int) pa_nil))) (pe_int) (nomark _))
      (pss_one (ps_asg (pe_ix (r := rIxT K) ix_tup (pe_ix (r := rIxL K) ix_list (pv 3) (pe_int) (fun _ _ => rfl)) (pe_int) (fun _ _ => rfl)) (pg_sub (pv 2) (pe_int) set_list)))
      pss_nil)
    (pss_cons (ps_set (i := 4) sc_l_net.nd rfl (.inl rfl) (pe_op op_add (pe_int) (pe_callB (r := rLenS K) call_lenS (by rfl) T.z_len (by decide +kernel) (pa_cons (pe_lc (own := [("_law_one", 7)]) (g := gName 7) rfl sc_l_net.nd (pi_list (pv 3)) (blkOk_by (N := N_l_net) (sc := defScope s_l_net) (by decide +kernel)) (fun _ _ _ _ _ => (pg_name (i := 7) sc_l_net.nd rfl (.inl rfl))) (fun _ _ _ _ _ => pts_one (pt_cmpR op_gt (pe_callB (r := rLenS K) call_lenS (by rfl) T.z_len (by decide +kernel) (pa_cons (pe_ix (r := rIxT K) ix_tup (pv 7) (pe_int) (fun _ _ => rfl)) pa_nil)) (pe_int) (nomark _))) (fun _ _ _ _ _ => (pv 7))) pa_nil))))
    (pss_cons (ps_set (i := 5) sc_l_net.nd rfl (.inl rfl) (pe_dnewT))
    (pss_cons (ps_for PassesOwn.never rfl (pi_range1 (by rfl) T.z_range (pa_cons (pe_op op_add (pe_op op_sub (pv 4) (pe_int)) (pe_call G_l_take hr (by rfl) T.g_l_take T.F_l_take.kp T.b_l_take .nil pass0 (pa_cons (pv 0) (pa_cons (pe_int) pa_nil)))) pa_nil)) (pg_name (i := 6) sc_l_net.nd rfl (.inl rfl))
      (pss_cons (ps_set (i := 7) sc_l_net.nd rfl (.inl rfl) (pe_ix (r := rIxL K) ix_list (pv 3) (pe_op op_mod (pv 6) (pe_callB (r := rLenS K) call_lenS (by rfl) T.z_len (by decide +kernel) (pa_cons (pv 3) pa_nil))) (fun _ _ => rfl)))
      (pss_cons (ps_set (i := 8) sc_l_net.nd rfl (.inr rfl) (pe_ix (r := rIxL K) ix_list (pv 3) (pe_op op_mod (pe_op op_add (pv 6) (pe_int)) (pe_callB (r := rLenS K) call_lenS (by rfl) T.z_len (by decide +kernel) (pa_cons (pv 3) pa_nil))) (fun _ _ => rfl)))
      (Evl.pss_cut (ps_if (pt_cmpR op_ge (pv 6) (pe_op op_sub (pv 4) (pe_int)) (nomark _))
        (pss_cons (ps_set (i := 7) sc_l_net.nd rfl (.inl rfl) (pe_ix (r := rIxL K) ix_list (pv 3) (pe_call G_l_take hr (by rfl) T.g_l_take T.F_l_take.kp T.b_l_take .nil pass0 (pa_cons (pv 0) (pa_cons (pe_callB (r := rLenS K) call_lenS (by rfl) T.z_len (by decide +kernel) (pa_cons (pv 3) pa_nil)) pa_nil))) (fun _ _ => rfl)))
        (pss_one (ps_set (i := 8) sc_l_net.nd rfl (.inr rfl) (pe_ix (r := rIxL K) ix_list (pv 3) (pe_call G_l_take hr (by rfl) T.g_l_take T.F_l_take.kp T.b_l_take .nil pass0 (pa_cons (pv 0) (pa_cons (pe_callB (r := rLenS K) call_lenS (by rfl) T.z_len (by decide +kernel) (pa_cons (pv 3) pa_nil)) pa_nil))) (fun _ _ => rfl)))))
        pss_nil)
      (pss_cons (ps_setLc (i := 9) (own := [("_law_line", 12)]) (g := gName 12) rfl sc_l_net.nd rfl rfl (sw_true rfl rfl rfl (by decide +kernel)) (pi_list (pe_ix (r := rIxT K) ix_tup (pv 7) (pe_int) (fun _ _ => rfl))) (blkOk_by (N := N_l_net) (sc := defScope s_l_net) (by decide +kernel)) (fun _ _ _ _ _ => (pg_name (i := 12) sc_l_net.nd rfl (.inl rfl))) (fun _ _ _ _ _ => pts_one (pt_cmpR (r := rIn K false) op_in_seq (pv 12) (pe_ix (r := rIxT K) ix_tup (pv 8) (pe_int) (fun _ _ => rfl)) (by rfl))) (fun _ _ _ _ _ => (pv 12)))
      (pss_cons (ps_set (i := 10) sc_l_net.nd rfl (.inl rfl) (pe_op op_add (pe_int) (pe_call G_l_take hr (by rfl) T.g_l_take T.F_l_take.kp T.b_l_take .nil pass0 (pa_cons (pv 0) (pa_cons (pe_ix (r := rIxT K) ix_tup (pe_tup (pa_cons (pe_int) (pa_cons (pe_int) (pa_cons (pe_int) pa_nil)))) (pe_call G_l_take hr (by rfl) T.g_l_take T.F_l_take.kp T.b_l_take .nil pass0 (pa_cons (pv 0) (pa_cons (pe_int) pa_nil))) (fun _ _ => rfl)) pa_nil)))))
      (Evl.pss_cut (ps_set (i := 11) sc_l_net.nd rfl (.inl rfl) (pe_or (pe_cmp (pc_din (hu_of hr) (pe_tup (pa_cons (pe_ix (r := rIxT K) ix_tup (pv 7) (pe_int) (fun _ _ => rfl)) (pa_cons (pe_ix (r := rIxT K) ix_tup (pv 8) (pe_int) (fun _ _ => rfl)) pa_nil))) (pv 5))) (pe_one (pe_cmp (pc_din (hu_of hr) (pe_tup (pa_cons (pe_ix (r := rIxT K) ix_tup (pv 8) (pe_int) (fun _ _ => rfl)) (pa_cons (pe_ix (r := rIxT K) ix_tup (pv 7) (pe_int) (fun _ _ => rfl)) pa_nil))) (pv 5))))))
      (pss_one (ps_if (PW.pt (pw_and (pt_cmpR (r := rNeD K) (op_neD hr.units) (pv 7) (pv 8) (nomark _)) (pw_and (pt_cmpR (r := rNeD K) (op_neD hr.units) (pv 9) (pe_lst pa_nil) (nomark _)) (pw_and1 (pt_not (pt_val (pv 11)))))))
        (pss_one (ps_dput (hu_of hr) (pv 5) (pe_tup (pa_cons (pe_ix (r := rIxT K) ix_tup (pv 7) (pe_int) (fun _ _ => rfl)) (pa_cons (pe_ix (r := rIxT K) ix_tup (pv 8) (pe_int) (fun _ _ => rfl)) pa_nil))) (pe_tup (pa_cons (pe_ix (r := rIxL K) ix_list (pv 2) (pe_ix (r := rIxL K) ix_list (pv 9) (pe_call G_l_take hr (by rfl) T.g_l_take T.F_l_take.kp T.b_l_take .nil pass0 (pa_cons (pv 0) (pa_cons (pe_callB (r := rLenS K) call_lenS (by rfl) T.z_len (by decide +kernel) (pa_cons (pv 9) pa_nil)) pa_nil))) (fun _ _ => rfl)) (fun _ _ => rfl)) (pa_cons (pv 10) pa_nil))) (by rfl)))
        pss_nil)))))))))
    (pss_one (ps_ret (pe_tup (pa_cons (pe_call G_l_laid hr (by rfl) T.g_l_laid T.F_l_laid.kp T.b_l_laid .nil pass0 (pa_cons (pv 0) (pa_cons (pv 2) (pa_cons (pv 3) (pa_cons (pv 5) pa_nil))))) (pa_cons (pe_callTy call_tuple_of (by rfl) T.z_tuple (by decide +kernel) (pa_cons (pe_lc (own := [("_law_one", 7)]) (g := gName 7) rfl sc_l_net.nd (pi_list (pe_slice sl_list (pv 3) po_none (po_some (pv 4)))) (blkOk_by (N := N_l_net) (sc := defScope s_l_net) (by decide +kernel)) (fun _ _ _ _ _ => (pg_name (i := 7) sc_l_net.nd rfl (.inl rfl))) (fun _ _ _ _ _ => pts_nil) (fun _ _ _ _ _ => (pe_ix (r := rIxT K) ix_tup (pv 7) (pe_int) (fun _ _ => rfl)))) pa_nil)) pa_nil))))))))))))
      , ?_⟩
    refine ⟨by decide, fun t nt => ?_⟩
    have ntp : t ≠ p := b.ne nt
    refine ⟨.ref p, rfl, p, 8, rfl, b.keep (same_upd nt), by decide, by decide, fun H1 d k1 b1 d0 d1 => ?_⟩
    obtain ⟨m0, hm0, em0⟩ := pick (ms := [3, 8, 2, 5, 1, 4, 6, 7]) d0 d1
    refine ⟨t, _, d, _, rfl, rfl, SqT.of (k1 _ _ ntp upd_same), em0, ?_⟩
    have k1 : Keep p H H1 := (Keep.of (same_upd nt)).trans k1
    obtain ⟨n, rfl, n1, n8⟩ : ∃ n : Nat, m0 = (n : Int) ∧ 1 ≤ n ∧ n ≤ 8 := by
      simp only [List.mem_cons, List.not_mem_nil, or_false] at hm0
      exact ⟨m0.toNat, by omega, by omega, by omega⟩
    -- lines
    refine ⟨.ref p, rfl, .int n, rfl, p, n, rfl, b1, by omega, fun H2 ln ls0 k2 b2 nln eln hl0 _ _ nat0 => ?_⟩
    have nln0 : H ln = none := k1.free b nln b1
    have nlp : ln ≠ p := b1.ne nln
    have k2 := k1.trans k2
    -- places
    refine ⟨.ref p, rfl, .int n, rfl, p, n, rfl, b2, n1, n8, fun H3 pl ts as zs qs J k3 b3 pa pq znd znm znat npl nts nas => ?_⟩
    have eln3 := k3 _ _ nlp eln
    have k3 := k2.trans k3
    have lnpl : ln ≠ pl := ne_of_none eln npl
    have lnts : ∀ a ∈ ts, ln ≠ a := fun a ha => ne_of_none eln (nts a ha)
    have lnas : ∀ a ∈ as, ln ≠ a := fun a ha => ne_of_none eln (nas a ha)
    have hN := pq.len
    -- a line by a place's name
    refine ⟨fun σ H5 => ∃ ls : List Nm, σ = [some (.ref p), some (.int n), some (.ref ln), some (.ref pl), none, none, none, none, none, none, none, none, none] ∧ Keep p H H5 ∧ Bag H5 p ∧ PlAt p H5 pl ts zs as qs ∧ H5 ln = some (.lst (ls.map nS)) ∧ ls.length = n ∧ ∀ k l, ls[k]? = some l → NmAt k l, ?_, fun σ H5 mid => ?_⟩
    · refine ⟨.ref p, rfl, p, 3, rfl, b3, by decide, by decide, fun H4 d4 k4 b4 d40 d41 => ⟨rfl, _, rfl, ite2 (fun c => ?_) (fun c => ?_)⟩⟩
      · obtain ⟨t0, z0, a0, j0, et0, ez0, _, _, e0, _, nt0, _⟩ := (pa.keep k4).at (i := 0) (by omega)
        refine ⟨.ref pl, rfl, pl, ts.map V.ref, 0, .ref t0, rfl, rfl, SqL.of (pa.keep k4).lst, atI_nat (j := 0) (by rw [List.getElem?_map, et0]; rfl), t0, [nS z0, .ref a0], 0, nS z0, rfl, rfl, SqT.of e0, atI_nat (j := 0) rfl, ?_⟩
        refine ⟨.ref ln, rfl, ln, _, 0, 0, rfl, rfl, k4 _ _ nlp eln3, ?_, ?_⟩
        · rw [List.length_map, hl0]
          exact Evl.ixN_nat n1
        have eset : (ls0.map nS).set 0 (nS z0) = (ls0.set 0 z0).map nS := by rw [List.map_set]
        refine ⟨ls0.set 0 z0, rfl, (k3.trans k4).set nln0, b4.at (upd_ne nlp.symm), ?_, by rw [upd_same, eset], by rw [List.length_set, hl0], fun k l hk => ?_⟩
        · have pk := pa.keep k4
          refine ⟨by rw [upd_ne lnpl.symm]; exact pk.lst, paired_imp pk.tup fun a ha x e => by rw [upd_ne (lnts a ha).symm]; exact e, paired_imp pk.ll fun a ha x e => by rw [upd_ne (lnas a ha).symm]; exact e, pk.lz, pk.lt, pk.np⟩
        · rw [List.getElem?_set] at hk
          split at hk
          · rename_i z
            subst z
            split at hk
            · have := Option.some.inj hk
              subst this
              exact znat 0 _ ez0
            · cases hk
          · exact nat0 k l hk
      · exact ⟨ls0, rfl, k3.trans k4, b4, pa.keep k4, k4 _ _ nlp eln3, hl0, nat0⟩
    obtain ⟨ls, rfl, k5, b5, pa5, eln5, hln, lnat⟩ := mid
    -- row
    refine ⟨.ref pl, rfl, pl, rfl, ⟨_, SqL.of pa5.lst⟩, fun D nD => ?_⟩
    have lts : (ts.map V.ref).length = qs.length := by rw [List.length_map, pa5.lt]
    refine lc_it (walk_list (xs := ts.map V.ref)) (fun i H6 => Same H5 H6 ∧ ∃ xs : List V, H6 D = some (.lst xs) ∧ xs.length = (qs.take i).countP (fun js => decide (1 < js.length))) ⟨same_upd nD, [], upd_same, by rw [List.take_zero]; rfl⟩ (fun i H6 _ pv => SqL.of (pv.1 _ _ pa5.lst)) (fun i x H6₀ H6 hi pv y => ?_) (fun H6 pv => ?_)
    · obtain ⟨rfl, ex⟩ := y
      obtain ⟨s6, xs, eD, hxs⟩ := pv
      rw [lts] at hi
      obtain ⟨t1, z1, a1, js, et1, ez1, ea1, ejs, e1, e2, nt1, na1⟩ := pa5.at hi
      have hx : x = .ref t1 := by
        rw [List.getElem?_map, et1] at ex
        exact (Option.some.inj ex).symm
      subst hx
      have hc1 : (qs.take (i + 1)).countP (fun js => decide (1 < js.length)) = (qs.take i).countP (fun js => decide (1 < js.length)) + if 1 < js.length then 1 else 0 := by
        rw [List.take_add_one, ejs, List.countP_append]
        show _ + List.countP _ [js] = _
        rw [List.countP_singleton]
        simp
      refine ⟨rfl, .ref t1, rfl, t1, [nS z1, .ref a1], 1, .ref a1, rfl, rfl, SqT.of (s6 _ _ e1), atI_nat (j := 1) rfl, a1, jV js, rfl, .inl (SqL.of (s6 _ _ e2)), _, 1, rfl, rfl, _, rfl, ite2 (fun c => ?_) (fun c => ?_)⟩
      · have c := of_decide_eq_true c
        rw [List.length_map] at c
        refine ⟨.ref t1, rfl, xs, eD, ?_, same_set s6 nD, _, upd_same, ?_⟩
        · rw [hxs]
          refine small5000 (Nat.le_trans List.countP_le_length ?_)
          rw [List.length_take]
          omega
        · rw [List.length_append, hxs, hc1, if_pos (by omega)]
          rfl
      · have c : ¬ _ := fun z => c (decide_eq_true z)
        rw [List.length_map] at c
        exact ⟨s6, xs, eD, by rw [hxs, hc1, if_neg (by omega)]; rfl⟩
    obtain ⟨s6, xs, eD, hxs⟩ := pv
    rw [lts, List.take_length, pq.count] at hxs
    refine ⟨D, xs, rfl, .inl (SqL.of eD), 2, J, rfl, by rw [hxs], ?_⟩
    have k6 := k5.trans (.of s6)
    have b6 := b5.keep s6
    have pa6 := pa5.keep (.of s6)
    have eln6 := s6 _ _ eln5
    clear eD hxs
    intro td ntd
    have ntd0 : H td = none := k6.free b ntd b6
    have ntdp : td ≠ p := b6.ne ntd
    have k7 : Keep p H (upd H6 td (.dT [])) := k6.trans (.of (same_upd ntd))
    have b7 := b6.keep (same_upd (o := .dT []) ntd)
    have pa7 := pa6.keep (.of (same_upd (o := .dT []) ntd))
    have eln7 := same_upd (o := .dT []) ntd _ _ eln6
    have etd7 : (upd H6 td (.dT [])) td = some (.dT []) := upd_same
    have hlntd : ln ≠ td := ne_of_none eln6 ntd
    generalize upd H6 td (.dT []) = H7 at k7 b7 pa7 eln7 etd7 ⊢
    dsimp only
    refine ⟨.int (2 + (J : Int)), rfl, _, 1, rfl, rfl, .ref p, rfl, p, 28, rfl, b7, by decide, by decide, fun H8 x k8 b8 x0 x1 => ?_⟩
    obtain ⟨x, rfl⟩ : ∃ xn : Nat, x = (xn : Int) := ⟨x.toNat, by omega⟩
    refine ⟨_, _, rfl, rfl, _, rfl, by omega, by omega, ?_⟩
    rw [show (2 + (J : Int) - 1 + (x : Int)).toNat = J + 1 + x by omega]
    have each := pq.each n8
    refine for_range (lo := 0) (n := J + 1 + x) (fun i σ H9 => ∃ (y6 y7 y8 y9 y10 y11 : Option V) (tis : List Ti), σ = [some (.ref p), some (.int n), some (.ref ln), some (.ref pl), some (.int (2 + (J : Int))), some (.ref td), y6, y7, y8, y9, y10, y11, none] ∧ Keep p H H9 ∧ Bag H9 p ∧ PlAt p H9 pl ts zs as qs ∧ H9 ln = some (.lst (ls.map nS)) ∧ TiD H9 td tis ∧ tis.length ≤ i ∧ (∀ t ∈ tis, TieOk zs qs ls t) ∧ tis.Pairwise Apart ∧ (∀ j, j < i → j < J + 1 → ∃ t ∈ tis, zs[j]? = some t.a ∧ zs[j + 1]? = some t.b) ∧ (i ≤ J + 1 → ∀ t ∈ tis, ∃ j, j < i ∧ zs[j]? = some t.a ∧ zs[j + 1]? = some t.b))
      ⟨_, _, _, _, _, _, [], rfl, k7.trans k8, b8, pa7.keep k8, k8 _ _ nlp eln7, ⟨[], k8 _ _ ntdp etd7, List.nodup_nil, .nil⟩, Nat.le_refl _, fun t ht => (by cases ht), List.Pairwise.nil, fun j hj => absurd hj (Nat.not_lt_zero _), fun _ t ht => (by cases ht)⟩ (fun i σ H9 hi hp => ?_) (fun σ H9 hp => ?_)
    · obtain ⟨y6, y7, y8, y9, y10, y11, tis, rfl, k9, b9, pa9, eln9, htd, tl, tok, tap, tway, tfst⟩ := hp
      have lN : ((ts.map V.ref).length : Int) = (qs.length : Int) := by rw [lts]
      have m1 : i % qs.length < qs.length := Nat.mod_lt _ (by omega)
      have m2 : (i + 1) % qs.length < qs.length := Nat.mod_lt _ (by omega)
      obtain ⟨t1, et1⟩ : ∃ t1, ts[i % qs.length]? = some t1 := ⟨_, List.getElem?_eq_getElem (by rw [pa9.lt]; exact m1)⟩
      obtain ⟨t2, et2⟩ : ∃ t2, ts[(i + 1) % qs.length]? = some t2 := ⟨_, List.getElem?_eq_getElem (by rw [pa9.lt]; exact m2)⟩
      have at1 : atI (ts.map V.ref) ((0 + (i : Int)) % ((ts.map V.ref).length : Int)) = some (.ref t1) := by
        rw [lN, Int.zero_add, ← Int.natCast_emod]
        exact atI_nat (by rw [List.getElem?_map, et1]; rfl)
      have at2 : atI (ts.map V.ref) ((0 + (i : Int) + 1) % ((ts.map V.ref).length : Int)) = some (.ref t2) := by
        rw [lN, Int.zero_add, show ((i : Int) + 1) = ((i + 1 : Nat) : Int) by omega, ← Int.natCast_emod]
        exact atI_nat (by rw [List.getElem?_map, et2]; rfl)
      refine ⟨.ref pl, rfl, .int (0 + (i : Int)), rfl, .ref pl, rfl, pl, ts.map V.ref, rfl, .inl (SqL.of pa9.lst), _, _, rfl, rfl, by omega, pl, ts.map V.ref, _, .ref t1, rfl, rfl, SqL.of pa9.lst, at1, ?_⟩
      refine ⟨.ref pl, rfl, .int (0 + (i : Int)), rfl, _, 1, rfl, rfl, .ref pl, rfl, pl, ts.map V.ref, rfl, .inl (SqL.of pa9.lst), _, _, rfl, rfl, by omega, pl, ts.map V.ref, _, .ref t2, rfl, rfl, SqL.of pa9.lst, at2, ?_⟩
      refine ⟨fun σ H10 => ∃ (io jo : Nat) (t1 t2 : Addr), σ = [some (.ref p), some (.int n), some (.ref ln), some (.ref pl), some (.int (2 + (J : Int))), some (.ref td), some (.int (0 + (i : Int))), some (.ref t1), some (.ref t2), y9, y10, y11, none] ∧ Keep p H9 H10 ∧ Bag H10 p ∧ io < qs.length ∧ jo < qs.length ∧ ts[io]? = some t1 ∧ ts[jo]? = some t2 ∧ (i < J + 1 → io = i ∧ jo = i + 1), ?_, fun σ H10 mid => ?_⟩
      · refine ⟨.int (0 + (i : Int)), rfl, .int (2 + (J : Int)), rfl, _, 1, rfl, rfl, _, _, rfl, rfl, _, rfl, ite2 (fun c => ?_) (fun c => ?_)⟩
        · have c := of_decide_eq_true c
          refine ⟨.ref pl, rfl, .ref p, rfl, .ref pl, rfl, pl, ts.map V.ref, rfl, .inl (SqL.of pa9.lst), p, (qs.length : Int), by rw [lN]; rfl, b9, by omega, by omega, fun H10 d1 k10 b10 d10 d11 => ?_⟩
          obtain ⟨io, rfl⟩ : ∃ xn : Nat, d1 = (xn : Int) := ⟨d1.toNat, by omega⟩
          obtain ⟨t1', et1'⟩ : ∃ t1, ts[io]? = some t1 := ⟨_, List.getElem?_eq_getElem (by rw [pa9.lt]; omega)⟩
          have pa10 := pa9.keep k10
          refine ⟨pl, ts.map V.ref, _, .ref t1', rfl, rfl, SqL.of pa10.lst, atI_nat (by rw [List.getElem?_map, et1']; rfl), ?_⟩
          refine ⟨.ref pl, rfl, .ref p, rfl, .ref pl, rfl, pl, ts.map V.ref, rfl, .inl (SqL.of pa10.lst), p, (qs.length : Int), by rw [lN]; rfl, b10, by omega, by omega, fun H11 d2 k11 b11 d20 d21 => ?_⟩
          obtain ⟨jo, rfl⟩ : ∃ xn : Nat, d2 = (xn : Int) := ⟨d2.toNat, by omega⟩
          obtain ⟨t2', et2'⟩ : ∃ t1, ts[jo]? = some t1 := ⟨_, List.getElem?_eq_getElem (by rw [pa9.lt]; omega)⟩
          refine ⟨pl, ts.map V.ref, _, .ref t2', rfl, rfl, SqL.of (pa10.keep k11).lst, atI_nat (by rw [List.getElem?_map, et2']; rfl), ?_⟩
          exact ⟨io, jo, t1', t2', rfl, k10.trans k11, b11, by omega, by omega, et1', et2', fun z => by omega⟩
        · exact ⟨_, _, t1, t2, rfl, .refl _ _, b9, m1, m2, et1, et2, fun z => ⟨Nat.mod_eq_of_lt (by omega), Nat.mod_eq_of_lt (by omega)⟩⟩
      clear at1 at2 et1 et2 m1 m2 t1 t2
      obtain ⟨io, jo, t1, t2, rfl, k10, b10, hio, hjo, et1, et2, hij⟩ := mid
      have pa10 := pa9.keep k10
      have eln10 := k10 _ _ nlp eln9
      obtain ⟨t1', z1, a1, js1, f1, ez1, _, eq1, e1, e1a, nt1, na1⟩ := pa10.at hio
      rw [et1] at f1
      cases f1
      obtain ⟨t2', z2, a2, js2, f2, ez2, _, eq2, e2, e2a, nt2, na2⟩ := pa10.at hjo
      rw [et2] at f2
      cases f2
      have js1m := each js1 (List.mem_of_getElem? eq1)
      have js2m := each js2 (List.mem_of_getElem? eq2)
      -- common
      refine ⟨.ref t1, rfl, t1, [nS z1, .ref a1], 1, .ref a1, rfl, rfl, SqT.of e1, atI_nat (j := 1) rfl, a1, rfl, ⟨_, SqL.of e1a⟩, fun D nD => ?_⟩
      have nDp : D ≠ p := b10.ne nD
      refine lc_it (walk_list (xs := jV js1)) (fun m H11 => Same H10 H11 ∧ H11 D = some (.lst (jV ((js1.take m).filter fun x => decide (x ∈ js2))))) ⟨same_upd nD, by rw [List.take_zero]; exact upd_same⟩ (fun m H11 _ pv => SqL.of (pv.1 _ _ e1a)) (fun m x H11₀ H11 hm pv y => ?_) (fun H11 pv => ?_)
      · obtain ⟨rfl, ex⟩ := y
        obtain ⟨s11, eD⟩ := pv
        obtain ⟨j, ej, rfl⟩ : ∃ j, js1[m]? = some j ∧ x = .int (j : Nat) := by
          rw [List.getElem?_map] at ex
          cases h : js1[m]? with
          | none => rw [h] at ex; cases ex
          | some t => rw [h] at ex; exact ⟨t, rfl, (Option.some.inj ex).symm⟩
        have hf : ((js1.take (m + 1)).filter fun x => decide (x ∈ js2)) = ((js1.take m).filter fun x => decide (x ∈ js2)) ++ if j ∈ js2 then [j] else [] := by
          rw [List.take_add_one, ej, List.filter_append]
          congr 1
          show List.filter _ [j] = _
          by_cases h : j ∈ js2
          · simp [h]
          · simp [h]
        refine ⟨rfl, .int (j : Nat), rfl, .ref t2, rfl, t2, [nS z2, .ref a2], 1, .ref a2, rfl, rfl, SqT.of (s11 _ _ e2), atI_nat (j := 1) rfl, a2, jV js2, rfl, .inl (SqL.of (s11 _ _ e2a)), rfl, flat_ints js2, _, rfl, ite2 (fun c => ?_) (fun c => ?_)⟩
        · have c : inV (.int (j : Nat)) (jV js2) = true := c
          rw [in_ints] at c
          have c := of_decide_eq_true c
          refine ⟨.int (j : Nat), rfl, _, eD, ?_, same_set s11 nD, ?_⟩
          · rw [List.length_map]
            refine small5000 (Nat.le_trans (List.length_filter_le ..) ?_)
            rw [List.length_take]
            omega
          · rw [upd_same, hf, if_pos c, jV_app]
            rfl
        · have c : ¬ inV (.int (j : Nat)) (jV js2) = true := c
          rw [in_ints] at c
          have c : ¬ j ∈ js2 := fun z => c (decide_eq_true z)
          exact ⟨s11, by rw [hf, if_neg c, List.append_nil]; exact eD⟩
      obtain ⟨s11, eD⟩ := pv
      rw [List.length_map, List.take_length] at eD
      have mcm : ∀ x, x ∈ js1.filter (fun x => decide (x ∈ js2)) ↔ x ∈ js1 ∧ x ∈ js2 := fun x => by rw [List.mem_filter, decide_eq_true_iff]
      have cml : (js1.filter fun x => decide (x ∈ js2)).length ≤ 8 := Nat.le_trans (List.length_filter_le ..) js1m.2.1
      generalize js1.filter (fun x => decide (x ∈ js2)) = cm at eD mcm cml
      have k11 := k10.trans (.of s11)
      have b11 := b10.keep s11
      -- chains
      refine ⟨.ref p, rfl, by decide, fun t nt => ?_⟩
      have ntp : t ≠ p := b11.ne nt
      refine ⟨.ref p, rfl, p, 3, rfl, b11.keep (same_upd nt), by decide, by decide, fun H12 d k12 b12 d0 d1 => ?_⟩
      obtain ⟨mx, hmx, emx⟩ := pick (ms := [9, 400, 9999]) d0 d1
      refine ⟨t, _, d, _, rfl, rfl, SqT.of (k12 _ _ ntp upd_same), emx, p, mx, rfl, b12, ?_, ?_, fun H13 ch k13 b13 ch0 ch1 => ?_⟩
      · simp only [List.mem_cons, List.not_mem_nil, or_false] at hmx
        omega
      · simp only [List.mem_cons, List.not_mem_nil, or_false] at hmx
        omega
      have chb : ch < 9999 := by
        simp only [List.mem_cons, List.not_mem_nil, or_false] at hmx
        omega
      obtain ⟨ch, rfl⟩ : ∃ xn : Nat, ch = (xn : Int) := ⟨ch.toNat, by omega⟩
      refine ⟨1, _, rfl, rfl, ?_⟩
      have eD13 : H13 D = some (.lst (jV cm)) := k13 _ _ nDp (k12 _ _ nDp (same_upd nt _ _ eD))
      have k13 : Keep p H10 H13 := (Keep.of (s11.trans (same_upd nt))).trans (k12.trans k13)
      have k13' : Keep p H9 H13 := k10.trans k13
      have e1' := k13 _ _ nt1 e1
      have e2' := k13 _ _ nt2 e2
      have e1a' := k13 _ _ na1 e1a
      have e2a' := k13 _ _ na2 e2a
      have htd13 : TiD H13 td tis := htd.keep k13' b9
      -- near
      refine ⟨fun σ H14 => ∃ nb : Bool, σ = [some (.ref p), some (.int n), some (.ref ln), some (.ref pl), some (.int (2 + (J : Int))), some (.ref td), some (.int (0 + (i : Int))), some (.ref t1), some (.ref t2), some (.ref D), some (.int (1 + (ch : Int))), some (.bl nb), none] ∧ Same H13 H14 ∧ (nb = false ↔ (∀ t ∈ tis, ¬ (t.a = z1 ∧ t.b = z2)) ∧ ∀ t ∈ tis, ¬ (t.a = z2 ∧ t.b = z1)), ?_, fun σ H14 mid => ?_⟩
      · obtain ⟨kvs, etd, knd, hkt⟩ := htd13
        refine ⟨.ref t1, rfl, t1, [nS z1, .ref a1], 0, nS z1, rfl, rfl, SqT.of e1', atI_nat (j := 0) rfl, .ref t2, rfl, t2, [nS z2, .ref a2], 0, nS z2, rfl, rfl, SqT.of e2', atI_nat (j := 0) rfl, two_sz, fun u nu => ?_⟩
        refine ⟨.ref td, rfl, td, _, rfl, DGet.t (k := [Sum.inr (SX.S z1), Sum.inr (SX.S z2)]) (same_upd nu _ _ etd) upd_same, _, rfl, ite2 (fun c => ?_) (fun c => ?_)⟩
        · refine ⟨true, rfl, same_upd nu, ⟨fun z => (by cases z), fun z => ?_⟩⟩
          rw [(tid_none hkt z1 z2).mpr z.1] at c
          cases c
        · have c1 : valV kvs [Sum.inr (SX.S z1), Sum.inr (SX.S z2)] = none := by
            cases h : valV kvs [Sum.inr (SX.S z1), Sum.inr (SX.S z2)] with
            | none => rfl
            | some x => rw [h] at c; exact absurd rfl c
          refine ⟨.ref t2, rfl, t2, [nS z2, .ref a2], 0, nS z2, rfl, rfl, SqT.of (same_upd nu _ _ e2'), atI_nat (j := 0) rfl, .ref t1, rfl, t1, [nS z1, .ref a1], 0, nS z1, rfl, rfl, SqT.of (same_upd nu _ _ e1'), atI_nat (j := 0) rfl, two_sz, fun u2 nu2 => ?_⟩
          refine ⟨.ref td, rfl, td, _, rfl, DGet.t (k := [Sum.inr (SX.S z2), Sum.inr (SX.S z1)]) (same_upd nu2 _ _ (same_upd nu _ _ etd)) upd_same, ?_⟩
          refine ⟨_, rfl, (same_upd nu).trans (same_upd nu2), ?_⟩
          have c1 := (tid_none hkt z1 z2).mp c1
          have c2 := tid_none hkt z2 z1
          cases h : valV kvs [Sum.inr (SX.S z2), Sum.inr (SX.S z1)] with
          | none => exact ⟨fun _ => ⟨c1, c2.mp h⟩, fun _ => rfl⟩
          | some x => exact ⟨fun z => (by cases z), fun z => (by rw [c2.mpr z.2] at h; cases h)⟩
      obtain ⟨nb, rfl, s14, hnb⟩ := mid
      have k14 : Keep p H9 H14 := k13'.trans (.of s14)
      have b14 := b13.keep s14
      have e1 := s14 _ _ e1'
      have e2 := s14 _ _ e2'
      have e1a := s14 _ _ e1a'
      have e2a := s14 _ _ e2a'
      have eD14 := s14 _ _ eD13
      have stay : ∀ H', Keep p H9 H' → Bag H' p → ¬ i < J + 1 → (Keep p H H' ∧ Bag H' p ∧ PlAt p H' pl ts zs as qs ∧ H' ln = some (.lst (ls.map nS)) ∧ TiD H' td tis ∧ tis.length ≤ i + 1 ∧ (∀ t ∈ tis, TieOk zs qs ls t) ∧ tis.Pairwise Apart ∧ (∀ j, j < i + 1 → j < J + 1 → ∃ t ∈ tis, zs[j]? = some t.a ∧ zs[j + 1]? = some t.b) ∧ (i + 1 ≤ J + 1 → ∀ t ∈ tis, ∃ j, j < i + 1 ∧ zs[j]? = some t.a ∧ zs[j + 1]? = some t.b)) := fun H' k b' c =>
        ⟨k9.trans k, b', pa9.keep k, k _ _ nlp eln9, htd.keep k b9, by omega, tok, tap, fun j h1 h2 => tway j (by omega) h2, fun z => absurd (by omega) c⟩
      have nm1 := znm z1 (List.mem_of_getElem? ez1)
      have nm2 := znm z2 (List.mem_of_getElem? ez2)
      have eln14 := k14 _ _ nlp eln9
      have htd14 := htd.keep k14 b9
      have lj1 : js1.length ≤ 5000 := by omega
      have lj2 : js2.length ≤ 5000 := by omega
      -- if one != other and common != [] and not near
      refine ⟨.ref t1, rfl, .ref t2, rfl, _, _, (dt_pl e1 e1a lj1).dp, (dt_pl e2 e2a lj2).dp, shaped_pl nm1 js1, shaped_pl nm2 js2, _, rfl, ite2 (fun c => ?_) (fun c => ?_)⟩
      rotate_left
      · have c : PyData.eqv (plD z1 js1) (plD z2 js2) = true := by
          cases h : PyData.eqv (plD z1 js1) (plD z2 js2) with
          | true => rfl
          | false => rw [h] at c; exact absurd rfl c
        refine ⟨_, _, _, _, _, _, tis, rfl, stay _ k14 b14 fun z => ?_⟩
        have ez := eqv_pl c
        rw [← ez] at ez2
        have := nodup_inj znd ez1 ez2
        have := hij z
        omega
      have cne : PyData.eqv (plD z1 js1) (plD z2 js2) = false := by
        cases h : PyData.eqv (plD z1 js1) (plD z2 js2) with
        | false => rfl
        | true => rw [h] at c; cases c
      have nij : io ≠ jo := fun z => by
        subst z
        rw [ez1] at ez2
        rw [eq1] at eq2
        cases ez2
        cases eq2
        rw [SeqAt.eqv_refl _ (lay_pl nm1 js1)] at cne
        cases cne
      refine ⟨.ref D, rfl, Nat.zero_le _, fun e ne => ?_⟩
      have s15 := same_upd (o := .lst []) ne
      have dD : Dt SA (upd H14 e (.lst [])) (.ref D) (dI (jI cm)) := dt_ints (by rw [s15 _ _ eD14, jV_ints]) (by rw [List.length_map]; omega)
      have dE : Dt SA (upd H14 e (.lst [])) (.ref e) (dI []) := dt_ints upd_same (Nat.zero_le _)
      refine ⟨_, _, dD.dp, dE.dp, shaped_ints _, shaped_ints _, _, rfl, ite2 (fun c => ?_) (fun c => ?_)⟩
      rotate_left
      · have c : cm = [] := by
          cases h : cm with
          | nil => rfl
          | cons x r => rw [h] at c; exact absurd rfl c
        refine ⟨_, _, _, _, _, _, tis, rfl, stay _ (k14.trans (.of s15)) (b14.keep s15) fun z => ?_⟩
        obtain ⟨r1, r2⟩ := hij z
        subst r1
        subst r2
        obtain ⟨x, x1, x2⟩ := pq.chain z eq1 eq2
        have := (mcm x).mpr ⟨x1, x2⟩
        rw [c] at this
        cases this
      have cm1 : 1 ≤ cm.length := by
        cases h : cm with
        | nil => rw [h] at c; cases c
        | cons x r => rw [List.length_cons]; omega
      refine ⟨.bl nb, rfl, nb, rfl, ite2 (fun c => ?_) (fun c => ?_)⟩
      rotate_left
      · have c : nb = true := by cases nb with
          | true => rfl
          | false => exact absurd rfl c
        refine ⟨_, _, _, _, _, _, tis, rfl, stay _ (k14.trans (.of s15)) (b14.keep s15) fun z => ?_⟩
        obtain ⟨r1, r2⟩ := hij z
        subst r1
        subst r2
        have : nb = false := hnb.mpr ⟨fun t ht e => ?_, fun t ht e => ?_⟩
        · rw [c] at this
          cases this
        · obtain ⟨j, hj, f1, f2⟩ := tfst (by omega) t ht
          rw [e.1] at f1
          have := nodup_inj znd f1 ez1
          omega
        · obtain ⟨j, hj, f1, f2⟩ := tfst (by omega) t ht
          rw [e.1] at f1
          have := nodup_inj znd f1 ez2
          omega
      have c : nb = false := by cases nb with
        | false => rfl
        | true => cases c
      obtain ⟨nn1, nn2⟩ := hnb.mp c
      have k15 : Keep p H9 _ := k14.trans (.of s15)
      have b15 := b14.keep s15
      have eD15 := s15 _ _ eD14
      have e1 := s15 _ _ e1
      have e2 := s15 _ _ e2
      generalize upd H14 e (.lst []) = H15 at k15 b15 eD15 e1 e2 s15 ⊢
      -- ties[(one[0], other[0])] = (lines[..], chains)
      have eln15 := k15 _ _ nlp eln9
      refine ⟨.ref ln, rfl, .ref D, rfl, .ref p, rfl, .ref D, rfl, D, jV cm, rfl, .inl (SqL.of eD15), p, (cm.length : Int), by rw [List.length_map]; rfl, b15, by omega, by omega, fun H16 d k16 b16 d0 d1 => ?_⟩
      obtain ⟨dj, rfl⟩ : ∃ xn : Nat, d = (xn : Int) := ⟨d.toNat, by omega⟩
      have hdj : dj < cm.length := by omega
      have inx := List.getElem_mem hdj
      have gx : (jV cm)[dj]? = some (.int (cm[dj] : Nat)) := by
        rw [List.getElem?_map, List.getElem?_eq_getElem hdj]
        rfl
      generalize cm[dj] = xj at inx gx
      have hx := (mcm xj).mp inx
      have hxl : xj < ls.length := by rw [hln]; exact js1m.2.2 xj hx.1
      obtain ⟨lx, elx⟩ : ∃ lx, ls[xj]? = some lx := ⟨_, List.getElem?_eq_getElem hxl⟩
      refine ⟨D, jV cm, (dj : Int), _, rfl, rfl, SqL.of (k16 _ _ nDp eD15), atI_nat gx, ln, ls.map nS, (xj : Nat), nS lx, rfl, rfl, SqL.of (k16 _ _ nlp eln15), atI_nat (by rw [List.getElem?_map, elx]; rfl), .int (1 + (ch : Int)), rfl, two_sz, fun v nv => ?_⟩
      have sv := same_upd (o := .tup [nS lx, .int (1 + (ch : Int))]) nv
      refine ⟨.ref td, rfl, .ref t1, rfl, t1, [nS z1, .ref a1], 0, nS z1, rfl, rfl, SqT.of (sv _ _ (k16 _ _ nt1 e1)), atI_nat (j := 0) rfl, .ref t2, rfl, t2, [nS z2, .ref a2], 0, nS z2, rfl, rfl, SqT.of (sv _ _ (k16 _ _ nt2 e2)), atI_nat (j := 0) rfl, two_sz, fun u nu => ?_⟩
      have su := same_upd (o := .tup [nS z1, nS z2]) nu
      have k17 : Keep p H9 _ := k15.trans (k16.trans (.of (sv.trans su)))
      have b17 := b16.keep (sv.trans su)
      obtain ⟨kvs, etd, knd, hkt⟩ := htd.keep k17 b9
      have ev : (upd (upd H16 v (.tup [nS lx, .int (1 + (ch : Int))])) u (.tup [nS z1, nS z2])) v = some (.tup [nS lx, .int (1 + (ch : Int))]) := su _ _ upd_same
      have eu : (upd (upd H16 v (.tup [nS lx, .int (1 + (ch : Int))])) u (.tup [nS z1, nS z2])) u = some (.tup [nS z1, nS z2]) := upd_same
      generalize upd (upd H16 v (.tup [nS lx, .int (1 + (ch : Int))])) u (.tup [nS z1, nS z2]) = H17 at k17 b17 etd hkt ev eu ⊢
      have vn := (tid_none hkt z1 z2).mpr nn1
      have kl := paired_len hkt
      refine ⟨td, _, rfl, DPut.t (k := [Sum.inr (SX.S z1), Sum.inr (SX.S z2)]) etd eu (by rw [kl]; exact small5000 (by omega)), ?_⟩
      rw [putK_new _ vn]
      have tk17 : TK H17 (upd H17 td (.dT (kvs ++ [([Sum.inr (SX.S z1), Sum.inr (SX.S z2)], .ref v)]))) := .upd fun xs e => by rw [etd] at e; cases e
      refine ⟨_, _, _, _, _, _, tis ++ [⟨z1, z2, lx, 1 + ch⟩], rfl, (k9.trans k17).set ntd0, b17.at (upd_ne ntdp.symm), ?_, ?_, ⟨_, upd_same, ?_, ?_⟩, ?_, ?_, ?_, ?_, ?_⟩
      · have pk := pa9.keep k17
        have off : ∀ {a : Addr} {o : HO}, H17 a = some o → (∀ kvs, o ≠ .dT kvs) → (upd H17 td (.dT (kvs ++ [([Sum.inr (SX.S z1), Sum.inr (SX.S z2)], .ref v)]))) a = some o := fun {a o} e h => by
          rw [upd_ne (fun z => by rw [z, etd] at e; exact h _ (Option.some.inj e).symm)]
          exact e
        exact ⟨off pk.lst fun _ z => (by cases z), paired_imp pk.tup fun a _ x e => off e fun _ z => (by cases z), paired_imp pk.ll fun a _ x e => off e fun _ z => (by cases z), pk.lz, pk.lt, pk.np⟩
      · rw [upd_ne hlntd]
        exact k17 _ _ nlp eln9
      · rw [List.map_append]
        refine List.nodup_append.mpr ⟨knd, by simp, fun x hx y hy e => ?_⟩
        rw [List.map_singleton, List.mem_singleton] at hy
        rw [e, hy] at hx
        exact key_none vn hx
      · refine paired_snoc (paired_imp hkt fun kv _ t ⟨h1, v, h2, h3⟩ => ⟨h1, v, h2, tk17 _ _ h3⟩) ⟨rfl, v, rfl, ?_⟩
        rw [tk17 _ _ ev]
        rfl
      · rw [List.length_append]
        show _ + 1 ≤ _
        omega
      · intro t ht
        rcases List.mem_append.mp ht with z | z
        · exact tok t z
        · rw [List.mem_singleton.mp z]
          exact ⟨io, jo, xj, js1, js2, nij, ez1, ez2, eq1, eq2, hx.1, hx.2, elx, by show 1 ≤ 1 + ch; omega, by show 1 + ch ≤ 9999; omega⟩
      · refine List.pairwise_append.mpr ⟨tap, List.pairwise_singleton _ _, fun s hs t ht => ?_⟩
        rw [List.mem_singleton.mp ht]
        exact ⟨nn1 s hs, nn2 s hs⟩
      · intro j h1 h2
        by_cases h3 : j < i
        · obtain ⟨t, ht, r⟩ := tway j h3 h2
          exact ⟨t, List.mem_append_left _ ht, r⟩
        · have h4 : j = i := by omega
          subst h4
          obtain ⟨r1, r2⟩ := hij h2
          subst r1
          subst r2
          exact ⟨_, List.mem_append_right _ (List.mem_singleton.mpr rfl), ez1, ez2⟩
      · intro h t ht
        rcases List.mem_append.mp ht with z | z
        · obtain ⟨j, hj, r⟩ := tfst (by omega) t z
          exact ⟨j, by omega, r⟩
        · rw [List.mem_singleton.mp z]
          obtain ⟨r1, r2⟩ := hij (by omega)
          subst r1
          subst r2
          exact ⟨_, Nat.lt_succ_self _, ez1, ez2⟩
    · obtain ⟨y6, y7, y8, y9, y10, y11, tis, rfl, k9, b9, pa9, eln9, htd, tl, tok, tap, tway, tfst⟩ := hp
      refine ⟨.ref p, rfl, .ref ln, rfl, .ref pl, rfl, .ref td, rfl, p, ln, pl, td, ts, as, ls, zs, qs, tis, rfl, b9, nlp, eln9, by omega, pa9, by omega, by rw [hln]; exact each, htd, by omega, fun H10 r sts jns rws k10 b10 hnet pS pJ pR nr => ?_⟩
      have pa10 := pa9.keep k10
      refine ⟨.ref pl, rfl, .int (2 + (J : Int)), rfl, _, rfl, pl, _, rfl, SqL.of pa10.lst, fun c nc => ?_⟩
      rw [show (2 + (J : Int)) = ((J + 2 : Nat) : Int) by omega, cut_to, ← List.map_take]
      refine ⟨c, rfl, ⟨_, SqL.of upd_same⟩, fun D nD => ?_⟩
      have s11 := same_upd (o := .lst ((ts.take (J + 2)).map V.ref)) nc
      have ec : (upd H10 c (.lst ((ts.take (J + 2)).map V.ref))) c = some (.lst ((ts.take (J + 2)).map V.ref)) := upd_same
      have pa11 := pa10.keep (.of s11)
      have b11 := b10.keep s11
      generalize upd H10 c (.lst ((ts.take (J + 2)).map V.ref)) = H11 at s11 ec pa11 b11 nD ⊢
      refine lc_it (walk_list (xs := (ts.take (J + 2)).map V.ref)) (fun i H12 => Same H11 H12 ∧ H12 D = some (.lst ((zs.take i).map nS))) ⟨same_upd nD, upd_same⟩ (fun i H12 _ pv => SqL.of (pv.1 _ _ ec)) (fun i x H12₀ H12 hi pv y => ?_) (fun H12 pv => ?_)
      · obtain ⟨rfl, ex⟩ := y
        obtain ⟨s12, eD⟩ := pv
        rw [List.length_map, List.length_take] at hi
        obtain ⟨t1, z1, a1, js, et1, ez1, _, _, e1, _, _, _⟩ := pa11.at (i := i) (by omega)
        have hx : x = .ref t1 := by
          rw [List.getElem?_map, List.getElem?_take_of_lt (by omega), et1] at ex
          exact (Option.some.inj ex).symm
        subst hx
        refine ⟨rfl, yes_ ?_⟩
        refine ⟨.ref t1, rfl, t1, [nS z1, .ref a1], 0, nS z1, rfl, rfl, SqT.of (s12 _ _ e1), atI_nat (j := 0) rfl, _, eD, ?_, same_set s12 nD, ?_⟩
        · rw [List.length_map, List.length_take]
          exact small5000 (by omega)
        · rw [upd_same, List.take_add_one, ez1, List.map_append]
          rfl
      obtain ⟨s12, eD⟩ := pv
      rw [List.length_map, List.length_take, Nat.min_eq_left (by rw [pa9.lt]; omega)] at eD
      refine ⟨D, _, rfl, .inl ⟨SqL.of eD, fun wy nwy => ⟨two_sz, fun r2 nr2 => ?_⟩⟩⟩
      have s13 := s11.trans (s12.trans ((same_upd (o := .tup ((zs.take (J + 2)).map nS)) nwy).trans (same_upd (o := .tup [.ref r, .ref wy]) nr2)))
      refine q _ r2 r wy ls zs qs J tis sts jns rws (k9.trans (k10.trans (.of s13))) (b10.keep s13) upd_same (hnet.tk (.of s13)) (same_upd nr2 _ _ upd_same) ⟨by omega, by omega, nm_nodup lnat (by omega), nms_of lnat, by rw [hln]; exact pq, pa9.lz, znd, znm, tok, tap, fun j hj => tway j (by omega) hj, by have := pq.most; omega⟩ pS pJ pR
end
end Th
namespace Th
open PySem PySem.Spec PyProof.Rows L2
/-! the program's lines_by_place, lines_at, tie_between -/
def ent (sts : List (Nm × Nm)) (jns : List (Nm × List Nm)) : List (Nm × List Nm) := sts.map (fun s => (s.1, [s.2])) ++ jns
def lkF (es : List (Nm × List Nm)) (y : Nm) : Option (List Nm) := es.foldl (fun acc e => if y = e.1 then some e.2 else acc) none
theorem lkF_snoc (es : List (Nm × List Nm)) (e : Nm × List Nm) (y : Nm) : lkF (es ++ [e]) y = if y = e.1 then some e.2 else lkF es y := by
  unfold lkF
  rw [List.foldl_append]
  rfl
/-- what a dict tells of the places -/
structure DV (H : Hp) (kvs : List (Key × V)) (es : List (Nm × List Nm)) : Prop where
  no : ∀ z, lkF es z = none → valV kvs (Sum.inr (SX.S z)) = none
  yes : ∀ z l, lkF es z = some l → ∃ a, valV kvs (Sum.inr (SX.S z)) = some (.ref a) ∧ H a = some (.tup (l.map nS))
  ks : ∃ zs : List Nm, kvs.map (·.1) = (zs.map SX.S).map Sum.inr ∧ zs.length ≤ es.length ∧ (es ≠ [] → zs ≠ []) ∧ ∀ z ∈ zs, (lkF es z).isSome = true
theorem DV.tk {H H' : Hp} {kvs : List (Key × V)} {es : List (Nm × List Nm)} (h : DV H kvs es) (k : TK H H') : DV H' kvs es :=
  ⟨h.no, fun z l e => let ⟨a, h1, h2⟩ := h.yes z l e; ⟨a, h1, k _ _ h2⟩, h.ks⟩
theorem DV.nil {H : Hp} : DV H [] [] := ⟨fun _ _ => rfl, fun z l e => (by cases e), [], rfl, Nat.le_refl _, fun h => absurd rfl h, fun z h => (by cases h)⟩
theorem DV.put {H : Hp} {kvs : List (Key × V)} {es : List (Nm × List Nm)} (h : DV H kvs es) {z : Nm} {l : List Nm} {a : Addr} (e : H a = some (.tup (l.map nS))) : DV H (putK kvs (Sum.inr (SX.S z)) (.ref a)) (es ++ [(z, l)]) := by
  refine ⟨fun y hy => ?_, fun y m hy => ?_, ?_⟩
  · rw [lkF_snoc] at hy
    rw [valV_put]
    by_cases c : y = z
    · rw [if_pos c] at hy
      cases hy
    · rw [if_neg c] at hy
      rw [if_neg (fun q => c (SX.S_inj (Sum.inr.inj q)))]
      exact h.no y hy
  · rw [lkF_snoc] at hy
    rw [valV_put]
    by_cases c : y = z
    · rw [if_pos c] at hy
      have := Option.some.inj hy
      subst this
      rw [if_pos (by rw [c])]
      exact ⟨a, rfl, e⟩
    · rw [if_neg c] at hy
      rw [if_neg (fun q => c (SX.S_inj (Sum.inr.inj q)))]
      exact h.yes y m hy
  · obtain ⟨zs, h1, h2, h3, h4⟩ := h.ks
    cases hv : valV kvs (Sum.inr (SX.S z)) with
    | none =>
      rw [putK_new _ hv]
      refine ⟨zs ++ [z], by rw [List.map_append, h1, List.map_append, List.map_append]; rfl, by rw [List.length_append, List.length_append]; show _ + 1 ≤ _ + 1; omega, fun _ => by simp, fun y hy => ?_⟩
      rw [lkF_snoc]
      by_cases c : y = z
      · rw [if_pos c]
        rfl
      · rw [if_neg c]
        rcases List.mem_append.mp hy with q | q
        · exact h4 y q
        · exact absurd (List.mem_singleton.mp q) c
    | some v =>
      refine ⟨zs, ?_, by rw [List.length_append]; omega, fun _ q => ?_, fun y hy => ?_⟩
      · have ha : (kvs.any fun kv => decide (kv.1 = (Sum.inr (SX.S z) : Key))) = true := by
          rw [valV_any, hv]
          rfl
        unfold putK
        rw [if_pos ha, List.map_map, ← h1]
        refine List.map_congr_left fun kv _ => ?_
        show (if kv.1 = Sum.inr (SX.S z) then (kv.1, V.ref a) else kv).1 = kv.1
        split <;> rfl
      · rw [q] at h1
        rw [List.map_eq_nil_iff.mp h1] at hv
        cases hv
      · rw [lkF_snoc]
        by_cases c : y = z
        · rw [if_pos c]
          rfl
        · rw [if_neg c]
          exact h4 y hy
/-- the first tie of two places -/
def isTie (x y : Nm) (t : Ti) : Bool := decide ((t.a = x ∧ t.b = y) ∨ (t.a = y ∧ t.b = x))
abbrev prD (x y : Nm) : PyData := .tuple [.str (SX.S x), .str (SX.S y)]
theorem dt_pr {H : Hp} {u : Addr} {x y : Nm} (e : H u = some (.tup [nS x, nS y])) : Dt SA H (.ref u) (prD x y) := .tup trivial e (by show 2 ≤ 5000; decide) (.cons (.str _) (.cons (.str _) .nil))
theorem shaped_pr {x y : Nm} (hx : IsNm x) (hy : IsNm y) : SeqAt.shaped (prD x y) = true := Bool.and_eq_true_iff.mpr ⟨by
  show (PyData.strOk (SX.S x) && (PyData.strOk (SX.S y) && true)) = true
  rw [nm_ok hx, nm_ok hy]
  rfl, decide_eq_true (by show max 0 (max 0 0) + 1 ≤ 64; decide)⟩
theorem eqv_pr {x y x' y' : Nm} : PyData.eqv (prD x y) (prD x' y') = decide (x = x' ∧ y = y') := by
  show ((SX.S x == SX.S x') && ((SX.S y == SX.S y') && true)) = _
  by_cases h1 : x = x'
  · by_cases h2 : y = y'
    · rw [h1, h2, decide_eq_true ⟨rfl, rfl⟩]
      simp
    · rw [decide_eq_false (fun z => h2 z.2), beq_eq_false_iff_ne.mpr (fun z => h2 (SX.S_inj z))]
      simp
  · rw [decide_eq_false (fun z => h1 z.1), beq_eq_false_iff_ne.mpr (fun z => h1 (SX.S_inj z))]
    simp
section
variable {P : Program} {w : World} {K : PySem.W.Frag} {mg : Str → Option Value} {base : Heap} {k : Nat}
def sp_tie_between : Sp := fun vs H Q _ => ∃ (r : Addr) (x y : Nm) (ls : List Nm) (sts : List (Nm × Nm)) (jns : List (Nm × List Nm)) (tis : List Ti), vs = [.ref r, nS x, nS y] ∧ NetAt H r ls sts jns tis ∧ IsNm x ∧ IsNm y ∧ (∀ t ∈ tis, IsNm t.a ∧ IsNm t.b) ∧
  (∀ H', Same H H' → tis.find? (isTie x y) = none → Q .non H') ∧ ∀ H' u t, Same H H' → tis.find? (isTie x y) = some t → H' u = some (.tup [nS t.ln, .int t.ch]) → Q (.ref u) H'
theorem find_take {α : Type} {f : α → Bool} : ∀ {xs : List α} {i : Nat} {x : α}, xs[i]? = some x → (∀ j y, j < i → xs[j]? = some y → f y = false) → f x = true → xs.find? f = some x
  | [], _, _, h, _, _ => by simp at h
  | a :: r, 0, x, h, _, hx => by
    have := Option.some.inj h
    subst this
    rw [List.find?_cons_of_pos hx]
  | a :: r, i + 1, x, h, hn, hx => by
    rw [List.find?_cons_of_neg (by rw [hn 0 a (Nat.zero_lt_succ _) rfl]; exact Bool.false_ne_true)]
    exact find_take (i := i) h (fun j y hj e => hn (j + 1) y (Nat.succ_lt_succ hj) e) hx
set_option maxHeartbeats 8000000 in
theorem ok_tie_between (T : Defs K mg) : FnOk P w K mg base CX0 (k + 1) T.a_tie_between T.d_tie_between ["net", "place", "far"] sp_tie_between := by
  refine T.F_tie_between.ok sc_tie_between (fun vs H Q E h => ?_) (fun cdv A outer s H vs Q E hr h => ?_)
  · obtain ⟨r, x, y, ls, sts, jns, tis, rfl, _⟩ := h
    rfl
  · obtain ⟨r, x, y, ls, sts, jns, tis, rfl, hnet, nx, ny, hnm, q0, q1⟩ := h
    refine ⟨_, PSs.nox
(pss_cons (ps_for PassesOwn.never rfl (pi_tup (pe_ix (r := rIxT K) ix_tup (pv 0) (pe_int) (fun _ _ => rfl))) (pg_tup rfl (pgs_cons (pg_name (i := 3) sc_tie_between.nd rfl (.inl rfl)) (pgs_cons (pg_name (i := 4) sc_tie_between.nd rfl (.inl rfl)) (pgs_cons (pg_name (i := 5) sc_tie_between.nd rfl (.inl rfl)) (pgs_cons (pg_name (i := 6) sc_tie_between.nd rfl (.inl rfl)) pgs_nil)))))
      (pss_one (ps_if (PW.pt (pw_or (pt_cmpR (r := rEqD K) (op_eqD hr.units) (pe_tup (pa_cons (pv 3) (pa_cons (pv 4) pa_nil))) (pe_tup (pa_cons (pv 1) (pa_cons (pv 2) pa_nil))) (nomark _)) (pw_or1 (pt_cmpR (r := rEqD K) (op_eqD hr.units) (pe_tup (pa_cons (pv 3) (pa_cons (pv 4) pa_nil))) (pe_tup (pa_cons (pv 2) (pa_cons (pv 1) pa_nil))) (nomark _)))))
        (pss_one (ps_ret (pe_tup (pa_cons (pv 5) (pa_cons (pv 6) pa_nil)))))
        pss_nil)))
    (pss_one (ps_ret (pe_non))))
      , ?_⟩
    obtain ⟨a, b, c, d, sa, ja, ta, er, _, _, _, _, _, ed, hti⟩ := id hnet
    refine ⟨.ref r, rfl, r, [.ref a, .ref b, .ref c, .ref d], 3, .ref d, rfl, rfl, SqT.of er, atI_nat (j := 3) rfl, d, rfl, ⟨_, SqT.of ed⟩, ?_⟩
    have tl := paired_len hti
    refine for_it (walk_tup (xs := ta.map V.ref)) (fun i σ H3 => ∃ (y3 y4 y5 y6 : Option V), σ = [some (.ref r), some (nS x), some (nS y), y3, y4, y5, y6] ∧ Same H H3 ∧ ∀ j t, j < i → tis[j]? = some t → isTie x y t = false)
      ⟨_, _, _, _, rfl, .refl _, fun j t hj => absurd hj (Nat.not_lt_zero _)⟩ (fun i σ H3 _ hp => ?_) (fun i v σ H3₀ H3 hi hp yy => ?_) (fun σ H3 hp => ?_)
    · obtain ⟨_, _, _, _, _, s3, _⟩ := hp
      exact SqT.of (s3 _ _ ed)
    · obtain ⟨rfl, ex⟩ := yy
      obtain ⟨y3, y4, y5, y6, rfl, s3, hno⟩ := hp
      obtain ⟨u, eu, rfl⟩ : ∃ u, ta[i]? = some u ∧ v = .ref u := by
        rw [List.getElem?_map] at ex
        cases h : ta[i]? with
        | none => rw [h] at ex; cases ex
        | some t => rw [h] at ex; exact ⟨t, rfl, (Option.some.inj ex).symm⟩
      obtain ⟨t, et, hu⟩ := paired_get hti eu
      have hu3 := s3 _ _ hu
      obtain ⟨na, nb⟩ := hnm t (List.mem_of_getElem? et)
      refine ⟨u, _, rfl, SqT.of hu3, rfl, _, _, rfl, _, _, rfl, _, _, rfl, _, [], rfl, rfl, ?_⟩
      refine ⟨nS t.a, rfl, nS t.b, rfl, two_sz, fun u1 n1 => ?_⟩
      refine ⟨nS x, rfl, nS y, rfl, two_sz, fun u2 n2 => ?_⟩
      refine ⟨_, _, (dt_pr (same_upd n2 _ _ upd_same)).dp, (dt_pr upd_same).dp, shaped_pr na nb, shaped_pr nx ny, _, rfl, ?_⟩
      rw [eqv_pr]
      have s4 := s3.trans ((same_upd (o := .tup [nS t.a, nS t.b]) n1).trans (same_upd (o := .tup [nS x, nS y]) n2))
      generalize upd (upd H3 u1 (.tup [nS t.a, nS t.b])) u2 (.tup [nS x, nS y]) = H4 at s4 ⊢
      refine ite2 (fun c => ?_) (fun c => ?_)
      · have c := of_decide_eq_true c
        refine ⟨nS t.ln, rfl, .int t.ch, rfl, two_sz, fun u3 n3 => q1 _ u3 t (s4.trans (same_upd n3)) (find_take et hno (decide_eq_true (.inl c))) upd_same⟩
      · have c : ¬ (t.a = x ∧ t.b = y) := fun z => c (decide_eq_true z)
        refine ⟨nS t.a, rfl, nS t.b, rfl, two_sz, fun u3 n3 => ?_⟩
        refine ⟨nS y, rfl, nS x, rfl, two_sz, fun u4 n4 => ?_⟩
        refine ⟨_, _, (dt_pr (same_upd n4 _ _ upd_same)).dp, (dt_pr upd_same).dp, shaped_pr na nb, shaped_pr ny nx, _, rfl, ?_⟩
        rw [eqv_pr]
        have s5 := s4.trans ((same_upd (o := .tup [nS t.a, nS t.b]) n3).trans (same_upd (o := .tup [nS y, nS x]) n4))
        generalize upd (upd H4 u3 (.tup [nS t.a, nS t.b])) u4 (.tup [nS y, nS x]) = H5 at s5 ⊢
        refine ite2 (fun c2 => ?_) (fun c2 => ?_)
        · have c2 := of_decide_eq_true c2
          refine ⟨nS t.ln, rfl, .int t.ch, rfl, two_sz, fun u5 n5 => q1 _ u5 t (s5.trans (same_upd n5)) (find_take et hno (decide_eq_true (.inr c2))) upd_same⟩
        · have c2 : ¬ (t.a = y ∧ t.b = x) := fun z => c2 (decide_eq_true z)
          refine ⟨_, _, _, _, rfl, s5, fun j t' hj e => ?_⟩
          by_cases h : j < i
          · exact hno j t' h e
          · rw [show j = i by omega, et] at e
            have := Option.some.inj e
            subst this
            exact decide_eq_false fun z => z.elim c c2
    · obtain ⟨y3, y4, y5, y6, rfl, s3, hno⟩ := hp
      refine q0 _ s3 (List.find?_eq_none.mpr fun t ht => ?_)
      obtain ⟨j, hj⟩ := List.getElem?_of_mem ht
      rw [hno j t (by rw [List.length_map, tl]; exact (List.getElem?_eq_some_iff.mp hj).1) hj]
      exact Bool.false_ne_true
end
/-! the law's own tie -/
theorem in2 {x a b : Nm} : inV (nS x) [nS a, nS b] = decide (a = x ∨ b = x) := by
  show (SX.S a == SX.S x || (SX.S b == SX.S x || false)) = _
  by_cases h1 : a = x
  · rw [h1, decide_eq_true (.inl rfl)]
    simp
  · by_cases h2 : b = x
    · rw [h2, decide_eq_true (.inr rfl)]
      simp
    · rw [decide_eq_false (fun z => z.elim h1 h2), beq_eq_false_iff_ne.mpr (fun z => h1 (SX.S_inj z)), beq_eq_false_iff_ne.mpr (fun z => h2 (SX.S_inj z))]
      rfl
abbrev tiD (t : Ti) : PyData := .tuple [.str (SX.S t.ln), .int t.ch]
theorem dt_ti {H : Hp} {u : Addr} {t : Ti} (e : H u = some (.tup [nS t.ln, .int t.ch])) : Dt SA H (.ref u) (tiD t) := .tup trivial e (by show 2 ≤ 5000; decide) (.cons (.str _) (.cons (.int _) .nil))
theorem lay_ti {t : Ti} (h : IsNm t.ln) : (tiD t).canLay0 = true := by
  show (PyData.strOk (SX.S t.ln) && (true && true)) = true
  rw [nm_ok h]
  rfl
theorem depth_ti (t : Ti) : (tiD t).depth = 1 := rfl
theorem dtAll_ti {H : Hp} : ∀ {fa : List Addr} {ft : List Ti}, Paired (fun a (t : Ti) => H a = some (.tup [nS t.ln, .int t.ch])) fa ft → DtAll SA H (fa.map V.ref) (ft.map tiD)
  | _, _, .nil => .nil
  | _, _, .cons e t => .cons (dt_ti e) (dtAll_ti t)
theorem layAll_ti : ∀ {ft : List Ti}, (∀ t ∈ ft, IsNm t.ln) → PyData.canLayAll0 (ft.map tiD) = true
  | [], _ => rfl
  | t :: r, h => by
    show (PyData.canLay0 (tiD t) && PyData.canLayAll0 (r.map tiD)) = true
    rw [lay_ti (h t (List.mem_cons_self ..)), layAll_ti fun x hx => h x (List.mem_cons_of_mem _ hx)]
    rfl
theorem depthAll_ti : ∀ ft : List Ti, PyData.depthAll (ft.map tiD) ≤ 1
  | [] => Nat.zero_le _
  | t :: r => by
    show max (PyData.depth (tiD t)) (PyData.depthAll (r.map tiD)) ≤ 1
    have := depthAll_ti r
    rw [depth_ti]
    omega
end Th
namespace Th
open PySem PySem.Spec PyProof.Rows L2
/-! ways: the ties along, legs -/
theorem in_nms {x : Nm} {zs : List Nm} : inV (nS x) (zs.map nS) = decide (x ∈ zs) := by
  unfold inV
  by_cases h : x ∈ zs
  · rw [decide_eq_true h, List.any_map]
    exact List.any_eq_true.mpr ⟨x, h, by show (SX.S x == SX.S x) = true; simp⟩
  · rw [decide_eq_false h, List.any_map]
    refine List.any_eq_false.mpr fun y hy z => h ?_
    have z : (SX.S y == SX.S x) = true := z
    rw [← SX.S_inj (eq_of_beq z)]
    exact hy
theorem flat_nms (zs : List Nm) : (zs.map nS).all flatV = true := by
  rw [List.all_map]
  exact List.all_eq_true.mpr fun _ _ => rfl
theorem snoc_or {α : Type} (xs : List α) : xs = [] ∨ ∃ ys y, xs = ys ++ [y] := by
  rcases List.eq_nil_or_concat xs with h | ⟨ys, y, h⟩
  · exact .inl h
  · exact .inr ⟨ys, y, by rw [h, List.concat_eq_append]⟩
/-- the ties along the places -/
structure Al (tis : List Ti) (ws : List Nm) (ts : List Ti) : Prop where
  len : ts.length + 1 = ws.length
  tie : ∀ i t, ts[i]? = some t → ∃ x y, ws[i]? = some x ∧ ws[i + 1]? = some y ∧ tis.find? (isTie x y) = some t
/-- a way and the net's ties -/
structure WayOk (tis : List Ti) (ws : List Nm) (ts : List Ti) : Prop where
  al : Al tis ws ts
  nm : ∀ z ∈ ws, IsNm z
  l28 : ws.length ≤ 28
  l2 : 2 ≤ ws.length
  t40 : tis.length ≤ 40
  ti : ∀ t ∈ tis, IsNm t.a ∧ IsNm t.b ∧ IsNm t.ln ∧ t.a ≠ t.b ∧ t.ch ≤ 9999
theorem WayOk.ti' {tis : List Ti} {ws : List Nm} {ts : List Ti} (h : WayOk tis ws ts) : ∀ t ∈ ts, t ∈ tis := fun t ht => by
  obtain ⟨i, hi⟩ := List.getElem?_of_mem ht
  obtain ⟨x, y, _, _, e⟩ := h.al.tie i t hi
  exact List.mem_of_find?_eq_some e
abbrev tiP (t : Ti) : Nm × Nat := (t.ln, t.ch)
def PrA (H : Hp) (a : Addr) (g : Nm × Nat) : Prop := H a = some (.tup [nS g.1, .int g.2])
/-- a list of pairs of a line and chains -/
def LgA (H : Hp) (D : Addr) (gs : List (Nm × Nat)) : Prop := ∃ fa : List Addr, H D = some (.lst (fa.map V.ref)) ∧ Paired (PrA H) fa gs
theorem LgA.same {H H' : Hp} {D : Addr} {gs : List (Nm × Nat)} (h : LgA H D gs) (s : Same H H') : LgA H' D gs := let ⟨fa, e, p⟩ := h; ⟨fa, s _ _ e, paired_imp p fun a _ g q => s _ _ q⟩
theorem up0 {H H' : Hp} {p : Addr} (s : Same H H') (n : H' p = none) : H p = none := by
  cases e : H p with
  | none => rfl
  | some o => rw [s _ _ e] at n; cases n
/-- one step of the legs -/
def leg (acc : List (Nm × Nat)) (x : Nm × Nat) : List (Nm × Nat) := match acc.getLast? with
  | some g => if g.1 = x.1 then acc.dropLast ++ [(x.1, g.2 + x.2)] else acc ++ [x]
  | none => acc ++ [x]
def legsM (xs : List (Nm × Nat)) : List (Nm × Nat) := xs.foldl leg []
theorem legsM_snoc (xs : List (Nm × Nat)) (x : Nm × Nat) : legsM (xs ++ [x]) = leg (legsM xs) x := by
  unfold legsM
  rw [List.foldl_append]
  rfl
theorem leg_nil (x : Nm × Nat) : leg [] x = [x] := rfl
theorem leg_one {acc : List (Nm × Nat)} {g x : Nm × Nat} (h : g.1 = x.1) : leg (acc ++ [g]) x = acc ++ [(x.1, g.2 + x.2)] := by
  unfold leg
  rw [List.getLast?_concat, List.dropLast_concat]
  exact if_pos h
theorem leg_two {acc : List (Nm × Nat)} {g x : Nm × Nat} (h : ¬ g.1 = x.1) : leg (acc ++ [g]) x = acc ++ [g] ++ [x] := by
  unfold leg
  rw [List.getLast?_concat]
  exact if_neg h
theorem leg_len (acc : List (Nm × Nat)) (x : Nm × Nat) : (leg acc x).length ≤ acc.length + 1 := by
  rcases snoc_or acc with rfl | ⟨as, g, rfl⟩
  · rw [leg_nil]; simp
  · by_cases h : g.1 = x.1
    · rw [leg_one h]; simp
    · rw [leg_two h]; simp
theorem legsM_len : ∀ (n : Nat) (xs : List (Nm × Nat)), xs.length = n → (legsM xs).length ≤ n
  | 0, xs, h => by rw [List.length_eq_zero_iff.mp h]; exact Nat.le_refl _
  | n + 1, xs, h => by
    rcases snoc_or xs with rfl | ⟨as, g, rfl⟩
    · simp at h
    · rw [legsM_snoc]
      have := leg_len (legsM as) g
      have := legsM_len n as (by simpa using h)
      omega
theorem legsM_mem : ∀ (n : Nat) (xs : List (Nm × Nat)), xs.length = n → ∀ g ∈ legsM xs, ∃ x ∈ xs, x.1 = g.1
  | 0, xs, h, g, hg => by rw [List.length_eq_zero_iff.mp h] at hg; cases hg
  | n + 1, xs, h, g, hg => by
    rcases snoc_or xs with rfl | ⟨as, x, rfl⟩
    · simp at h
    · rw [legsM_snoc] at hg
      have ih := legsM_mem n as (by simpa using h)
      have elder : g ∈ legsM as → ∃ y ∈ as ++ [x], y.1 = g.1 := fun hg => by
        obtain ⟨y, hy, e⟩ := ih g hg
        exact ⟨y, List.mem_append_left _ hy, e⟩
      have own : g.1 = x.1 → ∃ y ∈ as ++ [x], y.1 = g.1 := fun e => ⟨x, by simp, e.symm⟩
      rcases snoc_or (legsM as) with e | ⟨bs, b, e⟩
      · rw [e, leg_nil] at hg
        rw [List.mem_singleton.mp hg]
        exact ⟨x, by simp, rfl⟩
      · rw [e] at hg
        by_cases c : b.1 = x.1
        · rw [leg_one c] at hg
          rcases List.mem_append.mp hg with z | z
          · exact elder (by rw [e]; exact List.mem_append_left _ z)
          · rw [List.mem_singleton.mp z]
            exact ⟨x, by simp, rfl⟩
        · rw [leg_two c] at hg
          rcases List.mem_append.mp hg with z | z
          · exact elder (by rw [e]; exact z)
          · rw [List.mem_singleton.mp z]
            exact ⟨x, by simp, rfl⟩
theorem paired_inv {α β : Type} {R : α → β → Prop} {fa : List α} {bs : List β} {b : β} (h : Paired R fa (bs ++ [b])) : ∃ fi f, fa = fi ++ [f] ∧ Paired R fi bs ∧ R f b := by
  have l := paired_len h
  rcases snoc_or fa with rfl | ⟨fi, f, rfl⟩
  · simp at l
  · have l2 : fi.length = bs.length := by simpa using l
    refine ⟨fi, f, rfl, ?_, ?_⟩
    · have := paired_take fi.length h
      rw [List.take_left, l2, List.take_left] at this
      exact this
    · have := paired_drop fi.length h
      rw [List.drop_left, l2, List.drop_left] at this
      cases this with
      | cons q _ => exact q
theorem cutV_one {α : Type} (xs : List V) : cutV xs (some 1) none = xs.drop 1 := by
  cases xs with
  | nil => rfl
  | cons x xs =>
    unfold cutV
    have e1 : HT.sIx (x :: xs).length 0 (some 1) = 1 := by
      unfold HT.sIx
      simp
      try omega
    have e2 : HT.sIx (x :: xs).length (x :: xs).length none = (x :: xs).length := rfl
    rw [e1, e2]
    rw [List.take_of_length_le]
    rw [List.length_drop]
    exact Nat.le_refl _
section
variable {P : Program} {w : World} {K : PySem.W.Frag} {mg : Str → Option Value} {base : Heap} {k : Nat}
def sp_ties_along : Sp := fun vs H Q _ => ∃ (r wy : Addr) (ls : List Nm) (sts : List (Nm × Nm)) (jns : List (Nm × List Nm)) (tis : List Ti) (ws : List Nm) (ts : List Ti), vs = [.ref r, .ref wy] ∧ NetAt H r ls sts jns tis ∧ H wy = some (.tup (ws.map nS)) ∧ WayOk tis ws ts ∧
  ∀ H' D, Same H H' → H D = none → LgA H' D (ts.map tiP) → Q (.ref D) H'
set_option maxHeartbeats 8000000 in
theorem ok_ties_along (T : Defs K mg) : FnOk P w K mg base CX0 (k + 2) T.a_ties_along T.d_ties_along ["net", "way"] sp_ties_along := by
  have G_tie_between : FnOk P w K mg base CX0 (k + 1) _ _ _ _ := ok_tie_between T
  refine T.F_ties_along.ok sc_ties_along (fun vs H Q E h => ?_) (fun cdv A outer s H vs Q E hr h => ?_)
  · obtain ⟨r, wy, ls, sts, jns, tis, ws, ts, rfl, _⟩ := h
    rfl
  · obtain ⟨r, wy, ls, sts, jns, tis, ws, ts, rfl, hnet, ewy, hw, q⟩ := h
    refine ⟨_, PSs.nox
(pss_one (ps_ret (pe_lc (own := [("place", 2), ("far", 3)]) (g := gTup K 2 (gCons (gName 2) (gCons (gName 3) gNil))) rfl sc_ties_along.nd (RZ.pi_zipA (by rfl) T.z_zip (pa_cons (pv 1) (pa_cons (pe_slice (r := rSlS K) sl_tupS (pv 1) (po_some (pe_int)) po_none) pa_nil))) (blkOk_by (N := N_ties_along) (sc := defScope s_ties_along) (by decide +kernel)) (fun _ _ _ _ _ => (pg_tup rfl (pgs_cons (pg_name (i := 2) sc_ties_along.nd rfl (.inl rfl)) (pgs_cons (pg_name (i := 3) sc_ties_along.nd rfl (.inl rfl)) pgs_nil)))) (fun _ _ _ _ _ => pts_nil) (fun _ _ _ _ _ => (pe_call G_tie_between hr (by rfl) T.g_tie_between T.F_tie_between.kp T.b_tie_between .nil pass0 (pa_cons (pv 0) (pa_cons (pv 2) (pa_cons (pv 3) pa_nil))))))))
      , ?_⟩
    refine ⟨.ref wy, rfl, .ref wy, rfl, 1, rfl, wy, _, rfl, ewy, fun c H1 s1 ec => ?_⟩
    rw [cutV_one (α := Nat)] at ec
    refine ⟨wy, c, _, _, rfl, .inr ⟨SqT.of (s1 _ _ ewy), SqT.of ec, fun D nD => ?_⟩⟩
    have nD0 := up0 s1 nD
    refine lc_it (walk_zipT (n := ts.length) (xs := ws.map nS) (ys := (ws.map nS).drop 1) (by have := hw.al.len; rw [List.length_drop, List.length_map]; omega)) (fun i H3 => Same H H3 ∧ Same H1 H3 ∧ LgA H3 D ((ts.take i).map tiP)) ⟨s1.trans (same_upd nD), same_upd nD, [], upd_same, .nil⟩ (fun i H3 _ pv => ⟨SqT.of (pv.1 _ _ ewy), SqT.of (pv.2.1 _ _ ec)⟩) (fun i v H3 H4 hi pv yy => ?_) (fun H3 pv => ?_)
    · obtain ⟨U, x, y, rfl, nU, rfl, ex, ey⟩ := yy
      obtain ⟨s3, s31, fa, eD, hfa⟩ := pv
      obtain ⟨t, et⟩ : ∃ t, ts[i]? = some t := ⟨_, List.getElem?_eq_getElem hi⟩
      obtain ⟨x', y', ex', ey', hf⟩ := hw.al.tie i t et
      have e1 : nS x' = x := Option.some.inj ((by rw [List.getElem?_map, ex']; rfl : (ws.map nS)[i]? = some (nS x')).symm.trans ex)
      have e2 : nS y' = y := Option.some.inj ((by rw [List.getElem?_drop, List.getElem?_map, Nat.add_comm 1 i, ey']; rfl : ((ws.map nS).drop 1)[i]? = some (nS y')).symm.trans ey)
      subst e1 e2
      have s4 := s3.trans (same_upd (o := .tup [nS x', nS y']) nU)
      refine ⟨U, _, rfl, SqT.of upd_same, rfl, nS x', [nS y'], rfl, nS y', [], rfl, rfl, rfl, yes_ ?_⟩
      refine ⟨.ref r, rfl, nS x', rfl, nS y', rfl, r, x', y', ls, sts, jns, tis, rfl, hnet.tk (.of s4), hw.nm _ (List.mem_of_getElem? ex'), hw.nm _ (List.mem_of_getElem? ey'), fun t ht => ⟨(hw.ti t ht).1, (hw.ti t ht).2.1⟩, fun H5 _ z => ?_, fun H5 u t' s5 z eu => ?_⟩
      · rw [hf] at z
        cases z
      · rw [hf] at z
        have := Option.some.inj z
        subst this
        have s45 : Same H3 H5 := (same_upd (o := .tup [nS x', nS y']) nU).trans s5
        have l28 := hw.l28
        have ll := hw.al.len
        refine ⟨_, s45 _ _ eD, by rw [List.length_map, paired_len hfa, List.length_map, List.length_take]; exact small5000 (by omega), same_set (s3.trans s45) nD0, same_set (s31.trans s45) nD, fa ++ [u], by rw [upd_same, List.map_append]; rfl, ?_⟩
        rw [List.take_add_one, et, List.map_append]
        have eD5 := s45 _ _ eD
        have tkD : TK H5 (upd H5 D (.lst (fa.map V.ref ++ [.ref u]))) := .upd fun xs e => by rw [eD5] at e; cases e
        exact paired_snoc (paired_imp hfa fun a _ g e => tkD _ _ (s45 _ _ e)) (tkD _ _ eu)
    · obtain ⟨s3, _, h⟩ := pv
      rw [List.take_length] at h
      exact q _ D s3 nD0 h
end
end Th
namespace Th
open PySem PySem.Spec PyProof.Rows L2
/-! legs, by the program and by the law -/
theorem ixN_last {α : Type} (xs : List α) (x : α) : ixN (xs ++ [x]).length (-1) = some xs.length := by
  unfold ixN
  rw [List.length_append, List.length_singleton, if_neg (by decide), if_pos (by omega)]
  congr 1
  omega
theorem eq_nS {x y : Nm} : decide (nS x = nS y) = decide (x = y) := by
  by_cases h : x = y
  · rw [h, decide_eq_true rfl, decide_eq_true rfl]
  · rw [decide_eq_false h, decide_eq_false fun z => h (SX.S_inj (V.str.inj z))]
/-- the state of a list of legs under way -/
structure LegSt (H H3 : Hp) (F : Addr) (gs : List (Nm × Nat)) : Prop where
  s : Same H H3
  at' : LgA H3 F gs
theorem LegSt.app {H H3 : Hp} {F u : Addr} {gs : List (Nm × Nat)} {x : Nm × Nat} {fa : List Addr} (nF : H F = none) (s : Same H H3) (eF : H3 F = some (.lst (fa.map V.ref))) (hfa : Paired (PrA H3) fa gs) (nu : H3 u = none) :
    LegSt H (upd (upd H3 u (.tup [nS x.1, .int x.2])) F (.lst (fa.map V.ref ++ [.ref u]))) F (gs ++ [x]) := by
  have s4 := same_upd (o := .tup [nS x.1, .int x.2]) nu
  have eF4 := s4 _ _ eF
  have tkD : TK (upd H3 u (.tup [nS x.1, .int x.2])) (upd (upd H3 u (.tup [nS x.1, .int x.2])) F (.lst (fa.map V.ref ++ [.ref u]))) := .upd fun xs e => by rw [eF4] at e; cases e
  exact ⟨same_set (s.trans s4) nF, fa ++ [u], by rw [upd_same, List.map_append]; rfl, paired_snoc (paired_imp hfa fun a _ g e => tkD _ _ (s4 _ _ e)) (tkD _ _ upd_same)⟩
theorem LegSt.put {H H3 : Hp} {F u f : Addr} {gs : List (Nm × Nat)} {x : Nm × Nat} {fi : List Addr} (nF : H F = none) (s : Same H H3) (eF : H3 F = some (.lst ((fi ++ [f]).map V.ref))) (hfa : Paired (PrA H3) fi gs) (nu : H3 u = none) :
    LegSt H (upd (upd H3 u (.tup [nS x.1, .int x.2])) F (.lst (((fi ++ [f]).map V.ref).set fi.length (.ref u)))) F (gs ++ [x]) := by
  have e : ((fi ++ [f]).map V.ref).set fi.length (.ref u) = fi.map V.ref ++ [.ref u] := by
    rw [List.map_append]
    show (fi.map V.ref ++ [V.ref f]).set fi.length (.ref u) = _
    rw [List.set_append_right _ _ (by rw [List.length_map]; exact Nat.le_refl _), List.length_map, Nat.sub_self]
    rfl
  rw [e]
  have s4 := same_upd (o := .tup [nS x.1, .int x.2]) nu
  have eF4 := s4 _ _ eF
  have tkD : TK (upd H3 u (.tup [nS x.1, .int x.2])) (upd (upd H3 u (.tup [nS x.1, .int x.2])) F (.lst (fi.map V.ref ++ [.ref u]))) := .upd fun xs e => by rw [eF4] at e; cases e
  exact ⟨same_set (s.trans s4) nF, fi ++ [u], by rw [upd_same, List.map_append]; rfl, paired_snoc (paired_imp hfa fun a _ g e => tkD _ _ (s4 _ _ e)) (tkD _ _ upd_same)⟩
section
variable {P : Program} {w : World} {K : PySem.W.Frag} {mg : Str → Option Value} {base : Heap} {k : Nat}
def sp_legs : Sp := fun vs H Q _ => ∃ (r wy : Addr) (ls : List Nm) (sts : List (Nm × Nm)) (jns : List (Nm × List Nm)) (tis : List Ti) (ws : List Nm) (ts : List Ti), vs = [.ref r, .ref wy] ∧ NetAt H r ls sts jns tis ∧ H wy = some (.tup (ws.map nS)) ∧ WayOk tis ws ts ∧
  ∀ H' D, Same H H' → H D = none → LgA H' D (legsM (ts.map tiP)) → Q (.ref D) H'
set_option maxHeartbeats 8000000 in
theorem ok_legs (T : Defs K mg) : FnOk P w K mg base CX0 (k + 3) T.a_legs T.d_legs ["net", "way"] sp_legs := by
  have G_ties_along : FnOk P w K mg base CX0 (k + 2) _ _ _ _ := ok_ties_along T
  refine T.F_legs.ok sc_legs (fun vs H Q E h => ?_) (fun cdv A outer s H vs Q E hr h => ?_)
  · obtain ⟨r, wy, ls, sts, jns, tis, ws, ts, rfl, _⟩ := h
    rfl
  · obtain ⟨r, wy, ls, sts, jns, tis, ws, ts, rfl, hnet, ewy, hw, q⟩ := h
    refine ⟨_, PSs.nox
(pss_cons (ps_set (i := 2) sc_legs.nd rfl (.inl rfl) (pe_lst pa_nil))
    (pss_cons (ps_for PassesOwn.never rfl (pi_list (pe_call G_ties_along hr (by rfl) T.g_ties_along T.F_ties_along.kp T.b_ties_along .nil pass0 (pa_cons (pv 0) (pa_cons (pv 1) pa_nil)))) (pg_tup rfl (pgs_cons (pg_name (i := 3) sc_legs.nd rfl (.inl rfl)) (pgs_cons (pg_name (i := 4) sc_legs.nd rfl (.inl rfl)) pgs_nil)))
      (pss_one (ps_if (PW.pt (pw_and (pt_truth (pv 2) (by intro _; rfl)) (pw_and1 (pt_cmpR op_eq (pe_ix (r := rIxT K) ix_tup (pe_ix (r := rIxL K) ix_list (pv 2) (pe_un un_neg (pe_int)) (fun _ _ => rfl)) (pe_int) (fun _ _ => rfl)) (pv 3) (nomark _)))))
        (pss_one (ps_asg (pe_tup (pa_cons (pv 3) (pa_cons (pe_op op_add (pe_ix (r := rIxT K) ix_tup (pe_ix (r := rIxL K) ix_list (pv 2) (pe_un un_neg (pe_int)) (fun _ _ => rfl)) (pe_int) (fun _ _ => rfl)) (pv 4)) pa_nil))) (pg_sub (pv 2) (pe_un un_neg (pe_int)) set_list)))
        (pss_one (ps_expr (pe_bm PySem.F.plainAttrs_list PySem.F.slot_list_append PySem.F.type_list_append mt_append (pv 2) (pa_cons (pe_tup (pa_cons (pv 3) (pa_cons (pv 4) pa_nil))) pa_nil)))))))
    (pss_one (ps_ret (pv 2)))))
      , ?_⟩
    refine ⟨Nat.zero_le _, fun F nF => ?_⟩
    have s1 := same_upd (o := .lst []) nF
    refine ⟨.ref r, rfl, .ref wy, rfl, r, wy, ls, sts, jns, tis, ws, ts, rfl, hnet.tk (.of s1), s1 _ _ ewy, hw, fun H2 D s2 nD hD => ?_⟩
    obtain ⟨da, eD, hda⟩ := hD
    have s12 := s1.trans s2
    have nFD : F ≠ D := fun e => by rw [← e, upd_same] at nD; cases nD
    have l28 := hw.l28
    have ll := hw.al.len
    have dl := paired_len hda
    rw [List.length_map] at dl
    refine ⟨D, rfl, ⟨_, SqL.of eD⟩, ?_⟩
    refine for_it (walk_list (xs := da.map V.ref)) (fun i σ H3 => ∃ (y3 y4 : Option V), σ = [some (.ref r), some (.ref wy), some (.ref F), y3, y4] ∧ H3 D = some (.lst (da.map V.ref)) ∧ Paired (PrA H3) da (ts.map tiP) ∧ LegSt H H3 F (legsM ((ts.map tiP).take i)))
      ⟨_, _, rfl, eD, hda, ⟨s12, [], s2 _ _ upd_same, .nil⟩⟩ (fun i σ H3 _ hp => ?_) (fun i v σ H3₀ H3 hi hp yy => ?_) (fun σ H3 hp => ?_)
    · obtain ⟨_, _, _, e, _⟩ := hp
      exact SqL.of e
    · obtain ⟨rfl, ex⟩ := yy
      obtain ⟨y3, y4, rfl, eD3, hda3, s3, fa, eF, hfa⟩ := hp
      rw [List.length_map] at hi
      obtain ⟨u, eu, rfl⟩ : ∃ u, da[i]? = some u ∧ v = .ref u := by
        rw [List.getElem?_map] at ex
        cases h : da[i]? with
        | none => rw [h] at ex; cases ex
        | some t => rw [h] at ex; exact ⟨t, rfl, (Option.some.inj ex).symm⟩
      obtain ⟨x, et, hu⟩ := paired_get hda3 eu
      have tk1 : legsM ((ts.map tiP).take (i + 1)) = leg (legsM ((ts.map tiP).take i)) x := by
        rw [List.take_add_one, et]
        exact legsM_snoc _ _
      have gl : (legsM ((ts.map tiP).take i)).length ≤ 28 := by
        have := legsM_len _ ((ts.map tiP).take i) rfl
        rw [List.length_take, List.length_map] at this
        omega
      have fl := paired_len hfa
      refine ⟨u, _, rfl, SqT.of hu, rfl, _, _, rfl, _, [], rfl, rfl, ?_⟩
      have keepD : ∀ {u' : Addr} {o o' : HO}, H3 u' = none → ∀ c o1, c ≠ F → H3 c = some o1 → (upd (upd H3 u' o) F o') c = some o1 := fun {u' o o'} nu c o1 nc e => by
        rw [upd_ne nc]
        exact same_upd nu _ _ e
      have keepT : ∀ {u' : Addr} {o : HO} {o' : HO}, H3 u' = none → Paired (PrA (upd (upd H3 u' o) F o')) da (ts.map tiP) := fun {u' o o'} nu => paired_imp hda3 fun a _ g e => keepD nu a _ (fun z => by rw [z] at e; exact absurd (eF.symm.trans e) (by simp)) e
      have app : ∀ u', H3 u' = none → ∃ (y3 y4 : Option V), [some (V.ref r), some (.ref wy), some (.ref F), some (nS x.1), some (.int x.2)] = [some (.ref r), some (.ref wy), some (.ref F), y3, y4] ∧ (upd (upd H3 u' (.tup [nS x.1, .int x.2])) F (.lst (fa.map V.ref ++ [.ref u']))) D = some (.lst (da.map V.ref)) ∧ Paired (PrA (upd (upd H3 u' (.tup [nS x.1, .int x.2])) F (.lst (fa.map V.ref ++ [.ref u'])))) da (ts.map tiP) ∧ LegSt H (upd (upd H3 u' (.tup [nS x.1, .int x.2])) F (.lst (fa.map V.ref ++ [.ref u']))) F (legsM ((ts.map tiP).take i) ++ [x]) := fun u' nu =>
        ⟨_, _, rfl, keepD nu _ _ nFD.symm eD3, keepT nu, LegSt.app nF s3 eF hfa nu⟩
      rcases snoc_or (legsM ((ts.map tiP).take i)) with e0 | ⟨bs, g, e0⟩
      · rw [e0] at hfa fl
        have : fa = [] := List.length_eq_zero_iff.mp fl
        subst this
        refine ⟨.ref F, rfl, _, .inl ⟨_, SqL.of eF, rfl⟩, iteF (iteF ?_)⟩
        refine ⟨.ref F, rfl, .inl ⟨rfl, _, SqL.of eF⟩, nS x.1, rfl, .int x.2, rfl, two_sz, fun u' nu => ⟨F, _, _, rfl, rfl, same_upd nu _ _ eF, small5000 (by decide), ?_⟩⟩
        rw [tk1, e0, leg_nil]
        have := app u' nu
        rw [e0] at this
        exact this
      · rw [e0] at hfa gl
        obtain ⟨fi, f, rfl, hfi, hf⟩ := paired_inv hfa
        have lastR : atI ((fi ++ [f]).map V.ref) (-1) = some (.ref f) := by
          rw [List.map_append]
          exact atI_last _ _
        refine ⟨.ref F, rfl, _, .inl ⟨_, SqL.of eF, rfl⟩, ?_⟩
        rw [show (!((fi ++ [f]).map V.ref).isEmpty) = true by cases fi <;> rfl]
        refine iteT ?_
        refine ⟨.ref F, rfl, 1, rfl, F, _, -1, .ref f, rfl, rfl, SqL.of eF, lastR, f, _, 0, nS g.1, rfl, rfl, SqT.of hf, atI_nat (j := 0) rfl, nS x.1, rfl, rfl, _, rfl, ite2 (fun c => ?_) (fun c => ?_)⟩
        · have c : g.1 = x.1 := of_decide_eq_true (eq_nS.symm.trans c)
          refine ⟨nS x.1, rfl, .ref F, rfl, 1, rfl, F, _, -1, .ref f, rfl, rfl, SqL.of eF, lastR, f, _, 1, .int g.2, rfl, rfl, SqT.of hf, atI_nat (j := 1) rfl, .int x.2, rfl, _, _, rfl, rfl, two_sz, fun u' nu => ?_⟩
          refine ⟨.ref F, rfl, 1, rfl, F, _, -1, fi.length, rfl, rfl, same_upd nu _ _ eF, by rw [List.length_map]; exact ixN_last _ _, ?_⟩
          rw [tk1, e0, leg_one c]
          refine ⟨_, _, rfl, keepD nu _ _ nFD.symm eD3, keepT nu, ?_⟩
          exact LegSt.put (x := (x.1, g.2 + x.2)) nF s3 eF hfi nu
        · have c : ¬ g.1 = x.1 := fun z => c (eq_nS.trans (decide_eq_true z))
          refine ⟨.ref F, rfl, .inl ⟨rfl, _, SqL.of eF⟩, nS x.1, rfl, .int x.2, rfl, two_sz, fun u' nu => ⟨F, _, _, rfl, rfl, same_upd nu _ _ eF, by rw [List.length_map, fl, e0]; exact small5000 (by omega), ?_⟩⟩
          rw [tk1, e0, leg_two c]
          have := app u' nu
          rw [e0] at this
          exact this
    · obtain ⟨y3, y4, rfl, _, _, h⟩ := hp
      have tl : (da.map V.ref).length = (ts.map tiP).length := by rw [List.length_map, dl, List.length_map]
      rw [tl, List.take_length] at h
      exact ⟨.ref F, rfl, q _ F h.s nF h.at'⟩
end
end Th
namespace Th
open PySem PySem.Spec PyProof.Rows L2
/-! the legs as data; the law's own legs -/
abbrev lgE (g : Nm × Nat) : PyData := .tuple [.str (SX.S g.1), .int g.2]
abbrev lgD (gs : List (Nm × Nat)) : PyData := .list (gs.map lgE)
theorem dtAll_lg {H : Hp} : ∀ {fa : List Addr} {gs : List (Nm × Nat)}, Paired (PrA H) fa gs → DtAll SA H (fa.map V.ref) (gs.map lgE)
  | _, _, .nil => .nil
  | _, _, .cons e t => .cons (.tup trivial e (by show 2 ≤ 5000; decide) (.cons (.str _) (.cons (.int _) .nil))) (dtAll_lg t)
theorem LgA.dt {H : Hp} {D : Addr} {gs : List (Nm × Nat)} (h : LgA H D gs) (l : gs.length ≤ 5000) : Dt SA H (.ref D) (lgD gs) := by
  obtain ⟨fa, e, p⟩ := h
  exact .lst trivial e (by rw [List.length_map, paired_len p]; exact l) (dtAll_lg p)
theorem layAll_lg : ∀ {gs : List (Nm × Nat)}, (∀ g ∈ gs, IsNm g.1) → PyData.canLayAll0 (gs.map lgE) = true
  | [], _ => rfl
  | t :: r, h => by
    show (PyData.canLay0 (lgE t) && PyData.canLayAll0 (r.map lgE)) = true
    have : PyData.canLay0 (lgE t) = true := by
      show (PyData.strOk (SX.S t.1) && (true && true)) = true
      rw [nm_ok (h t (List.mem_cons_self ..))]
      rfl
    rw [this, layAll_lg fun x hx => h x (List.mem_cons_of_mem _ hx)]
    rfl
theorem depthAll_lg : ∀ gs : List (Nm × Nat), PyData.depthAll (gs.map lgE) ≤ 1
  | [] => Nat.zero_le _
  | t :: r => by
    show max (PyData.depth (lgE t)) (PyData.depthAll (r.map lgE)) ≤ 1
    have := depthAll_lg r
    have e : PyData.depth (lgE t) = 1 := rfl
    rw [e]
    omega
theorem lay_lg {gs : List (Nm × Nat)} (h : ∀ g ∈ gs, IsNm g.1) : (lgD gs).canLay0 = true := layAll_lg h
theorem depth_lg (gs : List (Nm × Nat)) : (lgD gs).depth ≤ 2 := by
  show PyData.depthAll _ + 1 ≤ 2
  have := depthAll_lg gs
  omega
theorem shaped_lg {gs : List (Nm × Nat)} (h : ∀ g ∈ gs, IsNm g.1) : SeqAt.shaped (lgD gs) = true := Bool.and_eq_true_iff.mpr ⟨lay_lg h, decide_eq_true (by have := depth_lg gs; omega)⟩
theorem legs_nm {tis : List Ti} {ws : List Nm} {ts : List Ti} (hw : WayOk tis ws ts) (xs : List (Nm × Nat)) (hx : ∀ x ∈ xs, x ∈ ts.map tiP) : ∀ g ∈ legsM xs, IsNm g.1 := fun g hg => by
  obtain ⟨x, hx1, e⟩ := legsM_mem _ xs rfl g hg
  obtain ⟨t, ht, rfl⟩ := List.mem_map.mp (hx x hx1)
  rw [← e]
  exact (hw.ti t (hw.ti' t ht)).2.2.1
theorem WayOk.get {tis : List Ti} {ws : List Nm} {ts : List Ti} (hw : WayOk tis ws ts) {i : Nat} (hi : i < ts.length) : ∃ x y t, ts[i]? = some t ∧ ws[i]? = some x ∧ ws[i + 1]? = some y ∧ tis.find? (isTie x y) = some t := by
  obtain ⟨x, y, h1, h2, h3⟩ := hw.al.tie i ts[i] (List.getElem?_eq_getElem hi)
  exact ⟨x, y, _, List.getElem?_eq_getElem hi, h1, h2, h3⟩
theorem at_ws {ws : List Nm} {i : Nat} {x : Nm} (h : ws[i]? = some x) : (ws.map nS)[i]? = some (nS x) := by rw [List.getElem?_map, h]; rfl
end Th
namespace Th
open PySem PySem.Spec PyProof.Rows L2
/-! each line's chains, by the program and by the law -/
def ded (gs : List (Nm × Nat)) : List Nm := gs.foldl (fun a g => if g.1 ∈ a then a else a ++ [g.1]) []
def sm (l : Nm) (gs : List (Nm × Nat)) : Nat := ((gs.filter fun g => decide (g.1 = l)).map (·.2)).sum
theorem ded_snoc (gs : List (Nm × Nat)) (g : Nm × Nat) : ded (gs ++ [g]) = if g.1 ∈ ded gs then ded gs else ded gs ++ [g.1] := by
  unfold ded
  rw [List.foldl_append]
  rfl
theorem sm_snoc (l : Nm) (gs : List (Nm × Nat)) (g : Nm × Nat) : sm l (gs ++ [g]) = sm l gs + if g.1 = l then g.2 else 0 := by
  unfold sm
  rw [List.filter_append, List.map_append, List.sum_append]
  congr 1
  by_cases c : g.1 = l
  · rw [if_pos c]
    simp [c]
  · rw [if_neg c]
    simp [c]
theorem ded_mem : ∀ (n : Nat) (gs : List (Nm × Nat)), gs.length = n → ∀ l, l ∈ ded gs ↔ ∃ g ∈ gs, g.1 = l
  | 0, gs, h, l => by
    rw [List.length_eq_zero_iff.mp h]
    exact ⟨fun z => (by cases z), fun ⟨g, hg, _⟩ => (by cases hg)⟩
  | n + 1, gs, h, l => by
    rcases snoc_or gs with rfl | ⟨as, x, rfl⟩
    · simp at h
    · have ih := ded_mem n as (by simpa using h)
      rw [ded_snoc]
      by_cases c : x.1 ∈ ded as
      · rw [if_pos c, ih l]
        constructor
        · rintro ⟨g, hg, e⟩
          exact ⟨g, List.mem_append_left _ hg, e⟩
        · rintro ⟨g, hg, e⟩
          rcases List.mem_append.mp hg with z | z
          · exact ⟨g, z, e⟩
          · rw [List.mem_singleton.mp z] at e
            rw [← e]
            exact (ih x.1).mp c
      · rw [if_neg c, List.mem_append, List.mem_singleton, ih l]
        constructor
        · rintro (⟨g, hg, e⟩ | e)
          · exact ⟨g, List.mem_append_left _ hg, e⟩
          · exact ⟨x, by simp, e.symm⟩
        · rintro ⟨g, hg, e⟩
          rcases List.mem_append.mp hg with z | z
          · exact .inl ⟨g, z, e⟩
          · rw [List.mem_singleton.mp z] at e
            exact .inr e.symm
theorem ded_len : ∀ (n : Nat) (gs : List (Nm × Nat)), gs.length = n → (ded gs).length ≤ n
  | 0, gs, h => by rw [List.length_eq_zero_iff.mp h]; exact Nat.le_refl _
  | n + 1, gs, h => by
    rcases snoc_or gs with rfl | ⟨as, x, rfl⟩
    · simp at h
    · have ih := ded_len n as (by simpa using h)
      rw [ded_snoc]
      split
      · omega
      · rw [List.length_append, List.length_singleton]
        omega
theorem sm_none {l : Nm} {gs : List (Nm × Nat)} (h : l ∉ ded gs) : sm l gs = 0 := by
  have : gs.filter (fun g => decide (g.1 = l)) = [] := List.filter_eq_nil_iff.mpr fun g hg => by
    simp only [decide_eq_true_eq]
    exact fun e => h ((ded_mem _ gs rfl l).mpr ⟨g, hg, e⟩)
  unfold sm
  rw [this]
  rfl
abbrev kyL (l : Nm) : Key := Sum.inr (SX.S l)
def chK (gs : List (Nm × Nat)) : List (Key × V) := (ded gs).map fun l => (kyL l, V.int (sm l gs : Nat))
def chM (gs : List (Nm × Nat)) : List (Nm × Nat) := (ded gs).map fun l => (l, sm l gs)
theorem ky_inj {a b : Nm} (h : kyL a = kyL b) : a = b := SX.S_inj (Sum.inr.inj h)
theorem val_map {f : Nm → V} : ∀ (ls : List Nm) (l : Nm), valV (ls.map fun l => (kyL l, f l)) (kyL l) = if l ∈ ls then some (f l) else none
  | [], l => by simp [valV]
  | x :: r, l => by
    by_cases c : x = l
    · subst c
      rw [if_pos (List.mem_cons_self ..)]
      exact valV_pos rfl
    · have ih := val_map (f := f) r l
      unfold valV at ih ⊢
      rw [List.map_cons, List.find?_cons_of_neg (by simp only [decide_eq_true_eq]; exact fun z => c (ky_inj z)), ih]
      by_cases d : l ∈ r
      · rw [if_pos d, if_pos (List.mem_cons_of_mem _ d)]
      · rw [if_neg d, if_neg fun z => by rcases List.mem_cons.mp z with z | z; exact c z.symm; exact d z]
theorem any_map {f : Nm → V} (ls : List Nm) (l : Nm) : ((ls.map fun l => (kyL l, f l)).any fun kv => decide (kv.1 = kyL l)) = decide (l ∈ ls) := by
  rw [List.any_map]
  by_cases c : l ∈ ls
  · rw [decide_eq_true c]
    exact List.any_eq_true.mpr ⟨l, c, decide_eq_true rfl⟩
  · rw [decide_eq_false c]
    refine List.any_eq_false.mpr fun y hy z => c ?_
    have z : decide (kyL y = kyL l) = true := z
    rw [← ky_inj (of_decide_eq_true z)]
    exact hy
theorem chK_put (gs : List (Nm × Nat)) (g : Nm × Nat) : putK (chK gs) (kyL g.1) (.int (((valV (chK gs) (kyL g.1)).getD (.int 0) |> fun v => match v with | .int i => i | _ => 0) + (g.2 : Int))) = chK (gs ++ [g]) := by
  have hv : valV (chK gs) (kyL g.1) = if g.1 ∈ ded gs then some (.int (sm g.1 gs : Nat)) else none := val_map (f := fun l => V.int (sm l gs : Nat)) (ded gs) g.1
  rw [hv]
  unfold putK
  have ha : ((chK gs).any fun kv => decide (kv.1 = kyL g.1)) = decide (g.1 ∈ ded gs) := any_map (f := fun l => V.int (sm l gs : Nat)) (ded gs) g.1
  rw [ha]
  unfold chK
  rw [ded_snoc]
  by_cases c : g.1 ∈ ded gs
  · rw [if_pos c, decide_eq_true c, if_pos rfl, if_pos c, List.map_map]
    refine List.map_congr_left fun l hl => ?_
    show (if kyL l = kyL g.1 then (kyL l, V.int (((sm g.1 gs : Nat) : Int) + (g.2 : Int))) else (kyL l, V.int (sm l gs : Nat))) = _
    rw [sm_snoc]
    by_cases d : l = g.1
    · rw [if_pos (by rw [d]), d, if_pos rfl]
      rw [Int.natCast_add]
    · rw [if_neg fun z => d (ky_inj z), if_neg fun z => d z.symm]
      rfl
  · rw [if_neg c, decide_eq_false c, if_neg Bool.false_ne_true, if_neg c, List.map_append]
    congr 1
    · refine List.map_congr_left fun l hl => ?_
      rw [sm_snoc, if_neg fun z => c (by rw [z]; exact hl)]
      rfl
    · show [(kyL g.1, V.int ((0 : Int) + (g.2 : Int)))] = [(kyL g.1, V.int (sm g.1 (gs ++ [g]) : Nat))]
      rw [sm_snoc, if_pos rfl, sm_none c, Int.zero_add, Nat.zero_add]
theorem chM_len (gs : List (Nm × Nat)) : (chM gs).length ≤ gs.length := by
  unfold chM
  rw [List.length_map]
  exact ded_len _ gs rfl
theorem chM_nm {gs : List (Nm × Nat)} (h : ∀ g ∈ gs, IsNm g.1) : ∀ g ∈ chM gs, IsNm g.1 := fun g hg => by
  obtain ⟨l, hl, rfl⟩ := List.mem_map.mp hg
  obtain ⟨g, hg, e⟩ := (ded_mem _ gs rfl l).mp hl
  show IsNm l
  rw [← e]
  exact h g hg
theorem pr_items {H : Hp} {gs : List (Nm × Nat)} {as : List Addr} (h : Paired (fun (t : Addr) (q : Key × V) => H t = some (.tup [kV q.1, q.2])) as (chK gs)) : Paired (PrA H) as (chM gs) := by
  unfold chK at h
  unfold chM
  revert h
  generalize ded gs = ls
  intro h
  induction ls generalizing as with
  | nil => cases h; exact .nil
  | cons l r ih =>
    cases h with
    | cons q t => exact .cons q (ih t)
section
variable {P : Program} {w : World} {K : PySem.W.Frag} {mg : Str → Option Value} {base : Heap} {k : Nat}
/-- a run of legs as a dict's items -/
def sp_chains_by_line : Sp := fun vs H Q _ => ∃ (D : Addr) (gs : List (Nm × Nat)), vs = [.ref D] ∧ LgA H D gs ∧ gs.length ≤ 28 ∧ ∀ H' F, Same H H' → H F = none → LgA H' F (chM gs) → Q (.ref F) H'
set_option maxHeartbeats 8000000 in
theorem ok_chains_by_line (T : Defs K mg) : FnOk P w K mg base CX0 (k + 1) T.a_chains_by_line T.d_chains_by_line ["run"] sp_chains_by_line := by
  refine T.F_chains_by_line.ok sc_chains_by_line (fun vs H Q E h => ?_) (fun cdv A outer s H vs Q E hr h => ?_)
  · obtain ⟨D, gs, rfl, _⟩ := h
    rfl
  · obtain ⟨D, gs, rfl, hD, gl, q⟩ := h
    refine ⟨_, PSs.nox
(pss_cons (ps_set (i := 1) sc_chains_by_line.nd rfl (.inl rfl) (pe_dnewK))
    (pss_cons (ps_for PassesOwn.never rfl (pi_list (pv 0)) (pg_tup rfl (pgs_cons (pg_name (i := 2) sc_chains_by_line.nd rfl (.inl rfl)) (pgs_cons (pg_name (i := 3) sc_chains_by_line.nd rfl (.inl rfl)) pgs_nil)))
      (pss_one (ps_dput (hu_of hr) (pv 1) (pv 2) (pe_op op_add (pe_dget2 (hu_of hr) (pv 1) (pv 2) (pe_int) ⟨rfl, rfl, rfl, rfl⟩) (pv 3)) (by rfl))))
    (pss_one (ps_ret (LiI.pe_listItems rfl (pv 1) (by rfl) T.z_list (by decide +kernel))))))
      , ?_⟩
    refine fun F nF => ?_
    have s1 := same_upd (o := .dK []) nF
    obtain ⟨da, eD0, hda0⟩ := hD
    have eD := s1 _ _ eD0
    have hda := paired_imp hda0 fun a _ g e => (show PrA (upd H F (.dK [])) a g from s1 _ _ e)
    have nFD : F ≠ D := (ne_of_none eD0 nF).symm
    have dl := paired_len hda
    refine ⟨.ref D, rfl, D, rfl, ⟨_, SqL.of eD⟩, ?_⟩
    refine for_it (walk_list (xs := da.map V.ref)) (fun i σ H3 => ∃ (y3 y4 : Option V), σ = [some (.ref D), some (.ref F), y3, y4] ∧ Same H H3 ∧ H3 D = some (.lst (da.map V.ref)) ∧ Paired (PrA H3) da gs ∧ H3 F = some (.dK (chK (gs.take i))))
      ⟨_, _, rfl, s1, eD, hda, upd_same⟩ (fun i σ H3 _ hp => ?_) (fun i v σ H3₀ H3 hi hp yy => ?_) (fun σ H3 hp => ?_)
    · obtain ⟨_, _, _, _, e, _⟩ := hp
      exact SqL.of e
    · obtain ⟨rfl, ex⟩ := yy
      obtain ⟨y3, y4, rfl, s3, eD3, hda3, eF⟩ := hp
      obtain ⟨u, eu, rfl⟩ : ∃ u, da[i]? = some u ∧ v = .ref u := by
        rw [List.getElem?_map] at ex
        cases h : da[i]? with
        | none => rw [h] at ex; cases ex
        | some t => rw [h] at ex; exact ⟨t, rfl, (Option.some.inj ex).symm⟩
      obtain ⟨x, et, hu⟩ := paired_get hda3 eu
      have tk1 : gs.take (i + 1) = gs.take i ++ [x] := by rw [List.take_add_one, et]; rfl
      refine ⟨u, _, rfl, SqT.of hu, rfl, _, _, rfl, _, [], rfl, rfl, ?_⟩
      have hv : ∃ j : Int, (valV (chK (gs.take i)) (kyL x.1)).getD (.int 0) = .int j := by
        have := val_map (f := fun l => V.int (sm l (gs.take i) : Nat)) (ded (gs.take i)) x.1
        unfold chK
        rw [this]
        split
        · exact ⟨_, rfl⟩
        · exact ⟨_, rfl⟩
      obtain ⟨j, hj⟩ := hv
      have kl : (chK (gs.take i)).length ≤ 5000 := by
        unfold chK
        rw [List.length_map]
        have := ded_len _ (gs.take i) rfl
        rw [List.length_take] at this
        omega
      refine ⟨.ref F, rfl, F, rfl, .inl ⟨_, .inl eF⟩, nS x.1, rfl, _, DGet.k (k := kyL x.1) eF, ?_⟩
      rw [hj]
      refine ⟨.int x.2, rfl, _, _, rfl, rfl, .ref F, rfl, nS x.1, rfl, F, _, rfl, DPut.k (k := kyL x.1) eF (small5000 kl), ?_⟩
      have pt := chK_put (gs.take i) x
      rw [hj] at pt
      refine ⟨_, _, rfl, same_set s3 nF, by rw [upd_ne nFD.symm]; exact eD3, ?_, by rw [upd_same, tk1, ← pt]⟩
      exact paired_imp hda3 fun a _ g e => by
        show (upd H3 F _) a = _
        rw [upd_ne fun z => by rw [z] at e; exact absurd (eF.symm.trans e) (by simp)]
        exact e
    · obtain ⟨y3, y4, rfl, s3, _, _, eF⟩ := hp
      rw [List.length_map, dl, List.take_length] at eF
      refine ⟨.ref F, rfl, F, _, rfl, eF, fun H4 p as k4 np _ _ ep hp => q _ p (s3.trans k4) (up0 s3 np) ⟨as, ep, pr_items hp⟩⟩
end
section
variable {P : Program} {w : World} {K : PySem.W.Frag} {mg : Str → Option Value} {base : Heap} {k : Nat}
def sp_line_chains : Sp := fun vs H Q _ => ∃ (r wy : Addr) (ls : List Nm) (sts : List (Nm × Nm)) (jns : List (Nm × List Nm)) (tis : List Ti) (ws : List Nm) (ts : List Ti), vs = [.ref r, .ref wy] ∧ NetAt H r ls sts jns tis ∧ H wy = some (.tup (ws.map nS)) ∧ WayOk tis ws ts ∧
  ∀ H' D, Same H H' → H D = none → LgA H' D (chM (legsM (ts.map tiP))) → Q (.ref D) H'
theorem ok_line_chains (T : Defs K mg) : FnOk P w K mg base CX0 (k + 4) T.a_line_chains T.d_line_chains ["net", "way"] sp_line_chains := by
  have G_legs : FnOk P w K mg base CX0 (k + 3) _ _ _ _ := ok_legs T
  have G_chains_by_line : FnOk P w K mg base CX0 (k + 3) _ _ _ _ := ok_chains_by_line T
  refine T.F_line_chains.ok sc_line_chains (fun vs H Q E h => ?_) (fun cdv A outer s H vs Q E hr h => ?_)
  · obtain ⟨r, wy, ls, sts, jns, tis, ws, ts, rfl, _⟩ := h
    rfl
  · obtain ⟨r, wy, ls, sts, jns, tis, ws, ts, rfl, hnet, ewy, hw, q⟩ := h
    refine ⟨_, PSs.nox
(pss_one (ps_ret (pe_call G_chains_by_line hr (by rfl) T.g_chains_by_line T.F_chains_by_line.kp T.b_chains_by_line .nil pass0 (pa_cons (pe_call G_legs hr (by rfl) T.g_legs T.F_legs.kp T.b_legs .nil pass0 (pa_cons (pv 0) (pa_cons (pv 1) pa_nil))) pa_nil))))
      , ?_⟩
    have gl : (legsM (ts.map tiP)).length ≤ 28 := by
      have l28 := hw.l28
      have ll := hw.al.len
      have := legsM_len _ (ts.map tiP) rfl
      rw [List.length_map] at this
      omega
    refine ⟨.ref r, rfl, .ref wy, rfl, r, wy, ls, sts, jns, tis, ws, ts, rfl, hnet, ewy, hw, fun H2 D s2 nD hD => ?_⟩
    exact ⟨D, _, rfl, hD, gl, fun H3 F s3 nF hF => q _ F (s2.trans s3) (up0 s2 nF) hF⟩
end
end Th
namespace Th
open PySem PySem.Spec PyProof.Rows L2
/-! a drawn way -/
theorem find_of {tis : List Ti} {x y : Nm} {t : Ti} (ht : t ∈ tis) (h : isTie x y t = true) : ∃ u, tis.find? (isTie x y) = some u := by
  cases e : tis.find? (isTie x y) with
  | none => exact absurd h (by rw [Bool.not_eq_true]; exact Bool.eq_false_iff.mpr (List.find?_eq_none.mp e t ht))
  | some u => exact ⟨u, rfl⟩
theorem Al.one (tis : List Ti) (x : Nm) : Al tis [x] [] := ⟨rfl, fun i t h => by simp at h⟩
theorem Al.snoc {tis : List Ti} {ws : List Nm} {x y : Nm} {ts : List Ti} {t : Ti} (h : Al tis (ws ++ [x]) ts) (ht : t ∈ tis) (hy : isTie x y t = true) : ∃ us, Al tis (ws ++ [x] ++ [y]) us := by
  obtain ⟨u, hu⟩ := find_of ht hy
  have l := h.len
  have l' : ts.length = ws.length := by simpa using l
  refine ⟨ts ++ [u], by rw [List.length_append, List.length_append, ← l]; rfl, fun i t hi => ?_⟩
  by_cases c : i < ts.length
  · rw [List.getElem?_append_left c] at hi
    obtain ⟨a, b, h1, h2, h3⟩ := h.tie i t hi
    exact ⟨a, b, by rw [List.getElem?_append_left (by rw [← l]; omega)]; exact h1, by rw [List.getElem?_append_left (by rw [← l]; omega)]; exact h2, h3⟩
  · rw [List.getElem?_append_right (by omega)] at hi
    have e : i = ts.length := by
      have := (List.getElem?_eq_some_iff.mp hi).1
      simp at this
      omega
    subst e
    rw [Nat.sub_self] at hi
    have := Option.some.inj hi
    subst this
    refine ⟨x, y, ?_, ?_, hu⟩
    · rw [List.getElem?_append_left (by rw [← l]; omega), l', List.getElem?_append_right (Nat.le_refl _), Nat.sub_self]
      rfl
    · rw [l, List.getElem?_append_right (Nat.le_refl _), Nat.sub_self]
      rfl
theorem Al.take {tis : List Ti} {ws : List Nm} {ts : List Ti} (h : Al tis ws ts) {n : Nat} (hn : n + 1 ≤ ws.length) : Al tis (ws.take (n + 1)) (ts.take n) := by
  have l := h.len
  refine ⟨by rw [List.length_take, List.length_take]; omega, fun i t hi => ?_⟩
  have hi2 := (List.getElem?_eq_some_iff.mp hi).1
  rw [List.length_take] at hi2
  rw [List.getElem?_take_of_lt (by omega)] at hi
  obtain ⟨a, b, h1, h2, h3⟩ := h.tie i t hi
  exact ⟨a, b, by rw [List.getElem?_take_of_lt (by omega)]; exact h1, by rw [List.getElem?_take_of_lt (by omega)]; exact h2, h3⟩
theorem dtAll_nms {H : Hp} : ∀ zs : List Nm, DtAll SA H (zs.map nS) (zs.map fun z => PyData.str (SX.S z))
  | [] => .nil
  | z :: zs => .cons (.str _) (dtAll_nms zs)
theorem dt_nms {H : Hp} {a : Addr} {p : List Nm} (e : H a = some (.lst (p.map nS))) (l : p.length ≤ 5000) : Dt SA H (.ref a) (.list (p.map fun z => PyData.str (SX.S z))) := .lst trivial e (by rw [List.length_map]; exact l) (dtAll_nms p)
theorem sh_nms {zs : List Nm} (h : ∀ z ∈ zs, IsNm z) : SeqAt.shaped (.list (zs.map fun z => PyData.str (SX.S z))) = true := by
  have h1 : ∀ zs : List Nm, (∀ z ∈ zs, IsNm z) → PyData.canLayAll0 (zs.map fun z => PyData.str (SX.S z)) = true := fun zs => by
    induction zs with
    | nil => exact fun _ => rfl
    | cons z r ih =>
      intro h
      show (PyData.strOk (SX.S z) && PyData.canLayAll0 (r.map fun z => PyData.str (SX.S z))) = true
      rw [nm_ok (h z (List.mem_cons_self ..)), ih fun x hx => h x (List.mem_cons_of_mem _ hx)]
      rfl
  have h2 : ∀ zs : List Nm, PyData.depthAll (zs.map fun z => PyData.str (SX.S z)) = 0 := fun zs => by
    induction zs with
    | nil => rfl
    | cons z r ih =>
      show max 0 (PyData.depthAll (r.map fun z => PyData.str (SX.S z))) = 0
      rw [ih]
      rfl
  refine Bool.and_eq_true_iff.mpr ⟨h1 zs h, decide_eq_true ?_⟩
  show PyData.depthAll _ + 1 ≤ 64
  rw [h2]
  decide
theorem TpF.set {H : Hp} {a G : Addr} {xs ys zs : List V} (h : TpF H a xs) (e : H G = some (.lst ys)) : TpF (upd H G (.lst zs)) a xs := by
  obtain ⟨o, h1, h2⟩ := h
  refine ⟨o, ?_, h2⟩
  rw [upd_ne fun z => by rw [z, e] at h1; cases h1]
  exact h1
section
variable {P : Program} {w : World} {K : PySem.W.Frag} {mg : Str → Option Value} {base : Heap} {k : Nat}
def sp_l_walk : Sp := fun vs H Q _ => ∃ (p r wy : Addr) (ls : List Nm) (sts : List (Nm × Nm)) (jns : List (Nm × List Nm)) (tis : List Ti) (ws : List Nm) (ts : List Ti), vs = [.ref p, .ref r, .ref wy] ∧ Bag H p ∧ NetAt H r ls sts jns tis ∧ H wy = some (.tup (ws.map nS)) ∧ WayOk tis ws ts ∧
  1 ≤ sts.length ∧ sts.length ≤ 100 ∧ (∀ s ∈ sts, IsNm s.1) ∧ ∀ H' u ws' ts', Keep p H H' → Bag H' p → H' u = some (.tup (ws'.map nS)) → WayOk tis ws' ts' → Q (.ref u) H'
set_option maxHeartbeats 16000000 in
theorem ok_l_walk (T : Defs K mg) : FnOk P w K mg base CX0 (k + 2) T.a_l_walk T.d_l_walk ["_law_bag_here", "_law_net_here", "_law_way"] sp_l_walk := by
  have G_l_take : FnOk P w K mg base CX0 (k + 1) _ _ _ _ := ok_l_take T
  refine T.F_l_walk.ok sc_l_walk (fun vs H Q E h => ?_) (fun cdv A outer s H vs Q E hr h => ?_)
  · obtain ⟨p, r, wy, ls, sts, jns, tis, ws, ts, rfl, _⟩ := h
    rfl
  · obtain ⟨p, r, wy, ls, sts, jns, tis, ws, ts, rfl, b, hnet, ewy, hw, s1, s100, snm, q⟩ := h
    refine ⟨_, PSs.nox
(pss_cons (ps_set (i := 3) sc_l_walk.nd rfl (.inr rfl) (pe_lc (own := [("_law_one", 8)]) (g := gName 8) rfl sc_l_walk.nd (pi_tup (pe_ix (r := rIxT K) ix_tup (pv 1) (pe_int) (fun _ _ => rfl))) (blkOk_by (N := N_l_walk) (sc := defScope s_l_walk) (by decide +kernel)) (fun _ _ _ _ _ => (pg_name (i := 8) sc_l_walk.nd rfl (.inl rfl))) (fun _ _ _ _ _ => pts_nil) (fun _ _ _ _ _ => (pe_ix (r := rIxT K) ix_tup (pv 8) (pe_int) (fun _ _ => rfl)))))
    (pss_cons (ps_set (i := 4) sc_l_walk.nd rfl (.inr rfl) (pe_lst (pa_cons (pe_ix (r := rIxL K) ix_list (pv 3) (pe_call G_l_take hr (by rfl) T.g_l_take T.F_l_take.kp T.b_l_take .nil pass0 (pa_cons (pv 0) (pa_cons (pe_callB (r := rLenS K) call_lenS (by rfl) T.z_len (by decide +kernel) (pa_cons (pv 3) pa_nil)) pa_nil))) (fun _ _ => rfl)) pa_nil)))
    (pss_cons (ps_for PassesOwn.never rfl (pi_range1 (by rfl) T.z_range (pa_cons (pe_int) pa_nil)) (pg_name (i := 5) sc_l_walk.nd rfl (.inl rfl))
      (pss_cons (ps_setLc (i := 6) (own := [("_law_one", 8)]) (g := gName 8) rfl sc_l_walk.nd rfl rfl (sw_true rfl rfl rfl (by decide +kernel)) (pi_list (pe_lc (own := [("_law_tie", 9)]) (g := gName 9) rfl sc_l_walk.nd (pi_tup (pe_ix (r := rIxT K) ix_tup (pv 1) (pe_int) (fun _ _ => rfl))) (blkOk_by (N := N_l_walk) (sc := defScope s_l_walk) (by decide +kernel)) (fun _ _ _ _ _ => (pg_name (i := 9) sc_l_walk.nd rfl (.inl rfl))) (fun _ _ _ _ _ => pts_nil) (fun _ _ _ _ _ => (pe_slice (r := Tw.rSlF K) Tw.sl_tupF (pv 9) po_none (po_some (pe_int)))))) (blkOk_by (N := N_l_walk) (sc := defScope s_l_walk) (by decide +kernel)) (fun _ _ _ _ _ => (pg_name (i := 8) sc_l_walk.nd rfl (.inl rfl))) (fun _ _ _ _ _ => pts_one (pt_cmpR (r := rIn K false) op_in_seq (pe_ix (r := rIxL K) ix_list (pv 4) (pe_un un_neg (pe_int)) (fun _ _ => rfl)) (pv 8) (by rfl))) (fun _ _ _ _ _ => (pe_ix (r := rIxT K) ix_tup (pv 8) (pe_op op_sub (pe_int) (pe_mG (ty := Tw.tyTp) (r := Tw.rIdxT K) Tw.ty_tp PySem.F.plainAttrs_tuple PySem.F.slot_tuple_index PySem.F.type_tuple_index Tw.mt_tidx (pv 8) (pa_cons (pe_ix (r := rIxL K) ix_list (pv 4) (pe_un un_neg (pe_int)) (fun _ _ => rfl)) pa_nil))) (fun _ _ => rfl))))
      (pss_cons (ps_setLc (i := 6) (own := [("_law_place", 10)]) (g := gName 10) rfl sc_l_walk.nd rfl rfl (sw_true rfl rfl rfl (by decide +kernel)) (pi_list (pv 6)) (blkOk_by (N := N_l_walk) (sc := defScope s_l_walk) (by decide +kernel)) (fun _ _ _ _ _ => (pg_name (i := 10) sc_l_walk.nd rfl (.inl rfl))) (fun _ _ _ _ _ => pts_one (pt_cmpR (r := rIn K true) op_notIn_seq (pv 10) (pv 4) (by rfl))) (fun _ _ _ _ _ => (pv 10)))
      (pss_one (ps_if (pt_cmpR (r := rNeD K) (op_neD hr.units) (pv 6) (pe_lst pa_nil) (nomark _))
        (pss_one (ps_expr (pe_bm PySem.F.plainAttrs_list PySem.F.slot_list_append PySem.F.type_list_append mt_append (pv 4) (pa_cons (pe_ix (r := rIxL K) ix_list (pv 6) (pe_call G_l_take hr (by rfl) T.g_l_take T.F_l_take.kp T.b_l_take .nil pass0 (pa_cons (pv 0) (pa_cons (pe_callB (r := rLenS K) call_lenS (by rfl) T.z_len (by decide +kernel) (pa_cons (pv 6) pa_nil)) pa_nil))) (fun _ _ => rfl)) pa_nil))))
        pss_nil)))))
    (pss_cons (ps_setLc (i := 7) (own := [("_law_at", 11)]) (g := gName 11) rfl sc_l_walk.nd rfl rfl (sw_true rfl rfl rfl (by decide +kernel)) (pi_range2 (by rfl) T.z_range (pa_cons (pe_int) (pa_cons (pe_callB (r := rLenS K) call_lenS (by rfl) T.z_len (by decide +kernel) (pa_cons (pv 4) pa_nil)) pa_nil))) (blkOk_by (N := N_l_walk) (sc := defScope s_l_walk) (by decide +kernel)) (fun _ _ _ _ _ => (pg_name (i := 11) sc_l_walk.nd rfl (.inl rfl))) (fun _ _ _ _ _ => pts_one (pt_cmpR (r := rIn K false) op_in_seq (pe_ix (r := rIxL K) ix_list (pv 4) (pv 11) (fun _ _ => rfl)) (pv 3) (by rfl))) (fun _ _ _ _ _ => (pv 11)))
    (pss_cons (ps_if (PW.pt (pw_or (pt_cmpR (r := rEqD K) (op_eqD hr.units) (pv 7) (pe_lst pa_nil) (nomark _)) (pw_or1 (pt_cmpR op_eq (pe_call G_l_take hr (by rfl) T.g_l_take T.F_l_take.kp T.b_l_take .nil pass0 (pa_cons (pv 0) (pa_cons (pe_int) pa_nil))) (pe_int) (nomark _)))))
      (pss_one (ps_ret (pv 2)))
      pss_nil)
    (pss_one (ps_ret (pe_callTy call_tuple_of (by rfl) T.z_tuple (by decide +kernel) (pa_cons (pe_slice sl_list (pv 4) po_none (po_some (pe_op op_add (pe_ix (r := rIxL K) ix_list (pv 7) (pe_op op_sub (pe_un un_neg (pe_int)) (pe_call G_l_take hr (by rfl) T.g_l_take T.F_l_take.kp T.b_l_take .nil pass0 (pa_cons (pv 0) (pa_cons (pe_callB (call_min2 rfl) (by rfl) T.z_min (by decide +kernel) (pa_cons (pe_int) (pa_cons (pe_callB (r := rLenS K) call_lenS (by rfl) T.z_len (by decide +kernel) (pa_cons (pv 7) pa_nil)) pa_nil))) pa_nil)))) (fun _ _ => rfl)) (pe_int)))) pa_nil)))))))))
      , ?_⟩
    obtain ⟨na, nb, nc, nd, sa, ja, ta, er, _, eb, hsa, _, _, ed, hta⟩ := id hnet
    have sl := paired_len hsa
    have tl := paired_len hta
    have t40 := hw.t40
    refine ⟨.ref r, rfl, r, [.ref na, .ref nb, .ref nc, .ref nd], 1, .ref nb, rfl, rfl, SqT.of er, atI_nat (j := 1) rfl, nb, rfl, ⟨_, SqT.of eb⟩, fun S nSt => ?_⟩
    have nSp : S ≠ p := b.ne nSt
    refine lc_it (walk_tup (xs := sa.map V.ref)) (fun i H3 => Same H H3 ∧ H3 S = some (.lst (((sts.take i).map (·.1)).map nS))) ⟨same_upd nSt, upd_same⟩ (fun i H3 _ pv => SqT.of (pv.1 _ _ eb)) (fun i v H3₀ H3 hi pv yy => ?_) (fun H3 pv => ?_)
    · obtain ⟨rfl, ex⟩ := yy
      obtain ⟨s3, eS⟩ := pv
      obtain ⟨u, eu, rfl⟩ : ∃ u, sa[i]? = some u ∧ v = .ref u := by
        rw [List.getElem?_map] at ex
        cases h : sa[i]? with
        | none => rw [h] at ex; cases ex
        | some t => rw [h] at ex; exact ⟨t, rfl, (Option.some.inj ex).symm⟩
      obtain ⟨st, est, hu⟩ := paired_get hsa eu
      refine ⟨rfl, yes_ ⟨.ref u, rfl, u, _, 0, nS st.1, rfl, rfl, SqT.of (s3 _ _ hu), atI_nat (j := 0) rfl, _, eS, by rw [List.length_map, List.length_map, List.length_take]; exact small5000 (by omega), same_set s3 nSt, ?_⟩⟩
      rw [upd_same, List.take_add_one, est, List.map_append, List.map_append]
      rfl
    obtain ⟨s3, eS⟩ := pv
    rw [List.length_map, sl, List.take_length] at eS
    have b3 := b.keep s3
    -- found
    refine ⟨.ref S, rfl, .ref p, rfl, .ref S, rfl, S, _, rfl, .inl (SqL.of eS), p, ((sts.map (·.1)).length : Nat), by rw [List.length_map]; rfl, b3, by rw [List.length_map]; omega, by rw [List.length_map]; omega, fun H4 d k4 b4 d0 d1 => ?_⟩
    obtain ⟨dd, rfl⟩ : ∃ dd : Nat, d = (dd : Int) := ⟨d.toNat, by omega⟩
    have hdd : dd < sts.length := by rw [List.length_map] at d1; omega
    have eS4 := k4 _ _ nSp eS
    refine ⟨S, _, (dd : Int), nS (sts[dd]).1, rfl, rfl, SqL.of eS4, atI_nat (by rw [List.getElem?_map, List.getElem?_map, List.getElem?_eq_getElem hdd]; rfl), by show 1 ≤ sizeLine; decide, fun F nF => ?_⟩
    have nFp : F ≠ p := b4.ne nF
    have k04 : Keep p H H4 := (Keep.of s3).trans k4
    have nF0 : H F = none := k04.free b nF b4
    have nSF : S ≠ F := ne_of_none eS4 nF
    refine ⟨27, rfl, by decide, by decide, ?_⟩
    refine for_range (lo := 0) (n := 27) (fun i σ H5 => ∃ (y5 y6 : Option V) (fs : List Nm) (x : Nm) (tf : List Ti), σ = [some (.ref p), some (.ref r), some (.ref wy), some (.ref S), some (.ref F), y5, y6, none, none, none, none, none] ∧ Keep p H H5 ∧ Bag H5 p ∧ H5 S = some (.lst ((sts.map (·.1)).map nS)) ∧ H5 F = some (.lst ((fs ++ [x]).map nS)) ∧ Al tis (fs ++ [x]) tf ∧ (∀ z ∈ fs ++ [x], IsNm z) ∧ fs.length ≤ i)
      ⟨none, none, [], (sts[dd]).1, [], rfl, k04.new nF, b4.keep (same_upd nF), same_upd nF _ _ eS4, upd_same, Al.one _ _, fun z hz => by rw [List.mem_singleton.mp hz]; exact snm _ (List.getElem_mem hdd), Nat.zero_le _⟩ (fun i σ H5 hi hp => ?_) (fun σ H5 hp => ?_)
    · obtain ⟨y5, y6, fs, x, tf, rfl, k5, b5, eS5, eF5, hal, hnm, hfl⟩ := hp
      have tk5 : TK H H5 := .keep k5 b
      have last : ∀ {H' : Hp}, H' F = some (.lst ((fs ++ [x]).map nS)) → atI ((fs ++ [x]).map nS) (-1) = some (nS x) := fun _ => by rw [List.map_append]; exact atI_last _ _
      refine ⟨.ref r, rfl, r, [.ref na, .ref nb, .ref nc, .ref nd], 3, .ref nd, rfl, rfl, SqT.of (tk5 _ _ er), atI_nat (j := 3) rfl, nd, rfl, ⟨_, SqT.of (tk5 _ _ ed)⟩, fun G nG => ?_⟩
      refine lc_it (walk_tup (xs := ta.map V.ref)) (fun j H6 => Same H5 H6 ∧ ∃ ga : List Addr, H6 G = some (.lst (ga.map V.ref)) ∧ Paired (fun a (t : Ti) => TpF H6 a [nS t.a, nS t.b]) ga (tis.take j)) ⟨same_upd nG, [], upd_same, .nil⟩ (fun j H6 _ pv => SqT.of (pv.1 _ _ (tk5 _ _ ed))) (fun j v H6₀ H6 hj pv yy => ?_) (fun H6 pv => ?_)
      · obtain ⟨rfl, ex⟩ := yy
        obtain ⟨s6, ga, eG, hga⟩ := pv
        obtain ⟨u, eu, rfl⟩ : ∃ u, ta[j]? = some u ∧ v = .ref u := by
          rw [List.getElem?_map] at ex
          cases h : ta[j]? with
          | none => rw [h] at ex; cases ex
          | some t => rw [h] at ex; exact ⟨t, rfl, (Option.some.inj ex).symm⟩
        obtain ⟨t, et, hu⟩ := paired_get hta eu
        have hu6 : H6 u = some (.tup [nS t.a, nS t.b, nS t.ln, .int t.ch]) := s6 _ _ (tk5 _ _ hu)
        refine ⟨rfl, yes_ ⟨.ref u, rfl, 2, rfl, u, _, rfl, SqT.of hu6, by show ¬ (0 = 0 ∧ 2 = 4); decide, fun c H7 nc7 s7 hc7 _ => ?_⟩⟩
        have eG7 := s7 _ _ eG
        refine ⟨_, eG7, by rw [List.length_map, paired_len hga, List.length_take]; exact small5000 (by omega), same_set (s6.trans s7) nG, ga ++ [c], by rw [upd_same, List.map_append]; rfl, ?_⟩
        rw [List.take_add_one, et]
        exact paired_snoc (paired_imp hga fun a _ t h => (h.same s7).set eG7) (TpF.set hc7 eG7)
      obtain ⟨s6, ga, eG, hga⟩ := pv
      rw [List.length_map, tl, List.take_length] at hga
      have gl := paired_len hga
      have eF6 := s6 _ _ eF5
      refine ⟨G, rfl, ⟨_, SqL.of eG⟩, fun M nM => ?_⟩
      refine lc_it (walk_list (xs := ga.map V.ref)) (fun j H7 => Same H6 H7 ∧ ∃ ys : List Nm, H7 M = some (.lst (ys.map nS)) ∧ ys.length ≤ j ∧ ∀ y ∈ ys, ∃ t ∈ tis, isTie x y t = true ∧ IsNm y) ⟨same_upd nM, [], upd_same, Nat.zero_le _, fun y hy => (by cases hy)⟩ (fun j H7 _ pv => SqL.of (pv.1 _ _ eG)) (fun j v H7₀ H7 hj pv yy => ?_) (fun H7 pv => ?_)
      · obtain ⟨rfl, ex⟩ := yy
        obtain ⟨s7, ys, eM, yl, hys⟩ := pv
        rw [List.length_map] at hj
        obtain ⟨a, ea, rfl⟩ : ∃ u, ga[j]? = some u ∧ v = .ref u := by
          rw [List.getElem?_map] at ex
          cases h : ga[j]? with
          | none => rw [h] at ex; cases ex
          | some t => rw [h] at ex; exact ⟨t, rfl, (Option.some.inj ex).symm⟩
        obtain ⟨t, et, ha⟩ := paired_get hga ea
        have tin := List.mem_of_getElem? et
        obtain ⟨nta, ntb, _, _, _⟩ := hw.ti t tin
        have ha7 := ha.same s7
        have eF7 := s7 _ _ eF6
        refine ⟨rfl, .ref F, rfl, 1, rfl, F, _, -1, nS x, rfl, rfl, SqL.of eF7, last eF7, .ref a, rfl, a, [nS t.a, nS t.b], rfl, .inr ha7.sq, rfl, rfl, _, rfl, ite2 (fun c => ?_) (fun c => ?_)⟩
        · have c : t.a = x ∨ t.b = x := of_decide_eq_true (in2.symm.trans c)
          by_cases ca : t.a = x
          · refine ⟨.ref a, rfl, .ref a, rfl, ⟨a, _, rfl, ha7⟩, .ref F, rfl, 1, rfl, F, _, -1, nS x, rfl, rfl, SqL.of eF7, last eF7, a, [SX.S t.a, SX.S t.b], SX.S x, 0, rfl, rfl, ha7.sq, by rw [ca]; rfl, fun m hm => absurd hm (Nat.not_lt_zero _), 1, ((0 : Nat) : Int), rfl, rfl, a, [nS t.a, nS t.b], 1 - ((0 : Nat) : Int), nS t.b, rfl, rfl, ha7.sq, atI_nat (j := 1) rfl, _, eM, by rw [List.length_map]; exact small5000 (by omega), same_set s7 nM, ys ++ [t.b], by rw [upd_same, List.map_append]; rfl, by rw [List.length_append]; exact Nat.succ_le_succ yl, fun y hy => ?_⟩
            rcases List.mem_append.mp hy with z | z
            · exact hys y z
            · rw [List.mem_singleton.mp z]
              exact ⟨t, tin, decide_eq_true (.inl ⟨ca, rfl⟩), ntb⟩
          · have cb : t.b = x := c.elim (fun z => absurd z ca) id
            refine ⟨.ref a, rfl, .ref a, rfl, ⟨a, _, rfl, ha7⟩, .ref F, rfl, 1, rfl, F, _, -1, nS x, rfl, rfl, SqL.of eF7, last eF7, a, [SX.S t.a, SX.S t.b], SX.S x, 1, rfl, rfl, ha7.sq, by rw [cb]; rfl, fun m hm => ?_, 1, ((1 : Nat) : Int), rfl, rfl, a, [nS t.a, nS t.b], 1 - ((1 : Nat) : Int), nS t.a, rfl, rfl, ha7.sq, atI_nat (j := 0) rfl, _, eM, by rw [List.length_map]; exact small5000 (by omega), same_set s7 nM, ys ++ [t.a], by rw [upd_same, List.map_append]; rfl, by rw [List.length_append]; exact Nat.succ_le_succ yl, fun y hy => ?_⟩
            · have : m = 0 := by omega
              subst this
              exact fun z => ca (SX.S_inj (Option.some.inj z))
            · rcases List.mem_append.mp hy with z | z
              · exact hys y z
              · rw [List.mem_singleton.mp z]
                exact ⟨t, tin, decide_eq_true (.inr ⟨rfl, cb⟩), nta⟩
        · exact ⟨s7, ys, eM, by omega, hys⟩
      obtain ⟨s7, ys, eM, yl, hys⟩ := pv
      rw [List.length_map, gl] at yl
      have eF7 := s7 _ _ eF6
      refine ⟨.ref M, rfl, M, rfl, ⟨_, SqL.of eM⟩, fun N nN => ?_⟩
      refine lc_it (walk_list (xs := ys.map nS)) (fun j H8 => Same H7 H8 ∧ ∃ zs : List Nm, H8 N = some (.lst (zs.map nS)) ∧ zs.length ≤ j ∧ ∀ z ∈ zs, z ∈ ys) ⟨same_upd nN, [], upd_same, Nat.zero_le _, fun y hy => (by cases hy)⟩ (fun j H8 _ pv => SqL.of (pv.1 _ _ eM)) (fun j v H8₀ H8 hj pv yy => ?_) (fun H8 pv => ?_)
      · obtain ⟨rfl, ex⟩ := yy
        obtain ⟨s8, zs, eN, zl, hzs⟩ := pv
        rw [List.length_map] at hj
        obtain ⟨y, ey, rfl⟩ : ∃ l, ys[j]? = some l ∧ v = nS l := by
          rw [List.getElem?_map] at ex
          cases h : ys[j]? with
          | none => rw [h] at ex; cases ex
          | some t => rw [h] at ex; exact ⟨t, rfl, (Option.some.inj ex).symm⟩
        refine ⟨rfl, nS y, rfl, .ref F, rfl, F, _, rfl, .inl (SqL.of (s8 _ _ eF7)), rfl, flat_nms _, _, rfl, ite2 (fun c => ?_) (fun c => ?_)⟩
        · refine ⟨nS y, rfl, _, eN, by rw [List.length_map]; exact small5000 (by omega), same_set s8 nN, zs ++ [y], by rw [upd_same, List.map_append]; rfl, by rw [List.length_append]; exact Nat.succ_le_succ zl, fun z hz => ?_⟩
          rcases List.mem_append.mp hz with h | h
          · exact hzs z h
          · rw [List.mem_singleton.mp h]
            exact List.mem_of_getElem? ey
        · exact ⟨s8, zs, eN, by omega, hzs⟩
      obtain ⟨s8, zs, eN, zl, hzs⟩ := pv
      rw [List.length_map] at zl
      have s58 := s6.trans (s7.trans s8)
      have k58 : Keep p H H8 := k5.trans (Keep.of s58)
      have b8 := b5.keep s58
      refine ⟨.ref N, rfl, Nat.zero_le _, fun e ne => ?_⟩
      have s9 := same_upd (o := .lst []) ne
      have dN : Dt SA (upd H8 e (.lst [])) (.ref N) (.list (zs.map fun z => PyData.str (SX.S z))) := (dt_nms eN (by omega)).same s9
      have dE : Dt SA (upd H8 e (.lst [])) (.ref e) (.list []) := .lst trivial upd_same (Nat.zero_le _) .nil
      refine ⟨_, _, dN.dp, dE.dp, sh_nms fun z hz => let ⟨t, _, _, h⟩ := hys z (hzs z hz); h, rfl, _, rfl, ?_⟩
      have k9 := k58.trans (Keep.of s9)
      have b9 := b8.keep s9
      have eF9 := s9 _ _ (s8 _ _ eF7)
      have eS9 := s9 _ _ (s58 _ _ eS5)
      have eN9 := s9 _ _ eN
      have nN5 : H5 N = none := up0 (s6.trans s7) nN
      have nNp : N ≠ p := b5.ne nN5
      clear dN dE
      generalize upd H8 e (.lst []) = H9 at s9 k9 b9 eF9 eS9 eN9
      rcases zs with _ | ⟨z0, zr⟩
      · refine iteF ?_
        exact ⟨_, _, fs, x, tf, rfl, k9, b9, eS9, eF9, hal, hnm, by omega⟩
      · refine iteT ?_
        refine ⟨.ref F, rfl, .inl ⟨rfl, _, SqL.of eF9⟩, .ref N, rfl, .ref p, rfl, .ref N, rfl, N, _, rfl, .inl (SqL.of eN9), p, ((z0 :: zr).length : Nat), by rw [List.length_map]; rfl, b9, by simp only [List.length_cons]; omega, by omega, fun H10 d k10 b10 d0 d1 => ?_⟩
        obtain ⟨ee, rfl⟩ : ∃ ee : Nat, d = (ee : Int) := ⟨d.toNat, by omega⟩
        have hee : ee < (z0 :: zr).length := by omega
        have eF10 := k10 _ _ nFp eF9
        have zin := hzs _ (List.getElem_mem hee)
        obtain ⟨t, tin, htie, znm⟩ := hys _ zin
        obtain ⟨us, hus⟩ := hal.snoc tin htie
        refine ⟨N, _, (ee : Int), nS (z0 :: zr)[ee], rfl, rfl, SqL.of (k10 _ _ nNp eN9), atI_nat (by rw [List.getElem?_map, List.getElem?_eq_getElem hee]; rfl), F, _, _, rfl, rfl, eF10, by rw [List.length_map, List.length_append, List.length_singleton]; exact small5000 (by omega), ?_⟩
        refine ⟨_, _, fs ++ [x], (z0 :: zr)[ee], us, rfl, (k9.trans k10).set nF0, b10.at (upd_ne nFp.symm), by rw [upd_ne nSF]; exact k10 _ _ nSp eS9, by rw [upd_same, List.map_append (l₁ := fs ++ [x])]; rfl, hus, fun z hz => ?_, by rw [List.length_append, List.length_singleton]; omega⟩
        rcases List.mem_append.mp hz with h | h
        · exact hnm z h
        · rw [List.mem_singleton.mp h]
          exact znm
    · obtain ⟨y5, y6, fs, x, tf, rfl, k5, b5, eS5, eF5, hal, hnm, hfl⟩ := hp
      have fl : (fs ++ [x]).length ≤ 28 := by rw [List.length_append, List.length_singleton]; omega
      have fl1 : 1 ≤ (fs ++ [x]).length := by rw [List.length_append, List.length_singleton]; omega
      generalize fs ++ [x] = gs at eF5 hal hnm fl fl1
      refine ⟨.ref F, rfl, F, _, rfl, .inl (SqL.of eF5), _, _, rfl, ⟨by decide, by decide, by rw [List.length_map]; omega, by rw [List.length_map]; omega⟩, fun En nE => ?_⟩
      rw [show (((gs.map nS).length : Int) - 1).toNat = gs.length - 1 by rw [List.length_map]; omega]
      refine lc_range (lo := 1) (n := gs.length - 1) (fun i H6 => Same H5 H6 ∧ ∃ es : List Int, H6 En = some (.lst (es.map V.int)) ∧ es.length ≤ i ∧ ∀ e ∈ es, 1 ≤ e ∧ e < gs.length) ⟨same_upd nE, [], upd_same, Nat.zero_le _, fun e he => (by cases he)⟩ (fun i H6 hi pv => ?_) (fun H6 pv => ?_)
      · obtain ⟨s6, es, eE, el, hes⟩ := pv
        have gi : (gs.map nS)[i + 1]? = some (nS gs[i + 1]) := by rw [List.getElem?_map, List.getElem?_eq_getElem]; rfl
        refine ⟨rfl, .ref F, rfl, .int (1 + (i : Int)), rfl, F, _, 1 + (i : Int), nS (gs[i + 1]), rfl, rfl, SqL.of (s6 _ _ eF5), by rw [show (1 : Int) + (i : Int) = ((i + 1 : Nat) : Int) by omega]; exact atI_nat gi, .ref S, rfl, S, _, rfl, .inl (SqL.of (s6 _ _ eS5)), rfl, flat_nms _, _, rfl, ite2 (fun c => ?_) (fun c => ?_)⟩
        · refine ⟨.int (1 + (i : Int)), rfl, _, eE, by rw [List.length_map]; exact small5000 (by omega), same_set s6 nE, es ++ [1 + (i : Int)], by rw [upd_same, List.map_append]; rfl, by rw [List.length_append]; exact Nat.succ_le_succ el, fun e he => ?_⟩
          rcases List.mem_append.mp he with h | h
          · exact hes e h
          · rw [List.mem_singleton.mp h]
            omega
        · exact ⟨s6, es, eE, by omega, hes⟩
      obtain ⟨s6, es, eE, el, hes⟩ := pv
      have nEp : En ≠ p := b5.ne nE
      refine ⟨.ref En, rfl, Nat.zero_le _, fun e ne => ?_⟩
      have s7 := same_upd (o := .lst []) ne
      have dN : Dt SA (upd H6 e (.lst [])) (.ref En) (dI es) := (dt_ints eE (by omega)).same s7
      have dE : Dt SA (upd H6 e (.lst [])) (.ref e) (.list []) := .lst trivial upd_same (Nat.zero_le _) .nil
      refine ⟨_, _, dN.dp, dE.dp, shaped_ints es, rfl, _, rfl, ?_⟩
      have k7 : Keep p H (upd H6 e (.lst [])) := k5.trans (Keep.of (s6.trans s7))
      have b7 := b5.keep (s6.trans s7)
      have eF7 := s7 _ _ (s6 _ _ eF5)
      have eE7 := s7 _ _ eE
      clear dN dE
      generalize upd H6 e (.lst []) = H7 at s7 k7 b7 eF7 eE7
      have own : ∀ {H' : Hp}, Keep p H H' → Bag H' p → Q (.ref wy) H' := fun k' b' => q _ wy ws ts k' b' (TK.keep k' b _ _ ewy) hw
      rcases es with _ | ⟨e0, er0⟩
      · exact iteT (iteT ⟨.ref wy, rfl, own k7 b7⟩)
      · refine iteF ?_
        refine ⟨.ref p, rfl, p, 4, rfl, b7, by decide, by decide, fun H8 d8 k8 b8 d80 d81 => ⟨rfl, _, rfl, ite2 (fun c => ?_) (fun c => ?_)⟩⟩
        · exact ⟨.ref wy, rfl, own (k7.trans k8) b8⟩
        · have eF8 := k8 _ _ nFp eF7
          have eE8 := k8 _ _ nEp eE7
          refine ⟨.ref F, rfl, .ref En, rfl, 1, rfl, .ref p, rfl, .ref En, rfl, En, _, rfl, .inl (SqL.of eE8), _, _, rfl, p, _, rfl, b8, ?_, ?_, fun H9 d k9 b9 d0 d1 => ?_⟩
          · rw [List.length_map, List.length_cons]
            split <;> omega
          · rw [List.length_map, List.length_cons]
            split <;> omega
          · have d2 : d < ((e0 :: er0).length : Int) := by
              rw [List.length_map] at d1
              split at d1 <;> omega
            have eF9 := k9 _ _ nFp eF8
            have eE9 := k9 _ _ nEp eE8
            obtain ⟨ee, rfl⟩ : ∃ ee : Nat, d = (ee : Int) := ⟨d.toNat, by omega⟩
            have hj : (e0 :: er0).length - 1 - ee < (e0 :: er0).length := by omega
            have hat : atI ((e0 :: er0).map V.int) (-1 - (ee : Int)) = some (.int ((e0 :: er0)[(e0 :: er0).length - 1 - ee])) := by
              unfold atI ixN
              rw [List.length_map, if_neg (by omega), if_pos (by omega), show (-1 - (ee : Int) + ((e0 :: er0).length : Int)).toNat = (e0 :: er0).length - 1 - ee by omega]
              show ((e0 :: er0).map V.int)[(e0 :: er0).length - 1 - ee]? = _
              rw [List.getElem?_map, List.getElem?_eq_getElem hj]
              rfl
            have hein := hes _ (List.getElem_mem hj)
            generalize (e0 :: er0)[(e0 :: er0).length - 1 - ee] = en at hat hein
            obtain ⟨m, rfl⟩ : ∃ m : Nat, en = (m : Int) := ⟨en.toNat, by omega⟩
            refine ⟨-1, (ee : Int), rfl, rfl, En, _, -1 - (ee : Int), .int (m : Int), rfl, rfl, SqL.of eE9, hat, _, 1, rfl, rfl, _, rfl, F, _, rfl, SqL.of eF9, fun p2 np2 => ?_⟩
            rw [show ((m : Int) + 1) = ((m + 1 : Nat) : Int) by omega, cut_to]
            refine ⟨p2, _, rfl, .inl ⟨SqL.of upd_same, fun u nu => ?_⟩⟩
            have s10 := (same_upd (o := .lst ((gs.map nS).take (m + 1))) np2).trans (same_upd (o := .tup ((gs.map nS).take (m + 1))) nu)
            refine q _ u (gs.take (m + 1)) (tf.take m) ((k7.trans (k8.trans k9)).trans (Keep.of s10)) (b9.keep s10) (by rw [upd_same, List.map_take]) ⟨hal.take (by omega), fun z hz => hnm z (List.mem_of_mem_take hz), by rw [List.length_take]; omega, by rw [List.length_take]; omega, hw.t40, hw.ti⟩
end
end Th
namespace Th
open PySem PySem.Spec PyProof.Rows L2
/-! the law of legs, crossings, chains -/
theorem sq_same {K : PySem.W.Frag} {H H' : Hp} {a : Addr} {xs : List V} (s : Same H H') (h : SqL K H a xs) : SqL K H' a xs := by
  rcases h with (h | ⟨o, h⟩) | h
  · exact .inl (.inl (s _ _ h))
  · exact .inl (.inr ⟨o, s _ _ h⟩)
  · exact .inr h
theorem isTie_comm (x y : Nm) : isTie x y = isTie y x := by
  funext t
  unfold isTie
  by_cases h : (t.a = x ∧ t.b = y) ∨ (t.a = y ∧ t.b = x)
  · rw [decide_eq_true h, decide_eq_true h.symm]
  · rw [decide_eq_false h, decide_eq_false fun z => h z.symm]
theorem WayOk.rev {tis : List Ti} {ws : List Nm} {ts : List Ti} (h : WayOk tis ws ts) : WayOk tis ws.reverse ts.reverse := by
  have l := h.al.len
  refine ⟨⟨by rw [List.length_reverse, List.length_reverse]; exact l, fun i t hi => ?_⟩, fun z hz => h.nm z (List.mem_reverse.mp hz), by rw [List.length_reverse]; exact h.l28, by rw [List.length_reverse]; exact h.l2, h.t40, h.ti⟩
  have hi2 := (List.getElem?_eq_some_iff.mp hi).1
  rw [List.length_reverse] at hi2
  rw [List.getElem?_reverse hi2] at hi
  obtain ⟨x, y, h1, h2, h3⟩ := h.al.tie _ t hi
  refine ⟨y, x, ?_, ?_, by rw [isTie_comm]; exact h3⟩
  · rw [List.getElem?_reverse (by omega), show ws.length - 1 - i = ts.length - 1 - i + 1 by omega]
    exact h2
  · rw [List.getElem?_reverse (by omega), show ws.length - 1 - (i + 1) = ts.length - 1 - i by omega]
    exact h1
theorem net_ti {ls zs : List Nm} {qs : List (List Nat)} {J : Nat} {tis : List Ti} (h : NetOk ls zs qs J tis) : ∀ t ∈ tis, IsNm t.a ∧ IsNm t.b ∧ IsNm t.ln ∧ t.a ≠ t.b ∧ t.ch ≤ 9999 := fun t ht => by
  obtain ⟨i, j, x, a, b, hij, e1, e2, _, _, _, _, e3, _, c2⟩ := h.ok t ht
  exact ⟨h.znm _ (List.mem_of_getElem? e1), h.znm _ (List.mem_of_getElem? e2), h.lnm _ (List.mem_of_getElem? e3), fun z => hij (nodup_inj h.znd e1 (by rw [z]; exact e2)), c2⟩
theorem Al.build {tis : List Ti} : ∀ (n : Nat) (ws : List Nm), ws.length = n + 1 → (∀ i x y, ws[i]? = some x → ws[i + 1]? = some y → ∃ t ∈ tis, isTie x y t = true) → ∃ ts, Al tis ws ts
  | 0, ws, l, _ => by
    match ws, l with
    | [x], _ => exact ⟨[], Al.one _ _⟩
  | n + 1, ws, l, h => by
    rcases snoc_or ws with rfl | ⟨as, y, rfl⟩
    · simp at l
    · rcases snoc_or as with rfl | ⟨bs, x, rfl⟩
      · simp at l
      · obtain ⟨ts, hts⟩ := Al.build n (bs ++ [x]) (by simpa using l) fun i a b h1 h2 => h i a b (by rw [List.getElem?_append_left (List.getElem?_eq_some_iff.mp h1).1]; exact h1) (by rw [List.getElem?_append_left (List.getElem?_eq_some_iff.mp h2).1]; exact h2)
        obtain ⟨t, ht, hy⟩ := h bs.length x y (by rw [List.append_assoc, List.getElem?_append_right (Nat.le_refl _), Nat.sub_self]; rfl) (by rw [List.append_assoc, List.getElem?_append_right (by omega), Nat.add_sub_cancel_left]; rfl)
        exact hts.snoc ht hy
theorem net_way {ls zs : List Nm} {qs : List (List Nat)} {J : Nat} {tis rws : List Ti} (h : NetOk ls zs qs J tis) (p : rws.Perm tis) : ∃ ts, WayOk rws (zs.take (J + 2)) ts := by
  have hl := h.q.len
  have lz := h.lz
  have l : (zs.take (J + 2)).length = J + 2 := by rw [List.length_take]; omega
  obtain ⟨ts, hts⟩ := Al.build (tis := rws) (J + 1) (zs.take (J + 2)) l fun i x y h1 h2 => by
    have i2 := (List.getElem?_eq_some_iff.mp h2).1
    rw [l] at i2
    rw [List.getElem?_take_of_lt (by omega)] at h1 h2
    obtain ⟨t, ht, e1, e2⟩ := h.way i (by omega)
    exact ⟨t, p.mem_iff.mpr ht, decide_eq_true (.inl ⟨(Option.some.inj (h1.symm.trans e1)).symm, (Option.some.inj (h2.symm.trans e2)).symm⟩)⟩
  have := h.q.most
  exact ⟨ts, hts, fun z hz => h.znm z (List.mem_of_mem_take hz), by omega, by omega, by rw [p.length_eq]; exact h.t40, fun t ht => net_ti h t (p.mem_iff.mp ht)⟩
theorem net_st {ls zs : List Nm} {qs : List (List Nat)} {J : Nat} {tis : List Ti} {sts : List (Nm × Nm)} (h : NetOk ls zs qs J tis) (p : sts.Perm ((zs.zip qs).filterMap (stOf ls))) : 1 ≤ sts.length ∧ sts.length ≤ 100 ∧ ∀ s ∈ sts, IsNm s.1 := by
  have hl := h.q.len
  have lz := h.lz
  refine ⟨?_, ?_, fun s hs => ?_⟩
  · obtain ⟨f, l, ss, tw, e, _⟩ := h.q.form
    have e0 : qs[0]? = some [f] := by rw [e]; rfl
    have z0 : zs[0]? = some (zs[0]'(by omega)) := List.getElem?_eq_getElem _
    have m : (zs[0]'(by omega), [f]) ∈ zs.zip qs := List.mem_of_getElem? (i := 0) (List.getElem?_zip_eq_some.mpr ⟨z0, e0⟩)
    have : (zs[0]'(by omega), ls.getD ([f].getD 0 0) []) ∈ sts := p.mem_iff.mpr (List.mem_filterMap.mpr ⟨_, m, rfl⟩)
    exact List.length_pos_of_mem this
  · rw [p.length_eq]
    refine Nat.le_trans (List.length_filterMap_le _ _) ?_
    rw [List.length_zip]
    omega
  · obtain ⟨x, hx, ex⟩ := List.mem_filterMap.mp (p.mem_iff.mp hs)
    unfold stOf at ex
    split at ex
    · have := Option.some.inj ex
      subst this
      exact h.znm _ (List.of_mem_zip hx).1
    · cases ex
theorem lg_ne {H : Hp} {D p : Addr} {gs : List (Nm × Nat)} (h : LgA H D gs) (b : Bag H p) : D ≠ p := fun e => by
  obtain ⟨fa, e1, _⟩ := h
  obtain ⟨g, r, e2, _⟩ := b
  rw [e, e2] at e1
  have e1 : [V.int g, V.int r] = fa.map V.ref := by injection e1 with e1; injection e1
  cases fa with
  | nil => cases e1
  | cons f fs => cases e1
theorem LgA.keep {H H' : Hp} {D p : Addr} {gs : List (Nm × Nat)} (h : LgA H D gs) (k : Keep p H H') (b : Bag H p) : LgA H' D gs := by
  have n := lg_ne h b
  obtain ⟨fa, e, pp⟩ := h
  exact ⟨fa, k _ _ n e, paired_imp pp fun a _ g q => TK.keep k b _ _ q⟩
theorem LgA.off {H H' : Hp} {D : Addr} {gs : List (Nm × Nat)} (h : LgA H D gs) (e : ∀ o, H D = some o → H' D = some o) (t : TK H H') : LgA H' D gs := by
  obtain ⟨fa, e1, pp⟩ := h
  exact ⟨fa, e _ e1, paired_imp pp fun a _ g q => t _ _ q⟩
/-- one kept pair -/
def Kp1 (H : Hp) (Kp u : Addr) : Prop := ∃ (D E : Addr) (gs : List (Nm × Nat)), H u = some (.tup [.ref D, .ref E]) ∧ LgA H D gs ∧ LgA H E gs ∧ D ≠ Kp ∧ E ≠ Kp ∧ gs.length ≤ 28 ∧ ∀ g ∈ gs, IsNm g.1
def KpA (H : Hp) (Kp : Addr) (us : List Addr) : Prop := H Kp = some (.lst (us.map V.ref)) ∧ ∀ u ∈ us, Kp1 H Kp u
theorem KpA.same {H H' : Hp} {Kp : Addr} {us : List Addr} (h : KpA H Kp us) (s : Same H H') : KpA H' Kp us :=
  ⟨s _ _ h.1, fun u hu => let ⟨D, E, gs, e, a, b, r⟩ := h.2 u hu; ⟨D, E, gs, s _ _ e, a.same s, b.same s, r⟩⟩
theorem KpA.ne {H : Hp} {Kp p : Addr} {us : List Addr} (h : KpA H Kp us) (b : Bag H p) : Kp ≠ p := fun e => by
  have e1 := h.1
  obtain ⟨g, r, e2, _⟩ := b
  rw [e, e2] at e1
  have e1 : [V.int g, V.int r] = us.map V.ref := by injection e1 with e1; injection e1
  cases us with
  | nil => cases e1
  | cons f fs => cases e1
theorem KpA.keep {H H' : Hp} {Kp p : Addr} {us : List Addr} (h : KpA H Kp us) (k : Keep p H H') (b : Bag H p) : KpA H' Kp us :=
  ⟨k _ _ (h.ne b) h.1, fun u hu => let ⟨D, E, gs, e, a, c, r⟩ := h.2 u hu; ⟨D, E, gs, TK.keep k b _ _ e, a.keep k b, c.keep k b, r⟩⟩
theorem legs28 {tis : List Ti} {ws : List Nm} {ts : List Ti} (hw : WayOk tis ws ts) : (legsM (ts.map tiP)).length ≤ 28 := by
  have := legsM_len _ (ts.map tiP) rfl
  rw [List.length_map] at this
  have := hw.l28
  have := hw.al.len
  omega
def Wd (H : Hp) (rws : List Ti) (a : Addr) (x : List Nm × List Ti) : Prop := H a = some (.tup (x.1.map nS)) ∧ WayOk rws x.1 x.2
end Th
namespace Th
open PySem PySem.Spec PyProof.Rows L2
/-! seals: None, "whole", "broken" -/
theorem cut_upto (xs : List V) (m : Nat) : cutV xs none (some (m : Int)) = xs.take m := by
  unfold cutV
  rw [HT.sIx_none, HT.sIx_nat]
  show (xs.drop 0).take (min m xs.length - 0) = xs.take m
  rw [List.drop_zero, Nat.sub_zero]
  by_cases h : m ≤ xs.length
  · rw [Nat.min_eq_left h]
  · rw [Nat.min_eq_right (by omega), List.take_length, List.take_of_length_le (by omega)]
def sV : Option Bool → V
  | none => .non
  | some true => .str "whole"
  | some false => .str "broken"
theorem sV_flat (sl : List (Option Bool)) : (sl.map sV).all flatV = true := by
  rw [List.all_map]
  refine List.all_eq_true.mpr fun s _ => ?_
  match s with
  | none => rfl
  | some true => rfl
  | some false => rfl
theorem eqV_broken (s : Option Bool) : eqV (sV s) (.str "broken") = decide (s = some false) := by
  match s with
  | none => rfl
  | some true => decide
  | some false => decide
theorem sV_eq (s : Option Bool) (b : Bool) : decide (sV s = sV (some b)) = decide (s = some b) := by
  match s, b with
  | none, true => rfl
  | none, false => rfl
  | some true, true => decide
  | some false, true => decide
  | some true, false => decide
  | some false, false => decide
theorem scal_sV (s : Option Bool) (b : Bool) : scal (sV s) (sV (some b)) = true := by
  match s, b with
  | none, true => rfl
  | none, false => rfl
  | some true, true => rfl
  | some false, true => rfl
  | some true, false => rfl
  | some false, false => rfl
theorem seal_at {sl : List (Option Bool)} {i : Nat} {v : V} (h : (sl.map sV)[i]? = some v) : ∃ s, sl[i]? = some s ∧ v = sV s := by
  rw [List.getElem?_map] at h
  cases e : sl[i]? with
  | none => rw [e] at h; cases h
  | some z => rw [e] at h; exact ⟨z, rfl, (Option.some.inj h).symm⟩
theorem ref_at {fa : List Addr} {i : Nat} {v : V} (h : (fa.map V.ref)[i]? = some v) : ∃ u, fa[i]? = some u ∧ v = .ref u := by
  rw [List.getElem?_map] at h
  cases e : fa[i]? with
  | none => rw [e] at h; cases h
  | some z => rw [e] at h; exact ⟨z, rfl, (Option.some.inj h).symm⟩
/-- the first broken one's place -/
def bM (sl : List (Option Bool)) : Nat := sl.findIdx fun s => decide (s = some false)
theorem bM_le (sl : List (Option Bool)) : bM sl ≤ sl.length := List.findIdx_le_length
theorem bM_none {sl : List (Option Bool)} (h : ∀ s ∈ sl, ¬ s = some false) : bM sl = sl.length := List.findIdx_eq_length_of_false fun s hs => decide_eq_false (h s hs)
theorem bM_at {sl : List (Option Bool)} (h : bM sl < sl.length) : sl[bM sl]? = some (some false) := by
  have e := List.findIdx_getElem (p := fun s => decide (s = some false)) (xs := sl) (w := h)
  rw [List.getElem?_eq_getElem h]
  exact congrArg some (of_decide_eq_true e)
theorem bM_before {sl : List (Option Bool)} {i : Nat} {s : Option Bool} (h : i < bM sl) (e : sl[i]? = some s) : ¬ s = some false := by
  have := List.not_of_lt_findIdx (p := fun s => decide (s = some false)) (xs := sl) h
  have hi : i < sl.length := (List.getElem?_eq_some_iff.mp e).1
  rw [List.getElem?_eq_getElem hi] at e
  rw [← Option.some.inj e]
  simpa using this
/-- behind the last whole one ahead of i -/
def fM (sl : List (Option Bool)) : Nat → Nat
  | 0 => 0
  | i + 1 => if sl[i]? = some (some true) then i + 1 else fM sl i
theorem fM_le (sl : List (Option Bool)) : ∀ i, fM sl i ≤ i
  | 0 => Nat.le_refl _
  | i + 1 => by
    have := fM_le sl i
    unfold fM
    split <;> omega
theorem fM_take (sl : List (Option Bool)) (b : Nat) : ∀ i, i ≤ b → fM (sl.take b) i = fM sl i
  | 0, _ => rfl
  | i + 1, h => by
    unfold fM
    rw [List.getElem?_take_of_lt (by omega), fM_take sl b i (by omega)]
def whM (sl : List (Option Bool)) (i : Nat) : List Nat := (List.range i).filter fun j => decide (sl[j]? = some (some true))
theorem whM_len (sl : List (Option Bool)) (i : Nat) : (whM sl i).length ≤ i := Nat.le_trans (List.length_filter_le ..) (by rw [List.length_range]; exact Nat.le_refl _)
theorem whM_succ (sl : List (Option Bool)) (i : Nat) : whM sl (i + 1) = whM sl i ++ (if sl[i]? = some (some true) then [i] else []) := by
  unfold whM
  rw [List.range_succ, List.filter_append]
  congr 1
  by_cases h : sl[i]? = some (some true)
  · rw [if_pos h, List.filter_cons_of_pos (p := fun j => decide (sl[j]? = some (some true))) (decide_eq_true h)]
    rfl
  · rw [if_neg h, List.filter_cons_of_neg (p := fun j => decide (sl[j]? = some (some true))) (fun z => h (of_decide_eq_true z))]
    rfl
theorem whM_last (sl : List (Option Bool)) : ∀ i, (whM sl i = [] ∧ fM sl i = 0) ∨ ∃ as a, whM sl i = as ++ [a] ∧ fM sl i = a + 1
  | 0 => .inl ⟨rfl, rfl⟩
  | i + 1 => by
    rw [whM_succ]
    unfold fM
    by_cases h : sl[i]? = some (some true)
    · rw [if_pos h, if_pos h]
      exact .inr ⟨_, _, rfl, rfl⟩
    · rw [if_neg h, if_neg h, List.append_nil]
      exact whM_last sl i
/-- the legs between -/
def midM {α : Type} (gs : List α) (f b : Nat) : List α := (gs.drop f).take (b + 1 - f)
def bearM (gs : List (Nm × Nat)) (sl : List (Option Bool)) : List (Nm × Nat) := chM (midM gs (fM sl (bM sl)) (bM sl))
theorem cut_mid (xs : List V) (f b : Nat) (h1 : f ≤ xs.length) (h2 : b + 1 ≤ xs.length) : cutV xs (some (f : Int)) (some ((b : Int) + 1)) = midM xs f b := by
  unfold cutV midM
  rw [show (b : Int) + 1 = ((b + 1 : Nat) : Int) by omega, HT.sIx_nat, HT.sIx_nat, Nat.min_eq_left h1, Nat.min_eq_left h2]
theorem mid_map {α β : Type} (g : α → β) (xs : List α) (f b : Nat) : midM (xs.map g) f b = (midM xs f b).map g := by
  unfold midM
  rw [List.map_take, List.map_drop]
theorem mid_len {α : Type} (gs : List α) (f b : Nat) : (midM gs f b).length ≤ gs.length := by
  unfold midM
  rw [List.length_take, List.length_drop]
  omega
theorem mid_mem {α : Type} {gs : List α} {f b : Nat} {g : α} (h : g ∈ midM gs f b) : g ∈ gs := List.mem_of_mem_drop (List.mem_of_mem_take h)
theorem mid_next {α : Type} {gs : List α} {f i : Nat} {g : α} (hf : f ≤ i + 1) (h : gs[i + 1]? = some g) : midM gs f i ++ [g] = midM gs f (i + 1) := by
  unfold midM
  have e : (gs.drop f)[i + 1 - f]? = some g := by
    rw [List.getElem?_drop, show f + (i + 1 - f) = i + 1 by omega]
    exact h
  rw [show i + 1 + 1 - f = i + 1 - f + 1 by omega, List.take_add_one, e]
  rfl
theorem mid_one {α : Type} {gs : List α} {i : Nat} {g : α} (h : gs[i]? = some g) : midM gs i i = [g] := by
  unfold midM
  have e : (gs.drop i)[0]? = some g := by
    rw [List.getElem?_drop, Nat.add_zero]
    exact h
  rw [show i + 1 - i = 0 + 1 by omega, List.take_add_one, e]
  rfl
theorem LgA.mid {H : Hp} {fa : List Addr} {gs : List (Nm × Nat)} (h : Paired (PrA H) fa gs) (f b : Nat) : Paired (PrA H) (midM fa f b) (midM gs f b) := paired_take _ (paired_drop _ h)
section
variable {P : Program} {w : World} {K : PySem.W.Frag} {mg : Str → Option Value} {base : Heap} {k : Nat}
def sp_bearers : Sp := fun vs H Q _ => ∃ (r wy R : Addr) (ls : List Nm) (sts : List (Nm × Nm)) (jns : List (Nm × List Nm)) (tis : List Ti) (ws : List Nm) (ts : List Ti) (sl : List (Option Bool)), vs = [.ref r, .ref wy, .ref R] ∧ NetAt H r ls sts jns tis ∧ H wy = some (.tup (ws.map nS)) ∧ WayOk tis ws ts ∧
  H R = some (.lst (sl.map sV)) ∧ sl.length + 1 = (legsM (ts.map tiP)).length ∧
  ∀ H' D, Same H H' → H D = none → LgA H' D (bearM (legsM (ts.map tiP)) sl) → Q (.ref D) H'
set_option maxHeartbeats 8000000 in
theorem ok_bearers (T : Defs K mg) : FnOk P w K mg base CX0 (k + 4) T.a_bearers T.d_bearers ["net", "way", "seals"] sp_bearers := by
  have G_legs : FnOk P w K mg base CX0 (k + 3) _ _ _ _ := ok_legs T
  have G_chains_by_line : FnOk P w K mg base CX0 (k + 3) _ _ _ _ := ok_chains_by_line T
  refine T.F_bearers.ok sc_bearers (fun vs H Q E h => ?_) (fun cdv A outer s H vs Q E hr h => ?_)
  · obtain ⟨r, wy, R, ls, sts, jns, tis, ws, ts, sl, rfl, _⟩ := h
    rfl
  · obtain ⟨r, wy, R, ls, sts, jns, tis, ws, ts, sl, rfl, hnet, ewy, hw, eR, hl, q⟩ := h
    refine ⟨_, PSs.nox
(Evl.pss_cut (ps_set (i := 3) sc_bearers.nd rfl (.inl rfl) (pe_ifExp (pt_cmpR (r := rIn K false) op_in_seq (pe_str) (pv 2) (by rfl)) (pe_bm PySem.F.plainAttrs_list PySem.F.slot_list_index PySem.F.type_list_index mt_index (pv 2) (pa_cons (pe_str) pa_nil)) (pe_callB (r := rLenS K) call_lenS (by rfl) T.z_len (by decide +kernel) (pa_cons (pv 2) pa_nil))))
    (pss_cons (ps_setLc (i := 4) (own := [("at", 6), ("seal", 7)]) (g := gTup K 2 (gCons (gName 6) (gCons (gName 7) gNil))) rfl sc_bearers.nd rfl rfl (sw_true rfl rfl rfl (by decide +kernel)) (pi_enum (by rfl) T.z_enumerate (pa_cons (pe_slice sl_list (pv 2) po_none (po_some (pv 3))) pa_nil)) (blkOk_by (N := N_bearers) (sc := defScope s_bearers) (by decide +kernel)) (fun _ _ _ _ _ => (pg_tup rfl (pgs_cons (pg_name (i := 6) sc_bearers.nd rfl (.inl rfl)) (pgs_cons (pg_name (i := 7) sc_bearers.nd rfl (.inl rfl)) pgs_nil)))) (fun _ _ _ _ _ => pts_one (pt_cmpR op_eq (pv 7) (pe_str) (nomark _))) (fun _ _ _ _ _ => (pv 6)))
    (Evl.pss_cut (ps_set (i := 5) sc_bearers.nd rfl (.inl rfl) (pe_ifExp (pt_truth (pv 4) (by intro _; rfl)) (pe_op op_add (pe_ix (r := rIxL K) ix_list (pv 4) (pe_un un_neg (pe_int)) (fun _ _ => rfl)) (pe_int)) (pe_int)))
    (pss_one (ps_ret (pe_call G_chains_by_line hr (by rfl) T.g_chains_by_line T.F_chains_by_line.kp T.b_chains_by_line .nil pass0 (pa_cons (pe_slice sl_list (pe_call G_legs hr (by rfl) T.g_legs T.F_legs.kp T.b_legs .nil pass0 (pa_cons (pv 0) (pa_cons (pv 1) pa_nil))) (po_some (pv 5)) (po_some (pe_op op_add (pv 3) (pe_int)))) pa_nil)))))))
      , ?_⟩
    have gl := legs28 hw
    have bl := bM_le sl
    -- broken
    refine ⟨fun σ H1 => H1 = H ∧ σ = [some (.ref r), some (.ref wy), some (.ref R), some (.int (bM sl : Nat)), none, none, none, none], ?_, fun σ H1 mid => ?_⟩
    · refine ⟨.ref R, rfl, R, _, rfl, .inl (SqL.of eR), rfl, sV_flat sl, _, rfl, ite2 (fun c => ?_) (fun c => ?_)⟩
      · have c : (sl.map sV).any (fun y => eqV y (.str "broken")) = true := c
        have hb : bM sl < sl.length := by
          rw [List.any_map] at c
          obtain ⟨s, hs, e⟩ := List.any_eq_true.mp c
          have e : eqV (sV s) (.str "broken") = true := e
          rw [eqV_broken] at e
          exact List.findIdx_lt_length_of_exists ⟨s, hs, e⟩
        refine ⟨.ref R, rfl, .inl ⟨rfl, _, SqL.of eR⟩, R, _, _, bM sl, sV (some false), rfl, rfl, SqL.of eR, rfl, sV_flat sl, by rw [List.getElem?_map, bM_at hb]; rfl, eqV_broken (some false), fun m z hm hz => ?_, rfl, rfl⟩
        obtain ⟨s, hs, rfl⟩ := seal_at hz
        rw [eqV_broken]
        exact decide_eq_false (bM_before hm hs)
      · have hb : bM sl = sl.length := bM_none fun s hs e => c (by
          show (sl.map sV).any (fun y => eqV y (.str "broken")) = true
          rw [List.any_map]
          exact List.any_eq_true.mpr ⟨s, hs, by show eqV (sV s) (.str "broken") = true; rw [eqV_broken]; exact decide_eq_true e⟩)
        refine ⟨.ref R, rfl, R, _, rfl, .inl (SqL.of eR), rfl, ?_⟩
        rw [hb, List.length_map]
        rfl
    obtain ⟨rfl, rfl⟩ := mid
    -- whole
    refine ⟨.ref R, rfl, .int (bM sl : Nat), rfl, _, rfl, R, _, rfl, SqL.of eR, fun c nc => ?_⟩
    rw [cut_upto, ← List.map_take]
    have s1 := same_upd (o := .lst ((sl.take (bM sl)).map sV)) nc
    refine ⟨c, _, rfl, SqL.of upd_same, fun W nW => ?_⟩
    have ec : (upd H1 c (.lst ((sl.take (bM sl)).map sV))) c = some (.lst ((sl.take (bM sl)).map sV)) := upd_same
    generalize upd H1 c (.lst ((sl.take (bM sl)).map sV)) = H2 at s1 ec nW
    have tl : (sl.take (bM sl)).length = bM sl := by rw [List.length_take]; omega
    refine lc_it (walk_enum (xs := (sl.take (bM sl)).map sV)) (fun m H4 => Same H2 H4 ∧ H4 W = some (.lst ((whM (sl.take (bM sl)) m).map fun j => V.int ((j : Nat) : Int)))) ⟨same_upd nW, upd_same⟩ (fun m H4 _ pv => SqL.of (pv.1 _ _ ec)) (fun m v H4 H5 hm pv yy => ?_) (fun H4 pv => ?_)
    · obtain ⟨U, x, y, rfl, nU, rfl, ex, ey⟩ := yy
      have ex : x = .int (m : Int) := (Option.some.inj ex).symm
      obtain ⟨s, hs, rfl⟩ := seal_at ey
      subst ex
      rw [List.length_map] at hm
      have s4 := pv.1.trans (same_upd (o := .tup [.int (m : Int), sV s]) nU)
      have eG := same_upd (o := .tup [.int (m : Int), sV s]) nU _ _ pv.2
      rw [whM_succ, hs]
      refine ⟨U, _, rfl, SqT.of upd_same, rfl, _, _, rfl, _, [], rfl, rfl, rfl, sV s, rfl, scal_sV s true, _, rfl, ite2 (fun c => ?_) (fun c => ?_)⟩
      · have c : s = some true := of_decide_eq_true ((sV_eq s true).symm.trans c)
        refine ⟨.int (m : Int), rfl, _, eG, by rw [List.length_map]; exact small5000 (Nat.le_trans (whM_len ..) (by omega)), same_set s4 nW, ?_⟩
        rw [upd_same, c, if_pos rfl, List.map_append]
        rfl
      · have c : ¬ s = some true := fun z => c ((sV_eq s true).trans (decide_eq_true z))
        refine ⟨s4, ?_⟩
        rw [if_neg fun z => c (Option.some.inj z), List.append_nil]
        exact eG
    · obtain ⟨s4, eW⟩ := pv
      rw [List.length_map, tl] at eW
      have s14 := s1.trans s4
      -- first
      refine ⟨fun σ H5 => H5 = H4 ∧ σ = [some (.ref r), some (.ref wy), some (.ref R), some (.int (bM sl : Nat)), some (.ref W), some (.int (fM sl (bM sl) : Nat)), none, none], ?_, fun σ H5 mid => ?_⟩
      · have ft := fM_take sl (bM sl) (bM sl) (Nat.le_refl _)
        rcases whM_last (sl.take (bM sl)) (bM sl) with ⟨e1, e2⟩ | ⟨as, x, e1, e2⟩
        · rw [e1] at eW
          rw [← ft, e2]
          exact ⟨.ref W, rfl, _, .inl ⟨_, SqL.of eW, rfl⟩, iteF ⟨rfl, rfl⟩⟩
        · rw [e1, List.map_append] at eW
          rw [← ft, e2]
          refine ⟨.ref W, rfl, _, .inl ⟨_, SqL.of eW, rfl⟩, ?_⟩
          rw [show (!(as.map (fun j => V.int ((j : Nat) : Int)) ++ [x].map (fun j => V.int ((j : Nat) : Int))).isEmpty) = true by cases as <;> rfl]
          refine iteT ⟨.ref W, rfl, 1, rfl, W, _, -1, _, rfl, rfl, SqL.of eW, atI_last _ _, _, _, rfl, rfl, rfl, ?_⟩
          rw [Int.natCast_add]
          rfl
      obtain ⟨rfl, rfl⟩ := mid
      have fl := fM_le sl (bM sl)
      refine ⟨.ref r, rfl, .ref wy, rfl, r, wy, ls, sts, jns, tis, ws, ts, rfl, hnet.tk (.of s14), s14 _ _ ewy, hw, fun H6 D s6 nD hD => ?_⟩
      obtain ⟨da, eD, hda⟩ := hD
      have dl := paired_len hda
      refine ⟨.int (fM sl (bM sl) : Nat), rfl, _, rfl, .int (bM sl : Nat), rfl, _, _, rfl, rfl, _, rfl, D, _, rfl, SqL.of eD, fun C nC => ?_⟩
      have s7 := same_upd (o := .lst (cutV (da.map V.ref) (some ((fM sl (bM sl) : Nat) : Int)) (some (((bM sl : Nat) : Int) + 1)))) nC
      rw [cut_mid _ _ _ (by rw [List.length_map]; omega) (by rw [List.length_map]; omega), mid_map] at s7 ⊢
      have s07 := (s14.trans s6).trans s7
      refine ⟨C, _, rfl, ⟨_, upd_same, paired_imp (LgA.mid hda (fM sl (bM sl)) (bM sl)) fun x _ g e => s7 _ _ e⟩, Nat.le_trans (mid_len _ _ _) gl, fun H8 F s8 nF hF => ?_⟩
      exact q _ F (s07.trans s8) (up0 s07 nF) hF
end
/-! seals as data -/
abbrev slE : Option Bool → PyData
  | none => .none
  | some true => .str "whole"
  | some false => .str "broken"
abbrev slD (sl : List (Option Bool)) : PyData := .list (sl.map slE)
theorem dtAll_sl {H : Hp} : ∀ sl : List (Option Bool), DtAll SA H (sl.map sV) (sl.map slE)
  | [] => .nil
  | none :: r => .cons .non (dtAll_sl r)
  | some true :: r => .cons (.str _) (dtAll_sl r)
  | some false :: r => .cons (.str _) (dtAll_sl r)
theorem dt_sl {H : Hp} {R : Addr} {sl : List (Option Bool)} (h : H R = some (.lst (sl.map sV))) (l : sl.length ≤ 5000) : Dt SA H (.ref R) (slD sl) := .lst trivial h (by rw [List.length_map]; exact l) (dtAll_sl sl)
theorem layAll_sl : ∀ sl : List (Option Bool), PyData.canLayAll0 (sl.map slE) = true
  | [] => rfl
  | none :: r => by
    show (true && PyData.canLayAll0 (r.map slE)) = true
    rw [layAll_sl r]
    rfl
  | some true :: r => by
    show (PyData.strOk "whole" && PyData.canLayAll0 (r.map slE)) = true
    rw [layAll_sl r]
    decide +kernel
  | some false :: r => by
    show (PyData.strOk "broken" && PyData.canLayAll0 (r.map slE)) = true
    rw [layAll_sl r]
    decide +kernel
theorem depthAll_sl : ∀ sl : List (Option Bool), PyData.depthAll (sl.map slE) = 0
  | [] => rfl
  | none :: r => by rw [List.map_cons, PyData.depthAll, depthAll_sl r]; rfl
  | some true :: r => by rw [List.map_cons, PyData.depthAll, depthAll_sl r]; rfl
  | some false :: r => by rw [List.map_cons, PyData.depthAll, depthAll_sl r]; rfl
theorem lay_sl (sl : List (Option Bool)) : (slD sl).canLay0 = true := layAll_sl sl
theorem shaped_sl (sl : List (Option Bool)) : SeqAt.shaped (slD sl) = true := Bool.and_eq_true_iff.mpr ⟨lay_sl sl, decide_eq_true (by show PyData.depthAll (sl.map slE) + 1 ≤ _; rw [depthAll_sl]; decide)⟩
theorem bear_len {gs : List (Nm × Nat)} {sl : List (Option Bool)} (h : gs.length ≤ 28) : (bearM gs sl).length ≤ 28 := by
  unfold bearM
  have := chM_len (midM gs (fM sl (bM sl)) (bM sl))
  have := mid_len gs (fM sl (bM sl)) (bM sl)
  omega
theorem bear_nm {gs : List (Nm × Nat)} {sl : List (Option Bool)} (h : ∀ g ∈ gs, IsNm g.1) : ∀ g ∈ bearM gs sl, IsNm g.1 := chM_nm fun g hg => h g (mid_mem hg)
theorem legs_pos {tis : List Ti} {ws : List Nm} {ts : List Ti} (hw : WayOk tis ws ts) : 1 ≤ (legsM (ts.map tiP)).length := by
  have l2 := hw.l2
  have ll := hw.al.len
  rcases snoc_or (ts.map tiP) with e | ⟨as, x, e⟩
  · have := congrArg List.length e
    rw [List.length_map, List.length_nil] at this
    omega
  · rw [e, legsM_snoc]
    rcases snoc_or (legsM as) with e1 | ⟨bs, g, e1⟩
    · rw [e1, leg_nil]
      simp
    · rw [e1]
      by_cases c : g.1 = x.1
      · rw [leg_one c]
        simp
      · rw [leg_two c]
        simp
theorem pickS {ss : List (Option Bool)} {d : Int} (h0 : 0 ≤ d) (h1 : d < ss.length) : ∃ s, atI (ss.map sV) d = some (sV s) := by
  obtain ⟨j, rfl⟩ : ∃ j : Nat, d = (j : Int) := ⟨d.toNat, by omega⟩
  have hj : j < ss.length := by omega
  refine ⟨ss[j], atI_nat ?_⟩
  rw [List.getElem?_map, List.getElem?_eq_getElem hj]
  rfl
end Th
namespace Th
open PySem PySem.Spec PyProof.Rows L2
/-! lines' chains of a run that is parted -/
theorem ded_nd : ∀ (n : Nat) (gs : List (Nm × Nat)), gs.length = n → (ded gs).Nodup
  | 0, gs, h => by rw [List.length_eq_zero_iff.mp h]; exact .nil
  | n + 1, gs, h => by
    rcases snoc_or gs with rfl | ⟨as, x, rfl⟩
    · simp at h
    · have ih := ded_nd n as (by simpa using h)
      rw [ded_snoc]
      by_cases c : x.1 ∈ ded as
      · rw [if_pos c]
        exact ih
      · rw [if_neg c]
        refine List.nodup_append.mpr ⟨ih, List.nodup_cons.mpr ⟨List.not_mem_nil, .nil⟩, fun a ha b hb => ?_⟩
        rw [List.mem_singleton.mp hb]
        exact fun z => c (z ▸ ha)
theorem sm_append (l : Nm) (as bs : List (Nm × Nat)) : sm l (as ++ bs) = sm l as + sm l bs := by
  unfold sm
  rw [List.filter_append, List.map_append, List.sum_append]
theorem sm_ch (l : Nm) (gs : List (Nm × Nat)) : sm l (chM gs) = sm l gs := by
  have nd := ded_nd _ gs rfl
  by_cases h : l ∈ ded gs
  · have key : ∀ ls : List Nm, ls.Nodup → l ∈ ls → sm l (ls.map fun l => (l, sm l gs)) = sm l gs := fun ls => by
      induction ls with
      | nil => exact fun _ h => by cases h
      | cons x r ih =>
        intro nd hm
        rw [List.nodup_cons] at nd
        have e : (x :: r).map (fun l => (l, sm l gs)) = [(x, sm x gs)] ++ r.map (fun l => (l, sm l gs)) := rfl
        rw [e, sm_append]
        by_cases c : x = l
        · subst c
          have z : sm x (r.map fun l => (l, sm l gs)) = 0 := by
            have : (r.map fun l => (l, sm l gs)).filter (fun g => decide (g.1 = x)) = [] := List.filter_eq_nil_iff.mpr fun g hg => by
              obtain ⟨y, hy, rfl⟩ := List.mem_map.mp hg
              simp only [decide_eq_true_eq]
              exact fun z => nd.1 (z ▸ hy)
            show (((r.map fun l => (l, sm l gs)).filter fun g => decide (g.1 = x)).map fun g => g.2).sum = 0
            rw [this]
            rfl
          rw [z]
          show ((List.filter (fun g : Nm × Nat => decide (g.1 = x)) [(x, sm x gs)]).map (·.2)).sum + 0 = _
          rw [List.filter_cons_of_pos (p := fun g : Nm × Nat => decide (g.1 = x)) (decide_eq_true rfl)]
          simp
        · have hr : l ∈ r := by
            rcases List.mem_cons.mp hm with z | z
            · exact absurd z.symm c
            · exact z
          rw [ih nd.2 hr]
          show ((List.filter (fun g : Nm × Nat => decide (g.1 = l)) [(x, sm x gs)]).map (·.2)).sum + _ = _
          rw [List.filter_cons_of_neg (p := fun g : Nm × Nat => decide (g.1 = l)) (by simp only [decide_eq_true_eq]; exact c)]
          simp
    exact key (ded gs) nd h
  · rw [sm_none h]
    have : (chM gs).filter (fun g => decide (g.1 = l)) = [] := List.filter_eq_nil_iff.mpr fun g hg => by
      obtain ⟨y, hy, rfl⟩ := List.mem_map.mp hg
      simp only [decide_eq_true_eq]
      exact fun z => h (z ▸ hy)
    unfold sm
    rw [this]
    rfl
theorem ch_lines (gs : List (Nm × Nat)) : (chM gs).map (·.1) = ded gs := by
  unfold chM
  rw [List.map_map]
  exact List.map_id _
theorem mid_parts {α : Type} (gs : List α) {f l : Nat} (h : f ≤ l + 1) : gs = gs.take f ++ midM gs f l ++ gs.drop (l + 1) := by
  unfold midM
  have e : gs.drop (l + 1) = (gs.drop f).drop (l + 1 - f) := by rw [List.drop_drop]; congr 1; omega
  rw [e, List.append_assoc, List.take_append_drop, List.take_append_drop]
/-- the bearers' chains with the others' are the way's -/
abbrev allM (gs : List (Nm × Nat)) (f l : Nat) : List (Nm × Nat) := chM (midM gs f l) ++ gs.take f ++ gs.drop (l + 1)
theorem all_sm (gs : List (Nm × Nat)) {f l : Nat} (h : f ≤ l + 1) (x : Nm) : sm x (allM gs f l) = sm x gs := by
  have e := congrArg (sm x) (mid_parts gs h)
  rw [sm_append, sm_append] at e
  rw [sm_append, sm_append, sm_ch, e]
  omega
theorem all_ded (gs : List (Nm × Nat)) {f l : Nat} (h : f ≤ l + 1) (x : Nm) : x ∈ ded (allM gs f l) ↔ x ∈ ded gs := by
  rw [ded_mem _ _ rfl, ded_mem _ _ rfl]
  have e := mid_parts gs h
  have mm : (∃ g ∈ chM (midM gs f l), g.1 = x) ↔ ∃ g ∈ midM gs f l, g.1 = x := by
    have h2 : x ∈ (chM (midM gs f l)).map (·.1) ↔ ∃ g ∈ midM gs f l, g.1 = x := by
      rw [ch_lines]
      exact ded_mem _ _ rfl x
    rw [← h2, List.mem_map]
  constructor
  · rintro ⟨g, hg, rfl⟩
    rcases List.mem_append.mp hg with z | z
    · rcases List.mem_append.mp z with z | z
      · obtain ⟨g', h1, h2⟩ := mm.mp ⟨g, z, rfl⟩
        exact ⟨g', mid_mem h1, h2⟩
      · exact ⟨g, List.mem_of_mem_take z, rfl⟩
    · exact ⟨g, List.mem_of_mem_drop z, rfl⟩
  · rintro ⟨g, hg, rfl⟩
    rw [e] at hg
    rcases List.mem_append.mp hg with z | z
    · rcases List.mem_append.mp z with z | z
      · exact ⟨g, List.mem_append_left _ (List.mem_append_right _ z), rfl⟩
      · obtain ⟨g', h1, h2⟩ := mm.mpr ⟨g, z, rfl⟩
        exact ⟨g', List.mem_append_left _ (List.mem_append_left _ h1), h2⟩
    · exact ⟨g, List.mem_append_right _ z, rfl⟩
theorem nd_sub {α : Type} [DecidableEq α] : ∀ {xs ys : List α}, xs.Nodup → (∀ x ∈ xs, x ∈ ys) → xs.length ≤ ys.length
  | [], _, _, _ => Nat.zero_le _
  | x :: r, ys, nd, h => by
    rw [List.nodup_cons] at nd
    have hx := h x List.mem_cons_self
    have := nd_sub (xs := r) (ys := ys.erase x) nd.2 fun y hy => (List.mem_erase_of_ne fun z => nd.1 (by rw [← z]; exact hy)).mpr (h y (List.mem_cons_of_mem _ hy))
    rw [List.length_erase_of_mem hx] at this
    have := List.length_pos_of_mem hx
    rw [List.length_cons]
    omega
theorem nd_leq {α : Type} [DecidableEq α] {xs ys : List α} (h1 : xs.Nodup) (h2 : ys.Nodup) (h : ∀ x, x ∈ xs ↔ x ∈ ys) : xs.length = ys.length :=
  Nat.le_antisymm (nd_sub h1 fun x hx => (h x).mp hx) (nd_sub h2 fun x hx => (h x).mpr hx)
theorem all_len (gs : List (Nm × Nat)) {f l : Nat} (h : f ≤ l + 1) : (chK (allM gs f l)).length = (chK gs).length := by
  unfold chK
  rw [List.length_map, List.length_map]
  exact nd_leq (ded_nd _ _ rfl) (ded_nd _ _ rfl) (all_ded gs h)
theorem all_val (gs : List (Nm × Nat)) {f l : Nat} (h : f ≤ l + 1) : ∀ p ∈ chK (allM gs f l), valV (chK gs) p.1 = some p.2 ∧ flatB p.2 = true := fun p hp => by
  obtain ⟨x, hx, rfl⟩ := List.mem_map.mp hp
  refine ⟨?_, rfl⟩
  have := val_map (f := fun l => V.int (sm l gs : Nat)) (ded gs) x
  unfold chK
  rw [show ((kyL x, V.int ((sm x (allM gs f l) : Nat) : Int)) : Key × V).1 = kyL x from rfl, this, if_pos ((all_ded gs h x).mp hx), all_sm gs h]
theorem merge_nd : ∀ (more acc : List (Key × V)), ((acc ++ more).map (·.1)).Nodup → mergeK acc more = acc ++ more
  | [], acc, _ => by rw [List.append_nil]; rfl
  | x :: r, acc, h => by
    have e : putK acc x.1 x.2 = acc ++ [x] := by
      unfold putK
      rw [if_neg]
      intro z
      obtain ⟨y, hy, e⟩ := List.any_eq_true.mp z
      have e : y.1 = x.1 := of_decide_eq_true e
      rw [List.map_append, List.map_cons] at h
      exact (List.nodup_append.mp h).2.2 y.1 (List.mem_map_of_mem hy) x.1 List.mem_cons_self e
    show mergeK (putK acc x.1 x.2) r = _
    rw [e, merge_nd r (acc ++ [x]) (by rw [List.append_assoc]; exact h), List.append_assoc]
    rfl
theorem merge_ch (gs : List (Nm × Nat)) : mergeK [] (chK gs) = chK gs := by
  refine merge_nd _ [] ?_
  rw [List.nil_append]
  unfold chK
  rw [List.map_map]
  refine List.Pairwise.map _ (fun a b h z => h (ky_inj z)) (ded_nd _ gs rfl)
/-! seals by few places -/
theorem bM_of {sl : List (Option Bool)} {l : Nat} (h : l ≤ sl.length) (h1 : ∀ i, i < l → sl[i]? ≠ some (some false)) (h2 : l < sl.length → sl[l]? = some (some false)) : bM sl = l := by
  rcases Nat.lt_trichotomy (bM sl) l with z | z | z
  · exact absurd (bM_at (by omega)) (h1 _ z)
  · exact z
  · have := bM_le sl
    exact absurd rfl (bM_before z (h2 (by omega)))
theorem fM_of {sl : List (Option Bool)} {f : Nat} (h1 : ∀ g, f = g + 1 → sl[g]? = some (some true)) : ∀ {l : Nat}, f ≤ l → (∀ i, f ≤ i → i < l → sl[i]? ≠ some (some true)) → fM sl l = f
  | 0, h, _ => by
    have : f = 0 := by omega
    rw [this]
    rfl
  | l + 1, h, h2 => by
    show (if sl[l]? = some (some true) then l + 1 else fM sl l) = f
    by_cases c : f = l + 1
    · rw [if_pos (h1 l c), c]
    · rw [if_neg (h2 l (by omega) (by omega))]
      exact fM_of h1 (by omega) fun i a b => h2 i a (by omega)
/-- seals of which one at most is whole, right ahead of f, one at most broken, at l -/
def rowM (n f l : Nat) : List (Option Bool) := (List.range n).map fun i => if i + 1 = f then some true else if i = l then some false else none
theorem row_len (n f l : Nat) : (rowM n f l).length = n := by unfold rowM; rw [List.length_map, List.length_range]
theorem row_at {n f l i : Nat} (h : i < n) : (rowM n f l)[i]? = some (if i + 1 = f then some true else if i = l then some false else none) := by
  unfold rowM
  rw [List.getElem?_map, List.getElem?_range h]
  rfl
/-- seals as those but for what doesn't matter -/
structure LikeR (n f l : Nat) (sl : List (Option Bool)) : Prop where
  len : sl.length = n
  brk : l < n → sl[l]? = some (some false)
  nb : ∀ i, i < l → sl[i]? ≠ some (some false)
  wh : ∀ g, f = g + 1 → sl[g]? = some (some true)
  nw : ∀ i, f ≤ i → i < l → sl[i]? ≠ some (some true)
theorem LikeR.bear {n f l : Nat} {sl : List (Option Bool)} (h : LikeR n f l sl) (hf : f ≤ l) (hl : l ≤ n) (gs : List (Nm × Nat)) : bearM gs sl = chM (midM gs f l) := by
  have e : bM sl = l := bM_of (by rw [h.len]; exact hl) h.nb (by rw [h.len]; exact h.brk)
  unfold bearM
  rw [e, fM_of h.wh hf h.nw]
theorem row_like {n f l : Nat} (hf : f ≤ l) (hl : l ≤ n) : LikeR n f l (rowM n f l) := by
  refine ⟨row_len n f l, fun h => ?_, fun i h => ?_, fun g h => ?_, fun i h1 h2 => ?_⟩
  · rw [row_at h, if_neg (by omega), if_pos rfl]
  · rw [row_at (by omega)]
    split
    · exact fun z => by cases z
    · rw [if_neg (by omega)]
      exact fun z => by cases z
  · rw [row_at (by omega), if_pos h.symm]
  · rw [row_at (by omega), if_neg (by omega), if_neg (by omega)]
    exact fun z => by cases z
theorem none_bear (gs : List (Nm × Nat)) (n : Nat) (h : n + 1 = gs.length) : bearM gs (List.replicate n none) = chM gs := by
  have L : LikeR n 0 n (List.replicate n none) := ⟨List.length_replicate .., fun h => absurd h (Nat.lt_irrefl _), fun i h => by rw [List.getElem?_replicate_of_lt h]; exact fun z => (by cases z), fun g h => (by cases h), fun i _ h => by rw [List.getElem?_replicate_of_lt h]; exact fun z => (by cases z)⟩
  rw [L.bear (Nat.zero_le _) (Nat.le_refl _)]
  unfold midM
  rw [List.drop_zero, Nat.sub_zero, List.take_of_length_le (by omega)]
theorem le_sum : ∀ {xs : List Nat} {x : Nat}, x ∈ xs → x ≤ xs.sum
  | y :: ys, x, h => by
    rw [List.sum_cons]
    rcases List.mem_cons.mp h with z | z
    · omega
    · have := le_sum z
      omega
theorem sm_pos {gs : List (Nm × Nat)} (h : ∀ g ∈ gs, 1 ≤ g.2) {x : Nm} (hx : x ∈ ded gs) : 0 < sm x gs := by
  obtain ⟨g, hg, rfl⟩ := (ded_mem _ gs rfl x).mp hx
  unfold sm
  have : g.2 ∈ (gs.filter fun q => decide (q.1 = g.1)).map (·.2) := List.mem_map_of_mem (List.mem_filter.mpr ⟨hg, decide_eq_true rfl⟩)
  have := le_sum this
  have := h g hg
  omega
theorem leg_ch : ∀ (n : Nat) (xs : List (Nm × Nat)), xs.length = n → (∀ x ∈ xs, 1 ≤ x.2) → ∀ g ∈ legsM xs, 1 ≤ g.2
  | 0, xs, h, _, g, hg => by rw [List.length_eq_zero_iff.mp h] at hg; cases hg
  | n + 1, xs, h, hx, g, hg => by
    rcases snoc_or xs with rfl | ⟨as, x, rfl⟩
    · simp at h
    · rw [legsM_snoc] at hg
      have ih := leg_ch n as (by simpa using h) fun y hy => hx y (List.mem_append_left _ hy)
      have h1 := hx x (by simp)
      rcases snoc_or (legsM as) with e | ⟨bs, b, e⟩
      · rw [e, leg_nil] at hg
        rw [List.mem_singleton.mp hg]
        exact h1
      · rw [e] at hg
        by_cases c : b.1 = x.1
        · rw [leg_one c] at hg
          rcases List.mem_append.mp hg with z | z
          · exact ih g (by rw [e]; exact List.mem_append_left _ z)
          · rw [List.mem_singleton.mp z]
            show 1 ≤ b.2 + x.2
            omega
        · rw [leg_two c] at hg
          rcases List.mem_append.mp hg with z | z
          · exact ih g (by rw [e]; exact z)
          · rw [List.mem_singleton.mp z]
            exact h1
end Th
namespace Th
open PySem PySem.Spec PyProof.Rows L2
/-! several runs' chains by line; one way looked at -/
theorem cut_from (xs : List V) (b : Nat) (h : b + 1 ≤ xs.length) : cutV xs (some ((b : Int) + 1)) none = xs.drop (b + 1) := by
  unfold cutV
  rw [show (b : Int) + 1 = ((b + 1 : Nat) : Int) by omega, HT.sIx_nat, HT.sIx_none, Nat.min_eq_left h]
  exact List.take_of_length_le (by rw [List.length_drop]; exact Nat.le_refl _)
theorem row0 (n : Nat) : List.replicate n none = rowM n 0 n := by
  refine List.ext_getElem? fun i => ?_
  by_cases h : i < n
  · rw [List.getElem?_replicate_of_lt h, row_at h, if_neg (by omega), if_neg (by omega)]
  · rw [List.getElem?_eq_none (by rw [List.length_replicate]; omega), List.getElem?_eq_none (by rw [row_len]; omega)]
theorem row_f {n g : Nat} (h : g < n) : (rowM n 0 n).set g (some true) = rowM n (g + 1) n := by
  refine List.ext_getElem? fun i => ?_
  by_cases hi : i < n
  · by_cases c : i = g
    · subst c
      rw [List.getElem?_set_self (by rw [row_len]; exact hi), row_at hi, if_pos rfl]
    · rw [List.getElem?_set_ne (fun z => c z.symm), row_at hi, row_at hi, if_neg (by omega), if_neg (by omega), if_neg (by omega)]
  · rw [List.getElem?_eq_none (by rw [List.length_set, row_len]; omega), List.getElem?_eq_none (by rw [row_len]; omega)]
theorem row_l {n f l : Nat} (hf : f ≤ l) (h : l < n) : (rowM n f n).set l (some false) = rowM n f l := by
  refine List.ext_getElem? fun i => ?_
  by_cases hi : i < n
  · by_cases c : i = l
    · subst c
      rw [List.getElem?_set_self (by rw [row_len]; exact hi), row_at hi, if_neg (by omega), if_pos rfl]
    · rw [List.getElem?_set_ne (fun z => c z.symm), row_at hi, row_at hi, if_neg (by omega : ¬ i = n), if_neg c]
  · rw [List.getElem?_eq_none (by rw [List.length_set, row_len]; omega), List.getElem?_eq_none (by rw [row_len]; omega)]
theorem sV_set (sl : List (Option Bool)) (i : Nat) (s : Option Bool) : (sl.map sV).set i (sV s) = (sl.set i s).map sV := (List.map_set ..).symm
/-- the texts of unlike names -/
theorem addAll_nm {xs : List Nm} (h : xs.Nodup) : (Ss.addAll [] (xs.map SX.S)).length = xs.length := by
  have nd : (xs.map SX.S).Nodup := List.Pairwise.map _ (fun a b hab z => hab (SX.S_inj z)) h
  rw [nd_leq (Ss.addAll_nd _ _ .nil) nd fun x => by rw [Ss.addAll_mem]; simp, List.length_map]
section
variable {P : Program} {w : World} {K : PySem.W.Frag} {mg : Str → Option Value} {base : Heap} {k : Nat}
def sp_l_chains_of : Sp := fun vs H Q _ => ∃ (R : Addr) (da : List Addr) (gss : List (List (Nm × Nat))), vs = [.ref R] ∧ H R = some (.lst (da.map V.ref)) ∧ Paired (LgA H) da gss ∧ gss.flatten.length ≤ 1000 ∧ ∀ H' F, Same H H' → H F = none → H' F = some (.dK (chK gss.flatten)) → Q (.ref F) H'
set_option maxHeartbeats 8000000 in
theorem ok_l_chains_of (T : Defs K mg) : FnOk P w K mg base CX0 (k + 1) T.a_l_chains_of T.d_l_chains_of ["_law_rows"] sp_l_chains_of := by
  refine T.F_l_chains_of.ok sc_l_chains_of (fun vs H Q E h => ?_) (fun cdv A outer s H vs Q E hr h => ?_)
  · obtain ⟨R, da, gss, rfl, _⟩ := h
    rfl
  · obtain ⟨R, da, gss, rfl, eR, hda, gl, q⟩ := h
    refine ⟨_, PSs.nox
(pss_cons (ps_set (i := 1) sc_l_chains_of.nd rfl (.inl rfl) (pe_dnewK))
    (pss_cons (ps_for PassesOwn.never rfl (pi_list (pv 0)) (pg_name (i := 2) sc_l_chains_of.nd rfl (.inl rfl))
      (pss_one (ps_for PassesOwn.never rfl (pi_list (pv 2)) (pg_tup rfl (pgs_cons (pg_name (i := 3) sc_l_chains_of.nd rfl (.inl rfl)) (pgs_cons (pg_name (i := 4) sc_l_chains_of.nd rfl (.inl rfl)) pgs_nil)))
        (pss_one (ps_dput (hu_of hr) (pv 1) (pv 3) (pe_op op_add (pe_dget2 (hu_of hr) (pv 1) (pv 3) (pe_int) ⟨rfl, rfl, rfl, rfl⟩) (pv 4)) (by rfl))))))
    (pss_one (ps_ret (pv 1)))))
      , ?_⟩
    refine fun F nF => ?_
    have s1 := same_upd (o := .dK []) nF
    have dl := paired_len hda
    refine ⟨.ref R, rfl, R, rfl, ⟨_, SqL.of (s1 _ _ eR)⟩, ?_⟩
    refine for_it (walk_list (xs := da.map V.ref)) (fun i σ H3 => ∃ (y2 y3 y4 : Option V), σ = [some (.ref R), some (.ref F), y2, y3, y4] ∧ Same H H3 ∧ H3 F = some (.dK (chK (gss.take i).flatten)))
      ⟨_, _, _, rfl, s1, upd_same⟩ (fun i σ H3 _ hp => ?_) (fun i v σ H3₀ H3 hi hp yy => ?_) (fun σ H3 hp => ?_)
    · obtain ⟨_, _, _, _, s3, _⟩ := hp
      exact SqL.of (s3 _ _ eR)
    · obtain ⟨rfl, ex⟩ := yy
      obtain ⟨y2, y3, y4, rfl, s3, eF⟩ := hp
      obtain ⟨d, ed, rfl⟩ := ref_at ex
      obtain ⟨gs, eg, fa, eD, hfa⟩ := paired_get hda ed
      have eD3 := s3 _ _ eD
      have tk1 : (gss.take (i + 1)).flatten = (gss.take i).flatten ++ gs := by rw [List.take_add_one, eg, List.flatten_append]; simp
      have fl := paired_len hfa
      refine ⟨.ref d, rfl, d, rfl, ⟨_, SqL.of eD3⟩, ?_⟩
      have tot : ∀ j, ((gss.take i).flatten ++ gs.take j).length ≤ 1000 := fun j => by
        have e := congrArg List.length (congrArg List.flatten (List.take_append_drop (i + 1) gss))
        rw [List.flatten_append, List.length_append, tk1, List.length_append] at e
        rw [List.length_append, List.length_take]
        omega
      refine for_it (walk_list (xs := fa.map V.ref)) (fun j σ H4 => ∃ (y3 y4 : Option V), σ = [some (.ref R), some (.ref F), some (.ref d), y3, y4] ∧ Same H H4 ∧ H4 F = some (.dK (chK ((gss.take i).flatten ++ gs.take j))))
        ⟨_, _, rfl, s3, by rw [List.take_zero, List.append_nil]; exact eF⟩ (fun j σ H4 _ hp => ?_) (fun j v σ H4₀ H4 hj hp yy => ?_) (fun σ H4 hp => ?_)
      · obtain ⟨_, _, _, s4, _⟩ := hp
        exact SqL.of (s4 _ _ eD)
      · obtain ⟨rfl, ex⟩ := yy
        obtain ⟨y3, y4, rfl, s4, eF4⟩ := hp
        obtain ⟨u, eu, rfl⟩ := ref_at ex
        obtain ⟨x, et, hu⟩ := paired_get hfa eu
        have tk2 : (gss.take i).flatten ++ gs.take (j + 1) = ((gss.take i).flatten ++ gs.take j) ++ [x] := by rw [List.take_add_one, et, List.append_assoc]; rfl
        have tl := tot j
        generalize (gss.take i).flatten ++ gs.take j = qs at eF4 tk2 tl
        refine ⟨u, _, rfl, SqT.of (s4 _ _ hu), rfl, _, _, rfl, _, [], rfl, rfl, ?_⟩
        have hv : ∃ j : Int, (valV (chK qs) (kyL x.1)).getD (.int 0) = .int j := by
          have := val_map (f := fun l => V.int (sm l qs : Nat)) (ded qs) x.1
          unfold chK
          rw [this]
          split
          · exact ⟨_, rfl⟩
          · exact ⟨_, rfl⟩
        obtain ⟨m, hm⟩ := hv
        have kl : (chK qs).length ≤ 5000 := by
          unfold chK
          rw [List.length_map]
          have := ded_len _ qs rfl
          omega
        refine ⟨.ref F, rfl, F, rfl, .inl ⟨_, .inl eF4⟩, nS x.1, rfl, _, DGet.k (k := kyL x.1) eF4, ?_⟩
        rw [hm]
        refine ⟨.int x.2, rfl, _, _, rfl, rfl, .ref F, rfl, nS x.1, rfl, F, _, rfl, DPut.k (k := kyL x.1) eF4 (small5000 kl), ?_⟩
        have pt := chK_put qs x
        rw [hm] at pt
        exact ⟨_, _, rfl, same_set s4 nF, by rw [upd_same, tk2, ← pt]⟩
      · obtain ⟨y3, y4, rfl, s4, eF4⟩ := hp
        rw [List.length_map, fl, List.take_length, ← tk1] at eF4
        exact ⟨_, _, _, rfl, s4, eF4⟩
    · obtain ⟨y2, y3, y4, rfl, s3, eF⟩ := hp
      rw [List.length_map, dl, List.take_length] at eF
      exact ⟨.ref F, rfl, q _ F s3 nF eF⟩
/-- what stands while a way is looked at -/
structure S51 (H0 H : Hp) (p nt wy Du Dk : Addr) (ls : List Nm) (sts : List (Nm × Nm)) (jns : List (Nm × List Nm)) (tis : List Ti) (ws : List Nm) (gs : List (Nm × Nat)) : Prop where
  k : Keep p H0 H
  b : Bag H p
  net : NetAt H nt ls sts jns tis
  way : H wy = some (.tup (ws.map nS))
  du : LgA H Du gs
  dk : LgA H Dk (chM gs)
theorem S51.same {H0 H H' : Hp} {p nt wy Du Dk : Addr} {ls : List Nm} {sts : List (Nm × Nm)} {jns : List (Nm × List Nm)} {tis : List Ti} {ws : List Nm} {gs : List (Nm × Nat)} (h : S51 H0 H p nt wy Du Dk ls sts jns tis ws gs) (s : Same H H') : S51 H0 H' p nt wy Du Dk ls sts jns tis ws gs :=
  ⟨h.k.trans (.of s), h.b.keep s, h.net.tk (.of s), s _ _ h.way, h.du.same s, h.dk.same s⟩
theorem S51.keep {H0 H H' : Hp} {p nt wy Du Dk : Addr} {ls : List Nm} {sts : List (Nm × Nm)} {jns : List (Nm × List Nm)} {tis : List Ti} {ws : List Nm} {gs : List (Nm × Nat)} (h : S51 H0 H p nt wy Du Dk ls sts jns tis ws gs) (k : Keep p H H') (b : Bag H' p) : S51 H0 H' p nt wy Du Dk ls sts jns tis ws gs :=
  ⟨h.k.trans k, b, h.net.tk (.keep k h.b), TK.keep k h.b _ _ h.way, h.du.keep k h.b, h.dk.keep k h.b⟩
/-- a store to a list of seals that is new -/
theorem S51.put {H0 H : Hp} {p nt wy Du Dk R : Addr} {ls : List Nm} {sts : List (Nm × Nm)} {jns : List (Nm × List Nm)} {tis : List Ti} {ws : List Nm} {gs : List (Nm × Nat)} {xs : List V} {o : HO} (h : S51 H0 H p nt wy Du Dk ls sts jns tis ws gs) (n0 : H0 R = none) (np : R ≠ p) (nu : R ≠ Du) (nk : R ≠ Dk) (e : H R = some (.lst xs)) : S51 H0 (upd H R o) p nt wy Du Dk ls sts jns tis ws gs := by
  have tk : TK H (upd H R o) := .upd fun ys z => by rw [e] at z; cases z
  refine ⟨fun c o' nc z => ?_, h.b.at (upd_ne np.symm), h.net.tk tk, tk _ _ h.way, h.du.off (fun o' z => by rw [upd_ne nu.symm]; exact z) tk, h.dk.off (fun o' z => by rw [upd_ne nk.symm]; exact z) tk⟩
  rw [upd_ne (ne_of_none z n0)]
  exact h.k _ _ nc z
theorem lg_ne_new {H : Hp} {D R : Addr} {gs : List (Nm × Nat)} (h : LgA H D gs) (n : H R = none) : R ≠ D := by
  obtain ⟨fa, e, _⟩ := h
  exact (ne_of_none e n).symm
def sp_l_holds : Sp := fun vs H Q _ => ∃ (p nt wy : Addr) (ls : List Nm) (sts : List (Nm × Nm)) (jns : List (Nm × List Nm)) (tis : List Ti) (ws : List Nm) (ts : List Ti), vs = [.ref p, .ref nt, .ref wy] ∧ Bag H p ∧ NetAt H nt ls sts jns tis ∧ H wy = some (.tup (ws.map nS)) ∧ WayOk tis ws ts ∧ (∀ t ∈ tis, 1 ≤ t.ch) ∧
  ∀ H', Keep p H H' → Bag H' p → Q (.bl true) H'
set_option maxHeartbeats 32000000 in
theorem ok_l_holds (T : Defs K mg) : FnOk P w K mg base CX0 (k + 5) T.a_l_holds T.d_l_holds ["_law_bag_here", "_law_net_here", "_law_way"] sp_l_holds := by
  have G_l_take : FnOk P w K mg base CX0 (k + 4) _ _ _ _ := ok_l_take T
  have G_legs : FnOk P w K mg base CX0 (k + 4) _ _ _ _ := ok_legs (k := k + 1) T
  have G_line_chains : FnOk P w K mg base CX0 (k + 4) _ _ _ _ := ok_line_chains T
  have G_bearers : FnOk P w K mg base CX0 (k + 4) _ _ _ _ := ok_bearers T
  have G_l_chains_of : FnOk P w K mg base CX0 (k + 4) _ _ _ _ := ok_l_chains_of (k := k + 3) T
  refine T.F_l_holds.ok sc_l_holds (fun vs H Q E h => ?_) (fun cdv A outer s H vs Q E hr h => ?_)
  · obtain ⟨p, nt, wy, ls, sts, jns, tis, ws, ts, rfl, _⟩ := h
    rfl
  · obtain ⟨p, nt, wy, ls, sts, jns, tis, ws, ts, rfl, b, hnet, ewy, hw, hch, q⟩ := h
    refine ⟨_, PSs.nox
(pss_cons (ps_set (i := 3) sc_l_holds.nd rfl (.inl rfl) (pe_call G_legs hr (by rfl) T.g_legs T.F_legs.kp T.b_legs .nil pass0 (pa_cons (pv 1) (pa_cons (pv 2) pa_nil))))
    (pss_cons (ps_set (i := 4) sc_l_holds.nd rfl (.inl rfl) (pe_op op_sub (pe_callB (r := rLenS K) call_lenS (by rfl) T.z_len (by decide +kernel) (pa_cons (pv 3) pa_nil)) (pe_int)))
    (pss_cons (ps_set (i := 5) sc_l_holds.nd rfl (.inl rfl) (pe_call G_line_chains hr (by rfl) T.g_line_chains T.F_line_chains.kp T.b_line_chains .nil pass0 (pa_cons (pv 1) (pa_cons (pv 2) pa_nil))))
    (pss_cons (ps_if (pt_cmpR (r := rNeD K) (op_neD hr.units) (pe_call G_bearers hr (by rfl) T.g_bearers T.F_bearers.kp T.b_bearers .nil pass0 (pa_cons (pv 1) (pa_cons (pv 2) (pa_cons (pe_op op_rep (pe_lst (pa_cons (pe_non) pa_nil)) (pv 4)) pa_nil)))) (pv 5) (nomark _))
      (pss_one (ps_ret (pe_bl)))
      pss_nil)
    (pss_cons (ps_set (i := 6) sc_l_holds.nd rfl (.inr rfl) (pe_call G_l_take hr (by rfl) T.g_l_take T.F_l_take.kp T.b_l_take .nil pass0 (pa_cons (pv 0) (pa_cons (pe_op op_add (pv 4) (pe_int)) pa_nil))))
    (pss_cons (ps_set (i := 7) sc_l_holds.nd rfl (.inr rfl) (pe_op op_add (pv 6) (pe_call G_l_take hr (by rfl) T.g_l_take T.F_l_take.kp T.b_l_take .nil pass0 (pa_cons (pv 0) (pa_cons (pe_op op_sub (pe_op op_add (pv 4) (pe_int)) (pv 6)) pa_nil)))))
    (pss_cons (ps_set (i := 8) sc_l_holds.nd rfl (.inl rfl) (pe_op op_rep (pe_lst (pa_cons (pe_non) pa_nil)) (pv 4)))
    (Evl.pss_cut (ps_if (pt_cmpR op_gt (pv 6) (pe_int) (nomark _))
      (pss_one (ps_asg (pe_str) (pg_sub (pv 8) (pe_op op_sub (pv 6) (pe_int)) set_list)))
      pss_nil)
    (Evl.pss_cut (ps_if (pt_cmpR op_lt (pv 7) (pv 4) (nomark _))
      (pss_one (ps_asg (pe_str) (pg_sub (pv 8) (pv 7) set_list)))
      pss_nil)
    (pss_cons (ps_set (i := 9) sc_l_holds.nd rfl (.inl rfl) (pe_call G_bearers hr (by rfl) T.g_bearers T.F_bearers.kp T.b_bearers .nil pass0 (pa_cons (pv 1) (pa_cons (pv 2) (pa_cons (pe_callTy call_list_of (by rfl) T.z_list (by decide +kernel) (pa_cons (pv 8) pa_nil)) pa_nil)))))
    (pss_cons (ps_if (pt_cmpR (op_ne_dictA (Nat.lt_of_le_of_lt (Nat.le_add_right _ 64) hr.units)) (pe_call G_l_chains_of hr (by rfl) T.g_l_chains_of T.F_l_chains_of.kp T.b_l_chains_of .nil pass0 (pa_cons (pe_lst (pa_cons (pv 9) (pa_cons (pe_slice sl_list (pv 3) po_none (po_some (pv 6))) (pa_cons (pe_slice sl_list (pv 3) (po_some (pe_op op_add (pv 7) (pe_int))) po_none) pa_nil)))) pa_nil)) (pe_callTy (call_dictP rfl) (by rfl) T.z_dict (by decide +kernel) (pa_cons (pv 5) pa_nil)) (nomark _))
      (pss_one (ps_ret (pe_bl)))
      pss_nil)
    (pss_cons (ps_if (PW.pt (pw_or (pt_cmpR op_ne (pe_callB (r := Ss.rLenSS w) Ss.call_lenSS (by rfl) T.z_len (by decide +kernel) (pa_cons (pe_callTy (r := Ss.rSetOS K w) (Ss.call_setOS rfl) (by rfl) T.z_set (by decide +kernel) (pa_cons (pe_lc (own := [("_law_line", 12), ("_law_one", 13)]) (g := gTup K 2 (gCons (gName 12) (gCons (gName 13) gNil))) rfl sc_l_holds.nd (pi_list (pv 9)) (blkOk_by (N := N_l_holds) (sc := defScope s_l_holds) (by decide +kernel)) (fun _ _ _ _ _ => (pg_tup rfl (pgs_cons (pg_name (i := 12) sc_l_holds.nd rfl (.inl rfl)) (pgs_cons (pg_name (i := 13) sc_l_holds.nd rfl (.inl rfl)) pgs_nil)))) (fun _ _ _ _ _ => pts_nil) (fun _ _ _ _ _ => (pv 12))) pa_nil)) pa_nil)) (pe_callB (r := rLenS K) call_lenS (by rfl) T.z_len (by decide +kernel) (pa_cons (pv 9) pa_nil)) (nomark _)) (pw_or1 (pt_not (pt_val (pe_callB (r := rAll K) (cr_all rfl) (by rfl) T.z_all (by decide +kernel) (pa_cons (pe_lc (own := [("_law_line", 12), ("_law_one", 13)]) (g := gTup K 2 (gCons (gName 12) (gCons (gName 13) gNil))) rfl sc_l_holds.nd (pi_list (pv 9)) (blkOk_by (N := N_l_holds) (sc := defScope s_l_holds) (by decide +kernel)) (fun _ _ _ _ _ => (pg_tup rfl (pgs_cons (pg_name (i := 12) sc_l_holds.nd rfl (.inl rfl)) (pgs_cons (pg_name (i := 13) sc_l_holds.nd rfl (.inl rfl)) pgs_nil)))) (fun _ _ _ _ _ => pts_nil) (fun _ _ _ _ _ => (pe_cmpR op_gt (pv 13) (pe_int) (nomark _)))) pa_nil)))))))
      (pss_one (ps_ret (pe_bl)))
      pss_nil)
    (pss_cons (ps_setLc (i := 10) (own := [("_law_at", 14), ("_law_one", 13)]) (g := gTup K 2 (gCons (gName 14) (gCons (gName 13) gNil))) rfl sc_l_holds.nd rfl rfl (sw_true rfl rfl rfl (by decide +kernel)) (pi_enum (by rfl) T.z_enumerate (pa_cons (pv 8) pa_nil)) (blkOk_by (N := N_l_holds) (sc := defScope s_l_holds) (by decide +kernel)) (fun _ _ _ _ _ => (pg_tup rfl (pgs_cons (pg_name (i := 14) sc_l_holds.nd rfl (.inl rfl)) (pgs_cons (pg_name (i := 13) sc_l_holds.nd rfl (.inl rfl)) pgs_nil)))) (fun _ _ _ _ _ => pts_nil) (fun _ _ _ _ _ => (pe_ifExp (pt_cmpR op_lt (pv 14) (pv 7) (nomark _)) (pv 13) (pe_ix (r := rIxT K) ix_tup (pe_tup (pa_cons (pe_non) (pa_cons (pe_str) (pa_cons (pe_str) pa_nil)))) (pe_call G_l_take hr (by rfl) T.g_l_take T.F_l_take.kp T.b_l_take .nil pass0 (pa_cons (pv 0) (pa_cons (pe_int) pa_nil))) (fun _ _ => rfl)))))
    (pss_cons (ps_if (pt_cmpR op_lt (pv 7) (pv 4) (nomark _))
      (pss_cons (ps_asg (pe_str) (pg_sub (pv 10) (pv 7) set_list))
      (pss_one (ps_if (pt_cmpR (r := rNeD K) (op_neD hr.units) (pe_call G_bearers hr (by rfl) T.g_bearers T.F_bearers.kp T.b_bearers .nil pass0 (pa_cons (pv 1) (pa_cons (pv 2) (pa_cons (pv 10) pa_nil)))) (pv 9) (nomark _))
        (pss_one (ps_ret (pe_bl)))
        pss_nil)))
      pss_nil)
    (pss_cons (ps_setLc (i := 11) (own := [("_law_at", 14), ("_law_one", 13)]) (g := gTup K 2 (gCons (gName 14) (gCons (gName 13) gNil))) rfl sc_l_holds.nd rfl rfl (sw_true rfl rfl rfl (by decide +kernel)) (pi_enum (by rfl) T.z_enumerate (pa_cons (pv 8) pa_nil)) (blkOk_by (N := N_l_holds) (sc := defScope s_l_holds) (by decide +kernel)) (fun _ _ _ _ _ => (pg_tup rfl (pgs_cons (pg_name (i := 14) sc_l_holds.nd rfl (.inl rfl)) (pgs_cons (pg_name (i := 13) sc_l_holds.nd rfl (.inl rfl)) pgs_nil)))) (fun _ _ _ _ _ => pts_nil) (fun _ _ _ _ _ => (pe_ifExp (PW.pt (pw_and (pt_cmpR op_lt (pv 14) (pe_op op_sub (pv 6) (pe_int)) (nomark _)) (pw_and1 (pt_cmpR op_eq (pe_call G_l_take hr (by rfl) T.g_l_take T.F_l_take.kp T.b_l_take .nil pass0 (pa_cons (pv 0) (pa_cons (pe_int) pa_nil))) (pe_int) (nomark _))))) (pe_str) (pv 13))))
    (pss_one (ps_ret (pe_cmpR (r := rEqD K) (op_eqD hr.units) (pe_call G_bearers hr (by rfl) T.g_bearers T.F_bearers.kp T.b_bearers .nil pass0 (pa_cons (pv 1) (pa_cons (pv 2) (pa_cons (pv 11) pa_nil)))) (pv 9) (nomark _)))))))))))))))))))
      , ?_⟩
    have g28 := legs28 hw
    have g1 := legs_pos hw
    have gnm := legs_nm hw (ts.map tiP) fun x hx => hx
    have gch := leg_ch _ (ts.map tiP) rfl fun x hx => by obtain ⟨t, ht, rfl⟩ := List.mem_map.mp hx; exact hch t (hw.ti' t ht)
    refine ⟨.ref nt, rfl, .ref wy, rfl, nt, wy, ls, sts, jns, tis, ws, ts, rfl, hnet, ewy, hw, fun H1 Du s1 nDu hDu => ?_⟩
    obtain ⟨da, eDu, hda⟩ := id hDu
    have dl := paired_len hda
    refine ⟨.ref Du, rfl, Du, _, rfl, .inl (SqL.of eDu), _, _, rfl, rfl, ?_⟩
    obtain ⟨n, en, hn⟩ : ∃ n : Nat, ((da.map V.ref).length : Int) - 1 = (n : Int) ∧ n + 1 = (legsM (ts.map tiP)).length := ⟨(legsM (ts.map tiP)).length - 1, by rw [List.length_map]; omega, by omega⟩
    show gName 4 (V.int (((da.map V.ref).length : Int) - 1)) _ _ _
    rw [en]
    refine ⟨.ref nt, rfl, .ref wy, rfl, nt, wy, ls, sts, jns, tis, ws, ts, rfl, hnet.tk (.of s1), s1 _ _ ewy, hw, fun H2 Dk s2 nDk hDk => ?_⟩
    have S2 : S51 H H2 p nt wy Du Dk ls sts jns tis ws (legsM (ts.map tiP)) := ⟨.of (s1.trans s2), b.keep (s1.trans s2), hnet.tk (.of (s1.trans s2)), (s1.trans s2) _ _ ewy, hDu.same s2, hDk⟩
    clear hDu hDk eDu hda
    generalize hgs : legsM (ts.map tiP) = gs at *
    have chl : (chM gs).length ≤ 28 := Nat.le_trans (chM_len gs) g28
    have cnm := chM_nm gnm
    -- all None
    refine ⟨.ref nt, rfl, .ref wy, rfl, by show 1 ≤ sizeLine; decide, fun l1 n1 => ?_⟩
    refine ⟨.int n, rfl, l1, _, [.non], rfl, rfl, upd_same, by omega, by omega, by show 1 * ((n : Nat) : Int).toNat ≤ sizeLine; exact Nat.le_of_lt (small5000 (by omega)), fun R0 n2 => ?_⟩
    have s3 := (same_upd (o := .lst [.non]) n1).trans (same_upd (o := .lst (List.replicate ((n : Nat) : Int).toNat [V.non]).flatten) n2)
    have S3 := S2.same s3
    refine ⟨nt, wy, R0, ls, sts, jns, tis, ws, ts, List.replicate n none, rfl, S3.net, S3.way, hw, by rw [upd_same, List.map_replicate]; show some (HO.lst (List.replicate n [V.non]).flatten) = _; rw [rep_one]; rfl, by rw [List.length_replicate, hgs]; exact hn, fun H4 D4 s4 nD4 hD4 => ?_⟩
    have S4 := S3.same s4
    rw [hgs] at hD4
    rw [none_bear gs n hn] at hD4
    refine ⟨.ref Dk, rfl, lgD (chM gs), lgD (chM gs), (hD4.dt (by omega)).dp, (S4.dk.dt (by omega)).dp, shaped_lg cnm, shaped_lg cnm, _, rfl, ?_⟩
    rw [SeqAt.eqv_refl _ (lay_lg cnm)]
    refine iteF ?_
    clear hD4
    -- first, last
    refine ⟨.ref p, rfl, .int n, rfl, _, _, rfl, rfl, p, _, rfl, S4.b, by omega, by omega, fun H5 f k5 b5 f0 f1 => ?_⟩
    have S5 := S4.keep k5 b5
    refine ⟨.int f, rfl, .ref p, rfl, .int n, rfl, _, _, rfl, rfl, .int f, rfl, _, _, rfl, rfl, p, _, rfl, S5.b, by omega, by omega, fun H6 d k6 b6 d0 d1 => ?_⟩
    have S6 := S5.keep k6 b6
    refine ⟨f, d, rfl, rfl, ?_⟩
    obtain ⟨f', rfl⟩ : ∃ f' : Nat, f = (f' : Int) := ⟨f.toNat, by omega⟩
    obtain ⟨l', el, hfl, hln⟩ : ∃ l' : Nat, (f' : Int) + d = (l' : Int) ∧ f' ≤ l' ∧ l' ≤ n := ⟨((f' : Int) + d).toNat, by omega, by omega, by omega⟩
    show gName 7 (V.int ((f' : Int) + d)) _ _ _
    rw [el]
    -- row
    refine ⟨by show 1 ≤ sizeLine; decide, fun l1 n1 => ?_⟩
    refine ⟨.int n, rfl, l1, _, [.non], rfl, rfl, upd_same, by omega, by omega, by show 1 * ((n : Nat) : Int).toNat ≤ sizeLine; exact Nat.le_of_lt (small5000 (by omega)), fun R nR => ?_⟩
    have s7 := same_upd (o := .lst [.non]) n1
    have S7 := S6.same s7
    have nR0 : H R = none := S7.k.free b nR S7.b
    have nRp : R ≠ p := S7.b.ne nR
    have nRu : R ≠ Du := lg_ne_new S7.du nR
    have nRk : R ≠ Dk := lg_ne_new S7.dk nR
    have S8 := S7.same (same_upd (o := .lst (List.replicate ((n : Nat) : Int).toNat [V.non]).flatten) nR)
    have eR8 : (upd (upd H6 l1 (.lst [.non])) R (.lst (List.replicate ((n : Nat) : Int).toNat [V.non]).flatten)) R = some (.lst ((rowM n 0 n).map sV)) := by
      rw [upd_same, ← row0, List.map_replicate]
      show some (HO.lst (List.replicate n [V.non]).flatten) = _
      rw [rep_one]
      rfl
    generalize upd (upd H6 l1 (.lst [.non])) R (.lst (List.replicate ((n : Nat) : Int).toNat [V.non]).flatten) = H8 at S8 eR8
    -- whole ahead of first
    refine ⟨fun σ H9 => σ = [some (.ref p), some (.ref nt), some (.ref wy), some (.ref Du), some (.int n), some (.ref Dk), some (.int f'), some (.int l'), some (.ref R), none, none, none, none, none, none] ∧ S51 H H9 p nt wy Du Dk ls sts jns tis ws gs ∧ H9 R = some (.lst ((rowM n f' n).map sV)), ?_, fun σ H9 mid => ?_⟩
    · refine ⟨.int f', rfl, _, _, rfl, rfl, _, rfl, ite2 (fun c => ?_) (fun c => ?_)⟩
      · have c : (0 : Int) < f' := of_decide_eq_true c
        obtain ⟨g, rfl⟩ : ∃ g, f' = g + 1 := ⟨f' - 1, by omega⟩
        refine ⟨.ref R, rfl, .int ((g + 1 : Nat) : Int), rfl, _, _, rfl, rfl, R, _, _, g, rfl, rfl, eR8, ?_, rfl, S8.put nR0 nRp nRu nRk eR8, ?_⟩
        · rw [List.length_map, row_len]
          unfold ixN
          rw [if_pos (by omega), if_pos (by omega)]
          congr 1
          omega
        · rw [upd_same, ← row_f (by omega)]
          exact congrArg (fun z => some (HO.lst z)) (sV_set _ _ (some true))
      · have : f' = 0 := by
          have : ¬ (0 : Int) < f' := fun z => c (decide_eq_true z)
          omega
        subst this
        exact ⟨rfl, S8, eR8⟩
    obtain ⟨rfl, S9, eR9⟩ := mid
    refine ⟨fun σ H9 => σ = [some (.ref p), some (.ref nt), some (.ref wy), some (.ref Du), some (.int n), some (.ref Dk), some (.int f'), some (.int l'), some (.ref R), none, none, none, none, none, none] ∧ S51 H H9 p nt wy Du Dk ls sts jns tis ws gs ∧ H9 R = some (.lst ((rowM n f' l').map sV)), ?_, fun σ H9 mid => ?_⟩
    · refine ⟨.int l', rfl, .int n, rfl, _, _, rfl, rfl, _, rfl, ite2 (fun c => ?_) (fun c => ?_)⟩
      · have c : (l' : Int) < n := of_decide_eq_true c
        refine ⟨.ref R, rfl, .int l', rfl, R, _, _, l', rfl, rfl, eR9, ?_, rfl, S9.put nR0 nRp nRu nRk eR9, ?_⟩
        · rw [List.length_map, row_len]
          unfold ixN
          rw [if_pos (by omega), if_pos (by omega)]
          congr 1
        · rw [upd_same, ← row_l hfl (by omega)]
          exact congrArg (fun z => some (HO.lst z)) (sV_set _ _ (some false))
      · have : l' = n := by
          have : ¬ (l' : Int) < n := fun z => c (decide_eq_true z)
          omega
        subst this
        exact ⟨rfl, S9, eR9⟩
    obtain ⟨rfl, S9, eR9⟩ := mid
    have RL := row_like hfl hln
    have midl := mid_len gs f' l'
    have mnm : ∀ g ∈ chM (midM gs f' l'), IsNm g.1 := chM_nm fun g hg => gnm g (mid_mem hg)
    have mcl := chM_len (midM gs f' l')
    -- told
    refine ⟨.ref nt, rfl, .ref wy, rfl, .ref R, rfl, R, _, rfl, .inl (SqL.of eR9), fun Rc nRc => ?_⟩
    have s10 := same_upd (o := .lst ((rowM n f' l').map sV)) nRc
    have S10 := S9.same s10
    refine ⟨nt, wy, Rc, ls, sts, jns, tis, ws, ts, rowM n f' l', rfl, S10.net, S10.way, hw, upd_same, by rw [row_len, hgs]; exact hn, fun H11 Dt s11 nDt hDt => ?_⟩
    rw [hgs] at hDt
    have S11 := S10.same s11
    have eR11 := s11 _ _ (s10 _ _ eR9)
    rw [RL.bear hfl hln gs] at hDt
    obtain ⟨ta, eDt, hta⟩ := id hDt
    have tl := paired_len hta
    obtain ⟨da, eDu, hda⟩ := id S11.du
    have dl2 := paired_len hda
    have nDtp : Dt ≠ p := lg_ne hDt S11.b
    -- chains_of([told, some[:first], some[last + 1:]]) != dict(known)
    refine ⟨.ref Dt, rfl, .ref Du, rfl, .int f', rfl, _, rfl, Du, _, rfl, SqL.of eDu, fun c1 nc1 => ?_⟩
    rw [cut_upto, ← List.map_take]
    have s12 := same_upd (o := .lst ((da.take f').map V.ref)) nc1
    have ec1 : (upd H11 c1 (.lst ((da.take f').map V.ref))) c1 = some (.lst ((da.take f').map V.ref)) := upd_same
    generalize upd H11 c1 (.lst ((da.take f').map V.ref)) = H12 at s12 ec1
    refine ⟨.ref Du, rfl, .int l', rfl, _, _, rfl, rfl, _, rfl, Du, _, rfl, SqL.of (s12 _ _ eDu), fun c2 nc2 => ?_⟩
    rw [cut_from _ _ (by rw [List.length_map]; omega), ← List.map_drop]
    have s13 := same_upd (o := .lst ((da.drop (l' + 1)).map V.ref)) nc2
    refine ⟨by show 3 ≤ sizeLine; decide, fun R3 nR3 => ?_⟩
    have ec2 : (upd H12 c2 (.lst ((da.drop (l' + 1)).map V.ref))) c2 = some (.lst ((da.drop (l' + 1)).map V.ref)) := upd_same
    generalize upd H12 c2 (.lst ((da.drop (l' + 1)).map V.ref)) = H13 at s13 ec2 nR3
    have s14 := same_upd (o := .lst [.ref Dt, .ref c1, .ref c2]) nR3
    have s1114 := (s12.trans s13).trans s14
    have hda14 : Paired (PrA (upd H13 R3 (.lst [.ref Dt, .ref c1, .ref c2]))) da gs := paired_imp hda fun a _ g e => s1114 _ _ e
    have efl : [chM (midM gs f' l'), gs.take f', gs.drop (l' + 1)].flatten = allM gs f' l' := by
      show chM (midM gs f' l') ++ (gs.take f' ++ (gs.drop (l' + 1) ++ [])) = _
      rw [List.append_nil]
      exact (List.append_assoc ..).symm
    refine ⟨R3, [Dt, c1, c2], [chM (midM gs f' l'), gs.take f', gs.drop (l' + 1)], rfl, upd_same, .cons (hDt.same s1114) (.cons ⟨_, s14 _ _ (s13 _ _ ec1), paired_take _ hda14⟩ (.cons ⟨_, s14 _ _ ec2, paired_drop _ hda14⟩ .nil)), ?_, fun H15 F s15 nF eF => ?_⟩
    · rw [efl, List.length_append, List.length_append, List.length_take, List.length_drop]
      omega
    rw [efl] at eF
    have s1115 := s1114.trans s15
    have S15 := S11.same s1115
    obtain ⟨ka, eDk, hka⟩ := id S15.dk
    have kl := paired_len hka
    have hkv : Paired (fun a (kv : Key × V) => SqT K H15 a [kV kv.1, kv.2]) ka (chK gs) := by
      have : ∀ (as : List Addr) (ls : List Nm), Paired (PrA H15) as (ls.map fun l => (l, sm l gs)) → Paired (fun a (kv : Key × V) => SqT K H15 a [kV kv.1, kv.2]) as (ls.map fun l => (kyL l, V.int (sm l gs : Nat))) := fun as ls => by
        induction ls generalizing as with
        | nil => intro h; cases h; exact .nil
        | cons l r ih =>
          intro h
          cases h with
          | cons q t => exact .cons (SqT.of q) (ih _ t)
      exact this ka (ded gs) hka
    refine ⟨.ref Dk, rfl, Dk, ka, chK gs, rfl, SqL.of eDk, hkv, fun X nX => ?_⟩
    rw [merge_ch]
    have s16 := same_upd (o := .dK (chK gs)) nX
    refine ⟨F, X, _, _, rfl, rfl, s16 _ _ eF, upd_same, all_len gs (by omega), all_val gs (by omega), _, rfl, iteF ?_⟩
    have s1116 := s1115.trans s16
    have S16 := S11.same s1116
    have eDt16 := s1116 _ _ eDt
    have hta16 : Paired (PrA (upd H15 X (.dK (chK gs)))) ta (chM (midM gs f' l')) := paired_imp hta fun a _ g e => s1116 _ _ e
    have eR16 := s1116 _ _ eR11
    generalize upd H15 X (.dK (chK gs)) = H16 at s16 s1116 S16 eDt16 hta16 eR16
    -- len(set(lines)) != len(told)
    refine ⟨.ref Dt, rfl, Dt, rfl, ⟨_, SqL.of eDt16⟩, fun L nL => ?_⟩
    refine lc_it (walk_list (xs := ta.map V.ref)) (fun i H17 => Same H16 H17 ∧ H17 L = some (.lst ((((chM (midM gs f' l')).take i).map fun g => SX.S g.1).map V.str))) ⟨same_upd nL, upd_same⟩ (fun i H17 _ pv => SqL.of (pv.1 _ _ eDt16)) (fun i v H17₀ H17 hi pv yy => ?_) (fun H17 pv => ?_)
    · obtain ⟨rfl, ex⟩ := yy
      obtain ⟨s17, eL⟩ := pv
      obtain ⟨u, eu, rfl⟩ := ref_at ex
      obtain ⟨x, et, hu⟩ := paired_get hta16 eu
      refine ⟨u, _, rfl, SqT.of (s17 _ _ hu), rfl, _, _, rfl, _, [], rfl, rfl, rfl, yes_ ⟨nS x.1, rfl, _, eL, by rw [List.length_map, List.length_map, List.length_take]; exact small5000 (by omega), same_set s17 nL, ?_⟩⟩
      rw [upd_same, List.take_add_one, et, List.map_append, List.map_append]
      rfl
    obtain ⟨s17, eL⟩ := pv
    rw [List.length_map, tl, List.take_length] at eL
    refine ⟨L, _, rfl, SqL.of eL, by rw [List.length_map]; omega, fun Z nZ => ?_⟩
    have s18 := same_upd (o := Ss.SetSO w Z (Ss.addAll [] ((chM (midM gs f' l')).map fun g => SX.S g.1))) nZ
    have s1618 := s17.trans s18
    refine ⟨Z, _, rfl, upd_same, .ref Dt, rfl, Dt, _, rfl, .inl (SqL.of (s1618 _ _ eDt16)), rfl, _, rfl, ?_⟩
    have hset : (Ss.addAll [] ((chM (midM gs f' l')).map fun g => SX.S g.1)).length = (ta.map V.ref).length := by
      have e : (chM (midM gs f' l')).map (fun g => SX.S g.1) = (ded (midM gs f' l')).map SX.S := by rw [← ch_lines, List.map_map]; rfl
      rw [e, addAll_nm (ded_nd _ _ rfl), List.length_map, tl, ← ch_lines, List.length_map]
    rw [hset, show (!decide (V.int ((((ta.map V.ref).length : Nat)) : Int) = V.int (((ta.map V.ref).length : Nat) : Int))) = false by simp]
    refine iteF ?_
    have eDt18 := s1618 _ _ eDt16
    generalize upd H17 Z (Ss.SetSO w Z (Ss.addAll [] ((chM (midM gs f' l')).map fun g => SX.S g.1))) = H18 at s18 s1618 eDt18
    have hta18 : Paired (PrA H18) ta (chM (midM gs f' l')) := paired_imp hta16 fun a _ g e => s1618 _ _ e
    refine ⟨.ref Dt, rfl, Dt, rfl, ⟨_, SqL.of eDt18⟩, fun L2 nL2 => ?_⟩
    refine lc_it (walk_list (xs := ta.map V.ref)) (fun i H19 => Same H18 H19 ∧ H19 L2 = some (.lst (List.replicate i (V.bl true)))) ⟨same_upd nL2, upd_same⟩ (fun i H19 _ pv => SqL.of (pv.1 _ _ eDt18)) (fun i v H19₀ H19 hi pv yy => ?_) (fun H19 pv => ?_)
    · obtain ⟨rfl, ex⟩ := yy
      obtain ⟨s19, eL⟩ := pv
      rw [List.length_map] at hi
      obtain ⟨u, eu, rfl⟩ := ref_at ex
      obtain ⟨x, et, hu⟩ := paired_get hta18 eu
      have xpos : 0 < x.2 := by
        obtain ⟨y, hy, rfl⟩ := List.mem_map.mp (List.mem_of_getElem? et)
        exact sm_pos (fun g hg => gch g (mid_mem hg)) hy
      refine ⟨u, _, rfl, SqT.of (s19 _ _ hu), rfl, _, _, rfl, _, [], rfl, rfl, rfl, yes_ ⟨.int x.2, rfl, _, _, rfl, rfl, _, eL, by rw [List.length_replicate]; exact small5000 (by omega), same_set s19 nL2, ?_⟩⟩
      rw [upd_same, List.replicate_succ']
      show some (HO.lst (List.replicate i (V.bl true) ++ [V.bl (decide ((0 : Int) < (x.2 : Int)))])) = _
      rw [decide_eq_true (show (0 : Int) < (x.2 : Int) by omega)]
    obtain ⟨s19, eL2⟩ := pv
    refine ⟨L2, List.replicate (ta.map V.ref).length true, rfl, SqL.of (by rw [eL2, List.map_replicate]), _, rfl, ?_⟩
    rw [show (List.replicate (ta.map V.ref).length true).all id = true from by simp]
    refine iteF ?_
    have s1619 := s1618.trans s19
    have S19 := S16.same s1619
    have eR19 := s1619 _ _ eR16
    have hDt19 : LgA H19 Dt (chM (midM gs f' l')) := hDt.same (s1116.trans s1619)
    -- more
    refine ⟨.ref R, rfl, R, _, rfl, SqL.of eR19, fun M nM => ?_⟩
    have nMp : M ≠ p := S19.b.ne nM
    have nMR : R ≠ M := ne_of_none eR19 nM
    refine lc_it (walk_enum (xs := (rowM n f' l').map sV)) (fun i H20 => Keep p H19 H20 ∧ Bag H20 p ∧ ∃ sl : List (Option Bool), sl.length = i ∧ (∀ j, j < i → j < l' → sl[j]? = (rowM n f' l')[j]?) ∧ H20 M = some (.lst (sl.map sV))) ⟨.of (same_upd nM), S19.b.keep (same_upd nM), [], rfl, fun j h => absurd h (Nat.not_lt_zero _), upd_same⟩ (fun i H20 _ pv => SqL.of (pv.1 _ _ nRp eR19)) (fun i v H20 H21 hi pv yy => ?_) (fun H20 pv => ?_)
    · obtain ⟨U, x, y, rfl, nU, rfl, ex, ey⟩ := yy
      obtain ⟨k20, b20, sl, hsl, hlk, eM⟩ := pv
      have ex : x = .int (i : Int) := (Option.some.inj ex).symm
      obtain ⟨r, hr', rfl⟩ := seal_at ey
      subst ex
      rw [List.length_map, row_len] at hi
      have s21 := same_upd (o := .tup [.int (i : Int), sV r]) nU
      have eM21 := s21 _ _ eM
      have nxt : ∀ (r' : Option Bool) (Hx : Hp), Keep p H20 Hx → Bag Hx p → Hx M = some (.lst (sl.map sV)) → (i < l' → r' = r) → ∃ acc, Hx M = some (.lst acc) ∧ acc.length < sizeLine ∧ (Keep p H19 (upd Hx M (.lst (acc ++ [sV r']))) ∧ Bag (upd Hx M (.lst (acc ++ [sV r']))) p ∧ ∃ sl : List (Option Bool), sl.length = i + 1 ∧ (∀ j, j < i + 1 → j < l' → sl[j]? = (rowM n f' l')[j]?) ∧ (upd Hx M (.lst (acc ++ [sV r']))) M = some (.lst (sl.map sV))) := fun r' Hx kx bx ex hh => by
        refine ⟨_, ex, by rw [List.length_map]; exact small5000 (by omega), fun c o nc ec => ?_, bx.at (upd_ne nMp.symm), sl ++ [r'], by rw [List.length_append, hsl]; rfl, fun j h1 h2 => ?_, by rw [upd_same, List.map_append]; rfl⟩
        · rw [upd_ne (ne_of_none ec nM)]
          exact kx _ _ nc (k20 _ _ nc ec)
        · by_cases c : j < i
          · rw [List.getElem?_append_left (by omega)]
            exact hlk j c h2
          · have : j = i := by omega
            subst this
            rw [List.getElem?_append_right (by omega), hsl, Nat.sub_self, hr', hh h2]
            rfl
      refine ⟨U, _, rfl, SqT.of upd_same, rfl, _, _, rfl, _, [], rfl, rfl, rfl, yes_ ⟨.int (i : Int), rfl, .int l', rfl, _, _, rfl, rfl, _, rfl, ite2 (fun c => ?_) (fun c => ?_)⟩⟩
      · exact ⟨sV r, rfl, nxt r _ (.of s21) (b20.keep s21) eM21 fun _ => rfl⟩
      · have c : ¬ (i : Int) < l' := fun z => c (decide_eq_true z)
        refine ⟨by show 3 ≤ sizeLine; decide, fun t nt' => ?_⟩
        have s22 := same_upd (o := .tup [.non, .str "whole", .str "broken"]) nt'
        refine ⟨.ref p, rfl, p, 3, rfl, (b20.keep s21).keep s22, by decide, by decide, fun H23 e k23 b23 e0 e1 => ?_⟩
        have et : H23 t = some (.tup ([none, some true, some false].map sV)) := k23 _ _ ((b20.keep s21).ne nt') upd_same
        obtain ⟨r', ha⟩ := pickS (ss := [none, some true, some false]) e0 e1
        exact ⟨t, _, e, _, rfl, rfl, SqT.of et, ha, nxt r' _ ((Keep.of (s21.trans s22)).trans k23) b23 (k23 _ _ nMp (s22 _ _ eM21)) fun z => absurd z (by omega)⟩
    obtain ⟨k20, b20, sl, hsl, hlk, eM⟩ := pv
    rw [List.length_map, row_len] at hsl hlk
    have S20 := S19.keep k20 b20
    have eR20 := k20 _ _ nRp eR19
    have hDt20 := hDt19.keep k20 S19.b
    -- what follows
    refine ⟨.int l', rfl, .int n, rfl, _, _, rfl, rfl, _, rfl, ?_⟩
    have likeE : ∀ se : List (Option Bool), se.length = n → (∀ j, j < n → f' ≤ j + 1 → se[j]? = (rowM n f' l')[j]?) → (∀ j, j + 1 < f' → se[j]? = some none ∨ se[j]? = some (some true)) → LikeR n f' l' se := fun se h1 h2 h3 => by
      refine ⟨h1, fun h => ?_, fun i h z => ?_, fun g h => ?_, fun i h4 h5 => ?_⟩
      · rw [h2 l' h (by omega)]
        exact RL.brk h
      · by_cases c : f' ≤ i + 1
        · rw [h2 i (by omega) c] at z
          exact RL.nb i h z
        · rcases h3 i (by omega) with e | e
          · rw [e] at z; cases z
          · rw [e] at z; cases z
      · rw [h2 g (by omega) (by omega)]
        exact RL.wh g h
      · rw [h2 i (by omega) (by omega)]
        exact RL.nw i h4 h5
    refine ite2 (fun c => ?_) (fun c => ?_)
    · have c : (l' : Int) < n := of_decide_eq_true c
      refine ⟨.ref M, rfl, .int l', rfl, M, _, _, l', rfl, rfl, eM, ?_, ?_⟩
      · rw [List.length_map, hsl]
        unfold ixN
        rw [if_pos (by omega), if_pos (by omega)]
        congr 1
      have nM0 : H M = none := S19.k.free b nM S19.b
      have S21 := S20.put (o := .lst ((sl.map sV).set l' (.str "broken"))) nM0 nMp (lg_ne_new S19.du nM) (lg_ne_new S19.dk nM) eM
      have eM21 : (upd H20 M (.lst ((sl.map sV).set l' (.str "broken")))) M = some (.lst ((sl.set l' (some false)).map sV)) := by
        rw [upd_same]
        exact congrArg (fun z => some (HO.lst z)) (sV_set _ _ (some false))
      have eR21 : (upd H20 M (.lst ((sl.map sV).set l' (.str "broken")))) R = some (.lst ((rowM n f' l').map sV)) := by rw [upd_ne nMR]; exact eR20
      have hDt21 : LgA (upd H20 M (.lst ((sl.map sV).set l' (.str "broken")))) Dt (chM (midM gs f' l')) := hDt20.off (fun o e => by rw [upd_ne (lg_ne_new hDt19 nM).symm]; exact e) (.upd fun ys z => by rw [eM] at z; cases z)
      generalize upd H20 M (.lst ((sl.map sV).set l' (.str "broken"))) = H21 at S21 eM21 eR21 hDt21
      have LM : LikeR n f' l' (sl.set l' (some false)) := by
        have at' : ∀ j, j < l' → (sl.set l' (some false))[j]? = (rowM n f' l')[j]? := fun j h => by
          rw [List.getElem?_set_ne (by omega)]
          exact hlk j (by omega) h
        refine ⟨by rw [List.length_set, hsl], fun _ => List.getElem?_set_self (by omega), fun i h => ?_, fun g h => ?_, fun i h1 h2 => ?_⟩
        · rw [at' i h]
          exact RL.nb i h
        · rw [at' g (by omega)]
          exact RL.wh g h
        · rw [at' i h2]
          exact RL.nw i h1 h2
      refine ⟨.ref nt, rfl, .ref wy, rfl, .ref M, rfl, nt, wy, M, ls, sts, jns, tis, ws, ts, _, rfl, S21.net, S21.way, hw, eM21, by rw [LM.len, hgs]; exact hn, fun H22 X s22 nX hX => ?_⟩
      rw [hgs, LM.bear hfl hln gs] at hX
      have S22 := S21.same s22
      have hDt22 := hDt21.same s22
      refine ⟨.ref Dt, rfl, _, _, (hX.dt (by omega)).dp, (hDt22.dt (by omega)).dp, shaped_lg mnm, shaped_lg mnm, _, rfl, ?_⟩
      rw [SeqAt.eqv_refl _ (lay_lg mnm)]
      refine iteF ?_
      have eR22 := s22 _ _ eR21
      clear eM21 hX
      refine ⟨.ref R, rfl, R, _, rfl, SqL.of eR22, fun Ea nEa => ?_⟩
      have nEp : Ea ≠ p := S22.b.ne nEa
      refine lc_it (walk_enum (xs := (rowM n f' l').map sV)) (fun i H30 => Keep p H22 H30 ∧ Bag H30 p ∧ ∃ se : List (Option Bool), se.length = i ∧ (∀ j, j < i → f' ≤ j + 1 → se[j]? = (rowM n f' l')[j]?) ∧ (∀ j, j < i → j + 1 < f' → se[j]? = some none ∨ se[j]? = some (some true)) ∧ H30 Ea = some (.lst (se.map sV))) ⟨.of (same_upd nEa), S22.b.keep (same_upd nEa), [], rfl, fun j h => absurd h (Nat.not_lt_zero _), fun j h => absurd h (Nat.not_lt_zero _), upd_same⟩ (fun i H30 _ pv => SqL.of (pv.1 _ _ nRp eR22)) (fun i v H30 H31 hi pv yy => ?_) (fun H30 pv => ?_)
      · obtain ⟨U, x, y, rfl, nU, rfl, ex, ey⟩ := yy
        obtain ⟨k30, b30, se, hse, hl1, hl2, eE⟩ := pv
        have ex : x = .int (i : Int) := (Option.some.inj ex).symm
        obtain ⟨r, hr', rfl⟩ := seal_at ey
        subst ex
        rw [List.length_map, row_len] at hi
        have s31 := same_upd (o := .tup [.int (i : Int), sV r]) nU
        have eE31 := s31 _ _ eE
        have nxt : ∀ (r' : Option Bool) (Hx : Hp), Keep p H30 Hx → Bag Hx p → Hx Ea = some (.lst (se.map sV)) → (f' ≤ i + 1 → r' = r) → (i + 1 < f' → r' = none ∨ r' = some true) → ∃ acc, Hx Ea = some (.lst acc) ∧ acc.length < sizeLine ∧ (Keep p H22 (upd Hx Ea (.lst (acc ++ [sV r']))) ∧ Bag (upd Hx Ea (.lst (acc ++ [sV r']))) p ∧ ∃ se : List (Option Bool), se.length = i + 1 ∧ (∀ j, j < i + 1 → f' ≤ j + 1 → se[j]? = (rowM n f' l')[j]?) ∧ (∀ j, j < i + 1 → j + 1 < f' → se[j]? = some none ∨ se[j]? = some (some true)) ∧ (upd Hx Ea (.lst (acc ++ [sV r']))) Ea = some (.lst (se.map sV))) := fun r' Hx kx bx ex hh h2 => by
          refine ⟨_, ex, by rw [List.length_map]; exact small5000 (by omega), fun c o nc ec => ?_, bx.at (upd_ne nEp.symm), se ++ [r'], by rw [List.length_append, hse]; rfl, fun j h1 h3 => ?_, fun j h1 h3 => ?_, by rw [upd_same, List.map_append]; rfl⟩
          · rw [upd_ne (ne_of_none ec nEa)]
            exact kx _ _ nc (k30 _ _ nc ec)
          · by_cases c : j < i
            · rw [List.getElem?_append_left (by omega)]
              exact hl1 j c h3
            · have : j = i := by omega
              subst this
              rw [List.getElem?_append_right (by omega), hse, Nat.sub_self, hr', hh h3]
              rfl
          · by_cases c : j < i
            · rw [List.getElem?_append_left (by omega)]
              exact hl2 j c h3
            · have : j = i := by omega
              subst this
              rw [List.getElem?_append_right (by omega), hse, Nat.sub_self]
              rcases h2 h3 with z | z
              · rw [z]; exact .inl rfl
              · rw [z]; exact .inr rfl
        have rN : i + 1 < f' → r = none ∨ r = some true := fun z => by
          rw [row_at hi, if_neg (by omega), if_neg (by omega)] at hr'
          exact .inl (Option.some.inj hr').symm
        refine ⟨U, _, rfl, SqT.of upd_same, rfl, _, _, rfl, _, [], rfl, rfl, rfl, yes_ ⟨.int (i : Int), rfl, .int f', rfl, _, _, rfl, rfl, _, _, rfl, rfl, _, rfl, ite2 (fun c => ?_) (fun c => ?_)⟩⟩
        · have c : (i : Int) < f' - 1 := of_decide_eq_true c
          refine ⟨.ref p, rfl, p, 2, rfl, b30.keep s31, by decide, by decide, fun H33 e k33 b33 e0 e1 => ?_⟩
          have k3 := (Keep.of s31).trans k33
          have e3 := k33 _ _ nEp eE31
          exact ⟨rfl, _, rfl, ite2 (fun _ => nxt (some true) _ k3 b33 e3 (fun z => absurd z (by omega)) fun _ => .inr rfl) (fun _ => ⟨sV r, rfl, nxt r _ k3 b33 e3 (fun _ => rfl) rN⟩)⟩
        · exact ⟨sV r, rfl, nxt r _ (.of s31) (b30.keep s31) eE31 (fun _ => rfl) rN⟩
      · obtain ⟨k30, b30, se, hse, hl1, hl2, eE⟩ := pv
        rw [List.length_map, row_len] at hse hl1 hl2
        have S30 := S22.keep k30 b30
        have hDt30 := hDt22.keep k30 S22.b
        have LE := likeE se hse hl1 fun j h => hl2 j (by omega) h
        refine ⟨.ref nt, rfl, .ref wy, rfl, .ref Ea, rfl, nt, wy, Ea, ls, sts, jns, tis, ws, ts, se, rfl, S30.net, S30.way, hw, eE, by rw [LE.len, hgs]; exact hn, fun H31 X s31 nX hX => ?_⟩
        rw [hgs, LE.bear hfl hln gs] at hX
        refine ⟨.ref Dt, rfl, _, _, (hX.dt (by omega)).dp, ((hDt30.same s31).dt (by omega)).dp, shaped_lg mnm, shaped_lg mnm, ?_⟩
        rw [SeqAt.eqv_refl _ (lay_lg mnm)]
        exact q _ (S30.same s31).k (b30.keep s31)
    · clear eM
      have S22 := S20
      have eR22 := eR20
      have hDt22 := hDt20
      refine ⟨.ref R, rfl, R, _, rfl, SqL.of eR22, fun Ea nEa => ?_⟩
      have nEp : Ea ≠ p := S22.b.ne nEa
      refine lc_it (walk_enum (xs := (rowM n f' l').map sV)) (fun i H30 => Keep p H20 H30 ∧ Bag H30 p ∧ ∃ se : List (Option Bool), se.length = i ∧ (∀ j, j < i → f' ≤ j + 1 → se[j]? = (rowM n f' l')[j]?) ∧ (∀ j, j < i → j + 1 < f' → se[j]? = some none ∨ se[j]? = some (some true)) ∧ H30 Ea = some (.lst (se.map sV))) ⟨.of (same_upd nEa), S22.b.keep (same_upd nEa), [], rfl, fun j h => absurd h (Nat.not_lt_zero _), fun j h => absurd h (Nat.not_lt_zero _), upd_same⟩ (fun i H30 _ pv => SqL.of (pv.1 _ _ nRp eR22)) (fun i v H30 H31 hi pv yy => ?_) (fun H30 pv => ?_)
      · obtain ⟨U, x, y, rfl, nU, rfl, ex, ey⟩ := yy
        obtain ⟨k30, b30, se, hse, hl1, hl2, eE⟩ := pv
        have ex : x = .int (i : Int) := (Option.some.inj ex).symm
        obtain ⟨r, hr', rfl⟩ := seal_at ey
        subst ex
        rw [List.length_map, row_len] at hi
        have s31 := same_upd (o := .tup [.int (i : Int), sV r]) nU
        have eE31 := s31 _ _ eE
        have nxt : ∀ (r' : Option Bool) (Hx : Hp), Keep p H30 Hx → Bag Hx p → Hx Ea = some (.lst (se.map sV)) → (f' ≤ i + 1 → r' = r) → (i + 1 < f' → r' = none ∨ r' = some true) → ∃ acc, Hx Ea = some (.lst acc) ∧ acc.length < sizeLine ∧ (Keep p H20 (upd Hx Ea (.lst (acc ++ [sV r']))) ∧ Bag (upd Hx Ea (.lst (acc ++ [sV r']))) p ∧ ∃ se : List (Option Bool), se.length = i + 1 ∧ (∀ j, j < i + 1 → f' ≤ j + 1 → se[j]? = (rowM n f' l')[j]?) ∧ (∀ j, j < i + 1 → j + 1 < f' → se[j]? = some none ∨ se[j]? = some (some true)) ∧ (upd Hx Ea (.lst (acc ++ [sV r']))) Ea = some (.lst (se.map sV))) := fun r' Hx kx bx ex hh h2 => by
          refine ⟨_, ex, by rw [List.length_map]; exact small5000 (by omega), fun c o nc ec => ?_, bx.at (upd_ne nEp.symm), se ++ [r'], by rw [List.length_append, hse]; rfl, fun j h1 h3 => ?_, fun j h1 h3 => ?_, by rw [upd_same, List.map_append]; rfl⟩
          · rw [upd_ne (ne_of_none ec nEa)]
            exact kx _ _ nc (k30 _ _ nc ec)
          · by_cases c : j < i
            · rw [List.getElem?_append_left (by omega)]
              exact hl1 j c h3
            · have : j = i := by omega
              subst this
              rw [List.getElem?_append_right (by omega), hse, Nat.sub_self, hr', hh h3]
              rfl
          · by_cases c : j < i
            · rw [List.getElem?_append_left (by omega)]
              exact hl2 j c h3
            · have : j = i := by omega
              subst this
              rw [List.getElem?_append_right (by omega), hse, Nat.sub_self]
              rcases h2 h3 with z | z
              · rw [z]; exact .inl rfl
              · rw [z]; exact .inr rfl
        have rN : i + 1 < f' → r = none ∨ r = some true := fun z => by
          rw [row_at hi, if_neg (by omega), if_neg (by omega)] at hr'
          exact .inl (Option.some.inj hr').symm
        refine ⟨U, _, rfl, SqT.of upd_same, rfl, _, _, rfl, _, [], rfl, rfl, rfl, yes_ ⟨.int (i : Int), rfl, .int f', rfl, _, _, rfl, rfl, _, _, rfl, rfl, _, rfl, ite2 (fun c => ?_) (fun c => ?_)⟩⟩
        · have c : (i : Int) < f' - 1 := of_decide_eq_true c
          refine ⟨.ref p, rfl, p, 2, rfl, b30.keep s31, by decide, by decide, fun H33 e k33 b33 e0 e1 => ?_⟩
          have k3 := (Keep.of s31).trans k33
          have e3 := k33 _ _ nEp eE31
          exact ⟨rfl, _, rfl, ite2 (fun _ => nxt (some true) _ k3 b33 e3 (fun z => absurd z (by omega)) fun _ => .inr rfl) (fun _ => ⟨sV r, rfl, nxt r _ k3 b33 e3 (fun _ => rfl) rN⟩)⟩
        · exact ⟨sV r, rfl, nxt r _ (.of s31) (b30.keep s31) eE31 (fun _ => rfl) rN⟩
      · obtain ⟨k30, b30, se, hse, hl1, hl2, eE⟩ := pv
        rw [List.length_map, row_len] at hse hl1 hl2
        have S30 := S22.keep k30 b30
        have hDt30 := hDt22.keep k30 S22.b
        have LE := likeE se hse hl1 fun j h => hl2 j (by omega) h
        refine ⟨.ref nt, rfl, .ref wy, rfl, .ref Ea, rfl, nt, wy, Ea, ls, sts, jns, tis, ws, ts, se, rfl, S30.net, S30.way, hw, eE, by rw [LE.len, hgs]; exact hn, fun H31 X s31 nX hX => ?_⟩
        rw [hgs, LE.bear hfl hln gs] at hX
        refine ⟨.ref Dt, rfl, _, _, (hX.dt (by omega)).dp, ((hDt30.same s31).dt (by omega)).dp, shaped_lg mnm, shaped_lg mnm, ?_⟩
        rw [SeqAt.eqv_refl _ (lay_lg mnm)]
        exact q _ (S30.same s31).k (b30.keep s31)
end
end Th
namespace Th
open PySem PySem.Spec PyProof.Rows L2
/-! the law of whole losses -/
theorem net_ch {ls zs : List Nm} {qs : List (List Nat)} {J : Nat} {tis : List Ti} (h : NetOk ls zs qs J tis) : ∀ t ∈ tis, 1 ≤ t.ch := fun t ht => by
  obtain ⟨i, j, x, a, b, hij, e1, e2, _, _, _, _, e3, c1, c2⟩ := h.ok t ht
  exact c1
section
variable {P : Program} {w : World} {K : PySem.W.Frag} {mg : Str → Option Value} {base : Heap} {k : Nat}
def sp_law (K : PySem.W.Frag) : Sp := fun vs H Q _ => ∃ (a : Addr) (ns : List Int), vs = [.ref a] ∧ SqL K H a (ns.map V.int) ∧ ns.length ≤ 63 ∧ ∀ H', Q (.bl true) H'
set_option maxHeartbeats 32000000 in
theorem ok_law {f : Addr} {fd : FuncData} (F : FnP K "law" s_law f fd) (T : Defs K mg) : FnOk P w K mg base CX0 6 f fd ["_law_script"] (sp_law K) := by
  have G_l_bag : FnOk P w K mg base CX0 5 _ _ _ _ := ok_l_bag T
  have G_l_net : FnOk P w K mg base CX0 5 _ _ _ _ := ok_l_net (k := 1) T
  have G_l_walk : FnOk P w K mg base CX0 5 _ _ _ _ := ok_l_walk (k := 3) T
  have G_l_holds : FnOk P w K mg base CX0 5 _ _ _ _ := ok_l_holds (k := 0) T
  refine F.ok sc_law (fun vs H Q E h => ?_) (fun cdv A outer s H vs Q E hr h => ?_)
  · obtain ⟨a, ns, rfl, _⟩ := h
    rfl
  · obtain ⟨a, ns, rfl, hS, hlen, q⟩ := h
    refine ⟨_, PSs.nox
(pss_cons (ps_for PassesOwn.never rfl (pi_range1 (by rfl) T.z_range (pa_cons (pe_callB (call_max2 rfl) (by rfl) T.z_max (by decide +kernel) (pa_cons (pe_int) (pa_cons (pe_callB (call_min2 rfl) (by rfl) T.z_min (by decide +kernel) (pa_cons (pe_int) (pa_cons (pe_callB (r := rLenS K) call_lenS (by rfl) T.z_len (by decide +kernel) (pa_cons (pv 0) pa_nil)) pa_nil))) pa_nil))) pa_nil)) (pg_name (i := 1) sc_law.nd rfl (.inl rfl))
      (pss_cons (ps_set (i := 2) sc_law.nd rfl (.inl rfl) (pe_call G_l_bag hr (by rfl) T.g_l_bag T.F_l_bag.kp T.b_l_bag .nil pass0 (pa_cons (pv 0) (pa_cons (pv 1) pa_nil))))
      (pss_cons (ps_asg (pe_call G_l_net hr (by rfl) T.g_l_net T.F_l_net.kp T.b_l_net .nil pass0 (pa_cons (pv 2) pa_nil)) (pg_tup rfl (pgs_cons (pg_name (i := 3) sc_law.nd rfl (.inl rfl)) (pgs_cons (pg_name (i := 4) sc_law.nd rfl (.inl rfl)) pgs_nil))))
      (pss_one (ps_for PassesOwn.never rfl (pi_list (pe_lst (pa_cons (pv 4) (pa_cons (pe_call G_l_walk hr (by rfl) T.g_l_walk T.F_l_walk.kp T.b_l_walk .nil pass0 (pa_cons (pv 2) (pa_cons (pv 3) (pa_cons (pv 4) pa_nil)))) (pa_cons (Tw.pe_revT (K := K) (pe_call G_l_walk hr (by rfl) T.g_l_walk T.F_l_walk.kp T.b_l_walk .nil pass0 (pa_cons (pv 2) (pa_cons (pv 3) (pa_cons (pv 4) pa_nil))))) pa_nil))))) (pg_name (i := 5) sc_law.nd rfl (.inl rfl))
        (pss_one (ps_for PassesOwn.never rfl (pi_range1 (by rfl) T.z_range (pa_cons (pe_int) pa_nil)) (pg_name (i := 6) sc_law.nd rfl (.inl rfl))
          (pss_one (ps_if (pt_not (pt_val (pe_call G_l_holds hr (by rfl) T.g_l_holds T.F_l_holds.kp T.b_l_holds .nil pass0 (pa_cons (pv 2) (pa_cons (pv 3) (pa_cons (pv 5) pa_nil))))))
            (pss_one (ps_ret (pe_bl)))
            pss_nil)))))))))
    (pss_one (ps_ret (pe_bl))))
      , ?_⟩
    have lenV : (ns.map V.int).length = ns.length := List.length_map _
    refine ⟨.ref a, rfl, a, _, rfl, .inl hS, 5, _, rfl, 2, _, rfl, _, rfl, ?_, ?_, ?_⟩
    · rw [lenV]
      split <;> split <;> omega
    · rw [lenV]
      split <;> split <;> omega
    · obtain ⟨n, en, hn⟩ : ∃ n : Nat, (if (if ((ns.map V.int).length : Int) < 5 then ((ns.map V.int).length : Int) else 5) > 2 then (if ((ns.map V.int).length : Int) < 5 then ((ns.map V.int).length : Int) else 5) else 2) = (n : Int) ∧ n ≤ 5 := by
        rw [lenV]
        refine ⟨(if (if (ns.length : Int) < 5 then (ns.length : Int) else 5) > 2 then (if (ns.length : Int) < 5 then (ns.length : Int) else 5) else 2).toNat, ?_, ?_⟩
        · split <;> split <;> omega
        · split <;> split <;> omega
      rw [en, Int.toNat_natCast]
      refine for_range (lo := 0) (n := n) (fun i σ H3 => ∃ ys : List (Option V), ys.length = 6 ∧ σ = some (.ref a) :: ys ∧ Same H H3)
        ⟨_, rfl, rfl, fun _ _ h => h⟩ (fun i σ H3 hi hp => ?_) (fun σ H3 hp => q _)
      obtain ⟨ys, hys, rfl, s3⟩ := hp
      match ys, hys with
      | [y1, y2, y3, y4, y5, y6], _ =>
      have hS3 : SqL K H3 a (ns.map V.int) := sq_same s3 hS
      refine ⟨.ref a, rfl, .int (0 + (i : Int)), rfl, a, ns, i, by rw [Int.zero_add]; rfl, hS3, by omega, fun H4 p s4 np b4 => ?_⟩
      have nHp : H p = none := up0 s3 np
      refine ⟨.ref p, rfl, p, rfl, b4, fun H5 r nt wy ls zs qs J tis sts jns rws k5 b5 er hnet ewy hok pS pJ pR => ?_⟩
      have s5 : Same H H5 := fun c o e => k5 _ _ (ne_of_none e nHp) (s4 _ _ (s3 _ _ e))
      obtain ⟨ts0, hw0⟩ := net_way hok pR
      have hchr : ∀ t ∈ rws, 1 ≤ t.ch := fun t ht => net_ch hok t (pR.mem_iff.mp ht)
      obtain ⟨t1, t100, tnm⟩ := net_st hok pS
      refine ⟨r, _, rfl, SqT.of er, rfl, _, _, rfl, _, [], rfl, rfl, ?_⟩
      refine ⟨.ref wy, rfl, .ref p, rfl, .ref nt, rfl, .ref wy, rfl, p, nt, wy, ls, sts, jns, rws, _, ts0, rfl, b5, hnet, ewy, hw0, t1, t100, tnm, fun H6 w1 ws1 ts1 k6 b6 ew1 hw1 => ?_⟩
      have t6 : TK H5 H6 := .keep k6 b5
      refine ⟨.ref p, rfl, .ref nt, rfl, .ref wy, rfl, p, nt, wy, ls, sts, jns, rws, _, ts0, rfl, b6, hnet.tk t6, t6 _ _ ewy, hw0, t1, t100, tnm, fun H7 w2 ws2 ts2 k7 b7 ew2 hw2 => ?_⟩
      have t7 : TK H6 H7 := .keep k7 b6
      have s7 : Same H H7 := fun c o e => k7 _ _ (ne_of_none e nHp) (k6 _ _ (ne_of_none e nHp) (s5 _ _ e))
      have hnet7 := (hnet.tk t6).tk t7
      refine ⟨w2, _, rfl, SqT.of ew2, fun w3 nw3 => ?_⟩
      have s8 := same_upd (o := .tup (ws2.map nS).reverse) nw3
      refine ⟨by show 3 ≤ sizeLine; decide, fun C nC => ?_⟩
      have s9 := same_upd (o := .lst [.ref wy, .ref w1, .ref w3]) nC
      have s79 := s8.trans s9
      have p9 : Paired (Wd (upd (upd H7 w3 (.tup (ws2.map nS).reverse)) C (.lst [.ref wy, .ref w1, .ref w3])) rws) [wy, w1, w3] [(zs.take (J + 2), ts0), (ws1, ts1), (ws2.reverse, ts2.reverse)] :=
        .cons ⟨s79 _ _ (t7 _ _ (t6 _ _ ewy)), hw0⟩ (.cons ⟨s79 _ _ (t7 _ _ ew1), hw1⟩ (.cons ⟨s9 _ _ (by rw [upd_same, List.map_reverse]), hw2.rev⟩ .nil))
      have eC : (upd (upd H7 w3 (.tup (ws2.map nS).reverse)) C (.lst [.ref wy, .ref w1, .ref w3])) C = some (.lst ([wy, w1, w3].map V.ref)) := upd_same
      have s09 := s7.trans s79
      have b9 := b7.keep s79
      have hnet9 := hnet7.tk (.of s79)
      have nCp : C ≠ p := (b7.keep s8).ne nC
      generalize upd (upd H7 w3 (.tup (ws2.map nS).reverse)) C (.lst [.ref wy, .ref w1, .ref w3]) = H9 at s9 s79 p9 eC s09 b9 hnet9
      generalize [wy, w1, w3] = va at eC p9
      generalize [(zs.take (J + 2), ts0), (ws1, ts1), (ws2.reverse, ts2.reverse)] = wl at p9
      refine ⟨C, rfl, ⟨_, SqL.of eC⟩, ?_⟩
      refine for_it (walk_list (xs := va.map V.ref)) (fun j σ H10 => ∃ ys : List (Option V), ys.length = 2 ∧ σ = [some (.ref a), some (.int (0 + (i : Int))), some (.ref p), some (.ref nt), some (.ref wy)] ++ ys ∧ Keep p H9 H10 ∧ Bag H10 p)
        ⟨_, rfl, rfl, Keep.refl _ _, b9⟩ (fun j σ H10 _ hp => ?_) (fun j v σ H10₀ H10 hj hp yy => ?_) (fun σ H10 hp => ?_)
      · obtain ⟨_, _, _, k10, _⟩ := hp
        exact SqL.of (k10 _ _ nCp eC)
      · obtain ⟨rfl, ex⟩ := yy
        obtain ⟨ys, hys, rfl, k10, b10⟩ := hp
        match ys, hys with
        | [y5, y6], _ =>
        obtain ⟨v, ev, rfl⟩ := ref_at ex
        obtain ⟨⟨ws, ts⟩, _, hv, hw⟩ := paired_get p9 ev
        have hw : WayOk rws ws ts := hw
        have tk10 : TK H9 H10 := .keep k10 b9
        have hv10 : H10 v = some (.tup (ws.map nS)) := tk10 _ _ hv
        have hnet10 := hnet9.tk tk10
        refine ⟨3, rfl, by decide, by decide, ?_⟩
        refine for_range (lo := 0) (n := 3) (fun tn σ H12 => ∃ y6 : Option V, σ = [some (.ref a), some (.int (0 + (i : Int))), some (.ref p), some (.ref nt), some (.ref wy), some (.ref v), y6] ∧ Keep p H9 H12 ∧ Bag H12 p)
          ⟨_, rfl, k10, b10⟩ (fun tn σ H12 htn hp => ?_) (fun σ H12 hp => ?_)
        · obtain ⟨y6, rfl, k12, b12⟩ := hp
          have tk12 : TK H9 H12 := .keep k12 b9
          exact ⟨.ref p, rfl, .ref nt, rfl, .ref v, rfl, p, nt, v, ls, sts, jns, rws, ws, ts, rfl, b12, hnet9.tk tk12, tk12 _ _ hv, hw, hchr, fun H13 k13 b13 => ⟨true, rfl, iteF ⟨_, rfl, k12.trans k13, b13⟩⟩⟩
        · obtain ⟨y6, rfl, k12, b12⟩ := hp
          exact ⟨_, rfl, rfl, k12, b12⟩
      · obtain ⟨ys, hys, rfl, k10, b10⟩ := hp
        match ys, hys with
        | [y5, y6], _ =>
        exact ⟨_, rfl, rfl, fun c o e => k10 _ _ (ne_of_none e nHp) (s09 _ _ e)⟩
end
end Th
namespace Th
open PySem PySem.Spec PyProof.Rows L2
def dd_tie_between : He.DefD := ⟨("tie_between", none), "tie_between", "tie_between", defArgs s_tie_between, defBody s_tie_between, defScope s_tie_between, [], []⟩
def dd_ties_along : He.DefD := ⟨("ties_along", none), "ties_along", "ties_along", defArgs s_ties_along, defBody s_ties_along, defScope s_ties_along, [], []⟩
def dd_legs : He.DefD := ⟨("legs", none), "legs", "legs", defArgs s_legs, defBody s_legs, defScope s_legs, [], []⟩
def dd_line_chains : He.DefD := ⟨("line_chains", none), "line_chains", "line_chains", defArgs s_line_chains, defBody s_line_chains, defScope s_line_chains, [], []⟩
def dd_chains_by_line : He.DefD := ⟨("chains_by_line", none), "chains_by_line", "chains_by_line", defArgs s_chains_by_line, defBody s_chains_by_line, defScope s_chains_by_line, [], []⟩
def dd_bearers : He.DefD := ⟨("bearers", none), "bearers", "bearers", defArgs s_bearers, defBody s_bearers, defScope s_bearers, [], []⟩
def dd_l_bag : He.DefD := ⟨("_law_bag", none), "_law_bag", "_law_bag", defArgs s_l_bag, defBody s_l_bag, defScope s_l_bag, [], []⟩
def dd_l_take : He.DefD := ⟨("_law_take", none), "_law_take", "_law_take", defArgs s_l_take, defBody s_l_take, defScope s_l_take, [], []⟩
def dd_l_names : He.DefD := ⟨("_law_names", none), "_law_names", "_law_names", defArgs s_l_names, defBody s_l_names, defScope s_l_names, [], []⟩
def dd_l_spots : He.DefD := ⟨("_law_spots", none), "_law_spots", "_law_spots", defArgs s_l_spots, defBody s_l_spots, defScope s_l_spots, [], []⟩
def dd_l_places : He.DefD := ⟨("_law_places", none), "_law_places", "_law_places", defArgs s_l_places, defBody s_l_places, defScope s_l_places, [], []⟩
def dd_l_net : He.DefD := ⟨("_law_net", none), "_law_net", "_law_net", defArgs s_l_net, defBody s_l_net, defScope s_l_net, [], []⟩
def dd_l_laid : He.DefD := ⟨("_law_laid", none), "_law_laid", "_law_laid", defArgs s_l_laid, defBody s_l_laid, defScope s_l_laid, [], []⟩
def dd_l_walk : He.DefD := ⟨("_law_walk", none), "_law_walk", "_law_walk", defArgs s_l_walk, defBody s_l_walk, defScope s_l_walk, [], []⟩
def dd_l_chains_of : He.DefD := ⟨("_law_chains_of", none), "_law_chains_of", "_law_chains_of", defArgs s_l_chains_of, defBody s_l_chains_of, defScope s_l_chains_of, [], []⟩
def dd_l_holds : He.DefD := ⟨("_law_holds", none), "_law_holds", "_law_holds", defArgs s_l_holds, defBody s_l_holds, defScope s_l_holds, [], []⟩
def dd_law : He.DefD := ⟨("law", none), "law", "law", defArgs s_law, defBody s_law, defScope s_law, [], []⟩
def fn : List He.DefD := [dd_tie_between, dd_ties_along, dd_legs, dd_line_chains, dd_chains_by_line, dd_bearers, dd_l_bag, dd_l_take, dd_l_names, dd_l_spots, dd_l_places, dd_l_net, dd_l_laid, dd_l_walk, dd_l_chains_of, dd_l_holds, dd_law]
def fa : List He.Fa := [.glo "tie_between", .glo "ties_along", .glo "legs", .glo "line_chains", .glo "chains_by_line", .glo "bearers", .glo "_law_bag", .glo "_law_take", .glo "_law_names", .glo "_law_spots", .glo "_law_places", .glo "_law_net", .glo "_law_laid", .glo "_law_walk", .glo "_law_chains_of", .glo "_law_holds", .glo "law", .free "abs", .free "all", .free "dict", .free "enumerate", .free "int", .free "len", .free "list", .free "max", .free "min", .free "range", .free "set", .free "sorted", .free "tuple", .free "zip"]
abbrev R : PySem.W.OpenRow := PySem.W.OpenLaw.row PySem.Challenge.rw_throughlines_k51_whole_losses
abbrev hk : PySem.W.Hook := He.hookD 4 fa fn
def ob (s : PySem.W.SharedT) : He.AlD := He.obsDG 4 fa fn (HandSHeadRun.getT s)
theorem ob_eq (s : PySem.W.SharedT) : ob s = hk.obs s.abs := He.obsDG_eq (HandSHeadRun.getT_eq s)
def loose : List PySem.Str := ["tie_between", "ties_along", "legs", "line_chains", "chains_by_line", "bearers", "_law_bag", "_law_take", "_law_names", "_law_spots", "_law_places", "_law_net", "_law_laid", "_law_walk", "_law_chains_of", "_law_holds"]
set_option maxHeartbeats 0 in
theorem run (w : World) : HandSHeadRun.RunEq R (PySem.W.view R.prog [20]) hk ob 2000 loose w := by
  intro os
  kernel_rfl
theorem facts {P : Program} {w : World} {K : PySem.W.Frag} {h : Heap} {mg : Str → Option Value} {f : Addr} (X : K.In h) (G : h.Ns mainGlobals mg) (hfa : mg ("law" : Str) = some (.ref f)) (c : He.SaysD fa fn K) :
    ∃ fd : FuncData, (∀ (s : Shared) (v : Value), BindsTo s fd ⟨[v], []⟩ [("_law_script", v)]) ∧ ∀ base : Heap, K.In base → base.Ns mainGlobals mg → FnOk P w K mg base CX0 6 f fd ["_law_script"] (sp_law K) := by
  obtain ⟨d_tie_between, F_tie_between⟩ := c.def_ 0 (d := dd_tie_between) rfl
  have b_tie_between : Binds K d_tie_between ["net", "place", "far"] [] := FunD.bindsN F_tie_between fun _ _ _ _ _ _ us hl => match us, hl with | [_, _, _], _ => rfl
  obtain ⟨d_ties_along, F_ties_along⟩ := c.def_ 1 (d := dd_ties_along) rfl
  have b_ties_along : Binds K d_ties_along ["net", "way"] [] := FunD.bindsN F_ties_along fun _ _ _ _ _ _ us hl => match us, hl with | [_, _], _ => rfl
  obtain ⟨d_legs, F_legs⟩ := c.def_ 2 (d := dd_legs) rfl
  have b_legs : Binds K d_legs ["net", "way"] [] := FunD.bindsN F_legs fun _ _ _ _ _ _ us hl => match us, hl with | [_, _], _ => rfl
  obtain ⟨d_line_chains, F_line_chains⟩ := c.def_ 3 (d := dd_line_chains) rfl
  have b_line_chains : Binds K d_line_chains ["net", "way"] [] := FunD.bindsN F_line_chains fun _ _ _ _ _ _ us hl => match us, hl with | [_, _], _ => rfl
  obtain ⟨d_chains_by_line, F_chains_by_line⟩ := c.def_ 4 (d := dd_chains_by_line) rfl
  have b_chains_by_line : Binds K d_chains_by_line ["run"] [] := FunD.bindsN F_chains_by_line fun _ _ _ _ _ _ us hl => match us, hl with | [_], _ => rfl
  obtain ⟨d_bearers, F_bearers⟩ := c.def_ 5 (d := dd_bearers) rfl
  have b_bearers : Binds K d_bearers ["net", "way", "seals"] [] := FunD.bindsN F_bearers fun _ _ _ _ _ _ us hl => match us, hl with | [_, _, _], _ => rfl
  obtain ⟨d_l_bag, F_l_bag⟩ := c.def_ 6 (d := dd_l_bag) rfl
  have b_l_bag : Binds K d_l_bag ["_law_script", "_law_at"] [] := FunD.bindsN F_l_bag fun _ _ _ _ _ _ us hl => match us, hl with | [_, _], _ => rfl
  obtain ⟨d_l_take, F_l_take⟩ := c.def_ 7 (d := dd_l_take) rfl
  have b_l_take : Binds K d_l_take ["_law_bag_here", "_law_many"] [] := FunD.bindsN F_l_take fun _ _ _ _ _ _ us hl => match us, hl with | [_, _], _ => rfl
  obtain ⟨d_l_names, F_l_names⟩ := c.def_ 8 (d := dd_l_names) rfl
  have b_l_names : Binds K d_l_names ["_law_bag_here", "_law_many"] [] := FunD.bindsN F_l_names fun _ _ _ _ _ _ us hl => match us, hl with | [_, _], _ => rfl
  obtain ⟨d_l_spots, F_l_spots⟩ := c.def_ 9 (d := dd_l_spots) rfl
  have b_l_spots : Binds K d_l_spots ["_law_bag_here", "_law_many", "_law_junctions"] [] := FunD.bindsN F_l_spots fun _ _ _ _ _ _ us hl => match us, hl with | [_, _, _], _ => rfl
  obtain ⟨d_l_places, F_l_places⟩ := c.def_ 10 (d := dd_l_places) rfl
  have b_l_places : Binds K d_l_places ["_law_bag_here", "_law_many"] [] := FunD.bindsN F_l_places fun _ _ _ _ _ _ us hl => match us, hl with | [_, _], _ => rfl
  obtain ⟨d_l_net, F_l_net⟩ := c.def_ 11 (d := dd_l_net) rfl
  have b_l_net : Binds K d_l_net ["_law_bag_here"] [] := FunD.bindsN F_l_net fun _ _ _ _ _ _ us hl => match us, hl with | [_], _ => rfl
  obtain ⟨d_l_laid, F_l_laid⟩ := c.def_ 12 (d := dd_l_laid) rfl
  have b_l_laid : Binds K d_l_laid ["_law_bag_here", "_law_lines", "_law_places_here", "_law_ties"] [] := FunD.bindsN F_l_laid fun _ _ _ _ _ _ us hl => match us, hl with | [_, _, _, _], _ => rfl
  obtain ⟨d_l_walk, F_l_walk⟩ := c.def_ 13 (d := dd_l_walk) rfl
  have b_l_walk : Binds K d_l_walk ["_law_bag_here", "_law_net_here", "_law_way"] [] := FunD.bindsN F_l_walk fun _ _ _ _ _ _ us hl => match us, hl with | [_, _, _], _ => rfl
  obtain ⟨d_l_chains_of, F_l_chains_of⟩ := c.def_ 14 (d := dd_l_chains_of) rfl
  have b_l_chains_of : Binds K d_l_chains_of ["_law_rows"] [] := FunD.bindsN F_l_chains_of fun _ _ _ _ _ _ us hl => match us, hl with | [_], _ => rfl
  obtain ⟨d_l_holds, F_l_holds⟩ := c.def_ 15 (d := dd_l_holds) rfl
  have b_l_holds : Binds K d_l_holds ["_law_bag_here", "_law_net_here", "_law_way"] [] := FunD.bindsN F_l_holds fun _ _ _ _ _ _ us hl => match us, hl with | [_, _, _], _ => rfl
  obtain ⟨d_law, F_law⟩ := c.def_ 16 (d := dd_law) rfl
  have T : Defs K mg := {
    a_tie_between := _,
    d_tie_between := d_tie_between,
    F_tie_between := F_tie_between,
    g_tie_between := He.glo_ok X G (c.fact 0 (f := .glo "tie_between") rfl),
    b_tie_between := b_tie_between,
    a_ties_along := _,
    d_ties_along := d_ties_along,
    F_ties_along := F_ties_along,
    g_ties_along := He.glo_ok X G (c.fact 1 (f := .glo "ties_along") rfl),
    b_ties_along := b_ties_along,
    a_legs := _,
    d_legs := d_legs,
    F_legs := F_legs,
    g_legs := He.glo_ok X G (c.fact 2 (f := .glo "legs") rfl),
    b_legs := b_legs,
    a_line_chains := _,
    d_line_chains := d_line_chains,
    F_line_chains := F_line_chains,
    g_line_chains := He.glo_ok X G (c.fact 3 (f := .glo "line_chains") rfl),
    b_line_chains := b_line_chains,
    a_chains_by_line := _,
    d_chains_by_line := d_chains_by_line,
    F_chains_by_line := F_chains_by_line,
    g_chains_by_line := He.glo_ok X G (c.fact 4 (f := .glo "chains_by_line") rfl),
    b_chains_by_line := b_chains_by_line,
    a_bearers := _,
    d_bearers := d_bearers,
    F_bearers := F_bearers,
    g_bearers := He.glo_ok X G (c.fact 5 (f := .glo "bearers") rfl),
    b_bearers := b_bearers,
    a_l_bag := _,
    d_l_bag := d_l_bag,
    F_l_bag := F_l_bag,
    g_l_bag := He.glo_ok X G (c.fact 6 (f := .glo "_law_bag") rfl),
    b_l_bag := b_l_bag,
    a_l_take := _,
    d_l_take := d_l_take,
    F_l_take := F_l_take,
    g_l_take := He.glo_ok X G (c.fact 7 (f := .glo "_law_take") rfl),
    b_l_take := b_l_take,
    a_l_names := _,
    d_l_names := d_l_names,
    F_l_names := F_l_names,
    g_l_names := He.glo_ok X G (c.fact 8 (f := .glo "_law_names") rfl),
    b_l_names := b_l_names,
    a_l_spots := _,
    d_l_spots := d_l_spots,
    F_l_spots := F_l_spots,
    g_l_spots := He.glo_ok X G (c.fact 9 (f := .glo "_law_spots") rfl),
    b_l_spots := b_l_spots,
    a_l_places := _,
    d_l_places := d_l_places,
    F_l_places := F_l_places,
    g_l_places := He.glo_ok X G (c.fact 10 (f := .glo "_law_places") rfl),
    b_l_places := b_l_places,
    a_l_net := _,
    d_l_net := d_l_net,
    F_l_net := F_l_net,
    g_l_net := He.glo_ok X G (c.fact 11 (f := .glo "_law_net") rfl),
    b_l_net := b_l_net,
    a_l_laid := _,
    d_l_laid := d_l_laid,
    F_l_laid := F_l_laid,
    g_l_laid := He.glo_ok X G (c.fact 12 (f := .glo "_law_laid") rfl),
    b_l_laid := b_l_laid,
    a_l_walk := _,
    d_l_walk := d_l_walk,
    F_l_walk := F_l_walk,
    g_l_walk := He.glo_ok X G (c.fact 13 (f := .glo "_law_walk") rfl),
    b_l_walk := b_l_walk,
    a_l_chains_of := _,
    d_l_chains_of := d_l_chains_of,
    F_l_chains_of := F_l_chains_of,
    g_l_chains_of := He.glo_ok X G (c.fact 14 (f := .glo "_law_chains_of") rfl),
    b_l_chains_of := b_l_chains_of,
    a_l_holds := _,
    d_l_holds := d_l_holds,
    F_l_holds := F_l_holds,
    g_l_holds := He.glo_ok X G (c.fact 15 (f := .glo "_law_holds") rfl),
    b_l_holds := b_l_holds,
    z_abs := He.free_ok X G (c.fact 17 (f := .free "abs") rfl),
    z_all := He.free_ok X G (c.fact 18 (f := .free "all") rfl),
    z_dict := He.free_ok X G (c.fact 19 (f := .free "dict") rfl),
    z_enumerate := He.free_ok X G (c.fact 20 (f := .free "enumerate") rfl),
    z_int := He.free_ok X G (c.fact 21 (f := .free "int") rfl),
    z_len := He.free_ok X G (c.fact 22 (f := .free "len") rfl),
    z_list := He.free_ok X G (c.fact 23 (f := .free "list") rfl),
    z_max := He.free_ok X G (c.fact 24 (f := .free "max") rfl),
    z_min := He.free_ok X G (c.fact 25 (f := .free "min") rfl),
    z_range := He.free_ok X G (c.fact 26 (f := .free "range") rfl),
    z_set := He.free_ok X G (c.fact 27 (f := .free "set") rfl),
    z_sorted := He.free_ok X G (c.fact 28 (f := .free "sorted") rfl),
    z_tuple := He.free_ok X G (c.fact 29 (f := .free "tuple") rfl),
    z_zip := He.free_ok X G (c.fact 30 (f := .free "zip") rfl) }
  have e := hfa.symm.trans (He.glo_ok X G (c.fact 16 (f := .glo "law") rfl))
  cases e
  have b := FunD.bindsA (ps := ["_law_script"]) F_law fun _ _ _ _ _ _ us hl => match us, hl with | [_], _ => rfl
  exact ⟨d_law, fun s v => b s [v] rfl, fun base _ _ => ok_law F_law T⟩
end Th
open PySem PySem.W PySem.Calls PyProof.Rows
set_option maxHeartbeats 0 in
theorem PySem.Challenge.cw_throughlines_k51_whole_losses_holds : PySem.Challenge.rw_throughlines_k51_whole_losses.Holds := by
  w_on; o_law
  refine HandSHeadRun.head_any (r := OpenLaw.row PySem.Challenge.rw_throughlines_k51_whole_losses) (q := view (OpenLaw.row PySem.Challenge.rw_throughlines_k51_whole_losses).prog [20]) (H := Th.hk) (ob := Th.ob) (M := 2000) (loose := Th.loose) (d := HandSHeadRun.topDef (OpenLaw.row PySem.Challenge.rw_throughlines_k51_whole_losses).prog 20) (kwd := []) Th.ob_eq
    (by kernel_rfl) (fun s => by kernel_rfl) Th.run (by kernel_rfl) (by kernel_rfl) (by kernel_rfl) (by rfl) (by first | assumption | decide +kernel) (by decide +kernel) ⟨rfl, rfl, rfl, rfl, rfl, by decide +kernel⟩ ?hw ?hc
  case hw => w_witness2
  case hc =>
    refine L2.walk_ofE (l := PySem.Challenge.rw_throughlines_k51_whole_losses) (n := 63) (k := 6) (x := "_law_script") (CX := L2.CX0) rfl (by decide) (by kernel_rfl) ⟨rfl, by decide, by decide⟩ ?F (fun _ _ _ _ z => z)
    intro w mg fa h Y G hmg0
    obtain ⟨K, KX, c⟩ := Y
    have hmg : mg ("law" : PySem.Str) = some (.ref fa) := by
      have e : (HandSHeadRun.topDef (OpenLaw.row PySem.Challenge.rw_throughlines_k51_whole_losses).prog 20).name = ("law" : PySem.Str) := by kernel_rfl
      rw [← e]
      exact hmg0
    obtain ⟨fd, hb, hF⟩ := Th.facts (P := (PySem.Challenge.rw_throughlines_k51_whole_losses).prog) (w := w) KX G hmg c
    exact ⟨K, fd, Th.sp_law K, KX, hb, fun H a ns hl _ hS => ⟨a, ns, rfl, hS, hl, fun _ => rfl⟩, hF⟩
