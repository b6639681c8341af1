import PyProof.Rows.All
import Wide.All
import OpenK.AllK
import Wide.FinOn
import KE.KStateDown
import Lean
import HandS.ForMost
import HandS.More
import HandS.WordsExc
import HandS.Defaults
import HandS.IsInst
import HandS.Zip
import HandS.Walk
import HandS.Wide
import HandS.Flow
import HandS.Evl
import HandS.Strs
import HandS.SetFor
import HandS.DictComp
import HandS.Set
import HandS.SetBool
import KE.DatumOrd
import HandS.TupAny
import HandS.Codes
import KE.KDictPairs
import KE.SortData
import HandS.Style
import HandS.DictTup
import HandS.Head0
import HandS.Head1
import HandS.Head2
import HandS.HeadEnd
import HandS.HeadHook1
import HandS.HeadHook2
import PySem.Challenge.RW_throughlines_k31_lacking_and_roads
set_option Elab.async false
set_option linter.all false
set_option maxRecDepth 100000
set_option maxHeartbeats 4000000
namespace Th
open PySem PySem.Spec PyProof.Rows L2
/-! heaps -/
theorem same_upd {H : Hp} {p : Addr} {o : HO} (h : H p = none) : Same H (upd H p o) := fun b x e => by
  rw [upd_ne (ne_of_none e h)]
  exact e
/-- all but p stays -/
def Keep (p : Addr) (H H' : Hp) : Prop := ∀ b o, b ≠ p → H b = some o → H' b = some o
theorem Keep.refl (p : Addr) (H : Hp) : Keep p H H := fun _ _ _ h => h
theorem Keep.trans {p : Addr} {H H1 H2 : Hp} (a : Keep p H H1) (b : Keep p H1 H2) : Keep p H H2 := fun c o n h => b c o n (a c o n h)
theorem Keep.of {p : Addr} {H H1 : Hp} (a : Same H H1) : Keep p H H1 := fun c o _ h => a c o h
theorem Keep.upd {p : Addr} {H : Hp} {o : HO} : Keep p H (upd H p o) := fun c o n h => by rw [upd_ne n]; exact h
/-- the bag of draws at p -/
def Bag (H : Hp) (p : Addr) : Prop := ∃ g r : Int, H p = some (.lst [.int g, .int r]) ∧ 0 ≤ g ∧ 0 ≤ r ∧ r < 2147483648
theorem Bag.keep {H H' : Hp} {p : Addr} (b : Bag H p) (s : Same H H') : Bag H' p := by
  obtain ⟨g, r, e, h⟩ := b
  exact ⟨g, r, s _ _ e, h⟩
theorem Bag.some {H : Hp} {p : Addr} (b : Bag H p) : ∃ o, H p = Option.some o := by
  obtain ⟨g, r, e, _⟩ := b
  exact ⟨_, e⟩
theorem Bag.ne {H : Hp} {p q : Addr} (b : Bag H p) (h : H q = none) : q ≠ p := by
  obtain ⟨g, r, e, _⟩ := b
  exact (ne_of_none e h).symm
theorem p8 : (0 : Int) < 8 := by decide
theorem pA : (0 : Int) < 2147483647 := by decide
theorem pB : (0 : Int) < 2147483629 := by decide
theorem primes_at (i : Nat) : ∃ pr : Int, atI [V.int 2147483629, .int 2147483587, .int 2147483579, .int 2147483563, .int 2147483549, .int 2147483543, .int 2147483497, .int 2147483489] ((i : Int) % 8) = some (.int pr) ∧ 0 < pr ∧ pr < 2147483648 := by
  have e : ((i : Int) % 8) = ((i % 8 : Nat) : Int) := by omega
  rw [e]
  have h : i % 8 < 8 := Nat.mod_lt _ (by decide)
  generalize i % 8 = j at h
  have c : j = 0 ∨ j = 1 ∨ j = 2 ∨ j = 3 ∨ j = 4 ∨ j = 5 ∨ j = 6 ∨ j = 7 := by omega
  rcases c with rfl | rfl | rfl | rfl | rfl | rfl | rfl | rfl
  all_goals exact ⟨_, atI_nat rfl, by decide, by decide⟩
def sp_bag (K : PySem.W.Frag) : Sp := fun vs H Q _ => ∃ (a : Addr) (ns : List Int) (i : Nat), vs = [.ref a, .int i] ∧ SqL K H a (ns.map V.int) ∧ i < 1000000 ∧ ∀ H' p, Same H H' → H p = none → Bag H' p → Q (.ref p) H'
def sp_take : Sp := fun vs H Q _ => ∃ (p : Addr) (m : Int), vs = [.ref p, .int m] ∧ Bag H p ∧ 0 < m ∧ m < 1073741824 ∧ ∀ H' d, Keep p H H' → Bag H' p → 0 ≤ d → d < m → Q (.int d) H'
/-! data that is tracked, at addresses of which S holds -/
mutual
inductive Dt (S : Addr → Prop) (H : Hp) : V → PyData → Prop
  | non : Dt S H .non .none
  | bl (b : Bool) : Dt S H (.bl b) (.bool b)
  | int (i : Int) : Dt S H (.int i) (.int i)
  | str (x : Str) : Dt S H (.str x) (.str x)
  | lst {a : Addr} {xs : List V} {ds : List PyData} : S a → H a = some (.lst xs) → xs.length ≤ 5000 → DtAll S H xs ds → Dt S H (.ref a) (.list ds)
  | tup {a : Addr} {xs : List V} {ds : List PyData} : S a → H a = some (.tup xs) → xs.length ≤ 5000 → DtAll S H xs ds → Dt S H (.ref a) (.tuple ds)
inductive DtAll (S : Addr → Prop) (H : Hp) : List V → List PyData → Prop
  | nil : DtAll S H [] []
  | cons {v : V} {vs : List V} {d : PyData} {ds : List PyData} : Dt S H v d → DtAll S H vs ds → DtAll S H (v :: vs) (d :: ds)
end
mutual
theorem Dt.mono {S S' : Addr → Prop} {H H' : Hp} (hS : ∀ a, S a → S' a) (hh : ∀ a o, S a → H a = some o → H' a = some o) : ∀ {v : V} {d : PyData}, Dt S H v d → Dt S' H' v d
  | _, _, .non => .non
  | _, _, .bl b => .bl b
  | _, _, .int b => .int b
  | _, _, .str b => .str b
  | _, _, .lst s e l r => .lst (hS _ s) (hh _ _ s e) l (DtAll.mono hS hh r)
  | _, _, .tup s e l r => .tup (hS _ s) (hh _ _ s e) l (DtAll.mono hS hh r)
theorem DtAll.mono {S S' : Addr → Prop} {H H' : Hp} (hS : ∀ a, S a → S' a) (hh : ∀ a o, S a → H a = some o → H' a = some o) : ∀ {v : List V} {d : List PyData}, DtAll S H v d → DtAll S' H' v d
  | _, _, .nil => .nil
  | _, _, .cons a r => .cons (Dt.mono hS hh a) (DtAll.mono hS hh r)
end
mutual
theorem Dt.dp {K : PySem.W.Frag} {S : Addr → Prop} {H : Hp} : ∀ {v : V} {d : PyData}, Dt S H v d → Dp K H v d
  | _, _, .non => .non
  | _, _, .bl b => .bl b
  | _, _, .int b => .int b
  | _, _, .str b => .str b
  | _, _, .lst s e l r => .lst (SqL.of e) (DtAll.dp r)
  | _, _, .tup s e l r => .tup (SqT.of e) (DtAll.dp r)
theorem DtAll.dp {K : PySem.W.Frag} {S : Addr → Prop} {H : Hp} : ∀ {v : List V} {d : List PyData}, DtAll S H v d → DpAll K H v d
  | _, _, .nil => .nil
  | _, _, .cons a r => .cons (Dt.dp a) (DtAll.dp r)
end
abbrev SA : Addr → Prop := fun _ => True
theorem Dt.same {H H' : Hp} {v : V} {d : PyData} (s : Same H H') (h : Dt SA H v d) : Dt SA H' v d := h.mono (fun _ x => x) fun a o _ e => s a o e
theorem DtAll.same {H H' : Hp} {v : List V} {d : List PyData} (s : Same H H') (h : DtAll SA H v d) : DtAll SA H' v d := h.mono (fun _ x => x) fun a o _ e => s a o e
theorem DtAll.len {S : Addr → Prop} {H : Hp} : ∀ {v : List V} {d : List PyData}, DtAll S H v d → v.length = d.length
  | _, _, .nil => rfl
  | _, _, .cons _ r => congrArg Nat.succ r.len
theorem DtAll.get {S : Addr → Prop} {H : Hp} : ∀ {v : List V} {d : List PyData} {i : Nat} {x : V}, DtAll S H v d → v[i]? = some x → ∃ e, d[i]? = some e ∧ Dt S H x e
  | _, _, _, _, .nil, h => by simp at h
  | _, _, 0, _, .cons a r, h => by
    have e := Option.some.inj h
    subst e
    exact ⟨_, rfl, a⟩
  | _, _, i + 1, _, .cons a r, h => r.get (i := i) h
/-! depth, what may be laid -/
theorem depth_mem : ∀ {ds : List PyData} {i : Nat} {d : PyData}, ds[i]? = some d → PyData.depth d ≤ PyData.depthAll ds
  | [], _, _, h => by simp at h
  | x :: xs, 0, d, h => by
    have e := Option.some.inj h
    subst e
    rw [PyData.depthAll]
    exact Nat.le_max_left _ _
  | x :: xs, i + 1, d, h => by
    rw [PyData.depthAll]
    exact Nat.le_trans (depth_mem (i := i) h) (Nat.le_max_right _ _)
theorem lay_mem : ∀ {ds : List PyData} {i : Nat} {d : PyData}, PyData.canLayAll0 ds = true → ds[i]? = some d → PyData.canLay0 d = true
  | [], _, _, _, h => by simp at h
  | x :: xs, 0, d, c, h => by
    have e := Option.some.inj h
    subst e
    rw [PyData.canLayAll0, Bool.and_eq_true_iff] at c
    exact c.1
  | x :: xs, i + 1, d, c, h => by
    rw [PyData.canLayAll0, Bool.and_eq_true_iff] at c
    exact lay_mem (i := i) c.2 h
/-! the types -/
def tyN : PyData → String
  | .none => "NoneType"
  | .bool _ => "bool"
  | .int _ => "int"
  | .str _ => "str"
  | .list _ => "list"
  | .tuple _ => "tuple"
  | .dict _ => "dict"
theorem Dt.ty {K : PySem.W.Frag} {S : Addr → Prop} {H : Hp} {v : V} {d : PyData} (h : Dt S H v d) : TyX K H v (.type (tyN d)) := by
  cases h with
  | non => exact .base .non
  | bl b => exact .base (.bl b)
  | int b => exact .base (.int b)
  | str b => exact .base (.str b)
  | lst s e l r => exact .base (.lst e)
  | tup s e l r => exact .base (.tup e)
def isB : PyData → Bool
  | .bool _ => true
  | _ => false
def isSeq : PyData → Bool
  | .list _ => true
  | .tuple _ => true
  | _ => false
theorem kit_bool {K : PySem.W.Frag} {S : Addr → Prop} {H : Hp} {v : V} {d : PyData} (h : Dt S H v d) : PySem.W.kitOne K (.type (tyN d)) (.type "bool") = some (isB d) := by
  cases h with
  | non => exact kit_ty (a := "NoneType") (b := "bool") (r := false) (by decide +kernel)
  | bl b => exact kit_ty (a := "bool") (b := "bool") (r := true) (by decide +kernel)
  | int b => exact kit_ty (a := "int") (b := "bool") (r := false) (by decide +kernel)
  | str b => exact kit_ty (a := "str") (b := "bool") (r := false) (by decide +kernel)
  | lst s e l r => exact kit_ty (a := "list") (b := "bool") (r := false) (by decide +kernel)
  | tup s e l r => exact kit_ty (a := "tuple") (b := "bool") (r := false) (by decide +kernel)
theorem kit2 {K : PySem.W.Frag} {n : String} (h1 : kitB n "list" = some false) (h2 : kitB n "tuple" = some false) : PySem.W.kitAny K (.type n) [.type "list", .type "tuple"] = some false :=
  kitAny_cons (b := false) (kit_ty h1) (fun _ => kitAny_cons (b := false) (kit_ty h2) (fun _ => kitAny_nil) (fun z => nomatch z)) (fun z => nomatch z)
theorem kit_seq {K : PySem.W.Frag} {S : Addr → Prop} {H : Hp} {v : V} {d : PyData} (h : Dt S H v d) : PySem.W.kitAny K (.type (tyN d)) [.type "list", .type "tuple"] = some (isSeq d) := by
  cases h with
  | non => exact kit2 (n := "NoneType") (by decide +kernel) (by decide +kernel)
  | bl b => exact kit2 (n := "bool") (by decide +kernel) (by decide +kernel)
  | int b => exact kit2 (n := "int") (by decide +kernel) (by decide +kernel)
  | str b => exact kit2 (n := "str") (by decide +kernel) (by decide +kernel)
  | lst s e l r => exact kitAny_cons (b := true) (kit_ty (a := "list") (by decide +kernel)) (fun z => nomatch z) (fun _ => rfl)
  | tup s e l r => exact kitAny_cons (b := false) (kit_ty (a := "tuple") (by decide +kernel)) (fun _ => kitAny_cons (b := true) (kit_ty (a := "tuple") (by decide +kernel)) (fun z => nomatch z) (fun _ => rfl)) (fun z => nomatch z)
/-! zip of two tuples, walked -/
theorem walk_zipT {K : PySem.W.Frag} {a b : Addr} {xs ys : List V} {n : Nat} (hn : n = min xs.length ys.length) : Walk (RZ.ItzT K a b) n (fun H => SqT K H a xs ∧ SqT K H b ys) (YPair (fun i => xs[i]?) (fun i => ys[i]?)) := by
  subst hn
  refine ⟨fun i _ hi q => ?_, fun _ q => ⟨xs, ys, q.1, q.2, by omega⟩, fun i H v H' _ q y => ?_⟩
  · have h1 : i < xs.length := by omega
    have h2 : i < ys.length := by omega
    exact ⟨xs, ys, xs[i], ys[i], q.1, q.2, by simp [h1], by simp [h2]⟩
  · obtain ⟨T, x, z, h1, h2, h3, h4, h5⟩ := y
    exact ⟨T, x, z, h1, h2, h3, h4 xs q.1, h5 ys q.2⟩
theorem yes_ {σ : L2.St} {H : Hp} {A B : Hp → Prop} (h : A H) : tYes σ H fun b H3 => if b = true then A H3 else B H3 := by
  show if true = true then A H else B H
  exact iteT h
theorem small5000 {n : Nat} (h : n ≤ 5000) : n < sizeLine := Nat.lt_of_le_of_lt h (by decide)
/-- told and due are the same data, of a depth below n: True -/
def sp_like (n : Nat) : Sp := fun vs H Q _ => ∃ (v u : V) (d : PyData), vs = [v, u] ∧ Dt SA H v d ∧ Dt SA H u d ∧ d.canLay0 = true ∧ d.depth < n ∧ n ≤ 60 ∧ ∀ H', Same H H' → Q (.bl true) H'
/-- xs[i] read for an augmented store, i from 0 on -/
theorem get_listN {X : Cx} : PGet X (fun o i H Q => ∃ (p : Addr) (xs : List V) (j : Nat) (v : V), o = .ref p ∧ i = .int j ∧ H p = some (.lst xs) ∧ xs[j]? = some v ∧ Q v H) := by
  intro pins s σ H o i ov iv Q I ro ri h
  obtain ⟨p, xs, j, v, rfl, rfl, hp, hx, q⟩ := h
  cases (show ov = Value.ref p from ro)
  obtain ⟨t, rfl⟩ := ri
  obtain ⟨its, r, pl, hz⟩ := I.list (SqL.of hp)
  obtain ⟨u, eu, ru⟩ := r.get hx
  have hj : j < xs.length := (List.getElem?_eq_some_iff.mp hx).1
  have h63 := line63
  exact wpAny_getItem_list pl.isList (by omega) (by omega) (by simpa using eu) ⟨v, H, I, ru, q⟩
/-- the d-th of some whole numbers -/
theorem pick {ms : List Int} {d : Int} (h0 : 0 ≤ d) (h1 : d < ms.length) : ∃ m ∈ ms, atI (ms.map V.int) d = some (.int m) := by
  obtain ⟨j, rfl⟩ : ∃ j : Nat, d = (j : Int) := ⟨d.toNat, by omega⟩
  have hj : j < ms.length := by omega
  refine ⟨ms[j], List.getElem_mem hj, atI_nat ?_⟩
  rw [List.getElem?_map, List.getElem?_eq_getElem hj]
  rfl
theorem Bag.at {H H' : Hp} {p : Addr} (b : Bag H p) (e : H' p = H p) : Bag H' p := by
  obtain ⟨g, r, h, k⟩ := b
  exact ⟨g, r, e.trans h, k⟩
theorem Keep.new {p q : Addr} {H H' : Hp} {o : HO} (k : Keep p H H') (n : H' q = none) : Keep p H (L2.upd H' q o) := k.trans (.of (same_upd n))
theorem Keep.free {p q : Addr} {H H' : Hp} (k : Keep p H H') (b : Bag H p) (h : H' q = none) (b' : Bag H' p) : H q = none := by
  cases e : H q with
  | none => rfl
  | some o =>
    by_cases z : q = p
    · rw [z] at h
      obtain ⟨g, r, e', _⟩ := b'
      rw [e'] at h
      cases h
    · rw [k q o z e] at h
      cases h
theorem rep_one {α : Type} (x : α) (m : Nat) : (List.replicate m [x]).flatten = List.replicate m x := by
  induction m with
  | zero => rfl
  | succ m ih => rw [List.replicate_succ, List.flatten_cons, ih, List.replicate_succ]; rfl
/-! lists of whole numbers as data -/
abbrev dI (zs : List Int) : PyData := .list (zs.map PyData.int)
theorem dtAll_ints {S : Addr → Prop} {H : Hp} : ∀ zs : List Int, DtAll S H (zs.map V.int) (zs.map PyData.int)
  | [] => .nil
  | z :: zs => .cons (.int z) (dtAll_ints zs)
theorem dt_ints {H : Hp} {x : Addr} {zs : List Int} (h : H x = some (.lst (zs.map V.int))) (hl : zs.length ≤ 5000) : Dt SA H (.ref x) (dI zs) := .lst trivial h (by rw [List.length_map]; exact hl) (dtAll_ints zs)
theorem layAll_ints : ∀ zs : List Int, PyData.canLayAll0 (zs.map PyData.int) = true
  | [] => rfl
  | z :: zs => by rw [List.map_cons, PyData.canLayAll0, layAll_ints zs]; rfl
theorem lay_ints (zs : List Int) : (dI zs).canLay0 = true := layAll_ints zs
theorem depthAll_ints : ∀ zs : List Int, PyData.depthAll (zs.map PyData.int) = 0
  | [] => rfl
  | z :: zs => by rw [List.map_cons, PyData.depthAll, depthAll_ints zs]; rfl
theorem depth_ints (zs : List Int) : (dI zs).depth = 1 := by
  show PyData.depthAll (zs.map PyData.int) + 1 = 1
  rw [depthAll_ints]
theorem shaped_ints (zs : List Int) : SeqAt.shaped (dI zs) = true := Bool.and_eq_true_iff.mpr ⟨lay_ints zs, decide_eq_true (by rw [depth_ints]; decide)⟩
theorem eqv_ints (zs : List Int) : PyData.eqv (dI zs) (dI zs) = true := SeqAt.eqv_refl _ (lay_ints zs)
/-! len by a reading that names K -/
def rLenS (K : PySem.W.Frag) : List V → Hp → VK → Prop := fun xs H Q => ∃ (p : Addr) (ys : List V), xs = [.ref p] ∧ (SqL K H p ys ∨ SqT K H p ys) ∧ Q (.int ys.length) H
theorem call_lenS {X : Cx} : CallR X (.builtin "len") (rLenS X.K) := call_len_seq
theorem nn_sum : ∀ {ws : List Int}, (∀ w ∈ ws, 0 ≤ w) → 0 ≤ ws.sum
  | [], _ => by simp
  | w :: ws, h => by
    have h1 := h w (List.mem_cons_self ..)
    have h2 := nn_sum (ws := ws) fun x hx => h x (List.mem_cons_of_mem _ hx)
    rw [List.sum_cons]
    omega
theorem pos_sum : ∀ {ws : List Int} {j : Nat} {x : Int}, (∀ w ∈ ws, 0 ≤ w) → ws[j]? = some x → 0 < x → 0 < ws.sum
  | [], _, _, _, h, _ => by simp at h
  | w :: ws, 0, x, hw, h, hx => by
    have e : w = x := Option.some.inj h
    have h2 := nn_sum (ws := ws) fun x hx => hw x (List.mem_cons_of_mem _ hx)
    rw [List.sum_cons]
    omega
  | w :: ws, j + 1, x, hw, h, hx => by
    have h1 := hw w (List.mem_cons_self ..)
    have h2 := pos_sum (ws := ws) (j := j) (x := x) (fun x hx => hw x (List.mem_cons_of_mem _ hx)) h hx
    rw [List.sum_cons]
    omega
theorem cut_ints (ws : List Int) (lo hi : Option Int) : ∃ ys : List Int, cutV (ws.map V.int) lo hi = ys.map V.int := by
  unfold cutV
  exact ⟨(ws.drop _).take _, by rw [List.map_take, List.map_drop]⟩
end Th
namespace Sl
open PySem PySem.Spec PyProof.Rows L2
/-- the object of a set just made -/
abbrev set0 (w : World) : Obj := { cls := .type "set", dict := none, data := .set #[] 0 (.fresh 0 0 (!w.params.followText "set-order")) }
section
variable {P : Program} {w : World} {A : Around} {E : Value → Shared → Prop} {s : Shared}
set_option maxHeartbeats 8000000 in
/-- set(xs) of a list of whole numbers -/
theorem set_of_ints {l : Addr} {its : Array Value} (ns : List Int) {Q : Value → Shared → Prop} (nh : A.handled = none) (il : s.heap.IsList l its) (ii : IntsAre its.toList ns) (nb : ns.length + 1 < scanBound)
    (fin : ∀ (g : Heap) (tk c : Nat), SetR w g s.heap.objs.size (fun j => decide (j ∈ ns)) c → c ≤ ns.length → (∀ b o, s.heap.get? b = some o → g.get? b = some o) → Q (.ref s.heap.objs.size) { s with heap := g, toks := tk }) :
    wpAny (model P w) A (call (.type "set") [.ref l]) Q E s := by
  have isz : its.size = ns.length := by
    have z := IntsAre.length ii
    rwa [Array.length_toList] at z
  obtain ⟨_, _, mro⟩ := F.called_set.mro
  have m1 := F.called_set.made
  have m2 := F.called_set.sub
  have m3 := F.called_set.notType
  have m4 := F.called_set.canCreate
  have m5 := F.typeCall_set_1 (.ref l)
  refine wpAny_call (codeAny_of_tree (?_ : wpAny _ _ (callAny (.type "set") _) _ _ _))
  refine wpAny_pure ⟨Code.quiet_builtin _ (by decide +kernel), codeAny_builtin F.entry_type_call ?_⟩
  rw [Around.under_plain (weight_type_call_type "set" [.ref l] []) rfl]
  repeat (any_goals (first | assumption | wp_step))
  refine codeAny_mono (code_set_led1 (.ref l) (E := E) (Q₁ := fun ob z => ob = .ref s.heap.objs.size ∧ z = { s with heap := s.heap.push (set0 w) }) ⟨rfl, rfl⟩) fun r z hz => ?_
  cases r with
  | error e => exact hz
  | ok fl =>
    cases fl with
    | ret ob =>
      obtain ⟨rfl, rfl⟩ := hz
      have zS : (s.heap.push (set0 w)).get? s.heap.objs.size = some (set0 w) := Heap.get?_push_size _ rfl
      have zT : Shared.TypeIs { s with heap := s.heap.push (set0 w) } (.ref s.heap.objs.size) "set" := ⟨_, zS, rfl⟩
      have n1 := F.called_set.init.lookup
      have n2 := F.called_set.init.bind (.ref s.heap.objs.size)
      repeat (any_goals (first | assumption | wp_step))
      refine codeAny_mono (codeAny_call_builtin (R := wants (fun r z => r = .none ∧ ∃ g tk c, z = { s with heap := g, toks := tk } ∧ SetR w g s.heap.objs.size (fun j => decide (j ∈ ns)) c ∧ c ≤ ns.length ∧ ∀ b o, s.heap.get? b = some o → g.get? b = some o) E)
        F.called_set.init.plain F.entry_set_init (check_set_init_1 zT ?_)) fun r2 z2 hz2 => ?_
      · obtain ⟨⟨oc, od, odt, osl⟩, ol, c1, nl, c2⟩ := il
        simp only at c1 c2
        subst c1 c2
        have ol2 : (s.heap.push (set0 w)).get? l = some { cls := .type "list", dict := od, data := .seq its nl, slots := osl } := Heap.get?_push_of_some _ ol
        have k1 := F.sub_list_set
        have k2 := F.sub_list_frozenset
        have k3 : (Value.type "list" == Value.type "dict") = false := by decide
        have il2 : (s.heap.push (set0 w)).IsList l its := ⟨_, ol2, rfl, nl, rfl⟩
        unfold Builtin.«set.__init__» noKeywords Builtin.Frozenset.updateFrom
        generalize ePI : pyIter = PI
        wp_walk
        subst ePI
        refine wpAny_pyIter_list il2 (wpAny_bind (wpAny_runValue ?_))
        have lS : l < s.heap.objs.size := Heap.lt_size ol
        have h3 : A.in1.in1.in1.handled = none := by simp [nh]
        have nI : l ≠ (s.heap.push (set0 w)).objs.size := by
          rw [Heap.size_push]
          exact Nat.ne_of_lt (Nat.lt_succ_of_lt lS)
        have nf : s.heap.objs.size ∉ [(s.heap.push (set0 w)).objs.size, l] := by
          rw [Heap.size_push]
          simp only [List.mem_cons, List.not_mem_nil, or_false, not_or]
          exact ⟨Nat.ne_of_lt (Nat.lt_succ_self _), Nat.ne_of_gt lS⟩
        have vl : ∀ (i : Nat) (v : Value), its[i]? = some v → ∃ k t, ns[i]? = some k ∧ v = .int k t := fun i v hv => by
          have hi : i < ns.length := by rw [← isz]; exact (Array.getElem?_eq_some_iff.mp hv).1
          obtain ⟨t, e⟩ := IntsAre.int_at ii i v (by rw [Array.getElem?_toList]; exact hv)
          refine ⟨ns[i], t, List.getElem?_eq_getElem hi, ?_⟩
          rw [e, List.getD_eq_getElem?_getD, List.getElem?_eq_getElem hi] <;> rfl
        refine set_update_ints ((Walks.list h3 _ l nI its).toS) s.heap.objs.size nf ns isz nb vl (its.size - 0) 0 _ (by omega) (Nat.zero_le _) ⟨⟨_, Heap.get?_push_size _ rfl, rfl, rfl⟩, il2.push _⟩ ?zStart ?zEnd
        case zStart => exact ⟨0, Nat.le_refl 0, setR_new_at (Heap.get?_push_of_some _ zS)⟩
        case zEnd =>
          intro z c hm hc hS
          obtain ⟨g, gg, dd, tk, os⟩ := z
          have e1 : gg = s.gens := hm.gens
          have e2 : dd = s.drawn := hm.drawn
          have e3 : os = s.os := hm.os
          subst e1 e2 e3
          refine wpAny_pure (?_ : wpAny _ _ (ret Value.none) _ _ _)
          rw [isz] at hc
          refine wpAny_pure ⟨rfl, g, tk, c, rfl, hS, hc, fun b o e => ?_⟩
          have b0 : b < s.heap.objs.size := Heap.lt_size e
          refine hm.heap b o ?_ (Heap.get?_push_of_some _ (Heap.get?_push_of_some _ e))
          rw [Heap.size_push]
          simp only [List.mem_cons, List.not_mem_nil, or_false, not_or]
          exact ⟨Nat.ne_of_lt b0, Nat.ne_of_lt (Nat.lt_succ_of_lt b0)⟩
      · cases r2 with
        | error e => exact hz2
        | ok f2 =>
          cases f2 with
          | ret r =>
            obtain ⟨rfl, g, tk, c, rfl, q1, q2, q3⟩ := hz2
            repeat (any_goals (first | assumption | wp_step))
            exact fin _ _ _ q1 q2 q3
          | _ => exact hz2.elim
    | _ => exact hz.elim
end
def rSetI (K : PySem.W.Frag) (w : World) : List V → Hp → VK → Prop := fun xs H Q => ∃ (l : Addr) (ns : List Int), xs = [.ref l] ∧ SqL K H l (ns.map V.int) ∧ ns.length ≤ 1000 ∧ ∀ p c, H p = none → c ≤ ns.length → Q (.ref p) (upd H p (SetO w p (fun j => decide (j ∈ ns)) c))
theorem call_setI {X : Cx} (hc : X.calm = true) : CallR X (.type "set") (rSetI X.K X.w) := by
  intro pins s σ H xs us Q I r h
  obtain ⟨l, ns, rfl, hs, hl, q⟩ := h
  rw [Vals.ref1 r]
  obtain ⟨its, rv, pl, hz⟩ := I.list hs
  refine set_of_ints ns (I.ok.hd hc) pl.isList (ints_of_vals rv) (by unfold scanBound; omega) fun g tk c R hcn k => ?_
  exact ⟨.ref _, _, I.laid (t' := tk) k (Nat.le_refl _) (setO_new R), rfl, q _ c (I.hok.fresh (Nat.le_refl _)) hcn⟩
end Sl
/-! y = {k: v for .. in ..}, y a local name of a def -/
namespace Ds
open PySem PySem.Spec PyProof.Rows L2
section
variable {X : Cx}
theorem ps_setDc {i : Nat} {y : Str} {py : Pos} {kx vx tg iter : Expr} {ifs : List Expr} {scope : Scope} {own : List (Str × Nat)} {pos spos : Pos} {wi : TI} {g : TG} {tt : TT} {tk tv : TE} (hc : X.calm = true) (hN : X.N.Nodup) (hy : X.N[i]? = some y) (hyl : X.env.scope.names.lookup y = some .local)
    (hsw : swapsWith (.DictComp kx vx [⟨tg, iter, ifs, 0⟩] scope pos) (some (.Name y py)) spos.line X.env = pure true) (hi : PI X tg iter wi) (ok : BlkOk X.N X.env.scope scope own)
    (hg : ∀ (s : Shared) (H : Hp) (C : Addr) (cl : List (Str × Addr)) (fp : List Addr), PG (X.blk s H scope (compEnvC scope cl C X.env) fp) tg g) (ht : ∀ (s : Shared) (H : Hp) (C : Addr) (cl : List (Str × Addr)) (fp : List Addr), PTs (X.blk s H scope (compEnvC scope cl C X.env) fp) ifs tt)
    (hk : ∀ (s : Shared) (H : Hp) (C : Addr) (cl : List (Str × Addr)) (fp : List Addr), PE (X.blk s H scope (compEnvC scope cl C X.env) fp) kx tk)
    (he : ∀ (s : Shared) (H : Hp) (C : Addr) (cl : List (Str × Addr)) (fp : List Addr), PE (X.blk s H scope (compEnvC scope cl C X.env) fp) vx tv) (hs : ∀ x, foldedSetIterable iter X.env x = pure x := by intro _; rfl) :
    PS X (.Assign [.Name y py] (.DictComp kx vx [⟨tg, iter, ifs, 0⟩] scope pos) spos) (tAsg (tDc wi g tt tk tv (own.map (·.2))) (gName i)) := by
  refine ⟨fun pins s σ H D I h => ?_⟩
  rw [exec_Assign_Name_used _ _ _ _ hsw]
  refine wpAny_bind (wpAny_standAt (wpAny_bind ?_))
  show wpAny _ X.A (do let _ ← comprehension (.DictComp kx vx [⟨tg, iter, ifs, 0⟩] scope pos) scope X.env (firstIterPos [⟨tg, iter, ifs, 0⟩] pos) newDict false (eval iter X.env) (some (assign (.Name y py) X.env))) _ _ s
  have h : tDc wi g tt tk tv (own.map (·.2)) σ H (fun x H1 => gName i x σ H1 D.nx) := h
  refine wpAny_bind (thn (dc_core (Qf := fun _ s' => SP X pins D .next s') hc hN I hi ok hg ht hk he hs h fun L C s' m H' I' q hn f => ?_) fun _ s' hq => wpAny_pure (wpAny_pure hq))
  show wpAny _ _ (assign (.Name y py) X.env (.ref L)) _ _ _
  refine wpAny_assign_Name (store_ok2 (v := V.ref L) I' hN hy (.inl hyl) rfl (fun s2 I2 ⟨a, sb, ha⟩ => ?_) (.inr hyl))
  obtain ⟨f0, f1, f2, f3, f4, f5⟩ := f
  have haC : C ≠ a := by
    rcases ha with z | z
    · rw [z]; exact f1
    · exact fun e => f4 y a z e.symm
  refine ⟨m, hn.sameBut sb haC, fun h3 sb3 => ?_⟩
  exact ⟨_, H', I2.turned (t' := s2.toks) (fun b o hb e => (sb3.2 b hb).trans e) f0 f1 f3 f4 f5, q⟩
theorem sw_trueD {kx vx : Expr} {gs : List Comprehension} {scope : Scope} {pos py : Pos} {y : Str} {l : Nat} {env : Env} (hk : env.scope.kind = .function) (hy : env.scope.names.lookup y = some .local) (hl : (py.line == pos.line) = true)
    (ha : (scope.names.any fun (n, k) => n == y && (k == .local || k == .cell)) = false) : swapsWith (.DictComp kx vx gs scope pos) (some (.Name y py)) l env = pure true := by
  have ky : env.kindOf y = some .local := hy
  have hb : env.blockKind = .function := by unfold Env.blockKind; rw [hk]; rfl
  unfold swapsWith
  simp only [hb, ky, ha, Expr.pos, hl]
  rfl
end
end Ds
/-! sets of texts: their members as a list; a comprehension of two clauses; sorted of it -/
namespace Ss
open PySem PySem.Spec PyProof.Rows L2
def kOf (e : Int × Value) : Str := match e.2 with
  | .str k _ => k
  | _ => ⟨#[]⟩
def Gd (w : World) (e : Int × Value) : Prop := ∃ k tk, e.2 = Value.str k tk ∧ e.1 = hashStr w k
def addL (L : List Str) (k : Str) : List Str := if k ∈ L then L else k :: L
theorem mem_addL {L : List Str} {k x : Str} : x ∈ addL L k ↔ x = k ∨ x ∈ L := by
  unfold addL
  split
  · exact ⟨.inr, fun z => z.elim (fun e => by rw [e]; assumption) id⟩
  · exact List.mem_cons
theorem nd_addL {L : List Str} {k : Str} (h : L.Nodup) : (addL L k).Nodup := by
  unfold addL
  split
  · exact h
  · exact List.nodup_cons.mpr ⟨by assumption, h⟩
abbrev Led (w : World) (t : SetTable) : Prop := w.params.followText "set-order" = true ∨ t.led = true
/-- the set of texts at a, its members the list L -/
def SetS (w : World) (h : Heap) (a : Addr) (L : List Str) : Prop := ∃ o es ep t, h.get? a = some o ∧ o.ExactSet ∧ o.data = .set es ep t ∧ (∀ e ∈ es.toList, Gd w e) ∧ (es.toList.map kOf).Perm L ∧ L.Nodup ∧ es.size < scanBound ∧ t.fits es.size = true ∧ Ris t.place.toList ∧ Led w t
section
variable {P : Program} {w : World} {A : Around} {E : Value → Shared → Prop} {s : Shared} {a : Addr} {L : List Str} {h h' : Heap}
theorem isS (k : Str) (u : Tok) : (PySem.strKind P w).is k (.str k u) = true := by show Value.isStrOf k (.str k u) = true; simp [Value.isStrOf]
theorem SetS.at (R : SetS w h a L) (k : ∀ o, h.get? a = some o → h'.get? a = some o) : SetS w h' a L := let ⟨o, es, ep, t, ho, r⟩ := R; ⟨o, es, ep, t, k o ho, r⟩
theorem gd_elems {l : List (Int × Value)} (g : ∀ e ∈ l, Gd w e) : ElemsOf (PySem.strKind P w) l := fun e he => let ⟨k, tk, h1, h2⟩ := g e he; ⟨⟨k, h1 ▸ isS k tk, h2⟩, by rw [h1]; rfl⟩
theorem gd_is {e : Int × Value} (g : Gd w e) (k : Str) : (PySem.strKind P w).is k e.2 = true ↔ kOf e = k := by
  obtain ⟨k0, tk, h1, -⟩ := g
  have ek : kOf e = k0 := by unfold kOf; rw [h1]
  rw [ek, h1]
  constructor
  · intro z
    obtain ⟨t, et⟩ := Value.isStrOf_shape (x := k) (v := .str k0 tk) z
    injection et
  · intro z
    rw [z]
    exact isS k tk
theorem gd_mem {l : List (Int × Value)} (g : ∀ e ∈ l, Gd w e) (k : Str) : k ∈ l.map kOf ↔ ∃ e ∈ l, (PySem.strKind P w).is k e.2 = true :=
  ⟨fun z => let ⟨e, he, q⟩ := List.mem_map.mp z; ⟨e, he, (gd_is (g e he) k).2 q⟩, fun ⟨e, he, q⟩ => List.mem_map.mpr ⟨e, he, (gd_is (g e he) k).1 q⟩⟩
theorem SetS.len (R : SetS w h a L) : ∀ {o es ep t}, h.get? a = some o → o.data = .set es ep t → es.size = L.length := by
  obtain ⟨o', es', ep', t', ho', _, hd', _, pm, _⟩ := R
  intro o es ep t ho hd
  rw [ho'] at ho
  cases ho
  rw [hd'] at hd
  cases hd
  have z := pm.length_eq
  rw [List.length_map, Array.length_toList] at z
  exact z
theorem SetS.setOf (R : SetS w h a L) : h.SetOf (PySem.strKind P w) a (fun k => decide (k ∈ L)) L.length := by
  have hlen := @SetS.len _ _ _ _ R
  obtain ⟨o, es, ep, t, ho, hx, hd, g, pm, nd, hb, hf, -⟩ := R
  exact ⟨o, es, ep, t, ho, hx, hd, gd_elems g, fun k => by rw [decide_eq_true_eq, ← pm.mem_iff]; exact gd_mem g k, hb, hf, hlen ho hd⟩
theorem putS {o : Obj} {es es' : Array (Int × Value)} {ep : Nat} {t t' : SetTable} (ho : h.get? a = some o) (hd : o.data = .set es ep t) : (h.update a (Obj.putSet es' t')).get? a = some { o with data := .set es' (ep + 1) t' } := by
  have z := Heap.get?_update_self (Obj.putSet es' t') ho (by rw [putSet_of es' t' hd]; rfl)
  rwa [putSet_of es' t' hd] at z
/-- the store behind an add, with the table laid anew where it is too full -/
theorem tailS {g : Bool → Sem Unit} (hg : ∀ (b : Bool) (s1 : Shared) (Q1 : Unit → Shared → Prop), Q1 () s1 → wpAny (model P w) A (g b) Q1 E s1) {o : Obj} {es : Array (Int × Value)} {ep : Nat} {t : SetTable} (ho : s.heap.get? a = some o) (hex : o.ExactSet) (hd : o.data = .set es ep t)
    {fs : Array (Int × Value)} {u : SetTable} {M : List Str} (gf : ∀ e ∈ fs.toList, Gd w e) (pf : (fs.toList.map kOf).Perm M) (nf : M.Nodup) (bf : fs.size < scanBound) (ff : u.fits fs.size = true) (rf : Ris u.place.toList) (lf : Led w u) {dm : Bool} {R : Option Bool → Shared → Prop}
    (hR : ∀ h', Heap.SameBut a s.heap h' → SetS w h' a M → R (some true) { s with heap := h' }) :
    wpAny (model P w) A (do
        storeSet a fs u
        if (!dm && u.tooFull) = true then do
            g (relayAll u fs (SetTable.grown fs.size)).2.2
            storeSet a (relayAll u fs (SetTable.grown fs.size)).1 (relayAll u fs (SetTable.grown fs.size)).2.1
            pure (some true)
          else pure (some true)) R E s := by
  refine wpAny_bind (wpAny_storeSet_of ho hd ?_ (fits_of_scanBound bf))
  have h1 := putS (es' := fs) (t' := u) ho hd
  have b1 := Heap.SameBut.update s.heap a (Obj.putSet fs u)
  split
  · have pm := relayAll_perm u fs (SetTable.grown fs.size)
    have f3 := relayAll_fits u fs (SetTable.grown fs.size)
    have r3 := relayAll_ris u fs (SetTable.grown fs.size)
    have l3 := relayAll_led u fs (SetTable.grown fs.size)
    generalize relayAll u fs (SetTable.grown fs.size) = Z at pm f3 r3 l3 ⊢
    obtain ⟨gs, v, gave⟩ := Z
    dsimp only at pm f3 r3 l3 ⊢
    have hz : gs.size = fs.size := by
      have z := pm.length_eq
      rwa [Array.length_toList, Array.length_toList] at z
    have bg : gs.size < scanBound := hz ▸ bf
    refine wpAny_bind (hg _ _ _ (wpAny_bind (wpAny_storeSet_of h1 rfl ?_ (fits_of_scanBound bg))))
    have h2 := putS (es' := gs) (t' := v) h1 rfl
    exact wpAny_pure (hR _ (b1.trans (Heap.SameBut.update _ a _)) ⟨_, gs, _, v, h2, hex, rfl, fun e he => gf e (pm.mem_iff.mp he), (pm.map kOf).trans pf, nf, bg, f3, r3, lf.imp id fun z => l3.trans z⟩)
  · exact wpAny_pure (hR _ b1 ⟨_, fs, _, u, h1, hex, rfl, gf, pf, nf, bf, ff, rf, lf⟩)
theorem addS_hashed {k : Str} {tk : Tok} {Q : Bool → Shared → Prop} (R : SetS w s.heap a L) (room : L.length + 1 < scanBound)
    (hQ : ∀ h' b, Heap.SameBut a s.heap h' → SetS w h' a (addL L k) → Q b { s with heap := h' }) : wpAny (model P w) A (setAddHashed a (.str k tk) ((PySem.strKind P w).hash k)) Q E s := by
  have hlen := @SetS.len _ _ _ _ R
  obtain ⟨o, es, ep, t, ho, hex, hd, g, pmL, nd, hb, hf, hr, hl⟩ := R
  have hn : es.size = L.length := hlen ho hd
  have hsc : (Value.str k tk).scannable = true := rfl
  have hel : ElemsOf (PySem.strKind P w) es.toList := gd_elems g
  unfold setAddHashed setAddHashedIn
  refine wpAny_holding (wpAny_bind (wpAny_setState_of ho hd hf ?_))
  dsimp only
  rw [byScan_of hsc hb hel]
  simp only [↓reduceIte]
  unfold setAddByScan
  refine wpAny_bind (wpAny_bind (wpAny_rule (wpAny_bind (wpAny_setScan_of (isS k tk) ho hd hf hel ?_))))
  cases hfi : List.findIdx? (fun e => (PySem.strKind P w).is k e.2) es.toList with
  | some j =>
    dsimp only
    obtain ⟨hj, pj, -⟩ := List.findIdx?_eq_some_iff_getElem.mp hfi
    have hk : k ∈ L := pmL.mem_iff.mp ((gd_mem (P := P) g k).2 ⟨es.toList[j], List.getElem_mem hj, pj⟩)
    have eL : addL L k = L := by unfold addL; rw [if_pos hk]
    exact wpAny_pure (wpAny_pure (hQ s.heap _ (Heap.SameBut.refl a s.heap) ⟨o, es, ep, t, ho, hex, hd, g, by rw [eL]; exact pmL, nd_addL nd, hb, hf, hr, hl⟩))
  | none =>
    dsimp only
    have hk : k ∉ L := fun z => by
      obtain ⟨e, he, q⟩ := (gd_mem (P := P) g k).1 (pmL.mem_iff.mpr z)
      have c := List.findIdx?_eq_none_iff.mp hfi e he
      rw [q] at c
      cases c
    have eL : addL L k = k :: L := by unfold addL; rw [if_neg hk]
    have pm := layNew_perm t es ((PySem.strKind P w).hash k) (.str k tk)
    have f1 := layNew_fits t es ((PySem.strKind P w).hash k) (.str k tk)
    have r1 := layNew_ris t es ((PySem.strKind P w).hash k) (.str k tk) hr
    have l1 := layNew_led t es ((PySem.strKind P w).hash k) (.str k tk)
    generalize layNew t es ((PySem.strKind P w).hash k) (.str k tk) = Z at pm f1 r1 l1 ⊢
    obtain ⟨fs, u, dm, gave⟩ := Z
    dsimp only at pm f1 r1 l1 ⊢
    rw [Array.toList_push] at pm
    have pc : fs.toList.Perm (((PySem.strKind P w).hash k, Value.str k tk) :: es.toList) := pm.trans (List.perm_append_singleton _ _)
    have pf : (fs.toList.map kOf).Perm (addL L k) := by rw [eL]; exact (pc.map kOf).trans (pmL.cons k)
    have gf : ∀ e ∈ fs.toList, Gd w e := fun e he => (List.mem_cons.mp (pc.mem_iff.mp he)).elim (fun z => z ▸ ⟨k, tk, rfl, rfl⟩) (g e)
    have hz : fs.size = L.length + 1 := by rw [← Array.length_toList, pc.length_eq, List.length_cons, Array.length_toList, hn]
    have bf : fs.size < scanBound := hz ▸ room
    have lf : Led w u := hl.imp id fun z => l1.trans z
    have gw : ∀ (b : Bool) (s1 : Shared) (Q1 : Unit → Shared → Prop), Q1 () s1 → wpAny (model P w) A (match b with | true => rule "set.scan.the-table-gave-way" | false => pure ()) Q1 E s1 :=
      fun b s1 Q1 z => by cases b <;> first | exact wpAny_pure z | exact wpAny_rule z
    refine wpAny_bind (gw _ _ _ ?_)
    split
    · refine wpAny_bind ?_
      rw [hashByValue_scannable 8 hsc]
      refine wpAny_pure ?_
      refine tailS ?_ ho hex hd gf pf (nd_addL nd) bf ?_ ?_ ?_ fun h' sb r => by dsimp only; exact wpAny_pure (hQ h' _ sb r)
      · intro b s1 Q1 z; cases b <;> first | exact wpAny_pure z | exact wpAny_rule z
      · first | (split <;> first | exact f1 | exact SetTable.fits_plain_off f1) | exact f1
      · first | (split <;> exact r1) | exact r1
      · first | (split <;> exact lf) | exact lf
    · refine wpAny_bind (wpAny_pure ?_)
      simp only [↓reduceIte]
      refine tailS ?_ ho hex hd gf pf (nd_addL nd) bf f1 r1 lf ?_
      · intro b s1 Q1 z; cases b <;> first | exact wpAny_pure z | exact wpAny_rule z
      · intro h' sb r; dsimp only; exact wpAny_pure (hQ h' _ sb r)
theorem addS {k : Str} {tk : Tok} {Q : Value → Shared → Prop} (R : SetS w s.heap a L) (room : L.length + 1 < scanBound)
    (hQ : ∀ h', Heap.SameBut a s.heap h' → SetS w h' a (addL L k) → Q .none { s with heap := h', toks := s.toks + 1 }) : wpAny (model P w) A (call (.builtin "set.add") [.ref a, .str k tk]) Q E s := by
  have hS : s.heap.SetOf (PySem.strKind P w) a (fun k => decide (k ∈ L)) L.length := R.setOf
  refine wpAny_call_entry F.slot_set_add hS.typeIs F.entry_set_add ?_ (F.args_set_add_2 _ _)
  unfold Builtin.«set.add» Builtin.Frozenset.oneOther
  simp only [List.isEmpty_nil, bind_assoc]
  unfold Builtin.Frozenset.addrOf setAdd
  refine wpAny_bind (wpAny_pure ?_)
  try dsimp only
  refine wpAny_bind (wpAny_pure ?_)
  try dsimp only
  refine wpAny_bind (wpAny_holding (wpAny_bind ((PySem.strKind P w).pyHash (isS k tk) ?_)))
  refine addS_hashed (s := { s with toks := s.toks + 1 }) R room fun h' b sb r => ?_
  show wpAny _ _ (ret Value.none) _ _ _
  exact wpAny_pure ⟨_, rfl, hQ h' sb r⟩
end
/-! a comprehension of two clauses -/
abbrev SC2 (elt t0 i0 t1 i1 : Expr) (f0 f1 : List Expr) (sc : Scope) (pos : Pos) : Expr := .SetComp elt [⟨t0, i0, f0, 0⟩, ⟨t1, i1, f1, 0⟩] sc pos
abbrev Tests (prog : Program) (w : World) (A : Around) (fs : List Expr) (env : Env) (Q : Bool → Shared → Prop) (E : Value → Shared → Prop) (s : Shared) : Prop :=
  wpAny (model prog w) A (forIn fs true fun c r => if r = true then do let ok ← isTrue c env (eval c env); pure (ForInStep.yield ok) else pure (ForInStep.yield r)) Q E s
section
variable {prog : Program} {w : World} {A : Around} {R : Result → Shared → Prop} {s : Shared} {elt t0 i0 t1 i1 : Expr} {f0 f1 : List Expr} {sc : Scope} {pos : Pos} {it acc : Value} {env : Env}
theorem turnOut : compTurn (SC2 elt t0 i0 t1 i1 f0 f1 sc pos) 0 it acc env = (do
      standAt i0.pos
      match ← pyNext it with
      | none => pure (.done .next)
      | some v =>
        letOwnedTupleGo t0 it v
        assign t0 env v
        let mut ok := true
        for c in f0 do
          if ok then ok ← isTrue c env (eval c env)
        if ok then
          let x ← eval i1 env
          standAt i1.pos
          let x ← foldedSetIterable i1 env x
          let _ ← runOwn (.compStart (SC2 elt t0 i0 t1 i1 f0 f1 sc pos) 1 (← holding [x] (pyIter x)) acc env) env
        again (.compLoop (SC2 elt t0 i0 t1 i1 f0 f1 sc pos) 0 it acc env)) := by rfl
theorem turnIn : compTurn (SC2 elt t0 i0 t1 i1 f0 f1 sc pos) 1 it acc env = (do
      standAt i1.pos
      match ← pyNext it with
      | none => pure (.done .next)
      | some v =>
        letOwnedTupleGo t1 it v
        assign t1 env v
        let mut ok := true
        for c in f1 do
          if ok then ok ← isTrue c env (eval c env)
        if ok then
          (do let v ← eval elt env; standAt elt.pos; let _ ← call (.builtin "set.add") [acc, v])
        again (.compLoop (SC2 elt t0 i0 t1 i1 f0 f1 sc pos) 1 it acc env)) := by rfl
abbrev Er (prog : Program) (w : World) (A : Around) (env : Env) (R : Result → Shared → Prop) : Value → Shared → Prop := notedBy (model prog w) A env fun e s' => R (.error e) s'
theorem loopOut (hs : ∀ x, foldedSetIterable i1 env x = pure x) (I : Nat → Shared → Prop)
    (turn : ∀ n s, I n s → wpAny (model prog w) A (pyNext it) (fun r s1 => match r with
      | none => R (.ok .next) s1
      | some v => wpAny (model prog w) A (letOwnedTupleGo t0 it v) (fun _ s2 => wpAny (model prog w) A (assign t0 env v) (fun _ s3 => Tests prog w A f0 env (fun ok s4 =>
            if ok = true then wpAny (model prog w) A (eval i1 env) (fun x s5 => wpAny (model prog w) A (pyIter x) (fun it1 s6 => codeAny (model prog w) A (.compStart (SC2 elt t0 i0 t1 i1 f0 f1 sc pos) 1 it1 acc env) (fun r s' => match r with
                | .ok _ => ∃ m, m < n ∧ I m s'
                | .error _ => False) s6) (Er prog w A env R) s5) (Er prog w A env R) s4
            else ∃ m, m < n ∧ I m s4) (Er prog w A env R) s3) (Er prog w A env R) s2) (Er prog w A env R) s1) (Er prog w A env R) s) (n : Nat) (h : I n s) :
    codeAny (model prog w) A (.compLoop (SC2 elt t0 i0 t1 i1 f0 f1 sc pos) 0 it acc env) R s := by
  refine codeAny_loop rfl I (fun n s hI => ?_) n h
  show wpAny _ A ((compTurn (SC2 elt t0 i0 t1 i1 f0 f1 sc pos) 0 it acc env).onRaise (fun x => do noteFrame x env; theTreesLotGoes x)) _ _ s
  refine wpAny_noted ?_
  rw [turnOut]
  refine wpAny_bind (wpAny_standAt (wpAny_bind (wpAny_mono (turn n s hI) (fun r s1 h1 => ?_) fun _ _ z => z)))
  cases r with
  | none => exact wpAny_pure h1
  | some v =>
    refine wpAny_bind (wpAny_mono h1 (fun _ s2 h2 => wpAny_bind (wpAny_mono h2 (fun _ s3 h3 => wpAny_bind (wpAny_mono h3 (fun ok s4 h4 => ?_) fun _ _ z => z)) fun _ _ z => z)) fun _ _ z => z)
    cases ok with
    | false => exact wpAny_pure ⟨rfl, h4⟩
    | true =>
      refine wpAny_bind (wpAny_mono h4 (fun x s5 h5 => wpAny_bind (wpAny_standAt (wpAny_bind (wpAny_of_eq (hs x) (wpAny_bind (wpAny_holding (wpAny_mono h5 (fun it1 s6 h6 => ?_) fun _ _ z => z))))))) fun _ _ z => z)
      refine wpAny_bind (wpAny_runOwn ?_)
      rw [Around.mark_none]
      refine codeAny_mono h6 fun r s' hr => ?_
      cases r with
      | ok f => first | exact wpAny_pure ⟨rfl, hr⟩ | exact wpAny_bind (wpAny_pure (wpAny_pure ⟨rfl, hr⟩))
      | error e => exact hr.elim
theorem loopIn (I : Nat → Shared → Prop)
    (turn : ∀ n s, I n s → wpAny (model prog w) A (pyNext it) (fun r s1 => match r with
      | none => R (.ok .next) s1
      | some v => wpAny (model prog w) A (letOwnedTupleGo t1 it v) (fun _ s2 => wpAny (model prog w) A (assign t1 env v) (fun _ s3 => Tests prog w A f1 env (fun ok s4 =>
            if ok = true then wpAny (model prog w) A (eval elt env) (fun x s5 => wpAny (model prog w) A (call (.builtin "set.add") [acc, x]) (fun _ s6 => ∃ m, m < n ∧ I m s6) (Er prog w A env R) s5) (Er prog w A env R) s4
            else ∃ m, m < n ∧ I m s4) (Er prog w A env R) s3) (Er prog w A env R) s2) (Er prog w A env R) s1) (Er prog w A env R) s) (n : Nat) (h : I n s) :
    codeAny (model prog w) A (.compLoop (SC2 elt t0 i0 t1 i1 f0 f1 sc pos) 1 it acc env) R s := by
  refine codeAny_loop rfl I (fun n s hI => ?_) n h
  show wpAny _ A ((compTurn (SC2 elt t0 i0 t1 i1 f0 f1 sc pos) 1 it acc env).onRaise (fun x => do noteFrame x env; theTreesLotGoes x)) _ _ s
  refine wpAny_noted ?_
  rw [turnIn]
  refine wpAny_bind (wpAny_standAt (wpAny_bind (wpAny_mono (turn n s hI) (fun r s1 h1 => ?_) fun _ _ z => z)))
  cases r with
  | none => exact wpAny_pure h1
  | some v =>
    refine wpAny_bind (wpAny_mono h1 (fun _ s2 h2 => wpAny_bind (wpAny_mono h2 (fun _ s3 h3 => wpAny_bind (wpAny_mono h3 (fun ok s4 h4 => ?_) fun _ _ z => z)) fun _ _ z => z)) fun _ _ z => z)
    cases ok with
    | false => exact wpAny_pure ⟨rfl, h4⟩
    | true => exact wpAny_bind (wpAny_bind (wpAny_mono h4 (fun x s5 h5 => wpAny_bind (wpAny_standAt (wpAny_bind (wpAny_mono h5 (fun _ s6 h6 => wpAny_pure (wpAny_pure ⟨rfl, h6⟩)) fun _ _ z => z)))) fun _ _ z => z))
theorem startIn (h0 : codeAny (model prog w) A (.compLoop (SC2 elt t0 i0 t1 i1 f0 f1 sc pos) 1 it acc env) R s)
    (h : wpAny (model prog w) A (pyIter it) (fun it' s' => codeAny (model prog w) A (.compLoop (SC2 elt t0 i0 t1 i1 f0 f1 sc pos) 1 it' acc env) R s') (Er prog w A env R) s) :
    codeAny (model prog w) A (.compStart (SC2 elt t0 i0 t1 i1 f0 f1 sc pos) 1 it acc env) R s := by
  refine codeAny_of_tree ?_
  show wpAny _ _ ((compStart (SC2 elt t0 i0 t1 i1 f0 f1 sc pos) 1 it acc env).onRaise (fun x => do noteFrame x env; standAt theWindowsPlace)) _ _ s
  refine wpAny_notedAt ?_
  unfold compStart
  show wpAny _ _ (ask >>= _) _ _ s
  refine wpAny_bind (wpAny_askSetting (wpAny_ite ?_))
  split
  · first | exact wpAny_bind (wpAny_pure (wpAny_pure (And.intro rfl h0))) | exact wpAny_pure (And.intro rfl h0)
  · first
      | exact wpAny_bind (wpAny_rule (wpAny_bind (wpAny_standAt (wpAny_bind (wpAny_mono h (fun it' s' z => wpAny_pure (And.intro rfl z)) fun _ _ z => z)))))
      | (refine wpAny_bind (wpAny_rule ?_); show wpAny _ _ (standAt i1.pos >>= _) _ _ s; exact wpAny_bind (wpAny_standAt (wpAny_bind (wpAny_mono h (fun it' s' z => wpAny_pure (And.intro rfl z)) fun _ _ z => z))))
end
/-! as a tracked thing -/
def SetSO (w : World) (a : Addr) (L : List Str) : HO := .ext fun h => SetS w h a L
theorem setSO_new {w : World} {P : Program} {H : Hp} {h : Heap} {a : Addr} {L : List Str} (R : SetS w h a L) : ObjOk P w H h a (SetSO w a L) := let ⟨o, _, _, _, ho, _⟩ := id R; ⟨R, ⟨o, ho⟩, fun h1 h2 p k => SetS.at p k⟩
abbrev emptySet (w : World) : Obj := { cls := .type "set", dict := none, data := .set #[] 0 (.fresh 0 0 (!w.params.followText "set-order")) }
theorem setS_fresh {h : Heap} (w : World) : SetS w (h.push (emptySet w)) h.objs.size [] :=
  ⟨_, #[], 0, _, Heap.get?_push_size _ rfl, ⟨rfl, rfl, rfl⟩, rfl, (fun e he => by simp at he), (by simp), .nil, (by decide), (by rfl), List.Pairwise.nil, by
    show _ ∨ (!w.params.followText "set-order") = true
    cases w.params.followText "set-order"
    · exact .inr rfl
    · exact .inl rfl⟩
section
variable {X : Cx}
theorem setSO_get {pins : List (Addr × Obj)} {σ : L2.St} {H : Hp} {s : Shared} {a : Addr} {L : List Str} (I : Inv X pins σ H s) (ha : H a = some (SetSO X.w a L)) : SetS X.w s.heap a L := (I.hok a _ ha).1
theorem addS_ok {pins : List (Addr × Obj)} {σ : L2.St} {H : Hp} {s : Shared} {E : Value → Shared → Prop} {D : Addr} {L : List Str} {y : Str} {u : Tok} {Q : Value → Shared → Prop} (I : Inv X pins σ H s) (hD : H D = some (SetSO X.w D L)) (room : L.length + 1 < scanBound)
    (h : ∀ s', Inv X pins σ (upd H D (SetSO X.w D (addL L y))) s' → Q .none s') : wpAny (model X.prog X.w) X.A (call (.builtin "set.add") [.ref D, .str y u]) Q E s :=
  addS (setSO_get I hD) room fun h' sb new => h _ (I.write (e := D) (t' := s.toks + 1) (by rw [hD]; trivial) (.inl rfl) (fun b o hb e => (sb.2 b hb).trans e) (let ⟨o, _, _, _, ho, _⟩ := id new; ⟨o, ho⟩) (setSO_new new))
/-- {elt for tg in iter if .. for tg1 in iter1 if ..}, elt a text: D the new set -/
def tSc2 (w : World) (wi : TI) (g : TG) (tt : TT) (wi1 : TI) (g1 : TG) (tt1 : TT) (te : TE) (vs vs1 : List Nat) : TE := fun σ H Q => wi σ H fun J H1 => ∀ D, H1 D = none → ∃ W : Nat → Nat → Hp → Prop, (∃ m, W 0 m (upd H1 D (SetSO w D []))) ∧ ∀ i m H, W i m H →
  (J.stop i H ∧ Q (.ref D) H) ∨ (J.go i H ∧ ∃ Nx : Hp → Prop, (∀ H', Nx H' → ∃ m', m' < m ∧ W (i + 1) m' H') ∧ ∀ x H', J.yld i H x H' → g x (wipe σ vs) H' fun σ2 H2 => wipe σ2 vs = wipe σ vs ∧ tt σ2 H2 fun b H3 =>
    if b = true then wi1 σ2 H3 fun J1 H4 => ∃ W1 : Nat → Nat → Hp → Prop, (∃ m, W1 0 m H4) ∧ ∀ j k H, W1 j k H →
      (J1.stop j H ∧ Nx H) ∨ (J1.go j H ∧ ∃ Nx1 : Hp → Prop, (∀ H', Nx1 H' → ∃ k', k' < k ∧ W1 (j + 1) k' H') ∧ ∀ x H', J1.yld j H x H' → g1 x (wipe σ2 vs1) H' fun σ3 H5 => wipe σ3 vs1 = wipe σ2 vs1 ∧ tt1 σ3 H5 fun b H6 =>
        if b = true then te σ3 H6 fun y H7 => ∃ k L, y = .str k ∧ H7 D = some (SetSO w D L) ∧ L.length + 1 < scanBound ∧ Nx1 (upd H7 D (SetSO w D (addL L k))) else Nx1 H6)
    else Nx H3)
abbrev Blk (X : Cx) (sc : Scope) (s : Shared) (H : Hp) (C : Addr) (cl : List (PySem.Str × Addr)) (fp : List Addr) : Cx := X.blk s H sc (compEnvC sc cl C X.env) fp
theorem sc2_core {pins : List (Addr × Obj)} {s : Shared} {σ : L2.St} {H : Hp} {Q : VK} {elt tg iter tg1 iter1 : Expr} {ifs ifs1 : List Expr} {sc : Scope} {own : List (PySem.Str × Nat)} {vs1 : List Nat} {pos pos' : Pos} {wi wi1 : TI} {g g1 : TG} {tt tt1 : TT} {te : TE} {use : Option (Value → Sem Unit)} {Qf : Value → Shared → Prop}
    (hc : X.calm = true) (hN : X.N.Nodup) (I : Inv X pins σ H s) (hi : PI X tg iter wi) (ok : BlkOk X.N X.env.scope sc own) (hv : ∀ i ∈ vs1, i ∈ own.map (·.2))
    (hg : ∀ s H C cl fp, PG (Blk X sc s H C cl fp) tg g) (ht : ∀ s H C cl fp, PTs (Blk X sc s H C cl fp) ifs tt) (he : ∀ s H C cl fp, PE (Blk X sc s H C cl fp) elt te) (hs : ∀ x, foldedSetIterable iter X.env x = pure x)
    (hi1 : ∀ s H C cl fp, PI (Blk X sc s H C cl fp) tg1 iter1 wi1) (hg1 : ∀ s H C cl fp, PG (Blk X sc s H C cl fp) tg1 g1) (ht1 : ∀ s H C cl fp, PTs (Blk X sc s H C cl fp) ifs1 tt1) (hs1 : ∀ env x, foldedSetIterable iter1 env x = pure x)
    (h : tSc2 X.w wi g tt wi1 g1 tt1 te (own.map (·.2)) vs1 σ H Q)
    (hRR : ∀ D C s' m H', Inv X pins σ H' s' → Q (.ref D) H' → s'.heap.Ns C m → FpOk X pins H' C → compPost (model X.prog X.w) X.A X.xe use Qf (.ref D) C (.ok .next) s') :
    wpAny (model X.prog X.w) X.A (comprehension (SC2 elt tg iter tg1 iter1 ifs ifs1 sc pos) sc X.env pos' (newSet (.type "set")) false (eval iter X.env) use) Qf X.xe s := by
  have hfree : ∀ y ∈ sc.names, y.2 = .free → ∃ c, X.env.cells.lookup y.1 = some c := fun y hy e => (ok.free y hy e).elim (fun k => I.ok.has _ (.inl k)) fun k => I.ok.has _ (.inr k)
  refine wpAny_comprehension_free (use := use) rfl hs (closure_ok hfree) ok.kind (fun y hy e => by rw [ok.uniq y hy, e]) (thn (hi.run pins s σ H _ I h) fun xv s1 hx => thn hx fun itv s2 h2 => ?_)
  obtain ⟨it, fp, tn, J, H2, e, I2, T, st2, f2, q⟩ := h2
  subst e
  refine PpSet.newSet_ok (newEnv_comp ?_)
  generalize hD : s2.heap.objs.size = D
  have hDn : H2 D = none := I2.hok.fresh (Nat.le_of_eq hD)
  obtain ⟨W, ⟨m0, w0⟩, turn⟩ := q D hDn
  generalize hs3 : ({ s2 with heap := s2.heap.push (emptySet X.w) } : Shared) = s3
  have I3 : Inv X pins σ (upd H2 D (SetSO X.w D [])) s3 := by
    rw [← hs3]
    exact I2.laid (t' := s2.toks) (fun b o e => Heap.get?_push_of_some _ e) (Nat.le_of_eq hD) (hD ▸ setSO_new (setS_fresh X.w))
  have h3 : s3.heap = s2.heap.push (emptySet X.w) := by rw [← hs3]
  have sz : ∀ b ∈ fp, b < s2.heap.objs.size := fun b hb => let ⟨o, e, _⟩ := T.obj _ _ st2 b hb; Heap.lt_size e
  have f3 : ∀ b ∈ fp, FpOk X pins (upd H2 D (SetSO X.w D [])) b ∧ b < s3.heap.objs.size := fun b hb =>
    ⟨⟨by rw [upd_ne (by rw [← hD]; exact Nat.ne_of_lt (sz b hb))]; exact (f2 b hb).1, (f2 b hb).2⟩, by rw [h3, Heap.size_push]; exact Nat.lt_succ_of_lt (sz b hb)⟩
  have st3 : tn 0 s3.heap := T.keep _ _ _ st2 fun b _ o e => by rw [h3]; exact Heap.get?_push_of_some _ e
  have I4 := block_start I3 ok hN f3
  generalize hcl : cellsFrom (s3.heap.objs.size + 1) sc.names (cloFrom X.env.cells sc.names []) = cl at I4
  have pg : PG (X.blk s3 (upd H2 D (SetSO X.w D [])) sc (compEnvC sc cl s3.heap.objs.size X.env) fp) tg g := hg s3 _ _ cl fp
  have pt : PTs (X.blk s3 (upd H2 D (SetSO X.w D [])) sc (compEnvC sc cl s3.heap.objs.size X.env) fp) ifs tt := ht s3 _ _ cl fp
  have pe : PE (X.blk s3 (upd H2 D (SetSO X.w D [])) sc (compEnvC sc cl s3.heap.objs.size X.env) fp) elt te := he s3 _ _ cl fp
  have pi1 : PI (X.blk s3 (upd H2 D (SetSO X.w D [])) sc (compEnvC sc cl s3.heap.objs.size X.env) fp) tg1 iter1 wi1 := hi1 s3 _ _ cl fp
  have pg1 : PG (X.blk s3 (upd H2 D (SetSO X.w D [])) sc (compEnvC sc cl s3.heap.objs.size X.env) fp) tg1 g1 := hg1 s3 _ _ cl fp
  have pt1 : PTs (X.blk s3 (upd H2 D (SetSO X.w D [])) sc (compEnvC sc cl s3.heap.objs.size X.env) fp) ifs1 tt1 := ht1 s3 _ _ cl fp
  show codeAny _ _ (.compStart (SC2 elt tg iter tg1 iter1 ifs ifs1 sc pos) 0 (.ref it) (.ref D) (compEnvC sc cl s3.heap.objs.size X.env)) (compPost (model X.prog X.w) X.A X.xe use Qf (.ref D) s3.heap.objs.size) { s3 with heap := pushCells (s3.heap.push { cls := .type "dict", data := .dict #[] }) sc.names }
  have nfp : ∀ b ∈ fp, (upd H2 D (SetSO X.w D [])) b = none := fun b hb => (f3 b hb).1.1
  generalize hce : compEnvC sc cl s3.heap.objs.size X.env = ce at I4 pg pt pe pi1 pg1 pt1 ⊢
  have cL : ce.locals = s3.heap.objs.size := by subst hce; rfl
  generalize hH3 : upd H2 D (SetSO X.w D []) = H3 at I3 I4 pg pt pe pi1 pg1 pt1 w0 nfp f3
  generalize hs4 : ({ s3 with heap := pushCells (s3.heap.push { cls := .type "dict", data := .dict #[] }) sc.names } : Shared) = s4 at I4 ⊢
  have st4 : tn 0 s4.heap := T.keep _ _ _ st3 fun b _ o e => by rw [← hs4]; exact pushCells_keeps _ _ _ _ (Heap.get?_push_of_some _ e)
  have stat : ∀ {σ' : L2.St} {H' : Hp} {s' : Shared}, Inv (X.blk s3 H3 sc ce fp) [] σ' H' s' → (∀ b ∈ fp, H' b = none) → ∀ b ∈ fp, FpOk (X.blk s3 H3 sc ce fp) [] H' b := fun I' hn b hb =>
    ⟨hn b hb, (I'.ok.exf b hb).1, I'.ok.exfs b hb, .inl hb, fun x c e => (I'.ok.exf b hb).2 x c e, fun p hp => absurd (show p ∈ ([] : List (Addr × Obj)) ++ [] from hp) (by simp)⟩
  have loop : codeAny (model X.prog X.w) X.A (.compLoop (SC2 elt tg iter tg1 iter1 ifs ifs1 sc pos) 0 (.ref it) (.ref D) ce) (compPost (model X.prog X.w) X.A X.xe use Qf (.ref D) s3.heap.objs.size) s4 := by
    refine loopOut (hs1 ce) (fun n s' => ∃ i H', Inv (X.blk s3 H3 sc ce fp) [] (wipe σ (own.map (·.2))) H' s' ∧ tn i s'.heap ∧ (∀ b ∈ fp, H' b = none) ∧ W i n H') ?_ m0 ⟨0, H3, I4, st4, nfp, w0⟩
    rintro n s5 ⟨i, H5, I5, st5, n5, w5⟩
    rcases turn i n H5 w5 with ⟨stop, qq⟩ | ⟨go, Nx, hNx, step⟩
    · refine thnF (T.done (X.blk s3 H3 sc ce fp) rfl rfl rfl hc i [] s5 _ H5 (fun _ _ => False) I5 (stat I5 n5) st5 stop) fun r s6 ⟨hr, I6⟩ => ?_
      subst hr
      have I7 : Inv X pins σ H5 s6 := I3.call' (ch := fp) I6.os I6.base I6.hok I6.bare fun b hb => let z := (f3 b hb).1.2; ⟨z.2.2.1, z.1, z.2.2.2.1, z.2.2.2.2⟩
      have nC : H5 s3.heap.objs.size = none := cL ▸ (show H5 ce.locals = none from I6.free)
      obtain ⟨m, hn, -⟩ := I6.loc
      exact hRR D s3.heap.objs.size s6 m H5 I7 qq (cL ▸ (show s6.heap.Ns ce.locals m from hn)) (I3.fpOk (Nat.le_refl _) nC)
    · refine thnF (T.item (X.blk s3 H3 sc ce fp) rfl rfl rfl hc i [] s5 _ H5 (fun _ _ => False) I5 (stat I5 n5) st5 go) fun r s6 ⟨u, hr, h6⟩ => ?_
      subst hr
      refine thnF h6 fun _ s7 ⟨x, H7, I7, r7, y7, st7, n7⟩ => ?_
      have I7' := I7.pinned (stat I7 n7) (T.obj _ _ st7)
      refine thnF (pg.run _ s7 _ H7 x u _ I7' r7 (step x H7 y7)) fun _ s8 ⟨σ8, H8, I8, hw8, q8⟩ => thnF (pt.run _ s8 σ8 H8 _ I8 q8) fun b s9 ⟨H9, I9, q9⟩ => ?_
      have fin : ∀ {σ9 : L2.St} {s' : Shared} {H' : Hp}, Inv (X.blk s3 H3 sc ce fp) ([] ++ pinsAt fp s7.heap) σ9 H' s' → (wipe σ (own.map (·.2))).length = σ9.length → (∀ (j : Nat) v, (wipe σ (own.map (·.2)))[j]? = some (some v) → σ9[j]? = some (some v)) → Nx H' →
          ∃ m, m < n ∧ ∃ i H', Inv (X.blk s3 H3 sc ce fp) [] (wipe σ (own.map (·.2))) H' s' ∧ tn i s'.heap ∧ (∀ b ∈ fp, H' b = none) ∧ W i m H' := fun {σ9 s' H'} I' hl hk nx => by
        obtain ⟨m', hm, w'⟩ := hNx H' nx
        have pin' : ∀ b ∈ fp, ∀ o, s7.heap.get? b = some o → s'.heap.get? b = some o ∧ H' b = none := fun b hb o e =>
          let z := I'.pin (b, o) (List.mem_append_right _ (List.mem_append_right _ (mem_pinsAt hb e))); ⟨z.1, z.2.1⟩
        exact ⟨m', hm, i + 1, H', (I'.unpinned (pins := [])).weak hl hk, T.keep _ _ _ st7 fun b hb o e => (pin' b hb o e).1, fun b hb => let ⟨o, e, _⟩ := T.obj _ _ st7 b hb; (pin' b hb o e).2, w'⟩
      have hl8 : (wipe σ (own.map (·.2))).length = σ8.length := by rw [← hw8, wipe_length]
      have hk8 : ∀ (j : Nat) v, (wipe σ (own.map (·.2)))[j]? = some (some v) → σ8[j]? = some (some v) := fun j v e => (wipe_some (hw8 ▸ e)).1
      have hk9 : ∀ (j : Nat) v, (wipe σ (own.map (·.2)))[j]? = some (some v) → (wipe σ8 vs1)[j]? = some (some v) := fun j v e => by
        rw [← hw8] at e
        rw [wipe_out fun z => (wipe_some e).2 (hv j z)]
        exact (wipe_some e).1
      cases b with
      | false => simp only [Bool.false_eq_true, if_false] at q9 ⊢; exact fin I9 hl8 hk8 q9
      | true =>
        simp only [if_true] at q9 ⊢
        refine thnF (pi1.run _ s9 σ8 H9 _ I9 q9) fun xv s10 hx => thnF hx fun itv s11 h11 => ?_
        obtain ⟨it1, fp1, tn1, J1, H11, e1, I11, T1, st11, f11, W1, ⟨m1, w1⟩, turn1⟩ := h11
        subst e1
        have stat1 : ∀ {H' : Hp}, (∀ b ∈ fp1, H' b = none) → ∀ b ∈ fp1, FpOk (X.blk s3 H3 sc ce fp) ([] ++ pinsAt fp s7.heap) H' b := fun hn b hb => ⟨hn b hb, (f11 b hb).2⟩
        have loop1 : codeAny (model X.prog X.w) X.A (.compLoop (SC2 elt tg iter tg1 iter1 ifs ifs1 sc pos) 1 (.ref it1) (.ref D) ce)
            (fun r s' => match r with
              | .ok _ => ∃ m, m < n ∧ ∃ i H', Inv (X.blk s3 H3 sc ce fp) [] (wipe σ (own.map (·.2))) H' s' ∧ tn i s'.heap ∧ (∀ b ∈ fp, H' b = none) ∧ W i m H'
              | .error _ => False) s11 := by
          refine loopIn (fun k s' => ∃ j H', Inv (X.blk s3 H3 sc ce fp) ([] ++ pinsAt fp s7.heap) (wipe σ8 vs1) H' s' ∧ tn1 j s'.heap ∧ (∀ b ∈ fp1, H' b = none) ∧ W1 j k H') ?_ m1 ⟨0, H11, I11.weak (wipe_length _ _) (fun j v e => (wipe_some e).1), st11, fun b hb => (f11 b hb).1, w1⟩
          rintro k s12 ⟨j, H12, I12, st12, n12, w12⟩
          rcases turn1 j k H12 w12 with ⟨stop1, nx1⟩ | ⟨go1, Nx1, hNx1, step1⟩
          · refine thnF (T1.done (X.blk s3 H3 sc ce fp) rfl rfl rfl hc j _ s12 (wipe σ8 vs1) H12 (fun _ _ => False) I12 (stat1 n12) st12 stop1) fun r s13 ⟨hr, I13⟩ => ?_
            subst hr
            exact fin I13 (hl8.trans (wipe_length σ8 vs1).symm) hk9 nx1
          · refine thnF (T1.item (X.blk s3 H3 sc ce fp) rfl rfl rfl hc j _ s12 (wipe σ8 vs1) H12 (fun _ _ => False) I12 (stat1 n12) st12 go1) fun r s13 ⟨u1, hr, h13⟩ => ?_
            subst hr
            refine thnF h13 fun _ s14 ⟨x1, H14, I14, r14, y14, st14, n14⟩ => ?_
            have I14' := I14.pinned (stat1 n14) (T1.obj _ _ st14)
            refine thnF (pg1.run _ s14 (wipe σ8 vs1) H14 x1 u1 _ I14' r14 (step1 x1 H14 y14)) fun _ s15 ⟨σ15, H15, I15, hw15, q15⟩ => thnF (pt1.run _ s15 σ15 H15 _ I15 q15) fun b1 s16 ⟨H16, I16, q16⟩ => ?_
            have fin1 : ∀ {s' : Shared} {H' : Hp}, Inv (X.blk s3 H3 sc ce fp) (([] ++ pinsAt fp s7.heap) ++ pinsAt fp1 s14.heap) σ15 H' s' → Nx1 H' → ∃ m, m < k ∧ ∃ j H', Inv (X.blk s3 H3 sc ce fp) ([] ++ pinsAt fp s7.heap) (wipe σ8 vs1) H' s' ∧ tn1 j s'.heap ∧ (∀ b ∈ fp1, H' b = none) ∧ W1 j m H' := fun {s' H'} I' nx => by
              obtain ⟨m', hm, w'⟩ := hNx1 H' nx
              have pin' : ∀ b ∈ fp1, ∀ o, s14.heap.get? b = some o → s'.heap.get? b = some o ∧ H' b = none := fun b hb o e =>
                let z := I'.pin (b, o) (List.mem_append_right _ (List.mem_append_right _ (mem_pinsAt hb e))); ⟨z.1, z.2.1⟩
              exact ⟨m', hm, j + 1, H', I'.unpinned.weak (by rw [← hw15, wipe_length]) (fun j v e => (wipe_some (hw15 ▸ e)).1), T1.keep _ _ _ st14 fun b hb o e => (pin' b hb o e).1, fun b hb => let ⟨o, e, _⟩ := T1.obj _ _ st14 b hb; (pin' b hb o e).2, w'⟩
            cases b1 with
            | false => simp only [Bool.false_eq_true, if_false] at q16 ⊢; exact fin1 I16 q16
            | true =>
              simp only [if_true] at q16 ⊢
              refine thnF (pe.run _ s16 σ15 H16 _ I16 q16) fun z s17 ⟨yv, H17, I17, r17, ky, L17, ey, hD17, hz17, nx⟩ => ?_
              subst ey
              obtain ⟨tk, rfl⟩ := r17
              exact addS_ok (X := X.blk s3 H3 sc ce fp) I17 hD17 hz17 fun s18 I18 => fin1 I18 nx
        exact startIn loop1 (T1.self X.A 0 _ _ _ st11 loop1)
  exact PpSet.codeAny_compStart_set loop (T.self X.A 0 _ _ _ st4 loop)
/-- as a value -/
theorem pe_sc2 {elt tg iter tg1 iter1 : Expr} {ifs ifs1 : List Expr} {sc : Scope} {own : List (PySem.Str × Nat)} {vs1 : List Nat} {pos : Pos} {wi wi1 : TI} {g g1 : TG} {tt tt1 : TT} {te : TE} (hc : X.calm = true) (hN : X.N.Nodup) (hi : PI X tg iter wi) (ok : BlkOk X.N X.env.scope sc own) (hv : ∀ i ∈ vs1, i ∈ own.map (·.2))
    (hg : ∀ s H C cl fp, PG (Blk X sc s H C cl fp) tg g) (ht : ∀ s H C cl fp, PTs (Blk X sc s H C cl fp) ifs tt) (hi1 : ∀ s H C cl fp, PI (Blk X sc s H C cl fp) tg1 iter1 wi1) (hg1 : ∀ s H C cl fp, PG (Blk X sc s H C cl fp) tg1 g1) (ht1 : ∀ s H C cl fp, PTs (Blk X sc s H C cl fp) ifs1 tt1)
    (he : ∀ s H C cl fp, PE (Blk X sc s H C cl fp) elt te) (hs : ∀ x, foldedSetIterable iter X.env x = pure x := by intro _; rfl) (hs1 : ∀ env x, foldedSetIterable iter1 env x = pure x := by intro _ _; rfl) :
    PE X (SC2 elt tg iter tg1 iter1 ifs ifs1 sc pos) (tSc2 X.w wi g tt wi1 g1 tt1 te (own.map (·.2)) vs1) := by
  refine ⟨fun pins s σ H Q I h => ?_⟩
  rw [PpSet.eval_SetComp]
  refine sc2_core hc hN I hi ok hv hg ht he hs hi1 hg1 ht1 hs1 h fun D C s' m H' I' q hn f => ⟨m, hn, fun h'' sb => ?_⟩
  obtain ⟨f0, f1, f2, f3, f4, f5⟩ := f
  exact ⟨.ref D, H', I'.turned (t' := s'.toks) (fun b o hb e => (sb.2 b hb).trans e) f0 f1 f3 f4 f5, rfl, q⟩
/-- sorted of such a set, fewer than 64 members -/
def rSortS (w : World) : List V → Hp → VK → Prop := fun vs H Q => ∃ (a : Addr) (L : List Str), vs = [V.ref a] ∧ H a = some (SetSO w a L) ∧ L.length < 64 ∧ ∀ (ys : List Str) (p : Addr), ys.Perm L → sortedS ys = true → H p = none → Q (.ref p) (upd H p (.lst (ys.map V.str)))
theorem strs_of : ∀ (l : List Value), (∀ v ∈ l, ∃ k tk, v = Value.str k tk) → StrsAre l (l.map fun v => kOf (0, v))
  | [], _ => .nil
  | v :: l, h => by
    obtain ⟨k, tk, rfl⟩ := h v List.mem_cons_self
    exact .cons k tk (strs_of l fun u hu => h u (List.mem_cons_of_mem _ hu))
theorem cr_sortS (hc : X.calm = true) : CallR X (.builtin "sorted") (rSortS X.w) := by
  intro pins s σ H vs us Q I r h
  obtain ⟨a, L, rfl, ha, h64, q⟩ := h
  have R := setSO_get I ha
  have hlen := @SetS.len _ _ _ _ R
  rw [Vals.ref1 r]
  obtain ⟨o, es, ep, t, ho, hex, hd, g, pmL, nd, hb, hf, hr, hl⟩ := R
  have hn : es.size = L.length := hlen ho hd
  refine Calls.call_function_entry kind_sorted plain_sorted entry_sorted (args_sorted1 _) ?_
  unfold Builtin.«sorted»
  refine wpAny_bind (m := checkCount "sorted" 1 1 _) (wpAny_pure (wpAny_bind (collect_set (A := X.A.in1) (I.ok.hd hc) ⟨o, ho, hex.1, hd⟩ hf hb hr hl fun s1 ws k1 hz g1 o1 pm => ?_)))
  have hvl : ws.length = L.length := by rw [pm.length_eq, List.length_map, Array.length_toList]; exact hn
  have hS : StrsAre ws (ws.map fun v => kOf (0, v)) := strs_of ws fun v hv => by
    obtain ⟨e, he, z⟩ := List.mem_map.mp (pm.mem_iff.mp hv)
    obtain ⟨k, tk, h1, -⟩ := g e he
    exact ⟨k, tk, by rw [← z]; exact h1⟩
  have pk : (ws.map fun v => kOf (0, v)).Perm L := by
    have z := pm.map fun v => kOf (0, v)
    rw [List.map_map] at z
    exact z.trans pmL
  have I1 : Inv X pins σ H s1 := by
    have e : s1 = { s with heap := s1.heap, gens := s1.gens, drawn := s1.drawn, toks := s1.toks } := by cases s1; cases s; cases o1; rfl
    rw [e]
    exact I.call (ch := []) (Un.kept k1) (I.hok.kept k1) (by rw [g1]; exact I.bare) (fun _ z => nomatch z)
  refine wpAny_bind (wpAny_newList ?_ (by rw [hvl, sizeLine_eq]; omega))
  have hoL : (s1.heap.push (seqObj "list" ws.toArray 0)).get? s1.heap.objs.size = some (seqObj "list" ws.toArray 0) := Heap.get?_push_size _ rfl
  refine wpAny_bind (wpAny_holding (wpAny_call_entry slot_list_sort ⟨_, hoL, rfl⟩ entry_list_sort (list_sort_treeK strKind_oneLt (s := { s1 with heap := s1.heap.push (seqObj "list" ws.toArray 0) }) hoL hS.keysOf (fun v₁ v₂ rest e => keyKind_strs (by rw [← e]; exact hS)) (by rw [hvl]; exact h64) fun st' hp hs => ⟨_, rfl, ?_⟩) (args_list_sort _)))
  obtain ⟨ys, y1, y2, y3⟩ := sorted_out_str hS hp hs
  obtain ⟨e', he'⟩ := sortedHeap_at (vs := ws) (out := (arrOf st').map (·.2)) hoL
  have hl2 : (ys.map V.str).length ≤ sizeLine := by
    rw [List.length_map, y2.length_eq, pk.length_eq, sizeLine_eq]
    omega
  refine wpAny_pure ⟨_, rfl, .ref s1.heap.objs.size, upd H s1.heap.objs.size (.lst (ys.map V.str)), I1.laid (t' := s1.toks) (fun b u e => ?_) (Nat.le_refl _) (show ObjOk X.prog X.w _ _ _ (.lst (ys.map V.str)) from ⟨hl2, ((arrOf st').map (·.2)).toList, e', vals_of_strs y1, by rw [Array.toArray_toList]; exact he'⟩), rfl, q ys _ (y2.trans pk) y3 (I1.hok.fresh (Nat.le_refl _))⟩
  show (sortedHeap (s1.heap.push (seqObj "list" ws.toArray 0)) s1.heap.objs.size ws _).get? b = some u
  have hlt := Heap.lt_size e
  rw [sortedHeap_old (Nat.ne_of_lt hlt) (by rw [size_push']; exact Nat.lt_succ_of_lt hlt)]
  exact Heap.get?_push_of_some _ e
end
/-- walked: the outer clause -/
theorem sc2_it {J : It} {n : Nat} {G : Hp → Prop} {Y : Nat → Hp → V → Hp → Prop} (wk : Walk J n G Y) {w : World} {g g1 : TG} {tt tt1 : TT} {wi1 : TI} {te : TE} {vs vs1 : List Nat} {σ : L2.St} {H1 : Hp} {D : Addr} {Qd : Hp → Prop} (Pv : Nat → Hp → Prop) (h0 : Pv 0 (upd H1 D (SetSO w D []))) (hG : ∀ i H, i ≤ n → Pv i H → G H)
    (hs : ∀ i x H H', i < n → Pv i H → Y i H x H' → g x (wipe σ vs) H' fun σ2 H2 => wipe σ2 vs = wipe σ vs ∧ tt σ2 H2 fun b H3 =>
      if b = true then wi1 σ2 H3 fun J1 H4 => ∃ W1 : Nat → Nat → Hp → Prop, (∃ m, W1 0 m H4) ∧ ∀ j k H, W1 j k H →
        (J1.stop j H ∧ Pv (i + 1) H) ∨ (J1.go j H ∧ ∃ Nx1 : Hp → Prop, (∀ H', Nx1 H' → ∃ k', k' < k ∧ W1 (j + 1) k' H') ∧ ∀ x H', J1.yld j H x H' → g1 x (wipe σ2 vs1) H' fun σ3 H5 => wipe σ3 vs1 = wipe σ2 vs1 ∧ tt1 σ3 H5 fun b H6 =>
          if b = true then te σ3 H6 fun y H7 => ∃ k L, y = .str k ∧ H7 D = some (SetSO w D L) ∧ L.length + 1 < scanBound ∧ Nx1 (upd H7 D (SetSO w D (addL L k))) else Nx1 H6)
      else Pv (i + 1) H3) (hd : ∀ H, Pv n H → Qd H) :
    ∃ W : Nat → Nat → Hp → Prop, (∃ m, W 0 m (upd H1 D (SetSO w D []))) ∧ ∀ i m H, W i m H →
      (J.stop i H ∧ Qd H) ∨ (J.go i H ∧ ∃ Nx : Hp → Prop, (∀ H', Nx H' → ∃ m', m' < m ∧ W (i + 1) m' H') ∧ ∀ x H', J.yld i H x H' → g x (wipe σ vs) H' fun σ2 H2 => wipe σ2 vs = wipe σ vs ∧ tt σ2 H2 fun b H3 =>
        if b = true then wi1 σ2 H3 fun J1 H4 => ∃ W1 : Nat → Nat → Hp → Prop, (∃ m, W1 0 m H4) ∧ ∀ j k H, W1 j k H →
          (J1.stop j H ∧ Nx H) ∨ (J1.go j H ∧ ∃ Nx1 : Hp → Prop, (∀ H', Nx1 H' → ∃ k', k' < k ∧ W1 (j + 1) k' H') ∧ ∀ x H', J1.yld j H x H' → g1 x (wipe σ2 vs1) H' fun σ3 H5 => wipe σ3 vs1 = wipe σ2 vs1 ∧ tt1 σ3 H5 fun b H6 =>
            if b = true then te σ3 H6 fun y H7 => ∃ k L, y = .str k ∧ H7 D = some (SetSO w D L) ∧ L.length + 1 < scanBound ∧ Nx1 (upd H7 D (SetSO w D (addL L k))) else Nx1 H6)
        else Nx H3) := by
  refine ⟨fun i m H => m = n - i ∧ i ≤ n ∧ Pv i H, ⟨n, by simp, Nat.zero_le _, h0⟩, ?_⟩
  rintro i m H ⟨rfl, hi, p⟩
  have q := hG i H hi p
  by_cases c : i < n
  · exact .inr ⟨wk.goes i H c q, Pv (i + 1), fun H' p' => ⟨n - (i + 1), by omega, rfl, c, p'⟩, fun x H' y => hs i x H H' c p (wk.yields i H x H' c q y)⟩
  · obtain rfl : i = n := by omega
    exact .inl ⟨wk.stops H q, hd H p⟩
/-- walked: the inner clause -/
theorem in2_it {J1 : It} {n : Nat} {G : Hp → Prop} {Y : Nat → Hp → V → Hp → Prop} (wk : Walk J1 n G Y) {w : World} {g1 : TG} {tt1 : TT} {te : TE} {vs1 : List Nat} {σ2 : L2.St} {H4 : Hp} {D : Addr} {Nx : Hp → Prop} (Pv : Nat → Hp → Prop) (h0 : Pv 0 H4) (hG : ∀ i H, i ≤ n → Pv i H → G H)
    (hs : ∀ i x H H', i < n → Pv i H → Y i H x H' → g1 x (wipe σ2 vs1) H' fun σ3 H5 => wipe σ3 vs1 = wipe σ2 vs1 ∧ tt1 σ3 H5 fun b H6 =>
      if b = true then te σ3 H6 fun y H7 => ∃ k L, y = .str k ∧ H7 D = some (SetSO w D L) ∧ L.length + 1 < scanBound ∧ Pv (i + 1) (upd H7 D (SetSO w D (addL L k))) else Pv (i + 1) H6) (hd : ∀ H, Pv n H → Nx H) :
    ∃ W1 : Nat → Nat → Hp → Prop, (∃ m, W1 0 m H4) ∧ ∀ j k H, W1 j k H →
      (J1.stop j H ∧ Nx H) ∨ (J1.go j H ∧ ∃ Nx1 : Hp → Prop, (∀ H', Nx1 H' → ∃ k', k' < k ∧ W1 (j + 1) k' H') ∧ ∀ x H', J1.yld j H x H' → g1 x (wipe σ2 vs1) H' fun σ3 H5 => wipe σ3 vs1 = wipe σ2 vs1 ∧ tt1 σ3 H5 fun b H6 =>
        if b = true then te σ3 H6 fun y H7 => ∃ k L, y = .str k ∧ H7 D = some (SetSO w D L) ∧ L.length + 1 < scanBound ∧ Nx1 (upd H7 D (SetSO w D (addL L k))) else Nx1 H6) := by
  refine ⟨fun i m H => m = n - i ∧ i ≤ n ∧ Pv i H, ⟨n, by simp, Nat.zero_le _, h0⟩, ?_⟩
  rintro i m H ⟨rfl, hi, p⟩
  have q := hG i H hi p
  by_cases c : i < n
  · exact .inr ⟨wk.goes i H c q, Pv (i + 1), fun H' p' => ⟨n - (i + 1), by omega, rfl, c, p'⟩, fun x H' y => hs i x H H' c p (wk.yields i H x H' c q y)⟩
  · obtain rfl : i = n := by omega
    exact .inl ⟨wk.stops H q, hd H p⟩
end Ss
/-! min of a list of data that can be compared: which of them it is -/
namespace Md
open PySem PySem.Spec PyProof.Rows L2
open PySem.W (DatumOrd Datum minOf AlikeAll readsAll_len readsAll_atA cmpIn_lt iter_listW moved_old argBest_fold dataLt)
section
variable {α : Type} [DecidableEq α] [DatumOrd α]
theorem minOf_mem (x : α) : ∀ ys : List α, minOf x ys ∈ x :: ys := by
  intro ys
  unfold minOf
  induction ys generalizing x with
  | nil => exact List.mem_singleton.mpr rfl
  | cons y r ih =>
    rw [List.foldl_cons]
    have h := ih (if DatumOrd.lt y x = true then y else x)
    rcases List.mem_cons.mp h with z | z
    · rw [z]
      split
      · exact List.mem_cons_of_mem _ List.mem_cons_self
      · exact List.mem_cons_self
    · exact List.mem_cons_of_mem _ (List.mem_cons_of_mem _ z)
theorem minOf_le (ir : ∀ a : α, DatumOrd.lt a a = false) (asy : ∀ a b : α, DatumOrd.lt a b = true → DatumOrd.lt b a = false) (tr : ∀ a b c : α, DatumOrd.lt a b = false → DatumOrd.lt b c = false → DatumOrd.lt a c = false) (x : α) : ∀ ys : List α, ∀ z ∈ x :: ys, DatumOrd.lt z (minOf x ys) = false := by
  intro ys
  unfold minOf
  induction ys generalizing x with
  | nil =>
    intro z hz
    rw [List.mem_singleton.mp hz]
    exact ir x
  | cons y r ih =>
    intro z hz
    rw [List.foldl_cons]
    have h := ih (if DatumOrd.lt y x = true then y else x)
    by_cases c : DatumOrd.lt y x = true
    · rw [if_pos c] at h ⊢
      rcases List.mem_cons.mp hz with e | hz
      · rw [e]
        exact tr x y _ (asy y x c) (h y List.mem_cons_self)
      · exact h z hz
    · rw [if_neg c] at h ⊢
      have c : DatumOrd.lt y x = false := by
        cases q : DatumOrd.lt y x with
        | false => rfl
        | true => exact absurd q c
      rcases List.mem_cons.mp hz with e | hz
      · rw [e]
        exact h x List.mem_cons_self
      · rcases List.mem_cons.mp hz with e | hz
        · rw [e]
          exact tr y x _ c (h x List.mem_cons_self)
        · exact h z (List.mem_cons_of_mem _ hz)
end
/-- min(xs): the item at a place of the least -/
def rMinG (α : Type) [DecidableEq α] [DatumOrd α] (K : PySem.W.Frag) : List V → Hp → VK → Prop := fun vs H Q => ∃ (a : Addr) (xs : List V) (x : α) (ys : List α), vs = [.ref a] ∧ SqL K H a xs ∧ DpAll K H xs ((x :: ys).map Datum.toD) ∧ Datum.depth α ≤ 60 ∧
  ∀ (i : Nat) (v : V), xs[i]? = some v → (x :: ys)[i]? = some (minOf x ys) → Q v H
theorem cr_minG {X : Cx} {α : Type} [DecidableEq α] [DatumOrd α] (hc : X.calm = true) (hu : X.A.units + 64 < cLine) : CallR X (.builtin "min") (rMinG α X.K) := by
  intro pins s σ H vs us Q I r h
  obtain ⟨a, xs, x, ys, rfl, hs, hd, hdep, q⟩ := h
  obtain ⟨its, rv, hl, -⟩ := I.list hs
  rw [Vals.ref1 r]
  obtain ⟨as, hr⟩ := Dp.readsAll I _ _ _ hd rv
  have hl : s.heap.IsList a its.toArray := hl.isList
  have hr' : ReadsAll s.heap its.toArray.toList (Datum.toD x :: ys.map Datum.toD) as := hr
  have hn : its.toArray.size = ys.length + 1 := by rw [readsAll_len hr']; simp
  have hdd : PyData.depthAll (Datum.toD x :: ys.map Datum.toD) ≤ 60 := Nat.le_trans (PySem.W.depthAll_map (x :: ys)) hdep
  refine PySem.call_min_walkH (iter_listW (A := X.A.in1) (I.ok.hd hc) hl fun s2 e W st hfp hw hk => ?_)
  refine ⟨_, _, _, _, _, _, _, s.heap, _, rfl, W, st, hfp, by omega, hw, hk, cmpIn_lt (A := X.A.in1) hr' (PySem.W.alikeAll_datum (x :: ys)) (by show X.A.units + 1 + _ < _; omega), fun v s' hP m => ?_⟩
  obtain ⟨h', tk, rfl, hk'⟩ := moved_old e rfl m
  have e1 : its.toArray.size - 1 = (ys.map Datum.toD (α := α)).length := by rw [List.length_map]; omega
  rw [e1] at hP
  have f := argBest_fold dataLt PyData.none (Datum.toD x) (ys.map Datum.toD) (ys.map Datum.toD).length (Nat.le_refl _)
  generalize argBest (fun i j => dataLt ((Datum.toD x :: ys.map Datum.toD).getD i .none) ((Datum.toD x :: ys.map Datum.toD).getD j .none)) (ys.map Datum.toD).length = j at f hP
  rw [List.take_length] at f
  have f2 : (Datum.toD x :: ys.map Datum.toD).getD j .none = Datum.toD (minOf x ys) := f.2.trans (PySem.W.minD_map x ys)
  have hj : j < (x :: ys).length := by
    have := f.1
    rw [List.length_map] at this
    rw [List.length_cons]
    omega
  have g : (x :: ys)[j]? = some (minOf x ys) := by
    rw [List.getElem?_eq_getElem hj]
    congr 1
    have z : (Datum.toD x :: ys.map Datum.toD)[j]? = some (Datum.toD (x :: ys)[j]) := by
      show ((x :: ys).map Datum.toD)[j]? = _
      rw [List.getElem?_map, List.getElem?_eq_getElem hj]
      rfl
    rw [List.getD_eq_getElem?_getD, z] at f2
    have f3 : Datum.toD (x :: ys)[j] = Datum.toD (minOf x ys) := f2
    have f4 := Datum.eqv (x :: ys)[j] (minOf x ys)
    have f5 := Datum.eqv (minOf x ys) (minOf x ys)
    rw [f3, f5] at f4
    have : decide ((x :: ys)[j] = minOf x ys) = true := by rw [← f4]; exact decide_eq_true rfl
    exact of_decide_eq_true this
  have hP : its[j]? = some v := by simpa using hP
  have hjx : j < xs.length := by
    rw [rv.length]
    exact (List.getElem?_eq_some_iff.mp hP).1
  obtain ⟨u0, hu0, ru0⟩ := Vals.get rv (List.getElem?_eq_getElem hjx)
  rw [hP] at hu0
  cases hu0
  exact ⟨xs[j], H, I.kept hk', ru0, q j _ (List.getElem?_eq_getElem hjx) g⟩
end Md
/-! shortest roads as mathematics: steps to a goal, the least of the shortest -/
namespace Rm
abbrev Nd := List Nat
section
variable (R : Nd → Nd → Prop) (F : Nd → Prop)
/-- a walk of n steps to a goal -/
def Wk : Nat → Nd → Prop
  | 0, x => F x
  | n + 1, x => ∃ y, R x y ∧ Wk n y
/-- it is n steps away -/
def Ds (n : Nat) (x : Nd) : Prop := Wk R F n x ∧ ∀ m, m < n → ¬ Wk R F m x
variable {R F}
theorem Ds.eq {n m : Nat} {x : Nd} (h : Ds R F n x) (k : Ds R F m x) : n = m := by
  rcases Nat.lt_trichotomy n m with c | c | c
  · exact absurd h.1 (k.2 n c)
  · exact c
  · exact absurd k.1 (h.2 m c)
theorem wk_ds : ∀ (n : Nat) {x : Nd}, Wk R F n x → ∃ m, m ≤ n ∧ Ds R F m x := by
  intro n
  induction n using Nat.strongRecOn with
  | ind n ih =>
    intro x h
    by_cases c : ∃ m, m < n ∧ Wk R F m x
    · obtain ⟨m, hm, hw⟩ := c
      obtain ⟨k, hk, hd⟩ := ih m hm hw
      exact ⟨k, by omega, hd⟩
    · exact ⟨n, Nat.le_refl _, h, fun m hm hw => c ⟨m, hm, hw⟩⟩
theorem Ds.down {n : Nat} {x : Nd} (h : Ds R F (n + 1) x) : ∃ y, R x y ∧ Ds R F n y := by
  obtain ⟨⟨y, h1, h2⟩, hm⟩ := h
  exact ⟨y, h1, h2, fun m hmn hw => hm (m + 1) (by omega) ⟨y, h1, hw⟩⟩
theorem Ds.next {n : Nat} {x y : Nd} (h : Ds R F (n + 1) x) (r : R x y) (w : Wk R F n y) : Ds R F n y := ⟨w, fun m hm hw => h.2 (m + 1) (by omega) ⟨y, r, hw⟩⟩
theorem ds_succ {n : Nat} {x : Nd} : Ds R F (n + 1) x ↔ (∃ y, R x y ∧ Ds R F n y) ∧ ∀ m, m ≤ n → ¬ Ds R F m x := by
  constructor
  · intro h
    exact ⟨h.down, fun m hm hd => by have := h.eq hd; omega⟩
  · rintro ⟨⟨y, h1, h2⟩, hm⟩
    refine ⟨⟨y, h1, h2.1⟩, fun m hmn hw => ?_⟩
    obtain ⟨k, hk, hd⟩ := wk_ds m hw
    exact hm k (by omega) hd
theorem ds_zero {x : Nd} : Ds R F 0 x ↔ F x := ⟨fun h => h.1, fun h => ⟨h, fun m hm => absurd hm (Nat.not_lt_zero _)⟩⟩
theorem ds_none {m : Nat} (h : ∀ x, ¬ Ds R F m x) : ∀ n x, m ≤ n → ¬ Ds R F n x := by
  intro n
  induction n with
  | zero =>
    intro x hm
    have : m = 0 := by omega
    subst this
    exact h x
  | succ n ih =>
    intro x hm hd
    by_cases c : m = n + 1
    · subst c
      exact h x hd
    · obtain ⟨y, _, hy⟩ := hd.down
      exact ih y (by omega) hy
/-- the least of those with a property -/
def Lst (P : Nd → Prop) (y : Nd) : Prop := P y ∧ ∀ z, P z → ¬ z < y
theorem Lst.eq {P : Nd → Prop} {y z : Nd} (a : Lst P y) (b : Lst P z) : y = z := List.le_antisymm (List.not_lt.mp (a.2 z b.1)) (List.not_lt.mp (b.2 y a.1))
variable (R F)
/-- the least of the shortest roads -/
def Gr : Nat → Nd → List Nd → Prop
  | 0, x, r => F x ∧ r = [x]
  | n + 1, x, r => ∃ y t, Lst (fun y => R x y ∧ Ds R F n y) y ∧ Gr n y t ∧ r = x :: t
variable {R F}
theorem Gr.eq : ∀ {n : Nat} {x : Nd} {r t : List Nd}, Gr R F n x r → Gr R F n x t → r = t
  | 0, _, _, _, h, k => h.2.trans k.2.symm
  | n + 1, x, _, _, ⟨y, r, h1, h2, h3⟩, ⟨z, t, k1, k2, k3⟩ => by
    have := h1.eq k1
    subst this
    rw [h3, k3, h2.eq k2]
theorem Gr.len : ∀ {n : Nat} {x : Nd} {r : List Nd}, Gr R F n x r → r.length = n + 1
  | 0, _, _, h => by rw [h.2]; rfl
  | n + 1, _, _, ⟨y, t, _, h2, h3⟩ => by rw [h3, List.length_cons, h2.len]
theorem Gr.head : ∀ {n : Nat} {x : Nd} {r : List Nd}, Gr R F n x r → r.head? = some x
  | 0, _, _, h => by rw [h.2]; rfl
  | n + 1, _, _, ⟨y, t, _, h2, h3⟩ => by rw [h3]; rfl
theorem Gr.last : ∀ {n : Nat} {x : Nd} {r : List Nd}, Gr R F n x r → ∃ z, r.getLast? = some z ∧ F z
  | 0, x, _, h => ⟨x, by rw [h.2]; rfl, h.1⟩
  | n + 1, x, _, ⟨y, t, _, h2, h3⟩ => by
    obtain ⟨z, e, f⟩ := h2.last
    refine ⟨z, ?_, f⟩
    rw [h3]
    cases t with
    | nil => cases e
    | cons a t => rw [List.getLast?_cons_cons]; exact e
/-- a walk, its places told: p begins with x and its neighbours are related -/
def Pth (R : Nd → Nd → Prop) : Nd → List Nd → Prop
  | x, [] => False
  | x, [y] => x = y
  | x, y :: z :: t => x = y ∧ R x z ∧ Pth R z (z :: t)
theorem pth_cons {x : Nd} {p : List Nd} (h : Pth R x p) : ∃ t, p = x :: t := by
  match p, h with
  | [y], h => exact ⟨[], by rw [show x = y from h]⟩
  | y :: z :: t, h => exact ⟨z :: t, by rw [h.1]⟩
theorem pth_snoc : ∀ {p : List Nd} {x z : Nd}, Pth R x p → (∀ y, p.getLast? = some y → R y z) → Pth R x (p ++ [z])
  | [y], x, z, h, k => ⟨h, by rw [show x = y from h]; exact k y rfl, rfl⟩
  | y :: w :: t, x, z, h, k => ⟨h.1, h.2.1, pth_snoc (p := w :: t) h.2.2 fun y' e => k y' (by rw [List.getLast?_cons_cons]; exact e)⟩
theorem pth_init : ∀ {p : List Nd} {x z : Nd}, p ≠ [] → Pth R x (p ++ [z]) → Pth R x p ∧ ∀ y, p.getLast? = some y → R y z
  | [y], x, z, _, h => ⟨h.1, fun y' e => by
      have : y = y' := Option.some.inj e
      rw [← this, ← h.1]
      exact h.2.1⟩
  | y :: w :: t, x, z, _, h => by
    obtain ⟨h1, h2⟩ := pth_init (p := w :: t) (by simp) h.2.2
    exact ⟨⟨h.1, h.2.1, h1⟩, fun y' e => h2 y' (by rw [List.getLast?_cons_cons] at e; exact e)⟩
theorem pth_wk : ∀ {p : List Nd} {x z : Nd}, Pth R x p → p.getLast? = some z → F z → Wk R F (p.length - 1) x
  | [y], x, z, h, e, f => by
    have : y = z := Option.some.inj e
    show F x
    rw [show x = y from h, this]
    exact f
  | y :: w :: t, x, z, h, e, f => ⟨w, h.2.1, pth_wk (p := w :: t) h.2.2 (by rw [List.getLast?_cons_cons] at e; exact e) f⟩
theorem gr_pth : ∀ {n : Nat} {x : Nd} {r : List Nd}, Gr R F n x r → Pth R x r
  | 0, x, _, h => by rw [h.2]; rfl
  | n + 1, x, _, ⟨y, t, h1, h2, h3⟩ => by
    have hp := gr_pth h2
    obtain ⟨u, rfl⟩ := pth_cons hp
    rw [h3]
    exact ⟨rfl, h1.1.1, hp⟩
/-- on it each is nearer than the one ahead -/
theorem gr_ds : ∀ {n : Nat} {x : Nd} {r : List Nd}, Gr R F n x r → Ds R F n x → ∀ (i : Nat) (z : Nd), r[i]? = some z → i ≤ n ∧ Ds R F (n - i) z
  | 0, x, _, h, d, i, z, e => by
    rw [h.2] at e
    match i, e with
    | 0, e =>
      have : x = z := Option.some.inj e
      rw [← this]
      exact ⟨Nat.le_refl _, d⟩
  | n + 1, x, _, ⟨y, t, h1, h2, h3⟩, d, i, z, e => by
    rw [h3] at e
    match i, e with
    | 0, e =>
      have : x = z := Option.some.inj e
      rw [← this]
      exact ⟨Nat.zero_le _, d⟩
    | i + 1, e =>
      obtain ⟨h4, h5⟩ := gr_ds h2 h1.1.2 i z e
      exact ⟨by omega, by rw [show n + 1 - (i + 1) = n - i by omega]; exact h5⟩
theorem gr_nodup {n : Nat} {x : Nd} {r : List Nd} (h : Gr R F n x r) (d : Ds R F n x) : r.Nodup := by
  rw [List.nodup_iff_pairwise_ne, List.pairwise_iff_getElem]
  intro i j hi hj hij e
  obtain ⟨h1, h2⟩ := gr_ds h d i _ (List.getElem?_eq_getElem hi)
  obtain ⟨h3, h4⟩ := gr_ds h d j _ (List.getElem?_eq_getElem hj)
  rw [e] at h2
  have := h2.eq h4
  omega
end
/-- the order of roads: the first unlike places, else the shorter -/
def rLt : List Nd → List Nd → Bool
  | [], [] => false
  | [], _ :: _ => true
  | _ :: _, [] => false
  | x :: xs, y :: ys => if x = y then rLt xs ys else decide (x < y)
theorem rLt_self : ∀ a : List Nd, rLt a a = false
  | [] => rfl
  | x :: xs => by
    show (if x = x then rLt xs xs else decide (x < x)) = false
    rw [if_pos rfl, rLt_self xs]
theorem lt_asym {x y : Nd} (h : x < y) : ¬ y < x := fun k => List.lt_irrefl _ (List.lt_trans h k)
theorem rLt_asy : ∀ a b : List Nd, rLt a b = true → rLt b a = false
  | [], [], h => by cases h
  | [], _ :: _, _ => rfl
  | _ :: _, [], h => by cases h
  | x :: xs, y :: ys, h => by
    have h : (if x = y then rLt xs ys else decide (x < y)) = true := h
    show (if y = x then rLt ys xs else decide (y < x)) = false
    by_cases c : x = y
    · rw [if_pos c] at h
      rw [if_pos c.symm]
      exact rLt_asy xs ys h
    · rw [if_neg c] at h
      rw [if_neg (fun z => c z.symm)]
      exact decide_eq_false (lt_asym (of_decide_eq_true h))
theorem rLt_tr : ∀ a b c : List Nd, rLt a b = false → rLt b c = false → rLt a c = false
  | [], [], _, _, k => k
  | [], _ :: _, _, h, _ => by cases h
  | _ :: _, _, [], _, _ => rfl
  | _ :: _, [], _ :: _, _, k => by cases k
  | x :: xs, y :: ys, z :: zs, h, k => by
    have h : (if x = y then rLt xs ys else decide (x < y)) = false := h
    have k : (if y = z then rLt ys zs else decide (y < z)) = false := k
    show (if x = z then rLt xs zs else decide (x < z)) = false
    by_cases c : x = y
    · subst c
      rw [if_pos rfl] at h
      by_cases c2 : x = z
      · rw [if_pos c2] at k ⊢
        exact rLt_tr xs ys zs h k
      · rw [if_neg c2] at k ⊢
        exact k
    · rw [if_neg c] at h
      have h := List.not_lt.mp (of_decide_eq_false h)
      by_cases c2 : y = z
      · subst c2
        rw [if_neg c]
        exact decide_eq_false (List.not_lt.mpr h)
      · rw [if_neg c2] at k
        have k := List.not_lt.mp (of_decide_eq_false k)
        have hk := List.le_trans k h
        by_cases c3 : x = z
        · subst c3
          exact absurd (List.le_antisymm h k) (fun e => c e.symm)
        · rw [if_neg c3]
          exact decide_eq_false (List.not_lt.mpr hk)
theorem rLt_anti : ∀ a b : List Nd, rLt a b = false → rLt b a = false → a = b
  | [], [], _, _ => rfl
  | [], _ :: _, h, _ => by cases h
  | _ :: _, [], _, k => by cases k
  | x :: xs, y :: ys, h, k => by
    have h : (if x = y then rLt xs ys else decide (x < y)) = false := h
    have k : (if y = x then rLt ys xs else decide (y < x)) = false := k
    by_cases c : x = y
    · subst c
      rw [if_pos rfl] at h k
      rw [rLt_anti xs ys h k]
    · rw [if_neg c] at h
      rw [if_neg (fun z => c z.symm)] at k
      exact absurd (List.le_antisymm (List.not_lt.mp (of_decide_eq_false k)) (List.not_lt.mp (of_decide_eq_false h))) c
/-- none of the roads of as many steps is less -/
theorem gr_least {R : Nd → Nd → Prop} {F : Nd → Prop} : ∀ {n : Nat} {x : Nd} {r p : List Nd} {z : Nd}, Gr R F n x r → Ds R F n x → Pth R x p → p.length = n + 1 → p.getLast? = some z → F z → rLt p r = false
  | 0, x, _, p, z, h, d, hp, hl, e, f => by
    obtain ⟨t, rfl⟩ := pth_cons hp
    have : t = [] := List.eq_nil_of_length_eq_zero (by rw [List.length_cons] at hl; omega)
    rw [h.2, this]
    exact rLt_self _
  | n + 1, x, _, p, z, ⟨y, t, h1, h2, h3⟩, d, hp, hl, e, f => by
    match p, hp, hl, e with
    | y' :: w :: u, hp, hl, e =>
      have e2 : (w :: u).getLast? = some z := by rw [List.getLast?_cons_cons] at e; exact e
      have l2 : (w :: u).length = n + 1 := by rw [List.length_cons] at hl; omega
      have hw : Wk R F n w := by
        have := pth_wk hp.2.2 e2 f
        rw [l2] at this
        exact this
      have dw : Ds R F n w := d.next hp.2.1 hw
      have nl : ¬ w < y := h1.2 w ⟨hp.2.1, dw⟩
      rw [h3, ← hp.1]
      show (if x = x then rLt (w :: u) t else decide (x < x)) = false
      rw [if_pos rfl]
      obtain ⟨t', rfl⟩ := pth_cons (gr_pth h2)
      by_cases c : w = y
      · subst c
        exact gr_least h2 dw hp.2.2 l2 e2 f
      · show (if w = y then rLt u t' else decide (w < y)) = false
        rw [if_neg c]
        exact decide_eq_false nl
/-- among finitely many there is a least -/
theorem lst_ex : ∀ {ls : List Nd} {P : Nd → Prop}, (∀ y, P y → y ∈ ls) → (∃ y, P y) → ∃ y, Lst P y
  | [], P, h, ⟨y, hy⟩ => by cases h y hy
  | a :: r, P, h, ⟨y, hy⟩ => by
    by_cases c : ∃ z, P z ∧ z ≠ a
    · obtain ⟨y, hy, hl⟩ := lst_ex (ls := r) (P := fun z => P z ∧ z ≠ a) (fun z hz => (List.mem_cons.mp (h z hz.1)).elim (fun e => absurd e hz.2) id) c
      by_cases ha : P a ∧ a < y
      · refine ⟨a, ha.1, fun z hz hlt => ?_⟩
        by_cases e : z = a
        · rw [e] at hlt
          exact List.lt_irrefl _ hlt
        · exact hl z ⟨hz, e⟩ (List.lt_trans hlt ha.2)
      · refine ⟨y, hy.1, fun z hz hlt => ?_⟩
        by_cases e : z = a
        · rw [e] at hlt hz
          exact ha ⟨hz, hlt⟩
        · exact hl z ⟨hz, e⟩ hlt
    · have : ∀ z, P z → z = a := fun z hz => Classical.byContradiction fun e => c ⟨z, hz, e⟩
      have e := this y hy
      refine ⟨y, hy, fun z hz hlt => ?_⟩
      rw [this z hz, e] at hlt
      exact List.lt_irrefl _ hlt
theorem gr_ex {R : Nd → Nd → Prop} {F : Nd → Prop} {ls : List Nd} (hf : ∀ n y, Ds R F n y → y ∈ ls) : ∀ (n : Nat) {x : Nd}, Ds R F n x → ∃ r, Gr R F n x r
  | 0, x, h => ⟨[x], h.1, rfl⟩
  | n + 1, x, h => by
    obtain ⟨y, hy⟩ := lst_ex (ls := ls) (P := fun y => R x y ∧ Ds R F n y) (fun y hy => hf n y hy.2) h.down
    obtain ⟨t, ht⟩ := gr_ex hf n hy.1.2
    exact ⟨x :: t, y, t, hy, ht, rfl⟩
theorem pth_mem {R : Nd → Nd → Prop} {ls : List Nd} (hr : ∀ y z, R y z → z ∈ ls) : ∀ {p : List Nd} {x : Nd}, Pth R x p → x ∈ ls → ∀ z ∈ p, z ∈ ls
  | [y], x, h, hx, z, hz => by
    rw [List.mem_singleton.mp hz, ← show x = y from h]
    exact hx
  | y :: w :: t, x, h, hx, z, hz => by
    rcases List.mem_cons.mp hz with e | e
    · rw [e, ← h.1]
      exact hx
    · exact pth_mem hr (p := w :: t) h.2.2 (hr _ _ h.2.1) z e
theorem ne_snoc {α : Type} {p : List α} (h : p ≠ []) : ∃ q z, p = q ++ [z] := ⟨p.dropLast, p.getLast h, (List.dropLast_concat_getLast h).symm⟩
/-- roads of unlike places, t steps long -/
def SP (R : Nd → Nd → Prop) (x : Nd) (t : Nat) (p : List Nd) : Prop := Pth R x p ∧ p.length = t + 1 ∧ p.Nodup
theorem sp_zero {R : Nd → Nd → Prop} {x : Nd} {p : List Nd} : SP R x 0 p ↔ p = [x] := by
  constructor
  · rintro ⟨h1, h2, _⟩
    obtain ⟨t, rfl⟩ := pth_cons h1
    rw [List.eq_nil_of_length_eq_zero (l := t) (by rw [List.length_cons] at h2; omega)]
  · rintro rfl
    exact ⟨rfl, rfl, by simp⟩
theorem SP.ne {R : Nd → Nd → Prop} {x : Nd} {t : Nat} {p : List Nd} (h : SP R x t p) : p ≠ [] := fun e => by
  have := h.2.1
  rw [e] at this
  cases this
theorem sp_succ {R : Nd → Nd → Prop} {x : Nd} {t : Nat} {q : List Nd} : SP R x (t + 1) q ↔ ∃ p y z, SP R x t p ∧ p.getLast? = some y ∧ (z ≠ y ∧ R y z) ∧ z ∉ p ∧ q = p ++ [z] := by
  constructor
  · intro h
    obtain ⟨p, z, rfl⟩ := ne_snoc h.ne
    obtain ⟨h1, h2, h3⟩ := h
    rw [List.length_append, List.length_singleton] at h2
    have pn : p ≠ [] := fun e => by rw [e] at h2; simp at h2
    obtain ⟨h4, h5⟩ := pth_init pn h1
    obtain ⟨p', y, rfl⟩ := ne_snoc pn
    obtain ⟨n1, n2, n3⟩ := List.nodup_append.mp h3
    have zn : z ∉ p' ++ [y] := fun hz => n3 z hz z (List.mem_singleton.mpr rfl) rfl
    have ey : (p' ++ [y]).getLast? = some y := by simp
    exact ⟨p' ++ [y], y, z, ⟨h4, by omega, n1⟩, ey, ⟨fun e => zn (by rw [e]; simp), h5 y ey⟩, zn, rfl⟩
  · rintro ⟨p, y, z, ⟨h1, h2, h3⟩, hy, ⟨_, hr⟩, hz, rfl⟩
    refine ⟨pth_snoc h1 fun y' e => ?_, by rw [List.length_append, List.length_singleton, h2], List.nodup_append.mpr ⟨h3, by simp, fun a ha b hb e => ?_⟩⟩
    · rw [hy] at e
      have : y = y' := Option.some.inj e
      rw [← this]
      exact hr
    · rw [List.mem_singleton.mp hb] at e
      rw [e] at ha
      exact hz ha
end Rm
/-! tuple + tuple and slices of tuples, whichever object comes -/
namespace Th
open PySem PySem.Spec PyProof.Rows L2
def rCatS (K : PySem.W.Frag) : R2 := fun x y H Q => ∃ (a b : Addr) (xs ys : List V), x = .ref a ∧ y = .ref b ∧ H a = some (.tup xs) ∧ H b = some (.tup ys) ∧ xs.length + ys.length ≤ sizeLine ∧ ∀ (c : Addr) (H' : Hp), Same H H' → H' c = some (.tup (xs ++ ys)) → Q (.ref c) H'
theorem op_catS {X : Cx} : OpR X (binaryOp .Add) (rCatS X.K) := by
  intro pins s σ H x y v u Q I rx ry h
  obtain ⟨a, b, xs, ys, rfl, rfl, hx, hy, hz, h⟩ := h
  exact op_catA pins s σ H _ _ v u Q I rx ry ⟨a, b, xs, ys, rfl, rfl, SqT.of hx, SqT.of hy, hz, fun e => h b H (.refl _) (by rw [hy, e]; rfl), fun _ e => h a H (.refl _) (by rw [hx, e, List.append_nil]), fun _ _ p np => h p _ (same_upd np) upd_same⟩
def rSlS (K : PySem.W.Frag) : V → Option Int → Option Int → Hp → VK → Prop := fun x lo hi H Q => ∃ (a : Addr) (xs : List V), x = .ref a ∧ H a = some (.tup xs) ∧ ∀ (c : Addr) (H' : Hp), Same H H' → H' c = some (.tup (cutV xs lo hi)) → Q (.ref c) H'
theorem sl_tupS {X : Cx} : SlR X (rSlS X.K) := by
  intro pins s σ H x v vl vu lo hi sl Q I rx hs pl pu h
  obtain ⟨a, xs, rfl, hx, h⟩ := h
  exact sl_tupA pins s σ H _ v vl vu lo hi sl Q I rx hs pl pu ⟨a, xs, rfl, SqT.of hx, fun e => h a H (.refl _) (by rw [hx]; unfold cutV; rw [e.1, e.2, List.drop_zero, Nat.sub_zero, List.take_length]), fun _ p np => h p _ (same_upd np) upd_same⟩
end Th
namespace Th
open PySem PySem.Spec PyProof.Rows L2
/-! names, pairs, what stays -/
abbrev nS (l : List Nat) : V := .str (SX.S l)
def Lower (l : List Nat) : Prop := ∀ c ∈ l, 97 ≤ c ∧ c ≤ 122
/-- a name: one to eight letters -/
def IsNm (l : List Nat) : Prop := 1 ≤ l.length ∧ l.length ≤ 8 ∧ Lower l
abbrev abc : Str := Str.ofString "abcdefghijklmnopqrstuvwxyz"
theorem abc_list : abc.cps.toList = (List.range 26).map (97 + ·) := by decide +kernel
theorem abc_at {d : Int} (h0 : 0 ≤ d) (h1 : d < 26) : atI abc.cps.toList d = some (97 + d.toNat) := by
  obtain ⟨j, rfl⟩ : ∃ j : Nat, d = (j : Int) := ⟨d.toNat, by omega⟩
  refine atI_nat ?_
  rw [abc_list, List.getElem?_map, List.getElem?_range (by omega)]
  rfl
theorem joinL_one : ∀ cs : List Nat, TL.joinL [] (cs.map fun c => [c]) = cs
  | [] => rfl
  | [_] => rfl
  | c :: d :: cs => by
    show [c] ++ ([] ++ TL.joinL [] ((d :: cs).map fun c => [c])) = _
    rw [joinL_one (d :: cs)]
    rfl
theorem join_signs (cs : List Nat) : Txt.join (SX.S []) ((cs.map fun c => [c]).map SX.S) = SX.S cs := by rw [SX.join_S, joinL_one]
theorem p26 : (0 : Int) < 26 := by decide
theorem paired_snoc {α β : Type} {R : α → β → Prop} : ∀ {as : List α} {bs : List β} {a : α} {b : β}, Paired R as bs → R a b → Paired R (as ++ [a]) (bs ++ [b])
  | _, _, _, _, .nil, r => .cons r .nil
  | _, _, _, _, .cons q t, r => .cons q (paired_snoc t r)
theorem paired_imp {α β : Type} {R S : α → β → Prop} : ∀ {as : List α} {bs : List β}, Paired R as bs → (∀ a ∈ as, ∀ b, R a b → S a b) → Paired S as bs
  | _, _, .nil, _ => .nil
  | _, _, .cons q t, f => .cons (f _ (List.mem_cons_self ..) _ q) (paired_imp t fun a ha b r => f a (List.mem_cons_of_mem _ ha) b r)
theorem paired_get {α β : Type} {R : α → β → Prop} : ∀ {as : List α} {bs : List β} {i : Nat} {a : α}, Paired R as bs → as[i]? = some a → ∃ b, bs[i]? = some b ∧ R a b
  | _, _, _, _, .nil, h => by simp at h
  | _, _, 0, _, .cons q t, h => by
    have e := Option.some.inj h
    subst e
    exact ⟨_, rfl, q⟩
  | _, _, i + 1, _, .cons q t, h => paired_get (i := i) t h
theorem paired_len {α β : Type} {R : α → β → Prop} : ∀ {as : List α} {bs : List β}, Paired R as bs → as.length = bs.length
  | _, _, .nil => rfl
  | _, _, .cons _ t => congrArg Nat.succ (paired_len t)
theorem one_sz {x : V} : [x].length ≤ sizeLine := by show 1 ≤ sizeLine; decide
theorem paired_append {α β : Type} {R : α → β → Prop} : ∀ {as cs : List α} {bs ds : List β}, Paired R as bs → Paired R cs ds → Paired R (as ++ cs) (bs ++ ds)
  | _, _, _, _, .nil, h => h
  | _, _, _, _, .cons q t, h => .cons q (paired_append t h)
theorem paired_take {α β : Type} {R : α → β → Prop} : ∀ {as : List α} {bs : List β} (n : Nat), Paired R as bs → Paired R (as.take n) (bs.take n)
  | _, _, 0, _ => by rw [List.take_zero, List.take_zero]; exact .nil
  | _, _, n + 1, .nil => .nil
  | _, _, n + 1, .cons q t => .cons q (paired_take n t)
theorem cut_to (xs : List V) (j : Nat) : cutV xs none (some (j : Int)) = xs.take j := by
  unfold cutV
  rw [HT.sIx_none, HT.sIx_nat, List.drop_zero, Nat.sub_zero]
  by_cases h : j ≤ xs.length
  · rw [Nat.min_eq_left h]
  · rw [Nat.min_eq_right (by omega), List.take_of_length_le (Nat.le_refl _), List.take_of_length_le (by omega)]
abbrev Nm := List Nat
def TK (H H' : Hp) : Prop := ∀ a xs, H a = some (.tup xs) → H' a = some (.tup xs)
theorem TK.of {H H' : Hp} (s : Same H H') : TK H H' := fun a xs e => s a _ e
theorem TK.trans {H H' H2 : Hp} (a : TK H H') (b : TK H' H2) : TK H H2 := fun c xs e => b c xs (a c xs e)
theorem TK.keep {p : Addr} {H H' : Hp} (k : Keep p H H') (b : Bag H p) : TK H H' := fun a xs e => k a _ (fun z => by
  obtain ⟨g, r, e', _⟩ := b
  rw [z, e'] at e
  cases e) e
theorem TK.upd {c : Addr} {H : Hp} {o : HO} (h : ∀ xs, H c ≠ some (.tup xs)) : TK H (upd H c o) := fun a xs e => by
  rw [upd_ne (fun z => h xs (by rw [← z]; exact e))]
  exact e
theorem Keep.set {p S : Addr} {H H' : Hp} {o : HO} (k : Keep p H H') (n : H S = none) : Keep p H (L2.upd H' S o) := fun c o nc ec => by
  rw [upd_ne (ne_of_none ec n)]
  exact k c o nc ec
theorem same_set {S : Addr} {H H' : Hp} {o : HO} (k : Same H H') (n : H S = none) : Same H (upd H' S o) := fun c o ec => by
  rw [upd_ne (ne_of_none ec n)]
  exact k c o ec
theorem two_sz {x y : V} : [x, y].length ≤ sizeLine := by show 2 ≤ sizeLine; decide
theorem four_sz {x y z u : V} : [x, y, z, u].length ≤ sizeLine := by show 4 ≤ sizeLine; decide
theorem paired_drop {α β : Type} {R : α → β → Prop} : ∀ {as : List α} {bs : List β} (n : Nat), Paired R as bs → Paired R (as.drop n) (bs.drop n)
  | _, _, 0, h => h
  | _, _, n + 1, .nil => .nil
  | _, _, n + 1, .cons q t => paired_drop n t
theorem paired_ins {α β : Type} {R : α → β → Prop} {as : List α} {bs : List β} (n : Nat) {a : α} {b : β} (h : Paired R as bs) (r : R a b) : Paired R (as.take n ++ [a] ++ as.drop n) (bs.take n ++ [b] ++ bs.drop n) :=
  paired_append (paired_append (paired_take n h) (.cons r .nil)) (paired_drop n h)
theorem perm_ins {α : Type} (xs : List α) (n : Nat) (x : α) : (xs.take n ++ [x] ++ xs.drop n).Perm (xs ++ [x]) := by
  have h1 : (xs.take n ++ [x] ++ xs.drop n).Perm (x :: (xs.take n ++ xs.drop n)) := by
    rw [List.append_assoc]
    exact List.perm_middle
  rw [List.take_append_drop] at h1
  exact h1.trans (List.perm_append_comm (l₁ := [x]) (l₂ := xs))
theorem ins_map {xs : List Addr} {n : Nat} {x : Addr} : (xs.map V.ref).take n ++ [V.ref x] ++ (xs.map V.ref).drop n = (xs.take n ++ [x] ++ xs.drop n).map V.ref := by
  simp only [List.map_append, List.map_take, List.map_drop, List.map_cons, List.map_nil]
theorem nodup_inj {α : Type} {zs : List α} (h : zs.Nodup) {x y : Nat} {z : α} (h1 : zs[x]? = some z) (h2 : zs[y]? = some z) : x = y := by
  rw [List.nodup_iff_pairwise_ne, List.pairwise_iff_getElem] at h
  obtain ⟨l1, g1⟩ := List.getElem?_eq_some_iff.mp h1
  obtain ⟨l2, g2⟩ := List.getElem?_eq_some_iff.mp h2
  rcases Nat.lt_trichotomy x y with c | c | c
  · exact absurd (g1.trans g2.symm) (h x y l1 l2 c)
  · exact c
  · exact absurd (g2.trans g1.symm) (h y x l2 l1 c)
theorem nm_ok {z : Nm} (h : IsNm z) : PyData.strOk (SX.S z) = true := by
  unfold PyData.strOk
  rw [Array.all_eq_true']
  intro c hc
  have hc : c ∈ z := by simpa [SX.S] using hc
  have := h.2.2 c hc
  exact decide_eq_true (by omega)
end Th
/-! tuples told with their objects; dict of such; sorted of data -/
namespace Th
open PySem PySem.Spec PyProof.Rows L2
/-- the tuple xs at a, its object known to be plain -/
def TpF (H : Hp) (a : Addr) (xs : List V) : Prop := ∃ o : Obj, H a = some (.frz o (.tup xs)) ∧ o.dict = none
theorem TpF.sq {K : PySem.W.Frag} {H : Hp} {a : Addr} {xs : List V} (h : TpF H a xs) : SqT K H a xs := let ⟨o, e, _⟩ := h; .inl (.inr ⟨o, e⟩)
theorem TpF.same {H H' : Hp} {a : Addr} {xs : List V} (h : TpF H a xs) (s : Same H H') : TpF H' a xs := let ⟨o, e, d⟩ := h; ⟨o, s _ _ e, d⟩
theorem TpF.keep {p : Addr} {H H' : Hp} {a : Addr} {xs : List V} (h : TpF H a xs) (k : Keep p H H') (b : Bag H p) : TpF H' a xs := by
  obtain ⟨o, e, d⟩ := h
  refine ⟨o, k _ _ (fun z => ?_) e, d⟩
  obtain ⟨g, r, e', _⟩ := b
  rw [z, e'] at e
  cases e
def rTupF (K : PySem.W.Frag) : List V → Hp → VK → Prop := fun xs H Q => ∃ (p : Addr) (ys : List V), xs = [.ref p] ∧ SqL K H p ys ∧ ∀ (l : Addr) (H' : Hp), H l = none → Same H H' → TpF H' l ys → (∀ q, q ≠ l → H' q = H q) → Q (.ref l) H'
theorem call_tuple_ofF {X : Cx} : CallR X (.type "tuple") (rTupF X.K) := by
  intro pins s σ H xs us Q I r h
  obtain ⟨p, ys, rfl, hq, q⟩ := h
  obtain ⟨u, rfl, rx⟩ := vals1 r
  cases rx
  obtain ⟨its, r', pl, hz⟩ := I.list hq
  have hlen := r'.length
  refine call_tuple_list pl.isList (fun h' kp => ?_) (by simp only [List.size_toArray] <;> omega)
  have I1 : Inv X pins σ H { s with heap := h' } := I.kept (t' := s.toks) kp
  have I2 : Inv X pins σ (upd H h'.objs.size (.frz { cls := .type "tuple", data := .seq its.toArray } (.tup ys))) { s with heap := h'.push { cls := .type "tuple", data := .seq its.toArray } } :=
    I1.laid (t' := s.toks) (fun b o e => Heap.get?_push_of_some _ e) (Nat.le_refl _) (show ObjOk X.prog X.w _ _ _ (.frz _ (.tup ys)) from ⟨Heap.get?_push_size _ rfl, hz, its, r', IsTup.new _ _⟩)
  have nl := I1.hok.fresh (Nat.le_refl h'.objs.size)
  exact ⟨.ref h'.objs.size, _, I2, rfl, q _ _ nl (same_upd nl) ⟨_, upd_same, rfl⟩ fun q hq => upd_ne hq⟩
theorem choose_list {α β : Type} : ∀ {xs : List α} {R : Nat → α → β → Prop}, (∀ j x, xs[j]? = some x → ∃ y, R j x y) → ∃ ys : List β, ys.length = xs.length ∧ ∀ j y, ys[j]? = some y → ∃ x, xs[j]? = some x ∧ R j x y
  | [], _, _ => ⟨[], rfl, fun j y e => by simp at e⟩
  | x :: xs, R, h => by
    obtain ⟨y, hy⟩ := h 0 x rfl
    obtain ⟨ys, h1, h2⟩ := choose_list (xs := xs) (R := fun j => R (j + 1)) fun j x e => h (j + 1) x e
    refine ⟨y :: ys, by rw [List.length_cons, h1, List.length_cons], fun j z e => ?_⟩
    match j, e with
    | 0, e =>
      have : y = z := Option.some.inj e
      subst this
      exact ⟨x, rfl, hy⟩
    | j + 1, e => exact h2 j z e
def rDictF (K : PySem.W.Frag) : List V → Hp → VK → Prop := fun xs H Q => ∃ (a : Addr) (ps : List Addr) (kvs : List (Key × V)), xs = [.ref a] ∧ TpF H a (ps.map V.ref) ∧ Paired (fun p kv => SqT K H p [kV kv.1, kv.2]) ps kvs ∧
    ∀ p, H p = none → Q (.ref p) (upd H p (.dK (mergeK [] kvs)))
theorem call_dictF {X : Cx} (hcalm : X.calm = true) : CallR X (.type "dict") (rDictF X.K) := by
  intro pins s σ H xs us Q I r h
  obtain ⟨a, ps, kvs, rfl, ⟨ob, hob, hnd⟩, hp, q⟩ := h
  obtain ⟨u, rfl, rx⟩ := vals1 r
  cases rx
  obtain ⟨hg, hz, its, rv, o', ho', hc, n, hdat⟩ := (show ObjOk X.prog X.w H s.heap a (.frz ob (.tup (ps.map V.ref))) from I.hok a _ hob)
  rw [hg] at ho'
  cases ho'
  have ei := refs_at rv
  subst ei
  rw [List.length_map] at hz
  obtain ⟨prs, rel, hl, hpr⟩ := pairs_of I hp
  obtain ⟨vv, hvl, hvv⟩ := choose_list (R := fun j (q : Key × Value) (k : Value) => ∃ b, ps[j]? = some b ∧ IsTup s.heap b #[k, q.2] ∧ keyIs q.1 k = true) (xs := prs) fun j q e => let ⟨b, u, h⟩ := hpr j q e; ⟨u, b, h⟩
  have len : (vv.zip (prs.map (·.2))).length = ps.length := by rw [List.length_zip, List.length_map, hvl, hl]; omega
  have each : ∀ j k v, (vv.zip (prs.map (·.2)))[j]? = some (k, v) → ∃ (b : Addr) (q : Key × Value), ps[j]? = some b ∧ prs[j]? = some q ∧ v = q.2 ∧ IsTup s.heap b #[k, v] ∧ keyIs q.1 k = true := fun j k v e => by
    rw [List.getElem?_zip_eq_some, List.getElem?_map] at e
    obtain ⟨q, hq, b, h1, h2, h3⟩ := hvv j k e.1
    rw [hq] at e
    have : q.2 = v := Option.some.inj e.2
    subst this
    exact ⟨b, q, h1, hq, rfl, h2, h3⟩
  have P := PairArg.tuple (prog := X.prog) (w := X.w) a (ps.map Value.ref).toArray (fun j => ps.getD j 0) (vv.zip (prs.map (·.2)))
  refine PySem.call_dict_pairs (knd := mixKind X.prog X.w) (kvs := prs) P (I.ok.hd hcalm) ⟨⟨ob, n, hg, hc, hnd, hdat⟩, ?_, fun j k v e => ?_⟩ ⟨by rw [len, hl], fun j k v e => ?_⟩ ?_ fun h' tk hd' k => ?_
  · rw [List.size_toArray, List.length_map, len]
  · obtain ⟨b, q, h1, h2, h3, h4, h5⟩ := each j k v e
    refine ⟨?_, .inl ?_⟩
    · show (ps.map Value.ref).toArray[j]? = some (Value.ref (ps.getD j 0))
      rw [List.getD_eq_getElem?_getD, h1]
      simp [h1]
    · show s.heap.IsTuple (ps.getD j 0) #[k, v]
      rw [List.getD_eq_getElem?_getD, h1]
      exact h4
  · obtain ⟨b, q, h1, h2, h3, h4, h5⟩ := each j k v e
    exact ⟨q.1, by rw [h2, h3], h5⟩
  · rw [len]
    exact hz
  · have hm : (s.heap.objs.size == sysModules) = false := beq_eq_false_iff_ne.mpr (Nat.ne_of_gt I.big)
    have hlen : (mergeK [] kvs).length ≤ sizeLine := by
      refine Nat.le_trans (length_mergeK kvs []) ?_
      rw [List.length_nil, Nat.zero_add, rel.length, hl]
      exact hz
    exact ⟨.ref s.heap.objs.size, upd H s.heap.objs.size (.dK (mergeK [] kvs)), I.laid (t' := tk) (fun b o e => k b o (by simp) e) (Nat.le_refl _) (show ObjOk X.prog X.w _ _ _ (.dK (mergeK [] kvs)) from ⟨hlen, hm, merged [] prs, KV.merge rel .nil, hd'⟩), rfl, q _ (I.hok.fresh (Nat.le_refl _))⟩
/-- what such a dict tells, the keys unlike -/
theorem val_mergeK : ∀ (kvs acc : List (Key × V)) (k : Key), valV (mergeK acc kvs) k = match kvs.reverse.find? (fun p => decide (p.1 = k)) with | some p => some p.2 | none => valV acc k
  | [], acc, k => rfl
  | p :: kvs, acc, k => by
    show valV (mergeK (putK acc p.1 p.2) kvs) k = _
    rw [val_mergeK kvs, valV_put, List.reverse_cons, List.find?_append]
    cases h : kvs.reverse.find? (fun p => decide (p.1 = k)) with
    | some q => rfl
    | none =>
      show (if k = p.1 then some p.2 else valV acc k) = _
      by_cases c : k = p.1
      · rw [if_pos c]
        simp [c]
      · rw [if_neg c]
        have : ¬ p.1 = k := fun e => c e.symm
        simp [this]
theorem val_merge_nd {kvs : List (Key × V)} (nd : (kvs.map (·.1)).Nodup) {k : Key} {v : V} (h : (k, v) ∈ kvs) : valV (mergeK [] kvs) k = some v := by
  rw [val_mergeK]
  have : kvs.reverse.find? (fun p => decide (p.1 = k)) = some (k, v) := by
    cases f : kvs.reverse.find? (fun p => decide (p.1 = k)) with
    | none =>
      have := List.find?_eq_none.mp f (k, v) (List.mem_reverse.mpr h)
      simp at this
    | some q =>
      have hq : q.1 = k := by
        have := List.find?_some f
        exact of_decide_eq_true this
      have hm : q ∈ kvs := List.mem_reverse.mp (List.mem_of_find?_eq_some f)
      obtain ⟨i, hi⟩ := List.getElem?_of_mem h
      obtain ⟨j, hj⟩ := List.getElem?_of_mem hm
      have e1 : (kvs.map (·.1))[i]? = some k := by rw [List.getElem?_map, hi]; rfl
      have e2 : (kvs.map (·.1))[j]? = some k := by rw [List.getElem?_map, hj, ← hq]; rfl
      have l1 := (List.getElem?_eq_some_iff.mp e1).1
      have ij : i = j := (List.getElem?_inj l1 nd).mp (e1.trans e2.symm)
      subst ij
      rw [hi] at hj
      exact hj.symm
  rw [this]
/-- sorted of data -/
def rSortD {β : Type} (enc : β → PyData) (K : PySem.W.Frag) : List V → Hp → VK → Prop := fun vs H Q => ∃ (a : Addr) (xs : List V) (bs : List β) (R : V → β → Prop), vs = [.ref a] ∧ SqL K H a xs ∧ Paired R xs bs ∧ (∀ v b, b ∈ bs → R v b → Dp K H v (enc b)) ∧ PySem.W.AllAlike (bs.map enc) ∧ PySem.W.Sortable (bs.map enc) ∧ (∀ b ∈ bs, (enc b).depth ≤ 60) ∧
  ∀ (p : Addr) (ys : List V), H p = none → Paired R ys (bs.mergeSort (PySem.W.dataLe false enc)) → Q (.ref p) (upd H p (.lst ys))
theorem each_of {β : Type} {R : V → β → Prop} {S : Value → β → Prop} : ∀ {xs : List V} {us : List Value} {bs : List β}, Vals xs us → Paired R xs bs → (∀ v u b, b ∈ bs → RelV v u → R v b → S u b) → PySem.W.EachIs S us bs
  | _, _, _, .nil, .nil, _ => .nil
  | _, _, _, .cons r rs, .cons h hs, k => .cons (k _ _ _ List.mem_cons_self r h) (each_of rs hs fun v u b hb => k v u b (List.mem_cons_of_mem _ hb))
theorem of_each {β : Type} {R : V → β → Prop} : ∀ {us : List Value} {bs : List β}, PySem.W.EachIs (fun u b => ∃ v, RelV v u ∧ R v b) us bs → ∃ xs, Vals xs us ∧ Paired R xs bs
  | _, _, .nil => ⟨[], .nil, .nil⟩
  | _, _, .cons ⟨v, r, h⟩ hs => let ⟨xs, h1, h2⟩ := of_each hs; ⟨v :: xs, .cons r h1, .cons h h2⟩
theorem cr_sortD {X : Cx} {β : Type} (enc : β → PyData) (hu : X.A.units + 64 < cLine) : CallR X (.builtin "sorted") (rSortD enc X.K) := by
  intro pins s σ H vs us Q I r h
  obtain ⟨a, xs, bs, R, rfl, hs, hR, hd, hal, hk, hdep, q⟩ := h
  obtain ⟨its, rv, hl, hz⟩ := I.list hs
  rw [Vals.ref1 r]
  have lb : its.length = bs.length := by rw [← rv.length, hR.length]
  refine PySem.W.sorted_data (enc := enc) (bs := bs) (R := fun u b => ∃ v, RelV v u ∧ R v b) hl.isList (each_of rv hR fun v u b _ r h => ⟨v, r, h⟩) (each_of rv hR fun v u b hb r h => Dp.reads I (enc b) v u (hd v b hb h) r) hal hk (by rw [← lb, ← rv.length]; exact hz) (fun b hb => by have := hdep b hb; omega) fun out hlen hout => ?_
  obtain ⟨ys, h1, h2⟩ := of_each hout
  obtain ⟨ep, he⟩ := sortedAll_at s.heap its out.toArray
  have hly : ys.length ≤ sizeLine := by
    rw [h1.length, hlen, ← lb, ← rv.length]
    exact hz
  exact ⟨.ref _, upd H (s.heap.objs.size + 1) (.lst ys), I.laid (t' := s.toks) (fun _ _ => sortedAll_old) (Nat.le_succ _) (show ObjOk X.prog X.w _ _ _ (.lst ys) from ⟨hly, out, ep, h1, he⟩), rfl, q _ ys (I.hok.fresh (Nat.le_succ _)) h2⟩
end Th
namespace Th
open PySem PySem.Spec PyProof.Rows L2
/-! the text -/
def topS (i : Nat) : Stmt := PySem.Challenge.pw_throughlines_k31_lacking_and_roads.main.body.getD i (.Pass ⟨0, 0, 0, 0⟩)
abbrev FnP (K : PySem.W.Frag) (x : Str) (st : Stmt) (f : Addr) (fd : FuncData) : Prop := FunD K x x (defArgs st) (defBody st) (defScope st) [] [] f fd
abbrev s_road_to_any : Stmt := topS 1
abbrev N_road_to_any : List Str := ["net", "line", "fars", "beside", "steps", "road", "nearer", "onward", "near"]
theorem sc_road_to_any : FnScope N_road_to_any ["net", "line", "fars"] (defScope s_road_to_any) := ⟨rfl, rfl, rfl, by decide +kernel, rfl, by decide +kernel, by decide +kernel⟩
abbrev s_steps_to : Stmt := topS 2
abbrev N_steps_to : List Str := ["beside", "fars", "steps", "many", "edge", "line", "near"]
theorem sc_steps_to : FnScope N_steps_to ["beside", "fars"] (defScope s_steps_to) := ⟨rfl, rfl, rfl, by decide +kernel, rfl, by decide +kernel, by decide +kernel⟩
abbrev s_lines_beside : Stmt := topS 3
abbrev N_lines_beside : List Str := ["net", "line"]
theorem sc_lines_beside : FnScope N_lines_beside ["net"] (defScope s_lines_beside) := ⟨rfl, rfl, rfl, by decide +kernel, rfl, by decide +kernel, by decide +kernel⟩
abbrev s_lines_joined : Stmt := topS 4
abbrev N_lines_joined : List Str := ["net", "line", "name", "joined", "beside"]
theorem sc_lines_joined : FnScope N_lines_joined ["net", "line"] (defScope s_lines_joined) := ⟨rfl, rfl, rfl, by decide +kernel, rfl, by decide +kernel, by decide +kernel⟩
abbrev s_lacking : Stmt := topS 6
abbrev N_lacking : List Str := ["net", "line", "junction", "over", "road"]
theorem sc_lacking : FnScope N_lacking ["net", "line", "junction", "over"] (defScope s_lacking) := ⟨rfl, rfl, rfl, by decide +kernel, rfl, by decide +kernel, by decide +kernel⟩
abbrev s_gap_road : Stmt := topS 7
abbrev N_gap_road : List Str := ["net", "line", "junction", "over"]
theorem sc_gap_road : FnScope N_gap_road ["net", "line", "junction", "over"] (defScope s_gap_road) := ⟨rfl, rfl, rfl, by decide +kernel, rfl, by decide +kernel, by decide +kernel⟩
abbrev s_lines_from : Stmt := topS 8
abbrev N_lines_from : List Str := ["net", "junction", "over", "name", "joined", "line"]
theorem sc_lines_from : FnScope N_lines_from ["net", "junction", "over"] (defScope s_lines_from) := ⟨rfl, rfl, rfl, by decide +kernel, rfl, by decide +kernel, by decide +kernel⟩
abbrev s_l_bag : Stmt := topS 10
abbrev N_l_bag : List Str := ["_law_script", "_law_at", "_law_cell", "_law_great", "_law_primes"]
theorem sc_l_bag : FnScope N_l_bag ["_law_script", "_law_at"] (defScope s_l_bag) := ⟨rfl, rfl, rfl, by decide +kernel, rfl, by decide +kernel, by decide +kernel⟩
abbrev s_l_take : Stmt := topS 11
abbrev N_l_take : List Str := ["_law_bag_here", "_law_many", "_law_digit"]
theorem sc_l_take : FnScope N_l_take ["_law_bag_here", "_law_many"] (defScope s_l_take) := ⟨rfl, rfl, rfl, by decide +kernel, rfl, by decide +kernel, by decide +kernel⟩
abbrev s_l_like : Stmt := topS 12
abbrev N_l_like : List Str := ["_law_told", "_law_due", "_law_one", "_law_other"]
theorem sc_l_like : FnScope N_l_like ["_law_told", "_law_due"] (defScope s_l_like) := ⟨rfl, rfl, rfl, by decide +kernel, rfl, by decide +kernel, by decide +kernel⟩
abbrev s_l_names : Stmt := topS 13
abbrev N_l_names : List Str := ["_law_bag_here", "_law_many", "_law_letters", "_law_first", "_law_shift", "_law_found", "_law_k", "_law_stem", "_law_own", "_law_step"]
theorem sc_l_names : FnScope N_l_names ["_law_bag_here", "_law_many"] (defScope s_l_names) := ⟨rfl, rfl, rfl, by decide +kernel, rfl, by decide +kernel, by decide +kernel⟩
abbrev s_l_net : Stmt := topS 14
abbrev N_l_net : List Str := ["_law_bag_here", "_law_shape", "_law_many", "_law_lines", "_law_places", "_law_junctions", "_law_k", "_law_at", "_law_two", "_law_some", "_law_stations", "_law_line"]
theorem sc_l_net : FnScope N_l_net ["_law_bag_here"] (defScope s_l_net) := ⟨rfl, rfl, rfl, by decide +kernel, rfl, by decide +kernel, by decide +kernel⟩
abbrev s_l_meet : Stmt := topS 15
abbrev N_l_meet : List Str := ["_law_net_here", "_law_one", "_law_other", "_law_place", "_law_lines"]
theorem sc_l_meet : FnScope N_l_meet ["_law_net_here", "_law_one", "_law_other"] (defScope s_l_meet) := ⟨rfl, rfl, rfl, by decide +kernel, rfl, by decide +kernel, by decide +kernel⟩
abbrev s_l_beside : Stmt := topS 16
abbrev N_l_beside : List Str := ["_law_net_here", "_law_found", "_law_line", "_law_other"]
theorem sc_l_beside : FnScope N_l_beside ["_law_net_here"] (defScope s_l_beside) := ⟨rfl, rfl, rfl, by decide +kernel, rfl, by decide +kernel, by decide +kernel⟩
abbrev s_l_all_roads : Stmt := topS 17
abbrev N_l_all_roads : List Str := ["_law_beside_here", "_law_road", "_law_goals", "_law_found", "_law_other"]
theorem sc_l_all_roads : FnScope N_l_all_roads ["_law_beside_here", "_law_road", "_law_goals"] (defScope s_l_all_roads) := ⟨rfl, rfl, rfl, by decide +kernel, rfl, by decide +kernel, by decide +kernel⟩
abbrev s_l_right : Stmt := topS 18
abbrev N_l_right : List Str := ["_law_net_here", "_law_line", "_law_junction", "_law_over", "_law_goals", "_law_some", "_law_due", "_law_turn", "_law_told", "_law_lacks", "_law_one", "_law_road"]
theorem sc_l_right : FnScope N_l_right ["_law_net_here", "_law_line", "_law_junction", "_law_over"] (defScope s_l_right) := ⟨rfl, rfl, rfl, by decide +kernel, rfl, by decide +kernel, by decide +kernel⟩
abbrev s_law : Stmt := topS 19
abbrev N_law : List Str := ["_law_script", "_law_k", "_law_bag_here", "_law_net_here", "_law_turn", "_law_line", "_law_junction", "_law_lines"]
theorem sc_law : FnScope N_law ["_law_script"] (defScope s_law) := ⟨rfl, rfl, rfl, by decide +kernel, rfl, by decide +kernel, by decide +kernel⟩
structure Defs (K : PySem.W.Frag) (mg : Str → Option Value) where
  a_road_to_any : Addr
  d_road_to_any : FuncData
  F_road_to_any : FnP K "road_to_any" s_road_to_any a_road_to_any d_road_to_any
  g_road_to_any : mg "road_to_any" = some (.ref a_road_to_any)
  b_road_to_any : Binds K d_road_to_any ["net", "line", "fars"] []
  a_steps_to : Addr
  d_steps_to : FuncData
  F_steps_to : FnP K "steps_to" s_steps_to a_steps_to d_steps_to
  g_steps_to : mg "steps_to" = some (.ref a_steps_to)
  b_steps_to : Binds K d_steps_to ["beside", "fars"] []
  a_lines_beside : Addr
  d_lines_beside : FuncData
  F_lines_beside : FnP K "lines_beside" s_lines_beside a_lines_beside d_lines_beside
  g_lines_beside : mg "lines_beside" = some (.ref a_lines_beside)
  b_lines_beside : Binds K d_lines_beside ["net"] []
  a_lines_joined : Addr
  d_lines_joined : FuncData
  F_lines_joined : FnP K "lines_joined" s_lines_joined a_lines_joined d_lines_joined
  g_lines_joined : mg "lines_joined" = some (.ref a_lines_joined)
  b_lines_joined : Binds K d_lines_joined ["net", "line"] []
  a_lacking : Addr
  d_lacking : FuncData
  F_lacking : FnP K "lacking" s_lacking a_lacking d_lacking
  g_lacking : mg "lacking" = some (.ref a_lacking)
  b_lacking : Binds K d_lacking ["net", "line", "junction", "over"] []
  a_gap_road : Addr
  d_gap_road : FuncData
  F_gap_road : FnP K "gap_road" s_gap_road a_gap_road d_gap_road
  g_gap_road : mg "gap_road" = some (.ref a_gap_road)
  b_gap_road : Binds K d_gap_road ["net", "line", "junction", "over"] []
  a_lines_from : Addr
  d_lines_from : FuncData
  F_lines_from : FnP K "lines_from" s_lines_from a_lines_from d_lines_from
  g_lines_from : mg "lines_from" = some (.ref a_lines_from)
  b_lines_from : Binds K d_lines_from ["net", "junction", "over"] []
  a_l_bag : Addr
  d_l_bag : FuncData
  F_l_bag : FnP K "_law_bag" s_l_bag a_l_bag d_l_bag
  g_l_bag : mg "_law_bag" = some (.ref a_l_bag)
  b_l_bag : Binds K d_l_bag ["_law_script", "_law_at"] []
  a_l_take : Addr
  d_l_take : FuncData
  F_l_take : FnP K "_law_take" s_l_take a_l_take d_l_take
  g_l_take : mg "_law_take" = some (.ref a_l_take)
  b_l_take : Binds K d_l_take ["_law_bag_here", "_law_many"] []
  a_l_like : Addr
  d_l_like : FuncData
  F_l_like : FnP K "_law_like" s_l_like a_l_like d_l_like
  g_l_like : mg "_law_like" = some (.ref a_l_like)
  b_l_like : Binds K d_l_like ["_law_told", "_law_due"] []
  a_l_names : Addr
  d_l_names : FuncData
  F_l_names : FnP K "_law_names" s_l_names a_l_names d_l_names
  g_l_names : mg "_law_names" = some (.ref a_l_names)
  b_l_names : Binds K d_l_names ["_law_bag_here", "_law_many"] []
  a_l_net : Addr
  d_l_net : FuncData
  F_l_net : FnP K "_law_net" s_l_net a_l_net d_l_net
  g_l_net : mg "_law_net" = some (.ref a_l_net)
  b_l_net : Binds K d_l_net ["_law_bag_here"] []
  a_l_meet : Addr
  d_l_meet : FuncData
  F_l_meet : FnP K "_law_meet" s_l_meet a_l_meet d_l_meet
  g_l_meet : mg "_law_meet" = some (.ref a_l_meet)
  b_l_meet : Binds K d_l_meet ["_law_net_here", "_law_one", "_law_other"] []
  a_l_beside : Addr
  d_l_beside : FuncData
  F_l_beside : FnP K "_law_beside" s_l_beside a_l_beside d_l_beside
  g_l_beside : mg "_law_beside" = some (.ref a_l_beside)
  b_l_beside : Binds K d_l_beside ["_law_net_here"] []
  a_l_all_roads : Addr
  d_l_all_roads : FuncData
  F_l_all_roads : FnP K "_law_all_roads" s_l_all_roads a_l_all_roads d_l_all_roads
  g_l_all_roads : mg "_law_all_roads" = some (.ref a_l_all_roads)
  b_l_all_roads : Binds K d_l_all_roads ["_law_beside_here", "_law_road", "_law_goals"] []
  a_l_right : Addr
  d_l_right : FuncData
  F_l_right : FnP K "_law_right" s_l_right a_l_right d_l_right
  g_l_right : mg "_law_right" = some (.ref a_l_right)
  b_l_right : Binds K d_l_right ["_law_net_here", "_law_line", "_law_junction", "_law_over"] []
  z_abs : mg "abs" = none
  z_all : mg "all" = none
  z_any : mg "any" = none
  z_bool : mg "bool" = none
  z_dict : mg "dict" = none
  z_int : mg "int" = none
  z_isinstance : mg "isinstance" = none
  z_len : mg "len" = none
  z_list : mg "list" = none
  z_max : mg "max" = none
  z_min : mg "min" = none
  z_range : mg "range" = none
  z_sorted : mg "sorted" = none
  z_tuple : mg "tuple" = none
  z_zip : mg "zip" = none
end Th
namespace Th
open PySem PySem.Spec PyProof.Rows L2
section
variable {P : Program} {w : World} {K : PySem.W.Frag} {mg : Str → Option Value} {base : Heap} {k : Nat}
set_option maxHeartbeats 8000000 in
theorem ok_l_bag (T : Defs K mg) : FnOk P w K mg base CX0 (k + 1) T.a_l_bag T.d_l_bag ["_law_script", "_law_at"] (sp_bag K) := by
  refine T.F_l_bag.ok sc_l_bag (fun vs H Q E h => ?_) (fun cdv A outer s H vs Q E hr h => ?_)
  · obtain ⟨a, ns, i, rfl, _⟩ := h
    rfl
  · obtain ⟨a, ns, i, rfl, hS, hi, q⟩ := h
    refine ⟨_, PSs.nox
(pss_cons (ps_set (i := 2) sc_l_bag.nd rfl (.inl rfl) (pe_int))
    (Evl.pss_cut (ps_if (pt_cmpR op_gt (pe_callB (r := rLenS K) call_lenS (by rfl) T.z_len (by decide +kernel) (pa_cons (pv 0) pa_nil)) (pe_int) (nomark _))
      (pss_one (ps_set (i := 2) sc_l_bag.nd rfl (.inl rfl) (pe_ix (r := rIxL K) ix_list (pv 0) (pe_op op_mod (pv 1) (pe_callB (r := rLenS K) call_lenS (by rfl) T.z_len (by decide +kernel) (pa_cons (pv 0) pa_nil))) (fun _ _ => rfl))))
      pss_nil)
    (pss_cons (ps_set (i := 3) sc_l_bag.nd rfl (.inl rfl) (pe_int))
    (Evl.pss_cut (ps_if (PW.pt (pw_and (pt_cmpR op_ge (pe_callB call_abs (by rfl) T.z_abs (by decide +kernel) (pa_cons (pv 2) pa_nil)) (pe_op op_pow (pe_int) (pe_int)) (nomark _)) (pw_and1 (pt_cmpR op_lt (pv 1) (pe_callB (r := rLenS K) call_lenS (by rfl) T.z_len (by decide +kernel) (pa_cons (pv 0) pa_nil)) (nomark _)))))
      (pss_one (ps_set (i := 3) sc_l_bag.nd rfl (.inl rfl) (pe_callB call_abs (by rfl) T.z_abs (by decide +kernel) (pa_cons (pv 2) pa_nil))))
      pss_nil)
    (pss_cons (ps_set (i := 4) sc_l_bag.nd rfl (.inl rfl) (pe_tup (pa_cons (pe_int) (pa_cons (pe_int) (pa_cons (pe_int) (pa_cons (pe_int) (pa_cons (pe_int) (pa_cons (pe_int) (pa_cons (pe_int) (pa_cons (pe_int) pa_nil))))))))))
    (pss_one (ps_ret (pe_lst (pa_cons (pv 3) (pa_cons (pe_op op_mod (pe_op op_pow (pe_op op_add (pe_op op_add (pe_op op_mod (pv 2) (pe_int)) (pe_op op_mul (pe_int) (pv 1))) (pe_int)) (pe_int)) (pe_ix (r := rIxT K) ix_tup (pv 4) (pe_op op_mod (pv 1) (pe_int)) (fun _ _ => rfl))) pa_nil))))))))))
      , ?_⟩
    obtain ⟨pr, hp, hp0, hp1⟩ := primes_at i
    have lenV : (ns.map V.int).length = ns.length := List.length_map _
    refine ⟨fun σ H1 => ∃ c : Int, σ = [some (.ref a), some (.int i), some (.int c), none, none] ∧ H1 = H, ?_, fun σ H1 mid => ?_⟩
    · refine ⟨.ref a, rfl, a, _, rfl, .inl hS, _, 0, rfl, rfl, _, rfl, ite2 (fun e => ?_) (fun e => ⟨0, rfl, rfl⟩)⟩
      have lp : 0 < ns.length := by
        have := of_decide_eq_true e
        rw [lenV] at this
        omega
      have hm : i % ns.length < ns.length := Nat.mod_lt _ lp
      have g1 : (ns.map V.int)[i % ns.length]? = some (.int ns[i % ns.length]) := by
        rw [List.getElem?_map, List.getElem?_eq_getElem hm]
        rfl
      refine ⟨.ref a, rfl, .int i, rfl, .ref a, rfl, a, _, rfl, .inl hS, (i : Int), _, rfl, rfl, by rw [lenV]; omega, a, _, _, .int ns[i % ns.length], rfl, rfl, hS, ?_, _, rfl, rfl⟩
      rw [lenV, ← Int.natCast_emod]
      exact atI_nat g1
    obtain ⟨c, rfl, rfl⟩ := mid
    refine ⟨fun σ H2 => ∃ g : Int, 0 ≤ g ∧ σ = [some (.ref a), some (.int i), some (.int c), some (.int g), none] ∧ H2 = H1, ?_, fun σ H2 mid => ?_⟩
    · refine ⟨.int c, rfl, _, rfl, 10, 18, rfl, rfl, ⟨by decide, by decide, by decide⟩, _, _, rfl, rfl, _, rfl, ite2 (fun e => ?_) (fun e => ⟨0, by decide, rfl, rfl⟩)⟩
      refine ⟨.int i, rfl, .ref a, rfl, a, _, rfl, .inl hS, _, _, rfl, rfl, _, rfl, ite2 (fun e => ?_) (fun e => ⟨0, by decide, rfl, rfl⟩)⟩
      refine ⟨.int c, rfl, _, rfl, _, ?_, rfl, rfl⟩
      split <;> omega
    obtain ⟨g, hg, rfl, rfl⟩ := mid
    refine ⟨by show 8 ≤ sizeLine; decide, fun l nl => ?_⟩
    refine ⟨_, rfl, .int c, rfl, c, 2147483647, rfl, rfl, pA, .int i, rfl, 104729, i, rfl, rfl, .inl ⟨by decide, by decide⟩, _, _, rfl, rfl, _, 7, rfl, rfl, _, 5, rfl, rfl, ⟨by decide, by decide, ?_⟩, .ref l, rfl, .int i, rfl, i, 8, rfl, rfl, p8, l, _, _, _, rfl, rfl, SqT.of upd_same, hp, _, pr, rfl, rfl, hp0, by show 2 ≤ sizeLine; decide, fun p np => ?_⟩
    · omega
    · have s1 := same_upd (o := .tup [V.int 2147483629, .int 2147483587, .int 2147483579, .int 2147483563, .int 2147483549, .int 2147483543, .int 2147483497, .int 2147483489]) nl
      exact q _ p (s1.trans (same_upd np)) (s1.free np) ⟨g, _, upd_same, hg, Int.emod_nonneg _ (by omega), Int.lt_trans (Int.emod_lt_of_pos _ hp0) hp1⟩
end
section
variable {P : Program} {w : World} {K : PySem.W.Frag} {mg : Str → Option Value} {base : Heap} {k : Nat}
theorem ok_l_take (T : Defs K mg) : FnOk P w K mg base CX0 (k + 1) T.a_l_take T.d_l_take ["_law_bag_here", "_law_many"] sp_take := by
  refine T.F_l_take.ok sc_l_take (fun vs H Q E h => ?_) (fun cdv A outer s H vs Q E hr h => ?_)
  · obtain ⟨p, m, rfl, _⟩ := h
    rfl
  · obtain ⟨p, m, rfl, ⟨g, r, hp, g0, r0, r1⟩, m0, m1, q⟩ := h
    refine ⟨_, PSs.nox
(pss_cons (ps_if (pt_cmpR op_gt (pe_ix (r := rIxL K) ix_list (pv 0) (pe_int) (fun _ _ => rfl)) (pe_int) (nomark _))
      (pss_cons (ps_set (i := 2) sc_l_take.nd rfl (.inl rfl) (pe_op op_mod (pe_ix (r := rIxL K) ix_list (pv 0) (pe_int) (fun _ _ => rfl)) (pv 1)))
      (pss_cons (ps_asg (pe_op op_fdiv (pe_ix (r := rIxL K) ix_list (pv 0) (pe_int) (fun _ _ => rfl)) (pv 1)) (pg_sub (pv 0) (pe_int) set_list))
      (pss_one (ps_ret (pv 2)))))
      pss_nil)
    (pss_cons (ps_asg (pe_op op_mod (pe_op op_add (pe_op op_mul (pe_ix (r := rIxL K) ix_list (pv 0) (pe_int) (fun _ _ => rfl)) (pe_int)) (pe_int)) (pe_int)) (pg_sub (pv 0) (pe_int) set_list))
    (pss_one (ps_ret (pe_op op_mod (pe_op op_mod (pe_op op_pow (pe_op op_fdiv (pe_ix (r := rIxL K) ix_list (pv 0) (pe_int) (fun _ _ => rfl)) (pe_int)) (pe_int)) (pe_int)) (pv 1))))))
      , ?_⟩
    refine ⟨.ref p, rfl, p, _, 0, .int g, rfl, rfl, SqL.of hp, atI_nat (j := 0) rfl, _, 0, rfl, rfl, _, rfl, ite2 (fun e => ?_) (fun e => ?_)⟩
    · refine ⟨.ref p, rfl, p, _, 0, .int g, rfl, rfl, SqL.of hp, atI_nat (j := 0) rfl, .int m, rfl, g, m, rfl, rfl, m0, ?_⟩
      refine ⟨.ref p, rfl, p, _, 0, .int g, rfl, rfl, SqL.of hp, atI_nat (j := 0) rfl, .int m, rfl, g, m, rfl, rfl, ⟨m0, m1⟩, .ref p, rfl, p, _, 0, 0, rfl, rfl, hp, rfl, ?_⟩
      refine ⟨_, rfl, q _ _ Keep.upd ⟨_, _, upd_same, ?_, r0, r1⟩ (Int.emod_nonneg _ (by omega)) (Int.emod_lt_of_pos _ m0)⟩
      exact Int.ediv_nonneg g0 (by omega)
    · refine ⟨.ref p, rfl, p, _, 1, .int r, rfl, rfl, SqL.of hp, atI_nat (j := 1) rfl, r, 48271, rfl, rfl, .inr ⟨by decide, by decide⟩, _, 11, rfl, rfl, _, 2147483647, rfl, rfl, pA, .ref p, rfl, p, _, 1, 1, rfl, rfl, hp, rfl, ?_⟩
      have hz0 : 0 ≤ (r * 48271 + 11) % 2147483647 := Int.emod_nonneg _ (by decide)
      have hz1 : (r * 48271 + 11) % 2147483647 < 2147483647 := Int.emod_lt_of_pos _ (by decide)
      refine ⟨.ref p, rfl, p, _, 1, _, rfl, rfl, SqL.of upd_same, atI_nat (j := 1) rfl, (r * 48271 + 11) % 2147483647, 8, rfl, rfl, ⟨by decide, by decide⟩, _, 3, rfl, rfl, ⟨by decide, by decide, ?_⟩, _, 2147483629, rfl, rfl, pB, .int m, rfl, _, m, rfl, rfl, m0, ?_⟩
      · omega
      · exact q _ _ Keep.upd ⟨_, _, upd_same, g0, hz0, by omega⟩ (Int.emod_nonneg _ (by omega)) (Int.emod_lt_of_pos _ m0)
end
end Th
namespace Th
open PySem PySem.Spec PyProof.Rows L2
/-! drawn names, each with a letter of its own -/
/-- what is known of the k-th name -/
def NmB (f sh k : Nat) (l : List Nat) : Prop := ∃ st, Lower st ∧ st.length ≤ 7 ∧ l = if f = 0 then (97 + (sh + 7 * k) % 26) :: st else st ++ [97 + (sh + 7 * k) % 26]
theorem NmB.nm {f sh k : Nat} {l : List Nat} (h : NmB f sh k l) : IsNm l := by
  obtain ⟨st, hl, hn, rfl⟩ := h
  have own : 97 ≤ 97 + (sh + 7 * k) % 26 ∧ 97 + (sh + 7 * k) % 26 ≤ 122 := by omega
  split
  · refine ⟨by rw [List.length_cons]; omega, by rw [List.length_cons]; omega, fun c hc => ?_⟩
    rcases List.mem_cons.mp hc with z | z
    · rw [z]; exact own
    · exact hl c z
  · refine ⟨by rw [List.length_append]; simp, by rw [List.length_append]; simp; omega, fun c hc => ?_⟩
    rcases List.mem_append.mp hc with z | z
    · exact hl c z
    · rw [List.mem_singleton.mp z]; exact own
theorem nmb_unlike {f sh i j : Nat} {a b : List Nat} (hi : NmB f sh i a) (hj : NmB f sh j b) (h : i < j) (hj2 : j < 26) : a ≠ b := fun e => by
  obtain ⟨s1, _, _, e1⟩ := hi
  obtain ⟨s2, _, _, e2⟩ := hj
  have own : (sh + 7 * i) % 26 = (sh + 7 * j) % 26 := by
    by_cases c : f = 0
    · rw [if_pos c] at e1 e2
      rw [e1, e2] at e
      have := (List.cons.inj e).1
      omega
    · rw [if_neg c] at e1 e2
      rw [e1, e2] at e
      have := congrArg List.getLast? e
      simp at this
      omega
  omega
theorem nmb_nodup {f sh : Nat} {zs : List (List Nat)} (h : ∀ k l, zs[k]? = some l → NmB f sh k l) (hn : zs.length ≤ 26) : zs.Nodup := by
  rw [List.nodup_iff_pairwise_ne, List.pairwise_iff_getElem]
  intro i j hi hj hij
  exact nmb_unlike (h i _ (List.getElem?_eq_getElem hi)) (h j _ (List.getElem?_eq_getElem hj)) hij (by omega)
section
variable {P : Program} {w : World} {K : PySem.W.Frag} {mg : Str → Option Value} {base : Heap} {k : Nat}
def sp_l_names : Sp := fun vs H Q _ => ∃ (p : Addr) (n : Nat), vs = [.ref p, .int n] ∧ Bag H p ∧ n ≤ 26 ∧ ∀ (H' : Hp) (l : Addr) (zs : List Nm), Keep p H H' → Bag H' p → H l = none → H' l = some (.lst (zs.map nS)) → zs.length = n → zs.Nodup → (∀ z ∈ zs, IsNm z) → Q (.ref l) H'
set_option maxHeartbeats 8000000 in
theorem ok_l_names (T : Defs K mg) : FnOk P w K mg base CX0 (k + 2) T.a_l_names T.d_l_names ["_law_bag_here", "_law_many"] sp_l_names := by
  have G_l_take : FnOk P w K mg base CX0 (k + 1) _ _ _ _ := ok_l_take T
  refine T.F_l_names.ok sc_l_names (fun vs H Q E h => ?_) (fun cdv A outer s H vs Q E hr h => ?_)
  · obtain ⟨p, n, rfl, _⟩ := h
    rfl
  · obtain ⟨p, n, rfl, b, hn, q⟩ := h
    refine ⟨_, PSs.nox
(pss_cons (ps_set (i := 2) sc_l_names.nd rfl (.inr rfl) (pe_str))
    (pss_cons (ps_par (i := 3) (j := 4) (by rfl) sc_l_names.nd rfl rfl (by decide) rfl rfl (pa_cons (pe_call G_l_take hr (by rfl) T.g_l_take T.F_l_take.kp T.b_l_take .nil pass0 (pa_cons (pv 0) (pa_cons (pe_int) pa_nil))) (pa_cons (pe_call G_l_take hr (by rfl) T.g_l_take T.F_l_take.kp T.b_l_take .nil pass0 (pa_cons (pv 0) (pa_cons (pe_int) pa_nil))) pa_nil)) (by rfl))
    (pss_cons (ps_set (i := 5) sc_l_names.nd rfl (.inl rfl) (pe_lst pa_nil))
    (pss_cons (ps_for PassesOwn.never rfl (pi_range1 (by rfl) T.z_range (pa_cons (pv 1) pa_nil)) (pg_name (i := 6) sc_l_names.nd rfl (.inl rfl))
      (pss_cons (ps_set (i := 7) sc_l_names.nd rfl (.inl rfl) (pe_join (pe_str) (pe_lc (own := [("_law_step", 9)]) (g := gName 9) rfl sc_l_names.nd (pi_range1 (by rfl) T.z_range (pa_cons (pe_ix (r := rIxT K) ix_tup (pe_tup (pa_cons (pe_int) (pa_cons (pe_int) (pa_cons (pe_int) (pa_cons (pe_int) pa_nil))))) (pe_call G_l_take hr (by rfl) T.g_l_take T.F_l_take.kp T.b_l_take .nil pass0 (pa_cons (pv 0) (pa_cons (pe_int) pa_nil))) (fun _ _ => rfl)) pa_nil)) (blkOk_by (N := N_l_names) (sc := defScope s_l_names) (by decide +kernel)) (fun _ _ _ _ _ => (pg_name (i := 9) sc_l_names.nd rfl (.inl rfl))) (fun _ _ _ _ _ => pts_nil) (fun _ _ _ _ _ => (pe_ix ix_str (pv 2) (pe_call G_l_take hr (by rfl) T.g_l_take T.F_l_take.kp T.b_l_take .nil pass0 (pa_cons (pv 0) (pa_cons (pe_int) pa_nil))) (fun _ _ => rfl))))))
      (pss_cons (ps_set (i := 8) sc_l_names.nd rfl (.inl rfl) (pe_ix ix_str (pv 2) (pe_op op_mod (pe_op op_add (pv 4) (pe_op op_mul (pe_int) (pv 6))) (pe_int)) (fun _ _ => rfl)))
      (pss_one (ps_expr (pe_bm PySem.F.plainAttrs_list PySem.F.slot_list_append PySem.F.type_list_append mt_append (pv 5) (pa_cons (pe_ifExp (pt_cmpR op_eq (pv 3) (pe_int) (nomark _)) (pe_op op_add_str (pv 8) (pv 7)) (pe_op op_add_str (pv 7) (pv 8))) pa_nil)))))))
    (pss_one (ps_ret (pv 5)))))))
      , ?_⟩
    refine ⟨.ref p, rfl, p, 2, rfl, b, by decide, by decide, fun H1 f k1 b1 f0 f1 => ?_⟩
    refine ⟨.ref p, rfl, p, 26, rfl, b1, by decide, by decide, fun H2 sh k2 b2 sh0 sh1 => ?_⟩
    obtain ⟨f, rfl⟩ : ∃ xn : Nat, f = (xn : Int) := ⟨f.toNat, by omega⟩
    obtain ⟨sh, rfl⟩ : ∃ xn : Nat, sh = (xn : Int) := ⟨sh.toNat, by omega⟩
    have k12 := k1.trans k2
    refine ⟨_, _, rfl, Nat.zero_le _, fun F nF => ?_⟩
    have nFp : F ≠ p := b2.ne nF
    have nFH : H F = none := k12.free b nF b2
    refine ⟨.int n, rfl, n, rfl, by omega, by omega, ?_⟩
    rw [Int.toNat_natCast]
    refine for_range (lo := 0) (n := n) (fun i σ H3 => ∃ (y6 y7 y8 : Option V) (zs : List (List Nat)), σ = [some (.ref p), some (.int n), some (.str abc), some (.int (f : Nat)), some (.int (sh : Nat)), some (.ref F), y6, y7, y8, none] ∧ Keep p H H3 ∧ Bag H3 p ∧ zs.length = i ∧ (∀ k l, zs[k]? = some l → NmB f sh k l) ∧ H3 F = some (.lst (zs.map nS)))
      ⟨none, none, none, [], rfl, k12.trans (.of (same_upd nF)), b2.keep (same_upd nF), rfl, fun k l h => by simp at h, upd_same⟩ (fun i σ H3 hi hp => ?_) (fun σ H3 hp => ?_)
    · obtain ⟨y6, y7, y8, zs, rfl, k3, b3, hl, hz, eF⟩ := hp
      -- stem
      refine ⟨⟨_, rfl⟩, by show 4 ≤ sizeLine; decide, fun t nt => ?_⟩
      have ntp : t ≠ p := b3.ne nt
      refine ⟨.ref p, rfl, p, 4, rfl, b3.keep (same_upd nt), by decide, by decide, fun H4 d k4 b4 d0 d1 => ?_⟩
      obtain ⟨m0, hm0, em0⟩ := pick (ms := [0, 1, 2, 7]) d0 d1
      refine ⟨t, _, d, _, rfl, rfl, SqT.of (k4 _ _ ntp upd_same), em0, ?_⟩
      obtain ⟨sz, rfl, sz7⟩ : ∃ sz : Nat, m0 = (sz : Int) ∧ sz ≤ 7 := by
        simp only [List.mem_cons, List.not_mem_nil, or_false] at hm0
        exact ⟨m0.toNat, by omega, by omega⟩
      have eF4 := k4 _ _ nFp (same_upd nt _ _ eF)
      have k4 := k3.trans ((Keep.of (same_upd nt)).trans k4)
      refine ⟨sz, rfl, by omega, by omega, fun D nD => ?_⟩
      have nDp : D ≠ p := b4.ne nD
      have nFD : F ≠ D := ne_of_none eF4 nD
      rw [Int.toNat_natCast]
      refine lc_it walk_range (fun j H5 => Keep p H4 H5 ∧ Bag H5 p ∧ ∃ cs : List Nat, cs.length = j ∧ Lower cs ∧ H5 D = some (.lst (((cs.map fun c => [c]).map SX.S).map V.str))) ⟨.of (same_upd nD), b4.keep (same_upd nD), [], rfl, fun c hc => by simp at hc, upd_same⟩ (fun _ _ _ _ => trivial) (fun j x H5 H6 hj pv y => ?_) (fun H5 pv => ?_)
      · obtain ⟨rfl, rfl⟩ := y
        obtain ⟨k5, b5, cs, hcl, hcs, eD⟩ := pv
        refine ⟨rfl, yes_ ?_⟩
        refine ⟨.str abc, rfl, .ref p, rfl, p, 26, rfl, b5, by decide, by decide, fun H7 d k7 b7 d0 d1 => ?_⟩
        refine ⟨abc, d, _, rfl, rfl, by decide +kernel, abc_at d0 d1, _, k7 _ _ nDp eD, by rw [List.length_map, List.length_map, List.length_map]; exact small5000 (by omega), (k5.trans k7).set nD, b7.at (upd_ne nDp.symm), cs ++ [97 + d.toNat], by rw [List.length_append, hcl]; rfl, fun c hc => ?_, by rw [upd_same, List.map_append, List.map_append, List.map_append]; rfl⟩
        rcases List.mem_append.mp hc with z | z
        · exact hcs c z
        · rw [List.mem_singleton.mp z]
          omega
      obtain ⟨k5, b5, cs, hcl, hcs, eD⟩ := pv
      have eF5 := k5 _ _ nFp eF4
      have k5 := k4.trans k5
      refine ⟨_, D, (cs.map fun c => [c]).map SX.S, rfl, rfl, .inl (SqL.of eD), ?_, ?_⟩
      · rw [SX.lens, List.map_map, List.length_map, List.length_map]
        have e1 : (cs.map ((fun x : List Nat => x.length) ∘ fun c => [c])).sum = cs.length := by
          clear eD hcs hcl
          induction cs with
          | nil => rfl
          | cons c cs ih => rw [List.map_cons, List.sum_cons, ih, List.length_cons]; show 1 + _ = _; omega
        rw [e1]
        show cs.length + cs.length * 0 ≤ 16777216
        omega
      have ej : Txt.join (Str.ofString "") ((cs.map fun c => [c]).map SX.S) = SX.S cs := join_signs cs
      rw [ej]
      -- own
      have hm0 : 0 ≤ ((sh : Int) + 7 * (0 + (i : Int))) % 26 := Int.emod_nonneg _ (by decide)
      have hm1 : ((sh : Int) + 7 * (0 + (i : Int))) % 26 < 26 := Int.emod_lt_of_pos _ (by decide)
      have ei : (((sh : Int) + 7 * (0 + (i : Int))) % 26).toNat = (sh + 7 * i) % 26 := by omega
      refine ⟨.str abc, rfl, .int (sh : Nat), rfl, .int (0 + (i : Int)), rfl, 7, _, rfl, rfl, .inl ⟨by decide, by decide⟩, _, _, rfl, rfl, _, 26, rfl, rfl, p26, abc, _, _, rfl, rfl, by decide +kernel, abc_at hm0 hm1, ?_⟩
      rw [ei]
      have fin : ∀ z : List Nat, NmB f sh i z → ∃ (y6 y7 y8 : Option V) (zs' : List (List Nat)), [some (V.ref p), some (.int n), some (.str abc), some (.int (f : Nat)), some (.int (sh : Nat)), some (.ref F), some (.int (0 + (i : Int))), some (nS cs), some (nS [97 + (sh + 7 * i) % 26]), none] = [some (V.ref p), some (.int n), some (.str abc), some (.int (f : Nat)), some (.int (sh : Nat)), some (.ref F), y6, y7, y8, none] ∧ Keep p H (upd H5 F (.lst (zs.map nS ++ [nS z]))) ∧ Bag (upd H5 F (.lst (zs.map nS ++ [nS z]))) p ∧ zs'.length = i + 1 ∧ (∀ k l, zs'[k]? = some l → NmB f sh k l) ∧ (upd H5 F (.lst (zs.map nS ++ [nS z]))) F = some (.lst (zs'.map nS)) := fun z hzz => by
        refine ⟨_, _, _, zs ++ [z], rfl, k5.set nFH, b5.at (upd_ne nFp.symm), by rw [List.length_append, hl]; rfl, fun k l hk => ?_, by rw [upd_same, List.map_append]; rfl⟩
        by_cases hk2 : k < zs.length
        · rw [List.getElem?_append_left hk2] at hk
          exact hz k l hk
        · rw [List.getElem?_append_right (by omega)] at hk
          have ek : k = i := by
            have := (List.getElem?_eq_some_iff.mp hk).1
            simp at this
            omega
          subst ek
          rw [hl, Nat.sub_self] at hk
          have := Option.some.inj hk
          subst this
          exact hzz
      have sz1 : (SX.S [97 + (sh + 7 * i) % 26]).length + (SX.S cs).length ≤ sizeLine := by
        rw [SX.S_len, SX.S_len]
        show 1 + cs.length ≤ sizeLine
        exact Nat.le_of_lt (small5000 (by omega))
      refine ⟨.ref F, rfl, .inl ⟨rfl, _, SqL.of eF5⟩, .int (f : Nat), rfl, rfl, _, rfl, ite2 (fun c => ?_) (fun c => ?_)⟩
      · have c : f = 0 := by
          have c : V.int (f : Nat) = .int 0 := of_decide_eq_true c
          injection c with c
          omega
        refine ⟨nS [97 + (sh + 7 * i) % 26], rfl, nS cs, rfl, _, _, rfl, rfl, sz1, F, _, _, rfl, rfl, eF5, by rw [List.length_map, hl]; exact small5000 (by omega), ?_⟩
        rw [SX.S_cat]
        exact fin _ ⟨cs, hcs, by omega, by rw [if_pos c]; rfl⟩
      · have c : ¬ f = 0 := fun e => c (decide_eq_true (by rw [e]; rfl))
        refine ⟨nS cs, rfl, nS [97 + (sh + 7 * i) % 26], rfl, _, _, rfl, rfl, by rw [Nat.add_comm]; exact sz1, F, _, _, rfl, rfl, eF5, by rw [List.length_map, hl]; exact small5000 (by omega), ?_⟩
        rw [SX.S_cat]
        exact fin _ ⟨cs, hcs, by omega, by rw [if_neg c]⟩
    · obtain ⟨y6, y7, y8, zs, rfl, k3, b3, hl, hz, eF⟩ := hp
      refine ⟨.ref F, rfl, q _ F zs k3 b3 nFH eF hl (nmb_nodup hz (by omega)) (fun z hm => ?_)⟩
      obtain ⟨j, hj⟩ := List.getElem?_of_mem hm
      exact (hz j z hj).nm
end
end Th
namespace Th
open PySem PySem.Spec PyProof.Rows L2
/-! a drawn net of lines and junctions -/
def JnT (H : Hp) (x : Addr) (j : Nm × List Nm) : Prop := ∃ t, H x = some (.tup [nS j.1, .ref t]) ∧ TpF H t (j.2.map nS)
structure NetBok (ls : List Nm) (jns : List (Nm × List Nm)) : Prop where
  l1 : 1 ≤ ls.length
  l8 : ls.length ≤ 8
  lnd : ls.Nodup
  lnm : ∀ z ∈ ls, IsNm z
  j12 : jns.length ≤ 12
  jnd : (jns.map (·.1)).Nodup
  jnm : ∀ j ∈ jns, IsNm j.1
  sub : ∀ j ∈ jns, j.2.Sublist ls
  two : ∀ j ∈ jns, 2 ≤ j.2.length
def NB (H : Hp) (r : Addr) (ls : List Nm) (jns : List (Nm × List Nm)) : Prop := ∃ (a c : Addr) (b d : V) (ja : List Addr), H r = some (.tup [.ref a, b, .ref c, d]) ∧ TpF H a (ls.map nS) ∧ TpF H c (ja.map V.ref) ∧ Paired (JnT H) ja jns
theorem NB.same {H H' : Hp} {r : Addr} {ls : List Nm} {jns : List (Nm × List Nm)} (h : NB H r ls jns) (s : Same H H') : NB H' r ls jns := by
  obtain ⟨a, c, b, d, ja, h1, h2, h3, h4⟩ := h
  exact ⟨a, c, b, d, ja, s _ _ h1, h2.same s, h3.same s, paired_imp h4 fun x _ j ⟨t, e1, e2⟩ => ⟨t, s _ _ e1, e2.same s⟩⟩
theorem NB.keep {p : Addr} {H H' : Hp} {r : Addr} {ls : List Nm} {jns : List (Nm × List Nm)} (h : NB H r ls jns) (k : Keep p H H') (b : Bag H p) : NB H' r ls jns := by
  obtain ⟨a, c, b', d, ja, h1, h2, h3, h4⟩ := h
  exact ⟨a, c, b', d, ja, TK.keep k b _ _ h1, h2.keep k b, h3.keep k b, paired_imp h4 fun x _ j ⟨t, e1, e2⟩ => ⟨t, TK.keep k b _ _ e1, e2.keep k b⟩⟩
theorem JnT.upd {H : Hp} {x : Addr} {j : Nm × List Nm} (h : JnT H x j) {c : Addr} {o : HO} {xs : List V} (e : H c = some (.lst xs)) : JnT (upd H c o) x j := by
  obtain ⟨t, e1, ob, e2, d⟩ := h
  exact ⟨t, by rw [upd_ne (fun z => by rw [z, e] at e1; cases e1)]; exact e1, ob, by rw [upd_ne (fun z => by rw [z, e] at e2; cases e2)]; exact e2, d⟩
theorem JnT.keep {p : Addr} {H H' : Hp} {x : Addr} {j : Nm × List Nm} (h : JnT H x j) (k : Keep p H H') (b : Bag H p) : JnT H' x j := let ⟨t, e1, e2⟩ := h; ⟨t, TK.keep k b _ _ e1, e2.keep k b⟩
theorem JnT.same {H H' : Hp} {x : Addr} {j : Nm × List Nm} (h : JnT H x j) (s : Same H H') : JnT H' x j := let ⟨t, e1, e2⟩ := h; ⟨t, s _ _ e1, e2.same s⟩
theorem two_len {l : List Nm} {x y : Nm} (hx : x ∈ l) (hy : y ∈ l) (h : x ≠ y) : 2 ≤ l.length := by
  match l, hx, hy with
  | [a], hx, hy =>
    rw [List.mem_singleton.mp hx, List.mem_singleton.mp hy] at h
    exact absurd rfl h
  | a :: b :: r, _, _ => simp
theorem in_two {x a b : Nm} : inV (nS x) [nS a, nS b] = decide (x = a ∨ x = b) := by
  have h : inV (nS x) ([a, b].map nS) = decide (x ∈ [a, b]) := by
    unfold inV
    rw [List.any_map]
    by_cases h : x ∈ [a, b]
    · rw [decide_eq_true h]
      exact List.any_eq_true.mpr ⟨x, h, by show (SX.S x == SX.S x) = true; simp⟩
    · rw [decide_eq_false h]
      refine List.any_eq_false.mpr fun y hy z => h ?_
      have z : (SX.S y == SX.S x) = true := z
      rw [← SX.S_inj (eq_of_beq z)]
      exact hy
  refine h.trans ?_
  congr 1
  simp
section
variable {P : Program} {w : World} {K : PySem.W.Frag} {mg : Str → Option Value} {base : Heap} {k : Nat}
def sp_l_net : Sp := fun vs H Q _ => ∃ p, vs = [.ref p] ∧ Bag H p ∧ ∀ (H' : Hp) (r : Addr) (ls : List Nm) (jns : List (Nm × List Nm)), Keep p H H' → Bag H' p → NB H' r ls jns → NetBok ls jns → Q (.ref r) H'
set_option maxHeartbeats 16000000 in
theorem ok_l_net (T : Defs K mg) : FnOk P w K mg base CX0 (k + 3) T.a_l_net T.d_l_net ["_law_bag_here"] sp_l_net := by
  have G_l_take : FnOk P w K mg base CX0 (k + 2) _ _ _ _ := ok_l_take (k := k + 1) T
  have G_l_names : FnOk P w K mg base CX0 (k + 2) _ _ _ _ := ok_l_names T
  refine T.F_l_net.ok sc_l_net (fun vs H Q E h => ?_) (fun cdv A outer s H vs Q E hr h => ?_)
  · obtain ⟨p, rfl, _⟩ := h
    rfl
  · obtain ⟨p, rfl, b, q⟩ := h
    refine ⟨_, PSs.nox
(pss_cons (ps_set (i := 1) sc_l_net.nd rfl (.inr rfl) (pe_call G_l_take hr (by rfl) T.g_l_take T.F_l_take.kp T.b_l_take .nil pass0 (pa_cons (pv 0) (pa_cons (pe_int) pa_nil))))
    (pss_cons (ps_set (i := 2) sc_l_net.nd rfl (.inr rfl) (pe_ix (r := rIxT K) ix_tup (pe_tup (pa_cons (pe_int) (pa_cons (pe_int) (pa_cons (pe_int) (pa_cons (pe_int) (pa_cons (pe_int) (pa_cons (pe_int) (pa_cons (pe_int) (pa_cons (pe_int) pa_nil))))))))) (pe_call G_l_take hr (by rfl) T.g_l_take T.F_l_take.kp T.b_l_take .nil pass0 (pa_cons (pv 0) (pa_cons (pe_int) pa_nil))) (fun _ _ => rfl)))
    (pss_cons (ps_set (i := 3) sc_l_net.nd rfl (.inr rfl) (pe_call G_l_names hr (by rfl) T.g_l_names T.F_l_names.kp T.b_l_names .nil pass0 (pa_cons (pv 0) (pa_cons (pv 2) pa_nil))))
    (pss_cons (ps_set (i := 4) sc_l_net.nd rfl (.inr rfl) (pe_call G_l_names hr (by rfl) T.g_l_names T.F_l_names.kp T.b_l_names .nil pass0 (pa_cons (pv 0) (pa_cons (pe_int) pa_nil))))
    (pss_cons (ps_set (i := 5) sc_l_net.nd rfl (.inl rfl) (pe_lst pa_nil))
    (pss_cons (ps_for PassesOwn.never rfl (pi_range1 (by rfl) T.z_range (pa_cons (pe_op op_mul (pe_ix (r := rIxT K) ix_tup (pe_tup (pa_cons (pe_int) (pa_cons (pe_int) (pa_cons (pe_call G_l_take hr (by rfl) T.g_l_take T.F_l_take.kp T.b_l_take .nil pass0 (pa_cons (pv 0) (pa_cons (pe_int) pa_nil))) pa_nil)))) (pe_call G_l_take hr (by rfl) T.g_l_take T.F_l_take.kp T.b_l_take .nil pass0 (pa_cons (pv 0) (pa_cons (pe_int) pa_nil))) (fun _ _ => rfl)) (pe_callTy call_int1 (by rfl) T.z_int (by decide +kernel) (pa_cons (pe_cmpR op_gt (pv 2) (pe_int) (nomark _)) pa_nil))) pa_nil)) (pg_name (i := 6) sc_l_net.nd rfl (.inl rfl))
      (pss_cons (ps_set (i := 7) sc_l_net.nd rfl (.inl rfl) (pe_call G_l_take hr (by rfl) T.g_l_take T.F_l_take.kp T.b_l_take .nil pass0 (pa_cons (pv 0) (pa_cons (pv 2) pa_nil))))
      (pss_cons (ps_set (i := 8) sc_l_net.nd rfl (.inr rfl) (pe_tup (pa_cons (pe_ix (r := rIxL K) ix_list (pv 3) (pv 7) (fun _ _ => rfl)) (pa_cons (pe_ix (r := rIxL K) ix_list (pv 3) (pe_op op_mod (pe_op op_add (pe_op op_add (pv 7) (pe_int)) (pe_call G_l_take hr (by rfl) T.g_l_take T.F_l_take.kp T.b_l_take .nil pass0 (pa_cons (pv 0) (pa_cons (pe_op op_sub (pv 2) (pe_int)) pa_nil)))) (pv 2)) (fun _ _ => rfl)) pa_nil))))
      (Evl.pss_cut (ps_if (PW.pt (pw_and (pt_cmpR op_eq (pv 1) (pe_int) (nomark _)) (pw_and1 (pt_cmpR op_lt (pv 6) (pe_op op_sub (pv 2) (pe_int)) (nomark _)))))
        (pss_one (ps_set (i := 8) sc_l_net.nd rfl (.inr rfl) (pe_tup (pa_cons (pe_ix (r := rIxL K) ix_list (pv 3) (pv 6) (fun _ _ => rfl)) (pa_cons (pe_ix (r := rIxL K) ix_list (pv 3) (pe_op op_add (pv 6) (pe_int)) (fun _ _ => rfl)) pa_nil)))))
        pss_nil)
      (pss_cons (ps_setLc (i := 9) (own := [("_law_line", 11)]) (g := gName 11) rfl sc_l_net.nd rfl rfl (sw_true rfl rfl rfl (by decide +kernel)) (pi_list (pv 3)) (blkOk_by (N := N_l_net) (sc := defScope s_l_net) (by decide +kernel)) (fun _ _ _ _ _ => (pg_name (i := 11) sc_l_net.nd rfl (.inl rfl))) (fun _ _ _ _ _ => pts_one (PW.pt (pw_or (pt_cmpR (r := rIn K false) op_in_seq (pv 11) (pv 8) (by rfl)) (pw_or1 (PW.pt (pw_and (pt_cmpR op_eq (pv 1) (pe_int) (nomark _)) (pw_and1 (pt_cmpR op_eq (pe_call G_l_take hr (by rfl) T.g_l_take T.F_l_take.kp T.b_l_take .nil pass0 (pa_cons (pv 0) (pa_cons (pe_int) pa_nil))) (pe_int) (nomark _))))))))) (fun _ _ _ _ _ => (pv 11)))
      (pss_one (ps_expr (pe_bm PySem.F.plainAttrs_list PySem.F.slot_list_append PySem.F.type_list_append mt_append (pv 5) (pa_cons (pe_tup (pa_cons (pe_ix (r := rIxL K) ix_list (pv 4) (pv 6) (fun _ _ => rfl)) (pa_cons (pe_callTy (r := rTupF K) call_tuple_ofF (by rfl) T.z_tuple (by decide +kernel) (pa_cons (pv 9) pa_nil)) pa_nil))) pa_nil)))))))))
    (pss_cons (ps_setLc (i := 10) (own := [("_law_k", 6)]) (g := gName 6) rfl sc_l_net.nd rfl rfl (sw_true rfl rfl rfl (by decide +kernel)) (pi_range1 (by rfl) T.z_range (pa_cons (pe_call G_l_take hr (by rfl) T.g_l_take T.F_l_take.kp T.b_l_take .nil pass0 (pa_cons (pv 0) (pa_cons (pe_int) pa_nil))) pa_nil)) (blkOk_by (N := N_l_net) (sc := defScope s_l_net) (by decide +kernel)) (fun _ _ _ _ _ => (pg_name (i := 6) sc_l_net.nd rfl (.inl rfl))) (fun _ _ _ _ _ => pts_nil) (fun _ _ _ _ _ => (pe_tup (pa_cons (pe_ix (r := rIxL K) ix_list (pv 4) (pe_op op_add (pe_int) (pv 6)) (fun _ _ => rfl)) (pa_cons (pe_ix (r := rIxL K) ix_list (pv 3) (pe_call G_l_take hr (by rfl) T.g_l_take T.F_l_take.kp T.b_l_take .nil pass0 (pa_cons (pv 0) (pa_cons (pv 2) pa_nil))) (fun _ _ => rfl)) pa_nil)))))
    (pss_one (ps_ret (pe_tup (pa_cons (pe_callTy (r := rTupF K) call_tuple_ofF (by rfl) T.z_tuple (by decide +kernel) (pa_cons (pv 3) pa_nil)) (pa_cons (pe_callTy (r := rTupF K) call_tuple_ofF (by rfl) T.z_tuple (by decide +kernel) (pa_cons (pv 10) pa_nil)) (pa_cons (pe_callTy (r := rTupF K) call_tuple_ofF (by rfl) T.z_tuple (by decide +kernel) (pa_cons (pv 5) pa_nil)) (pa_cons (pe_tup pa_nil) pa_nil))))))))))))))
      , ?_⟩
    refine ⟨.ref p, rfl, p, 3, rfl, b, by decide, by decide, fun H1 shp k1 b1 _ _ => ?_⟩
    refine ⟨by decide, fun t nt => ?_⟩
    have ntp : t ≠ p := b1.ne nt
    refine ⟨.ref p, rfl, p, 8, rfl, b1.keep (same_upd nt), by decide, by decide, fun H2 d k2 b2 d0 d1 => ?_⟩
    obtain ⟨m0, hm0, em0⟩ := pick (ms := [8, 3, 5, 2, 4, 6, 7, 1]) d0 d1
    refine ⟨t, _, d, _, rfl, rfl, SqT.of (k2 _ _ ntp upd_same), em0, ?_⟩
    have k2 : Keep p H H2 := k1.trans ((Keep.of (same_upd nt)).trans k2)
    obtain ⟨n, rfl, n1, n8⟩ : ∃ n : Nat, m0 = (n : Int) ∧ 1 ≤ n ∧ n ≤ 8 := by
      simp only [List.mem_cons, List.not_mem_nil, or_false] at hm0
      exact ⟨m0.toNat, by omega, by omega, by omega⟩
    refine ⟨.ref p, rfl, .int n, rfl, p, n, rfl, b2, by omega, fun H3 ln ls k3 b3 nln eln hl lnd lnm => ?_⟩
    have nlp : ln ≠ p := b2.ne nln
    have nlnH : H ln = none := k2.free b nln b2
    refine ⟨.ref p, rfl, p, 14, rfl, b3, by decide, fun H4 pl zs k4 b4 npl epl hzl znd znm => ?_⟩
    have nplp : pl ≠ p := b3.ne npl
    have eln4 := k4 _ _ nlp eln
    have k4' : Keep p H H4 := k2.trans (k3.trans k4)
    refine ⟨Nat.zero_le _, fun J nJ => ?_⟩
    have nJp : J ≠ p := b4.ne nJ
    have nJH : H J = none := k4'.free b nJ b4
    have lnJ : ln ≠ J := ne_of_none eln4 nJ
    have plJ : pl ≠ J := ne_of_none epl nJ
    have b5 := b4.keep (same_upd (o := .lst []) nJ)
    have k5 : Keep p H4 (upd H4 J (.lst [])) := .of (same_upd nJ)
    have eJ5 : (upd H4 J (.lst [])) J = some (.lst []) := upd_same
    generalize upd H4 J (.lst []) = H5 at b5 k5 eJ5 ⊢
    refine ⟨.ref p, rfl, p, 13, rfl, b5, by decide, by decide, fun H6 d6 k6 b6 d60 d61 => ?_⟩
    refine ⟨by show 3 ≤ sizeLine; decide, fun t6 nt6 => ?_⟩
    have nt6p : t6 ≠ p := b6.ne nt6
    refine ⟨.ref p, rfl, p, 3, rfl, b6.keep (same_upd nt6), by decide, by decide, fun H7 d7 k7 b7 d70 d71 => ?_⟩
    obtain ⟨m1, hm1, em1⟩ := pick (ms := [12, 7, d6]) d70 d71
    refine ⟨t6, _, d7, _, rfl, rfl, SqT.of (k7 _ _ nt6p upd_same), em1, ?_⟩
    have hm : 0 ≤ m1 ∧ m1 ≤ 12 := by
      simp only [List.mem_cons, List.not_mem_nil, or_false] at hm1
      omega
    refine ⟨.int n, rfl, n, 1, rfl, rfl, .inr ⟨_, rfl, m1, _, rfl, rfl, .inl ⟨by omega, by omega⟩, ?_⟩⟩
    obtain ⟨M, eM, M12, M2⟩ : ∃ M : Nat, m1 * (if decide ((1 : Int) < (n : Int)) then 1 else 0) = (M : Int) ∧ M ≤ 12 ∧ (0 < M → 2 ≤ n) := by
      by_cases c : (1 : Int) < n
      · rw [if_pos (decide_eq_true c)]
        exact ⟨m1.toNat, by omega, by omega, fun _ => by omega⟩
      · rw [if_neg (fun z => c (of_decide_eq_true z))]
        exact ⟨0, by omega, by omega, fun z => absurd z (Nat.lt_irrefl _)⟩
    refine ⟨(M : Int), congrArg (fun z => [V.int z]) eM, by omega, by omega, ?_⟩
    rw [Int.toNat_natCast]
    have k7' : Keep p H4 H7 := k5.trans (k6.trans ((Keep.of (same_upd nt6)).trans k7))
    have atl : ∀ {d : Nat}, d < n → ∃ z ∈ ls, ls[d]? = some z ∧ atI (ls.map nS) (d : Int) = some (nS z) := fun {d} h => by
      have h' : d < ls.length := by omega
      exact ⟨ls[d], List.getElem_mem h', List.getElem?_eq_getElem h', atI_nat (by rw [List.getElem?_map, List.getElem?_eq_getElem h']; rfl)⟩
    refine for_range (lo := 0) (n := M) (fun i σ H8 => ∃ (y6 y7 y8 y9 : Option V) (ja : List Addr) (jns : List (Nm × List Nm)), σ = [some (.ref p), some (.int shp), some (.int n), some (.ref ln), some (.ref pl), some (.ref J), y6, y7, y8, y9, none, none] ∧ Keep p H H8 ∧ Bag H8 p ∧ H8 ln = some (.lst (ls.map nS)) ∧ H8 pl = some (.lst (zs.map nS)) ∧ H8 J = some (.lst (ja.map V.ref)) ∧ Paired (JnT H8) ja jns ∧ jns.length = i ∧ jns.map (·.1) = zs.take i ∧ (∀ j ∈ jns, j.2.Sublist ls ∧ 2 ≤ j.2.length))
      ⟨none, none, none, none, [], [], rfl, k4'.trans k7', b7, k7' _ _ nlp eln4, k7' _ _ nplp epl, k7.trans (.refl _ _) _ _ nJp (same_upd nt6 _ _ (k6 _ _ nJp eJ5)), .nil, rfl, rfl, fun j hj => (by cases hj)⟩ (fun i σ H8 hi hp => ?_) (fun σ H8 hp => ?_)
    · obtain ⟨y6, y7, y8, y9, ja, jns, rfl, k8, b8, eln8, epl8, eJ8, hJ8, jl, jz, hjs⟩ := hp
      have n2 := M2 (by omega)
      -- at, two
      refine ⟨.ref p, rfl, .int n, rfl, p, n, rfl, b8, by omega, by omega, fun H9 a9 k9 b9 a90 a91 => ?_⟩
      obtain ⟨a9, rfl⟩ : ∃ xn : Nat, a9 = (xn : Int) := ⟨a9.toNat, by omega⟩
      obtain ⟨z1, hz1, gz1, az1⟩ := atl (d := a9) (by omega)
      refine ⟨.ref ln, rfl, .int (a9 : Nat), rfl, ln, _, _, _, rfl, rfl, SqL.of (k9 _ _ nlp eln8), az1, ?_⟩
      refine ⟨.ref ln, rfl, .int (a9 : Nat), rfl, _, 1, rfl, rfl, .ref p, rfl, .int n, rfl, _, 1, rfl, rfl, p, (n : Int) - 1, rfl, b9, by omega, by omega, fun H10 a10 k10 b10 a100 a101 => ?_⟩
      obtain ⟨a10, rfl⟩ : ∃ xn : Nat, a10 = (xn : Int) := ⟨a10.toNat, by omega⟩
      have hmod : ((a9 : Int) + 1 + (a10 : Int)) % (n : Int) = (((a9 + 1 + a10) % n : Nat) : Int) := by
        rw [Int.natCast_emod]
        rfl
      obtain ⟨z2, hz2, gz2, az2⟩ := atl (d := (a9 + 1 + a10) % n) (Nat.mod_lt _ (by omega))
      refine ⟨_, _, rfl, rfl, .int n, rfl, _, n, rfl, rfl, by omega, ln, _, _, _, rfl, rfl, SqL.of (k10 _ _ nlp (k9 _ _ nlp eln8)), by rw [hmod]; exact az2, two_sz, fun tw ntw => ?_⟩
      have z12 : z1 ≠ z2 := fun e => by
        rw [← e] at gz2
        have := nodup_inj lnd gz1 gz2
        have h3 : (a9 + 1 + a10) % n = a9 := this.symm
        by_cases c : a9 + 1 + a10 < n
        · rw [Nat.mod_eq_of_lt c] at h3
          omega
        · rw [Nat.mod_eq_sub_mod (by omega), Nat.mod_eq_of_lt (by omega)] at h3
          omega
      have k10' : Keep p H8 H10 := k9.trans k10
      -- two, otherwise
      refine ⟨fun σ H11 => ∃ (tw : Addr) (z1 z2 : Nm), σ = [some (.ref p), some (.int shp), some (.int n), some (.ref ln), some (.ref pl), some (.ref J), some (.int (0 + (i : Int))), some (.int (a9 : Nat)), some (.ref tw), y9, none, none] ∧ Keep p H8 H11 ∧ Bag H11 p ∧ H11 tw = some (.tup [nS z1, nS z2]) ∧ z1 ∈ ls ∧ z2 ∈ ls ∧ z1 ≠ z2, ?_, fun σ H11 mid => ?_⟩
      · have kt := k10'.trans (.of (same_upd (o := .tup [nS z1, nS z2]) ntw))
        have bt := b10.keep (same_upd (o := .tup [nS z1, nS z2]) ntw)
        have et : (upd H10 tw (.tup [nS z1, nS z2])) tw = some (.tup [nS z1, nS z2]) := upd_same
        generalize upd H10 tw (.tup [nS z1, nS z2]) = Ht at kt bt et ⊢
        refine ⟨.int shp, rfl, rfl, _, rfl, ite2 (fun c => ?_) (fun c => ⟨tw, z1, z2, rfl, kt, bt, et, hz1, hz2, z12⟩)⟩
        refine ⟨.int (0 + (i : Int)), rfl, .int n, rfl, _, 1, rfl, rfl, _, _, rfl, rfl, _, rfl, ite2 (fun c => ?_) (fun c => ⟨tw, z1, z2, rfl, kt, bt, et, hz1, hz2, z12⟩)⟩
        have c : i + 1 < n := by
          have c := of_decide_eq_true c
          omega
        obtain ⟨u1, hu1, gu1, au1⟩ := atl (d := i) (by omega)
        obtain ⟨u2, hu2, gu2, au2⟩ := atl (d := i + 1) (by omega)
        refine ⟨.ref ln, rfl, .int (0 + (i : Int)), rfl, ln, _, _, _, rfl, rfl, SqL.of (kt _ _ nlp eln8), by rw [Int.zero_add]; exact au1, .ref ln, rfl, .int (0 + (i : Int)), rfl, _, 1, rfl, rfl, ln, _, _, _, rfl, rfl, SqL.of (kt _ _ nlp eln8), by rw [show 0 + (i : Int) + 1 = ((i + 1 : Nat) : Int) by omega]; exact au2, two_sz, fun tv ntv => ?_⟩
        exact ⟨tv, u1, u2, rfl, kt.trans (.of (same_upd ntv)), bt.keep (same_upd ntv), upd_same, hu1, hu2, fun e => by
          rw [← e] at gu2
          have := nodup_inj lnd gu1 gu2
          omega⟩
      clear z12 hz1 gz1 az1 hz2 gz2 az2
      clear z1 z2
      obtain ⟨tw, z1, z2, rfl, k11, b11, etw, hz1, hz2, z12⟩ := mid
      have twp : tw ≠ p := fun z => by
        obtain ⟨g, r, e, _⟩ := b11
        rw [z, e] at etw
        cases etw
      -- some
      refine ⟨.ref ln, rfl, ln, rfl, ⟨_, SqL.of (k11 _ _ nlp eln8)⟩, fun D nD => ?_⟩
      have nDp : D ≠ p := b11.ne nD
      refine lc_it (walk_list (xs := ls.map nS)) (fun j H12 => Keep p H11 H12 ∧ Bag H12 p ∧ ∃ os : List Nm, H12 D = some (.lst (os.map nS)) ∧ os.length ≤ j ∧ os.Sublist (ls.take j) ∧ ∀ z ∈ ls.take j, (z = z1 ∨ z = z2) → z ∈ os) ⟨.of (same_upd nD), b11.keep (same_upd nD), [], upd_same, Nat.le_refl _, List.nil_sublist _, fun z hz => (by cases hz)⟩ (fun j H12 _ pv => SqL.of (pv.1 _ _ nlp (k11 _ _ nlp eln8))) (fun j v H12₀ H12 hj pv yy => ?_) (fun H12 pv => ?_)
      · obtain ⟨rfl, ex⟩ := yy
        obtain ⟨k12, b12, os, eD, ol, hsub, hin⟩ := pv
        have hz' : ∃ z, ls[j]? = some z ∧ v = nS z := by
          rw [List.getElem?_map] at ex
          cases c : ls[j]? with
          | none => rw [c] at ex; cases ex
          | some t => rw [c] at ex; exact ⟨t, rfl, (Option.some.inj ex).symm⟩
        obtain ⟨z, ez, rfl⟩ := hz'
        have tk1 : ls.take (j + 1) = ls.take j ++ [z] := by rw [List.take_add_one, ez]; rfl
        rw [List.length_map] at hj
        have take_it : ∀ H13, Keep p H11 H13 → Bag H13 p → H13 D = some (.lst (os.map nS)) → ∃ acc, H13 D = some (.lst acc) ∧ acc.length < sizeLine ∧ (Keep p H11 (upd H13 D (.lst (acc ++ [nS z]))) ∧ Bag (upd H13 D (.lst (acc ++ [nS z]))) p ∧ ∃ os : List Nm, (upd H13 D (.lst (acc ++ [nS z]))) D = some (.lst (os.map nS)) ∧ os.length ≤ j + 1 ∧ os.Sublist (ls.take (j + 1)) ∧ ∀ z ∈ ls.take (j + 1), (z = z1 ∨ z = z2) → z ∈ os) := fun H13 k13 b13 e13 => by
          refine ⟨_, e13, small5000 (by rw [List.length_map]; omega), k13.set nD, b13.at (upd_ne nDp.symm), os ++ [z], by rw [upd_same, List.map_append]; rfl, by rw [List.length_append, List.length_singleton]; omega, by rw [tk1]; exact hsub.append (List.Sublist.refl _), fun y hy hc => ?_⟩
          rw [tk1] at hy
          rcases List.mem_append.mp hy with h | h
          · exact List.mem_append_left _ (hin y h hc)
          · exact List.mem_append_right _ h
        have leave_it : ∀ H13, Keep p H11 H13 → Bag H13 p → H13 D = some (.lst (os.map nS)) → ¬ (z = z1 ∨ z = z2) → (Keep p H11 H13 ∧ Bag H13 p ∧ ∃ os : List Nm, H13 D = some (.lst (os.map nS)) ∧ os.length ≤ j + 1 ∧ os.Sublist (ls.take (j + 1)) ∧ ∀ z ∈ ls.take (j + 1), (z = z1 ∨ z = z2) → z ∈ os) := fun H13 k13 b13 e13 nz => by
          refine ⟨k13, b13, os, e13, by omega, by rw [tk1]; exact hsub.trans (List.sublist_append_left _ _), fun y hy hc => ?_⟩
          rw [tk1] at hy
          rcases List.mem_append.mp hy with h | h
          · exact hin y h hc
          · rw [List.mem_singleton.mp h] at hc
            exact absurd hc nz
        refine ⟨rfl, nS z, rfl, .ref tw, rfl, tw, _, rfl, .inr (SqT.of (k12 _ _ twp etw)), rfl, rfl, _, rfl, ite2 (fun c => ?_) (fun c => ?_)⟩
        · exact ⟨nS z, rfl, take_it _ k12 b12 eD⟩
        · have nz : ¬ (z = z1 ∨ z = z2) := fun h => c (by
            show inV (nS z) [nS z1, nS z2] = true
            rw [in_two, decide_eq_true h])
          refine ⟨.int shp, rfl, rfl, _, rfl, ite2 (fun c2 => ?_) (fun c2 => leave_it _ k12 b12 eD nz)⟩
          refine ⟨.ref p, rfl, p, 6, rfl, b12, by decide, by decide, fun H13 d13 k13 b13 _ _ => ⟨rfl, _, rfl, ite2 (fun c3 => ?_) (fun c3 => leave_it _ (k12.trans k13) b13 (k13 _ _ nDp eD) nz)⟩⟩
          exact ⟨nS z, rfl, take_it _ (k12.trans k13) b13 (k13 _ _ nDp eD)⟩
      obtain ⟨k12, b12, os, eD, ol, hsub, hin⟩ := pv
      rw [List.length_map, List.take_length] at hsub hin
      rw [List.length_map] at ol
      have os2 : 2 ≤ os.length := two_len (hin z1 hz1 (.inl rfl)) (hin z2 hz2 (.inr rfl)) z12
      have k12' : Keep p H8 H12 := k11.trans k12
      -- junctions.append((places[k], tuple(some)))
      have hzi : i < zs.length := by omega
      have gzi : (zs.map nS)[i]? = some (nS zs[i]) := by rw [List.getElem?_map, List.getElem?_eq_getElem hzi]; rfl
      refine ⟨.ref J, rfl, .inl ⟨rfl, _, SqL.of (k12' _ _ nJp eJ8)⟩, .ref pl, rfl, .int (0 + (i : Int)), rfl, pl, _, _, _, rfl, rfl, SqL.of (k12' _ _ nplp epl8), by rw [Int.zero_add]; exact atI_nat gzi, ?_⟩
      refine ⟨.ref D, rfl, D, _, rfl, SqL.of eD, fun so H13 nso s13 tso _ => ⟨two_sz, fun u nu => ?_⟩⟩
      have su := same_upd (o := .tup [nS zs[i], .ref so]) nu
      have eu : (upd H13 u (.tup [nS zs[i], .ref so])) u = some (.tup [nS zs[i], .ref so]) := upd_same
      have tsu := tso.same su
      have k14 : Keep p H8 _ := k12'.trans (.of (s13.trans su))
      have b14 := b12.keep (s13.trans su)
      generalize upd H13 u (.tup [nS zs[i], .ref so]) = H14 at su eu tsu k14 b14 ⊢
      have eJ14 := k14 _ _ nJp eJ8
      refine ⟨J, _, _, rfl, rfl, eJ14, small5000 (by rw [List.length_map, paired_len hJ8]; omega), ?_⟩
      refine ⟨_, _, _, _, ja ++ [u], jns ++ [(zs[i], os)], rfl, (k8.trans k14).set nJH, b14.at (upd_ne nJp.symm), by rw [upd_ne lnJ]; exact k14 _ _ nlp eln8, by rw [upd_ne plJ]; exact k14 _ _ nplp epl8, by rw [upd_same, List.map_append]; rfl, paired_snoc (paired_imp hJ8 fun x _ j h => (h.keep k14 b8).upd eJ14) (JnT.upd ⟨so, eu, tsu⟩ eJ14), by rw [List.length_append, jl]; rfl, ?_, fun j hj => ?_⟩
      · rw [List.map_append, jz, List.take_add_one, List.getElem?_eq_getElem hzi]
        rfl
      · rcases List.mem_append.mp hj with h | h
        · exact hjs j h
        · rw [List.mem_singleton.mp h]
          exact ⟨hsub, os2⟩
    · obtain ⟨y6, y7, y8, y9, ja, jns, rfl, k8, b8, eln8, epl8, eJ8, hJ8, jl, jz, hjs⟩ := hp
      -- stations
      refine ⟨.ref p, rfl, p, 3, rfl, b8, by decide, by decide, fun H9 d9 k9 b9 d90 d91 => ?_⟩
      obtain ⟨d9, rfl⟩ : ∃ xn : Nat, d9 = (xn : Int) := ⟨d9.toNat, by omega⟩
      refine ⟨d9, rfl, by omega, by omega, fun D nD => ?_⟩
      have nDp : D ≠ p := b9.ne nD
      rw [Int.toNat_natCast]
      refine lc_it walk_range (fun j H10 => Keep p H9 H10 ∧ Bag H10 p ∧ ∃ sa : List Addr, H10 D = some (.lst (sa.map V.ref)) ∧ sa.length ≤ j) ⟨.of (same_upd nD), b9.keep (same_upd nD), [], upd_same, Nat.le_refl _⟩ (fun _ _ _ _ => trivial) (fun j x H10 H11 hj pv y => ?_) (fun H10 pv => ?_)
      · obtain ⟨rfl, rfl⟩ := y
        obtain ⟨k10, b10, sa, eD, sl⟩ := pv
        have hzi : 12 + j < zs.length := by omega
        have gzi : (zs.map nS)[12 + j]? = some (nS zs[12 + j]) := by rw [List.getElem?_map, List.getElem?_eq_getElem hzi]; rfl
        refine ⟨rfl, yes_ ?_⟩
        refine ⟨.ref pl, rfl, .int (0 + (j : Int)), rfl, 12, _, rfl, rfl, pl, _, _, _, rfl, rfl, SqL.of (k10 _ _ nplp (k9 _ _ nplp epl8)), by rw [show 12 + (0 + (j : Int)) = ((12 + j : Nat) : Int) by omega]; exact atI_nat gzi, ?_⟩
        refine ⟨.ref ln, rfl, .ref p, rfl, .int n, rfl, p, n, rfl, b10, by omega, by omega, fun H12 e12 k12 b12 e120 e121 => ?_⟩
        obtain ⟨e12, rfl⟩ : ∃ xn : Nat, e12 = (xn : Int) := ⟨e12.toNat, by omega⟩
        obtain ⟨z1, hz1, gz1, az1⟩ := atl (d := e12) (by omega)
        refine ⟨ln, _, _, _, rfl, rfl, SqL.of (k12 _ _ nlp (k10 _ _ nlp (k9 _ _ nlp eln8))), az1, two_sz, fun u nu => ?_⟩
        exact ⟨_, same_upd nu _ _ (k12 _ _ nDp eD), small5000 (by rw [List.length_map]; omega), (k10.trans (k12.trans (.of (same_upd nu)))).set nD, (b12.keep (same_upd nu)).at (upd_ne nDp.symm), sa ++ [u], by rw [upd_same, List.map_append]; rfl, by rw [List.length_append, List.length_singleton]; omega⟩
      obtain ⟨k10, b10, sa, eD, sl⟩ := pv
      have k10' : Keep p H8 H10 := k9.trans k10
      have eln10 := k10' _ _ nlp eln8
      have eJ10 := k10' _ _ nJp eJ8
      refine ⟨.ref ln, rfl, ln, _, rfl, SqL.of eln10, fun ta H11 nta s11 tta _ => ?_⟩
      refine ⟨.ref D, rfl, D, _, rfl, SqL.of (s11 _ _ eD), fun tb H12 ntb s12 ttb _ => ?_⟩
      refine ⟨.ref J, rfl, J, _, rfl, SqL.of (s12 _ _ (s11 _ _ eJ10)), fun tc H13 ntc s13 ttc _ => ?_⟩
      refine ⟨Nat.zero_le _, fun td ntd => ⟨four_sz, fun r nr => ?_⟩⟩
      have s14 := (same_upd (o := .tup []) ntd).trans (same_upd (o := .tup [.ref ta, .ref tb, .ref tc, .ref td]) nr)
      have s15 := s11.trans (s12.trans (s13.trans s14))
      refine q _ r ls jns (k8.trans (k10'.trans (.of s15))) (b10.keep s15) ⟨ta, tc, .ref tb, .ref td, ja, upd_same, tta.same (s12.trans (s13.trans s14)), ttc.same s14, paired_imp hJ8 fun x _ j h => (h.keep k10' b8).same s15⟩ ⟨by omega, by omega, lnd, lnm, by omega, ?_, fun j hj => ?_, fun j hj => (hjs j hj).1, fun j hj => (hjs j hj).2⟩
      · rw [jz]
        exact List.Sublist.nodup (List.take_sublist _ _) znd
      · refine znm _ (List.mem_of_mem_take (i := M) ?_)
        rw [← jz]
        exact List.mem_map_of_mem (f := Prod.fst) hj
end
end Th
namespace Th
open PySem PySem.Spec PyProof.Rows L2
/-! the program's roads of lines -/
def Adj (jns : List (Nm × List Nm)) (x y : Nm) : Prop := ∃ j ∈ jns, x ∈ j.2 ∧ y ∈ j.2
theorem Adj.symm {jns : List (Nm × List Nm)} {x y : Nm} (h : Adj jns x y) : Adj jns y x := let ⟨j, hj, a, b⟩ := h; ⟨j, hj, b, a⟩
theorem adj_snoc {jns : List (Nm × List Nm)} {j : Nm × List Nm} {x y : Nm} : Adj (jns ++ [j]) x y ↔ Adj jns x y ∨ (x ∈ j.2 ∧ y ∈ j.2) := by
  constructor
  · rintro ⟨i, hi, h⟩
    rcases List.mem_append.mp hi with z | z
    · exact .inl ⟨i, z, h⟩
    · rw [List.mem_singleton.mp z] at h
      exact .inr h
  · rintro (⟨i, hi, h⟩ | h)
    · exact ⟨i, List.mem_append_left _ hi, h⟩
    · exact ⟨j, List.mem_append_right _ (List.mem_singleton.mpr rfl), h⟩
theorem sqs {K : PySem.W.Frag} {H H' : Hp} {a : Addr} {xs : List V} (s : Same H H') (h : SqT K H a xs) : SqT K H' a xs := by
  rcases h with (h | ⟨o, h⟩) | h
  · exact .inl (.inl (s _ _ h))
  · exact .inl (.inr ⟨o, s _ _ h⟩)
  · exact .inr h
/-- tuples stay -/
def TQ (K : PySem.W.Frag) (H H' : Hp) : Prop := ∀ a xs, SqT K H a xs → SqT K H' a xs
theorem TQ.of {K : PySem.W.Frag} {H H' : Hp} (s : Same H H') : TQ K H H' := fun _ _ h => sqs s h
theorem TQ.trans {K : PySem.W.Frag} {H H1 H2 : Hp} (a : TQ K H H1) (b : TQ K H1 H2) : TQ K H H2 := fun c xs h => b c xs (a c xs h)
theorem TQ.keep {K : PySem.W.Frag} {p : Addr} {H H' : Hp} (k : Keep p H H') (b : Bag H p) : TQ K H H' := fun a xs h => by
  obtain ⟨g, r, e', _⟩ := b
  rcases h with (h | ⟨o, h⟩) | h
  · exact .inl (.inl (k _ _ (fun z => by rw [z, e'] at h; cases h) h))
  · exact .inl (.inr ⟨o, k _ _ (fun z => by rw [z, e'] at h; cases h) h⟩)
  · exact .inr h
theorem TQ.upd {K : PySem.W.Frag} {c : Addr} {H : Hp} {o : HO} {xs : List V} (h : H c = some (.lst xs)) : TQ K H (L2.upd H c o) := fun a ys e => by
  rcases e with (e | ⟨ob, e⟩) | e
  · exact .inl (.inl (by rw [upd_ne (fun z => by rw [z, h] at e; cases e)]; exact e))
  · exact .inl (.inr ⟨ob, by rw [upd_ne (fun z => by rw [z, h] at e; cases e)]; exact e⟩)
  · exact .inr e
def JnQ (K : PySem.W.Frag) (H : Hp) (a : Addr) (jn : Nm × List Nm) : Prop := ∃ b, SqT K H a [nS jn.1, .ref b] ∧ SqT K H b (jn.2.map nS)
/-- the net as far as lines and junctions go -/
def LJ (K : PySem.W.Frag) (H : Hp) (r : Addr) (ls : List Nm) (jns : List (Nm × List Nm)) : Prop := ∃ (a c : Addr) (b d : V) (ja : List Addr), SqT K H r [.ref a, b, .ref c, d] ∧ SqT K H a (ls.map nS) ∧ SqT K H c (ja.map V.ref) ∧ Paired (JnQ K H) ja jns
theorem LJ.tk {K : PySem.W.Frag} {H H' : Hp} {r : Addr} {ls : List Nm} {jns : List (Nm × List Nm)} (h : LJ K H r ls jns) (k : TQ K H H') : LJ K H' r ls jns := by
  obtain ⟨a, c, b, d, ja, h1, h2, h3, h4⟩ := h
  exact ⟨a, c, b, d, ja, k _ _ h1, k _ _ h2, k _ _ h3, paired_imp h4 fun x _ j ⟨t, e1, e2⟩ => ⟨t, k _ _ e1, k _ _ e2⟩⟩
structure LJok (ls : List Nm) (jns : List (Nm × List Nm)) : Prop where
  l8 : ls.length ≤ 8
  lnd : ls.Nodup
  sub : ∀ j ∈ jns, ∀ y ∈ j.2, y ∈ ls
  j9 : ∀ j ∈ jns, j.2.length ≤ 8
  jnd : ∀ j ∈ jns, j.2.Nodup
theorem LJok.adj {ls : List Nm} {jns : List (Nm × List Nm)} (h : LJok ls jns) {x y : Nm} (a : Adj jns x y) : y ∈ ls := let ⟨j, hj, _, b⟩ := a; h.sub j hj y b
theorem nd_len {α : Type} [DecidableEq α] : ∀ {l d : List α}, l.Nodup → (∀ x ∈ l, x ∈ d) → l.length ≤ d.length
  | [], _, _, _ => Nat.zero_le _
  | x :: l, d, h, s => by
    obtain ⟨h1, h2⟩ := List.nodup_cons.mp h
    have z := nd_len (l := l) (d := d.erase x) h2 fun y hy => (List.mem_erase_of_ne (fun e => h1 (by rw [← e]; exact hy))).mpr (s y (List.mem_cons_of_mem _ hy))
    have m := s x List.mem_cons_self
    rw [List.length_erase_of_mem m] at z
    have := List.length_pos_of_mem m
    rw [List.length_cons]
    omega
def addN (L : List Nm) (k : Nm) : List Nm := if k ∈ L then L else k :: L
theorem mem_addN {L : List Nm} {k x : Nm} : x ∈ addN L k ↔ x = k ∨ x ∈ L := by
  unfold addN
  split
  · exact ⟨.inr, fun z => z.elim (fun e => by rw [e]; assumption) id⟩
  · exact List.mem_cons
theorem nd_addN {L : List Nm} {k : Nm} (h : L.Nodup) : (addN L k).Nodup := by
  unfold addN
  split
  · exact h
  · exact List.nodup_cons.mpr ⟨by assumption, h⟩
theorem memS {L : List Nm} {k : Nm} : SX.S k ∈ L.map SX.S ↔ k ∈ L := ⟨fun z => let ⟨y, hy, e⟩ := List.mem_map.mp z; (SX.S_inj e) ▸ hy, fun z => List.mem_map_of_mem z⟩
theorem addL_S (L : List Nm) (k : Nm) : Ss.addL (L.map SX.S) (SX.S k) = (addN L k).map SX.S := by
  unfold Ss.addL addN
  by_cases c : k ∈ L
  · rw [if_pos (memS.mpr c), if_pos c]
  · rw [if_neg (fun z => c (memS.mp z)), if_neg c, List.map_cons]
theorem perm_S {ys : List Str} {L : List Nm} (h : ys.Perm (L.map SX.S)) : ∃ zs : List Nm, ys = zs.map SX.S ∧ zs.Perm L := by
  refine ⟨ys.map fun y => y.cps.toList, ?_, ?_⟩
  · rw [List.map_map]
    exact (List.map_id'' (fun y => rfl) ys).symm
  · have z := h.map fun y => y.cps.toList
    rw [List.map_map] at z
    rwa [show (L.map ((fun y : Str => y.cps.toList) ∘ SX.S)) = L from List.map_id'' (fun y => rfl) L] at z
theorem map_nS (zs : List Nm) : (zs.map SX.S).map V.str = zs.map nS := by rw [List.map_map]; rfl
theorem in_nms {x : Nm} {zs : List Nm} : inV (nS x) (zs.map nS) = decide (x ∈ zs) := by
  unfold inV
  rw [List.any_map]
  by_cases h : x ∈ zs
  · rw [decide_eq_true h]
    exact List.any_eq_true.mpr ⟨x, h, by show (SX.S x == SX.S x) = true; simp⟩
  · rw [decide_eq_false h]
    refine List.any_eq_false.mpr fun y hy z => h ?_
    have z : (SX.S y == SX.S x) = true := z
    rw [← SX.S_inj (eq_of_beq z)]
    exact hy
theorem flat_nms (zs : List Nm) : (zs.map nS).all flatV = true := List.all_eq_true.mpr fun x hx => by
  obtain ⟨j, _, rfl⟩ := List.mem_map.mp hx
  rfl
theorem at_ref {ts : List Addr} {i : Nat} {x : V} (h : (ts.map V.ref)[i]? = some x) : ∃ u, ts[i]? = some u ∧ x = .ref u := by
  rw [List.getElem?_map] at h
  cases c : ts[i]? with
  | none => rw [c] at h; cases h
  | some t => rw [c] at h; exact ⟨t, rfl, (Option.some.inj h).symm⟩
theorem at_nm {zs : List Nm} {i : Nat} {x : V} (h : (zs.map nS)[i]? = some x) : ∃ z, zs[i]? = some z ∧ x = nS z := by
  rw [List.getElem?_map] at h
  cases c : zs[i]? with
  | none => rw [c] at h; cases h
  | some t => rw [c] at h; exact ⟨t, rfl, (Option.some.inj h).symm⟩
section
variable {P : Program} {w : World} {K : PySem.W.Frag} {mg : Str → Option Value} {base : Heap} {k : Nat}
def sp_lines_joined (K : PySem.W.Frag) : Sp := fun vs H Q _ => ∃ (r : Addr) (x : Nm) (ls : List Nm) (jns : List (Nm × List Nm)), vs = [.ref r, nS x] ∧ LJ K H r ls jns ∧ LJok ls jns ∧
  ∀ H' p (ys : List Nm), Same H H' → H p = none → H' p = some (.lst (ys.map nS)) → ys.Nodup → (∀ y, y ∈ ys ↔ Adj jns x y) → Q (.ref p) H'
set_option maxHeartbeats 8000000 in
theorem ok_lines_joined (T : Defs K mg) : FnOk P w K mg base CX0 (k + 1) T.a_lines_joined T.d_lines_joined ["net", "line"] (sp_lines_joined K) := by
  refine T.F_lines_joined.ok sc_lines_joined (fun vs H Q E h => ?_) (fun cdv A outer s H vs Q E hr h => ?_)
  · obtain ⟨r, x, ls, jns, rfl, _⟩ := h
    rfl
  · obtain ⟨r, x, ls, jns, rfl, hnet, hok, q⟩ := h
    refine ⟨_, PSs.nox
(pss_one (ps_ret (pe_callB (Ss.cr_sortS rfl) (by rfl) T.z_sorted (by decide +kernel) (pa_cons (Ss.pe_sc2 (own := [("name", 2), ("joined", 3), ("beside", 4)]) (vs1 := [4]) (g := gTup K 2 (gCons (gName 2) (gCons (gName 3) gNil))) (g1 := gName 4) (wi1 := iTup K _) rfl sc_lines_joined.nd (pi_tup (pe_ix (r := rIxT K) ix_tup (pv 0) (pe_int) (fun _ _ => rfl))) (blkOk_by (N := N_lines_joined) (sc := defScope s_lines_joined) (by decide +kernel)) (by decide) (fun _ _ _ _ _ => (pg_tup rfl (pgs_cons (pg_name (i := 2) sc_lines_joined.nd rfl (.inl rfl)) (pgs_cons (pg_name (i := 3) sc_lines_joined.nd rfl (.inl rfl)) pgs_nil)))) (fun _ _ _ _ _ => pts_one (pt_cmpR (r := rIn K false) op_in_seq (pv 1) (pv 3) (by rfl))) (fun _ _ _ _ _ => (pi_tup (pv 3))) (fun _ _ _ _ _ => (pg_name (i := 4) sc_lines_joined.nd rfl (.inl rfl))) (fun _ _ _ _ _ => pts_nil) (fun _ _ _ _ _ => (pv 4))) pa_nil))))
      , ?_⟩
    obtain ⟨a, c, b, d, ja, er, ea, ec, hJ⟩ := id hnet
    have jl := paired_len hJ
    refine ⟨.ref r, rfl, r, [.ref a, b, .ref c, d], 2, .ref c, rfl, rfl, er, atI_nat (j := 2) rfl, c, rfl, ⟨_, ec⟩, fun D nD => ?_⟩
    have sub : ∀ {i : Nat} {L : List Nm}, (∀ y, y ∈ L → Adj (jns.take i) x y ∨ y ∈ ls) → ∀ y ∈ L, y ∈ ls := fun h y hy => (h y hy).elim (fun ⟨j, hj, _, hb⟩ => hok.sub j (List.mem_of_mem_take hj) y hb) id
    refine Ss.sc2_it (walk_tup (xs := ja.map V.ref)) (fun i H3 => Same H H3 ∧ ∃ L : List Nm, H3 D = some (Ss.SetSO w D (L.map SX.S)) ∧ L.Nodup ∧ ∀ y, y ∈ L ↔ Adj (jns.take i) x y) ⟨same_upd nD, [], upd_same, .nil, fun y => ⟨fun z => (by cases z), fun ⟨j, hj, _⟩ => (by cases hj)⟩⟩ (fun i H3 _ pv => (sqs pv.1 ec)) (fun i v H3₀ H3 hi pv yy => ?_) (fun H3 pv => ?_)
    · obtain ⟨rfl, ex⟩ := yy
      obtain ⟨s3, L, eD, hnd, hm⟩ := pv
      obtain ⟨u, eu, rfl⟩ := at_ref ex
      obtain ⟨jn, ejn, jt, hu, hjt⟩ := paired_get hJ eu
      have jin : jn ∈ jns := List.mem_of_getElem? ejn
      have tk1 : jns.take (i + 1) = jns.take i ++ [jn] := by rw [List.take_add_one, ejn]; rfl
      refine ⟨u, _, rfl, (sqs s3 hu), rfl, _, _, rfl, _, [], rfl, rfl, rfl, ?_⟩
      refine ⟨nS x, rfl, .ref jt, rfl, jt, _, rfl, .inr ((sqs s3 hjt)), rfl, flat_nms _, _, rfl, ite2 (fun c => ?_) (fun c => ?_)⟩
      · have c : x ∈ jn.2 := by
          rw [in_nms] at c
          exact of_decide_eq_true c
        refine ⟨.ref jt, rfl, jt, rfl, ⟨_, (sqs s3 hjt)⟩, ?_⟩
        refine Ss.in2_it (walk_tup (xs := jn.2.map nS)) (fun j H4 => Same H H4 ∧ ∃ L : List Nm, H4 D = some (Ss.SetSO w D (L.map SX.S)) ∧ L.Nodup ∧ ∀ y, y ∈ L ↔ Adj (jns.take i) x y ∨ y ∈ jn.2.take j) ⟨s3, L, eD, hnd, fun y => by rw [hm y]; exact ⟨.inl, fun z => z.elim id fun z => (by cases z)⟩⟩ (fun j H4 _ pv => (sqs pv.1 hjt)) (fun j v H4₀ H4 hj pv yy => ?_) (fun H4 pv => ?_)
        · obtain ⟨rfl, ey⟩ := yy
          obtain ⟨s4, L, eD, hnd, hm⟩ := pv
          obtain ⟨z, ez, rfl⟩ := at_nm ey
          have tk2 : jn.2.take (j + 1) = jn.2.take j ++ [z] := by rw [List.take_add_one, ez]; rfl
          refine ⟨rfl, yes_ ?_⟩
          have l8 : L.length ≤ ls.length := nd_len hnd (sub (i := i) fun y hy => ((hm y).mp hy).imp id fun z => hok.sub jn jin y (List.mem_of_mem_take z))
          refine ⟨nS z, rfl, SX.S z, L.map SX.S, rfl, eD, by rw [List.length_map]; exact Nat.lt_of_le_of_lt (Nat.succ_le_succ (Nat.le_trans l8 hok.l8)) (by decide), same_set s4 nD, addN L z, by rw [upd_same, addL_S]; rfl, nd_addN hnd, fun y => ?_⟩
          rw [mem_addN, hm y, tk2, List.mem_append, List.mem_singleton]
          constructor
          · rintro (h | h | h)
            · exact .inr (.inr h)
            · exact .inl h
            · exact .inr (.inl h)
          · rintro (h | h | h)
            · exact .inr (.inl h)
            · exact .inr (.inr h)
            · exact .inl h
        · obtain ⟨s4, L, eD, hnd, hm⟩ := pv
          refine ⟨s4, L, eD, hnd, fun y => ?_⟩
          rw [hm y, tk1, adj_snoc, List.length_map, List.take_length]
          exact ⟨fun z => z.imp id fun z => ⟨c, z⟩, fun z => z.imp id fun z => z.2⟩
      · have c : ¬ x ∈ jn.2 := fun z => by
          rw [in_nms, decide_eq_true z] at c
          exact c rfl
        refine ⟨s3, L, eD, hnd, fun y => ?_⟩
        rw [hm y, tk1, adj_snoc]
        exact ⟨.inl, fun z => z.elim id fun z => absurd z.1 c⟩
    · obtain ⟨s3, L, eD, hnd, hm⟩ := pv
      rw [List.length_map, jl, List.take_length] at hm
      have l8 : L.length ≤ ls.length := nd_len hnd fun y hy => hok.adj ((hm y).mp hy)
      refine ⟨D, _, rfl, eD, by rw [List.length_map]; have := hok.l8; omega, fun ys p hp hs np => ?_⟩
      obtain ⟨zs, rfl, hz⟩ := perm_S hp
      refine q _ p zs (s3.trans (same_upd np)) ?_ (by rw [upd_same, map_nS]) (hz.nodup_iff.mpr hnd) (fun y => by rw [hz.mem_iff]; exact hm y)
      cases e : H p with
      | none => rfl
      | some o => rw [s3 _ _ e] at np; cases np
/-- of each line those beside it -/
def BsAt (H : Hp) (D : Addr) (ls : List Nm) (jns : List (Nm × List Nm)) : Prop := ∃ kvs : List (Key × V), H D = some (.dK kvs) ∧ ∀ x ∈ ls, ∃ (a : Addr) (ys : List Nm), valV kvs (Sum.inr (SX.S x)) = some (.ref a) ∧ H a = some (.lst (ys.map nS)) ∧ ys.Nodup ∧ ∀ y, y ∈ ys ↔ Adj jns x y
theorem BsAt.same {H H' : Hp} {D : Addr} {ls : List Nm} {jns : List (Nm × List Nm)} (h : BsAt H D ls jns) (s : Same H H') : BsAt H' D ls jns := let ⟨kvs, e, f⟩ := h; ⟨kvs, s _ _ e, fun x hx => let ⟨a, ys, h1, h2, h3⟩ := f x hx; ⟨a, ys, h1, s _ _ h2, h3⟩⟩
def sp_lines_beside (K : PySem.W.Frag) : Sp := fun vs H Q _ => ∃ (r : Addr) (ls : List Nm) (jns : List (Nm × List Nm)), vs = [.ref r] ∧ LJ K H r ls jns ∧ LJok ls jns ∧ ∀ H' D, Same H H' → H D = none → BsAt H' D ls jns → Q (.ref D) H'
set_option maxHeartbeats 8000000 in
theorem ok_lines_beside (T : Defs K mg) : FnOk P w K mg base CX0 (k + 2) T.a_lines_beside T.d_lines_beside ["net"] (sp_lines_beside K) := by
  have G_lines_joined : FnOk P w K mg base CX0 (k + 1) _ _ _ _ := ok_lines_joined T
  refine T.F_lines_beside.ok sc_lines_beside (fun vs H Q E h => ?_) (fun cdv A outer s H vs Q E hr h => ?_)
  · obtain ⟨r, ls, jns, rfl, _⟩ := h
    rfl
  · obtain ⟨r, ls, jns, rfl, hnet, hok, q⟩ := h
    refine ⟨_, PSs.nox
(pss_one (ps_ret (pe_dc (own := [("line", 1)]) (g := gName 1) rfl sc_lines_beside.nd (pi_tup (pe_ix (r := rIxT K) ix_tup (pv 0) (pe_int) (fun _ _ => rfl))) (blkOk_by (N := N_lines_beside) (sc := defScope s_lines_beside) (by decide +kernel)) (fun _ _ _ _ _ => (pg_name (i := 1) sc_lines_beside.nd rfl (.inl rfl))) (fun _ _ _ _ _ => pts_nil) (fun _ _ _ _ _ => (pv 1)) (fun _ _ _ _ _ => (pe_call G_lines_joined hr (by rfl) T.g_lines_joined T.F_lines_joined.kp T.b_lines_joined .nil pass0 (pa_cons (pv 0) (pa_cons (pv 1) pa_nil)))))))
      , ?_⟩
    obtain ⟨a, c, b, d, ja, er, ea, ec, hJ⟩ := id hnet
    refine ⟨.ref r, rfl, r, [.ref a, b, .ref c, d], 0, .ref a, rfl, rfl, er, atI_nat (j := 0) rfl, a, rfl, ⟨_, ea⟩, fun D nD => ?_⟩
    refine dc_tup (xs := ls.map nS) (fun i H3 => Same H H3 ∧ ∃ kvs : List (Key × V), H3 D = some (.dK kvs) ∧ kvs.length ≤ i ∧ ∀ x ∈ ls.take i, ∃ (a : Addr) (ys : List Nm), a ≠ D ∧ valV kvs (Sum.inr (SX.S x)) = some (.ref a) ∧ H3 a = some (.lst (ys.map nS)) ∧ ys.Nodup ∧ ∀ y, y ∈ ys ↔ Adj jns x y) ⟨same_upd nD, [], upd_same, Nat.le_refl _, fun x hx => (by cases hx)⟩ (fun i H3 _ pv => (sqs pv.1 ea)) (fun i v H3 ex pv => ?_) (fun H3 pv => ?_)
    · obtain ⟨s3, kvs, eD, hl, hv⟩ := pv
      obtain ⟨x, exx, rfl⟩ := at_nm ex
      have ilt : i < ls.length := (List.getElem?_eq_some_iff.mp exx).1
      have l8 := hok.l8
      refine ⟨rfl, yes_ ?_⟩
      refine ⟨nS x, rfl, .ref r, rfl, nS x, rfl, r, x, ls, jns, rfl, hnet.tk (.of s3), hok, fun H4 p ys s4 np ep hnd hm => ?_⟩
      have npD : p ≠ D := fun e => by rw [e, eD] at np; cases np
      refine ⟨kvs, Sum.inr (SX.S x), rfl, s4 _ _ eD, small5000 (by omega), same_set (s3.trans s4) nD, _, upd_same, ?_, fun y hy => ?_⟩
      · have := length_putK kvs (Sum.inr (SX.S x)) (V.ref p)
        omega
      · rw [valV_put]
        by_cases c : y = x
        · rw [if_pos (by rw [c])]
          subst c
          exact ⟨p, ys, npD, rfl, by rw [upd_ne npD]; exact ep, hnd, hm⟩
        · rw [if_neg (fun q => c (SX.S_inj (Sum.inr.inj q)))]
          rw [List.take_add_one, exx] at hy
          rcases List.mem_append.mp hy with z | z
          · obtain ⟨a', ys', h0, h1, h2, h3⟩ := hv y z
            exact ⟨a', ys', h0, h1, by rw [upd_ne h0]; exact s4 _ _ h2, h3⟩
          · exact absurd (List.mem_singleton.mp z) c
    · obtain ⟨s3, kvs, eD, hl, hv⟩ := pv
      rw [List.length_map, List.take_length] at hv
      exact q _ D s3 nD ⟨kvs, eD, fun x hx => let ⟨a, ys, _, h⟩ := hv x hx; ⟨a, ys, h⟩⟩
end
end Th
namespace Th
open PySem PySem.Spec PyProof.Rows L2
/-! steps to any of the far ones -/
open Rm (Ds Wk Gr Lst ds_succ ds_zero ds_none wk_ds)
abbrev AF (jns : List (Nm × List Nm)) (fars : List Nm) (n : Nat) (x : Nm) : Prop := Ds (Adj jns) (· ∈ fars) n x
/-- what the steps below m tell -/
def SV (jns : List (Nm × List Nm)) (fars : List Nm) (m : Nat) (kvs : List (Key × V)) : Prop := ∀ x : Nm, (∃ n, n < m ∧ AF jns fars n x ∧ valV kvs (Sum.inr (SX.S x)) = some (.int (n : Nat))) ∨ ((∀ n, n < m → ¬ AF jns fars n x) ∧ valV kvs (Sum.inr (SX.S x)) = none)
/-- what all steps tell -/
def SA' (jns : List (Nm × List Nm)) (fars : List Nm) (kvs : List (Key × V)) : Prop := ∀ x : Nm, (∃ n, AF jns fars n x ∧ valV kvs (Sum.inr (SX.S x)) = some (.int (n : Nat))) ∨ ((∀ n, ¬ AF jns fars n x) ∧ valV kvs (Sum.inr (SX.S x)) = none)
theorem af_in {ls : List Nm} {jns : List (Nm × List Nm)} {fars : List Nm} (hok : LJok ls jns) (hf : ∀ f ∈ fars, f ∈ ls) {n : Nat} {x : Nm} (h : AF jns fars n x) : x ∈ ls := by
  cases n with
  | zero => exact hf x h.1
  | succ n =>
    obtain ⟨y, h1, _⟩ := h.down
    exact hok.adj h1.symm
section
variable {P : Program} {w : World} {K : PySem.W.Frag} {mg : Str → Option Value} {base : Heap} {k : Nat}
def sp_steps_to : Sp := fun vs H Q _ => ∃ (D fr : Addr) (ls : List Nm) (jns : List (Nm × List Nm)) (fars : List Nm), vs = [.ref D, .ref fr] ∧ BsAt H D ls jns ∧ LJok ls jns ∧ H fr = some (.lst (fars.map nS)) ∧ fars.Nodup ∧ (∀ f ∈ fars, f ∈ ls) ∧
  ∀ H' d kvs, Same H H' → H d = none → H' d = some (.dK kvs) → SA' jns fars kvs → Q (.ref d) H'
set_option maxHeartbeats 8000000 in
theorem ok_steps_to (T : Defs K mg) : FnOk P w K mg base CX0 (k + 1) T.a_steps_to T.d_steps_to ["beside", "fars"] sp_steps_to := by
  refine T.F_steps_to.ok sc_steps_to (fun vs H Q E h => ?_) (fun cdv A outer s H vs Q E hr h => ?_)
  · obtain ⟨D, fr, ls, jns, fars, rfl, _⟩ := h
    rfl
  · obtain ⟨D, fr, ls, jns, fars, rfl, hbs, hok, efr, fnd, fls, q⟩ := h
    refine ⟨_, PSs.nox
(pss_cons (ps_set (i := 2) sc_steps_to.nd rfl (.inr rfl) (pe_dnewK))
    (pss_cons (ps_set (i := 3) sc_steps_to.nd rfl (.inl rfl) (pe_int))
    (pss_cons (ps_set (i := 4) sc_steps_to.nd rfl (.inl rfl) (pv 1))
    (pss_cons (ps_while PassesOwn.never (pt_truth (pv 4) (by intro _; rfl))
      (pss_cons (ps_for PassesOwn.never rfl (pi_list (pv 4)) (pg_name (i := 5) sc_steps_to.nd rfl (.inl rfl))
        (pss_one (ps_dput (hu_of hr) (pv 2) (pv 5) (pv 3) (by rfl))))
      (pss_cons (ps_aug (i := 3) sc_steps_to.nd rfl (.inl rfl) (pe_int) ip_add)
      (pss_one (ps_set (i := 4) sc_steps_to.nd rfl (.inl rfl) (pe_callB (Ss.cr_sortS rfl) (by rfl) T.z_sorted (by decide +kernel) (pa_cons (Ss.pe_sc2 (own := [("line", 5), ("near", 6)]) (vs1 := [6]) (g := gName 5) (g1 := gName 6) (wi1 := iList K _) rfl sc_steps_to.nd (pi_list (pv 4)) (blkOk_by (N := N_steps_to) (sc := defScope s_steps_to) (by decide +kernel)) (by decide) (fun _ _ _ _ _ => (pg_name (i := 5) sc_steps_to.nd rfl (.inl rfl))) (fun _ _ _ _ _ => pts_nil) (fun _ _ _ _ _ => (pi_list (pe_dget (hu_of hr) (pv 0) (pv 5) (fun _ _ => rfl)))) (fun _ _ _ _ _ => (pg_name (i := 6) sc_steps_to.nd rfl (.inl rfl))) (fun _ _ _ _ _ => pts_one (pt_cmp (pc_dnotin (hu_of hr) (pv 6) (pv 2)))) (fun _ _ _ _ _ => (pv 6))) pa_nil)))))))
    (pss_one (ps_ret (pv 2)))))))
      , ?_⟩
    have l8 := hok.l8
    refine fun sd nsd => ⟨.ref fr, rfl, ?_⟩
    have nsdD : sd ≠ D := fun e => by
      obtain ⟨kvs, h, _⟩ := hbs
      rw [e, h] at nsd
      cases nsd
    refine ⟨fun m' σ H3 => ∃ (m : Nat) (eg : Addr) (es zs : List Nm) (kvs : List (Key × V)) (y5 : Option V), m' = 10 - m ∧ σ = [some (.ref D), some (.ref fr), some (.ref sd), some (.int (m : Nat)), some (.ref eg), y5, none] ∧ Same H H3 ∧ eg ≠ sd ∧ H3 eg = some (.lst (es.map nS)) ∧ es.Nodup ∧ (∀ x, x ∈ es ↔ AF jns fars m x) ∧
        H3 sd = some (.dK kvs) ∧ kvs.map (·.1) = (zs.map SX.S).map Sum.inr ∧ zs.Nodup ∧ (∀ z ∈ zs, ∃ n, n < m ∧ AF jns fars n z) ∧ m ≤ zs.length ∧ SV jns fars m kvs,
      ⟨_, 0, fr, fars, [], [], none, rfl, rfl, same_upd nsd, ne_of_none efr nsd, same_upd nsd _ _ efr, fnd, fun x => ds_zero.symm, upd_same, rfl, .nil, fun z hz => (by cases hz), Nat.le_refl _, fun x => .inr ⟨fun n hn => absurd hn (Nat.not_lt_zero _), rfl⟩⟩, fun m' σ H3 hW => ?_⟩
    obtain ⟨m, eg, es, zs, kvs, y5, rfl, rfl, s3, nes, eE, end_, hE, eS, hkz, znd, hz, mz, hsv⟩ := hW
    refine ⟨.ref eg, rfl, _, .inl ⟨_, SqL.of eE, rfl⟩, ite2 (fun c => ?_) (fun c => ?_)⟩
    · have ne : es ≠ [] := fun e => by rw [e] at c; cases c
      have zl : zs.length ≤ ls.length := nd_len znd fun z h => let ⟨n, _, h⟩ := hz z h; af_in hok fls h
      have dis : ∀ z ∈ zs, ∀ x ∈ es, z ≠ x := fun z hz1 x hx e => by
        obtain ⟨n, hn, h1⟩ := hz z hz1
        rw [e] at h1
        have := h1.eq ((hE x).mp hx)
        omega
      refine ⟨_, fun σ' H' h => h, ?_⟩
      refine ⟨.ref eg, rfl, eg, rfl, ⟨_, SqL.of eE⟩, ?_⟩
      refine for_it (walk_list (xs := es.map nS)) (fun i σ H4 => ∃ (y5 : Option V) (kvs : List (Key × V)), σ = [some (.ref D), some (.ref fr), some (.ref sd), some (.int (m : Nat)), some (.ref eg), y5, none] ∧ Same H H4 ∧ H4 eg = some (.lst (es.map nS)) ∧ H4 sd = some (.dK kvs) ∧ kvs.map (·.1) = ((zs ++ es.take i).map SX.S).map Sum.inr ∧
          ∀ x, (x ∈ es.take i → valV kvs (Sum.inr (SX.S x)) = some (.int (m : Nat))) ∧ (x ∉ es.take i → (∃ n, n < m ∧ AF jns fars n x ∧ valV kvs (Sum.inr (SX.S x)) = some (.int (n : Nat))) ∨ ((∀ n, n < m → ¬ AF jns fars n x) ∧ valV kvs (Sum.inr (SX.S x)) = none)))
        ⟨y5, kvs, rfl, s3, eE, eS, by rw [List.take_zero, List.append_nil]; exact hkz, fun x => ⟨fun z => (by cases z), fun _ => hsv x⟩⟩ (fun i σ H4 _ hp => ?_) (fun i v σ H4₀ H4 hi hp yy => ?_) (fun σ H4 hp => ?_)
      · obtain ⟨_, _, _, _, e4, _⟩ := hp
        exact SqL.of e4
      · obtain ⟨rfl, ex⟩ := yy
        obtain ⟨y5, kvs, rfl, s4, eE4, eS4, hkz4, hv⟩ := hp
        obtain ⟨z, ez, rfl⟩ := at_nm ex
        have zin : z ∈ es := List.mem_of_getElem? ez
        have tk1 : es.take (i + 1) = es.take i ++ [z] := by rw [List.take_add_one, ez]; rfl
        have znot : z ∉ es.take i := fun h => by
          have := List.nodup_append.mp (tk1 ▸ (List.Sublist.nodup (List.take_sublist (i + 1) es) end_))
          exact this.2.2 z h z (List.mem_singleton.mpr rfl) rfl
        have vn : valV kvs (Sum.inr (SX.S z)) = none := by
          rcases (hv z).2 znot with ⟨n, hn, h1, _⟩ | ⟨_, h⟩
          · have := h1.eq ((hE z).mp zin)
            omega
          · exact h
        have kl : kvs.length ≤ 5000 := by
          have := congrArg List.length hkz4
          rw [List.length_map, List.length_map, List.length_map, List.length_append] at this
          have h2 : es.length ≤ ls.length := nd_len end_ fun x hx => af_in hok fls ((hE x).mp hx)
          have h3 : (es.take i).length ≤ es.length := List.length_take_le' _ _
          omega
        refine ⟨.int (m : Nat), rfl, .ref sd, rfl, nS z, rfl, sd, _, rfl, DPut.k (k := Sum.inr (SX.S z)) eS4 (small5000 kl), ?_⟩
        refine ⟨_, _, rfl, same_set s4 nsd, by rw [upd_ne nes]; exact eE4, upd_same, ?_, fun x => ?_⟩
        · rw [putK_new _ vn, List.map_append, hkz4, tk1, ← List.append_assoc, List.map_append (l₁ := zs ++ es.take i), List.map_append (l₁ := (zs ++ es.take i).map SX.S)]
          rfl
        · rw [valV_put, tk1, List.mem_append, List.mem_singleton]
          by_cases c : x = z
          · rw [if_pos (by rw [c])]
            exact ⟨fun _ => rfl, fun h => absurd (.inr c) h⟩
          · rw [if_neg (fun q => c (SX.S_inj (Sum.inr.inj q)))]
            exact ⟨fun h => (hv x).1 (h.elim id fun e => absurd e c), fun h => (hv x).2 fun z => h (.inl z)⟩
      · obtain ⟨y5, kvs, rfl, s4, eE4, eS4, hkz4, hv⟩ := hp
        rw [List.length_map, List.take_length] at hkz4 hv
        have zs2 : (zs ++ es).Nodup := List.nodup_append.mpr ⟨znd, end_, dis⟩
        have hz2 : ∀ z ∈ zs ++ es, ∃ n, n < m + 1 ∧ AF jns fars n z := fun z h => (List.mem_append.mp h).elim (fun h => let ⟨n, hn, h⟩ := hz z h; ⟨n, by omega, h⟩) fun h => ⟨m, by omega, (hE z).mp h⟩
        have el : 1 ≤ es.length := List.length_pos_iff.mpr ne
        have sv2 : SV jns fars (m + 1) kvs := fun x => by
          by_cases c : x ∈ es
          · exact .inl ⟨m, by omega, (hE x).mp c, (hv x).1 c⟩
          · rcases (hv x).2 c with ⟨n, hn, h⟩ | ⟨h1, h2⟩
            · exact .inl ⟨n, by omega, h⟩
            · refine .inr ⟨fun n hn h => ?_, h2⟩
              by_cases c2 : n = m
              · subst c2
                exact c ((hE x).mpr h)
              · exact h1 n (by omega) h
        refine ⟨.int (m : Nat), rfl, _, _, rfl, rfl, ?_⟩
        refine ⟨.ref eg, rfl, eg, rfl, ⟨_, SqL.of eE4⟩, fun D2 nD2 => ?_⟩
        have hbs4 := hbs.same s4
        have sd2 : sd ≠ D2 := ne_of_none eS4 nD2
        have eg2 : eg ≠ D2 := ne_of_none eE4 nD2
        have beyond : ∀ y, (∃ x ∈ es, Adj jns x y) ∧ valV kvs (Sum.inr (SX.S y)) = none ↔ AF jns fars (m + 1) y := fun y => by
          show _ ↔ Ds (Adj jns) (· ∈ fars) (m + 1) y
          rw [ds_succ]
          constructor
          · rintro ⟨⟨x, hx, hxy⟩, hn⟩
            refine ⟨⟨x, hxy.symm, (hE x).mp hx⟩, fun n hn2 hd => ?_⟩
            rcases sv2 y with ⟨n', _, _, h3⟩ | ⟨h1, _⟩
            · rw [hn] at h3
              cases h3
            · exact h1 n (by omega) hd
          · rintro ⟨⟨x, hxy, hx⟩, hn⟩
            refine ⟨⟨x, (hE x).mpr hx, hxy.symm⟩, ?_⟩
            rcases sv2 y with ⟨n', h1, h2, _⟩ | ⟨_, h⟩
            · exact absurd h2 (hn n' (by omega))
            · exact h
        refine Ss.sc2_it (walk_list (xs := es.map nS)) (fun i H5 => Same H4 H5 ∧ ∃ L : List Nm, H5 D2 = some (Ss.SetSO w D2 (L.map SX.S)) ∧ L.Nodup ∧ ∀ y, y ∈ L ↔ (∃ x ∈ es.take i, Adj jns x y) ∧ valV kvs (Sum.inr (SX.S y)) = none) ⟨same_upd nD2, [], upd_same, .nil, fun y => ⟨fun z => (by cases z), fun ⟨⟨x, hx, _⟩, _⟩ => (by cases hx)⟩⟩ (fun i H5 _ pv => SqL.of (pv.1 _ _ eE4)) (fun i v H5₀ H5 hi pv yy => ?_) (fun H5 pv => ?_)
        · obtain ⟨rfl, ex⟩ := yy
          obtain ⟨s5, L, eD2, hnd, hm⟩ := pv
          obtain ⟨x, exx, rfl⟩ := at_nm ex
          have xin : x ∈ es := List.mem_of_getElem? exx
          have tk1 : es.take (i + 1) = es.take i ++ [x] := by rw [List.take_add_one, exx]; rfl
          obtain ⟨bk, eDb, hbv⟩ := hbs4
          obtain ⟨ba, ys, hv1, hba, ynd, hym⟩ := hbv x (af_in hok fls ((hE x).mp xin))
          refine ⟨rfl, yes_ ?_⟩
          refine ⟨.ref D, rfl, nS x, rfl, D, _, rfl, by rw [← hv1]; exact DGet.k (k := Sum.inr (SX.S x)) (s5 _ _ eDb), ba, rfl, ⟨_, SqL.of (s5 _ _ hba)⟩, ?_⟩
          refine Ss.in2_it (walk_list (xs := ys.map nS)) (fun j H6 => Same H4 H6 ∧ ∃ L : List Nm, H6 D2 = some (Ss.SetSO w D2 (L.map SX.S)) ∧ L.Nodup ∧ ∀ y, y ∈ L ↔ ((∃ x ∈ es.take i, Adj jns x y) ∨ y ∈ ys.take j) ∧ valV kvs (Sum.inr (SX.S y)) = none) ⟨s5, L, eD2, hnd, fun y => by rw [hm y]; exact ⟨fun z => ⟨.inl z.1, z.2⟩, fun z => ⟨z.1.elim id fun z => (by cases z), z.2⟩⟩⟩ (fun j H6 _ pv => SqL.of (pv.1 _ _ hba)) (fun j v H6₀ H6 hj pv yy => ?_) (fun H6 pv => ?_)
          · obtain ⟨rfl, ey⟩ := yy
            obtain ⟨s6, L, eD2, hnd, hm⟩ := pv
            obtain ⟨y, eyy, rfl⟩ := at_nm ey
            have tk2 : ys.take (j + 1) = ys.take j ++ [y] := by rw [List.take_add_one, eyy]; rfl
            refine ⟨rfl, nS y, rfl, .ref sd, rfl, sd, _, rfl, DGet.k (k := Sum.inr (SX.S y)) (s6 _ _ eS4), _, rfl, ite2 (fun c => ?_) (fun c => ?_)⟩
            · have vn : valV kvs (Sum.inr (SX.S y)) = none := by
                cases h : valV kvs (Sum.inr (SX.S y)) with
                | none => rfl
                | some o => rw [h] at c; cases c
              have l9 : L.length ≤ ls.length := nd_len hnd fun z hz => by
                obtain ⟨h, _⟩ := (hm z).mp hz
                rcases h with ⟨x', _, h⟩ | h
                · exact hok.adj h
                · exact hok.adj ((hym z).mp (List.mem_of_mem_take h))
              refine ⟨nS y, rfl, SX.S y, L.map SX.S, rfl, eD2, by rw [List.length_map]; exact Nat.lt_of_le_of_lt (Nat.succ_le_succ (Nat.le_trans l9 hok.l8)) (by decide), same_set s6 nD2, addN L y, by rw [upd_same, addL_S]; rfl, nd_addN hnd, fun z => ?_⟩
              rw [mem_addN, hm z, tk2, List.mem_append, List.mem_singleton]
              constructor
              · rintro (h | h)
                · subst h
                  exact ⟨.inr (.inr rfl), vn⟩
                · exact ⟨h.1.imp id .inl, h.2⟩
              · rintro ⟨h | h | h, hn⟩
                · exact .inr ⟨.inl h, hn⟩
                · exact .inr ⟨.inr h, hn⟩
                · exact .inl h
            · refine ⟨s6, L, eD2, hnd, fun z => ?_⟩
              rw [hm z, tk2, List.mem_append, List.mem_singleton]
              constructor
              · rintro ⟨h, hn⟩
                exact ⟨h.imp id .inl, hn⟩
              · rintro ⟨h | h | h, hn⟩
                · exact ⟨.inl h, hn⟩
                · exact ⟨.inr h, hn⟩
                · subst h
                  rw [hn] at c
                  exact absurd rfl c
          · obtain ⟨s6, L, eD2, hnd, hm⟩ := pv
            refine ⟨s6, L, eD2, hnd, fun y => ?_⟩
            rw [hm y, tk1, List.length_map, List.take_length, hym y]
            constructor
            · rintro ⟨⟨x', hx', h⟩ | h, hn⟩
              · exact ⟨⟨x', List.mem_append_left _ hx', h⟩, hn⟩
              · exact ⟨⟨x, List.mem_append_right _ (List.mem_singleton.mpr rfl), h⟩, hn⟩
            · rintro ⟨⟨x', hx', h⟩, hn⟩
              rcases List.mem_append.mp hx' with z | z
              · exact ⟨.inl ⟨x', z, h⟩, hn⟩
              · rw [List.mem_singleton.mp z] at h
                exact ⟨.inr h, hn⟩
        · obtain ⟨s5, L, eD2, hnd, hm⟩ := pv
          rw [List.length_map, List.take_length] at hm
          have hm2 : ∀ y, y ∈ L ↔ AF jns fars (m + 1) y := fun y => (hm y).trans (beyond y)
          have l9 : L.length ≤ ls.length := nd_len hnd fun z hz => af_in hok fls ((hm2 z).mp hz)
          refine ⟨D2, _, rfl, eD2, by rw [List.length_map]; omega, fun ys p hp hs np => ?_⟩
          obtain ⟨xs, rfl, hx⟩ := perm_S hp
          refine ⟨10 - (m + 1), by omega, m + 1, p, xs, zs ++ es, kvs, _, rfl, rfl, s4.trans (s5.trans (same_upd np)), (ne_of_none (s5 _ _ eS4) np).symm, by rw [upd_same, map_nS], hx.nodup_iff.mpr hnd, fun y => by rw [hx.mem_iff]; exact hm2 y, same_upd np _ _ (s5 _ _ eS4), hkz4, zs2, hz2, by rw [List.length_append]; omega, sv2⟩
    · have ne : es = [] := by
        cases h : es with
        | nil => rfl
        | cons a r => rw [h] at c; exact absurd rfl c
      refine ⟨.ref sd, rfl, q _ sd kvs s3 nsd eS fun x => ?_⟩
      have no : ∀ x, ¬ AF jns fars m x := fun x h => by
        have := (hE x).mpr h
        rw [ne] at this
        cases this
      rcases hsv x with ⟨n, _, h⟩ | ⟨h1, h2⟩
      · exact .inl ⟨n, h⟩
      · refine .inr ⟨fun n h => ?_, h2⟩
        by_cases c : n < m
        · exact h1 n c h
        · exact ds_none no n x (by omega) h
end
/-! the least of the shortest roads to any of the far ones -/
theorem af_chain {ls : List Nm} {jns : List (Nm × List Nm)} {fars : List Nm} (hok : LJok ls jns) (hf : ∀ f ∈ fars, f ∈ ls) : ∀ (n : Nat) {x : Nm}, AF jns fars n x → ∃ zs : List Nm, zs.length = n + 1 ∧ zs.Nodup ∧ ∀ z ∈ zs, z ∈ ls ∧ ∃ i, i ≤ n ∧ AF jns fars i z
  | 0, x, h => ⟨[x], rfl, by simp, fun z hz => by rw [List.mem_singleton.mp hz]; exact ⟨af_in hok hf h, 0, Nat.le_refl _, h⟩⟩
  | n + 1, x, h => by
    obtain ⟨y, _, hy⟩ := h.down
    obtain ⟨zs, h1, h2, h3⟩ := af_chain hok hf n hy
    refine ⟨x :: zs, by rw [List.length_cons, h1], List.nodup_cons.mpr ⟨fun hx => ?_, h2⟩, fun z hz => ?_⟩
    · obtain ⟨_, i, hi, hd⟩ := h3 x hx
      have := hd.eq h
      omega
    · rcases List.mem_cons.mp hz with e | e
      · rw [e]
        exact ⟨af_in hok hf h, n + 1, Nat.le_refl _, h⟩
      · obtain ⟨k1, i, hi, hd⟩ := h3 z e
        exact ⟨k1, i, by omega, hd⟩
theorem af_lt {ls : List Nm} {jns : List (Nm × List Nm)} {fars : List Nm} (hok : LJok ls jns) (hf : ∀ f ∈ fars, f ∈ ls) {n : Nat} {x : Nm} (h : AF jns fars n x) : n < ls.length := by
  obtain ⟨zs, h1, h2, h3⟩ := af_chain hok hf n h
  have := nd_len h2 fun z hz => (h3 z hz).1
  omega
/-- what is told of a road -/
def Rd' (jns : List (Nm × List Nm)) (fars : List Nm) (x : Nm) (rd : List Nm) : Prop := (∃ n, AF jns fars n x ∧ Gr (Adj jns) (· ∈ fars) n x rd) ∨ ((∀ n, ¬ AF jns fars n x) ∧ rd = [])
theorem dpAll_nms {K : PySem.W.Frag} {H : Hp} : ∀ zs : List Nm, DpAll K H (zs.map nS) ((zs.map SX.S).map PySem.W.Datum.toD)
  | [] => .nil
  | z :: zs => .cons (.str _) (dpAll_nms zs)
theorem s_ir (a : Str) : PySem.W.DatumOrd.lt a a = false := decide_eq_false (List.lt_irrefl _)
theorem s_asy (a b : Str) (h : PySem.W.DatumOrd.lt a b = true) : PySem.W.DatumOrd.lt b a = false := decide_eq_false (Rm.lt_asym (of_decide_eq_true h))
theorem s_tr (a b c : Str) (h : PySem.W.DatumOrd.lt a b = false) (k : PySem.W.DatumOrd.lt b c = false) : PySem.W.DatumOrd.lt a c = false := decide_eq_false (List.not_lt.mpr (List.le_trans (List.not_lt.mp (of_decide_eq_false k)) (List.not_lt.mp (of_decide_eq_false h))))
section
variable {P : Program} {w : World} {K : PySem.W.Frag} {mg : Str → Option Value} {base : Heap} {k : Nat}
def sp_road_to_any (K : PySem.W.Frag) : Sp := fun vs H Q _ => ∃ (r fr : Addr) (x : Nm) (ls : List Nm) (jns : List (Nm × List Nm)) (fars : List Nm), vs = [.ref r, nS x, .ref fr] ∧ LJ K H r ls jns ∧ LJok ls jns ∧ x ∈ ls ∧ H fr = some (.lst (fars.map nS)) ∧ fars.Nodup ∧ (∀ f ∈ fars, f ∈ ls) ∧
  ∀ H' p (rd : List Nm), Same H H' → H p = none → H' p = some (.lst (rd.map nS)) → Rd' jns fars x rd → Q (.ref p) H'
set_option maxHeartbeats 8000000 in
theorem ok_road_to_any (T : Defs K mg) : FnOk P w K mg base CX0 (k + 3) T.a_road_to_any T.d_road_to_any ["net", "line", "fars"] (sp_road_to_any K) := by
  have G_lines_beside : FnOk P w K mg base CX0 (k + 2) _ _ _ _ := ok_lines_beside T
  have G_steps_to : FnOk P w K mg base CX0 (k + 2) _ _ _ _ := ok_steps_to (k := k + 1) T
  refine T.F_road_to_any.ok sc_road_to_any (fun vs H Q E h => ?_) (fun cdv A outer s H vs Q E hr h => ?_)
  · obtain ⟨r, fr, x, ls, jns, fars, rfl, _⟩ := h
    rfl
  · obtain ⟨r, fr, x, ls, jns, fars, rfl, hnet, hok, xin, efr, fnd, fls, q⟩ := h
    refine ⟨_, PSs.nox
(pss_cons (ps_if (pt_cmpR (r := rIn K true) op_notIn_seq (pv 1) (pe_ix (r := rIxT K) ix_tup (pv 0) (pe_int) (fun _ _ => rfl)) (by rfl))
      (pss_one (ps_ret (pe_lst pa_nil)))
      pss_nil)
    (pss_cons (ps_set (i := 3) sc_road_to_any.nd rfl (.inl rfl) (pe_call G_lines_beside hr (by rfl) T.g_lines_beside T.F_lines_beside.kp T.b_lines_beside .nil pass0 (pa_cons (pv 0) pa_nil)))
    (pss_cons (ps_set (i := 4) sc_road_to_any.nd rfl (.inr rfl) (pe_call G_steps_to hr (by rfl) T.g_steps_to T.F_steps_to.kp T.b_steps_to .nil pass0 (pa_cons (pv 3) (pa_cons (pv 2) pa_nil))))
    (pss_cons (ps_if (pt_cmp (pc_dnotin (hu_of hr) (pv 1) (pv 4)))
      (pss_one (ps_ret (pe_lst pa_nil)))
      pss_nil)
    (pss_cons (ps_set (i := 5) sc_road_to_any.nd rfl (.inl rfl) (pe_lst (pa_cons (pv 1) pa_nil)))
    (pss_cons (ps_while PassesOwn.never (pt_cmpR op_gt (pe_dget (hu_of hr) (pv 4) (pe_ix (r := rIxL K) ix_list (pv 5) (pe_un un_neg (pe_int)) (fun _ _ => rfl)) (fun _ _ => rfl)) (pe_int) (nomark _))
      (pss_cons (ps_set (i := 6) sc_road_to_any.nd rfl (.inr rfl) (pe_op op_sub (pe_dget (hu_of hr) (pv 4) (pe_ix (r := rIxL K) ix_list (pv 5) (pe_un un_neg (pe_int)) (fun _ _ => rfl)) (fun _ _ => rfl)) (pe_int)))
      (pss_cons (ps_setLc (i := 7) (own := [("near", 8)]) (g := gName 8) rfl sc_road_to_any.nd rfl rfl (sw_true rfl rfl rfl (by decide +kernel)) (pi_list (pe_dget (hu_of hr) (pv 3) (pe_ix (r := rIxL K) ix_list (pv 5) (pe_un un_neg (pe_int)) (fun _ _ => rfl)) (fun _ _ => rfl))) (blkOk_by (N := N_road_to_any) (sc := defScope s_road_to_any) (by decide +kernel)) (fun _ _ _ _ _ => (pg_name (i := 8) sc_road_to_any.nd rfl (.inl rfl))) (fun _ _ _ _ _ => pts_one (pt_cmpR op_eq (pe_dget (hu_of hr) (pv 4) (pv 8) (fun _ _ => rfl)) (pv 6) (nomark _))) (fun _ _ _ _ _ => (pv 8)))
      (pss_one (ps_expr (pe_bm PySem.F.plainAttrs_list PySem.F.slot_list_append PySem.F.type_list_append mt_append (pv 5) (pa_cons (pe_callB (Md.cr_minG (α := PySem.Str) rfl hr.units) (by rfl) T.z_min (by decide +kernel) (pa_cons (pv 7) pa_nil)) pa_nil)))))))
    (pss_one (ps_ret (pv 5)))))))))
      , ?_⟩
    have l8 := hok.l8
    obtain ⟨a, c, b, d, ja, er, ea, ec, hJ⟩ := id hnet
    refine ⟨nS x, rfl, .ref r, rfl, r, [.ref a, b, .ref c, d], 0, .ref a, rfl, rfl, er, atI_nat (j := 0) rfl, a, _, rfl, .inr (ea), rfl, flat_nms _, _, rfl, ?_⟩
    rw [show (if true = true then !inV (nS x) (ls.map nS) else inV (nS x) (ls.map nS)) = false by rw [in_nms, decide_eq_true xin]; rfl]
    refine iteF ?_
    refine ⟨.ref r, rfl, r, ls, jns, rfl, hnet, hok, fun H1 D s1 nD hbs => ?_⟩
    have nD0 : D ≠ fr := fun e => by rw [e, efr] at nD; cases nD
    refine ⟨.ref D, rfl, .ref fr, rfl, D, fr, ls, jns, fars, rfl, hbs, hok, s1 _ _ efr, fnd, fls, fun H2 sd kvs s2 nsd esd hsa => ?_⟩
    have s12 := s1.trans s2
    refine ⟨nS x, rfl, .ref sd, rfl, sd, _, rfl, DGet.k (k := Sum.inr (SX.S x)) esd, _, rfl, ?_⟩
    have up : ∀ {H' : Hp} {p : Addr}, Same H H' → H' p = none → H p = none := fun {H' p} s n => by
      cases e : H p with
      | none => rfl
      | some o => rw [s _ _ e] at n; cases n
    rcases hsa x with ⟨n0, hn0, hv0⟩ | ⟨hno, hv0⟩
    · rw [hv0]
      refine iteF ?_
      refine ⟨nS x, rfl, by show 1 ≤ sizeLine; decide, fun rd nrd => ?_⟩
      have n8 := af_lt hok fls hn0
      have sdrd : sd ≠ rd := ne_of_none esd nrd
      -- while steps[road[-1]] > 0
      refine ⟨fun m' σ H3 => ∃ (n : Nat) (pre : List Nm) (cur : Nm) (y6 y7 : Option V), m' = n ∧ σ = [some (.ref r), some (nS x), some (.ref fr), some (.ref D), some (.ref sd), some (.ref rd), y6, y7, none] ∧ Same H2 H3 ∧ H3 rd = some (.lst ((pre ++ [cur]).map nS)) ∧ AF jns fars n cur ∧ pre.length + n = n0 ∧ ∀ t, Gr (Adj jns) (· ∈ fars) n cur t → Gr (Adj jns) (· ∈ fars) n0 x (pre ++ t),
        ⟨_, n0, [], x, none, none, rfl, rfl, same_upd nrd, upd_same, hn0, by simp, fun t h => h⟩, fun m' σ H3 hW => ?_⟩
      obtain ⟨n, pre, cur, y6, y7, rfl, rfl, s3, erd, hn, hpre, hgr⟩ := hW
      have s13 := s12.trans s3
      have last : atI ((pre ++ [cur]).map nS) (-1) = some (nS cur) := by
        rw [List.map_append]
        exact atI_last _ _
      have hvc : valV kvs (Sum.inr (SX.S cur)) = some (.int (m' : Nat)) := by
        rcases hsa cur with ⟨n', h1, h2⟩ | ⟨h1, _⟩
        · rw [h2, h1.eq hn]
        · exact absurd hn (h1 m')
      have dg : ∀ {H' : Hp}, Same H2 H' → DGet H' sd (nS cur) (some (.int (m' : Nat))) := fun s => by
        rw [← hvc]
        exact DGet.k (k := Sum.inr (SX.S cur)) (s _ _ esd)
      refine ⟨.ref sd, rfl, .ref rd, rfl, 1, rfl, rd, _, -1, nS cur, rfl, rfl, SqL.of erd, last, sd, _, rfl, dg s3, _, 0, rfl, rfl, _, rfl, ite2 (fun c => ?_) (fun c => ?_)⟩
      · have c : (0 : Int) < (m' : Nat) := of_decide_eq_true c
        obtain ⟨m, rfl⟩ : ∃ m, m' = m + 1 := ⟨m' - 1, by omega⟩
        refine ⟨_, fun σ' H' h => h, ?_⟩
        refine ⟨.ref sd, rfl, .ref rd, rfl, 1, rfl, rd, _, -1, nS cur, rfl, rfl, SqL.of erd, last, sd, _, rfl, dg s3, _, 1, rfl, rfl, ?_⟩
        obtain ⟨bk, eDb, hbv⟩ := hbs.same (s2.trans s3)
        obtain ⟨ba, ys, hv1, hba, ynd, hym⟩ := hbv cur (af_in hok fls hn)
        refine ⟨.ref D, rfl, .ref rd, rfl, 1, rfl, rd, _, -1, nS cur, rfl, rfl, SqL.of erd, last, D, _, rfl, by rw [← hv1]; exact DGet.k (k := Sum.inr (SX.S cur)) eDb, ba, rfl, ⟨_, SqL.of hba⟩, fun on non => ?_⟩
        have onrd : rd ≠ on := ne_of_none erd non
        refine lc_it (walk_list (xs := ys.map nS)) (fun i H4 => Same H3 H4 ∧ ∃ os : List Nm, H4 on = some (.lst (os.map nS)) ∧ os.length ≤ i ∧ ∀ y, y ∈ os ↔ y ∈ ys.take i ∧ AF jns fars m y) ⟨same_upd non, [], upd_same, Nat.le_refl _, fun y => ⟨fun z => (by cases z), fun z => (by cases z.1)⟩⟩ (fun i H4 _ pv => SqL.of (pv.1 _ _ hba)) (fun i v H4₀ H4 hi pv yy => ?_) (fun H4 pv => ?_)
        · obtain ⟨rfl, ex⟩ := yy
          obtain ⟨s4, os, eon, hol, hom⟩ := pv
          obtain ⟨y, ey, rfl⟩ := at_nm ex
          have tk1 : ys.take (i + 1) = ys.take i ++ [y] := by rw [List.take_add_one, ey]; rfl
          have yin : y ∈ ys := List.mem_of_getElem? ey
          have adj : Adj jns cur y := (hym y).mp yin
          have yl : ys.length ≤ ls.length := nd_len ynd fun z hz => hok.adj ((hym z).mp hz)
          rw [List.length_map] at hi
          obtain ⟨n', hn', hv'⟩ : ∃ n', AF jns fars n' y ∧ valV kvs (Sum.inr (SX.S y)) = some (.int (n' : Nat)) := by
            rcases hsa y with h | ⟨h1, _⟩
            · exact h
            · obtain ⟨n', _, hd⟩ := wk_ds (m + 2) (⟨cur, adj.symm, hn.1⟩ : Wk (Adj jns) (· ∈ fars) (m + 2) y)
              exact absurd hd (h1 n')
          refine ⟨rfl, .ref sd, rfl, nS y, rfl, sd, _, rfl, by rw [← hv']; exact DGet.k (k := Sum.inr (SX.S y)) ((s3.trans s4) _ _ esd), _, rfl, rfl, _, rfl, ite2 (fun c => ?_) (fun c => ?_)⟩
          · have c : n' = m := by
              have c := of_decide_eq_true c
              have c : ((n' : Nat) : Int) = (((m + 1 : Nat)) : Int) - 1 := by injection c
              omega
            subst c
            refine ⟨nS y, rfl, os.map nS, eon, small5000 (by rw [List.length_map]; omega), same_set s4 non, os ++ [y], by rw [upd_same, List.map_append]; rfl, by rw [List.length_append, List.length_singleton]; omega, fun z => ?_⟩
            rw [List.mem_append, List.mem_singleton, hom z, tk1, List.mem_append, List.mem_singleton]
            constructor
            · rintro (h | h)
              · exact ⟨.inl h.1, h.2⟩
              · subst h
                exact ⟨.inr rfl, hn'⟩
            · rintro ⟨h | h, h2⟩
              · exact .inl ⟨h, h2⟩
              · exact .inr h
          · have c : n' ≠ m := fun e => c (decide_eq_true (by rw [e]; congr 1; omega))
            refine ⟨s4, os, eon, by omega, fun z => ?_⟩
            rw [hom z, tk1, List.mem_append, List.mem_singleton]
            exact ⟨fun h => ⟨.inl h.1, h.2⟩, fun ⟨h, h2⟩ => ⟨h.elim id fun e => absurd (hn'.eq (e ▸ h2)) c, h2⟩⟩
        · obtain ⟨s4, os, eon, hol, hom⟩ := pv
          rw [List.length_map, List.take_length] at hom
          have hom : ∀ y, y ∈ os ↔ Adj jns cur y ∧ AF jns fars m y := fun y => by rw [hom y, hym y]
          obtain ⟨y0, hy0, hd0⟩ := hn.down
          match os, hom, eon with
          | [], hom, _ => exact absurd ((hom y0).mpr ⟨hy0, hd0⟩) (by simp)
          | o :: os, hom, eon =>
            refine ⟨.ref rd, rfl, .inl ⟨rfl, _, SqL.of (s4 _ _ erd)⟩, .ref on, rfl, on, _, SX.S o, os.map SX.S, rfl, SqL.of eon, dpAll_nms (o :: os), by show 0 ≤ 60; decide, fun i v hv hmin => ?_⟩
            obtain ⟨y, ey, rfl⟩ := at_nm hv
            have ymin : SX.S y = PySem.W.minOf (SX.S o) (os.map SX.S) := by
              have hmin : ((o :: os).map SX.S)[i]? = _ := hmin
              rw [List.getElem?_map, ey] at hmin
              exact Option.some.inj hmin
            have lst : Lst (fun y => Adj jns cur y ∧ AF jns fars m y) y := by
              refine ⟨(hom y).mp (List.mem_of_getElem? ey), fun z hz hlt => ?_⟩
              have := Md.minOf_le s_ir s_asy s_tr (SX.S o) (os.map SX.S) (SX.S z) (List.mem_map_of_mem (f := SX.S) ((hom z).mpr hz))
              rw [← ymin] at this
              exact of_decide_eq_false this hlt
            have erd4 := s4 _ _ erd
            refine ⟨rd, _, _, rfl, rfl, erd4, small5000 (by rw [List.length_map, List.length_append, List.length_singleton]; omega), m, by omega, m, pre ++ [cur], y, _, _, rfl, rfl, ?_, by rw [upd_same, List.map_append (l₁ := pre ++ [cur])]; rfl, lst.1.2, by rw [List.length_append, List.length_singleton]; omega, fun t ht => ?_⟩
            · exact same_set (s3.trans s4) nrd
            · have := hgr (cur :: t) ⟨y, t, lst, ht, rfl⟩
              rwa [List.append_assoc]
      · have c : m' = 0 := by
          have c : ¬ (0 : Int) < (m' : Nat) := fun z => c (decide_eq_true z)
          omega
        subst c
        exact ⟨.ref rd, rfl, q _ rd _ s13 (up s12 nrd) erd (.inl ⟨n0, hn0, hgr [cur] ⟨hn.1, rfl⟩⟩)⟩
    · rw [hv0]
      refine iteT ?_
      exact ⟨Nat.zero_le _, fun e ne => q _ e [] (s12.trans (same_upd ne)) (up s12 ne) upd_same (.inr ⟨hno, rfl⟩)⟩
end
end Th
namespace Th
open PySem PySem.Spec PyProof.Rows L2
/-! lines from which a wagon may go over, the road of a gap, how many lack -/
def fromL (js : List Nm) (over : Nm) : List Nm := js.filter fun l => decide (l ≠ over)
theorem mem_fromL {js : List Nm} {over l : Nm} : l ∈ fromL js over ↔ l ∈ js ∧ l ≠ over := by
  unfold fromL
  rw [List.mem_filter, decide_eq_true_eq]
theorem ne_dec {x y : Nm} : (!decide (nS x = nS y)) = decide (x ≠ y) := by
  by_cases h : x = y
  · rw [h]
    simp
  · rw [decide_eq_true h, decide_eq_false (fun e => h (SX.S_inj (by injection e)))]
    rfl
theorem eq_dec {x y : Nm} : decide (nS x = nS y) = decide (x = y) := by
  by_cases h : x = y
  · rw [h]
    simp
  · rw [decide_eq_false h, decide_eq_false (fun e => h (SX.S_inj (by injection e)))]
section
variable {P : Program} {w : World} {K : PySem.W.Frag} {mg : Str → Option Value} {base : Heap} {k : Nat}
def sp_lines_from (K : PySem.W.Frag) : Sp := fun vs H Q _ => ∃ (r : Addr) (over : Nm) (ls : List Nm) (jns : List (Nm × List Nm)) (jn : Nm × List Nm), vs = [.ref r, nS jn.1, nS over] ∧ LJ K H r ls jns ∧ LJok ls jns ∧ (jns.map (·.1)).Nodup ∧ jn ∈ jns ∧ over ∈ jn.2 ∧
  ∀ H' p, Same H H' → H p = none → H' p = some (.lst ((fromL jn.2 over).map nS)) → Q (.ref p) H'
set_option maxHeartbeats 8000000 in
theorem ok_lines_from (T : Defs K mg) : FnOk P w K mg base CX0 (k + 1) T.a_lines_from T.d_lines_from ["net", "junction", "over"] (sp_lines_from K) := by
  refine T.F_lines_from.ok sc_lines_from (fun vs H Q E h => ?_) (fun cdv A outer s H vs Q E hr h => ?_)
  · obtain ⟨r, over, ls, jns, jn, rfl, _⟩ := h
    rfl
  · obtain ⟨r, over, ls, jns, jn, rfl, hnet, hok, jnd, jin, oin, q⟩ := h
    refine ⟨_, PSs.nox
(pss_cons (ps_for PassesOwn.never rfl (pi_tup (pe_ix (r := rIxT K) ix_tup (pv 0) (pe_int) (fun _ _ => rfl))) (pg_tup rfl (pgs_cons (pg_name (i := 3) sc_lines_from.nd rfl (.inl rfl)) (pgs_cons (pg_name (i := 4) sc_lines_from.nd rfl (.inl rfl)) pgs_nil)))
      (pss_one (ps_if (PW.pt (pw_and (pt_cmpR op_eq (pv 3) (pv 1) (nomark _)) (pw_and1 (pt_cmpR (r := rIn K false) op_in_seq (pv 2) (pv 4) (by rfl)))))
        (pss_one (ps_ret (pe_lc (own := [("line", 5)]) (g := gName 5) rfl sc_lines_from.nd (pi_tup (pv 4)) (blkOk_by (N := N_lines_from) (sc := defScope s_lines_from) (by decide +kernel)) (fun _ _ _ _ _ => (pg_name (i := 5) sc_lines_from.nd rfl (.inl rfl))) (fun _ _ _ _ _ => pts_one (pt_cmpR op_ne (pv 5) (pv 2) (nomark _))) (fun _ _ _ _ _ => (pv 5)))))
        pss_nil)))
    (pss_one (ps_ret (pe_lst pa_nil))))
      , ?_⟩
    obtain ⟨a, c, b, d, ja, er, ea, ec, hJ⟩ := id hnet
    have jl := paired_len hJ
    obtain ⟨at_, hat⟩ := List.getElem?_of_mem jin
    refine ⟨.ref r, rfl, r, [.ref a, b, .ref c, d], 2, .ref c, rfl, rfl, er, atI_nat (j := 2) rfl, c, rfl, ⟨_, ec⟩, ?_⟩
    refine for_it (walk_tup (xs := ja.map V.ref)) (fun i σ H3 => ∃ (y3 y4 : Option V), σ = [some (.ref r), some (nS jn.1), some (nS over), y3, y4, none] ∧ Same H H3 ∧ i ≤ at_) ⟨none, none, rfl, .refl _, Nat.zero_le _⟩ (fun i σ H3 _ hp => ?_) (fun i v σ H3₀ H3 hi hp yy => ?_) (fun σ H3 hp => ?_)
    · obtain ⟨_, _, _, s3, _⟩ := hp
      exact sqs s3 ec
    · obtain ⟨rfl, ex⟩ := yy
      obtain ⟨y3, y4, rfl, s3, hle⟩ := hp
      obtain ⟨u, eu, rfl⟩ := at_ref ex
      obtain ⟨j, ej, jt, hu, hjt⟩ := paired_get hJ eu
      refine ⟨u, _, rfl, sqs s3 hu, rfl, _, _, rfl, _, [], rfl, rfl, ?_⟩
      refine ⟨nS j.1, rfl, nS jn.1, rfl, rfl, _, rfl, ite2 (fun c1 => ?_) (fun c1 => ?_)⟩
      · rw [eq_dec] at c1
        have c1 := of_decide_eq_true c1
        have e1 : (jns.map (·.1))[i]? = some j.1 := by rw [List.getElem?_map, ej]; rfl
        have e2 : (jns.map (·.1))[at_]? = some j.1 := by rw [List.getElem?_map, hat, c1]; rfl
        have := nodup_inj jnd e1 e2
        subst this
        rw [hat] at ej
        have := Option.some.inj ej
        subst this
        refine ⟨nS over, rfl, .ref jt, rfl, jt, _, rfl, .inr (sqs s3 hjt), rfl, flat_nms _, _, rfl, ?_⟩
        rw [show (if false = true then !inV (nS over) (jn.2.map nS) else inV (nS over) (jn.2.map nS)) = true by
          show inV (nS over) (jn.2.map nS) = true
          rw [in_nms, decide_eq_true oin]]
        refine iteT ?_
        refine ⟨.ref jt, rfl, jt, rfl, ⟨_, sqs s3 hjt⟩, fun D nD => ?_⟩
        refine lc_it (walk_tup (xs := jn.2.map nS)) (fun k H4 => Same H3 H4 ∧ H4 D = some (.lst ((fromL (jn.2.take k) over).map nS))) ⟨same_upd nD, upd_same⟩ (fun k H4 _ pv => sqs pv.1 (sqs s3 hjt)) (fun k v H4₀ H4 hk pv yy => ?_) (fun H4 pv => ?_)
        · obtain ⟨rfl, ey⟩ := yy
          obtain ⟨s4, eD⟩ := pv
          obtain ⟨z, ez, rfl⟩ := at_nm ey
          have tk : jn.2.take (k + 1) = jn.2.take k ++ [z] := by rw [List.take_add_one, ez]; rfl
          have j9 := hok.j9 jn jin
          refine ⟨rfl, nS z, rfl, nS over, rfl, rfl, _, rfl, ite2 (fun c2 => ?_) (fun c2 => ?_)⟩
          · rw [ne_dec] at c2
            refine ⟨nS z, rfl, _, eD, small5000 ?_, same_set s4 nD, ?_⟩
            · rw [List.length_map]
              unfold fromL
              refine Nat.le_trans (List.length_filter_le _ _) ?_
              rw [List.length_take]
              omega
            · rw [upd_same, tk]
              unfold fromL
              rw [List.filter_append, List.filter_cons_of_pos (by exact c2), List.map_append]
              rfl
          · rw [ne_dec] at c2
            refine ⟨s4, ?_⟩
            rw [eD, tk]
            unfold fromL
            rw [List.filter_append, List.filter_cons_of_neg (by exact c2), List.filter_nil, List.append_nil]
        · obtain ⟨s4, eD⟩ := pv
          rw [List.length_map, List.take_length] at eD
          refine q _ D (s3.trans s4) ?_ eD
          cases e : H D with
          | none => rfl
          | some o => rw [s3 _ _ e] at nD; cases nD
      · refine ⟨_, _, rfl, s3, ?_⟩
        rcases Nat.lt_or_eq_of_le hle with h | h
        · exact h
        · subst h
          rw [hat] at ej
          have := Option.some.inj ej
          subst this
          rw [eq_dec] at c1
          exact absurd (decide_eq_true rfl) c1
    · obtain ⟨_, _, rfl, s3, hle⟩ := hp
      have := (List.getElem?_eq_some_iff.mp hat).1
      rw [List.length_map, jl] at hle
      omega
def sp_gap_road (K : PySem.W.Frag) : Sp := fun vs H Q _ => ∃ (r : Addr) (x over : Nm) (ls : List Nm) (jns : List (Nm × List Nm)) (jn : Nm × List Nm), vs = [.ref r, nS x, nS jn.1, nS over] ∧ LJ K H r ls jns ∧ LJok ls jns ∧ x ∈ ls ∧ (jns.map (·.1)).Nodup ∧ jn ∈ jns ∧ over ∈ jn.2 ∧
  ∀ H' p (rd : List Nm), Same H H' → H p = none → H' p = some (.lst (rd.map nS)) → Rd' jns (fromL jn.2 over) x rd → Q (.ref p) H'
set_option maxHeartbeats 8000000 in
theorem ok_gap_road (T : Defs K mg) : FnOk P w K mg base CX0 (k + 4) T.a_gap_road T.d_gap_road ["net", "line", "junction", "over"] (sp_gap_road K) := by
  have G_road_to_any : FnOk P w K mg base CX0 (k + 3) _ _ _ _ := ok_road_to_any T
  have G_lines_from : FnOk P w K mg base CX0 (k + 3) _ _ _ _ := ok_lines_from (k := k + 2) T
  refine T.F_gap_road.ok sc_gap_road (fun vs H Q E h => ?_) (fun cdv A outer s H vs Q E hr h => ?_)
  · obtain ⟨r, x, over, ls, jns, jn, rfl, _⟩ := h
    rfl
  · obtain ⟨r, x, over, ls, jns, jn, rfl, hnet, hok, xin, jnd, jin, oin, q⟩ := h
    refine ⟨_, PSs.nox
(pss_one (ps_ret (pe_call G_road_to_any hr (by rfl) T.g_road_to_any T.F_road_to_any.kp T.b_road_to_any .nil pass0 (pa_cons (pv 0) (pa_cons (pv 1) (pa_cons (pe_call G_lines_from hr (by rfl) T.g_lines_from T.F_lines_from.kp T.b_lines_from .nil pass0 (pa_cons (pv 0) (pa_cons (pv 2) (pa_cons (pv 3) pa_nil)))) pa_nil))))))
      , ?_⟩
    refine ⟨.ref r, rfl, nS x, rfl, .ref r, rfl, nS jn.1, rfl, nS over, rfl, r, over, ls, jns, jn, rfl, hnet, hok, jnd, jin, oin, fun H1 fr s1 nfr efr => ?_⟩
    refine ⟨r, fr, x, ls, jns, fromL jn.2 over, rfl, hnet.tk (.of s1), hok, xin, efr, List.Sublist.nodup List.filter_sublist (hok.jnd jn jin), fun f hf => hok.sub jn jin f (mem_fromL.mp hf).1, fun H2 p rd s2 np ep hrd => q H2 p rd (s1.trans s2) ?_ ep hrd⟩
    cases e : H p with
    | none => rfl
    | some o => rw [s1 _ _ e] at np; cases np
/-- how many lack, as a value -/
def lackV (rd : List Nm) : V := if rd = [] then .non else .int ((rd.length : Int) - 1)
def sp_lacking (K : PySem.W.Frag) : Sp := fun vs H Q _ => ∃ (r : Addr) (x over : Nm) (ls : List Nm) (jns : List (Nm × List Nm)) (jn : Nm × List Nm), vs = [.ref r, nS x, nS jn.1, nS over] ∧ LJ K H r ls jns ∧ LJok ls jns ∧ x ∈ ls ∧ (jns.map (·.1)).Nodup ∧ jn ∈ jns ∧ over ∈ jn.2 ∧
  ∀ H' (rd : List Nm), Same H H' → Rd' jns (fromL jn.2 over) x rd → Q (lackV rd) H'
set_option maxHeartbeats 8000000 in
theorem ok_lacking (T : Defs K mg) : FnOk P w K mg base CX0 (k + 5) T.a_lacking T.d_lacking ["net", "line", "junction", "over"] (sp_lacking K) := by
  have G_gap_road : FnOk P w K mg base CX0 (k + 4) _ _ _ _ := ok_gap_road T
  refine T.F_lacking.ok sc_lacking (fun vs H Q E h => ?_) (fun cdv A outer s H vs Q E hr h => ?_)
  · obtain ⟨r, x, over, ls, jns, jn, rfl, _⟩ := h
    rfl
  · obtain ⟨r, x, over, ls, jns, jn, rfl, hnet, hok, xin, jnd, jin, oin, q⟩ := h
    refine ⟨_, PSs.nox
(pss_cons (ps_set (i := 4) sc_lacking.nd rfl (.inl rfl) (pe_call G_gap_road hr (by rfl) T.g_gap_road T.F_gap_road.kp T.b_gap_road .nil pass0 (pa_cons (pv 0) (pa_cons (pv 1) (pa_cons (pv 2) (pa_cons (pv 3) pa_nil))))))
    (pss_cons (ps_if (pt_not (pt_truth (pv 4) (by intro _; rfl)))
      (pss_one (ps_ret (pe_non)))
      pss_nil)
    (pss_one (ps_ret (pe_op op_sub (pe_callB (r := rLenS K) call_lenS (by rfl) T.z_len (by decide +kernel) (pa_cons (pv 4) pa_nil)) (pe_int))))))
      , ?_⟩
    refine ⟨.ref r, rfl, nS x, rfl, nS jn.1, rfl, nS over, rfl, r, x, over, ls, jns, jn, rfl, hnet, hok, xin, jnd, jin, oin, fun H1 p rd s1 np ep hrd => ?_⟩
    have q1 := q H1 rd s1 hrd
    unfold lackV at q1
    refine ⟨.ref p, rfl, _, .inl ⟨_, SqL.of ep, rfl⟩, ite2 (fun c => ?_) (fun c => ?_)⟩
    · have e : rd = [] := by
        cases rd with
        | nil => rfl
        | cons a r => cases c
      rw [if_pos e] at q1
      exact q1
    · have e : rd ≠ [] := fun e => by
        rw [e] at c
        exact c rfl
      rw [if_neg e] at q1
      refine ⟨.ref p, rfl, p, _, rfl, .inl (SqL.of ep), _, 1, rfl, rfl, ?_⟩
      rw [List.length_map]
      exact q1
end
end Th
namespace Th
open PySem PySem.Spec PyProof.Rows L2
/-- told and due are the same data, no truth, of a depth below n: True -/
def noB : PyData → Bool
  | .bool _ => false
  | .list ds => noBs ds
  | .tuple ds => noBs ds
  | _ => true
where noBs : List PyData → Bool
  | [] => true
  | d :: ds => noB d && noBs ds
def sp_like1 (n : Nat) : Sp := fun vs H Q _ => ∃ (v u : V) (d : PyData), vs = [v, u] ∧ Dt SA H v d ∧ Dt SA H u d ∧ d.canLay0 = true ∧ noB d = true ∧ d.depth < n ∧ n ≤ 60 ∧ ∀ H', Same H H' → Q (.bl true) H'
theorem noB_mem : ∀ {ds : List PyData} {i : Nat} {d : PyData}, noB.noBs ds = true → ds[i]? = some d → noB d = true
  | [], _, _, _, h => by simp at h
  | x :: ds, 0, d, k, h => by
    have e := Option.some.inj h
    subst e
    exact (Bool.and_eq_true_iff.mp (show (noB x && noB.noBs ds) = true from k)).1
  | x :: ds, i + 1, d, k, h => noB_mem (i := i) (Bool.and_eq_true_iff.mp (show (noB x && noB.noBs ds) = true from k)).2 h
section
variable {P : Program} {w : World} {K : PySem.W.Frag} {mg : Str → Option Value} {base : Heap} {k : Nat}
theorem ok_l_like (T : Defs K mg) : ∀ n : Nat, FnOk P w K mg base CX0 n T.a_l_like T.d_l_like ["_law_told", "_law_due"] (sp_like1 n) := by
  intro n
  induction n with
  | zero =>
    exact ⟨fun vs H Q E ⟨v, u, d, _, _, _, _, _, z, _⟩ => absurd z (Nat.not_lt_zero _), fun A outer s H args us vs Q E _ _ _ _ ⟨v, u, d, _, _, _, _, _, z, _⟩ => absurd z (Nat.not_lt_zero _)⟩
  | succ n ih =>
  have G_l_like := ih
  refine T.F_l_like.ok sc_l_like (fun vs H Q E h => ?_) (fun cdv A outer s H vs Q E hr h => ?_)
  · obtain ⟨v, u, d, rfl, _⟩ := h
    rfl
  · obtain ⟨v, u, d, rfl, hv, hu, hlay, hnb, hdep, hn, q⟩ := h
    refine ⟨_, PSs.nox
(pss_cons (ps_if (PW.pt (pw_or (pt_val (pe_callB call_isi (by rfl) T.z_isinstance (by decide +kernel) (pa_cons (pv 0) (pa_cons (pe_bltn (v := .ty "bool") (by rfl) T.z_bool (by decide +kernel) rfl) pa_nil)))) (pw_or1 (pt_cmpR (r := rNeD K) (op_neD hr.units) (pv 0) (pv 1) (nomark _)))))
      (pss_one (ps_ret (pe_bl)))
      pss_nil)
    (pss_cons (ps_if (pt_val (pe_callB call_isiT (by rfl) T.z_isinstance (by decide +kernel) (pa_cons (pv 0) (pa_cons (pe_tup (pa_cons (pe_bltn (v := .ty "list") (by rfl) T.z_list (by decide +kernel) rfl) (pa_cons (pe_bltn (v := .ty "tuple") (by rfl) T.z_tuple (by decide +kernel) rfl) pa_nil))) pa_nil))))
      (pss_one (ps_ret (pe_callB (r := rAll K) (cr_all rfl) (by rfl) T.z_all (by decide +kernel) (pa_cons (pe_lc (own := [("_law_one", 2), ("_law_other", 3)]) (g := gTup K 2 (gCons (gName 2) (gCons (gName 3) gNil))) rfl sc_l_like.nd (RZ.pi_zipA (by rfl) T.z_zip (pa_cons (pv 0) (pa_cons (pv 1) pa_nil))) (blkOk_by (N := N_l_like) (sc := defScope s_l_like) (by decide +kernel)) (fun _ _ _ _ _ => (pg_tup rfl (pgs_cons (pg_name (i := 2) sc_l_like.nd rfl (.inl rfl)) (pgs_cons (pg_name (i := 3) sc_l_like.nd rfl (.inl rfl)) pgs_nil)))) (fun _ _ _ _ _ => pts_nil) (fun _ _ _ _ _ => (pe_call G_l_like hr (by rfl) T.g_l_like T.F_l_like.kp T.b_l_like .nil pass0 (pa_cons (pv 2) (pa_cons (pv 3) pa_nil))))) pa_nil))))
      pss_nil)
    (pss_one (ps_ret (pe_bl)))))
      , ?_⟩
    have hsh : SeqAt.shaped d = true := Bool.and_eq_true_iff.mpr ⟨hlay, decide_eq_true (by omega)⟩
    have nb : isB d = false := by
      cases d with
      | bool b => cases hnb
      | _ => rfl
    refine ⟨v, rfl, v, .ty "bool", _, _, _, rfl, .ty "bool", hv.ty, kit_bool hv, _, rfl, ?_⟩
    rw [nb]
    refine iteF ?_
    refine ⟨v, rfl, u, rfl, d, d, hv.dp, hu.dp, hsh, hsh, _, rfl, ?_⟩
    rw [SeqAt.eqv_refl d hlay]
    refine iteF ?_
    refine ⟨v, rfl, by show 2 ≤ sizeLine; decide, fun t nt => ?_⟩
    have s1 : Same H (upd H t (.tup [.ty "list", .ty "tuple"])) := same_upd nt
    have hv1 := hv.same s1
    have hu1 := hu.same s1
    refine ⟨v, t, [.ty "list", .ty "tuple"], _, _, _, rfl, upd_same, .cons (.ty _) (.cons (.ty _) .nil), hv1.ty, kit_seq hv1, _, rfl, ?_⟩
    generalize upd H t (.tup [.ty "list", .ty "tuple"]) = H1 at s1 hv1 hu1
    cases hv1 with
    | non => exact iteF (q _ s1)
    | bl b => exact iteF (q _ s1)
    | int b => exact iteF (q _ s1)
    | str b => exact iteF (q _ s1)
    | @lst a xs ds _ ea la ra =>
      cases hu1 with
      | @lst b ys _ _ eb lb rb =>
      refine iteT ?_
      have lx := ra.len
      have ly := rb.len
      refine ⟨.ref a, rfl, .ref b, rfl, a, b, xs, ys, rfl, .inl ⟨SqL.of ea, SqL.of eb, fun D nD => ?_⟩⟩
      refine lc_it (walk_zip (n := xs.length) (xs := xs) (ys := ys) (by omega)) (fun i H3 => Same H1 H3 ∧ H3 D = some (.lst (List.replicate i (V.bl true)))) ⟨same_upd nD, upd_same⟩ (fun i H3 _ p => ⟨SqL.of (p.1 _ _ ea), SqL.of (p.1 _ _ eb)⟩) (fun i x H3 H4 hi p y => ?_) (fun H3 p => ?_)
      · obtain ⟨t1, x1, y1, rfl, nT, rfl, e1, e2⟩ := y
        obtain ⟨d1, f1, hd1⟩ := ra.get e1
        obtain ⟨d2, f2, hd2⟩ := rb.get e2
        have e12 : d1 = d2 := Option.some.inj (f1.symm.trans f2)
        subst e12
        have s2 : Same H1 (upd H3 t1 (.tup [x1, y1])) := p.1.trans (same_upd nT)
        refine ⟨t1, [x1, y1], rfl, SqT.of upd_same, rfl, x1, [y1], rfl, y1, [], rfl, rfl, rfl, yes_ ?_⟩
        refine ⟨x1, rfl, y1, rfl, x1, y1, d1, rfl, hd1.same s2, hd2.same s2, lay_mem hlay f1, noB_mem hnb f1, ?_, by omega, fun H5 s5 => ?_⟩
        · have := depth_mem f1
          rw [PyData.depth] at hdep
          omega
        · have eD : H5 D = some (.lst (List.replicate i (V.bl true))) := s5 _ _ (same_upd nT _ _ p.2)
          refine ⟨_, eD, by rw [List.length_replicate]; exact small5000 (by omega), fun c o e => ?_, ?_⟩
          · rw [upd_ne (ne_of_none e nD)]
            exact s5 _ _ (s2 _ _ e)
          · rw [upd_same, List.replicate_succ']
      · refine ⟨D, List.replicate xs.length true, rfl, SqL.of (by rw [p.2, List.map_replicate]), ?_⟩
        rw [show (List.replicate xs.length true).all id = true from by simp]
        exact q _ (s1.trans p.1)
    | @tup a xs ds _ ea la ra =>
      cases hu1 with
      | @tup b ys _ _ eb lb rb =>
      refine iteT ?_
      have lx := ra.len
      have ly := rb.len
      refine ⟨.ref a, rfl, .ref b, rfl, a, b, xs, ys, rfl, .inr ⟨SqT.of ea, SqT.of eb, fun D nD => ?_⟩⟩
      refine lc_it (walk_zipT (n := xs.length) (xs := xs) (ys := ys) (by omega)) (fun i H3 => Same H1 H3 ∧ H3 D = some (.lst (List.replicate i (V.bl true)))) ⟨same_upd nD, upd_same⟩ (fun i H3 _ p => ⟨SqT.of (p.1 _ _ ea), SqT.of (p.1 _ _ eb)⟩) (fun i x H3 H4 hi p y => ?_) (fun H3 p => ?_)
      · obtain ⟨t1, x1, y1, rfl, nT, rfl, e1, e2⟩ := y
        obtain ⟨d1, f1, hd1⟩ := ra.get e1
        obtain ⟨d2, f2, hd2⟩ := rb.get e2
        have e12 : d1 = d2 := Option.some.inj (f1.symm.trans f2)
        subst e12
        have s2 : Same H1 (upd H3 t1 (.tup [x1, y1])) := p.1.trans (same_upd nT)
        refine ⟨t1, [x1, y1], rfl, SqT.of upd_same, rfl, x1, [y1], rfl, y1, [], rfl, rfl, rfl, yes_ ?_⟩
        refine ⟨x1, rfl, y1, rfl, x1, y1, d1, rfl, hd1.same s2, hd2.same s2, lay_mem hlay f1, noB_mem hnb f1, ?_, by omega, fun H5 s5 => ?_⟩
        · have := depth_mem f1
          rw [PyData.depth] at hdep
          omega
        · have eD : H5 D = some (.lst (List.replicate i (V.bl true))) := s5 _ _ (same_upd nT _ _ p.2)
          refine ⟨_, eD, by rw [List.length_replicate]; exact small5000 (by omega), fun c o e => ?_, ?_⟩
          · rw [upd_ne (ne_of_none e nD)]
            exact s5 _ _ (s2 _ _ e)
          · rw [upd_same, List.replicate_succ']
      · refine ⟨D, List.replicate xs.length true, rfl, SqL.of (by rw [p.2, List.map_replicate]), ?_⟩
        rw [show (List.replicate xs.length true).all id = true from by simp]
        exact q _ (s1.trans p.1)
end
/-! all roads of unlike lines, gone through -/
open Rm (SP sp_zero sp_succ ne_snoc Ds Wk Gr Lst ds_succ ds_zero ds_none wk_ds)
theorem ne_in {a b : Addr} {l : List Addr} (h : b ∉ l) (ha : a ∈ l) : a ≠ b := fun e => h (e ▸ ha)
abbrev lD (p : List Nm) : PyData := PySem.W.Datum.toD (p.map SX.S)
theorem layAll_nms : ∀ {zs : List Nm}, (∀ z ∈ zs, IsNm z) → PyData.canLayAll0 ((zs.map SX.S).map PyData.str) = true
  | [], _ => rfl
  | z :: zs, h => by
    show (PyData.strOk (SX.S z) && PyData.canLayAll0 ((zs.map SX.S).map PyData.str)) = true
    rw [nm_ok (h z List.mem_cons_self), layAll_nms fun y hy => h y (List.mem_cons_of_mem _ hy)]
    rfl
theorem layAll_lD : ∀ {ps : List (List Nm)}, (∀ p ∈ ps, ∀ z ∈ p, IsNm z) → PyData.canLayAll0 (ps.map lD) = true
  | [], _ => rfl
  | p :: ps, h => by
    show (PyData.canLayAll0 ((p.map SX.S).map PyData.str) && PyData.canLayAll0 (ps.map lD)) = true
    rw [layAll_nms (h p List.mem_cons_self), layAll_lD fun y hy => h y (List.mem_cons_of_mem _ hy)]
    rfl
theorem depthAll_nms : ∀ zs : List Nm, PyData.depthAll ((zs.map SX.S).map PyData.str) = 0
  | [] => rfl
  | z :: zs => by
    show max 0 (PyData.depthAll ((zs.map SX.S).map PyData.str)) = 0
    rw [depthAll_nms zs]
    rfl
theorem depthAll_lD : ∀ ps : List (List Nm), PyData.depthAll (ps.map lD) ≤ 1
  | [] => Nat.zero_le _
  | p :: ps => by
    show max (PyData.depthAll ((p.map SX.S).map PyData.str) + 1) (PyData.depthAll (ps.map lD)) ≤ 1
    rw [depthAll_nms]
    exact Nat.max_le.mpr ⟨Nat.le_refl _, depthAll_lD ps⟩
theorem shaped_lD {ps : List (List Nm)} (h : ∀ p ∈ ps, ∀ z ∈ p, IsNm z) : SeqAt.shaped (.list (ps.map lD)) = true := Bool.and_eq_true_iff.mpr ⟨layAll_lD h, decide_eq_true (by
  show PyData.depthAll (ps.map lD) + 1 ≤ 64
  have := depthAll_lD ps
  omega)⟩
theorem dp_lD {K : PySem.W.Frag} {H : Hp} {a : Addr} {p : List Nm} (e : H a = some (.lst (p.map nS))) : Dp K H (.ref a) (lD p) := .lst (SqL.of e) (dpAll_nms p)
theorem dpAll_lD {K : PySem.W.Frag} {H : Hp} {as : List Addr} {ps : List (List Nm)} (h : Paired (fun a (p : List Nm) => H a = some (.lst (p.map nS))) as ps) : DpAll K H (as.map V.ref) (ps.map lD) := by
  induction h with
  | nil => exact .nil
  | cons e _ ih => exact .cons (dp_lD e) ih
theorem listLt_S : ∀ a b : List Nm, PySem.W.DatumOrd.lt (a.map SX.S) (b.map SX.S) = Rm.rLt a b
  | [], [] => rfl
  | [], _ :: _ => rfl
  | _ :: _, [] => rfl
  | x :: a, y :: b => by
    show (if SX.S x = SX.S y then PySem.W.listLt (a.map SX.S) (b.map SX.S) else decide ((SX.S x).cps.toList < (SX.S y).cps.toList)) = if x = y then Rm.rLt a b else decide (x < y)
    by_cases c : x = y
    · rw [if_pos c, if_pos (by rw [c])]
      exact listLt_S a b
    · rw [if_neg c, if_neg (fun e => c (SX.S_inj e))]
theorem S_list (s : List Str) : ∃ p : List Nm, s = p.map SX.S := ⟨s.map fun y => y.cps.toList, by rw [List.map_map]; exact (List.map_id'' (fun y => rfl) s).symm⟩
theorem l_ir (a : List Str) : PySem.W.DatumOrd.lt a a = false := by
  obtain ⟨p, rfl⟩ := S_list a
  rw [listLt_S, Rm.rLt_self]
theorem l_asy (a b : List Str) (h : PySem.W.DatumOrd.lt a b = true) : PySem.W.DatumOrd.lt b a = false := by
  obtain ⟨p, rfl⟩ := S_list a
  obtain ⟨q, rfl⟩ := S_list b
  rw [listLt_S] at h ⊢
  exact Rm.rLt_asy _ _ h
theorem l_tr (a b c : List Str) (h : PySem.W.DatumOrd.lt a b = false) (k : PySem.W.DatumOrd.lt b c = false) : PySem.W.DatumOrd.lt a c = false := by
  obtain ⟨p, rfl⟩ := S_list a
  obtain ⟨q, rfl⟩ := S_list b
  obtain ⟨r, rfl⟩ := S_list c
  rw [listLt_S] at h k ⊢
  exact Rm.rLt_tr _ _ _ h k
theorem paired_app {α β : Type} {R : α → β → Prop} {as as' : List α} {bs bs' : List β} (h : Paired R as bs) (k : Paired R as' bs') : Paired R (as ++ as') (bs ++ bs') := by
  induction h with
  | nil => exact k
  | cons r _ ih => exact .cons r ih
theorem pow7 {t : Nat} (h : t < 8) : 7 ^ (t + 1) ≤ 5764801 := Nat.le_trans (Nat.pow_le_pow_right (by decide) (by omega : t + 1 ≤ 8)) (by decide)
theorem small7 {n : Nat} (h : n ≤ 5764801) : n < sizeLine := Nat.lt_of_le_of_lt h (by decide)
/-- a list of roads -/
abbrev RsAt (H0 H : Hp) (as : List Addr) (ps : List (List Nm)) : Prop := Paired (fun a (p : List Nm) => H0 a = none ∧ H a = some (.lst (p.map nS))) as ps
theorem RsAt.keep {lg : Addr} {H0 H H' : Hp} {as : List Addr} {ps : List (List Nm)} (h : RsAt H0 H as ps) (k : Keep lg H H') (n : ∀ a ∈ as, a ≠ lg) : RsAt H0 H' as ps := paired_imp h fun a ha p e => ⟨e.1, k _ _ (n a ha) e.2⟩
theorem RsAt.same {H0 H H' : Hp} {as : List Addr} {ps : List (List Nm)} (h : RsAt H0 H as ps) (s : Same H H') : RsAt H0 H' as ps := paired_imp h fun a ha p e => ⟨e.1, s _ _ e.2⟩
theorem RsAt.mem {H0 H : Hp} {as : List Addr} {ps : List (List Nm)} (h : RsAt H0 H as ps) {a : Addr} (ha : a ∈ as) : ∃ p : List Nm, H a = some (.lst (p.map nS)) := by
  obtain ⟨i, hi⟩ := List.getElem?_of_mem ha
  obtain ⟨p, _, e⟩ := paired_get h hi
  exact ⟨p, e.2⟩
theorem rd_eq {jns : List (Nm × List Nm)} {fars : List Nm} {x : Nm} {r t : List Nm} (h : Rd' jns fars x r) (k : Rd' jns fars x t) : r = t := by
  rcases h with ⟨n, h1, h2⟩ | ⟨h1, h2⟩
  · rcases k with ⟨m, k1, k2⟩ | ⟨k1, _⟩
    · have := h1.eq k1
      subst this
      exact h2.eq k2
    · exact absurd h1 (k1 n)
  · rcases k with ⟨m, k1, _⟩ | ⟨_, k2⟩
    · exact absurd k1 (h1 m)
    · rw [h2, k2]
theorem rd_in {ls : List Nm} {jns : List (Nm × List Nm)} {fars : List Nm} {x : Nm} {r : List Nm} (hok : LJok ls jns) (hf : ∀ f ∈ fars, f ∈ ls) (h : Rd' jns fars x r) : (∀ z ∈ r, z ∈ ls) ∧ r.length ≤ 8 := by
  rcases h with ⟨n, h1, h2⟩ | ⟨_, h2⟩
  · have l := h2.len
    have := af_lt hok hf h1
    have := hok.l8
    refine ⟨fun z hz => ?_, by omega⟩
    obtain ⟨i, hi⟩ := List.getElem?_of_mem hz
    exact af_in hok hf (Rm.gr_ds h2 h1 i z hi).2
  · rw [h2]
    exact ⟨fun z hz => (by cases hz), Nat.zero_le _⟩
theorem dtAll_nms {H : Hp} : ∀ zs : List Nm, DtAll SA H (zs.map nS) ((zs.map SX.S).map PyData.str)
  | [] => .nil
  | z :: zs => .cons (.str _) (dtAll_nms zs)
theorem dt_lD {H : Hp} {a : Addr} {p : List Nm} (e : H a = some (.lst (p.map nS))) (l : p.length ≤ 5000) : Dt SA H (.ref a) (lD p) := .lst trivial e (by rw [List.length_map]; exact l) (dtAll_nms p)
end Th
namespace Th
open PySem PySem.Spec PyProof.Rows L2
/-! neighbours, by the law -/
section
variable {P : Program} {w : World} {K : PySem.W.Frag} {mg : Str → Option Value} {base : Heap} {k : Nat}
def sp_l_meet (K : PySem.W.Frag) : Sp := fun vs H Q _ => ∃ (r : Addr) (x y : Nm) (ls : List Nm) (jns : List (Nm × List Nm)), vs = [.ref r, nS x, nS y] ∧ LJ K H r ls jns ∧ jns.length ≤ 100 ∧
  ∀ H' (b : Bool), Same H H' → (b = true ↔ y ≠ x ∧ Adj jns x y) → Q (.bl b) H'
set_option maxHeartbeats 8000000 in
theorem ok_l_meet (T : Defs K mg) : FnOk P w K mg base CX0 (k + 1) T.a_l_meet T.d_l_meet ["_law_net_here", "_law_one", "_law_other"] (sp_l_meet K) := by
  refine T.F_l_meet.ok sc_l_meet (fun vs H Q E h => ?_) (fun cdv A outer s H vs Q E hr h => ?_)
  · obtain ⟨r, x, y, ls, jns, rfl, _⟩ := h
    rfl
  · obtain ⟨r, x, y, ls, jns, rfl, hnet, hjl, q⟩ := h
    refine ⟨_, PSs.nox
(pss_cons (ps_if (pt_cmpR op_eq (pv 1) (pv 2) (nomark _))
      (pss_one (ps_ret (pe_bl)))
      pss_nil)
    (pss_one (ps_ret (pe_callB (r := rAny K) (cr_any rfl) (by rfl) T.z_any (by decide +kernel) (pa_cons (pe_lc (own := [("_law_place", 3), ("_law_lines", 4)]) (g := gTup K 2 (gCons (gName 3) (gCons (gName 4) gNil))) rfl sc_l_meet.nd (pi_tup (pe_ix (r := rIxT K) ix_tup (pv 0) (pe_int) (fun _ _ => rfl))) (blkOk_by (N := N_l_meet) (sc := defScope s_l_meet) (by decide +kernel)) (fun _ _ _ _ _ => (pg_tup rfl (pgs_cons (pg_name (i := 3) sc_l_meet.nd rfl (.inl rfl)) (pgs_cons (pg_name (i := 4) sc_l_meet.nd rfl (.inl rfl)) pgs_nil)))) (fun _ _ _ _ _ => pts_nil) (fun _ _ _ _ _ => (pe_and (pe_cmpR (r := rIn K false) op_in_seq (pv 1) (pv 4) (by rfl)) (pe_one (pe_cmpR (r := rIn K false) op_in_seq (pv 2) (pv 4) (by rfl)))))) pa_nil)))))
      , ?_⟩
    refine ⟨nS x, rfl, nS y, rfl, rfl, _, rfl, ite2 (fun c => ?_) (fun c => ?_)⟩
    · rw [eq_dec] at c
      have c := of_decide_eq_true c
      exact q _ false (.refl _) ⟨fun z => (by cases z), fun z => absurd c.symm z.1⟩
    · rw [eq_dec] at c
      have c : ¬ x = y := fun e => c (decide_eq_true e)
      obtain ⟨a, ca, b, d, ja, er, ea, ec, hJ⟩ := id hnet
      have jl := paired_len hJ
      refine ⟨.ref r, rfl, r, [.ref a, b, .ref ca, d], 2, .ref ca, rfl, rfl, er, atI_nat (j := 2) rfl, ca, rfl, ⟨_, ec⟩, fun D nD => ?_⟩
      refine lc_it (walk_tup (xs := ja.map V.ref)) (fun i H3 => Same H H3 ∧ ∃ bs : List Bool, H3 D = some (.lst (bs.map V.bl)) ∧ bs.length = i ∧ (bs.any id = true ↔ Adj (jns.take i) x y)) ⟨same_upd nD, [], upd_same, rfl, ⟨fun z => (by cases z), fun ⟨j, hj, _⟩ => (by cases hj)⟩⟩ (fun i H3 _ pv => sqs pv.1 ec) (fun i v H3₀ H3 hi pv yy => ?_) (fun H3 pv => ?_)
      · obtain ⟨rfl, ex⟩ := yy
        obtain ⟨s3, bs, eD, bl, hb⟩ := pv
        obtain ⟨u, eu, rfl⟩ := at_ref ex
        obtain ⟨j, ej, jt, hu, hjt⟩ := paired_get hJ eu
        have tk1 : jns.take (i + 1) = jns.take i ++ [j] := by rw [List.take_add_one, ej]; rfl
        rw [List.length_map, jl] at hi
        have fin : ∀ bb : Bool, (bb = true ↔ x ∈ j.2 ∧ y ∈ j.2) → ∃ acc, H3 D = some (.lst acc) ∧ acc.length < sizeLine ∧ (Same H (upd H3 D (.lst (acc ++ [.bl bb]))) ∧ ∃ bs : List Bool, (upd H3 D (.lst (acc ++ [.bl bb]))) D = some (.lst (bs.map V.bl)) ∧ bs.length = i + 1 ∧ (bs.any id = true ↔ Adj (jns.take (i + 1)) x y)) := fun bb hbb => by
          refine ⟨_, eD, small5000 (by rw [List.length_map]; omega), same_set s3 nD, bs ++ [bb], by rw [upd_same, List.map_append]; rfl, by rw [List.length_append, bl]; rfl, ?_⟩
          rw [tk1, adj_snoc, List.any_append, Bool.or_eq_true_iff, hb, ← hbb]
          simp
        refine ⟨u, _, rfl, sqs s3 hu, rfl, _, _, rfl, _, [], rfl, rfl, rfl, yes_ ?_⟩
        refine ⟨nS x, rfl, .ref jt, rfl, jt, _, rfl, .inr (sqs s3 hjt), rfl, flat_nms _, _, rfl, ite2 (fun c1 => ?_) (fun c1 => ?_)⟩
        · have c1 : x ∈ j.2 := by
            rw [in_nms] at c1
            exact of_decide_eq_true c1
          refine ⟨nS y, rfl, .ref jt, rfl, jt, _, rfl, .inr (sqs s3 hjt), rfl, flat_nms _, fin _ ?_⟩
          show inV (nS y) (j.2.map nS) = true ↔ _
          rw [in_nms, decide_eq_true_eq]
          exact ⟨fun z => ⟨c1, z⟩, fun z => z.2⟩
        · have c1 : ¬ x ∈ j.2 := fun z => by
            rw [in_nms, decide_eq_true z] at c1
            exact c1 rfl
          exact fin false ⟨fun z => (by cases z), fun z => absurd z.1 c1⟩
      · obtain ⟨s3, bs, eD, bl, hb⟩ := pv
        rw [List.length_map, jl, List.take_length] at hb
        refine ⟨D, bs, rfl, SqL.of eD, q _ _ s3 ?_⟩
        rw [hb]
        exact ⟨fun z => ⟨fun e => c e.symm, z⟩, fun z => z.2⟩
/-- of each line the others beside it -/
def BnAt (H : Hp) (D : Addr) (ls : List Nm) (jns : List (Nm × List Nm)) : Prop := ∃ kvs : List (Key × V), H D = some (.dK kvs) ∧ ∀ x ∈ ls, ∃ (a : Addr) (ys : List Nm), valV kvs (Sum.inr (SX.S x)) = some (.ref a) ∧ H a = some (.lst (ys.map nS)) ∧ ys.Nodup ∧ ∀ y, y ∈ ys ↔ y ≠ x ∧ Adj jns x y
theorem BnAt.same {H H' : Hp} {D : Addr} {ls : List Nm} {jns : List (Nm × List Nm)} (h : BnAt H D ls jns) (s : Same H H') : BnAt H' D ls jns := let ⟨kvs, e, f⟩ := h; ⟨kvs, s _ _ e, fun x hx => let ⟨a, ys, h1, h2, h3⟩ := f x hx; ⟨a, ys, h1, s _ _ h2, h3⟩⟩
def sp_l_beside (K : PySem.W.Frag) : Sp := fun vs H Q _ => ∃ (r : Addr) (ls : List Nm) (jns : List (Nm × List Nm)), vs = [.ref r] ∧ LJ K H r ls jns ∧ LJok ls jns ∧ jns.length ≤ 100 ∧ ∀ H' D, Same H H' → H D = none → BnAt H' D ls jns → Q (.ref D) H'
set_option maxHeartbeats 8000000 in
theorem ok_l_beside (T : Defs K mg) : FnOk P w K mg base CX0 (k + 2) T.a_l_beside T.d_l_beside ["_law_net_here"] (sp_l_beside K) := by
  have G_l_meet : FnOk P w K mg base CX0 (k + 1) _ _ _ _ := ok_l_meet T
  refine T.F_l_beside.ok sc_l_beside (fun vs H Q E h => ?_) (fun cdv A outer s H vs Q E hr h => ?_)
  · obtain ⟨r, ls, jns, rfl, _⟩ := h
    rfl
  · obtain ⟨r, ls, jns, rfl, hnet, hok, hjl, q⟩ := h
    refine ⟨_, PSs.nox
(pss_cons (ps_set (i := 1) sc_l_beside.nd rfl (.inl rfl) (pe_dnewK))
    (pss_cons (ps_for PassesOwn.never rfl (pi_tup (pe_ix (r := rIxT K) ix_tup (pv 0) (pe_int) (fun _ _ => rfl))) (pg_name (i := 2) sc_l_beside.nd rfl (.inr rfl))
      (pss_one (ps_dput (hu_of hr) (pv 1) (pv 2) (pe_lc (own := [("_law_other", 3)]) (g := gName 3) rfl sc_l_beside.nd (pi_tup (pe_ix (r := rIxT K) ix_tup (pv 0) (pe_int) (fun _ _ => rfl))) (blkOk_by (N := N_l_beside) (sc := defScope s_l_beside) (by decide +kernel)) (fun _ _ _ _ _ => (pg_name (i := 3) sc_l_beside.nd rfl (.inl rfl))) (fun _ _ _ _ _ => pts_one (pt_val (pe_call G_l_meet hr (by rfl) T.g_l_meet T.F_l_meet.kp T.b_l_meet .nil pass0 (pa_cons (pv 0) (pa_cons (pv 2) (pa_cons (pv 3) pa_nil)))))) (fun _ _ _ _ _ => (pv 3))) (by rfl))))
    (pss_one (ps_ret (pv 1)))))
      , ?_⟩
    have l8 := hok.l8
    obtain ⟨a, c, b, d, ja, er, ea, ec, hJ⟩ := id hnet
    refine fun D nD => ?_
    have s0 := same_upd (o := .dK []) nD
    refine ⟨.ref r, rfl, r, [.ref a, b, .ref c, d], 0, .ref a, rfl, rfl, sqs s0 er, atI_nat (j := 0) rfl, a, rfl, ⟨_, sqs s0 ea⟩, ?_⟩
    refine for_it (walk_tup (xs := ls.map nS)) (fun i σ H3 => ∃ (y2 : Option V) (kvs : List (Key × V)), σ = [some (.ref r), some (.ref D), y2, none] ∧ Same H H3 ∧ H3 D = some (.dK kvs) ∧ kvs.length ≤ i ∧ ∀ x ∈ ls.take i, ∃ (a : Addr) (ys : List Nm), a ≠ D ∧ valV kvs (Sum.inr (SX.S x)) = some (.ref a) ∧ H3 a = some (.lst (ys.map nS)) ∧ ys.Nodup ∧ ∀ y, y ∈ ys ↔ y ≠ x ∧ Adj jns x y)
      ⟨none, [], rfl, s0, upd_same, Nat.le_refl _, fun x hx => (by cases hx)⟩ (fun i σ H3 _ hp => ?_) (fun i v σ H3₀ H3 hi hp yy => ?_) (fun σ H3 hp => ?_)
    · obtain ⟨_, _, _, s3, _⟩ := hp
      exact sqs s3 ea
    · obtain ⟨rfl, ex⟩ := yy
      obtain ⟨y2, kvs, rfl, s3, eD, hl, hv⟩ := hp
      obtain ⟨x, exx, rfl⟩ := at_nm ex
      have ilt : i < ls.length := (List.getElem?_eq_some_iff.mp exx).1
      refine ⟨.ref r, rfl, r, [.ref a, b, .ref c, d], 0, .ref a, rfl, rfl, sqs s3 er, atI_nat (j := 0) rfl, a, rfl, ⟨_, sqs s3 ea⟩, fun D2 nD2 => ?_⟩
      have D2D : D2 ≠ D := fun e => by rw [e, eD] at nD2; cases nD2
      refine lc_it (walk_tup (xs := ls.map nS)) (fun j H4 => Same H3 H4 ∧ ∃ os : List Nm, H4 D2 = some (.lst (os.map nS)) ∧ os.length ≤ j ∧ os.Sublist (ls.take j) ∧ ∀ y, y ∈ os ↔ y ∈ ls.take j ∧ y ≠ x ∧ Adj jns x y) ⟨same_upd nD2, [], upd_same, Nat.le_refl _, List.nil_sublist _, fun y => ⟨fun z => (by cases z), fun z => (by cases z.1)⟩⟩ (fun j H4 _ pv => sqs pv.1 (sqs s3 ea)) (fun j v H4₀ H4 hj pv yy => ?_) (fun H4 pv => ?_)
      · obtain ⟨rfl, ey⟩ := yy
        obtain ⟨s4, os, eD2, ol, osb, hom⟩ := pv
        obtain ⟨y, eyy, rfl⟩ := at_nm ey
        have tk2 : ls.take (j + 1) = ls.take j ++ [y] := by rw [List.take_add_one, eyy]; rfl
        rw [List.length_map] at hj
        refine ⟨rfl, .ref r, rfl, nS x, rfl, nS y, rfl, r, x, y, ls, jns, rfl, hnet.tk (.of (s3.trans s4)), hjl, fun H5 bb s5 hbb => ⟨bb, rfl, ite2 (fun c => ?_) (fun c => ?_)⟩⟩
        · refine ⟨nS y, rfl, os.map nS, s5 _ _ eD2, small5000 (by rw [List.length_map]; omega), same_set (s4.trans s5) nD2, os ++ [y], by rw [upd_same, List.map_append]; rfl, by rw [List.length_append, List.length_singleton]; omega, by rw [tk2]; exact osb.append (List.Sublist.refl _), fun z => ?_⟩
          rw [List.mem_append, List.mem_singleton, hom z, tk2, List.mem_append, List.mem_singleton]
          constructor
          · rintro (h | h)
            · exact ⟨.inl h.1, h.2⟩
            · subst h
              exact ⟨.inr rfl, hbb.mp c⟩
          · rintro ⟨h | h, h2⟩
            · exact .inl ⟨h, h2⟩
            · exact .inr h
        · refine ⟨s4.trans s5, os, s5 _ _ eD2, by omega, by rw [tk2]; exact osb.trans (List.sublist_append_left _ _), fun z => ?_⟩
          rw [hom z, tk2, List.mem_append, List.mem_singleton]
          exact ⟨fun h => ⟨.inl h.1, h.2⟩, fun ⟨h, h2⟩ => ⟨h.elim id fun e => absurd (hbb.mpr (e ▸ h2)) c, h2⟩⟩
      · obtain ⟨s4, os, eD2, ol, osb, hom⟩ := pv
        rw [List.length_map, List.take_length] at osb hom
        have hom : ∀ y, y ∈ os ↔ y ≠ x ∧ Adj jns x y := fun y => by
          rw [hom y]
          exact ⟨fun h => h.2, fun h => ⟨hok.adj h.2, h⟩⟩
        refine ⟨.ref D, rfl, nS x, rfl, D, _, rfl, DPut.k (k := Sum.inr (SX.S x)) (s4 _ _ eD) (small5000 (by omega)), ?_⟩
        refine ⟨_, _, rfl, same_set (s3.trans s4) nD, upd_same, ?_, fun y hy => ?_⟩
        · have := length_putK kvs (Sum.inr (SX.S x)) (V.ref D2)
          omega
        · rw [valV_put]
          by_cases c : y = x
          · rw [if_pos (by rw [c])]
            subst c
            exact ⟨D2, os, D2D, rfl, by rw [upd_ne D2D]; exact eD2, List.Sublist.nodup osb hok.lnd, hom⟩
          · rw [if_neg (fun q => c (SX.S_inj (Sum.inr.inj q)))]
            rw [List.take_add_one, exx] at hy
            rcases List.mem_append.mp hy with z | z
            · obtain ⟨a', ys', h0, h1, h2, h3⟩ := hv y z
              exact ⟨a', ys', h0, h1, by rw [upd_ne h0]; exact s4 _ _ h2, h3⟩
            · exact absurd (List.mem_singleton.mp z) c
    · obtain ⟨y2, kvs, rfl, s3, eD, hl, hv⟩ := hp
      rw [List.length_map, List.take_length] at hv
      exact ⟨.ref D, rfl, q _ D s3 nD ⟨kvs, eD, fun x hx => let ⟨a, ys, _, h⟩ := hv x hx; ⟨a, ys, h⟩⟩⟩
end
/-! all roads, one behind another, till the first goal -/
open Rm (SP sp_zero sp_succ ne_snoc Ds Wk Gr Lst ds_succ ds_zero ds_none wk_ds)
/-- t goes on from rd to the first goal -/
def Goes (jns : List (Nm × List Nm)) (gs : List Nm) : List Nm → List Nm → Prop
  | rd, [] => ∃ y, rd.getLast? = some y ∧ y ∈ gs
  | rd, z :: t => (∃ y, rd.getLast? = some y ∧ y ∉ gs ∧ z ≠ y ∧ Adj jns y z) ∧ z ∉ rd ∧ Goes jns gs (rd ++ [z]) t
theorem gr_goes {jns : List (Nm × List Nm)} {gs : List Nm} : ∀ {n : Nat} {x : Nm} {r t pre : List Nm}, Gr (Adj jns) (· ∈ gs) n x r → AF jns gs n x → r = x :: t → (∀ z ∈ r, z ∉ pre) → Goes jns gs (pre ++ [x]) t
  | 0, x, r, t, pre, h, d, e, _ => by
    rw [h.2] at e
    have : t = [] := (List.cons.inj e).2.symm
    rw [this]
    exact ⟨x, by simp, h.1⟩
  | n + 1, x, r, t, pre, h, d, e, hp => by
    have nd := Rm.gr_nodup h d
    obtain ⟨y, r', h1, h2, h3⟩ := h
    rw [h3] at e
    have et : t = r' := (List.cons.inj e).2.symm
    obtain ⟨t', er'⟩ := Rm.pth_cons (Rm.gr_pth h2)
    rw [h3] at nd hp
    have xn : x ∉ r' := (List.nodup_cons.mp nd).1
    have yr : y ∈ r' := by rw [er']; exact List.mem_cons_self
    rw [et, er']
    have hp' : ∀ z ∈ r', z ∉ pre ++ [x] := fun z hz hm => (List.mem_append.mp hm).elim (hp z (List.mem_cons_of_mem _ hz)) fun h => xn (by rw [← List.mem_singleton.mp h]; exact hz)
    refine ⟨⟨x, by simp, fun hx => d.2 0 (by omega) hx, fun e => xn (by rw [← e]; exact yr), h1.1.1⟩, hp' y yr, ?_⟩
    exact gr_goes h2 h1.1.2 er' hp'
section
variable {P : Program} {w : World} {K : PySem.W.Frag} {mg : Str → Option Value} {base : Heap} {k : Nat}
def sp_all_roads (n : Nat) : Sp := fun vs H Q _ => ∃ (D ra ga : Addr) (ls : List Nm) (jns : List (Nm × List Nm)) (rd gs : List Nm) (x : Nm), vs = [.ref D, .ref ra, .ref ga] ∧ BnAt H D ls jns ∧ LJok ls jns ∧ H ra = some (.lst (rd.map nS)) ∧ H ga = some (.lst (gs.map nS)) ∧ Rm.Pth (Adj jns) x rd ∧ rd.Nodup ∧ (∀ z ∈ rd, z ∈ ls) ∧ ls.length < rd.length + n ∧ n ≤ 8 ∧
  ∀ H' p as (ps : List (List Nm)), Same H H' → H p = none → H' p = some (.lst (as.map V.ref)) → (∀ a ∈ as, a = ra ∨ H a = none) → p ∉ as → Paired (fun a (p : List Nm) => H' a = some (.lst (p.map nS))) as ps → ps.length ≤ 7 ^ n →
    (∀ q ∈ ps, Rm.Pth (Adj jns) x q ∧ q.Nodup ∧ (∀ z ∈ q, z ∈ ls) ∧ ∃ z, q.getLast? = some z ∧ z ∈ gs) → (∀ t, Goes jns gs rd t → rd ++ t ∈ ps) → Q (.ref p) H'
set_option maxHeartbeats 8000000 in
theorem ok_l_all_roads (T : Defs K mg) : ∀ n : Nat, FnOk P w K mg base CX0 n T.a_l_all_roads T.d_l_all_roads ["_law_beside_here", "_law_road", "_law_goals"] (sp_all_roads n) := by
  intro n
  induction n with
  | zero =>
    have no : ∀ {ls rd : List Nm}, rd.Nodup → (∀ z ∈ rd, z ∈ ls) → ls.length < rd.length + 0 → False := fun h1 h2 h3 => by
      have := nd_len h1 h2
      omega
    exact ⟨fun vs H Q E ⟨_, _, _, _, _, _, _, _, _, _, _, _, _, _, h1, h2, h3, _⟩ => (no h1 h2 h3).elim, fun A outer s H args us vs Q E _ _ _ _ ⟨_, _, _, _, _, _, _, _, _, _, _, _, _, _, h1, h2, h3, _⟩ => (no h1 h2 h3).elim⟩
  | succ n ih =>
  have G_l_all_roads := ih
  refine T.F_l_all_roads.ok sc_l_all_roads (fun vs H Q E h => ?_) (fun cdv A outer s H vs Q E hr h => ?_)
  · obtain ⟨D, ra, ga, ls, jns, rd, gs, x, rfl, _⟩ := h
    rfl
  · obtain ⟨D, ra, ga, ls, jns, rd, gs, x, rfl, hbs, hok, era, ega, hpt, rnd, rin, hlt, n8, q⟩ := h
    refine ⟨_, PSs.nox
(pss_cons (ps_if (pt_cmpR (r := rIn K false) op_in_seq (pe_ix (r := rIxL K) ix_list (pv 1) (pe_un un_neg (pe_int)) (fun _ _ => rfl)) (pv 2) (by rfl))
      (pss_one (ps_ret (pe_lst (pa_cons (pv 1) pa_nil))))
      pss_nil)
    (pss_cons (ps_set (i := 3) sc_l_all_roads.nd rfl (.inl rfl) (pe_lst pa_nil))
    (pss_cons (ps_for PassesOwn.never rfl (pi_list (pe_dget (hu_of hr) (pv 0) (pe_ix (r := rIxL K) ix_list (pv 1) (pe_un un_neg (pe_int)) (fun _ _ => rfl)) (fun _ _ => rfl))) (pg_name (i := 4) sc_l_all_roads.nd rfl (.inl rfl))
      (pss_one (ps_if (pt_cmpR (r := rIn K true) op_notIn_seq (pv 4) (pv 1) (by rfl))
        (pss_one (ps_expr (pe_bm PySem.F.plainAttrs_list PySem.F.slot_list_extend PySem.F.type_list_extend mt_extend (pv 3) (pa_cons (pe_call G_l_all_roads hr (by rfl) T.g_l_all_roads T.F_l_all_roads.kp T.b_l_all_roads .nil pass0 (pa_cons (pv 0) (pa_cons (pe_op op_cat (pv 1) (pe_lst (pa_cons (pv 4) pa_nil))) (pa_cons (pv 2) pa_nil)))) pa_nil))))
        pss_nil)))
    (pss_one (ps_ret (pv 3))))))
      , ?_⟩
    have l8 := hok.l8
    have rne : rd ≠ [] := fun e => by rw [e] at hpt; exact hpt
    obtain ⟨r0, y, ery⟩ := ne_snoc rne
    have last : atI (rd.map nS) (-1) = some (nS y) := by rw [ery, List.map_append]; exact atI_last _ _
    have ly : rd.getLast? = some y := by rw [ery]; simp
    have yin : y ∈ ls := rin y (by rw [ery]; simp)
    refine ⟨.ref ra, rfl, 1, rfl, ra, _, -1, nS y, rfl, rfl, SqL.of era, last, .ref ga, rfl, ga, _, rfl, .inl (SqL.of ega), rfl, flat_nms _, _, rfl, ite2 (fun c => ?_) (fun c => ?_)⟩
    · have c : y ∈ gs := by
        rw [in_nms] at c
        exact of_decide_eq_true c
      refine ⟨.ref ra, rfl, one_sz, fun p np => ?_⟩
      have pra : ra ≠ p := ne_of_none era np
      refine q _ p [ra] [rd] (same_upd np) np upd_same (fun a ha => .inl (List.mem_singleton.mp ha)) (by simp; exact pra.symm) (.cons (same_upd np _ _ era) .nil) (Nat.pow_pos (by decide)) (fun q hq => by rw [List.mem_singleton.mp hq]; exact ⟨hpt, rnd, rin, y, ly, c⟩) (fun t ht => ?_)
      match t, ht with
      | [], _ => rw [List.append_nil]; exact List.mem_singleton.mpr rfl
      | z :: t, ht =>
        obtain ⟨⟨y', e, h, _⟩, _⟩ := ht
        rw [ly] at e
        rw [← Option.some.inj e] at h
        exact absurd c h
    · have c : y ∉ gs := fun h => by
        rw [in_nms, decide_eq_true h] at c
        exact c rfl
      refine ⟨Nat.zero_le _, fun F nF => ?_⟩
      have s0 := same_upd (o := .lst []) nF
      obtain ⟨bk, eDb, hbv⟩ := hbs.same s0
      obtain ⟨ba, ys, hv1, hba, ynd, hym⟩ := hbv y yin
      have yl : ys.length + 1 ≤ ls.length := by
        have := nd_len (l := y :: ys) (d := ls) (List.nodup_cons.mpr ⟨fun h => ((hym y).mp h).1 rfl, ynd⟩) fun z hz => (List.mem_cons.mp hz).elim (fun e => by rw [e]; exact yin) fun h => hok.adj ((hym z).mp h).2
        rwa [List.length_cons] at this
      have baF : ba ≠ F := fun e => by
        obtain ⟨bk', e', f'⟩ := hbs
        obtain ⟨ba', ys', h1, h2, _⟩ := f' y yin
        rw [s0 _ _ e'] at eDb
        cases eDb
        rw [h1] at hv1
        cases hv1
        rw [e, nF] at h2
        cases h2
      refine ⟨.ref D, rfl, .ref ra, rfl, 1, rfl, ra, _, -1, nS y, rfl, rfl, SqL.of (s0 _ _ era), last, D, _, rfl, by rw [← hv1]; exact DGet.k (k := Sum.inr (SX.S y)) eDb, ba, rfl, ⟨_, SqL.of hba⟩, ?_⟩
      have eF0 : (upd H F (.lst [])) F = some (.lst []) := upd_same
      refine for_it (walk_list (xs := ys.map nS)) (fun i σ H3 => ∃ (y4 : Option V) (as : List Addr) (ps : List (List Nm)), σ = [some (.ref D), some (.ref ra), some (.ref ga), some (.ref F), y4] ∧ Same H H3 ∧ H3 F = some (.lst (as.map V.ref)) ∧ (F ∉ as ∧ ∀ a ∈ as, H a = none) ∧ H3 ba = some (.lst (ys.map nS)) ∧ Paired (fun a (p : List Nm) => H3 a = some (.lst (p.map nS))) as ps ∧ ps.length ≤ i * 7 ^ n ∧ (∀ q ∈ ps, Rm.Pth (Adj jns) x q ∧ q.Nodup ∧ (∀ z ∈ q, z ∈ ls) ∧ ∃ z, q.getLast? = some z ∧ z ∈ gs) ∧ ∀ z ∈ ys.take i, ∀ t, Goes jns gs rd (z :: t) → rd ++ z :: t ∈ ps)
        ⟨none, [], [], rfl, s0, upd_same, ⟨by simp, fun a ha => (by cases ha)⟩, hba, .nil, by simp, fun q hq => (by cases hq), fun z hz => (by cases hz)⟩ (fun i σ H3 _ hp => ?_) (fun i v σ H3₀ H3 hi hp yy => ?_) (fun σ H3 hp => ?_)
      · obtain ⟨_, _, _, _, _, _, _, e, _⟩ := hp
        exact SqL.of e
      · obtain ⟨rfl, ex⟩ := yy
        obtain ⟨y4, as, ps, rfl, s3, eF, ⟨nFa, nHa⟩, eba, has, pl, hps, hgo⟩ := hp
        obtain ⟨z, ez, rfl⟩ := at_nm ex
        have zin : z ∈ ys := List.mem_of_getElem? ez
        have tk1 : ys.take (i + 1) = ys.take i ++ [z] := by rw [List.take_add_one, ez]; rfl
        rw [List.length_map] at hi
        have pw := Nat.pow_le_pow_right (show 0 < 7 by decide) (by omega : n ≤ 7)
        have pw2 : (7 : Nat) ^ 7 = 823543 := by decide
        have i7 : (i + 1) * 7 ^ n ≤ 7 * 823543 := Nat.mul_le_mul (by omega) (by omega)
        refine ⟨nS z, rfl, .ref ra, rfl, ra, _, rfl, .inl (SqL.of (s3 _ _ era)), rfl, flat_nms _, _, rfl, ite2 (fun c2 => ?_) (fun c2 => ?_)⟩
        · have c2 : z ∉ rd := fun h => by
            rw [in_nms, decide_eq_true h] at c2
            cases c2
          have rl := nd_len rnd rin
          refine ⟨.ref F, rfl, .inl ⟨rfl, _, SqL.of eF⟩, .ref D, rfl, .ref ra, rfl, nS z, rfl, one_sz, fun l2 nl2 => ?_⟩
          have sl2 := same_upd (o := .lst [nS z]) nl2
          refine ⟨ra, l2, _, _, rfl, rfl, sl2 _ _ (s3 _ _ era), upd_same, Nat.le_of_lt (small5000 (by rw [List.length_map]; show rd.length + 1 ≤ 5000; omega)), fun cn ncn => ?_⟩
          have sc := sl2.trans (same_upd (o := .lst (rd.map nS ++ [nS z])) ncn)
          have ecn : (upd (upd H3 l2 (.lst [nS z])) cn (.lst (rd.map nS ++ [nS z]))) cn = some (.lst ((rd ++ [z]).map nS)) := by rw [upd_same, List.map_append]; rfl
          have cnF : cn ≠ F := fun z => by rw [z, sl2 _ _ eF] at ncn; cases ncn
          have ncH : H cn = none := by
            cases e : H cn with
            | none => rfl
            | some o => rw [sl2 _ _ (s3 _ _ e)] at ncn; cases ncn
          generalize upd (upd H3 l2 (.lst [nS z])) cn (.lst (rd.map nS ++ [nS z])) = H4 at sc ecn ⊢
          have s4 := s3.trans sc
          have adj := (hym z).mp zin
          refine ⟨.ref ga, rfl, D, cn, ga, ls, jns, rd ++ [z], gs, x, rfl, hbs.same s4, hok, ecn, s4 _ _ ega, Rm.pth_snoc hpt fun y' e => by rw [ly] at e; rw [← Option.some.inj e]; exact adj.2, List.nodup_append.mpr ⟨rnd, by simp, fun p hp q hq e => by rw [List.mem_singleton.mp hq] at e; rw [e] at hp; exact c2 hp⟩, fun w hw => (List.mem_append.mp hw).elim (rin w) fun h => by rw [List.mem_singleton.mp h]; exact hok.adj adj.2, by rw [List.length_append, List.length_singleton]; omega, by omega, fun H5 p5 as5 ps5 s5 np5 ep5 fr5 nas5 hp5 pl5 hq5 hg5 => ?_⟩
          have eF5 := s5 _ _ (sc _ _ eF)
          have nF4 : H4 F = some (.lst (as.map V.ref)) := sc _ _ eF
          have nF5 : F ∉ as5 := fun h => (fr5 F h).elim (fun e => cnF e.symm) fun e => by rw [nF4] at e; cases e
          have nH5 : ∀ a ∈ as5, H a = none := fun a ha => (fr5 a ha).elim (fun e => by rw [e]; exact ncH) fun e => by
            cases e' : H a with
            | none => rfl
            | some o => rw [s4 _ _ e'] at e; cases e
          refine ⟨F, p5, _, _, rfl, rfl, eF5, ep5, ?_, ?_⟩
          · rw [List.length_map, List.length_map, paired_len has, paired_len hp5]
            rw [Nat.succ_mul] at i7
            exact Nat.le_of_lt (small7 (by omega))
          · have p5F : p5 ≠ F := fun e => by rw [e, nF4] at np5; cases np5
            refine ⟨_, as ++ as5, ps ++ ps5, rfl, same_set (s4.trans s5) nF, by rw [upd_same, List.map_append], ⟨fun h => (List.mem_append.mp h).elim nFa nF5, fun a ha => (List.mem_append.mp ha).elim (nHa a) (nH5 a)⟩, by rw [upd_ne baF]; exact s5 _ _ (sc _ _ eba), paired_append (paired_imp has fun a ha p e => by rw [upd_ne (ne_in nFa ha)]; exact s5 _ _ (sc _ _ e)) (paired_imp hp5 fun a ha p e => by rw [upd_ne (ne_in nF5 ha)]; exact e), by rw [List.length_append, Nat.succ_mul]; omega, fun q hq => (List.mem_append.mp hq).elim (hps q) (hq5 q), fun z' hz' t ht => ?_⟩
            rw [tk1] at hz'
            rcases List.mem_append.mp hz' with h | h
            · exact List.mem_append_left _ (hgo z' h t ht)
            · rw [List.mem_singleton.mp h] at ht ⊢
              have := hg5 t ht.2.2
              rw [List.append_assoc] at this
              exact List.mem_append_right _ this
        · have c2 : z ∈ rd := by
            by_cases h : z ∈ rd
            · exact h
            · rw [in_nms, decide_eq_false h] at c2
              exact absurd rfl c2
          refine ⟨_, as, ps, rfl, s3, eF, ⟨nFa, nHa⟩, eba, has, Nat.le_trans pl (Nat.mul_le_mul_right _ (Nat.le_succ i)), hps, fun z' hz' t ht => ?_⟩
          rw [tk1] at hz'
          rcases List.mem_append.mp hz' with h | h
          · exact hgo z' h t ht
          · rw [List.mem_singleton.mp h] at ht
            exact absurd c2 ht.2.1
      · obtain ⟨y4, as, ps, rfl, s3, eF, ⟨nFa, nHa⟩, eba, has, pl, hps, hgo⟩ := hp
        rw [List.length_map] at pl
        rw [List.length_map, List.take_length] at hgo
        refine ⟨.ref F, rfl, q _ F as ps s3 nF eF (fun a ha => .inr (nHa a ha)) nFa has ?_ hps fun t ht => ?_⟩
        · rw [Nat.pow_succ, Nat.mul_comm]
          exact Nat.le_trans pl (Nat.mul_le_mul_right _ (by omega))
        · match t, ht with
          | [], ⟨y', e, h⟩ =>
            rw [ly] at e
            rw [← Option.some.inj e] at h
            exact absurd h c
          | z :: t, ht =>
            obtain ⟨y', e, _, h2⟩ := ht.1
            rw [ly] at e
            rw [← Option.some.inj e] at h2
            exact hgo z ((hym z).mpr h2) t ht
end
end Th
namespace Th
open PySem PySem.Spec PyProof.Rows L2
/-! roads put in order by their length, then by their lines -/
open Rm (SP sp_zero sp_succ ne_snoc Ds Wk Gr Lst ds_succ ds_zero ds_none wk_ds)
/-- a road with its length, as data -/
def lenD (p : List Nm) : PyData := PySem.W.Datum.toD ((((p.length : Nat) : Int), p.map SX.S) : Int × List Str)
theorem lenD_eq (p : List Nm) : lenD p = .tuple [.int ((p.length : Nat) : Int), lD p] := rfl
theorem lenD_alike (ps : List (List Nm)) : PySem.W.AllAlike (ps.map lenD) := PySem.W.AllAlike.of fun a b => PySem.W.DatumOrd.alike _ _
theorem lenD_sortable (ps : List (List Nm)) : PySem.W.Sortable (ps.map lenD) := PySem.W.Sortable.tuples fun b => ⟨_, _, rfl⟩
theorem lenD_depth (p : List Nm) : (lenD p).depth ≤ 60 := by
  show max 0 (max (PyData.depthAll ((p.map SX.S).map PyData.str) + 1) 0) + 1 ≤ 60
  rw [depthAll_nms]
  decide
theorem layAll_lenD : ∀ {ps : List (List Nm)}, (∀ p ∈ ps, ∀ z ∈ p, IsNm z) → PyData.canLayAll0 (ps.map lenD) = true
  | [], _ => rfl
  | p :: ps, h => by
    show ((true && (PyData.canLayAll0 ((p.map SX.S).map PyData.str) && true)) && PyData.canLayAll0 (ps.map lenD)) = true
    rw [layAll_nms (h p List.mem_cons_self), layAll_lenD fun y hy => h y (List.mem_cons_of_mem _ hy)]
    rfl
theorem depthAll_lenD : ∀ ps : List (List Nm), PyData.depthAll (ps.map lenD) ≤ 2
  | [] => Nat.zero_le _
  | p :: ps => by
    show max (max 0 (max (PyData.depthAll ((p.map SX.S).map PyData.str) + 1) 0) + 1) (PyData.depthAll (ps.map lenD)) ≤ 2
    rw [depthAll_nms]
    exact Nat.max_le.mpr ⟨by decide, depthAll_lenD ps⟩
theorem shaped_lenD {ps : List (List Nm)} (h : ∀ p ∈ ps, ∀ z ∈ p, IsNm z) : SeqAt.shaped (.list (ps.map lenD)) = true := Bool.and_eq_true_iff.mpr ⟨layAll_lenD h, decide_eq_true (by
  show PyData.depthAll (ps.map lenD) + 1 ≤ 64
  have := depthAll_lenD ps
  omega)⟩
/-- the first of them is none longer, and of its length none less -/
theorem len_first {ps : List (List Nm)} {m : List Nm} {r : List (List Nm)} (e : ps.mergeSort (PySem.W.dataLe false lenD) = m :: r) : m ∈ ps ∧ ∀ p ∈ ps, m.length ≤ p.length ∧ (p.length = m.length → Rm.rLt p m = false) := by
  have tot : PySem.W.TotalLe (PySem.W.dataLe false lenD) := PySem.W.sortLe_total _ _ _
  have pm : (ps.mergeSort (PySem.W.dataLe false lenD)).Perm ps := List.mergeSort_perm ps _
  have pw := List.pairwise_mergeSort (le := PySem.W.dataLe false lenD) tot.trans (fun a b => Bool.or_eq_true_iff.mpr (tot.total a b)) ps
  rw [e] at pm pw
  refine ⟨pm.mem_iff.mp List.mem_cons_self, fun p hp => ?_⟩
  have le : PySem.W.dataLe false lenD m p = true := by
    rcases List.mem_cons.mp (pm.mem_iff.mpr hp) with h | h
    · rw [h]
      exact (tot.total m m).elim id id
    · exact (List.pairwise_cons.mp pw).1 p h
  have le : (!PySem.W.dataLt (lenD p) (lenD m)) = true := le
  have lt : PySem.W.dataLt (lenD p) (lenD m) = false := by
    cases h : PySem.W.dataLt (lenD p) (lenD m) with
    | false => rfl
    | true => rw [h] at le; cases le
  have lt : (if ((p.length : Nat) : Int) = ((m.length : Nat) : Int) then PySem.W.DatumOrd.lt (p.map SX.S) (m.map SX.S) else decide (((p.length : Nat) : Int) < ((m.length : Nat) : Int))) = false := (PySem.W.DatumOrd.lt_eq ((((p.length : Nat) : Int), p.map SX.S) : Int × List Str) (((m.length : Nat) : Int), m.map SX.S)).symm.trans lt
  by_cases c : ((p.length : Nat) : Int) = ((m.length : Nat) : Int)
  · rw [if_pos c, listLt_S] at lt
    exact ⟨by omega, fun _ => lt⟩
  · rw [if_neg c] at lt
    have := of_decide_eq_false lt
    exact ⟨by omega, fun h => absurd (by omega) c⟩
/-- the first of all roads to a goal is the road -/
theorem first_is_rd {ls : List Nm} {jns : List (Nm × List Nm)} {gs : List Nm} {x : Nm} {ps : List (List Nm)} {m : List Nm} {r : List (List Nm)} (hok : LJok ls jns) (hg : ∀ f ∈ gs, f ∈ ls) (e : ps.mergeSort (PySem.W.dataLe false lenD) = m :: r)
    (h1 : ∀ q ∈ ps, Rm.Pth (Adj jns) x q ∧ ∃ z, q.getLast? = some z ∧ z ∈ gs) (h2 : ∀ n rd, AF jns gs n x → Gr (Adj jns) (· ∈ gs) n x rd → rd ∈ ps) : Rd' jns gs x m := by
  obtain ⟨mp, hl⟩ := len_first e
  obtain ⟨hm, z, ez, hz⟩ := h1 m mp
  have wk := Rm.pth_wk hm ez (F := fun f => f ∈ gs) hz
  obtain ⟨n, hn, hd⟩ := wk_ds _ wk
  obtain ⟨rd, hrd⟩ := Rm.gr_ex (ls := ls) (fun n y h => af_in hok hg h) n hd
  have rin := h2 n rd hd hrd
  have rl := hrd.len
  have l1 := (hl rd rin).1
  have ml : m.length = n + 1 := by
    obtain ⟨t, rfl⟩ := Rm.pth_cons hm
    rw [List.length_cons] at hn l1 ⊢
    omega
  have le1 := (hl rd rin).2 (by omega)
  have le2 := Rm.gr_least hrd hd hm ml ez hz
  have := Rm.rLt_anti _ _ le2 le1
  subst this
  exact .inl ⟨n, hd, hrd⟩
/-- a tuple of a road's length and the road -/
abbrev LenAt (H : Hp) (v : V) (p : List Nm) : Prop := ∃ t u, v = .ref t ∧ H t = some (.tup [.int ((p.length : Nat) : Int), .ref u]) ∧ H u = some (.lst (p.map nS))
theorem zip_len {H : Hp} : ∀ {as : List Addr} {ps : List (List Nm)} {ts : List Addr}, Paired (fun a (p : List Nm) => H a = some (.lst (p.map nS))) as ps → Paired (fun t (pa : List Nm × Addr) => H t = some (.tup [.int ((pa.1.length : Nat) : Int), .ref pa.2])) ts (ps.zip as) → Paired (LenAt H) (ts.map V.ref) ps
  | _, _, _, .nil, h => by
    cases h
    exact .nil
  | _, _, _, .cons hu h', h => by
    cases h with
    | cons h1 h2 => exact .cons ⟨_, _, rfl, h1, hu⟩ (zip_len h' h2)
theorem dpAll_lenD {K : PySem.W.Frag} {H H' : Hp} (s : Same H H') : ∀ {ys : List V} {ms : List (List Nm)}, Paired (LenAt H) ys ms → DpAll K H' ys (ms.map lenD)
  | _, _, .nil => .nil
  | _, _, .cons ⟨t, u, e1, e2, e3⟩ h => by
    refine .cons ?_ (dpAll_lenD s h)
    rw [e1, lenD_eq]
    exact .tup (SqT.of (s _ _ e2)) (.cons (.int _) (.cons (dp_lD (s _ _ e3)) .nil))
end Th
namespace Th
open PySem PySem.Spec PyProof.Rows L2
open Rm (SP sp_zero sp_succ ne_snoc Ds Wk Gr Lst ds_succ ds_zero ds_none wk_ds)
theorem sq_same {K : PySem.W.Frag} {H H' : Hp} {a : Addr} {xs : List V} (s : Same H H') (h : SqL K H a xs) : SqL K H' a xs := by
  rcases h with (h | ⟨o, h⟩) | h
  · exact .inl (.inl (s _ _ h))
  · exact .inl (.inr ⟨o, s _ _ h⟩)
  · exact .inr h
theorem NB.lj {K : PySem.W.Frag} {H : Hp} {r : Addr} {ls : List Nm} {jns : List (Nm × List Nm)} (h : NB H r ls jns) : LJ K H r ls jns := by
  obtain ⟨a, c, b, d, ja, h1, h2, h3, h4⟩ := h
  exact ⟨a, c, b, d, ja, SqT.of h1, h2.sq, h3.sq, paired_imp h4 fun x _ j ⟨t, e1, e2⟩ => ⟨t, SqT.of e1, e2.sq⟩⟩
theorem NetBok.lj {ls : List Nm} {jns : List (Nm × List Nm)} (h : NetBok ls jns) : LJok ls jns :=
  ⟨h.l8, h.lnd, fun j hj y hy => (h.sub j hj).subset hy, fun j hj => Nat.le_trans (h.sub j hj).length_le h.l8, fun j hj => List.Sublist.nodup (h.sub j hj) h.lnd⟩
/-- dict of the junctions -/
theorem jn_dict {K : PySem.W.Frag} {H : Hp} {ja : List Addr} {jns : List (Nm × List Nm)} (h : Paired (JnT H) ja jns) : ∃ kvs : List (Key × V), Paired (fun p kv => SqT K H p [kV kv.1, kv.2]) ja kvs ∧ kvs.map (·.1) = (jns.map (·.1)).map (fun z => Sum.inr (SX.S z)) ∧ ∀ j ∈ jns, ∃ t, (Sum.inr (SX.S j.1), V.ref t) ∈ kvs ∧ TpF H t (j.2.map nS) := by
  induction h with
  | nil => exact ⟨[], .nil, rfl, fun j hj => (by cases hj)⟩
  | @cons x j ja jns hx _ ih =>
    obtain ⟨kvs, h1, h2, h3⟩ := ih
    obtain ⟨t, e1, e2⟩ := hx
    refine ⟨(Sum.inr (SX.S j.1), .ref t) :: kvs, .cons (SqT.of e1) h1, by rw [List.map_cons, List.map_cons, List.map_cons, h2], fun i hi => ?_⟩
    rcases List.mem_cons.mp hi with h | h
    · rw [h]
      exact ⟨t, List.mem_cons_self, e2⟩
    · obtain ⟨t', h4, h5⟩ := h3 i h
      exact ⟨t', List.mem_cons_of_mem _ h4, h5⟩
theorem jn_dict_val {jns : List (Nm × List Nm)} {kvs : List (Key × V)} (h : kvs.map (·.1) = (jns.map (·.1)).map (fun z => Sum.inr (SX.S z))) (nd : (jns.map (·.1)).Nodup) {z : Nm} {v : V} (m : (Sum.inr (SX.S z), v) ∈ kvs) : valV (mergeK [] kvs) (Sum.inr (SX.S z)) = some v := by
  refine val_merge_nd ?_ m
  rw [h, List.nodup_iff_pairwise_ne, List.pairwise_map]
  exact (List.nodup_iff_pairwise_ne.mp nd).imp fun n e => n (SX.S_inj (Sum.inr.inj e))
theorem noBs_nms : ∀ zs : List Nm, noB.noBs ((zs.map SX.S).map PyData.str) = true
  | [] => rfl
  | z :: zs => by
    show (true && noB.noBs ((zs.map SX.S).map PyData.str)) = true
    rw [noBs_nms zs]
    rfl
section
variable {P : Program} {w : World} {K : PySem.W.Frag} {mg : Str → Option Value} {base : Heap} {k : Nat}
def sp_l_right : Sp := fun vs H Q _ => ∃ (r : Addr) (x over : Nm) (ls : List Nm) (jns : List (Nm × List Nm)) (jn : Nm × List Nm), vs = [.ref r, nS x, nS jn.1, nS over] ∧ NB H r ls jns ∧ NetBok ls jns ∧ x ∈ ls ∧ jn ∈ jns ∧ over ∈ jn.2 ∧ ∀ H', Same H H' → Q (.bl true) H'
set_option maxHeartbeats 16000000 in
theorem ok_l_right (T : Defs K mg) : FnOk P w K mg base CX0 9 T.a_l_right T.d_l_right ["_law_net_here", "_law_line", "_law_junction", "_law_over"] sp_l_right := by
  have G_l_all_roads : FnOk P w K mg base CX0 8 _ _ _ _ := ok_l_all_roads T 8
  have G_l_beside : FnOk P w K mg base CX0 8 _ _ _ _ := ok_l_beside (k := 6) T
  have G_gap_road : FnOk P w K mg base CX0 8 _ _ _ _ := ok_gap_road (k := 4) T
  have G_lacking : FnOk P w K mg base CX0 8 _ _ _ _ := ok_lacking (k := 3) T
  have G_l_like : FnOk P w K mg base CX0 8 _ _ _ _ := ok_l_like T 8
  refine T.F_l_right.ok sc_l_right (fun vs H Q E h => ?_) (fun cdv A outer s H vs Q E hr h => ?_)
  · obtain ⟨r, x, over, ls, jns, jn, rfl, _⟩ := h
    rfl
  · obtain ⟨r, x, over, ls, jns, jn, rfl, hnet, hnb, xin, jin, oin, q⟩ := h
    refine ⟨_, PSs.nox
(pss_cons (ps_setLc (i := 4) (own := [("_law_one", 10)]) (g := gName 10) rfl sc_l_right.nd rfl rfl (sw_true rfl rfl rfl (by decide +kernel)) (pi_tup (pe_dget (hu_of hr) (pe_callTy (r := rDictF K) (call_dictF rfl) (by rfl) T.z_dict (by decide +kernel) (pa_cons (pe_ix (r := rIxT K) ix_tup (pv 0) (pe_int) (fun _ _ => rfl)) pa_nil)) (pv 2) (fun _ _ => rfl))) (blkOk_by (N := N_l_right) (sc := defScope s_l_right) (by decide +kernel)) (fun _ _ _ _ _ => (pg_name (i := 10) sc_l_right.nd rfl (.inl rfl))) (fun _ _ _ _ _ => pts_one (pt_cmpR op_ne (pv 10) (pv 3) (nomark _))) (fun _ _ _ _ _ => (pv 10)))
    (pss_cons (ps_set (i := 5) sc_l_right.nd rfl (.inl rfl) (pe_callB (r := rSortD lenD K) (cr_sortD lenD hr.units) (by rfl) T.z_sorted (by decide +kernel) (pa_cons (pe_lc (own := [("_law_road", 11)]) (g := gName 11) rfl sc_l_right.nd (pi_list (pe_call G_l_all_roads hr (by rfl) T.g_l_all_roads T.F_l_all_roads.kp T.b_l_all_roads .nil pass0 (pa_cons (pe_call G_l_beside hr (by rfl) T.g_l_beside T.F_l_beside.kp T.b_l_beside .nil pass0 (pa_cons (pv 0) pa_nil)) (pa_cons (pe_lst (pa_cons (pv 1) pa_nil)) (pa_cons (pv 4) pa_nil))))) (blkOk_by (N := N_l_right) (sc := defScope s_l_right) (by decide +kernel)) (fun _ _ _ _ _ => (pg_name (i := 11) sc_l_right.nd rfl (.inl rfl))) (fun _ _ _ _ _ => pts_nil) (fun _ _ _ _ _ => (pe_tup (pa_cons (pe_callB (r := rLenS K) call_lenS (by rfl) T.z_len (by decide +kernel) (pa_cons (pv 11) pa_nil)) (pa_cons (pv 11) pa_nil))))) pa_nil)))
    (Evl.pss_cut (ps_set (i := 6) sc_l_right.nd rfl (.inl rfl) (pe_ifExp (pt_cmpR (r := rNeD K) (op_neD hr.units) (pv 5) (pe_lst pa_nil) (nomark _)) (pe_ix (r := rIxT K) ix_tup (pe_ix (r := rIxL K) ix_list (pv 5) (pe_int) (fun _ _ => rfl)) (pe_int) (fun _ _ => rfl)) (pe_lst pa_nil)))
    (pss_cons (ps_for PassesOwn.never rfl (pi_range1 (by rfl) T.z_range (pa_cons (pe_int) pa_nil)) (pg_name (i := 7) sc_l_right.nd rfl (.inl rfl))
      (pss_cons (ps_set (i := 8) sc_l_right.nd rfl (.inl rfl) (pe_call G_gap_road hr (by rfl) T.g_gap_road T.F_gap_road.kp T.b_gap_road .nil pass0 (pa_cons (pv 0) (pa_cons (pv 1) (pa_cons (pv 2) (pa_cons (pv 3) pa_nil))))))
      (pss_cons (ps_if (PW.pt (pw_or (pt_not (pt_val (pe_callB call_isi (by rfl) T.z_isinstance (by decide +kernel) (pa_cons (pv 8) (pa_cons (pe_bltn (v := .ty "list") (by rfl) T.z_list (by decide +kernel) rfl) pa_nil))))) (pw_or1 (pt_not (pt_val (pe_call G_l_like hr (by rfl) T.g_l_like T.F_l_like.kp T.b_l_like .nil pass0 (pa_cons (pv 8) (pa_cons (pv 6) pa_nil))))))))
        (pss_one (ps_ret (pe_bl)))
        pss_nil)
      (pss_cons (ps_expr (pe_bm PySem.F.plainAttrs_list PySem.F.slot_list_append PySem.F.type_list_append mt_append (pv 8) (pa_cons (pv 1) pa_nil)))
      (pss_cons (ps_set (i := 9) sc_l_right.nd rfl (.inl rfl) (pe_call G_lacking hr (by rfl) T.g_lacking T.F_lacking.kp T.b_lacking .nil pass0 (pa_cons (pv 0) (pa_cons (pv 1) (pa_cons (pv 2) (pa_cons (pv 3) pa_nil))))))
      (pss_cons (ps_if (PW.pt (pw_and (pt_cmpR (r := rEqD K) (op_eqD hr.units) (pv 6) (pe_lst pa_nil) (nomark _)) (pw_and1 (pt_cmpR op_notN (pv 9) (pe_non) (nomark _)))))
        (pss_one (ps_ret (pe_bl)))
        pss_nil)
      (pss_one (ps_if (PW.pt (pw_and (pt_cmpR (r := rNeD K) (op_neD hr.units) (pv 6) (pe_lst pa_nil) (nomark _)) (pw_and1 (pt_not (pt_val (pe_call G_l_like hr (by rfl) T.g_l_like T.F_l_like.kp T.b_l_like .nil pass0 (pa_cons (pv 9) (pa_cons (pe_op op_sub (pe_callB (r := rLenS K) call_lenS (by rfl) T.z_len (by decide +kernel) (pa_cons (pv 6) pa_nil)) (pe_int)) pa_nil))))))))
        (pss_one (ps_ret (pe_bl)))
        pss_nil))))))))
    (pss_one (ps_ret (pe_bl)))))))
      , ?_⟩
    have hok := hnb.lj
    have l8 := hok.l8
    obtain ⟨a, c, b, d, ja, er, ta, tc, hJ⟩ := id hnet
    obtain ⟨kvs, hkv, hks, hmem⟩ := jn_dict (K := K) hJ
    obtain ⟨jt, hjt1, hjt2⟩ := hmem jn jin
    have j9 := hok.j9 jn jin
    -- goals
    refine ⟨.ref r, rfl, r, [.ref a, b, .ref c, d], 2, .ref c, rfl, rfl, SqT.of er, atI_nat (j := 2) rfl, c, ja, kvs, rfl, tc, hkv, fun dd ndd => ?_⟩
    have s1 := same_upd (o := .dK (mergeK [] kvs)) ndd
    refine ⟨nS jn.1, rfl, dd, _, rfl, by rw [← jn_dict_val hks hnb.jnd hjt1]; exact DGet.k (k := Sum.inr (SX.S jn.1)) upd_same, jt, rfl, ⟨_, (hjt2.same s1).sq⟩, fun G nG => ?_⟩
    have hjt1' := hjt2.same s1
    generalize upd H dd (.dK (mergeK [] kvs)) = H1 at s1 nG hjt1' ⊢
    refine lc_it (walk_tup (xs := jn.2.map nS)) (fun k H4 => Same H1 H4 ∧ H4 G = some (.lst ((fromL (jn.2.take k) over).map nS))) ⟨same_upd nG, upd_same⟩ (fun k H4 _ pv => sqs pv.1 hjt1'.sq) (fun k v H4₀ H4 hk pv yy => ?_) (fun H4 pv => ?_)
    · obtain ⟨rfl, ey⟩ := yy
      obtain ⟨s4, eG⟩ := pv
      obtain ⟨z, ez, rfl⟩ := at_nm ey
      have tk : jn.2.take (k + 1) = jn.2.take k ++ [z] := by rw [List.take_add_one, ez]; rfl
      refine ⟨rfl, nS z, rfl, nS over, rfl, rfl, _, rfl, ite2 (fun c2 => ?_) (fun c2 => ?_)⟩
      · rw [ne_dec] at c2
        refine ⟨nS z, rfl, _, eG, small5000 ?_, same_set s4 nG, ?_⟩
        · rw [List.length_map]
          unfold fromL
          refine Nat.le_trans (List.length_filter_le _ _) ?_
          rw [List.length_take]
          omega
        · rw [upd_same, tk]
          unfold fromL
          rw [List.filter_append, List.filter_cons_of_pos (by exact c2), List.map_append]
          rfl
      · rw [ne_dec] at c2
        refine ⟨s4, ?_⟩
        rw [eG, tk]
        unfold fromL
        rw [List.filter_append, List.filter_cons_of_neg (by exact c2), List.filter_nil, List.append_nil]
    obtain ⟨s4, eG⟩ := pv
    rw [List.length_map, List.take_length] at eG
    have gls : ∀ f ∈ fromL jn.2 over, f ∈ ls := fun f hf => hok.sub jn jin f (mem_fromL.mp hf).1
    have s04 := s1.trans s4
    -- all roads
    refine ⟨.ref r, rfl, r, ls, jns, rfl, (hnet.same s04).lj, hok, by have := hnb.j12; omega, fun H5 bd s5 nbd hbd => ?_⟩
    refine ⟨nS x, rfl, one_sz, fun ra nra => ⟨.ref G, rfl, ?_⟩⟩
    have sra := same_upd (o := .lst [nS x]) nra
    refine ⟨bd, ra, G, ls, jns, [x], fromL jn.2 over, x, rfl, hbd.same sra, hok, upd_same, sra _ _ (s5 _ _ eG), rfl, by simp, fun z hz => by rw [List.mem_singleton.mp hz]; exact xin, by show ls.length < 1 + 8; omega, by decide, fun H6 rp as ps s6 nrp erp fr6 nra6 hp6 pl6 hq6 hg6 => ?_⟩
    have s06 := s04.trans (s5.trans (sra.trans s6))
    have pw : ps.length ≤ 5764801 := Nat.le_trans pl6 (by decide)
    refine ⟨rp, rfl, ⟨_, SqL.of erp⟩, fun L nL => ?_⟩
    refine lc_it (walk_list (xs := as.map V.ref)) (fun i H7 => Same H6 H7 ∧ ∃ ts : List Addr, H7 L = some (.lst (ts.map V.ref)) ∧ Paired (fun t (pa : List Nm × Addr) => H7 t = some (.tup [.int ((pa.1.length : Nat) : Int), .ref pa.2])) ts ((ps.zip as).take i)) ⟨same_upd nL, [], upd_same, .nil⟩ (fun i H7 _ pv => SqL.of (pv.1 _ _ erp)) (fun i v H7₀ H7 hi pv yy => ?_) (fun H7 pv => ?_)
    · obtain ⟨rfl, ex⟩ := yy
      obtain ⟨s7, ts, eL, hts⟩ := pv
      obtain ⟨u, eu, rfl⟩ := at_ref ex
      obtain ⟨p, ep, hu⟩ := paired_get hp6 eu
      have ez : (ps.zip as)[i]? = some (p, u) := List.getElem?_zip_eq_some.mpr ⟨ep, eu⟩
      have tsl := paired_len hts
      refine ⟨rfl, yes_ ?_⟩
      refine ⟨.ref u, rfl, u, _, rfl, .inl (SqL.of (s7 _ _ hu)), .ref u, rfl, two_sz, fun t nt => ?_⟩
      have st := same_upd (o := .tup [.int (((p.map nS).length : Nat) : Int), .ref u]) nt
      have ntL : t ≠ L := fun e => by rw [e, eL] at nt; cases nt
      have eL' := st _ _ eL
      refine ⟨_, eL', small7 (by rw [List.length_map, tsl, List.length_take, List.length_zip]; omega), same_set (s7.trans st) nL, ts ++ [t], by rw [upd_same, List.map_append]; rfl, ?_⟩
      rw [List.take_add_one, ez]
      refine paired_snoc (paired_imp hts fun a _ p e => ?_) ?_
      · rw [upd_ne (fun z => by rw [z, eL] at e; cases e)]
        exact st _ _ e
      · rw [upd_ne ntL, upd_same, List.length_map]
    obtain ⟨s7, ts, eL, hts⟩ := pv
    have pal := paired_len hp6
    have zl : (ps.zip as).length = as.length := by rw [List.length_zip]; omega
    rw [List.length_map, ← zl, List.take_length] at hts
    have pnm : ∀ p ∈ ps, ∀ z ∈ p, IsNm z := fun p hp z hz => hnb.lnm z ((hq6 p hp).2.2.1 z hz)
    -- sorted
    have hR : Paired (LenAt H7) (ts.map V.ref) ps := zip_len (paired_imp hp6 fun a _ p e => s7 _ _ e) hts
    refine ⟨L, _, ps, _, rfl, SqL.of eL, hR, fun v p hp ⟨t, u, e1, e2, e3⟩ => ?_, lenD_alike ps, lenD_sortable ps, fun p _ => lenD_depth p, fun so ys nso hys => ?_⟩
    · rw [e1, lenD_eq]
      exact .tup (SqT.of e2) (.cons (.int _) (.cons (dp_lD e3) .nil))
    have sso := same_upd (o := .lst ys) nso
    -- due
    have mp : (ps.mergeSort (PySem.W.dataLe false lenD)).Perm ps := List.mergeSort_perm ps _
    refine ⟨fun σ H8 => ∃ (du : Addr) (due : List Nm), σ = [some (.ref r), some (nS x), some (nS jn.1), some (nS over), some (.ref G), some (.ref so), some (.ref du), none, none, none, none, none] ∧ Same H H8 ∧ H8 du = some (.lst (due.map nS)) ∧ Rd' jns (fromL jn.2 over) x due, ?_, fun σ H8 mid => ?_⟩
    · refine ⟨.ref so, rfl, Nat.zero_le _, fun e ne => ?_⟩
      have se := same_upd (o := .lst []) ne
      have s78 := s7.trans (sso.trans se)
      have dS : Dp K (upd (upd H7 so (.lst ys)) e (.lst [])) (.ref so) (.list ((ps.mergeSort (PySem.W.dataLe false lenD)).map lenD)) := by
        exact .lst (SqL.of (se _ _ upd_same)) (dpAll_lenD (sso.trans se) hys)
      have dE : Dp K (upd (upd H7 so (.lst ys)) e (.lst [])) (.ref e) (.list []) := .lst (SqL.of upd_same) .nil
      refine ⟨_, _, dS, dE, shaped_lenD (fun p hp => pnm p (mp.mem_iff.mp hp)), shaped_lenD (ps := []) (fun p hp => (by cases hp)), _, rfl, ite2 (fun c1 => ?_) (fun c1 => ?_)⟩
      · cases hm : ps.mergeSort (PySem.W.dataLe false lenD) with
        | nil => rw [hm] at c1; cases c1
        | cons m ms =>
          rw [hm] at hys
          cases hys with
          | @cons v _ ys' _ hv _ =>
            obtain ⟨t, u, rfl, e2, e3⟩ := hv
            refine ⟨.ref so, rfl, so, _, 0, .ref t, rfl, rfl, SqL.of (se _ _ upd_same), atI_nat (j := 0) rfl, t, _, 1, .ref u, rfl, rfl, SqT.of (se _ _ (sso _ _ e2)), atI_nat (j := 1) rfl, ?_⟩
            refine ⟨u, m, rfl, s06.trans s78, se _ _ (sso _ _ e3), first_is_rd hok gls hm (fun q hq => ⟨(hq6 q hq).1, (hq6 q hq).2.2.2⟩) fun n rd hd hrd => ?_⟩
            obtain ⟨t', er⟩ := Rm.pth_cons (Rm.gr_pth hrd)
            have := hg6 t' (gr_goes (pre := []) hrd hd er fun z _ h => (by cases h))
            rw [er]
            exact this
      · have pe : ps = [] := by
          have : ps.mergeSort (PySem.W.dataLe false lenD) = [] := by
            cases hm : ps.mergeSort (PySem.W.dataLe false lenD) with
            | nil => rfl
            | cons m ms => rw [hm] at c1; exact absurd rfl c1
          rw [this] at mp
          exact List.nil_perm.mp mp
        refine ⟨Nat.zero_le _, fun e2 ne2 => ⟨e2, [], rfl, s06.trans (s78.trans (same_upd ne2)), upd_same, .inr ⟨fun n hd => ?_, rfl⟩⟩⟩
        obtain ⟨rd, hrd⟩ := Rm.gr_ex (ls := ls) (fun n y h => af_in hok gls h) n hd
        obtain ⟨t', er⟩ := Rm.pth_cons (Rm.gr_pth hrd)
        have := hg6 t' (gr_goes (pre := []) hrd hd er fun z _ h => (by cases h))
        rw [pe] at this
        cases this
    obtain ⟨du, due, rfl, s8, edu, hrd⟩ := mid
    obtain ⟨din, dl⟩ := rd_in hok gls hrd
    have dnm : ∀ z ∈ due, IsNm z := fun z hz => hnb.lnm z (din z hz)
    refine ⟨2, rfl, by decide, by decide, ?_⟩
    refine for_range (lo := 0) (n := 2) (fun tn σ H9 => ∃ (y7 y8 y9 : Option V), σ = [some (.ref r), some (nS x), some (nS jn.1), some (nS over), some (.ref G), some (.ref so), some (.ref du), y7, y8, y9, none, none] ∧ Same H8 H9)
      ⟨_, _, _, rfl, .refl _⟩ (fun tn σ H9 htn hp => ?_) (fun σ H9 hp => ?_)
    · obtain ⟨y7, y8, y9, rfl, s9⟩ := hp
      refine ⟨.ref r, rfl, nS x, rfl, nS jn.1, rfl, nS over, rfl, r, x, over, ls, jns, jn, rfl, (hnet.same (s8.trans s9)).lj, hok, xin, hnb.jnd, jin, oin, fun H10 tp rd2 s10 ntp etp hrd2 => ?_⟩
      have e2 := rd_eq hrd2 hrd
      subst e2
      have dT := dt_lD etp (by omega : rd2.length ≤ 5000)
      have dU := dt_lD (s10 _ _ (s9 _ _ edu)) (by omega : rd2.length ≤ 5000)
      refine ⟨.ref tp, rfl, .ref tp, .ty "list", _, _, _, rfl, .ty "list", .base (.lst etp), kit_ty (a := "list") (b := "list") (r := true) (by decide +kernel), true, rfl, iteF ?_⟩
      refine ⟨.ref tp, rfl, .ref du, rfl, .ref tp, .ref du, lD rd2, rfl, dT, dU, layAll_nms dnm, noBs_nms rd2, ?_, by decide, fun H11 s11 => ⟨true, rfl, iteF ?_⟩⟩
      · show PyData.depthAll ((rd2.map SX.S).map PyData.str) + 1 < 8
        rw [depthAll_nms]
        decide
      have etp11 := s11 _ _ etp
      have edu11 := s11 _ _ (s10 _ _ (s9 _ _ edu))
      have dutp : du ≠ tp := fun e => by
        rw [← e, s9 _ _ edu] at ntp
        cases ntp
      refine ⟨.ref tp, rfl, .inl ⟨rfl, _, SqL.of etp11⟩, nS x, rfl, tp, _, _, rfl, rfl, etp11, small5000 (by rw [List.length_map]; omega), ?_⟩
      have n8tp : H8 tp = none := by
        cases e : H8 tp with
        | none => rfl
        | some o => rw [s9 _ _ e] at ntp; cases ntp
      have s12 : Same H8 (upd H11 tp (.lst (rd2.map nS ++ [nS x]))) := same_set (s9.trans (s10.trans s11)) n8tp
      have edu12 : (upd H11 tp (.lst (rd2.map nS ++ [nS x]))) du = some (.lst (rd2.map nS)) := by rw [upd_ne dutp]; exact edu11
      generalize upd H11 tp (.lst (rd2.map nS ++ [nS x])) = H12 at s12 edu12 ⊢
      refine ⟨.ref r, rfl, nS x, rfl, nS jn.1, rfl, nS over, rfl, r, x, over, ls, jns, jn, rfl, (hnet.same (s8.trans s12)).lj, hok, xin, hnb.jnd, jin, oin, fun H13 rd3 s13 hrd3 => ?_⟩
      have e3 := rd_eq hrd3 hrd
      subst e3
      have s13' := s12.trans s13
      have edu13 := s13 _ _ edu12
      refine ⟨.ref du, rfl, Nat.zero_le _, fun e ne => ?_⟩
      have se := same_upd (o := .lst []) ne
      have dU14 : Dp K (upd H13 e (.lst [])) (.ref du) (lD rd3) := dp_lD (se _ _ edu13)
      have dE14 : Dp K (upd H13 e (.lst [])) (.ref e) (lD []) := dp_lD upd_same
      have shU : SeqAt.shaped (lD rd3) = true := Bool.and_eq_true_iff.mpr ⟨layAll_nms dnm, decide_eq_true (by
        show PyData.depthAll ((rd3.map SX.S).map PyData.str) + 1 ≤ 64
        rw [depthAll_nms]
        decide)⟩
      refine ⟨_, _, dU14, dE14, shU, rfl, _, rfl, ?_⟩
      match rd3, edu13, dU14, shU, din, dnm, hrd with
      | [], edu13, dU14, shU, _, _, _ =>
        refine iteT ?_
        refine ⟨_, rfl, rfl, _, rfl, iteF ?_⟩
        have s14 := s13'.trans se
        refine ⟨.ref du, rfl, Nat.zero_le _, fun e' ne' => ?_⟩
        have se' := same_upd (o := .lst []) ne'
        refine ⟨_, _, (dp_lD (p := []) (se' _ _ (se _ _ edu13))), (dp_lD (p := []) upd_same), rfl, rfl, _, rfl, iteF ?_⟩
        exact ⟨_, _, _, rfl, s14.trans se'⟩
      | z :: zs, edu13, dU14, shU, din, dnm, _ =>
        refine iteF ?_
        have s14 := s13'.trans se
        refine ⟨.ref du, rfl, Nat.zero_le _, fun e' ne' => ?_⟩
        have se' := same_upd (o := .lst []) ne'
        have edu15 := se' _ _ (se _ _ edu13)
        refine ⟨_, _, (dp_lD (p := z :: zs) edu15), (dp_lD (p := []) upd_same), shU, rfl, _, rfl, iteT ?_⟩
        have e1 : lackV (z :: zs) = .int (((zs.length + 1 : Nat) : Int) - 1) := by
          unfold lackV
          rw [if_neg (by simp)]
          rfl
        refine ⟨_, rfl, .ref du, rfl, du, _, rfl, .inl (SqL.of edu15), _, 1, rfl, rfl, _, _, .int (((zs.length + 1 : Nat) : Int) - 1), rfl, ?_, ?_, rfl, rfl, by show 0 < 8; decide, by decide, fun H16 s16 => ⟨true, rfl, iteF ?_⟩⟩
        · rw [e1]
          exact .int _
        · rw [List.length_map]
          exact .int _
        · exact ⟨_, _, _, rfl, s14.trans (se'.trans s16)⟩
    · obtain ⟨y7, y8, y9, rfl, s9⟩ := hp
      exact q _ (s8.trans s9)
end
/-! a junction as data -/
def jD (j : Nm × List Nm) : PyData := .tuple [.str (SX.S j.1), .tuple ((j.2.map SX.S).map PyData.str)]
theorem dpAll_nmsP {K : PySem.W.Frag} {H : Hp} : ∀ zs : List Nm, DpAll K H (zs.map nS) ((zs.map SX.S).map PyData.str)
  | [] => .nil
  | z :: zs => .cons (.str _) (dpAll_nmsP zs)
theorem dpAll_jD {K : PySem.W.Frag} {H : Hp} : ∀ {ja : List Addr} {jns : List (Nm × List Nm)}, Paired (JnT H) ja jns → DpAll K H (ja.map V.ref) (jns.map jD)
  | _, _, .nil => .nil
  | _, _, .cons ⟨t, e1, e2⟩ h => .cons (.tup (SqT.of e1) (.cons (.str _) (.cons (.tup e2.sq (dpAll_nmsP _)) .nil))) (dpAll_jD h)
theorem layAll_jD : ∀ {jns : List (Nm × List Nm)}, (∀ j ∈ jns, IsNm j.1 ∧ ∀ z ∈ j.2, IsNm z) → PyData.canLayAll0 (jns.map jD) = true
  | [], _ => rfl
  | j :: jns, h => by
    show ((PyData.strOk (SX.S j.1) && (PyData.canLayAll0 ((j.2.map SX.S).map PyData.str) && true)) && PyData.canLayAll0 (jns.map jD)) = true
    rw [nm_ok (h j List.mem_cons_self).1, layAll_nms (h j List.mem_cons_self).2, layAll_jD fun y hy => h y (List.mem_cons_of_mem _ hy)]
    rfl
theorem depthAll_jD : ∀ jns : List (Nm × List Nm), PyData.depthAll (jns.map jD) ≤ 2
  | [] => Nat.zero_le _
  | j :: jns => by
    show max (max 0 (max (PyData.depthAll ((j.2.map SX.S).map PyData.str) + 1) 0) + 1) (PyData.depthAll (jns.map jD)) ≤ 2
    rw [depthAll_nms]
    exact Nat.max_le.mpr ⟨by decide, depthAll_jD jns⟩
theorem shaped_jD {jns : List (Nm × List Nm)} (h : ∀ j ∈ jns, IsNm j.1 ∧ ∀ z ∈ j.2, IsNm z) : SeqAt.shaped (.tuple (jns.map jD)) = true := Bool.and_eq_true_iff.mpr ⟨layAll_jD h, decide_eq_true (by
  show PyData.depthAll (jns.map jD) + 1 ≤ 64
  have := depthAll_jD jns
  omega)⟩
theorem NetBok.nms {ls : List Nm} {jns : List (Nm × List Nm)} (h : NetBok ls jns) : ∀ j ∈ jns, IsNm j.1 ∧ ∀ z ∈ j.2, IsNm z := fun j hj => ⟨h.jnm j hj, fun z hz => h.lnm z ((h.sub j hj).subset hz)⟩
section
variable {P : Program} {w : World} {K : PySem.W.Frag} {mg : Str → Option Value} {base : Heap} {k : Nat}
def sp_law (K : PySem.W.Frag) : Sp := fun vs H Q _ => ∃ (a : Addr) (ns : List Int), vs = [.ref a] ∧ SqL K H a (ns.map V.int) ∧ ns.length ≤ 63 ∧ ∀ H', Q (.bl true) H'
set_option maxHeartbeats 16000000 in
theorem ok_law {f : Addr} {fd : FuncData} (F : FnP K "law" s_law f fd) (T : Defs K mg) : FnOk P w K mg base CX0 10 f fd ["_law_script"] (sp_law K) := by
  have G_l_bag : FnOk P w K mg base CX0 9 _ _ _ _ := ok_l_bag T
  have G_l_take : FnOk P w K mg base CX0 9 _ _ _ _ := ok_l_take (k := 8) T
  have G_l_net : FnOk P w K mg base CX0 9 _ _ _ _ := ok_l_net (k := 6) T
  have G_l_right : FnOk P w K mg base CX0 9 _ _ _ _ := ok_l_right T
  refine F.ok sc_law (fun vs H Q E h => ?_) (fun cdv A outer s H vs Q E hr h => ?_)
  · obtain ⟨a, ns, rfl, _⟩ := h
    rfl
  · obtain ⟨a, ns, rfl, hS, hlen, q⟩ := h
    refine ⟨_, PSs.nox
(pss_cons (ps_for PassesOwn.never rfl (pi_range1 (by rfl) T.z_range (pa_cons (pe_callB (call_max2 rfl) (by rfl) T.z_max (by decide +kernel) (pa_cons (pe_int) (pa_cons (pe_callB (call_min2 rfl) (by rfl) T.z_min (by decide +kernel) (pa_cons (pe_int) (pa_cons (pe_callB (r := rLenS K) call_lenS (by rfl) T.z_len (by decide +kernel) (pa_cons (pv 0) pa_nil)) pa_nil))) pa_nil))) pa_nil)) (pg_name (i := 1) sc_law.nd rfl (.inl rfl))
      (pss_cons (ps_set (i := 2) sc_law.nd rfl (.inl rfl) (pe_call G_l_bag hr (by rfl) T.g_l_bag T.F_l_bag.kp T.b_l_bag .nil pass0 (pa_cons (pv 0) (pa_cons (pv 1) pa_nil))))
      (pss_cons (ps_set (i := 3) sc_law.nd rfl (.inl rfl) (pe_call G_l_net hr (by rfl) T.g_l_net T.F_l_net.kp T.b_l_net .nil pass0 (pa_cons (pv 2) pa_nil)))
      (pss_one (ps_for PassesOwn.never rfl (pi_range1 (by rfl) T.z_range (pa_cons (pe_op op_mul (pe_int) (pe_callTy call_int1 (by rfl) T.z_int (by decide +kernel) (pa_cons (pe_cmpR (r := rNeD K) (op_neD hr.units) (pe_ix (r := rIxT K) ix_tup (pv 3) (pe_int) (fun _ _ => rfl)) (pe_tup pa_nil) (nomark _)) pa_nil))) pa_nil)) (pg_name (i := 4) sc_law.nd rfl (.inl rfl))
        (pss_cons (ps_set (i := 5) sc_law.nd rfl (.inl rfl) (pe_ix (r := rIxT K) ix_tup (pe_ix (r := rIxT K) ix_tup (pv 3) (pe_int) (fun _ _ => rfl)) (pe_call G_l_take hr (by rfl) T.g_l_take T.F_l_take.kp T.b_l_take .nil pass0 (pa_cons (pv 2) (pa_cons (pe_callB (r := rLenS K) call_lenS (by rfl) T.z_len (by decide +kernel) (pa_cons (pe_ix (r := rIxT K) ix_tup (pv 3) (pe_int) (fun _ _ => rfl)) pa_nil)) pa_nil))) (fun _ _ => rfl)))
        (pss_cons (ps_asg (pe_ix (r := rIxT K) ix_tup (pe_ix (r := rIxT K) ix_tup (pv 3) (pe_int) (fun _ _ => rfl)) (pe_call G_l_take hr (by rfl) T.g_l_take T.F_l_take.kp T.b_l_take .nil pass0 (pa_cons (pv 2) (pa_cons (pe_callB (r := rLenS K) call_lenS (by rfl) T.z_len (by decide +kernel) (pa_cons (pe_ix (r := rIxT K) ix_tup (pv 3) (pe_int) (fun _ _ => rfl)) pa_nil)) pa_nil))) (fun _ _ => rfl)) (pg_tup rfl (pgs_cons (pg_name (i := 6) sc_law.nd rfl (.inl rfl)) (pgs_cons (pg_name (i := 7) sc_law.nd rfl (.inl rfl)) pgs_nil))))
        (pss_one (ps_if (pt_not (pt_val (pe_call G_l_right hr (by rfl) T.g_l_right T.F_l_right.kp T.b_l_right .nil pass0 (pa_cons (pv 3) (pa_cons (pv 5) (pa_cons (pv 6) (pa_cons (pe_ix (r := rIxT K) ix_tup (pv 7) (pe_call G_l_take hr (by rfl) T.g_l_take T.F_l_take.kp T.b_l_take .nil pass0 (pa_cons (pv 2) (pa_cons (pe_callB (r := rLenS K) call_lenS (by rfl) T.z_len (by decide +kernel) (pa_cons (pv 7) pa_nil)) pa_nil))) (fun _ _ => rfl)) pa_nil)))))))
          (pss_one (ps_ret (pe_bl)))
          pss_nil)))))))))
    (pss_one (ps_ret (pe_bl))))
      , ?_⟩
    have lenV : (ns.map V.int).length = ns.length := List.length_map _
    refine ⟨.ref a, rfl, a, _, rfl, .inl hS, 12, _, rfl, 3, _, rfl, _, rfl, ?_, ?_, ?_⟩
    · rw [lenV]
      split <;> split <;> omega
    · rw [lenV]
      split <;> split <;> omega
    · obtain ⟨n, en, hn⟩ : ∃ n : Nat, (if (if ((ns.map V.int).length : Int) < 12 then ((ns.map V.int).length : Int) else 12) > 3 then (if ((ns.map V.int).length : Int) < 12 then ((ns.map V.int).length : Int) else 12) else 3) = (n : Int) ∧ n ≤ 12 := by
        rw [lenV]
        refine ⟨(if (if (ns.length : Int) < 12 then (ns.length : Int) else 12) > 3 then (if (ns.length : Int) < 12 then (ns.length : Int) else 12) else 3).toNat, ?_, ?_⟩
        · split <;> split <;> omega
        · split <;> split <;> omega
      rw [en, Int.toNat_natCast]
      refine for_range (lo := 0) (n := n) (fun i σ H3 => ∃ (y1 y2 y3 y4 y5 y6 y7 : Option V), σ = [some (.ref a), y1, y2, y3, y4, y5, y6, y7] ∧ Same H H3)
        ⟨none, none, none, none, none, none, none, rfl, .refl H⟩ (fun i σ H3 hi hp => ?_) (fun σ H3 hp => ?_)
      · obtain ⟨y1, y2, y3, y4, y5, y6, y7, rfl, s3⟩ := hp
        refine ⟨.ref a, rfl, .int (0 + (i : Int)), rfl, a, ns, i, by rw [Int.zero_add]; rfl, sq_same s3 hS, by omega, fun H4 p s4 np b4 => ?_⟩
        have nHp : H p = none := s3.free np
        refine ⟨.ref p, rfl, p, rfl, b4, fun H5 r ls jns k5 b5 hnet hnb => ?_⟩
        have s5 : Same H H5 := fun c o e => k5 _ _ (ne_of_none e nHp) (s4 _ _ (s3 _ _ e))
        obtain ⟨na, nc, nb, nd, ja, er, tna, tnc, hJ⟩ := id hnet
        have jl := paired_len hJ
        have j12 := hnb.j12
        have l1 := hnb.l1
        have l8 := hnb.l8
        refine ⟨.ref r, rfl, r, [.ref na, nb, .ref nc, nd], 2, .ref nc, rfl, rfl, SqT.of er, atI_nat (j := 2) rfl, Nat.zero_le _, fun e ne => ?_⟩
        have se := same_upd (o := .tup []) ne
        have dJ : Dp K (upd H5 e (.tup [])) (.ref nc) (.tuple (jns.map jD)) := .tup (tnc.same se).sq (dpAll_jD (paired_imp hJ fun x _ j h => h.same se))
        have dE : Dp K (upd H5 e (.tup [])) (.ref e) (.tuple []) := .tup (SqT.of upd_same) .nil
        refine ⟨_, _, dJ, dE, shaped_jD hnb.nms, rfl, .inr ⟨_, rfl, 3, _, rfl, rfl, .inl ⟨by omega, by omega⟩, ?_⟩⟩
        obtain ⟨M, eM, M3⟩ : ∃ M : Nat, (3 : Int) * (if (!PyData.eqv (.tuple (jns.map jD)) (.tuple [])) = true then 1 else 0) = (M : Int) ∧ (0 < M → 1 ≤ jns.length) := by
          cases hj : jns with
          | nil => exact ⟨0, rfl, fun z => absurd z (Nat.lt_irrefl _)⟩
          | cons j r => exact ⟨3, rfl, fun _ => by rw [List.length_cons]; omega⟩
        have M4 : M ≤ 3 := by
          by_cases c : (!PyData.eqv (.tuple (jns.map jD)) (.tuple [])) = true
          · rw [if_pos c] at eM
            omega
          · rw [if_neg c] at eM
            omega
        refine ⟨(M : Int), congrArg (fun z => [V.int z]) eM, by omega, by omega, ?_⟩
        rw [Int.toNat_natCast]
        have b6 := b5.keep se
        have net6 := hnet.same se
        have s6 := s5.trans se
        generalize upd H5 e (.tup []) = H6 at b6 net6 s6 ⊢
        refine for_range (lo := 0) (n := M) (fun j σ H7 => ∃ (y4 y5 y6 y7 : Option V), σ = [some (.ref a), some (.int (0 + (i : Int))), some (.ref p), some (.ref r), y4, y5, y6, y7] ∧ Same H H7 ∧ Bag H7 p ∧ NB H7 r ls jns)
          ⟨_, _, _, _, rfl, s6, b6, net6⟩ (fun j σ H7 hj hp => ?_) (fun σ H7 hp => ?_)
        · obtain ⟨y4, y5, y6, y7, rfl, s7, b7, net7⟩ := hp
          have j1 := M3 (by omega)
          obtain ⟨na, nc, nb, nd, ja, er, tna, tnc, hJ⟩ := id net7
          have jl := paired_len hJ
          -- line
          refine ⟨.ref r, rfl, r, [.ref na, nb, .ref nc, nd], 0, .ref na, rfl, rfl, SqT.of er, atI_nat (j := 0) rfl, .ref p, rfl, .ref r, rfl, r, [.ref na, nb, .ref nc, nd], 0, .ref na, rfl, rfl, SqT.of er, atI_nat (j := 0) rfl, na, _, rfl, .inr tna.sq, p, (ls.length : Int), by rw [List.length_map]; rfl, b7, by omega, by omega, fun H8 d k8 b8 d0 d1 => ?_⟩
          obtain ⟨d, rfl⟩ : ∃ xn : Nat, d = (xn : Int) := ⟨d.toNat, by omega⟩
          have hd : d < ls.length := by omega
          refine ⟨na, _, _, nS ls[d], rfl, rfl, (tna.keep k8 b7).sq, atI_nat (by rw [List.getElem?_map, List.getElem?_eq_getElem hd]; rfl), ?_⟩
          have t8 : TK H7 H8 := .keep k8 b7
          have tnc8 := tnc.keep k8 b7
          -- junction, lines
          refine ⟨.ref r, rfl, r, [.ref na, nb, .ref nc, nd], 2, .ref nc, rfl, rfl, SqT.of (t8 _ _ er), atI_nat (j := 2) rfl, .ref p, rfl, .ref r, rfl, r, [.ref na, nb, .ref nc, nd], 2, .ref nc, rfl, rfl, SqT.of (t8 _ _ er), atI_nat (j := 2) rfl, nc, _, rfl, .inr tnc8.sq, p, (ja.length : Int), by rw [List.length_map]; rfl, b8, by omega, by omega, fun H9 d' k9 b9 d0' d1' => ?_⟩
          obtain ⟨d', rfl⟩ : ∃ xn : Nat, d' = (xn : Int) := ⟨d'.toNat, by omega⟩
          have hd' : d' < ja.length := by omega
          refine ⟨nc, _, _, .ref ja[d'], rfl, rfl, (tnc8.keep k9 b8).sq, atI_nat (by rw [List.getElem?_map, List.getElem?_eq_getElem hd']; rfl), ?_⟩
          obtain ⟨jn, ejn, hjn⟩ := paired_get hJ (List.getElem?_eq_getElem hd')
          have jin : jn ∈ jns := List.mem_of_getElem? ejn
          obtain ⟨jt, ejt1, ejt2⟩ := (hjn.keep k8 b7).keep k9 b8
          refine ⟨ja[d'], _, rfl, SqT.of ejt1, rfl, _, _, rfl, _, [], rfl, rfl, ?_⟩
          have j2 := hnb.two jn jin
          have j8 := hnb.lj.j9 jn jin
          -- right
          refine ⟨.ref r, rfl, nS ls[d], rfl, nS jn.1, rfl, .ref jt, rfl, .ref p, rfl, .ref jt, rfl, jt, _, rfl, .inr ejt2.sq, p, (jn.2.length : Int), by rw [List.length_map]; rfl, b9, by omega, by omega, fun H10 d2 k10 b10 d20 d21 => ?_⟩
          obtain ⟨d2, rfl⟩ : ∃ xn : Nat, d2 = (xn : Int) := ⟨d2.toNat, by omega⟩
          have hd2 : d2 < jn.2.length := by omega
          have net10 := ((net7.keep k8 b7).keep k9 b8).keep k10 b9
          refine ⟨jt, _, _, nS jn.2[d2], rfl, rfl, (ejt2.keep k10 b9).sq, atI_nat (by rw [List.getElem?_map, List.getElem?_eq_getElem hd2]; rfl), ?_⟩
          refine ⟨r, ls[d], jn.2[d2], ls, jns, jn, rfl, net10, hnb, List.getElem_mem hd, jin, List.getElem_mem hd2, fun H11 s11 => ⟨true, rfl, iteF ?_⟩⟩
          have s10 : Same H H10 := fun c o e => k10 _ _ (ne_of_none e nHp) (k9 _ _ (ne_of_none e nHp) (k8 _ _ (ne_of_none e nHp) (s7 _ _ e)))
          exact ⟨_, _, _, _, rfl, s10.trans s11, b10.keep s11, net10.same s11⟩
        · obtain ⟨y4, y5, y6, y7, rfl, s7, b7, net7⟩ := hp
          exact ⟨_, _, _, _, _, _, _, rfl, s7⟩
      · obtain ⟨y1, y2, y3, y4, y5, y6, y7, rfl, s3⟩ := hp
        exact q _
end
end Th
namespace Th
open PySem PySem.Spec PyProof.Rows L2
def dd_road_to_any : He.DefD := ⟨("road_to_any", none), "road_to_any", "road_to_any", defArgs s_road_to_any, defBody s_road_to_any, defScope s_road_to_any, [], []⟩
def dd_steps_to : He.DefD := ⟨("steps_to", none), "steps_to", "steps_to", defArgs s_steps_to, defBody s_steps_to, defScope s_steps_to, [], []⟩
def dd_lines_beside : He.DefD := ⟨("lines_beside", none), "lines_beside", "lines_beside", defArgs s_lines_beside, defBody s_lines_beside, defScope s_lines_beside, [], []⟩
def dd_lines_joined : He.DefD := ⟨("lines_joined", none), "lines_joined", "lines_joined", defArgs s_lines_joined, defBody s_lines_joined, defScope s_lines_joined, [], []⟩
def dd_lacking : He.DefD := ⟨("lacking", none), "lacking", "lacking", defArgs s_lacking, defBody s_lacking, defScope s_lacking, [], []⟩
def dd_gap_road : He.DefD := ⟨("gap_road", none), "gap_road", "gap_road", defArgs s_gap_road, defBody s_gap_road, defScope s_gap_road, [], []⟩
def dd_lines_from : He.DefD := ⟨("lines_from", none), "lines_from", "lines_from", defArgs s_lines_from, defBody s_lines_from, defScope s_lines_from, [], []⟩
def dd_l_bag : He.DefD := ⟨("_law_bag", none), "_law_bag", "_law_bag", defArgs s_l_bag, defBody s_l_bag, defScope s_l_bag, [], []⟩
def dd_l_take : He.DefD := ⟨("_law_take", none), "_law_take", "_law_take", defArgs s_l_take, defBody s_l_take, defScope s_l_take, [], []⟩
def dd_l_like : He.DefD := ⟨("_law_like", none), "_law_like", "_law_like", defArgs s_l_like, defBody s_l_like, defScope s_l_like, [], []⟩
def dd_l_names : He.DefD := ⟨("_law_names", none), "_law_names", "_law_names", defArgs s_l_names, defBody s_l_names, defScope s_l_names, [], []⟩
def dd_l_net : He.DefD := ⟨("_law_net", none), "_law_net", "_law_net", defArgs s_l_net, defBody s_l_net, defScope s_l_net, [], []⟩
def dd_l_meet : He.DefD := ⟨("_law_meet", none), "_law_meet", "_law_meet", defArgs s_l_meet, defBody s_l_meet, defScope s_l_meet, [], []⟩
def dd_l_beside : He.DefD := ⟨("_law_beside", none), "_law_beside", "_law_beside", defArgs s_l_beside, defBody s_l_beside, defScope s_l_beside, [], []⟩
def dd_l_all_roads : He.DefD := ⟨("_law_all_roads", none), "_law_all_roads", "_law_all_roads", defArgs s_l_all_roads, defBody s_l_all_roads, defScope s_l_all_roads, [], []⟩
def dd_l_right : He.DefD := ⟨("_law_right", none), "_law_right", "_law_right", defArgs s_l_right, defBody s_l_right, defScope s_l_right, [], []⟩
def dd_law : He.DefD := ⟨("law", none), "law", "law", defArgs s_law, defBody s_law, defScope s_law, [], []⟩
def fn : List He.DefD := [dd_road_to_any, dd_steps_to, dd_lines_beside, dd_lines_joined, dd_lacking, dd_gap_road, dd_lines_from, dd_l_bag, dd_l_take, dd_l_like, dd_l_names, dd_l_net, dd_l_meet, dd_l_beside, dd_l_all_roads, dd_l_right, dd_law]
def fa : List He.Fa := [.glo "road_to_any", .glo "steps_to", .glo "lines_beside", .glo "lines_joined", .glo "lacking", .glo "gap_road", .glo "lines_from", .glo "_law_bag", .glo "_law_take", .glo "_law_like", .glo "_law_names", .glo "_law_net", .glo "_law_meet", .glo "_law_beside", .glo "_law_all_roads", .glo "_law_right", .glo "law", .free "abs", .free "all", .free "any", .free "bool", .free "dict", .free "int", .free "isinstance", .free "len", .free "list", .free "max", .free "min", .free "range", .free "sorted", .free "tuple", .free "zip"]
abbrev R : PySem.W.OpenRow := PySem.W.OpenLaw.row PySem.Challenge.rw_throughlines_k31_lacking_and_roads
abbrev hk : PySem.W.Hook := He.hookD 4 fa fn
def ob (s : PySem.W.SharedT) : He.AlD := He.obsDG 4 fa fn (HandSHeadRun.getT s)
theorem ob_eq (s : PySem.W.SharedT) : ob s = hk.obs s.abs := He.obsDG_eq (HandSHeadRun.getT_eq s)
def loose : List PySem.Str := ["road_to_any", "steps_to", "lines_beside", "lines_joined", "lacking", "gap_road", "lines_from", "_law_bag", "_law_take", "_law_like", "_law_names", "_law_net", "_law_meet", "_law_beside", "_law_all_roads", "_law_right"]
set_option maxHeartbeats 0 in
theorem run (w : World) : HandSHeadRun.RunEq R (PySem.W.view R.prog [19]) hk ob 2000 loose w := by
  intro os
  kernel_rfl
theorem facts {P : Program} {w : World} {K : PySem.W.Frag} {h : Heap} {mg : Str → Option Value} {f : Addr} (X : K.In h) (G : h.Ns mainGlobals mg) (hfa : mg ("law" : Str) = some (.ref f)) (c : He.SaysD fa fn K) :
    ∃ fd : FuncData, (∀ (s : Shared) (v : Value), BindsTo s fd ⟨[v], []⟩ [("_law_script", v)]) ∧ ∀ base : Heap, K.In base → base.Ns mainGlobals mg → FnOk P w K mg base CX0 10 f fd ["_law_script"] (sp_law K) := by
  obtain ⟨d_road_to_any, F_road_to_any⟩ := c.def_ 0 (d := dd_road_to_any) rfl
  have b_road_to_any : Binds K d_road_to_any ["net", "line", "fars"] [] := FunD.bindsN F_road_to_any fun _ _ _ _ _ _ us hl => match us, hl with | [_, _, _], _ => rfl
  obtain ⟨d_steps_to, F_steps_to⟩ := c.def_ 1 (d := dd_steps_to) rfl
  have b_steps_to : Binds K d_steps_to ["beside", "fars"] [] := FunD.bindsN F_steps_to fun _ _ _ _ _ _ us hl => match us, hl with | [_, _], _ => rfl
  obtain ⟨d_lines_beside, F_lines_beside⟩ := c.def_ 2 (d := dd_lines_beside) rfl
  have b_lines_beside : Binds K d_lines_beside ["net"] [] := FunD.bindsN F_lines_beside fun _ _ _ _ _ _ us hl => match us, hl with | [_], _ => rfl
  obtain ⟨d_lines_joined, F_lines_joined⟩ := c.def_ 3 (d := dd_lines_joined) rfl
  have b_lines_joined : Binds K d_lines_joined ["net", "line"] [] := FunD.bindsN F_lines_joined fun _ _ _ _ _ _ us hl => match us, hl with | [_, _], _ => rfl
  obtain ⟨d_lacking, F_lacking⟩ := c.def_ 4 (d := dd_lacking) rfl
  have b_lacking : Binds K d_lacking ["net", "line", "junction", "over"] [] := FunD.bindsN F_lacking fun _ _ _ _ _ _ us hl => match us, hl with | [_, _, _, _], _ => rfl
  obtain ⟨d_gap_road, F_gap_road⟩ := c.def_ 5 (d := dd_gap_road) rfl
  have b_gap_road : Binds K d_gap_road ["net", "line", "junction", "over"] [] := FunD.bindsN F_gap_road fun _ _ _ _ _ _ us hl => match us, hl with | [_, _, _, _], _ => rfl
  obtain ⟨d_lines_from, F_lines_from⟩ := c.def_ 6 (d := dd_lines_from) rfl
  have b_lines_from : Binds K d_lines_from ["net", "junction", "over"] [] := FunD.bindsN F_lines_from fun _ _ _ _ _ _ us hl => match us, hl with | [_, _, _], _ => rfl
  obtain ⟨d_l_bag, F_l_bag⟩ := c.def_ 7 (d := dd_l_bag) rfl
  have b_l_bag : Binds K d_l_bag ["_law_script", "_law_at"] [] := FunD.bindsN F_l_bag fun _ _ _ _ _ _ us hl => match us, hl with | [_, _], _ => rfl
  obtain ⟨d_l_take, F_l_take⟩ := c.def_ 8 (d := dd_l_take) rfl
  have b_l_take : Binds K d_l_take ["_law_bag_here", "_law_many"] [] := FunD.bindsN F_l_take fun _ _ _ _ _ _ us hl => match us, hl with | [_, _], _ => rfl
  obtain ⟨d_l_like, F_l_like⟩ := c.def_ 9 (d := dd_l_like) rfl
  have b_l_like : Binds K d_l_like ["_law_told", "_law_due"] [] := FunD.bindsN F_l_like fun _ _ _ _ _ _ us hl => match us, hl with | [_, _], _ => rfl
  obtain ⟨d_l_names, F_l_names⟩ := c.def_ 10 (d := dd_l_names) rfl
  have b_l_names : Binds K d_l_names ["_law_bag_here", "_law_many"] [] := FunD.bindsN F_l_names fun _ _ _ _ _ _ us hl => match us, hl with | [_, _], _ => rfl
  obtain ⟨d_l_net, F_l_net⟩ := c.def_ 11 (d := dd_l_net) rfl
  have b_l_net : Binds K d_l_net ["_law_bag_here"] [] := FunD.bindsN F_l_net fun _ _ _ _ _ _ us hl => match us, hl with | [_], _ => rfl
  obtain ⟨d_l_meet, F_l_meet⟩ := c.def_ 12 (d := dd_l_meet) rfl
  have b_l_meet : Binds K d_l_meet ["_law_net_here", "_law_one", "_law_other"] [] := FunD.bindsN F_l_meet fun _ _ _ _ _ _ us hl => match us, hl with | [_, _, _], _ => rfl
  obtain ⟨d_l_beside, F_l_beside⟩ := c.def_ 13 (d := dd_l_beside) rfl
  have b_l_beside : Binds K d_l_beside ["_law_net_here"] [] := FunD.bindsN F_l_beside fun _ _ _ _ _ _ us hl => match us, hl with | [_], _ => rfl
  obtain ⟨d_l_all_roads, F_l_all_roads⟩ := c.def_ 14 (d := dd_l_all_roads) rfl
  have b_l_all_roads : Binds K d_l_all_roads ["_law_beside_here", "_law_road", "_law_goals"] [] := FunD.bindsN F_l_all_roads fun _ _ _ _ _ _ us hl => match us, hl with | [_, _, _], _ => rfl
  obtain ⟨d_l_right, F_l_right⟩ := c.def_ 15 (d := dd_l_right) rfl
  have b_l_right : Binds K d_l_right ["_law_net_here", "_law_line", "_law_junction", "_law_over"] [] := FunD.bindsN F_l_right fun _ _ _ _ _ _ us hl => match us, hl with | [_, _, _, _], _ => rfl
  obtain ⟨d_law, F_law⟩ := c.def_ 16 (d := dd_law) rfl
  have T : Defs K mg := {
    a_road_to_any := _,
    d_road_to_any := d_road_to_any,
    F_road_to_any := F_road_to_any,
    g_road_to_any := He.glo_ok X G (c.fact 0 (f := .glo "road_to_any") rfl),
    b_road_to_any := b_road_to_any,
    a_steps_to := _,
    d_steps_to := d_steps_to,
    F_steps_to := F_steps_to,
    g_steps_to := He.glo_ok X G (c.fact 1 (f := .glo "steps_to") rfl),
    b_steps_to := b_steps_to,
    a_lines_beside := _,
    d_lines_beside := d_lines_beside,
    F_lines_beside := F_lines_beside,
    g_lines_beside := He.glo_ok X G (c.fact 2 (f := .glo "lines_beside") rfl),
    b_lines_beside := b_lines_beside,
    a_lines_joined := _,
    d_lines_joined := d_lines_joined,
    F_lines_joined := F_lines_joined,
    g_lines_joined := He.glo_ok X G (c.fact 3 (f := .glo "lines_joined") rfl),
    b_lines_joined := b_lines_joined,
    a_lacking := _,
    d_lacking := d_lacking,
    F_lacking := F_lacking,
    g_lacking := He.glo_ok X G (c.fact 4 (f := .glo "lacking") rfl),
    b_lacking := b_lacking,
    a_gap_road := _,
    d_gap_road := d_gap_road,
    F_gap_road := F_gap_road,
    g_gap_road := He.glo_ok X G (c.fact 5 (f := .glo "gap_road") rfl),
    b_gap_road := b_gap_road,
    a_lines_from := _,
    d_lines_from := d_lines_from,
    F_lines_from := F_lines_from,
    g_lines_from := He.glo_ok X G (c.fact 6 (f := .glo "lines_from") rfl),
    b_lines_from := b_lines_from,
    a_l_bag := _,
    d_l_bag := d_l_bag,
    F_l_bag := F_l_bag,
    g_l_bag := He.glo_ok X G (c.fact 7 (f := .glo "_law_bag") rfl),
    b_l_bag := b_l_bag,
    a_l_take := _,
    d_l_take := d_l_take,
    F_l_take := F_l_take,
    g_l_take := He.glo_ok X G (c.fact 8 (f := .glo "_law_take") rfl),
    b_l_take := b_l_take,
    a_l_like := _,
    d_l_like := d_l_like,
    F_l_like := F_l_like,
    g_l_like := He.glo_ok X G (c.fact 9 (f := .glo "_law_like") rfl),
    b_l_like := b_l_like,
    a_l_names := _,
    d_l_names := d_l_names,
    F_l_names := F_l_names,
    g_l_names := He.glo_ok X G (c.fact 10 (f := .glo "_law_names") rfl),
    b_l_names := b_l_names,
    a_l_net := _,
    d_l_net := d_l_net,
    F_l_net := F_l_net,
    g_l_net := He.glo_ok X G (c.fact 11 (f := .glo "_law_net") rfl),
    b_l_net := b_l_net,
    a_l_meet := _,
    d_l_meet := d_l_meet,
    F_l_meet := F_l_meet,
    g_l_meet := He.glo_ok X G (c.fact 12 (f := .glo "_law_meet") rfl),
    b_l_meet := b_l_meet,
    a_l_beside := _,
    d_l_beside := d_l_beside,
    F_l_beside := F_l_beside,
    g_l_beside := He.glo_ok X G (c.fact 13 (f := .glo "_law_beside") rfl),
    b_l_beside := b_l_beside,
    a_l_all_roads := _,
    d_l_all_roads := d_l_all_roads,
    F_l_all_roads := F_l_all_roads,
    g_l_all_roads := He.glo_ok X G (c.fact 14 (f := .glo "_law_all_roads") rfl),
    b_l_all_roads := b_l_all_roads,
    a_l_right := _,
    d_l_right := d_l_right,
    F_l_right := F_l_right,
    g_l_right := He.glo_ok X G (c.fact 15 (f := .glo "_law_right") rfl),
    b_l_right := b_l_right,
    z_abs := He.free_ok X G (c.fact 17 (f := .free "abs") rfl),
    z_all := He.free_ok X G (c.fact 18 (f := .free "all") rfl),
    z_any := He.free_ok X G (c.fact 19 (f := .free "any") rfl),
    z_bool := He.free_ok X G (c.fact 20 (f := .free "bool") rfl),
    z_dict := He.free_ok X G (c.fact 21 (f := .free "dict") rfl),
    z_int := He.free_ok X G (c.fact 22 (f := .free "int") rfl),
    z_isinstance := He.free_ok X G (c.fact 23 (f := .free "isinstance") rfl),
    z_len := He.free_ok X G (c.fact 24 (f := .free "len") rfl),
    z_list := He.free_ok X G (c.fact 25 (f := .free "list") rfl),
    z_max := He.free_ok X G (c.fact 26 (f := .free "max") rfl),
    z_min := He.free_ok X G (c.fact 27 (f := .free "min") rfl),
    z_range := He.free_ok X G (c.fact 28 (f := .free "range") rfl),
    z_sorted := He.free_ok X G (c.fact 29 (f := .free "sorted") rfl),
    z_tuple := He.free_ok X G (c.fact 30 (f := .free "tuple") rfl),
    z_zip := He.free_ok X G (c.fact 31 (f := .free "zip") rfl) }
  have e := hfa.symm.trans (He.glo_ok X G (c.fact 16 (f := .glo "law") rfl))
  cases e
  have b := FunD.bindsA (ps := ["_law_script"]) F_law fun _ _ _ _ _ _ us hl => match us, hl with | [_], _ => rfl
  exact ⟨d_law, fun s v => b s [v] rfl, fun base _ _ => ok_law F_law T⟩
end Th
open PySem PySem.W PySem.Calls PyProof.Rows
set_option maxHeartbeats 0 in
theorem PySem.Challenge.cw_throughlines_k31_lacking_and_roads_holds : PySem.Challenge.rw_throughlines_k31_lacking_and_roads.Holds := by
  w_on; o_law
  refine HandSHeadRun.head_any (r := OpenLaw.row PySem.Challenge.rw_throughlines_k31_lacking_and_roads) (q := view (OpenLaw.row PySem.Challenge.rw_throughlines_k31_lacking_and_roads).prog [19]) (H := Th.hk) (ob := Th.ob) (M := 2000) (loose := Th.loose) (d := HandSHeadRun.topDef (OpenLaw.row PySem.Challenge.rw_throughlines_k31_lacking_and_roads).prog 19) (kwd := []) Th.ob_eq
    (by kernel_rfl) (fun s => by kernel_rfl) Th.run (by kernel_rfl) (by kernel_rfl) (by kernel_rfl) (by rfl) (by first | assumption | decide +kernel) (by decide +kernel) ⟨rfl, rfl, rfl, rfl, rfl, by decide +kernel⟩ ?hw ?hc
  case hw => w_witness2
  case hc =>
    refine L2.walk_ofE (l := PySem.Challenge.rw_throughlines_k31_lacking_and_roads) (n := 63) (k := 10) (x := "_law_script") (CX := L2.CX0) rfl (by decide) (by kernel_rfl) ⟨rfl, by decide, by decide⟩ ?F (fun _ _ _ _ z => z)
    intro w mg fa h Y G hmg0
    obtain ⟨K, KX, c⟩ := Y
    have hmg : mg ("law" : PySem.Str) = some (.ref fa) := by
      have e : (HandSHeadRun.topDef (OpenLaw.row PySem.Challenge.rw_throughlines_k31_lacking_and_roads).prog 19).name = ("law" : PySem.Str) := by kernel_rfl
      rw [← e]
      exact hmg0
    obtain ⟨fd, hb, hF⟩ := Th.facts (P := (PySem.Challenge.rw_throughlines_k31_lacking_and_roads).prog) (w := w) KX G hmg c
    exact ⟨K, fd, Th.sp_law K, KX, hb, fun H a ns hl _ hS => ⟨a, ns, rfl, hS, hl, fun _ => rfl⟩, hF⟩
