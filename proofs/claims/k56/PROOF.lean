import PyProof.Rows.All
import Wide.All
import OpenK.AllK
import Wide.FinOn
import KE.KStateDown
import Lean
import HandS.ForMost
import HandS.More
import HandS.WordsExc
import HandS.Defaults
import HandS.IsInst
import HandS.Zip
import HandS.Walk
import HandS.Wide
import HandS.Flow
import HandS.Evl
import KE.DatumOrd
import KE.DataAny
import HandS.Codes
import HandS.TupAny
import KE.SortKeyHeap
import KE.SortData
import KE.KLam
import HandS.Conv
import HandS.Lambda
import HandS.EndTab
import HandS.HeadWalk
import HandS.HeadHook4
import KE.DataMinKey
import KE.KExcSuper
import HandS.ExcInit
import HandS.ExcField
import HandS.ExcSuper
import HandS.FStr
import HandS.HeadHook1
import KE.KExcIs
import HandS.ExcIs
import HandS.TryMany
import HandS.WideBits
import HandS.Style
import HandS.Head0
import HandS.Head1
import HandS.Head2
import HandS.HeadEnd
import HandS.HeadHook2
import PySem.Challenge.RW_throughlines_k56_payments_looked_at
set_option Elab.async false
set_option linter.all false
set_option maxRecDepth 100000
set_option maxHeartbeats 4000000
namespace Th
open PySem PySem.Spec PyProof.Rows L2
/-! heaps -/
theorem same_upd {H : Hp} {p : Addr} {o : HO} (h : H p = none) : Same H (upd H p o) := fun b x e => by
  rw [upd_ne (ne_of_none e h)]
  exact e
/-- all but p stays -/
def Keep (p : Addr) (H H' : Hp) : Prop := ∀ b o, b ≠ p → H b = some o → H' b = some o
theorem Keep.refl (p : Addr) (H : Hp) : Keep p H H := fun _ _ _ h => h
theorem Keep.trans {p : Addr} {H H1 H2 : Hp} (a : Keep p H H1) (b : Keep p H1 H2) : Keep p H H2 := fun c o n h => b c o n (a c o n h)
theorem Keep.of {p : Addr} {H H1 : Hp} (a : Same H H1) : Keep p H H1 := fun c o _ h => a c o h
theorem Keep.upd {p : Addr} {H : Hp} {o : HO} : Keep p H (upd H p o) := fun c o n h => by rw [upd_ne n]; exact h
/-- the bag of draws at p -/
def Bag (H : Hp) (p : Addr) : Prop := ∃ g r : Int, H p = some (.lst [.int g, .int r]) ∧ 0 ≤ g ∧ 0 ≤ r ∧ r < 2147483648
theorem Bag.keep {H H' : Hp} {p : Addr} (b : Bag H p) (s : Same H H') : Bag H' p := by
  obtain ⟨g, r, e, h⟩ := b
  exact ⟨g, r, s _ _ e, h⟩
theorem Bag.some {H : Hp} {p : Addr} (b : Bag H p) : ∃ o, H p = Option.some o := by
  obtain ⟨g, r, e, _⟩ := b
  exact ⟨_, e⟩
theorem Bag.ne {H : Hp} {p q : Addr} (b : Bag H p) (h : H q = none) : q ≠ p := by
  obtain ⟨g, r, e, _⟩ := b
  exact (ne_of_none e h).symm
theorem p8 : (0 : Int) < 8 := by decide
theorem pA : (0 : Int) < 2147483647 := by decide
theorem pB : (0 : Int) < 2147483629 := by decide
theorem primes_at (i : Nat) : ∃ pr : Int, atI [V.int 2147483629, .int 2147483587, .int 2147483579, .int 2147483563, .int 2147483549, .int 2147483543, .int 2147483497, .int 2147483489] ((i : Int) % 8) = some (.int pr) ∧ 0 < pr ∧ pr < 2147483648 := by
  have e : ((i : Int) % 8) = ((i % 8 : Nat) : Int) := by omega
  rw [e]
  have h : i % 8 < 8 := Nat.mod_lt _ (by decide)
  generalize i % 8 = j at h
  have c : j = 0 ∨ j = 1 ∨ j = 2 ∨ j = 3 ∨ j = 4 ∨ j = 5 ∨ j = 6 ∨ j = 7 := by omega
  rcases c with rfl | rfl | rfl | rfl | rfl | rfl | rfl | rfl
  all_goals exact ⟨_, atI_nat rfl, by decide, by decide⟩
def sp_bag (K : PySem.W.Frag) : Sp := fun vs H Q _ => ∃ (a : Addr) (ns : List Int) (i : Nat), vs = [.ref a, .int i] ∧ SqL K H a (ns.map V.int) ∧ i < 1000000 ∧ ∀ H' p, Same H H' → H p = none → Bag H' p → Q (.ref p) H'
def sp_take : Sp := fun vs H Q _ => ∃ (p : Addr) (m : Int), vs = [.ref p, .int m] ∧ Bag H p ∧ 0 < m ∧ m < 1073741824 ∧ ∀ H' d, Keep p H H' → Bag H' p → 0 ≤ d → d < m → Q (.int d) H'
/-! data that is tracked, at addresses of which S holds -/
mutual
inductive Dt (S : Addr → Prop) (H : Hp) : V → PyData → Prop
  | non : Dt S H .non .none
  | bl (b : Bool) : Dt S H (.bl b) (.bool b)
  | int (i : Int) : Dt S H (.int i) (.int i)
  | str (x : Str) : Dt S H (.str x) (.str x)
  | lst {a : Addr} {xs : List V} {ds : List PyData} : S a → H a = some (.lst xs) → xs.length ≤ 5000 → DtAll S H xs ds → Dt S H (.ref a) (.list ds)
  | tup {a : Addr} {xs : List V} {ds : List PyData} : S a → H a = some (.tup xs) → xs.length ≤ 5000 → DtAll S H xs ds → Dt S H (.ref a) (.tuple ds)
inductive DtAll (S : Addr → Prop) (H : Hp) : List V → List PyData → Prop
  | nil : DtAll S H [] []
  | cons {v : V} {vs : List V} {d : PyData} {ds : List PyData} : Dt S H v d → DtAll S H vs ds → DtAll S H (v :: vs) (d :: ds)
end
mutual
theorem Dt.mono {S S' : Addr → Prop} {H H' : Hp} (hS : ∀ a, S a → S' a) (hh : ∀ a o, S a → H a = some o → H' a = some o) : ∀ {v : V} {d : PyData}, Dt S H v d → Dt S' H' v d
  | _, _, .non => .non
  | _, _, .bl b => .bl b
  | _, _, .int b => .int b
  | _, _, .str b => .str b
  | _, _, .lst s e l r => .lst (hS _ s) (hh _ _ s e) l (DtAll.mono hS hh r)
  | _, _, .tup s e l r => .tup (hS _ s) (hh _ _ s e) l (DtAll.mono hS hh r)
theorem DtAll.mono {S S' : Addr → Prop} {H H' : Hp} (hS : ∀ a, S a → S' a) (hh : ∀ a o, S a → H a = some o → H' a = some o) : ∀ {v : List V} {d : List PyData}, DtAll S H v d → DtAll S' H' v d
  | _, _, .nil => .nil
  | _, _, .cons a r => .cons (Dt.mono hS hh a) (DtAll.mono hS hh r)
end
mutual
theorem Dt.dp {K : PySem.W.Frag} {S : Addr → Prop} {H : Hp} : ∀ {v : V} {d : PyData}, Dt S H v d → Dp K H v d
  | _, _, .non => .non
  | _, _, .bl b => .bl b
  | _, _, .int b => .int b
  | _, _, .str b => .str b
  | _, _, .lst s e l r => .lst (SqL.of e) (DtAll.dp r)
  | _, _, .tup s e l r => .tup (SqT.of e) (DtAll.dp r)
theorem DtAll.dp {K : PySem.W.Frag} {S : Addr → Prop} {H : Hp} : ∀ {v : List V} {d : List PyData}, DtAll S H v d → DpAll K H v d
  | _, _, .nil => .nil
  | _, _, .cons a r => .cons (Dt.dp a) (DtAll.dp r)
end
abbrev SA : Addr → Prop := fun _ => True
theorem Dt.same {H H' : Hp} {v : V} {d : PyData} (s : Same H H') (h : Dt SA H v d) : Dt SA H' v d := h.mono (fun _ x => x) fun a o _ e => s a o e
theorem DtAll.same {H H' : Hp} {v : List V} {d : List PyData} (s : Same H H') (h : DtAll SA H v d) : DtAll SA H' v d := h.mono (fun _ x => x) fun a o _ e => s a o e
theorem DtAll.len {S : Addr → Prop} {H : Hp} : ∀ {v : List V} {d : List PyData}, DtAll S H v d → v.length = d.length
  | _, _, .nil => rfl
  | _, _, .cons _ r => congrArg Nat.succ r.len
theorem DtAll.get {S : Addr → Prop} {H : Hp} : ∀ {v : List V} {d : List PyData} {i : Nat} {x : V}, DtAll S H v d → v[i]? = some x → ∃ e, d[i]? = some e ∧ Dt S H x e
  | _, _, _, _, .nil, h => by simp at h
  | _, _, 0, _, .cons a r, h => by
    have e := Option.some.inj h
    subst e
    exact ⟨_, rfl, a⟩
  | _, _, i + 1, _, .cons a r, h => r.get (i := i) h
/-! depth, what may be laid -/
theorem depth_mem : ∀ {ds : List PyData} {i : Nat} {d : PyData}, ds[i]? = some d → PyData.depth d ≤ PyData.depthAll ds
  | [], _, _, h => by simp at h
  | x :: xs, 0, d, h => by
    have e := Option.some.inj h
    subst e
    rw [PyData.depthAll]
    exact Nat.le_max_left _ _
  | x :: xs, i + 1, d, h => by
    rw [PyData.depthAll]
    exact Nat.le_trans (depth_mem (i := i) h) (Nat.le_max_right _ _)
theorem lay_mem : ∀ {ds : List PyData} {i : Nat} {d : PyData}, PyData.canLayAll0 ds = true → ds[i]? = some d → PyData.canLay0 d = true
  | [], _, _, _, h => by simp at h
  | x :: xs, 0, d, c, h => by
    have e := Option.some.inj h
    subst e
    rw [PyData.canLayAll0, Bool.and_eq_true_iff] at c
    exact c.1
  | x :: xs, i + 1, d, c, h => by
    rw [PyData.canLayAll0, Bool.and_eq_true_iff] at c
    exact lay_mem (i := i) c.2 h
/-! the types -/
def tyN : PyData → String
  | .none => "NoneType"
  | .bool _ => "bool"
  | .int _ => "int"
  | .str _ => "str"
  | .list _ => "list"
  | .tuple _ => "tuple"
  | .dict _ => "dict"
theorem Dt.ty {K : PySem.W.Frag} {S : Addr → Prop} {H : Hp} {v : V} {d : PyData} (h : Dt S H v d) : TyX K H v (.type (tyN d)) := by
  cases h with
  | non => exact .base .non
  | bl b => exact .base (.bl b)
  | int b => exact .base (.int b)
  | str b => exact .base (.str b)
  | lst s e l r => exact .base (.lst e)
  | tup s e l r => exact .base (.tup e)
def isB : PyData → Bool
  | .bool _ => true
  | _ => false
def isSeq : PyData → Bool
  | .list _ => true
  | .tuple _ => true
  | _ => false
theorem kit_bool {K : PySem.W.Frag} {S : Addr → Prop} {H : Hp} {v : V} {d : PyData} (h : Dt S H v d) : PySem.W.kitOne K (.type (tyN d)) (.type "bool") = some (isB d) := by
  cases h with
  | non => exact kit_ty (a := "NoneType") (b := "bool") (r := false) (by decide +kernel)
  | bl b => exact kit_ty (a := "bool") (b := "bool") (r := true) (by decide +kernel)
  | int b => exact kit_ty (a := "int") (b := "bool") (r := false) (by decide +kernel)
  | str b => exact kit_ty (a := "str") (b := "bool") (r := false) (by decide +kernel)
  | lst s e l r => exact kit_ty (a := "list") (b := "bool") (r := false) (by decide +kernel)
  | tup s e l r => exact kit_ty (a := "tuple") (b := "bool") (r := false) (by decide +kernel)
theorem kit2 {K : PySem.W.Frag} {n : String} (h1 : kitB n "list" = some false) (h2 : kitB n "tuple" = some false) : PySem.W.kitAny K (.type n) [.type "list", .type "tuple"] = some false :=
  kitAny_cons (b := false) (kit_ty h1) (fun _ => kitAny_cons (b := false) (kit_ty h2) (fun _ => kitAny_nil) (fun z => nomatch z)) (fun z => nomatch z)
theorem kit_seq {K : PySem.W.Frag} {S : Addr → Prop} {H : Hp} {v : V} {d : PyData} (h : Dt S H v d) : PySem.W.kitAny K (.type (tyN d)) [.type "list", .type "tuple"] = some (isSeq d) := by
  cases h with
  | non => exact kit2 (n := "NoneType") (by decide +kernel) (by decide +kernel)
  | bl b => exact kit2 (n := "bool") (by decide +kernel) (by decide +kernel)
  | int b => exact kit2 (n := "int") (by decide +kernel) (by decide +kernel)
  | str b => exact kit2 (n := "str") (by decide +kernel) (by decide +kernel)
  | lst s e l r => exact kitAny_cons (b := true) (kit_ty (a := "list") (by decide +kernel)) (fun z => nomatch z) (fun _ => rfl)
  | tup s e l r => exact kitAny_cons (b := false) (kit_ty (a := "tuple") (by decide +kernel)) (fun _ => kitAny_cons (b := true) (kit_ty (a := "tuple") (by decide +kernel)) (fun z => nomatch z) (fun _ => rfl)) (fun z => nomatch z)
/-! zip of two tuples, walked -/
theorem walk_zipT {K : PySem.W.Frag} {a b : Addr} {xs ys : List V} {n : Nat} (hn : n = min xs.length ys.length) : Walk (RZ.ItzT K a b) n (fun H => SqT K H a xs ∧ SqT K H b ys) (YPair (fun i => xs[i]?) (fun i => ys[i]?)) := by
  subst hn
  refine ⟨fun i _ hi q => ?_, fun _ q => ⟨xs, ys, q.1, q.2, by omega⟩, fun i H v H' _ q y => ?_⟩
  · have h1 : i < xs.length := by omega
    have h2 : i < ys.length := by omega
    exact ⟨xs, ys, xs[i], ys[i], q.1, q.2, by simp [h1], by simp [h2]⟩
  · obtain ⟨T, x, z, h1, h2, h3, h4, h5⟩ := y
    exact ⟨T, x, z, h1, h2, h3, h4 xs q.1, h5 ys q.2⟩
theorem yes_ {σ : L2.St} {H : Hp} {A B : Hp → Prop} (h : A H) : tYes σ H fun b H3 => if b = true then A H3 else B H3 := by
  show if true = true then A H else B H
  exact iteT h
theorem small5000 {n : Nat} (h : n ≤ 5000) : n < sizeLine := Nat.lt_of_le_of_lt h (by decide)
/-- told and due are the same data, of a depth below n: True -/
def sp_like (n : Nat) : Sp := fun vs H Q _ => ∃ (v u : V) (d : PyData), vs = [v, u] ∧ Dt SA H v d ∧ Dt SA H u d ∧ d.canLay0 = true ∧ d.depth < n ∧ n ≤ 60 ∧ ∀ H', Same H H' → Q (.bl true) H'
/-- xs[i] read for an augmented store, i from 0 on -/
theorem get_listN {X : Cx} : PGet X (fun o i H Q => ∃ (p : Addr) (xs : List V) (j : Nat) (v : V), o = .ref p ∧ i = .int j ∧ H p = some (.lst xs) ∧ xs[j]? = some v ∧ Q v H) := by
  intro pins s σ H o i ov iv Q I ro ri h
  obtain ⟨p, xs, j, v, rfl, rfl, hp, hx, q⟩ := h
  cases (show ov = Value.ref p from ro)
  obtain ⟨t, rfl⟩ := ri
  obtain ⟨its, r, pl, hz⟩ := I.list (SqL.of hp)
  obtain ⟨u, eu, ru⟩ := r.get hx
  have hj : j < xs.length := (List.getElem?_eq_some_iff.mp hx).1
  have h63 := line63
  exact wpAny_getItem_list pl.isList (by omega) (by omega) (by simpa using eu) ⟨v, H, I, ru, q⟩
/-- the d-th of some whole numbers -/
theorem pick {ms : List Int} {d : Int} (h0 : 0 ≤ d) (h1 : d < ms.length) : ∃ m ∈ ms, atI (ms.map V.int) d = some (.int m) := by
  obtain ⟨j, rfl⟩ : ∃ j : Nat, d = (j : Int) := ⟨d.toNat, by omega⟩
  have hj : j < ms.length := by omega
  refine ⟨ms[j], List.getElem_mem hj, atI_nat ?_⟩
  rw [List.getElem?_map, List.getElem?_eq_getElem hj]
  rfl
theorem Bag.at {H H' : Hp} {p : Addr} (b : Bag H p) (e : H' p = H p) : Bag H' p := by
  obtain ⟨g, r, h, k⟩ := b
  exact ⟨g, r, e.trans h, k⟩
theorem Keep.new {p q : Addr} {H H' : Hp} {o : HO} (k : Keep p H H') (n : H' q = none) : Keep p H (L2.upd H' q o) := k.trans (.of (same_upd n))
theorem Keep.free {p q : Addr} {H H' : Hp} (k : Keep p H H') (b : Bag H p) (h : H' q = none) (b' : Bag H' p) : H q = none := by
  cases e : H q with
  | none => rfl
  | some o =>
    by_cases z : q = p
    · rw [z] at h
      obtain ⟨g, r, e', _⟩ := b'
      rw [e'] at h
      cases h
    · rw [k q o z e] at h
      cases h
theorem rep_one {α : Type} (x : α) (m : Nat) : (List.replicate m [x]).flatten = List.replicate m x := by
  induction m with
  | zero => rfl
  | succ m ih => rw [List.replicate_succ, List.flatten_cons, ih, List.replicate_succ]; rfl
/-! lists of whole numbers as data -/
abbrev dI (zs : List Int) : PyData := .list (zs.map PyData.int)
theorem dtAll_ints {S : Addr → Prop} {H : Hp} : ∀ zs : List Int, DtAll S H (zs.map V.int) (zs.map PyData.int)
  | [] => .nil
  | z :: zs => .cons (.int z) (dtAll_ints zs)
theorem dt_ints {H : Hp} {x : Addr} {zs : List Int} (h : H x = some (.lst (zs.map V.int))) (hl : zs.length ≤ 5000) : Dt SA H (.ref x) (dI zs) := .lst trivial h (by rw [List.length_map]; exact hl) (dtAll_ints zs)
theorem layAll_ints : ∀ zs : List Int, PyData.canLayAll0 (zs.map PyData.int) = true
  | [] => rfl
  | z :: zs => by rw [List.map_cons, PyData.canLayAll0, layAll_ints zs]; rfl
theorem lay_ints (zs : List Int) : (dI zs).canLay0 = true := layAll_ints zs
theorem depthAll_ints : ∀ zs : List Int, PyData.depthAll (zs.map PyData.int) = 0
  | [] => rfl
  | z :: zs => by rw [List.map_cons, PyData.depthAll, depthAll_ints zs]; rfl
theorem depth_ints (zs : List Int) : (dI zs).depth = 1 := by
  show PyData.depthAll (zs.map PyData.int) + 1 = 1
  rw [depthAll_ints]
theorem shaped_ints (zs : List Int) : SeqAt.shaped (dI zs) = true := Bool.and_eq_true_iff.mpr ⟨lay_ints zs, decide_eq_true (by rw [depth_ints]; decide)⟩
theorem eqv_ints (zs : List Int) : PyData.eqv (dI zs) (dI zs) = true := SeqAt.eqv_refl _ (lay_ints zs)
/-! len by a reading that names K -/
def rLenS (K : PySem.W.Frag) : List V → Hp → VK → Prop := fun xs H Q => ∃ (p : Addr) (ys : List V), xs = [.ref p] ∧ (SqL K H p ys ∨ SqT K H p ys) ∧ Q (.int ys.length) H
theorem call_lenS {X : Cx} : CallR X (.builtin "len") (rLenS X.K) := call_len_seq
theorem nn_sum : ∀ {ws : List Int}, (∀ w ∈ ws, 0 ≤ w) → 0 ≤ ws.sum
  | [], _ => by simp
  | w :: ws, h => by
    have h1 := h w (List.mem_cons_self ..)
    have h2 := nn_sum (ws := ws) fun x hx => h x (List.mem_cons_of_mem _ hx)
    rw [List.sum_cons]
    omega
theorem pos_sum : ∀ {ws : List Int} {j : Nat} {x : Int}, (∀ w ∈ ws, 0 ≤ w) → ws[j]? = some x → 0 < x → 0 < ws.sum
  | [], _, _, _, h, _ => by simp at h
  | w :: ws, 0, x, hw, h, hx => by
    have e : w = x := Option.some.inj h
    have h2 := nn_sum (ws := ws) fun x hx => hw x (List.mem_cons_of_mem _ hx)
    rw [List.sum_cons]
    omega
  | w :: ws, j + 1, x, hw, h, hx => by
    have h1 := hw w (List.mem_cons_self ..)
    have h2 := pos_sum (ws := ws) (j := j) (x := x) (fun x hx => hw x (List.mem_cons_of_mem _ hx)) h hx
    rw [List.sum_cons]
    omega
theorem cut_ints (ws : List Int) (lo hi : Option Int) : ∃ ys : List Int, cutV (ws.map V.int) lo hi = ys.map V.int := by
  unfold cutV
  exact ⟨(ws.drop _).take _, by rw [List.map_take, List.map_drop]⟩
end Th
/-! a statement that is never reached -/
namespace Nv
open PySem PySem.Spec PyProof.Rows L2
def tNever : TS := fun _ _ _ => False
theorem ps_never {X : Cx} {st : Stmt} : PS X st tNever := ⟨fun _ _ _ _ _ _ h => h.elim⟩
end Nv
/-! max of a list of ints -/
namespace Mx
open PySem PySem.Spec PyProof.Rows L2
def maxI (x : Int) (ys : List Int) : Int := ys.foldl max x
theorem maxI_ge : ∀ (ys : List Int) (x : Int), x ≤ maxI x ys ∧ ∀ y ∈ ys, y ≤ maxI x ys
  | [], x => ⟨Int.le_refl _, fun y hy => by cases hy⟩
  | y :: ys, x => by
    obtain ⟨h1, h2⟩ := maxI_ge ys (max x y)
    show x ≤ maxI (max x y) ys ∧ _
    refine ⟨by omega, fun z hz => ?_⟩
    show z ≤ maxI (max x y) ys
    rcases List.mem_cons.mp hz with e | e
    · rw [e]; omega
    · exact h2 z e
theorem maxI_mem : ∀ (ys : List Int) (x : Int), maxI x ys ∈ x :: ys
  | [], x => List.mem_singleton.mpr rfl
  | y :: ys, x => by
    have h := maxI_mem ys (max x y)
    show maxI (max x y) ys ∈ _
    rcases List.mem_cons.mp h with e | e
    · rw [e]
      by_cases c : x ≤ y
      · rw [Int.max_eq_right c]; exact List.mem_cons_of_mem _ List.mem_cons_self
      · rw [Int.max_eq_left (by omega)]; exact List.mem_cons_self
    · exact List.mem_cons_of_mem _ (List.mem_cons_of_mem _ e)
theorem dpAll_ints {K : PySem.W.Frag} {H : Hp} : ∀ zs : List Int, DpAll K H (zs.map V.int) (zs.map PyData.int)
  | [] => .nil
  | z :: zs => .cons (.int z) (dpAll_ints zs)
theorem depthI : ∀ zs : List Int, PyData.depthAll (zs.map PyData.int) = 0
  | [] => rfl
  | z :: zs => by rw [List.map_cons, PyData.depthAll, depthI zs]; rfl
/-- max(xs), a list of ints -/
def rMaxI (K : PySem.W.Frag) : List V → Hp → VK → Prop := fun vs H Q => ∃ (a : Addr) (x : Int) (ys : List Int), vs = [.ref a] ∧ SqL K H a ((x :: ys).map V.int) ∧ Q (.int (maxI x ys)) H
theorem cr_maxI {X : Cx} (hc : X.calm = true) (hu : X.A.units + 64 < cLine) : CallR X (.builtin "max") (rMaxI X.K) := by
  intro pins s σ H vs us Q I r h
  obtain ⟨a, x, ys, rfl, hs, q⟩ := h
  obtain ⟨its, rv, hl, -⟩ := I.list hs
  rw [Vals.ref1 r]
  obtain ⟨as, hr⟩ := Dp.readsAll I _ _ _ (dpAll_ints (x :: ys)) rv
  have hl : s.heap.IsList a its.toArray := hl.isList
  have hr' : ReadsAll s.heap its.toArray.toList (PyData.int x :: ys.map PyData.int) as := hr
  refine PySem.W.max_list_data (I.ok.hd hc) hl hr' (PySem.W.alikeAll_datum (α := Int) (x :: ys)) ?_ fun i v h' tk bs hv rd hk => ?_
  · have : PyData.depthAll (PyData.int x :: ys.map PyData.int) = 0 := depthI (x :: ys)
    rw [this]
    omega
  · rw [PySem.W.maxD_ints] at rd
    cases rd
    exact ⟨.int (maxI x ys), H, I.kept hk, ⟨_, rfl⟩, q⟩
end Mx
/-! any of a list of ints -/
namespace Mx
open PySem PySem.Spec PyProof.Rows L2
def rAnyI (K : PySem.W.Frag) : List V → Hp → VK → Prop := fun vs H Q => ∃ (a : Addr) (zs : List Int), vs = [.ref a] ∧ SqL K H a (zs.map V.int) ∧ Q (.bl (zs.any fun z => z != 0)) H
theorem plainI : ∀ zs : List Int, PyData.plainAll (zs.map PyData.int) = true
  | [] => rfl
  | z :: zs => by rw [List.map_cons, PyData.plainAll, plainI zs]; rfl
theorem cr_anyI {X : Cx} (hc : X.calm = true) : CallR X (.builtin "any") (rAnyI X.K) := by
  intro pins s σ H vs us Q I r h
  obtain ⟨a, zs, rfl, hs, q⟩ := h
  obtain ⟨its, rv, hl, -⟩ := I.list hs
  rw [Vals.ref1 r]
  obtain ⟨as, hr⟩ := Dp.readsAll I _ _ _ (dpAll_ints zs) rv
  have hl : s.heap.IsList a its.toArray := hl.isList
  have hr' : ReadsAll s.heap its.toArray.toList (zs.map PyData.int) as := hr
  refine PySem.W.any_list_data (I.ok.hd hc) hl hr' (plainI zs) ?_ ?_
  · intro x hx
    obtain ⟨z, _, rfl⟩ := List.mem_map.mp hx
    trivial
  · intro h' tk hk
    refine ⟨.bl _, H, I.kept hk, ?_, q⟩
    show Value.bool _ = Value.bool _
    rw [List.any_map]
    rfl
def tTruK (K : PySem.W.Frag) (ta : TE) : TT := fun σ H Q => ta σ H fun x H' => ∃ k, TruV K x H' k ∧ Q k H'
theorem pt_truthK (K : PySem.W.Frag) {X : Cx} {a : Expr} {ta : TE} (ha : PE X a ta) (he : ∀ whole, isTrue a X.env whole = (do let v ← whole; standAt a.pos; holding [v] (truthy v))) (hK : X.K = K := by rfl) :
    PT X a (tTruK K ta) := by
  subst hK
  exact pt_truth ha he
end Mx
namespace Pm
/-! the order of the rests -/
def byRest (rs : List Int) : Nat → Nat → Bool := fun p q => decide (-(rs.getD p 0) < -(rs.getD q 0) ∨ (-(rs.getD p 0) = -(rs.getD q 0) ∧ (p : Int) ≤ (q : Int)))
/-- k is ahead of j -/
def isAhead (rs : List Int) (k j : Nat) : Bool := decide (rs.getD j 0 < rs.getD k 0 ∨ (rs.getD k 0 = rs.getD j 0 ∧ k < j))
def aheadOf (rs : List Int) (j : Nat) : Nat := ((List.range rs.length).filter fun k => isAhead rs k j).length
theorem byRest_trans (rs : List Int) (a b c : Nat) (h1 : byRest rs a b = true) (h2 : byRest rs b c = true) : byRest rs a c = true := by
  unfold byRest at *
  rw [decide_eq_true_eq] at *
  omega
theorem byRest_total (rs : List Int) (a b : Nat) : (byRest rs a b || byRest rs b a) = true := by
  unfold byRest
  rw [Bool.or_eq_true, decide_eq_true_eq, decide_eq_true_eq]
  omega
theorem ahead_of_le {rs : List Int} {k j : Nat} (h : byRest rs k j = true) (n : k ≠ j) : isAhead rs k j = true := by
  unfold byRest at h
  unfold isAhead
  rw [decide_eq_true_eq] at *
  omega
theorem not_ahead {rs : List Int} {k j : Nat} (h : byRest rs j k = true) : isAhead rs k j = false := by
  unfold byRest at h
  unfold isAhead
  rw [decide_eq_true_eq] at h
  rw [decide_eq_false_iff_not]
  omega
theorem pos_count {rs : List Int} : ∀ {S : List Nat} {i j : Nat}, S.Pairwise (fun a b => byRest rs a b = true) → S.Nodup → S[i]? = some j → (S.filter fun k => isAhead rs k j).length = i
  | [], i, j, _, _, h => by simp at h
  | x :: S, 0, j, hp, hn, h => by
    have e : x = j := Option.some.inj h
    subst e
    rw [List.pairwise_cons] at hp
    have h1 : isAhead rs x x = false := by
      unfold isAhead
      rw [decide_eq_false_iff_not]
      omega
    rw [List.filter_cons_of_neg (by rw [h1]; simp), List.length_eq_zero_iff, List.filter_eq_nil_iff]
    intro a ha
    rw [not_ahead (hp.1 a ha)]
    simp
  | x :: S, i + 1, j, hp, hn, h => by
    rw [List.pairwise_cons] at hp
    rw [List.nodup_cons] at hn
    have h' : S[i]? = some j := h
    have hm : j ∈ S := List.mem_of_getElem? h'
    have hx : isAhead rs x j = true := ahead_of_le (hp.1 j hm) (fun e => hn.1 (e ▸ hm))
    rw [List.filter_cons_of_pos (p := fun k => isAhead rs k j) hx, List.length_cons, pos_count hp.2 hn.2 h']
/-- who gets a penny more -/
theorem mem_take {rs : List Int} {S : List Nat} (hp : S.Pairwise (fun a b => byRest rs a b = true)) (hn : S.Nodup) (hS : S.Perm (List.range rs.length)) {j m : Nat} (hj : j < rs.length) : j ∈ S.take m ↔ aheadOf rs j < m := by
  have hm : j ∈ S := hS.mem_iff.mpr (List.mem_range.mpr hj)
  obtain ⟨i, hi⟩ := List.getElem?_of_mem hm
  have e : aheadOf rs j = i := by
    unfold aheadOf
    rw [← (hS.filter _).length_eq]
    exact pos_count hp hn hi
  rw [e]
  constructor
  · intro h
    obtain ⟨i', h'⟩ := List.getElem?_of_mem h
    have lt : i' < m := by
      have := (List.getElem?_eq_some_iff.mp h').1
      rw [List.length_take] at this
      omega
    rw [List.getElem?_take_of_lt lt] at h'
    have := pos_count hp hn h'
    have := pos_count hp hn hi
    omega
  · intro h
    have : (S.take m)[i]? = some j := by rw [List.getElem?_take_of_lt h]; exact hi
    exact List.mem_of_getElem? this
/-! a penny more at each of js -/
def bump (t : List Int) (js : List Nat) : List Int := js.foldl (fun t j => t.set j (t.getD j 0 + 1)) t
theorem bump_snoc (t : List Int) (js : List Nat) (j : Nat) : bump t (js ++ [j]) = (bump t js).set j ((bump t js).getD j 0 + 1) := by
  unfold bump
  rw [List.foldl_append]
  rfl
theorem bump_len : ∀ (js : List Nat) (t : List Int), (bump t js).length = t.length
  | [], t => rfl
  | j :: js, t => by
    show (bump (t.set j _) js).length = t.length
    rw [bump_len js, List.length_set]
theorem bump_get : ∀ (js : List Nat) (t : List Int) (i : Nat), js.Nodup → i < t.length → (bump t js).getD i 0 = t.getD i 0 + (if i ∈ js then 1 else 0)
  | [], t, i, _, _ => by simp [bump]
  | j :: js, t, i, hn, hi => by
    rw [List.nodup_cons] at hn
    show (bump (t.set j (t.getD j 0 + 1)) js).getD i 0 = _
    rw [bump_get js _ i hn.2 (by rw [List.length_set]; exact hi)]
    by_cases e : i = j
    · subst e
      rw [if_neg hn.1, if_pos (List.mem_cons_self ..)]
      rw [List.getD_eq_getElem?_getD, List.getElem?_set_self hi]
      show t.getD i 0 + 1 + 0 = _
      omega
    · have hm : (i ∈ j :: js) ↔ i ∈ js := by
        rw [List.mem_cons]
        exact ⟨fun h => h.resolve_left e, .inr⟩
      rw [List.getD_eq_getElem?_getD, List.getElem?_set_ne (fun h => e h.symm), ← List.getD_eq_getElem?_getD]
      by_cases h : i ∈ js
      · rw [if_pos h, if_pos (hm.mpr h)]
      · rw [if_neg h, if_neg (fun z => h (hm.mp z))]
theorem set_sum : ∀ (t : List Int) (j : Nat), j < t.length → (t.set j (t.getD j 0 + 1)).sum = t.sum + 1
  | [], j, h => by simp at h
  | x :: t, 0, _ => by
    show ((x + 1) :: t).sum = (x :: t).sum + 1
    rw [List.sum_cons, List.sum_cons]
    omega
  | x :: t, j + 1, h => by
    show (x :: t.set j (t.getD j 0 + 1)).sum = (x :: t).sum + 1
    rw [List.sum_cons, List.sum_cons, set_sum t j (by simpa using h)]
    omega
theorem bump_sum : ∀ (js : List Nat) (t : List Int), (∀ j ∈ js, j < t.length) → (bump t js).sum = t.sum + js.length
  | [], t, _ => by simp [bump]
  | j :: js, t, h => by
    show (bump (t.set j (t.getD j 0 + 1)) js).sum = _
    rw [bump_sum js _ (fun i hi => by rw [List.length_set]; exact h i (List.mem_cons_of_mem _ hi)), set_sum t j (h j (List.mem_cons_self ..)), List.length_cons]
    omega
/-! the parts -/
def told (p : Int) (ws : List Int) : List Int := ws.map fun w => p * w / ws.sum
def rests (p : Int) (ws : List Int) : List Int := ws.map fun w => p * w % ws.sum
def left (p : Int) (ws : List Int) : Int := p - (told p ws).sum
def order (p : Int) (ws : List Int) : List Nat := (List.range ws.length).mergeSort (byRest (rests p ws))
def partsM (p : Int) (ws : List Int) : List Int := if ws.sum = 0 then List.replicate ws.length 0 else bump (told p ws) ((order p ws).take (left p ws).toNat)
def lawParts (p : Int) (ws : List Int) : List Int := (List.range ws.length).map fun j => (told p ws).getD j 0 + (if (aheadOf (rests p ws) j : Int) < left p ws then 1 else 0)
theorem told_rests (p W : Int) : ∀ ws : List Int, (ws.map fun w => p * w / W).sum * W + (ws.map fun w => p * w % W).sum = p * ws.sum
  | [] => by simp
  | w :: ws => by
    have ih := told_rests p W ws
    rw [List.map_cons, List.map_cons, List.sum_cons, List.sum_cons, List.sum_cons, Int.add_mul, Int.mul_add]
    have e := Int.mul_ediv_add_emod (p * w) W
    rw [Int.mul_comm W] at e
    omega
theorem rests_nonneg {p W : Int} (hW : 0 < W) : ∀ ws : List Int, 0 ≤ (ws.map fun w => p * w % W).sum
  | [] => by simp
  | w :: ws => by
    have ih := rests_nonneg (p := p) hW ws
    have := Int.emod_nonneg (p * w) (show W ≠ 0 by omega)
    rw [List.map_cons, List.sum_cons]
    omega
theorem rests_lt {p W : Int} (hW : 0 < W) : ∀ ws : List Int, (ws.map fun w => p * w % W).sum ≤ ws.length * (W - 1)
  | [] => by simp
  | w :: ws => by
    have ih := rests_lt (p := p) hW ws
    have := Int.emod_lt_of_pos (p * w) hW
    rw [List.map_cons, List.sum_cons, List.length_cons]
    have e : ((ws.length + 1 : Nat) : Int) * (W - 1) = ws.length * (W - 1) + (W - 1) := by
      rw [Int.natCast_add, Int.add_mul]
      omega
    rw [e]
    omega
theorem left_eq (p : Int) {ws : List Int} : left p ws * ws.sum = (rests p ws).sum := by
  have h := told_rests p ws.sum ws
  unfold left
  rw [Int.sub_mul]
  unfold told rests
  omega
theorem left_nonneg (p : Int) {ws : List Int} (hW : 0 < ws.sum) : 0 ≤ left p ws := by
  have h1 := left_eq p (ws := ws)
  have h2 : 0 ≤ (rests p ws).sum := rests_nonneg hW ws
  rw [← h1] at h2
  exact Int.nonneg_of_mul_nonneg_left h2 hW
theorem left_le (p : Int) {ws : List Int} (hW : 0 < ws.sum) : left p ws ≤ ws.length := by
  have h1 := left_eq p (ws := ws)
  have h2 : (rests p ws).sum ≤ ws.length * (ws.sum - 1) := rests_lt hW ws
  rw [← h1] at h2
  have h3 : (ws.length : Int) * (ws.sum - 1) ≤ ws.length * ws.sum := Int.mul_le_mul_of_nonneg_left (by omega) (by omega)
  exact Int.le_of_mul_le_mul_right (Int.le_trans h2 h3) hW
theorem order_perm (p : Int) (ws : List Int) : (order p ws).Perm (List.range ws.length) := List.mergeSort_perm _ _
theorem order_nodup (p : Int) (ws : List Int) : (order p ws).Nodup := (order_perm p ws).nodup_iff.mpr List.nodup_range
theorem order_len (p : Int) (ws : List Int) : (order p ws).length = ws.length := by rw [(order_perm p ws).length_eq, List.length_range]
theorem order_sorted (p : Int) (ws : List Int) : (order p ws).Pairwise (fun a b => byRest (rests p ws) a b = true) := List.pairwise_mergeSort (byRest_trans _) (byRest_total _) _
theorem rests_len (p : Int) (ws : List Int) : (rests p ws).length = ws.length := by unfold rests; rw [List.length_map]
theorem told_len (p : Int) (ws : List Int) : (told p ws).length = ws.length := by unfold told; rw [List.length_map]
theorem order_lt {p : Int} {ws : List Int} {j : Nat} (h : j ∈ order p ws) : j < ws.length := List.mem_range.mp ((order_perm p ws).mem_iff.mp h)
theorem partsM_len (p : Int) (ws : List Int) : (partsM p ws).length = ws.length := by
  unfold partsM
  split
  · rw [List.length_replicate]
  · rw [bump_len, told_len]
theorem lawParts_len (p : Int) (ws : List Int) : (lawParts p ws).length = ws.length := by unfold lawParts; rw [List.length_map, List.length_range]
theorem ext_getD {a b : List Int} (hl : a.length = b.length) (h : ∀ i, i < a.length → a.getD i 0 = b.getD i 0) : a = b := by
  apply List.ext_getElem hl
  intro i h1 h2
  have := h i h1
  rw [List.getD_eq_getElem?_getD, List.getD_eq_getElem?_getD, List.getElem?_eq_getElem h1, List.getElem?_eq_getElem h2] at this
  exact this
theorem parts_eq (p : Int) {ws : List Int} (hW : 0 < ws.sum) : partsM p ws = lawParts p ws := by
  refine ext_getD (by rw [partsM_len, lawParts_len]) fun i hi => ?_
  rw [partsM_len] at hi
  have hn : ((order p ws).take (left p ws).toNat).Nodup := (order_nodup p ws).sublist (List.take_sublist _ _)
  have e1 : partsM p ws = bump (told p ws) ((order p ws).take (left p ws).toNat) := by
    unfold partsM
    rw [if_neg (by omega)]
  rw [e1, bump_get _ _ _ hn (by rw [told_len]; exact hi)]
  have e2 : (lawParts p ws).getD i 0 = (told p ws).getD i 0 + (if (aheadOf (rests p ws) i : Int) < left p ws then 1 else 0) := by
    unfold lawParts
    rw [List.getD_eq_getElem?_getD, List.getElem?_map, List.getElem?_range hi]
    rfl
  rw [e2]
  have hm := mem_take (order_sorted p ws) (order_nodup p ws) (by rw [rests_len]; exact order_perm p ws) (j := i) (m := (left p ws).toNat) (by rw [rests_len]; exact hi)
  have h0 := left_nonneg p hW
  by_cases h : i ∈ (order p ws).take (left p ws).toNat
  · rw [if_pos h, if_pos (by have := hm.mp h; omega)]
  · rw [if_neg h, if_neg (fun z => h (hm.mpr (by omega)))]
theorem parts_sum (p : Int) {ws : List Int} (hW : 0 < ws.sum) : (partsM p ws).sum = p := by
  have e1 : partsM p ws = bump (told p ws) ((order p ws).take (left p ws).toNat) := by
    unfold partsM
    rw [if_neg (by omega)]
  have h0 := left_nonneg p hW
  have h1 := left_le p hW
  rw [e1, bump_sum _ _ (fun j hj => by rw [told_len]; exact order_lt (List.mem_of_mem_take hj)), List.length_take, order_len]
  have : min (left p ws).toNat ws.length = (left p ws).toNat := by omega
  rw [this]
  unfold left at *
  omega
theorem sum_zeros : ∀ n : Nat, (List.replicate n (0 : Int)).sum = 0
  | 0 => rfl
  | n + 1 => by rw [List.replicate_succ, List.sum_cons, sum_zeros n]; rfl
theorem parts_zero {ws : List Int} : partsM 0 ws = List.replicate ws.length 0 := by
  unfold partsM
  split
  · rfl
  · rename_i h
    have ht : told 0 ws = List.replicate ws.length 0 := by
      unfold told
      rw [List.eq_replicate_iff]
      refine ⟨List.length_map _, fun b hb => ?_⟩
      obtain ⟨w, _, rfl⟩ := List.mem_map.mp hb
      rw [Int.zero_mul, Int.zero_ediv]
    have hl : left 0 ws = 0 := by
      unfold left
      rw [ht, sum_zeros]
      rfl
    rw [hl, ht]
    rfl
theorem told_nonneg {p : Int} {ws : List Int} (hp : 0 ≤ p) (hw : ∀ w ∈ ws, 0 ≤ w) (hW : 0 < ws.sum) : ∀ x ∈ told p ws, 0 ≤ x := fun x hx => by
  obtain ⟨w, hm, rfl⟩ := List.mem_map.mp hx
  exact Int.ediv_nonneg (Int.mul_nonneg hp (hw w hm)) (by omega)
end Pm
namespace Pm
/-! a sum parted penny by penny to the greatest rest -/
theorem getD_map0 {f : Int → Int} (ws : List Int) {i : Nat} (h : i < ws.length) : (ws.map f).getD i 0 = f (ws.getD i 0) := by
  rw [List.getD_eq_getElem?_getD, List.getD_eq_getElem?_getD, List.getElem?_map, List.getElem?_eq_getElem h]
  rfl
theorem told_at (p : Int) (ws : List Int) {i : Nat} (h : i < ws.length) : (told p ws).getD i 0 = p * ws.getD i 0 / ws.sum := getD_map0 ws h
theorem rests_at (p : Int) (ws : List Int) {i : Nat} (h : i < ws.length) : (rests p ws).getD i 0 = p * ws.getD i 0 % ws.sum := getD_map0 ws h
theorem rest_nn (p : Int) {ws : List Int} (hW : 0 < ws.sum) {i : Nat} (h : i < ws.length) : 0 ≤ (rests p ws).getD i 0 := by
  rw [rests_at p ws h]
  exact Int.emod_nonneg _ (by omega)
theorem rest_lt (p : Int) {ws : List Int} (hW : 0 < ws.sum) {i : Nat} (h : i < ws.length) : (rests p ws).getD i 0 < ws.sum := by
  rw [rests_at p ws h]
  exact Int.emod_lt_of_pos _ hW
theorem told_rest (p : Int) (ws : List Int) {i : Nat} (h : i < ws.length) : p * ws.getD i 0 = ws.sum * (told p ws).getD i 0 + (rests p ws).getD i 0 := by
  rw [rests_at p ws h, told_at p ws h]
  exact (Int.mul_ediv_add_emod _ _).symm
/-- what stands behind m pennies -/
def pennies (p : Int) (ws : List Int) (m : Nat) : List Int := bump (told p ws) ((order p ws).take m)
theorem pennies_len (p : Int) (ws : List Int) (m : Nat) : (pennies p ws m).length = ws.length := by
  unfold pennies
  rw [bump_len, told_len]
theorem pennies_all (p : Int) {ws : List Int} (hW : 0 < ws.sum) : pennies p ws (left p ws).toNat = partsM p ws := by
  unfold partsM pennies
  rw [if_neg (by omega)]
theorem pennies_at (p : Int) (ws : List Int) (m : Nat) {i : Nat} (h : i < ws.length) : (pennies p ws m).getD i 0 = (told p ws).getD i 0 + (if i ∈ (order p ws).take m then 1 else 0) := by
  unfold pennies
  exact bump_get _ _ _ ((order_nodup p ws).sublist (List.take_sublist ..)) (by rw [told_len]; exact h)
theorem pennies_succ (p : Int) (ws : List Int) {m j : Nat} (h : (order p ws)[m]? = some j) : pennies p ws (m + 1) = (pennies p ws m).set j ((pennies p ws m).getD j 0 + 1) := by
  unfold pennies
  rw [List.take_add_one, h]
  exact bump_snoc _ _ _
/-- the rests behind m pennies -/
def restsAt (p : Int) (ws : List Int) (m : Nat) : List Int := (List.range ws.length).map fun i => p * ws.getD i 0 - ws.sum * (pennies p ws m).getD i 0
theorem restsAt_at (p : Int) (ws : List Int) (m : Nat) {i : Nat} (h : i < ws.length) : (restsAt p ws m)[i]? = some ((rests p ws).getD i 0 - (if i ∈ (order p ws).take m then ws.sum else 0)) := by
  unfold restsAt
  rw [List.getElem?_map, List.getElem?_range h]
  show some (p * ws.getD i 0 - ws.sum * (pennies p ws m).getD i 0) = some _
  congr 1
  rw [pennies_at p ws m h, told_rest p ws h, Int.mul_add]
  split
  · rw [Int.mul_one]; omega
  · rw [Int.mul_zero]; omega
/-- the next penny's place: the first of the greatest rest -/
theorem next_place (p : Int) {ws : List Int} (hW : 0 < ws.sum) {m j : Nat} (h : (order p ws)[m]? = some j) : j < ws.length ∧ ∃ r : Int, (restsAt p ws m)[j]? = some r ∧ (∀ (i : Nat) (y : Int), (restsAt p ws m)[i]? = some y → y ≤ r) ∧ ∀ (i : Nat) (y : Int), i < j → (restsAt p ws m)[i]? = some y → y < r := by
  have hj : j < ws.length := order_lt (List.mem_of_getElem? h)
  have hm : m < (order p ws).length := (List.getElem?_eq_some_iff.mp h).1
  have nt : j ∉ (order p ws).take m := fun z => by
    obtain ⟨i, hi⟩ := List.getElem?_of_mem z
    have lt : i < m := by
      have := (List.getElem?_eq_some_iff.mp hi).1
      rw [List.length_take] at this
      omega
    rw [List.getElem?_take_of_lt lt] at hi
    have hi' : i < (order p ws).length := (List.getElem?_eq_some_iff.mp hi).1
    have := (List.getElem?_inj hi' (order_nodup p ws)).mp (hi.trans h.symm)
    omega
  have ej := restsAt_at p ws m hj
  rw [if_neg nt] at ej
  have key : ∀ i, i < ws.length → i ≠ j → (rests p ws).getD i 0 - (if i ∈ (order p ws).take m then ws.sum else 0) < (rests p ws).getD j 0 - 0 ∨ ((rests p ws).getD i 0 - (if i ∈ (order p ws).take m then ws.sum else 0) = (rests p ws).getD j 0 - 0 ∧ j < i) := fun i hi ne => by
    have b1 := rest_lt p hW hi
    have b2 := rest_nn p hW hj
    by_cases c : i ∈ (order p ws).take m
    · rw [if_pos c]
      exact .inl (by omega)
    · rw [if_neg c]
      have hmem : i ∈ order p ws := (order_perm p ws).mem_iff.mpr (List.mem_range.mpr hi)
      obtain ⟨q, hq⟩ := List.getElem?_of_mem hmem
      have hq' : q < (order p ws).length := (List.getElem?_eq_some_iff.mp hq).1
      have qm : m < q := by
        rcases Nat.lt_trichotomy q m with z | z | z
        · exact absurd (List.mem_of_getElem? ((List.getElem?_take_of_lt z).trans hq)) c
        · subst z
          rw [h] at hq
          exact absurd (Option.some.inj hq).symm ne
        · exact z
      have srt := List.pairwise_iff_getElem.mp (order_sorted p ws) m q hm hq' qm
      rw [(List.getElem?_eq_some_iff.mp h).2, (List.getElem?_eq_some_iff.mp hq).2] at srt
      unfold byRest at srt
      have := of_decide_eq_true srt
      omega
  have get : ∀ i y, (restsAt p ws m)[i]? = some y → i < ws.length ∧ y = (rests p ws).getD i 0 - (if i ∈ (order p ws).take m then ws.sum else 0) := fun i y hy => by
    have hi : i < ws.length := by
      have := (List.getElem?_eq_some_iff.mp hy).1
      unfold restsAt at this
      rw [List.length_map, List.length_range] at this
      exact this
    rw [restsAt_at p ws m hi] at hy
    exact ⟨hi, (Option.some.inj hy).symm⟩
  refine ⟨hj, _, ej, fun i y hy => ?_, fun i y lt hy => ?_⟩
  · obtain ⟨hi, rfl⟩ := get i y hy
    by_cases e : i = j
    · subst e
      rw [if_neg nt]
      exact Int.le_refl _
    · rcases key i hi e with z | z
      · omega
      · omega
  · obtain ⟨hi, rfl⟩ := get i y hy
    rcases key i hi (by omega) with z | z
    · omega
    · omega
/-! weights of nought left out -/
def giv (ws : List Int) : List Nat := (List.range ws.length).filter fun i => decide (0 < ws.getD i 0)
def wts (ws : List Int) : List Int := (giv ws).map fun i => ws.getD i 0
theorem filt_sum (ws : List Int) (g : Int → Int) (h0 : g 0 = 0) (hw : ∀ w ∈ ws, 0 ≤ w) : ∀ n, n ≤ ws.length → ((((List.range n).filter fun i => decide (0 < ws.getD i 0)).map fun i => ws.getD i 0).map g).sum = ((ws.take n).map g).sum
  | 0, _ => by simp
  | n + 1, h => by
    have ih := filt_sum ws g h0 hw n (by omega)
    have e : ws[n]? = some (ws.getD n 0) := by rw [List.getD_eq_getElem?_getD, List.getElem?_eq_getElem (by omega)]; rfl
    rw [List.range_succ, List.filter_append, List.map_append, List.map_append, List.sum_append, ih, List.take_add_one, List.map_append, List.sum_append, e]
    congr 1
    by_cases c : 0 < ws.getD n 0
    · rw [List.filter_cons_of_pos (by simp only [decide_eq_true_eq]; exact c)]
      rfl
    · have z : ws.getD n 0 = 0 := by
        have := hw _ (List.mem_of_getElem? e)
        omega
      rw [List.filter_cons_of_neg (by simp only [decide_eq_true_eq]; exact c)]
      show (0 : Int) = g (ws.getD n 0) + 0
      rw [z, h0]
      rfl
theorem wts_map (ws : List Int) (g : Int → Int) (h0 : g 0 = 0) (hw : ∀ w ∈ ws, 0 ≤ w) : ((wts ws).map g).sum = (ws.map g).sum := by
  have := filt_sum ws g h0 hw ws.length (Nat.le_refl _)
  rw [List.take_length] at this
  exact this
theorem wts_sum (ws : List Int) (hw : ∀ w ∈ ws, 0 ≤ w) : (wts ws).sum = ws.sum := by
  have := wts_map ws id rfl hw
  rw [List.map_id, List.map_id] at this
  exact this
theorem wts_len (ws : List Int) : (wts ws).length = (giv ws).length := List.length_map ..
theorem giv_lt {ws : List Int} {i : Nat} (h : i ∈ giv ws) : i < ws.length ∧ 0 < ws.getD i 0 := by
  unfold giv at h
  rw [List.mem_filter] at h
  exact ⟨List.mem_range.mp h.1, of_decide_eq_true h.2⟩
theorem giv_mem {ws : List Int} {i : Nat} (h : i < ws.length) (h2 : 0 < ws.getD i 0) : i ∈ giv ws := by
  unfold giv
  rw [List.mem_filter]
  exact ⟨List.mem_range.mpr h, decide_eq_true h2⟩
theorem giv_sorted (ws : List Int) : (giv ws).Pairwise (· < ·) := List.pairwise_lt_range.filter _
theorem giv_nodup (ws : List Int) : (giv ws).Nodup := List.nodup_range.filter _
theorem wts_at {ws : List Int} {k i : Nat} (h : (giv ws)[k]? = some i) : (wts ws)[k]? = some (ws.getD i 0) := by
  unfold wts
  rw [List.getElem?_map, h]
  rfl
theorem getD_of {α : Type} {xs : List α} {k : Nat} {d x : α} (h : xs[k]? = some x) : xs.getD k d = x := by
  rw [List.getD_eq_getElem?_getD, h]
  rfl
/-- whoever has no rest gets no penny -/
theorem no_rest (p : Int) {ws : List Int} (hW : 0 < ws.sum) {i : Nat} (hi : i < ws.length) (h0 : (rests p ws).getD i 0 = 0) : ¬ ((aheadOf (rests p ws) i : Nat) : Int) < left p ws := by
  have e1 := left_eq p (ws := ws)
  have sb : ∀ (xs : List Int) (W : Int), (∀ x ∈ xs, 0 ≤ x ∧ x ≤ W) → xs.sum ≤ ((xs.filter fun x => decide (0 < x)).length : Nat) * W := fun xs W => by
    induction xs with
    | nil => intro _; simp
    | cons x xs ih =>
      intro h
      have := ih fun y hy => h y (List.mem_cons_of_mem _ hy)
      have hx := h x List.mem_cons_self
      rw [List.sum_cons]
      by_cases c : 0 < x
      · rw [List.filter_cons_of_pos (by simp only [decide_eq_true_eq]; exact c), List.length_cons, Int.natCast_add, Int.add_mul]
        omega
      · rw [List.filter_cons_of_neg (by simp only [decide_eq_true_eq]; exact c)]
        omega
  have hb : ∀ x ∈ rests p ws, 0 ≤ x ∧ x ≤ ws.sum := fun x hx => by
    obtain ⟨k, hk⟩ := List.getElem?_of_mem hx
    have hk2 : k < ws.length := by
      have := (List.getElem?_eq_some_iff.mp hk).1
      rw [rests_len] at this
      exact this
    have h1 := rest_nn p hW hk2
    have h2 := rest_lt p hW hk2
    rw [getD_of hk] at h1 h2
    omega
  have s1 := sb (rests p ws) ws.sum hb
  rw [← e1] at s1
  have s2 : left p ws ≤ (((rests p ws).filter fun x => decide (0 < x)).length : Nat) := Int.le_of_mul_le_mul_right s1 hW
  have s3 : ((rests p ws).filter fun x => decide (0 < x)).length ≤ aheadOf (rests p ws) i := by
    have cnt : ∀ (rs : List Int), ((List.range rs.length).filter fun k => decide (0 < rs.getD k 0)).length = (rs.filter fun x => decide (0 < x)).length := fun rs => by
      have : rs = (List.range rs.length).map fun k => rs.getD k 0 := by
        refine List.ext_getElem? fun k => ?_
        by_cases hk : k < rs.length
        · rw [List.getElem?_map, List.getElem?_range hk, List.getElem?_eq_getElem hk]
          show _ = some (rs.getD k 0)
          rw [List.getD_eq_getElem?_getD, List.getElem?_eq_getElem hk]
          rfl
        · rw [List.getElem?_eq_none (by omega), List.getElem?_eq_none (by rw [List.length_map, List.length_range]; omega)]
      conv => rhs; rw [this]
      rw [List.filter_map, List.length_map]
      rfl
    rw [← cnt]
    unfold aheadOf
    rw [← List.countP_eq_length_filter, ← List.countP_eq_length_filter]
    refine List.countP_mono_left fun k _ hk => ?_
    have hk := of_decide_eq_true hk
    unfold isAhead
    rw [h0]
    exact decide_eq_true (.inl hk)
  omega
theorem parts_at (p : Int) {ws : List Int} (hW : 0 < ws.sum) {i : Nat} (hi : i < ws.length) : (partsM p ws).getD i 0 = (told p ws).getD i 0 + (if ((aheadOf (rests p ws) i : Nat) : Int) < left p ws then 1 else 0) := by
  rw [parts_eq p hW]
  unfold lawParts
  rw [List.getD_eq_getElem?_getD, List.getElem?_map, List.getElem?_range hi]
  rfl
/-- a weight of nought gets nothing -/
theorem parts_none (p : Int) {ws : List Int} (hW : 0 < ws.sum) {i : Nat} (hi : i < ws.length) (h0 : ws.getD i 0 = 0) : (partsM p ws).getD i 0 = 0 := by
  rw [parts_at p hW hi, if_neg (no_rest p hW hi (by rw [rests_at p ws hi, h0, Int.mul_zero]; rfl)), told_at p ws hi, h0, Int.mul_zero, Int.zero_ediv]
  rfl
/-- with the noughts left out the parts are the same -/
theorem parts_wts (p : Int) {ws : List Int} (hw : ∀ w ∈ ws, 0 ≤ w) (hW : 0 < ws.sum) {k i : Nat} (h : (giv ws)[k]? = some i) : (partsM p (wts ws)).getD k 0 = (partsM p ws).getD i 0 := by
  have hs := wts_sum ws hw
  have hW' : 0 < (wts ws).sum := by omega
  have hk : k < (wts ws).length := by
    rw [wts_len]
    exact (List.getElem?_eq_some_iff.mp h).1
  obtain ⟨hi, hp⟩ := giv_lt (List.mem_of_getElem? h)
  have ew : ∀ {k i : Nat}, (giv ws)[k]? = some i → (wts ws).getD k 0 = ws.getD i 0 := fun h => getD_of (wts_at h)
  have et : (told p (wts ws)).getD k 0 = (told p ws).getD i 0 := by rw [told_at p _ hk, told_at p ws hi, ew h, hs]
  have er : ∀ {k i : Nat}, (giv ws)[k]? = some i → (rests p (wts ws)).getD k 0 = (rests p ws).getD i 0 := fun {k i} h => by
    have hk : k < (wts ws).length := by
      rw [wts_len]
      exact (List.getElem?_eq_some_iff.mp h).1
    rw [rests_at p _ hk, rests_at p ws (giv_lt (List.mem_of_getElem? h)).1, ew h, hs]
  have el : left p (wts ws) = left p ws := by
    unfold left told
    rw [hs, wts_map ws (fun w => p * w / ws.sum) (by simp) hw]
  rw [parts_at p hW' hk, parts_at p hW hi, et, el]
  congr 1
  by_cases c : (rests p ws).getD i 0 = 0
  · rw [if_neg (no_rest p hW hi c), if_neg]
    rw [← el]
    exact no_rest p hW' hk ((er h).trans c)
  · have : aheadOf (rests p (wts ws)) k = aheadOf (rests p ws) i := by
      unfold aheadOf
      rw [rests_len, rests_len, wts_len]
      have pos := rest_nn p hW hi
      -- those ahead of i are givers
      have e1 : ((List.range ws.length).filter fun m => isAhead (rests p ws) m i) = (giv ws).filter fun m => isAhead (rests p ws) m i := by
        unfold giv
        rw [List.filter_filter]
        refine List.filter_congr fun m hm => ?_
        cases q : isAhead (rests p ws) m i with
        | false => rfl
        | true =>
          unfold isAhead at q
          have q := of_decide_eq_true q
          have hm := List.mem_range.mp hm
          have hpos : 0 < (rests p ws).getD m 0 := by omega
          have : 0 < ws.getD m 0 := by
            have hn := hw (ws.getD m 0) (by rw [List.getD_eq_getElem?_getD, List.getElem?_eq_getElem hm]; exact List.getElem_mem hm)
            rcases Int.lt_or_eq_of_le hn with z | z
            · exact z
            · rw [rests_at p ws hm, ← z, Int.mul_zero] at hpos
              simp at hpos
          rw [decide_eq_true this]
          rfl
      rw [e1]
      have e2 : giv ws = (List.range (giv ws).length).map fun k => (giv ws).getD k 0 := by
        refine List.ext_getElem? fun k => ?_
        by_cases hk : k < (giv ws).length
        · rw [List.getElem?_map, List.getElem?_range hk, List.getElem?_eq_getElem hk]
          show _ = some ((giv ws).getD k 0)
          rw [List.getD_eq_getElem?_getD, List.getElem?_eq_getElem hk]
          rfl
        · rw [List.getElem?_eq_none (by omega), List.getElem?_eq_none (by rw [List.length_map, List.length_range]; omega)]
      conv => rhs; rw [e2]
      rw [List.filter_map, List.length_map]
      congr 1
      refine List.filter_congr fun m hm => ?_
      have hm := List.mem_range.mp hm
      have gm : (giv ws)[m]? = some ((giv ws).getD m 0) := by rw [List.getD_eq_getElem?_getD, List.getElem?_eq_getElem hm]; rfl
      show isAhead (rests p (wts ws)) m k = isAhead (rests p ws) ((giv ws).getD m 0) i
      unfold isAhead
      rw [er gm, er h]
      have hk2 : k < (giv ws).length := (List.getElem?_eq_some_iff.mp h).1
      have lt : m < k ↔ (giv ws).getD m 0 < i := by
        have em := (List.getElem?_eq_some_iff.mp gm).2
        have ei := (List.getElem?_eq_some_iff.mp h).2
        rw [← em, ← ei]
        constructor
        · exact fun z => List.pairwise_iff_getElem.mp (giv_sorted ws) m k hm hk2 z
        · intro z
          rcases Nat.lt_trichotomy m k with y | y | y
          · exact y
          · subst y; omega
          · have := List.pairwise_iff_getElem.mp (giv_sorted ws) k m hk2 hm y
            omega
      rw [decide_eq_decide]
      rw [lt]
    rw [this]
/-- no part is above its weight, where the sum is no more than the weights -/
theorem parts_le {p : Int} {ws : List Int} (hp : 0 ≤ p) (hpW : p ≤ ws.sum) (hw : ∀ w ∈ ws, 0 ≤ w) (hW : 0 < ws.sum) {i : Nat} (hi : i < ws.length) : 0 ≤ (partsM p ws).getD i 0 ∧ (partsM p ws).getD i 0 ≤ ws.getD i 0 := by
  have hn := hw (ws.getD i 0) (by rw [List.getD_eq_getElem?_getD, List.getElem?_eq_getElem hi]; exact List.getElem_mem hi)
  have t0 : 0 ≤ (told p ws).getD i 0 := by
    rw [told_at p ws hi]
    exact Int.ediv_nonneg (Int.mul_nonneg hp hn) (by omega)
  have e := told_rest p ws hi
  have r0 := rest_nn p hW hi
  have pw : p * ws.getD i 0 ≤ ws.sum * ws.getD i 0 := Int.mul_le_mul_of_nonneg_right hpW hn
  have tl : (told p ws).getD i 0 ≤ ws.getD i 0 := by
    have : ws.sum * (told p ws).getD i 0 ≤ ws.sum * ws.getD i 0 := by omega
    exact Int.le_of_mul_le_mul_left this hW
  rw [parts_at p hW hi]
  by_cases c : (rests p ws).getD i 0 = 0
  · rw [if_neg (no_rest p hW hi c)]
    omega
  · have : (told p ws).getD i 0 < ws.getD i 0 := by
      rcases Int.lt_or_eq_of_le tl with z | z
      · exact z
      · exfalso
        rw [z] at e
        omega
    split <;> omega
/-! what stopped lines lack, carried -/
def pos (t : List Int) : List Int := t.map fun x => if 0 < x then x else 0
theorem pos_at (t : List Int) {i : Nat} (h : i < t.length) : (pos t).getD i 0 = if 0 < t.getD i 0 then t.getD i 0 else 0 := getD_map0 t h
theorem pos_len (t : List Int) : (pos t).length = t.length := List.length_map ..
theorem pos_nn (t : List Int) : ∀ w ∈ pos t, 0 ≤ w := fun w hw => by
  obtain ⟨x, _, rfl⟩ := List.mem_map.mp hw
  split <;> omega
def giversM (t : List Int) : List Nat := (List.range t.length).filter fun i => decide (0 < t.getD i 0)
theorem givers_eq (t : List Int) : giversM t = giv (pos t) := by
  unfold giversM giv
  rw [pos_len]
  refine List.filter_congr fun i hi => ?_
  rw [pos_at t (List.mem_range.mp hi)]
  rw [decide_eq_decide]
  split <;> omega
theorem givW_eq (t : List Int) : (giversM t).map (fun i => t.getD i 0) = wts (pos t) := by
  unfold wts
  rw [← givers_eq]
  refine List.map_congr_left fun i hi => ?_
  unfold giversM at hi
  rw [List.mem_filter] at hi
  rw [pos_at t (List.mem_range.mp hi.1), if_pos (of_decide_eq_true hi.2)]
theorem sum_le_pos : ∀ t : List Int, t.sum ≤ (pos t).sum
  | [] => Int.le_refl _
  | y :: t => by
    have := sum_le_pos t
    show (y :: t).sum ≤ ((if 0 < y then y else 0) :: pos t).sum
    rw [List.sum_cons, List.sum_cons]
    split <;> omega
theorem pos_sum : ∀ (t : List Int) (a : Nat), a < t.length → t.getD a 0 < 0 → -(t.getD a 0) ≤ (pos t).sum - t.sum
  | [], a, h, _ => by simp at h
  | x :: t, 0, _, hx => by
    have hx : x < 0 := hx
    have := sum_le_pos t
    show -x ≤ ((if 0 < x then x else 0) :: pos t).sum - (x :: t).sum
    rw [List.sum_cons, List.sum_cons, if_neg (by omega)]
    omega
  | x :: t, a + 1, h, hx => by
    have := pos_sum t a (by simpa using h) hx
    show -(t.getD a 0) ≤ ((if 0 < x then x else 0) :: pos t).sum - (x :: t).sum
    rw [List.sum_cons, List.sum_cons]
    split <;> omega
def givenM (t : List Int) (a : Nat) : List Int := partsM (-(t.getD a 0)) (wts (pos t))
/-- pence taken from the givers -/
def takeM (t : List Int) (gs : List Nat) (xs : List Int) : List Int := (gs.zip xs).foldl (fun t q => t.set q.1 (t.getD q.1 0 - q.2)) t
def stepC (t : List Int) (a : Nat) : List Int := if 0 ≤ t.getD a 0 then t else takeM (t.set a (t.getD a 0 + (givenM t a).sum)) (giversM t) (givenM t a)
def stepL (t : List Int) (a : Nat) : List Int := if 0 < -(t.getD a 0) then List.zipWith (fun x y => x - y) (t.set a 0) (partsM (-(t.getD a 0)) (pos t)) else t
theorem take_len (qs : List (Nat × Int)) : ∀ t : List Int, (qs.foldl (fun t q => t.set q.1 (t.getD q.1 0 - q.2)) t).length = t.length := by
  induction qs with
  | nil => exact fun t => rfl
  | cons q qs ih =>
    intro t
    rw [List.foldl_cons, ih, List.length_set]
theorem set_getD (t : List Int) (j i : Nat) (v : Int) (h : j < t.length) : (t.set j v).getD i 0 = if i = j then v else t.getD i 0 := by
  rw [List.getD_eq_getElem?_getD, List.getD_eq_getElem?_getD]
  by_cases c : i = j
  · subst c
    rw [List.getElem?_set_self h, if_pos rfl]
    rfl
  · rw [List.getElem?_set_ne (fun z => c z.symm), if_neg c]
theorem take_out (qs : List (Nat × Int)) : ∀ (t : List Int) (i : Nat), (∀ q ∈ qs, q.1 < t.length) → (∀ q ∈ qs, q.1 ≠ i) → (qs.foldl (fun t q => t.set q.1 (t.getD q.1 0 - q.2)) t).getD i 0 = t.getD i 0 := by
  induction qs with
  | nil => exact fun t i _ _ => rfl
  | cons q qs ih =>
    intro t i hl hn
    rw [List.foldl_cons, ih _ _ (fun r hr => by rw [List.length_set]; exact hl r (List.mem_cons_of_mem _ hr)) fun r hr => hn r (List.mem_cons_of_mem _ hr), set_getD _ _ _ _ (hl q List.mem_cons_self), if_neg fun z => hn q List.mem_cons_self z.symm]
theorem take_in (qs : List (Nat × Int)) : ∀ (t : List Int) (i : Nat) (x : Int), (∀ q ∈ qs, q.1 < t.length) → (qs.map (·.1)).Nodup → (i, x) ∈ qs → (qs.foldl (fun t q => t.set q.1 (t.getD q.1 0 - q.2)) t).getD i 0 = t.getD i 0 - x := by
  induction qs with
  | nil => exact fun t i x _ _ h => by cases h
  | cons q qs ih =>
    intro t i x hl hn hm
    rw [List.map_cons, List.nodup_cons] at hn
    rw [List.foldl_cons]
    have hl' : ∀ r ∈ qs, r.1 < (t.set q.1 (t.getD q.1 0 - q.2)).length := fun r hr => by rw [List.length_set]; exact hl r (List.mem_cons_of_mem _ hr)
    rcases List.mem_cons.mp hm with e | e
    · subst e
      rw [take_out _ _ _ hl' fun r hr z => hn.1 (List.mem_map.mpr ⟨r, hr, z⟩), set_getD _ _ _ _ (hl _ List.mem_cons_self), if_pos rfl]
    · have ne : i ≠ q.1 := fun z => hn.1 (List.mem_map.mpr ⟨(i, x), e, z⟩)
      rw [ih _ i x hl' hn.2 e, set_getD _ _ _ _ (hl q List.mem_cons_self), if_neg ne]
theorem zipW_getD {xs ys : List Int} {i : Nat} (h1 : i < xs.length) (h2 : i < ys.length) : (List.zipWith (fun x y => x - y) xs ys).getD i 0 = xs.getD i 0 - ys.getD i 0 := by
  rw [List.getD_eq_getElem?_getD, List.getElem?_zipWith, List.getD_eq_getElem?_getD, List.getD_eq_getElem?_getD, List.getElem?_eq_getElem h1, List.getElem?_eq_getElem h2]
  rfl
theorem step_eq {t : List Int} {a : Nat} (ha : a < t.length) (h0 : t.sum = 0) : stepC t a = stepL t a := by
  unfold stepC stepL
  by_cases c : 0 ≤ t.getD a 0
  · rw [if_pos c, if_neg (by omega)]
  · rw [if_neg c, if_pos (by omega)]
    have hps := pos_sum t a ha (by omega)
    have hW : 0 < (pos t).sum := by omega
    have hWw : 0 < (wts (pos t)).sum := by rw [wts_sum _ (pos_nn t)]; exact hW
    have gs : (givenM t a).sum = -(t.getD a 0) := parts_sum _ hWw
    rw [gs, show t.getD a 0 + -(t.getD a 0) = 0 by omega]
    unfold takeM
    have gl : (givenM t a).length = (giversM t).length := by
      unfold givenM
      rw [partsM_len, wts_len, givers_eq]
    have hl : ∀ q ∈ (giversM t).zip (givenM t a), q.1 < (t.set a 0).length := fun q hq => by
      have := (List.of_mem_zip hq).1
      unfold giversM at this
      rw [List.length_set]
      exact List.mem_range.mp (List.mem_filter.mp this).1
    refine ext_getD (by rw [take_len, List.length_set, List.length_zipWith, List.length_set, partsM_len, pos_len, Nat.min_self]) fun i hi => ?_
    rw [take_len, List.length_set] at hi
    have rhs : (List.zipWith (fun x y => x - y) (t.set a 0) (partsM (-(t.getD a 0)) (pos t))).getD i 0 = (t.set a 0).getD i 0 - (partsM (-(t.getD a 0)) (pos t)).getD i 0 := by
      have h1 : i < (t.set a 0).length := by rw [List.length_set]; exact hi
      have h2 : i < (partsM (-(t.getD a 0)) (pos t)).length := by rw [partsM_len, pos_len]; exact hi
      exact zipW_getD h1 h2
    rw [rhs]
    by_cases g : i ∈ giversM t
    · obtain ⟨k, hk⟩ := List.getElem?_of_mem g
      have hk' : k < (givenM t a).length := by
        rw [gl]
        exact (List.getElem?_eq_some_iff.mp hk).1
      have m : (i, (givenM t a).getD k 0) ∈ (giversM t).zip (givenM t a) := by
        refine List.mem_of_getElem? (i := k) ?_
        rw [List.getElem?_zip_eq_some]
        exact ⟨hk, by rw [List.getD_eq_getElem?_getD, List.getElem?_eq_getElem hk']; rfl⟩
      rw [take_in _ _ _ _ hl ?_ m]
      · congr 1
        unfold givenM
        exact parts_wts _ (pos_nn t) hW (by rw [← givers_eq]; exact hk)
      · rw [List.map_fst_zip (by omega), givers_eq]
        exact giv_nodup _
    · rw [take_out _ _ _ hl fun q hq z => g (by rw [← z]; exact (List.of_mem_zip hq).1)]
      rw [parts_none _ hW (by rw [pos_len]; exact hi), Int.sub_zero]
      rw [pos_at t hi]
      have : ¬ 0 < t.getD i 0 := fun z => g (by unfold giversM; exact List.mem_filter.mpr ⟨List.mem_range.mpr hi, decide_eq_true z⟩)
      rw [if_neg this]
/-- what a step leaves -/
theorem stepL_len (t : List Int) (a : Nat) : (stepL t a).length = t.length := by
  unfold stepL
  split
  · rw [List.length_zipWith, List.length_set, partsM_len, pos_len, Nat.min_self]
  · rfl
theorem stepL_at {t : List Int} {a : Nat} (ha : a < t.length) (c : t.getD a 0 < 0) {i : Nat} (hi : i < t.length) : (stepL t a).getD i 0 = (if i = a then 0 else t.getD i 0) - (partsM (-(t.getD a 0)) (pos t)).getD i 0 := by
  unfold stepL
  rw [if_pos (by omega)]
  have h1 : i < (t.set a 0).length := by rw [List.length_set]; exact hi
  have h2 : i < (partsM (-(t.getD a 0)) (pos t)).length := by rw [partsM_len, pos_len]; exact hi
  rw [← set_getD t a i 0 ha]
  exact zipW_getD h1 h2
/-- those above 0 stay from 0 on and don't rise, those below stay, a is 0 -/
theorem stepL_in {t : List Int} {a : Nat} (ha : a < t.length) (h0 : t.sum = 0) {i : Nat} (hi : i < t.length) : (0 < t.getD i 0 → 0 ≤ (stepL t a).getD i 0 ∧ (stepL t a).getD i 0 ≤ t.getD i 0) ∧ (t.getD i 0 ≤ 0 → (stepL t a).getD i 0 = if i = a then 0 else t.getD i 0) ∨ (stepL t a = t ∧ 0 ≤ t.getD a 0) := by
  by_cases c : t.getD a 0 < 0
  · refine .inl ⟨fun hp => ?_, fun hp => ?_⟩
    · have hps := pos_sum t a ha c
      have := parts_le (p := -(t.getD a 0)) (ws := pos t) (by omega) (by omega) (pos_nn t) (by omega) (i := i) (by rw [pos_len]; exact hi)
      rw [pos_at t hi, if_pos hp] at this
      rw [stepL_at ha c hi, if_neg fun z => by subst z; omega]
      omega
    · have hps := pos_sum t a ha c
      rw [stepL_at ha c hi, parts_none _ (by omega) (by rw [pos_len]; exact hi) (by rw [pos_at t hi, if_neg (by omega)]), Int.sub_zero]
  · refine .inr ⟨?_, by omega⟩
    unfold stepL
    rw [if_neg (by omega)]
theorem zip_sum : ∀ (xs ys : List Int), xs.length = ys.length → (List.zipWith (fun x y => x - y) xs ys).sum = xs.sum - ys.sum
  | [], [], _ => rfl
  | x :: xs, y :: ys, h => by
    rw [List.zipWith_cons_cons, List.sum_cons, List.sum_cons, List.sum_cons, zip_sum xs ys (by simpa using h)]
    omega
theorem set_sum0 : ∀ (t : List Int) (j : Nat) (v : Int), j < t.length → (t.set j v).sum = t.sum - t.getD j 0 + v
  | [], j, v, h => by simp at h
  | x :: t, 0, v, _ => by
    show (v :: t).sum = (x :: t).sum - x + v
    rw [List.sum_cons, List.sum_cons]
    omega
  | x :: t, j + 1, v, h => by
    show (x :: t.set j v).sum = (x :: t).sum - t.getD j 0 + v
    rw [List.sum_cons, List.sum_cons, set_sum0 t j v (by simpa using h)]
    omega
theorem stepL_sum {t : List Int} {a : Nat} (ha : a < t.length) (h0 : t.sum = 0) : (stepL t a).sum = 0 := by
  unfold stepL
  by_cases c : 0 < -(t.getD a 0)
  · have hps := pos_sum t a ha (by omega)
    rw [if_pos c, zip_sum _ _ (by rw [List.length_set, partsM_len, pos_len]), parts_sum _ (by omega), set_sum0 _ _ _ ha]
    omega
  · rw [if_neg c]
    exact h0
def carriedM (t : List Int) (st : List Nat) : List Int := st.foldl stepL t
/-- all within B stay so -/
def Acc (B : Int) (n : Nat) (t : List Int) : Prop := t.length = n ∧ t.sum = 0 ∧ ∀ i, i < n → -B ≤ t.getD i 0 ∧ t.getD i 0 ≤ B
theorem Acc.step {B : Int} {n : Nat} {t : List Int} {a : Nat} (h : Acc B n t) (hB : 0 ≤ B) (ha : a < n) : Acc B n (stepL t a) := by
  obtain ⟨hl, h0, hb⟩ := h
  refine ⟨by rw [stepL_len, hl], stepL_sum (by omega) h0, fun i hi => ?_⟩
  have hbi := hb i hi
  rcases stepL_in (a := a) (by omega) h0 (i := i) (by omega) with ⟨h1, h2⟩ | ⟨e, _⟩
  · by_cases c : 0 < t.getD i 0
    · have := h1 c
      omega
    · rw [h2 (by omega)]
      split <;> omega
  · rw [e]
    exact hbi
theorem Acc.all {B : Int} {n : Nat} (hB : 0 ≤ B) : ∀ {st : List Nat} {t : List Int}, Acc B n t → (∀ s ∈ st, s < n) → Acc B n (carriedM t st)
  | [], t, h, _ => h
  | a :: st, t, h, hs => Acc.all (st := st) (t := stepL t a) hB (h.step hB (hs a List.mem_cons_self)) fun s z => hs s (List.mem_cons_of_mem _ z)
end Pm
namespace Th
open PySem PySem.Spec PyProof.Rows L2
/-! names, pairs, what stays -/
abbrev nS (l : List Nat) : V := .str (SX.S l)
def Lower (l : List Nat) : Prop := ∀ c ∈ l, 97 ≤ c ∧ c ≤ 122
/-- a name: one to eight letters -/
def IsNm (l : List Nat) : Prop := 1 ≤ l.length ∧ l.length ≤ 8 ∧ Lower l
abbrev abc : Str := Str.ofString "abcdefghijklmnopqrstuvwxyz"
theorem abc_list : abc.cps.toList = (List.range 26).map (97 + ·) := by decide +kernel
theorem abc_at {d : Int} (h0 : 0 ≤ d) (h1 : d < 26) : atI abc.cps.toList d = some (97 + d.toNat) := by
  obtain ⟨j, rfl⟩ : ∃ j : Nat, d = (j : Int) := ⟨d.toNat, by omega⟩
  refine atI_nat ?_
  rw [abc_list, List.getElem?_map, List.getElem?_range (by omega)]
  rfl
theorem joinL_one : ∀ cs : List Nat, TL.joinL [] (cs.map fun c => [c]) = cs
  | [] => rfl
  | [_] => rfl
  | c :: d :: cs => by
    show [c] ++ ([] ++ TL.joinL [] ((d :: cs).map fun c => [c])) = _
    rw [joinL_one (d :: cs)]
    rfl
theorem join_signs (cs : List Nat) : Txt.join (SX.S []) ((cs.map fun c => [c]).map SX.S) = SX.S cs := by rw [SX.join_S, joinL_one]
theorem p26 : (0 : Int) < 26 := by decide
theorem paired_snoc {α β : Type} {R : α → β → Prop} : ∀ {as : List α} {bs : List β} {a : α} {b : β}, Paired R as bs → R a b → Paired R (as ++ [a]) (bs ++ [b])
  | _, _, _, _, .nil, r => .cons r .nil
  | _, _, _, _, .cons q t, r => .cons q (paired_snoc t r)
theorem paired_imp {α β : Type} {R S : α → β → Prop} : ∀ {as : List α} {bs : List β}, Paired R as bs → (∀ a ∈ as, ∀ b, R a b → S a b) → Paired S as bs
  | _, _, .nil, _ => .nil
  | _, _, .cons q t, f => .cons (f _ (List.mem_cons_self ..) _ q) (paired_imp t fun a ha b r => f a (List.mem_cons_of_mem _ ha) b r)
theorem paired_get {α β : Type} {R : α → β → Prop} : ∀ {as : List α} {bs : List β} {i : Nat} {a : α}, Paired R as bs → as[i]? = some a → ∃ b, bs[i]? = some b ∧ R a b
  | _, _, _, _, .nil, h => by simp at h
  | _, _, 0, _, .cons q t, h => by
    have e := Option.some.inj h
    subst e
    exact ⟨_, rfl, q⟩
  | _, _, i + 1, _, .cons q t, h => paired_get (i := i) t h
theorem paired_len {α β : Type} {R : α → β → Prop} : ∀ {as : List α} {bs : List β}, Paired R as bs → as.length = bs.length
  | _, _, .nil => rfl
  | _, _, .cons _ t => congrArg Nat.succ (paired_len t)
theorem one_sz {x : V} : [x].length ≤ sizeLine := by show 1 ≤ sizeLine; decide
theorem paired_append {α β : Type} {R : α → β → Prop} : ∀ {as cs : List α} {bs ds : List β}, Paired R as bs → Paired R cs ds → Paired R (as ++ cs) (bs ++ ds)
  | _, _, _, _, .nil, h => h
  | _, _, _, _, .cons q t, h => .cons q (paired_append t h)
theorem paired_take {α β : Type} {R : α → β → Prop} : ∀ {as : List α} {bs : List β} (n : Nat), Paired R as bs → Paired R (as.take n) (bs.take n)
  | _, _, 0, _ => by rw [List.take_zero, List.take_zero]; exact .nil
  | _, _, n + 1, .nil => .nil
  | _, _, n + 1, .cons q t => .cons q (paired_take n t)
theorem cut_to (xs : List V) (j : Nat) : cutV xs none (some (j : Int)) = xs.take j := by
  unfold cutV
  rw [HT.sIx_none, HT.sIx_nat, List.drop_zero, Nat.sub_zero]
  by_cases h : j ≤ xs.length
  · rw [Nat.min_eq_left h]
  · rw [Nat.min_eq_right (by omega), List.take_of_length_le (Nat.le_refl _), List.take_of_length_le (by omega)]
abbrev Nm := List Nat
def TK (H H' : Hp) : Prop := ∀ a xs, H a = some (.tup xs) → H' a = some (.tup xs)
theorem TK.of {H H' : Hp} (s : Same H H') : TK H H' := fun a xs e => s a _ e
theorem TK.trans {H H' H2 : Hp} (a : TK H H') (b : TK H' H2) : TK H H2 := fun c xs e => b c xs (a c xs e)
theorem TK.keep {p : Addr} {H H' : Hp} (k : Keep p H H') (b : Bag H p) : TK H H' := fun a xs e => k a _ (fun z => by
  obtain ⟨g, r, e', _⟩ := b
  rw [z, e'] at e
  cases e) e
theorem TK.upd {c : Addr} {H : Hp} {o : HO} (h : ∀ xs, H c ≠ some (.tup xs)) : TK H (upd H c o) := fun a xs e => by
  rw [upd_ne (fun z => h xs (by rw [← z]; exact e))]
  exact e
theorem Keep.set {p S : Addr} {H H' : Hp} {o : HO} (k : Keep p H H') (n : H S = none) : Keep p H (L2.upd H' S o) := fun c o nc ec => by
  rw [upd_ne (ne_of_none ec n)]
  exact k c o nc ec
theorem same_set {S : Addr} {H H' : Hp} {o : HO} (k : Same H H') (n : H S = none) : Same H (upd H' S o) := fun c o ec => by
  rw [upd_ne (ne_of_none ec n)]
  exact k c o ec
theorem two_sz {x y : V} : [x, y].length ≤ sizeLine := by show 2 ≤ sizeLine; decide
theorem four_sz {x y z u : V} : [x, y, z, u].length ≤ sizeLine := by show 4 ≤ sizeLine; decide
theorem paired_drop {α β : Type} {R : α → β → Prop} : ∀ {as : List α} {bs : List β} (n : Nat), Paired R as bs → Paired R (as.drop n) (bs.drop n)
  | _, _, 0, h => h
  | _, _, n + 1, .nil => .nil
  | _, _, n + 1, .cons q t => paired_drop n t
theorem paired_ins {α β : Type} {R : α → β → Prop} {as : List α} {bs : List β} (n : Nat) {a : α} {b : β} (h : Paired R as bs) (r : R a b) : Paired R (as.take n ++ [a] ++ as.drop n) (bs.take n ++ [b] ++ bs.drop n) :=
  paired_append (paired_append (paired_take n h) (.cons r .nil)) (paired_drop n h)
theorem perm_ins {α : Type} (xs : List α) (n : Nat) (x : α) : (xs.take n ++ [x] ++ xs.drop n).Perm (xs ++ [x]) := by
  have h1 : (xs.take n ++ [x] ++ xs.drop n).Perm (x :: (xs.take n ++ xs.drop n)) := by
    rw [List.append_assoc]
    exact List.perm_middle
  rw [List.take_append_drop] at h1
  exact h1.trans (List.perm_append_comm (l₁ := [x]) (l₂ := xs))
theorem ins_map {xs : List Addr} {n : Nat} {x : Addr} : (xs.map V.ref).take n ++ [V.ref x] ++ (xs.map V.ref).drop n = (xs.take n ++ [x] ++ xs.drop n).map V.ref := by
  simp only [List.map_append, List.map_take, List.map_drop, List.map_cons, List.map_nil]
theorem nodup_inj {α : Type} {zs : List α} (h : zs.Nodup) {x y : Nat} {z : α} (h1 : zs[x]? = some z) (h2 : zs[y]? = some z) : x = y := by
  rw [List.nodup_iff_pairwise_ne, List.pairwise_iff_getElem] at h
  obtain ⟨l1, g1⟩ := List.getElem?_eq_some_iff.mp h1
  obtain ⟨l2, g2⟩ := List.getElem?_eq_some_iff.mp h2
  rcases Nat.lt_trichotomy x y with c | c | c
  · exact absurd (g1.trans g2.symm) (h x y l1 l2 c)
  · exact c
  · exact absurd (g2.trans g1.symm) (h y x l2 l1 c)
theorem nm_ok {z : Nm} (h : IsNm z) : PyData.strOk (SX.S z) = true := by
  unfold PyData.strOk
  rw [Array.all_eq_true']
  intro c hc
  have hc : c ∈ z := by simpa [SX.S] using hc
  have := h.2.2 c hc
  exact decide_eq_true (by omega)
end Th
/-! tuple + tuple and slices of tuples, whichever object comes -/
namespace Th
open PySem PySem.Spec PyProof.Rows L2
def rCatS (K : PySem.W.Frag) : R2 := fun x y H Q => ∃ (a b : Addr) (xs ys : List V), x = .ref a ∧ y = .ref b ∧ H a = some (.tup xs) ∧ H b = some (.tup ys) ∧ xs.length + ys.length ≤ sizeLine ∧ ∀ (c : Addr) (H' : Hp), Same H H' → H' c = some (.tup (xs ++ ys)) → Q (.ref c) H'
theorem op_catS {X : Cx} : OpR X (binaryOp .Add) (rCatS X.K) := by
  intro pins s σ H x y v u Q I rx ry h
  obtain ⟨a, b, xs, ys, rfl, rfl, hx, hy, hz, h⟩ := h
  exact op_catA pins s σ H _ _ v u Q I rx ry ⟨a, b, xs, ys, rfl, rfl, SqT.of hx, SqT.of hy, hz, fun e => h b H (.refl _) (by rw [hy, e]; rfl), fun _ e => h a H (.refl _) (by rw [hx, e, List.append_nil]), fun _ _ p np => h p _ (same_upd np) upd_same⟩
def rSlS (K : PySem.W.Frag) : V → Option Int → Option Int → Hp → VK → Prop := fun x lo hi H Q => ∃ (a : Addr) (xs : List V), x = .ref a ∧ H a = some (.tup xs) ∧ ∀ (c : Addr) (H' : Hp), Same H H' → H' c = some (.tup (cutV xs lo hi)) → Q (.ref c) H'
theorem sl_tupS {X : Cx} : SlR X (rSlS X.K) := by
  intro pins s σ H x v vl vu lo hi sl Q I rx hs pl pu h
  obtain ⟨a, xs, rfl, hx, h⟩ := h
  exact sl_tupA pins s σ H _ v vl vu lo hi sl Q I rx hs pl pu ⟨a, xs, rfl, SqT.of hx, fun e => h a H (.refl _) (by rw [hx]; unfold cutV; rw [e.1, e.2, List.drop_zero, Nat.sub_zero, List.take_length]), fun _ p np => h p _ (same_upd np) upd_same⟩
end Th
/-! xs[a:c] = ys, both parts told, within bounds -/
namespace Sls
open PySem PySem.Spec PyProof.Rows L2
def gSlc (to : TE) (tl th : TO) : TG := fun v σ H Q => to σ H fun x H1 => tl σ H1 fun l H2 => th σ H2 fun u H3 => ∃ (p b : Addr) (xs ys : List V) (a c : Int), x = .ref p ∧ v = .ref b ∧ l = some a ∧ u = some c ∧ H3 p = some (.lst xs) ∧ H3 b = some (.lst ys) ∧ p ≠ b ∧ 0 ≤ a ∧ a ≤ c ∧ c ≤ xs.length ∧ xs.length + ys.length ≤ sizeLine ∧ Q σ (upd H3 p (.lst (xs.take a.toNat ++ ys ++ xs.drop c.toNat)))
theorem pg_slc {X : Cx} {o : Expr} {lo hi : Option Expr} {p2 pos : Pos} {to : TE} {tl th : TO} (ho : PE X o to) (hl : PO X lo tl) (hu : PO X hi th)
    (ha : ∀ v, assign (.Subscript o (.Slice lo hi none p2) pos) X.env v = (do
      let ov ← holding [v] (eval o X.env)
      let iv ← holding [v, ov] (eval (.Slice lo hi none p2) X.env)
      standAt pos
      holding [v, ov, iv] (setItem ov iv v)
      release [iv, v, ov] []) := by intro _; rfl) : PG X (.Subscript o (.Slice lo hi none p2) pos) (gSlc to tl th) := by
  refine ⟨fun pins s σ H v u Q I r h => ?_⟩
  rw [ha]
  refine wpAny_bind (wpAny_holding (thn (ho.run pins s σ H _ I h) fun ov s1 ⟨x, H1, I1, r1, q1⟩ => ?_))
  refine wpAny_bind (wpAny_holding (wpAny_Slice (thn (hl.run pins s1 σ H1 _ I1 q1) fun vl s2 ⟨l, H2, I2, pl, q2⟩ => thn (hu.run pins s2 σ H2 _ I2 q2) fun vu s3 ⟨uu, H3, I3, pu, q3⟩ => ?_)))
  rw [evalPart_none]
  refine wpAny_pure ?_
  have I4 : Inv X pins σ H3 { s3 with heap := s3.heap.push { cls := .type "slice", data := .fields #[vl, vu, .none] } } := I3.kept (t' := s3.toks) fun b ob q => Heap.get?_push_of_some _ q
  obtain ⟨p, b, xs, ys, a, c, rfl, rfl, rfl, rfl, hp, hb, ne, h0, hac, hc, hz, q⟩ := q3
  cases r1
  cases r
  have ra : RelV (.int a) vl := by
    cases pl with
    | int i t => exact ⟨t, rfl⟩
  have rc : RelV (.int c) vu := by
    cases pu with
    | int i t => exact ⟨t, rfl⟩
  refine wpAny_bind (wpAny_standAt (wpAny_bind (wpAny_holding (set_slice I4 hp hb ne (Heap.IsSliceOf.new ..) ra rc h0 hac hc hz fun s5 I5 => ?_))))
  exact wpAny_release ⟨σ, _, I5, q⟩
end Sls
set_option synthInstance.maxHeartbeats 400000
set_option synthInstance.maxSize 1000
/-! few payments: sums of sets, the table, groups, payments -/
namespace Py
/-! bits of numbers below 256 -/
def bit (S a : Nat) : Bool := S / 2 ^ a % 2 == 1
theorem bit_off : ∀ S, S < 256 → ∀ a, a < 8 → bit S a = true → 2 ^ a ≤ S ∧ bit (S - 2 ^ a) a = false := by decide +kernel
theorem bit_off2 : ∀ S, S < 256 → ∀ a, a < 8 → bit S a = true → ∀ b, b < 8 → b ≠ a → bit (S - 2 ^ a) b = bit S b := by decide +kernel
theorem bit_on : ∀ n, n ≤ 8 → ∀ S, S < 2 ^ n → ∀ a, a < n → bit S a = false → S + 2 ^ a < 2 ^ n ∧ bit (S + 2 ^ a) a = true := by
  have h : ∀ n, n < 9 → ∀ S, S < 256 → ∀ a, a < 8 → S < 2 ^ n → a < n → bit S a = false → S + 2 ^ a < 2 ^ n ∧ bit (S + 2 ^ a) a = true := by decide +kernel
  intro n hn S hS a ha
  have : 2 ^ n ≤ 2 ^ 8 := Nat.pow_le_pow_right (by decide) hn
  exact h n (by omega) S (by omega) a (by omega) hS ha
theorem bit_on2 : ∀ S, S < 256 → ∀ a, a < 8 → bit S a = false → ∀ b, b < 8 → b ≠ a → bit (S + 2 ^ a) b = bit S b := by decide +kernel
theorem bit_ex : ∀ n, n ≤ 8 → ∀ S, S < 2 ^ n → 0 < S → ∃ a, a < n ∧ bit S a = true := by
  have h : ∀ n, n < 9 → ∀ S, S < 256 → S < 2 ^ n → 0 < S → ∃ a, a < n ∧ bit S a = true := by decide +kernel
  intro n hn S hS
  have : 2 ^ n ≤ 2 ^ 8 := Nat.pow_le_pow_right (by decide) hn
  exact h n (by omega) S (by omega) hS
theorem bit_full : ∀ n, n ≤ 8 → ∀ a, a < n → bit (2 ^ n - 1) a = true := by
  have h : ∀ n, n < 9 → ∀ a, a < 8 → a < n → bit (2 ^ n - 1) a = true := by decide +kernel
  exact fun n hn a ha => h n (by omega) a (by omega) ha
theorem bit_split : ∀ n, n ≤ 7 → ∀ S, S < 2 ^ n → ∀ a, a < n → bit (2 ^ n + S) a = bit S a ∧ bit (2 ^ n + S) n = true := by
  have h : ∀ n, n < 8 → ∀ S, S < 128 → ∀ a, a < 7 → S < 2 ^ n → a < n → bit (2 ^ n + S) a = bit S a ∧ bit (2 ^ n + S) n = true := by decide +kernel
  intro n hn S hS a ha
  have : 2 ^ n ≤ 2 ^ 7 := Nat.pow_le_pow_right (by decide) hn
  exact h n (by omega) S (by omega) a (by omega) hS ha
theorem bit_low : ∀ n, n ≤ 8 → ∀ S, S < 2 ^ n → ∀ a, a < 8 → n ≤ a → bit S a = false := by
  have h : ∀ n, n < 9 → ∀ S, S < 256 → ∀ a, a < 8 → S < 2 ^ n → n ≤ a → bit S a = false := by decide +kernel
  intro n hn S hS a ha
  have : 2 ^ n ≤ 2 ^ 8 := Nat.pow_le_pow_right (by decide) hn
  exact h n (by omega) S (by omega) a ha hS
/-! sums of sets -/
def sumsM (ws : List Int) : List Int := ws.foldl (fun s w => s ++ s.map (· + w)) [0]
theorem sumsM_snoc (ws : List Int) (w : Int) : sumsM (ws ++ [w]) = sumsM ws ++ (sumsM ws).map (· + w) := by
  unfold sumsM
  rw [List.foldl_append]
  rfl
theorem rev_ind {α : Type} {P : List α → Prop} (h0 : P []) (h1 : ∀ xs x, P xs → P (xs ++ [x])) (xs : List α) : P xs := by
  have h : ∀ ys : List α, P ys.reverse := fun ys => by
    induction ys with
    | nil => exact h0
    | cons y ys ih => rw [List.reverse_cons]; exact h1 _ _ ih
  have := h xs.reverse
  rwa [List.reverse_reverse] at this
theorem sumsM_len (ws : List Int) : (sumsM ws).length = 2 ^ ws.length := by
  refine rev_ind (P := fun ws => (sumsM ws).length = 2 ^ ws.length) rfl (fun xs x ih => ?_) ws
  rw [sumsM_snoc, List.length_append, List.length_map, ih, List.length_append, List.length_singleton, Nat.pow_succ]
  omega
theorem sumsM_zero (ws : List Int) : (sumsM ws).getD 0 0 = 0 := by
  refine rev_ind (P := fun ws => (sumsM ws).getD 0 0 = 0) rfl (fun xs x ih => ?_) ws
  rw [sumsM_snoc, List.getD_eq_getElem?_getD, List.getElem?_append_left (by rw [sumsM_len]; exact Nat.pow_pos (by decide)), ← List.getD_eq_getElem?_getD, ih]
theorem getD_app_l {xs ys : List Int} {i : Nat} (h : i < xs.length) : (xs ++ ys).getD i 0 = xs.getD i 0 := by
  rw [List.getD_eq_getElem?_getD, List.getElem?_append_left h, List.getD_eq_getElem?_getD]
theorem getD_app_r {xs ys : List Int} {i : Nat} : (xs ++ ys).getD (xs.length + i) 0 = ys.getD i 0 := by
  rw [List.getD_eq_getElem?_getD, List.getElem?_append_right (by omega), Nat.add_sub_cancel_left, List.getD_eq_getElem?_getD]
theorem getD_map_add {xs : List Int} {w : Int} {i : Nat} (h : i < xs.length) : (xs.map (· + w)).getD i 0 = xs.getD i 0 + w := by
  rw [List.getD_eq_getElem?_getD, List.getElem?_map, List.getD_eq_getElem?_getD, List.getElem?_eq_getElem h]
  rfl
theorem sumsM_bit (ws : List Int) : ws.length ≤ 8 → ∀ S, S < 2 ^ ws.length → ∀ a, a < ws.length → bit S a = true → (sumsM ws).getD S 0 = (sumsM ws).getD (S - 2 ^ a) 0 + ws.getD a 0 := by
  refine rev_ind (P := fun ws => ws.length ≤ 8 → ∀ S, S < 2 ^ ws.length → ∀ a, a < ws.length → bit S a = true → (sumsM ws).getD S 0 = (sumsM ws).getD (S - 2 ^ a) 0 + ws.getD a 0) (fun _ S _ a ha => absurd ha (Nat.not_lt_zero _)) (fun xs x ih hl S hS a ha hb => ?_) ws
  rw [List.length_append, List.length_singleton] at hl hS ha
  have h8 : 2 ^ (xs.length + 1) ≤ 2 ^ 8 := Nat.pow_le_pow_right (by decide) hl
  have hp : 2 ^ (xs.length + 1) = 2 ^ xs.length + 2 ^ xs.length := by rw [Nat.pow_succ]; omega
  obtain ⟨hle, hoff⟩ := bit_off S (by omega) a (by omega) hb
  have sl := sumsM_len xs
  rw [sumsM_snoc]
  by_cases cS : S < 2 ^ xs.length
  · have ca : a < xs.length := by
      by_cases c : a < xs.length
      · exact c
      · have := bit_low xs.length (by omega) S cS a (by omega) (by omega)
        rw [hb] at this
        cases this
    rw [getD_app_l (i := S) (by rw [sl]; exact cS), getD_app_l (i := S - 2 ^ a) (by rw [sl]; exact Nat.lt_of_le_of_lt (Nat.sub_le _ _) cS), getD_app_l (i := a) ca]
    exact ih (by omega) S cS a ca hb
  · obtain ⟨S', hS'⟩ : ∃ S', S = 2 ^ xs.length + S' := ⟨S - 2 ^ xs.length, by omega⟩
    have hl' : S' < 2 ^ xs.length := by omega
    have e1 : (sumsM xs ++ (sumsM xs).map (· + x)).getD S 0 = (sumsM xs).getD S' 0 + x := by
      rw [hS', ← sl, getD_app_r, getD_map_add (by rw [sl]; exact hl')]
    rw [e1]
    by_cases ca : a = xs.length
    · subst ca
      rw [show S - 2 ^ xs.length = S' by omega, getD_app_l (by rw [sl]; exact hl'), show xs.length = xs.length + 0 from rfl, getD_app_r]
      rfl
    · have ca : a < xs.length := by omega
      have hb' : bit S' a = true := by
        rw [hS', (bit_split xs.length (by omega) S' hl' a ca).1] at hb
        exact hb
      have h2 := bit_off S' (by omega) a (by omega) hb'
      have e2 : S - 2 ^ a = 2 ^ xs.length + (S' - 2 ^ a) := by omega
      rw [e2, ← sl, getD_app_r, getD_map_add (i := S' - 2 ^ a) (by rw [sl]; exact Nat.lt_of_le_of_lt (Nat.sub_le _ _) hl'), getD_app_l (i := a) ca, ih (by omega) S' hl' a ca hb']
      omega
/-! the table of nought sets -/
def zI (sums : List Int) (S : Nat) : Int := if sums.getD S 0 = 0 then 1 else 0
structure TabTo (sums : List Int) (n k : Nat) (tab : List Int) : Prop where
  len : tab.length = k
  zero : tab.getD 0 0 = 0
  ge : ∀ S, 0 < S → S < k → ∀ a, a < n → bit S a = true → tab.getD (S - 2 ^ a) 0 + zI sums S ≤ tab.getD S 0
  ex : ∀ S, 0 < S → S < k → ∃ a, a < n ∧ bit S a = true ∧ tab.getD S 0 = tab.getD (S - 2 ^ a) 0 + zI sums S
theorem TabTo.snoc {sums : List Int} {n k : Nat} {tab : List Int} {x : Int} (h : TabTo sums n k tab) (n8 : n ≤ 8) (k8 : k < 256) (h0 : k = 0 → x = 0) (hge : 0 < k → ∀ a, a < n → bit k a = true → tab.getD (k - 2 ^ a) 0 + zI sums k ≤ x) (hex : 0 < k → ∃ a, a < n ∧ bit k a = true ∧ x = tab.getD (k - 2 ^ a) 0 + zI sums k) : TabTo sums n (k + 1) (tab ++ [x]) := by
  have hl := h.len
  have lo : ∀ i, i < k → (tab ++ [x]).getD i 0 = tab.getD i 0 := fun i hi => getD_app_l (by omega)
  have hk : (tab ++ [x]).getD k 0 = x := by
    rw [show k = tab.length + 0 by omega, getD_app_r]
    rfl
  refine ⟨by rw [List.length_append, List.length_singleton, hl], ?_, fun S h1 h2 a ha hb => ?_, fun S h1 h2 => ?_⟩
  · by_cases c : k = 0
    · subst c
      rw [hk]; exact h0 rfl
    · rw [lo 0 (by omega)]; exact h.zero
  · have := (bit_off S (by omega) a (by omega) hb).1
    have hp : 0 < 2 ^ a := Nat.pow_pos (by decide)
    by_cases c : S = k
    · subst c
      rw [lo _ (by omega), hk]
      exact hge h1 a ha hb
    · rw [lo _ (by omega), lo _ (by omega)]
      exact h.ge S h1 (by omega) a ha hb
  · by_cases c : S = k
    · subst c
      obtain ⟨a, ha, hb, e⟩ := hex h1
      have := (bit_off S (by omega) a (by omega) hb).1
      have hp : 0 < 2 ^ a := Nat.pow_pos (by decide)
      exact ⟨a, ha, hb, by rw [hk, lo _ (by omega)]; exact e⟩
    · obtain ⟨a, ha, hb, e⟩ := h.ex S h1 (by omega)
      have := (bit_off S (by omega) a (by omega) hb).1
      have hp : 0 < 2 ^ a := Nat.pow_pos (by decide)
      exact ⟨a, ha, hb, by rw [lo _ (by omega), lo _ (by omega)]; exact e⟩
/-- a whole table of worths -/
abbrev TabOk (ws tab : List Int) : Prop := TabTo (sumsM ws) ws.length (2 ^ ws.length) tab
def wS (ws : List Int) (as : List Nat) : Int := (as.map fun a => ws.getD a 0).sum
def pS (as : List Nat) : Nat := (as.map fun a => 2 ^ a).sum
theorem wS_cons (ws : List Int) (a : Nat) (as : List Nat) : wS ws (a :: as) = ws.getD a 0 + wS ws as := List.sum_cons
theorem pS_cons (a : Nat) (as : List Nat) : pS (a :: as) = 2 ^ a + pS as := List.sum_cons
theorem wS_app (ws : List Int) (as bs : List Nat) : wS ws (as ++ bs) = wS ws as + wS ws bs := by unfold wS; rw [List.map_append, List.sum_append]
theorem pS_app (as bs : List Nat) : pS (as ++ bs) = pS as + pS bs := by unfold pS; rw [List.map_append, List.sum_append]
theorem perm_sumI {as bs : List Int} (h : as.Perm bs) : as.sum = bs.sum := by
  induction h with
  | nil => rfl
  | cons x _ ih => rw [List.sum_cons, List.sum_cons, ih]
  | swap x y l => simp only [List.sum_cons]; omega
  | trans _ _ a b => exact a.trans b
theorem perm_sumN {as bs : List Nat} (h : as.Perm bs) : as.sum = bs.sum := by
  induction h with
  | nil => rfl
  | cons x _ ih => rw [List.sum_cons, List.sum_cons, ih]
  | swap x y l => simp only [List.sum_cons]; omega
  | trans _ _ a b => exact a.trans b
theorem wS_perm {ws : List Int} {as bs : List Nat} (h : as.Perm bs) : wS ws as = wS ws bs := perm_sumI (h.map _)
theorem pS_perm {as bs : List Nat} (h : as.Perm bs) : pS as = pS bs := perm_sumN (h.map _)
/-- bits put to a set, one by one -/
theorem tab_up {ws tab : List Int} (hl : ws.length ≤ 8) (h : TabOk ws tab) : ∀ (as : List Nat) (S : Nat), S < 2 ^ ws.length → as.Nodup → (∀ a ∈ as, a < ws.length ∧ bit S a = false) →
    S + pS as < 2 ^ ws.length ∧ (sumsM ws).getD (S + pS as) 0 = (sumsM ws).getD S 0 + wS ws as ∧ tab.getD S 0 ≤ tab.getD (S + pS as) 0 ∧ (as ≠ [] → (sumsM ws).getD (S + pS as) 0 = 0 → tab.getD S 0 + 1 ≤ tab.getD (S + pS as) 0) ∧ (∀ b, b < 8 → b ∉ as → bit (S + pS as) b = bit S b) ∧ ∀ a ∈ as, bit (S + pS as) a = true
  | [], S, hS, _, _ => ⟨hS, by show _ = _ + 0; rw [Int.add_zero]; rfl, Int.le_refl _, fun z => absurd rfl z, fun b _ _ => rfl, fun a ha => (by cases ha)⟩
  | a :: as, S, hS, nd, hb => by
    have h8 : 2 ^ ws.length ≤ 2 ^ 8 := Nat.pow_le_pow_right (by decide) hl
    obtain ⟨nd1, nd2⟩ := List.nodup_cons.mp nd
    obtain ⟨ha, hba⟩ := hb a List.mem_cons_self
    obtain ⟨i1, i2, i3, i4, i5, i6⟩ := tab_up hl h as S hS nd2 fun b hm => hb b (List.mem_cons_of_mem _ hm)
    have hba' : bit (S + pS as) a = false := by rw [i5 a (by omega) nd1]; exact hba
    obtain ⟨j1, j2⟩ := bit_on ws.length hl (S + pS as) i1 a ha hba'
    have e : S + pS (a :: as) = S + pS as + 2 ^ a := by rw [pS_cons]; omega
    have hp : 0 < 2 ^ a := Nat.pow_pos (by decide)
    rw [e]
    have es := sumsM_bit ws hl (S + pS as + 2 ^ a) j1 a ha j2
    rw [Nat.add_sub_cancel] at es
    have et := h.ge (S + pS as + 2 ^ a) (by omega) j1 a ha j2
    rw [Nat.add_sub_cancel] at et
    have hz : 0 ≤ zI (sumsM ws) (S + pS as + 2 ^ a) := by unfold zI; split <;> decide
    refine ⟨j1, by rw [es, i2, wS_cons]; omega, by omega, fun _ z => ?_, fun b hb8 hn => ?_, fun b hm => ?_⟩
    · have : zI (sumsM ws) (S + pS as + 2 ^ a) = 1 := by unfold zI; rw [if_pos z]
      omega
    · rw [bit_on2 _ (by omega) a (by omega) hba' b hb8 fun z => hn (z ▸ List.mem_cons_self)]
      exact i5 b hb8 fun z => hn (List.mem_cons_of_mem _ z)
    · rcases List.mem_cons.mp hm with c | c
      · rw [c]; exact j2
      · have hb' := (hb b (List.mem_cons_of_mem _ c)).1
        by_cases cc : b = a
        · rw [cc]; exact j2
        · rw [bit_on2 _ (by omega) a (by omega) hba' b (by omega) cc]
          exact i6 b c
/-- a group that comes to nought and has none within -/
structure MinZ (ws : List Int) (g : List Nat) : Prop where
  zero : wS ws g = 0
  min : ∀ as : List Nat, as.Nodup → (∀ a ∈ as, a ∈ g) → as ≠ [] → wS ws as = 0 → as.length = g.length
theorem MinZ.nil (ws : List Int) : MinZ ws [] := ⟨rfl, fun as _ h ne => absurd (by
  cases as with
  | nil => rfl
  | cons a t => exact absurd (h a List.mem_cons_self) (List.not_mem_nil)) ne⟩
theorem nodup_len_lt {α : Type} [DecidableEq α] : ∀ {l d : List α}, l.Nodup → (∀ x ∈ l, x ∈ d) → l.length ≤ d.length
  | [], _, _, _ => Nat.zero_le _
  | x :: l, d, h, s => by
    obtain ⟨h1, h2⟩ := List.nodup_cons.mp h
    have z := nodup_len_lt (l := l) (d := d.erase x) h2 fun y hy => (List.mem_erase_of_ne (fun e => h1 (by rw [← e]; exact hy))).mpr (s y (List.mem_cons_of_mem _ hy))
    have m := s x List.mem_cons_self
    rw [List.length_erase_of_mem m] at z
    have := List.length_pos_of_mem m
    rw [List.length_cons]
    omega
/-- a step of the table from nought to nought: the group is one that has none within -/
theorem minZ_of {ws tab : List Int} (hl : ws.length ≤ 8) (h : TabOk ws tab) {S : Nat} {g : List Nat} (hS : S < 2 ^ ws.length) (nd : g.Nodup) (hb : ∀ a ∈ g, a < ws.length ∧ bit S a = false) (s0 : (sumsM ws).getD S 0 = 0) (s1 : (sumsM ws).getD (S + pS g) 0 = 0) (ht : tab.getD (S + pS g) 0 ≤ tab.getD S 0 + 1) : MinZ ws g := by
  have hg := tab_up hl h g S hS nd hb
  refine ⟨by have := hg.2.1; omega, fun as nda sub ne z => ?_⟩
  have hle := nodup_len_lt nda sub
  refine Nat.le_antisymm hle ?_
  by_cases c : as.length = g.length
  · omega
  exfalso
  -- the rest
  obtain ⟨bs, hbs⟩ : ∃ bs, bs = g.filter fun a => !decide (a ∈ as) := ⟨_, rfl⟩
  have hp : g.Perm (as ++ bs) := by
    rw [List.perm_ext_iff_of_nodup nd]
    · intro a
      rw [List.mem_append, hbs, List.mem_filter]
      by_cases ca : a ∈ as
      · simp [ca, sub a ca]
      · simp [ca]
    · rw [List.nodup_append]
      refine ⟨nda, by rw [hbs]; exact nd.filter _, fun a ha b hb' e => ?_⟩
      rw [hbs] at hb'
      have := (List.mem_filter.mp hb').2
      rw [← e] at this
      simp [ha] at this
  have hlen := hp.length_eq
  rw [List.length_append] at hlen
  have u1 := tab_up hl h as S hS nda fun a ha => hb a (sub a ha)
  have ndb : bs.Nodup := by rw [hbs]; exact nd.filter _
  have u2 := tab_up hl h bs (S + pS as) u1.1 ndb fun b hb' => by
    have hm := hb'
    rw [hbs] at hm
    obtain ⟨m1, m2⟩ := List.mem_filter.mp hm
    have := hb b m1
    exact ⟨this.1, by rw [u1.2.2.2.2.1 b (by omega) (by simpa using m2)]; exact this.2⟩
  have e : S + pS as + pS bs = S + pS g := by rw [pS_perm hp, pS_app]; omega
  rw [e] at u2
  have t1 := u1.2.2.2.1 ne (by rw [u1.2.1, s0, z]; rfl)
  have t2 := u2.2.2.2.1 (fun z => by rw [z] at hlen; simp at hlen; omega) s1
  omega
end Py
/-! payments among few -/
namespace Py
abbrev Row := Nat × Int
abbrev Pay := Nat × Nat × Int
def payL : List Row → List Row → List Pay
  | (a, x) :: ps, (b, y) :: qs => (a, b, min x y) :: (if x < y then payL ps ((b, y - x) :: qs) else if y < x then payL ((a, x - y) :: ps) qs else payL ps qs)
  | _, _ => []
termination_by ps qs => ps.length + qs.length
theorem payL_nil (qs : List Row) : payL [] qs = [] := by rw [payL]; intros; contradiction
theorem payL_nil2 (ps : List Row) : payL ps [] = [] := by
  cases ps with
  | nil => exact payL_nil _
  | cons p ps => rw [payL]; intros; contradiction
theorem payL_lt {a b : Nat} {x y : Int} {ps qs : List Row} (h : x < y) : payL ((a, x) :: ps) ((b, y) :: qs) = (a, b, x) :: payL ps ((b, y - x) :: qs) := by rw [payL, if_pos h, Int.min_eq_left (by omega)]
theorem payL_gt {a b : Nat} {x y : Int} {ps qs : List Row} (h : y < x) : payL ((a, x) :: ps) ((b, y) :: qs) = (a, b, y) :: payL ((a, x - y) :: ps) qs := by rw [payL, if_neg (by omega), if_pos h, Int.min_eq_right (by omega)]
theorem payL_eq {a b : Nat} {x : Int} {ps qs : List Row} : payL ((a, x) :: ps) ((b, x) :: qs) = (a, b, x) :: payL ps qs := by rw [payL, if_neg (by omega), if_neg (by omega), Int.min_self]
def effL (ts : List Pay) (z : Nat) : Int := (ts.map fun t => (if t.1 = z then t.2.2 else 0) - (if t.2.1 = z then t.2.2 else 0)).sum
def amt (rs : List Row) (z : Nat) : Int := (rs.map fun r => if r.1 = z then r.2 else 0).sum
def tot (rs : List Row) : Int := (rs.map (·.2)).sum
theorem effL_cons (t : Pay) (ts : List Pay) (z : Nat) : effL (t :: ts) z = ((if t.1 = z then t.2.2 else 0) - (if t.2.1 = z then t.2.2 else 0)) + effL ts z := List.sum_cons
theorem effL_app (ts us : List Pay) (z : Nat) : effL (ts ++ us) z = effL ts z + effL us z := by unfold effL; rw [List.map_append, List.sum_append]
theorem amt_cons (r : Row) (rs : List Row) (z : Nat) : amt (r :: rs) z = (if r.1 = z then r.2 else 0) + amt rs z := List.sum_cons
theorem tot_cons (r : Row) (rs : List Row) : tot (r :: rs) = r.2 + tot rs := List.sum_cons
theorem tot_nn : ∀ {rs : List Row}, (∀ r ∈ rs, 0 < r.2) → 0 ≤ tot rs ∧ (rs ≠ [] → 0 < tot rs)
  | [], _ => ⟨Int.le_refl _, fun z => absurd rfl z⟩
  | r :: rs, h => by
    have h1 := (tot_nn (rs := rs) fun r h' => h r (List.mem_cons_of_mem _ h')).1
    have h2 := h r List.mem_cons_self
    rw [tot_cons]
    exact ⟨by omega, fun _ => by omega⟩
theorem tot_nil {rs : List Row} (h : ∀ r ∈ rs, 0 < r.2) (e : tot rs = 0) : rs = [] := by
  cases rs with
  | nil => rfl
  | cons r t => have := (tot_nn h).2 (by simp); omega
/-- one turn: what is left of both -/
structure Turn (p q : Row) (ps qs : List Row) (ps' qs' : List Row) : Prop where
  l : ps' = if min p.2 q.2 < p.2 then (p.1, p.2 - min p.2 q.2) :: ps else ps
  r : qs' = if min p.2 q.2 < q.2 then (q.1, q.2 - min p.2 q.2) :: qs else qs
theorem Turn.pay {p q : Row} {ps qs ps' qs' : List Row} (h : Turn p q ps qs ps' qs') : payL (p :: ps) (q :: qs) = (p.1, q.1, min p.2 q.2) :: payL ps' qs' := by
  obtain ⟨hl, hr⟩ := h
  obtain ⟨a, x⟩ := p
  obtain ⟨b, y⟩ := q
  simp only at hl hr ⊢
  rcases Int.lt_trichotomy x y with c | c | c
  · rw [Int.min_eq_left (by omega)] at hl hr ⊢
    rw [if_neg (by omega)] at hl
    rw [if_pos c] at hr
    rw [payL_lt c, hl, hr]
  · subst c
    rw [Int.min_self] at hl hr ⊢
    rw [if_neg (by omega)] at hl hr
    rw [payL_eq, hl, hr]
  · rw [Int.min_eq_right (by omega)] at hl hr ⊢
    rw [if_pos c] at hl
    rw [if_neg (by omega)] at hr
    rw [payL_gt c, hl, hr]
theorem payL_spec : ∀ (n : Nat) (ps qs : List Row), ps.length + qs.length = n → (∀ r ∈ ps, 0 < r.2) → (∀ r ∈ qs, 0 < r.2) → tot ps = tot qs →
    (∀ z, effL (payL ps qs) z = amt ps z - amt qs z) ∧ (∀ t ∈ payL ps qs, t.1 ∈ ps.map (·.1) ∧ t.2.1 ∈ qs.map (·.1) ∧ 1 ≤ t.2.2) ∧
    ((∀ i j, 1 ≤ i → 1 ≤ j → i ≤ ps.length → j ≤ qs.length → tot (ps.take i) = tot (qs.take j) → i = ps.length ∧ j = qs.length) → (payL ps qs).length = ps.length + qs.length - 1) := by
  intro n
  induction n using Nat.strongRecOn with
  | _ n ih =>
    intro ps qs hn hp hq ht
    match ps, qs with
    | [], qs =>
      have := tot_nil hq (ht.symm)
      subst this
      rw [payL_nil]
      exact ⟨fun z => rfl, fun t h => (by cases h), fun _ => rfl⟩
    | p :: ps, [] =>
      have := tot_nil hp ht
      cases this
    | (a, x) :: ps, (b, y) :: qs =>
      have x0 : 0 < x := hp (a, x) List.mem_cons_self
      have y0 : 0 < y := hq (b, y) List.mem_cons_self
      have hp' : ∀ r ∈ ps, 0 < r.2 := fun r h => hp r (List.mem_cons_of_mem _ h)
      have hq' : ∀ r ∈ qs, 0 < r.2 := fun r h => hq r (List.mem_cons_of_mem _ h)
      rw [tot_cons, tot_cons] at ht
      simp only at ht
      rw [List.length_cons, List.length_cons] at hn
      rcases Int.lt_trichotomy x y with c | c | c
      · have hq2 : ∀ r ∈ (b, y - x) :: qs, 0 < r.2 := fun r h => by
          rcases List.mem_cons.mp h with e | e
          · rw [e]; show 0 < y - x; omega
          · exact hq' r e
        obtain ⟨i1, i2, i3⟩ := ih (ps.length + ((b, y - x) :: qs).length) (by rw [List.length_cons]; omega) ps ((b, y - x) :: qs) rfl hp' hq2 (by rw [tot_cons]; show tot ps = (y - x) + tot qs; omega)
        rw [payL_lt c]
        refine ⟨fun z => ?_, fun t h => ?_, fun hc => ?_⟩
        · rw [effL_cons, i1, amt_cons, amt_cons, amt_cons]
          simp only
          split <;> split <;> omega
        · rcases List.mem_cons.mp h with e | e
          · rw [e]
            exact ⟨List.mem_cons_self, List.mem_cons_self, by show 1 ≤ x; omega⟩
          · obtain ⟨h1, h2, h3⟩ := i2 t e
            exact ⟨List.mem_cons_of_mem _ h1, h2, h3⟩
        · have pne : ps ≠ [] := fun z => by
            subst z
            have := (tot_nn hq').1
            have : tot ([] : List Row) = 0 := rfl
            omega
          have := i3 fun i j hi hj hil hjl e => by
            obtain ⟨j, rfl⟩ : ∃ j', j = j' + 1 := ⟨j - 1, by omega⟩
            have := hc (i + 1) (j + 1) (by omega) (by omega) (by rw [List.length_cons]; omega) (by rw [List.length_cons] at hjl ⊢; exact hjl) (by
              rw [List.take_succ_cons, List.take_succ_cons, tot_cons, tot_cons]
              rw [List.take_succ_cons, tot_cons] at e
              simp only at e ⊢
              omega)
            rw [List.length_cons, List.length_cons] at this
            rw [List.length_cons]
            omega
          rw [List.length_cons, this, List.length_cons, List.length_cons, List.length_cons]
          have : 0 < ps.length := List.length_pos_iff.mpr pne
          omega
      · subst c
        obtain ⟨i1, i2, i3⟩ := ih (ps.length + qs.length) (by omega) ps qs rfl hp' hq' (by omega)
        rw [payL_eq]
        refine ⟨fun z => ?_, fun t h => ?_, fun hc => ?_⟩
        · rw [effL_cons, i1, amt_cons, amt_cons]
          simp only
          split <;> split <;> omega
        · rcases List.mem_cons.mp h with e | e
          · rw [e]
            exact ⟨List.mem_cons_self, List.mem_cons_self, by show 1 ≤ x; omega⟩
          · obtain ⟨h1, h2, h3⟩ := i2 t e
            exact ⟨List.mem_cons_of_mem _ h1, List.mem_cons_of_mem _ h2, h3⟩
        · have := hc 1 1 (by omega) (by omega) (by rw [List.length_cons]; omega) (by rw [List.length_cons]; omega) rfl
          rw [List.length_cons, List.length_cons] at this
          have e1 : ps = [] := List.eq_nil_of_length_eq_zero (by omega)
          have e2 : qs = [] := List.eq_nil_of_length_eq_zero (by omega)
          subst e1
          subst e2
          rw [payL_nil]
          rfl
      · have hp2 : ∀ r ∈ (a, x - y) :: ps, 0 < r.2 := fun r h => by
          rcases List.mem_cons.mp h with e | e
          · rw [e]; show 0 < x - y; omega
          · exact hp' r e
        obtain ⟨i1, i2, i3⟩ := ih (((a, x - y) :: ps).length + qs.length) (by rw [List.length_cons]; omega) ((a, x - y) :: ps) qs rfl hp2 hq' (by rw [tot_cons]; show (x - y) + tot ps = tot qs; omega)
        rw [payL_gt c]
        refine ⟨fun z => ?_, fun t h => ?_, fun hc => ?_⟩
        · rw [effL_cons, i1, amt_cons, amt_cons, amt_cons]
          simp only
          split <;> split <;> omega
        · rcases List.mem_cons.mp h with e | e
          · rw [e]
            exact ⟨List.mem_cons_self, List.mem_cons_self, by show 1 ≤ y; omega⟩
          · obtain ⟨h1, h2, h3⟩ := i2 t e
            exact ⟨h1, List.mem_cons_of_mem _ h2, h3⟩
        · have qne : qs ≠ [] := fun z => by
            subst z
            have := (tot_nn hp').1
            have : tot ([] : List Row) = 0 := rfl
            omega
          have := i3 fun i j hi hj hil hjl e => by
            obtain ⟨i, rfl⟩ : ∃ i', i = i' + 1 := ⟨i - 1, by omega⟩
            have := hc (i + 1) (j + 1) (by omega) (by omega) (by rw [List.length_cons] at hil ⊢; exact hil) (by rw [List.length_cons]; omega) (by
              rw [List.take_succ_cons, List.take_succ_cons, tot_cons, tot_cons]
              rw [List.take_succ_cons, tot_cons] at e
              simp only at e ⊢
              omega)
            rw [List.length_cons, List.length_cons] at this
            rw [List.length_cons]
            omega
          rw [List.length_cons, this, List.length_cons, List.length_cons, List.length_cons]
          have : 0 < qs.length := List.length_pos_iff.mpr qne
          omega
/-! a group's payments -/
def negR (acc : List Int) (pl : List Nat) : List Row := (pl.filter fun p => decide (acc.getD p 0 < 0)).map fun p => (p, -(acc.getD p 0))
def posR (acc : List Int) (pl : List Nat) : List Row := (pl.filter fun p => decide (0 < acc.getD p 0)).map fun p => (p, acc.getD p 0)
theorem negR_pos {acc : List Int} {pl : List Nat} : ∀ r ∈ negR acc pl, 0 < r.2 := fun r h => by
  obtain ⟨p, hp, rfl⟩ := List.mem_map.mp h
  have := of_decide_eq_true (List.mem_filter.mp hp).2
  show 0 < -(acc.getD p 0)
  omega
theorem posR_pos {acc : List Int} {pl : List Nat} : ∀ r ∈ posR acc pl, 0 < r.2 := fun r h => by
  obtain ⟨p, hp, rfl⟩ := List.mem_map.mp h
  exact of_decide_eq_true (List.mem_filter.mp hp).2
theorem negR_cons (acc : List Int) (p : Nat) (pl : List Nat) : negR acc (p :: pl) = (if acc.getD p 0 < 0 then [(p, -(acc.getD p 0))] else []) ++ negR acc pl := by
  unfold negR
  rw [List.filter_cons]
  by_cases c : acc.getD p 0 < 0
  · rw [if_pos (decide_eq_true c), if_pos c]; rfl
  · rw [if_neg (fun z => c (of_decide_eq_true z)), if_neg c]; rfl
theorem posR_cons (acc : List Int) (p : Nat) (pl : List Nat) : posR acc (p :: pl) = (if 0 < acc.getD p 0 then [(p, acc.getD p 0)] else []) ++ posR acc pl := by
  unfold posR
  rw [List.filter_cons]
  by_cases c : 0 < acc.getD p 0
  · rw [if_pos (decide_eq_true c), if_pos c]; rfl
  · rw [if_neg (fun z => c (of_decide_eq_true z)), if_neg c]; rfl
theorem tot_app (xs ys : List Row) : tot (xs ++ ys) = tot xs + tot ys := by unfold tot; rw [List.map_append, List.sum_append]
theorem amt_app (xs ys : List Row) (z : Nat) : amt (xs ++ ys) z = amt xs z + amt ys z := by unfold amt; rw [List.map_append, List.sum_append]
theorem rows_tot (acc : List Int) : ∀ pl : List Nat, tot (posR acc pl) - tot (negR acc pl) = wS acc pl
  | [] => rfl
  | p :: pl => by
    have ih := rows_tot acc pl
    rw [negR_cons, posR_cons, tot_app, tot_app, wS_cons]
    by_cases c : acc.getD p 0 < 0
    · rw [if_pos c, if_neg (by omega)]
      show 0 + _ - (-(acc.getD p 0) + 0 + _) = _
      omega
    · rw [if_neg c]
      by_cases c2 : 0 < acc.getD p 0
      · rw [if_pos c2]
        show acc.getD p 0 + 0 + _ - (0 + _) = _
        omega
      · rw [if_neg c2]
        show 0 + _ - (0 + _) = _
        omega
theorem rows_amt (acc : List Int) (z : Nat) : ∀ pl : List Nat, pl.Nodup → amt (negR acc pl) z - amt (posR acc pl) z = -(if z ∈ pl then acc.getD z 0 else 0)
  | [], _ => rfl
  | p :: pl, nd => by
    obtain ⟨n1, n2⟩ := List.nodup_cons.mp nd
    have ih := rows_amt acc z pl n2
    rw [negR_cons, posR_cons, amt_app, amt_app]
    have e : ∀ y, amt (if y < 0 then [(p, -y)] else []) z - amt (if 0 < y then [(p, y)] else []) z = -(if p = z then y else 0) := fun y => by
      unfold amt
      by_cases c : y < 0
      · rw [if_pos c, if_neg (by omega)]
        simp
        split <;> omega
      · rw [if_neg c]
        by_cases c2 : 0 < y
        · rw [if_pos c2]
          simp
        · rw [if_neg c2]
          have : y = 0 := by omega
          subst this
          simp
    have e := e (acc.getD p 0)
    by_cases c : p = z
    · subst c
      rw [if_neg n1] at ih
      rw [if_pos rfl] at e
      rw [if_pos List.mem_cons_self]
      omega
    · rw [if_neg c] at e
      by_cases c2 : z ∈ pl
      · rw [if_pos c2] at ih
        rw [if_pos (List.mem_cons_of_mem _ c2)]
        omega
      · rw [if_neg c2] at ih
        rw [if_neg fun h => (List.mem_cons.mp h).elim (fun e => c e.symm) c2]
        omega
theorem rows_len {acc : List Int} : ∀ {pl : List Nat}, (∀ p ∈ pl, acc.getD p 0 ≠ 0) → (negR acc pl).length + (posR acc pl).length = pl.length
  | [], _ => rfl
  | p :: pl, h => by
    have ih := rows_len (acc := acc) (pl := pl) fun q hq => h q (List.mem_cons_of_mem _ hq)
    have := h p List.mem_cons_self
    rw [negR_cons, posR_cons, List.length_append, List.length_append, List.length_cons]
    by_cases c : acc.getD p 0 < 0
    · rw [if_pos c, if_neg (by omega)]
      show 1 + _ + (0 + _) = _
      omega
    · rw [if_neg c, if_pos (by omega)]
      show 0 + _ + (1 + _) = _
      omega
theorem rows_wS (acc : List Int) (s : Bool) (pl : List Nat) : ∀ as : List Nat, tot (as.map fun p => (p, if s then -(acc.getD p 0) else acc.getD p 0)) = if s then -(wS acc as) else wS acc as
  | [] => by cases s <;> rfl
  | a :: as => by
    have ih := rows_wS acc s pl as
    rw [List.map_cons, tot_cons, wS_cons, ih]
    cases s
    · rfl
    · show -(acc.getD a 0) + -(wS acc as) = -(acc.getD a 0 + wS acc as)
      omega
structure PayOk (acc : List Int) (pl : List Nat) (ts : List Pay) : Prop where
  eff : ∀ z, effL ts z = -(if z ∈ pl then acc.getD z 0 else 0)
  len : ts.length = pl.length - 1
  ok : ∀ t ∈ ts, t.1 ∈ pl ∧ acc.getD t.1 0 < 0 ∧ t.2.1 ∈ pl ∧ 0 < acc.getD t.2.1 0 ∧ 1 ≤ t.2.2
theorem payOk {acc : List Int} {pl : List Nat} (nd : pl.Nodup) (h : MinZ acc pl) (hne : ∀ p ∈ pl, acc.getD p 0 ≠ 0) : PayOk acc pl (payL (negR acc pl) (posR acc pl)) := by
  have ht := rows_tot acc pl
  rw [h.zero] at ht
  obtain ⟨h1, h2, h3⟩ := payL_spec _ (negR acc pl) (posR acc pl) rfl negR_pos posR_pos (by omega)
  have hl := rows_len hne
  refine ⟨fun z => by rw [h1]; exact rows_amt acc z pl nd, ?_, fun t ht => ?_⟩
  · rw [h3 fun i j i1 j1 il jl e => ?_, hl]
    simp only [negR, posR] at e il jl hl ⊢
    rw [List.length_map] at il jl hl ⊢
    rw [List.length_map] at hl ⊢
    rw [← List.map_take, ← List.map_take] at e
    have e1 := rows_wS acc true pl ((pl.filter fun p => decide (acc.getD p 0 < 0)).take i)
    have e2 := rows_wS acc false pl ((pl.filter fun p => decide (0 < acc.getD p 0)).take j)
    simp only [if_true, Bool.false_eq_true, if_false] at e1 e2
    rw [e1, e2] at e
    have sub1 : ∀ a ∈ (pl.filter fun p => decide (acc.getD p 0 < 0)).take i, a ∈ pl ∧ acc.getD a 0 < 0 := fun a ha => by
      obtain ⟨m1, m2⟩ := List.mem_filter.mp (List.mem_of_mem_take ha)
      exact ⟨m1, of_decide_eq_true m2⟩
    have sub2 : ∀ a ∈ (pl.filter fun p => decide (0 < acc.getD p 0)).take j, a ∈ pl ∧ 0 < acc.getD a 0 := fun a ha => by
      obtain ⟨m1, m2⟩ := List.mem_filter.mp (List.mem_of_mem_take ha)
      exact ⟨m1, of_decide_eq_true m2⟩
    have := h.min ((pl.filter fun p => decide (acc.getD p 0 < 0)).take i ++ (pl.filter fun p => decide (0 < acc.getD p 0)).take j) (by
      rw [List.nodup_append]
      refine ⟨List.Sublist.nodup (List.take_sublist _ _) (nd.filter _), List.Sublist.nodup (List.take_sublist _ _) (nd.filter _), fun a ha b hb ee => ?_⟩
      have := (sub1 a ha).2
      have := (sub2 b hb).2
      rw [← ee] at this
      omega) (fun a ha => (List.mem_append.mp ha).elim (fun z => (sub1 a z).1) fun z => (sub2 a z).1) (fun z => by
        have := congrArg List.length z
        rw [List.length_append, List.length_take, List.length_take, List.length_nil] at this
        omega) (by rw [wS_app]; omega)
    rw [List.length_append, List.length_take, List.length_take] at this
    omega
  · obtain ⟨m1, m2, m3⟩ := h2 t ht
    obtain ⟨r1, hr1, e1⟩ := List.mem_map.mp m1
    obtain ⟨p1, hp1, rfl⟩ := List.mem_map.mp hr1
    obtain ⟨r2, hr2, e2⟩ := List.mem_map.mp m2
    obtain ⟨p2, hp2, rfl⟩ := List.mem_map.mp hr2
    obtain ⟨a1, a2⟩ := List.mem_filter.mp hp1
    obtain ⟨b1, b2⟩ := List.mem_filter.mp hp2
    rw [← e1, ← e2]
    exact ⟨a1, of_decide_eq_true a2, b1, of_decide_eq_true b2, m3⟩
/-- from worths to accounts -/
theorem minZ_places {acc : List Int} {ix g pl : List Nat} (nd : ix.Nodup) (hg : ∀ a ∈ g, a < ix.length) (ndg : g.Nodup) (h : MinZ (ix.map fun p => acc.getD p 0) g) (hp : pl.Perm (g.map fun a => ix.getD a 0)) : MinZ acc pl ∧ pl.Nodup := by
  have gi : ∀ a, a < ix.length → (ix.map fun p => acc.getD p 0).getD a 0 = acc.getD (ix.getD a 0) 0 := fun a ha => by
    rw [List.getD_eq_getElem?_getD, List.getElem?_map, List.getD_eq_getElem?_getD (l := ix), List.getElem?_eq_getElem ha]
    rfl
  have hw : ∀ as : List Nat, (∀ a ∈ as, a < ix.length) → wS acc (as.map fun a => ix.getD a 0) = wS (ix.map fun p => acc.getD p 0) as := fun as => by
    induction as with
    | nil => exact fun _ => rfl
    | cons a as ih =>
      intro hh
      rw [List.map_cons, wS_cons, wS_cons, ih fun b hb => hh b (List.mem_cons_of_mem _ hb), gi a (hh a List.mem_cons_self)]
  have inj : ∀ a b, a < ix.length → b < ix.length → ix.getD a 0 = ix.getD b 0 → a = b := fun a b ha hb e => by
    rw [List.getD_eq_getElem?_getD, List.getD_eq_getElem?_getD, List.getElem?_eq_getElem ha, List.getElem?_eq_getElem hb] at e
    exact (List.getElem?_inj ha nd).mp (by rw [List.getElem?_eq_getElem ha, List.getElem?_eq_getElem hb]; exact congrArg some e)
  have nm : (g.map fun a => ix.getD a 0).Nodup := by
    rw [List.nodup_iff_pairwise_ne, List.pairwise_map]
    exact (List.nodup_iff_pairwise_ne.mp ndg).imp_of_mem fun ha hb hne e => hne (inj _ _ (hg _ ha) (hg _ hb) e)
  refine ⟨⟨by rw [wS_perm hp, hw g hg, h.zero], fun as nda sub ne z => ?_⟩, hp.nodup_iff.mpr nm⟩
  obtain ⟨as0, e0, s0⟩ : ∃ as0 : List Nat, as0.map (fun a => ix.getD a 0) = as ∧ ∀ a ∈ as0, a ∈ g := by
    clear nda ne z
    induction as with
    | nil => exact ⟨[], rfl, fun a h => (by cases h)⟩
    | cons a as ih =>
      obtain ⟨as0, e0, s0⟩ := ih fun b hb => sub b (List.mem_cons_of_mem _ hb)
      obtain ⟨a0, h0, e1⟩ := List.mem_map.mp (hp.mem_iff.mp (sub a List.mem_cons_self))
      refine ⟨a0 :: as0, by rw [List.map_cons, e0, e1], fun b hb => ?_⟩
      rcases List.mem_cons.mp hb with c | c
      · rw [c]; exact h0
      · exact s0 b c
  subst e0
  rw [List.length_map, h.min as0 (by
    rw [List.nodup_iff_pairwise_ne, List.pairwise_map] at nda
    exact List.nodup_iff_pairwise_ne.mpr (nda.imp fun hne e => hne (by rw [e]))) s0 (fun e => ne (by rw [e]; rfl)) (by rw [← hw as0 fun a ha => hg a (s0 a ha)]; exact z), hp.length_eq, List.length_map]
theorem sumsM_full (ws : List Int) : (sumsM ws).getD (2 ^ ws.length - 1) 0 = ws.sum := by
  refine rev_ind (P := fun ws => (sumsM ws).getD (2 ^ ws.length - 1) 0 = ws.sum) rfl (fun xs x ih => ?_) ws
  have sl := sumsM_len xs
  have p0 : 0 < 2 ^ xs.length := Nat.pow_pos (by decide)
  rw [sumsM_snoc, List.length_append, List.length_singleton, show 2 ^ (xs.length + 1) - 1 = (sumsM xs).length + (2 ^ xs.length - 1) by rw [sl, Nat.pow_succ]; omega, getD_app_r, getD_map_add (i := 2 ^ xs.length - 1) (by rw [sl]; omega), ih, List.sum_append, List.sum_singleton]
/-- groups under way -/
structure SgM (ws tab : List Int) (S : Nat) (gi : List (List Nat)) (cur : List Nat) : Prop where
  lt : S < 2 ^ ws.length
  nd : (gi.flatten ++ cur).Nodup
  mem : ∀ a, a ∈ gi.flatten ++ cur ↔ a < ws.length ∧ bit S a = false
  z : (sumsM ws).getD (S + pS cur) 0 = 0
  one : cur ≠ [] → tab.getD (S + pS cur) 0 = tab.getD S 0 + 1
  cnt : (gi.length : Int) + tab.getD (S + pS cur) 0 = tab.getD (2 ^ ws.length - 1) 0
  mz : ∀ g ∈ gi, MinZ ws g ∧ g ≠ []
structure GrOk (ws tab : List Int) (gs : List (List Nat)) : Prop where
  nd : gs.flatten.Nodup
  mem : ∀ a, a ∈ gs.flatten ↔ a < ws.length
  mz : ∀ g ∈ gs, MinZ ws g
  cnt : ((gs.filter fun g => !g.isEmpty).length : Int) = tab.getD (2 ^ ws.length - 1) 0
theorem SgM.start {ws tab : List Int} (hl : ws.length ≤ 8) (hz : ws.sum = 0) : SgM ws tab (2 ^ ws.length - 1) [] [] := by
  have p0 : 0 < 2 ^ ws.length := Nat.pow_pos (by decide)
  refine ⟨by omega, .nil, fun a => ⟨fun h => (by cases h), fun h => ?_⟩, (sumsM_full ws).trans hz, fun h => absurd rfl h, Int.zero_add _, fun g h => (by cases h)⟩
  have := bit_full ws.length hl a h.1
  rw [h.2] at this
  cases this
theorem SgM.minz {ws tab : List Int} {S : Nat} {gi : List (List Nat)} {cur : List Nat} (hl : ws.length ≤ 8) (ht : TabOk ws tab) (h : SgM ws tab S gi cur) (s0 : (sumsM ws).getD S 0 = 0) (ne : cur ≠ []) : MinZ ws cur :=
  minZ_of hl ht h.lt (List.nodup_append.mp h.nd).2.1 (fun a ha => (h.mem a).mp (List.mem_append_right _ ha)) s0 h.z (Int.le_of_eq (h.one ne))
theorem SgM.cut {ws tab : List Int} {S : Nat} {gi : List (List Nat)} {cur : List Nat} (hl : ws.length ≤ 8) (ht : TabOk ws tab) (h : SgM ws tab S gi cur) (s0 : (sumsM ws).getD S 0 = 0) (ne : cur ≠ []) : SgM ws tab S (gi ++ [cur]) [] := by
  have e : (gi ++ [cur]).flatten ++ [] = gi.flatten ++ cur := by rw [List.append_nil, List.flatten_append]; simp
  refine ⟨h.lt, by rw [e]; exact h.nd, by rw [e]; exact h.mem, s0, fun z => absurd rfl z, ?_, fun g hg => ?_⟩
  · have h1 := h.cnt
    have h2 := h.one ne
    rw [List.length_append, List.length_singleton]
    show ((gi.length + 1 : Nat) : Int) + tab.getD S 0 = _
    omega
  · rcases List.mem_append.mp hg with c | c
    · exact h.mz g c
    · rw [List.mem_singleton.mp c]
      exact ⟨h.minz hl ht s0 ne, ne⟩
theorem SgM.put {ws tab : List Int} {S a : Nat} {gi : List (List Nat)} {cur : List Nat} (hl : ws.length ≤ 8) (ht : TabOk ws tab) (h : SgM ws tab S gi cur) (hc : cur = [] ∨ (sumsM ws).getD S 0 ≠ 0) (S0 : 0 < S) (ha : a < ws.length) (hb : bit S a = true) (hmax : ∀ b, b < ws.length → bit S b = true → tab.getD (S - 2 ^ b) 0 ≤ tab.getD (S - 2 ^ a) 0) : SgM ws tab (S - 2 ^ a) gi (cur ++ [a]) := by
  have h8 : 2 ^ ws.length ≤ 2 ^ 8 := Nat.pow_le_pow_right (by decide) hl
  have hlt := h.lt
  obtain ⟨o1, o2⟩ := bit_off S (by omega) a (by omega) hb
  have o3 := bit_off2 S (by omega) a (by omega) hb
  have g1 := ht.ge S S0 hlt a ha hb
  obtain ⟨b, b1, b2, b3⟩ := ht.ex S S0 hlt
  have g2 := hmax b b1 b2
  have eS : S - 2 ^ a + pS (cur ++ [a]) = S + pS cur := by
    rw [pS_app, pS_cons]
    show S - 2 ^ a + (pS cur + (2 ^ a + 0)) = _
    omega
  have e : gi.flatten ++ (cur ++ [a]) = (gi.flatten ++ cur) ++ [a] := (List.append_assoc ..).symm
  have na : a ∉ gi.flatten ++ cur := fun z => by
    have := ((h.mem a).mp z).2
    rw [hb] at this
    cases this
  refine ⟨Nat.lt_of_le_of_lt (Nat.sub_le _ _) hlt, ?_, fun c => ?_, by rw [eS]; exact h.z, fun _ => ?_, by rw [eS]; exact h.cnt, h.mz⟩
  · rw [e, List.nodup_append]
    refine ⟨h.nd, List.nodup_cons.mpr ⟨List.not_mem_nil, .nil⟩, fun x hx y hy => ?_⟩
    rw [List.mem_singleton.mp hy]
    exact fun z => na (z ▸ hx)
  · rw [e, List.mem_append, List.mem_singleton]
    constructor
    · rintro (z | z)
      · obtain ⟨z1, z2⟩ := (h.mem c).mp z
        exact ⟨z1, by rw [o3 c (by omega) (fun w => na (w ▸ z))]; exact z2⟩
      · rw [z]; exact ⟨ha, o2⟩
    · rintro ⟨z1, z2⟩
      by_cases w : c = a
      · exact .inr w
      · rw [o3 c (by omega) w] at z2
        exact .inl ((h.mem c).mpr ⟨z1, z2⟩)
  · rw [eS]
    by_cases c : cur = []
    · subst c
      have hz : (sumsM ws).getD S 0 = 0 := h.z
      show tab.getD S 0 = _
      have : zI (sumsM ws) S = 1 := by unfold zI; rw [if_pos hz]
      omega
    · have hn := hc.resolve_left c
      have : zI (sumsM ws) S = 0 := by unfold zI; rw [if_neg hn]
      have := h.one c
      omega
theorem SgM.fin {ws tab : List Int} {gi : List (List Nat)} {cur : List Nat} (hl : ws.length ≤ 8) (ht : TabOk ws tab) (h : SgM ws tab 0 gi cur) : GrOk ws tab (gi ++ [cur]) := by
  have e : (gi ++ [cur]).flatten = gi.flatten ++ cur := by rw [List.flatten_append]; simp
  have hf : gi.filter (fun g => !g.isEmpty) = gi := List.filter_eq_self.mpr fun g hg => by
    have := (h.mz g hg).2
    cases g with
    | nil => exact absurd rfl this
    | cons a t => rfl
  refine ⟨by rw [e]; exact h.nd, fun a => ?_, fun g hg => ?_, ?_⟩
  · rw [e, h.mem a]
    refine ⟨fun z => z.1, fun z => ⟨z, ?_⟩⟩
    unfold bit
    rw [Nat.zero_div]
    rfl
  · rcases List.mem_append.mp hg with c | c
    · exact (h.mz g c).1
    · rw [List.mem_singleton.mp c]
      by_cases ne : cur = []
      · rw [ne]; exact .nil ws
      · exact h.minz hl ht (sumsM_zero ws) ne
  · have hc := h.cnt
    rw [List.filter_append, hf, List.length_append]
    by_cases ne : cur = []
    · subst ne
      rw [← hc]
      show ((gi.length + 0 : Nat) : Int) = (gi.length : Int) + tab.getD 0 0
      rw [ht.zero]
      omega
    · have h1 := h.one ne
      rw [ht.zero] at h1
      have : ([cur].filter fun g => !g.isEmpty).length = 1 := by
        cases cur with
        | nil => exact absurd rfl ne
        | cons a t => rfl
      rw [this]
      omega
/-! few payments of accounts -/
def nzP (acc : List Int) : List Nat := (List.range acc.length).filter fun p => decide (acc.getD p 0 ≠ 0)
def nzW (acc : List Int) : List Int := (nzP acc).map fun p => acc.getD p 0
theorem nzP_mem {acc : List Int} {z : Nat} : z ∈ nzP acc ↔ z < acc.length ∧ acc.getD z 0 ≠ 0 := by
  unfold nzP
  rw [List.mem_filter, List.mem_range, decide_eq_true_eq]
theorem nzP_nd (acc : List Int) : (nzP acc).Nodup := List.nodup_range.filter _
theorem nzP_len (acc : List Int) : (nzP acc).length ≤ acc.length := Nat.le_trans (List.length_filter_le _ _) (by rw [List.length_range]; exact Nat.le_refl _)
theorem nzW_eq (acc : List Int) : nzW acc = acc.filter fun z => decide (z ≠ 0) := by
  refine rev_ind (P := fun acc => nzW acc = acc.filter fun z => decide (z ≠ 0)) rfl (fun xs x ih => ?_) acc
  unfold nzW nzP at ih ⊢
  rw [List.length_append, List.length_singleton, List.range_succ, List.filter_append, List.map_append, List.filter_append, ← ih]
  have e : ∀ p ∈ List.range xs.length, (xs ++ [x]).getD p 0 = xs.getD p 0 := fun p hp => getD_app_l (List.mem_range.mp hp)
  congr 1
  · have e1 : (List.range xs.length).filter (fun p => decide ((xs ++ [x]).getD p 0 ≠ 0)) = (List.range xs.length).filter fun p => decide (xs.getD p 0 ≠ 0) := List.filter_congr fun p hp => by rw [e p hp]
    rw [e1]
    exact List.map_congr_left fun p hp => e p (List.mem_filter.mp hp).1
  · have e2 : (xs ++ [x]).getD xs.length 0 = x := by
      rw [show xs.length = xs.length + 0 from rfl, getD_app_r]
      rfl
    rw [List.filter_cons, List.filter_cons, e2]
    split
    · show [(xs ++ [x]).getD xs.length 0] = [x]
      rw [e2]
    · rfl
theorem filter_sum : ∀ xs : List Int, (xs.filter fun z => decide (z ≠ 0)).sum = xs.sum
  | [] => rfl
  | x :: xs => by
    rw [List.filter_cons, List.sum_cons]
    split
    · rw [List.sum_cons, filter_sum xs]
    · rename_i c
      have : x = 0 := by simpa using c
      rw [filter_sum xs, this, Int.zero_add]
theorem nzW_sum (acc : List Int) : (nzW acc).sum = acc.sum := by rw [nzW_eq, filter_sum]
theorem nzW_len (acc : List Int) : (nzW acc).length = (nzP acc).length := List.length_map _
structure FewOk (acc tab : List Int) (tp : List Pay) : Prop where
  eff : ∀ z, effL tp z = -(acc.getD z 0)
  len : (tp.length : Int) = ((nzP acc).length : Int) - tab.getD (2 ^ (nzW acc).length - 1) 0
  ok : ∀ t ∈ tp, t.1 < acc.length ∧ acc.getD t.1 0 < 0 ∧ t.2.1 < acc.length ∧ 0 < acc.getD t.2.1 0 ∧ 1 ≤ t.2.2
  gr : ∃ gs, GrOk (nzW acc) tab gs
structure FwM (acc : List Int) (gs : List (List Nat)) (i : Nat) (tp : List Pay) : Prop where
  eff : ∀ z, effL tp z = -(if z ∈ (gs.take i).flatten.map (fun a => (nzP acc).getD a 0) then acc.getD z 0 else 0)
  len : tp.length + ((gs.take i).filter fun g => !g.isEmpty).length = (gs.take i).flatten.length
  ok : ∀ t ∈ tp, t.1 < acc.length ∧ acc.getD t.1 0 < 0 ∧ t.2.1 < acc.length ∧ 0 < acc.getD t.2.1 0 ∧ 1 ≤ t.2.2
theorem FwM.start (acc : List Int) (gs : List (List Nat)) : FwM acc gs 0 [] := ⟨fun z => rfl, rfl, fun t h => (by cases h)⟩
theorem ix_nodup {acc : List Int} {as : List Nat} (nd : as.Nodup) (h : ∀ a ∈ as, a < (nzP acc).length) : (as.map fun a => (nzP acc).getD a 0).Nodup := by
  rw [List.nodup_iff_pairwise_ne, List.pairwise_map]
  refine (List.nodup_iff_pairwise_ne.mp nd).imp_of_mem fun {a b} ha hb hne e => hne ?_
  rw [List.getD_eq_getElem?_getD, List.getD_eq_getElem?_getD, List.getElem?_eq_getElem (h a ha), List.getElem?_eq_getElem (h b hb)] at e
  exact (List.getElem?_inj (h a ha) (nzP_nd acc)).mp (by rw [List.getElem?_eq_getElem (h a ha), List.getElem?_eq_getElem (h b hb)]; exact congrArg some e)
theorem FwM.step {acc tab : List Int} {gs : List (List Nat)} {i : Nat} {tp : List Pay} {g pl : List Nat} {ts : List Pay} (h : FwM acc gs i tp) (hgr : GrOk (nzW acc) tab gs) (hi : gs[i]? = some g) (hp : pl.Perm (g.map fun a => (nzP acc).getD a 0)) (ht : PayOk acc pl ts) : FwM acc gs (i + 1) (tp ++ ts) := by
  have tk : gs.take (i + 1) = gs.take i ++ [g] := by rw [List.take_add_one, hi]; rfl
  have fl : (gs.take (i + 1)).flatten = (gs.take i).flatten ++ g := by rw [tk, List.flatten_append]; simp
  have hsub : ((gs.take i).flatten ++ g).Sublist gs.flatten := by
    rw [← fl]
    have e : gs.flatten = (gs.take (i + 1)).flatten ++ (gs.drop (i + 1)).flatten := by rw [← List.flatten_append, List.take_append_drop]
    rw [e]
    exact List.sublist_append_left _ _
  have hlt : ∀ a ∈ (gs.take i).flatten ++ g, a < (nzP acc).length := fun a ha => by
    have := (hgr.mem a).mp (hsub.subset ha)
    rwa [nzW_len] at this
  have nd := ix_nodup (hsub.nodup hgr.nd) hlt
  rw [List.map_append] at nd
  obtain ⟨_, _, dj⟩ := List.nodup_append.mp nd
  have pm : ∀ p ∈ pl, p < acc.length := fun p hp' => by
    obtain ⟨a, ha, e⟩ := List.mem_map.mp (hp.mem_iff.mp hp')
    have := hlt a (List.mem_append_right _ ha)
    rw [← e, List.getD_eq_getElem?_getD, List.getElem?_eq_getElem this]
    exact (nzP_mem.mp (List.getElem_mem this)).1
  refine ⟨fun z => ?_, ?_, fun t hm => ?_⟩
  · rw [effL_app, h.eff, ht.eff, fl, List.map_append]
    by_cases c1 : z ∈ (gs.take i).flatten.map fun a => (nzP acc).getD a 0
    · have c2 : z ∉ pl := fun w => dj z c1 z (hp.mem_iff.mp w) rfl
      rw [if_pos c1, if_neg c2, if_pos (List.mem_append_left _ c1)]
      omega
    · rw [if_neg c1]
      by_cases c2 : z ∈ pl
      · rw [if_pos c2, if_pos (List.mem_append_right _ (hp.mem_iff.mp c2))]
        omega
      · rw [if_neg c2, if_neg fun w => (List.mem_append.mp w).elim c1 fun w => c2 (hp.mem_iff.mpr w)]
        omega
  · have h1 := h.len
    have h2 := ht.len
    have h3 := hp.length_eq
    rw [List.length_map] at h3
    rw [fl, tk, List.filter_append, List.length_append, List.length_append, List.length_append]
    cases g with
    | nil =>
      show _ + (_ + 0) = _ + 0
      rw [List.length_nil] at h3
      omega
    | cons a t =>
      show _ + (_ + 1) = _
      rw [List.length_cons] at h3 ⊢
      omega
  · rcases List.mem_append.mp hm with c | c
    · exact h.ok t c
    · obtain ⟨h1, h2, h3, h4, h5⟩ := ht.ok t c
      exact ⟨pm _ h1, h2, pm _ h3, h4, h5⟩
theorem FwM.fin {acc tab : List Int} {gs : List (List Nat)} {tp : List Pay} (h : FwM acc gs gs.length tp) (hgr : GrOk (nzW acc) tab gs) : FewOk acc tab tp := by
  obtain ⟨h1, h2, h3⟩ := h
  rw [List.take_length] at h1 h2
  have hm : ∀ z, z ∈ gs.flatten.map (fun a => (nzP acc).getD a 0) ↔ z ∈ nzP acc := fun z => by
    rw [List.mem_map]
    constructor
    · rintro ⟨a, ha, e⟩
      have := (hgr.mem a).mp ha
      rw [nzW_len] at this
      rw [← e, List.getD_eq_getElem?_getD, List.getElem?_eq_getElem this]
      exact List.getElem_mem this
    · intro hz
      obtain ⟨a, ha⟩ := List.getElem?_of_mem hz
      have := (List.getElem?_eq_some_iff.mp ha).1
      exact ⟨a, (hgr.mem a).mpr (by rw [nzW_len]; exact this), by rw [List.getD_eq_getElem?_getD, ha]; rfl⟩
  have hl : gs.flatten.length = (nzP acc).length := by
    have e : gs.flatten.Perm (List.range (nzW acc).length) := by
      rw [List.perm_ext_iff_of_nodup hgr.nd List.nodup_range]
      intro a
      rw [hgr.mem, List.mem_range]
    rw [e.length_eq, List.length_range, nzW_len]
  refine ⟨fun z => ?_, ?_, h3, gs, hgr⟩
  · rw [h1]
    by_cases c : z ∈ nzP acc
    · rw [if_pos ((hm z).mpr c)]
    · rw [if_neg fun w => c ((hm z).mp w)]
      by_cases c2 : z < acc.length
      · have : acc.getD z 0 = 0 := Classical.byContradiction fun w => c (nzP_mem.mpr ⟨c2, w⟩)
        rw [this]
      · rw [List.getD_eq_getElem?_getD, List.getElem?_eq_none (by omega)]
        rfl
  · have := hgr.cnt
    omega
end Py
/-! sorted(rows, key=lambda row: (row[A], row[B], row[C])), A, B, C whole numbers of the module -/
namespace Lr
open PySem PySem.Spec PyProof.Rows L2 LamX
structure Lam0 (scope : Scope) (z c1 c2 c3 : Str) : Prop where
  kind : scope.kind = .function
  co : scope.isCoroutine = false
  gen : scope.isGenerator = false
  nc : ∀ q ∈ scope.names, q.2 ≠ .cell
  nf : ∀ q ∈ scope.names, q.2 ≠ .free
  z : scope.names.lookup z = some .local
  g1 : scope.names.lookup c1 = some .globalImplicit
  g2 : scope.names.lookup c2 = some .globalImplicit
  g3 : scope.names.lookup c3 = some .globalImplicit
theorem lam0_by {scope : Scope} {z c1 c2 c3 : Str} (h1 : scope.kind = .function) (h2 : scope.isCoroutine = false) (h3 : scope.isGenerator = false) (h4 : (scope.names.all fun q => !decide (q.2 = .cell) && !decide (q.2 = .free)) = true) (h5 : scope.names.lookup z = some .local)
    (h6 : scope.names.lookup c1 = some .globalImplicit) (h7 : scope.names.lookup c2 = some .globalImplicit) (h8 : scope.names.lookup c3 = some .globalImplicit) : Lam0 scope z c1 c2 c3 := by
  refine ⟨h1, h2, h3, fun q hq e => ?_, fun q hq e => ?_, h5, h6, h7, h8⟩
  · have := List.all_eq_true.mp h4 q hq
    rw [e] at this
    simp at this
  · have := List.all_eq_true.mp h4 q hq
    rw [e] at this
    simp at this
/-- a key of three whole numbers -/
def key3 {β : Type} (f : β → Int × Int × Int) (b : β) : PyData := .tuple [.int (f b).1, .int (f b).2.1, .int (f b).2.2]
section
variable {prog : Program} {w : World} {A : Around} {E : Value → Shared → Prop} {s : Shared}
theorem item_at {value slice : Expr} {env : Env} {m mg : Str → Option Value} {z c : Str} {t : Addr} {its : List Value} {n : Nat} {u v : Tok} {x : Int} {p1 p2 p3 : Pos} {Q : Value → Shared → Prop} (hk : env.scope.kind = .function) (hz : env.kindOf z = some .local) (hn : s.heap.Ns env.locals m) (hm : m z = some (.ref t))
    (hc : env.kindOf c = some .globalImplicit) (hg : s.heap.Ns env.globals mg) (hv : mg c = some (.int n u)) (ht : IsTup s.heap t its.toArray) (hx : its[n]? = some (.int x v)) (hf : n < 5000) (dz : (z == ("__debug__" : Str)) = false) (dc : (c == ("__debug__" : Str)) = false) (h : Q (.int x v) s) :
    wpAny (model prog w) A (eval (.Subscript (.Name z p1) (.Name c p2) p3) env) Q E s := by
  refine Subscript_ (wpAny_Name (wpAny_loadName_local hk hz hn hm (Calls.Name_function_global hk hc (Calls.loadGlobal_global hg hv ?_) dc)) dz)
  have hl : n < its.length := (List.getElem?_eq_some_iff.mp hx).1
  refine item_tupleT (j := n) ht (by omega) (by omega) ?_ hx h (by intros; rfl)
  rw [seqIndex_of (by omega) (by omega)]
  rfl
theorem keyR_eval {env : Env} {m mg : Str → Option Value} {z c1 c2 c3 : Str} {t : Addr} {its : List Value} {n1 n2 n3 kk : Nat} {u1 u2 u3 v1 v2 v3 : Tok} {x1 x2 x3 : Int} {a1 a2 a3 b1 b2 b3 d1 d2 d3 p6 : Pos} (hk : env.scope.kind = .function) (hz : env.kindOf z = some .local)
    (hn : s.heap.Ns env.locals m) (hm : m z = some (.ref t)) (hg : s.heap.Ns env.globals mg) (k1 : env.kindOf c1 = some .globalImplicit) (k2 : env.kindOf c2 = some .globalImplicit) (k3 : env.kindOf c3 = some .globalImplicit)
    (h1 : mg c1 = some (.int n1 u1)) (h2 : mg c2 = some (.int n2 u2)) (h3 : mg c3 = some (.int n3 u3)) (ht : IsTup s.heap t its.toArray) (e1 : its[n1]? = some (.int x1 v1)) (e2 : its[n2]? = some (.int x2 v2)) (e3 : its[n3]? = some (.int x3 v3))
    (hf : n1 < 5000 ∧ n2 < 5000 ∧ n3 < 5000) (dz : (z == ("__debug__" : Str)) = false) (dc1 : (c1 == ("__debug__" : Str)) = false) (dc2 : (c2 == ("__debug__" : Str)) = false) (dc3 : (c3 == ("__debug__" : Str)) = false) :
    wpAny (model prog w) A (eval (.Tuple [.Subscript (.Name z a1) (.Name c1 a2) a3, .Subscript (.Name z b1) (.Name c2 b2) b3, .Subscript (.Name z d1) (.Name c3 d2) d3] kk p6) env) (PySem.W.KeyPure (.tuple [.int x1, .int x2, .int x3]) s) E s := by
  refine wpAny_Tuple_spliced ?_
  show wpAny _ _ (spliced ((false, eval (.Subscript (.Name z a1) (.Name c1 a2) a3) env) :: backTo p6 (starEach [.Subscript (.Name z b1) (.Name c2 b2) b3, .Subscript (.Name z d1) (.Name c3 d2) d3] env))) _ _ s
  refine Calls.spliced_cons (item_at (value := .Name z a1) (slice := .Name c1 a2) hk hz hn hm k1 hg h1 ht e1 hf.1 dz dc1 ?_)
  show wpAny _ _ (spliced ((false, eval (.Subscript (.Name z b1) (.Name c2 b2) b3) env) :: backTo p6 (starEach [.Subscript (.Name z d1) (.Name c3 d2) d3] env))) _ _ s
  refine Calls.spliced_cons (item_at (value := .Name z b1) (slice := .Name c2 b2) hk hz hn hm k2 hg h2 ht e2 hf.2.1 dz dc2 ?_)
  show wpAny _ _ (spliced ((false, eval (.Subscript (.Name z d1) (.Name c3 d2) d3) env) :: backTo p6 (starEach [] env))) _ _ s
  refine Calls.spliced_cons (item_at (value := .Name z d1) (slice := .Name c3 d2) hk hz hn hm k3 hg h3 ht e3 hf.2.2 dz dc3 ?_)
  refine Calls.spliced_nil ⟨by show 3 ≤ sizeLine; decide, ?_⟩
  exact ⟨_, _, rfl, fun b o e => Heap.get?_push_of_some _ e, .tuple (as := []) (Heap.get?_push_size _ rfl) rfl rfl (.cons (as := []) (bs := []) (.int _ _) (.cons (as := []) (bs := []) (.int _ _) (.cons (as := []) (bs := []) (.int _ _) .nil)))⟩
end
/-- rows and the three places of the key -/
def tSortRow (K : PySem.W.Frag) (ta : TE) (n1 n2 n3 : Nat) (P : Addr) (q : Str) : TE := fun σ H Q => ta σ H fun x H1 => ∃ (l : Addr) (ts : List Addr) (f : Addr → Int × Int × Int), x = .ref l ∧ ts.length ≤ 5000 ∧ SqL K H1 l (ts.map V.ref) ∧
  (∀ t ∈ ts, ∃ xs, SqT K H1 t xs ∧ xs[n1]? = some (.int (f t).1) ∧ xs[n2]? = some (.int (f t).2.1) ∧ xs[n3]? = some (.int (f t).2.2)) ∧ TabS H1 P q ∧
  ∀ H2 p, ExtN H1 H2 → TabS H2 P q → H2 p = none → Q (.ref p) (upd H2 p (.lst ((ts.mergeSort (PySem.W.dataLe false (key3 f))).map V.ref)))
theorem sqT_ext {K : PySem.W.Frag} {H H' : Hp} {a : Addr} {xs : List V} (e : ExtN H H') (h : SqT K H a xs) : SqT K H' a xs := by
  rcases h with (h | ⟨o, h⟩) | h
  · exact .inl (.inl (e _ _ h fun ps z => nomatch z))
  · exact .inl (.inr ⟨o, e _ _ h fun ps z => nomatch z⟩)
  · exact .inr h
theorem sqL_ext {K : PySem.W.Frag} {H H' : Hp} {a : Addr} {xs : List V} (e : ExtN H H') (h : SqL K H a xs) : SqL K H' a xs := by
  rcases h with (h | ⟨o, h⟩) | h
  · exact .inl (.inl (e _ _ h fun ps z => nomatch z))
  · exact .inl (.inr ⟨o, e _ _ h fun ps z => nomatch z⟩)
  · exact .inr h
theorem each_refs : ∀ ts : List Addr, PySem.W.EachIs (fun v t => v = Value.ref t) (ts.map Value.ref) ts
  | [] => .nil
  | t :: ts => .cons rfl (each_refs ts)
section
variable {X : Cx}
theorem pe_sortedRow {c P : Addr} {k kk n1 n2 n3 : Nat} {u1 u2 u3 : Tok} {y : Str} {pn : Pos} {ta : TE} {params : Arguments} {scope : Scope} {z c1 c2 c3 : Str} {p a1 a2 a3 b1 b2 b3 d1 d2 d3 p6 lpos kpos pos : Pos} (hcalm : X.calm = true) (hg : Gl X "sorted") (hm : X.mg "sorted" = none) (ha : PE X (.Name y pn) ta)
    (TB : TabB X.base X.mg c P) (hcode : X.env.code = .ref c) (L : Lam0 scope z c1 c2 c3) (hdef : defaultsOf params X.env = ([], [])) (m1 : X.mg c1 = some (.int n1 u1)) (m2 : X.mg c2 = some (.int n2 u2)) (m3 : X.mg c3 = some (.int n3 u3)) (hf : n1 < 5000 ∧ n2 < 5000 ∧ n3 < 5000)
    (hbind : ∀ (q : Str) (b : Expr) (cl : List (Str × Addr)) (pm cv ctv v : Value), bindArgs (PySem.W.kla_fn "<lambda>" q params b scope cl pm cv ctv) ⟨[v], []⟩ = pure [(z, v)]) (hr : Room (k + 3) X.A)
    (dz : (z == ("__debug__" : Str)) = false) (dc1 : (c1 == ("__debug__" : Str)) = false) (dc2 : (c2 == ("__debug__" : Str)) = false) (dc3 : (c3 == ("__debug__" : Str)) = false):
    PE X (.Call (.Name "sorted" p) [.Name y pn] [⟨some "key", .Lambda params (.Tuple [.Subscript (.Name z a1) (.Name c1 a2) a3, .Subscript (.Name z b1) (.Name c2 b2) b3, .Subscript (.Name z d1) (.Name c3 d2) d3] kk p6) scope lpos, kpos⟩] pos)
      (tSortRow X.K ta n1 n2 n3 P (X.env.qual ++ "<lambda>")) := by
  refine ⟨fun pins s σ H Q I h => ?_⟩
  refine wpAny_Call_Name_kw (ld_blt I hg hm boot_sorted ?_)
  refine PyProof.Rows.callWith_kw ?_
  refine Calls.spliced_cons (thn (ha.run pins s σ H _ I h) fun v s2 ⟨x, H2, I2, rv, q⟩ => ?_)
  obtain ⟨l, ts, f, rfl, hn, hl, hts, hT, q⟩ := q
  cases (show v = Value.ref l from rv)
  refine Calls.spliced_nil ?_
  show wpAny _ _ (evalAll ((do let v ← eval (.Lambda params (.Tuple [.Subscript (.Name z a1) (.Name c1 a2) a3, .Subscript (.Name z b1) (.Name c2 b2) b3, .Subscript (.Name z d1) (.Name c3 d2) d3] kk p6) scope lpos) X.env; standAt pos; pure v) :: [])) _ _ _
  have hfree : ∀ q ∈ scope.names, q.2 = .free → ∃ c, X.env.cells.lookup q.1 = some c := fun q hq e => absurd e (L.nf q hq)
  refine wpAny_evalAll_cons (wpAny_bind (lam_make2 (T := [(P, X.env.qual ++ "<lambda>")]) I2 TB hcode (by simp) (fun pp hp _ => by simp at hp; rw [hp]) (fun pp hp => by simp at hp; rw [hp]; exact hT) hdef hfree
    fun g c' pm ctv H3 s4 I5 eN T5 hgf hfn hfr hco => wpAny_bind (wpAny_standAt (wpAny_pure (wpAny_evalAll_nil ?_)))))
  have hT3 : TabS H3 P (X.env.qual ++ "<lambda>") := T5 _ (List.mem_singleton.mpr rfl)
  obtain ⟨its, rv, pl, hz⟩ := I5.list (sqL_ext eN hl)
  have ei := refs_at rv
  subst ei
  obtain ⟨⟨oc, vs, t, hoc, hdc, hvc⟩, _, _⟩ := I5.hok c' _ hco
  refine PySem.W.sorted_key_data (f := .ref g) (bs := ts) (R := fun v t => v = Value.ref t) (b := false) (key3 f) pl.isList (each_refs ts) ?_ ?_ (Nat.le_trans hn (by decide)) ?_ (PyProof.Rows.ksk_s1 _ _) (fun x => PyProof.Rows.ksk_l1 _ _) (fun x => PyProof.Rows.ksk_t1 _ _) ?_ ?_
  · intro d hd d' hd'
    obtain ⟨i, _, rfl⟩ := List.mem_map.mp hd
    obtain ⟨j, _, rfl⟩ := List.mem_map.mp hd'
    rfl
  · exact PySem.W.Sortable.tuples fun b => ⟨_, _, rfl⟩
  · intro i _
    have := hr.units
    show X.A.units + 2 + 1 < cLine
    omega
  · -- a call of the lambda
    rintro v t' rfl ht' hp tk kp
    obtain ⟨xs, hxs, e1, e2, e3⟩ := hts t' ht'
    obtain ⟨tis, tv, tpl, _⟩ := I5.tuple (sqT_ext eN hxs)
    obtain ⟨w1, f1, v1, rfl⟩ := tv.get e1
    obtain ⟨w2, f2, v2, rfl⟩ := tv.get e2
    obtain ⟨w3, f3, v3, rfl⟩ := tv.get e3
    have dp := (hr.in1.in1 : Room (k + 1) X.A.in1.in1).depth
    refine wpAny_call (codeAny_mono (R := fun r s' => ∃ v, r = .ok (.ret v) ∧ PySem.W.KeyPure (key3 f t') { s4 with heap := hp, toks := tk } v s') ?_ fun r s' hq => ?_)
    · refine PySem.W.kla_callFunE dp (kp _ _ hgf) rfl L.co L.gen rfl ⟨c', oc, vs, t, rfl, kp _ _ hoc, hdc, hvc⟩ ?_
      rw [hbind]
      refine wpAny_pure (wpAny_newFunctionEnv L.nc (fun q hq => ?_) (fun h1 hn1 hsb => ⟨((I5.kept (t' := tk) kp).nolimit).fresh _ hsb, ?_⟩) L.kind)
      · rw [List.mem_singleton.mp hq]
        exact L.z
      · have k1 : ∀ b o, hp.get? b = some o → h1.get? b = some o := fun b o e => hsb.extBut b o (Nat.ne_of_lt (Heap.lt_size e)) (Heap.get?_push_of_some _ e)
        have gl : h1.Ns mainGlobals X.mg := I5.mod.glob.keeps fun b o e => k1 b o (kp b o (I5.bk b o e))
        refine PySem.W.kla_codeExpr (wpAny_mono (keyR_eval (t := t') (its := tis) L.kind L.z hn1 (by simp) (show Heap.Ns _ _ X.mg from gl) L.g1 L.g2 L.g3 m1 m2 m3 ?_ f1 f2 f3 hf dz dc1 dc2 dc3) (fun v s' hq => ?_) fun e s' hq => hq)
        · obtain ⟨o, ho, r⟩ := tpl
          exact ⟨o, k1 _ _ (kp _ _ ho), r⟩
        · obtain ⟨h', tk', e, kk', rd⟩ := hq
          exact ⟨v, rfl, h', tk', by rw [e], fun b o q => kk' b o (k1 b o q), rd⟩
    · obtain ⟨v, rfl, hq⟩ := hq
      exact hq
  · -- the new list
    intro out c1' h' tk kp fresh hD hlen each
    have hv : Vals ((ts.mergeSort (PySem.W.dataLe false (key3 f))).map V.ref) out := by
      clear hD hlen
      revert each
      generalize ts.mergeSort (PySem.W.dataLe false (key3 f)) = js
      intro each
      induction each with
      | nil => exact .nil
      | cons r _ ih => exact .cons r ih
    have hl2 : ((ts.mergeSort (PySem.W.dataLe false (key3 f))).map V.ref).length ≤ sizeLine := by
      rw [List.length_map, (List.mergeSort_perm _ _).length_eq]
      exact Nat.le_trans hn (by decide)
    exact ⟨.ref _, _, I5.laid kp (Nat.le_succ _) (show ObjOk X.prog X.w _ h' _ (.lst _) from ⟨hl2, out, c1', hv, hD⟩), rfl, q _ _ eN hT3 (I5.hok.fresh (Nat.le_succ _))⟩
end
end Lr
/-! max(rows, key=lambda row: table[row[1]]), table a captured list of ints -/
namespace Lm
open PySem PySem.Spec PyProof.Rows L2 LamX
section
variable {prog : Program} {w : World} {A : Around} {E : Value → Shared → Prop} {s : Shared}
theorem best_ge (kf : Nat → Int) : ∀ k j, j ≤ k → kf j ≤ kf (argBest (fun i j => decide (kf j < kf i)) k)
  | 0, j, h => by
    have : j = 0 := by omega
    rw [this]
    exact Int.le_refl _
  | k + 1, j, h => by
    have ih := best_ge kf k
    show kf j ≤ kf (if decide (kf (argBest (fun i j => decide (kf j < kf i)) k) < kf (k + 1)) = true then k + 1 else argBest (fun i j => decide (kf j < kf i)) k)
    by_cases c : kf (argBest (fun i j => decide (kf j < kf i)) k) < kf (k + 1)
    · rw [if_pos (decide_eq_true c)]
      by_cases e : j = k + 1
      · rw [e]; exact Int.le_refl _
      · have := ih j (by omega)
        omega
    · rw [if_neg (fun z => c (of_decide_eq_true z))]
      by_cases e : j = k + 1
      · rw [e]; omega
      · exact ih j (by omega)
theorem best_le (bt : Nat → Nat → Bool) : ∀ k, argBest bt k ≤ k
  | 0 => Nat.le_refl _
  | k + 1 => by
    have := best_le bt k
    show (if bt (k + 1) (argBest bt k) = true then k + 1 else argBest bt k) ≤ k + 1
    split <;> omega
theorem max_list_key {l q : Addr} {vs : Array Value} (kf : Nat → Int) {Q : Value → Shared → Prop} (hh : A.handled = none) (hl : s.heap.IsList l vs) (hn : 0 < vs.size)
    (hcall : ∀ (i : Nat) (v : Value) (h' : Heap) (tk : Nat) (Q' : Value → Shared → Prop) (E' : Value → Shared → Prop), vs[i]? = some v → (∀ b o, s.heap.get? b = some o → h'.get? b = some o) →
      (∀ (t : Tok) (h'' : Heap) (tk'' : Nat), (∀ b o, h'.get? b = some o → h''.get? b = some o) → Q' (.int (kf i) t) { s with heap := h'', toks := tk'' }) → wpAny (model prog w) A.in1 (call (.ref q) [v]) Q' E' { s with heap := h', toks := tk })
    (h : ∀ (i : Nat) v h' tk, vs[i]? = some v → (∀ j, j < vs.size → kf j ≤ kf i) → (∀ b o, s.heap.get? b = some o → h'.get? b = some o) → Q v { s with heap := h', toks := tk }) :
    wpAny (model prog w) A (call (.builtin "max") [.ref l] [(Str.ofString "key", .ref q)]) Q E s := by
  refine PySem.call_max_walkK (PySem.W.iter_listW (A := A.in1) hh hl fun s₂ e W st hfp hw hk => ?_)
  have hS : ∀ b o, s.heap.get? b = some o → b ∉ (s₂.heap.objs.size :: [s.heap.objs.size]) := fun b o eb hb => by
    have h1 := Heap.lt_size eb
    subst e
    have h2 : ({ s with heap := s.heap.push { cls := .type "list_iterator", data := .fields #[.ref l, .int 0 0] } } : Shared).heap.objs.size = s.heap.objs.size + 1 := Heap.size_push _ _
    rw [h2] at hb
    rcases List.mem_cons.mp hb with z | z
    · exact absurd h1 (by rw [z]; exact Nat.not_lt.mpr (Nat.le_succ _))
    · rw [List.mem_singleton.mp z] at h1
      exact Nat.lt_irrefl _ h1
  refine ⟨_, _, _, _, _, _, _, (fun s' => ∃ h' tk, s' = { s with heap := h', toks := tk } ∧ ∀ b o, s.heap.get? b = some o → h'.get? b = some o), (fun i k _ => ∃ t, k = .int (kf i) t), (fun i j => decide (kf j < kf i)), rfl, W, st, hfp, hn, ⟨?_, ?_, ?_, ?_⟩, ?_, ?_⟩
  · rintro s1 s' ⟨h1, tk, rfl, k1⟩ m
    refine ⟨s'.heap, s'.toks, ?_, fun b o eb => m.heap b o (hS b o eb) (k1 b o eb)⟩
    obtain ⟨hp, g, d, tk', os⟩ := s'
    have e1 : g = s.gens := m.gens
    have e2 : d = s.drawn := m.drawn
    have e3 : os = s.os := m.os
    subst e1
    subst e2
    subst e3
    rfl
  · intro i k s1 s' hv m
    exact hv
  · rintro i v s1 o Q' E' hi hP ⟨h1, tk, rfl, k1⟩ hst hS1 hq
    refine hcall i v h1 tk Q' E' hP k1 fun t h2 tk2 k2 => ?_
    refine hq _ _ ⟨h2, tk2, rfl, fun b o eb => k2 b o (k1 b o eb)⟩ ?_ (k2 _ _ hS1) ⟨t, rfl⟩ fun j k' hk' => hk'
    exact W.frame (i + 1) { s with heap := h1, toks := tk } h2 tk hst (Nat.le_refl _) fun b _ o eb => k2 b o eb
  · rintro i j ki kj s1 Q' E' _ ⟨t1, rfl⟩ ⟨t2, rfl⟩ hq
    exact CmpOf.ints_gt (prog := prog) (w := w) (A := A.in1) (P := fun i v => ∃ t, v = .int (kf i) t) kf (fun i v h => h) i j _ _ _ _ _ ⟨t1, rfl⟩ ⟨t2, rfl⟩ hq
  · subst e
    exact ⟨_, _, rfl, fun b o eb => Heap.get?_push_of_some _ eb⟩
  · rintro v s' hP ⟨h', tk, rfl, k'⟩
    exact h _ v h' tk hP (fun j hj => best_ge kf _ j (by omega)) k'
end
structure LamY (sc scope : Scope) (z y : Str) : Prop where
  kind : scope.kind = .function
  co : scope.isCoroutine = false
  gen : scope.isGenerator = false
  nc : ∀ q ∈ scope.names, q.2 ≠ .cell
  z : scope.names.lookup z = some .local
  y : scope.names.lookup y = some .free
  free : ∀ q ∈ scope.names, q.2 = .free → sc.names.lookup q.1 = some .cell
theorem lamY_by {sc scope : Scope} {z y : Str} (h1 : scope.kind = .function) (h2 : scope.isCoroutine = false) (h3 : scope.isGenerator = false) (h4 : (scope.names.all fun q => !decide (q.2 = .cell)) = true) (h5 : scope.names.lookup z = some .local) (h6 : scope.names.lookup y = some .free)
    (h7 : (scope.names.all fun q => !decide (q.2 = .free) || decide (sc.names.lookup q.1 = some .cell)) = true) : LamY sc scope z y := by
  refine ⟨h1, h2, h3, fun q hq e => ?_, h5, h6, fun q hq e => ?_⟩
  · have := List.all_eq_true.mp h4 q hq
    rw [e] at this
    simp at this
  · have := List.all_eq_true.mp h7 q hq
    rw [e] at this
    simpa using this
section
variable {prog : Program} {w : World} {A : Around} {E : Value → Shared → Prop} {s : Shared}
theorem keyM_eval {env : Env} {m : Str → Option Value} {y z : Str} {c l t : Addr} {its : Array Value} {tis : List Value} {n x : Nat} {u tr : Tok} {ri : Int} {jj : Nat} {p1 p2 p3 p4 p5 : Pos} {Q : Value → Shared → Prop} (hk : env.scope.kind = .function) (hz : env.kindOf z = some .local)
    (hn : s.heap.Ns env.locals m) (hm : m z = some (.ref t)) (hy : env.kindOf y = some .free) (hc : env.cells.lookup y = some c) (hcell : s.heap.IsCell c (some (.ref l))) (hl : s.heap.IsList l its) (ht : IsTup s.heap t tis.toArray) (e1 : tis[n]? = some (.int x u)) (hx : its[x]? = some (.int ri tr)) (hfn : n < 5000) (hfit : x < 5000)
    (dz : (z == ("__debug__" : Str)) = false) (dy : (y == ("__debug__" : Str)) = false) (cy : (y == ("__classdict__" : Str)) = false) (h : ∀ tk, Q (.int ri tr) { s with toks := tk }) :
    wpAny (model prog w) A (eval (.Subscript (.Name y p1) (.Subscript (.Name z p2) (.Constant (.int n) jj p3) p4) p5) env) Q E s := by
  refine Subscript_ (wpAny_Name (wpAny_loadName_free hk hy hc hcell (Subscript_ (wpAny_Name (wpAny_loadName_local hk hz hn hm (wpAny_Constant_int ?_)) dz)) cy) dy)
  have hl1 : n < tis.length := (List.getElem?_eq_some_iff.mp e1).1
  refine item_tupleT (j := n) (s := { s with toks := s.toks + 1 }) ht (by omega) (by omega) ?_ e1 ?_ (by intros; rfl)
  · rw [seqIndex_of (by omega) (by omega)]
    rfl
  refine item_listR (s := { s with toks := s.toks + 1 }) hl (by omega) (by omega) (by simpa using hx) (h _) (by intros; rfl)
end
/-- rows and the table -/
def tMaxLam (K : PySem.W.Frag) (ta : TE) (n iy : Nat) (P : Addr) (q : Str) : TE := fun σ H Q => ta σ H fun x H1 => ∃ (l T : Addr) (ts : List Addr) (f : Addr → Nat) (tab : List Int), x = .ref l ∧ 1 ≤ ts.length ∧ SqL K H1 l (ts.map V.ref) ∧
  (∀ t ∈ ts, ∃ xs, SqT K H1 t xs ∧ xs[n]? = some (.int (f t)) ∧ f t < tab.length) ∧ tab.length ≤ 5000 ∧ σ[iy]? = some (some (.ref T)) ∧ H1 T = some (.lst (tab.map V.int)) ∧ TabS H1 P q ∧
  ∀ H2 t, ExtN H1 H2 → TabS H2 P q → t ∈ ts → (∀ t' ∈ ts, tab.getD (f t') 0 ≤ tab.getD (f t) 0) → Q (.ref t) H2
section
variable {X : Cx}
theorem pe_maxLam {c P : Addr} {k n iy jj : Nat} {fe : Expr} {as : List Expr} {ks : List Keyword} {pc : Pos} {ta : TE} {params : Arguments} {scope : Scope} {z y : Str} {p p1 p2 p3 p4 p5 lpos kpos pos : Pos} (hcalm : X.calm = true) (hg : Gl X "max") (hm : X.mg "max" = none) (ha : PE X (.Call fe as ks pc) ta)
    (TB : TabB X.base X.mg c P) (hcode : X.env.code = .ref c) (L : LamY X.env.scope scope z y) (hN : X.N[iy]? = some y) (hdef : defaultsOf params X.env = ([], [])) (hf : n < 5000)
    (hbind : ∀ (q : Str) (b : Expr) (cl : List (Str × Addr)) (pm cv ctv v : Value), bindArgs (PySem.W.kla_fn "<lambda>" q params b scope cl pm cv ctv) ⟨[v], []⟩ = pure [(z, v)]) (hr : Room (k + 3) X.A)
    (dz : (z == ("__debug__" : Str)) = false) (dy : (y == ("__debug__" : Str)) = false) (cy : (y == ("__classdict__" : Str)) = false) :
    PE X (.Call (.Name "max" p) [.Call fe as ks pc] [⟨some "key", .Lambda params (.Subscript (.Name y p1) (.Subscript (.Name z p2) (.Constant (.int n) jj p3) p4) p5) scope lpos, kpos⟩] pos)
      (tMaxLam X.K ta n iy P (X.env.qual ++ "<lambda>")) := by
  refine ⟨fun pins s σ H Q I h => ?_⟩
  refine wpAny_Call_Name_kw (ld_blt I hg hm boot_max ?_)
  refine PyProof.Rows.callWith_kw ?_
  refine Calls.spliced_cons (thn (ha.run pins s σ H _ I h) fun v s2 ⟨x, H2, I2, rv, q⟩ => ?_)
  obtain ⟨l, T, ts, f, tab, rfl, hn, hl, hts, tl, hsl, hT0, hT, q⟩ := q
  cases (show v = Value.ref l from rv)
  refine Calls.spliced_nil ?_
  show wpAny _ _ (evalAll ((do let v ← eval (.Lambda params (.Subscript (.Name y p1) (.Subscript (.Name z p2) (.Constant (.int n) jj p3) p4) p5) scope lpos) X.env; standAt pos; pure v) :: [])) _ _ _
  have hfree : ∀ q ∈ scope.names, q.2 = .free → ∃ c, X.env.cells.lookup q.1 = some c := fun q hq e => I2.ok.has _ (.inl (L.free q hq e))
  refine wpAny_evalAll_cons (wpAny_bind (lam_make2 (T := [(P, X.env.qual ++ "<lambda>")]) I2 TB hcode (by simp) (fun pp hp _ => by simp at hp; rw [hp]) (fun pp hp => by simp at hp; rw [hp]; exact hT) hdef hfree
    fun g c' pm ctv H3 s4 I5 eN T5 hgf hfn hfr hco => wpAny_bind (wpAny_standAt (wpAny_pure (wpAny_evalAll_nil ?_)))))
  have hT3 : TabS H3 P (X.env.qual ++ "<lambda>") := T5 _ (List.mem_singleton.mpr rfl)
  obtain ⟨its, rv, pl, hz⟩ := I5.list (Lr.sqL_ext eN hl)
  have ei := refs_at rv
  subst ei
  have hT03 : H3 T = some (.lst (tab.map V.int)) := eN _ _ hT0 fun ps e => nomatch e
  obtain ⟨⟨oc, vs, t, hoc, hdc, hvc⟩, _, _⟩ := I5.hok c' _ hco
  -- the captured list
  obtain ⟨hz5, tbs, m5, vits, gl⟩ := (show ObjOk X.prog X.w H3 s4.heap T (.lst (tab.map V.int)) from I5.hok T _ hT03)
  obtain ⟨m, hns, hloc⟩ := I5.loc
  have ysc : X.env.scope.names.lookup y = some .cell := L.free (y, .free) (PySem.mem_of_lookup L.y) rfl
  obtain ⟨u, ru, lk⟩ := hloc iy y (.ref T) hN hsl (.inr (.inl ysc))
  cases (show u = Value.ref T from ru)
  obtain ⟨cc, hcc, hcell⟩ : ∃ c, X.env.cells.lookup y = some c ∧ s4.heap.IsCell c (some (.ref T)) := by
    rcases lk with ⟨k1, _⟩ | ⟨_, c1, e1, e2⟩
    · rw [show X.env.scope.names.lookup y = some .local from k1] at ysc
      cases ysc
    · exact ⟨c1, e1, e2⟩
  have clk : (cloFrom X.env.cells scope.names []).lookup y = some cc := by
    obtain ⟨c2, h2⟩ := mem_lookup (cloFrom_has (cells := X.env.cells) (acc := []) (PySem.mem_of_lookup L.y))
    rcases cloFrom_mem (PySem.mem_of_lookup h2) with hm | ⟨_, h4⟩
    · cases hm
    · rw [h2, h4, hcc]
      rfl
  have hsz : (ts.map Value.ref).toArray.size = ts.length := by simp
  refine max_list_key (q := g) (fun i => tab.getD (f (ts.getD i 0)) 0) (I5.ok.hd hcalm) pl.isList (by omega) ?_ ?_
  · intro i v h1 tk Q' E' hv kp hq
    have hi : i < ts.length := by
      have := (Array.getElem?_eq_some_iff.mp hv).1
      omega
    have ev : v = .ref ts[i] := by
      rw [List.getElem?_toArray, List.getElem?_map, List.getElem?_eq_getElem hi] at hv
      exact (Option.some.inj hv).symm
    subst ev
    have eg : ts.getD i 0 = ts[i] := by rw [List.getD_eq_getElem?_getD, List.getElem?_eq_getElem hi]; rfl
    rw [eg] at hq
    obtain ⟨xs, hxs, e1, flt⟩ := hts ts[i] (List.getElem_mem hi)
    generalize ts[i] = t' at hxs e1 flt hq
    obtain ⟨tis, tv, tpl, _⟩ := I5.tuple (Lr.sqT_ext eN hxs)
    obtain ⟨w1, f1, v1, rfl⟩ := tv.get e1
    have gi : (tab.map V.int)[f t']? = some (.int tab[f t']) := by
      rw [List.getElem?_map, List.getElem?_eq_getElem flt]
      rfl
    obtain ⟨w0, ew, tr, rfl⟩ := vits.get gi
    have eg2 : tab.getD (f t') 0 = tab[f t'] := by rw [List.getD_eq_getElem?_getD, List.getElem?_eq_getElem flt]; rfl
    rw [eg2] at hq
    have dp := (hr.in1.in1 : Room (k + 1) X.A.in1.in1).depth
    refine wpAny_call (codeAny_mono (R := fun r s' => ∃ v, r = .ok (.ret v) ∧ Q' v s') ?_ fun r s' hq => ?_)
    · refine PySem.W.kla_callFunE dp (kp _ _ hgf) rfl L.co L.gen rfl ⟨c', oc, vs, t, rfl, kp _ _ hoc, hdc, hvc⟩ ?_
      rw [hbind]
      refine wpAny_pure (wpAny_newFunctionEnv L.nc (fun q hq => ?_) (fun h1' hn1 hsb => ⟨((I5.kept (t' := tk) kp).nolimit).fresh _ hsb, ?_⟩) L.kind)
      · rw [List.mem_singleton.mp hq]
        exact L.z
      · have k1 : ∀ b o, h1.get? b = some o → h1'.get? b = some o := fun b o e => hsb.extBut b o (Nat.ne_of_lt (Heap.lt_size e)) (Heap.get?_push_of_some _ e)
        refine PySem.W.kla_codeExpr (keyM_eval (c := cc) (l := T) (its := tbs.toArray) (t := t') (tis := tis) (x := f t') L.kind L.z hn1 (by simp) L.y clk ?_ ?_ ?_ f1 (by simpa using ew) hf (by omega) dz dy cy fun tk' => ?_)
        · obtain ⟨o, ho, hd⟩ := hcell
          exact ⟨o, k1 _ _ (kp _ _ ho), hd⟩
        · exact ⟨_, k1 _ _ (kp _ _ gl), rfl, _, rfl⟩
        · obtain ⟨o, ho, r⟩ := tpl
          exact ⟨o, k1 _ _ (kp _ _ ho), r⟩
        · exact ⟨_, rfl, hq _ _ _ k1⟩
    · obtain ⟨v, rfl, hq⟩ := hq
      exact hq
  · intro i v h' tk hv hge kp
    have hi : i < ts.length := by
      have := (Array.getElem?_eq_some_iff.mp hv).1
      omega
    have ev : v = .ref ts[i] := by
      rw [List.getElem?_toArray, List.getElem?_map, List.getElem?_eq_getElem hi] at hv
      exact (Option.some.inj hv).symm
    subst ev
    have eg : ts.getD i 0 = ts[i] := by rw [List.getD_eq_getElem?_getD, List.getElem?_eq_getElem hi]; rfl
    refine ⟨.ref ts[i], H3, I5.kept kp, rfl, q H3 ts[i] eN hT3 (List.getElem_mem hi) fun t' ht' => ?_⟩
    obtain ⟨j, hj⟩ := List.getElem?_of_mem ht'
    have hj' := (List.getElem?_eq_some_iff.mp hj).1
    have := hge j (by omega)
    rw [eg] at this
    have ej : ts.getD j 0 = t' := by rw [List.getD_eq_getElem?_getD, hj]; rfl
    rw [ej] at this
    exact this
end
end Lm
/-! an own error below an own error below ValueError whose __init__ says super().__init__(f'..{where}') and keeps where -/
namespace SupE
open PySem PySem.W PySem.Calls PyProof.Rows PySem.HandSPX
/-! ### the text -/
def iA (p1 p2 : Pos) : Arguments := { posonlyargs := [], args := [{ arg := "self", annotation := none, pos := p1 }, { arg := "where", annotation := none, pos := p2 }], vararg := none, kwonlyargs := [], kw_defaults := [], kwarg := none, defaults := [] }
structure Ps where
  a : Pos
  b : Pos
  c : Pos
  d : Pos
  e : Pos
  f : Pos
  g : Pos
  h : Pos
  i : Pos
  j : Pos
  k : Pos
  l : Pos
  m : Pos
def jE (z : Str) (q : Ps) : Expr := .JoinedStr [.Constant (.str z) 0 q.d, .FormattedValue (.Name "where" q.e) (-1) none q.f] q.g
def s1 (z : Str) (q : Ps) : Stmt := .Expr (.Call (.Attribute (.Call (.Name "super" q.a) [] [] q.b) "__init__" q.c) [jE z q] [] q.h) q.i
def s2 (q : Ps) : Stmt := .Assign [.Attribute (.Name "self" q.j) "where" q.k] (.Name "where" q.l) q.m
def iB (z : Str) (q : Ps) : List Stmt := [s1 z q, s2 q]
def iS : Scope := { kind := .function, names := [(PySem.Str.ofString "self", .local), (PySem.Str.ofString "where", .local), (PySem.Str.ofString "__class__", .free), (PySem.Str.ofString "super", .globalImplicit)], isGenerator := false, isCoroutine := false, more := [] }
/-- what the written part says of the class at C and of its __init__ at fI -/
structure Txt (prog : Program) (K : Frag) (mg : Str → Option Value) (z : Str) (C fI : Addr) : Prop where
  ox : L2.OexC K C
  noN : findIn K (.ref C) "where" = some none
  iC : findIn K (.ref C) "__init__" = some (some (.ref fI))
  tI : typeIn K (.ref fI) = some (.type "function")
  sub : mroIn K C (.ref C) = some true
  al : ks_superIn K C C "__init__" = some (some (.builtin "ValueError.__init__"))
  opq : nsIn K cStatics "thirdparty.any" = some none
  xi : excInitIn K C He.veBase "ValueError.__new__" = true
  sVE : subIn K (.ref C) (.type "ValueError") = some true
  sup : mg "super" = none
  top : (prog.main.scope.names.lookup ("super" : Str)).isSome = false
  fn : ∃ (oc doc pm ct ccl cl : Value) (qual : Str) (od cdd cld an : Option Addr) (osl ccs csl : Array (Option Value)) (p1 p2 : Pos) (q : Ps) (cda cc : Addr) (vs : Array Value) (file : Str) (tf : Tok), (q.c.endLine == q.h.line) = true ∧
    K.lookup fI = some ⟨oc, od, .func (ksFn "__init__" qual (iA p1 p2) (iB z q) iS .none .none doc pm an (.ref cda) ct cc), osl⟩ ∧ codeIn K (.ref cda) qual = true ∧
    K.lookup cda = some ⟨ccl, cdd, .fields vs, ccs⟩ ∧ vs[2]? = some (.str file tf) ∧ ((prog.main.file : Str) == file) = true ∧ K.lookup cc = some ⟨cl, cld, .cell (some (.ref C)), csl⟩
theorem call_tree {z : Str} {q : Ps} {env : Env} (h : (q.c.endLine == q.h.line) = true) (hform : methodCallForm 1 (backTo q.h (starEach [jE z q] env)) [] = true := by rfl) :
    eval (.Call (.Attribute (.Call (.Name "super" q.a) [] [] q.b) "__init__" q.c) [jE z q] [] q.h) env = (do
      let ov ← attributeBase (.Call (.Name "super" q.a) [] [] q.b) "__init__" env (eval (.Call (.Name "super" q.a) [] [] q.b) env)
      standAt q.c.atName
      let (f, first) ← holding [ov] (getMethod ov "__init__" (L2.plainOf (.Call (.Name "super" q.a) [] [] q.b) env))
      callWith q.h f first (backTo q.h (starEach [jE z q] env)) []) := by
  rw [arm_eval_Call]
  have e : ∀ ov, methodCall (.Call (.Name "super" q.a) [] [] q.b) "__init__" q.c q.h env ov ([jE z q].length + ([] : List Keyword).length) (backTo q.h (starEach [jE z q] env)) (backToKw q.h (keywordEach [] env)) = (do
      let (f, first) ← holding [ov] (getMethod ov "__init__" (L2.plainOf (.Call (.Name "super" q.a) [] [] q.b) env))
      callWith q.h f first (backTo q.h (starEach [jE z q] env)) []) := fun ov => L2.mcall_line hform h
  exact congrArg (fun k : Value → Sem Value => (do
      let ov ← attributeBase (.Call (.Name "super" q.a) [] [] q.b) "__init__" env (eval (.Call (.Name "super" q.a) [] [] q.b) env)
      standAt q.c.atName
      k ov)) (funext e)
/-- what __init__ leaves of a fresh error at x -/
structure InitEnd (h h' : Heap) (x C dx t1 : Addr) (v : Value) : Prop where
  keep : ∀ b o, b ≠ x → h.get? b = some o → h'.get? b = some o
  obj : h'.get? x = some { cls := .ref C, dict := some dx, data := .fields #[.ref t1, .none, .none, .none, .bool false, .none] }
  dbig : h.objs.size ≤ dx
  dne : dx ≠ x
  ns : h'.Ns1 dx (fun y => if y = "where" then some v else none)
section
variable {prog : Program} {w : World} {A : Around} {E : Value → Shared → Prop} {R : Result → Shared → Prop} {s : Shared} {K : Frag} {mg : Str → Option Value} {C fI : Addr} {z : Str}
/-- a value that may stand behind a text -/
def Says (z : Str) (v : Value) : Prop := z.length ≤ sizeLine ∧ ((∃ (y : Str) (t : Tok), v = .str y t ∧ y.length ≤ sizeLine ∧ (z ++ y).length ≤ sizeLine) ∨
  ∃ (i : Int) (t : Tok), v = .int i t ∧ i.natAbs.log2 < 1920 ∧ (z ++ (toString i : Str)).length ≤ sizeLine)
theorem kept_but {h h' : Heap} {x : Addr} (X : K.In h) (hx : K.lookup x = none) (k : ∀ b o, b ≠ x → h.get? b = some o → h'.get? b = some o) : K.In h' := fun a o e =>
  k a o (fun z => by rw [z, hx] at e; cases e) (X a o e)
theorem init (T : Txt prog K mg z C fI) {x t0 : Addr} {v : Value} (X : K.In s.heap) (G : s.heap.Ns mainGlobals mg) (B : ∃ mb, s.heap.Ns builtinsNs mb ∧ ∀ y : Str, y ≠ "__name__" → mb y = bootBuiltins y) (hlim : s.heap.NoLimit)
    (hx : s.heap.get? x = some (excO C t0)) (hnx : K.lookup x = none) (hroom : A.depth < recursionLimit) (hv : Says z v)
    (hq : ∀ h' tk dx t1, InitEnd s.heap h' x C dx t1 v → R (.ok (.ret .none)) { s with heap := h', toks := tk }) :
    codeAny (model prog w) A (.call (.ref fI) ⟨[.ref x, v], []⟩) R s := by
  obtain ⟨oc, doc, pm, ct, ccl, cl, qual, od, cdd, cld, an, osl, ccs, csl, p1, p2, q, cda, cc, vs, file, tf, hln, ho, hcd, hco, hvs, hfile, hcell⟩ := T.fn
  obtain ⟨nm, qn, N, bs, bm, sn, sub, ab, col, dd, k0, k1, k2, k3, k5, hC, hbm⟩ := T.ox.cls
  have hcl : clsIn K C = some { name := nm, bases := bs, mro := .ref C :: bm, ns := N, qualname := qn, hasDict := true, slotNames := sn, subclasses := sub, abstract := ab, collection := col, hasDel := false } := by unfold clsIn; rw [hC] <;> rfl
  obtain ⟨hp, g, d, tk, os⟩ := s
  obtain ⟨mb, hmb, hbt⟩ := B
  refine ks_codeAny_call_defAt (fd := ksFn "__init__" qual (iA p1 p2) (iB z q) iS .none .none doc pm an (.ref cda) ct cc) (body := iB z q) (binds := [("self", .ref x), ("where", v)]) hroom (X _ _ ho) rfl hlim (codeRec_of X hcd) rfl
    (BindsTo.of_eq (by first | rfl | with_unfolding_all rfl)) (show ∀ y ∈ iS.names, y.2 ≠ .cell by decide) (fun y hy => ?_) (fun h₁ hns hk => ?_) rfl rfl rfl
  · rcases List.mem_cons.mp hy with rfl | hy
    · rfl
    rcases List.mem_cons.mp hy with rfl | hy
    · rfl
    · cases hy
  have X₁ : K.In h₁ := X.keeps hk
  have hx₁ := hk _ _ hx
  have hxC : x ≠ C := fun e => by rw [e, hC] at hnx; cases hnx
  refine ks_wpAt_execs_cons (ks_wpAt_Expr_any (ks_wpAt_MethodCall (pl := L2.plainOf (.Call (.Name "super" q.a) [] [] q.b) (ksEnv qual iS hp.objs.size fI (.ref cda) cc)) ?_ (call_tree hln)))
  refine ks_wpAt_super_base (by rfl) (by rfl) rfl rfl (hk _ _ (X _ _ ho)) rfl rfl rfl (hk _ _ (X _ _ hco)) rfl hvs hfile T.top ?_
  refine ks_loadName_global rfl (by rfl) (loadGlobal_builtin (G.keeps hk) T.sup (hmb.keeps hk) ((hbt _ (by decide)).trans PyProof.Rows.Boot.«super») ⟨rfl, ?_⟩)
  refine wpAny_loadName_free rfl (by rfl) rfl ⟨_, hk _ _ (X _ _ hcell), rfl⟩ ?_
  refine wpAny_loadName_local (v := .ref x) rfl (by rfl) hns (by first | rfl | with_unfolding_all rfl | kernel_rfl) ?_
  refine ks_wpAny_isType_cls (X₁ _ _ hC) rfl ⟨rfl, ?_⟩
  refine ks_wpAny_call_super (X₁ _ _ hC) rfl hx₁ rfl (fun c e => by cases e) (looks_mroIn X₁ T.sub) (fun h₂ e₂ k₂ => ?_)
  have X₂ : K.In h₂ := X₁.keeps k₂
  have hx₂ := k₂ _ _ hx₁
  have hns₂ := hns.keeps k₂
  have hal : alongIn K "__init__" ((((.ref C : Value) :: bm).dropWhile (· != .ref C)).drop 1) = some (some (.builtin "ValueError.__init__")) := by
    have e := T.al
    unfold ks_superIn at e
    rw [hcl] at e
    exact e
  have I₂ : InstAt h₂ x (excO C t0) C none := ⟨hx₂, rfl, rfl, trivial⟩
  refine kxs_getMethod kxs_ValueError (K := K) (l₀ := .ref C :: bm) e₂ (looks_opaque X₂ T.opq) (fun A Q E s k q => wpAny_bind ((looks_clsIn X₂ hcl) A _ E s k (wpAny_pure q))) rfl X₂ hal (I₂.type.andThen (looks_subIn X₂ T.sVE)) hxC (by decide) ?_
  -- the text, the call
  have k₃ : ∀ b o, h₂.get? b = some o → (h₂.push (kxs_mw "ValueError.__init__" x)).get? b = some o := fun b o e => Heap.get?_push_of_some _ e
  have hmw : (h₂.push (kxs_mw "ValueError.__init__" x)).get? h₂.objs.size = some (kxs_mw "ValueError.__init__" x) := Heap.get?_push_at rfl rfl
  have hx₃ := k₃ _ _ hx₂
  have hns₃ := hns₂.keeps k₃
  have X₃ : K.In _ := X₂.keeps k₃
  refine kxs_callWith (i := "ValueError.__init__") (x := x) (by rfl) ?_
  show wpAny _ _ (evalArgs _ true (backTo q.h ((false, eval (jE z q) (ksEnv qual iS hp.objs.size fI (.ref cda) cc)) :: [])) []) _ _ _
  refine evalArgs_plain ?_
  refine spliced_more (pos := q.h) (e := jE z q) (rest := []) (env := ksEnv qual iS hp.objs.size fI (.ref cda) cc) ?_ rfl
  -- what stands behind the text
  have fin : ∀ (y : Str) (ty : Tok) (tk3 : Nat), wpAny (model prog w) (A.deeper (ksEnv qual iS hp.objs.size fI (.ref cda) cc)) (spliced (backTo q.h (starEach [] (ksEnv qual iS hp.objs.size fI (.ref cda) cc))))
      (fun vs s₁ => KxsAt "ValueError.__init__" h₂.objs.size x s₁.heap ∧ wpAny (model prog w) (A.deeper (ksEnv qual iS hp.objs.size fI (.ref cda) cc)) (call (.ref h₂.objs.size) ([] ++ (Value.str y ty :: vs)))
        (fun _ s' => PySem.wpAt (model prog w) (A.deeper (ksEnv qual iS hp.objs.size fI (.ref cda) cc)) (.func (iB z q) (ksEnv qual iS hp.objs.size fI (.ref cda) cc)) (execs [s2 q] (ksEnv qual iS hp.objs.size fI (.ref cda) cc))
          (fun f s' => R (.ok (.ret (match f with | .ret v => v | _ => .none))) s')
          (fun e s' => wpAny (model prog w) (A.deeper (ksEnv qual iS hp.objs.size fI (.ref cda) cc)) (leaving (ksEnv qual iS hp.objs.size fI (.ref cda) cc) e) (fun _ s'' => R (.error e) s'') (fun e' s'' => R (.error e') s'') s') s')
        (fun e s' => wpAny (model prog w) (A.deeper (ksEnv qual iS hp.objs.size fI (.ref cda) cc)) (leaving (ksEnv qual iS hp.objs.size fI (.ref cda) cc) e) (fun _ s'' => R (.error e) s'') (fun e' s'' => R (.error e') s'') s') s₁)
      (fun e s' => wpAny (model prog w) (A.deeper (ksEnv qual iS hp.objs.size fI (.ref cda) cc)) (leaving (ksEnv qual iS hp.objs.size fI (.ref cda) cc) e) (fun _ s'' => R (.error e) s'') (fun e' s'' => R (.error e') s'') s')
      ⟨h₂.push (kxs_mw "ValueError.__init__" x), g, d, tk3, os⟩ := fun y ty tk3 => by
    refine spliced_none ⟨hmw, ?_⟩
    have xL : hp.objs.size ≠ x := Nat.ne_of_gt (Heap.lt_size hx)
    have lt2 : hp.objs.size < h₂.objs.size := hns₂.lt
    have F0 : Fr (hp.hide x) hp.objs.size (h₂.push (kxs_mw "ValueError.__init__" x)) _ := ⟨hns₃, fun b o e => k₃ _ _ (k₂ _ _ (hk _ _ (Heap.of_hide e))), Nat.le_of_eq (Heap.hide_size hp x)⟩
    have K0 : K.In (hp.hide x) := fun b o e => (Heap.hide_ne hp (fun z => by rw [z, hnx] at e; cases e)).trans (X b o e)
    have N0 : News (hp.hide x) hp.objs.size (h₂.push (kxs_mw "ValueError.__init__" x)) [(h₂.objs.size, kxs_mw "ValueError.__init__" x), (x, excObj C t0 none .none)] := fun p hpm => by
      rcases List.mem_cons.mp hpm with rfl | hpm
      · refine ⟨hmw, Nat.ne_of_gt lt2, ?_⟩
        cases e : (hp.hide x).get? h₂.objs.size with
        | none => rfl
        | some o => exact absurd (Nat.lt_trans lt2 (Heap.lt_size (Heap.of_hide e))) (Nat.lt_irrefl _)
      · cases List.mem_singleton.mp hpm
        exact ⟨hx₃, Ne.symm xL, Heap.hide_self hp x⟩
    have ux : h₂.objs.size ≠ x := fun z => by
      have lx : x < hp.objs.size := Heap.lt_size hx
      rw [← z] at lx
      exact absurd (Nat.lt_trans lt2 lx) (Nat.lt_irrefl _)
    have U0 : UpdF x (excObj C t0 none .none) [(h₂.objs.size, kxs_mw "ValueError.__init__" x), (x, excObj C t0 none .none)] _ := .tail ux (.head (fun _ h => (nomatch h)))
    refine kxs_call F0 K0 N0 F.excBase_ValueError T.xi (.head _) U0 (show 1 ≤ sizeLine by rw [sizeLine_eq]; decide) (fun t1 h₄ F4 N4 _ => ?_)
    have hx₄ : h₄.get? x = some (excO C t1) := (N4 (x, excObj C t1 none .none) (.tail _ (.tail _ (.head _)))).1
    have hns₄ := F4.ns
    have up : ∀ b o, b ≠ x → hp.get? b = some o → h₄.get? b = some o := fun b o hb e => F4.keep b o ((Heap.hide_ne hp hb).trans e)
    have X₄ : K.In h₄ := kept_but X hnx up
    refine wpAt_of_wpAny (wpAny_execs_cons (plainObj_wpAny_Assign_Attribute ?_))
    refine PySem.ESX.ldL (v := v) hns₄ (by first | rfl | with_unfolding_all rfl | kernel_rfl) (PySem.ESX.ldL (v := .ref x) hns₄ (by first | rfl | with_unfolding_all rfl | kernel_rfl) ?_)
    refine set_plain X₄ (ox := excO C t1) (od := none) ⟨hx₄, rfl, rfl, trivial⟩ T.ox.sa ?_
    refine exc_osa X₄ hx₄ hcl (show refsVE (.ref C :: bm) = true from hbm) rfl T.noN (fun h₅ tk₅ dx k₅ dn dne hx₅ hn₅ => ?_)
    show wpAny _ _ (execs _ _) _ _ _
    have big : hp.objs.size ≤ h₄.objs.size := by
      have z := hns₄.lt
      exact Nat.le_of_lt z
    exact wpAny_execs_nil (hq h₅ tk₅ dx t1 ⟨fun b o hb e => k₅ b o hb (up b o hb e), hx₅, Nat.le_trans big dn, dne, hn₅⟩)
  obtain ⟨hzl, hv⟩ := hv
  have z0 : (Str.empty ++ z : Str) = z := by obtain ⟨c⟩ := z; exact congrArg Str.mk (Array.empty_append)
  refine JoinedStr_many (joinParts_cons (wpAny_Constant_str ⟨by rw [z0]; exact hzl, joinParts_cons (FormattedValue_plain (PySem.ESX.ldL (v := v) hns₃ (by first | rfl | with_unfolding_all rfl | kernel_rfl) ?_))⟩))
  rw [z0]
  rcases hv with ⟨y, t, rfl, hy, hzy⟩ | ⟨i, t, rfl, hi, hzy⟩
  · exact formatField_str (fun t' tk => ⟨hzy, joinParts_nil (fin _ _ _) hzy⟩) hy
  · exact formatField_int_small hi ⟨hzy, joinParts_nil (fin _ _ _) hzy⟩
/-- a made one -/
structure Made (h h' : Heap) (e C d : Addr) (v : Value) : Prop where
  keep : ∀ b o, h.get? b = some o → h'.get? b = some o
  new : h.objs.size ≤ e
  obj : ∃ oe vs, h'.get? e = some oe ∧ oe.cls = .ref C ∧ oe.dict = some d ∧ oe.data = .fields vs ∧ vs[1]? = some .none
  dbig : h.objs.size ≤ d
  dne : d ≠ e
  ns : h'.Ns1 d (fun y => if y = "where" then some v else none)
theorem made (T : Txt prog K mg z C fI) {v : Value} (X : K.In s.heap) (G : s.heap.Ns mainGlobals mg) (B : ∃ mb, s.heap.Ns builtinsNs mb ∧ ∀ y : Str, y ≠ "__name__" → mb y = bootBuiltins y) (hlim : s.heap.NoLimit) (hroom : A.depth + 1 < recursionLimit) (hv : Says z v)
    (hq : ∀ h' tk e d, Made s.heap h' e C d v → R (.ok (.ret (.ref e))) { s with heap := h', toks := tk }) :
    codeAny (model prog w) A (.call (.ref C) ⟨[v], []⟩) R s := by
  obtain ⟨nm, qn, N, bs, bm, sn, sub, ab, col, dd, k0, k1, k2, k3, k5, hC, hbm⟩ := T.ox.cls
  obtain ⟨hp, g, d, tk, os⟩ := s
  obtain ⟨mb, hmb, hbt⟩ := B
  have k : ∀ b o, hp.get? b = some o → ((hp.push (kdv_tup [v])).push (excO C hp.objs.size)).get? b = some o := fun b o e => Heap.get?_push_of_some _ (Heap.get?_push_of_some _ e)
  have hget : ((hp.push (kdv_tup [v])).push (excO C hp.objs.size)).get? (hp.objs.size + 1) = some (excO C hp.objs.size) := by heap_get
  have hnx : K.lookup (hp.objs.size + 1) = none := by
    cases e : K.lookup (hp.objs.size + 1) with
    | none => rfl
    | some o => exact absurd (Nat.lt_of_succ_lt (Heap.lt_size (X _ _ e))) (Nat.lt_irrefl _)
  refine call_own F.excBase_ValueError (fun X => refsVE_contains X bm hbm) (X _ _ hC) (looks_findIn X T.iC) (fun self => bind_fn X self T.tI) (show 1 ≤ sizeLine by rw [sizeLine_eq]; decide) ?_
  refine init (s := ⟨(hp.push (kdv_tup [v])).push (excO C hp.objs.size), g, d, tk, os⟩) T (X.keeps k) (G.keeps k) ⟨mb, hmb.keeps k, hbt⟩ (hlim.keeps k) hget hnx hroom hv fun h' tk' dx t1 ⟨k', hx, dn, dne, hns⟩ => ?_
  have old : ∀ b o, hp.get? b = some o → h'.get? b = some o := fun b o e => k' b o (Nat.ne_of_lt (Nat.lt_succ_of_lt (Heap.lt_size e))) (k b o e)
  have z2 : hp.objs.size ≤ dx := by
    have q := dn
    rw [Heap.size_push, Heap.size_push] at q
    omega
  exact ⟨rfl, hq h' tk' (hp.objs.size + 1) dx ⟨old, Nat.le_succ _, ⟨_, _, hx, rfl, rfl, rfl, rfl⟩, z2, dne, hns⟩⟩
end
end SupE
namespace SupE
open PySem PySem.Spec PyProof.Rows L2
theorem relO_where {v : V} {v' : Value} (r : RelV v v') (f : Str) : RelO (List.lookup f [(("where" : Str), v)]) (if f = "where" then some v' else none) := by
  by_cases hw : f = "where"
  · subst hw
    rw [if_pos rfl, show List.lookup ("where" : Str) [(("where" : Str), v)] = some v by simp [List.lookup]]
    exact r
  · rw [if_neg hw, show List.lookup f [(("where" : Str), v)] = none by simp [List.lookup, show (f == ("where" : Str)) = false by simpa using hw]]
    trivial
/-- a text or number that may stand behind a text -/
def SaysV (z : Str) (v : V) : Prop := z.length ≤ sizeLine ∧ ((∃ y : Str, v = .str y ∧ y.length ≤ sizeLine ∧ (z ++ y).length ≤ sizeLine) ∨ ∃ i : Int, v = .int i ∧ i.natAbs.log2 < 1920 ∧ (z ++ (toString i : Str)).length ≤ sizeLine)
theorem saysV_ok {z : Str} {v : V} {u : Value} (h : SaysV z v) (r : RelV v u) : Says z u := by
  obtain ⟨h1, ⟨y, rfl, a, b⟩ | ⟨i, rfl, a, b⟩⟩ := h
  · obtain ⟨t, rfl⟩ := r
    exact ⟨h1, .inl ⟨y, t, rfl, a, b⟩⟩
  · obtain ⟨t, rfl⟩ := r
    exact ⟨h1, .inr ⟨i, t, rfl, a, b⟩⟩
/-- C(e) -/
def tMk (z : Str) (C : Addr) (ta : TA) : L2.St → Hp → XK → Prop := fun σ H Q => ta σ H fun vs H1 => ∃ v, vs = [v] ∧ SaysV z v ∧ ∀ d, H1 d = none → Q (.ref C) (some d) (upd H1 d (.xd [(("where" : Str), v)]))
section
variable {X : Cx} {C fI : Addr} {z : Str}
theorem pmk {x : Str} {a : Expr} {ta : TA} {p pos : Pos} {k : Nat} (T : Txt X.prog X.K X.mg z C fI) (hm : X.mg x = some (.ref C)) (hr : Room k X.A) (hk : 1 ≤ k) (ha : PA X [a] ta) (hg : Gl X x)
    (hdb : (x == ("__debug__" : Str)) = false := by decide) (he : starEach (a :: []) X.env = (false, eval a X.env) :: starEach [] X.env := by rfl) (hpl : (backTo pos (starEach [] X.env)).any (·.1) = false := by rfl) :
    PMk X (.Call (.Name x p) [a] [] pos) (tMk z C ta) := by
  intro pins s σ H Q I h
  refine wpAny_Call_Name_kw (ld_glob I hg hm ?_ hdb)
  refine PySem.W.callWith_K (h₀ := X.base) I.ok.mod.kin T.ox.kC (thn (ha.run pos pins s σ H _ I h) fun us s1 hh => ?_) he hpl
  obtain ⟨vs, H1, I1, r1, v, ev, sv, q1⟩ := hh
  subst ev
  refine ⟨I1.kIn, ?_⟩
  cases r1 with
  | cons rv rn =>
    rename_i v' us'
    cases rn
    show wpAny _ _ (call (.ref C) [v']) _ _ _
    have hlim := I1.nolimit
    have hG := I1.mod.glob.keeps I1.bk
    obtain ⟨mb, hb1, hb2⟩ := I1.mod.blt
    have hB := hb1.keeps I1.bk
    obtain ⟨hp, g, dr, tk, os⟩ := s1
    refine wpAny_call (made T I1.kIn hG ⟨mb, hB, hb2⟩ hlim (by have := hr.dp; omega) (saysV_ok sv rv) fun h' tk' e d M => ?_)
    show MkP X pins σ Q (.ref e) ⟨h', g, dr, tk', os⟩
    obtain ⟨oe, fv, hoe, hc, hd, hdat, h1⟩ := M.obj
    have hns := M.ns
    obtain ⟨G', g1, g2⟩ := restrict h' fun b => decide (b ≠ e)
    have gk : ∀ b, b ≠ e → G'.get? b = h'.get? b := fun b hb => g1 b (decide_eq_true hb)
    have ge : G'.get? e = none := g2 e (by simp)
    have old : ∀ b o, hp.get? b = some o → G'.get? b = some o := fun b o q => (gk b (Nat.ne_of_lt (Nat.lt_of_lt_of_le (Heap.lt_size q) M.new))).trans (M.keep b o q)
    have ob : ObjOk X.prog X.w (upd H1 d (.xd [(("where" : Str), v)])) G' d (.xd [(("where" : Str), v)]) := ⟨_, hns.at (fun o q => (gk d M.dne).trans q), fun f => relO_where rv f⟩
    have J : Inv X pins σ (upd H1 d (.xd [(("where" : Str), v)])) ⟨G', g, dr, tk', os⟩ := I1.laid (t' := tk') old M.dbig ob
    refine ⟨e, oe, fv, ⟨G', g, dr, tk', os⟩, _, .ref C, some d, rfl, J, fun b o q => ?_, ge, hoe, ⟨hc, hd⟩, hdat, h1, ?_, rfl, I1.bare, raises_own T.ox.exC T.ox.tyC, q1 d (I1.hok.fresh M.dbig)⟩
    · by_cases hb : b = e
      · have q' : G'.get? b = some o := q
        rw [hb, ge] at q'
        cases q'
      · exact (gk b hb).symm.trans q
    · rw [upd_ne (Ne.symm M.dne)]
      exact I1.hok.fresh M.new
end
end SupE
/-! isinstance of a caught own error that has its dict: one class, a tuple of classes -/
namespace ExIs
open PySem PySem.Spec PyProof.Rows L2
theorem kitD {K : PySem.W.Frag} {D x : Addr} {ox : Obj} {od : Option Obj} (c : ExcC K D) : PySem.W.KitX K (.ref x) (.ref D) (fun h => PySem.W.InstAt h x ox D od) := by
  have hcl : (PySem.W.clsIn K D).isSome = true := by
    have e := c.hd
    unfold PySem.W.hasDictIn at e
    cases q : PySem.W.clsIn K D with
    | none => rw [q] at e; cases e
    | some _ => rfl
  exact PySem.W.kitx_exc hcl c.hg c.hk c.hs c.ha c.hn c.ht c.hm
/-- the caught error at a, class cls, dict d: its class is the one at D, its dict is tracked -/
def Own (cls : Value) (d : Option Addr) (D : Addr) (H : Hp) : Prop := cls = .ref D ∧ ∃ (dd : Addr) (fs : List (Str × V)), d = some dd ∧ H dd = some (.xd fs)
/-- isinstance(e, c) -/
def rE1 (K : PySem.W.Frag) (a : Addr) (cls : Value) (d : Option Addr) : List V → Hp → VK → Prop := fun xs H Q => ∃ (D : Addr) (c : V) (u : Value) (b : Bool), xs = [.ref a, c] ∧ Own cls d D H ∧ ExcC K D ∧ ClsV c u ∧ PySem.W.kitOne K (.ref D) u = some b ∧ Q (.bl b) H
/-- isinstance(e, (c1, c2, ..)) -/
def rET (K : PySem.W.Frag) (a : Addr) (cls : Value) (d : Option Addr) : List V → Hp → VK → Prop := fun xs H Q => ∃ (D tp : Addr) (cs : List V) (us : List Value) (b : Bool), xs = [.ref a, .ref tp] ∧ Own cls d D H ∧ ExcC K D ∧ H tp = some (.tup cs) ∧
  Paired ClsV cs us ∧ PySem.W.kitAny K (.ref D) us = some b ∧ Q (.bl b) H
section
variable {X : Cx} {a : Addr} {oe : Obj} {cls : Value} {d : Option Addr} {pn : List (Addr × Obj)}
theorem inst {pins : List (Addr × Obj)} {σ : L2.St} {H : Hp} {s : Shared} {D : Addr} (I : Inv (X.suite a ((a, oe) :: pn)) pins σ H s) (hz : Zc cls d oe) (hf : ∃ vs, oe.data = .fields vs) (o : Own cls d D H) : ∃ od, PySem.W.InstAt s.heap a oe D (some od) := by
  obtain ⟨rfl, dd, fs, rfl, hd⟩ := o
  obtain ⟨hget, _⟩ := I.pin (a, oe) (List.mem_append.mpr (.inl List.mem_cons_self))
  have hx : ObjOk X.prog X.w H s.heap dd (.xd fs) := I.hok dd _ hd
  obtain ⟨mA, hns, _⟩ := hx
  obtain ⟨od, ho, _⟩ := lookIn_ns hns
  obtain ⟨vs, hv⟩ := hf
  refine ⟨od, hget, hz.1, ?_, ?_⟩
  · unfold PySem.W.notCls
    rw [hv]
  · rw [hz.2]
    exact ho
theorem call_e1 (hz : Zc cls d oe) (hf : ∃ vs, oe.data = .fields vs) : CallR (X.suite a ((a, oe) :: pn)) (.builtin "isinstance") (rE1 X.K a cls d) := by
  intro pins s σ H xs us Q I r h
  obtain ⟨D, c, u, b, rfl, o, C, k, e, q⟩ := h
  obtain ⟨od, J⟩ := inst I hz hf o
  obtain ⟨u1, u2, rfl, r1, r2⟩ := vals2 r
  cases (show u1 = Value.ref a from r1)
  cases k.eq r2
  exact PySem.W.kia_one (kitD C) I.kIn J e (fun z => nomatch z) fun tk => ⟨.bl b, H, I.tok tk, rfl, q⟩
theorem call_eT (hz : Zc cls d oe) (hf : ∃ vs, oe.data = .fields vs) : CallR (X.suite a ((a, oe) :: pn)) (.builtin "isinstance") (rET X.K a cls d) := by
  intro pins s σ H xs ws Q I r h
  obtain ⟨D, tp, cs, us, b, rfl, o, C, hT, k, e, q⟩ := h
  obtain ⟨od, J⟩ := inst I hz hf o
  obtain ⟨u1, u2, rfl, r1, r2⟩ := vals2 r
  cases (show u1 = Value.ref a from r1)
  cases (show u2 = Value.ref tp from r2)
  obtain ⟨_, its, rv, ⟨oc, oD, dt, sl⟩, h1, h2, n, h3⟩ := (show ObjOk X.prog X.w H s.heap tp (.tup cs) from I.hok tp _ hT)
  cases ClsV.all k rv
  cases (show oc = _ from h2)
  cases (show dt = _ from h3)
  exact PySem.W.kia_tup (kitD C) I.kIn J h1 e (fun z => nomatch z) fun tk => ⟨.bl b, H, I.tok tk, rfl, q⟩
end
end ExIs
/-! the head's facts (hookX's), the interpreter's statics among the addresses, and own errors with an __init__ by super() -/
namespace HookS
open PySem PySem.Spec PyProof.Rows L2
/-- an own error: the class's name, its __init__'s qualified name, places, text -/
structure ErD where
  cls : Str
  qual : Str
  p1 : Pos
  p2 : Pos
  z : Str
  q : SupE.Ps
def iAt (K : PySem.W.Frag) (x : Str) : Addr := He.ma K (He.ga K x) "__init__"
abbrev ErW : Type := Option (Str × Str × Arguments × FuncBody × Scope × Addr × List Str × Value × Value × Addr)
def erW (K : PySem.W.Frag) (x : Str) : ErW := match K.lookup (iAt K x) with
  | some ⟨_, _, .func fd, _⟩ => some (fd.name, fd.qualname, fd.params, fd.body, fd.scope, fd.globals, fd.closure.map (·.1), fd.defaults, fd.kwdefaults, fd.builtins)
  | _ => none
def ErD.val (d : ErD) : ErW := some ("__init__", d.qual, SupE.iA d.p1 d.p2, .stmts (SupE.iB d.z d.q), SupE.iS, mainGlobals, ["__class__"], .none, .none, builtinsNs)
/-- the code object's file, the cell -/
def cellB (K : PySem.W.Frag) (cc C : Addr) : Bool := match K.lookup cc with
  | some ⟨_, _, .cell (some (.ref D)), _⟩ => decide (D = C)
  | _ => false
def fileB (K : PySem.W.Frag) (cda : Addr) (file : Str) : Bool := match K.lookup cda with
  | some ⟨_, _, .fields vs, _⟩ => (match (vs[2]? : Option Value) with
    | some (Value.str f _) => file == f
    | _ => false)
  | _ => false
def fnB (K : PySem.W.Frag) (x file : Str) : Bool := match K.lookup (iAt K x) with
  | some ⟨_, _, .func fd, _⟩ => (match fd.code, fd.closure with
    | .ref cda, [(_, cc)] => PySem.W.codeIn K (.ref cda) fd.qualname && (fileB K cda file && cellB K cc (He.ga K x))
    | _, _ => false)
  | _ => false
/-- the class: below ValueError, made by its maker -/
def clsB (K : PySem.W.Frag) (C : Addr) : Bool := match K.lookup C with
  | some ⟨.type "type", _, .cls cd, sl⟩ => (match cd.mro, sl.toList with
    | .ref D :: bm, [_, _, _, _, some (.builtin n), _] => D == C && (n == "ValueError.__new__" && (!cd.hasDel && (cd.hasDict && PySem.HandSPX.refsVE bm)))
    | _, _ => false)
  | _ => false
def oexB (K : PySem.W.Frag) (C : Addr) : Bool := clsB K C && (He.eqO (PySem.W.findIn K (.ref C) "__setattr__") (some (some (.builtin "object.__setattr__"))) && (decide (PySem.W.subIn K (.ref C) (.type "BaseException") = some true) &&
  (decide (PySem.W.typeIn K (.ref C) = some (.type "type")) && PySem.W.keepIn K (.ref C))))
/-- isinstance and the fields of its instances -/
def isB (K : PySem.W.Frag) (C : Addr) : Bool := decide (PySem.W.findIn K (.ref C) "__getattribute__" = some (some (.builtin "BaseException.__getattribute__"))) && (decide (PySem.W.findIn K (.ref C) "__getattr__" = some none) &&
  (decide (PySem.W.subIn K (.ref C) (.type "BaseException") = some true) && (PySem.W.hasDictIn K C && (decide (PySem.W.findIn K (.ref C) "__class__" = some (some (.builtin "object.__class__"))) &&
  (decide (PySem.W.specialIn K (.builtin "object.__class__") "__get__" = some (some (.builtin "getset_descriptor.__get__"))) && (decide (PySem.W.takesIn K (.builtin "object.__class__") = some true) && decide (PySem.W.mroIn K C (.type "object") = some true)))))))
def erB (K : PySem.W.Frag) (x file : Str) : Bool := oexB K (He.ga K x) && (isB K (He.ga K x) && (fnB K x file && (He.eqO (PySem.W.nsIn K mainGlobals x) (some (some (.ref (He.ga K x)))) &&
  (He.eqO (PySem.W.findIn K (.ref (He.ga K x)) "where") (some none) && (He.eqO (PySem.W.findIn K (.ref (He.ga K x)) "__init__") (some (some (.ref (iAt K x)))) &&
  (decide (PySem.W.typeIn K (.ref (iAt K x)) = some (.type "function")) && (decide (PySem.W.mroIn K (He.ga K x) (.ref (He.ga K x)) = some true) && (decide (PySem.W.ks_superIn K (He.ga K x) (He.ga K x) "__init__" = some (some (.builtin "ValueError.__init__"))) &&
  (He.eqO (PySem.W.nsIn K cStatics "thirdparty.any") (some none) && (PySem.W.excInitIn K (He.ga K x) He.veBase "ValueError.__new__" && (decide (PySem.W.subIn K (.ref (He.ga K x)) (.type "ValueError") = some true) && He.eqO (PySem.W.nsIn K mainGlobals "super") (some none))))))))))))
section
variable {K : PySem.W.Frag} {C : Addr} {x file : Str}
theorem cls_ok (h : clsB K C = true) : ∃ nm q N bs bm sn sub ab col dd k0 k1 k2 k3 k5, K.lookup C = some (excClassObj nm q C N bs bm true sn sub ab col dd k0 k1 k2 k3 k5 "ValueError.__new__") ∧ PySem.HandSPX.refsVE bm = true := by
  unfold clsB at h
  split at h
  · rename_i dd cd sl e
    split at h
    · rename_i D bm a0 a1 a2 a3 n a5 hm hs
      simp only [Bool.and_eq_true, beq_iff_eq, Bool.not_eq_true'] at h
      obtain ⟨rfl, rfl, h3, h4, h5⟩ := h
      obtain ⟨nm, bs, mro, ns, qn, hd, sn, sb, ab, col, del⟩ := cd
      obtain ⟨l⟩ := sl
      dsimp only at hm hs h3 h4
      subst hm h3 h4
      have hs' : l = _ := hs
      subst hs'
      exact ⟨_, _, _, _, _, _, _, _, _, _, _, _, _, _, _, e, h5⟩
    · cases h
  · cases h
theorem oex_ok (h : oexB K C = true) : OexC K C := by
  obtain ⟨h1, h⟩ := He.ba h
  obtain ⟨h2, h⟩ := He.ba h
  obtain ⟨h3, h⟩ := He.ba h
  obtain ⟨h4, h5⟩ := He.ba h
  exact ⟨cls_ok h1, He.eqO_ok h2, of_decide_eq_true h3, of_decide_eq_true h4, h5⟩
theorem is_ok (h : isB K C = true) : ExcC K C := by
  obtain ⟨h1, h⟩ := He.ba h
  obtain ⟨h2, h⟩ := He.ba h
  obtain ⟨h3, h⟩ := He.ba h
  obtain ⟨h4, h⟩ := He.ba h
  obtain ⟨h5, h⟩ := He.ba h
  obtain ⟨h6, h⟩ := He.ba h
  obtain ⟨h7, h8⟩ := He.ba h
  exact ⟨of_decide_eq_true h1, of_decide_eq_true h2, of_decide_eq_true h3, h4, of_decide_eq_true h5, of_decide_eq_true h6, of_decide_eq_true h7, of_decide_eq_true h8⟩
theorem xf_ok (h : isB K C = true) : XfC K C := by
  have c := is_ok h
  exact ⟨c.hg, c.hk, c.hs, c.hd⟩
/-- an own error's text, by what was told -/
theorem er_ok {prog : Program} {h : Heap} {mg : Str → Option Value} {d : ErD} (X : K.In h) (G : h.Ns mainGlobals mg) (hw : erW K d.cls = d.val) (hb : erB K d.cls prog.main.file = true) (hl : (d.q.c.endLine == d.q.h.line) = true)
    (ht : (prog.main.scope.names.lookup ("super" : Str)).isSome = false) : SupE.Txt prog K mg d.z (He.ga K d.cls) (iAt K d.cls) ∧ mg d.cls = some (.ref (He.ga K d.cls)) ∧ ExcC K (He.ga K d.cls) ∧ XfC K (He.ga K d.cls) := by
  unfold erB at hb
  obtain ⟨h1, hb⟩ := He.ba hb
  obtain ⟨h2, hb⟩ := He.ba hb
  obtain ⟨h3, hb⟩ := He.ba hb
  obtain ⟨h4, hb⟩ := He.ba hb
  obtain ⟨h5, hb⟩ := He.ba hb
  obtain ⟨h6, hb⟩ := He.ba hb
  obtain ⟨h7, hb⟩ := He.ba hb
  obtain ⟨h8, hb⟩ := He.ba hb
  obtain ⟨h9, hb⟩ := He.ba hb
  obtain ⟨h10, hb⟩ := He.ba hb
  obtain ⟨h11, hb⟩ := He.ba hb
  obtain ⟨h12, h13⟩ := He.ba hb
  refine ⟨⟨oex_ok h1, He.eqO_ok h5, He.eqO_ok h6, of_decide_eq_true h7, of_decide_eq_true h8, of_decide_eq_true h9, He.eqO_ok h10, h11, of_decide_eq_true h12, PySem.W.mg_none_of X G (He.eqO_ok h13), ht, ?_⟩, PySem.W.mg_of X G (He.eqO_ok h4), is_ok h2, xf_ok h2⟩
  unfold erW ErD.val at hw
  unfold fnB at h3
  cases q : K.lookup (iAt K d.cls) with
  | none =>
    rw [q] at h3
    cases h3
  | some o =>
    rw [q] at h3 hw
    obtain ⟨oc, od, dt, osl⟩ := o
    cases dt with
    | func fd =>
      obtain ⟨n0, n1, n2, n3, n4, n5, cl, n7, n8, n9, n10, n11, code, n13, n14⟩ := fd
      have hw' := Option.some.inj hw
      simp only [Prod.mk.injEq] at hw'
      obtain ⟨e0, e1, e2, e3, e4, e5, e6, e7, e8, e9⟩ := hw'
      dsimp only at h3
      subst e0 e1 e2 e3 e4 e5 e7 e8 e9
      cases code with
      | ref cda =>
        cases cl with
        | nil => exact absurd (congrArg List.length e6) (by simp)
        | cons c1 r =>
          cases r with
          | cons c2 r => exact absurd (congrArg List.length e6) (by simp)
          | nil =>
            obtain ⟨cn, cc⟩ := c1
            have ecn : cn = "__class__" := (List.cons.inj e6).1
            subst ecn
            obtain ⟨k1, k2⟩ := He.ba h3
            obtain ⟨k2, k3⟩ := He.ba k2
            unfold fileB at k2
            unfold cellB at k3
            split at k2
            · rename_i o1 o2 vs o3 q1
              split at k2
              · rename_i f tf q2
                split at k3
                · rename_i o4 o5 D o6 q3
                  have eD := of_decide_eq_true k3
                  subst eD
                  exact ⟨oc, n9, n10, n13, o1, o4, d.qual, od, o2, o5, n11, osl, o3, o6, d.p1, d.p2, d.q, cda, cc, vs, f, tf, hl, rfl, k1, q1, q2, k2, q3⟩
                · cases k3
              · cases k2
            · cases k2
      | _ => cases h3
    | _ => cases h3
end
/-! ### the Hook -/
def asS (g : Addr → Option Obj) (n : Nat) : List Addr := He.asD g n ++ [cStatics]
def frS (g : Addr → Option Obj) (n : Nat) : PySem.W.Frag := He.frT g (asS g n)
abbrev AlS : Type := He.AlX × List ErW
def obsS (n : Nat) (fa : List He.Fa) (fn : List He.DefD) (tf : List He.Defn) (er : List ErD) (ex : PySem.W.Frag → Bool) (g : Addr → Option Obj) : AlS :=
  ((He.obsT fa fn [] (frS g n), ex (frS g n) && He.tabsB g tf (frS g n)), er.map fun d => erW (frS g n) d.cls)
def valS (fn : List He.DefD) (er : List ErD) (w : World) : AlS := (He.valX fn [] w, er.map ErD.val)
structure SaysS (fa : List He.Fa) (fn : List He.DefD) (tf : List He.Defn) (er : List ErD) (ex : PySem.W.Frag → Bool) (w : World) (h : Heap) (K : PySem.W.Frag) : Prop where
  x : He.SaysX fa fn [] tf ex w h K
  er : er.map (fun d => erW K d.cls) = er.map ErD.val
theorem says_of {n : Nat} {fa : List He.Fa} {fn : List He.DefD} {tf : List He.Defn} {er : List ErD} {ex : PySem.W.Frag → Bool} {w : World} {h : Heap} (e : obsS n fa fn tf er ex h.get? = valS fn er w) : SaysS fa fn tf er ex w h (frS h.get? n) := by
  have e0 := congrArg (fun z : AlS => z.1) e
  have e1 : He.obsT fa fn [] (frS h.get? n) = He.valT fn [] w := congrArg (fun z : He.AlX => z.1) e0
  have e2 : (ex (frS h.get? n) && He.tabsB h.get? tf (frS h.get? n)) = true := congrArg (fun z : He.AlX => z.2) e0
  obtain ⟨h1, h2⟩ := He.ba e2
  have each : ∀ p ∈ tf, PySem.W.codeHdIn (frS h.get? n) (He.cT (frS h.get? n) p).1 (He.cT (frS h.get? n) p).2 = true ∧ ∃ o, h.get? (He.cT (frS h.get? n) p).2 = some o ∧ He.emptyTab o = true := fun p hp => by
    obtain ⟨a1, a2⟩ := He.ba (List.all_eq_true.mp h2 p hp)
    refine ⟨a1, ?_⟩
    cases q : h.get? (He.cT (frS h.get? n) p).2 with
    | none =>
      rw [q] at a2
      exact Bool.noConfusion a2
    | some o =>
      rw [q] at a2
      exact ⟨o, rfl, a2⟩
  refine ⟨⟨e1, h1, fun p hp => (each p hp).1, fun p hp => ?_, fun p hp => ?_⟩, congrArg (fun z : AlS => z.2) e⟩
  · obtain ⟨_, o, q, y⟩ := each p hp
    exact He.frT_none q y
  · obtain ⟨_, o, q, y⟩ := each p hp
    exact q.trans (congrArg some (He.emptyTab_eq y))
def hookS (n : Nat) (fa : List He.Fa) (fn : List He.DefD) (tf : List He.Defn) (er : List ErD) (ex : PySem.W.Frag → Bool) : PySem.W.Hook where
  α := AlS
  obs := fun s => obsS n fa fn tf er ex s.heap.get?
  val := fun w => valS fn er w
  says := fun w h => ∃ K : PySem.W.Frag, K.In h ∧ SaysS fa fn tf er ex w h K
  of := fun _ _ e => ⟨_, He.frT_in, says_of e⟩
  keeps := fun _ _ _ ⟨K, hK, c⟩ k => ⟨K, hK.keeps k, ⟨⟨c.x.t, c.x.more, c.x.hd, c.x.out, fun p hp => k _ _ (c.x.empty p hp)⟩, c.er⟩⟩
theorem obsS_eq {n : Nat} {fa : List He.Fa} {fn : List He.DefD} {tf : List He.Defn} {er : List ErD} {ex : PySem.W.Frag → Bool} {g : Addr → Option Obj} {s : Shared} (h : ∀ a, g a = s.heap.get? a) :
    obsS n fa fn tf er ex g = (hookS n fa fn tf er ex).obs s := by
  cases (funext h : g = s.heap.get?)
  rfl
theorem SaysS.one {fa : List He.Fa} {fn : List He.DefD} {tf : List He.Defn} {er : List ErD} {ex : PySem.W.Frag → Bool} {w : World} {h : Heap} {K : PySem.W.Frag} (c : SaysS fa fn tf er ex w h K) {d : ErD} (hd : d ∈ er) : erW K d.cls = d.val := by
  have e := c.er
  obtain ⟨i, hi, q⟩ := List.mem_iff_getElem.mp hd
  have e2 := congrArg (fun l : List ErW => l[i]?) e
  simp only [List.getElem?_map, List.getElem?_eq_getElem hi, Option.map_some, q, Option.some.injEq] at e2
  exact e2
end HookS
namespace Th
open PySem PySem.Spec PyProof.Rows L2
/-! the text -/
def topS (i : Nat) : Stmt := PySem.Challenge.pw_throughlines_k56_payments_looked_at.main.body.getD i (.Pass ⟨0, 0, 0, 0⟩)
abbrev FnP (K : PySem.W.Frag) (x : Str) (st : Stmt) (f : Addr) (fd : FuncData) : Prop := FunD K x x (defArgs st) (defBody st) (defScope st) [] [] f fd
abbrev s_is_whole : Stmt := topS 18
abbrev N_is_whole : List Str := ["thing"]
theorem sc_is_whole : FnScope N_is_whole ["thing"] (defScope s_is_whole) := ⟨rfl, rfl, rfl, by decide +kernel, rfl, by decide +kernel, by decide +kernel⟩
abbrev s_is_whole_between : Stmt := topS 19
abbrev N_is_whole_between : List Str := ["thing", "least", "most"]
theorem sc_is_whole_between : FnScope N_is_whole_between ["thing", "least", "most"] (defScope s_is_whole_between) := ⟨rfl, rfl, rfl, by decide +kernel, rfl, by decide +kernel, by decide +kernel⟩
abbrev s_is_tuple : Stmt := topS 20
abbrev N_is_tuple : List Str := ["thing", "fewest", "most"]
theorem sc_is_tuple : FnScope N_is_tuple ["thing", "fewest", "most"] (defScope s_is_tuple) := ⟨rfl, rfl, rfl, by decide +kernel, rfl, by decide +kernel, by decide +kernel⟩
abbrev s_is_pair_of_lists : Stmt := topS 21
abbrev N_is_pair_of_lists : List Str := ["thing", "half"]
theorem sc_is_pair_of_lists : FnScope N_is_pair_of_lists ["thing"] (defScope s_is_pair_of_lists) := ⟨rfl, rfl, rfl, by decide +kernel, rfl, by decide +kernel, by decide +kernel⟩
abbrev s_fewest : Stmt := topS 23
abbrev N_fewest : List Str := ["accounts", "places", "worths", "table", "told", "group", "at", "account"]
theorem sc_fewest : FnScope N_fewest ["accounts"] (defScope s_fewest) := ⟨rfl, rfl, rfl, by decide +kernel, rfl, by decide +kernel, by decide +kernel⟩
abbrev s_set_sums : Stmt := topS 24
abbrev N_set_sums : List Str := ["worths", "sums", "worth", "found"]
theorem sc_set_sums : FnScope N_set_sums ["worths"] (defScope s_set_sums) := ⟨rfl, rfl, rfl, by decide +kernel, rfl, by decide +kernel, by decide +kernel⟩
abbrev s_sets_within : Stmt := topS 25
abbrev N_sets_within : List Str := ["number", "many", "at"]
theorem sc_sets_within : FnScope N_sets_within ["number", "many"] (defScope s_sets_within) := ⟨rfl, rfl, rfl, by decide +kernel, rfl, by decide +kernel, by decide +kernel⟩
abbrev s_least_number : Stmt := topS 26
abbrev N_least_number : List Str := ["table", "total", "number", "many", "known", "at", "less"]
theorem sc_least_number : FnScope N_least_number ["table", "total", "number", "many"] (defScope s_least_number) := ⟨rfl, rfl, rfl, by decide +kernel, rfl, by decide +kernel, by decide +kernel⟩
abbrev s_greatest_table : Stmt := topS 27
abbrev N_greatest_table : List Str := ["worths", "table", "number", "total"]
theorem sc_greatest_table : FnScope N_greatest_table ["worths"] (defScope s_greatest_table) := ⟨rfl, rfl, rfl, by decide +kernel, rfl, by decide +kernel, by decide +kernel⟩
abbrev s_settled_groups : Stmt := topS 28
abbrev N_settled_groups : List Str := ["worths", "table", "sums", "groups", "number", "at"]
theorem sc_settled_groups : FnScope N_settled_groups ["worths", "table"] (defScope s_settled_groups) := ⟨rfl, rfl, rfl, by decide +kernel, rfl, by decide +kernel, by decide +kernel⟩
abbrev s_payments_among : Stmt := topS 29
abbrev N_payments_among : List Str := ["places", "accounts", "payers", "payees", "told", "pence", "at", "row"]
theorem sc_payments_among : FnScope N_payments_among ["places", "accounts"] (defScope s_payments_among) := ⟨rfl, rfl, rfl, by decide +kernel, rfl, by decide +kernel, by decide +kernel⟩
abbrev s_look_payments : Stmt := topS 30
abbrev N_look_payments : List Str := ["accounts", "thing", "payments", "table", "worths", "row", "account"]
theorem sc_look_payments : FnScope N_look_payments ["accounts", "thing"] (defScope s_look_payments) := ⟨rfl, rfl, rfl, by decide +kernel, rfl, by decide +kernel, by decide +kernel⟩
abbrev s_is_payment : Stmt := topS 31
abbrev N_is_payment : List Str := ["many", "thing", "payer", "payee", "pence"]
theorem sc_is_payment : FnScope N_is_payment ["many", "thing"] (defScope s_is_payment) := ⟨rfl, rfl, rfl, by decide +kernel, rfl, by decide +kernel, by decide +kernel⟩
abbrev s_settle : Stmt := topS 32
abbrev N_settle : List Str := ["accounts", "payments", "got", "payer", "payee", "pence"]
theorem sc_settle : FnScope N_settle ["accounts", "payments"] (defScope s_settle) := ⟨rfl, rfl, rfl, by decide +kernel, rfl, by decide +kernel, by decide +kernel⟩
abbrev s_is_table : Stmt := topS 33
abbrev N_is_table : List Str := ["worths", "thing", "sums", "many", "number", "at"]
theorem sc_is_table : FnScope N_is_table ["worths", "thing"] (defScope s_is_table) := ⟨rfl, rfl, rfl, by decide +kernel, rfl, by decide +kernel, by decide +kernel⟩
abbrev s_l_bag : Stmt := topS 35
abbrev N_l_bag : List Str := ["_law_script", "_law_at", "_law_cell", "_law_great", "_law_primes"]
theorem sc_l_bag : FnScope N_l_bag ["_law_script", "_law_at"] (defScope s_l_bag) := ⟨rfl, rfl, rfl, by decide +kernel, rfl, by decide +kernel, by decide +kernel⟩
abbrev s_l_take : Stmt := topS 36
abbrev N_l_take : List Str := ["_law_bag_here", "_law_many", "_law_digit"]
theorem sc_l_take : FnScope N_l_take ["_law_bag_here", "_law_many"] (defScope s_l_take) := ⟨rfl, rfl, rfl, by decide +kernel, rfl, by decide +kernel, by decide +kernel⟩
abbrev s_l_accounts : Stmt := topS 37
abbrev N_l_accounts : List Str := ["_law_bag_here", "_law_most", "_law_found", "_law_left", "_law_great", "_law_many", "_law_pence", "_law_one", "_law_k"]
theorem sc_l_accounts : FnScope N_l_accounts ["_law_bag_here", "_law_most"] (defScope s_l_accounts) := ⟨rfl, rfl, rfl, by decide +kernel, rfl, by decide +kernel, by decide +kernel⟩
abbrev s_l_settles : Stmt := topS 38
abbrev N_l_settles : List Str := ["_law_accounts_here", "_law_payments", "_law_left", "_law_payment", "_law_payer", "_law_payee", "_law_pence", "_law_many", "_law_one"]
theorem sc_l_settles : FnScope N_l_settles ["_law_accounts_here", "_law_payments"] (defScope s_l_settles) := ⟨rfl, rfl, rfl, by decide +kernel, rfl, by decide +kernel, by decide +kernel⟩
abbrev s_l_sums : Stmt := topS 39
abbrev N_l_sums : List Str := ["_law_accounts_here", "_law_sums_here", "_law_pence", "_law_one"]
theorem sc_l_sums : FnScope N_l_sums ["_law_accounts_here"] (defScope s_l_sums) := ⟨rfl, rfl, rfl, by decide +kernel, rfl, by decide +kernel, by decide +kernel⟩
abbrev s_l_is_table : Stmt := topS 40
abbrev N_l_is_table : List Str := ["_law_accounts_here", "_law_table", "_law_sums_here", "_law_number", "_law_bit", "_law_least", "_law_one"]
theorem sc_l_is_table : FnScope N_l_is_table ["_law_accounts_here", "_law_table"] (defScope s_l_is_table) := ⟨rfl, rfl, rfl, by decide +kernel, rfl, by decide +kernel, by decide +kernel⟩
abbrev s_l_told : Stmt := topS 41
abbrev N_l_told : List Str := ["_law_accounts_here", "_law_thing", "e"]
theorem sc_l_told : FnScope N_l_told ["_law_accounts_here", "_law_thing"] (defScope s_l_told) := ⟨rfl, rfl, rfl, by decide +kernel, rfl, by decide +kernel, by decide +kernel⟩
abbrev s_l_where : Stmt := topS 42
abbrev N_l_where : List Str := ["_law_accounts_here", "_law_thing", "_law_many", "_law_one", "_law_pence"]
theorem sc_l_where : FnScope N_l_where ["_law_accounts_here", "_law_thing"] (defScope s_l_where) := ⟨rfl, rfl, rfl, by decide +kernel, rfl, by decide +kernel, by decide +kernel⟩
abbrev s_l_any : Stmt := topS 43
abbrev N_l_any : List Str := ["_law_bag_here", "_law_some"]
theorem sc_l_any : FnScope N_l_any ["_law_bag_here"] (defScope s_l_any) := ⟨rfl, rfl, rfl, by decide +kernel, rfl, by decide +kernel, by decide +kernel⟩
abbrev s_l_own : Stmt := topS 44
abbrev N_l_own : List Str := ["_law_bag_here", "_law_accounts_here", "_law_sums_here", "_law_places", "_law_bits", "_law_table", "_law_number", "_law_some", "_law_row", "_law_more", "_law_bit", "_law_payments", "_law_lack", "_law_one", "_law_other", "_law_payment", "_law_place", "_law_pence"]
theorem sc_l_own : FnScope N_l_own ["_law_bag_here", "_law_accounts_here"] (defScope s_l_own) := ⟨rfl, rfl, rfl, by decide +kernel, rfl, by decide +kernel, by decide +kernel⟩
abbrev s_l_bent_payments : Stmt := topS 45
abbrev N_l_bent_payments : List Str := ["_law_bag_here", "_law_payments", "_law_way", "_law_at", "_law_found", "_law_payer", "_law_payee", "_law_pence", "_law_some", "_law_k", "_law_part"]
theorem sc_l_bent_payments : FnScope N_l_bent_payments ["_law_bag_here", "_law_payments"] (defScope s_l_bent_payments) := ⟨rfl, rfl, rfl, by decide +kernel, rfl, by decide +kernel, by decide +kernel⟩
abbrev s_l_bent_table : Stmt := topS 46
abbrev N_l_bent_table : List Str := ["_law_bag_here", "_law_table", "_law_way", "_law_at", "_law_found", "_law_one"]
theorem sc_l_bent_table : FnScope N_l_bent_table ["_law_bag_here", "_law_table"] (defScope s_l_bent_table) := ⟨rfl, rfl, rfl, by decide +kernel, rfl, by decide +kernel, by decide +kernel⟩
abbrev s_l_bent : Stmt := topS 47
abbrev N_l_bent : List Str := ["_law_bag_here", "_law_told_here", "_law_way", "_law_payments", "_law_table", "_law_some"]
theorem sc_l_bent : FnScope N_l_bent ["_law_bag_here", "_law_told_here"] (defScope s_l_bent) := ⟨rfl, rfl, rfl, by decide +kernel, rfl, by decide +kernel, by decide +kernel⟩
abbrev s_l_copied : Stmt := topS 48
abbrev N_l_copied : List Str := ["_law_thing", "_law_found", "_law_one"]
theorem sc_l_copied : FnScope N_l_copied ["_law_thing"] (defScope s_l_copied) := ⟨rfl, rfl, rfl, by decide +kernel, rfl, by decide +kernel, by decide +kernel⟩
abbrev s_law : Stmt := topS 49
abbrev N_law : List Str := ["_law_script", "_law_k", "_law_bag_here", "_law_accounts_here", "_law_own_here", "_law_told_here", "_law_thing", "_law_handed", "_law_kept", "_law_due"]
theorem sc_law : FnScope N_law ["_law_script"] (defScope s_law) := ⟨rfl, rfl, rfl, by decide +kernel, rfl, by decide +kernel, by decide +kernel⟩
abbrev PP : Program := (PySem.Challenge.rw_throughlines_k56_payments_looked_at).prog
structure Defs (K : PySem.W.Frag) (mg : Str → Option Value) where
  a_is_whole : Addr
  d_is_whole : FuncData
  F_is_whole : FnP K "is_whole" s_is_whole a_is_whole d_is_whole
  g_is_whole : mg "is_whole" = some (.ref a_is_whole)
  b_is_whole : Binds K d_is_whole ["thing"] []
  a_is_whole_between : Addr
  d_is_whole_between : FuncData
  F_is_whole_between : FnP K "is_whole_between" s_is_whole_between a_is_whole_between d_is_whole_between
  g_is_whole_between : mg "is_whole_between" = some (.ref a_is_whole_between)
  b_is_whole_between : Binds K d_is_whole_between ["thing", "least", "most"] []
  a_is_tuple : Addr
  d_is_tuple : FuncData
  F_is_tuple : FnP K "is_tuple" s_is_tuple a_is_tuple d_is_tuple
  g_is_tuple : mg "is_tuple" = some (.ref a_is_tuple)
  b_is_tuple : Binds K d_is_tuple ["thing", "fewest", "most"] []
  a_is_pair_of_lists : Addr
  d_is_pair_of_lists : FuncData
  F_is_pair_of_lists : FnP K "is_pair_of_lists" s_is_pair_of_lists a_is_pair_of_lists d_is_pair_of_lists
  g_is_pair_of_lists : mg "is_pair_of_lists" = some (.ref a_is_pair_of_lists)
  b_is_pair_of_lists : Binds K d_is_pair_of_lists ["thing"] []
  a_fewest : Addr
  d_fewest : FuncData
  F_fewest : FnP K "fewest" s_fewest a_fewest d_fewest
  g_fewest : mg "fewest" = some (.ref a_fewest)
  b_fewest : Binds K d_fewest ["accounts"] []
  a_set_sums : Addr
  d_set_sums : FuncData
  F_set_sums : FnP K "set_sums" s_set_sums a_set_sums d_set_sums
  g_set_sums : mg "set_sums" = some (.ref a_set_sums)
  b_set_sums : Binds K d_set_sums ["worths"] []
  a_sets_within : Addr
  d_sets_within : FuncData
  F_sets_within : FnP K "sets_within" s_sets_within a_sets_within d_sets_within
  g_sets_within : mg "sets_within" = some (.ref a_sets_within)
  b_sets_within : Binds K d_sets_within ["number", "many"] []
  a_least_number : Addr
  d_least_number : FuncData
  F_least_number : FnP K "least_number" s_least_number a_least_number d_least_number
  g_least_number : mg "least_number" = some (.ref a_least_number)
  b_least_number : Binds K d_least_number ["table", "total", "number", "many"] []
  a_greatest_table : Addr
  d_greatest_table : FuncData
  F_greatest_table : FnP K "greatest_table" s_greatest_table a_greatest_table d_greatest_table
  g_greatest_table : mg "greatest_table" = some (.ref a_greatest_table)
  b_greatest_table : Binds K d_greatest_table ["worths"] []
  a_settled_groups : Addr
  d_settled_groups : FuncData
  F_settled_groups : FnP K "settled_groups" s_settled_groups a_settled_groups d_settled_groups
  g_settled_groups : mg "settled_groups" = some (.ref a_settled_groups)
  b_settled_groups : Binds K d_settled_groups ["worths", "table"] []
  cc_settled_groups : Addr
  tp_settled_groups : Addr
  dc_settled_groups : d_settled_groups.code = .ref cc_settled_groups
  a_payments_among : Addr
  d_payments_among : FuncData
  F_payments_among : FnP K "payments_among" s_payments_among a_payments_among d_payments_among
  g_payments_among : mg "payments_among" = some (.ref a_payments_among)
  b_payments_among : Binds K d_payments_among ["places", "accounts"] []
  a_look_payments : Addr
  d_look_payments : FuncData
  F_look_payments : FnP K "look_payments" s_look_payments a_look_payments d_look_payments
  g_look_payments : mg "look_payments" = some (.ref a_look_payments)
  b_look_payments : Binds K d_look_payments ["accounts", "thing"] []
  a_is_payment : Addr
  d_is_payment : FuncData
  F_is_payment : FnP K "is_payment" s_is_payment a_is_payment d_is_payment
  g_is_payment : mg "is_payment" = some (.ref a_is_payment)
  b_is_payment : Binds K d_is_payment ["many", "thing"] []
  a_settle : Addr
  d_settle : FuncData
  F_settle : FnP K "settle" s_settle a_settle d_settle
  g_settle : mg "settle" = some (.ref a_settle)
  b_settle : Binds K d_settle ["accounts", "payments"] []
  a_is_table : Addr
  d_is_table : FuncData
  F_is_table : FnP K "is_table" s_is_table a_is_table d_is_table
  g_is_table : mg "is_table" = some (.ref a_is_table)
  b_is_table : Binds K d_is_table ["worths", "thing"] []
  a_l_bag : Addr
  d_l_bag : FuncData
  F_l_bag : FnP K "_law_bag" s_l_bag a_l_bag d_l_bag
  g_l_bag : mg "_law_bag" = some (.ref a_l_bag)
  b_l_bag : Binds K d_l_bag ["_law_script", "_law_at"] []
  a_l_take : Addr
  d_l_take : FuncData
  F_l_take : FnP K "_law_take" s_l_take a_l_take d_l_take
  g_l_take : mg "_law_take" = some (.ref a_l_take)
  b_l_take : Binds K d_l_take ["_law_bag_here", "_law_many"] []
  a_l_accounts : Addr
  d_l_accounts : FuncData
  F_l_accounts : FnP K "_law_accounts" s_l_accounts a_l_accounts d_l_accounts
  g_l_accounts : mg "_law_accounts" = some (.ref a_l_accounts)
  b_l_accounts : Binds K d_l_accounts ["_law_bag_here", "_law_most"] []
  a_l_settles : Addr
  d_l_settles : FuncData
  F_l_settles : FnP K "_law_settles" s_l_settles a_l_settles d_l_settles
  g_l_settles : mg "_law_settles" = some (.ref a_l_settles)
  b_l_settles : Binds K d_l_settles ["_law_accounts_here", "_law_payments"] []
  a_l_sums : Addr
  d_l_sums : FuncData
  F_l_sums : FnP K "_law_sums" s_l_sums a_l_sums d_l_sums
  g_l_sums : mg "_law_sums" = some (.ref a_l_sums)
  b_l_sums : Binds K d_l_sums ["_law_accounts_here"] []
  a_l_is_table : Addr
  d_l_is_table : FuncData
  F_l_is_table : FnP K "_law_is_table" s_l_is_table a_l_is_table d_l_is_table
  g_l_is_table : mg "_law_is_table" = some (.ref a_l_is_table)
  b_l_is_table : Binds K d_l_is_table ["_law_accounts_here", "_law_table"] []
  a_l_told : Addr
  d_l_told : FuncData
  F_l_told : FnP K "_law_told" s_l_told a_l_told d_l_told
  g_l_told : mg "_law_told" = some (.ref a_l_told)
  b_l_told : Binds K d_l_told ["_law_accounts_here", "_law_thing"] []
  a_l_where : Addr
  d_l_where : FuncData
  F_l_where : FnP K "_law_where" s_l_where a_l_where d_l_where
  g_l_where : mg "_law_where" = some (.ref a_l_where)
  b_l_where : Binds K d_l_where ["_law_accounts_here", "_law_thing"] []
  a_l_any : Addr
  d_l_any : FuncData
  F_l_any : FnP K "_law_any" s_l_any a_l_any d_l_any
  g_l_any : mg "_law_any" = some (.ref a_l_any)
  b_l_any : Binds K d_l_any ["_law_bag_here"] []
  a_l_own : Addr
  d_l_own : FuncData
  F_l_own : FnP K "_law_own" s_l_own a_l_own d_l_own
  g_l_own : mg "_law_own" = some (.ref a_l_own)
  b_l_own : Binds K d_l_own ["_law_bag_here", "_law_accounts_here"] []
  a_l_bent_payments : Addr
  d_l_bent_payments : FuncData
  F_l_bent_payments : FnP K "_law_bent_payments" s_l_bent_payments a_l_bent_payments d_l_bent_payments
  g_l_bent_payments : mg "_law_bent_payments" = some (.ref a_l_bent_payments)
  b_l_bent_payments : Binds K d_l_bent_payments ["_law_bag_here", "_law_payments"] []
  a_l_bent_table : Addr
  d_l_bent_table : FuncData
  F_l_bent_table : FnP K "_law_bent_table" s_l_bent_table a_l_bent_table d_l_bent_table
  g_l_bent_table : mg "_law_bent_table" = some (.ref a_l_bent_table)
  b_l_bent_table : Binds K d_l_bent_table ["_law_bag_here", "_law_table"] []
  a_l_bent : Addr
  d_l_bent : FuncData
  F_l_bent : FnP K "_law_bent" s_l_bent a_l_bent d_l_bent
  g_l_bent : mg "_law_bent" = some (.ref a_l_bent)
  b_l_bent : Binds K d_l_bent ["_law_bag_here", "_law_told_here"] []
  a_l_copied : Addr
  d_l_copied : FuncData
  F_l_copied : FnP K "_law_copied" s_l_copied a_l_copied d_l_copied
  g_l_copied : mg "_law_copied" = some (.ref a_l_copied)
  b_l_copied : Binds K d_l_copied ["_law_thing"] []
  z_ValueError : mg "ValueError" = none
  z_abs : mg "abs" = none
  z_all : mg "all" = none
  z_any : mg "any" = none
  z_bool : mg "bool" = none
  z_enumerate : mg "enumerate" = none
  z_int : mg "int" = none
  z_isinstance : mg "isinstance" = none
  z_len : mg "len" = none
  z_list : mg "list" = none
  z_max : mg "max" = none
  z_min : mg "min" = none
  z_range : mg "range" = none
  z_sorted : mg "sorted" = none
  z_sum : mg "sum" = none
  z_super : mg "super" = none
  z_tuple : mg "tuple" = none
  z_zip : mg "zip" = none
  a_HouseError : Addr
  g_HouseError : mg "HouseError" = some (.ref a_HouseError)
  a_NoNet : Addr
  g_NoNet : mg "NoNet" = some (.ref a_NoNet)
  a_NoWay : Addr
  g_NoWay : mg "NoWay" = some (.ref a_NoWay)
  a_NoWagon : Addr
  g_NoWagon : mg "NoWagon" = some (.ref a_NoWagon)
  a_NoRules : Addr
  g_NoRules : mg "NoRules" = some (.ref a_NoRules)
  a_NoPaper : Addr
  g_NoPaper : mg "NoPaper" = some (.ref a_NoPaper)
  a_NoProof : Addr
  g_NoProof : mg "NoProof" = some (.ref a_NoProof)
  a_NotYet : Addr
  g_NotYet : mg "NotYet" = some (.ref a_NotYet)
  a_TooMany : Addr
  g_TooMany : mg "TooMany" = some (.ref a_TooMany)
  a_TooLate : Addr
  g_TooLate : mg "TooLate" = some (.ref a_TooLate)
  a_NoLine : Addr
  g_NoLine : mg "NoLine" = some (.ref a_NoLine)
  a_Stopped : Addr
  g_Stopped : mg "Stopped" = some (.ref a_Stopped)
  a_NoMonth : Addr
  g_NoMonth : mg "NoMonth" = some (.ref a_NoMonth)
  a_NoBill : Addr
  g_NoBill : mg "NoBill" = some (.ref a_NoBill)
  a_NoText : Addr
  g_NoText : mg "NoText" = some (.ref a_NoText)
  a_NoSaying : Addr
  g_NoSaying : mg "NoSaying" = some (.ref a_NoSaying)
  i_NoProof : Addr
  t_NoProof : SupE.Txt PP K mg "no proof, by its " a_NoProof i_NoProof
  c_NoProof : ExcC K a_NoProof
  f_NoProof : XfC K a_NoProof
  m_NoProof_HouseError : PySem.W.exmOne K (.ref a_NoProof) (.ref a_HouseError) = some true
  k0_NoProof : PySem.W.kitAny K (.ref a_NoProof) [.ref a_NoNet, .ref a_NoWay, .ref a_NoWagon, .ref a_NoRules, .ref a_NoPaper, .ref a_NotYet, .ref a_TooMany, .ref a_TooLate] = some false
  k1_NoProof : PySem.W.kitAny K (.ref a_NoProof) [.ref a_NoLine, .ref a_Stopped, .ref a_NoMonth, .ref a_NoBill, .ref a_NoText, .ref a_NoSaying] = some false
  ks_NoProof : PySem.W.kitOne K (.ref a_NoProof) (.ref a_NoProof) = some true
  kv_NoProof : PySem.W.kitOne K (.ref a_NoProof) (.type "ValueError") = some true
end Th
namespace Th
open PySem PySem.Spec PyProof.Rows L2
section
variable {P : Program} {w : World} {K : PySem.W.Frag} {mg : Str → Option Value} {base : Heap} {k : Nat}
set_option maxHeartbeats 8000000 in
theorem ok_l_bag (T : Defs K mg) : FnOk P w K mg base CX0 (k + 1) T.a_l_bag T.d_l_bag ["_law_script", "_law_at"] (sp_bag K) := by
  refine T.F_l_bag.ok sc_l_bag (fun vs H Q E h => ?_) (fun cdv A outer s H vs Q E hr h => ?_)
  · obtain ⟨a, ns, i, rfl, _⟩ := h
    rfl
  · obtain ⟨a, ns, i, rfl, hS, hi, q⟩ := h
    refine ⟨_, PSs.nox
(pss_cons (ps_set (i := 2) sc_l_bag.nd rfl (.inl rfl) (pe_int))
    (Evl.pss_cut (ps_if (pt_cmpR op_gt (pe_callB (r := rLenS K) call_lenS (by rfl) T.z_len (by decide +kernel) (pa_cons (pv 0) pa_nil)) (pe_int) (nomark _))
      (pss_one (ps_set (i := 2) sc_l_bag.nd rfl (.inl rfl) (pe_ix (r := rIxL K) ix_list (pv 0) (pe_op op_mod (pv 1) (pe_callB (r := rLenS K) call_lenS (by rfl) T.z_len (by decide +kernel) (pa_cons (pv 0) pa_nil))) (fun _ _ => rfl))))
      pss_nil)
    (pss_cons (ps_set (i := 3) sc_l_bag.nd rfl (.inl rfl) (pe_int))
    (Evl.pss_cut (ps_if (PW.pt (pw_and (pt_cmpR op_ge (pe_callB call_abs (by rfl) T.z_abs (by decide +kernel) (pa_cons (pv 2) pa_nil)) (pe_op op_pow (pe_int) (pe_int)) (nomark _)) (pw_and1 (pt_cmpR op_lt (pv 1) (pe_callB (r := rLenS K) call_lenS (by rfl) T.z_len (by decide +kernel) (pa_cons (pv 0) pa_nil)) (nomark _)))))
      (pss_one (ps_set (i := 3) sc_l_bag.nd rfl (.inl rfl) (pe_callB call_abs (by rfl) T.z_abs (by decide +kernel) (pa_cons (pv 2) pa_nil))))
      pss_nil)
    (pss_cons (ps_set (i := 4) sc_l_bag.nd rfl (.inl rfl) (pe_tup (pa_cons (pe_int) (pa_cons (pe_int) (pa_cons (pe_int) (pa_cons (pe_int) (pa_cons (pe_int) (pa_cons (pe_int) (pa_cons (pe_int) (pa_cons (pe_int) pa_nil))))))))))
    (pss_one (ps_ret (pe_lst (pa_cons (pv 3) (pa_cons (pe_op op_mod (pe_op op_pow (pe_op op_add (pe_op op_add (pe_op op_mod (pv 2) (pe_int)) (pe_op op_mul (pe_int) (pv 1))) (pe_int)) (pe_int)) (pe_ix (r := rIxT K) ix_tup (pv 4) (pe_op op_mod (pv 1) (pe_int)) (fun _ _ => rfl))) pa_nil))))))))))
      , ?_⟩
    obtain ⟨pr, hp, hp0, hp1⟩ := primes_at i
    have lenV : (ns.map V.int).length = ns.length := List.length_map _
    refine ⟨fun σ H1 => ∃ c : Int, σ = [some (.ref a), some (.int i), some (.int c), none, none] ∧ H1 = H, ?_, fun σ H1 mid => ?_⟩
    · refine ⟨.ref a, rfl, a, _, rfl, .inl hS, _, 0, rfl, rfl, _, rfl, ite2 (fun e => ?_) (fun e => ⟨0, rfl, rfl⟩)⟩
      have lp : 0 < ns.length := by
        have := of_decide_eq_true e
        rw [lenV] at this
        omega
      have hm : i % ns.length < ns.length := Nat.mod_lt _ lp
      have g1 : (ns.map V.int)[i % ns.length]? = some (.int ns[i % ns.length]) := by
        rw [List.getElem?_map, List.getElem?_eq_getElem hm]
        rfl
      refine ⟨.ref a, rfl, .int i, rfl, .ref a, rfl, a, _, rfl, .inl hS, (i : Int), _, rfl, rfl, by rw [lenV]; omega, a, _, _, .int ns[i % ns.length], rfl, rfl, hS, ?_, _, rfl, rfl⟩
      rw [lenV, ← Int.natCast_emod]
      exact atI_nat g1
    obtain ⟨c, rfl, rfl⟩ := mid
    refine ⟨fun σ H2 => ∃ g : Int, 0 ≤ g ∧ σ = [some (.ref a), some (.int i), some (.int c), some (.int g), none] ∧ H2 = H1, ?_, fun σ H2 mid => ?_⟩
    · refine ⟨.int c, rfl, _, rfl, 10, 18, rfl, rfl, ⟨by decide, by decide, by decide⟩, _, _, rfl, rfl, _, rfl, ite2 (fun e => ?_) (fun e => ⟨0, by decide, rfl, rfl⟩)⟩
      refine ⟨.int i, rfl, .ref a, rfl, a, _, rfl, .inl hS, _, _, rfl, rfl, _, rfl, ite2 (fun e => ?_) (fun e => ⟨0, by decide, rfl, rfl⟩)⟩
      refine ⟨.int c, rfl, _, rfl, _, ?_, rfl, rfl⟩
      split <;> omega
    obtain ⟨g, hg, rfl, rfl⟩ := mid
    refine ⟨by show 8 ≤ sizeLine; decide, fun l nl => ?_⟩
    refine ⟨_, rfl, .int c, rfl, c, 2147483647, rfl, rfl, pA, .int i, rfl, 104729, i, rfl, rfl, .inl ⟨by decide, by decide⟩, _, _, rfl, rfl, _, 7, rfl, rfl, _, 5, rfl, rfl, ⟨by decide, by decide, ?_⟩, .ref l, rfl, .int i, rfl, i, 8, rfl, rfl, p8, l, _, _, _, rfl, rfl, SqT.of upd_same, hp, _, pr, rfl, rfl, hp0, by show 2 ≤ sizeLine; decide, fun p np => ?_⟩
    · omega
    · have s1 := same_upd (o := .tup [V.int 2147483629, .int 2147483587, .int 2147483579, .int 2147483563, .int 2147483549, .int 2147483543, .int 2147483497, .int 2147483489]) nl
      exact q _ p (s1.trans (same_upd np)) (s1.free np) ⟨g, _, upd_same, hg, Int.emod_nonneg _ (by omega), Int.lt_trans (Int.emod_lt_of_pos _ hp0) hp1⟩
end
/-! a draw from the bag, of up to 2 ^ 40 -/
section
variable {P : Program} {w : World} {K : PySem.W.Frag} {mg : Str → Option Value} {base : Heap} {k : Nat}
def sp_takeW : Sp := fun vs H Q _ => ∃ (p : Addr) (m : Int), vs = [.ref p, .int m] ∧ Bag H p ∧ 0 < m ∧ m < 2 ^ 40 ∧ ∀ H' d, Keep p H H' → Bag H' p → 0 ≤ d → d < m → Q (.int d) H'
theorem ok_l_take (T : Defs K mg) : FnOk P w K mg base CX0 (k + 1) T.a_l_take T.d_l_take ["_law_bag_here", "_law_many"] sp_takeW := by
  refine T.F_l_take.ok sc_l_take (fun vs H Q E h => ?_) (fun cdv A outer s H vs Q E hr h => ?_)
  · obtain ⟨p, m, rfl, _⟩ := h
    rfl
  · obtain ⟨p, m, rfl, ⟨g, r, hp, g0, r0, r1⟩, m0, m1, q⟩ := h
    refine ⟨_, PSs.nox
(pss_cons (ps_if (pt_cmpR op_gt (pe_ix (r := rIxL K) ix_list (pv 0) (pe_int) (fun _ _ => rfl)) (pe_int) (nomark _))
      (pss_cons (ps_set (i := 2) sc_l_take.nd rfl (.inl rfl) (pe_op op_mod (pe_ix (r := rIxL K) ix_list (pv 0) (pe_int) (fun _ _ => rfl)) (pv 1)))
      (pss_cons (ps_asg (pe_op op_fdivW (pe_ix (r := rIxL K) ix_list (pv 0) (pe_int) (fun _ _ => rfl)) (pv 1)) (pg_sub (pv 0) (pe_int) set_list))
      (pss_one (ps_ret (pv 2)))))
      pss_nil)
    (pss_cons (ps_asg (pe_op op_mod (pe_op op_add (pe_op op_mul (pe_ix (r := rIxL K) ix_list (pv 0) (pe_int) (fun _ _ => rfl)) (pe_int)) (pe_int)) (pe_int)) (pg_sub (pv 0) (pe_int) set_list))
    (pss_one (ps_ret (pe_op op_mod (pe_op op_mod (pe_op op_pow (pe_op op_fdiv (pe_ix (r := rIxL K) ix_list (pv 0) (pe_int) (fun _ _ => rfl)) (pe_int)) (pe_int)) (pe_int)) (pv 1))))))
      , ?_⟩
    refine ⟨.ref p, rfl, p, _, 0, .int g, rfl, rfl, SqL.of hp, atI_nat (j := 0) rfl, _, 0, rfl, rfl, _, rfl, ite2 (fun e => ?_) (fun e => ?_)⟩
    · refine ⟨.ref p, rfl, p, _, 0, .int g, rfl, rfl, SqL.of hp, atI_nat (j := 0) rfl, .int m, rfl, g, m, rfl, rfl, m0, ?_⟩
      refine ⟨.ref p, rfl, p, _, 0, .int g, rfl, rfl, SqL.of hp, atI_nat (j := 0) rfl, .int m, rfl, g, m, rfl, rfl, wide_div (b := 40) m0 (by omega) (by decide) (by decide), .ref p, rfl, p, _, 0, 0, rfl, rfl, hp, rfl, ?_⟩
      refine ⟨_, rfl, q _ _ Keep.upd ⟨_, _, upd_same, ?_, r0, r1⟩ (Int.emod_nonneg _ (by omega)) (Int.emod_lt_of_pos _ m0)⟩
      exact Int.ediv_nonneg g0 (by omega)
    · refine ⟨.ref p, rfl, p, _, 1, .int r, rfl, rfl, SqL.of hp, atI_nat (j := 1) rfl, r, 48271, rfl, rfl, .inr ⟨by decide, by decide⟩, _, 11, rfl, rfl, _, 2147483647, rfl, rfl, pA, .ref p, rfl, p, _, 1, 1, rfl, rfl, hp, rfl, ?_⟩
      have hz0 : 0 ≤ (r * 48271 + 11) % 2147483647 := Int.emod_nonneg _ (by decide)
      have hz1 : (r * 48271 + 11) % 2147483647 < 2147483647 := Int.emod_lt_of_pos _ (by decide)
      refine ⟨.ref p, rfl, p, _, 1, _, rfl, rfl, SqL.of upd_same, atI_nat (j := 1) rfl, (r * 48271 + 11) % 2147483647, 8, rfl, rfl, ⟨by decide, by decide⟩, _, 3, rfl, rfl, ⟨by decide, by decide, ?_⟩, _, 2147483629, rfl, rfl, pB, .int m, rfl, _, m, rfl, rfl, m0, ?_⟩
      · omega
      · exact q _ _ Keep.upd ⟨_, _, upd_same, g0, hz0, by omega⟩ (Int.emod_nonneg _ (by omega)) (Int.emod_lt_of_pos _ m0)
end
end Th
namespace Th
open PySem PySem.Spec PyProof.Rows L2
theorem up0 {H H' : Hp} {p : Addr} (s : Same H H') (n : H' p = none) : H p = none := by
  cases e : H p with
  | none => rfl
  | some o => rw [s _ _ e] at n; cases n
/-! drawn accounts -/
def AccD (t : List Int) : Prop := Pm.Acc 10000000000 t.length t ∧ 1 ≤ t.length ∧ t.length ≤ 8
theorem ints_sum {xs : List Int} {B : Int} (h : ∀ x ∈ xs, -B ≤ x ∧ x ≤ B) : -(xs.length * B) ≤ xs.sum ∧ xs.sum ≤ xs.length * B := by
  induction xs with
  | nil => simp
  | cons x xs ih =>
    have h1 := ih fun y hy => h y (List.mem_cons_of_mem _ hy)
    have h2 := h x List.mem_cons_self
    rw [List.sum_cons, List.length_cons, Int.natCast_add, Int.add_mul]
    omega
theorem ins_sum (xs : List Int) (i : Nat) (y : Int) : (xs.take i ++ [y] ++ xs.drop i).sum = xs.sum + y := by
  have := congrArg List.sum (List.take_append_drop i xs)
  rw [List.sum_append] at this
  rw [List.sum_append, List.sum_append, List.sum_singleton]
  omega
theorem ins_len {α : Type} (xs : List α) (i : Nat) (y : α) : (xs.take i ++ [y] ++ xs.drop i).length = xs.length + 1 := by
  have := congrArg List.length (List.take_append_drop i xs)
  rw [List.length_append] at this
  rw [List.length_append, List.length_append, List.length_singleton]
  omega
theorem ins_mem {α : Type} {xs : List α} {i : Nat} {y z : α} (h : z ∈ xs.take i ++ [y] ++ xs.drop i) : z ∈ xs ∨ z = y := by
  rcases List.mem_append.mp h with h | h
  · rcases List.mem_append.mp h with h | h
    · exact .inl (List.mem_of_mem_take h)
    · exact .inr (List.mem_singleton.mp h)
  · exact .inl (List.mem_of_mem_drop h)
theorem ins_mapF {α β : Type} (f : α → β) (xs : List α) (i : Nat) (y : α) : (xs.map f).take i ++ [f y] ++ (xs.map f).drop i = (xs.take i ++ [y] ++ xs.drop i).map f := by
  rw [List.map_append, List.map_append, List.map_take, List.map_drop]
  rfl
section
variable {P : Program} {w : World} {K : PySem.W.Frag} {mg : Str → Option Value} {base : Heap} {k : Nat}
def sp_l_accounts : Sp := fun vs H Q _ => ∃ (p : Addr) (most : Nat), vs = [.ref p, .int most] ∧ Bag H p ∧ 1 ≤ most ∧ most ≤ 8 ∧ ∀ (H' : Hp) (l : Addr) (t : List Int), Keep p H H' → Bag H' p → H l = none → H' l = some (.lst (t.map V.int)) → AccD t → t.length ≤ most → Q (.ref l) H'
/-- the state of accounts under way: D is the list -/
structure AcS (H H3 : Hp) (p D : Addr) (fs : List Int) : Prop where
  k : Keep p H H3
  b : Bag H3 p
  e : H3 D = some (.lst (fs.map V.int))
  bd : ∀ x ∈ fs, -10000000000 ≤ x ∧ x ≤ 10000000000
theorem AcS.new {H H3 : Hp} {p D q : Addr} {fs : List Int} {o : HO} (h : AcS H H3 p D fs) (n : H3 q = none) : AcS H (upd H3 q o) p D fs := ⟨h.k.new n, h.b.keep (same_upd n), same_upd n _ _ h.e, h.bd⟩
theorem AcS.keep {H H3 H4 : Hp} {p D : Addr} {fs : List Int} (h : AcS H H3 p D fs) (k : Keep p H3 H4) (b : Bag H4 p) (nD : D ≠ p) : AcS H H4 p D fs := ⟨h.k.trans k, b, k _ _ nD h.e, h.bd⟩
set_option maxHeartbeats 8000000 in
theorem ok_l_accounts (T : Defs K mg) : FnOk P w K mg base CX0 (k + 2) T.a_l_accounts T.d_l_accounts ["_law_bag_here", "_law_most"] sp_l_accounts := by
  have G_l_take : FnOk P w K mg base CX0 (k + 1) _ _ _ _ := ok_l_take T
  refine T.F_l_accounts.ok sc_l_accounts (fun vs H Q E h => ?_) (fun cdv A outer s H vs Q E hr h => ?_)
  · obtain ⟨p, pence, rfl, _⟩ := h
    rfl
  · obtain ⟨p, most, rfl, b, m1, m8, q⟩ := h
    refine ⟨_, PSs.nox
(pss_cons (ps_par (i := 2) (j := 3) (by rfl) sc_l_accounts.nd rfl rfl (by decide) rfl rfl (pa_cons (pe_lst pa_nil) (pa_cons (pe_op op_add (pe_int) (pe_call G_l_take hr (by rfl) T.g_l_take T.F_l_take.kp T.b_l_take .nil pass0 (pa_cons (pv 0) (pa_cons (pv 1) pa_nil)))) pa_nil)) (by rfl))
    (pss_cons (ps_set (i := 4) sc_l_accounts.nd rfl (.inr rfl) (pe_ix (r := rIxT K) ix_tup (pe_tup (pa_cons (pe_int) (pa_cons (pe_int) (pa_cons (pe_int) (pa_cons (pe_op op_pow (pe_int) (pe_int)) pa_nil))))) (pe_call G_l_take hr (by rfl) T.g_l_take T.F_l_take.kp T.b_l_take .nil pass0 (pa_cons (pv 0) (pa_cons (pe_int) pa_nil))) (fun _ _ => rfl)))
    (pss_cons (ps_while PassesOwn.never (pt_cmpR op_gt (pv 3) (pe_int) (nomark _))
      (pss_cons (ps_set (i := 5) sc_l_accounts.nd rfl (.inl rfl) (pe_op op_add (pe_int) (pe_call G_l_take hr (by rfl) T.g_l_take T.F_l_take.kp T.b_l_take .nil pass0 (pa_cons (pv 0) (pa_cons (pe_callB (call_min2 rfl) (by rfl) T.z_min (by decide +kernel) (pa_cons (pv 3) (pa_cons (pe_ix (r := rIxT K) ix_tup (pe_tup (pa_cons (pe_int) (pa_cons (pe_int) (pa_cons (pe_int) pa_nil)))) (pe_call G_l_take hr (by rfl) T.g_l_take T.F_l_take.kp T.b_l_take .nil pass0 (pa_cons (pv 0) (pa_cons (pe_int) pa_nil))) (fun _ _ => rfl)) pa_nil))) pa_nil)))))
      (pss_cons (ps_setLc (i := 6) (own := [("_law_k", 8)]) (g := gName 8) rfl sc_l_accounts.nd rfl rfl (sw_true rfl rfl rfl (by decide +kernel)) (pi_range1 (by rfl) T.z_range (pa_cons (pe_op op_sub (pv 5) (pe_int)) pa_nil)) (blkOk_by (N := N_l_accounts) (sc := defScope s_l_accounts) (by decide +kernel)) (fun _ _ _ _ _ => (pg_name (i := 8) sc_l_accounts.nd rfl (.inl rfl))) (fun _ _ _ _ _ => pts_nil) (fun _ _ _ _ _ => (pe_op op_sub (pe_call G_l_take hr (by rfl) T.g_l_take T.F_l_take.kp T.b_l_take .nil pass0 (pa_cons (pv 0) (pa_cons (pe_op op_add (pe_op op_mul (pe_int) (pv 4)) (pe_int)) pa_nil))) (pv 4))))
      (pss_cons (ps_for PassesOwn.never rfl (pi_list (pe_op op_cat (pv 6) (pe_lst (pa_cons (pe_un un_neg (pe_callB (r := rSum K) (cr_sum rfl) (by rfl) T.z_sum (by decide +kernel) (pa_cons (pv 6) pa_nil))) pa_nil)))) (pg_name (i := 7) sc_l_accounts.nd rfl (.inl rfl))
        (pss_one (ps_expr (pe_bm PySem.F.plainAttrs_list PySem.F.slot_list_insert PySem.F.type_list_insert mt_insert (pv 2) (pa_cons (pe_call G_l_take hr (by rfl) T.g_l_take T.F_l_take.kp T.b_l_take .nil pass0 (pa_cons (pv 0) (pa_cons (pe_op op_add (pe_callB (r := rLenS K) call_lenS (by rfl) T.z_len (by decide +kernel) (pa_cons (pv 2) pa_nil)) (pe_int)) pa_nil))) (pa_cons (pv 7) pa_nil))))))
      (pss_one (ps_aug (i := 3) sc_l_accounts.nd rfl (.inl rfl) (pv 5) ip_sub))))))
    (pss_one (ps_ret (pv 2))))))
      , ?_⟩
    refine ⟨Nat.zero_le _, fun D nD => ?_⟩
    have b1 := b.keep (same_upd (o := .lst []) nD)
    have nDp : D ≠ p := b.ne nD
    refine ⟨.ref p, rfl, .int most, rfl, p, most, rfl, b1, by omega, by omega, fun H2 d k2 b2 d0 d1 => ?_⟩
    have a2 : AcS H H2 p D [] := ⟨(Keep.of (same_upd nD)).trans k2, b2, k2 _ _ nDp upd_same, fun x hx => (by cases hx)⟩
    refine ⟨1, d, rfl, rfl, _, _, rfl, ?_⟩
    -- great
    refine ⟨10, 9, rfl, rfl, ⟨by decide, by decide, by decide⟩, by show 4 ≤ sizeLine; decide, fun t nt => ?_⟩
    have a3 := a2.new (o := .tup [.int 3, .int 20, .int 1000, .int (10 ^ (9 : Int).toNat)]) nt
    refine ⟨.ref p, rfl, p, 4, rfl, a3.b, by decide, by decide, fun H3 c k3 b3 c0 c1 => ?_⟩
    have et : H3 t = some (.tup (([3, 20, 1000, 1000000000] : List Int).map V.int)) := k3 _ _ (a2.b.ne nt) upd_same
    obtain ⟨great, hgr, ha⟩ := pick (ms := [3, 20, 1000, 1000000000]) c0 c1
    have hgr : 3 ≤ great ∧ great ≤ 1000000000 := by
      simp only [List.mem_cons, List.not_mem_nil, or_false] at hgr
      omega
    have a4 := a3.keep k3 b3 nDp
    refine ⟨t, _, c, _, rfl, rfl, SqT.of et, ha, ?_⟩
    -- while left > 0
    refine while_by (fun σ H5 => ∃ (left : Nat) (fs : List Int) (y5 y6 y7 : Option V), σ = [some (.ref p), some (.int most), some (.ref D), some (.int left), some (.int great), y5, y6, y7, none] ∧ AcS H H5 p D fs ∧ fs.sum = 0 ∧ fs.length + left = (1 + d).toNat)
      (fun σ _ => match (σ[3]? : Option (Option V)) with | some (some (V.int i)) => i.toNat | _ => 0) ⟨(1 + d).toNat, [], none, none, none, by rw [show ((1 + d).toNat : Int) = 1 + d by omega]; rfl, a4, rfl, Nat.zero_add _⟩ (fun σ H5 hp => ?_) (fun σ H5 Q Q' h z => ?_)
    · obtain ⟨left, fs, y5, y6, y7, rfl, a5, fs0, fsl⟩ := hp
      refine ⟨.int left, rfl, _, _, rfl, rfl, _, rfl, ite2 (fun hl => ?_) (fun hl => ?_)⟩
      · have hl : (0 : Int) < left := of_decide_eq_true hl
        -- many
        refine ⟨.ref p, rfl, .int left, rfl, by show 3 ≤ sizeLine; decide, fun t nt => ?_⟩
        have a6 := a5.new (o := .tup [.int 2, .int 3, .int 8]) nt
        refine ⟨.ref p, rfl, p, 3, rfl, a6.b, by decide, by decide, fun H6 c k6 b6 c0 c1 => ?_⟩
        have et : H6 t = some (.tup (([2, 3, 8] : List Int).map V.int)) := k6 _ _ (a5.b.ne nt) upd_same
        obtain ⟨mx, hmx, ha⟩ := pick (ms := [2, 3, 8]) c0 c1
        have hmx : 2 ≤ mx ∧ mx ≤ 8 := by
          simp only [List.mem_cons, List.not_mem_nil, or_false] at hmx
          omega
        have a7 := a6.keep k6 b6 nDp
        refine ⟨t, _, c, _, rfl, rfl, SqT.of et, ha, _, _, rfl, p, _, rfl, a7.b, by split <;> omega, by split <;> omega, fun H7 e k7 b7 e0 e1 => ?_⟩
        have a8 := a7.keep k7 b7 nDp
        have e1 : e < left ∧ e < 8 := by
          split at e1 <;> omega
        refine ⟨1, e, rfl, rfl, ?_⟩
        -- pence
        refine ⟨.int (1 + e), rfl, _, _, rfl, rfl, _, rfl, by omega, by omega, fun B nB => ?_⟩
        have nBp : B ≠ p := a8.b.ne nB
        have nBD : D ≠ B := ne_of_none a8.e nB
        have en : (1 + e - 1).toNat = e.toNat := by omega
        rw [en]
        refine lc_it walk_range (fun i H8 => AcS H H8 p D fs ∧ ∃ ps : List Int, ps.length = i ∧ (∀ x ∈ ps, -great ≤ x ∧ x ≤ great) ∧ H8 B = some (.lst (ps.map V.int))) ⟨a8.new nB, [], rfl, fun x hx => (by cases hx), upd_same⟩ (fun _ _ _ _ => trivial) (fun i x H8 H8' hi pv y => ?_) (fun H8 pv => ?_)
        · obtain ⟨rfl, rfl⟩ := y
          obtain ⟨a9, ps, hpl, hpb, eB⟩ := pv
          refine ⟨rfl, yes_ ?_⟩
          refine ⟨.ref p, rfl, .int great, rfl, 2, great, rfl, rfl, .inl ⟨by decide, by decide⟩, _, 1, rfl, rfl, p, _, rfl, a9.b, by omega, by omega, fun H9 c k9 b9 c0 c1 => ?_⟩
          refine ⟨.int great, rfl, c, great, rfl, rfl, ?_⟩
          have a10 := a9.keep k9 b9 nDp
          refine ⟨_, k9 _ _ nBp eB, by rw [List.length_map]; exact small5000 (by omega), ⟨?_, a10.b.at (upd_ne nBp.symm), by rw [upd_ne nBD]; exact a10.e, a10.bd⟩, ps ++ [c - great], by rw [List.length_append, hpl]; rfl, fun x hx => ?_, by rw [upd_same, List.map_append]; rfl⟩
          · intro c' o nc ec
            rw [upd_ne (fun z => by rw [z] at ec; exact absurd (a8.k _ _ nBp ec) (by rw [nB]; simp))]
            exact a10.k _ _ nc ec
          · rcases List.mem_append.mp hx with z | z
            · exact hpb x z
            · rw [List.mem_singleton.mp z]
              omega
        · obtain ⟨a9, ps, hpl, hpb, eB⟩ := pv
          have hpl' : (ps.length : Int) = e := by omega
          have hsum := ints_sum hpb
          have hs : -(7 * 1000000000) ≤ ps.sum ∧ ps.sum ≤ 7 * 1000000000 := by
            have : (ps.length : Int) * great ≤ 7 * 1000000000 := Int.mul_le_mul (by omega) hgr.2 (by omega) (by decide)
            omega
          -- pence + [-sum(pence)]
          refine ⟨.ref B, rfl, .ref B, rfl, B, ps, rfl, SqL.of eB, _, rfl, by show 1 ≤ sizeLine; decide, fun l1 n1 => ?_⟩
          have eB1 := same_upd (o := .lst [V.int (-ps.sum)]) n1 _ _ eB
          refine ⟨B, l1, _, _, rfl, rfl, eB1, upd_same, by rw [List.length_map]; exact Nat.le_of_lt (small5000 (by show _ + 1 ≤ 5000; omega)), fun C nC => ?_⟩
          have a10 := (a9.new (o := .lst [V.int (-ps.sum)]) n1).new (o := .lst (ps.map V.int ++ [V.int (-ps.sum)])) nC
          have eC : (upd (upd H8 l1 (.lst [V.int (-ps.sum)])) C (.lst (ps.map V.int ++ [V.int (-ps.sum)]))) C = some (.lst ((ps ++ [-ps.sum]).map V.int)) := by rw [upd_same, List.map_append]; rfl
          have nCD : D ≠ C := ne_of_none (a9.new (o := .lst [V.int (-ps.sum)]) n1).e nC
          have nCp : C ≠ p := (a9.new (o := .lst [V.int (-ps.sum)]) n1).b.ne nC
          have nCH : H C = none := a9.k.free b (up0 (same_upd n1) nC) a9.b
          generalize upd (upd H8 l1 (.lst [V.int (-ps.sum)])) C (.lst (ps.map V.int ++ [V.int (-ps.sum)])) = H9 at a10 eC
          have hqs : (ps ++ [-ps.sum]).sum = 0 := by rw [List.sum_append, List.sum_singleton]; omega
          have hqb : ∀ x ∈ ps ++ [-ps.sum], -10000000000 ≤ x ∧ x ≤ 10000000000 := fun x hx => by
            rcases List.mem_append.mp hx with z | z
            · have := hpb x z
              omega
            · rw [List.mem_singleton.mp z]
              omega
          have hql : ((ps ++ [-ps.sum]).length : Int) = 1 + e := by rw [List.length_append, List.length_singleton]; omega
          generalize ps ++ [-ps.sum] = qs at eC hqs hqb hql
          refine ⟨C, rfl, ⟨_, SqL.of eC⟩, ?_⟩
          refine for_it (walk_list (xs := qs.map V.int)) (fun i σ H10 => ∃ (gs : List Int) (y7 : Option V), σ = [some (.ref p), some (.int most), some (.ref D), some (.int left), some (.int great), some (.int (1 + e)), some (.ref B), y7, none] ∧ AcS H H10 p D gs ∧ H10 C = some (.lst (qs.map V.int)) ∧ gs.sum = (qs.take i).sum ∧ gs.length = fs.length + i)
            ⟨fs, _, rfl, a10, eC, fs0, rfl⟩ (fun i σ H10 _ hp => ?_) (fun i v σ H10₀ H10 hi hp yy => ?_) (fun σ H10 hp => ?_)
          · obtain ⟨_, _, _, _, e, _⟩ := hp
            exact SqL.of e
          · obtain ⟨rfl, ex⟩ := yy
            obtain ⟨gs, y7, rfl, a11, eC10, gs0, gsl⟩ := hp
            rw [List.length_map] at hi
            have ev : v = .int qs[i] := by
              rw [List.getElem?_map, List.getElem?_eq_getElem hi] at ex
              exact (Option.some.inj ex).symm
            subst ev
            have gl8 : gs.length ≤ 8 := by omega
            refine ⟨.ref D, rfl, .inl ⟨rfl, _, SqL.of a11.e⟩, .ref p, rfl, .ref D, rfl, D, _, rfl, .inl (SqL.of a11.e), _, 1, rfl, rfl, p, _, rfl, a11.b, by omega, by rw [List.length_map]; omega, fun H11 c k11 b11 c0 c1 => ?_⟩
            have a12 := a11.keep k11 b11 nDp
            refine ⟨.int qs[i], rfl, D, _, c, _, rfl, rfl, a12.e, by rw [List.length_map]; exact small5000 (by omega), c0, by rw [List.length_map] at c1; omega, ?_⟩
            rw [ins_mapF]
            have hbd := hqb _ (List.getElem_mem hi)
            refine ⟨gs.take c.toNat ++ [qs[i]] ++ gs.drop c.toNat, _, rfl, ⟨fun c' o nc ec => ?_, a12.b.at (upd_ne nDp.symm), upd_same, fun x hx => ?_⟩, ?_, ?_, ?_⟩
            · rw [upd_ne (fun z => by rw [z] at ec; rw [nD] at ec; cases ec)]
              exact a12.k _ _ nc ec
            · rcases ins_mem hx with z | z
              · exact a12.bd x z
              · rw [z]
                exact hbd
            · rw [upd_ne nCD.symm]
              exact k11 _ _ nCp eC10
            · rw [ins_sum, gs0, List.take_add_one, List.getElem?_eq_getElem hi, List.sum_append]
              simp
            · rw [ins_len, gsl, Nat.add_assoc]
          · obtain ⟨gs, y7, rfl, a11, eC10, gs0, gsl⟩ := hp
            rw [List.length_map, List.take_length] at gs0
            rw [List.length_map] at gsl
            refine ⟨.int left, rfl, .int (1 + e), rfl, _, _, rfl, rfl, ?_⟩
            have el : (left : Int) - (1 + e) = ((left - (1 + e).toNat : Nat) : Int) := by omega
            refine ⟨⟨left - (1 + e).toNat, gs, _, _, _, by rw [← el]; rfl, a11, by rw [gs0]; exact hqs, by omega⟩, ?_⟩
            show ((left : Int) - (1 + e)).toNat < ((left : Nat) : Int).toNat
            omega
      · have hl : ¬ (0 : Int) < left := fun z => hl (decide_eq_true z)
        refine ⟨.ref D, rfl, q _ D fs a5.k a5.b nD a5.e ⟨⟨rfl, fs0, fun i hi => ?_⟩, by omega, by omega⟩ (by omega)⟩
        have := a5.bd (fs.getD i 0) (by rw [List.getD_eq_getElem?_getD, List.getElem?_eq_getElem hi]; exact List.getElem_mem hi)
        omega
    · obtain ⟨v, e, i, j, e1, e2, b, e3, z⟩ := z
      exact ⟨v, e, i, j, e1, e2, b, e3, h _ _ z⟩
end
end Th
namespace Th
open PySem PySem.Spec PyProof.Rows L2
/-! helpers -/
theorem at_ref {ts : List Addr} {i : Nat} {x : V} (h : (ts.map V.ref)[i]? = some x) : ∃ u, ts[i]? = some u ∧ x = .ref u := by
  rw [List.getElem?_map] at h
  cases c : ts[i]? with
  | none => rw [c] at h; cases h
  | some t => rw [c] at h; exact ⟨t, rfl, (Option.some.inj h).symm⟩
theorem at_int {ts : List Int} {i : Nat} {x : V} (h : (ts.map V.int)[i]? = some x) : ∃ u, ts[i]? = some u ∧ x = .int u := by
  rw [List.getElem?_map] at h
  cases c : ts[i]? with
  | none => rw [c] at h; cases h
  | some t => rw [c] at h; exact ⟨t, rfl, (Option.some.inj h).symm⟩
theorem sq_same {K : PySem.W.Frag} {H H' : Hp} {a : Addr} {xs : List V} (s : Same H H') (h : SqL K H a xs) : SqL K H' a xs := by
  rcases h with (h | ⟨o, h⟩) | h
  · exact .inl (.inl (s _ _ h))
  · exact .inl (.inr ⟨o, s _ _ h⟩)
  · exact .inr h
theorem tk_lst {H : Hp} {p : Addr} {o : HO} {xs : List V} (e : H p = some (.lst xs)) : ∀ b ys, H b = some (.tup ys) → (upd H p o) b = some (.tup ys) := fun b ys z => by
  rw [upd_ne fun w => by rw [w, e] at z; cases z]
  exact z
theorem paired_app {α β : Type} {R : α → β → Prop} {as as' : List α} {bs bs' : List β} (h : Paired R as bs) (h' : Paired R as' bs') : Paired R (as ++ as') (bs ++ bs') := by
  induction h with
  | nil => exact h'
  | cons x _ ih => exact .cons x ih
/-! sums, sets, the table -/
open Py (bit sumsM zI TabTo TabOk wS pS MinZ)
def winL (N many : Nat) : List Nat := (List.range many).filter (bit N)
def WA (N : Nat) (H : Hp) (t : Addr) (a : Nat) : Prop := H t = some (.tup [.int (a : Int), .int ((N - 2 ^ a : Nat) : Int)])
theorem winL_mem {N many a : Nat} : a ∈ winL N many ↔ a < many ∧ bit N a = true := by
  unfold winL
  rw [List.mem_filter, List.mem_range]
theorem winL_len (N many : Nat) : (winL N many).length ≤ many := Nat.le_trans (List.length_filter_le _ _) (by rw [List.length_range]; exact Nat.le_refl _)
theorem range_take {m i : Nat} (h : i ≤ m) : (List.range m).take i = List.range i := by
  rw [List.take_range, Nat.min_eq_left h]
theorem pow_nat (a : Nat) : (2 : Int) ^ a = ((2 ^ a : Nat) : Int) := by rw [Int.natCast_pow]; rfl
section
variable {P : Program} {w : World} {K : PySem.W.Frag} {mg : Str → Option Value} {base : Heap} {k : Nat}
def sp_sets_within : Sp := fun vs H Q _ => ∃ (N many : Nat), vs = [.int N, .int many] ∧ N < 256 ∧ many ≤ 8 ∧
  ∀ H' l ts, Same H H' → H l = none → H' l = some (.lst (ts.map V.ref)) → Paired (WA N H') ts (winL N many) → Q (.ref l) H'
theorem ok_sets_within (T : Defs K mg) : FnOk P w K mg base CX0 (k + 1) T.a_sets_within T.d_sets_within ["number", "many"] sp_sets_within := by
  refine T.F_sets_within.ok sc_sets_within (fun vs H Q E h => ?_) (fun cdv A outer s H vs Q E hr h => ?_)
  · obtain ⟨N, many, rfl, _⟩ := h
    rfl
  · obtain ⟨N, many, rfl, hN, hm, q⟩ := h
    refine ⟨_, PSs.nox
(pss_one (ps_ret (pe_lc (own := [("at", 2)]) (g := gName 2) rfl sc_sets_within.nd (pi_range1 (by rfl) T.z_range (pa_cons (pv 1) pa_nil)) (blkOk_by (N := N_sets_within) (sc := defScope s_sets_within) (by decide +kernel)) (fun _ _ _ _ _ => (pg_name (i := 2) sc_sets_within.nd rfl (.inl rfl))) (fun _ _ _ _ _ => pts_one (Mx.pt_truthK K (pe_op op_odd (pe_op op_shrN (pv 0) (pv 2)) (pe_int)) (by intro _; rfl))) (fun _ _ _ _ _ => (pe_tup (pa_cons (pv 2) (pa_cons (pe_op op_sub (pv 0) (pe_op op_oneShl (pe_int) (pv 2))) pa_nil)))))))
      , ?_⟩
    refine ⟨.int many, rfl, _, rfl, by omega, by omega, fun D nD => ?_⟩
    rw [Int.toNat_natCast]
    refine lc_it (walk_range (lo := 0) (n := many)) (fun i Hx => Same H Hx ∧ ∃ ts : List Addr, Hx D = some (.lst (ts.map V.ref)) ∧ Paired (WA N Hx) ts (winL N i)) ⟨same_upd nD, [], upd_same, .nil⟩ (fun _ _ _ _ => trivial) (fun i x Hx Hx' hi pv y => ?_) (fun Hx pv => ?_)
    · have ex : x = V.int (i : Int) := by first | exact (y.1).trans (congrArg V.int (Int.zero_add _)) | exact (y.2).trans (congrArg V.int (Int.zero_add _))
      have eh : Hx' = Hx := by first | exact y.1 | exact y.2
      subst ex
      subst eh
      obtain ⟨sx, ts, eD, hts⟩ := pv
      have tl := paired_len hts
      have wl := winL_len N i
      have hw : winL N (i + 1) = winL N i ++ if bit N i = true then [i] else [] := by
        unfold winL
        rw [List.range_succ, List.filter_append, List.filter_cons]
        split <;> rfl
      refine ⟨rfl, .int N, rfl, .int i, rfl, N, i, rfl, rfl, N / 2 ^ i, congrArg V.int (by rw [pow_nat]; exact (Int.natCast_ediv _ _).symm), rfl, _, rfl, ?_⟩
      by_cases c : bit N i = true
      · have hle := (Py.bit_off N hN i (by omega) c).1
        have c' : N / 2 ^ i % 2 = 1 := by unfold bit at c; exact eq_of_beq c
        rw [c']
        refine iteT ⟨.int i, rfl, .int N, rfl, .int i, rfl, i, rfl, rfl, by omega, N, _, rfl, rfl, two_sz, fun u nu => ?_⟩
        rw [pow_nat]
        have su := same_upd (o := .tup [.int (i : Int), .int ((N : Int) - ((2 ^ i : Nat) : Int))]) nu
        have eDu := su _ _ eD
        have tk := tk_lst (o := .lst (ts.map V.ref ++ [V.ref u])) eDu
        refine ⟨_, eDu, by rw [List.length_map]; exact small5000 (by omega), same_set (sx.trans su) nD, ts ++ [u], by rw [upd_same, List.map_append]; rfl, ?_⟩
        rw [hw, if_pos c]
        refine paired_snoc (paired_imp hts fun a _ r h => tk _ _ (su _ _ h)) ?_
        unfold WA
        rw [show ((N - 2 ^ i : Nat) : Int) = (N : Int) - ((2 ^ i : Nat) : Int) by omega]
        exact tk _ _ upd_same
      · have c' : N / 2 ^ i % 2 = 0 := by
          unfold bit at c
          have : ¬ N / 2 ^ i % 2 = 1 := fun z => c (beq_iff_eq.mpr z)
          omega
        rw [c']
        refine iteF ⟨sx, ts, eD, ?_⟩
        rw [hw, if_neg c, List.append_nil]
        exact hts
    · obtain ⟨sx, ts, eD, hts⟩ := pv
      exact q Hx D ts sx nD eD hts
def sp_set_sums (K : PySem.W.Frag) : Sp := fun vs H Q _ => ∃ (l : Addr) (ws : List Int), vs = [.ref l] ∧ SqL K H l (ws.map V.int) ∧ ws.length ≤ 8 ∧
  ∀ H' p, Same H H' → H p = none → H' p = some (.lst ((sumsM ws).map V.int)) → Q (.ref p) H'
theorem pow8 {n : Nat} (h : n ≤ 8) : 2 ^ n ≤ 256 := Nat.pow_le_pow_right (n := 2) (by decide) h
theorem ok_set_sums (T : Defs K mg) : FnOk P w K mg base CX0 (k + 1) T.a_set_sums T.d_set_sums ["worths"] (sp_set_sums K) := by
  refine T.F_set_sums.ok sc_set_sums (fun vs H Q E h => ?_) (fun cdv A outer s H vs Q E hr h => ?_)
  · obtain ⟨l, ws, rfl, _⟩ := h
    rfl
  · obtain ⟨l, ws, rfl, hl, w8, q⟩ := h
    refine ⟨_, PSs.nox
(pss_cons (ps_set (i := 1) sc_set_sums.nd rfl (.inl rfl) (pe_lst (pa_cons (pe_int) pa_nil)))
    (pss_cons (ps_for PassesOwn.never rfl (pi_list (pv 0)) (pg_name (i := 2) sc_set_sums.nd rfl (.inr rfl))
      (pss_one (ps_set (i := 1) sc_set_sums.nd rfl (.inl rfl) (pe_op op_cat (pv 1) (pe_lc (own := [("found", 3)]) (g := gName 3) rfl sc_set_sums.nd (pi_list (pv 1)) (blkOk_by (N := N_set_sums) (sc := defScope s_set_sums) (by decide +kernel)) (fun _ _ _ _ _ => (pg_name (i := 3) sc_set_sums.nd rfl (.inl rfl))) (fun _ _ _ _ _ => pts_nil) (fun _ _ _ _ _ => (pe_op op_add (pv 3) (pv 2))))))))
    (pss_one (ps_ret (pv 1)))))
      , ?_⟩
    refine ⟨by show 1 ≤ sizeLine; decide, fun F nF => ?_⟩
    have sF := same_upd (o := .lst [V.int 0]) nF
    refine ⟨.ref l, rfl, l, rfl, ⟨_, sq_same sF hl⟩, ?_⟩
    refine for_it (walk_list (xs := ws.map V.int)) (fun i σ Hx => ∃ (F : Addr) (y2 : Option V), σ = [some (.ref l), some (.ref F), y2, none] ∧ Same H Hx ∧ H F = none ∧ Hx F = some (.lst ((sumsM (ws.take i)).map V.int)))
      ⟨F, none, rfl, sF, nF, upd_same⟩ (fun i σ Hx _ hp => ?_) (fun i v σ Hx₀ Hx hi hp yy => ?_) (fun σ Hx hp => ?_)
    · obtain ⟨_, _, _, sx, _⟩ := hp
      exact sq_same sx hl
    · obtain ⟨rfl, ex⟩ := yy
      obtain ⟨F, y2, rfl, sx, nF, eF⟩ := hp
      rw [List.length_map] at hi
      have ev : v = .int ws[i] := by
        rw [List.getElem?_map, List.getElem?_eq_getElem hi] at ex
        exact (Option.some.inj ex).symm
      subst ev
      have tk : ws.take (i + 1) = ws.take i ++ [ws[i]] := by rw [List.take_add_one, List.getElem?_eq_getElem hi]; rfl
      have sl := Py.sumsM_len (ws.take i)
      rw [List.length_take, Nat.min_eq_left (by omega)] at sl
      have p8 := pow8 (n := i) (by omega)
      refine ⟨.ref F, rfl, .ref F, rfl, F, rfl, ⟨_, SqL.of eF⟩, fun D nD => ?_⟩
      refine lc_it (walk_list (xs := (sumsM (ws.take i)).map V.int)) (fun j Hy => Same Hx Hy ∧ Hy D = some (.lst ((((sumsM (ws.take i)).map (· + ws[i])).take j).map V.int))) ⟨same_upd nD, upd_same⟩ (fun j Hy _ pv => SqL.of (pv.1 _ _ eF)) (fun j v Hy₀ Hy hj pv yy => ?_) (fun Hy pv => ?_)
      · obtain ⟨rfl, ey⟩ := yy
        obtain ⟨sy, eD⟩ := pv
        rw [List.length_map] at hj
        have ev : v = .int (sumsM (ws.take i))[j] := by
          rw [List.getElem?_map, List.getElem?_eq_getElem hj] at ey
          exact (Option.some.inj ey).symm
        subst ev
        refine ⟨rfl, yes_ ⟨.int (sumsM (ws.take i))[j], rfl, .int ws[i], rfl, _, _, rfl, rfl, _, eD, ?_, same_set sy nD, ?_⟩⟩
        · rw [List.length_map, List.length_take, List.length_map]
          exact small5000 (by omega)
        · rw [upd_same, List.take_add_one, List.getElem?_map, List.getElem?_eq_getElem hj, List.map_append]
          rfl
      · obtain ⟨sy, eD⟩ := pv
        rw [List.length_map, List.take_of_length_le (by rw [List.length_map]; exact Nat.le_refl _)] at eD
        refine ⟨F, D, _, _, rfl, rfl, sy _ _ eF, eD, ?_, fun G nG => ?_⟩
        · rw [List.length_map, List.length_map, List.length_map]
          exact Nat.le_of_lt (small5000 (by omega))
        refine ⟨G, _, rfl, (sx.trans sy).trans (same_upd nG), up0 sx (up0 sy nG), ?_⟩
        rw [upd_same, tk, Py.sumsM_snoc, List.map_append]
    · obtain ⟨F, y2, rfl, sx, nF, eF⟩ := hp
      rw [List.length_map, List.take_length] at eF
      exact ⟨.ref F, rfl, q Hx F sx nF eF⟩
/-- the greatest of the sets within, and one more of nought -/
def sp_least_number (K : PySem.W.Frag) : Sp := fun vs H Q _ => ∃ (T : Addr) (tab : List Int) (total : Int) (N many : Nat), vs = [.ref T, .int total, .int N, .int many] ∧ H T = some (.lst (tab.map V.int)) ∧ 0 < N ∧ N < 256 ∧ many ≤ 8 ∧ N < 2 ^ many ∧ N ≤ tab.length ∧
  ∀ H' (x : Int), Same H H' → (∀ a, a < many → bit N a = true → tab.getD (N - 2 ^ a) 0 + (if total = 0 then 1 else 0) ≤ x) → (∃ a, a < many ∧ bit N a = true ∧ x = tab.getD (N - 2 ^ a) 0 + (if total = 0 then 1 else 0)) → Q (.int x) H'
theorem ok_least_number (T : Defs K mg) : FnOk P w K mg base CX0 (k + 2) T.a_least_number T.d_least_number ["table", "total", "number", "many"] (sp_least_number K) := by
  have G_sets_within : FnOk P w K mg base CX0 (k + 1) _ _ _ _ := ok_sets_within (k := k) T
  refine T.F_least_number.ok sc_least_number (fun vs H Q E h => ?_) (fun cdv A outer s H vs Q E hr h => ?_)
  · obtain ⟨T, tab, total, N, many, rfl, _⟩ := h
    rfl
  · obtain ⟨Ta, tab, total, N, many, rfl, eT, N0, hN, hm, hN2, hl, q⟩ := h
    refine ⟨_, PSs.nox
(pss_cons (ps_set (i := 4) sc_least_number.nd rfl (.inl rfl) (pe_callB (r := Mx.rMaxI K) (Mx.cr_maxI rfl hr.units) (by rfl) T.z_max (by decide +kernel) (pa_cons (pe_lc (own := [("at", 5), ("less", 6)]) (g := gTup K 2 (gCons (gName 5) (gCons (gName 6) gNil))) rfl sc_least_number.nd (pi_list (pe_call G_sets_within hr (by rfl) T.g_sets_within T.F_sets_within.kp T.b_sets_within .nil pass0 (pa_cons (pv 2) (pa_cons (pv 3) pa_nil)))) (blkOk_by (N := N_least_number) (sc := defScope s_least_number) (by decide +kernel)) (fun _ _ _ _ _ => (pg_tup rfl (pgs_cons (pg_name (i := 5) sc_least_number.nd rfl (.inl rfl)) (pgs_cons (pg_name (i := 6) sc_least_number.nd rfl (.inl rfl)) pgs_nil)))) (fun _ _ _ _ _ => pts_nil) (fun _ _ _ _ _ => (pe_ix (r := rIxL K) ix_list (pv 0) (pv 6) (fun _ _ => rfl)))) pa_nil)))
    (pss_one (ps_ret (pe_ifExp (pt_cmpR op_eq (pv 1) (pe_int) (nomark _)) (pe_op op_add (pv 4) (pe_int)) (pv 4)))))
      , ?_⟩
    refine ⟨.int N, rfl, .int many, rfl, N, many, rfl, hN, hm, fun H1 l ts s1 nl el hts => ⟨l, rfl, ⟨_, SqL.of el⟩, fun D nD => ?_⟩⟩
    have tl := paired_len hts
    have wl := winL_len N many
    refine lc_it (walk_list (xs := ts.map V.ref)) (fun j Hy => Same H1 Hy ∧ Hy D = some (.lst ((((winL N many).map fun a => tab.getD (N - 2 ^ a) 0).take j).map V.int))) ⟨same_upd nD, upd_same⟩ (fun j Hy _ pv => SqL.of (pv.1 _ _ el)) (fun j v Hy₀ Hy hj pv yy => ?_) (fun Hy pv => ?_)
    · obtain ⟨rfl, ey⟩ := yy
      obtain ⟨sy, eD⟩ := pv
      rw [List.length_map] at hj
      obtain ⟨t, et, rfl⟩ := at_ref ey
      obtain ⟨a, ea, ha⟩ := paired_get hts et
      obtain ⟨a1, a2⟩ := winL_mem.mp (List.mem_of_getElem? ea)
      have hlt : N - 2 ^ a < tab.length := by
        have : 0 < 2 ^ a := Nat.pow_pos (by decide)
        omega
      refine ⟨t, _, rfl, SqT.of (sy _ _ ha), rfl, _, _, rfl, _, [], rfl, rfl, rfl, yes_ ⟨.ref Ta, rfl, .int ((N - 2 ^ a : Nat) : Int), rfl, Ta, _, _, _, rfl, rfl, SqL.of (sy _ _ (s1 _ _ eT)), atI_nat (by rw [List.getElem?_map, List.getElem?_eq_getElem hlt]; rfl), _, eD, ?_, same_set sy nD, ?_⟩⟩
      · rw [List.length_map, List.length_take, List.length_map]
        exact small5000 (by omega)
      · have eg : tab.getD (N - 2 ^ a) 0 = tab[N - 2 ^ a] := by rw [List.getD_eq_getElem?_getD, List.getElem?_eq_getElem hlt]; rfl
        rw [upd_same, List.take_add_one, List.getElem?_map, ea, List.map_append]
        show _ = some (HO.lst (_ ++ [V.int (tab.getD (N - 2 ^ a) 0)]))
        rw [eg]
    · obtain ⟨sy, eD⟩ := pv
      rw [List.length_map, List.take_of_length_le (by rw [List.length_map]; omega)] at eD
      obtain ⟨a0, ha0, hb0⟩ := Py.bit_ex many hm N hN2 N0
      have m0 := winL_mem.mpr ⟨ha0, hb0⟩
      have hall : ∀ z ∈ (winL N many).map fun a => tab.getD (N - 2 ^ a) 0, ∃ a, a < many ∧ bit N a = true ∧ z = tab.getD (N - 2 ^ a) 0 := fun z hz => by
        obtain ⟨a, h1, h2⟩ := List.mem_map.mp hz
        obtain ⟨h3, h4⟩ := winL_mem.mp h1
        exact ⟨a, h3, h4, h2.symm⟩
      have hev : ∀ a, a < many → bit N a = true → tab.getD (N - 2 ^ a) 0 ∈ (winL N many).map fun a => tab.getD (N - 2 ^ a) 0 := fun a h1 h2 => List.mem_map.mpr ⟨a, winL_mem.mpr ⟨h1, h2⟩, rfl⟩
      have hne : (winL N many).map (fun a => tab.getD (N - 2 ^ a) 0) ≠ [] := fun z => by
        have := hev a0 ha0 hb0
        rw [z] at this
        cases this
      generalize (winL N many).map (fun a => tab.getD (N - 2 ^ a) 0) = zs at eD hall hev hne
      match zs, hne with
      | z :: zs, _ =>
      refine ⟨D, z, zs, rfl, SqL.of eD, ?_⟩
      obtain ⟨g1, g2⟩ := Mx.maxI_ge zs z
      have gm := Mx.maxI_mem zs z
      generalize Mx.maxI z zs = x at g1 g2 gm
      have gall : ∀ a, a < many → bit N a = true → tab.getD (N - 2 ^ a) 0 ≤ x := fun a h1 h2 => by
        rcases List.mem_cons.mp (hev a h1 h2) with c | c
        · rw [c]; exact g1
        · exact g2 _ c
      obtain ⟨a1, h1, h2, h3⟩ := hall x gm
      refine ⟨.int total, rfl, rfl, _, rfl, ite2 (fun c => ?_) (fun c => ?_)⟩
      · have c := of_decide_eq_true c
        have c : total = 0 := by injection c
        refine ⟨.int x, rfl, x, 1, rfl, rfl, q Hy _ (s1.trans sy) (fun a h1 h2 => ?_) ⟨a1, h1, h2, ?_⟩⟩
        · rw [if_pos c]
          have := gall a h1 h2
          omega
        · rw [if_pos c, h3]
      · have c : ¬ total = 0 := fun z => c (decide_eq_true (by rw [z]))
        refine ⟨.int x, rfl, q Hy _ (s1.trans sy) (fun a h1 h2 => ?_) ⟨a1, h1, h2, ?_⟩⟩
        · rw [if_neg c]
          have := gall a h1 h2
          omega
        · rw [if_neg c, h3, Int.add_zero]
def sp_greatest_table (K : PySem.W.Frag) : Sp := fun vs H Q _ => ∃ (l : Addr) (ws : List Int), vs = [.ref l] ∧ SqL K H l (ws.map V.int) ∧ ws.length ≤ 8 ∧
  ∀ H' p tab, Same H H' → H p = none → H' p = some (.lst (tab.map V.int)) → TabOk ws tab → Q (.ref p) H'
theorem ok_greatest_table (T : Defs K mg) : FnOk P w K mg base CX0 (k + 3) T.a_greatest_table T.d_greatest_table ["worths"] (sp_greatest_table K) := by
  have G_set_sums : FnOk P w K mg base CX0 (k + 2) _ _ _ _ := ok_set_sums (k := k + 1) T
  have G_least_number : FnOk P w K mg base CX0 (k + 2) _ _ _ _ := ok_least_number (k := k) T
  refine T.F_greatest_table.ok sc_greatest_table (fun vs H Q E h => ?_) (fun cdv A outer s H vs Q E hr h => ?_)
  · obtain ⟨l, ws, rfl, _⟩ := h
    rfl
  · obtain ⟨l, ws, rfl, hl, w8, q⟩ := h
    refine ⟨_, PSs.nox
(pss_cons (ps_set (i := 1) sc_greatest_table.nd rfl (.inl rfl) (pe_lst pa_nil))
    (pss_cons (ps_for PassesOwn.never rfl (pi_enum (by rfl) T.z_enumerate (pa_cons (pe_call G_set_sums hr (by rfl) T.g_set_sums T.F_set_sums.kp T.b_set_sums .nil pass0 (pa_cons (pv 0) pa_nil)) pa_nil)) (pg_tup rfl (pgs_cons (pg_name (i := 2) sc_greatest_table.nd rfl (.inl rfl)) (pgs_cons (pg_name (i := 3) sc_greatest_table.nd rfl (.inl rfl)) pgs_nil)))
      (pss_one (ps_expr (pe_bm PySem.F.plainAttrs_list PySem.F.slot_list_append PySem.F.type_list_append mt_append (pv 1) (pa_cons (pe_ifExp (pt_cmpR op_gt (pv 2) (pe_int) (nomark _)) (pe_call G_least_number hr (by rfl) T.g_least_number T.F_least_number.kp T.b_least_number .nil pass0 (pa_cons (pv 1) (pa_cons (pv 3) (pa_cons (pv 2) (pa_cons (pe_callB (r := rLenS K) call_lenS (by rfl) T.z_len (by decide +kernel) (pa_cons (pv 0) pa_nil)) pa_nil))))) (pe_int)) pa_nil)))))
    (pss_one (ps_ret (pv 1)))))
      , ?_⟩
    have sl := Py.sumsM_len ws
    have p8 := pow8 w8
    refine ⟨Nat.zero_le _, fun F nF => ?_⟩
    have sF := same_upd (o := .lst []) nF
    have eF1 : (upd H F (.lst [])) F = some (.lst []) := upd_same
    refine ⟨.ref l, rfl, l, ws, rfl, sq_same sF hl, w8, fun H1 S s1 nS eS => ?_⟩
    have SF : S ≠ F := fun z => by rw [z, eF1] at nS; cases nS
    refine ⟨S, _, rfl, SqL.of eS, ?_⟩
    refine for_it (walk_enum (xs := (sumsM ws).map V.int)) (fun i σ Hx => ∃ (y2 y3 : Option V) (tab : List Int), σ = [some (.ref l), some (.ref F), y2, y3] ∧ Same H Hx ∧ Hx S = some (.lst ((sumsM ws).map V.int)) ∧ Hx F = some (.lst (tab.map V.int)) ∧ TabTo (sumsM ws) ws.length i tab)
      ⟨_, _, [], rfl, sF.trans s1, eS, s1 _ _ eF1, rfl, rfl, fun S h1 h2 => absurd h2 (Nat.not_lt_zero _), fun S h1 h2 => absurd h2 (Nat.not_lt_zero _)⟩ (fun i σ Hx _ hp => ?_) (fun i v σ Hx Hx' hi hp yy => ?_) (fun σ Hx hp => ?_)
    · obtain ⟨_, _, _, _, _, eS, _⟩ := hp
      exact SqL.of eS
    · obtain ⟨U, xv, yv, rfl, nU, rfl, ex, ey⟩ := yy
      obtain ⟨y2, y3, tab, rfl, sx, eSx, eFx, htab⟩ := hp
      have ex : xv = .int (i : Int) := (Option.some.inj ex).symm
      subst ex
      rw [List.length_map] at hi
      have ey : ((sumsM ws).map V.int)[i]? = some yv := ey
      have ev : yv = .int (sumsM ws)[i] := by
        rw [List.getElem?_map, List.getElem?_eq_getElem hi] at ey
        exact (Option.some.inj ey).symm
      subst ev
      have eg : (sumsM ws).getD i 0 = (sumsM ws)[i] := by rw [List.getD_eq_getElem?_getD, List.getElem?_eq_getElem hi]; rfl
      have sU := same_upd (o := .tup [.int (i : Int), .int (sumsM ws)[i]]) nU
      have tl := htab.len
      refine ⟨U, _, rfl, SqT.of upd_same, rfl, _, _, rfl, _, [], rfl, rfl, ?_⟩
      have eF2 := sU _ _ eFx
      refine ⟨.ref F, rfl, .inl ⟨rfl, _, SqL.of eF2⟩, .int (i : Int), rfl, _, 0, rfl, rfl, _, rfl, ite2 (fun c => ?_) (fun c => ?_)⟩
      · have c : 0 < i := by have := of_decide_eq_true c; omega
        refine ⟨.ref F, rfl, .int (sumsM ws)[i], rfl, .int (i : Int), rfl, .ref l, rfl, l, _, rfl, .inl (sq_same sU (sq_same sx hl)), F, tab, (sumsM ws)[i], i, ws.length, by rw [List.length_map]; rfl, eF2, c, by omega, w8, by omega, by omega, fun Hy x sy hge hex => ?_⟩
        refine ⟨F, _, _, rfl, rfl, sy _ _ eF2, by rw [List.length_map]; exact small5000 (by omega), _, _, tab ++ [x], rfl, same_set ((sx.trans sU).trans sy) nF, by rw [upd_ne SF]; exact sy _ _ (sU _ _ eSx), by rw [upd_same, List.map_append]; rfl, htab.snoc w8 (by omega) (fun z => by omega) (fun _ a h1 h2 => ?_) (fun _ => ?_)⟩
        · unfold zI
          rw [eg]
          exact hge a h1 h2
        · unfold zI
          rw [eg]
          exact hex
      · have c : i = 0 := by
          have : ¬ (0 : Int) < (i : Int) := fun z => c (decide_eq_true z)
          omega
        subst c
        exact ⟨F, _, _, rfl, rfl, eF2, by rw [List.length_map]; exact small5000 (by omega), _, _, tab ++ [0], rfl, same_set (sx.trans sU) nF, by rw [upd_ne SF]; exact sU _ _ eSx, by rw [upd_same, List.map_append]; rfl, htab.snoc w8 (by omega) (fun z => rfl) (fun z => absurd z (Nat.lt_irrefl _)) (fun z => absurd z (Nat.lt_irrefl _))⟩
    · obtain ⟨y2, y3, tab, rfl, sx, eSx, eFx, htab⟩ := hp
      rw [List.length_map, sl] at htab
      exact ⟨.ref F, rfl, q Hx F tab sx nF eFx htab⟩
end
end Th
namespace Th
open PySem PySem.Spec PyProof.Rows L2
/-! tables of code objects -/
open LamX in
theorem ExtN.seq {K : PySem.W.Frag} {H H' : Hp} {a : Addr} {xs : List V} (e : ExtN H H') (h : SqL K H a xs) : SqL K H' a xs := by
  rcases h with (h | ⟨o, h⟩) | h
  · exact .inl (.inl (e _ _ h fun _ z => nomatch z))
  · exact .inl (.inr ⟨o, e _ _ h fun _ z => nomatch z⟩)
  · exact .inr h
theorem ExtN.free {H H' : Hp} (e : LamX.ExtN H H') {l : Addr} (h : H' l = none) (ht : ∀ ps, H l ≠ some (.tbl ps)) : H l = none := by
  cases q : H l with
  | none => rfl
  | some o =>
    rw [e l o q (fun ps z => ht ps (by rw [q, z]))] at h
    cases h
theorem ExtN.lst {H H' : Hp} (e : LamX.ExtN H H') {l : Addr} {xs : List V} (h : H l = some (.lst xs)) : H' l = some (.lst xs) := e _ _ h fun _ z => nomatch z
theorem ExtN.tup {H H' : Hp} (e : LamX.ExtN H H') {l : Addr} {xs : List V} (h : H l = some (.tup xs)) : H' l = some (.tup xs) := e _ _ h fun _ z => nomatch z
theorem tab_upd {H : Hp} {P p : Addr} {q : Str} {o u : HO} (t : LamX.TabS H P q) (hp : H p = some o) (n1 : ∀ ps, o ≠ .tbl ps) (n2 : ∀ c, o ≠ LamX.CodeO c q) : LamX.TabS (upd H p u) P q := by
  obtain ⟨ps, h1, h2, h3⟩ := t
  refine ⟨ps, ?_, h2, fun pos cv hc => ?_⟩
  · rw [upd_ne (fun z => n1 ps (by rw [← z, h1] at hp; exact (Option.some.inj hp).symm))]
    exact h1
  · obtain ⟨c, e1, e2⟩ := h3 pos cv hc
    refine ⟨c, e1, ?_⟩
    rw [upd_ne (fun z => n2 c (by rw [← z, e2] at hp; exact (Option.some.inj hp).symm))]
    exact e2
theorem lst_ne_code {xs : List V} (c : Addr) (q : Str) : HO.lst xs ≠ LamX.CodeO c q := fun z => by unfold LamX.CodeO at z; cases z
theorem tab_lst {H : Hp} {P p : Addr} {q : Str} {xs : List V} {u : HO} (t : LamX.TabS H P q) (hp : H p = some (.lst xs)) : LamX.TabS (upd H p u) P q :=
  tab_upd t hp (fun _ z => nomatch z) fun c => lst_ne_code c q
theorem ext_fresh {H H' : Hp} {p : Addr} {u : HO} (n : H p = none) (e : LamX.ExtN H H') : LamX.ExtN H (upd H' p u) := fun b o h nt => by
  rw [upd_ne (ne_of_none h n)]
  exact e b o h nt
theorem cut_take (xs : List V) (m : Nat) : cutV xs none (some (m : Int)) = xs.take m := by
  unfold cutV
  rw [HT.sIx_none, HT.sIx_nat]
  show (xs.drop 0).take (min m xs.length - 0) = xs.take m
  rw [List.drop_zero, Nat.sub_zero]
  by_cases h : m ≤ xs.length
  · rw [Nat.min_eq_left h]
  · rw [Nat.min_eq_right (by omega), List.take_length, List.take_of_length_le (by omega)]
theorem sum_lt : ∀ (ws : List Int), (∀ w ∈ ws, 0 ≤ w ∧ w < 2 ^ 63) → 0 ≤ ws.sum ∧ ws.sum ≤ ws.length * 2 ^ 63
  | [], _ => by simp
  | w :: ws, h => by
    have h1 := h w (List.mem_cons_self ..)
    have h2 := sum_lt ws fun x hx => h x (List.mem_cons_of_mem _ hx)
    rw [List.sum_cons, List.length_cons]
    omega
theorem wide_ok {z : Int} (h0 : 0 < z) (h1 : z ≤ 1000 * 2 ^ 63) : CDivW 0 z := by
  refine ⟨h0, ?_⟩
  refine Nat.lt_of_le_of_lt ?_ (show 99 < 9000 by decide)
  have h2 : z.natAbs < 2 ^ 100 := by omega
  have h3 : z.natAbs ≠ 0 := by omega
  have := (Nat.log2_lt h3).mpr h2
  omega
section
variable {P : Program} {w : World} {K : PySem.W.Frag} {mg : Str → Option Value} {base : Heap} {k : Nat}
/-- the rule for a def whose code object is known -/
theorem okC {x : Str} {st : Stmt} {f : Addr} {fd : FuncData} {N ps : List Str} {sp : Sp} (F : FnP K x st f fd) (S : FnScope N ps (defScope st)) (len : ∀ vs H Q E, sp vs H Q E → vs.length = ps.length)
    (hb : ∀ (A : Around) (outer : List Env) (s : Shared) (H : Hp) (vs : List V) (Q : VK) (E : XK), Room k (A.deeper (envOfC x (defScope st) s.heap.objs.size f fd.code)) → sp vs H Q E →
      ∃ t, PSs (cxOf CX0 P w K mg base N x (defScope st) f fd.code A outer s H E) (defBody st) t ∧ t { nx := fun _ H' => Q .non H', rt := Q } (start N vs) H) : FnOk P w K mg base CX0 (k + 1) f fd ps sp := by
  obtain ⟨oc, od, dV, kV, doc, pm, an, cdv, ct, osl, rfl, lk, hcd, _, _⟩ := F.ex
  exact fn_of lk hcd S len fun A outer s H vs Q E hr hsp => hb A outer s H vs Q E hr hsp
end
theorem ext_keep {H H1 H2 : Hp} {p : Addr} (e : LamX.ExtN H H1) (k : Keep p H1 H2) (n : H p = none) : LamX.ExtN H H2 := fun b o h nt => k b o (ne_of_none h n) (e b o h nt)
theorem ext_upd {H H1 : Hp} {p : Addr} {u : HO} (e : LamX.ExtN H H1) (n : H p = none) : LamX.ExtN H (upd H1 p u) := fun b o h nt => by
  rw [upd_ne (ne_of_none h n)]
  exact e b o h nt
theorem ext_same {H H1 H2 : Hp} (e : LamX.ExtN H H1) (s : Same H1 H2) : LamX.ExtN H H2 := e.trans (.of s)
/-- a store to what was new behind H1 -/
theorem ext_upd2 {H H1 H2 : Hp} {p : Addr} {u : HO} (e1 : LamX.ExtN H H1) (n : H1 p = none) (e2 : LamX.ExtN H H2) : LamX.ExtN H (upd H2 p u) := fun b o h nt => by
  rw [upd_ne (ne_of_none (e1 b o h nt) n)]
  exact e2 b o h nt
theorem tab_keep {H H' : Hp} {P p : Addr} {q : Str} (t : LamX.TabS H P q) (k : Keep p H H') (b : Bag H p) : LamX.TabS H' P q := by
  obtain ⟨ps, h1, h2, h3⟩ := t
  obtain ⟨g, r, eb, _⟩ := b
  refine ⟨ps, k _ _ (fun z => by rw [z, eb] at h1; cases h1) h1, h2, fun pos cv hc => ?_⟩
  obtain ⟨c, e1, e2⟩ := h3 pos cv hc
  refine ⟨c, e1, k _ _ (fun z => ?_) e2⟩
  rw [z, eb] at e2
  exact lst_ne_code _ q (Option.some.inj e2)
/-- p is none of what stood, tables aside -/
def NewN (H : Hp) (p : Addr) : Prop := ∀ b o, H b = some o → (∀ ps, o ≠ .tbl ps) → b ≠ p
theorem NewN.of {H : Hp} {p : Addr} (h : H p = none) : NewN H p := fun b o hb _ => ne_of_none hb h
theorem NewN.back {H H1 : Hp} {p : Addr} (e : LamX.ExtN H H1) (h : H1 p = none) : NewN H p := fun b o hb nt => ne_of_none (e b o hb nt) h
theorem NewN.lst {H : Hp} {p b : Addr} {xs : List V} (n : NewN H p) (h : H b = some (.lst xs)) : b ≠ p := n b _ h fun _ z => nomatch z
theorem ext_upd3 {H H1 H2 : Hp} {p : Addr} {u : HO} (e1 : LamX.ExtN H H1) (n : NewN H1 p) (e2 : LamX.ExtN H H2) : LamX.ExtN H (upd H2 p u) := fun b o h nt => by
  rw [upd_ne (n b o (e1 b o h nt) nt)]
  exact e2 b o h nt
/-! a table stays where a list changes -/
theorem tab_keepL {H H' : Hp} {P p : Addr} {q : Str} {xs : List V} (t : LamX.TabS H P q) (k : Keep p H H') (e : H p = some (.lst xs)) : LamX.TabS H' P q := by
  obtain ⟨ps, h1, h2, h3⟩ := t
  refine ⟨ps, k _ _ (fun z => by rw [z, e] at h1; cases h1) h1, h2, fun pos cv hc => ?_⟩
  obtain ⟨c, e1, e2⟩ := h3 pos cv hc
  refine ⟨c, e1, k _ _ (fun z => ?_) e2⟩
  rw [z, e] at e2
  exact lst_ne_code _ _ (Option.some.inj e2)
/-! groups -/
open Py (bit sumsM zI TabTo TabOk wS pS MinZ SgM GrOk)
def GA (H : Hp) (a : Addr) (g : List Nat) : Prop := H a = some (.lst (g.map fun n => V.int ((n : Nat) : Int)))
def wF (H : Hp) (t : Addr) : Nat := match H t with
  | some (.tup [_, .int z]) => z.toNat
  | _ => 0
theorem wF_of {N a : Nat} {H : Hp} {t : Addr} (h : WA N H t a) : wF H t = N - 2 ^ a := by
  unfold wF
  rw [show H t = _ from h]
  rfl
theorem atI_lst {xs : List V} {v : V} (e : xs[xs.length - 1]? = some v) : atI xs (-1) = some v := by
  have h := (List.getElem?_eq_some_iff.mp e).1
  have e1 : ixN xs.length (-1) = some (xs.length - 1) := by
    unfold ixN
    rw [if_neg (by decide), if_pos (by omega)]
    congr 1
    omega
  unfold atI
  rw [e1]
  exact e
theorem atI_end {xs : List V} {v : V} : atI (xs ++ [v]) (-1) = some v := atI_lst (by
  rw [List.length_append, List.length_singleton, Nat.add_sub_cancel, List.getElem?_append_right (Nat.le_refl _), Nat.sub_self]
  rfl)
theorem ga_ne {H : Hp} {G a : Addr} {g : List Nat} {xs : List Addr} {b : Addr} (h : GA H a g) (e : H G = some (.lst ((xs ++ [b]).map V.ref))) : a ≠ G := fun z => by
  rw [z] at h
  rw [show H G = _ from h, List.map_append] at e
  have e := congrArg (fun l : List V => l[xs.length]?) (HO.lst.inj (Option.some.inj e))
  simp only [List.getElem?_map] at e
  rw [List.getElem?_append_right (by rw [List.length_map]; exact Nat.le_refl _), List.length_map, Nat.sub_self] at e
  cases c : g[xs.length]? with
  | none => rw [c] at e; cases e
  | some n => rw [c] at e; cases e
theorem ga_upd {H : Hp} {c : Addr} {o : HO} {as : List Addr} {gs : List (List Nat)} (h : Paired (GA H) as gs) (hn : ∀ a ∈ as, a ≠ c) : Paired (GA (upd H c o)) as gs := by
  induction h with
  | nil => exact .nil
  | @cons a g as gs h _ ih =>
    refine .cons ?_ (ih fun b hb => hn b (List.mem_cons_of_mem _ hb))
    unfold GA at h ⊢
    rw [upd_ne (hn a List.mem_cons_self)]
    exact h
theorem sgm_len {ws tab : List Int} {S : Nat} {gi : List (List Nat)} {cur : List Nat} (h : SgM ws tab S gi cur) (w8 : ws.length ≤ 8) : gi.length ≤ 8 ∧ cur.length ≤ 8 := by
  have hl : (gi.flatten ++ cur).length ≤ (List.range ws.length).length := Py.nodup_len_lt h.nd fun a ha => List.mem_range.mpr ((h.mem a).mp ha).1
  rw [List.length_append, List.length_range] at hl
  have : gi.length ≤ gi.flatten.length := by
    have hm := h.mz
    clear h hl
    induction gi with
    | nil => exact Nat.le_refl _
    | cons g gi ih =>
      have := ih fun x hx => hm x (List.mem_cons_of_mem _ hx)
      have hg := (hm g List.mem_cons_self).2
      have : 0 < g.length := List.length_pos_iff.mpr hg
      rw [List.flatten_cons, List.length_append, List.length_cons]
      omega
  omega
section
variable {P : Program} {w : World} {K : PySem.W.Frag} {mg : Str → Option Value} {base : Heap} {k : Nat}
abbrev qGr : Str := (Str.ofString "settled_groups" ++ Str.ofString ".<locals>.") ++ Str.ofString "<lambda>"
abbrev TabG (T : Defs K mg) (H : Hp) : Prop := LamX.TabS H T.tp_settled_groups qGr
def sp_settled_groups (T : Defs K mg) : Sp := fun vs H Q _ => ∃ (l t : Addr) (ws tab : List Int), vs = [.ref l, .ref t] ∧ SqL K H l (ws.map V.int) ∧ ws.length ≤ 8 ∧ ws.sum = 0 ∧ H t = some (.lst (tab.map V.int)) ∧ TabOk ws tab ∧ TabG T H ∧
  ∀ H' G ga gs, LamX.ExtN H H' → TabG T H' → NewN H G → H' G = some (.lst (ga.map V.ref)) → Paired (GA H') ga gs → (∀ a ∈ ga, NewN H a) → GrOk ws tab gs → gs.length ≤ 9 → Q (.ref G) H'
set_option maxHeartbeats 16000000 in
theorem ok_settled_groups (T : Defs K mg) (TB : LamX.TabB base mg T.cc_settled_groups T.tp_settled_groups) : FnOk P w K mg base CX0 4 T.a_settled_groups T.d_settled_groups ["worths", "table"] (sp_settled_groups T) := by
  have G_set_sums : FnOk P w K mg base CX0 3 _ _ _ _ := ok_set_sums (k := 2) T
  have G_sets_within : FnOk P w K mg base CX0 3 _ _ _ _ := ok_sets_within (k := 2) T
  refine okC T.F_settled_groups sc_settled_groups (fun vs H Q E h => ?_) (fun A outer s H vs Q E hr h => ?_)
  · obtain ⟨l, t, ws, tab, rfl, _⟩ := h
    rfl
  · obtain ⟨l, t, ws, tab, rfl, hl, w8, ws0, et, htab, hT, q⟩ := h
    refine ⟨_, PSs.nox
(pss_cons (ps_set (i := 2) sc_settled_groups.nd rfl (.inl rfl) (pe_call G_set_sums hr (by rfl) T.g_set_sums T.F_set_sums.kp T.b_set_sums .nil pass0 (pa_cons (pv 0) pa_nil)))
    (pss_cons (ps_set (i := 3) sc_settled_groups.nd rfl (.inl rfl) (pe_lst (pa_cons (pe_lst pa_nil) pa_nil)))
    (pss_cons (ps_set (i := 4) sc_settled_groups.nd rfl (.inl rfl) (pe_op op_sub (pe_callB (r := rLenS K) call_lenS (by rfl) T.z_len (by decide +kernel) (pa_cons (pv 1) pa_nil)) (pe_int)))
    (pss_cons (ps_while PassesOwn.never (pt_cmpR op_gt (pv 4) (pe_int) (nomark _))
      (Evl.pss_cut (ps_if (PW.pt (pw_and (pt_cmpR op_eq (pe_ix (r := rIxL K) ix_list (pv 2) (pv 4) (fun _ _ => rfl)) (pe_int) (nomark _)) (pw_and1 (pt_truth (pe_ix (r := rIxL K) ix_list (pv 3) (pe_un un_neg (pe_int)) (fun _ _ => rfl)) (by intro _; rfl)))))
        (pss_one (ps_expr (pe_bm PySem.F.plainAttrs_list PySem.F.slot_list_append PySem.F.type_list_append mt_append (pv 3) (pa_cons (pe_lst pa_nil) pa_nil))))
        pss_nil)
      (pss_cons (ps_asg (Lm.pe_maxLam (k := 0) (n := 1) (iy := 1) rfl (by rfl) T.z_max (pe_call G_sets_within hr (by rfl) T.g_sets_within T.F_sets_within.kp T.b_sets_within .nil pass0 (pa_cons (pv 4) (pa_cons (pe_callB (r := rLenS K) call_lenS (by rfl) T.z_len (by decide +kernel) (pa_cons (pv 0) pa_nil)) pa_nil))) TB T.dc_settled_groups (Lm.lamY_by (sc := defScope s_settled_groups) rfl rfl rfl (by decide +kernel) (by decide +kernel) (by decide +kernel) (by decide +kernel)) rfl rfl (by decide) (fun _ _ _ _ _ _ _ => rfl) hr (by decide) (by decide) (by decide)) (pg_tup rfl (pgs_cons (pg_name (i := 5) sc_settled_groups.nd rfl (.inl rfl)) (pgs_cons (pg_name (i := 4) sc_settled_groups.nd rfl (.inl rfl)) pgs_nil))))
      (pss_one (ps_expr (pe_bm PySem.F.plainAttrs_list PySem.F.slot_list_append PySem.F.type_list_append mt_append (pe_ix (r := rIxL K) ix_list (pv 3) (pe_un un_neg (pe_int)) (fun _ _ => rfl)) (pa_cons (pv 5) pa_nil)))))))
    (pss_one (ps_ret (pv 3)))))))
      , ?_⟩
    have sl := Py.sumsM_len ws
    have p8 := pow8 w8
    have p0 : 0 < 2 ^ ws.length := Nat.pow_pos (by decide)
    have tl := htab.len
    refine ⟨.ref l, rfl, l, ws, rfl, hl, w8, fun H1 Sa s1 nSa eSa => ?_⟩
    have hT1 : TabG T H1 := hT.ext s1
    refine ⟨Nat.zero_le _, fun c nc => ?_⟩
    have sc := same_upd (o := .lst []) nc
    refine ⟨by show 1 ≤ sizeLine; decide, fun G nG => ?_⟩
    have sG := same_upd (o := .lst [V.ref c]) nG
    have s2 := sc.trans sG
    have ec : (upd (upd H1 c (.lst [])) G (.lst [V.ref c])) c = some (.lst []) := sG _ _ upd_same
    have eG : (upd (upd H1 c (.lst [])) G (.lst [V.ref c])) G = some (.lst [V.ref c]) := upd_same
    have nG1 : H1 G = none := up0 sc nG
    generalize upd (upd H1 c (.lst [])) G (.lst [V.ref c]) = H2 at s2 ec eG ⊢
    refine ⟨.ref t, rfl, t, _, rfl, .inl (SqL.of (s2 _ _ (s1 _ _ et))), _, 1, rfl, rfl, ?_⟩
    refine while_by (fun σ Hx => ∃ (S : Nat) (y5 : Option V) (gia : List Addr) (c : Addr) (gi : List (List Nat)) (cur : List Nat), σ = [some (.ref l), some (.ref t), some (.ref Sa), some (.ref G), some (.int S), y5] ∧ LamX.ExtN H1 Hx ∧ TabG T Hx ∧ (∀ a ∈ gia ++ [c], NewN H1 a) ∧ Hx G = some (.lst ((gia ++ [c]).map V.ref)) ∧ Paired (GA Hx) gia gi ∧ GA Hx c cur ∧ c ∉ gia ∧ SgM ws tab S gi cur)
      (fun σ _ => match (σ[4]? : Option (Option V)) with | some (some (V.int i)) => i.toNat | _ => 0) ⟨2 ^ ws.length - 1, none, [], c, [], [], by rw [List.length_map, tl, show ((2 ^ ws.length - 1 : Nat) : Int) = ((2 ^ ws.length : Nat) : Int) - 1 by omega]; rfl, .of s2, hT1.ext s2, (fun a ha => by rw [List.mem_singleton.mp ha]; exact .of nc), eG, .nil, ec, List.not_mem_nil, .start w8 ws0⟩ (fun σ Hx hp => ?_) (fun σ H5 Q Q' h z => ?_)
    · obtain ⟨S, y5, gia, c, gi, cur, rfl, ex, hTx, nc, eG, hga, hc, cn, hm⟩ := hp
      refine ⟨.int S, rfl, _, 0, rfl, rfl, _, rfl, ite2 (fun h0 => ?_) (fun h0 => ?_)⟩
      · have S0 : 0 < S := by have := of_decide_eq_true h0; omega
        have Slt := hm.lt
        have hSl : S < (sumsM ws).length := by rw [sl]; exact Slt
        have eg : (sumsM ws).getD S 0 = (sumsM ws)[S] := by rw [List.getD_eq_getElem?_getD, List.getElem?_eq_getElem hSl]; rfl
        have eSx := ExtN.lst ex eSa
        obtain ⟨l1, l2⟩ := sgm_len hm w8
        have gl := paired_len hga
        refine ⟨fun σ Hz => ∃ (gia : List Addr) (c : Addr) (gi : List (List Nat)) (cur : List Nat), σ = [some (.ref l), some (.ref t), some (.ref Sa), some (.ref G), some (.int S), y5] ∧ LamX.ExtN H1 Hz ∧ TabG T Hz ∧ (∀ a ∈ gia ++ [c], NewN H1 a) ∧ Hz G = some (.lst ((gia ++ [c]).map V.ref)) ∧ Paired (GA Hz) gia gi ∧ GA Hz c cur ∧ c ∉ gia ∧ SgM ws tab S gi cur ∧ (cur = [] ∨ (sumsM ws).getD S 0 ≠ 0), ?_, fun σ Hz mid => ?_⟩
        · have same : (cur = [] ∨ (sumsM ws).getD S 0 ≠ 0) → ∃ (gia' : List Addr) (c' : Addr) (gi : List (List Nat)) (cur : List Nat), [some (V.ref l), some (.ref t), some (.ref Sa), some (.ref G), some (.int S), y5] = [some (.ref l), some (.ref t), some (.ref Sa), some (.ref G), some (.int S), y5] ∧ LamX.ExtN H1 Hx ∧ TabG T Hx ∧ (∀ a ∈ gia' ++ [c'], NewN H1 a) ∧ Hx G = some (.lst ((gia' ++ [c']).map V.ref)) ∧ Paired (GA Hx) gia' gi ∧ GA Hx c' cur ∧ c' ∉ gia' ∧ SgM ws tab S gi cur ∧ (cur = [] ∨ (sumsM ws).getD S 0 ≠ 0) := fun hh => ⟨gia, c, gi, cur, rfl, ex, hTx, nc, eG, hga, hc, cn, hm, hh⟩
          refine ⟨.ref Sa, rfl, .int S, rfl, Sa, _, _, .int (sumsM ws)[S], rfl, rfl, SqL.of eSx, atI_nat (by rw [List.getElem?_map, List.getElem?_eq_getElem hSl]; rfl), rfl, _, rfl, ite2 (fun c1 => ?_) (fun c1 => ?_)⟩
          · have c1 := of_decide_eq_true c1
            have c1 : (sumsM ws)[S] = 0 := by injection c1
            refine ⟨.ref G, rfl, 1, rfl, G, _, -1, .ref c, rfl, rfl, SqL.of eG, by rw [List.map_append]; exact atI_end, _, .inl ⟨_, SqL.of hc, rfl⟩, ite2 (fun c2 => ?_) (fun c2 => ?_)⟩
            · have cne : cur ≠ [] := fun z => by rw [z] at c2; cases c2
              refine ⟨.ref G, rfl, .inl ⟨rfl, _, SqL.of eG⟩, Nat.zero_le _, fun e ne => ?_⟩
              have se := same_upd (o := .lst []) ne
              have eGe := se _ _ eG
              refine ⟨G, _, _, rfl, rfl, eGe, by rw [List.length_map, List.length_append, List.length_singleton]; exact small5000 (by omega), ?_⟩
              have eeG : e ≠ G := fun z => by rw [z, eG] at ne; cases ne
              have tkG : ∀ a g, GA (upd Hx e (.lst [])) a g → GA (upd (upd Hx e (.lst [])) G (.lst ((gia ++ [c]).map V.ref ++ [V.ref e]))) a g := fun a g h => by
                unfold GA at h ⊢
                rw [upd_ne (ga_ne h eGe)]
                exact h
              refine ⟨gia ++ [c], e, gi ++ [cur], [], rfl, ext_upd2 (.refl H1) nG1 (ext_same ex se), tab_lst (hTx.ext se) eGe, (fun a ha => (List.mem_append.mp ha).elim (nc a) fun z => by rw [List.mem_singleton.mp z]; exact .back ex ne), by rw [upd_same, List.map_append (l₁ := gia ++ [c])]; rfl, paired_snoc (paired_imp hga fun a _ g h => tkG a g (se _ _ h)) (tkG _ _ (se _ _ hc)), tkG _ _ upd_same, fun z => ?_, hm.cut w8 htab (by rw [eg]; exact c1) cne, .inl rfl⟩
              rcases List.mem_append.mp z with z | z
              · obtain ⟨i, hi⟩ := List.getElem?_of_mem z
                obtain ⟨g, _, hg⟩ := paired_get hga hi
                rw [show Hx e = _ from hg] at ne
                cases ne
              · rw [List.mem_singleton.mp z, show Hx c = _ from hc] at ne
                cases ne
            · refine same (.inl ?_)
              cases cur with
              | nil => rfl
              | cons a t => exact absurd rfl c2
          · refine same (.inr fun z => c1 (decide_eq_true ?_))
            rw [← eg, z]
        obtain ⟨gia, c, gi, cur, rfl, ex, hTx, nc, eG, hga, hc, cn, hm, hor⟩ := mid
        obtain ⟨l1, l2⟩ := sgm_len hm w8
        have gl := paired_len hga
        refine ⟨.int S, rfl, .ref l, rfl, l, _, rfl, .inl (ExtN.seq ex (sq_same s1 hl)), S, ws.length, by rw [List.length_map]; rfl, by omega, w8, fun H3 L3 ts s3 nL3 eL3 hts => ?_⟩
        have tsl := paired_len hts
        obtain ⟨b0, hb0, hb1⟩ := Py.bit_ex ws.length w8 S Slt S0
        have w1 : 1 ≤ (winL S ws.length).length := List.length_pos_of_mem (winL_mem.mpr ⟨hb0, hb1⟩)
        have hall : ∀ t' ∈ ts, ∃ a, a < ws.length ∧ bit S a = true ∧ WA S H3 t' a := fun t' ht' => by
          obtain ⟨j, hj⟩ := List.getElem?_of_mem ht'
          obtain ⟨a, ea, ha⟩ := paired_get hts hj
          obtain ⟨a1, a2⟩ := winL_mem.mp (List.mem_of_getElem? ea)
          exact ⟨a, a1, a2, ha⟩
        have hTx3 : TabG T H3 := hTx.ext s3
        have ex3 := ext_same ex s3
        refine ⟨L3, t, ts, wF H3, tab, rfl, by omega, SqL.of eL3, fun t' ht' => ?_, by omega, rfl, ExtN.lst ex3 (s1 _ _ et), hTx3, fun H4 t' e4 hT4 ht' hmax => ?_⟩
        · obtain ⟨a, a1, a2, a3⟩ := hall t' ht'
          refine ⟨_, SqT.of a3, ?_, ?_⟩
          · rw [wF_of a3]
            rfl
          · rw [wF_of a3, tl]
            exact Nat.lt_of_le_of_lt (Nat.sub_le _ _) Slt
        obtain ⟨a, a1, a2, a3⟩ := hall t' ht'
        have hput := hm.put w8 htab hor S0 a1 a2 fun b b1 b2 => by
          obtain ⟨j, hj⟩ := List.getElem?_of_mem (winL_mem.mpr ⟨b1, b2⟩)
          have hj2 := (List.getElem?_eq_some_iff.mp hj).1
          obtain ⟨a', ea, ha⟩ := paired_get hts (List.getElem?_eq_getElem (l := ts) (i := j) (by omega))
          rw [hj] at ea
          have := Option.some.inj ea
          subst this
          have := hmax _ (List.getElem_mem (l := ts) (n := j) (by omega))
          rw [wF_of ha, wF_of a3] at this
          exact this
        have a4 : H4 t' = _ := ExtN.tup e4 a3
        have ex4 := ex3.trans e4
        have eG4 := ExtN.lst e4 (s3 _ _ eG)
        have hc4 : GA H4 c cur := ExtN.lst e4 (s3 _ _ hc)
        have hga4 : Paired (GA H4) gia gi := paired_imp hga fun a _ g h => ExtN.lst e4 (s3 _ _ h)
        refine ⟨t', _, rfl, SqT.of a4, rfl, _, _, rfl, _, [], rfl, rfl, ?_⟩
        refine ⟨.ref G, rfl, 1, rfl, G, _, -1, .ref c, rfl, rfl, SqL.of eG4, by rw [List.map_append]; exact atI_end, .inl ⟨rfl, _, SqL.of hc4⟩, .int (a : Int), rfl, c, _, _, rfl, rfl, hc4, by rw [List.length_map]; exact small5000 (by omega), ?_⟩
        have cG : c ≠ G := ga_ne hc4 eG4
        refine ⟨⟨S - 2 ^ a, _, gia, c, gi, cur ++ [a], rfl, ext_upd3 (.refl H1) (nc c (List.mem_append_right _ (List.mem_singleton.mpr rfl))) ex4, tab_lst hT4 hc4, nc, by rw [upd_ne cG.symm]; exact eG4, ?_, by unfold GA; rw [upd_same, List.map_append]; rfl, cn, hput⟩, ?_⟩
        · exact ga_upd hga4 fun a ha z => cn (z ▸ ha)
        · show ((S - 2 ^ a : Nat) : Int).toNat < ((S : Nat) : Int).toNat
          have : 0 < 2 ^ a := Nat.pow_pos (by decide)
          have := (Py.bit_off S (by omega) a (by omega) a2).1
          omega
      · have S0 : S = 0 := by
          have : ¬ (0 : Int) < (S : Int) := fun z => h0 (decide_eq_true z)
          omega
        subst S0
        obtain ⟨l1, l2⟩ := sgm_len hm w8
        refine ⟨.ref G, rfl, q Hx G (gia ++ [c]) (gi ++ [cur]) ((LamX.ExtN.of s1).trans ex) hTx (.of (up0 s1 nG1)) eG (paired_snoc hga hc) (fun a ha b o hb nt => nc a ha b o (s1 _ _ hb) nt) (hm.fin w8 htab) (by rw [List.length_append, List.length_singleton]; omega)⟩
    · obtain ⟨v, e, i, j, e1, e2, b, e3, z⟩ := z
      exact ⟨v, e, i, j, e1, e2, b, e3, h _ _ z⟩
end
end Th
namespace Th
open PySem PySem.Spec PyProof.Rows L2
/-! payments among few -/
open Py (bit sumsM zI TabTo TabOk wS pS MinZ SgM GrOk Pay payL negR posR)
def RowA (H : Hp) (a : Addr) (r : Py.Row) : Prop := H a = some (.lst [.int (r.1 : Int), .int r.2])
def PayA (H : Hp) (a : Addr) (t : Pay) : Prop := H a = some (.tup [.int (t.1 : Int), .int (t.2.1 : Int), .int t.2.2])
theorem row_upd {H : Hp} {c : Addr} {o : HO} {as : List Addr} {rs : List Py.Row} (h : Paired (RowA H) as rs) (hn : ∀ a ∈ as, a ≠ c) : Paired (RowA (upd H c o)) as rs := by
  induction h with
  | nil => exact .nil
  | @cons a g as gs h _ ih =>
    refine .cons ?_ (ih fun b hb => hn b (List.mem_cons_of_mem _ hb))
    unfold RowA at h ⊢
    rw [upd_ne (hn a List.mem_cons_self)]
    exact h
theorem row_ne {H : Hp} {a c : Addr} {r : Py.Row} {as : List Addr} (h : RowA H a r) (e : H c = some (.lst (as.map V.ref))) : a ≠ c := fun z => by
  rw [z] at h
  have h : H c = _ := h
  rw [h] at e
  cases as with
  | nil => cases e
  | cons b t => cases e
theorem rows_ne {H : Hp} {c : Addr} {rs : List Py.Row} {as as' : List Addr} (h : Paired (RowA H) as rs) (e : H c = some (.lst (as'.map V.ref))) : ∀ a ∈ as, a ≠ c := fun a ha => by
  obtain ⟨j, hj⟩ := List.getElem?_of_mem ha
  obtain ⟨r, _, hr⟩ := paired_get h hj
  exact row_ne hr e
def takeR (b : Bool) (pa : Addr) (pas : List Addr) : Nat → List Addr
  | 0 => []
  | j + 1 => (if b = true then [pa] else []) ++ pas.take j
theorem takeR_succ {b : Bool} {pa u : Addr} {pas : List Addr} {j : Nat} (h : pas[j]? = some u) : takeR b pa pas (j + 1 + 1) = takeR b pa pas (j + 1) ++ [u] := by
  show _ ++ pas.take (j + 1) = (_ ++ pas.take j) ++ [u]
  rw [List.take_add_one, h, List.append_assoc]
  rfl
theorem takeR_len {b : Bool} {pa : Addr} {pas : List Addr} {j : Nat} : (takeR b pa pas j).length ≤ j := by
  cases j with
  | zero => exact Nat.le_refl _
  | succ j =>
    show (_ ++ pas.take j).length ≤ _
    rw [List.length_append, List.length_take]
    split
    · rw [List.length_singleton]; omega
    · rw [List.length_nil]; omega
section
variable {P : Program} {w : World} {K : PySem.W.Frag} {mg : Str → Option Value} {base : Heap} {k : Nat}
def sp_payments_among (K : PySem.W.Frag) : Sp := fun vs H Q _ => ∃ (l a : Addr) (pl : List Nat) (acc : List Int), vs = [.ref l, .ref a] ∧ SqL K H l (pl.map fun n => V.int ((n : Nat) : Int)) ∧ SqL K H a (acc.map V.int) ∧ pl.length ≤ 8 ∧ (∀ p ∈ pl, p < acc.length) ∧
  ∀ H' t ts, Same H H' → H t = none → H' t = some (.lst (ts.map V.ref)) → Paired (PayA H') ts (payL (negR acc pl) (posR acc pl)) → Q (.ref t) H'
set_option maxHeartbeats 16000000 in
theorem ok_payments_among (T : Defs K mg) : FnOk P w K mg base CX0 (k + 1) T.a_payments_among T.d_payments_among ["places", "accounts"] (sp_payments_among K) := by
  refine T.F_payments_among.ok sc_payments_among (fun vs H Q E h => ?_) (fun cdv A outer s H vs Q E hr h => ?_)
  · obtain ⟨l, a, pl, acc, rfl, _⟩ := h
    rfl
  · obtain ⟨l, a, pl, acc, rfl, hl, ha, p8, plt, q⟩ := h
    refine ⟨_, PSs.nox
(pss_cons (ps_setLc (i := 2) (own := [("at", 6)]) (g := gName 6) rfl sc_payments_among.nd rfl rfl (sw_true rfl rfl rfl (by decide +kernel)) (pi_list (pv 0)) (blkOk_by (N := N_payments_among) (sc := defScope s_payments_among) (by decide +kernel)) (fun _ _ _ _ _ => (pg_name (i := 6) sc_payments_among.nd rfl (.inl rfl))) (fun _ _ _ _ _ => pts_one (pt_cmpR op_lt (pe_ix (r := rIxL K) ix_list (pv 1) (pv 6) (fun _ _ => rfl)) (pe_int) (nomark _))) (fun _ _ _ _ _ => (pe_lst (pa_cons (pv 6) (pa_cons (pe_un un_neg (pe_ix (r := rIxL K) ix_list (pv 1) (pv 6) (fun _ _ => rfl))) pa_nil)))))
    (pss_cons (ps_setLc (i := 3) (own := [("at", 6)]) (g := gName 6) rfl sc_payments_among.nd rfl rfl (sw_true rfl rfl rfl (by decide +kernel)) (pi_list (pv 0)) (blkOk_by (N := N_payments_among) (sc := defScope s_payments_among) (by decide +kernel)) (fun _ _ _ _ _ => (pg_name (i := 6) sc_payments_among.nd rfl (.inl rfl))) (fun _ _ _ _ _ => pts_one (pt_cmpR op_gt (pe_ix (r := rIxL K) ix_list (pv 1) (pv 6) (fun _ _ => rfl)) (pe_int) (nomark _))) (fun _ _ _ _ _ => (pe_lst (pa_cons (pv 6) (pa_cons (pe_ix (r := rIxL K) ix_list (pv 1) (pv 6) (fun _ _ => rfl)) pa_nil)))))
    (pss_cons (ps_set (i := 4) sc_payments_among.nd rfl (.inl rfl) (pe_lst pa_nil))
    (pss_cons (ps_while PassesOwn.never (PW.pt (pw_and (pt_truth (pv 2) (by intro _; rfl)) (pw_and1 (pt_truth (pv 3) (by intro _; rfl)))))
      (pss_cons (ps_set (i := 5) sc_payments_among.nd rfl (.inl rfl) (pe_callB (call_min2 rfl) (by rfl) T.z_min (by decide +kernel) (pa_cons (pe_ix (r := rIxL K) ix_list (pe_ix (r := rIxL K) ix_list (pv 2) (pe_int) (fun _ _ => rfl)) (pe_int) (fun _ _ => rfl)) (pa_cons (pe_ix (r := rIxL K) ix_list (pe_ix (r := rIxL K) ix_list (pv 3) (pe_int) (fun _ _ => rfl)) (pe_int) (fun _ _ => rfl)) pa_nil))))
      (pss_cons (ps_expr (pe_bm PySem.F.plainAttrs_list PySem.F.slot_list_append PySem.F.type_list_append mt_append (pv 4) (pa_cons (pe_tup (pa_cons (pe_ix (r := rIxL K) ix_list (pe_ix (r := rIxL K) ix_list (pv 2) (pe_int) (fun _ _ => rfl)) (pe_int) (fun _ _ => rfl)) (pa_cons (pe_ix (r := rIxL K) ix_list (pe_ix (r := rIxL K) ix_list (pv 3) (pe_int) (fun _ _ => rfl)) (pe_int) (fun _ _ => rfl)) (pa_cons (pv 5) pa_nil)))) pa_nil)))
      (pss_cons (ps_augS (pe_ix (r := rIxL K) ix_list (pv 2) (pe_int) (fun _ _ => rfl)) (pe_int) get_listN (pv 5) ip_sub set_list)
      (pss_cons (ps_augS (pe_ix (r := rIxL K) ix_list (pv 3) (pe_int) (fun _ _ => rfl)) (pe_int) get_listN (pv 5) ip_sub set_list)
      (pss_cons (ps_setLc (i := 2) (own := [("row", 7)]) (g := gName 7) rfl sc_payments_among.nd rfl rfl (sw_true rfl rfl rfl (by decide +kernel)) (pi_list (pv 2)) (blkOk_by (N := N_payments_among) (sc := defScope s_payments_among) (by decide +kernel)) (fun _ _ _ _ _ => (pg_name (i := 7) sc_payments_among.nd rfl (.inl rfl))) (fun _ _ _ _ _ => pts_one (pt_cmpR op_gt (pe_ix (r := rIxL K) ix_list (pv 7) (pe_int) (fun _ _ => rfl)) (pe_int) (nomark _))) (fun _ _ _ _ _ => (pv 7)))
      (pss_one (ps_setLc (i := 3) (own := [("row", 7)]) (g := gName 7) rfl sc_payments_among.nd rfl rfl (sw_true rfl rfl rfl (by decide +kernel)) (pi_list (pv 3)) (blkOk_by (N := N_payments_among) (sc := defScope s_payments_among) (by decide +kernel)) (fun _ _ _ _ _ => (pg_name (i := 7) sc_payments_among.nd rfl (.inl rfl))) (fun _ _ _ _ _ => pts_one (pt_cmpR op_gt (pe_ix (r := rIxL K) ix_list (pv 7) (pe_int) (fun _ _ => rfl)) (pe_int) (nomark _))) (fun _ _ _ _ _ => (pv 7))))))))))
    (pss_one (ps_ret (pv 4)))))))
      , ?_⟩
    have at_pl : ∀ {i : Nat} {v : V}, (pl.map fun n => V.int ((n : Nat) : Int))[i]? = some v → ∃ p, pl[i]? = some p ∧ v = .int (p : Int) ∧ p < acc.length := fun {i v} h => by
      rw [List.getElem?_map] at h
      cases c : pl[i]? with
      | none => rw [c] at h; cases h
      | some t => rw [c] at h; exact ⟨t, rfl, (Option.some.inj h).symm, plt t (List.mem_of_getElem? c)⟩
    have at_acc : ∀ {p : Nat}, p < acc.length → atI (acc.map V.int) (p : Int) = some (.int (acc.getD p 0)) := fun {p} h => atI_nat (by
      rw [List.getElem?_map, List.getD_eq_getElem?_getD, List.getElem?_eq_getElem h]
      rfl)
    -- payers
    refine ⟨.ref l, rfl, l, rfl, ⟨_, hl⟩, fun D nD => ?_⟩
    refine lc_it (walk_list (xs := pl.map fun n => V.int ((n : Nat) : Int))) (fun i Hx => Same H Hx ∧ ∃ as : List Addr, Hx D = some (.lst (as.map V.ref)) ∧ Paired (RowA Hx) as (negR acc (pl.take i)) ∧ as.length ≤ i ∧ (∀ a ∈ as, H a = none) ∧ as.Nodup) ⟨same_upd nD, [], upd_same, .nil, Nat.le_refl _, fun a h => (by cases h), .nil⟩ (fun i Hx _ pv => sq_same pv.1 hl) (fun i v Hx₀ Hx hi pv yy => ?_) (fun H1 pv => ?_)
    · obtain ⟨rfl, ex⟩ := yy
      obtain ⟨sx, as, eD, has, al, afr, and⟩ := pv
      rw [List.length_map] at hi
      obtain ⟨p, ep, rfl, pa⟩ := at_pl ex
      have hn : negR acc (pl.take (i + 1)) = negR acc (pl.take i) ++ if acc.getD p 0 < 0 then [(p, -(acc.getD p 0))] else [] := by
        rw [List.take_add_one, ep]
        unfold negR
        rw [List.filter_append, List.map_append]
        congr 1
        show List.map _ (List.filter _ [p]) = _
        rw [List.filter_cons]
        by_cases c : acc.getD p 0 < 0
        · rw [if_pos (decide_eq_true c), if_pos c]; rfl
        · rw [if_neg (fun z => c (of_decide_eq_true z)), if_neg c]; rfl
      refine ⟨rfl, .ref a, rfl, .int (p : Int), rfl, a, _, _, _, rfl, rfl, sq_same sx ha, at_acc pa, _, 0, rfl, rfl, _, rfl, ite2 (fun c => ?_) (fun c => ?_)⟩
      · have c := of_decide_eq_true c
        refine ⟨.int (p : Int), rfl, .ref a, rfl, .int (p : Int), rfl, a, _, _, _, rfl, rfl, sq_same sx ha, at_acc pa, _, rfl, two_sz, fun u nu => ?_⟩
        have su := same_upd (o := .lst [.int (p : Int), .int (-(acc.getD p 0))]) nu
        have eDu := su _ _ eD
        have uD : u ≠ D := fun z => by rw [z, eD] at nu; cases nu
        have nuH := up0 sx nu
        refine ⟨_, eDu, by rw [List.length_map]; exact small5000 (by omega), same_set (sx.trans su) nD, as ++ [u], by rw [upd_same, List.map_append]; rfl, ?_, by rw [List.length_append, List.length_singleton]; omega, fun b hb => ?_, ?_⟩
        · rw [hn, if_pos c]
          refine row_upd (paired_snoc (paired_imp has fun a _ r h => su _ _ h) upd_same) fun b hb => ?_
          rcases List.mem_append.mp hb with z | z
          · exact rows_ne has eD b z
          · rw [List.mem_singleton.mp z]; exact uD
        · rcases List.mem_append.mp hb with z | z
          · exact afr b z
          · rw [List.mem_singleton.mp z]; exact nuH
        · rw [List.nodup_append]
          refine ⟨and, List.nodup_cons.mpr ⟨List.not_mem_nil, .nil⟩, fun x hx y hy e => ?_⟩
          rw [List.mem_singleton.mp hy] at e
          obtain ⟨j, hj⟩ := List.getElem?_of_mem hx
          obtain ⟨r, _, hr⟩ := paired_get has hj
          rw [e] at hr
          rw [show Hx u = _ from hr] at nu
          cases nu
      · have c : ¬ acc.getD p 0 < 0 := fun z => c (decide_eq_true z)
        refine ⟨sx, as, eD, ?_, by omega, afr, and⟩
        rw [hn, if_neg c, List.append_nil]
        exact has
    obtain ⟨s1, pas, eP, hpas, pal, pfr, pnd⟩ := pv
    rw [List.length_map, List.take_length] at hpas
    rw [List.length_map] at pal
    -- payees
    refine ⟨.ref l, rfl, l, rfl, ⟨_, sq_same s1 hl⟩, fun D2 nD2 => ?_⟩
    refine lc_it (walk_list (xs := pl.map fun n => V.int ((n : Nat) : Int))) (fun i Hx => Same H1 Hx ∧ ∃ as : List Addr, Hx D2 = some (.lst (as.map V.ref)) ∧ Paired (RowA Hx) as (posR acc (pl.take i)) ∧ as.length ≤ i ∧ (∀ a ∈ as, H1 a = none) ∧ as.Nodup) ⟨same_upd nD2, [], upd_same, .nil, Nat.le_refl _, fun a h => (by cases h), .nil⟩ (fun i Hx _ pv => sq_same (s1.trans pv.1) hl) (fun i v Hx₀ Hx hi pv yy => ?_) (fun H2 pv => ?_)
    · obtain ⟨rfl, ex⟩ := yy
      obtain ⟨sx, as, eD, has, al, afr, and⟩ := pv
      rw [List.length_map] at hi
      obtain ⟨p, ep, rfl, pa⟩ := at_pl ex
      have hn : posR acc (pl.take (i + 1)) = posR acc (pl.take i) ++ if 0 < acc.getD p 0 then [(p, acc.getD p 0)] else [] := by
        rw [List.take_add_one, ep]
        unfold posR
        rw [List.filter_append, List.map_append]
        congr 1
        show List.map _ (List.filter _ [p]) = _
        rw [List.filter_cons]
        by_cases c : 0 < acc.getD p 0
        · rw [if_pos (decide_eq_true c), if_pos c]; rfl
        · rw [if_neg (fun z => c (of_decide_eq_true z)), if_neg c]; rfl
      have ha1 := sq_same (s1.trans sx) ha
      refine ⟨rfl, .ref a, rfl, .int (p : Int), rfl, a, _, _, _, rfl, rfl, ha1, at_acc pa, _, 0, rfl, rfl, _, rfl, ite2 (fun c => ?_) (fun c => ?_)⟩
      · have c := of_decide_eq_true c
        refine ⟨.int (p : Int), rfl, .ref a, rfl, .int (p : Int), rfl, a, _, _, _, rfl, rfl, ha1, at_acc pa, two_sz, fun u nu => ?_⟩
        have su := same_upd (o := .lst [.int (p : Int), .int (acc.getD p 0)]) nu
        have eDu := su _ _ eD
        have uD : u ≠ D2 := fun z => by rw [z, eD] at nu; cases nu
        have nuH := up0 sx nu
        refine ⟨_, eDu, by rw [List.length_map]; exact small5000 (by omega), same_set (sx.trans su) nD2, as ++ [u], by rw [upd_same, List.map_append]; rfl, ?_, by rw [List.length_append, List.length_singleton]; omega, fun b hb => ?_, ?_⟩
        · rw [hn, if_pos c]
          refine row_upd (paired_snoc (paired_imp has fun a _ r h => su _ _ h) upd_same) fun b hb => ?_
          rcases List.mem_append.mp hb with z | z
          · exact rows_ne has eD b z
          · rw [List.mem_singleton.mp z]; exact uD
        · rcases List.mem_append.mp hb with z | z
          · exact afr b z
          · rw [List.mem_singleton.mp z]; exact nuH
        · rw [List.nodup_append]
          refine ⟨and, List.nodup_cons.mpr ⟨List.not_mem_nil, .nil⟩, fun x hx y hy e => ?_⟩
          rw [List.mem_singleton.mp hy] at e
          obtain ⟨j, hj⟩ := List.getElem?_of_mem hx
          obtain ⟨r, _, hr⟩ := paired_get has hj
          rw [e] at hr
          rw [show Hx u = _ from hr] at nu
          cases nu
      · have c : ¬ 0 < acc.getD p 0 := fun z => c (decide_eq_true z)
        refine ⟨sx, as, eD, ?_, by omega, afr, and⟩
        rw [hn, if_neg c, List.append_nil]
        exact has
    obtain ⟨s2, qas, eQ, hqas, qal, qfr, qnd⟩ := pv
    rw [List.length_map, List.take_length] at hqas
    rw [List.length_map] at qal
    have eP2 := s2 _ _ eP
    have hpas2 : Paired (RowA H2) pas (negR acc pl) := paired_imp hpas fun a _ r h => s2 _ _ h
    have s12 := s1.trans s2
    have nd0 : (pas ++ qas).Nodup := by
      rw [List.nodup_append]
      refine ⟨pnd, qnd, fun x hx y hy e => ?_⟩
      obtain ⟨j, hj⟩ := List.getElem?_of_mem hx
      obtain ⟨r, _, hr⟩ := paired_get hpas hj
      have := qfr y hy
      rw [← e, show H1 x = _ from hr] at this
      cases this
    have fr0 : ∀ b ∈ pas ++ qas, H b = none := fun b hb => (List.mem_append.mp hb).elim (pfr b) fun z => up0 s1 (qfr b z)
    have len0 : (negR acc pl).length + (posR acc pl).length ≤ 8 := by
      have : ∀ ql : List Nat, (negR acc ql).length + (posR acc ql).length ≤ ql.length := fun ql => by
        induction ql with
        | nil => exact Nat.le_refl _
        | cons p ql ih =>
          rw [Py.negR_cons, Py.posR_cons, List.length_append, List.length_append, List.length_cons]
          by_cases c : acc.getD p 0 < 0
          · rw [if_pos c, if_neg (by omega)]
            show 1 + _ + (0 + _) ≤ _
            omega
          · rw [if_neg c]
            by_cases c2 : 0 < acc.getD p 0
            · rw [if_pos c2]
              show 0 + _ + (1 + _) ≤ _
              omega
            · rw [if_neg c2]
              show 0 + _ + (0 + _) ≤ _
              omega
      exact Nat.le_trans (this pl) p8
    have hp0 := Py.negR_pos (acc := acc) (pl := pl)
    have hq0 := Py.posR_pos (acc := acc) (pl := pl)
    generalize hR : payL (negR acc pl) (posR acc pl) = R0 at q
    generalize negR acc pl = ps0 at hpas2 len0 hp0 hR
    generalize posR acc pl = qs0 at hqas len0 hq0 hR
    clear hpas eP pal pfr pnd qal qfr qnd
    -- told
    refine ⟨Nat.zero_le _, fun F nF => ?_⟩
    have sF := same_upd (o := .lst []) nF
    have nFH := up0 s12 nF
    refine while_by (fun σ Hx => ∃ (D D2 : Addr) (y5 : Option V) (pas qas : List Addr) (ps qs : List Py.Row) (ts : List Addr) (tp : List Pay), σ = [some (.ref l), some (.ref a), some (.ref D), some (.ref D2), some (.ref F), y5, none, none] ∧ Same H Hx ∧ Hx D = some (.lst (pas.map V.ref)) ∧ Hx D2 = some (.lst (qas.map V.ref)) ∧ Paired (RowA Hx) pas ps ∧ Paired (RowA Hx) qas qs ∧ (pas ++ qas).Nodup ∧ (∀ b ∈ pas ++ qas, H b = none) ∧ (∀ r ∈ ps, 0 < r.2) ∧ (∀ r ∈ qs, 0 < r.2) ∧ Hx F = some (.lst (ts.map V.ref)) ∧ Paired (PayA Hx) ts tp ∧ tp ++ payL ps qs = R0 ∧ tp.length + (ps.length + qs.length) ≤ 8 ∧ D ≠ F ∧ D2 ≠ F)
      (fun σ Hx => (match (σ[2]? : Option (Option V)) with | some (some (V.ref c)) => (match Hx c with | some (.lst xs) => xs.length | _ => 0) | _ => 0) + (match (σ[3]? : Option (Option V)) with | some (some (V.ref c)) => (match Hx c with | some (.lst xs) => xs.length | _ => 0) | _ => 0))
      ⟨D, D2, none, pas, qas, ps0, qs0, [], [], rfl, s12.trans sF, sF _ _ eP2, sF _ _ eQ, paired_imp hpas2 fun a _ r h => sF _ _ h, paired_imp hqas fun a _ r h => sF _ _ h, nd0, fr0, hp0, hq0, upd_same, .nil, hR, by rw [List.length_nil]; omega, (fun z => by rw [z, nF] at eP2; cases eP2), (fun z => by rw [z, nF] at eQ; cases eQ)⟩ (fun σ Hx hp => ?_) (fun σ H5 Q Q' h z => ?_)
    · obtain ⟨D, D2, y5, pas, qas, ps, qs, ts, tp, rfl, sx, eP, eQ, hps, hqs, nd, fr, ppos, qpos, eF, hts, hR, hlen, DF, D2F⟩ := hp
      have pl_ := paired_len hps
      have ql_ := paired_len hqs
      have tl_ := paired_len hts
      refine ⟨.ref D, rfl, _, .inl ⟨_, SqL.of eP, rfl⟩, ite2 (fun c1 => ?_) (fun c1 => ?_)⟩
      · refine ⟨.ref D2, rfl, _, .inl ⟨_, SqL.of eQ, rfl⟩, ite2 (fun c2 => ?_) (fun c2 => ?_)⟩
        · match pas, ps, hps, c1 with
          | pa :: pas, p :: ps, .cons hpa hps, _ =>
          match qas, qs, hqs, c2 with
          | qa :: qas, q :: qs, .cons hqa hqs, _ =>
          have hlen' := hlen
          rw [List.length_cons, List.length_cons] at hlen'
          have h1' := paired_len hps
          have h2' := paired_len hqs
          obtain ⟨pn, px⟩ := p
          obtain ⟨qn, qx⟩ := q
          have px0 : 0 < px := ppos (pn, px) List.mem_cons_self
          have qx0 : 0 < qx := qpos (qn, qx) List.mem_cons_self
          have pa1 : Hx pa = some (.lst [.int (pn : Int), .int px]) := hpa
          have qa1 : Hx qa = some (.lst [.int (qn : Int), .int qx]) := hqa
          have nd' := nd
          rw [List.cons_append, List.nodup_cons] at nd'
          obtain ⟨npa, nd2⟩ := nd'
          have npa1 : ∀ b ∈ pas, b ≠ pa := fun b hb z => npa (z ▸ List.mem_append_left _ hb)
          have npq : qa ≠ pa := fun z => npa (z ▸ List.mem_append_right _ List.mem_cons_self)
          have npa2 : ∀ b ∈ qas, b ≠ pa := fun b hb z => npa (z ▸ List.mem_append_right _ (List.mem_cons_of_mem _ hb))
          obtain ⟨nd3, nd4, nd5⟩ := List.nodup_append.mp nd2
          obtain ⟨nqa, nd6⟩ := List.nodup_cons.mp nd4
          have nqa1 : ∀ b ∈ pas, b ≠ qa := fun b hb => nd5 b hb qa List.mem_cons_self
          have nqa2 : ∀ b ∈ qas, b ≠ qa := fun b hb z => nqa (z ▸ hb)
          refine ⟨.ref D, rfl, D, _, 0, .ref pa, rfl, rfl, SqL.of eP, atI_nat (j := 0) rfl, pa, _, 1, .int px, rfl, rfl, SqL.of pa1, atI_nat (j := 1) rfl, .ref D2, rfl, D2, _, 0, .ref qa, rfl, rfl, SqL.of eQ, atI_nat (j := 0) rfl, qa, _, 1, .int qx, rfl, rfl, SqL.of qa1, atI_nat (j := 1) rfl, _, _, rfl, ?_⟩
          have em : (if qx < px then qx else px) = min px qx := by
            by_cases c : qx < px
            · rw [if_pos c, Int.min_eq_right (by omega)]
            · rw [if_neg c, Int.min_eq_left (by omega)]
          rw [em]
          have hm1 : min px qx ≤ px := Int.min_le_left _ _
          have hm2 : min px qx ≤ qx := Int.min_le_right _ _
          have hturn : payL ((pn, px) :: ps) ((qn, qx) :: qs) = (pn, qn, min px qx) :: payL (if min px qx < px then (pn, px - min px qx) :: ps else ps) (if min px qx < qx then (qn, qx - min px qx) :: qs else qs) := Py.Turn.pay (p := (pn, px)) (q := (qn, qx)) ⟨rfl, rfl⟩
          have hmor : min px qx = px ∨ min px qx = qx := by
            rcases Int.le_total px qx with c | c
            · exact .inl (Int.min_eq_left c)
            · exact .inr (Int.min_eq_right c)
          generalize min px qx = m at hm1 hm2 hturn hmor ⊢
          -- told.append
          refine ⟨.ref F, rfl, .inl ⟨rfl, _, SqL.of eF⟩, .ref D, rfl, D, _, 0, .ref pa, rfl, rfl, SqL.of eP, atI_nat (j := 0) rfl, pa, _, 0, .int (pn : Int), rfl, rfl, SqL.of pa1, atI_nat (j := 0) rfl, .ref D2, rfl, D2, _, 0, .ref qa, rfl, rfl, SqL.of eQ, atI_nat (j := 0) rfl, qa, _, 0, .int (qn : Int), rfl, rfl, SqL.of qa1, atI_nat (j := 0) rfl, .int m, rfl, by show 3 ≤ sizeLine; decide, fun u nu => ?_⟩
          have su := same_upd (o := .tup [.int (pn : Int), .int (qn : Int), .int m]) nu
          have eFu := su _ _ eF
          refine ⟨F, _, _, rfl, rfl, eFu, by rw [List.length_map]; exact small5000 (by omega), ?_⟩
          have tk1 := tk_lst (o := .lst (ts.map V.ref ++ [.ref u])) eFu
          have hts3 : Paired (PayA (upd (upd Hx u (.tup [.int (pn : Int), .int (qn : Int), .int m])) F (.lst (ts.map V.ref ++ [.ref u])))) (ts ++ [u]) (tp ++ [(pn, qn, m)]) := paired_snoc (paired_imp hts fun a _ t h => tk1 _ _ (su _ _ h)) (tk1 _ _ upd_same)
          have eF3 : (upd (upd Hx u (.tup [.int (pn : Int), .int (qn : Int), .int m])) F (.lst (ts.map V.ref ++ [.ref u]))) F = some (.lst ((ts ++ [u]).map V.ref)) := by rw [upd_same, List.map_append]; rfl
          have paF : pa ≠ F := row_ne hpa eF
          have qaF : qa ≠ F := row_ne hqa eF
          have nF3 : ∀ b o, b ≠ F → Hx b = some o → (upd (upd Hx u (.tup [.int (pn : Int), .int (qn : Int), .int m])) F (.lst (ts.map V.ref ++ [.ref u]))) b = some o := fun b o hb e => by
            rw [upd_ne hb]
            exact su _ _ e
          have pa3 := nF3 _ _ paF pa1
          have qa3 := nF3 _ _ qaF qa1
          have eP3 := nF3 _ _ DF eP
          have eQ3 := nF3 _ _ D2F eQ
          have s3 : Same H (upd (upd Hx u (.tup [.int (pn : Int), .int (qn : Int), .int m])) F (.lst (ts.map V.ref ++ [.ref u]))) := same_set (sx.trans su) nFH
          have hps3 : Paired (RowA (upd (upd Hx u (.tup [.int (pn : Int), .int (qn : Int), .int m])) F (.lst (ts.map V.ref ++ [.ref u])))) pas ps := row_upd (paired_imp hps fun a _ r h => su _ _ h) (rows_ne hps eF)
          have hqs3 : Paired (RowA (upd (upd Hx u (.tup [.int (pn : Int), .int (qn : Int), .int m])) F (.lst (ts.map V.ref ++ [.ref u])))) qas qs := row_upd (paired_imp hqs fun a _ r h => su _ _ h) (rows_ne hqs eF)
          clear tk1 nF3
          generalize (upd (upd Hx u (.tup [.int (pn : Int), .int (qn : Int), .int m])) F (.lst (ts.map V.ref ++ [.ref u]))) = H3 at hts3 eF3 pa3 qa3 eP3 eQ3 s3 hps3 hqs3 ⊢
          -- payers[0][1] -= pence
          refine ⟨.ref D, rfl, D, _, 0, .ref pa, rfl, rfl, SqL.of eP3, atI_nat (j := 0) rfl, pa, _, 1, .int px, rfl, rfl, pa3, rfl, .int m, rfl, px, m, rfl, rfl, pa, _, 1, 1, rfl, rfl, pa3, rfl, ?_⟩
          have eD1 : D ≠ pa := (row_ne (show RowA H3 pa (pn, px) from pa3) eP3).symm
          have eD2 : D2 ≠ pa := (row_ne (show RowA H3 pa (pn, px) from pa3) eQ3).symm
          have pa4 : (upd H3 pa (.lst ([V.int (pn : Int), .int px].set 1 (.int (px - m))))) pa = some (.lst [.int (pn : Int), .int (px - m)]) := upd_same
          have eP4 : (upd H3 pa (.lst ([V.int (pn : Int), .int px].set 1 (.int (px - m))))) D = _ := (upd_ne eD1).trans eP3
          have eQ4 : (upd H3 pa (.lst ([V.int (pn : Int), .int px].set 1 (.int (px - m))))) D2 = _ := (upd_ne eD2).trans eQ3
          have qa4 : (upd H3 pa (.lst ([V.int (pn : Int), .int px].set 1 (.int (px - m))))) qa = _ := (upd_ne npq).trans qa3
          have eF4 : (upd H3 pa (.lst ([V.int (pn : Int), .int px].set 1 (.int (px - m))))) F = _ := (upd_ne paF.symm).trans eF3
          have hts4 := paired_imp hts3 fun a _ t h => tk_lst (o := .lst ([V.int (pn : Int), .int px].set 1 (.int (px - m)))) pa3 _ _ h
          have hps4 := row_upd (o := .lst ([V.int (pn : Int), .int px].set 1 (.int (px - m)))) hps3 npa1
          have hqs4 := row_upd (o := .lst ([V.int (pn : Int), .int px].set 1 (.int (px - m)))) hqs3 npa2
          have s4 := same_set (o := .lst ([V.int (pn : Int), .int px].set 1 (.int (px - m)))) s3 (fr pa List.mem_cons_self)
          generalize upd H3 pa (.lst ([V.int (pn : Int), .int px].set 1 (.int (px - m)))) = H4 at pa4 eP4 eQ4 qa4 eF4 hts4 hps4 hqs4 s4 ⊢
          -- payees[0][1] -= pence
          refine ⟨.ref D2, rfl, D2, _, 0, .ref qa, rfl, rfl, SqL.of eQ4, atI_nat (j := 0) rfl, qa, _, 1, .int qx, rfl, rfl, qa4, rfl, .int m, rfl, qx, m, rfl, rfl, qa, _, 1, 1, rfl, rfl, qa4, rfl, ?_⟩
          have eD3 : D ≠ qa := (row_ne (show RowA H4 qa (qn, qx) from qa4) eP4).symm
          have eD4 : D2 ≠ qa := (row_ne (show RowA H4 qa (qn, qx) from qa4) eQ4).symm
          have qa5 : (upd H4 qa (.lst ([V.int (qn : Int), .int qx].set 1 (.int (qx - m))))) qa = some (.lst [.int (qn : Int), .int (qx - m)]) := upd_same
          have eP5 : (upd H4 qa (.lst ([V.int (qn : Int), .int qx].set 1 (.int (qx - m))))) D = _ := (upd_ne eD3).trans eP4
          have eQ5 : (upd H4 qa (.lst ([V.int (qn : Int), .int qx].set 1 (.int (qx - m))))) D2 = _ := (upd_ne eD4).trans eQ4
          have pa5 : (upd H4 qa (.lst ([V.int (qn : Int), .int qx].set 1 (.int (qx - m))))) pa = _ := (upd_ne npq.symm).trans pa4
          have eF5 : (upd H4 qa (.lst ([V.int (qn : Int), .int qx].set 1 (.int (qx - m))))) F = _ := (upd_ne qaF.symm).trans eF4
          have hts5 := paired_imp hts4 fun a _ t h => tk_lst (o := .lst ([V.int (qn : Int), .int qx].set 1 (.int (qx - m)))) qa4 _ _ h
          have hps5 := row_upd (o := .lst ([V.int (qn : Int), .int qx].set 1 (.int (qx - m)))) hps4 nqa1
          have hqs5 := row_upd (o := .lst ([V.int (qn : Int), .int qx].set 1 (.int (qx - m)))) hqs4 nqa2
          have s5 := same_set (o := .lst ([V.int (qn : Int), .int qx].set 1 (.int (qx - m)))) s4 (fr qa (List.mem_append_right _ List.mem_cons_self))
          generalize upd H4 qa (.lst ([V.int (qn : Int), .int qx].set 1 (.int (qx - m)))) = H5 at qa5 eP5 eQ5 pa5 eF5 hts5 hps5 hqs5 s5 ⊢
          -- payers = [..]
          refine ⟨.ref D, rfl, D, rfl, ⟨_, SqL.of eP5⟩, fun D' nD' => ?_⟩
          refine lc_it (walk_list (xs := (pa :: pas).map V.ref)) (fun j Hy => Same H5 Hy ∧ Hy D' = some (.lst ((takeR (decide (m < px)) pa pas j).map V.ref))) ⟨same_upd nD', upd_same⟩ (fun j Hy _ pv => SqL.of (pv.1 _ _ eP5)) (fun j v Hy₀ Hy hj pv yy => ?_) (fun H6 pv => ?_)
          · obtain ⟨rfl, ey⟩ := yy
            obtain ⟨sy, eD'⟩ := pv
            rw [List.length_map, List.length_cons] at hj
            match j, ey with
            | 0, ey =>
              have ev : v = .ref pa := (Option.some.inj ey).symm
              subst ev
              refine ⟨rfl, .ref pa, rfl, pa, _, 1, .int (px - m), rfl, rfl, SqL.of (sy _ _ pa5), atI_nat (j := 1) rfl, _, 0, rfl, rfl, _, rfl, ite2 (fun c => ?_) (fun c => ?_)⟩
              · have c : m < px := by have := of_decide_eq_true c; omega
                refine ⟨.ref pa, rfl, _, eD', small5000 (by show 0 ≤ 5000; decide), same_set sy nD', ?_⟩
                rw [upd_same, decide_eq_true c]
                rfl
              · have c : ¬ m < px := fun z => c (decide_eq_true (by omega))
                refine ⟨sy, ?_⟩
                rw [eD', decide_eq_false c]
                rfl
            | j + 1, ey =>
              obtain ⟨b, eb, rfl⟩ := at_ref (ts := pas) (i := j) ey
              obtain ⟨r, er, hr⟩ := paired_get hps5 eb
              have r0 := ppos r (List.mem_cons_of_mem _ (List.mem_of_getElem? er))
              refine ⟨rfl, .ref b, rfl, b, _, 1, .int r.2, rfl, rfl, SqL.of (sy _ _ hr), atI_nat (j := 1) rfl, _, 0, rfl, rfl, _, rfl, ?_⟩
              rw [decide_eq_true r0]
              refine iteT ⟨.ref b, rfl, _, eD', by rw [List.length_map]; have := takeR_len (b := decide (m < px)) (pa := pa) (pas := pas) (j := j + 1); exact small5000 (by omega), same_set sy nD', ?_⟩
              rw [upd_same, takeR_succ eb, List.map_append]
              rfl
          obtain ⟨s6, eD'⟩ := pv
          rw [List.length_map, List.length_cons] at eD'
          have eD' : H6 D' = some (.lst (((if decide (m < px) = true then [pa] else []) ++ pas).map V.ref)) := by
            rw [eD']
            show some (HO.lst ((_ ++ pas.take pas.length).map V.ref)) = _
            rw [List.take_length]
          have nD'H := up0 s5 nD'
          have D'F : D' ≠ F := fun z => by rw [z, eF5] at nD'; cases nD'
          -- payees = [..]
          refine ⟨.ref D2, rfl, D2, rfl, ⟨_, SqL.of (s6 _ _ eQ5)⟩, fun D3 nD3 => ?_⟩
          refine lc_it (walk_list (xs := (qa :: qas).map V.ref)) (fun j Hy => Same H6 Hy ∧ Hy D3 = some (.lst ((takeR (decide (m < qx)) qa qas j).map V.ref))) ⟨same_upd nD3, upd_same⟩ (fun j Hy _ pv => SqL.of (pv.1 _ _ (s6 _ _ eQ5))) (fun j v Hy₀ Hy hj pv yy => ?_) (fun H7 pv => ?_)
          · obtain ⟨rfl, ey⟩ := yy
            obtain ⟨sy, eD3⟩ := pv
            rw [List.length_map, List.length_cons] at hj
            match j, ey with
            | 0, ey =>
              have ev : v = .ref qa := (Option.some.inj ey).symm
              subst ev
              refine ⟨rfl, .ref qa, rfl, qa, _, 1, .int (qx - m), rfl, rfl, SqL.of (sy _ _ (s6 _ _ qa5)), atI_nat (j := 1) rfl, _, 0, rfl, rfl, _, rfl, ite2 (fun c => ?_) (fun c => ?_)⟩
              · have c : m < qx := by have := of_decide_eq_true c; omega
                refine ⟨.ref qa, rfl, _, eD3, small5000 (by show 0 ≤ 5000; decide), same_set sy nD3, ?_⟩
                rw [upd_same, decide_eq_true c]
                rfl
              · have c : ¬ m < qx := fun z => c (decide_eq_true (by omega))
                refine ⟨sy, ?_⟩
                rw [eD3, decide_eq_false c]
                rfl
            | j + 1, ey =>
              obtain ⟨b, eb, rfl⟩ := at_ref (ts := qas) (i := j) ey
              obtain ⟨r, er, hr⟩ := paired_get hqs5 eb
              have r0 := qpos r (List.mem_cons_of_mem _ (List.mem_of_getElem? er))
              refine ⟨rfl, .ref b, rfl, b, _, 1, .int r.2, rfl, rfl, SqL.of (sy _ _ (s6 _ _ hr)), atI_nat (j := 1) rfl, _, 0, rfl, rfl, _, rfl, ?_⟩
              rw [decide_eq_true r0]
              refine iteT ⟨.ref b, rfl, _, eD3, by rw [List.length_map]; have := takeR_len (b := decide (m < qx)) (pa := qa) (pas := qas) (j := j + 1); exact small5000 (by omega), same_set sy nD3, ?_⟩
              rw [upd_same, takeR_succ eb, List.map_append]
              rfl
          obtain ⟨s7, eD3⟩ := pv
          rw [List.length_map, List.length_cons] at eD3
          have eD3 : H7 D3 = some (.lst (((if decide (m < qx) = true then [qa] else []) ++ qas).map V.ref)) := by
            rw [eD3]
            show some (HO.lst ((_ ++ qas.take qas.length).map V.ref)) = _
            rw [List.take_length]
          have s67 := s6.trans s7
          have D3F : D3 ≠ F := fun z => by rw [z, s6 _ _ eF5] at nD3; cases nD3
          have hts7 : Paired (PayA H7) (ts ++ [u]) (tp ++ [(pn, qn, m)]) := paired_imp hts5 fun a _ t h => s67 _ _ h
          have hps7 : Paired (RowA H7) pas ps := paired_imp hps5 fun a _ t h => s67 _ _ h
          have hqs7 : Paired (RowA H7) qas qs := paired_imp hqs5 fun a _ t h => s67 _ _ h
          have pa7 : RowA H7 pa (pn, px - m) := s67 _ _ pa5
          have qa7 : RowA H7 qa (qn, qx - m) := s67 _ _ qa5
          rw [hturn] at hR
          rw [List.length_cons, List.length_cons] at hlen
          have eP7 := s7 _ _ eD'
          have hps8 : Paired (RowA H7) ((if decide (m < px) = true then [pa] else []) ++ pas) (if m < px then (pn, px - m) :: ps else ps) := by
            by_cases c : m < px
            · rw [decide_eq_true c, if_pos rfl, if_pos c]; exact .cons pa7 hps7
            · rw [decide_eq_false c, if_neg (by decide), if_neg c]; exact hps7
          have hqs8 : Paired (RowA H7) ((if decide (m < qx) = true then [qa] else []) ++ qas) (if m < qx then (qn, qx - m) :: qs else qs) := by
            by_cases c : m < qx
            · rw [decide_eq_true c, if_pos rfl, if_pos c]; exact .cons qa7 hqs7
            · rw [decide_eq_false c, if_neg (by decide), if_neg c]; exact hqs7
          have sub1 : ((if decide (m < px) = true then [pa] else []) ++ pas).Sublist (pa :: pas) := by
            split
            · exact List.Sublist.refl _
            · exact List.sublist_cons_self _ _
          have sub2 : ((if decide (m < qx) = true then [qa] else []) ++ qas).Sublist (qa :: qas) := by
            split
            · exact List.Sublist.refl _
            · exact List.sublist_cons_self _ _
          have sub := sub1.append sub2
          have ll : (if m < px then (pn, px - m) :: ps else ps).length + (if m < qx then (qn, qx - m) :: qs else qs).length + 1 ≤ ps.length + 1 + (qs.length + 1) := by
            rcases hmor with c | c
            · rw [if_neg (by omega : ¬ m < px)]
              split
              · rw [List.length_cons]; omega
              · omega
            · rw [if_neg (by omega : ¬ m < qx)]
              split
              · rw [List.length_cons]; omega
              · omega
          have lp := paired_len hps8
          have lq := paired_len hqs8
          refine ⟨⟨D', D3, _, _, _, _, _, ts ++ [u], tp ++ [(pn, qn, m)], rfl, (s5.trans s6).trans s7, eP7, eD3, hps8, hqs8, sub.nodup nd, fun b hb => fr b (sub.subset hb), fun r hr' => ?_, fun r hr' => ?_, s67 _ _ eF5, hts7, by rw [List.append_assoc]; exact hR, by rw [List.length_append, List.length_singleton]; omega, D'F, D3F⟩, ?_⟩
          · by_cases c : m < px
            · rw [if_pos c] at hr'
              rcases List.mem_cons.mp hr' with e | e
              · rw [e]; show 0 < px - m; omega
              · exact ppos r (List.mem_cons_of_mem _ e)
            · rw [if_neg c] at hr'
              exact ppos r (List.mem_cons_of_mem _ hr')
          · by_cases c : m < qx
            · rw [if_pos c] at hr'
              rcases List.mem_cons.mp hr' with e | e
              · rw [e]; show 0 < qx - m; omega
              · exact qpos r (List.mem_cons_of_mem _ e)
            · rw [if_neg c] at hr'
              exact qpos r (List.mem_cons_of_mem _ hr')
          · show (match H7 D' with | some (.lst xs) => xs.length | _ => 0) + (match H7 D3 with | some (.lst xs) => xs.length | _ => 0) < (match Hx D with | some (.lst xs) => xs.length | _ => 0) + (match Hx D2 with | some (.lst xs) => xs.length | _ => 0)
            rw [eP7, eD3, eP, eQ]
            simp only [List.length_map]
            rw [lp, lq, List.length_cons, List.length_cons]
            have h1 := paired_len hps
            have h2 := paired_len hqs
            omega
        · have e2 : qas = [] := by
            cases qas with
            | nil => rfl
            | cons b t => exact absurd rfl c2
          subst e2
          cases hqs
          rw [Py.payL_nil2, List.append_nil] at hR
          subst hR
          exact ⟨.ref F, rfl, q Hx F ts sx nFH eF hts⟩
      · have e1 : pas = [] := by
          cases pas with
          | nil => rfl
          | cons b t => exact absurd rfl c1
        subst e1
        cases hps
        rw [Py.payL_nil, List.append_nil] at hR
        subst hR
        exact ⟨.ref F, rfl, q Hx F ts sx nFH eF hts⟩
    · obtain ⟨v, e, kk, t, z⟩ := z
      refine ⟨v, e, kk, t, ?_⟩
      cases kk with
      | true =>
        have z := (if_pos rfl : (if true = true then _ else _) = _) ▸ z
        obtain ⟨v2, e2, k2, t2, z⟩ := z
        exact iteT ⟨v2, e2, k2, t2, h _ _ z⟩
      | false => exact iteF (h _ _ z)
end
end Th
namespace Th
open PySem PySem.Spec PyProof.Rows L2
/-! the fewest payments -/
open Py (bit sumsM zI TabTo TabOk wS pS MinZ SgM GrOk Pay payL negR posR nzP nzW FewOk FwM)
section
variable {P : Program} {w : World} {K : PySem.W.Frag} {mg : Str → Option Value} {base : Heap} {k : Nat}
abbrev nN (n : Nat) : V := .int ((n : Nat) : Int)
def sp_fewest (T : Defs K mg) : Sp := fun vs H Q _ => ∃ (a : Addr) (acc : List Int), vs = [.ref a] ∧ SqL K H a (acc.map V.int) ∧ acc.sum = 0 ∧ acc.length ≤ 8 ∧ TabG T H ∧
  ∀ H' u F t ts tp tab, LamX.ExtN H H' → TabG T H' → NewN H F → NewN H t → F ≠ t → H' u = some (.tup [.ref F, .ref t]) → H' F = some (.lst (ts.map V.ref)) → Paired (PayA H') ts tp → H' t = some (.lst (tab.map V.int)) → TabOk (nzW acc) tab → FewOk acc tab tp → tp.length ≤ 8 → Q (.ref u) H'
set_option maxHeartbeats 16000000 in
theorem ok_fewest (T : Defs K mg) (TB : LamX.TabB base mg T.cc_settled_groups T.tp_settled_groups) : FnOk P w K mg base CX0 5 T.a_fewest T.d_fewest ["accounts"] (sp_fewest T) := by
  have G_greatest_table : FnOk P w K mg base CX0 4 _ _ _ _ := ok_greatest_table (k := 1) T
  have G_settled_groups : FnOk P w K mg base CX0 4 _ _ _ _ := ok_settled_groups T TB
  have G_payments_among : FnOk P w K mg base CX0 4 _ _ _ _ := ok_payments_among (k := 3) T
  refine T.F_fewest.ok sc_fewest (fun vs H Q E h => ?_) (fun cdv A outer s H vs Q E hr h => ?_)
  · obtain ⟨a, acc, rfl, _⟩ := h
    rfl
  · obtain ⟨a, acc, rfl, ha, hz, a8, hT, q⟩ := h
    refine ⟨_, PSs.nox
(pss_cons (ps_set (i := 1) sc_fewest.nd rfl (.inr rfl) (pe_lc (own := [("at", 6), ("account", 7)]) (g := gTup K 2 (gCons (gName 6) (gCons (gName 7) gNil))) rfl sc_fewest.nd (pi_enum (by rfl) T.z_enumerate (pa_cons (pv 0) pa_nil)) (blkOk_by (N := N_fewest) (sc := defScope s_fewest) (by decide +kernel)) (fun _ _ _ _ _ => (pg_tup rfl (pgs_cons (pg_name (i := 6) sc_fewest.nd rfl (.inl rfl)) (pgs_cons (pg_name (i := 7) sc_fewest.nd rfl (.inl rfl)) pgs_nil)))) (fun _ _ _ _ _ => pts_one (pt_cmpR op_ne (pv 7) (pe_int) (nomark _))) (fun _ _ _ _ _ => (pv 6))))
    (pss_cons (ps_setLc (i := 2) (own := [("at", 6)]) (g := gName 6) rfl sc_fewest.nd rfl rfl (sw_true rfl rfl rfl (by decide +kernel)) (pi_list (pv 1)) (blkOk_by (N := N_fewest) (sc := defScope s_fewest) (by decide +kernel)) (fun _ _ _ _ _ => (pg_name (i := 6) sc_fewest.nd rfl (.inl rfl))) (fun _ _ _ _ _ => pts_nil) (fun _ _ _ _ _ => (pe_ix (r := rIxL K) ix_list (pv 0) (pv 6) (fun _ _ => rfl))))
    (pss_cons (ps_set (i := 3) sc_fewest.nd rfl (.inl rfl) (pe_call G_greatest_table hr (by rfl) T.g_greatest_table T.F_greatest_table.kp T.b_greatest_table .nil pass0 (pa_cons (pv 2) pa_nil)))
    (pss_cons (ps_set (i := 4) sc_fewest.nd rfl (.inl rfl) (pe_lst pa_nil))
    (pss_cons (ps_for PassesOwn.never rfl (pi_list (pe_call G_settled_groups hr (by rfl) T.g_settled_groups T.F_settled_groups.kp T.b_settled_groups .nil pass0 (pa_cons (pv 2) (pa_cons (pv 3) pa_nil)))) (pg_name (i := 5) sc_fewest.nd rfl (.inl rfl))
      (pss_one (ps_aug (i := 4) sc_fewest.nd rfl (.inl rfl) (pe_call G_payments_among hr (by rfl) T.g_payments_among T.F_payments_among.kp T.b_payments_among .nil pass0 (pa_cons (pe_callB cr_sorted (by rfl) T.z_sorted (by decide +kernel) (pa_cons (pe_lc (own := [("at", 6)]) (g := gName 6) rfl sc_fewest.nd (pi_list (pv 5)) (blkOk_by (N := N_fewest) (sc := defScope s_fewest) (by decide +kernel)) (fun _ _ _ _ _ => (pg_name (i := 6) sc_fewest.nd rfl (.inl rfl))) (fun _ _ _ _ _ => pts_nil) (fun _ _ _ _ _ => (pe_ix (r := rIxL K) ix_list (pv 1) (pv 6) (fun _ _ => rfl)))) pa_nil)) (pa_cons (pv 0) pa_nil))) iop_ext)))
    (pss_one (ps_ret (pe_tup (pa_cons (pv 4) (pa_cons (pv 3) pa_nil))))))))))
      , ?_⟩
    have nl := Py.nzP_len acc
    have nwl := Py.nzW_len acc
    have at_acc : ∀ {p : Nat}, p < acc.length → atI (acc.map V.int) (p : Int) = some (.int (acc.getD p 0)) := fun {p} h => atI_nat (by
      rw [List.getElem?_map, List.getD_eq_getElem?_getD, List.getElem?_eq_getElem h]
      rfl)
    -- places
    refine ⟨.ref a, rfl, a, _, rfl, ha, fun L nL => ?_⟩
    refine lc_it (walk_enum (xs := acc.map V.int)) (fun i Hx => Same H Hx ∧ Hx L = some (.lst (((List.range i).filter fun p => decide (acc.getD p 0 ≠ 0)).map nN))) ⟨same_upd nL, upd_same⟩ (fun i Hx _ pv => sq_same pv.1 ha) (fun i v Hx Hx' hi pv yy => ?_) (fun H1 pv => ?_)
    · obtain ⟨U, xv, yv, rfl, nU, rfl, ex, ey⟩ := yy
      obtain ⟨sx, eL⟩ := pv
      have ex : xv = .int (i : Int) := (Option.some.inj ex).symm
      subst ex
      rw [List.length_map] at hi
      have ey : (acc.map V.int)[i]? = some yv := ey
      have ev : yv = .int (acc.getD i 0) := by
        rw [List.getElem?_map, List.getElem?_eq_getElem hi] at ey
        rw [List.getD_eq_getElem?_getD, List.getElem?_eq_getElem hi]
        exact (Option.some.inj ey).symm
      subst ev
      have sU := same_upd (o := .tup [.int (i : Int), .int (acc.getD i 0)]) nU
      have eLu := sU _ _ eL
      rw [List.range_succ, List.filter_append, List.map_append]
      have fl : ((List.range i).filter fun p => decide (acc.getD p 0 ≠ 0)).length ≤ i := Nat.le_trans (List.length_filter_le _ _) (by rw [List.length_range]; exact Nat.le_refl _)
      refine ⟨U, _, rfl, SqT.of upd_same, rfl, _, _, rfl, _, [], rfl, rfl, rfl, .int (acc.getD i 0), rfl, rfl, _, rfl, ite2 (fun c => ?_) (fun c => ?_)⟩
      · have c : acc.getD i 0 ≠ 0 := fun z => by rw [z] at c; simp at c
        refine ⟨.int (i : Int), rfl, _, eLu, by rw [List.length_map]; exact small5000 (by omega), same_set (sx.trans sU) nL, ?_⟩
        rw [upd_same, List.filter_cons_of_pos (by exact decide_eq_true c)]
        rfl
      · have c : acc.getD i 0 = 0 := Classical.byContradiction fun z => c (by
          simp only [ne_eq, Bool.not_eq_true', decide_eq_false_iff_not]
          exact fun w => z (by injection w))
        refine ⟨sx.trans sU, ?_⟩
        rw [eLu, List.filter_cons_of_neg (by rw [decide_eq_true_eq]; exact fun z => z c)]
        rw [List.filter_nil, List.map_nil, List.append_nil]
    obtain ⟨s1, eL⟩ := pv
    rw [List.length_map] at eL
    have eL : H1 L = some (.lst ((nzP acc).map nN)) := eL
    have ha1 := sq_same s1 ha
    -- worths
    refine ⟨.ref L, rfl, L, rfl, ⟨_, SqL.of eL⟩, fun W nW => ?_⟩
    refine lc_it (walk_list (xs := (nzP acc).map nN)) (fun i Hx => Same H1 Hx ∧ Hx W = some (.lst ((((nzP acc).take i).map fun p => acc.getD p 0).map V.int))) ⟨same_upd nW, upd_same⟩ (fun i Hx _ pv => SqL.of (pv.1 _ _ eL)) (fun i v Hx₀ Hx hi pv yy => ?_) (fun H2 pv => ?_)
    · obtain ⟨rfl, ey⟩ := yy
      obtain ⟨sy, eW⟩ := pv
      rw [List.length_map] at hi
      obtain ⟨p, ep⟩ : ∃ p, (nzP acc)[i]? = some p := ⟨_, List.getElem?_eq_getElem hi⟩
      have ev : v = .int (p : Int) := by
        rw [List.getElem?_map, ep] at ey
        exact (Option.some.inj ey).symm
      subst ev
      have pa := (Py.nzP_mem.mp (List.mem_of_getElem? ep)).1
      refine ⟨rfl, yes_ ⟨.ref a, rfl, .int (p : Int), rfl, a, _, _, _, rfl, rfl, sq_same sy ha1, at_acc pa, _, eW, by rw [List.length_map, List.length_map, List.length_take]; exact small5000 (by omega), same_set sy nW, ?_⟩⟩
      rw [upd_same, List.take_add_one, ep, List.map_append, List.map_append]
      rfl
    obtain ⟨s2, eW⟩ := pv
    rw [List.length_map, List.take_length] at eW
    have eW : H2 W = some (.lst ((nzW acc).map V.int)) := eW
    -- table
    refine ⟨.ref W, rfl, W, nzW acc, rfl, SqL.of eW, by omega, fun H3 t tab s3 nt et htab => ?_⟩
    have s13 := (s1.trans s2).trans s3
    have nt0 := up0 (s1.trans s2) nt
    refine ⟨Nat.zero_le _, fun F nF => ?_⟩
    have sF := same_upd (o := .lst []) nF
    have nF0 := up0 s13 nF
    have tF : t ≠ F := fun z => by rw [z, nF] at et; cases et
    have s14 := s13.trans sF
    have eF4 : (upd H3 F (.lst [])) F = some (.lst []) := upd_same
    have et4 := sF _ _ et
    have eW4 := sF _ _ (s3 _ _ eW)
    have eL4 := sF _ _ (s3 _ _ (s2 _ _ eL))
    have ha4 := sq_same s14 ha
    have hT4 := hT.ext s14
    have LF : L ≠ F := fun z => by have h := s3 _ _ (s2 _ _ eL); rw [z, nF] at h; cases h
    generalize upd H3 F (.lst []) = H4 at s14 eF4 et4 eW4 eL4 ha4 hT4 ⊢
    refine ⟨.ref W, rfl, .ref t, rfl, W, t, nzW acc, tab, rfl, SqL.of eW4, by omega, by rw [Py.nzW_sum]; exact hz, et4, htab, hT4, fun H5 G ga gs e5 hT5 nG eG hga ngs hgr gl9 => ?_⟩
    have gal := paired_len hga
    have e15 : LamX.ExtN H H5 := (LamX.ExtN.of s14).trans e5
    have eF5 := ExtN.lst e5 eF4
    have et5 := ExtN.lst e5 et4
    have eL5 := ExtN.lst e5 eL4
    have ha5 := ExtN.seq e5 ha4
    have FG : F ≠ G := nG.lst eF4
    have Fga : ∀ b ∈ ga, b ≠ F := fun b hb z => (ngs b hb).lst eF4 z.symm
    have nFN : NewN H F := .of nF0
    refine ⟨G, rfl, ⟨_, SqL.of eG⟩, ?_⟩
    refine for_it (walk_list (xs := ga.map V.ref)) (fun i σ Hx => ∃ (y5 : Option V) (ts : List Addr) (tp : List Pay), σ = [some (.ref a), some (.ref L), some (.ref W), some (.ref t), some (.ref F), y5, none, none] ∧ Keep F H5 Hx ∧ Hx F = some (.lst (ts.map V.ref)) ∧ Paired (PayA Hx) ts tp ∧ FwM acc gs i tp)
      ⟨_, [], [], rfl, .refl _ _, eF5, .nil, .start acc gs⟩ (fun i σ Hx _ hp => ?_) (fun i v σ Hx₀ Hx hi hp yy => ?_) (fun σ H6 hp => ?_)
    · obtain ⟨_, _, _, _, kx, _⟩ := hp
      exact SqL.of (kx _ _ FG.symm eG)
    · obtain ⟨rfl, ey⟩ := yy
      obtain ⟨y5, ts, tp, rfl, kx, eF, hts, hm⟩ := hp
      rw [List.length_map] at hi
      obtain ⟨b, eb, rfl⟩ := at_ref ey
      obtain ⟨g, eg, hg⟩ := paired_get hga eb
      have gin := List.mem_of_getElem? eg
      have hgx : GA Hx b g := kx _ _ (Fga b (List.mem_of_getElem? eb)) hg
      have eLx := kx _ _ LF eL5
      have tl := paired_len hts
      have hlt : ∀ x ∈ g, x < (nzP acc).length := fun x hx => by
        rw [← nwl]
        exact (hgr.mem x).mp (List.mem_flatten.mpr ⟨g, gin, hx⟩)
      have ndg : g.Nodup := by
        have := List.sublist_flatten_of_mem gin
        exact this.nodup hgr.nd
      have gl : g.length ≤ 8 := by
        have := Py.nodup_len_lt (d := List.range (nzP acc).length) ndg fun x hx => List.mem_range.mpr (hlt x hx)
        rw [List.length_range] at this
        omega
      have hmlen := hm.len
      have hfl : (gs.take i).flatten.length ≤ 8 := by
        have h1 : ((gs.take i).flatten).Sublist gs.flatten := by
          have e : gs.flatten = (gs.take i).flatten ++ (gs.drop i).flatten := by rw [← List.flatten_append, List.take_append_drop]
          rw [e]
          exact List.sublist_append_left _ _
        have := Py.nodup_len_lt (d := List.range (nzP acc).length) (h1.nodup hgr.nd) fun x hx => List.mem_range.mpr (by rw [← nwl]; exact (hgr.mem x).mp (h1.subset hx))
        rw [List.length_range] at this
        omega
      refine ⟨.ref F, rfl, .ref b, rfl, b, rfl, ⟨_, SqL.of hgx⟩, fun C nC => ?_⟩
      refine lc_it (walk_list (xs := g.map nN)) (fun j Hy => Same Hx Hy ∧ Hy C = some (.lst ((((g.take j).map fun x => ((nzP acc).getD x 0 : Nat)).map fun n => ((n : Nat) : Int)).map V.int))) ⟨same_upd nC, upd_same⟩ (fun j Hy _ pv => SqL.of (pv.1 _ _ hgx)) (fun j v Hy₀ Hy hj pv yy => ?_) (fun H7 pv => ?_)
      · obtain ⟨rfl, ey⟩ := yy
        obtain ⟨sy, eC⟩ := pv
        rw [List.length_map] at hj
        obtain ⟨x, ex⟩ : ∃ x, g[j]? = some x := ⟨_, List.getElem?_eq_getElem hj⟩
        have ev : v = .int (x : Int) := by
          rw [List.getElem?_map, ex] at ey
          exact (Option.some.inj ey).symm
        subst ev
        have hx := hlt x (List.mem_of_getElem? ex)
        refine ⟨rfl, yes_ ⟨.ref L, rfl, .int (x : Int), rfl, L, _, _, .int (((nzP acc).getD x 0 : Nat) : Int), rfl, rfl, SqL.of (sy _ _ eLx), atI_nat (by rw [List.getElem?_map, List.getD_eq_getElem?_getD, List.getElem?_eq_getElem hx]; rfl), _, eC, by rw [List.length_map, List.length_map, List.length_map, List.length_take]; exact small5000 (by omega), same_set sy nC, ?_⟩⟩
        rw [upd_same, List.take_add_one, ex, List.map_append, List.map_append, List.map_append]
        rfl
      obtain ⟨s7, eC⟩ := pv
      rw [List.length_map, List.take_length] at eC
      refine ⟨C, _, rfl, SqL.of eC, by rw [List.length_map, List.length_map]; omega, fun ns S pn hsrt nS => ?_⟩
      have sS := same_upd (o := .lst (ns.map V.int)) nS
      obtain ⟨pl, hpl, epl⟩ : ∃ pl : List Nat, pl.Perm (g.map fun x => ((nzP acc).getD x 0 : Nat)) ∧ ns = pl.map fun n => ((n : Nat) : Int) := by
        refine ⟨ns.map Int.toNat, ?_, ?_⟩
        · have := pn.map Int.toNat
          rw [List.map_map] at this
          rwa [show ((g.map fun x => ((nzP acc).getD x 0 : Nat)).map (Int.toNat ∘ fun n => ((n : Nat) : Int))) = g.map fun x => ((nzP acc).getD x 0 : Nat) from List.map_id'' (fun n => Int.toNat_natCast n) _] at this
        · rw [List.map_map]
          have h0 : ∀ z ∈ ns, 0 ≤ z := fun z hz => by
            obtain ⟨n, _, e⟩ := List.mem_map.mp (pn.mem_iff.mp hz)
            omega
          clear pn sS nS hsrt
          induction ns with
          | nil => rfl
          | cons z t ih =>
            rw [List.map_cons, ← ih fun y hy => h0 y (List.mem_cons_of_mem _ hy)]
            have := h0 z List.mem_cons_self
            show z :: t = ((z.toNat : Nat) : Int) :: t
            rw [Int.toNat_of_nonneg this]
      subst epl
      have s8 := s7.trans sS
      have eS : (upd H7 S (.lst ((pl.map fun n => ((n : Nat) : Int)).map V.int))) S = some (.lst (pl.map nN)) := by rw [upd_same, List.map_map]; rfl
      have hmz := hgr.mz g gin
      obtain ⟨mz, pnd⟩ := Py.minZ_places (acc := acc) (Py.nzP_nd acc) hlt ndg (show MinZ ((nzP acc).map fun p => acc.getD p 0) g from hmz) hpl
      have pin : ∀ p ∈ pl, p < acc.length ∧ acc.getD p 0 ≠ 0 := fun p hp => by
        obtain ⟨x, hx, e⟩ := List.mem_map.mp (hpl.mem_iff.mp hp)
        have := hlt x hx
        rw [← e, List.getD_eq_getElem?_getD, List.getElem?_eq_getElem this]
        exact Py.nzP_mem.mp (List.getElem_mem this)
      have pll := hpl.length_eq
      rw [List.length_map] at pll
      have aF : SqL K (upd H7 S (.lst ((pl.map fun n => ((n : Nat) : Int)).map V.int))) a (acc.map V.int) := sq_same s8 (by
        rcases ha with (h | ⟨o, h⟩) | h
        · exact .inl (.inl (kx _ _ (ne_of_none h nF0) (e15 _ _ h fun _ z => nomatch z)))
        · exact .inl (.inr ⟨o, kx _ _ (ne_of_none h nF0) (e15 _ _ h fun _ z => nomatch z)⟩)
        · exact .inr h)
      have hpay := Py.payOk pnd mz fun p hp => (pin p hp).2
      have hplen := hpay.len
      refine ⟨.ref a, rfl, S, a, pl, acc, rfl, SqL.of eS, aF, by omega, fun p hp => (pin p hp).1, fun H9 M ms s9 nM eM hms => ?_⟩
      have s19 := s8.trans s9
      have eF9 := s19 _ _ eF
      have ml := paired_len hms
      have tk := tk_lst (o := .lst (ts.map V.ref ++ ms.map V.ref)) eF9
      refine ⟨F, M, _, _, rfl, rfl, eF9, eM, by rw [List.length_map, List.length_map]; exact Nat.le_of_lt (small5000 (by omega)), ?_⟩
      refine ⟨_, ts ++ ms, _, rfl, (kx.trans (.of s19)).trans .upd, by rw [upd_same, List.map_append], ?_, hm.step hgr eg hpl hpay⟩
      exact paired_app (paired_imp hts fun a _ r h => tk _ _ (s19 _ _ h)) (paired_imp hms fun a _ r h => tk _ _ h)
    · obtain ⟨y5, ts, tp, rfl, kx, eF, hts, hm⟩ := hp
      rw [List.length_map, gal] at hm
      have hfin := hm.fin hgr
      have tpl : tp.length ≤ 8 := by
        have h1 := hfin.len
        have := hgr.cnt
        omega
      refine ⟨.ref F, rfl, .ref t, rfl, two_sz, fun u nu => ?_⟩
      have su := same_upd (o := .tup [.ref F, .ref t]) nu
      have k6 := kx.trans (.of su)
      exact q _ u F t ts tp tab (ext_keep e15 k6 nF0) (tab_keepL hT5 k6 eF5) nFN (.of nt0) tF.symm upd_same (su _ _ eF) (paired_imp hts fun a _ r h => su _ _ h) (k6 _ _ tF et5) htab hfin tpl
end
end Th
namespace Th
open PySem PySem.Spec PyProof.Rows L2
/-! helpers -/
open Py (bit sumsM zI TabTo TabOk wS pS MinZ SgM GrOk Pay payL negR posR nzP nzW FewOk FwM effL)
theorem set_getD {zs : List Int} {i j : Nat} {v : Int} (h : i < zs.length) : (zs.set i v).getD j 0 = if i = j then v else zs.getD j 0 := by
  rw [List.getD_eq_getElem?_getD, List.getElem?_set, List.getD_eq_getElem?_getD]
  by_cases c : i = j
  · subst c
    rw [if_pos rfl, if_pos h, if_pos rfl]
    rfl
  · rw [if_neg c, if_neg c]
theorem map_set {zs : List Int} {i : Nat} {v : Int} : (zs.map V.int).set i (.int v) = (zs.set i v).map V.int := by rw [List.map_set]
theorem ix_nat {n i : Nat} (h : i < n) : ixN n (i : Int) = some i := by
  unfold ixN
  rw [if_pos (by omega)]
  simp [h]
/-! what a thing of any kind is: a whole number, a tuple of so many, a pair of lists -/
def intD : PyData → Bool
  | .int _ => true
  | .bool _ => true
  | _ => false
def boolD : PyData → Bool
  | .bool _ => true
  | _ => false
def wholeD : PyData → Bool
  | .int _ => true
  | _ => false
def betwD (a b : Int) : PyData → Bool
  | .int z => decide (a ≤ z ∧ z ≤ b)
  | _ => false
def isTD : PyData → Bool
  | .tuple _ => true
  | _ => false
def isLD : PyData → Bool
  | .list _ => true
  | _ => false
def tupD (a b : Int) : PyData → Bool
  | .tuple ds => decide (a ≤ ds.length ∧ ds.length ≤ b)
  | _ => false
def pairD : PyData → Bool
  | .tuple [x, y] => isLD x && isLD y
  | _ => false
theorem kitI {K : PySem.W.Frag} : ∀ d : PyData, PySem.W.kitOne K (.type (tyN d)) (.type "int") = some (intD d)
  | .none => kit_ty (a := "NoneType") (b := "int") (r := false) (by decide +kernel)
  | .bool _ => kit_ty (a := "bool") (b := "int") (r := true) (by decide +kernel)
  | .int _ => kit_ty (a := "int") (b := "int") (r := true) (by decide +kernel)
  | .str _ => kit_ty (a := "str") (b := "int") (r := false) (by decide +kernel)
  | .list _ => kit_ty (a := "list") (b := "int") (r := false) (by decide +kernel)
  | .tuple _ => kit_ty (a := "tuple") (b := "int") (r := false) (by decide +kernel)
  | .dict _ => kit_ty (a := "dict") (b := "int") (r := false) (by decide +kernel)
theorem kitBo {K : PySem.W.Frag} : ∀ d : PyData, PySem.W.kitOne K (.type (tyN d)) (.type "bool") = some (boolD d)
  | .none => kit_ty (a := "NoneType") (b := "bool") (r := false) (by decide +kernel)
  | .bool _ => kit_ty (a := "bool") (b := "bool") (r := true) (by decide +kernel)
  | .int _ => kit_ty (a := "int") (b := "bool") (r := false) (by decide +kernel)
  | .str _ => kit_ty (a := "str") (b := "bool") (r := false) (by decide +kernel)
  | .list _ => kit_ty (a := "list") (b := "bool") (r := false) (by decide +kernel)
  | .tuple _ => kit_ty (a := "tuple") (b := "bool") (r := false) (by decide +kernel)
  | .dict _ => kit_ty (a := "dict") (b := "bool") (r := false) (by decide +kernel)
theorem kitTu {K : PySem.W.Frag} : ∀ d : PyData, PySem.W.kitOne K (.type (tyN d)) (.type "tuple") = some (isTD d)
  | .none => kit_ty (a := "NoneType") (b := "tuple") (r := false) (by decide +kernel)
  | .bool _ => kit_ty (a := "bool") (b := "tuple") (r := false) (by decide +kernel)
  | .int _ => kit_ty (a := "int") (b := "tuple") (r := false) (by decide +kernel)
  | .str _ => kit_ty (a := "str") (b := "tuple") (r := false) (by decide +kernel)
  | .list _ => kit_ty (a := "list") (b := "tuple") (r := false) (by decide +kernel)
  | .tuple _ => kit_ty (a := "tuple") (b := "tuple") (r := true) (by decide +kernel)
  | .dict _ => kit_ty (a := "dict") (b := "tuple") (r := false) (by decide +kernel)
theorem kitLi {K : PySem.W.Frag} : ∀ d : PyData, PySem.W.kitOne K (.type (tyN d)) (.type "list") = some (isLD d)
  | .none => kit_ty (a := "NoneType") (b := "list") (r := false) (by decide +kernel)
  | .bool _ => kit_ty (a := "bool") (b := "list") (r := false) (by decide +kernel)
  | .int _ => kit_ty (a := "int") (b := "list") (r := false) (by decide +kernel)
  | .str _ => kit_ty (a := "str") (b := "list") (r := false) (by decide +kernel)
  | .list _ => kit_ty (a := "list") (b := "list") (r := true) (by decide +kernel)
  | .tuple _ => kit_ty (a := "tuple") (b := "list") (r := false) (by decide +kernel)
  | .dict _ => kit_ty (a := "dict") (b := "list") (r := false) (by decide +kernel)
theorem dtAll_len {S : Addr → Prop} {H : Hp} : ∀ {xs : List V} {ds : List PyData}, DtAll S H xs ds → xs.length = ds.length
  | _, _, .nil => rfl
  | _, _, .cons _ r => congrArg (· + 1) (dtAll_len r)
section
variable {P : Program} {w : World} {K : PySem.W.Frag} {mg : Str → Option Value} {base : Heap} {k : Nat}
def sp_is_whole : Sp := fun vs H Q _ => ∃ (v : V) (d : PyData), vs = [v] ∧ Dt SA H v d ∧ Q (.bl (wholeD d)) H
theorem ok_is_whole (T : Defs K mg) : FnOk P w K mg base CX0 (k + 1) T.a_is_whole T.d_is_whole ["thing"] sp_is_whole := by
  refine T.F_is_whole.ok sc_is_whole (fun vs H Q E h => ?_) (fun cdv A outer s H vs Q E hr h => ?_)
  · obtain ⟨v, d, rfl, _⟩ := h
    rfl
  · obtain ⟨v, d, rfl, hd, q⟩ := h
    refine ⟨_, PSs.nox
(pss_one (ps_ret (pe_and (pe_callB call_isi (by rfl) T.z_isinstance (by decide +kernel) (pa_cons (pv 0) (pa_cons (pe_bltn (v := .ty "int") (by rfl) T.z_int (by decide +kernel) rfl) pa_nil))) (pe_one (pe_not (pe_callB call_isi (by rfl) T.z_isinstance (by decide +kernel) (pa_cons (pv 0) (pa_cons (pe_bltn (v := .ty "bool") (by rfl) T.z_bool (by decide +kernel) rfl) pa_nil))))))))
      , ?_⟩
    refine ⟨v, rfl, v, .ty "int", _, _, _, rfl, .ty "int", hd.ty, kitI d, _, rfl, ?_⟩
    by_cases c : intD d = true
    · rw [c]
      refine iteT ⟨v, rfl, v, .ty "bool", _, _, _, rfl, .ty "bool", hd.ty, kitBo d, _, rfl, ?_⟩
      have e : (!boolD d) = wholeD d := by cases d <;> first | rfl | cases c
      rw [e]
      exact q
    · rw [Bool.eq_false_iff.mpr c]
      refine iteF ?_
      have e : wholeD d = false := by cases d <;> first | rfl | exact absurd rfl c
      rw [e] at q
      exact q
def sp_is_whole_between : Sp := fun vs H Q _ => ∃ (v : V) (d : PyData) (a b : Int), vs = [v, .int a, .int b] ∧ Dt SA H v d ∧ Q (.bl (betwD a b d)) H
theorem ok_is_whole_between (T : Defs K mg) : FnOk P w K mg base CX0 (k + 2) T.a_is_whole_between T.d_is_whole_between ["thing", "least", "most"] sp_is_whole_between := by
  have G_is_whole : FnOk P w K mg base CX0 (k + 1) _ _ _ _ := ok_is_whole (k := k) T
  refine T.F_is_whole_between.ok sc_is_whole_between (fun vs H Q E h => ?_) (fun cdv A outer s H vs Q E hr h => ?_)
  · obtain ⟨v, d, a, b, rfl, _⟩ := h
    rfl
  · obtain ⟨v, d, a, b, rfl, hd, q⟩ := h
    refine ⟨_, PSs.nox
(pss_one (ps_ret (pe_and (pe_call G_is_whole hr (by rfl) T.g_is_whole T.F_is_whole.kp T.b_is_whole .nil pass0 (pa_cons (pv 0) pa_nil)) (pe_one (pe_chain op_le op_le (pv 1) (pv 0) (pv 2))))))
      , ?_⟩
    refine ⟨v, rfl, v, d, rfl, hd, _, rfl, ?_⟩
    cases hd with
    | int z =>
      refine iteT ⟨.int a, rfl, .int z, rfl, _, _, rfl, rfl, _, rfl, ?_⟩
      have q : Q (.bl (decide (a ≤ z ∧ z ≤ b))) H := q
      by_cases h1 : a ≤ z
      · rw [decide_eq_true h1]
        refine iteT ⟨.int b, rfl, _, _, rfl, rfl, ?_⟩
        show Q (.bl (decide (z ≤ b))) H
        rw [show decide (z ≤ b) = decide (a ≤ z ∧ z ≤ b) by simp [h1]]
        exact q
      · rw [decide_eq_false h1]
        refine iteF ?_
        show Q (.bl false) H
        rw [show false = decide (a ≤ z ∧ z ≤ b) by simp [h1]]
        exact q
    | _ => exact iteF q
def sp_is_tuple : Sp := fun vs H Q _ => ∃ (v : V) (d : PyData) (a b : Int), vs = [v, .int a, .int b] ∧ Dt SA H v d ∧ Q (.bl (tupD a b d)) H
theorem ok_is_tuple (T : Defs K mg) : FnOk P w K mg base CX0 (k + 1) T.a_is_tuple T.d_is_tuple ["thing", "fewest", "most"] sp_is_tuple := by
  refine T.F_is_tuple.ok sc_is_tuple (fun vs H Q E h => ?_) (fun cdv A outer s H vs Q E hr h => ?_)
  · obtain ⟨v, d, a, b, rfl, _⟩ := h
    rfl
  · obtain ⟨v, d, a, b, rfl, hd, q⟩ := h
    refine ⟨_, PSs.nox
(pss_one (ps_ret (pe_and (pe_callB (r := rIsi K) call_isi (by rfl) T.z_isinstance (by decide +kernel) (pa_cons (pv 0) (pa_cons (pe_bltn (v := .ty "tuple") (by rfl) T.z_tuple (by decide +kernel) rfl) pa_nil))) (pe_one (pe_chain op_le op_le (pv 1) (pe_callB (r := rLenS K) call_lenS (by rfl) T.z_len (by decide +kernel) (pa_cons (pv 0) pa_nil)) (pv 2))))))
      , ?_⟩
    refine ⟨v, rfl, v, .ty "tuple", _, _, _, rfl, .ty "tuple", hd.ty, kitTu d, _, rfl, ?_⟩
    cases hd with
    | @tup t xs ds _ et _ hx =>
      have l := dtAll_len hx
      refine iteT ⟨.int a, rfl, .ref t, rfl, t, xs, rfl, .inr (SqT.of et), _, _, rfl, rfl, _, rfl, ?_⟩
      rw [l]
      have q : Q (.bl (decide (a ≤ ds.length ∧ ds.length ≤ b))) H := q
      by_cases h1 : a ≤ (ds.length : Int)
      · rw [decide_eq_true h1]
        refine iteT ⟨.int b, rfl, _, _, rfl, rfl, ?_⟩
        show Q (.bl (decide ((ds.length : Int) ≤ b))) H
        rw [show decide ((ds.length : Int) ≤ b) = decide (a ≤ (ds.length : Int) ∧ (ds.length : Int) ≤ b) by simp [h1]]
        exact q
      · rw [decide_eq_false h1]
        refine iteF ?_
        show Q (.bl false) H
        rw [show false = decide (a ≤ (ds.length : Int) ∧ (ds.length : Int) ≤ b) by simp [h1]]
        exact q
    | _ => exact iteF q
def sp_is_pair_of_lists : Sp := fun vs H Q _ => ∃ (v : V) (d : PyData), vs = [v] ∧ Dt SA H v d ∧ ∀ H', Same H H' → Q (.bl (pairD d)) H'
theorem ok_is_pair_of_lists (T : Defs K mg) : FnOk P w K mg base CX0 (k + 2) T.a_is_pair_of_lists T.d_is_pair_of_lists ["thing"] sp_is_pair_of_lists := by
  have G_is_tuple : FnOk P w K mg base CX0 (k + 1) _ _ _ _ := ok_is_tuple (k := k) T
  refine T.F_is_pair_of_lists.ok sc_is_pair_of_lists (fun vs H Q E h => ?_) (fun cdv A outer s H vs Q E hr h => ?_)
  · obtain ⟨v, d, rfl, _⟩ := h
    rfl
  · obtain ⟨v, d, rfl, hd, q⟩ := h
    refine ⟨_, PSs.nox
(pss_one (ps_ret (pe_and (pe_call G_is_tuple hr (by rfl) T.g_is_tuple T.F_is_tuple.kp T.b_is_tuple .nil pass0 (pa_cons (pv 0) (pa_cons (pe_int) (pa_cons (pe_int) pa_nil)))) (pe_one (pe_callB (r := rAll K) (cr_all rfl) (by rfl) T.z_all (by decide +kernel) (pa_cons (pe_lc (own := [("half", 1)]) (g := gName 1) rfl sc_is_pair_of_lists.nd (pi_tup (pv 0)) (blkOk_by (N := N_is_pair_of_lists) (sc := defScope s_is_pair_of_lists) (by decide +kernel)) (fun _ _ _ _ _ => (pg_name (i := 1) sc_is_pair_of_lists.nd rfl (.inl rfl))) (fun _ _ _ _ _ => pts_nil) (fun _ _ _ _ _ => (pe_callB (r := rIsi K) call_isi (by rfl) T.z_isinstance (by decide +kernel) (pa_cons (pv 1) (pa_cons (pe_bltn (v := .ty "list") (by rfl) T.z_list (by decide +kernel) rfl) pa_nil))))) pa_nil))))))
      , ?_⟩
    refine ⟨v, rfl, v, d, 2, 2, rfl, hd, _, rfl, ?_⟩
    have no : tupD 2 2 d = false → Q (.bl false) H := fun c => by
      have e : pairD d = false := by
        unfold pairD
        split
        · exact absurd (show (true : Bool) = false from c) (by decide)
        · rfl
      have z := q H (fun _ _ e => e)
      rw [e] at z
      exact z
    by_cases c : tupD 2 2 d = true
    case neg =>
      rw [Bool.eq_false_iff.mpr c]
      exact iteF (no (Bool.eq_false_iff.mpr c))
    rw [c]
    cases hd with
    | @tup t xs ds _ et _ hx =>
      match ds, hx, c, q with
      | [], _, c, _ => exact absurd (show (false : Bool) = true from c) (by decide)
      | [_], _, c, _ => exact absurd (show (false : Bool) = true from c) (by decide)
      | _ :: _ :: _ :: r, _, c, _ =>
        have c := of_decide_eq_true (show decide ((2 : Int) ≤ ((r.length + 1 + 1 + 1 : Nat) : Int) ∧ ((r.length + 1 + 1 + 1 : Nat) : Int) ≤ 2) = true from c)
        omega
      | [x, y], hx, _, q =>
      cases hx with
      | @cons v1 vs1 _ _ h1 hx =>
      cases hx with
      | @cons v2 vs2 _ _ h2 hx =>
      cases hx
      refine iteT ⟨.ref t, rfl, t, rfl, ⟨_, SqT.of et⟩, fun D nD => ?_⟩
      refine lc_it (walk_tup (xs := [v1, v2])) (fun j Hy => Same H Hy ∧ Hy D = some (.lst (([isLD x, isLD y].take j).map V.bl))) ⟨same_upd nD, upd_same⟩ (fun j Hy _ pv => SqT.of (pv.1 _ _ et)) (fun j v Hy₀ Hy hj pv yy => ?_) (fun H7 pv => ?_)
      · obtain ⟨rfl, ey⟩ := yy
        obtain ⟨sy, eD⟩ := pv
        have hj : j < 2 := hj
        have hv : ∃ d, Dt SA Hy v d ∧ ([isLD x, isLD y])[j]? = some (isLD d) := by
          match j, ey with
          | 0, ey => exact ⟨x, by rw [← Option.some.inj ey]; exact h1.same sy, rfl⟩
          | 1, ey => exact ⟨y, by rw [← Option.some.inj ey]; exact h2.same sy, rfl⟩
        obtain ⟨d, hd, ej⟩ := hv
        refine ⟨rfl, yes_ ⟨v, rfl, v, .ty "list", _, _, _, rfl, .ty "list", hd.ty, kitLi d, _, eD, by rw [List.length_map, List.length_take]; exact small5000 (by omega), same_set sy nD, ?_⟩⟩
        rw [upd_same, List.take_add_one, ej, List.map_append]
        rfl
      obtain ⟨s7, eD⟩ := pv
      refine ⟨D, _, rfl, SqL.of eD, ?_⟩
      have z := q _ s7
      have e : (([isLD x, isLD y].take [v1, v2].length).all id) = pairD (.tuple [x, y]) := by
        show (isLD x && (isLD y && true)) = (isLD x && isLD y)
        rw [Bool.and_true]
      rw [e]
      exact z
    | _ => exact absurd (show (false : Bool) = true from c) (by decide)
end
/-! payments, tables of any things -/
open Py (bit sumsM zI TabTo TabOk wS pS MinZ SgM GrOk Pay payL negR posR nzP nzW FewOk FwM effL)
/-- a table that has at least what it must -/
structure TabGe (ws tab : List Int) : Prop where
  len : tab.length = 2 ^ ws.length
  zero : tab.getD 0 0 = 0
  ge : ∀ S, 0 < S → S < 2 ^ ws.length → ∀ a, a < ws.length → bit S a = true → tab.getD (S - 2 ^ a) 0 + zI (sumsM ws) S ≤ tab.getD S 0
theorem tabGe_of {ws tab : List Int} (h : TabOk ws tab) : TabGe ws tab := ⟨h.len, h.zero, h.ge⟩
theorem dtAll_get {S : Addr → Prop} {H : Hp} : ∀ {xs : List V} {ds : List PyData} {j : Nat} {v : V}, DtAll S H xs ds → xs[j]? = some v → ∃ d, ds[j]? = some d ∧ Dt S H v d
  | _, _, _, _, .nil, h => by cases h
  | _, _, 0, _, .cons r _, h => by
    cases h
    exact ⟨_, rfl, r⟩
  | _, _, j + 1, _, .cons _ r, h => dtAll_get (j := j) r h
theorem whole_tab : ∀ {ds : List PyData}, (ds.map wholeD).all id = true → ∃ tab : List Int, ds = tab.map PyData.int
  | [], _ => ⟨[], rfl⟩
  | d :: ds, h => by
    rw [List.map_cons, List.all_cons, Bool.and_eq_true] at h
    obtain ⟨tab, e⟩ := whole_tab h.2
    cases d with
    | int z => exact ⟨z :: tab, by rw [e]; rfl⟩
    | _ => exact absurd (show (false : Bool) = true from h.1) (by decide)
theorem whole_of (tab : List Int) : ((tab.map PyData.int).map wholeD).all id = true := by
  rw [List.map_map, List.all_eq_true]
  intro b hb
  obtain ⟨z, _, e⟩ := List.mem_map.mp hb
  rw [← e]
  rfl
theorem dtAll_int {S : Addr → Prop} {H : Hp} : ∀ {xs : List V} {tab : List Int}, DtAll S H xs (tab.map PyData.int) → xs = tab.map V.int
  | _, [], .nil => rfl
  | _, z :: tab, .cons r s => by
    cases r
    rw [dtAll_int s]
    rfl
theorem ints_inj {a b : List Int} (h : a.map PyData.int = b.map PyData.int) : a = b := by
  have e := congrArg (List.map fun d => match d with | PyData.int z => z | _ => 0) h
  rw [List.map_map, List.map_map] at e
  have i : ∀ l : List Int, l.map ((fun d => match d with | PyData.int z => z | _ => 0) ∘ PyData.int) = l := fun l => by
    induction l with
    | nil => rfl
    | cons x l ih => rw [List.map_cons, ih]; rfl
  rw [i, i] at e
  exact e
/-- a payment's parts -/
def payOf : PyData → Option (Int × Int × Int)
  | .tuple [.int p, .int q, .int m] => some (p, q, m)
  | _ => none
def isPay (many : Nat) (d : PyData) : Prop := ∃ x : Pay, payOf d = some ((x.1 : Int), (x.2.1 : Int), x.2.2) ∧ x.1 < many ∧ x.2.1 < many ∧ x.1 ≠ x.2.1 ∧ 1 ≤ x.2.2
theorem isPay_not {many : Nat} {d : PyData} (h : payOf d = none) : ¬ isPay many d := fun ⟨x, e, _⟩ => by rw [h] at e; cases e
section
variable {P : Program} {w : World} {K : PySem.W.Frag} {mg : Str → Option Value} {base : Heap} {k : Nat}
def sp_is_payment : Sp := fun vs H Q _ => ∃ (v : V) (d : PyData) (many : Nat), vs = [.int many, v] ∧ Dt SA H v d ∧ ∀ b, (b = true ↔ isPay many d) → Q (.bl b) H
theorem ok_is_payment (T : Defs K mg) : FnOk P w K mg base CX0 (k + 3) T.a_is_payment T.d_is_payment ["many", "thing"] sp_is_payment := by
  have G_is_whole : FnOk P w K mg base CX0 (k + 2) _ _ _ _ := ok_is_whole (k := k + 1) T
  have G_is_whole_between : FnOk P w K mg base CX0 (k + 2) _ _ _ _ := ok_is_whole_between (k := k) T
  have G_is_tuple : FnOk P w K mg base CX0 (k + 2) _ _ _ _ := ok_is_tuple (k := k + 1) T
  refine T.F_is_payment.ok sc_is_payment (fun vs H Q E h => ?_) (fun cdv A outer s H vs Q E hr h => ?_)
  · obtain ⟨v, d, many, rfl, _⟩ := h
    rfl
  · obtain ⟨v, d, many, rfl, hd, q⟩ := h
    refine ⟨_, PSs.nox
(pss_cons (ps_if (pt_not (pt_val (pe_call G_is_tuple hr (by rfl) T.g_is_tuple T.F_is_tuple.kp T.b_is_tuple .nil pass0 (pa_cons (pv 1) (pa_cons (pe_int) (pa_cons (pe_int) pa_nil))))))
      (pss_one (ps_ret (pe_bl)))
      pss_nil)
    (pss_cons (ps_asg (pv 1) (pg_tup rfl (pgs_cons (pg_name (i := 2) sc_is_payment.nd rfl (.inl rfl)) (pgs_cons (pg_name (i := 3) sc_is_payment.nd rfl (.inl rfl)) (pgs_cons (pg_name (i := 4) sc_is_payment.nd rfl (.inl rfl)) pgs_nil)))))
    (pss_cons (ps_if (PW.pt (pw_or (pt_not (pt_val (pe_call G_is_whole_between hr (by rfl) T.g_is_whole_between T.F_is_whole_between.kp T.b_is_whole_between .nil pass0 (pa_cons (pv 2) (pa_cons (pe_int) (pa_cons (pe_op op_sub (pv 0) (pe_int)) pa_nil)))))) (pw_or1 (pt_not (pt_val (pe_call G_is_whole_between hr (by rfl) T.g_is_whole_between T.F_is_whole_between.kp T.b_is_whole_between .nil pass0 (pa_cons (pv 3) (pa_cons (pe_int) (pa_cons (pe_op op_sub (pv 0) (pe_int)) pa_nil)))))))))
      (pss_one (ps_ret (pe_bl)))
      pss_nil)
    (pss_one (ps_ret (pe_and (pe_cmpR op_ne (pv 2) (pv 3) (nomark _)) (pe_and (pe_call G_is_whole hr (by rfl) T.g_is_whole T.F_is_whole.kp T.b_is_whole .nil pass0 (pa_cons (pv 4) pa_nil)) (pe_one (pe_cmpR op_gt (pv 4) (pe_int) (nomark _))))))))))
      , ?_⟩
    have no : (¬ isPay many d) → Q (.bl false) H := fun c => q false ⟨fun z => (nomatch z), fun z => absurd z c⟩
    refine ⟨v, rfl, v, d, 3, 3, rfl, hd, _, rfl, ?_⟩
    by_cases c : tupD 3 3 d = true
    case neg =>
      rw [Bool.eq_false_iff.mpr c]
      refine iteT (no fun ⟨x, e, _⟩ => c ?_)
      unfold payOf at e
      split at e
      · rfl
      · cases e
    rw [c]
    refine iteF ?_
    cases hd with
    | @tup t xs ds _ et _ hx =>
      match ds, hx, c, no, q with
      | [], _, c, _, _ => exact absurd (show (false : Bool) = true from c) (by decide)
      | [_], _, c, _, _ => exact absurd (show (false : Bool) = true from c) (by decide)
      | [_, _], _, c, _, _ => exact absurd (show (false : Bool) = true from c) (by decide)
      | _ :: _ :: _ :: _ :: r, _, c, _, _ =>
        have c := of_decide_eq_true (show decide ((3 : Int) ≤ ((r.length + 1 + 1 + 1 + 1 : Nat) : Int) ∧ ((r.length + 1 + 1 + 1 + 1 : Nat) : Int) ≤ 3) = true from c)
        omega
      | [x, y, z], hx, _, no, q =>
      cases hx with
      | @cons v1 vs1 _ _ h1 hx =>
      cases hx with
      | @cons v2 vs2 _ _ h2 hx =>
      cases hx with
      | @cons v3 vs3 _ _ h3 hx =>
      cases hx
      refine ⟨.ref t, rfl, t, _, rfl, SqT.of et, rfl, _, _, rfl, _, _, rfl, _, [], rfl, rfl, ?_⟩
      refine ⟨v1, rfl, .int many, rfl, _, 1, rfl, rfl, v1, x, 0, many - 1, rfl, h1, _, rfl, ?_⟩
      by_cases c1 : betwD 0 (many - 1) x = true
      case neg =>
        rw [Bool.eq_false_iff.mpr c1]
        refine iteT (no fun ⟨p, e, l1, l2, _⟩ => c1 ?_)
        unfold payOf at e
        split at e
        · rename_i e0
          cases e0
          cases e
          exact decide_eq_true (by omega)
        · cases e
      rw [c1]
      refine iteF ⟨v2, rfl, .int many, rfl, _, 1, rfl, rfl, v2, y, 0, many - 1, rfl, h2, _, rfl, ?_⟩
      by_cases c2 : betwD 0 (many - 1) y = true
      case neg =>
        rw [Bool.eq_false_iff.mpr c2]
        refine iteT (no fun ⟨p, e, l1, l2, _⟩ => c2 ?_)
        unfold payOf at e
        split at e
        · rename_i e0
          cases e0
          cases e
          exact decide_eq_true (by omega)
        · cases e
      rw [c2]
      refine iteF ?_
      obtain ⟨i1, rfl, rfl⟩ : ∃ i, x = .int i ∧ v1 = .int i := by
        cases h1 with
        | int i => exact ⟨i, rfl, rfl⟩
        | _ => exact absurd (show (false : Bool) = true from c1) (by decide)
      obtain ⟨i2, rfl, rfl⟩ : ∃ i, y = .int i ∧ v2 = .int i := by
        cases h2 with
        | int i => exact ⟨i, rfl, rfl⟩
        | _ => exact absurd (show (false : Bool) = true from c2) (by decide)
      · have c1 := of_decide_eq_true (show decide ((0 : Int) ≤ i1 ∧ i1 ≤ many - 1) = true from c1)
        have c2 := of_decide_eq_true (show decide ((0 : Int) ≤ i2 ∧ i2 ≤ many - 1) = true from c2)
        refine ⟨.int i1, rfl, .int i2, rfl, rfl, _, rfl, ?_⟩
        by_cases e12 : i1 = i2
        · subst e12
          rw [decide_eq_true (rfl : V.int i1 = V.int i1)]
          refine iteF (no fun ⟨p, e, l1, l2, l3, _⟩ => l3 ?_)
          unfold payOf at e
          split at e
          · rename_i e0
            cases e0
            have e := Option.some.inj e
            simp only [Prod.mk.injEq] at e
            omega
          · cases e
        · rw [decide_eq_false (fun z => e12 (by injection z) : ¬ V.int i1 = V.int i2)]
          refine iteT ⟨v3, rfl, v3, z, rfl, h3, _, rfl, ?_⟩
          cases h3 with
          | int m =>
            refine iteT ⟨.int m, rfl, _, 0, rfl, rfl, ?_⟩
            show Q (.bl (decide (0 < m))) H
            refine q _ ⟨fun z => ⟨(i1.toNat, i2.toNat, m), ?_, ?_, ?_, ?_, ?_⟩, fun ⟨p, e, _, _, _, l⟩ => decide_eq_true ?_⟩
            · show some (i1, i2, m) = some (((i1.toNat : Nat) : Int), ((i2.toNat : Nat) : Int), m)
              rw [Int.toNat_of_nonneg c1.1, Int.toNat_of_nonneg c2.1]
            · show i1.toNat < many
              omega
            · show i2.toNat < many
              omega
            · show i1.toNat ≠ i2.toNat
              omega
            · exact of_decide_eq_true z
            · have e := Option.some.inj (show some (i1, i2, m) = _ from e)
              simp only [Prod.mk.injEq] at e
              omega
          | _ => exact iteF (no (isPay_not rfl))
    | _ => exact absurd (show (false : Bool) = true from c) (by decide)
theorem eqv_intsE {xs ys : List Int} (h : PyData.eqv (dI xs) (dI ys) = true) : xs = ys := by
  have e := PySem.W.Datum.eqv (α := List Int) xs ys
  exact of_decide_eq_true (e.symm.trans h)
def sp_settle : Sp := fun vs H Q _ => ∃ (a p : Addr) (acc : List Int) (ts : List Addr) (tp : List Pay), vs = [.ref a, .ref p] ∧ H a = some (.lst (acc.map V.int)) ∧ H p = some (.lst (ts.map V.ref)) ∧ Paired (PayA H) ts tp ∧ tp.length ≤ 100 ∧ acc.length ≤ 100 ∧
  (∀ t ∈ tp, t.1 < acc.length ∧ t.2.1 < acc.length ∧ t.1 ≠ t.2.1 ∧ 1 ≤ t.2.2) ∧ ∀ H' b, Same H H' → (b = true ↔ ∀ z, z < acc.length → acc.getD z 0 + effL tp z = 0) → Q (.bl b) H'
set_option maxHeartbeats 8000000 in
theorem ok_settle (T : Defs K mg) : FnOk P w K mg base CX0 (k + 1) T.a_settle T.d_settle ["accounts", "payments"] sp_settle := by
  refine T.F_settle.ok sc_settle (fun vs H Q E h => ?_) (fun cdv A outer s H vs Q E hr h => ?_)
  · obtain ⟨a, p, acc, ts, tp, rfl, _⟩ := h
    rfl
  · obtain ⟨a, p, acc, ts, tp, rfl, ha, hp, hts, tpl, al, hok, q⟩ := h
    refine ⟨_, PSs.nox
(pss_cons (ps_set (i := 2) sc_settle.nd rfl (.inl rfl) (pe_op op_rep (pe_lst (pa_cons (pe_int) pa_nil)) (pe_callB (r := rLenS K) call_lenS (by rfl) T.z_len (by decide +kernel) (pa_cons (pv 0) pa_nil))))
    (pss_cons (ps_for PassesOwn.never rfl (pi_list (pv 1)) (pg_tup rfl (pgs_cons (pg_name (i := 3) sc_settle.nd rfl (.inl rfl)) (pgs_cons (pg_name (i := 4) sc_settle.nd rfl (.inl rfl)) (pgs_cons (pg_name (i := 5) sc_settle.nd rfl (.inl rfl)) pgs_nil))))
      (pss_cons (ps_augS (pv 2) (pv 3) get_listN (pv 5) ip_sub set_list)
      (pss_one (ps_augS (pv 2) (pv 4) get_listN (pv 5) ip_add set_list))))
    (pss_one (ps_ret (pe_cmpR (r := rEqD K) (op_eqD hr.units) (pv 2) (pv 0) (nomark _))))))
      , ?_⟩
    have tl := paired_len hts
    have lV : (acc.map V.int).length = acc.length := List.length_map _
    refine ⟨by show 1 ≤ sizeLine; decide, fun z0 nz0 => ?_⟩
    have sz0 := same_upd (o := .lst [V.int 0]) nz0
    refine ⟨.ref a, rfl, a, _, rfl, .inl (SqL.of (sz0 _ _ ha)), ?_⟩
    refine ⟨z0, _, [V.int 0], rfl, rfl, upd_same, by omega, by omega, by rw [lV, Int.toNat_natCast]; show 1 * acc.length ≤ sizeLine; exact Nat.le_of_lt (small5000 (by omega)), fun F nF => ?_⟩
    have sF := sz0.trans (same_upd (o := .lst (List.replicate ((acc.map V.int).length : Int).toNat [V.int 0]).flatten) nF)
    have nFH := up0 sz0 nF
    have eF0 : (upd (upd H z0 (.lst [V.int 0])) F (.lst (List.replicate ((acc.map V.int).length : Int).toNat [V.int 0]).flatten)) F = some (.lst ((List.replicate acc.length (0 : Int)).map V.int)) := by
      rw [upd_same, rep_one, lV, Int.toNat_natCast, List.map_replicate]
    generalize (upd (upd H z0 (.lst [V.int 0])) F (.lst (List.replicate ((acc.map V.int).length : Int).toNat [V.int 0]).flatten)) = H1 at sF eF0 ⊢
    refine ⟨.ref p, rfl, p, rfl, ⟨_, SqL.of (sF _ _ hp)⟩, ?_⟩
    refine for_it (walk_list (xs := ts.map V.ref)) (fun i σ Hx => ∃ (y3 y4 y5 : Option V) (zs : List Int), σ = [some (.ref a), some (.ref p), some (.ref F), y3, y4, y5] ∧ Same H Hx ∧ Hx F = some (.lst (zs.map V.int)) ∧ zs.length = acc.length ∧ ∀ z, z < acc.length → zs.getD z 0 = -(effL (tp.take i) z))
      ⟨_, _, _, List.replicate acc.length 0, rfl, sF, eF0, List.length_replicate, fun z hz' => by
        rw [List.getD_eq_getElem?_getD, List.getElem?_replicate, if_pos hz']
        rfl⟩ (fun i σ Hx _ hp' => ?_) (fun i v σ Hx₀ Hx hi hp' yy => ?_) (fun σ Hx hp' => ?_)
    · obtain ⟨_, _, _, _, _, sx, _⟩ := hp'
      exact SqL.of (sx _ _ hp)
    · obtain ⟨rfl, ey⟩ := yy
      obtain ⟨y3, y4, y5, zs, rfl, sx, eF, zl, hzs⟩ := hp'
      obtain ⟨t, et, rfl⟩ := at_ref ey
      obtain ⟨x, ex, hx⟩ := paired_get hts et
      obtain ⟨h1, h2, h3, h4⟩ := hok x (List.mem_of_getElem? ex)
      have tx : Hx t = some (.tup [.int (x.1 : Int), .int (x.2.1 : Int), .int x.2.2]) := sx _ _ (show H t = _ from hx)
      obtain ⟨px, qx, m⟩ := x
      have h1' : px < acc.length := h1
      have h2' : qx < acc.length := h2
      have h3' : px ≠ qx := h3
      refine ⟨t, _, rfl, SqT.of tx, rfl, _, _, rfl, _, _, rfl, _, [], rfl, rfl, ?_⟩
      have hpz : px < zs.length := by omega
      refine ⟨.ref F, rfl, .int (px : Int), rfl, F, _, px, .int (zs.getD px 0), rfl, rfl, eF, by rw [List.getElem?_map, List.getD_eq_getElem?_getD, List.getElem?_eq_getElem hpz]; rfl, .int m, rfl, _, _, rfl, rfl, F, _, (px : Int), px, rfl, rfl, eF, by rw [List.length_map]; exact ix_nat hpz, ?_⟩
      rw [show ((zs.map V.int).set px ((fun i j : Int => V.int (i - j)) (zs.getD px 0) m)) = (zs.set px (zs.getD px 0 - m)).map V.int from map_set]
      have eF8 : (upd Hx F (.lst ((zs.set px (zs.getD px 0 - m)).map V.int))) F = some (.lst ((zs.set px (zs.getD px 0 - m)).map V.int)) := upd_same
      have l8 : (zs.set px (zs.getD px 0 - m)).length = acc.length := by rw [List.length_set, zl]
      have g8 : ∀ z, (zs.set px (zs.getD px 0 - m)).getD z 0 = if px = z then zs.getD px 0 - m else zs.getD z 0 := fun z => set_getD hpz
      generalize zs.set px (zs.getD px 0 - m) = ws at eF8 l8 g8 ⊢
      have hqw : qx < ws.length := by omega
      refine ⟨.ref F, rfl, .int (qx : Int), rfl, F, _, qx, .int (ws.getD qx 0), rfl, rfl, eF8, by rw [List.getElem?_map, List.getD_eq_getElem?_getD, List.getElem?_eq_getElem hqw]; rfl, .int m, rfl, _, _, rfl, rfl, F, _, (qx : Int), qx, rfl, rfl, eF8, by rw [List.length_map]; exact ix_nat hqw, ?_⟩
      rw [show ((ws.map V.int).set qx ((fun i j : Int => V.int (i + j)) (ws.getD qx 0) m)) = (ws.set qx (ws.getD qx 0 + m)).map V.int from map_set]
      refine ⟨_, _, _, ws.set qx (ws.getD qx 0 + m), rfl, same_set (same_set sx nFH) nFH, upd_same, by rw [List.length_set, l8], fun z hz' => ?_⟩
      have e1 := hzs z hz'
      rw [set_getD hqw, g8, g8, List.take_add_one, ex]
      show _ = -(effL (tp.take i ++ [(px, qx, m)]) z)
      rw [Py.effL_app, Py.effL_cons]
      show _ = -(_ + ((if px = z then m else 0) - (if qx = z then m else 0) + 0))
      by_cases c1 : px = z
      · subst c1
        rw [if_pos rfl, if_pos rfl, if_neg (fun w => h3' w.symm), if_neg (fun w => h3' w.symm)]
        omega
      · rw [if_neg c1, if_neg c1]
        by_cases c2 : qx = z
        · subst c2
          rw [if_pos rfl, if_pos rfl, if_neg h3']
          omega
        · rw [if_neg c2, if_neg c2]
          omega
    · obtain ⟨y3, y4, y5, zs, rfl, sx, eF, zl, hzs⟩ := hp'
      rw [List.length_map, tl, List.take_length] at hzs
      refine ⟨.ref F, rfl, .ref a, rfl, _, _, (dt_ints eF (by omega)).dp, (dt_ints (sx _ _ ha) (by omega)).dp, shaped_ints _, shaped_ints _, ?_⟩
      refine q _ _ sx ⟨fun c z hz' => ?_, fun hz => ?_⟩
      · have e := eqv_intsE c
        subst e
        have h1 := hzs z hz'
        omega
      · have e : zs = acc := by
          refine List.ext_getElem? fun i => ?_
          by_cases c : i < acc.length
          · have h1 := hzs i c
            have h2 := hz i c
            rw [List.getElem?_eq_getElem (by omega : i < zs.length), List.getElem?_eq_getElem c]
            rw [List.getD_eq_getElem?_getD, List.getElem?_eq_getElem (by omega : i < zs.length)] at h1
            rw [List.getD_eq_getElem?_getD, List.getElem?_eq_getElem c] at h2
            have h1 : zs[i] = -(effL tp i) := h1
            have h2 : acc[i] + effL tp i = 0 := h2
            congr 1
            omega
          · rw [List.getElem?_eq_none (by omega), List.getElem?_eq_none (by omega)]
        subst e
        exact eqv_ints _
def isTab (ws : List Int) (ds : List PyData) : Prop := ∃ tab : List Int, ds = tab.map PyData.int ∧ TabGe ws tab
def sp_is_table (K : PySem.W.Frag) : Sp := fun vs H Q _ => ∃ (a t : Addr) (ws : List Int) (xs : List V) (ds : List PyData), vs = [.ref a, .ref t] ∧ H a = some (.lst (ws.map V.int)) ∧ H t = some (.lst xs) ∧ DtAll SA H xs ds ∧ ws.length ≤ 8 ∧ ds.length ≤ 1000 ∧ ∀ H' b, Same H H' → (b = true ↔ isTab ws ds) → Q (.bl b) H'
set_option maxHeartbeats 8000000 in
theorem ok_is_table (T : Defs K mg) : FnOk P w K mg base CX0 (k + 3) T.a_is_table T.d_is_table ["worths", "thing"] (sp_is_table K) := by
  have G_set_sums : FnOk P w K mg base CX0 (k + 2) _ _ _ _ := ok_set_sums (k := k + 1) T
  have G_is_whole : FnOk P w K mg base CX0 (k + 2) _ _ _ _ := ok_is_whole (k := k + 1) T
  have G_least_number : FnOk P w K mg base CX0 (k + 2) _ _ _ _ := ok_least_number (k := k) T
  refine T.F_is_table.ok sc_is_table (fun vs H Q E h => ?_) (fun cdv A outer s H vs Q E hr h => ?_)
  · obtain ⟨a, t, ws, xs, ds, rfl, _⟩ := h
    rfl
  · obtain ⟨a, t, ws, xs, ds, rfl, ha, ht, hds, w8, d8, q⟩ := h
    refine ⟨_, PSs.nox
(pss_cons (ps_set (i := 2) sc_is_table.nd rfl (.inr rfl) (pe_call G_set_sums hr (by rfl) T.g_set_sums T.F_set_sums.kp T.b_set_sums .nil pass0 (pa_cons (pv 0) pa_nil)))
    (pss_cons (ps_if (PW.pt (pw_or (pt_cmpR op_ne (pe_callB (r := rLenS K) call_lenS (by rfl) T.z_len (by decide +kernel) (pa_cons (pv 1) pa_nil)) (pe_callB (r := rLenS K) call_lenS (by rfl) T.z_len (by decide +kernel) (pa_cons (pv 2) pa_nil)) (nomark _)) (pw_or (pt_not (pt_val (pe_callB (r := rAll K) (cr_all rfl) (by rfl) T.z_all (by decide +kernel) (pa_cons (pe_lc (own := [("number", 4)]) (g := gName 4) rfl sc_is_table.nd (pi_list (pv 1)) (blkOk_by (N := N_is_table) (sc := defScope s_is_table) (by decide +kernel)) (fun _ _ _ _ _ => (pg_name (i := 4) sc_is_table.nd rfl (.inl rfl))) (fun _ _ _ _ _ => pts_nil) (fun _ _ _ _ _ => (pe_call G_is_whole hr (by rfl) T.g_is_whole T.F_is_whole.kp T.b_is_whole .nil pass0 (pa_cons (pv 4) pa_nil)))) pa_nil)))) (pw_or1 (pt_cmpR op_ne (pe_ix (r := rIxL K) ix_list (pv 1) (pe_int) (fun _ _ => rfl)) (pe_int) (nomark _))))))
      (pss_one (ps_ret (pe_bl)))
      pss_nil)
    (pss_cons (ps_set (i := 3) sc_is_table.nd rfl (.inr rfl) (pe_callB (r := rLenS K) call_lenS (by rfl) T.z_len (by decide +kernel) (pa_cons (pv 0) pa_nil)))
    (pss_one (ps_ret (pe_callB (r := rAll K) (cr_all rfl) (by rfl) T.z_all (by decide +kernel) (pa_cons (pe_lc (own := [("at", 5)]) (g := gName 5) rfl sc_is_table.nd (pi_range2 (by rfl) T.z_range (pa_cons (pe_int) (pa_cons (pe_callB (r := rLenS K) call_lenS (by rfl) T.z_len (by decide +kernel) (pa_cons (pv 2) pa_nil)) pa_nil))) (blkOk_by (N := N_is_table) (sc := defScope s_is_table) (by decide +kernel)) (fun _ _ _ _ _ => (pg_name (i := 5) sc_is_table.nd rfl (.inl rfl))) (fun _ _ _ _ _ => pts_nil) (fun _ _ _ _ _ => (pe_cmpR op_ge (pe_ix (r := rIxL K) ix_list (pv 1) (pv 5) (fun _ _ => rfl)) (pe_call G_least_number hr (by rfl) T.g_least_number T.F_least_number.kp T.b_least_number .nil pass0 (pa_cons (pv 1) (pa_cons (pe_ix (r := rIxL K) ix_list (pv 2) (pv 5) (fun _ _ => rfl)) (pa_cons (pv 5) (pa_cons (pv 3) pa_nil))))) (nomark _)))) pa_nil)))))))
      , ?_⟩
    refine ⟨.ref a, rfl, a, ws, rfl, SqL.of ha, w8, fun H1 S s1 nS eS => ?_⟩
    have xl := dtAll_len hds
    have sl := Py.sumsM_len ws
    have p8 := pow8 w8
    have p0 : 0 < 2 ^ ws.length := Nat.pow_pos (by decide)
    have ht1 := s1 _ _ ht
    have ha1 := s1 _ _ ha
    have no : ∀ {G : Hp}, Same H G → ¬ isTab ws ds → Q (.bl false) G := fun sg c => q _ false sg ⟨fun z => (nomatch z), fun z => absurd z c⟩
    refine ⟨.ref t, rfl, t, _, rfl, .inl (SqL.of ht1), .ref S, rfl, S, _, rfl, .inl (SqL.of eS), rfl, _, rfl, ?_⟩
    rw [List.length_map, sl, xl]
    refine ite2 (fun c => ?_) (fun c => ?_)
    · refine no s1 fun ⟨tab, e, h⟩ => ?_
      rw [e, List.length_map, h.len] at c
      simp at c
    have tl0 : ds.length = 2 ^ ws.length := by
      by_cases z : ds.length = 2 ^ ws.length
      · exact z
      · exact absurd (by simp; exact fun y => z (by exact_mod_cast y)) c
    refine ⟨.ref t, rfl, t, rfl, ⟨_, SqL.of ht1⟩, fun D nD => ?_⟩
    refine lc_it (walk_list (xs := xs)) (fun j Hy => Same H1 Hy ∧ Hy D = some (.lst (((ds.map wholeD).take j).map V.bl))) ⟨same_upd nD, upd_same⟩ (fun j Hy _ pv => SqL.of (pv.1 _ _ ht1)) (fun j v Hy₀ Hy hj pv yy => ?_) (fun H2 pv => ?_)
    · obtain ⟨rfl, ey⟩ := yy
      obtain ⟨sy, eD⟩ := pv
      obtain ⟨d, ed, hd⟩ := dtAll_get hds ey
      refine ⟨rfl, yes_ ⟨v, rfl, v, d, rfl, hd.same (s1.trans sy), _, eD, by rw [List.length_map, List.length_take, List.length_map]; exact small5000 (by omega), same_set sy nD, ?_⟩⟩
      rw [upd_same, List.take_add_one, List.getElem?_map, ed, List.map_append]
      rfl
    obtain ⟨s2, eD⟩ := pv
    rw [xl, List.take_of_length_le (by rw [List.length_map]; exact Nat.le_refl _)] at eD
    refine ⟨D, _, rfl, SqL.of eD, ?_⟩
    by_cases call : (ds.map wholeD).all id = true
    case neg =>
      rw [Bool.eq_false_iff.mpr call]
      refine ⟨_, rfl, iteT (no (s1.trans s2) fun ⟨tab, e, h⟩ => call ?_)⟩
      rw [e]
      exact whole_of tab
    rw [call]
    refine ⟨_, rfl, iteF ?_⟩
    obtain ⟨tab, etab⟩ := whole_tab call
    subst etab
    cases dtAll_int hds
    have tl : tab.length = 2 ^ ws.length := by rw [List.length_map] at tl0; exact tl0
    have q : ∀ H' b, Same H H' → (b = true ↔ TabGe ws tab) → Q (.bl b) H' := fun H' b sh hb => q H' b sh (hb.trans ⟨fun h => ⟨tab, rfl, h⟩, fun ⟨tab', e, h⟩ => by rw [ints_inj e]; exact h⟩)
    have at_tab : ∀ {p : Nat}, p < tab.length → atI (tab.map V.int) (p : Int) = some (.int (tab.getD p 0)) := fun {p} h => atI_nat (by
      rw [List.getElem?_map, List.getD_eq_getElem?_getD, List.getElem?_eq_getElem h]
      rfl)
    have ht2 := s2 _ _ ht1
    have eS2 := s2 _ _ eS
    have ha2 := s2 _ _ ha1
    refine ⟨.ref t, rfl, t, _, (0 : Int), _, rfl, rfl, SqL.of ht2, at_tab (p := 0) (by omega), rfl, _, rfl, ?_⟩
    by_cases g0 : tab.getD 0 0 = 0
    case neg =>
      refine ite2 (fun _ => q _ false (s1.trans s2) ⟨fun z => (nomatch z), fun h => absurd h.zero g0⟩) (fun c => absurd ?_ c)
      simp only [Bool.not_eq_true', decide_eq_false_iff_not]
      exact fun z => g0 (by injection z)
    rw [g0]
    refine iteF ?_
    refine ⟨.ref a, rfl, a, _, rfl, .inl (SqL.of ha2), ?_⟩
    rw [List.length_map]
    refine ⟨.ref S, rfl, S, _, rfl, .inl (SqL.of eS2), 1, _, rfl, ⟨by decide, by decide, by rw [List.length_map, sl]; omega, by rw [List.length_map, sl]; omega⟩, fun D2 nD2 => ?_⟩
    rw [List.length_map, sl, show (((2 ^ ws.length : Nat) : Int) - 1).toNat = 2 ^ ws.length - 1 by omega]
    refine lc_it (walk_range (lo := 1) (n := 2 ^ ws.length - 1)) (fun i Hx => ∃ bs : List Bool, Same H2 Hx ∧ bs.length = i ∧ Hx D2 = some (.lst (bs.map V.bl)) ∧ (bs.all id = true ↔ ∀ N, 0 < N → N ≤ i → ∀ a, a < ws.length → bit N a = true → tab.getD (N - 2 ^ a) 0 + zI (sumsM ws) N ≤ tab.getD N 0))
      ⟨[], same_upd nD2, rfl, upd_same, fun _ N h1 h2 => absurd h1 (by omega), fun _ => rfl⟩ (fun _ _ _ _ => trivial) (fun i x Hx Hx' hi pv y => ?_) (fun H3 pv => ?_)
    · obtain ⟨N, hN⟩ : ∃ N, N = i + 1 := ⟨_, rfl⟩
      have eN : (1 : Int) + (i : Int) = (N : Int) := by omega
      have ex : x = V.int (N : Int) := by first | exact (y.1).trans (congrArg V.int eN) | exact (y.2).trans (congrArg V.int eN)
      have eh : Hx' = Hx := by first | exact y.1 | exact y.2
      subst ex
      subst eh
      obtain ⟨bs, sx, bl, eD2, hbs⟩ := pv
      have hNS : N < (sumsM ws).length := by omega
      have eg : (sumsM ws).getD N 0 = (sumsM ws)[N] := by rw [List.getD_eq_getElem?_getD, List.getElem?_eq_getElem hNS]; rfl
      refine ⟨rfl, yes_ ⟨.ref t, rfl, .int (N : Int), rfl, t, _, _, _, rfl, rfl, SqL.of (sx _ _ ht2), at_tab (by omega), .ref t, rfl, .ref S, rfl, .int (N : Int), rfl, S, _, _, .int (sumsM ws)[N], rfl, rfl, SqL.of (sx _ _ eS2), atI_nat (by rw [List.getElem?_map, List.getElem?_eq_getElem hNS]; rfl), .int (N : Int), rfl, .int (ws.length : Int), rfl, t, tab, (sumsM ws)[N], N, ws.length, rfl, sx _ _ ht2, by omega, by omega, w8, by omega, by omega, fun Hy z sy hge hex => ?_⟩⟩
      obtain ⟨b, b1, b2, b3⟩ := hex
      refine ⟨_, _, rfl, rfl, _, sy _ _ eD2, by rw [List.length_map]; exact small5000 (by omega), bs ++ [decide (z ≤ tab.getD N 0)], same_set (sx.trans sy) nD2, by rw [List.length_append, bl]; rfl, by rw [upd_same, List.map_append]; rfl, ?_⟩
      rw [List.all_append, Bool.and_eq_true, hbs]
      have one : ([decide (z ≤ tab.getD N 0)].all id = true) ↔ z ≤ tab.getD N 0 := by simp
      rw [one]
      constructor
      · rintro ⟨h1, h2⟩ M m1 m2
        by_cases c : M ≤ i
        · exact h1 M m1 c
        · have eM : M = N := by omega
          subst eM
          intro a a1 a2
          have h3 := hge a a1 a2
          unfold zI
          rw [eg]
          omega
      · intro h
        refine ⟨fun M m1 m2 => h M m1 (by omega), ?_⟩
        have h3 := h N (by omega) (by omega) b b1 b2
        unfold zI at h3
        rw [eg] at h3
        omega
    · obtain ⟨bs, s3, bl, eD2, hbs⟩ := pv
      refine ⟨D2, bs, rfl, SqL.of eD2, ?_⟩
      refine q _ _ ((s1.trans s2).trans s3) (hbs.trans ⟨fun h => ⟨tl, g0, fun N n1 n2 => h N n1 (by omega)⟩, fun h N n1 n2 => h.ge N n1 (by omega)⟩)
end
end Th
namespace Th
open PySem PySem.Spec PyProof.Rows L2
/-! any thing looked at as payments, with the fault told -/
open Py (bit sumsM zI TabTo TabOk wS pS MinZ SgM GrOk Pay payL negR posR nzP nzW FewOk FwM effL)
def payD (t : Pay) : PyData := .tuple [.int (t.1 : Int), .int (t.2.1 : Int), .int t.2.2]
def PayB (n : Nat) (t : Pay) : Prop := t.1 < n ∧ t.2.1 < n ∧ t.1 ≠ t.2.1 ∧ 1 ≤ t.2.2
theorem isPay_iff {n : Nat} {d : PyData} : isPay n d ↔ ∃ x : Pay, d = payD x ∧ PayB n x := by
  constructor
  · rintro ⟨x, e, h⟩
    refine ⟨x, ?_, h⟩
    unfold payOf at e
    split at e
    · have e := Option.some.inj e
      simp only [Prod.mk.injEq] at e
      obtain ⟨rfl, rfl, rfl⟩ := e
      rfl
    · cases e
  · rintro ⟨x, rfl, h⟩
    exact ⟨x, rfl, h⟩
theorem payD_inj {x y : Pay} (h : payD x = payD y) : x = y := by
  obtain ⟨a, b, c⟩ := x
  obtain ⟨a', b', c'⟩ := y
  have h : PyData.tuple [.int (a : Int), .int (b : Int), .int c] = PyData.tuple [.int (a' : Int), .int (b' : Int), .int c'] := h
  injection h with h
  injection h with h1 h
  injection h with h2 h
  injection h with h3 h
  injection h1 with h1
  injection h2 with h2
  injection h3 with h3
  have e1 : a = a' := by omega
  have e2 : b = b' := by omega
  rw [e1, e2, h3]
theorem pays_inj : ∀ {xs ys : List Pay}, xs.map payD = ys.map payD → xs = ys
  | [], [], _ => rfl
  | [], y :: ys, h => by cases h
  | x :: xs, [], h => by cases h
  | x :: xs, y :: ys, h => by
    injection h with h1 h2
    rw [payD_inj h1, pays_inj h2]
theorem pays_of {n : Nat} : ∀ {ps : List PyData}, (∀ p ∈ ps, isPay n p) → ∃ tp : List Pay, ps = tp.map payD ∧ ∀ t ∈ tp, PayB n t
  | [], _ => ⟨[], rfl, fun _ h => by cases h⟩
  | p :: ps, h => by
    obtain ⟨x, e, hx⟩ := isPay_iff.mp (h p List.mem_cons_self)
    obtain ⟨tp, e2, h2⟩ := pays_of fun q hq => h q (List.mem_cons_of_mem _ hq)
    refine ⟨x :: tp, by rw [e, e2]; rfl, fun t ht => ?_⟩
    rcases List.mem_cons.mp ht with rfl | ht
    · exact hx
    · exact h2 t ht
theorem dtAll_pays {H : Hp} : ∀ {xs : List V} {tp : List Pay}, DtAll SA H xs (tp.map payD) → ∃ ts : List Addr, xs = ts.map V.ref ∧ Paired (PayA H) ts tp
  | _, [], .nil => ⟨[], rfl, .nil⟩
  | _, t :: tp, .cons r s => by
    obtain ⟨ts, e, h⟩ := dtAll_pays s
    have r : Dt SA H _ (.tuple [.int (t.1 : Int), .int (t.2.1 : Int), .int t.2.2]) := r
    cases r with
    | @tup a xs _ _ ea _ hx =>
      cases hx with
      | cons h1 hx =>
      cases hx with
      | cons h2 hx =>
      cases hx with
      | cons h3 hx =>
      cases hx
      cases h1
      cases h2
      cases h3
      exact ⟨a :: ts, by rw [e]; rfl, .cons ea h⟩
/-- payments that settle -/
def LkPA (acc : List Int) (ps : List PyData) : Prop := ∃ tp : List Pay, ps = tp.map payD ∧ (∀ t ∈ tp, PayB acc.length t) ∧ ∀ z, z < acc.length → acc.getD z 0 + effL tp z = 0
def LkMA (acc : List Int) (ps ds : List PyData) : Prop := ∃ tab : List Int, ds = tab.map PyData.int ∧ (ps.length : Int) ≤ ((nzW acc).length : Int) - tab.getD (2 ^ (nzW acc).length - 1) 0
/-- the first fault's text, of two lists -/
def FaultL (acc : List Int) (ps ds : List PyData) (f : Str) : Prop := (¬ LkPA acc ps ∧ f = "payments") ∨ (LkPA acc ps ∧ ¬ isTab (nzW acc) ds ∧ f = "table") ∨ (LkPA acc ps ∧ isTab (nzW acc) ds ∧ ¬ LkMA acc ps ds ∧ f = "many") ∨ (LkPA acc ps ∧ isTab (nzW acc) ds ∧ LkMA acc ps ds ∧ f = "")
/-- .. of any thing -/
def FaultA (acc : List Int) (d : PyData) (f : Str) : Prop := (pairD d = false ∧ f = "paper") ∨ ∃ ps ds, d = .tuple [.list ps, .list ds] ∧ FaultL acc ps ds f
theorem faultL_eq {acc : List Int} {ps ds : List PyData} {f g : Str} (a : FaultL acc ps ds f) (b : FaultL acc ps ds g) : f = g := by
  rcases a with ⟨a1, rfl⟩ | ⟨a1, a2, rfl⟩ | ⟨a1, a2, a3, rfl⟩ | ⟨a1, a2, a3, rfl⟩ <;> rcases b with ⟨b1, rfl⟩ | ⟨b1, b2, rfl⟩ | ⟨b1, b2, b3, rfl⟩ | ⟨b1, b2, b3, rfl⟩ <;> first | rfl | (exact absurd ‹LkPA acc ps› ‹¬ LkPA acc ps›) | (exact absurd ‹isTab _ _› ‹¬ isTab _ _›) | (exact absurd ‹LkMA acc ps ds› ‹¬ LkMA acc ps ds›)
theorem faultA_eq {acc : List Int} {d : PyData} {f g : Str} (a : FaultA acc d f) (b : FaultA acc d g) : f = g := by
  rcases a with ⟨a1, rfl⟩ | ⟨ps, ds, rfl, a⟩
  · rcases b with ⟨b1, rfl⟩ | ⟨ps, ds, rfl, b⟩
    · rfl
    · exact absurd (show (true : Bool) = false from a1) (by decide)
  · rcases b with ⟨b1, rfl⟩ | ⟨ps', ds', e, b⟩
    · exact absurd (show (true : Bool) = false from b1) (by decide)
    · cases e
      exact faultL_eq a b
/-- the two lists aren't too long -/
def SmallT (d : PyData) : Prop := ∀ ps ds, d = .tuple [.list ps, .list ds] → ps.length ≤ 100 ∧ ds.length ≤ 1000
theorem pair_is {d : PyData} (h : pairD d = true) : ∃ ps ds, d = .tuple [.list ps, .list ds] := by
  unfold pairD at h
  split at h
  · rename_i x y
    obtain ⟨h1, h2⟩ := He.ba h
    cases x with
    | list ps =>
      cases y with
      | list ds => exact ⟨ps, ds, rfl⟩
      | _ => exact absurd (show (false : Bool) = true from h2) (by decide)
    | _ => exact absurd (show (false : Bool) = true from h1) (by decide)
  · cases h
/-- a pair of lists in a heap -/
theorem dt_pair {H : Hp} {v : V} {ps ds : List PyData} (h : Dt SA H v (.tuple [.list ps, .list ds])) : ∃ (t p tb : Addr) (xs ys : List V), v = .ref t ∧ H t = some (.tup [.ref p, .ref tb]) ∧ H p = some (.lst xs) ∧ DtAll SA H xs ps ∧ H tb = some (.lst ys) ∧ DtAll SA H ys ds := by
  cases h with
  | @tup t xs _ _ et _ hx =>
    cases hx with
    | cons h1 hx =>
    cases hx with
    | cons h2 hx =>
    cases hx
    cases h1 with
    | @lst p xs _ _ ep _ hp =>
    cases h2 with
    | @lst tb ys _ _ eb _ hb => exact ⟨t, p, tb, xs, ys, rfl, et, ep, hp, eb, hb⟩
theorem DtAll.sameA {H H' : Hp} (s : Same H H') : ∀ {xs : List V} {ds : List PyData}, DtAll SA H xs ds → DtAll SA H' xs ds
  | _, _, .nil => .nil
  | _, _, .cons r t => .cons (r.same s) (DtAll.sameA s t)
section
variable {w : World} {K : PySem.W.Frag} {mg : Str → Option Value} {base : Heap} {k : Nat}
theorem says_np {f : Str} (h : f.length ≤ 100) : SupE.SaysV "no proof, by its " (.str f) := by
  have z : (("no proof, by its " : Str) ++ f).length = ("no proof, by its " : Str).length + f.length := strLen_append _ _
  have z2 : ("no proof, by its " : Str).length = 17 := by decide +kernel
  refine ⟨?_, .inl ⟨f, rfl, ?_, ?_⟩⟩
  · rw [z2]; exact Nat.le_of_lt (small5000 (by omega))
  · exact Nat.le_of_lt (small5000 (by omega))
  · rw [z, z2]; exact Nat.le_of_lt (small5000 (by omega))
def sp_look_payments (K : PySem.W.Frag) (C : Addr) : Sp := fun vs H Q E => ∃ (a : Addr) (v : V) (acc : List Int) (d : PyData), vs = [.ref a, v] ∧ H a = some (.lst (acc.map V.int)) ∧ Dt SA H v d ∧ acc.length ≤ 8 ∧ SmallT d ∧
  ∀ H' f, Same H H' → FaultA acc d f → (f = "" → Q .non H') ∧ (f ≠ "" → ∀ d, H' d = none → E (.ref C) (some d) (upd H' d (.xd [(("where" : Str), .str f)])))
set_option maxHeartbeats 8000000 in
theorem ok_look_payments (T : Defs K mg) : FnOk PP w K mg base (L2.CX PP w) (k + 4) T.a_look_payments T.d_look_payments ["accounts", "thing"] (sp_look_payments K T.a_NoProof) := by
  have G_is_pair_of_lists : FnOk PP w K mg base CX0 (k + 3) _ _ _ _ := ok_is_pair_of_lists (k := k + 1) T
  have G_is_payment : FnOk PP w K mg base CX0 (k + 3) _ _ _ _ := ok_is_payment (k := k) T
  have G_settle : FnOk PP w K mg base CX0 (k + 3) _ _ _ _ := ok_settle (k := k + 2) T
  have G_is_table : FnOk PP w K mg base CX0 (k + 3) _ _ _ _ := ok_is_table (k := k) T
  refine T.F_look_payments.ok sc_look_payments (fun vs H Q E h => ?_) (fun cdv A outer s H vs Q E hr h => ?_)
  · obtain ⟨a, v, acc, d, rfl, _⟩ := h
    rfl
  · obtain ⟨a, v, acc, d, rfl, ha, hd, a8, sm, q⟩ := h
    refine ⟨_,
(pss_cons (ps_if (pt_not (pt_val (pe_call G_is_pair_of_lists hr (by rfl) T.g_is_pair_of_lists T.F_is_pair_of_lists.kp T.b_is_pair_of_lists .nil pass0 (pa_cons (pv 1) pa_nil))))
      (pss_one (ps_raise rfl (takes_of rfl rfl rfl rfl) (SupE.pmk T.t_NoProof T.g_NoProof hr (by omega) (pa_cons (pe_str) pa_nil) (by rfl))))
      pss_nil)
    (pss_cons (ps_asg (pv 1) (pg_tup rfl (pgs_cons (pg_name (i := 2) sc_look_payments.nd rfl (.inl rfl)) (pgs_cons (pg_name (i := 3) sc_look_payments.nd rfl (.inl rfl)) pgs_nil))))
    (Evl.pss_cut (ps_if (PW.pt (pw_or (pt_not (pt_val (pe_callB (r := rAll K) (cr_all rfl) (by rfl) T.z_all (by decide +kernel) (pa_cons (pe_lc (own := [("row", 5)]) (g := gName 5) rfl sc_look_payments.nd (pi_list (pv 2)) (blkOk_by (N := N_look_payments) (sc := defScope s_look_payments) (by decide +kernel)) (fun _ _ _ _ _ => (pg_name (i := 5) sc_look_payments.nd rfl (.inl rfl))) (fun _ _ _ _ _ => pts_nil) (fun _ _ _ _ _ => (pe_call G_is_payment hr (by rfl) T.g_is_payment T.F_is_payment.kp T.b_is_payment .nil pass0 (pa_cons (pe_callB (r := rLenS K) call_lenS (by rfl) T.z_len (by decide +kernel) (pa_cons (pv 0) pa_nil)) (pa_cons (pv 5) pa_nil))))) pa_nil)))) (pw_or1 (pt_not (pt_val (pe_call G_settle hr (by rfl) T.g_settle T.F_settle.kp T.b_settle .nil pass0 (pa_cons (pv 0) (pa_cons (pv 2) pa_nil))))))))
      (pss_one (ps_raise rfl (takes_of rfl rfl rfl rfl) (SupE.pmk T.t_NoProof T.g_NoProof hr (by omega) (pa_cons (pe_str) pa_nil) (by rfl))))
      pss_nil)
    (pss_cons (ps_setLc (i := 4) (own := [("account", 6)]) (g := gName 6) rfl sc_look_payments.nd rfl rfl (sw_true rfl rfl rfl (by decide +kernel)) (pi_list (pv 0)) (blkOk_by (N := N_look_payments) (sc := defScope s_look_payments) (by decide +kernel)) (fun _ _ _ _ _ => (pg_name (i := 6) sc_look_payments.nd rfl (.inl rfl))) (fun _ _ _ _ _ => pts_one (pt_cmpR op_ne (pv 6) (pe_int) (nomark _))) (fun _ _ _ _ _ => (pv 6)))
    (pss_cons (ps_if (pt_not (pt_val (pe_call G_is_table hr (by rfl) T.g_is_table T.F_is_table.kp T.b_is_table .nil pass0 (pa_cons (pv 4) (pa_cons (pv 3) pa_nil)))))
      (pss_one (ps_raise rfl (takes_of rfl rfl rfl rfl) (SupE.pmk T.t_NoProof T.g_NoProof hr (by omega) (pa_cons (pe_str) pa_nil) (by rfl))))
      pss_nil)
    (pss_one (ps_if (pt_cmpR op_gt (pe_callB (r := rLenS K) call_lenS (by rfl) T.z_len (by decide +kernel) (pa_cons (pv 2) pa_nil)) (pe_op op_sub (pe_callB (r := rLenS K) call_lenS (by rfl) T.z_len (by decide +kernel) (pa_cons (pv 4) pa_nil)) (pe_ix (r := rIxL K) ix_list (pv 3) (pe_un un_neg (pe_int)) (fun _ _ => rfl))) (nomark _))
      (pss_one (ps_raise rfl (takes_of rfl rfl rfl rfl) (SupE.pmk T.t_NoProof T.g_NoProof hr (by omega) (pa_cons (pe_str) pa_nil) (by rfl))))
      pss_nil)))))))
      , ?_⟩
    have bad : ∀ {Hx : Hp} {f : Str}, Same H Hx → FaultA acc d f → f ≠ "" → f.length ≤ 100 → SupE.SaysV "no proof, by its " (.str f) ∧ ∀ d, Hx d = none → E (.ref T.a_NoProof) (some d) (upd Hx d (.xd [(("where" : Str), .str f)])) :=
      fun {Hx f} sx hf ne fl => ⟨says_np fl, (q Hx f sx hf).2 ne⟩
    refine ⟨v, rfl, v, d, rfl, hd, fun H1 s1 => ⟨_, rfl, ?_⟩⟩
    by_cases c0 : pairD d = true
    case neg =>
      have c0 := Bool.eq_false_iff.mpr c0
      rw [c0]
      exact iteT ⟨.str "paper", rfl, bad s1 (.inl ⟨c0, rfl⟩) (by decide +kernel) (by decide +kernel)⟩
    rw [c0]
    refine iteF ?_
    obtain ⟨ps, ds, rfl⟩ := pair_is c0
    obtain ⟨t, p, tb, xs, ys, rfl, et, hp, hps, htb, hds⟩ := dt_pair hd
    obtain ⟨pl, dl⟩ := sm ps ds rfl
    have xl := dtAll_len hps
    have yl := dtAll_len hds
    have bad : ∀ {Hx : Hp} {f : Str}, Same H Hx → FaultL acc ps ds f → f ≠ "" → f.length ≤ 100 → SupE.SaysV "no proof, by its " (.str f) ∧ ∀ d, Hx d = none → E (.ref T.a_NoProof) (some d) (upd Hx d (.xd [(("where" : Str), .str f)])) :=
      fun {Hx f} sx hf ne fl => bad sx (.inr ⟨ps, ds, rfl, hf⟩) ne fl
    refine ⟨.ref t, rfl, t, _, rfl, SqT.of (s1 _ _ et), rfl, _, _, rfl, _, [], rfl, rfl, ?_⟩
    have ha1 := s1 _ _ ha
    have hp1 := s1 _ _ hp
    refine ⟨fun σ Hz => σ = [some (.ref a), some (.ref t), some (.ref p), some (.ref tb), none, none, none] ∧ Same H Hz ∧ LkPA acc ps, ?_, fun σ Hz mid => ?_⟩
    · refine ⟨.ref p, rfl, p, rfl, ⟨_, SqL.of hp1⟩, fun D nD => ?_⟩
      refine lc_it (walk_list (xs := xs)) (fun j Hy => ∃ bs : List Bool, Same H1 Hy ∧ bs.length = j ∧ Hy D = some (.lst (bs.map V.bl)) ∧ (bs.all id = true ↔ ∀ d ∈ ps.take j, isPay acc.length d)) ⟨[], same_upd nD, rfl, upd_same, ⟨fun _ t ht => absurd ht (by simp), fun _ => rfl⟩⟩
        (fun j Hy _ pv => by obtain ⟨_, sy, _⟩ := pv; exact SqL.of (sy _ _ hp1)) (fun j v Hy₀ Hy hj pv yy => ?_) (fun H2 pv => ?_)
      · obtain ⟨rfl, ey⟩ := yy
        obtain ⟨bs, sy, bl, eD, hbs⟩ := pv
        obtain ⟨d, ed, hd⟩ := dtAll_get hps ey
        refine ⟨rfl, yes_ ⟨.ref a, rfl, a, _, rfl, .inl (SqL.of (sy _ _ ha1)), v, rfl, v, d, acc.length, by rw [List.length_map]; rfl, hd.same (s1.trans sy), fun b hb => ⟨_, eD, by rw [List.length_map, bl]; exact small5000 (by omega), bs ++ [b], same_set sy nD, by rw [List.length_append, bl]; rfl, by rw [upd_same, List.map_append]; rfl, ?_⟩⟩⟩
        rw [List.all_append, Bool.and_eq_true, hbs, List.take_add_one, ed]
        have one : ([b].all id = true) ↔ b = true := by simp
        rw [one, hb]
        constructor
        · rintro ⟨h1, h2⟩ t ht
          rcases List.mem_append.mp ht with ht | ht
          · exact h1 t ht
          · cases List.mem_singleton.mp ht
            exact h2
        · intro h
          exact ⟨fun t ht => h t (List.mem_append_left _ ht), h d (List.mem_append_right _ (List.mem_singleton.mpr rfl))⟩
      obtain ⟨bs, s2, bl, eD, hbs⟩ := pv
      rw [xl, List.take_length] at hbs
      have s12 := s1.trans s2
      refine ⟨D, _, rfl, SqL.of eD, ?_⟩
      by_cases c1 : bs.all id = true
      case neg =>
        rw [Bool.eq_false_iff.mpr c1]
        refine ⟨_, rfl, iteT ?_⟩
        refine ⟨.str "payments", rfl, bad s12 (.inl ⟨fun ⟨tp, e, h, _⟩ => c1 (hbs.mpr fun d hd => ?_), rfl⟩) (by decide +kernel) (by decide +kernel)⟩
        rw [e] at hd
        obtain ⟨x, hx, rfl⟩ := List.mem_map.mp hd
        exact isPay_iff.mpr ⟨x, rfl, h x hx⟩
      obtain ⟨tp, etp, htp⟩ := pays_of (hbs.mp c1)
      subst etp
      obtain ⟨ts, ets, hts⟩ := dtAll_pays hps
      subst ets
      rw [List.length_map] at pl
      rw [c1]
      refine ⟨_, rfl, iteF ⟨.ref a, rfl, .ref p, rfl, a, p, acc, ts, tp, rfl, s12 _ _ ha, s12 _ _ hp, paired_imp hts fun a _ r h => s12 _ _ h, pl, by omega, htp, fun H3 b s3 hb => ⟨_, rfl, ?_⟩⟩⟩
      cases b with
      | true => exact iteF ⟨rfl, s12.trans s3, tp, rfl, htp, hb.mp rfl⟩
      | false => exact iteT ⟨.str "payments", rfl, bad (s12.trans s3) (.inl ⟨fun ⟨tp', e, _, h⟩ => by
          cases pays_inj e
          exact absurd (hb.mpr h) (by decide), rfl⟩) (by decide +kernel) (by decide +kernel)⟩
    obtain ⟨rfl, sz, hP⟩ := mid
    have haz := sz _ _ ha
    refine ⟨.ref a, rfl, a, rfl, ⟨_, SqL.of haz⟩, fun D nD => ?_⟩
    refine lc_it (walk_list (xs := acc.map V.int)) (fun m Hy => Same Hz Hy ∧ Hy D = some (.lst (((acc.take m).filter fun z => decide (z ≠ 0)).map V.int))) ⟨same_upd nD, upd_same⟩ (fun m Hy _ pv => SqL.of (pv.1 _ _ haz)) (fun m v Hy₀ Hy hm pv yy => ?_) (fun H10 pv => ?_)
    · obtain ⟨rfl, ey⟩ := yy
      obtain ⟨sy, eD⟩ := pv
      obtain ⟨z, ez, rfl⟩ := at_int ey
      rw [List.length_map] at hm
      have fl : ((acc.take m).filter fun z => decide (z ≠ 0)).length ≤ m := Nat.le_trans (List.length_filter_le _ _) (by rw [List.length_take]; omega)
      have tk : (acc.take (m + 1)).filter (fun z => decide (z ≠ 0)) = (acc.take m).filter (fun z => decide (z ≠ 0)) ++ if z ≠ 0 then [z] else [] := by
        rw [List.take_add_one, ez, List.filter_append]
        congr 1
        show List.filter _ [z] = _
        rw [List.filter_cons]
        by_cases c : z ≠ 0
        · rw [if_pos (decide_eq_true c), if_pos c]; rfl
        · rw [if_neg (fun z => c (of_decide_eq_true z)), if_neg c]; rfl
      rw [tk]
      refine ⟨rfl, .int z, rfl, rfl, _, rfl, ite2 (fun c => ?_) (fun c => ?_)⟩
      · have c : z ≠ 0 := fun w => by rw [w] at c; simp at c
        rw [if_pos c]
        exact ⟨.int z, rfl, _, eD, by rw [List.length_map]; exact small5000 (by omega), same_set sy nD, by rw [upd_same, List.map_append]; rfl⟩
      · have c : ¬ z ≠ 0 := fun w => c (by
          simp only [ne_eq, Bool.not_eq_true', decide_eq_false_iff_not]
          exact fun x => w (by injection x))
        rw [if_neg c, List.append_nil]
        exact ⟨sy, eD⟩
    obtain ⟨s10, eD⟩ := pv
    rw [List.length_map, List.take_length, ← Py.nzW_eq] at eD
    have nwl := Py.nzW_len acc
    have npl := Py.nzP_len acc
    have sz10 := sz.trans s10
    refine ⟨.ref D, rfl, .ref tb, rfl, D, tb, nzW acc, ys, ds, rfl, eD, sz10 _ _ htb, hds.sameA sz10, by omega, dl, fun H11 b s11 hb => ⟨_, rfl, ?_⟩⟩
    have s011 := sz10.trans s11
    cases b with
    | false => exact iteT ⟨.str "table", rfl, bad s011 (.inr (.inl ⟨hP, fun z => absurd (hb.mpr z) (by decide), rfl⟩)) (by decide +kernel) (by decide +kernel)⟩
    | true =>
      have hT := hb.mp rfl
      obtain ⟨tab, etab, htab⟩ := hT
      subst etab
      cases dtAll_int hds
      refine iteF ?_
      have tbl := htab.len
      have p0 : 0 < 2 ^ (nzW acc).length := Nat.pow_pos (by decide)
      have hlast : atI (tab.map V.int) (-1) = some (.int (tab.getD (2 ^ (nzW acc).length - 1) 0)) := atI_lst (by
        rw [List.length_map, tbl, List.getElem?_map, List.getD_eq_getElem?_getD, List.getElem?_eq_getElem (by omega)]
        rfl)
      refine ⟨.ref p, rfl, p, _, rfl, .inl (SqL.of (s011 _ _ hp)), .ref D, rfl, D, _, rfl, .inl (SqL.of (s11 _ _ eD)), .ref tb, rfl, 1, rfl, tb, _, -1, _, rfl, rfl, SqL.of (s011 _ _ htb), hlast, _, _, rfl, rfl, _, _, rfl, rfl, _, rfl, ?_⟩
      refine ite2 (fun c => ?_) (fun c => ?_)
      · have c := of_decide_eq_true c
        rw [List.length_map, xl] at c
        refine ⟨.str "many", rfl, bad s011 (.inr (.inr (.inl ⟨hP, ⟨tab, rfl, htab⟩, fun ⟨tab', e, z⟩ => ?_, rfl⟩))) (by decide +kernel) (by decide +kernel)⟩
        cases ints_inj e
        omega
      · refine (q _ "" s011 (.inr ⟨ps, _, rfl, .inr (.inr (.inr ⟨hP, ⟨tab, rfl, htab⟩, ⟨tab, rfl, ?_⟩, rfl⟩))⟩)).1 rfl
        by_cases z : (ps.length : Int) ≤ ((nzW acc).length : Int) - tab.getD (2 ^ (nzW acc).length - 1) 0
        · exact z
        · refine absurd (decide_eq_true ?_) c
          rw [List.length_map, xl]
          omega
end
/-! what a looker says of any thing -/
open Py (bit sumsM zI TabTo TabOk wS pS MinZ SgM GrOk Pay payL negR posR nzP nzW FewOk FwM effL)
section
variable {w : World} {K : PySem.W.Frag} {mg : Str → Option Value} {base : Heap} {k : Nat}
def sp_l_told (K : PySem.W.Frag) : Sp := fun vs H Q _ => ∃ (a : Addr) (v : V) (acc : List Int) (d : PyData), vs = [.ref a, v] ∧ H a = some (.lst (acc.map V.int)) ∧ Dt SA H v d ∧ acc.length ≤ 8 ∧ SmallT d ∧ ∀ H' f, Same H H' → FaultA acc d f → Q (.str f) H'
set_option maxHeartbeats 8000000 in
theorem ok_l_told (T : Defs K mg) : FnOk PP w K mg base CX0 (k + 5) T.a_l_told T.d_l_told ["_law_accounts_here", "_law_thing"] (sp_l_told K) := by
  have G_look_payments : FnOk PP w K mg base (L2.CX PP w) (k + 4) _ _ _ _ := ok_look_payments (k := k) T
  refine T.F_l_told.ok sc_l_told (fun vs H Q E h => ?_) (fun cdv A outer s H vs Q E hr h => ?_)
  · obtain ⟨a, v, acc, d, rfl, _⟩ := h
    rfl
  · obtain ⟨a, v, acc, d0, rfl, ha, hd, a8, sm, q⟩ := h
    refine ⟨_,
      (pss_one (ps_try_as (i := 2) (Wout := fun _ _ _ _ => False) rfl rfl sc_l_told.nd rfl rfl ⟨by rfl, by decide, .inl T.g_HouseError⟩ takes0
        (fun W pn xe tk _ => pss_one (ps_ret (pe_ifExp (pt_cmpR op_isN (pe_callS G_look_payments hr (by rfl) T.g_look_payments T.F_look_payments.kp T.b_look_payments (fun σ => passAt tk σ) (pa_cons (pv 0) (pa_cons (pv 1) pa_nil))) pe_non (nomark _)) pe_str pe_str)))
        (fun a oe cls d pn hz hf => pss_cons (ps_if (pt_val (pe_callB (r := ExIs.rET K a cls d) (ExIs.call_eT hz hf) (by rfl) T.z_isinstance (by decide +kernel) (pa_cons (pv 2) (pa_cons (pe_tup (pa_cons (pe_glob (v := .ref T.a_NoNet) (by rfl) T.g_NoNet rfl) (pa_cons (pe_glob (v := .ref T.a_NoWay) (by rfl) T.g_NoWay rfl) (pa_cons (pe_glob (v := .ref T.a_NoWagon) (by rfl) T.g_NoWagon rfl) (pa_cons (pe_glob (v := .ref T.a_NoRules) (by rfl) T.g_NoRules rfl) (pa_cons (pe_glob (v := .ref T.a_NoPaper) (by rfl) T.g_NoPaper rfl) (pa_cons (pe_glob (v := .ref T.a_NotYet) (by rfl) T.g_NotYet rfl) (pa_cons (pe_glob (v := .ref T.a_TooMany) (by rfl) T.g_TooMany rfl) (pa_cons (pe_glob (v := .ref T.a_TooLate) (by rfl) T.g_TooLate rfl) pa_nil))))))))) pa_nil)))) (pss_one (ps_ret pe_str)) pss_nil)
          (pss_cons (ps_if (pt_val (pe_callB (r := ExIs.rET K a cls d) (ExIs.call_eT hz hf) (by rfl) T.z_isinstance (by decide +kernel) (pa_cons (pv 2) (pa_cons (pe_tup (pa_cons (pe_glob (v := .ref T.a_NoLine) (by rfl) T.g_NoLine rfl) (pa_cons (pe_glob (v := .ref T.a_Stopped) (by rfl) T.g_Stopped rfl) (pa_cons (pe_glob (v := .ref T.a_NoMonth) (by rfl) T.g_NoMonth rfl) (pa_cons (pe_glob (v := .ref T.a_NoBill) (by rfl) T.g_NoBill rfl) (pa_cons (pe_glob (v := .ref T.a_NoText) (by rfl) T.g_NoText rfl) (pa_cons (pe_glob (v := .ref T.a_NoSaying) (by rfl) T.g_NoSaying rfl) pa_nil))))))) pa_nil)))) (pss_one (ps_ret pe_str)) pss_nil)
          (pss_one (ps_ret (pe_ifExp (PW.pt (pw_and (pt_val (pe_callB (r := ExIs.rE1 K a cls d) (ExIs.call_e1 hz hf) (by rfl) T.z_isinstance (by decide +kernel) (pa_cons (pv 2) (pa_cons (pe_glob (v := .ref T.a_NoProof) (by rfl) T.g_NoProof rfl) pa_nil)))) (pw_and1 (pt_val (pe_callB (r := ExIs.rE1 K a cls d) (ExIs.call_e1 hz hf) (by rfl) T.z_isinstance (by decide +kernel) (pa_cons (pv 2) (pa_cons (pe_bltn (v := .ty "ValueError") (by rfl) T.z_ValueError (by decide +kernel) rfl) pa_nil))))))) (pe_xf T.f_NoProof T.t_NoProof.noN hz hf (pv 2)) pe_str)))))))
      , ?_⟩
    refine ⟨.ref a, rfl, v, rfl, a, v, acc, d0, rfl, ha, hd, a8, sm, fun H1 f s1 hf => ⟨fun e => ?_, fun ne d nd => ?_⟩⟩
    · subst e
      exact ⟨rfl, _, rfl, iteT (q _ _ s1 hf)⟩
    · refine ⟨true, T.m_NoProof_HouseError, fun _ a0 n0 => ?_, fun z => (nomatch z)⟩
      have e0 : (upd H1 d (.xd [(("where" : Str), .str f)])) d = some (.xd [(("where" : Str), .str f)]) := upd_same
      have s2 : Same H1 (upd H1 d (.xd [(("where" : Str), .str f)])) := same_upd nd
      generalize upd H1 d (.xd [(("where" : Str), .str f)]) = H2 at e0 s2 ⊢
      refine ⟨.ref a0, rfl, by show 8 ≤ sizeLine; exact Nat.le_of_lt (small5000 (by decide)), fun D1 n1 => ?_⟩
      have e1 := same_upd (o := .tup [.ref T.a_NoNet, .ref T.a_NoWay, .ref T.a_NoWagon, .ref T.a_NoRules, .ref T.a_NoPaper, .ref T.a_NotYet, .ref T.a_TooMany, .ref T.a_TooLate]) n1
      refine ⟨T.a_NoProof, D1, _, _, false, rfl, ⟨rfl, d, _, rfl, e1 _ _ e0⟩, T.c_NoProof, upd_same, .cons (.own _) (.cons (.own _) (.cons (.own _) (.cons (.own _) (.cons (.own _) (.cons (.own _) (.cons (.own _) (.cons (.own _) .nil))))))), T.k0_NoProof, _, rfl, iteF ?_⟩
      have e2 := e1 _ _ e0
      have s3 := s2.trans e1
      generalize upd H2 D1 (.tup [.ref T.a_NoNet, .ref T.a_NoWay, .ref T.a_NoWagon, .ref T.a_NoRules, .ref T.a_NoPaper, .ref T.a_NotYet, .ref T.a_TooMany, .ref T.a_TooLate]) = H3 at e2 s3 ⊢
      refine ⟨.ref a0, rfl, by show 6 ≤ sizeLine; exact Nat.le_of_lt (small5000 (by decide)), fun D2 n2 => ?_⟩
      have e3 := same_upd (o := .tup [.ref T.a_NoLine, .ref T.a_Stopped, .ref T.a_NoMonth, .ref T.a_NoBill, .ref T.a_NoText, .ref T.a_NoSaying]) n2
      refine ⟨T.a_NoProof, D2, _, _, false, rfl, ⟨rfl, d, _, rfl, e3 _ _ e2⟩, T.c_NoProof, upd_same, .cons (.own _) (.cons (.own _) (.cons (.own _) (.cons (.own _) (.cons (.own _) (.cons (.own _) .nil))))), T.k1_NoProof, _, rfl, iteF ?_⟩
      have e4 := e3 _ _ e2
      have s4 := s3.trans e3
      generalize upd H3 D2 (.tup [.ref T.a_NoLine, .ref T.a_Stopped, .ref T.a_NoMonth, .ref T.a_NoBill, .ref T.a_NoText, .ref T.a_NoSaying]) = H4 at e4 s4 ⊢
      refine ⟨.ref a0, rfl, T.a_NoProof, _, _, true, rfl, ⟨rfl, d, _, rfl, e4⟩, T.c_NoProof, .own _, T.ks_NoProof, _, rfl, iteT ⟨.ref a0, rfl, T.a_NoProof, _, _, true, rfl, ⟨rfl, d, _, rfl, e4⟩, T.c_NoProof, .ty _, T.kv_NoProof, _, rfl, iteT ?_⟩⟩
      exact ⟨.ref a0, rfl, rfl, rfl, d, _, .str f, rfl, e4, by simp [List.lookup], q _ _ (s1.trans s4) hf⟩
end
end Th
namespace Th
open PySem PySem.Spec PyProof.Rows L2
/-! the law's own: whether any list settles -/
open Py (bit sumsM zI TabTo TabOk wS pS MinZ SgM GrOk Pay payL negR posR nzP nzW FewOk FwM effL)
theorem lkPA_pay {acc : List Int} {ps : List PyData} (h : LkPA acc ps) : ∀ d ∈ ps, isPay acc.length d := fun d hd => by
  obtain ⟨tp, rfl, h, _⟩ := h
  obtain ⟨x, hx, rfl⟩ := List.mem_map.mp hd
  exact isPay_iff.mpr ⟨x, rfl, h x hx⟩
section
variable {P : Program} {w : World} {K : PySem.W.Frag} {mg : Str → Option Value} {base : Heap} {k : Nat}
def sp_l_settles (K : PySem.W.Frag) : Sp := fun vs H Q _ => ∃ (a p : Addr) (acc : List Int) (xs : List V) (ps : List PyData), vs = [.ref a, .ref p] ∧ H a = some (.lst (acc.map V.int)) ∧ H p = some (.lst xs) ∧ DtAll SA H xs ps ∧ ps.length ≤ 100 ∧ acc.length ≤ 100 ∧ (∀ ds, PyData.tuple ds ∈ ps → ds.length ≤ 1000) ∧ ∀ H' b, Same H H' → (b = true ↔ LkPA acc ps) → Q (.bl b) H'
set_option maxHeartbeats 8000000 in
theorem ok_l_settles (T : Defs K mg) : FnOk P w K mg base CX0 (k + 1) T.a_l_settles T.d_l_settles ["_law_accounts_here", "_law_payments"] (sp_l_settles K) := by
  refine T.F_l_settles.ok sc_l_settles (fun vs H Q E h => ?_) (fun cdv A outer s H vs Q E hr h => ?_)
  · obtain ⟨a, p, acc, xs, ps, rfl, _⟩ := h
    rfl
  · obtain ⟨a, p, acc, xs, ps, rfl, ha, hp, hps, tpl, al, sm, q⟩ := h
    refine ⟨_, PSs.nox
(pss_cons (ps_if (pt_not (pt_val (pe_callB (r := rIsi K) call_isi (by rfl) T.z_isinstance (by decide +kernel) (pa_cons (pv 1) (pa_cons (pe_bltn (v := .ty "list") (by rfl) T.z_list (by decide +kernel) rfl) pa_nil)))))
      (pss_one (ps_ret (pe_bl)))
      pss_nil)
    (pss_cons (ps_set (i := 2) sc_l_settles.nd rfl (.inl rfl) (pe_callTy call_list_of (by rfl) T.z_list (by decide +kernel) (pa_cons (pv 0) pa_nil)))
    (pss_cons (ps_for PassesOwn.never rfl (pi_list (pv 1)) (pg_name (i := 3) sc_l_settles.nd rfl (.inl rfl))
      (pss_cons (ps_if (PW.pt (pw_or (pt_not (pt_val (pe_callB (r := rIsi K) call_isi (by rfl) T.z_isinstance (by decide +kernel) (pa_cons (pv 3) (pa_cons (pe_bltn (v := .ty "tuple") (by rfl) T.z_tuple (by decide +kernel) rfl) pa_nil))))) (pw_or1 (pt_cmpR op_ne (pe_callB (r := rLenS K) call_lenS (by rfl) T.z_len (by decide +kernel) (pa_cons (pv 3) pa_nil)) (pe_int) (nomark _)))))
        (pss_one (ps_ret (pe_bl)))
        pss_nil)
      (pss_cons (ps_if (pt_not (pt_val (pe_callB (r := rAll K) (cr_all rfl) (by rfl) T.z_all (by decide +kernel) (pa_cons (pe_lc (own := [("_law_one", 8)]) (g := gName 8) rfl sc_l_settles.nd (pi_tup (pv 3)) (blkOk_by (N := N_l_settles) (sc := defScope s_l_settles) (by decide +kernel)) (fun _ _ _ _ _ => (pg_name (i := 8) sc_l_settles.nd rfl (.inl rfl))) (fun _ _ _ _ _ => pts_nil) (fun _ _ _ _ _ => (pe_and (pe_callB (r := rIsi K) call_isi (by rfl) T.z_isinstance (by decide +kernel) (pa_cons (pv 8) (pa_cons (pe_bltn (v := .ty "int") (by rfl) T.z_int (by decide +kernel) rfl) pa_nil))) (pe_one (pe_not (pe_callB (r := rIsi K) call_isi (by rfl) T.z_isinstance (by decide +kernel) (pa_cons (pv 8) (pa_cons (pe_bltn (v := .ty "bool") (by rfl) T.z_bool (by decide +kernel) rfl) pa_nil)))))))) pa_nil))))
        (pss_one (ps_ret (pe_bl)))
        pss_nil)
      (pss_cons (ps_asg (pv 3) (pg_tup rfl (pgs_cons (pg_name (i := 4) sc_l_settles.nd rfl (.inl rfl)) (pgs_cons (pg_name (i := 5) sc_l_settles.nd rfl (.inl rfl)) (pgs_cons (pg_name (i := 6) sc_l_settles.nd rfl (.inl rfl)) pgs_nil)))))
      (pss_cons (ps_set (i := 7) sc_l_settles.nd rfl (.inl rfl) (pe_callB (r := rLenS K) call_lenS (by rfl) T.z_len (by decide +kernel) (pa_cons (pv 0) pa_nil)))
      (pss_cons (ps_if (PW.pt (pw_or (pt_not (pt_chain op_le op_lt (pe_int) (pv 4) (pv 7))) (pw_or (pt_not (pt_chain op_le op_lt (pe_int) (pv 5) (pv 7))) (pw_or (pt_cmpR op_eq (pv 4) (pv 5) (nomark _)) (pw_or1 (pt_cmpR op_lt (pv 6) (pe_int) (nomark _)))))))
        (pss_one (ps_ret (pe_bl)))
        pss_nil)
      (pss_cons (ps_augS (pv 2) (pv 4) get_listN (pv 6) ip_add set_list)
      (pss_one (ps_augS (pv 2) (pv 5) get_listN (pv 6) ip_sub set_list)))))))))
    (pss_one (ps_ret (pe_not (pe_callB (r := Mx.rAnyI K) (Mx.cr_anyI rfl) (by rfl) T.z_any (by decide +kernel) (pa_cons (pv 2) pa_nil))))))))
      , ?_⟩
    have xl := dtAll_len hps
    refine ⟨.ref p, rfl, .ref p, .ty "list", _, _, _, rfl, .ty "list", .base (.lst hp), kit_ty (a := "list") (b := "list") (r := true) (by decide +kernel), _, rfl, iteF ?_⟩
    refine ⟨.ref a, rfl, a, _, rfl, .inl (SqL.of ha), fun F nF => ?_⟩
    have sF := same_upd (o := .lst (acc.map V.int)) nF
    refine ⟨.ref p, rfl, p, rfl, ⟨_, SqL.of (sF _ _ hp)⟩, ?_⟩
    have pF : p ≠ F := fun z => by rw [z, nF] at hp; cases hp
    have aF : a ≠ F := fun z => by rw [z, nF] at ha; cases ha
    refine for_it (walk_list (xs := xs)) (fun i σ Hx => ∃ (y3 y4 y5 y6 y7 : Option V) (zs : List Int) (tp : List Pay), σ = [some (.ref a), some (.ref p), some (.ref F), y3, y4, y5, y6, y7, none] ∧ Same H Hx ∧ Hx F = some (.lst (zs.map V.int)) ∧ zs.length = acc.length ∧ ps.take i = tp.map payD ∧ (∀ t ∈ tp, PayB acc.length t) ∧ ∀ z, z < acc.length → zs.getD z 0 = acc.getD z 0 + effL tp z)
      ⟨_, _, _, _, _, acc, [], rfl, sF, upd_same, rfl, rfl, fun _ h => (by cases h), fun z _ => (Int.add_zero _).symm⟩ (fun i σ Hx _ hp' => ?_) (fun i v σ Hx₀ Hx hi hp' yy => ?_) (fun σ Hx hp' => ?_)
    · obtain ⟨_, _, _, _, _, _, _, _, sx, _⟩ := hp'
      exact SqL.of (sx _ _ hp)
    · obtain ⟨rfl, ey⟩ := yy
      obtain ⟨y3, y4, y5, y6, y7, zs, tp, rfl, sx, eF, zl, etp, htp, hzs⟩ := hp'
      obtain ⟨d, ed, hd0⟩ := dtAll_get hps ey
      have hd := hd0.same sx
      have hmem := List.mem_of_getElem? ed
      have no : ∀ {G : Hp}, Same H G → ¬ isPay acc.length d → Q (.bl false) G := fun sg c => q _ false sg ⟨fun z => (nomatch z), fun z => absurd (lkPA_pay z d hmem) c⟩
      refine ⟨v, rfl, v, .ty "tuple", _, _, _, rfl, .ty "tuple", hd.ty, kitTu d, _, rfl, ?_⟩
      by_cases c0 : isTD d = true
      case neg =>
        rw [Bool.eq_false_iff.mpr c0]
        refine iteT (no sx fun c => c0 ?_)
        obtain ⟨x, rfl, _⟩ := isPay_iff.mp c
        rfl
      rw [c0]
      obtain ⟨t, ys, dd, rfl, rfl, tx, hdd⟩ : ∃ (t : Addr) (ys : List V) (dd : List PyData), d = .tuple dd ∧ v = .ref t ∧ Hx t = some (.tup ys) ∧ DtAll SA Hx ys dd := by
        cases hd with
        | tup _ et _ hx => exact ⟨_, _, _, rfl, rfl, et, hx⟩
        | _ => exact absurd (show (false : Bool) = true from c0) (by decide)
      have yl := dtAll_len hdd
      have dsm := sm dd hmem
      refine iteF ⟨.ref t, rfl, t, _, rfl, .inr (SqT.of tx), rfl, _, rfl, ?_⟩
      rw [yl]
      by_cases c3 : dd.length = 3
      case neg =>
        rw [decide_eq_false (fun z => c3 (by injection z with z; omega) : ¬ V.int (dd.length : Int) = V.int 3)]
        refine iteT (no sx fun c => c3 ?_)
        obtain ⟨x, e, _⟩ := isPay_iff.mp c
        cases e
        rfl
      rw [c3]
      refine iteF ?_
      refine ⟨.ref t, rfl, t, rfl, ⟨_, SqT.of tx⟩, fun D nD => ?_⟩
      refine lc_it (walk_tup (xs := ys)) (fun j Hy => Same Hx Hy ∧ Hy D = some (.lst (((dd.map wholeD).take j).map V.bl))) ⟨same_upd nD, upd_same⟩ (fun j Hy _ pv => SqT.of (pv.1 _ _ tx)) (fun j v Hy₀ Hy hj pv yy => ?_) (fun H7 pv => ?_)
      · obtain ⟨rfl, ey⟩ := yy
        obtain ⟨sy, eD⟩ := pv
        obtain ⟨d', ed', hd'⟩ := dtAll_get hdd ey
        have hd' := hd'.same sy
        have sz : ((((dd.map wholeD).take j).map V.bl)).length < sizeLine := by
          rw [List.length_map, List.length_take]
          exact small5000 (by omega)
        have nx : (((dd.map wholeD).take (j + 1)).map V.bl) = (((dd.map wholeD).take j).map V.bl) ++ [V.bl (wholeD d')] := by
          rw [List.take_add_one, List.getElem?_map, ed', List.map_append]
          rfl
        rw [nx]
        refine ⟨rfl, yes_ ⟨v, rfl, v, .ty "int", _, _, _, rfl, .ty "int", hd'.ty, kitI d', _, rfl, ?_⟩⟩
        by_cases c : intD d' = true
        · rw [c]
          refine iteT ⟨v, rfl, v, .ty "bool", _, _, _, rfl, .ty "bool", hd'.ty, kitBo d', _, rfl, _, eD, sz, same_set sy nD, ?_⟩
          have e : (!boolD d') = wholeD d' := by cases d' <;> first | rfl | cases c
          rw [upd_same, e]
        · rw [Bool.eq_false_iff.mpr c]
          have e : wholeD d' = false := by cases d' <;> first | rfl | exact absurd rfl c
          refine iteF ⟨_, eD, sz, same_set sy nD, ?_⟩
          rw [upd_same, e]
      obtain ⟨s7, eD⟩ := pv
      have sx7 := sx.trans s7
      rw [yl, List.take_of_length_le (by rw [List.length_map]; exact Nat.le_refl _)] at eD
      refine ⟨D, _, rfl, SqL.of eD, _, rfl, ?_⟩
      by_cases call : (dd.map wholeD).all id = true
      case neg =>
        rw [Bool.eq_false_iff.mpr call]
        refine iteT (no sx7 fun c => call ?_)
        obtain ⟨x, e, _⟩ := isPay_iff.mp c
        cases e
        rfl
      rw [call]
      refine iteF ?_
      obtain ⟨tab, etab⟩ := whole_tab call
      subst etab
      cases dtAll_int hdd
      rw [List.length_map] at c3
      obtain ⟨pi, qi, m, rfl⟩ : ∃ pi qi m : Int, tab = [pi, qi, m] := by
        match tab, c3 with
        | [x, y, z], _ => exact ⟨x, y, z, rfl⟩
      have tx7 := s7 _ _ tx
      have eF7 := s7 _ _ eF
      refine ⟨.ref t, rfl, t, _, rfl, SqT.of tx7, rfl, _, _, rfl, _, _, rfl, _, [], rfl, rfl, ?_⟩
      have ha7 := sx7 _ _ ha
      refine ⟨.ref a, rfl, a, _, rfl, .inl (SqL.of ha7), ?_⟩
      have lV : (acc.map V.int).length = acc.length := List.length_map _
      rw [lV]
      have no7 : (∀ x : Pay, ((x.1 : Int), ((x.2.1 : Int), x.2.2)) = (pi, qi, m) → ¬ PayB acc.length x) → Q (.bl false) H7 := fun h => no sx7 fun c => by
        obtain ⟨x, e, hx⟩ := isPay_iff.mp c
        injection e with e
        injection e with e1 e
        injection e with e2 e
        injection e with e3 e
        injection e1 with e1
        injection e2 with e2
        injection e3 with e3
        exact h x (by rw [e1, e2, e3]) hx
      refine ⟨.int pi, rfl, _, _, rfl, rfl, _, rfl, ?_⟩
      have one : ∀ x : Pay, ((x.1 : Int), ((x.2.1 : Int), x.2.2)) = (pi, qi, m) → (x.1 : Int) = pi ∧ (x.2.1 : Int) = qi ∧ x.2.2 = m := fun x e => by
        simp only [Prod.mk.injEq] at e
        exact e
      by_cases p0 : 0 ≤ pi
      case neg =>
        rw [decide_eq_false p0]
        exact iteF ⟨_, rfl, iteT (no7 fun x e h => p0 (by have := one x e; omega))⟩
      rw [decide_eq_true p0]
      refine iteT ⟨_, rfl, _, _, rfl, rfl, _, rfl, ?_⟩
      by_cases p1 : pi < (acc.length : Int)
      case neg =>
        rw [decide_eq_false p1]
        exact iteT (no7 fun x e h => p1 (by have := one x e; have := h.1; omega))
      rw [decide_eq_true p1]
      refine iteF ⟨.int qi, rfl, _, _, rfl, rfl, _, rfl, ?_⟩
      by_cases q0 : 0 ≤ qi
      case neg =>
        rw [decide_eq_false q0]
        exact iteF ⟨_, rfl, iteT (no7 fun x e h => q0 (by have := one x e; omega))⟩
      rw [decide_eq_true q0]
      refine iteT ⟨_, rfl, _, _, rfl, rfl, _, rfl, ?_⟩
      by_cases q1 : qi < (acc.length : Int)
      case neg =>
        rw [decide_eq_false q1]
        exact iteT (no7 fun x e h => q1 (by have := one x e; have := h.2.1; omega))
      rw [decide_eq_true q1]
      refine iteF ⟨.int pi, rfl, .int qi, rfl, rfl, _, rfl, ?_⟩
      by_cases pq : pi = qi
      · rw [decide_eq_true (by rw [pq] : V.int pi = V.int qi)]
        exact iteT (no7 fun x e h => h.2.2.1 (by have := one x e; omega))
      rw [decide_eq_false (fun z => pq (by injection z) : ¬ V.int pi = V.int qi)]
      refine iteF ⟨.int m, rfl, _, 1, rfl, rfl, _, rfl, ?_⟩
      by_cases m1 : m < 1
      · rw [decide_eq_true m1]
        exact iteT (no7 fun x e h => by have := one x e; have := h.2.2.2; omega)
      rw [decide_eq_false m1]
      refine iteF ?_
      obtain ⟨px, rfl⟩ : ∃ px : Nat, pi = (px : Int) := ⟨pi.toNat, by omega⟩
      obtain ⟨qx, rfl⟩ : ∃ qx : Nat, qi = (qx : Int) := ⟨qi.toNat, by omega⟩
      have h1' : px < acc.length := by omega
      have h2' : qx < acc.length := by omega
      have h3' : px ≠ qx := fun z => pq (by rw [z])
      have hpz : px < zs.length := by omega
      have hqz : qx < zs.length := by omega
      refine ⟨.ref F, rfl, .int (px : Int), rfl, F, _, px, .int (zs.getD px 0), rfl, rfl, eF7, by rw [List.getElem?_map, List.getD_eq_getElem?_getD, List.getElem?_eq_getElem hpz]; rfl, .int m, rfl, _, _, rfl, rfl, F, _, (px : Int), px, rfl, rfl, eF7, by rw [List.length_map]; exact ix_nat hpz, ?_⟩
      rw [show ((zs.map V.int).set px ((fun i j : Int => V.int (i + j)) (zs.getD px 0) m)) = (zs.set px (zs.getD px 0 + m)).map V.int from map_set]
      have eF8 : (upd H7 F (.lst ((zs.set px (zs.getD px 0 + m)).map V.int))) F = some (.lst ((zs.set px (zs.getD px 0 + m)).map V.int)) := upd_same
      have l8 : (zs.set px (zs.getD px 0 + m)).length = acc.length := by rw [List.length_set, zl]
      have g8 : ∀ z, (zs.set px (zs.getD px 0 + m)).getD z 0 = if px = z then zs.getD px 0 + m else zs.getD z 0 := fun z => set_getD hpz
      generalize zs.set px (zs.getD px 0 + m) = ws at eF8 l8 g8 ⊢
      have hqw : qx < ws.length := by omega
      refine ⟨.ref F, rfl, .int (qx : Int), rfl, F, _, qx, .int (ws.getD qx 0), rfl, rfl, eF8, by rw [List.getElem?_map, List.getD_eq_getElem?_getD, List.getElem?_eq_getElem hqw]; rfl, .int m, rfl, _, _, rfl, rfl, F, _, (qx : Int), qx, rfl, rfl, eF8, by rw [List.length_map]; exact ix_nat hqw, ?_⟩
      rw [show ((ws.map V.int).set qx ((fun i j : Int => V.int (i - j)) (ws.getD qx 0) m)) = (ws.set qx (ws.getD qx 0 - m)).map V.int from map_set]
      refine ⟨_, _, _, _, _, ws.set qx (ws.getD qx 0 - m), tp ++ [(px, qx, m)], rfl, same_set (same_set sx7 nF) nF, upd_same, by rw [List.length_set, l8], ?_, fun t ht => ?_, fun z hz' => ?_⟩
      · rw [List.take_add_one, ed, etp, List.map_append]
        rfl
      · rcases List.mem_append.mp ht with ht | ht
        · exact htp t ht
        · cases List.mem_singleton.mp ht
          exact ⟨h1', h2', h3', by show 1 ≤ m; omega⟩
      have e1 := hzs z hz'
      rw [set_getD hqw, g8, g8, Py.effL_app, Py.effL_cons]
      show _ = _ + (_ + ((if px = z then m else 0) - (if qx = z then m else 0) + 0))
      by_cases c1 : px = z
      · subst c1
        rw [if_pos rfl, if_pos rfl, if_neg (fun w => h3' w.symm), if_neg (fun w => h3' w.symm)]
        omega
      · rw [if_neg c1, if_neg c1]
        by_cases c2 : qx = z
        · subst c2
          rw [if_pos rfl, if_pos rfl, if_neg h3']
          omega
        · rw [if_neg c2, if_neg c2]
          omega
    · obtain ⟨y3, y4, y5, y6, y7, zs, tp, rfl, sx, eF, zl, etp, htp, hzs⟩ := hp'
      rw [xl, List.take_length] at etp
      refine ⟨.ref F, rfl, F, zs, rfl, SqL.of eF, ?_⟩
      refine ⟨_, rfl, q _ _ sx ⟨fun c => ⟨tp, etp, htp, fun i hi => ?_⟩, fun ⟨tp', e', _, hz⟩ => ?_⟩⟩
      · have c : (zs.any fun z => z != 0) = false := by
          rw [Bool.not_eq_true'] at c
          exact c
        rw [List.any_eq_false] at c
        have e := hzs i hi
        have hi' : i < zs.length := by omega
        rw [List.getD_eq_getElem?_getD, List.getElem?_eq_getElem hi'] at e
        have c1 := c _ (List.getElem_mem hi')
        have c2 : zs[i] = 0 := by
          by_cases y : zs[i] = 0
          · exact y
          · exact absurd (bne_iff_ne.mpr y) c1
        have e : zs[i] = _ := e
        omega
      · cases pays_inj (etp.symm.trans e')
        have hall : (zs.any fun z => z != 0) = false := by
          rw [List.any_eq_false]
          intro z hz' c
          obtain ⟨i, hi⟩ := List.getElem?_of_mem hz'
          have hi' := (List.getElem?_eq_some_iff.mp hi).1
          have e := hzs i (by omega)
          rw [hz i (by omega), List.getD_eq_getElem?_getD, hi] at e
          have e : z = 0 := e
          rw [e] at c
          exact absurd c (by decide)
        rw [hall]
        rfl
end
end Th
namespace Th
open PySem PySem.Spec PyProof.Rows L2
/-! the law's own: sums, any list as a table -/
open Py (bit sumsM zI TabTo TabOk wS pS MinZ SgM GrOk Pay payL negR posR nzP nzW FewOk FwM effL)
section
variable {P : Program} {w : World} {K : PySem.W.Frag} {mg : Str → Option Value} {base : Heap} {k : Nat}
def sp_l_sums (K : PySem.W.Frag) : Sp := fun vs H Q _ => ∃ (l : Addr) (ws : List Int), vs = [.ref l] ∧ SqL K H l (ws.map V.int) ∧ ws.length ≤ 8 ∧
  ∀ H' p, Same H H' → H p = none → H' p = some (.lst ((sumsM (ws.filter fun z => decide (z ≠ 0))).map V.int)) → Q (.ref p) H'
theorem ok_l_sums (T : Defs K mg) : FnOk P w K mg base CX0 (k + 1) T.a_l_sums T.d_l_sums ["_law_accounts_here"] (sp_l_sums K) := by
  refine T.F_l_sums.ok sc_l_sums (fun vs H Q E h => ?_) (fun cdv A outer s H vs Q E hr h => ?_)
  · obtain ⟨l, ws, rfl, _⟩ := h
    rfl
  · obtain ⟨l, ws, rfl, hl, w8, q⟩ := h
    refine ⟨_, PSs.nox
(pss_cons (ps_set (i := 1) sc_l_sums.nd rfl (.inl rfl) (pe_lst (pa_cons (pe_int) pa_nil)))
    (pss_cons (ps_for PassesOwn.never rfl (pi_list (pv 0)) (pg_name (i := 2) sc_l_sums.nd rfl (.inr rfl))
      (pss_one (ps_if (pt_cmpR op_ne (pv 2) (pe_int) (nomark _))
        (pss_one (ps_set (i := 1) sc_l_sums.nd rfl (.inl rfl) (pe_op op_cat (pv 1) (pe_lc (own := [("_law_one", 3)]) (g := gName 3) rfl sc_l_sums.nd (pi_list (pv 1)) (blkOk_by (N := N_l_sums) (sc := defScope s_l_sums) (by decide +kernel)) (fun _ _ _ _ _ => (pg_name (i := 3) sc_l_sums.nd rfl (.inl rfl))) (fun _ _ _ _ _ => pts_nil) (fun _ _ _ _ _ => (pe_op op_add (pv 3) (pv 2)))))))
        pss_nil)))
    (pss_one (ps_ret (pv 1)))))
      , ?_⟩
    refine ⟨by show 1 ≤ sizeLine; decide, fun F nF => ?_⟩
    have sF := same_upd (o := .lst [V.int 0]) nF
    refine ⟨.ref l, rfl, l, rfl, ⟨_, sq_same sF hl⟩, ?_⟩
    refine for_it (walk_list (xs := ws.map V.int)) (fun i σ Hx => ∃ (F : Addr) (y2 : Option V), σ = [some (.ref l), some (.ref F), y2, none] ∧ Same H Hx ∧ H F = none ∧ Hx F = some (.lst ((sumsM ((ws.take i).filter fun z => decide (z ≠ 0))).map V.int)))
      ⟨F, none, rfl, sF, nF, upd_same⟩ (fun i σ Hx _ hp => ?_) (fun i v σ Hx₀ Hx hi hp yy => ?_) (fun σ Hx hp => ?_)
    · obtain ⟨_, _, _, sx, _⟩ := hp
      exact sq_same sx hl
    · obtain ⟨rfl, ex⟩ := yy
      obtain ⟨F, y2, rfl, sx, nF, eF⟩ := hp
      rw [List.length_map] at hi
      have ev : v = .int ws[i] := by
        rw [List.getElem?_map, List.getElem?_eq_getElem hi] at ex
        exact (Option.some.inj ex).symm
      subst ev
      have tk : (ws.take (i + 1)).filter (fun z => decide (z ≠ 0)) = (ws.take i).filter (fun z => decide (z ≠ 0)) ++ if ws[i] ≠ 0 then [ws[i]] else [] := by
        rw [List.take_add_one, List.getElem?_eq_getElem hi, List.filter_append]
        congr 1
        show List.filter _ [ws[i]] = _
        rw [List.filter_cons]
        by_cases c : ws[i] ≠ 0
        · rw [if_pos (decide_eq_true c), if_pos c]; rfl
        · rw [if_neg (fun z => c (of_decide_eq_true z)), if_neg c]; rfl
      have fl : ((ws.take i).filter fun z => decide (z ≠ 0)).length ≤ i := Nat.le_trans (List.length_filter_le _ _) (by rw [List.length_take]; omega)
      rw [tk]
      have sl := Py.sumsM_len ((ws.take i).filter fun z => decide (z ≠ 0))
      generalize ((ws.take i).filter fun z => decide (z ≠ 0)) = us at eF fl sl ⊢
      have p8 := pow8 (n := us.length) (by omega)
      refine ⟨.int ws[i], rfl, rfl, _, rfl, ite2 (fun c => ?_) (fun c => ?_)⟩
      · have c : ws[i] ≠ 0 := fun z => by rw [z] at c; simp at c
        rw [if_pos c]
        refine ⟨.ref F, rfl, .ref F, rfl, F, rfl, ⟨_, SqL.of eF⟩, fun D nD => ?_⟩
        refine lc_it (walk_list (xs := (sumsM us).map V.int)) (fun j Hy => Same Hx Hy ∧ Hy D = some (.lst ((((sumsM us).map (· + ws[i])).take j).map V.int))) ⟨same_upd nD, upd_same⟩ (fun j Hy _ pv => SqL.of (pv.1 _ _ eF)) (fun j v Hy₀ Hy hj pv yy => ?_) (fun Hy pv => ?_)
        · obtain ⟨rfl, ey⟩ := yy
          obtain ⟨sy, eD⟩ := pv
          rw [List.length_map] at hj
          have ev : v = .int (sumsM us)[j] := by
            rw [List.getElem?_map, List.getElem?_eq_getElem hj] at ey
            exact (Option.some.inj ey).symm
          subst ev
          refine ⟨rfl, yes_ ⟨.int (sumsM us)[j], rfl, .int ws[i], rfl, _, _, rfl, rfl, _, eD, ?_, same_set sy nD, ?_⟩⟩
          · rw [List.length_map, List.length_take, List.length_map]
            exact small5000 (by omega)
          · rw [upd_same, List.take_add_one, List.getElem?_map, List.getElem?_eq_getElem hj, List.map_append]
            rfl
        · obtain ⟨sy, eD⟩ := pv
          rw [List.length_map, List.take_of_length_le (by rw [List.length_map]; exact Nat.le_refl _)] at eD
          refine ⟨F, D, _, _, rfl, rfl, sy _ _ eF, eD, ?_, fun G nG => ?_⟩
          · rw [List.length_map, List.length_map, List.length_map]
            exact Nat.le_of_lt (small5000 (by omega))
          refine ⟨G, _, rfl, (sx.trans sy).trans (same_upd nG), up0 sx (up0 sy nG), ?_⟩
          rw [upd_same, Py.sumsM_snoc, List.map_append]
      · have c : ¬ ws[i] ≠ 0 := fun z => c (by
          simp only [ne_eq, Bool.not_eq_true', decide_eq_false_iff_not]
          exact fun w => z (by injection w))
        rw [if_neg c, List.append_nil]
        exact ⟨F, _, rfl, sx, nF, eF⟩
    · obtain ⟨F, y2, rfl, sx, nF, eF⟩ := hp
      rw [List.length_map, List.take_length] at eF
      exact ⟨.ref F, rfl, q Hx F sx nF eF⟩
def sp_l_is_table (K : PySem.W.Frag) : Sp := fun vs H Q _ => ∃ (a t : Addr) (acc : List Int) (xs : List V) (ds : List PyData), vs = [.ref a, .ref t] ∧ SqL K H a (acc.map V.int) ∧ H t = some (.lst xs) ∧ DtAll SA H xs ds ∧ acc.length ≤ 8 ∧ ds.length ≤ 1000 ∧ (∀ d, ds[0]? = some d → SeqAt.shaped d = true) ∧ ∀ H' b, Same H H' → (b = true ↔ isTab (nzW acc) ds) → Q (.bl b) H'
set_option maxHeartbeats 8000000 in
theorem ok_l_is_table (T : Defs K mg) : FnOk P w K mg base CX0 (k + 2) T.a_l_is_table T.d_l_is_table ["_law_accounts_here", "_law_table"] (sp_l_is_table K) := by
  have G_l_sums : FnOk P w K mg base CX0 (k + 1) _ _ _ _ := ok_l_sums (k := k) T
  refine T.F_l_is_table.ok sc_l_is_table (fun vs H Q E h => ?_) (fun cdv A outer s H vs Q E hr h => ?_)
  · obtain ⟨a, t, acc, xs, ds, rfl, _⟩ := h
    rfl
  · obtain ⟨a, t, acc, xs, ds, rfl, ha, ht, hds, a8, t8, sh, q⟩ := h
    refine ⟨_, PSs.nox
(pss_cons (ps_set (i := 2) sc_l_is_table.nd rfl (.inl rfl) (pe_call G_l_sums hr (by rfl) T.g_l_sums T.F_l_sums.kp T.b_l_sums .nil pass0 (pa_cons (pv 0) pa_nil)))
    (pss_cons (ps_if (PW.pt (pw_or (pt_not (pt_val (pe_callB (r := rIsi K) call_isi (by rfl) T.z_isinstance (by decide +kernel) (pa_cons (pv 1) (pa_cons (pe_bltn (v := .ty "list") (by rfl) T.z_list (by decide +kernel) rfl) pa_nil))))) (pw_or (pt_cmpR op_ne (pe_callB (r := rLenS K) call_lenS (by rfl) T.z_len (by decide +kernel) (pa_cons (pv 1) pa_nil)) (pe_callB (r := rLenS K) call_lenS (by rfl) T.z_len (by decide +kernel) (pa_cons (pv 2) pa_nil)) (nomark _)) (pw_or1 (pt_cmpR (r := rNeD K) (op_neD hr.units) (pe_ix (r := rIxL K) ix_list (pv 1) (pe_int) (fun _ _ => rfl)) (pe_int) (nomark _))))))
      (pss_one (ps_ret (pe_bl)))
      pss_nil)
    (pss_cons (ps_if (pt_not (pt_val (pe_callB (r := rAll K) (cr_all rfl) (by rfl) T.z_all (by decide +kernel) (pa_cons (pe_lc (own := [("_law_one", 6)]) (g := gName 6) rfl sc_l_is_table.nd (pi_list (pv 1)) (blkOk_by (N := N_l_is_table) (sc := defScope s_l_is_table) (by decide +kernel)) (fun _ _ _ _ _ => (pg_name (i := 6) sc_l_is_table.nd rfl (.inl rfl))) (fun _ _ _ _ _ => pts_nil) (fun _ _ _ _ _ => (pe_and (pe_callB (r := rIsi K) call_isi (by rfl) T.z_isinstance (by decide +kernel) (pa_cons (pv 6) (pa_cons (pe_bltn (v := .ty "int") (by rfl) T.z_int (by decide +kernel) rfl) pa_nil))) (pe_one (pe_not (pe_callB (r := rIsi K) call_isi (by rfl) T.z_isinstance (by decide +kernel) (pa_cons (pv 6) (pa_cons (pe_bltn (v := .ty "bool") (by rfl) T.z_bool (by decide +kernel) rfl) pa_nil)))))))) pa_nil))))
      (pss_one (ps_ret (pe_bl)))
      pss_nil)
    (pss_cons (ps_for PassesOwn.never rfl (pi_range2 (by rfl) T.z_range (pa_cons (pe_int) (pa_cons (pe_callB (r := rLenS K) call_lenS (by rfl) T.z_len (by decide +kernel) (pa_cons (pv 2) pa_nil)) pa_nil))) (pg_name (i := 3) sc_l_is_table.nd rfl (.inl rfl))
      (pss_cons (ps_set (i := 4) sc_l_is_table.nd rfl (.inl rfl) (pe_int))
      (pss_one (ps_while PassesOwn.never (pt_cmpR op_le (pv 4) (pv 3) (nomark _))
        (pss_cons (ps_set (i := 5) sc_l_is_table.nd rfl (.inl rfl) (pe_op op_add (pe_ix (r := rIxL K) ix_list (pv 1) (pe_op op_sub (pv 3) (pv 4)) (fun _ _ => rfl)) (pe_callTy call_int1 (by rfl) T.z_int (by decide +kernel) (pa_cons (pe_cmpR op_eq (pe_ix (r := rIxL K) ix_list (pv 2) (pv 3) (fun _ _ => rfl)) (pe_int) (nomark _)) pa_nil))))
        (pss_cons (ps_if (PW.pt (pw_and (pt_cmpR op_eq (pe_op op_mod (pe_op op_fdiv (pv 3) (pv 4)) (pe_int)) (pe_int) (nomark _)) (pw_and1 (pt_cmpR op_lt (pe_ix (r := rIxL K) ix_list (pv 1) (pv 3) (fun _ _ => rfl)) (pv 5) (nomark _)))))
          (pss_one (ps_ret (pe_bl)))
          pss_nil)
        (pss_one (ps_set (i := 4) sc_l_is_table.nd rfl (.inl rfl) (pe_op op_mul (pe_int) (pv 4))))))))))
    (pss_one (ps_ret (pe_bl)))))))
      , ?_⟩
    refine ⟨.ref a, rfl, a, acc, rfl, ha, a8, fun H1 S s1 nS eS => ?_⟩
    rw [← Py.nzW_eq] at eS
    have nl := Py.nzP_len acc
    have nwl := Py.nzW_len acc
    have w8 : (nzW acc).length ≤ 8 := by omega
    generalize nzW acc = ws at eS w8 q
    have sl := Py.sumsM_len ws
    have p8 := pow8 w8
    have p0 : 0 < 2 ^ ws.length := Nat.pow_pos (by decide)
    have ht1 := s1 _ _ ht
    have xl := dtAll_len hds
    have no : ∀ {G : Hp}, Same H G → ¬ isTab ws ds → Q (.bl false) G := fun sg c => q _ false sg ⟨fun z => (nomatch z), fun z => absurd z c⟩
    refine ⟨.ref t, rfl, .ref t, .ty "list", _, _, _, rfl, .ty "list", .base (.lst ht1), kit_ty (a := "list") (b := "list") (r := true) (by decide +kernel), _, rfl, iteF ⟨.ref t, rfl, t, _, rfl, .inl (SqL.of ht1), .ref S, rfl, S, _, rfl, .inl (SqL.of eS), rfl, _, rfl, ?_⟩⟩
    rw [List.length_map, sl, xl]
    refine ite2 (fun c => ?_) (fun c => ?_)
    · refine no s1 fun ⟨tab, e, h⟩ => ?_
      rw [e, List.length_map, h.len] at c
      simp at c
    have tl0 : ds.length = 2 ^ ws.length := by
      by_cases z : ds.length = 2 ^ ws.length
      · exact z
      · exact absurd (by simp; exact fun y => z (by exact_mod_cast y)) c
    obtain ⟨v0, d0, ev0, ed0, hd0⟩ : ∃ v0 d0, xs[0]? = some v0 ∧ ds[0]? = some d0 ∧ Dt SA H v0 d0 := by
      cases hds with
      | nil => exact absurd tl0 (by show ¬ 0 = _; omega)
      | cons r _ => exact ⟨_, _, rfl, rfl, r⟩
    refine ⟨.ref t, rfl, t, _, (0 : Int), v0, rfl, rfl, SqL.of ht1, atI_nat (j := 0) ev0, d0, .int 0, (hd0.same s1).dp, (Dt.int (S := SA) (H := H1) 0).dp, sh d0 ed0, by decide +kernel, _, rfl, ?_⟩
    by_cases g00 : PyData.eqv d0 (.int 0) = true
    case neg =>
      rw [Bool.eq_false_iff.mpr g00]
      refine iteT (no s1 fun ⟨tab, e, h⟩ => g00 ?_)
      have z := h.zero
      have l := h.len
      cases tab with
      | nil => exact absurd l (by show ¬ 0 = _; omega)
      | cons z0 tab =>
        rw [e] at ed0
        cases ed0
        rw [show z0 = 0 from z]
        decide +kernel
    rw [g00]
    refine iteF ?_
    refine ⟨.ref t, rfl, t, rfl, ⟨_, SqL.of ht1⟩, fun D nD => ?_⟩
    refine lc_it (walk_list (xs := xs)) (fun j Hy => Same H1 Hy ∧ Hy D = some (.lst (((ds.map wholeD).take j).map V.bl))) ⟨same_upd nD, upd_same⟩ (fun j Hy _ pv => SqL.of (pv.1 _ _ ht1)) (fun j v Hy₀ Hy hj pv yy => ?_) (fun H2 pv => ?_)
    · obtain ⟨rfl, ey⟩ := yy
      obtain ⟨sy, eD⟩ := pv
      obtain ⟨d', ed', hd'⟩ := dtAll_get hds ey
      have hd' := hd'.same (s1.trans sy)
      have sz : ((((ds.map wholeD).take j).map V.bl)).length < sizeLine := by
        rw [List.length_map, List.length_take, List.length_map]
        exact small5000 (by omega)
      have nx : (((ds.map wholeD).take (j + 1)).map V.bl) = (((ds.map wholeD).take j).map V.bl) ++ [V.bl (wholeD d')] := by
        rw [List.take_add_one, List.getElem?_map, ed', List.map_append]
        rfl
      rw [nx]
      refine ⟨rfl, yes_ ⟨v, rfl, v, .ty "int", _, _, _, rfl, .ty "int", hd'.ty, kitI d', _, rfl, ?_⟩⟩
      by_cases c : intD d' = true
      · rw [c]
        refine iteT ⟨v, rfl, v, .ty "bool", _, _, _, rfl, .ty "bool", hd'.ty, kitBo d', _, rfl, _, eD, sz, same_set sy nD, ?_⟩
        have e : (!boolD d') = wholeD d' := by cases d' <;> first | rfl | cases c
        rw [upd_same, e]
      · rw [Bool.eq_false_iff.mpr c]
        have e : wholeD d' = false := by cases d' <;> first | rfl | exact absurd rfl c
        refine iteF ⟨_, eD, sz, same_set sy nD, ?_⟩
        rw [upd_same, e]
    obtain ⟨s2, eD⟩ := pv
    rw [xl, List.take_of_length_le (by rw [List.length_map]; exact Nat.le_refl _)] at eD
    refine ⟨D, _, rfl, SqL.of eD, _, rfl, ?_⟩
    by_cases call : (ds.map wholeD).all id = true
    case neg =>
      rw [Bool.eq_false_iff.mpr call]
      refine iteT (no (s1.trans s2) fun ⟨tab, e, h⟩ => call ?_)
      rw [e]
      exact whole_of tab
    rw [call]
    refine iteF ?_
    obtain ⟨tab, etab⟩ := whole_tab call
    subst etab
    cases dtAll_int hds
    have tl : tab.length = 2 ^ ws.length := by rw [List.length_map] at tl0; exact tl0
    have q : ∀ H' b, Same H H' → (b = true ↔ TabGe ws tab) → Q (.bl b) H' := fun H' b sh hb => q H' b sh (hb.trans ⟨fun h => ⟨tab, rfl, h⟩, fun ⟨tab', e, h⟩ => by rw [ints_inj e]; exact h⟩)
    have at_tab : ∀ {p : Nat}, p < tab.length → atI (tab.map V.int) (p : Int) = some (.int (tab.getD p 0)) := fun {p} h => atI_nat (by
      rw [List.getElem?_map, List.getD_eq_getElem?_getD, List.getElem?_eq_getElem h]
      rfl)
    have g0 : tab.getD 0 0 = 0 := by
      cases tab with
      | nil => rfl
      | cons z0 tab =>
        cases ed0
        have e := PySem.W.Datum.eqv (α := Int) z0 0
        exact of_decide_eq_true (e.symm.trans g00)
    have ht2 := s2 _ _ ht1
    have eS2 := s2 _ _ eS
    have s12 := s1.trans s2
    refine ⟨.ref S, rfl, S, _, rfl, .inl (SqL.of eS2), 1, _, rfl, ⟨by decide, by decide, by rw [List.length_map, sl]; omega, by rw [List.length_map, sl]; omega⟩, ?_⟩
    rw [List.length_map, sl, show (((2 ^ ws.length : Nat) : Int) - 1).toNat = 2 ^ ws.length - 1 by omega]
    refine for_range (lo := 1) (n := 2 ^ ws.length - 1) (fun i σ Hx => ∃ (y3 y4 y5 : Option V), σ = [some (.ref a), some (.ref t), some (.ref S), y3, y4, y5, none] ∧ Hx = H2 ∧ ∀ N, 0 < N → N ≤ i → ∀ a, a < ws.length → bit N a = true → tab.getD (N - 2 ^ a) 0 + zI (sumsM ws) N ≤ tab.getD N 0) ⟨_, _, _, rfl, rfl, fun N h1 h2 => absurd h1 (by omega)⟩ (fun i σ Hx hi hp => ?_) (fun σ Hx hp => ?_)
    · obtain ⟨y3, y4, y5, rfl, rfl, hall⟩ := hp
      obtain ⟨N, hN⟩ : ∃ N, N = i + 1 := ⟨_, rfl⟩
      have eN : (1 : Int) + (i : Int) = (N : Int) := by omega
      have N1 : N < 2 ^ ws.length := by omega
      have hgo : ∀ v : V, v = .int (N : Int) → (gName 3 v [some (.ref a), some (.ref t), some (.ref S), y3, y4, y5, none] Hx fun σ2 H2' => σ2 = [some (.ref a), some (.ref t), some (.ref S), some (.int (N : Int)), y4, y5, none] ∧ H2' = Hx) := fun v hv => by subst hv; exact ⟨rfl, rfl⟩
      refine while_by (fun σ Hy => ∃ (b : Nat) (y5 : Option V), σ = [some (.ref a), some (.ref t), some (.ref S), some (.int (1 + (i : Int))), some (.int ((2 ^ b : Nat) : Int)), y5, none] ∧ Hy = Hx ∧ b ≤ 8 ∧ ∀ a, a < b → a < ws.length → bit N a = true → tab.getD (N - 2 ^ a) 0 + zI (sumsM ws) N ≤ tab.getD N 0)
        (fun σ _ => match (σ[4]? : Option (Option V)) with | some (some (V.int j)) => 1024 - j.toNat | _ => 0) ⟨0, _, rfl, rfl, by decide, fun a h => absurd h (by omega)⟩ (fun σ Hy hp => ?_) (fun σ H5 Q Q' h z => ?_)
      · obtain ⟨b, y5, rfl, rfl, b8, hlow⟩ := hp
        have p2 : 0 < 2 ^ b := Nat.pow_pos (by decide)
        have p3 : 2 ^ b ≤ 256 := pow8 b8
        refine ⟨_, rfl, _, rfl, _, _, rfl, rfl, _, rfl, ite2 (fun c => ?_) (fun c => ?_)⟩
        · have c := of_decide_eq_true c
          have c : 2 ^ b ≤ N := by omega
          have b7 : b < 8 := by
            by_cases z : b < 8
            · exact z
            · have : b = 8 := by omega
              subst this
              omega
          have hNS : N < (sumsM ws).length := by omega
          have eg : (sumsM ws).getD N 0 = (sumsM ws)[N] := by rw [List.getD_eq_getElem?_getD, List.getElem?_eq_getElem hNS]; rfl
          refine ⟨.ref t, rfl, _, rfl, _, rfl, _, _, rfl, rfl, t, _, _, .int (tab.getD (N - 2 ^ b) 0), rfl, rfl, SqL.of ht2, ?_, .ref S, rfl, _, rfl, S, _, _, .int (sumsM ws)[N], rfl, rfl, SqL.of eS2, ?_, rfl, .inr ⟨_, rfl, ?_⟩⟩
          · rw [show (1 : Int) + (i : Int) - ((2 ^ b : Nat) : Int) = ((N - 2 ^ b : Nat) : Int) by omega]
            exact at_tab (by omega)
          · rw [eN]
            exact atI_nat (by rw [List.getElem?_map, List.getElem?_eq_getElem hNS]; rfl)
          have ez : (if decide (V.int (sumsM ws)[N] = V.int 0) = true then (1 : Int) else 0) = zI (sumsM ws) N := by
            unfold zI
            rw [eg]
            by_cases z : (sumsM ws)[N] = 0
            · rw [if_pos (decide_eq_true (by rw [z])), if_pos z]
            · rw [if_neg (fun w => z (by injection (of_decide_eq_true w))), if_neg z]
          refine ⟨_, _, rfl, rfl, ?_⟩
          have hbl : N / 2 ^ b % 2 = 1 → b < ws.length ∧ bit N b = true := fun z => by
            have hb : bit N b = true := by unfold bit; exact beq_iff_eq.mpr z
            refine ⟨?_, hb⟩
            by_cases w : b < ws.length
            · exact w
            · have := Py.bit_low ws.length w8 N N1 b (by omega) (by omega)
              rw [hb] at this
              cases this
          refine ⟨_, rfl, _, rfl, _, _, rfl, rfl, ⟨by omega, by omega⟩, _, 2, rfl, rfl, (by show (0 : Int) < 2; decide), rfl, _, rfl, ite2 (fun c1 => ?_) (fun c1 => ?_)⟩
          · have c1 := of_decide_eq_true c1
            have c1 : (1 + (i : Int)) / ((2 ^ b : Nat) : Int) % 2 = 1 := by injection c1
            have c1 : N / 2 ^ b % 2 = 1 := by
              rw [eN, ← Int.natCast_ediv] at c1
              omega
            obtain ⟨hb1, hb2⟩ := hbl c1
            refine ⟨.ref t, rfl, _, rfl, t, _, _, .int (tab.getD N 0), rfl, rfl, SqL.of ht2, by rw [eN]; exact at_tab (by omega), _, rfl, _, _, rfl, rfl, _, rfl, ite2 (fun c2 => ?_) (fun c2 => ?_)⟩
            · have c2 := of_decide_eq_true c2
              have c2 : tab.getD N 0 < tab.getD (N - 2 ^ b) 0 + (if decide (V.int (sumsM ws)[N] = V.int 0) = true then (1 : Int) else 0) := c2
              rw [ez] at c2
              exact q _ false s12 ⟨fun z => (nomatch z), fun h => absurd (h.ge N (by omega) N1 b hb1 hb2) (by omega)⟩
            · refine ⟨_, rfl, 2, _, rfl, rfl, .inl ⟨by decide, by decide⟩, ⟨b + 1, some (.int (tab.getD (N - 2 ^ b) 0 + (if decide (V.int (sumsM ws)[N] = V.int 0) = true then (1 : Int) else 0))), ?_, rfl, by omega, fun a h1 h2 h3 => ?_⟩, ?_⟩
              · rw [show ((2 ^ (b + 1) : Nat) : Int) = 2 * ((2 ^ b : Nat) : Int) by rw [Nat.pow_succ]; omega]
                rfl
              · by_cases y : a < b
                · exact hlow a y h2 h3
                · have ea : a = b := by omega
                  subst ea
                  have c2 : ¬ _ := fun z => c2 (decide_eq_true z)
                  have c2 : ¬ (tab.getD N 0 < tab.getD (N - 2 ^ a) 0 + (if decide (V.int (sumsM ws)[N] = V.int 0) = true then (1 : Int) else 0)) := c2
                  rw [ez] at c2
                  omega
              · show 1024 - (2 * ((2 ^ b : Nat) : Int)).toNat < 1024 - ((2 ^ b : Nat) : Int).toNat
                omega
          · refine ⟨_, rfl, 2, _, rfl, rfl, .inl ⟨by decide, by decide⟩, ⟨b + 1, some (.int (tab.getD (N - 2 ^ b) 0 + (if decide (V.int (sumsM ws)[N] = V.int 0) = true then (1 : Int) else 0))), ?_, rfl, by omega, fun a h1 h2 h3 => ?_⟩, ?_⟩
            · rw [show ((2 ^ (b + 1) : Nat) : Int) = 2 * ((2 ^ b : Nat) : Int) by rw [Nat.pow_succ]; omega]
              rfl
            · by_cases y : a < b
              · exact hlow a y h2 h3
              · have ea : a = b := by omega
                subst ea
                refine absurd (decide_eq_true ?_) c1
                rw [eN, ← Int.natCast_ediv]
                unfold bit at h3
                have h3 := beq_iff_eq.mp h3
                have h4 : ((N / 2 ^ a : Nat) : Int) % 2 = 1 := by omega
                exact congrArg V.int h4
            · show 1024 - (2 * ((2 ^ b : Nat) : Int)).toNat < 1024 - ((2 ^ b : Nat) : Int).toNat
              omega
        · refine ⟨_, _, _, rfl, rfl, fun M m1 m2 a a1 a2 => ?_⟩
          by_cases z : M ≤ i
          · exact hall M m1 z a a1 a2
          · have eM : M = N := by omega
            subst eM
            refine hlow a ?_ a1 a2
            have c : ¬ (((2 ^ b : Nat) : Int) ≤ (1 : Int) + (i : Int)) := fun z => c (decide_eq_true z)
            have lo : M < 2 ^ b := by omega
            by_cases w : a < b
            · exact w
            · have p := Nat.pow_le_pow_right (show 0 < 2 by decide) (show b ≤ a by omega)
              unfold bit at a2
              rw [Nat.div_eq_of_lt (by omega)] at a2
              cases a2
      · obtain ⟨v, e, v2, e2, i, j, e1, e3, b, e4, z⟩ := z
        exact ⟨v, e, v2, e2, i, j, e1, e3, b, e4, h _ _ z⟩
    · obtain ⟨y3, y4, y5, rfl, rfl, hall⟩ := hp
      exact q _ true (s1.trans s2) ⟨fun _ => ⟨tl, g0, fun N n1 n2 => hall N n1 (by omega)⟩, fun _ => rfl⟩
end
end Th
namespace Th
open PySem PySem.Spec PyProof.Rows L2
/-! the law's own first fault of any thing -/
open Py (bit sumsM zI TabTo TabOk wS pS MinZ SgM GrOk Pay payL negR posR nzP nzW FewOk FwM effL)
/-- the parts aren't too long or deep -/
structure NiceT (d : PyData) : Prop where
  sm : SmallT d
  tup : ∀ ps ds x, d = .tuple [.list ps, .list ds] → PyData.tuple x ∈ ps → x.length ≤ 1000
  hd : ∀ ps ds e, d = .tuple [.list ps, .list ds] → ds[0]? = some e → SeqAt.shaped e = true
section
variable {P : Program} {w : World} {K : PySem.W.Frag} {mg : Str → Option Value} {base : Heap} {k : Nat}
def sp_l_where (K : PySem.W.Frag) : Sp := fun vs H Q _ => ∃ (a : Addr) (v : V) (acc : List Int) (d : PyData), vs = [.ref a, v] ∧ H a = some (.lst (acc.map V.int)) ∧ Dt SA H v d ∧ acc.length ≤ 8 ∧ NiceT d ∧ ∀ H' f, Same H H' → FaultA acc d f → Q (.str f) H'
set_option maxHeartbeats 8000000 in
theorem ok_l_where (T : Defs K mg) : FnOk P w K mg base CX0 (k + 3) T.a_l_where T.d_l_where ["_law_accounts_here", "_law_thing"] (sp_l_where K) := by
  have G_l_settles : FnOk P w K mg base CX0 (k + 2) _ _ _ _ := ok_l_settles (k := k + 1) T
  have G_l_is_table : FnOk P w K mg base CX0 (k + 2) _ _ _ _ := ok_l_is_table (k := k) T
  refine T.F_l_where.ok sc_l_where (fun vs H Q E h => ?_) (fun cdv A outer s H vs Q E hr h => ?_)
  · obtain ⟨a, v, acc, d, rfl, _⟩ := h
    rfl
  · obtain ⟨a, v, acc, d, rfl, ha, hd, a8, nice, q⟩ := h
    refine ⟨_, PSs.nox
(pss_cons (ps_if (PW.pt (pw_or (pt_not (pt_val (pe_callB (r := rIsi K) call_isi (by rfl) T.z_isinstance (by decide +kernel) (pa_cons (pv 1) (pa_cons (pe_bltn (v := .ty "tuple") (by rfl) T.z_tuple (by decide +kernel) rfl) pa_nil))))) (pw_or1 (pt_cmpR op_ne (pe_callB (r := rLenS K) call_lenS (by rfl) T.z_len (by decide +kernel) (pa_cons (pv 1) pa_nil)) (pe_int) (nomark _)))))
      (pss_one (ps_ret (pe_str)))
      pss_nil)
    (pss_cons (ps_if (pt_not (pt_val (pe_callB (r := rAll K) (cr_all rfl) (by rfl) T.z_all (by decide +kernel) (pa_cons (pe_lc (own := [("_law_one", 3)]) (g := gName 3) rfl sc_l_where.nd (pi_tup (pv 1)) (blkOk_by (N := N_l_where) (sc := defScope s_l_where) (by decide +kernel)) (fun _ _ _ _ _ => (pg_name (i := 3) sc_l_where.nd rfl (.inl rfl))) (fun _ _ _ _ _ => pts_nil) (fun _ _ _ _ _ => (pe_callB (r := rIsi K) call_isi (by rfl) T.z_isinstance (by decide +kernel) (pa_cons (pv 3) (pa_cons (pe_bltn (v := .ty "list") (by rfl) T.z_list (by decide +kernel) rfl) pa_nil))))) pa_nil))))
      (pss_one (ps_ret (pe_str)))
      pss_nil)
    (pss_cons (ps_if (pt_not (pt_val (pe_call G_l_settles hr (by rfl) T.g_l_settles T.F_l_settles.kp T.b_l_settles .nil pass0 (pa_cons (pv 0) (pa_cons (pe_ix (r := rIxT K) ix_tup (pv 1) (pe_int) (fun _ _ => rfl)) pa_nil)))))
      (pss_one (ps_ret (pe_str)))
      pss_nil)
    (pss_cons (ps_if (pt_not (pt_val (pe_call G_l_is_table hr (by rfl) T.g_l_is_table T.F_l_is_table.kp T.b_l_is_table .nil pass0 (pa_cons (pv 0) (pa_cons (pe_ix (r := rIxT K) ix_tup (pv 1) (pe_int) (fun _ _ => rfl)) pa_nil)))))
      (pss_one (ps_ret (pe_str)))
      pss_nil)
    (pss_cons (ps_set (i := 2) sc_l_where.nd rfl (.inl rfl) (pe_callB (r := rLenS K) call_lenS (by rfl) T.z_len (by decide +kernel) (pa_cons (pe_lc (own := [("_law_pence", 4)]) (g := gName 4) rfl sc_l_where.nd (pi_list (pv 0)) (blkOk_by (N := N_l_where) (sc := defScope s_l_where) (by decide +kernel)) (fun _ _ _ _ _ => (pg_name (i := 4) sc_l_where.nd rfl (.inl rfl))) (fun _ _ _ _ _ => pts_one (pt_cmpR op_ne (pv 4) (pe_int) (nomark _))) (fun _ _ _ _ _ => (pv 4))) pa_nil)))
    (pss_one (ps_ret (pe_ifExp (pt_cmpR op_gt (pe_callB (r := rLenS K) call_lenS (by rfl) T.z_len (by decide +kernel) (pa_cons (pe_ix (r := rIxT K) ix_tup (pv 1) (pe_int) (fun _ _ => rfl)) pa_nil)) (pe_op op_sub (pv 2) (pe_ix (r := rIxL K) ix_list (pe_ix (r := rIxT K) ix_tup (pv 1) (pe_int) (fun _ _ => rfl)) (pe_un un_neg (pe_int)) (fun _ _ => rfl))) (nomark _)) (pe_str) (pe_str)))))))))
      , ?_⟩
    have paper : ∀ {G : Hp}, Same H G → pairD d = false → Q (.str "paper") G := fun sg c => q _ "paper" sg (.inl ⟨c, rfl⟩)
    refine ⟨v, rfl, v, .ty "tuple", _, _, _, rfl, .ty "tuple", hd.ty, kitTu d, _, rfl, ?_⟩
    by_cases c0 : isTD d = true
    case neg =>
      rw [Bool.eq_false_iff.mpr c0]
      refine iteT (paper (fun _ _ e => e) ?_)
      cases d <;> first | rfl | exact absurd rfl c0
    rw [c0]
    obtain ⟨t, ys, dd, rfl, rfl, et, hdd⟩ : ∃ (t : Addr) (ys : List V) (dd : List PyData), d = .tuple dd ∧ v = .ref t ∧ H t = some (.tup ys) ∧ DtAll SA H ys dd := by
      cases hd with
      | tup _ et _ hx => exact ⟨_, _, _, rfl, rfl, et, hx⟩
      | _ => exact absurd (show (false : Bool) = true from c0) (by decide)
    have yl := dtAll_len hdd
    refine iteF ⟨.ref t, rfl, t, _, rfl, .inr (SqT.of et), rfl, _, rfl, ?_⟩
    rw [yl]
    by_cases c2 : dd.length = 2
    case neg =>
      rw [decide_eq_false (fun z => c2 (by injection z with z; omega) : ¬ V.int (dd.length : Int) = V.int 2)]
      refine iteT (paper (fun _ _ e => e) ?_)
      unfold pairD
      split
      · rename_i e
        cases e
        exact absurd rfl c2
      · rfl
    rw [c2]
    refine iteF ?_
    refine ⟨.ref t, rfl, t, rfl, ⟨_, SqT.of et⟩, fun D nD => ?_⟩
    refine lc_it (walk_tup (xs := ys)) (fun j Hy => Same H Hy ∧ Hy D = some (.lst (((dd.map isLD).take j).map V.bl))) ⟨same_upd nD, upd_same⟩ (fun j Hy _ pv => SqT.of (pv.1 _ _ et)) (fun j v Hy₀ Hy hj pv yy => ?_) (fun H1 pv => ?_)
    · obtain ⟨rfl, ey⟩ := yy
      obtain ⟨sy, eD⟩ := pv
      obtain ⟨d', ed', hd'⟩ := dtAll_get hdd ey
      refine ⟨rfl, yes_ ⟨v, rfl, v, .ty "list", _, _, _, rfl, .ty "list", (hd'.same sy).ty, kitLi d', _, eD, by rw [List.length_map, List.length_take]; exact small5000 (by omega), same_set sy nD, ?_⟩⟩
      rw [upd_same, List.take_add_one, List.getElem?_map, ed', List.map_append]
      rfl
    obtain ⟨s1, eD⟩ := pv
    rw [yl, List.take_of_length_le (by rw [List.length_map]; exact Nat.le_refl _)] at eD
    refine ⟨D, _, rfl, SqL.of eD, ?_⟩
    have epair : (dd.map isLD).all id = pairD (.tuple dd) := by
      match dd, c2 with
      | [x, y], _ =>
        show (isLD x && (isLD y && true)) = (isLD x && isLD y)
        rw [Bool.and_true]
    rw [epair]
    refine ⟨_, rfl, ?_⟩
    by_cases cp : pairD (.tuple dd) = true
    case neg =>
      rw [Bool.eq_false_iff.mpr cp]
      exact iteT (paper s1 (Bool.eq_false_iff.mpr cp))
    rw [cp]
    refine iteF ?_
    obtain ⟨ps, ds, epd⟩ := pair_is cp
    rw [epd] at hd nice q
    obtain ⟨t', p, tb, xs, zs, e', et', hp, hps, htb, hds⟩ := dt_pair hd
    cases e'
    have q : ∀ H' f, Same H H' → FaultL acc ps ds f → Q (.str f) H' := fun H' f sh hf => q H' f sh (.inr ⟨ps, ds, rfl, hf⟩)
    obtain ⟨pl, dl⟩ := nice.sm ps ds rfl
    have xl := dtAll_len hps
    have zl := dtAll_len hds
    have et := et'
    refine ⟨.ref a, rfl, .ref t, rfl, t, _, (0 : Int), .ref p, rfl, rfl, SqT.of (s1 _ _ et), rfl, a, p, acc, xs, ps, rfl, s1 _ _ ha, s1 _ _ hp, hps.sameA s1, pl, by omega, fun x hx => nice.tup ps ds x rfl hx, fun H2 b s2 hb => ⟨_, rfl, ?_⟩⟩
    have s12 := s1.trans s2
    cases b with
    | false => exact iteT (q _ "payments" s12 (.inl ⟨fun z => absurd (hb.mpr z) (by decide), rfl⟩))
    | true =>
    have hP := hb.mp rfl
    refine iteF ?_
    refine ⟨.ref a, rfl, .ref t, rfl, t, _, (1 : Int), .ref tb, rfl, rfl, SqT.of (s12 _ _ et), rfl, a, tb, acc, zs, ds, rfl, SqL.of (s12 _ _ ha), s12 _ _ htb, hds.sameA s12, a8, dl, fun e he => nice.hd ps ds e rfl he, fun Hz b s3 hb => ⟨_, rfl, ?_⟩⟩
    have sz := s12.trans s3
    cases b with
    | false => exact iteT (q _ "table" sz (.inr (.inl ⟨hP, fun z => absurd (hb.mpr z) (by decide), rfl⟩)))
    | true =>
    obtain ⟨tab, etab, htab⟩ := hb.mp rfl
    subst etab
    cases dtAll_int hds
    refine iteF ?_
    have haz := sz _ _ ha
    refine ⟨.ref a, rfl, a, rfl, ⟨_, SqL.of haz⟩, fun D nD => ?_⟩
    refine lc_it (walk_list (xs := acc.map V.int)) (fun m Hy => Same Hz Hy ∧ Hy D = some (.lst (((acc.take m).filter fun z => decide (z ≠ 0)).map V.int))) ⟨same_upd nD, upd_same⟩ (fun m Hy _ pv => SqL.of (pv.1 _ _ haz)) (fun m v Hy₀ Hy hm pv yy => ?_) (fun H10 pv => ?_)
    · obtain ⟨rfl, ey⟩ := yy
      obtain ⟨sy, eD⟩ := pv
      obtain ⟨z, ez, rfl⟩ := at_int ey
      rw [List.length_map] at hm
      have fl : ((acc.take m).filter fun z => decide (z ≠ 0)).length ≤ m := Nat.le_trans (List.length_filter_le _ _) (by rw [List.length_take]; omega)
      have tk : (acc.take (m + 1)).filter (fun z => decide (z ≠ 0)) = (acc.take m).filter (fun z => decide (z ≠ 0)) ++ if z ≠ 0 then [z] else [] := by
        rw [List.take_add_one, ez, List.filter_append]
        congr 1
        show List.filter _ [z] = _
        rw [List.filter_cons]
        by_cases c : z ≠ 0
        · rw [if_pos (decide_eq_true c), if_pos c]; rfl
        · rw [if_neg (fun z => c (of_decide_eq_true z)), if_neg c]; rfl
      rw [tk]
      refine ⟨rfl, .int z, rfl, rfl, _, rfl, ite2 (fun c => ?_) (fun c => ?_)⟩
      · have c : z ≠ 0 := fun w => by rw [w] at c; simp at c
        rw [if_pos c]
        exact ⟨.int z, rfl, _, eD, by rw [List.length_map]; exact small5000 (by omega), same_set sy nD, by rw [upd_same, List.map_append]; rfl⟩
      · have c : ¬ z ≠ 0 := fun w => c (by
          simp only [ne_eq, Bool.not_eq_true', decide_eq_false_iff_not]
          exact fun x => w (by injection x))
        rw [if_neg c, List.append_nil]
        exact ⟨sy, eD⟩
    obtain ⟨s10, eD⟩ := pv
    rw [List.length_map, List.take_length, ← Py.nzW_eq] at eD
    have s010 := sz.trans s10
    have tbl := htab.len
    have p0 : 0 < 2 ^ (nzW acc).length := Nat.pow_pos (by decide)
    have hlast : atI (tab.map V.int) (-1) = some (.int (tab.getD (2 ^ (nzW acc).length - 1) 0)) := atI_lst (by
      rw [List.length_map, tbl, List.getElem?_map, List.getD_eq_getElem?_getD, List.getElem?_eq_getElem (by omega)]
      rfl)
    refine ⟨D, _, rfl, .inl (SqL.of eD), ?_⟩
    rw [List.length_map]
    refine ⟨.ref t, rfl, t, _, (0 : Int), .ref p, rfl, rfl, SqT.of (s010 _ _ et), rfl, p, _, rfl, .inl (SqL.of (s010 _ _ hp)), _, rfl, .ref t, rfl, t, _, (1 : Int), .ref tb, rfl, rfl, SqT.of (s010 _ _ et), rfl, 1, rfl, tb, _, -1, _, rfl, rfl, SqL.of (s010 _ _ htb), hlast, _, _, rfl, rfl, _, _, rfl, rfl, _, rfl, ?_⟩
    refine ite2 (fun c => ?_) (fun c => ?_)
    · have c := of_decide_eq_true c
      rw [xl] at c
      refine q _ "many" s010 (.inr (.inr (.inl ⟨hP, ⟨tab, rfl, htab⟩, fun ⟨tab', e, z⟩ => ?_, rfl⟩)))
      cases ints_inj e
      omega
    · refine q _ "" s010 (.inr (.inr (.inr ⟨hP, ⟨tab, rfl, htab⟩, ⟨tab, rfl, ?_⟩, rfl⟩)))
      by_cases z : (ps.length : Int) ≤ ((nzW acc).length : Int) - tab.getD (2 ^ (nzW acc).length - 1) 0
      · exact z
      · refine absurd (decide_eq_true ?_) c
        rw [xl]
        omega
end
end Th
namespace Th
open PySem PySem.Spec PyProof.Rows L2
/-! any thing, drawn -/
abbrev SN (p : Addr) : Addr → Prop := fun a => a ≠ p
abbrev SO (p : Addr) (H : Hp) : Addr → Prop := fun a => a ≠ p ∧ H a = none
def anysD : List PyData := [.none, .bool true, .bool false, .int 0, .int 1, .int (-1), .int (10 ^ 59), .str "", .str "a", .list [], .tuple [], .list [.int 0], .tuple [.int 0, .int 1], .tuple [.int 0, .int 1, .int 1], .tuple [.int 1, .int 0, .bool true], .tuple [.list []], .tuple [.list [.int 0], .int 1, .int 2]]
theorem Dt.keep {p : Addr} {H H' : Hp} {v : V} {d : PyData} (k : Keep p H H') (h : Dt (SN p) H v d) : Dt (SN p) H' v d := h.mono (fun _ x => x) fun a o na e => k a o na e
section
variable {P : Program} {w : World} {K : PySem.W.Frag} {mg : Str → Option Value} {base : Heap} {k : Nat}
def sp_l_any : Sp := fun vs H Q _ => ∃ (p : Addr), vs = [.ref p] ∧ Bag H p ∧ ∀ H' v d, Keep p H H' → Bag H' p → Dt (SO p H) H' v d → d ∈ anysD → Q v H'
set_option maxHeartbeats 8000000 in
theorem ok_l_any (T : Defs K mg) : FnOk P w K mg base CX0 (k + 2) T.a_l_any T.d_l_any ["_law_bag_here"] sp_l_any := by
  have G_l_take : FnOk P w K mg base CX0 (k + 1) _ _ _ _ := ok_l_take T
  refine T.F_l_any.ok sc_l_any (fun vs H Q E h => ?_) (fun cdv A outer s H vs Q E hr h => ?_)
  · obtain ⟨p, rfl, _⟩ := h
    rfl
  · obtain ⟨p, rfl, b, q⟩ := h
    refine ⟨_, PSs.nox
(pss_cons (ps_set (i := 1) sc_l_any.nd rfl (.inl rfl) (pe_lst (pa_cons (pe_non) (pa_cons (pe_bl) (pa_cons (pe_bl) (pa_cons (pe_int) (pa_cons (pe_int) (pa_cons (pe_un un_neg (pe_int)) (pa_cons (pe_op op_pow (pe_int) (pe_int)) (pa_cons (pe_str) (pa_cons (pe_str) (pa_cons (pe_lst pa_nil) (pa_cons (pe_tup pa_nil) (pa_cons (pe_lst (pa_cons (pe_int) pa_nil)) (pa_cons (pe_tup (pa_cons (pe_int) (pa_cons (pe_int) pa_nil))) (pa_cons (pe_tup (pa_cons (pe_int) (pa_cons (pe_int) (pa_cons (pe_int) pa_nil)))) (pa_cons (pe_tup (pa_cons (pe_int) (pa_cons (pe_int) (pa_cons (pe_bl) pa_nil)))) pa_nil)))))))))))))))))
    (pss_one (ps_ret (pe_ix (r := rIxL K) ix_list (pe_op op_cat (pv 1) (pe_lst (pa_cons (pe_tup (pa_cons (pe_lst pa_nil) pa_nil)) (pa_cons (pe_tup (pa_cons (pe_lst (pa_cons (pe_int) pa_nil)) (pa_cons (pe_int) (pa_cons (pe_int) pa_nil)))) pa_nil)))) (pe_call G_l_take hr (by rfl) T.g_l_take T.F_l_take.kp T.b_l_take .nil pass0 (pa_cons (pv 0) (pa_cons (pe_int) pa_nil))) (fun _ _ => rfl)))))
      , ?_⟩
    have step : ∀ {G : Hp} {A : Addr} {o : HO}, Same H G → G A = none → Same H (upd G A o) ∧ SO p H A ∧ (upd G A o) A = some o := fun {G A o} sg n => ⟨sg.trans (same_upd n), ⟨(b.keep sg).ne n, up0 sg n⟩, upd_same⟩
    refine ⟨1, rfl, 10, 59, rfl, rfl, ⟨by decide, by decide, by decide⟩, Nat.zero_le _, fun A1 n1 => ?_⟩
    obtain ⟨s1, p1, e1⟩ := step (o := .lst []) (fun _ _ e => e) n1
    generalize upd H A1 (.lst []) = G1 at s1 e1 ⊢
    refine ⟨Nat.zero_le _, fun A2 n2 => ?_⟩
    obtain ⟨s2, p2, e2⟩ := step (o := .tup []) s1 n2
    have e1 := same_upd (o := .tup []) n2 _ _ e1
    generalize upd G1 A2 (.tup []) = G2 at s2 e1 e2 ⊢
    refine ⟨by show 1 ≤ sizeLine; decide, fun A3 n3 => ?_⟩
    obtain ⟨s3, p3, e3⟩ := step (o := .lst [.int 0]) s2 n3
    have u := same_upd (o := .lst [V.int 0]) n3
    have e1 := u _ _ e1
    have e2 := u _ _ e2
    generalize upd G2 A3 (.lst [.int 0]) = G3 at s3 e1 e2 e3 ⊢
    refine ⟨by show 2 ≤ sizeLine; decide, fun A4 n4 => ?_⟩
    obtain ⟨s4, p4, e4⟩ := step (o := .tup [.int 0, .int 1]) s3 n4
    have u := same_upd (o := .tup [V.int 0, .int 1]) n4
    have e1 := u _ _ e1
    have e2 := u _ _ e2
    have e3 := u _ _ e3
    generalize upd G3 A4 (.tup [.int 0, .int 1]) = G4 at s4 e1 e2 e3 e4 ⊢
    refine ⟨by show 3 ≤ sizeLine; decide, fun A5 n5 => ?_⟩
    obtain ⟨s5, p5, e5⟩ := step (o := .tup [.int 0, .int 1, .int 1]) s4 n5
    have u := same_upd (o := .tup [V.int 0, .int 1, .int 1]) n5
    have e1 := u _ _ e1
    have e2 := u _ _ e2
    have e3 := u _ _ e3
    have e4 := u _ _ e4
    generalize upd G4 A5 (.tup [.int 0, .int 1, .int 1]) = G5 at s5 e1 e2 e3 e4 e5 ⊢
    refine ⟨by show 3 ≤ sizeLine; decide, fun A6 n6 => ?_⟩
    obtain ⟨s6, p6, e6⟩ := step (o := .tup [.int 1, .int 0, .bl true]) s5 n6
    have u := same_upd (o := .tup [V.int 1, .int 0, .bl true]) n6
    have e1 := u _ _ e1
    have e2 := u _ _ e2
    have e3 := u _ _ e3
    have e4 := u _ _ e4
    have e5 := u _ _ e5
    generalize upd G5 A6 (.tup [.int 1, .int 0, .bl true]) = G6 at s6 e1 e2 e3 e4 e5 e6 ⊢
    refine ⟨by show 15 ≤ sizeLine; decide, fun S nS => ?_⟩
    obtain ⟨s7, pS, eS⟩ := step (o := .lst [V.non, .bl true, .bl false, .int 0, .int 1, .int (-1), .int (10 ^ 59), .str "", .str "a", .ref A1, .ref A2, .ref A3, .ref A4, .ref A5, .ref A6]) s6 nS
    have u := same_upd (o := .lst [V.non, .bl true, .bl false, .int 0, .int 1, .int (-1), .int (10 ^ 59), .str "", .str "a", .ref A1, .ref A2, .ref A3, .ref A4, .ref A5, .ref A6]) nS
    have e1 := u _ _ e1
    have e2 := u _ _ e2
    have e3 := u _ _ e3
    have e4 := u _ _ e4
    have e5 := u _ _ e5
    have e6 := u _ _ e6
    have go : ∀ G7 : Hp, G7 = upd G6 S (.lst [V.non, .bl true, .bl false, .int 0, .int 1, .int (-1), .int (10 ^ 59), .str "", .str "a", .ref A1, .ref A2, .ref A3, .ref A4, .ref A5, .ref A6]) → G7 = upd G6 S (.lst [V.non, .bl true, .bl false, .int 0, .int 1, (fun i => V.int (-i)) 1, (fun i j : Int => V.int (i ^ j.toNat)) 10 59, .str "", .str "a", .ref A1, .ref A2, .ref A3, .ref A4, .ref A5, .ref A6]) := fun _ e => e
    have eg := go _ rfl
    rw [← eg]
    clear eg go
    generalize upd G6 S (.lst [V.non, .bl true, .bl false, .int 0, .int 1, .int (-1), .int (10 ^ 59), .str "", .str "a", .ref A1, .ref A2, .ref A3, .ref A4, .ref A5, .ref A6]) = G7 at s7 e1 e2 e3 e4 e5 e6 eS ⊢
    refine ⟨.ref S, rfl, Nat.zero_le _, fun B1 m1 => ?_⟩
    obtain ⟨s8, q1, f1⟩ := step (o := .lst []) s7 m1
    have u := same_upd (o := .lst []) m1
    have e1 := u _ _ e1
    have e2 := u _ _ e2
    have e3 := u _ _ e3
    have e4 := u _ _ e4
    have e5 := u _ _ e5
    have e6 := u _ _ e6
    have eS := u _ _ eS
    generalize upd G7 B1 (.lst []) = G8 at s8 e1 e2 e3 e4 e5 e6 eS f1 ⊢
    refine ⟨by show 1 ≤ sizeLine; decide, fun B2 m2 => ?_⟩
    obtain ⟨s9, q2, f2⟩ := step (o := .tup [.ref B1]) s8 m2
    have u := same_upd (o := .tup [V.ref B1]) m2
    have e1 := u _ _ e1
    have e2 := u _ _ e2
    have e3 := u _ _ e3
    have e4 := u _ _ e4
    have e5 := u _ _ e5
    have e6 := u _ _ e6
    have eS := u _ _ eS
    have f1 := u _ _ f1
    generalize upd G8 B2 (.tup [.ref B1]) = G9 at s9 e1 e2 e3 e4 e5 e6 eS f1 f2 ⊢
    refine ⟨by show 1 ≤ sizeLine; decide, fun B3 m3 => ?_⟩
    obtain ⟨s10, q3, f3⟩ := step (o := .lst [.int 0]) s9 m3
    have u := same_upd (o := .lst [V.int 0]) m3
    have e1 := u _ _ e1
    have e2 := u _ _ e2
    have e3 := u _ _ e3
    have e4 := u _ _ e4
    have e5 := u _ _ e5
    have e6 := u _ _ e6
    have eS := u _ _ eS
    have f1 := u _ _ f1
    have f2 := u _ _ f2
    generalize upd G9 B3 (.lst [.int 0]) = G10 at s10 e1 e2 e3 e4 e5 e6 eS f1 f2 f3 ⊢
    refine ⟨by show 3 ≤ sizeLine; decide, fun B4 m4 => ?_⟩
    obtain ⟨s11, q4, f4⟩ := step (o := .tup [.ref B3, .int 1, .int 2]) s10 m4
    have u := same_upd (o := .tup [V.ref B3, .int 1, .int 2]) m4
    have e1 := u _ _ e1
    have e2 := u _ _ e2
    have e3 := u _ _ e3
    have e4 := u _ _ e4
    have e5 := u _ _ e5
    have e6 := u _ _ e6
    have eS := u _ _ eS
    have f1 := u _ _ f1
    have f2 := u _ _ f2
    have f3 := u _ _ f3
    generalize upd G10 B4 (.tup [.ref B3, .int 1, .int 2]) = G11 at s11 e1 e2 e3 e4 e5 e6 eS f1 f2 f3 f4 ⊢
    refine ⟨by show 2 ≤ sizeLine; decide, fun L nL => ?_⟩
    obtain ⟨s12, q5, f5⟩ := step (o := .lst [.ref B2, .ref B4]) s11 nL
    have u := same_upd (o := .lst [V.ref B2, .ref B4]) nL
    have e1 := u _ _ e1
    have e2 := u _ _ e2
    have e3 := u _ _ e3
    have e4 := u _ _ e4
    have e5 := u _ _ e5
    have e6 := u _ _ e6
    have eS := u _ _ eS
    have f1 := u _ _ f1
    have f2 := u _ _ f2
    have f3 := u _ _ f3
    have f4 := u _ _ f4
    generalize upd G11 L (.lst [.ref B2, .ref B4]) = G12 at s12 e1 e2 e3 e4 e5 e6 eS f1 f2 f3 f4 f5 ⊢
    refine ⟨S, L, _, _, rfl, rfl, eS, f5, by show 17 ≤ sizeLine; decide, fun C nC => ?_⟩
    obtain ⟨s13, q6, f6⟩ := step (o := .lst [V.non, .bl true, .bl false, .int 0, .int 1, .int (-1), .int (10 ^ 59), .str "", .str "a", .ref A1, .ref A2, .ref A3, .ref A4, .ref A5, .ref A6, .ref B2, .ref B4]) s12 nC
    have u := same_upd (o := .lst [V.non, .bl true, .bl false, .int 0, .int 1, .int (-1), .int (10 ^ 59), .str "", .str "a", .ref A1, .ref A2, .ref A3, .ref A4, .ref A5, .ref A6, .ref B2, .ref B4]) nC
    have e1 := u _ _ e1
    have e2 := u _ _ e2
    have e3 := u _ _ e3
    have e4 := u _ _ e4
    have e5 := u _ _ e5
    have e6 := u _ _ e6
    have f1 := u _ _ f1
    have f2 := u _ _ f2
    have f3 := u _ _ f3
    have f4 := u _ _ f4
    refine ⟨.ref p, rfl, p, 17, rfl, b.keep s13, by decide, by decide, fun H9 c k9 b9 c0 c1 => ?_⟩
    have f6 := k9 _ _ q6.1 f6
    have e1 := k9 _ _ p1.1 e1
    have e2 := k9 _ _ p2.1 e2
    have e3 := k9 _ _ p3.1 e3
    have e4 := k9 _ _ p4.1 e4
    have e5 := k9 _ _ p5.1 e5
    have e6 := k9 _ _ p6.1 e6
    have f1 := k9 _ _ q1.1 f1
    have f2 := k9 _ _ q2.1 f2
    have f3 := k9 _ _ q3.1 f3
    have f4 := k9 _ _ q4.1 f4
    have sl : ∀ n : Nat, n ≤ 10 → n ≤ 5000 := fun n h => by omega
    have all : DtAll (SO p H) H9 [V.non, .bl true, .bl false, .int 0, .int 1, .int (-1), .int (10 ^ 59), .str "", .str "a", .ref A1, .ref A2, .ref A3, .ref A4, .ref A5, .ref A6, .ref B2, .ref B4] anysD :=
      .cons .non (.cons (.bl _) (.cons (.bl _) (.cons (.int _) (.cons (.int _) (.cons (.int _) (.cons (.int _) (.cons (.str _) (.cons (.str _)
      (.cons (.lst p1 e1 (sl 0 (by omega)) .nil) (.cons (.tup p2 e2 (sl 0 (by omega)) .nil) (.cons (.lst p3 e3 (sl 1 (by omega)) (.cons (.int _) .nil))
      (.cons (.tup p4 e4 (sl 2 (by omega)) (.cons (.int _) (.cons (.int _) .nil))) (.cons (.tup p5 e5 (sl 3 (by omega)) (.cons (.int _) (.cons (.int _) (.cons (.int _) .nil))))
      (.cons (.tup p6 e6 (sl 3 (by omega)) (.cons (.int _) (.cons (.int _) (.cons (.bl _) .nil))))
      (.cons (.tup q2 f2 (sl 1 (by omega)) (.cons (.lst q1 f1 (sl 0 (by omega)) .nil) .nil))
      (.cons (.tup q4 f4 (sl 3 (by omega)) (.cons (.lst q3 f3 (sl 1 (by omega)) (.cons (.int _) .nil)) (.cons (.int _) (.cons (.int _) .nil)))) .nil))))))))))))))))
    obtain ⟨n, rfl⟩ : ∃ n : Nat, c = (n : Int) := ⟨c.toNat, by omega⟩
    have n17 : n < 17 := by omega
    obtain ⟨v, ev⟩ : ∃ v, ([V.non, .bl true, .bl false, .int 0, .int 1, .int (-1), .int (10 ^ 59), .str "", .str "a", .ref A1, .ref A2, .ref A3, .ref A4, .ref A5, .ref A6, .ref B2, .ref B4] : List V)[n]? = some v := ⟨_, List.getElem?_eq_getElem n17⟩
    obtain ⟨d, ed, hd⟩ := dtAll_get all ev
    exact ⟨C, _, _, v, rfl, rfl, SqL.of f6, atI_nat ev, q _ v d ((Keep.of s13).trans k9) b9 hd (List.mem_of_getElem? ed)⟩
end
end Th
namespace Th
open PySem PySem.Spec PyProof.Rows L2
/-! the law's own payments and table -/
open Py (bit sumsM zI TabTo TabOk wS pS MinZ SgM GrOk Pay payL negR posR nzP nzW FewOk FwM effL)
def thD (tp : List Pay) (tab : List Int) : PyData := .tuple [.list (tp.map payD), dI tab]
theorem cut_dropO (xs : List V) (m : Nat) : cutV xs (some (m : Int)) none = xs.drop m := by
  unfold cutV
  rw [HT.sIx_none, HT.sIx_nat]
  by_cases h : m ≤ xs.length
  · rw [Nat.min_eq_left h]
    exact List.take_of_length_le (by rw [List.length_drop]; exact Nat.le_refl _)
  · rw [Nat.min_eq_right (by omega), List.drop_length, List.drop_of_length_le (by omega)]
    exact List.take_nil
def bitsL (n : Nat) : List V := (List.range n).map fun a => V.int ((2 ^ a : Nat) : Int)
theorem bits_take : ∀ n, n ≤ 8 → ([V.int 1, .int 2, .int 4, .int 8, .int 16, .int 32, .int 64, .int 128] : List V).take n = bitsL n
  | 0, _ => rfl
  | 1, _ => rfl
  | 2, _ => rfl
  | 3, _ => rfl
  | 4, _ => rfl
  | 5, _ => rfl
  | 6, _ => rfl
  | 7, _ => rfl
  | 8, _ => rfl
  | n + 9, h => absurd h (by omega)
theorem bitsL_len (n : Nat) : (bitsL n).length = n := by unfold bitsL; rw [List.length_map, List.length_range]
theorem bitsL_at {n a : Nat} {v : V} (h : (bitsL n)[a]? = some v) : a < n ∧ v = .int ((2 ^ a : Nat) : Int) := by
  have l := (List.getElem?_eq_some_iff.mp h).1
  rw [bitsL_len] at l
  unfold bitsL at h
  rw [List.getElem?_map, List.getElem?_range l] at h
  exact ⟨l, (Option.some.inj h).symm⟩
theorem bitsL_get {n a : Nat} (h : a < n) : (bitsL n)[a]? = some (.int ((2 ^ a : Nat) : Int)) := by
  unfold bitsL
  rw [List.getElem?_map, List.getElem?_range h]
  rfl
theorem bitsL_flat (n : Nat) : (bitsL n).all flatV = true := by
  rw [List.all_eq_true]
  intro v hv
  obtain ⟨a, ha⟩ := List.getElem?_of_mem hv
  rw [(bitsL_at ha).2]
  rfl
theorem two_inj {a b : Nat} (h : ((2 ^ a : Nat) : Int) = ((2 ^ b : Nat) : Int)) : a = b := by
  have h : 2 ^ a = 2 ^ b := by omega
  rcases Nat.lt_trichotomy a b with c | c | c
  · have := Nat.pow_lt_pow_right (a := 2) (by decide) c
    omega
  · exact c
  · have := Nat.pow_lt_pow_right (a := 2) (by decide) c
    omega
theorem bit_int {N a : Nat} : ((N : Int) / ((2 ^ a : Nat) : Int) % 2 = 1) ↔ bit N a = true := by
  rw [← Int.natCast_ediv]
  unfold bit
  rw [beq_iff_eq]
  omega
theorem bnum {N a : Nat} (h : bit N a = true) : 2 ^ a ≤ N := by
  unfold bit at h
  have h := beq_iff_eq.mp h
  refine Classical.byContradiction fun c => ?_
  rw [Nat.div_eq_of_lt (by omega)] at h
  omega
theorem winL_snoc (N i : Nat) : winL N (i + 1) = winL N i ++ if bit N i = true then [i] else [] := by
  unfold winL
  rw [List.range_succ, List.filter_append, List.filter_cons]
  split <;> rfl
theorem getD_at {zs : List Int} {i : Nat} (h : i < zs.length) : (zs.map V.int)[i]? = some (.int (zs.getD i 0)) := by
  rw [List.getElem?_map, List.getD_eq_getElem?_getD, List.getElem?_eq_getElem h]
  rfl
/-- the places put ahead so far -/
structure RowM (n : Nat) (pl : List Nat) (N : Nat) (bs : List Nat) : Prop where
  lt : N < 2 ^ n
  nd : bs.Nodup
  off : ∀ b ∈ bs, b < n ∧ bit N b = false
theorem RowM.len {n : Nat} {pl : List Nat} {N : Nat} {bs : List Nat} (h : RowM n pl N bs) : bs.length ≤ n := by
  have := Py.nodup_len_lt (d := List.range n) h.nd fun b hb => List.mem_range.mpr (h.off b hb).1
  rwa [List.length_range] at this
theorem RowM.put {n : Nat} {pl : List Nat} {N a : Nat} {bs : List Nat} (h : RowM n pl N bs) (n8 : n ≤ 8) (ha : a < n) (hb : bit N a = true) : RowM n pl (N - 2 ^ a) (a :: bs) := by
  have p8 := pow8 n8
  have lt := h.lt
  obtain ⟨h1, h2⟩ := Py.bit_off N (by omega) a (by omega) hb
  refine ⟨Nat.lt_of_le_of_lt (Nat.sub_le _ _) h.lt, List.nodup_cons.mpr ⟨fun z => ?_, h.nd⟩, fun b hb' => ?_⟩
  · have := (h.off a z).2
    rw [hb] at this
    cases this
  · rcases List.mem_cons.mp hb' with rfl | hb'
    · exact ⟨ha, h2⟩
    · have z := h.off b hb'
      refine ⟨z.1, ?_⟩
      rw [Py.bit_off2 N (by omega) a (by omega) hb b (by omega) fun e => by
        rw [e, hb] at z
        exact absurd z.2 (by decide)]
      exact z.2
section
variable {P : Program} {w : World} {K : PySem.W.Frag} {mg : Str → Option Value} {base : Heap} {k : Nat}
def sp_l_own : Sp := fun vs H Q _ => ∃ (p a : Addr) (acc : List Int), vs = [.ref p, .ref a] ∧ Bag H p ∧ a ≠ p ∧ H a = some (.lst (acc.map V.int)) ∧ acc.length ≤ 8 ∧
  ∀ H' u tp tab, Keep p H H' → Bag H' p → Dt (SN p) H' (.ref u) (thD tp tab) → tp.length ≤ 8 → tab.length ≤ 256 → 0 < tab.length → Q (.ref u) H'
set_option maxHeartbeats 16000000 in
theorem ok_l_own (T : Defs K mg) : FnOk P w K mg base CX0 (k + 2) T.a_l_own T.d_l_own ["_law_bag_here", "_law_accounts_here"] sp_l_own := by
  have G_l_take : FnOk P w K mg base CX0 (k + 1) _ _ _ _ := ok_l_take T
  have G_l_sums : FnOk P w K mg base CX0 (k + 1) _ _ _ _ := ok_l_sums (k := k) T
  refine T.F_l_own.ok sc_l_own (fun vs H Q E h => ?_) (fun cdv A outer s H vs Q E hr h => ?_)
  · obtain ⟨p, a, acc, rfl, _⟩ := h
    rfl
  · obtain ⟨p, a, acc, rfl, b, nap, ha, a8, q⟩ := h
    refine ⟨_, PSs.nox
(pss_cons (ps_set (i := 2) sc_l_own.nd rfl (.inl rfl) (pe_call G_l_sums hr (by rfl) T.g_l_sums T.F_l_sums.kp T.b_l_sums .nil pass0 (pa_cons (pv 1) pa_nil)))
    (pss_cons (ps_setLc (i := 3) (own := [("_law_place", 16), ("_law_pence", 17)]) (g := gTup K 2 (gCons (gName 16) (gCons (gName 17) gNil))) rfl sc_l_own.nd rfl rfl (sw_true rfl rfl rfl (by decide +kernel)) (pi_enum (by rfl) T.z_enumerate (pa_cons (pv 1) pa_nil)) (blkOk_by (N := N_l_own) (sc := defScope s_l_own) (by decide +kernel)) (fun _ _ _ _ _ => (pg_tup rfl (pgs_cons (pg_name (i := 16) sc_l_own.nd rfl (.inl rfl)) (pgs_cons (pg_name (i := 17) sc_l_own.nd rfl (.inl rfl)) pgs_nil)))) (fun _ _ _ _ _ => pts_one (pt_cmpR op_ne (pv 17) (pe_int) (nomark _))) (fun _ _ _ _ _ => (pv 16)))
    (pss_cons (ps_set (i := 4) sc_l_own.nd rfl (.inl rfl) (pe_slice sl_list (pe_lst (pa_cons (pe_int) (pa_cons (pe_int) (pa_cons (pe_int) (pa_cons (pe_int) (pa_cons (pe_int) (pa_cons (pe_int) (pa_cons (pe_int) (pa_cons (pe_int) pa_nil))))))))) po_none (po_some (pe_callB (r := rLenS K) call_lenS (by rfl) T.z_len (by decide +kernel) (pa_cons (pv 3) pa_nil)))))
    (pss_cons (ps_set (i := 5) sc_l_own.nd rfl (.inr rfl) (pe_lst (pa_cons (pe_int) pa_nil)))
    (pss_cons (ps_for PassesOwn.never rfl (pi_range2 (by rfl) T.z_range (pa_cons (pe_int) (pa_cons (pe_callB (r := rLenS K) call_lenS (by rfl) T.z_len (by decide +kernel) (pa_cons (pv 2) pa_nil)) pa_nil))) (pg_name (i := 6) sc_l_own.nd rfl (.inr rfl))
      (pss_cons (ps_setLc (i := 7) (own := [("_law_bit", 10)]) (g := gName 10) rfl sc_l_own.nd rfl rfl (sw_true rfl rfl rfl (by decide +kernel)) (pi_list (pv 4)) (blkOk_by (N := N_l_own) (sc := defScope s_l_own) (by decide +kernel)) (fun _ _ _ _ _ => (pg_name (i := 10) sc_l_own.nd rfl (.inl rfl))) (fun _ _ _ _ _ => pts_one (pt_cmpR op_eq (pe_op op_mod (pe_op op_fdiv (pv 6) (pv 10)) (pe_int)) (pe_int) (nomark _))) (fun _ _ _ _ _ => (pe_ix (r := rIxL K) ix_list (pv 5) (pe_op op_sub (pv 6) (pv 10)) (fun _ _ => rfl))))
      (pss_one (ps_expr (pe_bm PySem.F.plainAttrs_list PySem.F.slot_list_append PySem.F.type_list_append mt_append (pv 5) (pa_cons (pe_op op_add (pe_callB (r := Mx.rMaxI K) (Mx.cr_maxI rfl hr.units) (by rfl) T.z_max (by decide +kernel) (pa_cons (pv 7) pa_nil)) (pe_callTy call_int1 (by rfl) T.z_int (by decide +kernel) (pa_cons (pe_cmpR op_eq (pe_ix (r := rIxL K) ix_list (pv 2) (pv 6) (fun _ _ => rfl)) (pe_int) (nomark _)) pa_nil))) pa_nil))))))
    (pss_cons (ps_asg (pe_tup (pa_cons (pe_op op_sub (pe_callB (r := rLenS K) call_lenS (by rfl) T.z_len (by decide +kernel) (pa_cons (pv 2) pa_nil)) (pe_int)) (pa_cons (pe_lst pa_nil) pa_nil))) (pg_tup rfl (pgs_cons (pg_name (i := 6) sc_l_own.nd rfl (.inr rfl)) (pgs_cons (pg_name (i := 8) sc_l_own.nd rfl (.inl rfl)) pgs_nil))))
    (pss_cons (ps_while PassesOwn.never (pt_cmpR op_gt (pv 6) (pe_int) (nomark _))
      (pss_cons (ps_set (i := 9) sc_l_own.nd rfl (.inr rfl) (pe_callTy call_int1 (by rfl) T.z_int (by decide +kernel) (pa_cons (pe_cmpR op_eq (pe_ix (r := rIxL K) ix_list (pv 2) (pv 6) (fun _ _ => rfl)) (pe_int) (nomark _)) pa_nil)))
      (pss_cons (ps_setLc (i := 7) (own := [("_law_bit", 10)]) (g := gName 10) rfl sc_l_own.nd rfl rfl (sw_true rfl rfl rfl (by decide +kernel)) (pi_list (pv 4)) (blkOk_by (N := N_l_own) (sc := defScope s_l_own) (by decide +kernel)) (fun _ _ _ _ _ => (pg_name (i := 10) sc_l_own.nd rfl (.inl rfl))) (fun _ _ _ _ _ => pts_one (pt_cmpR op_eq (pe_op op_mod (pe_op op_fdiv (pv 6) (pv 10)) (pe_int)) (pe_int) (nomark _))) (fun _ _ _ _ _ => (pv 10)))
      (pss_cons (ps_setLc (i := 7) (own := [("_law_bit", 10)]) (g := gName 10) rfl sc_l_own.nd rfl rfl (sw_true rfl rfl rfl (by decide +kernel)) (pi_list (pv 7)) (blkOk_by (N := N_l_own) (sc := defScope s_l_own) (by decide +kernel)) (fun _ _ _ _ _ => (pg_name (i := 10) sc_l_own.nd rfl (.inl rfl))) (fun _ _ _ _ _ => pts_one (pt_cmpR op_eq (pe_op op_add (pe_ix (r := rIxL K) ix_list (pv 5) (pe_op op_sub (pv 6) (pv 10)) (fun _ _ => rfl)) (pv 9)) (pe_ix (r := rIxL K) ix_list (pv 5) (pv 6) (fun _ _ => rfl)) (nomark _))) (fun _ _ _ _ _ => (pv 10)))
      (pss_cons (ps_set (i := 10) sc_l_own.nd rfl (.inl rfl) (pe_ix (r := rIxL K) ix_list (pv 7) (pe_call G_l_take hr (by rfl) T.g_l_take T.F_l_take.kp T.b_l_take .nil pass0 (pa_cons (pv 0) (pa_cons (pe_callB (r := rLenS K) call_lenS (by rfl) T.z_len (by decide +kernel) (pa_cons (pv 7) pa_nil)) pa_nil))) (fun _ _ => rfl)))
      (pss_cons (ps_expr (pe_bm PySem.F.plainAttrs_list PySem.F.slot_list_insert PySem.F.type_list_insert mt_insert (pv 8) (pa_cons (pe_int) (pa_cons (pe_ix (r := rIxL K) ix_list (pv 3) (pe_bm PySem.F.plainAttrs_list PySem.F.slot_list_index PySem.F.type_list_index mt_index (pv 4) (pa_cons (pv 10) pa_nil)) (fun _ _ => rfl)) pa_nil))))
      (pss_one (ps_aug (i := 6) sc_l_own.nd rfl (.inr rfl) (pv 10) ip_sub))))))))
    (pss_cons (ps_par (i := 11) (j := 12) (by rfl) sc_l_own.nd rfl rfl (by decide) rfl rfl (pa_cons (pe_lst pa_nil) (pa_cons (pe_int) pa_nil)) (by rfl))
    (pss_cons (ps_for PassesOwn.never rfl (pi_zip (by rfl) T.z_zip (pa_cons (pv 8) (pa_cons (pe_slice sl_list (pv 8) (po_some (pe_int)) po_none) pa_nil))) (pg_tup rfl (pgs_cons (pg_name (i := 13) sc_l_own.nd rfl (.inl rfl)) (pgs_cons (pg_name (i := 14) sc_l_own.nd rfl (.inl rfl)) pgs_nil)))
      (pss_cons (ps_aug (i := 12) sc_l_own.nd rfl (.inl rfl) (pe_ix (r := rIxL K) ix_list (pv 1) (pv 13) (fun _ _ => rfl)) ip_add)
      (pss_one (ps_if (pt_cmpR op_ne (pv 12) (pe_int) (nomark _))
        (pss_cons (ps_set (i := 15) sc_l_own.nd rfl (.inl rfl) (pe_ifExp (pt_cmpR op_gt (pv 12) (pe_int) (nomark _)) (pe_tup (pa_cons (pv 14) (pa_cons (pv 13) (pa_cons (pv 12) pa_nil)))) (pe_tup (pa_cons (pv 13) (pa_cons (pv 14) (pa_cons (pe_un un_neg (pv 12)) pa_nil))))))
        (pss_one (ps_expr (pe_bm PySem.F.plainAttrs_list PySem.F.slot_list_insert PySem.F.type_list_insert mt_insert (pv 11) (pa_cons (pe_call G_l_take hr (by rfl) T.g_l_take T.F_l_take.kp T.b_l_take .nil pass0 (pa_cons (pv 0) (pa_cons (pe_op op_add (pe_callB (r := rLenS K) call_lenS (by rfl) T.z_len (by decide +kernel) (pa_cons (pv 11) pa_nil)) (pe_int)) pa_nil))) (pa_cons (pv 15) pa_nil))))))
        pss_nil))))
    (pss_one (ps_ret (pe_tup (pa_cons (pv 11) (pa_cons (pv 5) pa_nil))))))))))))))
      , ?_⟩
    refine ⟨.ref a, rfl, a, acc, rfl, SqL.of ha, a8, fun H1 S s1 nS eS => ?_⟩
    rw [← Py.nzW_eq] at eS
    have nl := Py.nzP_len acc
    have nwl := Py.nzW_len acc
    have pmem : ∀ z ∈ nzP acc, z < acc.length := fun z hz => (Py.nzP_mem.mp hz).1
    have nSp : S ≠ p := b.ne nS
    have ha1 := s1 _ _ ha
    -- places
    refine ⟨.ref a, rfl, a, _, rfl, SqL.of ha1, fun L nL => ?_⟩
    refine lc_it (walk_enum (xs := acc.map V.int)) (fun i Hx => Same H1 Hx ∧ Hx L = some (.lst (((List.range i).filter fun p => decide (acc.getD p 0 ≠ 0)).map nN))) ⟨same_upd nL, upd_same⟩ (fun i Hx _ pv => SqL.of (pv.1 _ _ ha1)) (fun i v Hx Hx' hi pv yy => ?_) (fun H2 pv => ?_)
    · obtain ⟨U, xv, yv, rfl, nU, rfl, ex, ey⟩ := yy
      obtain ⟨sx, eL⟩ := pv
      have ex : xv = .int (i : Int) := (Option.some.inj ex).symm
      subst ex
      rw [List.length_map] at hi
      have ey : (acc.map V.int)[i]? = some yv := ey
      have ev : yv = .int (acc.getD i 0) := by
        rw [List.getElem?_map, List.getElem?_eq_getElem hi] at ey
        rw [List.getD_eq_getElem?_getD, List.getElem?_eq_getElem hi]
        exact (Option.some.inj ey).symm
      subst ev
      have sU := same_upd (o := .tup [.int (i : Int), .int (acc.getD i 0)]) nU
      have eLu := sU _ _ eL
      rw [List.range_succ, List.filter_append, List.map_append]
      have fl : ((List.range i).filter fun p => decide (acc.getD p 0 ≠ 0)).length ≤ i := Nat.le_trans (List.length_filter_le _ _) (by rw [List.length_range]; exact Nat.le_refl _)
      refine ⟨U, _, rfl, SqT.of upd_same, rfl, _, _, rfl, _, [], rfl, rfl, rfl, .int (acc.getD i 0), rfl, rfl, _, rfl, ite2 (fun c => ?_) (fun c => ?_)⟩
      · have c : acc.getD i 0 ≠ 0 := fun z => by rw [z] at c; simp at c
        refine ⟨.int (i : Int), rfl, _, eLu, by rw [List.length_map]; exact small5000 (by omega), same_set (sx.trans sU) nL, ?_⟩
        rw [upd_same, List.filter_cons_of_pos (by exact decide_eq_true c)]
        rfl
      · have c : acc.getD i 0 = 0 := Classical.byContradiction fun z => c (by
          simp only [ne_eq, Bool.not_eq_true', decide_eq_false_iff_not]
          exact fun w => z (by injection w))
        refine ⟨sx.trans sU, ?_⟩
        rw [eLu, List.filter_cons_of_neg (by rw [decide_eq_true_eq]; exact fun z => z c)]
        rw [List.filter_nil, List.map_nil, List.append_nil]
    obtain ⟨s2, eL⟩ := pv
    rw [List.length_map] at eL
    have eL : H2 L = some (.lst ((nzP acc).map nN)) := eL
    have nLp : L ≠ p := (b.keep s1).ne nL
    -- bits
    refine ⟨by show 8 ≤ sizeLine; decide, fun Z nZ => ?_⟩
    have s3 := same_upd (o := .lst [V.int 1, .int 2, .int 4, .int 8, .int 16, .int 32, .int 64, .int 128]) nZ
    have eZ : (upd H2 Z (.lst [V.int 1, .int 2, .int 4, .int 8, .int 16, .int 32, .int 64, .int 128])) Z = _ := upd_same
    generalize upd H2 Z (.lst [V.int 1, .int 2, .int 4, .int 8, .int 16, .int 32, .int 64, .int 128]) = H3 at s3 eZ ⊢
    have eL3 := s3 _ _ eL
    refine ⟨.ref L, rfl, L, _, rfl, .inl (SqL.of eL3), _, rfl, Z, _, rfl, SqL.of eZ, fun B nB => ?_⟩
    have ln : (nzW acc).length ≤ 8 := by omega
    have eB0 : cutV [V.int 1, .int 2, .int 4, .int 8, .int 16, .int 32, .int 64, .int 128] none (some (((nzP acc).map nN).length : Int)) = bitsL (nzW acc).length := by
      rw [cut_take, List.length_map, ← nwl]
      exact bits_take _ ln
    rw [eB0]
    have s123 := s1.trans (s2.trans s3)
    have nBp : B ≠ p := (b.keep s123).ne nB
    have s4 := same_upd (o := .lst (bitsL (nzW acc).length)) nB
    have eB : (upd H3 B (.lst (bitsL (nzW acc).length))) B = _ := upd_same
    have s04 := s123.trans s4
    have eS4 := s4 _ _ (s3 _ _ (s2 _ _ eS))
    have eL4 := s4 _ _ eL3
    generalize upd H3 B (.lst (bitsL (nzW acc).length)) = H4 at s4 s04 eB eS4 eL4 ⊢
    -- table
    refine ⟨by show 1 ≤ sizeLine; decide, fun Ta nT => ?_⟩
    have nTp : Ta ≠ p := (b.keep s04).ne nT
    have s5 := same_upd (o := .lst [V.int 0]) nT
    have eT : (upd H4 Ta (.lst [V.int 0])) Ta = some (.lst (([0] : List Int).map V.int)) := upd_same
    generalize upd H4 Ta (.lst [V.int 0]) = H5 at s5 eT ⊢
    have nwm : nzW acc = nzW acc := rfl
    generalize hws : nzW acc = ws at eS4 eB ln nwl s4 s04
    have sl := Py.sumsM_len ws
    have p8 := pow8 ln
    have p0 : 0 < 2 ^ ws.length := Nat.pow_pos (by decide)
    have eS5 := s5 _ _ eS4
    have at_sum : ∀ {N : Nat}, N < 2 ^ ws.length → atI ((sumsM ws).map V.int) (N : Int) = some (.int ((sumsM ws).getD N 0)) := fun {N} h => atI_nat (getD_at (by omega))
    have ez : ∀ N : Nat, (if decide (V.int ((sumsM ws).getD N 0) = V.int 0) = true then (1 : Int) else 0) = zI (sumsM ws) N := fun N => by
      unfold zI
      by_cases z : (sumsM ws).getD N 0 = 0
      · rw [if_pos (decide_eq_true (by rw [z])), if_pos z]
      · rw [if_neg (fun w => z (by injection (of_decide_eq_true w))), if_neg z]
    refine ⟨.ref S, rfl, S, _, rfl, .inl (SqL.of eS5), 1, _, rfl, ⟨by decide, by decide, by rw [List.length_map, sl]; omega, by rw [List.length_map, sl]; omega⟩, ?_⟩
    rw [List.length_map, sl, show (((2 ^ ws.length : Nat) : Int) - 1).toNat = 2 ^ ws.length - 1 by omega]
    refine for_range (lo := 1) (n := 2 ^ ws.length - 1) (fun i σ Hx => ∃ (y6 y7 : Option V) (tab : List Int), σ = [some (.ref p), some (.ref a), some (.ref S), some (.ref L), some (.ref B), some (.ref Ta), y6, y7, none, none, none, none, none, none, none, none, none, none] ∧ Same H4 Hx ∧ Hx Ta = some (.lst (tab.map V.int)) ∧ TabTo (sumsM ws) ws.length (i + 1) tab)
      ⟨_, _, [0], rfl, s5, eT, ⟨rfl, rfl, fun S h1 h2 => absurd h1 (by omega), fun S h1 h2 => absurd h1 (by omega)⟩⟩ (fun i σ Hx hi hp => ?_) (fun σ Hx hp => ?_)
    · obtain ⟨y6, y7, tab, rfl, sx, eTx, htab⟩ := hp
      obtain ⟨N, hN⟩ : ∃ N, N = i + 1 := ⟨_, rfl⟩
      have eN : (1 : Int) + (i : Int) = (N : Int) := by omega
      rw [eN]
      rw [← hN] at htab
      have N1 : N < 2 ^ ws.length := by omega
      have tl := htab.len
      have eBx := sx _ _ eB
      -- some
      refine ⟨.ref B, rfl, B, rfl, ⟨_, SqL.of eBx⟩, fun M nM => ?_⟩
      refine lc_it (walk_list (xs := bitsL ws.length)) (fun j Hy => Same Hx Hy ∧ Hy M = some (.lst (((winL N j).map fun a => tab.getD (N - 2 ^ a) 0).map V.int))) ⟨same_upd nM, upd_same⟩ (fun j Hy _ pv => SqL.of (pv.1 _ _ eBx)) (fun j v Hy₀ Hy hj pv yy => ?_) (fun H6 pv => ?_)
      · obtain ⟨rfl, ey⟩ := yy
        obtain ⟨sy, eM⟩ := pv
        obtain ⟨hj, rfl⟩ := bitsL_at ey
        have p2 : 0 < 2 ^ j := Nat.pow_pos (by decide)
        have p3 : 2 ^ j ≤ 256 := pow8 (by omega)
        have wl := winL_len N j
        rw [winL_snoc, List.map_append, List.map_append]
        refine ⟨rfl, _, rfl, _, rfl, _, _, rfl, rfl, ⟨by omega, by omega⟩, _, 2, rfl, rfl, (by show (0 : Int) < 2; decide), rfl, _, rfl, ite2 (fun c => ?_) (fun c => ?_)⟩
        · have c := of_decide_eq_true c
          have c : (N : Int) / ((2 ^ j : Nat) : Int) % 2 = 1 := by injection c
          have c := bit_int.mp c
          have c2 := bnum c
          rw [if_pos c]
          refine ⟨.ref Ta, rfl, _, rfl, _, rfl, _, _, rfl, rfl, Ta, _, _, .int (tab.getD (N - 2 ^ j) 0), rfl, rfl, SqL.of (sy _ _ eTx), ?_, _, eM, by rw [List.length_map, List.length_map]; exact small5000 (by omega), same_set sy nM, ?_⟩
          · rw [show (N : Int) - ((2 ^ j : Nat) : Int) = ((N - 2 ^ j : Nat) : Int) by omega]
            exact atI_nat (getD_at (by omega))
          · rw [upd_same]
            rfl
        · have c : ¬ bit N j = true := fun z => c (decide_eq_true (congrArg V.int (bit_int.mpr z)))
          rw [if_neg c]
          exact ⟨sy, by rw [eM]; simp⟩
      obtain ⟨s6, eM⟩ := pv
      rw [bitsL_len] at eM
      obtain ⟨b0, hb0, hb1⟩ := Py.bit_ex ws.length ln N N1 (by omega)
      have w0 : b0 ∈ winL N ws.length := winL_mem.mpr ⟨hb0, hb1⟩
      obtain ⟨x0, xr, ex0⟩ : ∃ x xr, (winL N ws.length).map (fun a => tab.getD (N - 2 ^ a) 0) = x :: xr := by
        cases e : winL N ws.length with
        | nil => rw [e] at w0; cases w0
        | cons y ys => exact ⟨_, _, rfl⟩
      have mge : ∀ a, a < ws.length → bit N a = true → tab.getD (N - 2 ^ a) 0 ≤ Mx.maxI x0 xr := fun a h1 h2 => by
        have z : tab.getD (N - 2 ^ a) 0 ∈ x0 :: xr := by
          rw [← ex0]
          exact List.mem_map.mpr ⟨a, winL_mem.mpr ⟨h1, h2⟩, rfl⟩
        rcases List.mem_cons.mp z with z | z
        · rw [z]; exact (Mx.maxI_ge xr x0).1
        · exact (Mx.maxI_ge xr x0).2 _ z
      have mex : ∃ a, a < ws.length ∧ bit N a = true ∧ Mx.maxI x0 xr = tab.getD (N - 2 ^ a) 0 := by
        have z := Mx.maxI_mem xr x0
        rw [← ex0] at z
        obtain ⟨a, h1, h2⟩ := List.mem_map.mp z
        obtain ⟨h3, h4⟩ := winL_mem.mp h1
        exact ⟨a, h3, h4, h2.symm⟩
      rw [ex0] at eM
      have eT6 := s6 _ _ eTx
      have eS6 := s6 _ _ (sx _ _ eS4)
      refine ⟨.ref Ta, rfl, .inl ⟨rfl, _, SqL.of eT6⟩, .ref M, rfl, M, x0, xr, rfl, SqL.of eM, .ref S, rfl, .int (N : Int), rfl, S, _, _, .int ((sumsM ws).getD N 0), rfl, rfl, SqL.of eS6, at_sum N1, rfl, .inr ⟨_, rfl, ?_⟩⟩
      refine ⟨_, _, rfl, rfl, Ta, _, _, rfl, rfl, eT6, by rw [List.length_map]; exact small5000 (by omega), ?_⟩
      rw [ez]
      refine ⟨_, _, tab ++ [Mx.maxI x0 xr + zI (sumsM ws) N], rfl, same_set (sx.trans s6) nT, by rw [upd_same, List.map_append]; rfl, ?_⟩
      have hsn := htab.snoc (x := Mx.maxI x0 xr + zI (sumsM ws) N) ln (by omega) (fun z => absurd z (by omega)) (fun _ a h1 h2 => by have := mge a h1 h2; omega) (fun _ => by
        obtain ⟨a, h1, h2, h3⟩ := mex
        exact ⟨a, h1, h2, by rw [h3]⟩)
      rw [show i + 1 + 1 = N + 1 by omega]
      exact hsn
    obtain ⟨y6, y7, tab, rfl, sx, eTx, htab⟩ := hp
    have tl := htab.len
    have etl : tab.length = 2 ^ ws.length := by omega
    have htab : TabTo (sumsM ws) ws.length (2 ^ ws.length) tab := by rw [show 2 ^ ws.length - 1 + 1 = 2 ^ ws.length by omega] at htab; exact htab
    have s06 := s04.trans sx
    have eSx := sx _ _ eS4
    -- number, row
    refine ⟨.ref S, rfl, S, _, rfl, .inl (SqL.of eSx), _, 1, rfl, rfl, Nat.zero_le _, fun R nR => ?_⟩
    have s7 := same_upd (o := .lst []) nR
    refine ⟨two_sz, fun U nU => ?_⟩
    have s8 := s7.trans (same_upd (o := .tup [.int (((List.map V.int (sumsM ws)).length : Int) - 1), .ref R]) nU)
    have eR : (upd (upd Hx R (.lst [])) U (.tup [.int (((List.map V.int (sumsM ws)).length : Int) - 1), .ref R])) R = some (.lst (([] : List Nat).map nN)) := same_upd nU _ _ upd_same
    have eU : (upd (upd Hx R (.lst [])) U (.tup [.int (((List.map V.int (sumsM ws)).length : Int) - 1), .ref R])) U = _ := upd_same
    generalize upd (upd Hx R (.lst [])) U (.tup [.int (((List.map V.int (sumsM ws)).length : Int) - 1), .ref R]) = H8 at s8 eR eU ⊢
    refine ⟨U, _, rfl, SqT.of eU, rfl, _, _, rfl, _, [], rfl, rfl, ?_⟩
    rw [List.length_map, sl]
    have nRp : R ≠ p := (b.keep s06).ne nR
    have b8 := b.keep (s06.trans s8)
    have nav : ∀ {o : HO} {x : Addr}, Hx x = some o → x ≠ R := fun h => ne_of_none h nR
    refine while_by (fun σ Hy => ∃ (N : Nat) (y7 y9 y10 : Option V) (bs : List Nat), σ = [some (.ref p), some (.ref a), some (.ref S), some (.ref L), some (.ref B), some (.ref Ta), some (.int (N : Int)), y7, some (.ref R), y9, y10, none, none, none, none, none, none, none] ∧ Keep p Hx Hy ∧ Bag Hy p ∧ Hy R = some (.lst ((bs.map fun b => (nzP acc).getD b 0).map nN)) ∧ RowM ws.length (nzP acc) N bs)
      (fun σ _ => match (σ[6]? : Option (Option V)) with | some (some (V.int i)) => i.toNat | _ => 0) ⟨2 ^ ws.length - 1, _, _, _, [], by rw [show ((2 ^ ws.length - 1 : Nat) : Int) = ((2 ^ ws.length : Nat) : Int) - 1 by omega]; rfl, .of s8, b8, eR, ⟨by omega, List.nodup_nil, fun b h => by cases h⟩⟩ (fun σ Hy hp => ?_) (fun σ H5 Q Q' h z => ?_)
    · obtain ⟨N, y7, y9, y10, bs, rfl, ky, by_, eRy, hrow⟩ := hp
      refine ⟨.int N, rfl, _, 0, rfl, rfl, _, rfl, ite2 (fun h0 => ?_) (fun h0 => ?_)⟩
      · have N0 : 0 < N := by have := of_decide_eq_true h0; omega
        have N1 := hrow.lt
        have eSy := ky _ _ nSp eSx
        have eBy := ky _ _ nBp (sx _ _ eB)
        have eTy := ky _ _ nTp eTx
        have eLy := ky _ _ nLp (sx _ _ eL4)
        refine ⟨.ref S, rfl, .int (N : Int), rfl, S, _, _, .int ((sumsM ws).getD N 0), rfl, rfl, SqL.of eSy, at_sum N1, rfl, .inr ⟨_, rfl, ?_⟩⟩
        rw [ez]
        -- bits of the number
        refine ⟨.ref B, rfl, B, rfl, ⟨_, SqL.of eBy⟩, fun M nM => ?_⟩
        refine lc_it (walk_list (xs := bitsL ws.length)) (fun j Hz => Same Hy Hz ∧ Hz M = some (.lst ((winL N j).map fun a => V.int ((2 ^ a : Nat) : Int)))) ⟨same_upd nM, upd_same⟩ (fun j Hz _ pv => SqL.of (pv.1 _ _ eBy)) (fun j v Hz₀ Hz hj pv yy => ?_) (fun H9 pv => ?_)
        · obtain ⟨rfl, ey⟩ := yy
          obtain ⟨sy, eM⟩ := pv
          obtain ⟨hj, rfl⟩ := bitsL_at ey
          have p2 : 0 < 2 ^ j := Nat.pow_pos (by decide)
          have p3 : 2 ^ j ≤ 256 := pow8 (by omega)
          have wl := winL_len N j
          rw [winL_snoc, List.map_append]
          refine ⟨rfl, _, rfl, _, rfl, _, _, rfl, rfl, ⟨by omega, by omega⟩, _, 2, rfl, rfl, (by show (0 : Int) < 2; decide), rfl, _, rfl, ite2 (fun c => ?_) (fun c => ?_)⟩
          · have c := of_decide_eq_true c
            have c : (N : Int) / ((2 ^ j : Nat) : Int) % 2 = 1 := by injection c
            have c := bit_int.mp c
            rw [if_pos c]
            refine ⟨_, rfl, _, eM, by rw [List.length_map]; exact small5000 (by omega), same_set sy nM, ?_⟩
            rw [upd_same]
            rfl
          · have c : ¬ bit N j = true := fun z => c (decide_eq_true (congrArg V.int (bit_int.mpr z)))
            rw [if_neg c]
            exact ⟨sy, by rw [eM]; simp⟩
        obtain ⟨s9, eM⟩ := pv
        rw [bitsL_len] at eM
        have nMp : M ≠ p := by_.ne nM
        have eT9 := s9 _ _ eTy
        -- those that keep the greatest
        refine ⟨.ref M, rfl, M, rfl, ⟨_, SqL.of eM⟩, fun M2 nM2 => ?_⟩
        refine lc_it (walk_list (xs := (winL N ws.length).map fun a => V.int ((2 ^ a : Nat) : Int))) (fun j Hz => Same H9 Hz ∧ Hz M2 = some (.lst ((((winL N ws.length).take j).filter fun a => decide (tab.getD (N - 2 ^ a) 0 + zI (sumsM ws) N = tab.getD N 0)).map fun a => V.int ((2 ^ a : Nat) : Int)))) ⟨same_upd nM2, upd_same⟩ (fun j Hz _ pv => SqL.of (pv.1 _ _ eM)) (fun j v Hz₀ Hz hj pv yy => ?_) (fun H10 pv => ?_)
        · obtain ⟨rfl, ey⟩ := yy
          obtain ⟨sy, eM2⟩ := pv
          rw [List.length_map] at hj
          obtain ⟨aa, eaa⟩ : ∃ aa, (winL N ws.length)[j]? = some aa := ⟨_, List.getElem?_eq_getElem hj⟩
          have ev : v = .int ((2 ^ aa : Nat) : Int) := by
            rw [List.getElem?_map, eaa] at ey
            exact (Option.some.inj ey).symm
          subst ev
          obtain ⟨h1, h2⟩ := winL_mem.mp (List.mem_of_getElem? eaa)
          have h3 := bnum h2
          have p2 : 0 < 2 ^ aa := Nat.pow_pos (by decide)
          have wl := winL_len N ws.length
          have fl : (((winL N ws.length).take j).filter fun a => decide (tab.getD (N - 2 ^ a) 0 + zI (sumsM ws) N = tab.getD N 0)).length ≤ j := Nat.le_trans (List.length_filter_le _ _) (by rw [List.length_take]; omega)
          have tk : ((winL N ws.length).take (j + 1)).filter (fun a => decide (tab.getD (N - 2 ^ a) 0 + zI (sumsM ws) N = tab.getD N 0)) = ((winL N ws.length).take j).filter (fun a => decide (tab.getD (N - 2 ^ a) 0 + zI (sumsM ws) N = tab.getD N 0)) ++ if tab.getD (N - 2 ^ aa) 0 + zI (sumsM ws) N = tab.getD N 0 then [aa] else [] := by
            rw [List.take_add_one, eaa, List.filter_append]
            congr 1
            show List.filter _ [aa] = _
            rw [List.filter_cons]
            by_cases c : tab.getD (N - 2 ^ aa) 0 + zI (sumsM ws) N = tab.getD N 0
            · rw [if_pos (decide_eq_true c), if_pos c]; rfl
            · rw [if_neg (fun z => c (of_decide_eq_true z)), if_neg c]; rfl
          rw [tk, List.map_append]
          refine ⟨rfl, .ref Ta, rfl, _, rfl, _, rfl, _, _, rfl, rfl, Ta, _, _, .int (tab.getD (N - 2 ^ aa) 0), rfl, rfl, SqL.of (sy _ _ eT9), ?_, _, rfl, _, _, rfl, rfl, .ref Ta, rfl, _, rfl, Ta, _, _, .int (tab.getD N 0), rfl, rfl, SqL.of (sy _ _ eT9), atI_nat (getD_at (by omega)), rfl, _, rfl, ite2 (fun c => ?_) (fun c => ?_)⟩
          · rw [show (N : Int) - ((2 ^ aa : Nat) : Int) = ((N - 2 ^ aa : Nat) : Int) by omega]
            exact atI_nat (getD_at (by omega))
          · have c := of_decide_eq_true c
            have c : tab.getD (N - 2 ^ aa) 0 + zI (sumsM ws) N = tab.getD N 0 := by injection c
            rw [if_pos c]
            refine ⟨_, rfl, _, eM2, by rw [List.length_map]; exact small5000 (by omega), same_set sy nM2, ?_⟩
            rw [upd_same]
            rfl
          · have c : ¬ tab.getD (N - 2 ^ aa) 0 + zI (sumsM ws) N = tab.getD N 0 := fun z => c (decide_eq_true (congrArg V.int z))
            rw [if_neg c]
            exact ⟨sy, by rw [eM2]; simp⟩
        obtain ⟨s10, eM2⟩ := pv
        rw [List.length_map, List.take_length] at eM2
        have nM2p : M2 ≠ p := (by_.keep s9).ne nM2
        obtain ⟨a0, h01, h02, h03⟩ := htab.ex N N0 N1
        have w0 : a0 ∈ (winL N ws.length).filter fun a => decide (tab.getD (N - 2 ^ a) 0 + zI (sumsM ws) N = tab.getD N 0) := List.mem_filter.mpr ⟨winL_mem.mpr ⟨h01, h02⟩, decide_eq_true h03.symm⟩
        have fsub : ∀ z ∈ (winL N ws.length).filter (fun a => decide (tab.getD (N - 2 ^ a) 0 + zI (sumsM ws) N = tab.getD N 0)), z < ws.length ∧ bit N z = true := fun z hz => winL_mem.mp (List.mem_filter.mp hz).1
        have fl : ((winL N ws.length).filter fun a => decide (tab.getD (N - 2 ^ a) 0 + zI (sumsM ws) N = tab.getD N 0)).length ≤ 8 := Nat.le_trans (List.length_filter_le _ _) (Nat.le_trans (winL_len _ _) ln)
        generalize (winL N ws.length).filter (fun a => decide (tab.getD (N - 2 ^ a) 0 + zI (sumsM ws) N = tab.getD N 0)) = fw at eM2 w0 fsub fl
        have f1 : 1 ≤ fw.length := List.length_pos_of_mem w0
        have s910 := s9.trans s10
        have b10 := by_.keep s910
        refine ⟨.ref M2, rfl, .ref p, rfl, .ref M2, rfl, M2, _, rfl, .inl (SqL.of eM2), p, _, rfl, b10, by rw [List.length_map]; omega, by rw [List.length_map]; omega, fun H11 c k11 b11 c0 c1 => ?_⟩
        rw [List.length_map] at c1
        obtain ⟨cn, rfl⟩ : ∃ n : Nat, c = (n : Int) := ⟨c.toNat, by omega⟩
        have cl : cn < fw.length := by omega
        have hfa := fsub fw[cn] (List.getElem_mem cl)
        have efa : (fw.map fun a => V.int ((2 ^ a : Nat) : Int))[cn]? = some (.int ((2 ^ fw[cn] : Nat) : Int)) := by rw [List.getElem?_map, List.getElem?_eq_getElem cl]; rfl
        generalize fw[cn] = fa at hfa efa
        refine ⟨M2, _, _, _, rfl, rfl, SqL.of (k11 _ _ nM2p eM2), atI_nat efa, ?_⟩
        -- row.insert
        have k012 := ky.trans ((Keep.of s910).trans k11)
        have eR11 := k11 _ _ nRp (s910 _ _ eRy)
        have eL11 := k11 _ _ nLp (s910 _ _ eLy)
        have eB11 := k11 _ _ nBp (s910 _ _ eBy)
        have rl := hrow.len
        have hpl : fa < (nzP acc).length := by omega
        refine ⟨.ref R, rfl, .inl ⟨rfl, _, SqL.of eR11⟩, .ref L, rfl, .ref B, rfl, .inl ⟨rfl, _, SqL.of eB11⟩, _, rfl, B, _, _, fa, _, rfl, rfl, SqL.of eB11, rfl, bitsL_flat _, bitsL_get hfa.1, decide_eq_true rfl, fun m z' hm hz' => ?_, L, _, _, nN ((nzP acc).getD fa 0), rfl, rfl, SqL.of eL11, atI_nat (by rw [List.getElem?_map, List.getD_eq_getElem?_getD, List.getElem?_eq_getElem hpl]; rfl), R, _, _, _, rfl, rfl, eR11, by rw [List.length_map, List.length_map]; exact small5000 (by omega), by omega, by omega, ?_⟩
        · obtain ⟨h1, rfl⟩ := bitsL_at hz'
          refine decide_eq_false fun z => ?_
          have z : ((2 ^ m : Nat) : Int) = ((2 ^ fa : Nat) : Int) := by first | exact z | (injection z)
          have := two_inj z
          omega
        have h3 := bnum hfa.2
        have p2 : 0 < 2 ^ fa := Nat.pow_pos (by decide)
        refine ⟨_, rfl, _, rfl, _, _, rfl, rfl, ⟨N - 2 ^ fa, some (.ref M2), some (.int (zI (sumsM ws) N)), some (.int ((2 ^ fa : Nat) : Int)), fa :: bs, ?_, k012.set nR, b11.at (upd_ne nRp.symm), ?_, hrow.put ln hfa.1 hfa.2⟩, ?_⟩
        · rw [show ((N - 2 ^ fa : Nat) : Int) = (N : Int) - ((2 ^ fa : Nat) : Int) by omega]
          rfl
        · rw [upd_same]
          rfl
        · show ((N : Int) - ((2 ^ fa : Nat) : Int)).toNat < ((N : Nat) : Int).toNat
          omega
      · -- payments
        have rl := hrow.len
        have erow : ∀ z ∈ bs.map (fun b => (nzP acc).getD b 0), z < acc.length := fun z hz => by
          obtain ⟨b, hb, rfl⟩ := List.mem_map.mp hz
          have h1 := (hrow.off b hb).1
          have h2 : b < (nzP acc).length := by omega
          rw [List.getD_eq_getElem?_getD, List.getElem?_eq_getElem h2]
          exact pmem _ (List.getElem_mem h2)
        have rowl : (bs.map fun b => (nzP acc).getD b 0).length ≤ 8 := by rw [List.length_map]; omega
        generalize bs.map (fun b => (nzP acc).getD b 0) = row at eRy erow rowl
        refine ⟨Nat.zero_le _, fun Pm nP => ⟨_, _, rfl, ?_⟩⟩
        have s9 := same_upd (o := .lst []) nP
        have nPp : Pm ≠ p := by_.ne nP
        have eP9 : (upd Hy Pm (.lst [])) Pm = some (.lst (([] : List Addr).map V.ref)) := upd_same
        have nPx : Hx Pm = none := ky.free (b.keep s06) nP by_
        generalize upd Hy Pm (.lst []) = H9 at s9 eP9 ⊢
        have eR9 := s9 _ _ eRy
        refine ⟨.ref R, rfl, .ref R, rfl, 1, rfl, R, _, rfl, SqL.of eR9, fun Z2 nZ2 => ?_⟩
        rw [show cutV (row.map nN) (some 1) none = (row.drop 1).map nN from (cut_dropO (row.map nN) 1).trans (List.map_drop ..).symm]
        have s10 := same_upd (o := .lst ((row.drop 1).map nN)) nZ2
        have eR10 := s10 _ _ eR9
        have eP10 := s10 _ _ eP9
        have eZ10 : (upd H9 Z2 (.lst ((row.drop 1).map nN))) Z2 = _ := upd_same
        have nZp : Z2 ≠ p := (by_.keep s9).ne nZ2
        have nZP : Z2 ≠ Pm := fun z => by rw [z, eP9] at nZ2; cases nZ2
        have nRP : R ≠ Pm := fun z => by rw [z, nP] at eRy; cases eRy
        have k10 : Keep p Hx (upd H9 Z2 (.lst ((row.drop 1).map nN))) := ky.trans (.of (s9.trans s10))
        have b10 : Bag (upd H9 Z2 (.lst ((row.drop 1).map nN))) p := (by_.keep s9).keep s10
        generalize upd H9 Z2 (.lst ((row.drop 1).map nN)) = H10 at eR10 eP10 eZ10 k10 b10 ⊢
        refine ⟨R, Z2, _, _, rfl, SqL.of eR10, SqL.of eZ10, ?_⟩
        refine for_it (walk_zip (n := row.length - 1) (xs := row.map nN) (ys := (row.drop 1).map nN) (by rw [List.length_map, List.length_map, List.length_drop]; omega)) (fun m σ Hz => ∃ (y13 y14 y15 : Option V) (lack : Int) (ts : List Addr) (tp : List Pay), σ = [some (.ref p), some (.ref a), some (.ref S), some (.ref L), some (.ref B), some (.ref Ta), some (.int (N : Int)), y7, some (.ref R), y9, y10, some (.ref Pm), some (.int lack), y13, y14, y15, none, none] ∧ Keep p Hx Hz ∧ Bag Hz p ∧ Hz R = some (.lst (row.map nN)) ∧ Hz Z2 = some (.lst ((row.drop 1).map nN)) ∧ Hz Pm = some (.lst (ts.map V.ref)) ∧ Paired (PayA Hz) ts tp ∧ (∀ t ∈ ts, t ≠ p) ∧ ts.length ≤ m)
          ⟨_, _, _, 0, [], [], rfl, k10, b10, eR10, eZ10, eP10, .nil, fun t h => (by cases h), Nat.le_refl _⟩ (fun m σ Hz _ hp => ?_) (fun m v σ Hz Hz' hm hp yy => ?_) (fun σ H14 hp => ?_)
        · obtain ⟨_, _, _, _, _, _, _, _, _, er, ez', _⟩ := hp
          exact ⟨SqL.of er, SqL.of ez'⟩
        · obtain ⟨U2, xv, yv, rfl, nU2, rfl, ex, ey⟩ := yy
          obtain ⟨y13, y14, y15, lack, ts, tp, rfl, kz, bz, eRz, eZz, ePz, hts, tsp, tsl⟩ := hp
          have ex : (row.map nN)[m]? = some xv := ex
          have ey : ((row.drop 1).map nN)[m]? = some yv := ey
          obtain ⟨x1, ex1, rfl⟩ : ∃ x1, row[m]? = some x1 ∧ xv = nN x1 := by
            rw [List.getElem?_map] at ex
            cases e : row[m]? with
            | none => rw [e] at ex; cases ex
            | some z => rw [e] at ex; exact ⟨z, rfl, (Option.some.inj ex).symm⟩
          obtain ⟨x2, ex2, rfl⟩ : ∃ x2, (row.drop 1)[m]? = some x2 ∧ yv = nN x2 := by
            rw [List.getElem?_map] at ey
            cases e : (row.drop 1)[m]? with
            | none => rw [e] at ey; cases ey
            | some z => rw [e] at ey; exact ⟨z, rfl, (Option.some.inj ey).symm⟩
          have l1 := erow x1 (List.mem_of_getElem? ex1)
          have tl2 := paired_len hts
          have sU := same_upd (o := .tup [nN x1, nN x2]) nU2
          have kz2 := kz.trans (.of sU)
          have bz2 := bz.keep sU
          have eRz := sU _ _ eRz
          have eZz := sU _ _ eZz
          have ePz := sU _ _ ePz
          have hts2 : Paired (PayA (upd Hz U2 (.tup [nN x1, nN x2]))) ts tp := paired_imp hts fun a _ r h => sU _ _ h
          have eU2 : (upd Hz U2 (.tup [nN x1, nN x2])) U2 = _ := upd_same
          generalize upd Hz U2 (.tup [nN x1, nN x2]) = Hv at kz2 bz2 eRz eZz ePz hts2 eU2 ⊢
          refine ⟨U2, _, rfl, SqT.of eU2, rfl, _, _, rfl, _, [], rfl, rfl, ?_⟩
          have hav := kz2 _ _ nap (s06 _ _ ha)
          refine ⟨_, rfl, .ref a, rfl, nN x1, rfl, a, _, _, .int (acc.getD x1 0), rfl, rfl, SqL.of hav, atI_nat (getD_at l1), _, _, rfl, rfl, ?_⟩
          refine ⟨_, rfl, rfl, _, rfl, ite2 (fun c => ?_) (fun c => ?_)⟩
          · refine ⟨_, rfl, _, 0, rfl, rfl, _, rfl, ?_⟩
            have fin : ∀ (Y : Addr) (pp : Pay), Hv Y = none → (∀ σ : List (Option V), σ = [some (.ref p), some (.ref a), some (.ref S), some (.ref L), some (.ref B), some (.ref Ta), some (.int (N : Int)), y7, some (.ref R), y9, y10, some (.ref Pm), some (.int (lack + acc.getD x1 0)), some (nN x1), some (nN x2), some (.ref Y), none, none] → True) → Keep p Hx (upd Hv Y (.tup [.int (pp.1 : Int), .int (pp.2.1 : Int), .int pp.2.2])) ∧ Bag (upd Hv Y (.tup [.int (pp.1 : Int), .int (pp.2.1 : Int), .int pp.2.2])) p ∧ Y ≠ p ∧ (upd Hv Y (.tup [.int (pp.1 : Int), .int (pp.2.1 : Int), .int pp.2.2])) R = some (.lst (row.map nN)) ∧ (upd Hv Y (.tup [.int (pp.1 : Int), .int (pp.2.1 : Int), .int pp.2.2])) Z2 = some (.lst ((row.drop 1).map nN)) ∧ (upd Hv Y (.tup [.int (pp.1 : Int), .int (pp.2.1 : Int), .int pp.2.2])) Pm = some (.lst (ts.map V.ref)) ∧ Paired (PayA (upd Hv Y (.tup [.int (pp.1 : Int), .int (pp.2.1 : Int), .int pp.2.2]))) ts tp ∧ PayA (upd Hv Y (.tup [.int (pp.1 : Int), .int (pp.2.1 : Int), .int pp.2.2])) Y pp := fun Y pp nY _ => by
              have sY := same_upd (o := .tup [.int (pp.1 : Int), .int (pp.2.1 : Int), .int pp.2.2]) nY
              exact ⟨kz2.trans (.of sY), bz2.keep sY, bz2.ne nY, sY _ _ eRz, sY _ _ eZz, sY _ _ ePz, paired_imp hts2 fun a _ r h => sY _ _ h, upd_same⟩
            have ins : ∀ (Y : Addr) (pp : Pay) (Hw : Hp), Keep p Hx Hw → Bag Hw p → Y ≠ p → Hw R = some (.lst (row.map nN)) → Hw Z2 = some (.lst ((row.drop 1).map nN)) → Hw Pm = some (.lst (ts.map V.ref)) → Paired (PayA Hw) ts tp → PayA Hw Y pp → ∀ (c : Int), 0 ≤ c → c ≤ ts.length →
              (Keep p Hx (upd Hw Pm (.lst ((ts.take c.toNat ++ [Y] ++ ts.drop c.toNat).map V.ref))) ∧ Bag (upd Hw Pm (.lst ((ts.take c.toNat ++ [Y] ++ ts.drop c.toNat).map V.ref))) p ∧ (upd Hw Pm (.lst ((ts.take c.toNat ++ [Y] ++ ts.drop c.toNat).map V.ref))) R = some (.lst (row.map nN)) ∧ (upd Hw Pm (.lst ((ts.take c.toNat ++ [Y] ++ ts.drop c.toNat).map V.ref))) Z2 = some (.lst ((row.drop 1).map nN)) ∧ Paired (PayA (upd Hw Pm (.lst ((ts.take c.toNat ++ [Y] ++ ts.drop c.toNat).map V.ref)))) (ts.take c.toNat ++ [Y] ++ ts.drop c.toNat) (tp.take c.toNat ++ [pp] ++ tp.drop c.toNat) ∧ (∀ t ∈ ts.take c.toNat ++ [Y] ++ ts.drop c.toNat, t ≠ p) ∧ (ts.take c.toNat ++ [Y] ++ ts.drop c.toNat).length ≤ m + 1) := fun Y pp Hw kw bw nYp eRw eZw ePw htw hY c c0 c1 => by
              have tk := tk_lst (o := .lst ((ts.take c.toNat ++ [Y] ++ ts.drop c.toNat).map V.ref)) ePw
              refine ⟨kw.set nPx, bw.at (upd_ne nPp.symm), by rw [upd_ne nRP]; exact eRw, by rw [upd_ne nZP]; exact eZw, ?_, fun t ht => ?_, ?_⟩
              · exact paired_imp (paired_ins c.toNat htw hY) fun a _ r h => tk _ _ h
              · rcases ins_mem ht with h | h
                · exact tsp t h
                · rw [h]; exact nYp
              · rw [ins_len]; omega
            refine ite2 (fun c1 => ?_) (fun c1 => ?_)
            · refine ⟨_, rfl, _, rfl, _, rfl, by show 3 ≤ sizeLine; decide, fun Y nY => ?_⟩
              obtain ⟨k1, b1, y1, r1, z1, p1, q1, v1⟩ := fin Y (x2, x1, lack + acc.getD x1 0) nY fun _ _ => trivial
              refine ⟨.ref Pm, rfl, .inl ⟨rfl, _, SqL.of p1⟩, .ref p, rfl, .ref Pm, rfl, Pm, _, rfl, .inl (SqL.of p1), _, 1, rfl, rfl, p, _, rfl, b1, by omega, by rw [List.length_map]; omega, fun Hw c kw bw c0 c1 => ?_⟩
              rw [List.length_map] at c1
              have p2 := kw _ _ nPp p1
              refine ⟨_, rfl, Pm, _, c, _, rfl, rfl, p2, by rw [List.length_map]; exact small5000 (by omega), c0, by omega, ?_⟩
              rw [show (ts.map V.ref).take c.toNat ++ [V.ref Y] ++ (ts.map V.ref).drop c.toNat = (ts.take c.toNat ++ [Y] ++ ts.drop c.toNat).map V.ref from ins_map]
              obtain ⟨k2, b2, r2, z2, q2, t2, l2⟩ := ins Y (x2, x1, lack + acc.getD x1 0) Hw (k1.trans kw) bw y1 (kw _ _ nRp r1) (kw _ _ nZp z1) p2 (by
                have hh : ∀ t ∈ ts, ∀ r, PayA _ t r → PayA Hw t r := fun t ht r h => kw _ _ (tsp t ht) h
                exact paired_imp q1 hh) (kw _ _ y1 v1) c c0 (by omega)
              exact ⟨_, _, _, _, _, _, rfl, k2, b2, r2, z2, upd_same, q2, t2, l2⟩
            · refine ⟨_, rfl, _, rfl, _, rfl, _, rfl, by show 3 ≤ sizeLine; decide, fun Y nY => ?_⟩
              obtain ⟨k1, b1, y1, r1, z1, p1, q1, v1⟩ := fin Y (x1, x2, -(lack + acc.getD x1 0)) nY fun _ _ => trivial
              refine ⟨.ref Pm, rfl, .inl ⟨rfl, _, SqL.of p1⟩, .ref p, rfl, .ref Pm, rfl, Pm, _, rfl, .inl (SqL.of p1), _, 1, rfl, rfl, p, _, rfl, b1, by omega, by rw [List.length_map]; omega, fun Hw c kw bw c0 c1 => ?_⟩
              rw [List.length_map] at c1
              have p2 := kw _ _ nPp p1
              refine ⟨_, rfl, Pm, _, c, _, rfl, rfl, p2, by rw [List.length_map]; exact small5000 (by omega), c0, by omega, ?_⟩
              rw [show (ts.map V.ref).take c.toNat ++ [V.ref Y] ++ (ts.map V.ref).drop c.toNat = (ts.take c.toNat ++ [Y] ++ ts.drop c.toNat).map V.ref from ins_map]
              obtain ⟨k2, b2, r2, z2, q2, t2, l2⟩ := ins Y (x1, x2, -(lack + acc.getD x1 0)) Hw (k1.trans kw) bw y1 (kw _ _ nRp r1) (kw _ _ nZp z1) p2 (by
                have hh : ∀ t ∈ ts, ∀ r, PayA _ t r → PayA Hw t r := fun t ht r h => kw _ _ (tsp t ht) h
                exact paired_imp q1 hh) (kw _ _ y1 v1) c c0 (by omega)
              exact ⟨_, _, _, _, _, _, rfl, k2, b2, r2, z2, upd_same, q2, t2, l2⟩
          · exact ⟨_, _, _, _, ts, tp, rfl, kz2, bz2, eRz, eZz, ePz, hts2, tsp, by omega⟩
        · obtain ⟨y13, y14, y15, lack, ts, tp, rfl, kz, bz, eRz, eZz, ePz, hts, tsp, tsl⟩ := hp
          have tpl := paired_len hts
          have eT14 := kz _ _ nTp eTx
          refine ⟨_, rfl, _, rfl, two_sz, fun Z3 nZ3 => ?_⟩
          have s15 := same_upd (o := .tup [.ref Pm, .ref Ta]) nZ3
          have dts : DtAll (SN p) (upd H14 Z3 (.tup [.ref Pm, .ref Ta])) (ts.map V.ref) (tp.map payD) := by
            have h : Paired (fun t x => t ≠ p ∧ PayA (upd H14 Z3 (.tup [.ref Pm, .ref Ta])) t x) ts tp := paired_imp hts fun t ht x h => ⟨tsp t ht, s15 _ _ h⟩
            clear hts tpl tsp tsl ePz
            induction h with
            | nil => exact .nil
            | cons r _ ih => exact .cons (.tup r.1 r.2 (by show 3 ≤ 5000; decide) (.cons (.int _) (.cons (.int _) (.cons (.int _) .nil)))) ih
          refine q _ Z3 tp tab (((Keep.of s06).trans kz).trans (.of s15)) (bz.keep s15) (.tup (bz.ne nZ3) upd_same (by show 2 ≤ 5000; decide) (.cons (.lst nPp (s15 _ _ ePz) (by rw [List.length_map]; omega) dts) (.cons (.lst nTp (s15 _ _ eT14) (by rw [List.length_map]; omega) (dtAll_ints _)) .nil))) (by omega) (by omega) (by omega)
    · obtain ⟨v, e, i, j, e1, e2, b, e3, z⟩ := z
      exact ⟨v, e, i, j, e1, e2, b, e3, h _ _ z⟩
end
end Th
namespace Th
open PySem PySem.Spec PyProof.Rows L2
/-! things bent -/
open Py (bit sumsM zI TabTo TabOk wS pS MinZ SgM GrOk Pay payL negR posR nzP nzW FewOk FwM effL)
theorem sqi {k n : Nat} (h : k < n) : seqIndex? (k : Int) n = some k := (ixN_seq (ix_nat h)).1
abbrev SF (p F : Addr) : Addr → Prop := fun a => a ≠ p ∧ a ≠ F
structure NiceP (d : PyData) : Prop where
  lay : d.canLay0 = true
  dep : d.depth ≤ 3
  tup : ∀ x, d = .tuple x → x.length ≤ 10
def tupLen : PyData → Bool
  | .tuple x => decide (x.length ≤ 10)
  | _ => true
theorem nice_of {d : PyData} (h : (d.canLay0 && (decide (d.depth ≤ 3) && tupLen d)) = true) : NiceP d := by
  obtain ⟨h1, h2⟩ := He.ba h
  obtain ⟨h2, h3⟩ := He.ba h2
  refine ⟨h1, of_decide_eq_true h2, fun x e => ?_⟩
  subst e
  exact of_decide_eq_true h3
structure NiceQ (d : PyData) : Prop where
  lay : d.canLay0 = true
  dep : d.depth ≤ 2
theorem niceQ_any : ∀ d ∈ anysD, NiceQ d := fun d hd => by
  have h : anysD.all (fun d => d.canLay0 && decide (d.depth ≤ 2)) = true := by decide +kernel
  obtain ⟨h1, h2⟩ := He.ba (List.all_eq_true.mp h d hd)
  exact ⟨h1, of_decide_eq_true h2⟩
theorem nice_any : ∀ d ∈ anysD, NiceP d := fun d hd => by
  have h : anysD.all (fun d => d.canLay0 && (decide (d.depth ≤ 3) && tupLen d)) = true := by decide +kernel
  exact nice_of (List.all_eq_true.mp h d hd)
theorem nice_pay (t : Pay) : NiceP (payD t) := ⟨rfl, by show 1 ≤ 3; decide, fun x e => by
  have e : PyData.tuple [.int (t.1 : Int), .int (t.2.1 : Int), .int t.2.2] = .tuple x := e
  cases e
  show 3 ≤ 10
  decide⟩
theorem NiceP.shaped {d : PyData} (h : NiceP d) : SeqAt.shaped d = true := Bool.and_eq_true_iff.mpr ⟨h.lay, decide_eq_true (Nat.le_trans h.dep (by decide))⟩
theorem nice_int (i : Int) : NiceP (.int i) := ⟨rfl, by show 0 ≤ 3; decide, fun x e => by cases e⟩
theorem layAll_of : ∀ {ds : List PyData}, (∀ d ∈ ds, d.canLay0 = true) → PyData.canLayAll0 ds = true
  | [], _ => rfl
  | d :: ds, h => by
    rw [PyData.canLayAll0, Bool.and_eq_true]
    exact ⟨h d List.mem_cons_self, layAll_of fun x hx => h x (List.mem_cons_of_mem _ hx)⟩
theorem depthAll_of {n : Nat} : ∀ {ds : List PyData}, (∀ d ∈ ds, d.depth ≤ n) → PyData.depthAll ds ≤ n
  | [], _ => Nat.zero_le _
  | d :: ds, h => by
    rw [PyData.depthAll]
    exact Nat.max_le.mpr ⟨h d List.mem_cons_self, depthAll_of fun x hx => h x (List.mem_cons_of_mem _ hx)⟩
theorem nice_tup {ds : List PyData} (h : ∀ d ∈ ds, NiceQ d) (l : ds.length ≤ 10) : NiceP (.tuple ds) := ⟨by
  show PyData.canLayAll0 ds = true
  exact layAll_of fun d hd => (h d hd).lay, by
  show PyData.depthAll ds + 1 ≤ 3
  exact Nat.succ_le_succ (depthAll_of fun d hd => (h d hd).dep), fun x e => by cases e; exact l⟩
theorem nice_lst {ds : List PyData} (h : ∀ d ∈ ds, NiceQ d) : NiceP (.list ds) := ⟨by
  show PyData.canLayAll0 ds = true
  exact layAll_of fun d hd => (h d hd).lay, by
  show PyData.depthAll ds + 1 ≤ 3
  exact Nat.succ_le_succ (depthAll_of fun d hd => (h d hd).dep), fun x e => by cases e⟩
theorem niceQ_int (i : Int) : NiceQ (.int i) := ⟨rfl, by show 0 ≤ 2; decide⟩
theorem shaped_lst {ds : List PyData} (h : ∀ d ∈ ds, NiceP d) : SeqAt.shaped (.list ds) = true := Bool.and_eq_true_iff.mpr ⟨layAll_of fun d hd => (h d hd).lay, decide_eq_true (Nat.le_trans (Nat.succ_le_succ (depthAll_of fun d hd => (h d hd).dep)) (by decide))⟩
section
variable {S : Addr → Prop} {H : Hp}
theorem dtAll_app : ∀ {xs : List V} {ds : List PyData} {ys : List V} {es : List PyData}, DtAll S H xs ds → DtAll S H ys es → DtAll S H (xs ++ ys) (ds ++ es)
  | _, _, _, _, .nil, h => h
  | _, _, _, _, .cons r t, h => .cons r (dtAll_app t h)
theorem dtAll_take : ∀ (n : Nat) {xs : List V} {ds : List PyData}, DtAll S H xs ds → DtAll S H (xs.take n) (ds.take n)
  | 0, _, _, _ => by rw [List.take_zero, List.take_zero]; exact .nil
  | n + 1, _, _, .nil => .nil
  | n + 1, _, _, .cons r t => .cons r (dtAll_take n t)
theorem dtAll_drop : ∀ (n : Nat) {xs : List V} {ds : List PyData}, DtAll S H xs ds → DtAll S H (xs.drop n) (ds.drop n)
  | 0, _, _, h => h
  | n + 1, _, _, .nil => .nil
  | n + 1, _, _, .cons r t => dtAll_drop n t
theorem dtAll_set : ∀ (n : Nat) {xs : List V} {ds : List PyData} {v : V} {d : PyData}, DtAll S H xs ds → Dt S H v d → DtAll S H (xs.set n v) (ds.set n d)
  | _, _, _, _, _, .nil, _ => .nil
  | 0, _, _, _, _, .cons _ t, h => .cons h t
  | n + 1, _, _, _, _, .cons r t, h => .cons r (dtAll_set n t h)
theorem dtAll_erase : ∀ (n : Nat) {xs : List V} {ds : List PyData}, DtAll S H xs ds → DtAll S H (xs.eraseIdx n) (ds.eraseIdx n)
  | _, _, _, .nil => .nil
  | 0, _, _, .cons _ t => t
  | n + 1, _, _, .cons r t => .cons r (dtAll_erase n t)
theorem dtAll_ins (n : Nat) {xs : List V} {ds : List PyData} {v : V} {d : PyData} (h : DtAll S H xs ds) (r : Dt S H v d) : DtAll S H (xs.take n ++ [v] ++ xs.drop n) (ds.take n ++ [d] ++ ds.drop n) :=
  dtAll_app (dtAll_app (dtAll_take n h) (.cons r .nil)) (dtAll_drop n h)
end
theorem mem_ins {ds : List PyData} {n : Nat} {d x : PyData} {R : PyData → Prop} (h : ∀ d ∈ ds, R d) (r : R d) (hx : x ∈ ds.take n ++ [d] ++ ds.drop n) : R x := by
  rcases ins_mem hx with z | z
  · exact h x z
  · rw [z]; exact r
theorem mem_setD {ds : List PyData} {n : Nat} {d x : PyData} {R : PyData → Prop} (h : ∀ d ∈ ds, R d) (r : R d) (hx : x ∈ ds.set n d) : R x := by
  rcases List.mem_or_eq_of_mem_set hx with z | z
  · exact h x z
  · rw [z]; exact r
/-- a list under way at F -/
structure FlS (H Hx : Hp) (p F : Addr) (xs : List V) (ds : List PyData) : Prop where
  k : Keep p H Hx
  b : Bag Hx p
  e : Hx F = some (.lst xs)
  dt : DtAll (SF p F) Hx xs ds
  nice : ∀ d ∈ ds, NiceP d
theorem FlS.keep {H Hx Hy : Hp} {p F : Addr} {xs : List V} {ds : List PyData} (h : FlS H Hx p F xs ds) (nF : F ≠ p) (k : Keep p Hx Hy) (b : Bag Hy p) : FlS H Hy p F xs ds :=
  ⟨h.k.trans k, b, k _ _ nF h.e, h.dt.mono (fun _ x => x) fun a o s e => k a o s.1 e, h.nice⟩
theorem FlS.same {H Hx Hy : Hp} {p F : Addr} {xs : List V} {ds : List PyData} (h : FlS H Hx p F xs ds) (nF : F ≠ p) (s : Same Hx Hy) : FlS H Hy p F xs ds := h.keep nF (.of s) (h.b.keep s)
theorem FlS.put {H Hx : Hp} {p F : Addr} {xs ys : List V} {ds es : List PyData} (h : FlS H Hx p F xs ds) (n : H F = none) (nF : F ≠ p) (d : DtAll (SF p F) Hx ys es) (nc : ∀ d ∈ es, NiceP d) : FlS H (upd Hx F (.lst ys)) p F ys es :=
  ⟨h.k.set n, h.b.at (upd_ne nF.symm), upd_same, d.mono (fun _ x => x) fun a o s e => by rw [upd_ne s.2]; exact e, nc⟩
theorem FlS.new {H Hx : Hp} {p F q : Addr} {xs : List V} {ds : List PyData} (h : FlS H Hx p F xs ds) (n : Hx q = none) : q ≠ p ∧ q ≠ F := ⟨h.b.ne n, (ne_of_none h.e n).symm⟩
theorem FlS.dtp {H Hx : Hp} {p F : Addr} {xs : List V} {ds : List PyData} (h : FlS H Hx p F xs ds) : DtAll (SN p) Hx xs ds := h.dt.mono (fun _ x => x.1) fun _ _ _ e => e
theorem dt_keepF {H H' : Hp} {p F : Addr} {v : V} {d : PyData} (k : Keep p H H') (h : Dt (SF p F) H v d) : Dt (SF p F) H' v d := h.mono (fun _ x => x) fun a o s e => k a o s.1 e
theorem dt_oldF {H H' : Hp} {p F : Addr} {v : V} {d : PyData} {o : HO} (e : H F = some o) (h : Dt (SO p H) H' v d) : Dt (SF p F) H' v d := h.mono (fun a s => ⟨s.1, (ne_of_none e s.2).symm⟩) fun _ _ _ e => e
/-- payments handed about, none of them the bag -/
def PayN (p : Addr) (H : Hp) (t : Addr) (x : Pay) : Prop := t ≠ p ∧ PayA H t x
theorem dtAll_payN {p F : Addr} {H : Hp} {o : HO} : ∀ {ts : List Addr} {tp : List Pay}, Paired (PayN p H) ts tp → (∀ xs, H F ≠ some (.tup xs)) → DtAll (SF p F) H (ts.map V.ref) (tp.map payD)
  | [], [], _, _ => .nil
  | t :: ts, x :: tp, .cons r s, n => .cons (.tup ⟨r.1, fun z => n _ (z ▸ r.2)⟩ r.2 (by show 3 ≤ 5000; decide) (.cons (.int _) (.cons (.int _) (.cons (.int _) .nil)))) (dtAll_payN (o := o) s n)
section
variable {P : Program} {w : World} {K : PySem.W.Frag} {mg : Str → Option Value} {base : Heap} {k : Nat}
def sp_l_bent_payments : Sp := fun vs H Q _ => ∃ (p q : Addr) (ts : List Addr) (tp : List Pay), vs = [.ref p, .ref q] ∧ Bag H p ∧ q ≠ p ∧ H q = some (.lst (ts.map V.ref)) ∧ Paired (PayN p H) ts tp ∧ tp.length ≤ 8 ∧
  ∀ H' r xs ds, Keep p H H' → Bag H' p → r ≠ p → H' r = some (.lst xs) → DtAll (SN p) H' xs ds → ds.length ≤ 10 → (∀ d ∈ ds, NiceP d) → Q (.ref r) H'
set_option maxHeartbeats 16000000 in
theorem ok_l_bent_payments (T : Defs K mg) : FnOk P w K mg base CX0 (k + 3) T.a_l_bent_payments T.d_l_bent_payments ["_law_bag_here", "_law_payments"] sp_l_bent_payments := by
  have G_l_take : FnOk P w K mg base CX0 (k + 2) _ _ _ _ := ok_l_take (k := k + 1) T
  have G_l_any : FnOk P w K mg base CX0 (k + 2) _ _ _ _ := ok_l_any (k := k) T
  refine T.F_l_bent_payments.ok sc_l_bent_payments (fun vs H Q E h => ?_) (fun cdv A outer s H vs Q E hr h => ?_)
  · obtain ⟨p, q, ts, tp, rfl, _⟩ := h
    rfl
  · obtain ⟨p, q', ts, tp, rfl, b, nqp, hq, hts, tp8, q⟩ := h
    refine ⟨_, PSs.nox
(pss_cons (ps_par (i := 2) (j := 3) (by rfl) sc_l_bent_payments.nd rfl rfl (by decide) rfl rfl (pa_cons (pe_call G_l_take hr (by rfl) T.g_l_take T.F_l_take.kp T.b_l_take .nil pass0 (pa_cons (pv 0) (pa_cons (pe_int) pa_nil))) (pa_cons (pe_call G_l_take hr (by rfl) T.g_l_take T.F_l_take.kp T.b_l_take .nil pass0 (pa_cons (pv 0) (pa_cons (pe_callB (call_max2 rfl) (by rfl) T.z_max (by decide +kernel) (pa_cons (pe_int) (pa_cons (pe_callB (r := rLenS K) call_lenS (by rfl) T.z_len (by decide +kernel) (pa_cons (pv 1) pa_nil)) pa_nil))) pa_nil))) pa_nil)) (by rfl))
    (pss_cons (ps_set (i := 4) sc_l_bent_payments.nd rfl (.inl rfl) (pe_callTy call_list_of (by rfl) T.z_list (by decide +kernel) (pa_cons (pv 1) pa_nil)))
    (pss_cons (ps_if (PW.pt (pw_or (pt_cmpR op_eq (pv 2) (pe_int) (nomark _)) (pw_or1 (pt_cmpR (r := rEqD K) (op_eqD hr.units) (pv 4) (pe_lst pa_nil) (nomark _)))))
      (pss_one (ps_expr (pe_bm PySem.F.plainAttrs_list PySem.F.slot_list_insert PySem.F.type_list_insert mt_insert (pv 4) (pa_cons (pv 3) (pa_cons (pe_ix (r := rIxT K) ix_tup (pe_tup (pa_cons (pe_call G_l_any hr (by rfl) T.g_l_any T.F_l_any.kp T.b_l_any .nil pass0 (pa_cons (pv 0) pa_nil)) (pa_cons (pe_tup (pa_cons (pe_int) (pa_cons (pe_int) (pa_cons (pe_op op_add (pe_int) (pe_call G_l_take hr (by rfl) T.g_l_take T.F_l_take.kp T.b_l_take .nil pass0 (pa_cons (pv 0) (pa_cons (pe_int) pa_nil)))) pa_nil)))) pa_nil))) (pe_call G_l_take hr (by rfl) T.g_l_take T.F_l_take.kp T.b_l_take .nil pass0 (pa_cons (pv 0) (pa_cons (pe_int) pa_nil))) (fun _ _ => rfl)) pa_nil)))))
      (pss_one (ps_if (pt_cmpR op_eq (pv 2) (pe_int) (nomark _))
        (pss_one (ps_expr (pe_bm PySem.F.plainAttrs_list PySem.F.slot_list_pop PySem.F.type_list_pop mt_popAt (pv 4) (pa_cons (pv 3) pa_nil))))
        (pss_one (ps_if (pt_cmpR op_eq (pv 2) (pe_int) (nomark _))
          (pss_one (ps_expr (pe_bm PySem.F.plainAttrs_list PySem.F.slot_list_insert PySem.F.type_list_insert mt_insert (pv 4) (pa_cons (pe_call G_l_take hr (by rfl) T.g_l_take T.F_l_take.kp T.b_l_take .nil pass0 (pa_cons (pv 0) (pa_cons (pe_op op_add (pe_callB (r := rLenS K) call_lenS (by rfl) T.z_len (by decide +kernel) (pa_cons (pv 4) pa_nil)) (pe_int)) pa_nil))) (pa_cons (pe_ix (r := rIxL K) ix_list (pv 4) (pv 3) (fun _ _ => rfl)) pa_nil)))))
          (pss_one (ps_if (pt_cmpR op_eq (pv 2) (pe_int) (nomark _))
            (pss_cons (ps_asg (pe_ix (r := rIxL K) ix_list (pv 4) (pv 3) (fun _ _ => rfl)) (pg_tup rfl (pgs_cons (pg_name (i := 5) sc_l_bent_payments.nd rfl (.inl rfl)) (pgs_cons (pg_name (i := 6) sc_l_bent_payments.nd rfl (.inl rfl)) (pgs_cons (pg_name (i := 7) sc_l_bent_payments.nd rfl (.inl rfl)) pgs_nil)))))
            (pss_one (ps_asg (pe_lst (pa_cons (pe_tup (pa_cons (pv 5) (pa_cons (pv 6) (pa_cons (pe_op op_sub (pv 7) (pe_int)) pa_nil)))) (pa_cons (pe_tup (pa_cons (pv 5) (pa_cons (pv 6) (pa_cons (pe_int) pa_nil)))) pa_nil))) (Sls.pg_slc (pv 4) (po_some (pv 3)) (po_some (pe_op op_add (pv 3) (pe_int)))))))
            (pss_one (ps_if (pt_cmpR op_eq (pv 2) (pe_int) (nomark _))
              (pss_cons (ps_asg (pe_ix (r := rIxL K) ix_list (pv 4) (pv 3) (fun _ _ => rfl)) (pg_tup rfl (pgs_cons (pg_name (i := 5) sc_l_bent_payments.nd rfl (.inl rfl)) (pgs_cons (pg_name (i := 6) sc_l_bent_payments.nd rfl (.inl rfl)) (pgs_cons (pg_name (i := 7) sc_l_bent_payments.nd rfl (.inl rfl)) pgs_nil)))))
              (pss_cons (ps_set (i := 8) sc_l_bent_payments.nd rfl (.inl rfl) (pe_lst (pa_cons (pe_callTy call_list_of (by rfl) T.z_list (by decide +kernel) (pa_cons (pe_ix (r := rIxL K) ix_list (pv 4) (pv 3) (fun _ _ => rfl)) pa_nil)) (pa_cons (pe_tup (pa_cons (pv 6) (pa_cons (pv 5) (pa_cons (pv 7) pa_nil)))) (pa_cons (pe_tup (pa_cons (pv 5) (pa_cons (pv 6) (pa_cons (pe_un un_neg (pv 7)) pa_nil)))) (pa_cons (pe_op op_catS (pe_ix (r := rIxL K) ix_list (pv 4) (pv 3) (fun _ _ => rfl)) (pe_tup (pa_cons (pe_int) pa_nil))) pa_nil))))))
              (pss_one (ps_asg (pe_ix (r := rIxL K) ix_list (pv 8) (pe_call G_l_take hr (by rfl) T.g_l_take T.F_l_take.kp T.b_l_take .nil pass0 (pa_cons (pv 0) (pa_cons (pe_int) pa_nil))) (fun _ _ => rfl)) (pg_sub (pv 4) (pv 3) set_list)))))
              (pss_cons (ps_set (i := 9) sc_l_bent_payments.nd rfl (.inl rfl) (pe_call G_l_take hr (by rfl) T.g_l_take T.F_l_take.kp T.b_l_take .nil pass0 (pa_cons (pv 0) (pa_cons (pe_int) pa_nil))))
              (pss_cons (ps_set (i := 10) sc_l_bent_payments.nd rfl (.inl rfl) (pe_ifExp (pt_cmpR op_eq (pv 2) (pe_int) (nomark _)) (pe_call G_l_any hr (by rfl) T.g_l_any T.F_l_any.kp T.b_l_any .nil pass0 (pa_cons (pv 0) pa_nil)) (pe_op op_sub (pe_op op_add (pe_ix (r := rIxT K) ix_tup (pe_ix (r := rIxL K) ix_list (pv 4) (pv 3) (fun _ _ => rfl)) (pv 9) (fun _ _ => rfl)) (pe_op op_mul (pe_int) (pe_call G_l_take hr (by rfl) T.g_l_take T.F_l_take.kp T.b_l_take .nil pass0 (pa_cons (pv 0) (pa_cons (pe_int) pa_nil))))) (pe_int))))
              (pss_one (ps_asg (pe_op op_catS (pe_op op_catS (pe_slice (r := rSlS K) sl_tupS (pe_ix (r := rIxL K) ix_list (pv 4) (pv 3) (fun _ _ => rfl)) po_none (po_some (pv 9))) (pe_tup (pa_cons (pv 10) pa_nil))) (pe_slice (r := rSlS K) sl_tupS (pe_ix (r := rIxL K) ix_list (pv 4) (pv 3) (fun _ _ => rfl)) (po_some (pe_op op_add (pv 9) (pe_int))) po_none)) (pg_sub (pv 4) (pv 3) set_list))))))))))))))
    (pss_one (ps_ret (pv 4))))))
      , ?_⟩
    have tl := paired_len hts
    refine ⟨.ref p, rfl, p, 7, rfl, b, by decide, by decide, fun H1 way k1 b1 w0 w1 => ?_⟩
    have hq1 := k1 _ _ nqp hq
    refine ⟨.ref p, rfl, .ref q', rfl, q', _, rfl, .inl (SqL.of hq1), 1, _, rfl, p, _, rfl, b1, by split <;> omega, by rw [List.length_map]; split <;> omega, fun H2 at' k2 b2 a0 a1 => ⟨_, _, rfl, ?_⟩⟩
    rw [List.length_map] at a1
    obtain ⟨n, rfl⟩ : ∃ n : Nat, at' = (n : Int) := ⟨at'.toNat, by omega⟩
    have n63 : n ≤ 8 := by split at a1 <;> omega
    have hq2 := k2 _ _ nqp hq1
    have k02 := k1.trans k2
    have hts2 : Paired (PayN p H2) ts tp := paired_imp hts fun a _ r h => ⟨h.1, k02 _ _ h.1 h.2⟩
    refine ⟨.ref q', rfl, q', _, rfl, .inl (SqL.of hq2), fun F nF => ?_⟩
    have sF := same_upd (o := .lst (ts.map V.ref)) nF
    have nFp : F ≠ p := b2.ne nF
    have nFH : H F = none := k02.free b nF b2
    have h3 : FlS H (upd H2 F (.lst (ts.map V.ref))) p F (ts.map V.ref) (tp.map payD) := by
      refine ⟨k02.trans (.of sF), b2.keep sF, upd_same, ?_, fun d hd => ?_⟩
      · refine dtAll_payN (o := .lst []) (paired_imp hts2 fun a _ r h => ⟨h.1, sF _ _ h.2⟩) fun xs z => ?_
        rw [upd_same] at z
        cases z
      · obtain ⟨x, _, rfl⟩ := List.mem_map.mp hd
        exact nice_pay x
    have hts3 : Paired (PayN p (upd H2 F (.lst (ts.map V.ref)))) ts tp := paired_imp hts2 fun a _ r h => ⟨h.1, sF _ _ h.2⟩
    generalize upd H2 F (.lst (ts.map V.ref)) = H3 at h3 hts3 ⊢
    have lV : (ts.map V.ref).length = ts.length := List.length_map _
    have lD : (tp.map payD).length = tp.length := List.length_map _
    have done : ∀ {Hx : Hp} {xs : List V} {ds : List PyData}, FlS H Hx p F xs ds → ds.length ≤ 10 → Q (.ref F) Hx := fun {Hx xs ds} h l => q Hx F xs ds h.k h.b nFp h.e h.dtp l h.nice
    by_cases cc : way = 0 ∨ tp = []
    · by_cases c0 : way = 0
      case' pos =>
        subst c0
        refine ⟨_, rfl, rfl, _, rfl, iteT ?_⟩
        generalize H3 = H5 at h3 ⊢
      case' neg =>
        have e0 : tp = [] := cc.resolve_left c0
        refine ⟨_, rfl, rfl, _, rfl, ?_⟩
        rw [decide_eq_false (fun z => c0 (by injection z) : ¬ V.int way = V.int 0)]
        refine iteF ⟨.ref F, rfl, Nat.zero_le _, fun E nE => ?_⟩
        have h3 := h3.same nFp (same_upd (o := .lst []) nE)
        refine ⟨_, _, .lst (SqL.of h3.e) (DtAll.dp h3.dt), .lst (SqL.of upd_same) .nil, shaped_lst h3.nice, by decide +kernel, _, rfl, ?_⟩
        have ene : PyData.eqv (.list (tp.map payD)) (.list []) = true := by rw [e0]; rfl
        rw [ene]
        refine iteT ?_
        clear ene
        generalize upd H3 E (.lst []) = H5 at h3 ⊢
      all_goals
        refine ⟨.ref F, rfl, .inl ⟨rfl, _, SqL.of h3.e⟩, .int (n : Int), rfl, .ref p, rfl, p, rfl, h3.b, fun H6 v d k6 b6 hd hm => ?_⟩
        have hd := dt_oldF h3.e hd
        have h6 := h3.keep nFp k6 b6
        refine ⟨.ref p, rfl, p, 9, rfl, b6, by decide, by decide, fun H7 c7 k7 b7 z0 z1 => ?_⟩
        have hd := dt_keepF k7 hd
        have h7 := h6.keep nFp k7 b7
        refine ⟨1, c7, rfl, rfl, by show 3 ≤ sizeLine; decide, fun u nu => ?_⟩
        have su := same_upd (o := .tup [V.int 0, .int 0, .int (1 + c7)]) nu
        have nuF := h7.new nu
        have eu : (upd H7 u (.tup [V.int 0, .int 0, .int (1 + c7)])) u = _ := upd_same
        have hd := dt_keepF (.of su) hd
        have h8 := h7.same nFp su
        have go : ∀ G : Hp, G = upd H7 u (.tup [V.int 0, .int 0, .int (1 + c7)]) → G = upd H7 u (.tup [V.int 0, .int 0, (fun i j : Int => V.int (i + j)) 1 c7]) := fun _ e => e
        rw [← go _ rfl]
        clear go
        generalize upd H7 u (.tup [V.int 0, .int 0, .int (1 + c7)]) = H8 at eu hd h8 ⊢
        refine ⟨two_sz, fun u2 nu2 => ?_⟩
        have su2 := same_upd (o := .tup [v, .ref u]) nu2
        have hd := dt_keepF (.of su2) hd
        have h9 := h8.same nFp su2
        have eu9 := su2 _ _ eu
        have eu2 : (upd H8 u2 (.tup [v, .ref u])) u2 = _ := upd_same
        have nup := h8.b.ne nu2
        generalize upd H8 u2 (.tup [v, .ref u]) = H9 at eu9 eu2 hd h9 ⊢
        refine ⟨.ref p, rfl, p, 2, rfl, h9.b, by decide, by decide, fun H10 c8 k10 b10 y0 y1 => ?_⟩
        have h10 := h9.keep nFp k10 b10
        have hd := dt_keepF k10 hd
        have eu10 := k10 _ _ nuF.1 eu9
        have eu210 := k10 _ _ nup eu2
        obtain ⟨v', d', hv', hd', hn'⟩ : ∃ v' d', atI [v, V.ref u] c8 = some v' ∧ Dt (SF p F) H10 v' d' ∧ NiceP d' := by
          have : c8 = 0 ∨ c8 = 1 := by omega
          rcases this with rfl | rfl
          · exact ⟨v, d, atI_nat (j := 0) rfl, hd, nice_any d hm⟩
          · exact ⟨.ref u, .tuple [.int 0, .int 0, .int (1 + c7)], atI_nat (j := 1) rfl, .tup nuF eu10 (by show 3 ≤ 5000; decide) (.cons (.int _) (.cons (.int _) (.cons (.int _) .nil))), nice_tup (fun d hd => by
              simp only [List.mem_cons, List.not_mem_nil, or_false] at hd
              rcases hd with rfl | rfl | rfl <;> exact niceQ_int _) (by show 3 ≤ 10; decide)⟩
        refine ⟨u2, _, c8, v', rfl, rfl, SqT.of eu210, hv', F, _, (n : Int), v', rfl, rfl, h10.e, by rw [lV]; exact small5000 (by omega), by omega, by omega, ?_⟩
        rw [Int.toNat_natCast]
        exact ⟨.ref F, rfl, done (h10.put nFH nFp (dtAll_ins n h10.dt hd') fun d hd => mem_ins h10.nice hn' hd) (by rw [ins_len, lD]; omega)⟩
    have c0 : way ≠ 0 := fun z => cc (.inl z)
    have tp0 : tp ≠ [] := fun z => cc (.inr z)
    have tpl : 0 < tp.length := List.length_pos_iff.mpr tp0
    have nl : n < ts.length := by split at a1 <;> omega
    have hnv : (ts.map V.ref)[n]? = some (.ref ts[n]) := by rw [List.getElem?_map, List.getElem?_eq_getElem nl]; rfl
    refine ⟨_, rfl, rfl, _, rfl, ?_⟩
    rw [decide_eq_false (fun z => c0 (by injection z) : ¬ V.int way = V.int 0)]
    refine iteF ⟨.ref F, rfl, Nat.zero_le _, fun E nE => ?_⟩
    have sE := same_upd (o := .lst []) nE
    have h4 := h3.same nFp sE
    have hts4 : Paired (PayN p (upd H3 E (.lst []))) ts tp := paired_imp hts3 fun a _ r h => ⟨h.1, sE _ _ h.2⟩
    refine ⟨_, _, .lst (SqL.of h4.e) (DtAll.dp h4.dt), .lst (SqL.of upd_same) .nil, shaped_lst h4.nice, by decide +kernel, _, rfl, ?_⟩
    have ene : PyData.eqv (.list (tp.map payD)) (.list []) = false := by
      cases tp with
      | nil => exact absurd rfl tp0
      | cons x r => rfl
    rw [ene]
    refine iteF ?_
    generalize upd H3 E (.lst []) = H4 at h4 hts4 ⊢
    obtain ⟨x, ex, hx⟩ := paired_get hts4 (List.getElem?_eq_getElem nl)
    generalize ts[n] = t at hnv hx
    have hat : atI (ts.map V.ref) (n : Int) = some (.ref t) := atI_nat hnv
    have exd : (tp.map payD)[n]? = some (payD x) := by rw [List.getElem?_map, ex]; rfl
    have etx : H4 t = some (.tup [.int (x.1 : Int), .int (x.2.1 : Int), .int x.2.2]) := hx.2
    have htF : t ≠ F := fun z => by rw [z, h4.e] at etx; cases etx
    have hty : Dt (SF p F) H4 (.ref t) (payD x) := .tup ⟨hx.1, htF⟩ etx (by show 3 ≤ 5000; decide) (.cons (.int _) (.cons (.int _) (.cons (.int _) .nil)))
    have hway : way = 1 ∨ way = 2 ∨ way = 3 ∨ way = 4 ∨ way = 5 ∨ way = 6 := by omega
    have ints3 : ∀ (i j m : Int) (d : PyData), d ∈ [PyData.int i, .int j, .int m] → NiceQ d := fun i j m d hd => by
      simp only [List.mem_cons, List.not_mem_nil, or_false] at hd
      rcases hd with rfl | rfl | rfl <;> exact niceQ_int _
    rcases hway with rfl | rfl | rfl | rfl | hw56
    · -- one left out
      refine ⟨_, rfl, rfl, _, rfl, iteT ⟨.ref F, rfl, .inl ⟨rfl, _, SqL.of h4.e⟩, .int (n : Int), rfl, F, _, (n : Int), n, _, rfl, rfl, h4.e, by omega, by omega, by rw [lV]; exact sqi nl, hnv, ?_⟩⟩
      refine ⟨.ref F, rfl, done (h4.put nFH nFp (dtAll_erase n h4.dt) fun d hd => h4.nice d (List.mem_of_mem_eraseIdx hd)) ?_⟩
      rw [List.length_eraseIdx]
      split <;> omega
    · -- one twice
      refine ⟨_, rfl, rfl, _, rfl, iteF ⟨_, rfl, rfl, _, rfl, iteT ⟨.ref F, rfl, .inl ⟨rfl, _, SqL.of h4.e⟩, .ref p, rfl, .ref F, rfl, F, _, rfl, .inl (SqL.of h4.e), _, 1, rfl, rfl, p, _, rfl, h4.b, by omega, by rw [lV]; omega, fun H5 c k5 b5 z0 z1 => ?_⟩⟩⟩
      rw [lV] at z1
      have h5 := h4.keep nFp k5 b5
      refine ⟨.ref F, rfl, .int (n : Int), rfl, F, _, _, _, rfl, rfl, SqL.of h5.e, hat, F, _, c, _, rfl, rfl, h5.e, by rw [lV]; exact small5000 (by omega), z0, by omega, ?_⟩
      exact ⟨.ref F, rfl, done (h5.put nFH nFp (dtAll_ins c.toNat h5.dt (dt_keepF k5 hty)) fun d hd => mem_ins h5.nice (nice_pay x) hd) (by rw [ins_len, lD]; omega)⟩
    · -- one parted
      refine ⟨_, rfl, rfl, _, rfl, iteF ⟨_, rfl, rfl, _, rfl, iteF ⟨_, rfl, rfl, _, rfl, iteT ?_⟩⟩⟩
      refine ⟨.ref F, rfl, .int (n : Int), rfl, F, _, _, _, rfl, rfl, SqL.of h4.e, hat, t, _, rfl, SqT.of etx, rfl, _, _, rfl, _, _, rfl, _, [], rfl, rfl, ?_⟩
      refine ⟨_, rfl, _, rfl, _, rfl, _, 1, rfl, rfl, by show 3 ≤ sizeLine; decide, fun u nu => ?_⟩
      have su := same_upd (o := .tup [V.int (x.1 : Int), .int (x.2.1 : Int), .int (x.2.2 - 1)]) nu
      have h5 := h4.same nFp su
      have nuF := h4.new nu
      have eu : (upd H4 u (.tup [V.int (x.1 : Int), .int (x.2.1 : Int), .int (x.2.2 - 1)])) u = _ := upd_same
      have go : ∀ G : Hp, G = upd H4 u (.tup [V.int (x.1 : Int), .int (x.2.1 : Int), .int (x.2.2 - 1)]) → G = upd H4 u (.tup [V.int (x.1 : Int), .int (x.2.1 : Int), (fun i j : Int => V.int (i - j)) x.2.2 1]) := fun _ e => e
      rw [← go _ rfl]
      clear go
      generalize upd H4 u (.tup [V.int (x.1 : Int), .int (x.2.1 : Int), .int (x.2.2 - 1)]) = H5 at h5 eu ⊢
      refine ⟨_, rfl, _, rfl, by show 3 ≤ sizeLine; decide, fun u2 nu2 => ?_⟩
      have su2 := same_upd (o := .tup [V.int (x.1 : Int), .int (x.2.1 : Int), .int 1]) nu2
      have h6 := h5.same nFp su2
      have nuF2 := h5.new nu2
      have eu6 := su2 _ _ eu
      have eu2 : (upd H5 u2 (.tup [V.int (x.1 : Int), .int (x.2.1 : Int), .int 1])) u2 = _ := upd_same
      generalize upd H5 u2 (.tup [V.int (x.1 : Int), .int (x.2.1 : Int), .int 1]) = H6 at h6 eu6 eu2 ⊢
      refine ⟨two_sz, fun l nl' => ?_⟩
      have sl := same_upd (o := .lst [V.ref u, .ref u2]) nl'
      have h7 := h6.same nFp sl
      have nlF := h6.new nl'
      have eu7 := sl _ _ eu6
      have eu27 := sl _ _ eu2
      have el : (upd H6 l (.lst [V.ref u, .ref u2])) l = _ := upd_same
      generalize upd H6 l (.lst [V.ref u, .ref u2]) = H7 at h7 eu7 eu27 el ⊢
      refine ⟨.ref F, rfl, .int (n : Int), rfl, (n : Int), rfl, .int (n : Int), rfl, _, 1, rfl, rfl, _, rfl, F, l, _, _, (n : Int), (n : Int) + 1, rfl, rfl, rfl, rfl, h7.e, el, nlF.2.symm, by omega, by omega, by rw [lV]; omega, by rw [lV]; exact Nat.le_of_lt (small5000 (by show _ + 2 ≤ 5000; omega)), ?_⟩
      rw [Int.toNat_natCast, show ((n : Int) + 1).toNat = n + 1 by omega]
      refine ⟨.ref F, rfl, done (h7.put nFH nFp (dtAll_app (dtAll_app (dtAll_take n h7.dt) (.cons (.tup nuF eu7 (by show 3 ≤ 5000; decide) (.cons (.int _) (.cons (.int _) (.cons (.int _) .nil)))) (.cons (.tup nuF2 eu27 (by show 3 ≤ 5000; decide) (.cons (.int _) (.cons (.int _) (.cons (.int _) .nil)))) .nil))) (dtAll_drop (n + 1) h7.dt)) fun d hd => ?_) ?_⟩
      · rcases List.mem_append.mp hd with hd | hd
        · rcases List.mem_append.mp hd with hd | hd
          · exact h7.nice d (List.mem_of_mem_take hd)
          · simp only [List.mem_cons, List.not_mem_nil, or_false] at hd
            rcases hd with rfl | rfl <;> exact nice_tup (ints3 _ _ _) (by show 3 ≤ 10; decide)
        · exact h7.nice d (List.mem_of_mem_drop hd)
      · rw [List.length_append, List.length_append, List.length_take, List.length_drop, lD]
        show min n tp.length + 2 + _ ≤ 10
        omega
    · -- one otherwise as a whole
      refine ⟨_, rfl, rfl, _, rfl, iteF ⟨_, rfl, rfl, _, rfl, iteF ⟨_, rfl, rfl, _, rfl, iteF ⟨_, rfl, rfl, _, rfl, iteT ?_⟩⟩⟩⟩
      refine ⟨.ref F, rfl, .int (n : Int), rfl, F, _, _, _, rfl, rfl, SqL.of h4.e, hat, t, _, rfl, SqT.of etx, rfl, _, _, rfl, _, _, rfl, _, [], rfl, rfl, ?_⟩
      refine ⟨.ref F, rfl, .int (n : Int), rfl, F, _, _, _, rfl, rfl, SqL.of h4.e, hat, t, _, rfl, .inr (SqT.of etx), fun u1 n1 => ?_⟩
      have su1 := same_upd (o := .lst [V.int (x.1 : Int), .int (x.2.1 : Int), .int x.2.2]) n1
      have h5 := h4.same nFp su1
      have nuF1 := h4.new n1
      have e1 : (upd H4 u1 (.lst [V.int (x.1 : Int), .int (x.2.1 : Int), .int x.2.2])) u1 = _ := upd_same
      have etx5 := su1 _ _ etx
      generalize upd H4 u1 (.lst [V.int (x.1 : Int), .int (x.2.1 : Int), .int x.2.2]) = H5 at h5 e1 etx5 ⊢
      refine ⟨_, rfl, _, rfl, _, rfl, by show 3 ≤ sizeLine; decide, fun u2 n2 => ?_⟩
      have su2 := same_upd (o := .tup [V.int (x.2.1 : Int), .int (x.1 : Int), .int x.2.2]) n2
      have h6 := h5.same nFp su2
      have nuF2 := h5.new n2
      have e1 := su2 _ _ e1
      have etx6 := su2 _ _ etx5
      have e2 : (upd H5 u2 (.tup [V.int (x.2.1 : Int), .int (x.1 : Int), .int x.2.2])) u2 = _ := upd_same
      generalize upd H5 u2 (.tup [V.int (x.2.1 : Int), .int (x.1 : Int), .int x.2.2]) = H6 at h6 e1 e2 etx6 ⊢
      refine ⟨_, rfl, _, rfl, _, rfl, _, rfl, by show 3 ≤ sizeLine; decide, fun u3 n3 => ?_⟩
      have su3 := same_upd (o := .tup [V.int (x.1 : Int), .int (x.2.1 : Int), .int (-x.2.2)]) n3
      have h7 := h6.same nFp su3
      have nuF3 := h6.new n3
      have e1 := su3 _ _ e1
      have e2 := su3 _ _ e2
      have etx7 := su3 _ _ etx6
      have e3 : (upd H6 u3 (.tup [V.int (x.1 : Int), .int (x.2.1 : Int), .int (-x.2.2)])) u3 = _ := upd_same
      have go : ∀ G : Hp, G = upd H6 u3 (.tup [V.int (x.1 : Int), .int (x.2.1 : Int), .int (-x.2.2)]) → G = upd H6 u3 (.tup [V.int (x.1 : Int), .int (x.2.1 : Int), (fun i : Int => V.int (-i)) x.2.2]) := fun _ e => e
      rw [← go _ rfl]
      clear go
      generalize upd H6 u3 (.tup [V.int (x.1 : Int), .int (x.2.1 : Int), .int (-x.2.2)]) = H7 at h7 e1 e2 e3 etx7 ⊢
      refine ⟨.ref F, rfl, .int (n : Int), rfl, F, _, _, _, rfl, rfl, SqL.of h7.e, hat, by show 1 ≤ sizeLine; decide, fun z4 m4 => ?_⟩
      have sz4 := same_upd (o := .tup [V.int 0]) m4
      have h8 := h7.same nFp sz4
      have e1 := sz4 _ _ e1
      have e2 := sz4 _ _ e2
      have e3 := sz4 _ _ e3
      have etx8 := sz4 _ _ etx7
      have ez4 : (upd H7 z4 (.tup [V.int 0])) z4 = _ := upd_same
      generalize upd H7 z4 (.tup [V.int 0]) = H8 at h8 e1 e2 e3 etx8 ez4 ⊢
      refine ⟨t, z4, _, _, rfl, rfl, etx8, ez4, by show 4 ≤ sizeLine; decide, fun u4 H9 s9 e4 => ?_⟩
      have h9 := h8.same nFp s9
      have e1 := s9 _ _ e1
      have e2 := s9 _ _ e2
      have e3 := s9 _ _ e3
      have nuF4 : u4 ≠ p ∧ u4 ≠ F := ⟨fun z => (by
        obtain ⟨g, r, eb, _⟩ := h9.b
        rw [z, eb] at e4
        cases e4), fun z => (by
        rw [z, h9.e] at e4
        cases e4)⟩
      refine ⟨by show 4 ≤ sizeLine; decide, fun L nL => ?_⟩
      have sL := same_upd (o := .lst [V.ref u1, .ref u2, .ref u3, .ref u4]) nL
      have h10 := h9.same nFp sL
      have e1 := sL _ _ e1
      have e2 := sL _ _ e2
      have e3 := sL _ _ e3
      have e4 := sL _ _ e4
      have eL : (upd H9 L (.lst [V.ref u1, .ref u2, .ref u3, .ref u4])) L = _ := upd_same
      have nLF := h9.new nL
      generalize upd H9 L (.lst [V.ref u1, .ref u2, .ref u3, .ref u4]) = H10 at h10 e1 e2 e3 e4 eL ⊢
      refine ⟨.ref L, rfl, .ref p, rfl, p, 4, rfl, h10.b, by decide, by decide, fun H11 c k11 b11 c0 c1 => ?_⟩
      have h11 := h10.keep nFp k11 b11
      have e1 := k11 _ _ nuF1.1 e1
      have e2 := k11 _ _ nuF2.1 e2
      have e3 := k11 _ _ nuF3.1 e3
      have e4 := k11 _ _ nuF4.1 e4
      have eL := k11 _ _ nLF.1 eL
      obtain ⟨v', d', hv', hd', hn'⟩ : ∃ v' d', atI [V.ref u1, .ref u2, .ref u3, .ref u4] c = some v' ∧ Dt (SF p F) H11 v' d' ∧ NiceP d' := by
        have : c = 0 ∨ c = 1 ∨ c = 2 ∨ c = 3 := by omega
        rcases this with rfl | rfl | rfl | rfl
        · exact ⟨.ref u1, .list [.int (x.1 : Int), .int (x.2.1 : Int), .int x.2.2], atI_nat (j := 0) rfl, .lst nuF1 e1 (by show 3 ≤ 5000; decide) (.cons (.int _) (.cons (.int _) (.cons (.int _) .nil))), nice_lst (ints3 _ _ _)⟩
        · exact ⟨.ref u2, .tuple [.int (x.2.1 : Int), .int (x.1 : Int), .int x.2.2], atI_nat (j := 1) rfl, .tup nuF2 e2 (by show 3 ≤ 5000; decide) (.cons (.int _) (.cons (.int _) (.cons (.int _) .nil))), nice_tup (ints3 _ _ _) (by show 3 ≤ 10; decide)⟩
        · exact ⟨.ref u3, .tuple [.int (x.1 : Int), .int (x.2.1 : Int), .int (-x.2.2)], atI_nat (j := 2) rfl, .tup nuF3 e3 (by show 3 ≤ 5000; decide) (.cons (.int _) (.cons (.int _) (.cons (.int _) .nil))), nice_tup (ints3 _ _ _) (by show 3 ≤ 10; decide)⟩
        · exact ⟨.ref u4, .tuple [.int (x.1 : Int), .int (x.2.1 : Int), .int x.2.2, .int 0], atI_nat (j := 3) rfl, .tup nuF4 e4 (by show 4 ≤ 5000; decide) (.cons (.int _) (.cons (.int _) (.cons (.int _) (.cons (.int _) .nil)))), nice_tup (fun d hd => by
            simp only [List.mem_cons, List.not_mem_nil, or_false] at hd
            rcases hd with rfl | rfl | rfl | rfl <;> exact niceQ_int _) (by show 4 ≤ 10; decide)⟩
      refine ⟨L, _, c, v', rfl, rfl, SqL.of eL, hv', .ref F, rfl, .int (n : Int), rfl, F, _, (n : Int), n, rfl, rfl, h11.e, by rw [lV]; exact ix_nat nl, ?_⟩
      exact ⟨.ref F, rfl, done (h11.put nFH nFp (dtAll_set n h11.dt hd') fun d hd => mem_setD h11.nice hn' hd) (by rw [List.length_set, lD]; omega)⟩
    · -- a part otherwise
      have hne : ∀ z : Int, z < 5 → ¬ V.int way = V.int z := fun z hz e => by
        have : way = z := by injection e
        omega
      refine ⟨_, rfl, rfl, _, rfl, ?_⟩
      rw [decide_eq_false (hne 1 (by decide))]
      refine iteF ⟨_, rfl, rfl, _, rfl, ?_⟩
      rw [decide_eq_false (hne 2 (by decide))]
      refine iteF ⟨_, rfl, rfl, _, rfl, ?_⟩
      rw [decide_eq_false (hne 3 (by decide))]
      refine iteF ⟨_, rfl, rfl, _, rfl, ?_⟩
      rw [decide_eq_false (hne 4 (by decide))]
      refine iteF ⟨.ref p, rfl, p, 3, rfl, h4.b, by decide, by decide, fun H5 kk k5 b5 kk0 kk1 => ?_⟩
      have h5 := h4.keep nFp k5 b5
      have etx5 := k5 _ _ hx.1 etx
      obtain ⟨j, rfl⟩ : ∃ j : Nat, kk = (j : Int) := ⟨kk.toNat, by omega⟩
      have j3 : j < 3 := by omega
      obtain ⟨zj, hzj⟩ : ∃ zj : Int, atI [V.int (x.1 : Int), .int (x.2.1 : Int), .int x.2.2] (j : Int) = some (.int zj) := by
        match j, j3 with
        | 0, _ => exact ⟨_, atI_nat rfl⟩
        | 1, _ => exact ⟨_, atI_nat rfl⟩
        | 2, _ => exact ⟨_, atI_nat rfl⟩
      by_cases c5 : way = 5
      case' pos =>
        subst c5
        refine ⟨_, rfl, rfl, _, rfl, iteT ⟨.ref p, rfl, p, rfl, h5.b, fun H6 v d k6 b6 hd hm => ?_⟩⟩
        have hd := dt_oldF h5.e hd
        have h6 := h5.keep nFp k6 b6
        have etx6 := k6 _ _ hx.1 etx5
        have hnq := niceQ_any d hm
      case' neg =>
        have c6 : way = 6 := by omega
        subst c6
        refine ⟨_, rfl, rfl, _, rfl, iteF ⟨.ref F, rfl, .int (n : Int), rfl, F, _, _, _, rfl, rfl, SqL.of h5.e, hat, .int (j : Int), rfl, t, _, _, .int zj, rfl, rfl, SqT.of etx5, hzj, .ref p, rfl, p, 2, rfl, h5.b, by decide, by decide, fun H6 c k6 b6 c0 c1 => ?_⟩⟩
        refine ⟨2, c, rfl, rfl, .inl ⟨by decide, by decide⟩, _, _, rfl, rfl, _, 1, rfl, rfl, ?_⟩
        have h6 := h5.keep nFp k6 b6
        have etx6 := k6 _ _ hx.1 etx5
        obtain ⟨v, hv⟩ : ∃ v : V, v = .int (zj + 2 * c - 1) := ⟨_, rfl⟩
        have hd : Dt (SF p F) H6 v (.int (zj + 2 * c - 1)) := by rw [hv]; exact .int _
        have hnq := niceQ_int (zj + 2 * c - 1)
        rw [show (fun i j : Int => V.int (i - j)) (zj + 2 * c) 1 = v from hv.symm]
        generalize PyData.int (zj + 2 * c - 1) = d at hd hnq
        clear hv
      all_goals
        refine ⟨.ref F, rfl, .int (n : Int), rfl, F, _, _, _, rfl, rfl, SqL.of h6.e, hat, .int (j : Int), rfl, _, rfl, t, _, rfl, etx6, fun u1 H7 s7 e1 => ?_⟩
        have h7 := h6.same nFp s7
        have hd := dt_keepF (.of s7) hd
        refine ⟨v, rfl, by show 1 ≤ sizeLine; decide, fun u2 n2 => ?_⟩
        have su2 := same_upd (o := .tup [v]) n2
        have h8 := h7.same nFp su2
        have hd := dt_keepF (.of su2) hd
        have e1 := su2 _ _ e1
        have e2 : (upd H7 u2 (.tup [v])) u2 = _ := upd_same
        have etx8 := su2 _ _ (s7 _ _ etx6)
        generalize upd H7 u2 (.tup [v]) = H8 at h8 hd e1 e2 etx8 ⊢
        refine ⟨u1, u2, _, _, rfl, rfl, e1, e2, ?_, fun u3 H9 s9 e3 => ?_⟩
        · have := cutV_length [V.int (x.1 : Int), .int (x.2.1 : Int), .int x.2.2] none (some (j : Int))
          refine Nat.le_of_lt (small5000 ?_)
          show _ + 1 ≤ 5000
          have l3 : [V.int (x.1 : Int), .int (x.2.1 : Int), .int x.2.2].length = 3 := rfl
          omega
        have h9 := h8.same nFp s9
        have hd := dt_keepF (.of s9) hd
        have etx9 := s9 _ _ etx8
        refine ⟨.ref F, rfl, .int (n : Int), rfl, F, _, _, _, rfl, rfl, SqL.of h9.e, hat, _, rfl, _, 1, rfl, rfl, _, rfl, t, _, rfl, etx9, fun u4 H10 s10 e4 => ?_⟩
        have h10 := h9.same nFp s10
        have hd := dt_keepF (.of s10) hd
        have e3 := s10 _ _ e3
        refine ⟨u3, u4, _, _, rfl, rfl, e3, e4, ?_, fun u5 H11 s11 e5 => ?_⟩
        · have := cutV_length [V.int (x.1 : Int), .int (x.2.1 : Int), .int x.2.2] none (some (j : Int))
          have := cutV_length [V.int (x.1 : Int), .int (x.2.1 : Int), .int x.2.2] (some ((j : Int) + 1)) none
          refine Nat.le_of_lt (small5000 ?_)
          rw [List.length_append]
          show _ + 1 + _ ≤ 5000
          have l3 : [V.int (x.1 : Int), .int (x.2.1 : Int), .int x.2.2].length = 3 := rfl
          omega
        have h11 := h10.same nFp s11
        have hd := dt_keepF (.of s11) hd
        have nuF5 : u5 ≠ p ∧ u5 ≠ F := ⟨fun z => (by
          obtain ⟨g, r, eb, _⟩ := h11.b
          rw [z, eb] at e5
          cases e5), fun z => (by
          rw [z, h11.e] at e5
          cases e5)⟩
        obtain ⟨d', hd', hn'⟩ : ∃ d', Dt (SF p F) H11 (.ref u5) d' ∧ NiceP d' := by
          match j, j3 with
          | 0, _ => exact ⟨.tuple [d, .int (x.2.1 : Int), .int x.2.2], .tup nuF5 e5 (by show 3 ≤ 5000; decide) (.cons hd (.cons (.int _) (.cons (.int _) .nil))), nice_tup (fun d hd => by
              simp only [List.mem_cons, List.not_mem_nil, or_false] at hd
              rcases hd with rfl | rfl | rfl <;> first | exact hnq | exact niceQ_int _) (by show 3 ≤ 10; decide)⟩
          | 1, _ => exact ⟨.tuple [.int (x.1 : Int), d, .int x.2.2], .tup nuF5 e5 (by show 3 ≤ 5000; decide) (.cons (.int _) (.cons hd (.cons (.int _) .nil))), nice_tup (fun d hd => by
              simp only [List.mem_cons, List.not_mem_nil, or_false] at hd
              rcases hd with rfl | rfl | rfl <;> first | exact hnq | exact niceQ_int _) (by show 3 ≤ 10; decide)⟩
          | 2, _ => exact ⟨.tuple [.int (x.1 : Int), .int (x.2.1 : Int), d], .tup nuF5 e5 (by show 3 ≤ 5000; decide) (.cons (.int _) (.cons (.int _) (.cons hd .nil))), nice_tup (fun d hd => by
              simp only [List.mem_cons, List.not_mem_nil, or_false] at hd
              rcases hd with rfl | rfl | rfl <;> first | exact hnq | exact niceQ_int _) (by show 3 ≤ 10; decide)⟩
        refine ⟨.ref F, rfl, .int (n : Int), rfl, F, _, (n : Int), n, rfl, rfl, h11.e, by rw [lV]; exact ix_nat nl, ?_⟩
        exact ⟨.ref F, rfl, done (h11.put nFH nFp (dtAll_set n h11.dt hd') fun d hd => mem_setD h11.nice hn' hd) (by rw [List.length_set, lD]; omega)⟩
end
end Th
namespace Th
open PySem PySem.Spec PyProof.Rows L2
/-! a table bent, a thing bent -/
open Py (bit sumsM zI TabTo TabOk wS pS MinZ SgM GrOk Pay payL negR posR nzP nzW FewOk FwM effL)
theorem nice_ints (tab : List Int) : ∀ d ∈ tab.map PyData.int, NiceP d := fun d hd => by
  obtain ⟨z, _, rfl⟩ := List.mem_map.mp hd
  exact nice_int z
section
variable {P : Program} {w : World} {K : PySem.W.Frag} {mg : Str → Option Value} {base : Heap} {k : Nat}
def sp_l_bent_table : Sp := fun vs H Q _ => ∃ (p q : Addr) (tab : List Int), vs = [.ref p, .ref q] ∧ Bag H p ∧ q ≠ p ∧ H q = some (.lst (tab.map V.int)) ∧ 0 < tab.length ∧ tab.length ≤ 256 ∧
  ∀ H' r xs ds, Keep p H H' → Bag H' p → r ≠ p → H' r = some (.lst xs) → DtAll (SN p) H' xs ds → ds.length ≤ 300 → (∀ d ∈ ds, NiceP d) → Q (.ref r) H'
set_option maxHeartbeats 16000000 in
theorem ok_l_bent_table (T : Defs K mg) : FnOk P w K mg base CX0 (k + 3) T.a_l_bent_table T.d_l_bent_table ["_law_bag_here", "_law_table"] sp_l_bent_table := by
  have G_l_take : FnOk P w K mg base CX0 (k + 2) _ _ _ _ := ok_l_take (k := k + 1) T
  have G_l_any : FnOk P w K mg base CX0 (k + 2) _ _ _ _ := ok_l_any (k := k) T
  refine T.F_l_bent_table.ok sc_l_bent_table (fun vs H Q E h => ?_) (fun cdv A outer s H vs Q E hr h => ?_)
  · obtain ⟨p, q, tab, rfl, _⟩ := h
    rfl
  · obtain ⟨p, q', tab, rfl, b, nqp, hq, t0, t256, q⟩ := h
    refine ⟨_, PSs.nox
(pss_cons (ps_par (i := 2) (j := 3) (by rfl) sc_l_bent_table.nd rfl rfl (by decide) rfl rfl (pa_cons (pe_call G_l_take hr (by rfl) T.g_l_take T.F_l_take.kp T.b_l_take .nil pass0 (pa_cons (pv 0) (pa_cons (pe_int) pa_nil))) (pa_cons (pe_call G_l_take hr (by rfl) T.g_l_take T.F_l_take.kp T.b_l_take .nil pass0 (pa_cons (pv 0) (pa_cons (pe_callB (r := rLenS K) call_lenS (by rfl) T.z_len (by decide +kernel) (pa_cons (pv 1) pa_nil)) pa_nil))) pa_nil)) (by rfl))
    (pss_cons (ps_set (i := 4) sc_l_bent_table.nd rfl (.inl rfl) (pe_callTy call_list_of (by rfl) T.z_list (by decide +kernel) (pa_cons (pv 1) pa_nil)))
    (pss_cons (ps_if (pt_cmpR op_eq (pv 2) (pe_int) (nomark _))
      (pss_one (ps_expr (pe_bm PySem.F.plainAttrs_list PySem.F.slot_list_pop PySem.F.type_list_pop mt_popAt (pv 4) (pa_cons (pv 3) pa_nil))))
      (pss_one (ps_if (pt_cmpR op_eq (pv 2) (pe_int) (nomark _))
        (pss_one (ps_expr (pe_bm PySem.F.plainAttrs_list PySem.F.slot_list_insert PySem.F.type_list_insert mt_insert (pv 4) (pa_cons (pv 3) (pa_cons (pe_ix (r := rIxL K) ix_list (pv 4) (pv 3) (fun _ _ => rfl)) pa_nil)))))
        (pss_one (ps_if (pt_cmpR op_eq (pv 2) (pe_int) (nomark _))
          (pss_one (ps_asg (pe_call G_l_any hr (by rfl) T.g_l_any T.F_l_any.kp T.b_l_any .nil pass0 (pa_cons (pv 0) pa_nil)) (pg_sub (pv 4) (pv 3) set_list)))
          (pss_one (ps_if (pt_cmpR op_eq (pv 2) (pe_int) (nomark _))
            (pss_one (ps_set (i := 4) sc_l_bent_table.nd rfl (.inl rfl) (pe_op op_cat (pe_lc (own := [("_law_one", 5)]) (g := gName 5) rfl sc_l_bent_table.nd (pi_list (pe_slice sl_list (pv 4) po_none (po_some (pv 3)))) (blkOk_by (N := N_l_bent_table) (sc := defScope s_l_bent_table) (by decide +kernel)) (fun _ _ _ _ _ => (pg_name (i := 5) sc_l_bent_table.nd rfl (.inl rfl))) (fun _ _ _ _ _ => pts_nil) (fun _ _ _ _ _ => (pe_op op_add (pv 5) (pe_int)))) (pe_slice sl_list (pv 4) (po_some (pv 3)) po_none))))
            (pss_one (ps_augS (pv 4) (pv 3) get_listN (pe_op op_sub (pe_op op_mul (pe_int) (pe_call G_l_take hr (by rfl) T.g_l_take T.F_l_take.kp T.b_l_take .nil pass0 (pa_cons (pv 0) (pa_cons (pe_int) pa_nil)))) (pe_int)) ip_add set_list)))))))))
    (pss_one (ps_ret (pv 4))))))
      , ?_⟩
    refine ⟨.ref p, rfl, p, 6, rfl, b, by decide, by decide, fun H1 way k1 b1 w0 w1 => ?_⟩
    have hq1 := k1 _ _ nqp hq
    refine ⟨.ref p, rfl, .ref q', rfl, q', _, rfl, .inl (SqL.of hq1), p, _, rfl, b1, by rw [List.length_map]; omega, by rw [List.length_map]; omega, fun H2 at' k2 b2 a0 a1 => ⟨_, _, rfl, ?_⟩⟩
    rw [List.length_map] at a1
    obtain ⟨n, rfl⟩ : ∃ n : Nat, at' = (n : Int) := ⟨at'.toNat, by omega⟩
    have nl : n < tab.length := by omega
    have hq2 := k2 _ _ nqp hq1
    have k02 := k1.trans k2
    refine ⟨.ref q', rfl, q', _, rfl, .inl (SqL.of hq2), fun F nF => ?_⟩
    have sF := same_upd (o := .lst (tab.map V.int)) nF
    have nFp : F ≠ p := b2.ne nF
    have nFH : H F = none := k02.free b nF b2
    have h4 : FlS H (upd H2 F (.lst (tab.map V.int))) p F (tab.map V.int) (tab.map PyData.int) := ⟨k02.trans (.of sF), b2.keep sF, upd_same, dtAll_ints tab, nice_ints tab⟩
    generalize upd H2 F (.lst (tab.map V.int)) = H4 at h4 ⊢
    have lV : (tab.map V.int).length = tab.length := List.length_map _
    have lD : (tab.map PyData.int).length = tab.length := List.length_map _
    have done : ∀ {Hx : Hp} {xs : List V} {ds : List PyData}, FlS H Hx p F xs ds → ds.length ≤ 300 → Q (.ref F) Hx := fun {Hx xs ds} h l => q Hx F xs ds h.k h.b nFp h.e h.dtp l h.nice
    have hnv : (tab.map V.int)[n]? = some (.int (tab.getD n 0)) := getD_at nl
    have hat : atI (tab.map V.int) (n : Int) = some (.int (tab.getD n 0)) := atI_nat hnv
    have hway : way = 0 ∨ way = 1 ∨ way = 2 ∨ way = 3 ∨ way = 4 ∨ way = 5 := by omega
    rcases hway with rfl | rfl | rfl | rfl | hw45
    · refine ⟨_, rfl, rfl, _, rfl, iteT ⟨.ref F, rfl, .inl ⟨rfl, _, SqL.of h4.e⟩, .int (n : Int), rfl, F, _, (n : Int), n, _, rfl, rfl, h4.e, by omega, by omega, by rw [lV]; exact sqi nl, hnv, ?_⟩⟩
      refine ⟨.ref F, rfl, done (h4.put nFH nFp (dtAll_erase n h4.dt) fun d hd => h4.nice d (List.mem_of_mem_eraseIdx hd)) ?_⟩
      rw [List.length_eraseIdx]
      split <;> omega
    · refine ⟨_, rfl, rfl, _, rfl, iteF ⟨_, rfl, rfl, _, rfl, iteT ⟨.ref F, rfl, .inl ⟨rfl, _, SqL.of h4.e⟩, .int (n : Int), rfl, .ref F, rfl, .int (n : Int), rfl, F, _, _, _, rfl, rfl, SqL.of h4.e, hat, F, _, (n : Int), _, rfl, rfl, h4.e, by rw [lV]; exact small5000 (by omega), by omega, by omega, ?_⟩⟩⟩
      rw [Int.toNat_natCast]
      exact ⟨.ref F, rfl, done (h4.put nFH nFp (dtAll_ins n h4.dt (.int _)) fun d hd => mem_ins h4.nice (nice_int _) hd) (by rw [ins_len, lD]; omega)⟩
    · refine ⟨_, rfl, rfl, _, rfl, iteF ⟨_, rfl, rfl, _, rfl, iteF ⟨_, rfl, rfl, _, rfl, iteT ⟨.ref p, rfl, p, rfl, h4.b, fun H5 v d k5 b5 hd hm => ?_⟩⟩⟩⟩
      have hd := dt_oldF h4.e hd
      have h5 := h4.keep nFp k5 b5
      refine ⟨.ref F, rfl, .int (n : Int), rfl, F, _, (n : Int), n, rfl, rfl, h5.e, by rw [lV]; exact ix_nat nl, ?_⟩
      exact ⟨.ref F, rfl, done (h5.put nFH nFp (dtAll_set n h5.dt hd) fun d hd => mem_setD h5.nice (nice_any _ hm) hd) (by rw [List.length_set, lD]; omega)⟩
    · refine ⟨_, rfl, rfl, _, rfl, iteF ⟨_, rfl, rfl, _, rfl, iteF ⟨_, rfl, rfl, _, rfl, iteF ⟨_, rfl, rfl, _, rfl, iteT ?_⟩⟩⟩⟩
      refine ⟨.ref F, rfl, .int (n : Int), rfl, n, rfl, F, _, rfl, SqL.of h4.e, fun C nC => ?_⟩
      rw [cut_take, ← List.map_take]
      have sC := same_upd (o := .lst ((tab.take n).map V.int)) nC
      have h5 := h4.same nFp sC
      have eC : (upd H4 C (.lst ((tab.take n).map V.int))) C = _ := upd_same
      generalize upd H4 C (.lst ((tab.take n).map V.int)) = H5 at h5 eC ⊢
      refine ⟨C, rfl, ⟨_, SqL.of eC⟩, fun D nD => ?_⟩
      refine lc_it (walk_list (xs := (tab.take n).map V.int)) (fun j Hy => Same H5 Hy ∧ Hy D = some (.lst ((((tab.take n).map (· + 1)).take j).map V.int))) ⟨same_upd nD, upd_same⟩ (fun j Hy _ pv => SqL.of (pv.1 _ _ eC)) (fun j v Hy₀ Hy hj pv yy => ?_) (fun H6 pv => ?_)
      · obtain ⟨rfl, ey⟩ := yy
        obtain ⟨sy, eD⟩ := pv
        obtain ⟨z, ez, rfl⟩ := at_int ey
        rw [List.length_map, List.length_take] at hj
        refine ⟨rfl, yes_ ⟨.int z, rfl, _, 1, rfl, rfl, _, eD, ?_, same_set sy nD, ?_⟩⟩
        · rw [List.length_map, List.length_take, List.length_map]
          exact small5000 (by omega)
        · rw [upd_same, List.take_add_one, List.getElem?_map, ez, List.map_append]
          rfl
      obtain ⟨s6, eD⟩ := pv
      rw [List.length_map, List.take_of_length_le (by rw [List.length_map]; exact Nat.le_refl _)] at eD
      have h6 := h5.same nFp s6
      refine ⟨.ref F, rfl, .int (n : Int), rfl, n, rfl, F, _, rfl, SqL.of h6.e, fun C2 nC2 => ?_⟩
      rw [cut_dropO, ← List.map_drop]
      have sC2 := same_upd (o := .lst ((tab.drop n).map V.int)) nC2
      have h7 := h6.same nFp sC2
      have eD7 := sC2 _ _ eD
      have eC2 : (upd H6 C2 (.lst ((tab.drop n).map V.int))) C2 = _ := upd_same
      generalize upd H6 C2 (.lst ((tab.drop n).map V.int)) = H7 at h7 eD7 eC2 ⊢
      refine ⟨D, C2, _, _, rfl, rfl, eD7, eC2, ?_, fun G nG => ?_⟩
      · rw [List.length_map, List.length_map, List.length_map, List.length_take, List.length_drop]
        exact Nat.le_of_lt (small5000 (by omega))
      have sG := same_upd (o := .lst (((tab.take n).map (· + 1)).map V.int ++ (tab.drop n).map V.int)) nG
      refine ⟨.ref G, rfl, q _ G _ ((((tab.take n).map (· + 1)) ++ tab.drop n).map PyData.int) (h7.k.trans (.of sG)) (h7.b.keep sG) (h7.new nG).1 (by rw [upd_same, ← List.map_append]) (dtAll_ints _) ?_ (nice_ints _)⟩
      rw [List.length_map, List.length_append, List.length_map, List.length_take, List.length_drop]
      omega
    · have hne : ∀ z : Int, z < 4 → ¬ V.int way = V.int z := fun z hz e => by
        have : way = z := by injection e
        omega
      refine ⟨_, rfl, rfl, _, rfl, ?_⟩
      rw [decide_eq_false (hne 0 (by decide))]
      refine iteF ⟨_, rfl, rfl, _, rfl, ?_⟩
      rw [decide_eq_false (hne 1 (by decide))]
      refine iteF ⟨_, rfl, rfl, _, rfl, ?_⟩
      rw [decide_eq_false (hne 2 (by decide))]
      refine iteF ⟨_, rfl, rfl, _, rfl, ?_⟩
      rw [decide_eq_false (hne 3 (by decide))]
      refine iteF ?_
      refine ⟨.ref F, rfl, .int (n : Int), rfl, F, _, n, .int (tab.getD n 0), rfl, rfl, h4.e, hnv, .ref p, rfl, p, 2, rfl, h4.b, by decide, by decide, fun H5 c k5 b5 c0 c1 => ?_⟩
      have h5 := h4.keep nFp k5 b5
      refine ⟨2, c, rfl, rfl, .inl ⟨by decide, by decide⟩, _, 1, rfl, rfl, _, _, rfl, rfl, F, _, (n : Int), n, rfl, rfl, h5.e, by rw [lV]; exact ix_nat nl, ?_⟩
      exact ⟨.ref F, rfl, done (h5.put nFH nFp (dtAll_set n h5.dt (.int _)) fun d hd => mem_setD h5.nice (nice_int _) hd) (by rw [List.length_set, lD]; omega)⟩
end
/-- payments in a heap, none of them the bag -/
theorem dtAll_paysN {p : Addr} {H : Hp} : ∀ {xs : List V} {tp : List Pay}, DtAll (SN p) H xs (tp.map payD) → ∃ ts : List Addr, xs = ts.map V.ref ∧ Paired (PayN p H) ts tp
  | _, [], .nil => ⟨[], rfl, .nil⟩
  | _, t :: tp, .cons r s => by
    obtain ⟨ts, e, h⟩ := dtAll_paysN s
    have r : Dt (SN p) H _ (.tuple [.int (t.1 : Int), .int (t.2.1 : Int), .int t.2.2]) := r
    cases r with
    | @tup a xs _ na ea _ hx =>
      cases hx with
      | cons h1 hx =>
      cases hx with
      | cons h2 hx =>
      cases hx with
      | cons h3 hx =>
      cases hx
      cases h1
      cases h2
      cases h3
      exact ⟨a :: ts, by rw [e]; rfl, .cons ⟨na, ea⟩ h⟩
theorem dtAll_intS {S : Addr → Prop} {H : Hp} {xs : List V} {tab : List Int} (h : DtAll S H xs (tab.map PyData.int)) : xs = tab.map V.int := dtAll_int h
/-- a told thing in a heap, by its parts -/
theorem dt_thN {p : Addr} {H : Hp} {v : V} {tp : List Pay} {tab : List Int} (h : Dt (SN p) H v (thD tp tab)) : ∃ (u F t : Addr) (ts : List Addr), v = .ref u ∧ u ≠ p ∧ F ≠ p ∧ t ≠ p ∧ H u = some (.tup [.ref F, .ref t]) ∧ H F = some (.lst (ts.map V.ref)) ∧ H t = some (.lst (tab.map V.int)) ∧ Paired (PayN p H) ts tp := by
  have h : Dt (SN p) H v (.tuple [.list (tp.map payD), .list (tab.map PyData.int)]) := h
  cases h with
  | @tup u xs _ nu eu _ hx =>
    cases hx with
    | cons h1 hx =>
    cases hx with
    | cons h2 hx =>
    cases hx
    cases h1 with
    | @lst F xs _ nF eF _ hF =>
    cases h2 with
    | @lst t ys _ nt et _ ht =>
      obtain ⟨ts, rfl, hts⟩ := dtAll_paysN hF
      cases dtAll_intS ht
      exact ⟨u, F, t, ts, rfl, nu, nF, nt, eu, eF, et, hts⟩
theorem dtAll_payS {p : Addr} {H : Hp} : ∀ {ts : List Addr} {tp : List Pay}, Paired (PayN p H) ts tp → DtAll (SN p) H (ts.map V.ref) (tp.map payD)
  | [], [], _ => .nil
  | t :: ts, x :: tp, .cons r s => .cons (.tup r.1 r.2 (by show 3 ≤ 5000; decide) (.cons (.int _) (.cons (.int _) (.cons (.int _) .nil)))) (dtAll_payS s)
theorem DtAll.keepN {p : Addr} {H H' : Hp} {xs : List V} {ds : List PyData} (h : DtAll (SN p) H xs ds) (k : Keep p H H') : DtAll (SN p) H' xs ds := h.mono (fun _ x => x) fun a o na e => k a o na e
/-- all that is asked of a thing -/
structure NiceA (d : PyData) : Prop where
  nt : NiceT d
  lay : d.canLay0 = true
  dep : d.depth ≤ 5
theorem nt_not {d : PyData} (h : pairD d = false) : NiceT d := by
  have no : ∀ ps ds, d ≠ .tuple [.list ps, .list ds] := fun ps ds e => by
    rw [e] at h
    exact absurd (show (true : Bool) = false from h) (by decide)
  exact ⟨fun ps ds e => absurd e (no ps ds), fun ps ds x e => absurd e (no ps ds), fun ps ds e z => absurd z (no ps ds)⟩
theorem depth_of_pair {ps ds : List PyData} (h1 : ∀ d ∈ ps, NiceP d) (h2 : ∀ d ∈ ds, NiceP d) : PyData.depth (.list ps) ≤ 4 ∧ PyData.depth (.list ds) ≤ 4 :=
  ⟨Nat.succ_le_succ (depthAll_of fun d hd => (h1 d hd).dep), Nat.succ_le_succ (depthAll_of fun d hd => (h2 d hd).dep)⟩
theorem lay_of_list {ps : List PyData} (h1 : ∀ d ∈ ps, NiceP d) : PyData.canLay0 (.list ps) = true := layAll_of fun d hd => (h1 d hd).lay
theorem niceA_pair {ps ds : List PyData} (h1 : ∀ d ∈ ps, NiceP d) (h2 : ∀ d ∈ ds, NiceP d) (l1 : ps.length ≤ 10) (l2 : ds.length ≤ 300) : NiceA (.tuple [.list ps, .list ds]) := by
  refine ⟨⟨fun ps' ds' e => ?_, fun ps' ds' x e hx => ?_, fun ps' ds' e' e he => ?_⟩, layAll_of fun d hd => ?_, Nat.succ_le_succ (depthAll_of fun d hd => ?_)⟩
  · cases e; exact ⟨by omega, by omega⟩
  · cases e; exact Nat.le_trans ((h1 _ hx).tup x rfl) (by decide)
  · cases e; exact (h2 _ (List.mem_of_getElem? he)).shaped
  · simp only [List.mem_cons, List.not_mem_nil, or_false] at hd
    rcases hd with rfl | rfl
    · exact lay_of_list h1
    · exact lay_of_list h2
  · simp only [List.mem_cons, List.not_mem_nil, or_false] at hd
    rcases hd with rfl | rfl
    · exact (depth_of_pair h1 h2).1
    · exact (depth_of_pair h1 h2).2
structure Lo4 (d : PyData) : Prop where
  lay : d.canLay0 = true
  dep : d.depth ≤ 4
theorem niceA_lst {es : List PyData} (h : ∀ d ∈ es, Lo4 d) : NiceA (.list es) := ⟨nt_not rfl, layAll_of fun d hd => (h d hd).lay, Nat.succ_le_succ (depthAll_of fun d hd => (h d hd).dep)⟩
theorem niceA_tup {es : List PyData} (n : pairD (.tuple es) = false) (h : ∀ d ∈ es, Lo4 d) : NiceA (.tuple es) := ⟨nt_not n, layAll_of fun d hd => (h d hd).lay, Nat.succ_le_succ (depthAll_of fun d hd => (h d hd).dep)⟩
theorem niceA_any : ∀ d ∈ anysD, NiceA d := fun d hd => by
  have h : anysD.all (fun d => !pairD d) = true := by decide +kernel
  have z := List.all_eq_true.mp h d hd
  have z : pairD d = false := by rw [Bool.not_eq_true'] at z; exact z
  exact ⟨nt_not z, (nice_any d hd).lay, Nat.le_trans (nice_any d hd).dep (by decide)⟩
theorem niceP_of (tp : List Pay) : ∀ d ∈ tp.map payD, NiceP d := fun d hd => by
  obtain ⟨x, _, rfl⟩ := List.mem_map.mp hd
  exact nice_pay x
theorem niceA_th {tp : List Pay} {tab : List Int} (h1 : tp.length ≤ 8) (h2 : tab.length ≤ 256) : NiceA (thD tp tab) := niceA_pair (niceP_of tp) (nice_ints tab) (by rw [List.length_map]; omega) (by rw [List.length_map]; omega)
theorem NiceA.shaped {d : PyData} (h : NiceA d) : SeqAt.shaped d = true := Bool.and_eq_true_iff.mpr ⟨h.lay, decide_eq_true (Nat.le_trans h.dep (by decide))⟩
section
variable {P : Program} {w : World} {K : PySem.W.Frag} {mg : Str → Option Value} {base : Heap} {k : Nat}
def sp_l_bent : Sp := fun vs H Q _ => ∃ (p : Addr) (v : V) (tp : List Pay) (tab : List Int), vs = [.ref p, v] ∧ Bag H p ∧ Dt (SN p) H v (thD tp tab) ∧ tp.length ≤ 8 ∧ tab.length ≤ 256 ∧ 0 < tab.length ∧
  ∀ H' v d, Keep p H H' → Bag H' p → Dt (SN p) H' v d → NiceA d → Q v H'
set_option maxHeartbeats 16000000 in
theorem ok_l_bent (T : Defs K mg) : FnOk P w K mg base CX0 (k + 4) T.a_l_bent T.d_l_bent ["_law_bag_here", "_law_told_here"] sp_l_bent := by
  have G_l_take : FnOk P w K mg base CX0 (k + 3) _ _ _ _ := ok_l_take (k := k + 2) T
  have G_l_any : FnOk P w K mg base CX0 (k + 3) _ _ _ _ := ok_l_any (k := k + 1) T
  have G_l_bent_payments : FnOk P w K mg base CX0 (k + 3) _ _ _ _ := ok_l_bent_payments (k := k) T
  have G_l_bent_table : FnOk P w K mg base CX0 (k + 3) _ _ _ _ := ok_l_bent_table (k := k) T
  refine T.F_l_bent.ok sc_l_bent (fun vs H Q E h => ?_) (fun cdv A outer s H vs Q E hr h => ?_)
  · obtain ⟨p, v, tp, tab, rfl, _⟩ := h
    rfl
  · obtain ⟨p, v, tp, tab, rfl, b, hd, tp8, t256, t0, q⟩ := h
    refine ⟨_, PSs.nox
(pss_cons (ps_set (i := 2) sc_l_bent.nd rfl (.inl rfl) (pe_call G_l_take hr (by rfl) T.g_l_take T.F_l_take.kp T.b_l_take .nil pass0 (pa_cons (pv 0) (pa_cons (pe_int) pa_nil))))
    (pss_cons (ps_par (i := 3) (j := 4) (by rfl) sc_l_bent.nd rfl rfl (by decide) rfl rfl (pa_cons (pe_callTy call_list_of (by rfl) T.z_list (by decide +kernel) (pa_cons (pe_ix (r := rIxT K) ix_tup (pv 1) (pe_int) (fun _ _ => rfl)) pa_nil)) (pa_cons (pe_callTy call_list_of (by rfl) T.z_list (by decide +kernel) (pa_cons (pe_ix (r := rIxT K) ix_tup (pv 1) (pe_int) (fun _ _ => rfl)) pa_nil)) pa_nil)) (by rfl))
    (pss_cons (ps_if (pt_cmpR op_eq (pv 2) (pe_int) (nomark _))
      (pss_cons (ps_set (i := 5) sc_l_bent.nd rfl (.inl rfl) (pe_tup (pa_cons (pe_lst (pa_cons (pv 3) (pa_cons (pv 4) pa_nil))) (pa_cons (pe_tup (pa_cons (pv 3) (pa_cons (pv 4) (pa_cons (pe_int) pa_nil)))) (pa_cons (pe_tup (pa_cons (pv 3) (pa_cons (pe_callTy call_tuple_of (by rfl) T.z_tuple (by decide +kernel) (pa_cons (pv 4) pa_nil)) pa_nil))) (pa_cons (pe_tup (pa_cons (pe_non) (pa_cons (pv 4) pa_nil))) (pa_cons (pe_call G_l_any hr (by rfl) T.g_l_any T.F_l_any.kp T.b_l_any .nil pass0 (pa_cons (pv 0) pa_nil)) pa_nil)))))))
      (pss_one (ps_ret (pe_ix (r := rIxT K) ix_tup (pv 5) (pe_call G_l_take hr (by rfl) T.g_l_take T.F_l_take.kp T.b_l_take .nil pass0 (pa_cons (pv 0) (pa_cons (pe_int) pa_nil))) (fun _ _ => rfl)))))
      pss_nil)
    (Evl.pss_cut (ps_if (pt_cmpR (r := rIn K false) op_in_seq (pv 2) (pe_tup (pa_cons (pe_int) (pa_cons (pe_int) (pa_cons (pe_int) pa_nil)))) (by rfl))
      (pss_one (ps_set (i := 3) sc_l_bent.nd rfl (.inl rfl) (pe_call G_l_bent_payments hr (by rfl) T.g_l_bent_payments T.F_l_bent_payments.kp T.b_l_bent_payments .nil pass0 (pa_cons (pv 0) (pa_cons (pv 3) pa_nil)))))
      pss_nil)
    (Evl.pss_cut (ps_if (pt_cmpR (r := rIn K false) op_in_seq (pv 2) (pe_tup (pa_cons (pe_int) (pa_cons (pe_int) (pa_cons (pe_int) pa_nil)))) (by rfl))
      (pss_one (ps_set (i := 4) sc_l_bent.nd rfl (.inl rfl) (pe_call G_l_bent_table hr (by rfl) T.g_l_bent_table T.F_l_bent_table.kp T.b_l_bent_table .nil pass0 (pa_cons (pv 0) (pa_cons (pv 4) pa_nil)))))
      pss_nil)
    (pss_one (ps_ret (pe_tup (pa_cons (pv 3) (pa_cons (pv 4) pa_nil))))))))))
      , ?_⟩
    obtain ⟨u, F, t, ts, rfl, nup, nFp, ntp, eu, eF, et, hts⟩ := dt_thN hd
    refine ⟨.ref p, rfl, p, 8, rfl, b, by decide, by decide, fun H1 way k1 b1 w0 w1 => ?_⟩
    have eu1 := k1 _ _ nup eu
    have eF1 := k1 _ _ nFp eF
    have et1 := k1 _ _ ntp et
    have hts1 : Paired (PayN p H1) ts tp := paired_imp hts fun a _ r h => ⟨h.1, k1 _ _ h.1 h.2⟩
    refine ⟨.ref u, rfl, u, _, (0 : Int), .ref F, rfl, rfl, SqT.of eu1, rfl, F, _, rfl, .inl (SqL.of eF1), fun C nC => ?_⟩
    have sC := same_upd (o := .lst (ts.map V.ref)) nC
    have nCp := b1.ne nC
    have eC : (upd H1 C (.lst (ts.map V.ref))) C = _ := upd_same
    generalize upd H1 C (.lst (ts.map V.ref)) = H2 at sC eC ⊢
    refine ⟨.ref u, rfl, u, _, (1 : Int), .ref t, rfl, rfl, SqT.of (sC _ _ eu1), rfl, t, _, rfl, .inl (SqL.of (sC _ _ et1)), fun D nD => ?_⟩
    have sD := same_upd (o := .lst (tab.map V.int)) nD
    have nDp := (b1.keep sC).ne nD
    have eC := sD _ _ eC
    have eD : (upd H2 D (.lst (tab.map V.int))) D = _ := upd_same
    have s13 := sC.trans sD
    generalize upd H2 D (.lst (tab.map V.int)) = H3 at s13 eC eD ⊢
    have b3 := b1.keep s13
    have k3 := k1.trans (.of s13)
    have hts3 : Paired (PayN p H3) ts tp := paired_imp hts1 fun a _ r h => ⟨h.1, s13 _ _ h.2⟩
    have tl := paired_len hts
    have dC := dtAll_payS hts3
    have l1 : (ts.map V.ref).length ≤ 5000 := by rw [List.length_map]; omega
    have l2 : (tab.map V.int).length ≤ 5000 := by rw [List.length_map]; omega
    clear hts hts1 eu eF et eu1 eF1 et1 hd
    refine ⟨_, _, rfl, ?_⟩
    refine ⟨_, rfl, rfl, _, rfl, ?_⟩
    by_cases c0 : way = 0
    · rw [decide_eq_true (by rw [c0] : V.int way = V.int 0)]
      refine iteT ?_
      refine ⟨_, rfl, _, rfl, two_sz, fun A1 n1 => ?_⟩
      have s4 := same_upd (o := .lst [V.ref C, .ref D]) n1
      have m1 := b3.ne n1
      have e1 : (upd H3 A1 (.lst [V.ref C, .ref D])) A1 = _ := upd_same
      have dC := dC.keepN (.of s4)
      have eC := s4 _ _ eC
      have eD := s4 _ _ eD
      have b4 := b3.keep s4
      have k4 := k3.trans (.of s4)
      generalize upd H3 A1 (.lst [V.ref C, .ref D]) = H4 at dC eC eD e1 b4 k4 ⊢
      refine ⟨_, rfl, _, rfl, by show 3 ≤ sizeLine; decide, fun A2 n2 => ?_⟩
      have s5 := same_upd (o := .tup [V.ref C, .ref D, .int 0]) n2
      have m2 := b4.ne n2
      have e2 : (upd H4 A2 (.tup [V.ref C, .ref D, .int 0])) A2 = _ := upd_same
      have dC := dC.keepN (.of s5)
      have eC := s5 _ _ eC
      have eD := s5 _ _ eD
      have e1 := s5 _ _ e1
      have b5 := b4.keep s5
      have k5 := k4.trans (.of s5)
      generalize upd H4 A2 (.tup [V.ref C, .ref D, .int 0]) = H5 at dC eC eD e1 e2 b5 k5 ⊢
      refine ⟨_, rfl, _, rfl, D, _, rfl, .inl ⟨SqL.of eD, fun B nB => ?_⟩⟩
      have s6 := same_upd (o := .tup (tab.map V.int)) nB
      have mB := b5.ne nB
      have eB : (upd H5 B (.tup (tab.map V.int))) B = _ := upd_same
      have dC := dC.keepN (.of s6)
      have eC := s6 _ _ eC
      have eD := s6 _ _ eD
      have e1 := s6 _ _ e1
      have e2 := s6 _ _ e2
      have b6 := b5.keep s6
      have k6 := k5.trans (.of s6)
      generalize upd H5 B (.tup (tab.map V.int)) = H6 at dC eC eD e1 e2 eB b6 k6 ⊢
      refine ⟨two_sz, fun A3 n3 => ?_⟩
      have s7 := same_upd (o := .tup [V.ref C, .ref B]) n3
      have m3 := b6.ne n3
      have e3 : (upd H6 A3 (.tup [V.ref C, .ref B])) A3 = _ := upd_same
      have dC := dC.keepN (.of s7)
      have eC := s7 _ _ eC
      have eD := s7 _ _ eD
      have e1 := s7 _ _ e1
      have e2 := s7 _ _ e2
      have eB := s7 _ _ eB
      have b7 := b6.keep s7
      have k7 := k6.trans (.of s7)
      generalize upd H6 A3 (.tup [V.ref C, .ref B]) = H7 at dC eC eD e1 e2 e3 eB b7 k7 ⊢
      refine ⟨_, rfl, two_sz, fun A4 n4 => ?_⟩
      have s8 := same_upd (o := .tup [V.non, .ref D]) n4
      have m4 := b7.ne n4
      have e4 : (upd H7 A4 (.tup [V.non, .ref D])) A4 = _ := upd_same
      have dC := dC.keepN (.of s8)
      have eC := s8 _ _ eC
      have eD := s8 _ _ eD
      have e1 := s8 _ _ e1
      have e2 := s8 _ _ e2
      have e3 := s8 _ _ e3
      have eB := s8 _ _ eB
      have b8 := b7.keep s8
      have k8 := k7.trans (.of s8)
      generalize upd H7 A4 (.tup [V.non, .ref D]) = H8 at dC eC eD e1 e2 e3 e4 eB b8 k8 ⊢
      refine ⟨.ref p, rfl, p, rfl, b8, fun H9 v d k9 b9 hd hm => ⟨by show 5 ≤ sizeLine; decide, fun Sx nS => ?_⟩⟩
      have s10 := same_upd (o := .tup [V.ref A1, .ref A2, .ref A3, .ref A4, v]) nS
      have mS := b9.ne nS
      have eS : (upd H9 Sx (.tup [V.ref A1, .ref A2, .ref A3, .ref A4, v])) Sx = _ := upd_same
      have k910 := k9.trans (.of s10)
      have b10 := b9.keep s10
      have hd : Dt (SN p) _ v d := Dt.keep (.of s10) (hd.mono (fun _ x => x.1) fun _ _ _ e => e)
      generalize upd H9 Sx (.tup [V.ref A1, .ref A2, .ref A3, .ref A4, v]) = H10 at eS k910 b10 hd ⊢
      refine ⟨.ref Sx, rfl, .ref p, rfl, p, 5, rfl, b10, by decide, by decide, fun H11 c k11 b11 c0 c1 => ?_⟩
      have kk := k910.trans k11
      have hd := hd.keep k11
      have eS := k11 _ _ mS eS
      have dC := dC.keepN kk
      have eC := kk _ _ nCp eC
      have eD := kk _ _ nDp eD
      have e1 := kk _ _ m1 e1
      have e2 := kk _ _ m2 e2
      have e3 := kk _ _ m3 e3
      have e4 := kk _ _ m4 e4
      have eB := kk _ _ mB eB
      have tC : Dt (SN p) H11 (.ref C) (.list (tp.map payD)) := .lst nCp eC l1 dC
      have tD : Dt (SN p) H11 (.ref D) (.list (tab.map PyData.int)) := .lst nDp eD l2 (dtAll_ints _)
      have tB : Dt (SN p) H11 (.ref B) (.tuple (tab.map PyData.int)) := .tup mB eB l2 (dtAll_ints _)
      have qC := depth_of_pair (niceP_of tp) (nice_ints tab)
      have g1 : Lo4 (.list (tp.map payD)) := ⟨lay_of_list (niceP_of tp), qC.1⟩
      have g2 : Lo4 (.list (tab.map PyData.int)) := ⟨lay_of_list (nice_ints tab), qC.2⟩
      have g3 : Lo4 (.tuple (tab.map PyData.int)) := ⟨lay_of_list (nice_ints tab), qC.2⟩
      obtain ⟨v', d', hv', hd', hn'⟩ : ∃ v' d', atI [V.ref A1, .ref A2, .ref A3, .ref A4, v] c = some v' ∧ Dt (SN p) H11 v' d' ∧ NiceA d' := by
        have : c = 0 ∨ c = 1 ∨ c = 2 ∨ c = 3 ∨ c = 4 := by omega
        rcases this with rfl | rfl | rfl | rfl | rfl
        · exact ⟨_, .list [.list (tp.map payD), .list (tab.map PyData.int)], atI_nat (j := 0) rfl, .lst m1 e1 (by show 2 ≤ 5000; decide) (.cons tC (.cons tD .nil)), niceA_lst (fun d hd => by
            simp only [List.mem_cons, List.not_mem_nil, or_false] at hd
            rcases hd with rfl | rfl <;> assumption)⟩
        · exact ⟨_, .tuple [.list (tp.map payD), .list (tab.map PyData.int), .int 0], atI_nat (j := 1) rfl, .tup m2 e2 (by show 3 ≤ 5000; decide) (.cons tC (.cons tD (.cons (.int _) .nil))), niceA_tup rfl (fun d hd => by
            simp only [List.mem_cons, List.not_mem_nil, or_false] at hd
            rcases hd with rfl | rfl | rfl <;> first | assumption | exact ⟨rfl, by show 0 ≤ 4; decide⟩)⟩
        · exact ⟨_, .tuple [.list (tp.map payD), .tuple (tab.map PyData.int)], atI_nat (j := 2) rfl, .tup m3 e3 (by show 2 ≤ 5000; decide) (.cons tC (.cons tB .nil)), niceA_tup rfl (fun d hd => by
            simp only [List.mem_cons, List.not_mem_nil, or_false] at hd
            rcases hd with rfl | rfl <;> assumption)⟩
        · exact ⟨_, .tuple [.none, .list (tab.map PyData.int)], atI_nat (j := 3) rfl, .tup m4 e4 (by show 2 ≤ 5000; decide) (.cons .non (.cons tD .nil)), niceA_tup rfl (fun d hd => by
            simp only [List.mem_cons, List.not_mem_nil, or_false] at hd
            rcases hd with rfl | rfl <;> first | assumption | exact ⟨rfl, by show 0 ≤ 4; decide⟩)⟩
        · exact ⟨v, d, atI_nat (j := 4) rfl, hd, niceA_any d hm⟩
      exact ⟨Sx, _, c, v', rfl, rfl, SqT.of eS, hv', q _ v' d' ((k8.trans k910).trans k11) b11 hd' hn'⟩
    rw [decide_eq_false (fun z => c0 (by injection z) : ¬ V.int way = V.int 0)]
    refine iteF ?_
    -- payments
    refine ⟨fun σ Hz => ∃ (C : Addr) (xs : List V) (ps : List PyData), σ = [some (.ref p), some (.ref u), some (.int way), some (.ref C), some (.ref D), none] ∧ Keep p H Hz ∧ Bag Hz p ∧ C ≠ p ∧ Hz C = some (.lst xs) ∧ DtAll (SN p) Hz xs ps ∧ ps.length ≤ 10 ∧ (∀ d ∈ ps, NiceP d) ∧ Hz D = some (.lst (tab.map V.int)), ?_, fun σ Hz mid => ?_⟩
    · refine ⟨_, rfl, by show 3 ≤ sizeLine; decide, fun Z nZ => ?_⟩
      have sZ := same_upd (o := .tup [V.int 1, .int 2, .int 3]) nZ
      refine ⟨Z, _, rfl, .inr (SqT.of upd_same), rfl, rfl, _, rfl, ite2 (fun _ => ?_) (fun _ => ?_)⟩
      · refine ⟨.ref p, rfl, .ref C, rfl, p, C, ts, tp, rfl, b3.keep sZ, nCp, sZ _ _ eC, paired_imp hts3 (fun a _ r h => ⟨h.1, sZ _ _ h.2⟩), tp8, fun H5 r xs ds k5 b5 nr er hx xl hn => ?_⟩
        exact ⟨r, xs, ds, rfl, (k3.trans (.of sZ)).trans k5, b5, nr, er, hx, xl, hn, k5 _ _ nDp (sZ _ _ eD)⟩
      · exact ⟨C, _, _, rfl, k3.trans (.of sZ), b3.keep sZ, nCp, sZ _ _ eC, dC.keepN (.of sZ), by rw [List.length_map]; omega, niceP_of tp, sZ _ _ eD⟩
    obtain ⟨C, xs, ps, rfl, kz, bz, nCp, eC, hC, pl, hn, eD⟩ := mid
    -- table
    refine ⟨fun σ Hz => ∃ (D : Addr) (ys : List V) (ds : List PyData), σ = [some (.ref p), some (.ref u), some (.int way), some (.ref C), some (.ref D), none] ∧ Keep p H Hz ∧ Bag Hz p ∧ D ≠ p ∧ Hz D = some (.lst ys) ∧ DtAll (SN p) Hz ys ds ∧ ds.length ≤ 300 ∧ (∀ d ∈ ds, NiceP d) ∧ Hz C = some (.lst xs) ∧ DtAll (SN p) Hz xs ps, ?_, fun σ Hw mid => ?_⟩
    · refine ⟨_, rfl, by show 3 ≤ sizeLine; decide, fun Z nZ => ?_⟩
      have sZ := same_upd (o := .tup [V.int 3, .int 4, .int 5]) nZ
      refine ⟨Z, _, rfl, .inr (SqT.of upd_same), rfl, rfl, _, rfl, ite2 (fun _ => ?_) (fun _ => ?_)⟩
      · refine ⟨.ref p, rfl, .ref D, rfl, p, D, tab, rfl, bz.keep sZ, nDp, sZ _ _ eD, t0, t256, fun H5 r ys ds k5 b5 nr er hx xl hn => ?_⟩
        exact ⟨r, ys, ds, rfl, (kz.trans (.of sZ)).trans k5, b5, nr, er, hx, xl, hn, k5 _ _ nCp (sZ _ _ eC), (hC.keepN (.of sZ)).keepN k5⟩
      · exact ⟨D, _, _, rfl, kz.trans (.of sZ), bz.keep sZ, nDp, sZ _ _ eD, dtAll_ints tab, by rw [List.length_map]; omega, nice_ints tab, sZ _ _ eC, hC.keepN (.of sZ)⟩
    obtain ⟨D, ys, ds, rfl, kw, bw, nDp, eD, hD, dl, hn2, eC, hC⟩ := mid
    have xl := dtAll_len hC
    have yl := dtAll_len hD
    refine ⟨_, rfl, _, rfl, two_sz, fun Z nZ => ?_⟩
    have sZ := same_upd (o := .tup [V.ref C, .ref D]) nZ
    exact q _ _ _ (kw.trans (.of sZ)) (bw.keep sZ) (.tup (bw.ne nZ) upd_same (by show 2 ≤ 5000; decide) (.cons (.lst nCp (sZ _ _ eC) (by omega) (hC.keepN (.of sZ))) (.cons (.lst nDp (sZ _ _ eD) (by omega) (hD.keepN (.of sZ))) .nil))) (niceA_pair hn hn2 pl dl)
end
end Th
namespace Th
open PySem PySem.Spec PyProof.Rows L2
/-! a thing copied, the law -/
open Py (bit sumsM zI TabTo TabOk wS pS MinZ SgM GrOk Pay payL negR posR nzP nzW FewOk FwM effL)
mutual
theorem Dt.extN {S : Addr → Prop} {H H' : Hp} (e : LamX.ExtN H H') : ∀ {v : V} {d : PyData}, Dt S H v d → Dt S H' v d
  | _, _, .non => .non
  | _, _, .bl b => .bl b
  | _, _, .int b => .int b
  | _, _, .str b => .str b
  | _, _, .lst s h l r => .lst s (ExtN.lst e h) l (DtAll.extN e r)
  | _, _, .tup s h l r => .tup s (ExtN.tup e h) l (DtAll.extN e r)
theorem DtAll.extN {S : Addr → Prop} {H H' : Hp} (e : LamX.ExtN H H') : ∀ {v : List V} {d : List PyData}, DtAll S H v d → DtAll S H' v d
  | _, _, .nil => .nil
  | _, _, .cons a r => .cons (Dt.extN e a) (DtAll.extN e r)
end
theorem dtAll_snoc {S : Addr → Prop} {H : Hp} {xs : List V} {ds : List PyData} {v : V} {d : PyData} (h : DtAll S H xs ds) (r : Dt S H v d) : DtAll S H (xs ++ [v]) (ds ++ [d]) := dtAll_app h (.cons r .nil)
section
variable {P : Program} {w : World} {K : PySem.W.Frag} {mg : Str → Option Value} {base : Heap}
abbrev SNew (H : Hp) : Addr → Prop := fun a => H a = none
def sp_l_copied (n : Nat) : Sp := fun vs H Q _ => ∃ (v : V) (d : PyData), vs = [v] ∧ Dt SA H v d ∧ d.depth ≤ n ∧ ∀ H' v', Same H H' → Dt (SNew H) H' v' d → Q v' H'
set_option maxHeartbeats 8000000 in
theorem copied_step (T : Defs K mg) (n m : Nat) (spI : Sp) (G_l_copied : FnOk P w K mg base CX0 n T.a_l_copied T.d_l_copied ["_law_thing"] spI)
    (hI : ∀ v d H Q E, Dt SA H v d → d.depth < m → (∀ H' v', Same H H' → Dt (SNew H) H' v' d → Q v' H') → spI [v] H Q E) : FnOk P w K mg base CX0 (n + 1) T.a_l_copied T.d_l_copied ["_law_thing"] (sp_l_copied m) := by
  refine T.F_l_copied.ok sc_l_copied (fun vs H Q E h => ?_) (fun cdv A outer s H vs Q E hr h => ?_)
  · obtain ⟨v, d, rfl, _⟩ := h
    rfl
  · obtain ⟨v, d, rfl, hd, dm, q⟩ := h
    have hd0 := hd
    cases hd with
    | @tup a xs ds _ ea len hx =>
      refine ⟨_, PSs.nox
(pss_cons (ps_if (pt_val (pe_callB call_isiT (by rfl) T.z_isinstance (by decide +kernel) (pa_cons (pv 0) (pa_cons (pe_tup (pa_cons (pe_bltn (v := .ty "list") (by rfl) T.z_list (by decide +kernel) rfl) (pa_cons (pe_bltn (v := .ty "tuple") (by rfl) T.z_tuple (by decide +kernel) rfl) pa_nil))) pa_nil))))
      (pss_cons (ps_setLc (i := 1) (own := [("_law_one", 2)]) (g := gName 2) rfl sc_l_copied.nd rfl rfl (sw_true rfl rfl rfl (by decide +kernel)) (pi_tup (pv 0)) (blkOk_by (N := N_l_copied) (sc := defScope s_l_copied) (by decide +kernel)) (fun _ _ _ _ _ => (pg_name (i := 2) sc_l_copied.nd rfl (.inl rfl))) (fun _ _ _ _ _ => pts_nil) (fun _ _ _ _ _ => (pe_call G_l_copied hr (by rfl) T.g_l_copied T.F_l_copied.kp T.b_l_copied .nil pass0 (pa_cons (pv 2) pa_nil))))
      (pss_one (ps_ret (pe_ifExp (pt_val (pe_callB (r := rIsi K) call_isi (by rfl) T.z_isinstance (by decide +kernel) (pa_cons (pv 0) (pa_cons (pe_bltn (v := .ty "list") (by rfl) T.z_list (by decide +kernel) rfl) pa_nil)))) (pv 1) (pe_callTy call_tuple_of (by rfl) T.z_tuple (by decide +kernel) (pa_cons (pv 1) pa_nil))))))
      pss_nil)
    (pss_one (ps_ret (pv 0))))
        , ?_⟩
      have xl := dtAll_len hx
      have dm : PyData.depthAll ds + 1 ≤ m := dm
      refine ⟨.ref a, rfl, two_sz, fun t nt => ⟨.ref a, t, [.ty "list", .ty "tuple"], _, _, _, rfl, upd_same, .cons (.ty _) (.cons (.ty _) .nil), (hd0.same (same_upd nt)).ty, kit_seq hd0, _, rfl, iteT ?_⟩⟩
      have s1 := same_upd (o := .tup [V.ty "list", .ty "tuple"]) nt
      generalize upd H t (.tup [V.ty "list", .ty "tuple"]) = H1 at s1 ⊢
      have ea1 := s1 _ _ ea
      refine ⟨.ref a, rfl, a, rfl, ⟨_, SqT.of ea1⟩, fun D nD => ?_⟩
      refine lc_it (walk_tup (xs := xs)) (fun j Hy => ∃ ys : List V, Same H1 Hy ∧ Hy D = some (.lst ys) ∧ DtAll (fun b => H b = none ∧ b ≠ D) Hy ys (ds.take j)) ⟨[], same_upd nD, upd_same, .nil⟩ (fun j Hy _ pv => by obtain ⟨_, sy, _⟩ := pv; exact SqT.of (sy _ _ ea1)) (fun j v Hy₀ Hy hj pv yy => ?_) (fun H2 pv => ?_)
      · obtain ⟨rfl, ey⟩ := yy
        obtain ⟨ys, sy, eD, hys⟩ := pv
        obtain ⟨d', ed', hd'⟩ := dtAll_get hx ey
        have yl := dtAll_len hys
        rw [List.length_take] at yl
        refine ⟨rfl, yes_ ⟨v, rfl, hI _ _ _ _ _ (hd'.same (s1.trans sy)) (by have := depth_mem ed'; omega) fun H3 v' s3 hv' => ?_⟩⟩
        refine ⟨_, s3 _ _ eD, small5000 (by omega), ys ++ [v'], same_set (sy.trans s3) nD, upd_same, ?_⟩
        rw [List.take_add_one, ed']
        have old : DtAll (fun b => H b = none ∧ b ≠ D) H3 ys (ds.take j) := hys.mono (fun _ x => x) fun b o _ e => s3 b o e
        have new : Dt (fun b => H b = none ∧ b ≠ D) H3 v' d' := hv'.mono (fun b hb => ⟨up0 (s1.trans sy) hb, fun z => by rw [z] at hb; rw [SNew, eD] at hb; cases hb⟩) fun _ _ _ e => e
        exact (dtAll_snoc old new).mono (fun _ x => x) fun b o hb e => by rw [upd_ne hb.2]; exact e
      obtain ⟨ys, s2, eD, hys⟩ := pv
      rw [xl, List.take_length] at hys
      have yl := dtAll_len hys
      have s12 := s1.trans s2
      refine ⟨.ref a, rfl, .ref a, .ty "list", _, _, _, rfl, .ty "list", .base (.tup (s12 _ _ ea)), kit_ty (a := "tuple") (b := "list") (r := false) (by decide +kernel), _, rfl, iteF ⟨.ref D, rfl, D, _, rfl, .inl ⟨SqL.of eD, fun l nl => ?_⟩⟩⟩
      refine q _ _ (s12.trans (same_upd nl)) (.tup (up0 s12 nl) upd_same (by omega) (hys.mono (fun _ x => x.1) fun b o hb e => same_upd nl b o e))
    | @lst a xs ds _ ea len hx =>
      refine ⟨_, PSs.nox
(pss_cons (ps_if (pt_val (pe_callB call_isiT (by rfl) T.z_isinstance (by decide +kernel) (pa_cons (pv 0) (pa_cons (pe_tup (pa_cons (pe_bltn (v := .ty "list") (by rfl) T.z_list (by decide +kernel) rfl) (pa_cons (pe_bltn (v := .ty "tuple") (by rfl) T.z_tuple (by decide +kernel) rfl) pa_nil))) pa_nil))))
      (pss_cons (ps_setLc (i := 1) (own := [("_law_one", 2)]) (g := gName 2) rfl sc_l_copied.nd rfl rfl (sw_true rfl rfl rfl (by decide +kernel)) (pi_list (pv 0)) (blkOk_by (N := N_l_copied) (sc := defScope s_l_copied) (by decide +kernel)) (fun _ _ _ _ _ => (pg_name (i := 2) sc_l_copied.nd rfl (.inl rfl))) (fun _ _ _ _ _ => pts_nil) (fun _ _ _ _ _ => (pe_call G_l_copied hr (by rfl) T.g_l_copied T.F_l_copied.kp T.b_l_copied .nil pass0 (pa_cons (pv 2) pa_nil))))
      (pss_one (ps_ret (pe_ifExp (pt_val (pe_callB (r := rIsi K) call_isi (by rfl) T.z_isinstance (by decide +kernel) (pa_cons (pv 0) (pa_cons (pe_bltn (v := .ty "list") (by rfl) T.z_list (by decide +kernel) rfl) pa_nil)))) (pv 1) (pe_callTy call_tuple_of (by rfl) T.z_tuple (by decide +kernel) (pa_cons (pv 1) pa_nil))))))
      pss_nil)
    (pss_one (ps_ret (pv 0))))
        , ?_⟩
      have xl := dtAll_len hx
      have dm : PyData.depthAll ds + 1 ≤ m := dm
      refine ⟨.ref a, rfl, two_sz, fun t nt => ⟨.ref a, t, [.ty "list", .ty "tuple"], _, _, _, rfl, upd_same, .cons (.ty _) (.cons (.ty _) .nil), (hd0.same (same_upd nt)).ty, kit_seq hd0, _, rfl, iteT ?_⟩⟩
      have s1 := same_upd (o := .tup [V.ty "list", .ty "tuple"]) nt
      generalize upd H t (.tup [V.ty "list", .ty "tuple"]) = H1 at s1 ⊢
      have ea1 := s1 _ _ ea
      refine ⟨.ref a, rfl, a, rfl, ⟨_, SqL.of ea1⟩, fun D nD => ?_⟩
      refine lc_it (walk_list (xs := xs)) (fun j Hy => ∃ ys : List V, Same H1 Hy ∧ Hy D = some (.lst ys) ∧ DtAll (fun b => H b = none ∧ b ≠ D) Hy ys (ds.take j)) ⟨[], same_upd nD, upd_same, .nil⟩ (fun j Hy _ pv => by obtain ⟨_, sy, _⟩ := pv; exact SqL.of (sy _ _ ea1)) (fun j v Hy₀ Hy hj pv yy => ?_) (fun H2 pv => ?_)
      · obtain ⟨rfl, ey⟩ := yy
        obtain ⟨ys, sy, eD, hys⟩ := pv
        obtain ⟨d', ed', hd'⟩ := dtAll_get hx ey
        have yl := dtAll_len hys
        rw [List.length_take] at yl
        refine ⟨rfl, yes_ ⟨v, rfl, hI _ _ _ _ _ (hd'.same (s1.trans sy)) (by have := depth_mem ed'; omega) fun H3 v' s3 hv' => ?_⟩⟩
        refine ⟨_, s3 _ _ eD, small5000 (by omega), ys ++ [v'], same_set (sy.trans s3) nD, upd_same, ?_⟩
        rw [List.take_add_one, ed']
        have old : DtAll (fun b => H b = none ∧ b ≠ D) H3 ys (ds.take j) := hys.mono (fun _ x => x) fun b o _ e => s3 b o e
        have new : Dt (fun b => H b = none ∧ b ≠ D) H3 v' d' := hv'.mono (fun b hb => ⟨up0 (s1.trans sy) hb, fun z => by rw [z] at hb; rw [SNew, eD] at hb; cases hb⟩) fun _ _ _ e => e
        exact (dtAll_snoc old new).mono (fun _ x => x) fun b o hb e => by rw [upd_ne hb.2]; exact e
      obtain ⟨ys, s2, eD, hys⟩ := pv
      rw [xl, List.take_length] at hys
      have yl := dtAll_len hys
      have s12 := s1.trans s2
      refine ⟨.ref a, rfl, .ref a, .ty "list", _, _, _, rfl, .ty "list", .base (.lst (s12 _ _ ea)), kit_ty (a := "list") (b := "list") (r := true) (by decide +kernel), _, rfl, iteT ⟨.ref D, rfl, ?_⟩⟩
      exact q _ _ s12 (.lst (up0 s1 nD) eD (by omega) (hys.mono (fun _ x => x.1) fun _ _ _ e => e))
    | _ =>
      refine ⟨_, PSs.nox
(pss_cons (ps_if (pt_val (pe_callB call_isiT (by rfl) T.z_isinstance (by decide +kernel) (pa_cons (pv 0) (pa_cons (pe_tup (pa_cons (pe_bltn (v := .ty "list") (by rfl) T.z_list (by decide +kernel) rfl) (pa_cons (pe_bltn (v := .ty "tuple") (by rfl) T.z_tuple (by decide +kernel) rfl) pa_nil))) pa_nil))))
      (pss_cons (ps_setLc (i := 1) (own := [("_law_one", 2)]) (g := gName 2) rfl sc_l_copied.nd rfl rfl (sw_true rfl rfl rfl (by decide +kernel)) (pi_list (pv 0)) (blkOk_by (N := N_l_copied) (sc := defScope s_l_copied) (by decide +kernel)) (fun _ _ _ _ _ => (pg_name (i := 2) sc_l_copied.nd rfl (.inl rfl))) (fun _ _ _ _ _ => pts_nil) (fun _ _ _ _ _ => (pe_call G_l_copied hr (by rfl) T.g_l_copied T.F_l_copied.kp T.b_l_copied .nil pass0 (pa_cons (pv 2) pa_nil))))
      (pss_one (ps_ret (pe_ifExp (pt_val (pe_callB (r := rIsi K) call_isi (by rfl) T.z_isinstance (by decide +kernel) (pa_cons (pv 0) (pa_cons (pe_bltn (v := .ty "list") (by rfl) T.z_list (by decide +kernel) rfl) pa_nil)))) (pv 1) (pe_callTy call_tuple_of (by rfl) T.z_tuple (by decide +kernel) (pa_cons (pv 1) pa_nil))))))
      pss_nil)
    (pss_one (ps_ret (pv 0))))
        , ?_⟩
      refine ⟨_, rfl, two_sz, fun t nt => ⟨_, t, [.ty "list", .ty "tuple"], _, _, _, rfl, upd_same, .cons (.ty _) (.cons (.ty _) .nil), (hd0.same (same_upd nt)).ty, kit_seq hd0, _, rfl, iteF ⟨_, rfl, ?_⟩⟩⟩
      refine q _ _ (same_upd nt) ?_
      first | exact .non | exact .bl _ | exact .int _ | exact .str _
theorem ok_l_copied (T : Defs K mg) : ∀ n : Nat, FnOk P w K mg base CX0 (n + 1) T.a_l_copied T.d_l_copied ["_law_thing"] (sp_l_copied n)
  | 0 => copied_step T 0 0 (fun _ _ _ _ => False) ⟨fun _ _ _ _ h => h.elim, fun _ _ _ _ _ _ _ _ _ _ _ _ _ h => h.elim⟩ (fun _ _ _ _ _ _ h => absurd h (Nat.not_lt_zero _))
  | n + 1 => copied_step T (n + 1) (n + 1) (sp_l_copied n) (ok_l_copied T n) fun v d H Q E hd dd h => ⟨v, d, rfl, hd, by omega, h⟩
end
section
variable {w : World} {K : PySem.W.Frag} {mg : Str → Option Value} {base : Heap}
def sp_law (T : Defs K mg) : Sp := fun vs H Q _ => ∃ (a : Addr) (ns : List Int), vs = [.ref a] ∧ SqL K H a (ns.map V.int) ∧ ns.length ≤ 63 ∧ TabG T H ∧ ∀ H', Q (.bl true) H'
set_option maxHeartbeats 64000000 in
theorem ok_law {f : Addr} {fd : FuncData} (F : FnP K "law" s_law f fd) (T : Defs K mg) (TB : LamX.TabB base mg T.cc_settled_groups T.tp_settled_groups) : FnOk PP w K mg base CX0 7 f fd ["_law_script"] (sp_law T) := by
  have G_l_bag : FnOk PP w K mg base CX0 6 _ _ _ _ := ok_l_bag T
  have G_l_take : FnOk PP w K mg base CX0 6 _ _ _ _ := ok_l_take T
  have G_l_accounts : FnOk PP w K mg base CX0 6 _ _ _ _ := ok_l_accounts (k := 4) T
  have G_l_own : FnOk PP w K mg base CX0 6 _ _ _ _ := ok_l_own (k := 4) T
  have G_l_bent : FnOk PP w K mg base CX0 6 _ _ _ _ := ok_l_bent (k := 2) T
  have G_fewest : FnOk PP w K mg base CX0 6 _ _ _ _ := (ok_fewest T TB).mono (by decide)
  have G_l_told : FnOk PP w K mg base CX0 6 _ _ _ _ := ok_l_told (k := 1) T
  have G_l_where : FnOk PP w K mg base CX0 6 _ _ _ _ := ok_l_where (k := 3) T
  have G_l_copied : FnOk PP w K mg base CX0 6 _ _ _ _ := ok_l_copied T 5
  refine F.ok sc_law (fun vs H Q E h => ?_) (fun cdv A outer s H vs Q E hr h => ?_)
  · obtain ⟨a, ns, rfl, _⟩ := h
    rfl
  · obtain ⟨a, ns, rfl, hS, hlen, hT, q⟩ := h
    refine ⟨_, PSs.nox
(pss_cons (ps_for PassesOwn.never rfl (pi_range1 (by rfl) T.z_range (pa_cons (pe_callB (call_max2 rfl) (by rfl) T.z_max (by decide +kernel) (pa_cons (pe_int) (pa_cons (pe_callB (call_min2 rfl) (by rfl) T.z_min (by decide +kernel) (pa_cons (pe_int) (pa_cons (pe_callB (r := rLenS K) call_lenS (by rfl) T.z_len (by decide +kernel) (pa_cons (pv 0) pa_nil)) pa_nil))) pa_nil))) pa_nil)) (pg_name (i := 1) sc_law.nd rfl (.inl rfl))
      (pss_cons (ps_set (i := 2) sc_law.nd rfl (.inl rfl) (pe_call G_l_bag hr (by rfl) T.g_l_bag T.F_l_bag.kp T.b_l_bag .nil pass0 (pa_cons (pv 0) (pa_cons (pv 1) pa_nil))))
      (pss_cons (ps_set (i := 3) sc_law.nd rfl (.inl rfl) (pe_call G_l_accounts hr (by rfl) T.g_l_accounts T.F_l_accounts.kp T.b_l_accounts .nil pass0 (pa_cons (pv 2) (pa_cons (pe_int) pa_nil))))
      (pss_cons (ps_set (i := 4) sc_law.nd rfl (.inl rfl) (pe_call G_l_own hr (by rfl) T.g_l_own T.F_l_own.kp T.b_l_own .nil pass0 (pa_cons (pv 2) (pa_cons (pv 3) pa_nil))))
      (pss_cons (ps_set (i := 5) sc_law.nd rfl (.inl rfl) (pe_call G_fewest (hr.mono (by decide)) (by rfl) T.g_fewest T.F_fewest.kp T.b_fewest .nil pass0 (pa_cons (pe_callTy call_list_of (by rfl) T.z_list (by decide +kernel) (pa_cons (pv 3) pa_nil)) pa_nil)))
      (pss_one (ps_for PassesOwn.never rfl (pi_list (pe_lst (pa_cons (pv 5) (pa_cons (pv 4) (pa_cons (pe_tup (pa_cons (pe_ix (r := rIxT K) ix_tup (pv 5) (pe_int) (fun _ _ => rfl)) (pa_cons (pe_ix (r := rIxT K) ix_tup (pv 4) (pe_int) (fun _ _ => rfl)) pa_nil))) (pa_cons (pe_call G_l_bent hr (by rfl) T.g_l_bent T.F_l_bent.kp T.b_l_bent .nil pass0 (pa_cons (pv 2) (pa_cons (pe_ix (r := rIxL K) ix_list (pe_lst (pa_cons (pv 5) (pa_cons (pv 4) pa_nil))) (pe_call G_l_take hr (by rfl) T.g_l_take T.F_l_take.kp T.b_l_take .nil pass0 (pa_cons (pv 2) (pa_cons (pe_int) pa_nil))) (fun _ _ => rfl)) pa_nil))) pa_nil)))))) (pg_name (i := 6) sc_law.nd rfl (.inl rfl))
        (pss_cons (ps_par (i := 7) (j := 8) (by rfl) sc_law.nd rfl rfl (by decide) rfl rfl (pa_cons (pe_call G_l_copied hr (by rfl) T.g_l_copied T.F_l_copied.kp T.b_l_copied .nil pass0 (pa_cons (pv 6) pa_nil)) (pa_cons (pe_callTy call_list_of (by rfl) T.z_list (by decide +kernel) (pa_cons (pv 3) pa_nil)) pa_nil)) (by rfl))
        (pss_cons (ps_set (i := 9) sc_law.nd rfl (.inl rfl) (pe_call G_l_where hr (by rfl) T.g_l_where T.F_l_where.kp T.b_l_where .nil pass0 (pa_cons (pv 3) (pa_cons (pv 6) pa_nil))))
        (pss_one (ps_if (PW.pt (pw_or (pt_cmpR op_ne (pe_call G_l_told hr (by rfl) T.g_l_told T.F_l_told.kp T.b_l_told .nil pass0 (pa_cons (pv 8) (pa_cons (pv 7) pa_nil))) (pv 9) (nomark _)) (pw_or (pt_cmpR (r := rNeD K) (op_neD hr.units) (pv 7) (pv 6) (nomark _)) (pw_or1 (pt_cmpR (r := rNeD K) (op_neD hr.units) (pv 8) (pv 3) (nomark _))))))
          (pss_one (ps_ret (pe_bl)))
          pss_nil)))))))))))
    (pss_one (ps_ret (pe_bl))))
      , ?_⟩
    have lenV : (ns.map V.int).length = ns.length := List.length_map _
    refine ⟨.ref a, rfl, a, _, rfl, .inl hS, 16, _, rfl, 5, _, rfl, _, rfl, ?_, ?_, ?_⟩
    · rw [lenV]
      split <;> split <;> omega
    · rw [lenV]
      split <;> split <;> omega
    obtain ⟨n, en, hn⟩ : ∃ n : Nat, (if (if ((ns.map V.int).length : Int) < 16 then ((ns.map V.int).length : Int) else 16) > 5 then (if ((ns.map V.int).length : Int) < 16 then ((ns.map V.int).length : Int) else 16) else 5) = (n : Int) ∧ n ≤ 16 := by
      rw [lenV]
      refine ⟨(if (if (ns.length : Int) < 16 then (ns.length : Int) else 16) > 5 then (if (ns.length : Int) < 16 then (ns.length : Int) else 16) else 5).toNat, ?_, ?_⟩
      · split <;> split <;> omega
      · split <;> split <;> omega
    rw [en, Int.toNat_natCast]
    refine for_range (lo := 0) (n := n) (fun i σ H3 => ∃ ys : List (Option V), ys.length = 9 ∧ σ = some (.ref a) :: ys ∧ LamX.ExtN H H3 ∧ TabG T H3)
      ⟨[none, none, none, none, none, none, none, none, none], rfl, rfl, .refl H, hT⟩ (fun i σ H3 hi hp => ?_) (fun σ H3 hp => ?_)
    · obtain ⟨ys, hys, rfl, e03, hT3⟩ := hp
      match ys, hys with
      | [y1, y2, y3, y4, y5, y6, y7, y8, y9], _ =>
      have hS3 : SqL K H3 a (ns.map V.int) := ExtN.seq e03 hS
      refine ⟨.ref a, rfl, .int (0 + (i : Int)), rfl, a, ns, i, by rw [Int.zero_add]; rfl, hS3, by omega, fun H4 p s4 np b4 => ?_⟩
      refine ⟨.ref p, rfl, p, 8, rfl, b4, by decide, by decide, fun H5 l acc k5 b5 nl el hac al => ?_⟩
      have nlp : l ≠ p := b4.ne nl
      refine ⟨.ref p, rfl, .ref l, rfl, p, l, acc, rfl, b5, nlp, el, al, fun H6 o tp2 tab2 k6 b6 ho tpl2 tabl2 tab02 => ?_⟩
      have e6 : LamX.ExtN H H6 := e03.trans (ext_keep (.of s4) (k5.trans k6) np)
      have t6 : TabG T H6 := tab_keep (hT3.ext s4) (k5.trans k6) b4
      have el6 := k6 _ _ nlp el
      -- the told ones
      refine ⟨.ref l, rfl, l, _, rfl, .inl (SqL.of el6), fun h nh => ?_⟩
      have sh := same_upd (o := .lst (acc.map V.int)) nh
      refine ⟨h, acc, rfl, SqL.of upd_same, hac.1.2.1, al, t6.ext sh, fun H7 u Fa t ts tp tab e7 t7 nF nt Ft eu eF hts et htab hfew tpl => ?_⟩
      have e67 : LamX.ExtN H6 H7 := (LamX.ExtN.of sh).trans e7
      have el7 := ExtN.lst e67 el6
      have ho7 := ho.extN e67
      have tabl : tab.length ≤ 256 := by
        rw [htab.len]
        have z1 := Py.nzW_len acc
        have z2 := Py.nzP_len acc
        exact pow8 (by omega)
      have tab0 : 0 < tab.length := by rw [htab.len]; exact Nat.pow_pos (by decide)
      have b7 : Bag H7 p := by
        obtain ⟨g, r, eb, hb⟩ := b6
        exact ⟨g, r, ExtN.lst e67 eb, hb⟩
      obtain ⟨gb, rb, eb, _⟩ := b7
      have nup : u ≠ p := fun z => by rw [z, eb] at eu; cases eu
      have nFp : Fa ≠ p := fun z => by
        rw [z, eb] at eF
        have z := HO.lst.inj (Option.some.inj eF)
        cases ts with
        | nil => cases z
        | cons x r => cases z
      have eb6 : ∃ xs, (upd H6 h (.lst (acc.map V.int))) p = some (.lst xs) := by
        obtain ⟨g, r, e, _⟩ := b6
        exact ⟨_, sh _ _ e⟩
      have ntp : t ≠ p := by
        obtain ⟨xs, e⟩ := eb6
        exact fun z => nt.lst e z.symm
      have hu7 : Dt (SN p) H7 (.ref u) (thD tp tab) := .tup nup eu (by show 2 ≤ 5000; decide) (.cons (.lst nFp eF (by rw [List.length_map, paired_len hts]; omega) (dtAll_payS (paired_imp hts fun b _ r e => ⟨fun z => (by rw [z] at e; rw [PayA, eb] at e; cases e), e⟩))) (.cons (.lst ntp et (by rw [List.length_map]; omega) (dtAll_ints _)) .nil))
      have b7 : Bag H7 p := by
        obtain ⟨g, r, e, hb⟩ := b6
        exact ⟨g, r, ExtN.lst e67 e, hb⟩
      obtain ⟨o', F2, t2, ts2, eo', nop, nF2p, nt2p, eo, eF2, et2, hts2⟩ := dt_thN ho7
      cases eo'
      clear hts nF nt Ft e7 eb6
      -- the four
      refine ⟨.ref u, rfl, .ref o, rfl, .ref u, rfl, u, _, (0 : Int), .ref Fa, rfl, rfl, SqT.of eu, rfl, .ref o, rfl, o, _, (1 : Int), .ref t2, rfl, rfl, SqT.of eo, rfl, two_sz, fun T3 n3 => ?_⟩
      have s8 := same_upd (o := .tup [V.ref Fa, .ref t2]) n3
      have nT3 := b7.ne n3
      have e3 : (upd H7 T3 (.tup [V.ref Fa, .ref t2])) T3 = _ := upd_same
      have hu8 := hu7.keep (.of s8)
      have ho8 := ho7.keep (.of s8)
      have b8 := b7.keep s8
      have dF8 : Dt (SN p) (upd H7 T3 (.tup [V.ref Fa, .ref t2])) (.ref Fa) (.list (tp.map payD)) := by
        cases hu8 with
        | @tup _ _ _ _ e' _ hx' =>
          rw [s8 _ _ eu] at e'
          cases e'
          cases hx' with
          | cons r _ => exact r
      have dt8 : Dt (SN p) (upd H7 T3 (.tup [V.ref Fa, .ref t2])) (.ref t2) (dI tab2) := .lst nt2p (s8 _ _ et2) (by rw [List.length_map]; omega) (dtAll_ints _)
      have h38 : Dt (SN p) (upd H7 T3 (.tup [V.ref Fa, .ref t2])) (.ref T3) (thD tp tab2) := .tup nT3 e3 (by show 2 ≤ 5000; decide) (.cons dF8 (.cons dt8 .nil))
      have el8 := s8 _ _ el7
      generalize upd H7 T3 (.tup [V.ref Fa, .ref t2]) = H8 at s8 hu8 ho8 b8 h38 el8 ⊢
      refine ⟨.ref p, rfl, .ref u, rfl, .ref o, rfl, two_sz, fun L2 nL2 => ?_⟩
      have s9 := same_upd (o := .lst [V.ref u, .ref o]) nL2
      have nL2p := b8.ne nL2
      have eL2 : (upd H8 L2 (.lst [V.ref u, .ref o])) L2 = _ := upd_same
      have b9 := b8.keep s9
      have s79 := s8.trans s9
      generalize upd H8 L2 (.lst [V.ref u, .ref o]) = H9 at s9 eL2 b9 s79 ⊢
      refine ⟨.ref p, rfl, p, 2, rfl, b9, by decide, by decide, fun H10 c k10 b10 c0 c1 => ?_⟩
      have hu10 := (hu8.keep (.of s9)).keep k10
      have ho10 := (ho8.keep (.of s9)).keep k10
      have h310 := (h38.keep (.of s9)).keep k10
      have el10 := k10 _ _ nlp (s9 _ _ el8)
      obtain ⟨v', tp', tab', hv', hd', l1', l2', l3'⟩ : ∃ v' tp' tab', atI [V.ref u, .ref o] c = some v' ∧ Dt (SN p) H10 v' (thD tp' tab') ∧ tp'.length ≤ 8 ∧ tab'.length ≤ 256 ∧ 0 < tab'.length := by
        have : c = 0 ∨ c = 1 := by omega
        rcases this with rfl | rfl
        · exact ⟨_, tp, tab, atI_nat (j := 0) rfl, hu10, tpl, tabl, tab0⟩
        · exact ⟨_, tp2, tab2, atI_nat (j := 1) rfl, ho10, tpl2, tabl2, tab02⟩
      refine ⟨L2, _, c, v', rfl, rfl, SqL.of (k10 _ _ nL2p eL2), hv', p, v', tp', tab', rfl, b10, hd', l1', l2', l3', fun H11 v4 d4 k11 b11 h4 hn4 => ?_⟩
      have hu11 := hu10.keep k11
      have ho11 := ho10.keep k11
      have h311 := h310.keep k11
      have el11 := k11 _ _ nlp el10
      refine ⟨by show 4 ≤ sizeLine; decide, fun L nL => ?_⟩
      have sL := same_upd (o := .lst [V.ref u, .ref o, .ref T3, v4]) nL
      have qL : (upd H11 L (.lst [V.ref u, .ref o, .ref T3, v4])) L = _ := upd_same
      have kL : Keep p H7 (upd H11 L (.lst [V.ref u, .ref o, .ref T3, v4])) := (Keep.of s79).trans ((k10.trans k11).trans (.of sL))
      have elL := sL _ _ el11
      have four : ∀ (j : Nat) (v : V), ([V.ref u, .ref o, .ref T3, v4] : List V)[j]? = some v → ∃ d, Dt SA (upd H11 L (.lst [V.ref u, .ref o, .ref T3, v4])) v d ∧ NiceA d := fun j v hv => by
        have up : ∀ {v : V} {d : PyData}, Dt (SN p) H11 v d → Dt SA (upd H11 L (.lst [V.ref u, .ref o, .ref T3, v4])) v d := fun h => h.mono (fun _ _ => trivial) fun a o' _ e => sL a o' e
        match j, hv with
        | 0, hv => cases hv; exact ⟨_, up hu11, niceA_th tpl tabl⟩
        | 1, hv => cases hv; exact ⟨_, up ho11, niceA_th tpl2 tabl2⟩
        | 2, hv => cases hv; exact ⟨_, up h311, niceA_th tpl tabl2⟩
        | 3, hv => cases hv; exact ⟨_, up h4, hn4⟩
      generalize upd H11 L (.lst [V.ref u, .ref o, .ref T3, v4]) = G5 at qL kL elL four ⊢
      have t8 : TabG T G5 := tab_keep t7 kL b7
      have e08 : LamX.ExtN H G5 := by
        have e07 : LamX.ExtN H H7 := e6.trans e67
        refine fun b o' hb nt => kL b o' (fun z => ?_) (e07 b o' hb nt)
        have h1 := e03 b o' hb nt
        have h2 := s4 _ _ h1
        rw [z] at h1
        rw [h1] at np
        cases np
      refine ⟨L, rfl, ⟨_, SqL.of qL⟩, ?_⟩
      refine for_it (walk_list (xs := [V.ref u, .ref o, .ref T3, v4])) (fun j σ Hx => ∃ (y6 y7 y8 y9 : Option V), σ = [some (.ref a), some (.int (0 + (i : Int))), some (.ref p), some (.ref l), some (.ref o), some (.ref u), y6, y7, y8, y9] ∧ Same G5 Hx)
        ⟨_, _, _, _, rfl, fun _ _ e => e⟩ (fun j σ Hx _ hp => ?_) (fun j v σ Hx₀ Hx hj hp yy => ?_) (fun σ Hx hp => ?_)
      · obtain ⟨_, _, _, _, _, sx⟩ := hp
        exact SqL.of (sx _ _ qL)
      · obtain ⟨rfl, ey⟩ := yy
        obtain ⟨y6, y7, y8, y9, rfl, sx⟩ := hp
        obtain ⟨d, hd, hn⟩ := four j v ey
        have hd := hd.same sx
        have elx := sx _ _ elL
        refine ⟨v, rfl, v, d, rfl, hd, hn.dep, fun J1 v' s1 hv' => ?_⟩
        have hv' : Dt SA J1 v' d := hv'.mono (fun _ _ => trivial) fun _ _ _ e => e
        refine ⟨.ref l, rfl, l, _, rfl, .inl (SqL.of (s1 _ _ elx)), fun g ng => ⟨_, _, rfl, ?_⟩⟩
        have s2 := same_upd (o := .lst (acc.map V.int)) ng
        have eg : (upd J1 g (.lst (acc.map V.int))) g = _ := upd_same
        have hv2 := hv'.same s2
        have hd2 := hd.same (s1.trans s2)
        have el2 := s2 _ _ (s1 _ _ elx)
        have sx2 := sx.trans (s1.trans s2)
        generalize upd J1 g (.lst (acc.map V.int)) = J2 at eg hv2 hd2 el2 sx2 ⊢
        refine ⟨.ref l, rfl, v, rfl, l, v, acc, d, rfl, el2, hd2, al, hn.nt, fun J3 f s3 hf => ?_⟩
        have eg := s3 _ _ eg
        have hv3 := hv2.same s3
        have hd3 := hd2.same s3
        have el3 := s3 _ _ el2
        refine ⟨.ref g, rfl, v', rfl, g, v', acc, d, rfl, eg, hv3, al, hn.nt.sm, fun J4 f2 s4 hf2 => ?_⟩
        cases faultA_eq hf hf2
        refine ⟨.str f, rfl, rfl, _, rfl, ?_⟩
        rw [decide_eq_true (rfl : V.str f = V.str f)]
        refine iteF ?_
        have hv4 := hv3.same s4
        have hd4 := hd3.same s4
        refine ⟨v', rfl, v, rfl, _, _, hv4.dp, hd4.dp, hn.shaped, hn.shaped, _, rfl, ?_⟩
        rw [SeqAt.eqv_refl _ hn.lay]
        refine iteF ?_
        refine ⟨.ref g, rfl, .ref l, rfl, _, _, (dt_ints (s4 _ _ eg) (by omega)).dp, (dt_ints (s4 _ _ el3) (by omega)).dp, shaped_ints _, shaped_ints _, _, rfl, ?_⟩
        rw [eqv_ints]
        refine iteF ?_
        exact ⟨_, _, _, _, rfl, sx2.trans (s3.trans s4)⟩
      · obtain ⟨y6, y7, y8, y9, rfl, sx⟩ := hp
        exact ⟨[_, _, _, _, _, _, _, _, _], rfl, rfl, e08.trans (.of sx), t8.ext sx⟩
    · exact q _
end
end Th
namespace Th
open PySem PySem.Spec PyProof.Rows L2
def dd_is_whole : He.DefD := ⟨("is_whole", none), "is_whole", "is_whole", defArgs s_is_whole, defBody s_is_whole, defScope s_is_whole, [], []⟩
def dd_is_whole_between : He.DefD := ⟨("is_whole_between", none), "is_whole_between", "is_whole_between", defArgs s_is_whole_between, defBody s_is_whole_between, defScope s_is_whole_between, [], []⟩
def dd_is_tuple : He.DefD := ⟨("is_tuple", none), "is_tuple", "is_tuple", defArgs s_is_tuple, defBody s_is_tuple, defScope s_is_tuple, [], []⟩
def dd_is_pair_of_lists : He.DefD := ⟨("is_pair_of_lists", none), "is_pair_of_lists", "is_pair_of_lists", defArgs s_is_pair_of_lists, defBody s_is_pair_of_lists, defScope s_is_pair_of_lists, [], []⟩
def dd_fewest : He.DefD := ⟨("fewest", none), "fewest", "fewest", defArgs s_fewest, defBody s_fewest, defScope s_fewest, [], []⟩
def dd_set_sums : He.DefD := ⟨("set_sums", none), "set_sums", "set_sums", defArgs s_set_sums, defBody s_set_sums, defScope s_set_sums, [], []⟩
def dd_sets_within : He.DefD := ⟨("sets_within", none), "sets_within", "sets_within", defArgs s_sets_within, defBody s_sets_within, defScope s_sets_within, [], []⟩
def dd_least_number : He.DefD := ⟨("least_number", none), "least_number", "least_number", defArgs s_least_number, defBody s_least_number, defScope s_least_number, [], []⟩
def dd_greatest_table : He.DefD := ⟨("greatest_table", none), "greatest_table", "greatest_table", defArgs s_greatest_table, defBody s_greatest_table, defScope s_greatest_table, [], []⟩
def dd_settled_groups : He.DefD := ⟨("settled_groups", none), "settled_groups", "settled_groups", defArgs s_settled_groups, defBody s_settled_groups, defScope s_settled_groups, [], []⟩
def dd_payments_among : He.DefD := ⟨("payments_among", none), "payments_among", "payments_among", defArgs s_payments_among, defBody s_payments_among, defScope s_payments_among, [], []⟩
def dd_look_payments : He.DefD := ⟨("look_payments", none), "look_payments", "look_payments", defArgs s_look_payments, defBody s_look_payments, defScope s_look_payments, [], []⟩
def dd_is_payment : He.DefD := ⟨("is_payment", none), "is_payment", "is_payment", defArgs s_is_payment, defBody s_is_payment, defScope s_is_payment, [], []⟩
def dd_settle : He.DefD := ⟨("settle", none), "settle", "settle", defArgs s_settle, defBody s_settle, defScope s_settle, [], []⟩
def dd_is_table : He.DefD := ⟨("is_table", none), "is_table", "is_table", defArgs s_is_table, defBody s_is_table, defScope s_is_table, [], []⟩
def dd_l_bag : He.DefD := ⟨("_law_bag", none), "_law_bag", "_law_bag", defArgs s_l_bag, defBody s_l_bag, defScope s_l_bag, [], []⟩
def dd_l_take : He.DefD := ⟨("_law_take", none), "_law_take", "_law_take", defArgs s_l_take, defBody s_l_take, defScope s_l_take, [], []⟩
def dd_l_accounts : He.DefD := ⟨("_law_accounts", none), "_law_accounts", "_law_accounts", defArgs s_l_accounts, defBody s_l_accounts, defScope s_l_accounts, [], []⟩
def dd_l_settles : He.DefD := ⟨("_law_settles", none), "_law_settles", "_law_settles", defArgs s_l_settles, defBody s_l_settles, defScope s_l_settles, [], []⟩
def dd_l_sums : He.DefD := ⟨("_law_sums", none), "_law_sums", "_law_sums", defArgs s_l_sums, defBody s_l_sums, defScope s_l_sums, [], []⟩
def dd_l_is_table : He.DefD := ⟨("_law_is_table", none), "_law_is_table", "_law_is_table", defArgs s_l_is_table, defBody s_l_is_table, defScope s_l_is_table, [], []⟩
def dd_l_told : He.DefD := ⟨("_law_told", none), "_law_told", "_law_told", defArgs s_l_told, defBody s_l_told, defScope s_l_told, [], []⟩
def dd_l_where : He.DefD := ⟨("_law_where", none), "_law_where", "_law_where", defArgs s_l_where, defBody s_l_where, defScope s_l_where, [], []⟩
def dd_l_any : He.DefD := ⟨("_law_any", none), "_law_any", "_law_any", defArgs s_l_any, defBody s_l_any, defScope s_l_any, [], []⟩
def dd_l_own : He.DefD := ⟨("_law_own", none), "_law_own", "_law_own", defArgs s_l_own, defBody s_l_own, defScope s_l_own, [], []⟩
def dd_l_bent_payments : He.DefD := ⟨("_law_bent_payments", none), "_law_bent_payments", "_law_bent_payments", defArgs s_l_bent_payments, defBody s_l_bent_payments, defScope s_l_bent_payments, [], []⟩
def dd_l_bent_table : He.DefD := ⟨("_law_bent_table", none), "_law_bent_table", "_law_bent_table", defArgs s_l_bent_table, defBody s_l_bent_table, defScope s_l_bent_table, [], []⟩
def dd_l_bent : He.DefD := ⟨("_law_bent", none), "_law_bent", "_law_bent", defArgs s_l_bent, defBody s_l_bent, defScope s_l_bent, [], []⟩
def dd_l_copied : He.DefD := ⟨("_law_copied", none), "_law_copied", "_law_copied", defArgs s_l_copied, defBody s_l_copied, defScope s_l_copied, [], []⟩
def dd_law : He.DefD := ⟨("law", none), "law", "law", defArgs s_law, defBody s_law, defScope s_law, [], []⟩
def fn : List He.DefD := [dd_is_whole, dd_is_whole_between, dd_is_tuple, dd_is_pair_of_lists, dd_fewest, dd_set_sums, dd_sets_within, dd_least_number, dd_greatest_table, dd_settled_groups, dd_payments_among, dd_look_payments, dd_is_payment, dd_settle, dd_is_table, dd_l_bag, dd_l_take, dd_l_accounts, dd_l_settles, dd_l_sums, dd_l_is_table, dd_l_told, dd_l_where, dd_l_any, dd_l_own, dd_l_bent_payments, dd_l_bent_table, dd_l_bent, dd_l_copied, dd_law]
def fa : List He.Fa := .glo "is_whole" :: .glo "is_whole_between" :: .glo "is_tuple" :: .glo "is_pair_of_lists" :: .glo "fewest" :: .glo "set_sums" :: .glo "sets_within" :: .glo "least_number" :: .glo "greatest_table" :: .glo "settled_groups" :: .glo "payments_among" :: .glo "look_payments" :: .glo "is_payment" :: .glo "settle" :: .glo "is_table" :: .glo "_law_bag" :: .glo "_law_take" :: .glo "_law_accounts" :: .glo "_law_settles" :: .glo "_law_sums" :: .glo "_law_is_table" :: .glo "_law_told" :: .glo "_law_where" :: .glo "_law_any" :: .glo "_law_own" :: .glo "_law_bent_payments" :: .glo "_law_bent_table" :: .glo "_law_bent" :: .glo "_law_copied" :: .glo "law" :: .free "ValueError" :: .free "abs" :: .free "all" :: .free "any" :: .free "bool" :: .free "enumerate" :: .free "int" :: .free "isinstance" :: .free "len" :: .free "list" :: .free "max" :: .free "min" :: .free "range" :: .free "sorted" :: .free "sum" :: .free "super" :: .free "tuple" :: .free "zip" :: .glo "HouseError" :: .glo "NoNet" :: .glo "NoWay" :: .glo "NoWagon" :: .glo "NoRules" :: .glo "NoPaper" :: .glo "NoProof" :: .glo "NotYet" :: .glo "TooMany" :: .glo "TooLate" :: .glo "NoLine" :: .glo "Stopped" :: .glo "NoMonth" :: .glo "NoBill" :: .glo "NoText" :: .glo "NoSaying" :: []
def ed_NoProof : HookS.ErD := ⟨"NoProof", "NoProof.__init__", ⟨19, 17, 19, 21⟩, ⟨19, 23, 19, 28⟩, "no proof, by its ", ⟨⟨20, 8, 20, 13⟩, ⟨20, 8, 20, 15⟩, ⟨20, 8, 20, 24⟩, ⟨20, 27, 20, 44⟩, ⟨20, 45, 20, 50⟩, ⟨20, 44, 20, 51⟩, ⟨20, 25, 20, 52⟩, ⟨20, 8, 20, 53⟩, ⟨20, 8, 20, 53⟩, ⟨21, 8, 21, 12⟩, ⟨21, 8, 21, 18⟩, ⟨21, 21, 21, 26⟩, ⟨21, 8, 21, 26⟩⟩⟩
def er : List HookS.ErD := [ed_NoProof]
def tf : List He.Defn := [("settled_groups", none)]
def exb : PySem.W.Frag → Bool := fun K => HookS.erB K "NoProof" PP.main.file && (decide (PySem.W.exmOne K (.ref (He.ga K "NoProof")) (.ref (He.ga K "HouseError")) = some true) && (decide (PySem.W.kitAny K (.ref (He.ga K "NoProof")) [.ref (He.ga K "NoNet"), .ref (He.ga K "NoWay"), .ref (He.ga K "NoWagon"), .ref (He.ga K "NoRules"), .ref (He.ga K "NoPaper"), .ref (He.ga K "NotYet"), .ref (He.ga K "TooMany"), .ref (He.ga K "TooLate")] = some false) && (decide (PySem.W.kitAny K (.ref (He.ga K "NoProof")) [.ref (He.ga K "NoLine"), .ref (He.ga K "Stopped"), .ref (He.ga K "NoMonth"), .ref (He.ga K "NoBill"), .ref (He.ga K "NoText"), .ref (He.ga K "NoSaying")] = some false) && (decide (PySem.W.kitOne K (.ref (He.ga K "NoProof")) (.ref (He.ga K "NoProof")) = some true) && (decide (PySem.W.kitOne K (.ref (He.ga K "NoProof")) (.type "ValueError") = some true))))))
abbrev R : PySem.W.OpenRow := PySem.W.OpenLaw.row PySem.Challenge.rw_throughlines_k56_payments_looked_at
abbrev hk : PySem.W.Hook := HookS.hookS 4 fa fn tf er exb
def ob (s : PySem.W.SharedT) : HookS.AlS := HookS.obsS 4 fa fn tf er exb (HandSHeadRun.getT s)
theorem ob_eq (s : PySem.W.SharedT) : ob s = hk.obs s.abs := HookS.obsS_eq (HandSHeadRun.getT_eq s)
def loose : List PySem.Str := "HouseError" :: "NoNet" :: "NoWay" :: "NoWagon" :: "NoRules" :: "NoPaper" :: "NoProof" :: "NotYet" :: "TooMany" :: "TooLate" :: "NoLine" :: "Stopped" :: "NoMonth" :: "NoBill" :: "NoText" :: "NoSaying" :: "is_whole" :: "is_whole_between" :: "is_tuple" :: "is_pair_of_lists" :: "fewest" :: "set_sums" :: "sets_within" :: "least_number" :: "greatest_table" :: "settled_groups" :: "payments_among" :: "look_payments" :: "is_payment" :: "settle" :: "is_table" :: "_law_bag" :: "_law_take" :: "_law_accounts" :: "_law_settles" :: "_law_sums" :: "_law_is_table" :: "_law_told" :: "_law_where" :: "_law_any" :: "_law_own" :: "_law_bent_payments" :: "_law_bent_table" :: "_law_bent" :: "_law_copied" :: []
set_option maxHeartbeats 0 in
theorem run (w : World) : HandSHeadRun.RunEq R (PySem.W.view R.prog [49]) hk ob 8000 loose w := by
  intro os
  kernel_rfl
/-- a def's code object, by its function's data -/
theorem code_ref {K : PySem.W.Frag} {x : Str} {st : Stmt} {p : He.Defn} {fd : FuncData} (F : FnP K x st (He.fAd K p) fd) : fd.code = .ref (He.cT K p).1 := by
  obtain ⟨oc, od, dV, kV, doc, pm, an, cdv, ct, osl, rfl, lk, hcd, _, _⟩ := F.ex
  obtain ⟨c, e⟩ := He.codeIn_ref hcd
  have h := He.codeOf_eq lk (show _ = Value.ref c from e)
  show cdv = _
  rw [e]
  show Value.ref c = Value.ref (He.codeOf K p)
  rw [h]
theorem facts {w : World} {K : PySem.W.Frag} {h : Heap} {mg : Str → Option Value} {f : Addr} (X : K.In h) (G : h.Ns mainGlobals mg) (hfa : mg ("law" : Str) = some (.ref f)) (cS : HookS.SaysS fa fn tf er exb w h K) :
    LamX.LawAtS PySem.Challenge.rw_throughlines_k56_payments_looked_at w K CX0 7 63 "_law_script" mg f h := by
  have c' := cS.x
  have c := c'.t.d
  obtain ⟨d_is_whole, F_is_whole⟩ := c.def_ 0 (d := dd_is_whole) rfl
  have b_is_whole : Binds K d_is_whole ["thing"] [] := FunD.bindsN F_is_whole fun _ _ _ _ _ _ us hl => match us, hl with | [_], _ => rfl
  obtain ⟨d_is_whole_between, F_is_whole_between⟩ := c.def_ 1 (d := dd_is_whole_between) rfl
  have b_is_whole_between : Binds K d_is_whole_between ["thing", "least", "most"] [] := FunD.bindsN F_is_whole_between fun _ _ _ _ _ _ us hl => match us, hl with | [_, _, _], _ => rfl
  obtain ⟨d_is_tuple, F_is_tuple⟩ := c.def_ 2 (d := dd_is_tuple) rfl
  have b_is_tuple : Binds K d_is_tuple ["thing", "fewest", "most"] [] := FunD.bindsN F_is_tuple fun _ _ _ _ _ _ us hl => match us, hl with | [_, _, _], _ => rfl
  obtain ⟨d_is_pair_of_lists, F_is_pair_of_lists⟩ := c.def_ 3 (d := dd_is_pair_of_lists) rfl
  have b_is_pair_of_lists : Binds K d_is_pair_of_lists ["thing"] [] := FunD.bindsN F_is_pair_of_lists fun _ _ _ _ _ _ us hl => match us, hl with | [_], _ => rfl
  obtain ⟨d_fewest, F_fewest⟩ := c.def_ 4 (d := dd_fewest) rfl
  have b_fewest : Binds K d_fewest ["accounts"] [] := FunD.bindsN F_fewest fun _ _ _ _ _ _ us hl => match us, hl with | [_], _ => rfl
  obtain ⟨d_set_sums, F_set_sums⟩ := c.def_ 5 (d := dd_set_sums) rfl
  have b_set_sums : Binds K d_set_sums ["worths"] [] := FunD.bindsN F_set_sums fun _ _ _ _ _ _ us hl => match us, hl with | [_], _ => rfl
  obtain ⟨d_sets_within, F_sets_within⟩ := c.def_ 6 (d := dd_sets_within) rfl
  have b_sets_within : Binds K d_sets_within ["number", "many"] [] := FunD.bindsN F_sets_within fun _ _ _ _ _ _ us hl => match us, hl with | [_, _], _ => rfl
  obtain ⟨d_least_number, F_least_number⟩ := c.def_ 7 (d := dd_least_number) rfl
  have b_least_number : Binds K d_least_number ["table", "total", "number", "many"] [] := FunD.bindsN F_least_number fun _ _ _ _ _ _ us hl => match us, hl with | [_, _, _, _], _ => rfl
  obtain ⟨d_greatest_table, F_greatest_table⟩ := c.def_ 8 (d := dd_greatest_table) rfl
  have b_greatest_table : Binds K d_greatest_table ["worths"] [] := FunD.bindsN F_greatest_table fun _ _ _ _ _ _ us hl => match us, hl with | [_], _ => rfl
  obtain ⟨d_settled_groups, F_settled_groups⟩ := c.def_ 9 (d := dd_settled_groups) rfl
  have b_settled_groups : Binds K d_settled_groups ["worths", "table"] [] := FunD.bindsN F_settled_groups fun _ _ _ _ _ _ us hl => match us, hl with | [_, _], _ => rfl
  obtain ⟨d_payments_among, F_payments_among⟩ := c.def_ 10 (d := dd_payments_among) rfl
  have b_payments_among : Binds K d_payments_among ["places", "accounts"] [] := FunD.bindsN F_payments_among fun _ _ _ _ _ _ us hl => match us, hl with | [_, _], _ => rfl
  obtain ⟨d_look_payments, F_look_payments⟩ := c.def_ 11 (d := dd_look_payments) rfl
  have b_look_payments : Binds K d_look_payments ["accounts", "thing"] [] := FunD.bindsN F_look_payments fun _ _ _ _ _ _ us hl => match us, hl with | [_, _], _ => rfl
  obtain ⟨d_is_payment, F_is_payment⟩ := c.def_ 12 (d := dd_is_payment) rfl
  have b_is_payment : Binds K d_is_payment ["many", "thing"] [] := FunD.bindsN F_is_payment fun _ _ _ _ _ _ us hl => match us, hl with | [_, _], _ => rfl
  obtain ⟨d_settle, F_settle⟩ := c.def_ 13 (d := dd_settle) rfl
  have b_settle : Binds K d_settle ["accounts", "payments"] [] := FunD.bindsN F_settle fun _ _ _ _ _ _ us hl => match us, hl with | [_, _], _ => rfl
  obtain ⟨d_is_table, F_is_table⟩ := c.def_ 14 (d := dd_is_table) rfl
  have b_is_table : Binds K d_is_table ["worths", "thing"] [] := FunD.bindsN F_is_table fun _ _ _ _ _ _ us hl => match us, hl with | [_, _], _ => rfl
  obtain ⟨d_l_bag, F_l_bag⟩ := c.def_ 15 (d := dd_l_bag) rfl
  have b_l_bag : Binds K d_l_bag ["_law_script", "_law_at"] [] := FunD.bindsN F_l_bag fun _ _ _ _ _ _ us hl => match us, hl with | [_, _], _ => rfl
  obtain ⟨d_l_take, F_l_take⟩ := c.def_ 16 (d := dd_l_take) rfl
  have b_l_take : Binds K d_l_take ["_law_bag_here", "_law_many"] [] := FunD.bindsN F_l_take fun _ _ _ _ _ _ us hl => match us, hl with | [_, _], _ => rfl
  obtain ⟨d_l_accounts, F_l_accounts⟩ := c.def_ 17 (d := dd_l_accounts) rfl
  have b_l_accounts : Binds K d_l_accounts ["_law_bag_here", "_law_most"] [] := FunD.bindsN F_l_accounts fun _ _ _ _ _ _ us hl => match us, hl with | [_, _], _ => rfl
  obtain ⟨d_l_settles, F_l_settles⟩ := c.def_ 18 (d := dd_l_settles) rfl
  have b_l_settles : Binds K d_l_settles ["_law_accounts_here", "_law_payments"] [] := FunD.bindsN F_l_settles fun _ _ _ _ _ _ us hl => match us, hl with | [_, _], _ => rfl
  obtain ⟨d_l_sums, F_l_sums⟩ := c.def_ 19 (d := dd_l_sums) rfl
  have b_l_sums : Binds K d_l_sums ["_law_accounts_here"] [] := FunD.bindsN F_l_sums fun _ _ _ _ _ _ us hl => match us, hl with | [_], _ => rfl
  obtain ⟨d_l_is_table, F_l_is_table⟩ := c.def_ 20 (d := dd_l_is_table) rfl
  have b_l_is_table : Binds K d_l_is_table ["_law_accounts_here", "_law_table"] [] := FunD.bindsN F_l_is_table fun _ _ _ _ _ _ us hl => match us, hl with | [_, _], _ => rfl
  obtain ⟨d_l_told, F_l_told⟩ := c.def_ 21 (d := dd_l_told) rfl
  have b_l_told : Binds K d_l_told ["_law_accounts_here", "_law_thing"] [] := FunD.bindsN F_l_told fun _ _ _ _ _ _ us hl => match us, hl with | [_, _], _ => rfl
  obtain ⟨d_l_where, F_l_where⟩ := c.def_ 22 (d := dd_l_where) rfl
  have b_l_where : Binds K d_l_where ["_law_accounts_here", "_law_thing"] [] := FunD.bindsN F_l_where fun _ _ _ _ _ _ us hl => match us, hl with | [_, _], _ => rfl
  obtain ⟨d_l_any, F_l_any⟩ := c.def_ 23 (d := dd_l_any) rfl
  have b_l_any : Binds K d_l_any ["_law_bag_here"] [] := FunD.bindsN F_l_any fun _ _ _ _ _ _ us hl => match us, hl with | [_], _ => rfl
  obtain ⟨d_l_own, F_l_own⟩ := c.def_ 24 (d := dd_l_own) rfl
  have b_l_own : Binds K d_l_own ["_law_bag_here", "_law_accounts_here"] [] := FunD.bindsN F_l_own fun _ _ _ _ _ _ us hl => match us, hl with | [_, _], _ => rfl
  obtain ⟨d_l_bent_payments, F_l_bent_payments⟩ := c.def_ 25 (d := dd_l_bent_payments) rfl
  have b_l_bent_payments : Binds K d_l_bent_payments ["_law_bag_here", "_law_payments"] [] := FunD.bindsN F_l_bent_payments fun _ _ _ _ _ _ us hl => match us, hl with | [_, _], _ => rfl
  obtain ⟨d_l_bent_table, F_l_bent_table⟩ := c.def_ 26 (d := dd_l_bent_table) rfl
  have b_l_bent_table : Binds K d_l_bent_table ["_law_bag_here", "_law_table"] [] := FunD.bindsN F_l_bent_table fun _ _ _ _ _ _ us hl => match us, hl with | [_, _], _ => rfl
  obtain ⟨d_l_bent, F_l_bent⟩ := c.def_ 27 (d := dd_l_bent) rfl
  have b_l_bent : Binds K d_l_bent ["_law_bag_here", "_law_told_here"] [] := FunD.bindsN F_l_bent fun _ _ _ _ _ _ us hl => match us, hl with | [_, _], _ => rfl
  obtain ⟨d_l_copied, F_l_copied⟩ := c.def_ 28 (d := dd_l_copied) rfl
  have b_l_copied : Binds K d_l_copied ["_law_thing"] [] := FunD.bindsN F_l_copied fun _ _ _ _ _ _ us hl => match us, hl with | [_], _ => rfl
  obtain ⟨d_law, F_law⟩ := c.def_ 29 (d := dd_law) rfl
  have z_NoProof := HookS.er_ok (prog := PP) (d := ed_NoProof) X G (cS.one (List.mem_of_getElem? (l := er) (i := 0) rfl)) (He.ba c'.more).1 (by rfl) (by decide +kernel)
  let T : Defs K mg := {
    a_is_whole := _,
    d_is_whole := d_is_whole,
    F_is_whole := F_is_whole,
    g_is_whole := He.glo_ok X G (c.fact 0 (f := .glo "is_whole") rfl),
    b_is_whole := b_is_whole,
    a_is_whole_between := _,
    d_is_whole_between := d_is_whole_between,
    F_is_whole_between := F_is_whole_between,
    g_is_whole_between := He.glo_ok X G (c.fact 1 (f := .glo "is_whole_between") rfl),
    b_is_whole_between := b_is_whole_between,
    a_is_tuple := _,
    d_is_tuple := d_is_tuple,
    F_is_tuple := F_is_tuple,
    g_is_tuple := He.glo_ok X G (c.fact 2 (f := .glo "is_tuple") rfl),
    b_is_tuple := b_is_tuple,
    a_is_pair_of_lists := _,
    d_is_pair_of_lists := d_is_pair_of_lists,
    F_is_pair_of_lists := F_is_pair_of_lists,
    g_is_pair_of_lists := He.glo_ok X G (c.fact 3 (f := .glo "is_pair_of_lists") rfl),
    b_is_pair_of_lists := b_is_pair_of_lists,
    a_fewest := _,
    d_fewest := d_fewest,
    F_fewest := F_fewest,
    g_fewest := He.glo_ok X G (c.fact 4 (f := .glo "fewest") rfl),
    b_fewest := b_fewest,
    a_set_sums := _,
    d_set_sums := d_set_sums,
    F_set_sums := F_set_sums,
    g_set_sums := He.glo_ok X G (c.fact 5 (f := .glo "set_sums") rfl),
    b_set_sums := b_set_sums,
    a_sets_within := _,
    d_sets_within := d_sets_within,
    F_sets_within := F_sets_within,
    g_sets_within := He.glo_ok X G (c.fact 6 (f := .glo "sets_within") rfl),
    b_sets_within := b_sets_within,
    a_least_number := _,
    d_least_number := d_least_number,
    F_least_number := F_least_number,
    g_least_number := He.glo_ok X G (c.fact 7 (f := .glo "least_number") rfl),
    b_least_number := b_least_number,
    a_greatest_table := _,
    d_greatest_table := d_greatest_table,
    F_greatest_table := F_greatest_table,
    g_greatest_table := He.glo_ok X G (c.fact 8 (f := .glo "greatest_table") rfl),
    b_greatest_table := b_greatest_table,
    a_settled_groups := _,
    d_settled_groups := d_settled_groups,
    F_settled_groups := F_settled_groups,
    g_settled_groups := He.glo_ok X G (c.fact 9 (f := .glo "settled_groups") rfl),
    b_settled_groups := b_settled_groups,
    cc_settled_groups := (He.cT K ("settled_groups", none)).1,
    tp_settled_groups := (He.cT K ("settled_groups", none)).2,
    dc_settled_groups := code_ref (x := "settled_groups") (st := s_settled_groups) (p := ("settled_groups", none)) F_settled_groups,
    a_payments_among := _,
    d_payments_among := d_payments_among,
    F_payments_among := F_payments_among,
    g_payments_among := He.glo_ok X G (c.fact 10 (f := .glo "payments_among") rfl),
    b_payments_among := b_payments_among,
    a_look_payments := _,
    d_look_payments := d_look_payments,
    F_look_payments := F_look_payments,
    g_look_payments := He.glo_ok X G (c.fact 11 (f := .glo "look_payments") rfl),
    b_look_payments := b_look_payments,
    a_is_payment := _,
    d_is_payment := d_is_payment,
    F_is_payment := F_is_payment,
    g_is_payment := He.glo_ok X G (c.fact 12 (f := .glo "is_payment") rfl),
    b_is_payment := b_is_payment,
    a_settle := _,
    d_settle := d_settle,
    F_settle := F_settle,
    g_settle := He.glo_ok X G (c.fact 13 (f := .glo "settle") rfl),
    b_settle := b_settle,
    a_is_table := _,
    d_is_table := d_is_table,
    F_is_table := F_is_table,
    g_is_table := He.glo_ok X G (c.fact 14 (f := .glo "is_table") rfl),
    b_is_table := b_is_table,
    a_l_bag := _,
    d_l_bag := d_l_bag,
    F_l_bag := F_l_bag,
    g_l_bag := He.glo_ok X G (c.fact 15 (f := .glo "_law_bag") rfl),
    b_l_bag := b_l_bag,
    a_l_take := _,
    d_l_take := d_l_take,
    F_l_take := F_l_take,
    g_l_take := He.glo_ok X G (c.fact 16 (f := .glo "_law_take") rfl),
    b_l_take := b_l_take,
    a_l_accounts := _,
    d_l_accounts := d_l_accounts,
    F_l_accounts := F_l_accounts,
    g_l_accounts := He.glo_ok X G (c.fact 17 (f := .glo "_law_accounts") rfl),
    b_l_accounts := b_l_accounts,
    a_l_settles := _,
    d_l_settles := d_l_settles,
    F_l_settles := F_l_settles,
    g_l_settles := He.glo_ok X G (c.fact 18 (f := .glo "_law_settles") rfl),
    b_l_settles := b_l_settles,
    a_l_sums := _,
    d_l_sums := d_l_sums,
    F_l_sums := F_l_sums,
    g_l_sums := He.glo_ok X G (c.fact 19 (f := .glo "_law_sums") rfl),
    b_l_sums := b_l_sums,
    a_l_is_table := _,
    d_l_is_table := d_l_is_table,
    F_l_is_table := F_l_is_table,
    g_l_is_table := He.glo_ok X G (c.fact 20 (f := .glo "_law_is_table") rfl),
    b_l_is_table := b_l_is_table,
    a_l_told := _,
    d_l_told := d_l_told,
    F_l_told := F_l_told,
    g_l_told := He.glo_ok X G (c.fact 21 (f := .glo "_law_told") rfl),
    b_l_told := b_l_told,
    a_l_where := _,
    d_l_where := d_l_where,
    F_l_where := F_l_where,
    g_l_where := He.glo_ok X G (c.fact 22 (f := .glo "_law_where") rfl),
    b_l_where := b_l_where,
    a_l_any := _,
    d_l_any := d_l_any,
    F_l_any := F_l_any,
    g_l_any := He.glo_ok X G (c.fact 23 (f := .glo "_law_any") rfl),
    b_l_any := b_l_any,
    a_l_own := _,
    d_l_own := d_l_own,
    F_l_own := F_l_own,
    g_l_own := He.glo_ok X G (c.fact 24 (f := .glo "_law_own") rfl),
    b_l_own := b_l_own,
    a_l_bent_payments := _,
    d_l_bent_payments := d_l_bent_payments,
    F_l_bent_payments := F_l_bent_payments,
    g_l_bent_payments := He.glo_ok X G (c.fact 25 (f := .glo "_law_bent_payments") rfl),
    b_l_bent_payments := b_l_bent_payments,
    a_l_bent_table := _,
    d_l_bent_table := d_l_bent_table,
    F_l_bent_table := F_l_bent_table,
    g_l_bent_table := He.glo_ok X G (c.fact 26 (f := .glo "_law_bent_table") rfl),
    b_l_bent_table := b_l_bent_table,
    a_l_bent := _,
    d_l_bent := d_l_bent,
    F_l_bent := F_l_bent,
    g_l_bent := He.glo_ok X G (c.fact 27 (f := .glo "_law_bent") rfl),
    b_l_bent := b_l_bent,
    a_l_copied := _,
    d_l_copied := d_l_copied,
    F_l_copied := F_l_copied,
    g_l_copied := He.glo_ok X G (c.fact 28 (f := .glo "_law_copied") rfl),
    b_l_copied := b_l_copied,
    z_ValueError := He.free_ok X G (c.fact 30 (f := .free "ValueError") rfl),
    z_abs := He.free_ok X G (c.fact 31 (f := .free "abs") rfl),
    z_all := He.free_ok X G (c.fact 32 (f := .free "all") rfl),
    z_any := He.free_ok X G (c.fact 33 (f := .free "any") rfl),
    z_bool := He.free_ok X G (c.fact 34 (f := .free "bool") rfl),
    z_enumerate := He.free_ok X G (c.fact 35 (f := .free "enumerate") rfl),
    z_int := He.free_ok X G (c.fact 36 (f := .free "int") rfl),
    z_isinstance := He.free_ok X G (c.fact 37 (f := .free "isinstance") rfl),
    z_len := He.free_ok X G (c.fact 38 (f := .free "len") rfl),
    z_list := He.free_ok X G (c.fact 39 (f := .free "list") rfl),
    z_max := He.free_ok X G (c.fact 40 (f := .free "max") rfl),
    z_min := He.free_ok X G (c.fact 41 (f := .free "min") rfl),
    z_range := He.free_ok X G (c.fact 42 (f := .free "range") rfl),
    z_sorted := He.free_ok X G (c.fact 43 (f := .free "sorted") rfl),
    z_sum := He.free_ok X G (c.fact 44 (f := .free "sum") rfl),
    z_super := He.free_ok X G (c.fact 45 (f := .free "super") rfl),
    z_tuple := He.free_ok X G (c.fact 46 (f := .free "tuple") rfl),
    z_zip := He.free_ok X G (c.fact 47 (f := .free "zip") rfl),
    a_HouseError := _,
    g_HouseError := He.glo_ok X G (c.fact 48 (f := .glo "HouseError") rfl),
    a_NoNet := _,
    g_NoNet := He.glo_ok X G (c.fact 49 (f := .glo "NoNet") rfl),
    a_NoWay := _,
    g_NoWay := He.glo_ok X G (c.fact 50 (f := .glo "NoWay") rfl),
    a_NoWagon := _,
    g_NoWagon := He.glo_ok X G (c.fact 51 (f := .glo "NoWagon") rfl),
    a_NoRules := _,
    g_NoRules := He.glo_ok X G (c.fact 52 (f := .glo "NoRules") rfl),
    a_NoPaper := _,
    g_NoPaper := He.glo_ok X G (c.fact 53 (f := .glo "NoPaper") rfl),
    a_NoProof := _,
    g_NoProof := He.glo_ok X G (c.fact 54 (f := .glo "NoProof") rfl),
    a_NotYet := _,
    g_NotYet := He.glo_ok X G (c.fact 55 (f := .glo "NotYet") rfl),
    a_TooMany := _,
    g_TooMany := He.glo_ok X G (c.fact 56 (f := .glo "TooMany") rfl),
    a_TooLate := _,
    g_TooLate := He.glo_ok X G (c.fact 57 (f := .glo "TooLate") rfl),
    a_NoLine := _,
    g_NoLine := He.glo_ok X G (c.fact 58 (f := .glo "NoLine") rfl),
    a_Stopped := _,
    g_Stopped := He.glo_ok X G (c.fact 59 (f := .glo "Stopped") rfl),
    a_NoMonth := _,
    g_NoMonth := He.glo_ok X G (c.fact 60 (f := .glo "NoMonth") rfl),
    a_NoBill := _,
    g_NoBill := He.glo_ok X G (c.fact 61 (f := .glo "NoBill") rfl),
    a_NoText := _,
    g_NoText := He.glo_ok X G (c.fact 62 (f := .glo "NoText") rfl),
    a_NoSaying := _,
    g_NoSaying := He.glo_ok X G (c.fact 63 (f := .glo "NoSaying") rfl),
    i_NoProof := _,
    t_NoProof := z_NoProof.1,
    c_NoProof := z_NoProof.2.2.1,
    f_NoProof := z_NoProof.2.2.2,
    m_NoProof_HouseError := of_decide_eq_true (He.ba (He.ba c'.more).2).1,
    k0_NoProof := of_decide_eq_true (He.ba (He.ba (He.ba c'.more).2).2).1,
    k1_NoProof := of_decide_eq_true (He.ba (He.ba (He.ba (He.ba c'.more).2).2).2).1,
    ks_NoProof := of_decide_eq_true (He.ba (He.ba (He.ba (He.ba (He.ba c'.more).2).2).2).2).1,
    kv_NoProof := of_decide_eq_true (He.ba (He.ba (He.ba (He.ba (He.ba c'.more).2).2).2).2).2 }
  have e := hfa.symm.trans (He.glo_ok X G (c.fact 29 (f := .glo "law") rfl))
  cases e
  have b := FunD.bindsA (ps := ["_law_script"]) F_law fun _ _ _ _ _ _ us hl => match us, hl with | [_], _ => rfl
  refine ⟨d_law, tf.map (He.cT K), sp_law T, fun p hp => ?_, fun p hp => ?_, fun p hp => ?_, fun s v => b s [v] rfl, fun H a ns hl _ hH hS => ⟨a, ns, rfl, hS, hl, LamX.TabS.nil (hH (He.cT K ("settled_groups", none)) (List.mem_map_of_mem (f := He.cT K) (List.mem_of_getElem? (l := tf) (i := 0) rfl))), fun _ => rfl⟩, fun base _ _ hTB => ok_law F_law T (hTB (He.cT K ("settled_groups", none)) (List.mem_map_of_mem (f := He.cT K) (List.mem_of_getElem? (l := tf) (i := 0) rfl)))⟩
  · obtain ⟨q, hq, rfl⟩ := List.mem_map.mp hp
    exact c'.empty q hq
  · obtain ⟨q, hq, rfl⟩ := List.mem_map.mp hp
    exact c'.out q hq
  · obtain ⟨q, hq, rfl⟩ := List.mem_map.mp hp
    exact PySem.W.codeHd_of_K X (c'.hd q hq)
end Th
open PySem PySem.W PySem.Calls PyProof.Rows
set_option maxHeartbeats 0 in
theorem PySem.Challenge.cw_throughlines_k56_payments_looked_at_holds : PySem.Challenge.rw_throughlines_k56_payments_looked_at.Holds := by
  w_on; o_law
  refine HandSHeadRun.head_any (r := OpenLaw.row PySem.Challenge.rw_throughlines_k56_payments_looked_at) (q := view (OpenLaw.row PySem.Challenge.rw_throughlines_k56_payments_looked_at).prog [49]) (H := Th.hk) (ob := Th.ob) (M := 8000) (loose := Th.loose) (d := HandSHeadRun.topDef (OpenLaw.row PySem.Challenge.rw_throughlines_k56_payments_looked_at).prog 49) (kwd := []) Th.ob_eq
    (by kernel_rfl) (fun s => by kernel_rfl) Th.run (by kernel_rfl) (by kernel_rfl) (by kernel_rfl) (by rfl) (by first | assumption | decide +kernel) (by decide +kernel) ⟨rfl, rfl, rfl, rfl, rfl, by decide +kernel⟩ ?hw ?hc
  case hw => w_witness2
  case hc =>
    refine LamX.walk_ofTsE (l := PySem.Challenge.rw_throughlines_k56_payments_looked_at) (n := 63) (k := 7) (x := "_law_script") (CX := fun _ => L2.CX0) rfl (by decide) (by kernel_rfl) ⟨rfl, by decide, by decide⟩ ?F (fun _ _ _ _ _ z => z)
    intro w mg fa h Y G hmg0
    obtain ⟨K, KX, c⟩ := Y
    have hmg : mg ("law" : PySem.Str) = some (.ref fa) := by
      have e : (HandSHeadRun.topDef (OpenLaw.row PySem.Challenge.rw_throughlines_k56_payments_looked_at).prog 49).name = ("law" : PySem.Str) := by kernel_rfl
      rw [← e]
      exact hmg0
    exact ⟨K, KX, Th.facts KX G hmg c⟩
