import PyProof.Rows.All
import Wide.All
import OpenK.AllK
import Wide.FinOn
import KE.KStateDown
import Lean
import HandS.ForMost
import HandS.More
import HandS.WordsExc
import HandS.Defaults
import HandS.IsInst
import HandS.Zip
import HandS.Walk
import HandS.Wide
import HandS.Flow
import HandS.Evl
import KE.SortKeyHeap
import KE.KLam
import HandS.Conv
import HandS.Lambda
import HandS.EndTab
import HandS.HeadWalk
import HandS.HeadHook4
import KE.DatumOrd
import HandS.Head0
import HandS.Head1
import HandS.Head2
import HandS.HeadEnd
import HandS.HeadHook1
import HandS.HeadHook2
import PySem.Challenge.RW_throughlines_k58_carried
set_option Elab.async false
set_option linter.all false
set_option maxRecDepth 100000
set_option maxHeartbeats 4000000
namespace Th
open PySem PySem.Spec PyProof.Rows L2
/-! heaps -/
theorem same_upd {H : Hp} {p : Addr} {o : HO} (h : H p = none) : Same H (upd H p o) := fun b x e => by
  rw [upd_ne (ne_of_none e h)]
  exact e
/-- all but p stays -/
def Keep (p : Addr) (H H' : Hp) : Prop := ∀ b o, b ≠ p → H b = some o → H' b = some o
theorem Keep.refl (p : Addr) (H : Hp) : Keep p H H := fun _ _ _ h => h
theorem Keep.trans {p : Addr} {H H1 H2 : Hp} (a : Keep p H H1) (b : Keep p H1 H2) : Keep p H H2 := fun c o n h => b c o n (a c o n h)
theorem Keep.of {p : Addr} {H H1 : Hp} (a : Same H H1) : Keep p H H1 := fun c o _ h => a c o h
theorem Keep.upd {p : Addr} {H : Hp} {o : HO} : Keep p H (upd H p o) := fun c o n h => by rw [upd_ne n]; exact h
/-- the bag of draws at p -/
def Bag (H : Hp) (p : Addr) : Prop := ∃ g r : Int, H p = some (.lst [.int g, .int r]) ∧ 0 ≤ g ∧ 0 ≤ r ∧ r < 2147483648
theorem Bag.keep {H H' : Hp} {p : Addr} (b : Bag H p) (s : Same H H') : Bag H' p := by
  obtain ⟨g, r, e, h⟩ := b
  exact ⟨g, r, s _ _ e, h⟩
theorem Bag.some {H : Hp} {p : Addr} (b : Bag H p) : ∃ o, H p = Option.some o := by
  obtain ⟨g, r, e, _⟩ := b
  exact ⟨_, e⟩
theorem Bag.ne {H : Hp} {p q : Addr} (b : Bag H p) (h : H q = none) : q ≠ p := by
  obtain ⟨g, r, e, _⟩ := b
  exact (ne_of_none e h).symm
theorem p8 : (0 : Int) < 8 := by decide
theorem pA : (0 : Int) < 2147483647 := by decide
theorem pB : (0 : Int) < 2147483629 := by decide
theorem primes_at (i : Nat) : ∃ pr : Int, atI [V.int 2147483629, .int 2147483587, .int 2147483579, .int 2147483563, .int 2147483549, .int 2147483543, .int 2147483497, .int 2147483489] ((i : Int) % 8) = some (.int pr) ∧ 0 < pr ∧ pr < 2147483648 := by
  have e : ((i : Int) % 8) = ((i % 8 : Nat) : Int) := by omega
  rw [e]
  have h : i % 8 < 8 := Nat.mod_lt _ (by decide)
  generalize i % 8 = j at h
  have c : j = 0 ∨ j = 1 ∨ j = 2 ∨ j = 3 ∨ j = 4 ∨ j = 5 ∨ j = 6 ∨ j = 7 := by omega
  rcases c with rfl | rfl | rfl | rfl | rfl | rfl | rfl | rfl
  all_goals exact ⟨_, atI_nat rfl, by decide, by decide⟩
def sp_bag (K : PySem.W.Frag) : Sp := fun vs H Q _ => ∃ (a : Addr) (ns : List Int) (i : Nat), vs = [.ref a, .int i] ∧ SqL K H a (ns.map V.int) ∧ i < 1000000 ∧ ∀ H' p, Same H H' → H p = none → Bag H' p → Q (.ref p) H'
def sp_take : Sp := fun vs H Q _ => ∃ (p : Addr) (m : Int), vs = [.ref p, .int m] ∧ Bag H p ∧ 0 < m ∧ m < 1073741824 ∧ ∀ H' d, Keep p H H' → Bag H' p → 0 ≤ d → d < m → Q (.int d) H'
/-! data that is tracked, at addresses of which S holds -/
mutual
inductive Dt (S : Addr → Prop) (H : Hp) : V → PyData → Prop
  | non : Dt S H .non .none
  | bl (b : Bool) : Dt S H (.bl b) (.bool b)
  | int (i : Int) : Dt S H (.int i) (.int i)
  | str (x : Str) : Dt S H (.str x) (.str x)
  | lst {a : Addr} {xs : List V} {ds : List PyData} : S a → H a = some (.lst xs) → xs.length ≤ 5000 → DtAll S H xs ds → Dt S H (.ref a) (.list ds)
  | tup {a : Addr} {xs : List V} {ds : List PyData} : S a → H a = some (.tup xs) → xs.length ≤ 5000 → DtAll S H xs ds → Dt S H (.ref a) (.tuple ds)
inductive DtAll (S : Addr → Prop) (H : Hp) : List V → List PyData → Prop
  | nil : DtAll S H [] []
  | cons {v : V} {vs : List V} {d : PyData} {ds : List PyData} : Dt S H v d → DtAll S H vs ds → DtAll S H (v :: vs) (d :: ds)
end
mutual
theorem Dt.mono {S S' : Addr → Prop} {H H' : Hp} (hS : ∀ a, S a → S' a) (hh : ∀ a o, S a → H a = some o → H' a = some o) : ∀ {v : V} {d : PyData}, Dt S H v d → Dt S' H' v d
  | _, _, .non => .non
  | _, _, .bl b => .bl b
  | _, _, .int b => .int b
  | _, _, .str b => .str b
  | _, _, .lst s e l r => .lst (hS _ s) (hh _ _ s e) l (DtAll.mono hS hh r)
  | _, _, .tup s e l r => .tup (hS _ s) (hh _ _ s e) l (DtAll.mono hS hh r)
theorem DtAll.mono {S S' : Addr → Prop} {H H' : Hp} (hS : ∀ a, S a → S' a) (hh : ∀ a o, S a → H a = some o → H' a = some o) : ∀ {v : List V} {d : List PyData}, DtAll S H v d → DtAll S' H' v d
  | _, _, .nil => .nil
  | _, _, .cons a r => .cons (Dt.mono hS hh a) (DtAll.mono hS hh r)
end
mutual
theorem Dt.dp {K : PySem.W.Frag} {S : Addr → Prop} {H : Hp} : ∀ {v : V} {d : PyData}, Dt S H v d → Dp K H v d
  | _, _, .non => .non
  | _, _, .bl b => .bl b
  | _, _, .int b => .int b
  | _, _, .str b => .str b
  | _, _, .lst s e l r => .lst (SqL.of e) (DtAll.dp r)
  | _, _, .tup s e l r => .tup (SqT.of e) (DtAll.dp r)
theorem DtAll.dp {K : PySem.W.Frag} {S : Addr → Prop} {H : Hp} : ∀ {v : List V} {d : List PyData}, DtAll S H v d → DpAll K H v d
  | _, _, .nil => .nil
  | _, _, .cons a r => .cons (Dt.dp a) (DtAll.dp r)
end
abbrev SA : Addr → Prop := fun _ => True
theorem Dt.same {H H' : Hp} {v : V} {d : PyData} (s : Same H H') (h : Dt SA H v d) : Dt SA H' v d := h.mono (fun _ x => x) fun a o _ e => s a o e
theorem DtAll.same {H H' : Hp} {v : List V} {d : List PyData} (s : Same H H') (h : DtAll SA H v d) : DtAll SA H' v d := h.mono (fun _ x => x) fun a o _ e => s a o e
theorem DtAll.len {S : Addr → Prop} {H : Hp} : ∀ {v : List V} {d : List PyData}, DtAll S H v d → v.length = d.length
  | _, _, .nil => rfl
  | _, _, .cons _ r => congrArg Nat.succ r.len
theorem DtAll.get {S : Addr → Prop} {H : Hp} : ∀ {v : List V} {d : List PyData} {i : Nat} {x : V}, DtAll S H v d → v[i]? = some x → ∃ e, d[i]? = some e ∧ Dt S H x e
  | _, _, _, _, .nil, h => by simp at h
  | _, _, 0, _, .cons a r, h => by
    have e := Option.some.inj h
    subst e
    exact ⟨_, rfl, a⟩
  | _, _, i + 1, _, .cons a r, h => r.get (i := i) h
/-! depth, what may be laid -/
theorem depth_mem : ∀ {ds : List PyData} {i : Nat} {d : PyData}, ds[i]? = some d → PyData.depth d ≤ PyData.depthAll ds
  | [], _, _, h => by simp at h
  | x :: xs, 0, d, h => by
    have e := Option.some.inj h
    subst e
    rw [PyData.depthAll]
    exact Nat.le_max_left _ _
  | x :: xs, i + 1, d, h => by
    rw [PyData.depthAll]
    exact Nat.le_trans (depth_mem (i := i) h) (Nat.le_max_right _ _)
theorem lay_mem : ∀ {ds : List PyData} {i : Nat} {d : PyData}, PyData.canLayAll0 ds = true → ds[i]? = some d → PyData.canLay0 d = true
  | [], _, _, _, h => by simp at h
  | x :: xs, 0, d, c, h => by
    have e := Option.some.inj h
    subst e
    rw [PyData.canLayAll0, Bool.and_eq_true_iff] at c
    exact c.1
  | x :: xs, i + 1, d, c, h => by
    rw [PyData.canLayAll0, Bool.and_eq_true_iff] at c
    exact lay_mem (i := i) c.2 h
/-! the types -/
def tyN : PyData → String
  | .none => "NoneType"
  | .bool _ => "bool"
  | .int _ => "int"
  | .str _ => "str"
  | .list _ => "list"
  | .tuple _ => "tuple"
  | .dict _ => "dict"
theorem Dt.ty {K : PySem.W.Frag} {S : Addr → Prop} {H : Hp} {v : V} {d : PyData} (h : Dt S H v d) : TyX K H v (.type (tyN d)) := by
  cases h with
  | non => exact .base .non
  | bl b => exact .base (.bl b)
  | int b => exact .base (.int b)
  | str b => exact .base (.str b)
  | lst s e l r => exact .base (.lst e)
  | tup s e l r => exact .base (.tup e)
def isB : PyData → Bool
  | .bool _ => true
  | _ => false
def isSeq : PyData → Bool
  | .list _ => true
  | .tuple _ => true
  | _ => false
theorem kit_bool {K : PySem.W.Frag} {S : Addr → Prop} {H : Hp} {v : V} {d : PyData} (h : Dt S H v d) : PySem.W.kitOne K (.type (tyN d)) (.type "bool") = some (isB d) := by
  cases h with
  | non => exact kit_ty (a := "NoneType") (b := "bool") (r := false) (by decide +kernel)
  | bl b => exact kit_ty (a := "bool") (b := "bool") (r := true) (by decide +kernel)
  | int b => exact kit_ty (a := "int") (b := "bool") (r := false) (by decide +kernel)
  | str b => exact kit_ty (a := "str") (b := "bool") (r := false) (by decide +kernel)
  | lst s e l r => exact kit_ty (a := "list") (b := "bool") (r := false) (by decide +kernel)
  | tup s e l r => exact kit_ty (a := "tuple") (b := "bool") (r := false) (by decide +kernel)
theorem kit2 {K : PySem.W.Frag} {n : String} (h1 : kitB n "list" = some false) (h2 : kitB n "tuple" = some false) : PySem.W.kitAny K (.type n) [.type "list", .type "tuple"] = some false :=
  kitAny_cons (b := false) (kit_ty h1) (fun _ => kitAny_cons (b := false) (kit_ty h2) (fun _ => kitAny_nil) (fun z => nomatch z)) (fun z => nomatch z)
theorem kit_seq {K : PySem.W.Frag} {S : Addr → Prop} {H : Hp} {v : V} {d : PyData} (h : Dt S H v d) : PySem.W.kitAny K (.type (tyN d)) [.type "list", .type "tuple"] = some (isSeq d) := by
  cases h with
  | non => exact kit2 (n := "NoneType") (by decide +kernel) (by decide +kernel)
  | bl b => exact kit2 (n := "bool") (by decide +kernel) (by decide +kernel)
  | int b => exact kit2 (n := "int") (by decide +kernel) (by decide +kernel)
  | str b => exact kit2 (n := "str") (by decide +kernel) (by decide +kernel)
  | lst s e l r => exact kitAny_cons (b := true) (kit_ty (a := "list") (by decide +kernel)) (fun z => nomatch z) (fun _ => rfl)
  | tup s e l r => exact kitAny_cons (b := false) (kit_ty (a := "tuple") (by decide +kernel)) (fun _ => kitAny_cons (b := true) (kit_ty (a := "tuple") (by decide +kernel)) (fun z => nomatch z) (fun _ => rfl)) (fun z => nomatch z)
/-! zip of two tuples, walked -/
theorem walk_zipT {K : PySem.W.Frag} {a b : Addr} {xs ys : List V} {n : Nat} (hn : n = min xs.length ys.length) : Walk (RZ.ItzT K a b) n (fun H => SqT K H a xs ∧ SqT K H b ys) (YPair (fun i => xs[i]?) (fun i => ys[i]?)) := by
  subst hn
  refine ⟨fun i _ hi q => ?_, fun _ q => ⟨xs, ys, q.1, q.2, by omega⟩, fun i H v H' _ q y => ?_⟩
  · have h1 : i < xs.length := by omega
    have h2 : i < ys.length := by omega
    exact ⟨xs, ys, xs[i], ys[i], q.1, q.2, by simp [h1], by simp [h2]⟩
  · obtain ⟨T, x, z, h1, h2, h3, h4, h5⟩ := y
    exact ⟨T, x, z, h1, h2, h3, h4 xs q.1, h5 ys q.2⟩
theorem yes_ {σ : L2.St} {H : Hp} {A B : Hp → Prop} (h : A H) : tYes σ H fun b H3 => if b = true then A H3 else B H3 := by
  show if true = true then A H else B H
  exact iteT h
theorem small5000 {n : Nat} (h : n ≤ 5000) : n < sizeLine := Nat.lt_of_le_of_lt h (by decide)
/-- told and due are the same data, of a depth below n: True -/
def sp_like (n : Nat) : Sp := fun vs H Q _ => ∃ (v u : V) (d : PyData), vs = [v, u] ∧ Dt SA H v d ∧ Dt SA H u d ∧ d.canLay0 = true ∧ d.depth < n ∧ n ≤ 60 ∧ ∀ H', Same H H' → Q (.bl true) H'
/-- xs[i] read for an augmented store, i from 0 on -/
theorem get_listN {X : Cx} : PGet X (fun o i H Q => ∃ (p : Addr) (xs : List V) (j : Nat) (v : V), o = .ref p ∧ i = .int j ∧ H p = some (.lst xs) ∧ xs[j]? = some v ∧ Q v H) := by
  intro pins s σ H o i ov iv Q I ro ri h
  obtain ⟨p, xs, j, v, rfl, rfl, hp, hx, q⟩ := h
  cases (show ov = Value.ref p from ro)
  obtain ⟨t, rfl⟩ := ri
  obtain ⟨its, r, pl, hz⟩ := I.list (SqL.of hp)
  obtain ⟨u, eu, ru⟩ := r.get hx
  have hj : j < xs.length := (List.getElem?_eq_some_iff.mp hx).1
  have h63 := line63
  exact wpAny_getItem_list pl.isList (by omega) (by omega) (by simpa using eu) ⟨v, H, I, ru, q⟩
/-- the d-th of some whole numbers -/
theorem pick {ms : List Int} {d : Int} (h0 : 0 ≤ d) (h1 : d < ms.length) : ∃ m ∈ ms, atI (ms.map V.int) d = some (.int m) := by
  obtain ⟨j, rfl⟩ : ∃ j : Nat, d = (j : Int) := ⟨d.toNat, by omega⟩
  have hj : j < ms.length := by omega
  refine ⟨ms[j], List.getElem_mem hj, atI_nat ?_⟩
  rw [List.getElem?_map, List.getElem?_eq_getElem hj]
  rfl
theorem Bag.at {H H' : Hp} {p : Addr} (b : Bag H p) (e : H' p = H p) : Bag H' p := by
  obtain ⟨g, r, h, k⟩ := b
  exact ⟨g, r, e.trans h, k⟩
theorem Keep.new {p q : Addr} {H H' : Hp} {o : HO} (k : Keep p H H') (n : H' q = none) : Keep p H (L2.upd H' q o) := k.trans (.of (same_upd n))
theorem Keep.free {p q : Addr} {H H' : Hp} (k : Keep p H H') (b : Bag H p) (h : H' q = none) (b' : Bag H' p) : H q = none := by
  cases e : H q with
  | none => rfl
  | some o =>
    by_cases z : q = p
    · rw [z] at h
      obtain ⟨g, r, e', _⟩ := b'
      rw [e'] at h
      cases h
    · rw [k q o z e] at h
      cases h
theorem rep_one {α : Type} (x : α) (m : Nat) : (List.replicate m [x]).flatten = List.replicate m x := by
  induction m with
  | zero => rfl
  | succ m ih => rw [List.replicate_succ, List.flatten_cons, ih, List.replicate_succ]; rfl
/-! lists of whole numbers as data -/
abbrev dI (zs : List Int) : PyData := .list (zs.map PyData.int)
theorem dtAll_ints {S : Addr → Prop} {H : Hp} : ∀ zs : List Int, DtAll S H (zs.map V.int) (zs.map PyData.int)
  | [] => .nil
  | z :: zs => .cons (.int z) (dtAll_ints zs)
theorem dt_ints {H : Hp} {x : Addr} {zs : List Int} (h : H x = some (.lst (zs.map V.int))) (hl : zs.length ≤ 5000) : Dt SA H (.ref x) (dI zs) := .lst trivial h (by rw [List.length_map]; exact hl) (dtAll_ints zs)
theorem layAll_ints : ∀ zs : List Int, PyData.canLayAll0 (zs.map PyData.int) = true
  | [] => rfl
  | z :: zs => by rw [List.map_cons, PyData.canLayAll0, layAll_ints zs]; rfl
theorem lay_ints (zs : List Int) : (dI zs).canLay0 = true := layAll_ints zs
theorem depthAll_ints : ∀ zs : List Int, PyData.depthAll (zs.map PyData.int) = 0
  | [] => rfl
  | z :: zs => by rw [List.map_cons, PyData.depthAll, depthAll_ints zs]; rfl
theorem depth_ints (zs : List Int) : (dI zs).depth = 1 := by
  show PyData.depthAll (zs.map PyData.int) + 1 = 1
  rw [depthAll_ints]
theorem shaped_ints (zs : List Int) : SeqAt.shaped (dI zs) = true := Bool.and_eq_true_iff.mpr ⟨lay_ints zs, decide_eq_true (by rw [depth_ints]; decide)⟩
theorem eqv_ints (zs : List Int) : PyData.eqv (dI zs) (dI zs) = true := SeqAt.eqv_refl _ (lay_ints zs)
/-! len by a reading that names K -/
def rLenS (K : PySem.W.Frag) : List V → Hp → VK → Prop := fun xs H Q => ∃ (p : Addr) (ys : List V), xs = [.ref p] ∧ (SqL K H p ys ∨ SqT K H p ys) ∧ Q (.int ys.length) H
theorem call_lenS {X : Cx} : CallR X (.builtin "len") (rLenS X.K) := call_len_seq
theorem nn_sum : ∀ {ws : List Int}, (∀ w ∈ ws, 0 ≤ w) → 0 ≤ ws.sum
  | [], _ => by simp
  | w :: ws, h => by
    have h1 := h w (List.mem_cons_self ..)
    have h2 := nn_sum (ws := ws) fun x hx => h x (List.mem_cons_of_mem _ hx)
    rw [List.sum_cons]
    omega
theorem pos_sum : ∀ {ws : List Int} {j : Nat} {x : Int}, (∀ w ∈ ws, 0 ≤ w) → ws[j]? = some x → 0 < x → 0 < ws.sum
  | [], _, _, _, h, _ => by simp at h
  | w :: ws, 0, x, hw, h, hx => by
    have e : w = x := Option.some.inj h
    have h2 := nn_sum (ws := ws) fun x hx => hw x (List.mem_cons_of_mem _ hx)
    rw [List.sum_cons]
    omega
  | w :: ws, j + 1, x, hw, h, hx => by
    have h1 := hw w (List.mem_cons_self ..)
    have h2 := pos_sum (ws := ws) (j := j) (x := x) (fun x hx => hw x (List.mem_cons_of_mem _ hx)) h hx
    rw [List.sum_cons]
    omega
theorem cut_ints (ws : List Int) (lo hi : Option Int) : ∃ ys : List Int, cutV (ws.map V.int) lo hi = ys.map V.int := by
  unfold cutV
  exact ⟨(ws.drop _).take _, by rw [List.map_take, List.map_drop]⟩
end Th
namespace Pm
/-! the order of the rests -/
def byRest (rs : List Int) : Nat → Nat → Bool := fun p q => decide (-(rs.getD p 0) < -(rs.getD q 0) ∨ (-(rs.getD p 0) = -(rs.getD q 0) ∧ (p : Int) ≤ (q : Int)))
/-- k is ahead of j -/
def isAhead (rs : List Int) (k j : Nat) : Bool := decide (rs.getD j 0 < rs.getD k 0 ∨ (rs.getD k 0 = rs.getD j 0 ∧ k < j))
def aheadOf (rs : List Int) (j : Nat) : Nat := ((List.range rs.length).filter fun k => isAhead rs k j).length
theorem byRest_trans (rs : List Int) (a b c : Nat) (h1 : byRest rs a b = true) (h2 : byRest rs b c = true) : byRest rs a c = true := by
  unfold byRest at *
  rw [decide_eq_true_eq] at *
  omega
theorem byRest_total (rs : List Int) (a b : Nat) : (byRest rs a b || byRest rs b a) = true := by
  unfold byRest
  rw [Bool.or_eq_true, decide_eq_true_eq, decide_eq_true_eq]
  omega
theorem ahead_of_le {rs : List Int} {k j : Nat} (h : byRest rs k j = true) (n : k ≠ j) : isAhead rs k j = true := by
  unfold byRest at h
  unfold isAhead
  rw [decide_eq_true_eq] at *
  omega
theorem not_ahead {rs : List Int} {k j : Nat} (h : byRest rs j k = true) : isAhead rs k j = false := by
  unfold byRest at h
  unfold isAhead
  rw [decide_eq_true_eq] at h
  rw [decide_eq_false_iff_not]
  omega
theorem pos_count {rs : List Int} : ∀ {S : List Nat} {i j : Nat}, S.Pairwise (fun a b => byRest rs a b = true) → S.Nodup → S[i]? = some j → (S.filter fun k => isAhead rs k j).length = i
  | [], i, j, _, _, h => by simp at h
  | x :: S, 0, j, hp, hn, h => by
    have e : x = j := Option.some.inj h
    subst e
    rw [List.pairwise_cons] at hp
    have h1 : isAhead rs x x = false := by
      unfold isAhead
      rw [decide_eq_false_iff_not]
      omega
    rw [List.filter_cons_of_neg (by rw [h1]; simp), List.length_eq_zero_iff, List.filter_eq_nil_iff]
    intro a ha
    rw [not_ahead (hp.1 a ha)]
    simp
  | x :: S, i + 1, j, hp, hn, h => by
    rw [List.pairwise_cons] at hp
    rw [List.nodup_cons] at hn
    have h' : S[i]? = some j := h
    have hm : j ∈ S := List.mem_of_getElem? h'
    have hx : isAhead rs x j = true := ahead_of_le (hp.1 j hm) (fun e => hn.1 (e ▸ hm))
    rw [List.filter_cons_of_pos (p := fun k => isAhead rs k j) hx, List.length_cons, pos_count hp.2 hn.2 h']
/-- who gets a penny more -/
theorem mem_take {rs : List Int} {S : List Nat} (hp : S.Pairwise (fun a b => byRest rs a b = true)) (hn : S.Nodup) (hS : S.Perm (List.range rs.length)) {j m : Nat} (hj : j < rs.length) : j ∈ S.take m ↔ aheadOf rs j < m := by
  have hm : j ∈ S := hS.mem_iff.mpr (List.mem_range.mpr hj)
  obtain ⟨i, hi⟩ := List.getElem?_of_mem hm
  have e : aheadOf rs j = i := by
    unfold aheadOf
    rw [← (hS.filter _).length_eq]
    exact pos_count hp hn hi
  rw [e]
  constructor
  · intro h
    obtain ⟨i', h'⟩ := List.getElem?_of_mem h
    have lt : i' < m := by
      have := (List.getElem?_eq_some_iff.mp h').1
      rw [List.length_take] at this
      omega
    rw [List.getElem?_take_of_lt lt] at h'
    have := pos_count hp hn h'
    have := pos_count hp hn hi
    omega
  · intro h
    have : (S.take m)[i]? = some j := by rw [List.getElem?_take_of_lt h]; exact hi
    exact List.mem_of_getElem? this
/-! a penny more at each of js -/
def bump (t : List Int) (js : List Nat) : List Int := js.foldl (fun t j => t.set j (t.getD j 0 + 1)) t
theorem bump_snoc (t : List Int) (js : List Nat) (j : Nat) : bump t (js ++ [j]) = (bump t js).set j ((bump t js).getD j 0 + 1) := by
  unfold bump
  rw [List.foldl_append]
  rfl
theorem bump_len : ∀ (js : List Nat) (t : List Int), (bump t js).length = t.length
  | [], t => rfl
  | j :: js, t => by
    show (bump (t.set j _) js).length = t.length
    rw [bump_len js, List.length_set]
theorem bump_get : ∀ (js : List Nat) (t : List Int) (i : Nat), js.Nodup → i < t.length → (bump t js).getD i 0 = t.getD i 0 + (if i ∈ js then 1 else 0)
  | [], t, i, _, _ => by simp [bump]
  | j :: js, t, i, hn, hi => by
    rw [List.nodup_cons] at hn
    show (bump (t.set j (t.getD j 0 + 1)) js).getD i 0 = _
    rw [bump_get js _ i hn.2 (by rw [List.length_set]; exact hi)]
    by_cases e : i = j
    · subst e
      rw [if_neg hn.1, if_pos (List.mem_cons_self ..)]
      rw [List.getD_eq_getElem?_getD, List.getElem?_set_self hi]
      show t.getD i 0 + 1 + 0 = _
      omega
    · have hm : (i ∈ j :: js) ↔ i ∈ js := by
        rw [List.mem_cons]
        exact ⟨fun h => h.resolve_left e, .inr⟩
      rw [List.getD_eq_getElem?_getD, List.getElem?_set_ne (fun h => e h.symm), ← List.getD_eq_getElem?_getD]
      by_cases h : i ∈ js
      · rw [if_pos h, if_pos (hm.mpr h)]
      · rw [if_neg h, if_neg (fun z => h (hm.mp z))]
theorem set_sum : ∀ (t : List Int) (j : Nat), j < t.length → (t.set j (t.getD j 0 + 1)).sum = t.sum + 1
  | [], j, h => by simp at h
  | x :: t, 0, _ => by
    show ((x + 1) :: t).sum = (x :: t).sum + 1
    rw [List.sum_cons, List.sum_cons]
    omega
  | x :: t, j + 1, h => by
    show (x :: t.set j (t.getD j 0 + 1)).sum = (x :: t).sum + 1
    rw [List.sum_cons, List.sum_cons, set_sum t j (by simpa using h)]
    omega
theorem bump_sum : ∀ (js : List Nat) (t : List Int), (∀ j ∈ js, j < t.length) → (bump t js).sum = t.sum + js.length
  | [], t, _ => by simp [bump]
  | j :: js, t, h => by
    show (bump (t.set j (t.getD j 0 + 1)) js).sum = _
    rw [bump_sum js _ (fun i hi => by rw [List.length_set]; exact h i (List.mem_cons_of_mem _ hi)), set_sum t j (h j (List.mem_cons_self ..)), List.length_cons]
    omega
/-! the parts -/
def told (p : Int) (ws : List Int) : List Int := ws.map fun w => p * w / ws.sum
def rests (p : Int) (ws : List Int) : List Int := ws.map fun w => p * w % ws.sum
def left (p : Int) (ws : List Int) : Int := p - (told p ws).sum
def order (p : Int) (ws : List Int) : List Nat := (List.range ws.length).mergeSort (byRest (rests p ws))
def partsM (p : Int) (ws : List Int) : List Int := if ws.sum = 0 then List.replicate ws.length 0 else bump (told p ws) ((order p ws).take (left p ws).toNat)
def lawParts (p : Int) (ws : List Int) : List Int := (List.range ws.length).map fun j => (told p ws).getD j 0 + (if (aheadOf (rests p ws) j : Int) < left p ws then 1 else 0)
theorem told_rests (p W : Int) : ∀ ws : List Int, (ws.map fun w => p * w / W).sum * W + (ws.map fun w => p * w % W).sum = p * ws.sum
  | [] => by simp
  | w :: ws => by
    have ih := told_rests p W ws
    rw [List.map_cons, List.map_cons, List.sum_cons, List.sum_cons, List.sum_cons, Int.add_mul, Int.mul_add]
    have e := Int.mul_ediv_add_emod (p * w) W
    rw [Int.mul_comm W] at e
    omega
theorem rests_nonneg {p W : Int} (hW : 0 < W) : ∀ ws : List Int, 0 ≤ (ws.map fun w => p * w % W).sum
  | [] => by simp
  | w :: ws => by
    have ih := rests_nonneg (p := p) hW ws
    have := Int.emod_nonneg (p * w) (show W ≠ 0 by omega)
    rw [List.map_cons, List.sum_cons]
    omega
theorem rests_lt {p W : Int} (hW : 0 < W) : ∀ ws : List Int, (ws.map fun w => p * w % W).sum ≤ ws.length * (W - 1)
  | [] => by simp
  | w :: ws => by
    have ih := rests_lt (p := p) hW ws
    have := Int.emod_lt_of_pos (p * w) hW
    rw [List.map_cons, List.sum_cons, List.length_cons]
    have e : ((ws.length + 1 : Nat) : Int) * (W - 1) = ws.length * (W - 1) + (W - 1) := by
      rw [Int.natCast_add, Int.add_mul]
      omega
    rw [e]
    omega
theorem left_eq (p : Int) {ws : List Int} : left p ws * ws.sum = (rests p ws).sum := by
  have h := told_rests p ws.sum ws
  unfold left
  rw [Int.sub_mul]
  unfold told rests
  omega
theorem left_nonneg (p : Int) {ws : List Int} (hW : 0 < ws.sum) : 0 ≤ left p ws := by
  have h1 := left_eq p (ws := ws)
  have h2 : 0 ≤ (rests p ws).sum := rests_nonneg hW ws
  rw [← h1] at h2
  exact Int.nonneg_of_mul_nonneg_left h2 hW
theorem left_le (p : Int) {ws : List Int} (hW : 0 < ws.sum) : left p ws ≤ ws.length := by
  have h1 := left_eq p (ws := ws)
  have h2 : (rests p ws).sum ≤ ws.length * (ws.sum - 1) := rests_lt hW ws
  rw [← h1] at h2
  have h3 : (ws.length : Int) * (ws.sum - 1) ≤ ws.length * ws.sum := Int.mul_le_mul_of_nonneg_left (by omega) (by omega)
  exact Int.le_of_mul_le_mul_right (Int.le_trans h2 h3) hW
theorem order_perm (p : Int) (ws : List Int) : (order p ws).Perm (List.range ws.length) := List.mergeSort_perm _ _
theorem order_nodup (p : Int) (ws : List Int) : (order p ws).Nodup := (order_perm p ws).nodup_iff.mpr List.nodup_range
theorem order_len (p : Int) (ws : List Int) : (order p ws).length = ws.length := by rw [(order_perm p ws).length_eq, List.length_range]
theorem order_sorted (p : Int) (ws : List Int) : (order p ws).Pairwise (fun a b => byRest (rests p ws) a b = true) := List.pairwise_mergeSort (byRest_trans _) (byRest_total _) _
theorem rests_len (p : Int) (ws : List Int) : (rests p ws).length = ws.length := by unfold rests; rw [List.length_map]
theorem told_len (p : Int) (ws : List Int) : (told p ws).length = ws.length := by unfold told; rw [List.length_map]
theorem order_lt {p : Int} {ws : List Int} {j : Nat} (h : j ∈ order p ws) : j < ws.length := List.mem_range.mp ((order_perm p ws).mem_iff.mp h)
theorem partsM_len (p : Int) (ws : List Int) : (partsM p ws).length = ws.length := by
  unfold partsM
  split
  · rw [List.length_replicate]
  · rw [bump_len, told_len]
theorem lawParts_len (p : Int) (ws : List Int) : (lawParts p ws).length = ws.length := by unfold lawParts; rw [List.length_map, List.length_range]
theorem ext_getD {a b : List Int} (hl : a.length = b.length) (h : ∀ i, i < a.length → a.getD i 0 = b.getD i 0) : a = b := by
  apply List.ext_getElem hl
  intro i h1 h2
  have := h i h1
  rw [List.getD_eq_getElem?_getD, List.getD_eq_getElem?_getD, List.getElem?_eq_getElem h1, List.getElem?_eq_getElem h2] at this
  exact this
theorem parts_eq (p : Int) {ws : List Int} (hW : 0 < ws.sum) : partsM p ws = lawParts p ws := by
  refine ext_getD (by rw [partsM_len, lawParts_len]) fun i hi => ?_
  rw [partsM_len] at hi
  have hn : ((order p ws).take (left p ws).toNat).Nodup := (order_nodup p ws).sublist (List.take_sublist _ _)
  have e1 : partsM p ws = bump (told p ws) ((order p ws).take (left p ws).toNat) := by
    unfold partsM
    rw [if_neg (by omega)]
  rw [e1, bump_get _ _ _ hn (by rw [told_len]; exact hi)]
  have e2 : (lawParts p ws).getD i 0 = (told p ws).getD i 0 + (if (aheadOf (rests p ws) i : Int) < left p ws then 1 else 0) := by
    unfold lawParts
    rw [List.getD_eq_getElem?_getD, List.getElem?_map, List.getElem?_range hi]
    rfl
  rw [e2]
  have hm := mem_take (order_sorted p ws) (order_nodup p ws) (by rw [rests_len]; exact order_perm p ws) (j := i) (m := (left p ws).toNat) (by rw [rests_len]; exact hi)
  have h0 := left_nonneg p hW
  by_cases h : i ∈ (order p ws).take (left p ws).toNat
  · rw [if_pos h, if_pos (by have := hm.mp h; omega)]
  · rw [if_neg h, if_neg (fun z => h (hm.mpr (by omega)))]
theorem parts_sum (p : Int) {ws : List Int} (hW : 0 < ws.sum) : (partsM p ws).sum = p := by
  have e1 : partsM p ws = bump (told p ws) ((order p ws).take (left p ws).toNat) := by
    unfold partsM
    rw [if_neg (by omega)]
  have h0 := left_nonneg p hW
  have h1 := left_le p hW
  rw [e1, bump_sum _ _ (fun j hj => by rw [told_len]; exact order_lt (List.mem_of_mem_take hj)), List.length_take, order_len]
  have : min (left p ws).toNat ws.length = (left p ws).toNat := by omega
  rw [this]
  unfold left at *
  omega
theorem sum_zeros : ∀ n : Nat, (List.replicate n (0 : Int)).sum = 0
  | 0 => rfl
  | n + 1 => by rw [List.replicate_succ, List.sum_cons, sum_zeros n]; rfl
theorem parts_zero {ws : List Int} : partsM 0 ws = List.replicate ws.length 0 := by
  unfold partsM
  split
  · rfl
  · rename_i h
    have ht : told 0 ws = List.replicate ws.length 0 := by
      unfold told
      rw [List.eq_replicate_iff]
      refine ⟨List.length_map _, fun b hb => ?_⟩
      obtain ⟨w, _, rfl⟩ := List.mem_map.mp hb
      rw [Int.zero_mul, Int.zero_ediv]
    have hl : left 0 ws = 0 := by
      unfold left
      rw [ht, sum_zeros]
      rfl
    rw [hl, ht]
    rfl
theorem told_nonneg {p : Int} {ws : List Int} (hp : 0 ≤ p) (hw : ∀ w ∈ ws, 0 ≤ w) (hW : 0 < ws.sum) : ∀ x ∈ told p ws, 0 ≤ x := fun x hx => by
  obtain ⟨w, hm, rfl⟩ := List.mem_map.mp hx
  exact Int.ediv_nonneg (Int.mul_nonneg hp (hw w hm)) (by omega)
end Pm
namespace Lk
open PySem PySem.W PySem.Calls PyProof.Rows
section
variable {prog : Program} {w : World} {A : Around} {E : Value → Shared → Prop} {s : Shared}
theorem each_of {α β : Type} {R : α → β → Prop} : ∀ {as : List α} {bs : List β}, as.length = bs.length → (∀ (i : Nat) a b, as[i]? = some a → bs[i]? = some b → R a b) → EachIs R as bs
  | [], [], _, _ => .nil
  | [], _ :: _, h, _ => by simp at h
  | _ :: _, [], h, _ => by simp at h
  | a :: as, b :: bs, h, r => .cons (r 0 a b rfl rfl) (each_of (by simpa using h) fun i x y hx hy => r (i + 1) x y hx hy)
theorem each_range (R : Nat → Value → Prop) {vs : List Value} {n : Nat} (hl : vs.length = n) (h : ∀ j v, vs[j]? = some v → R j v) : EachIs (fun v x => R x v) vs (List.range n) := by
  refine each_of (by rw [hl, List.length_range]) fun i a b ha hb => ?_
  have hi : i < n := by
    rw [← hl]
    exact (List.getElem?_eq_some_iff.mp ha).1
  rw [List.getElem?_range hi] at hb
  have e := Option.some.inj hb
  subst e
  exact h _ _ ha
/-- a range's items, gathered: the gathering list stays, so the heap has grown -/
theorem gather_range {r : Addr} {n : Nat} {t u v : Tok} {G : List Value → Shared → Prop} (nh : A.handled = none) (ir : IsRange s.heap r 0 n 1 t u v) (nn : n ≤ 5000)
    (cont : ∀ (g : Heap) (k : Nat) (xs : Array Value), (∀ b o, s.heap.get? b = some o → g.get? b = some o) → s.heap.objs.size < g.objs.size →
      ItemsOf (fun i v => ∃ t, v = Value.int (0 + i * 1) t) xs n → G xs.toList { s with heap := g, toks := k }) : wpAny (model prog w) A (collect (.ref r)) G E s := by
  have sm : Builtin.Range.small 0 n 1 = true := small_one (by omega) (by omega) (by omega) (by omega)
  have sz : Builtin.Range.rangeSize 0 n 1 = n := by
    have z := rangeSize_nat 0 (n : Int)
    rw [z]
    omega
  have fits : n ≤ 2 ^ 24 := Nat.le_trans nn (by decide)
  let o0 : Obj := { cls := .type "list", data := .seq ([] : List Value).toArray }
  have at0 : (s.heap.push o0).get? s.heap.objs.size = some { cls := .type "list", data := .seq #[] 0 } := Heap.get?_push_size _ rfl
  let Good : Result → Shared → Prop := fun rr z => rr = .ok (.ret (.ref s.heap.objs.size)) ∧ ∃ g k xs c, z = { s with heap := g, toks := k } ∧ (∀ b o, s.heap.get? b = some o → g.get? b = some o) ∧
    g.get? s.heap.objs.size = some { cls := .type "list", dict := none, data := .seq xs c, slots := #[] } ∧ ItemsOf (fun i v => ∃ t, v = Value.int (0 + i * 1) t) xs n
  have ext := wpAny_extend_range (prog := prog) (w := w) (A := A) (R := Good) (s := { s with heap := s.heap.push o0 }) nh (Heap.get?_push_of_some _ ir) sm sz fits s.heap.objs.size (.ref s.heap.objs.size) 0 at0
    (fun g k xs c kk ee ii => ⟨rfl, g, k, xs, c, rfl, fun b o q => kk b o (Nat.ne_of_lt (Heap.lt_size q)) (Heap.get?_push_of_some _ q), ee, ii⟩)
  have fin : ∀ z, Good (.ok (.ret (.ref s.heap.objs.size))) z → ∃ g k xs c, z = { s with heap := g, toks := k } ∧ g.get? s.heap.objs.size = some { cls := .type "list", dict := none, data := .seq xs c, slots := #[] } ∧ G xs.toList z := by
    rintro z ⟨_, g, k, xs, c, rfl, kk, ee, ii⟩
    exact ⟨g, k, xs, c, rfl, ee, cont g k xs kk (Heap.lt_size ee) ii⟩
  unfold collect
  refine wpAny_bind (wpAny_runValue (codeAny_builtin F.entry_proto_collect ?_))
  rw [Around.under_plainId F.plain_proto_collect _]
  refine wpAny_bind (wpAny_newObj_type ?_)
  refine wpAny_pure ⟨plainId_quiet F.plain_list_iadd _, codeAny_builtin F.entry_list_iadd ?_⟩
  rw [Around.under_plainId F.plain_list_iadd _]
  refine wpAny_mono ext (fun f z hz => ?_) (fun e z hz => absurd hz.1 (by simp))
  have last : ∀ z', Good (.ok (.ret (.ref s.heap.objs.size))) z' → wpAny (model prog w) A (load s.heap.objs.size >>= fun o => match o.data with | .seq xs _ => pure xs.toList | _ => unsupported "internal:collect") G E z' := fun z' q => by
    obtain ⟨g, k, xs, c, rfl, ee, gg⟩ := fin z' q
    exact wpAny_bind (wpAny_load ee (wpAny_pure gg))
  cases f with
  | done f =>
    have e1 : f = .ret (.ref s.heap.objs.size) := by
      obtain ⟨e, _⟩ := hz
      cases e
      rfl
    subst e1
    exact last z hz
  | again c' =>
    refine ⟨hz.1, codeAny_mono hz.2 fun rr z' hr' => ?_⟩
    have e1 : rr = .ok (.ret (.ref s.heap.objs.size)) := hr'.1
    subst e1
    exact last z' hr'
/-- sorted(range(n), key=f), f's calls keeping all that stood -/
theorem sorted_range_key {r q : Addr} {n : Nat} {t u v : Tok} {Q : Value → Shared → Prop} (k : Nat → PyData) (hh : A.handled = none) (hr : IsRange s.heap r 0 n 1 t u v) (hn : n ≤ 5000) (hal : AllAlike ((List.range n).map k)) (hk : Sortable ((List.range n).map k))
    (hu : ∀ x, A.units + 2 + (k x).depth < cLine)
    (turn : ∀ (v : Value) (x : Nat), (∃ t, v = .int x t) → x < n → ∀ (h : Heap) (tk : Nat), (∀ b o, s.heap.get? b = some o → h.get? b = some o) →
      wpAny (model prog w) A.in1.in1 (call (.ref q) [v]) (KeyPure (k x) { s with heap := h, toks := tk }) (fun _ _ => False) { s with heap := h, toks := tk })
    (h : ∀ (out : List Value) (p : Addr) (c : Nat) (h' : Heap) (tk : Nat), (∀ b o, s.heap.get? b = some o → h'.get? b = some o) → s.heap.objs.size ≤ p → h'.get? p = some (seqObj "list" out.toArray c) →
      EachIs (fun v x => ∃ t, v = .int ((x : Nat) : Int) t) out ((List.range n).mergeSort (dataLe false k)) → Q (.ref p) { s with heap := h', toks := tk }) :
    wpAny (model prog w) A (call (.builtin "sorted") [.ref r] [(Str.ofString "key", .ref q)]) Q E s := by
  have hL : ∀ {m : Nat}, m ≤ 5000 → m ≤ sizeLine := fun hm => Nat.le_trans hm (by decide)
  refine call_function_entry_kw kind_sorted plain_sorted entry_sorted (ksk_s1 _ _) ?_
  unfold Builtin.«sorted»
  refine wpAny_bind (m := checkCount "sorted" 1 1 _) (wpAny_pure ?_)
  refine wpAny_bind (gather_range (A := A.in1) hh hr hn fun h1 tk1 acc hk1 hgrow hacc => ?_)
  obtain ⟨hsz, hget⟩ := hacc
  have hlen : acc.toList.length = n := by rw [Array.length_toList]; exact hsz
  have each : EachIs (fun v x => ∃ t, v = Value.int ((x : Nat) : Int) t) acc.toList (List.range n) := by
    refine each_range (fun i v => ∃ t, v = Value.int ((i : Nat) : Int) t) hlen fun j v hj => ?_
    obtain ⟨t, e⟩ := hget j v (by rw [← hj, Array.getElem?_toList])
    exact ⟨t, by rw [e]; congr 1; omega⟩
  refine wpAny_bind (wpAny_newList ?_ (by rw [hlen]; exact hL hn))
  have ha : (h1.push (seqObj "list" acc.toList.toArray 0)).get? h1.objs.size = some (seqObj "list" acc.toList.toArray 0) := Heap.get?_push_size _ rfl
  have up : ∀ {g : Heap}, KeepsBut h1.objs.size (h1.push (seqObj "list" acc.toList.toArray 0)) g → ∀ b o, s.heap.get? b = some o → g.get? b = some o := fun {g} kp b o q =>
    kp b o (Nat.ne_of_lt (Heap.lt_size (hk1 b o q))) (Heap.get?_push_of_some _ (hk1 b o q))
  refine wpAny_bind (wpAny_holding (wpAny_call_entry_kw slot_list_sort ⟨_, ha, rfl⟩ entry_list_sort ?body (ksk_l1 _ _)))
  case body =>
    show wpAny (model prog w) A.in1.in1 (Builtin.«list.sort» ⟨[.ref h1.objs.size], [(Str.ofString "key", .ref q)]⟩) _ _ _
    rw [ksk_t1]
    refine keyH_tree (kz := (List.range n).map k) (s := { s with heap := h1.push (seqObj "list" acc.toList.toArray 0), toks := tk1 }) ha (by rw [List.length_map, List.length_range, hlen]) (by rw [hlen]; exact hL hn) hal hk (bound_map (A := A.in1.in1) fun x _ => hu x)
      (keyH_turns (s := { s with heap := h1.push (seqObj "list" acc.toList.toArray 0), toks := tk1 }) each fun v x hR hx h tk kp => turn v x hR (List.mem_range.mp hx) h tk (up kp)) fun h' tk out c kp hD ko => ?_
    exact ⟨_, rfl, wpAny_pure ⟨_, rfl, h out h1.objs.size c h' tk (up kp) (Nat.le_of_lt hgrow) hD (keyedOut_each k ko each)⟩⟩
end
end Lk
namespace Lk
open PySem PySem.W PySem.Calls PyProof.Rows
section
variable {prog : Program} {w : World} {A : Around} {E : Value → Shared → Prop} {s : Shared}
/-- (-y[z], z), z the parameter, y captured: the state but for a new tuple and a token is as it was -/
theorem key_eval {env : Env} {m : Str → Option Value} {y z : Str} {c l : Addr} {its : Array Value} {x kk : Nat} {t tr : Tok} {ri : Int} {p1 p2 p3 p4 p5 p6 : Pos} (hk : env.scope.kind = .function) (hz : env.kindOf z = some .local)
    (hn : s.heap.Ns env.locals m) (hm : m z = some (.int x t)) (hy : env.kindOf y = some .free) (hc : env.cells.lookup y = some c) (hcell : s.heap.IsCell c (some (.ref l))) (hl : s.heap.IsList l its) (hx : its[x]? = some (.int ri tr)) (hfit : x < 5000)
    (dz : (z == ("__debug__" : Str)) = false) (dy : (y == ("__debug__" : Str)) = false) (cy : (y == ("__classdict__" : Str)) = false) :
    wpAny (model prog w) A (eval (.Tuple [.UnaryOp .USub (.Subscript (.Name y p1) (.Name z p2) p3) p4, .Name z p5] kk p6) env) (KeyPure (.tuple [.int (-ri), .int x]) s) E s := by
  refine wpAny_Tuple_spliced ?_
  show wpAny _ _ (spliced ((false, eval (.UnaryOp .USub (.Subscript (.Name y p1) (.Name z p2) p3) p4) env) :: backTo p6 (starEach [.Name z p5] env))) _ _ s
  refine Calls.spliced_cons (UnaryOp_ (Subscript_ (wpAny_Name (wpAny_loadName_free hk hy hc hcell (wpAny_Name (wpAny_loadName_local hk hz hn hm ?_) dz) cy) dy)))
  refine item_listR hl (by omega) (by omega) (by simpa using hx) (neg_int ?_) (by intros; rfl)
  show wpAny _ _ (spliced ((false, eval (.Name z p5) env) :: backTo p6 (starEach [] env))) _ _ _
  refine Calls.spliced_cons (wpAny_Name (wpAny_loadName_local hk hz (show Heap.Ns s.heap env.locals m from hn) hm ?_) dz)
  refine Calls.spliced_nil ⟨by show 2 ≤ sizeLine; decide, ?_⟩
  exact ⟨_, _, rfl, fun b o e => Heap.get?_push_of_some _ e, .tuple (as := []) (Heap.get?_push_size _ rfl) rfl rfl (.cons (as := []) (bs := []) (.int _ _) (.cons (as := []) (bs := []) (.int _ _) .nil))⟩
end
end Lk
namespace Lk
open PySem PySem.Spec PyProof.Rows L2 LamX
/-- the lambda's names: its parameter z, the captured y -/
structure Lam1 (sc scope : Scope) (z y : Str) : Prop where
  kind : scope.kind = .function
  co : scope.isCoroutine = false
  gen : scope.isGenerator = false
  nc : ∀ q ∈ scope.names, q.2 ≠ .cell
  z : scope.names.lookup z = some .local
  y : scope.names.lookup y = some .free
  free : ∀ q ∈ scope.names, q.2 = .free → sc.names.lookup q.1 = some .cell
theorem lam1_by {sc scope : Scope} {z y : Str} (h1 : scope.kind = .function) (h2 : scope.isCoroutine = false) (h3 : scope.isGenerator = false) (h4 : (scope.names.all fun q => !decide (q.2 = .cell)) = true) (h5 : scope.names.lookup z = some .local) (h6 : scope.names.lookup y = some .free)
    (h7 : (scope.names.all fun q => !decide (q.2 = .free) || decide (sc.names.lookup q.1 = some .cell)) = true) : Lam1 sc scope z y := by
  refine ⟨h1, h2, h3, fun q hq e => ?_, h5, h6, fun q hq e => ?_⟩
  · have := List.all_eq_true.mp h4 q hq
    rw [e] at this
    simp at this
  · have := List.all_eq_true.mp h7 q hq
    rw [e] at this
    simpa using this
def keyOf (rs : List Int) (p : Nat) : PyData := .tuple [.int (-(rs.getD p 0)), .int ((p : Nat) : Int)]
def tSortLam (ta : TE) (iy : Nat) (P : Addr) (q : Str) : TE := fun σ H Q => ta σ H fun x H1 => ∃ (n : Nat) (l : Addr) (rs : List Int), x = .int n ∧ n ≤ 5000 ∧ rs.length = n ∧ σ[iy]? = some (some (.ref l)) ∧ H1 l = some (.lst (rs.map V.int)) ∧ TabS H1 P q ∧
  ∀ H2 p, ExtN H1 H2 → TabS H2 P q → H2 p = none → Q (.ref p) (upd H2 p (.lst (((List.range n).mergeSort (Pm.byRest rs)).map fun j => V.int ((j : Nat) : Int))))
section
variable {X : Cx}
theorem pe_sortedLam {c P : Addr} {k iy kk : Nat} {a : Expr} {ta : TE} {params : Arguments} {scope : Scope} {z y : Str} {p pr pr2 p1 p2 p3 p4 p5 p6 lpos kpos pos : Pos} (hcalm : X.calm = true) (hg : Gl X "sorted") (hm : X.mg "sorted" = none) (hgr : Gl X "range") (hmr : X.mg "range" = none) (ha : PE X a ta)
    (TB : TabB X.base X.mg c P) (hcode : X.env.code = .ref c) (L : Lam1 X.env.scope scope z y) (hN : X.N[iy]? = some y) (hdef : defaultsOf params X.env = ([], []))
    (hbind : ∀ (q : Str) (b : Expr) (cl : List (Str × Addr)) (pm cv ctv v : Value), bindArgs (PySem.W.kla_fn "<lambda>" q params b scope cl pm cv ctv) ⟨[v], []⟩ = pure [(z, v)]) (hr : Room (k + 3) X.A)
    (dz : (z == ("__debug__" : Str)) = false) (dy : (y == ("__debug__" : Str)) = false) (cy : (y == ("__classdict__" : Str)) = false)
    (na : starEach [a] X.env = (false, eval a X.env) :: starEach [] X.env := by rfl) :
    PE X (.Call (.Name "sorted" p) [.Call (.Name "range" pr) [a] [] pr2] [⟨some "key", .Lambda params (.Tuple [.UnaryOp .USub (.Subscript (.Name y p1) (.Name z p2) p3) p4, .Name z p5] kk p6) scope lpos, kpos⟩] pos)
      (tSortLam ta iy P (X.env.qual ++ "<lambda>")) := by
  refine ⟨fun pins s σ H Q I h => ?_⟩
  refine wpAny_Call_Name_kw (ld_blt I hg hm boot_sorted ?_)
  refine PyProof.Rows.callWith_kw ?_
  refine Calls.spliced_cons (Call_ (ld_blt I hgr hmr boot_range (PyProof.Rows.callWith_type1 (one_arg ha I h (fun v s2 x H2 I2 rv q => ?_) na) na)))
  obtain ⟨n, l, rs, rfl, hn, hlen, hsl, hl, hT, q⟩ := q
  obtain ⟨tn, rfl⟩ := rv
  refine call_range_1 (Calls.spliced_nil ?_)
  -- the range object is pinned, the lambda made
  let ro : Obj := { cls := .type "range", data := .fields #[.int 0 s2.toks, .int n tn, .int 1 (s2.toks + 1)] }
  have I3 : Inv X pins σ H2 { s2 with heap := s2.heap.push ro, toks := s2.toks + 1 + 1 } := I2.kept fun b u e => Heap.get?_push_of_some _ e
  have fr : H2 s2.heap.objs.size = none := I2.hok.fresh (Nat.le_refl _)
  have I4 : Inv X ((s2.heap.objs.size, ro) :: pins) σ H2 { s2 with heap := s2.heap.push ro, toks := s2.toks + 1 + 1 } := I3.pins_of fun pp hp => by
    rcases List.mem_cons.mp hp with e | e
    · rw [e]
      exact ⟨Heap.get?_push_size _ rfl, fr, Nat.ne_of_gt I2.lt, I2.nofs (Nat.le_refl _), fun v e => nomatch e⟩
    · exact I3.pin pp (List.mem_append_right _ e)
  show wpAny _ _ (evalAll ((do let v ← eval (.Lambda params (.Tuple [.UnaryOp .USub (.Subscript (.Name y p1) (.Name z p2) p3) p4, .Name z p5] kk p6) scope lpos) X.env; standAt pos; pure v) :: [])) _ _ _
  have hfree : ∀ q ∈ scope.names, q.2 = .free → ∃ c, X.env.cells.lookup q.1 = some c := fun q hq e => I2.ok.has _ (.inl (L.free q hq e))
  refine wpAny_evalAll_cons (wpAny_bind (lam_make2 (T := [(P, X.env.qual ++ "<lambda>")]) I4 TB hcode (by simp) (fun pp hp _ => by simp at hp; rw [hp]) (fun pp hp => by simp at hp; rw [hp]; exact hT) hdef hfree
    fun f c' pm ctv H3 s4 I5 eN T5 hf hfn hfr hco => wpAny_bind (wpAny_standAt (wpAny_pure (wpAny_evalAll_nil ?_)))))
  have hro : s4.heap.get? s2.heap.objs.size = some ro := (I5.pin (s2.heap.objs.size, ro) (by simp)).1
  have I6 : Inv X pins σ H3 s4 := I5.pins_of fun pp hp => I5.pin pp (List.mem_append_right _ (List.mem_cons_of_mem _ hp))
  have hT3 : TabS H3 P (X.env.qual ++ "<lambda>") := T5 _ (List.mem_singleton.mpr rfl)
  have hl3 : H3 l = some (.lst (rs.map V.int)) := eN _ _ hl fun ps e => nomatch e
  -- the captured list
  obtain ⟨hz5, its, m5, vits, gl⟩ := (show ObjOk X.prog X.w H3 s4.heap l (.lst (rs.map V.int)) from I6.hok l _ hl3)
  obtain ⟨m, hns, hloc⟩ := I6.loc
  have ysc : X.env.scope.names.lookup y = some .cell := L.free (y, .free) (PySem.mem_of_lookup L.y) rfl
  obtain ⟨u, ru, lk⟩ := hloc iy y (.ref l) hN hsl (.inr (.inl ysc))
  cases (show u = Value.ref l from ru)
  obtain ⟨cc, hcc, hcell⟩ : ∃ c, X.env.cells.lookup y = some c ∧ s4.heap.IsCell c (some (.ref l)) := by
    rcases lk with ⟨k1, _⟩ | ⟨_, c1, e1, e2⟩
    · rw [show X.env.scope.names.lookup y = some .local from k1] at ysc
      cases ysc
    · exact ⟨c1, e1, e2⟩
  have clk : (cloFrom X.env.cells scope.names []).lookup y = some cc := by
    obtain ⟨c2, h2⟩ := mem_lookup (cloFrom_has (cells := X.env.cells) (acc := []) (PySem.mem_of_lookup L.y))
    rcases cloFrom_mem (PySem.mem_of_lookup h2) with hm | ⟨_, h4⟩
    · cases hm
    · rw [h2, h4, hcc]
      rfl
  obtain ⟨⟨oc, vs, t, hoc, hdc, hvc⟩, _, _⟩ := I6.hok c' _ hco
  refine sorted_range_key (n := n) (t := s2.toks) (u := tn) (v := s2.toks + 1) (keyOf rs) (I6.ok.hd hcalm) hro hn ?_ ?_ ?_ ?_ ?_
  · intro d hd d' hd'
    obtain ⟨i, _, rfl⟩ := List.mem_map.mp hd
    obtain ⟨j, _, rfl⟩ := List.mem_map.mp hd'
    rfl
  · exact PySem.W.Sortable.tuples fun b => ⟨_, _, rfl⟩
  · intro i
    have := hr.units
    show X.A.units + 2 + 1 < cLine
    omega
  · -- a call of the lambda
    rintro v i ⟨tv, rfl⟩ hi g tk kp
    have hi2 : i < rs.length := by omega
    have gi : (rs.map V.int)[i]? = some (.int rs[i]) := by
      rw [List.getElem?_map, List.getElem?_eq_getElem hi2]
      rfl
    obtain ⟨w0, ew, tr, rfl⟩ := vits.get gi
    have eg : rs.getD i 0 = rs[i] := by
      rw [List.getD_eq_getElem?_getD, List.getElem?_eq_getElem hi2]
      rfl
    have dp := (hr.in1.in1 : Room (k + 1) X.A.in1.in1).depth
    refine wpAny_call (codeAny_mono (R := fun r s' => ∃ v, r = .ok (.ret v) ∧ PySem.W.KeyPure (keyOf rs i) { s4 with heap := g, toks := tk } v s') ?_ fun r s' hq => ?_)
    · refine PySem.W.kla_callFunE dp (kp _ _ hf) rfl L.co L.gen rfl ⟨c', oc, vs, t, rfl, kp _ _ hoc, hdc, hvc⟩ ?_
      rw [hbind]
      refine wpAny_pure (wpAny_newFunctionEnv L.nc (fun q hq => ?_) (fun h1 hn1 hsb => ⟨((I6.kept (t' := tk) kp).nolimit).fresh _ hsb, ?_⟩) L.kind)
      · rw [List.mem_singleton.mp hq]
        exact L.z
      · have k1 : ∀ b o, g.get? b = some o → h1.get? b = some o := fun b o e => hsb.extBut b o (Nat.ne_of_lt (Heap.lt_size e)) (Heap.get?_push_of_some _ e)
        refine PySem.W.kla_codeExpr (wpAny_mono (key_eval (c := cc) (l := l) (its := its.toArray) (x := i) (t := tv) (ri := rs[i]) (tr := tr) L.kind L.z hn1 (by simp) L.y clk ?_ ?_ (by simpa using ew) (by omega) dz dy cy) (fun v s' hq => ?_) fun e s' hq => hq)
        · obtain ⟨o, ho, hd⟩ := hcell
          exact ⟨o, k1 _ _ (kp _ _ ho), hd⟩
        · exact ⟨_, k1 _ _ (kp _ _ gl), rfl, _, rfl⟩
        · obtain ⟨h', tk', e, kk', rd⟩ := hq
          refine ⟨v, rfl, h', tk', by rw [e], fun b o q => kk' b o (k1 b o q), ?_⟩
          unfold keyOf
          rw [eg]
          exact rd
    · obtain ⟨v, rfl, hq⟩ := hq
      exact hq
  · -- the new list
    intro out p' c1 h' tk kp hp hD each
    have hv : Vals (((List.range n).mergeSort (Pm.byRest rs)).map fun j => V.int ((j : Nat) : Int)) out := by
      have eo : PySem.W.dataLe false (keyOf rs) = Pm.byRest rs := PySem.W.dataLe_ii (fun p => -(rs.getD p 0)) (fun p => ((p : Nat) : Int))
      rw [eo] at each
      clear hD
      revert each
      generalize (List.range n).mergeSort (Pm.byRest rs) = js
      intro each
      induction each with
      | nil => exact .nil
      | cons r _ ih => exact .cons r ih
    have hlen2 : (((List.range n).mergeSort (Pm.byRest rs)).map fun j => V.int ((j : Nat) : Int)).length ≤ sizeLine := by
      rw [List.length_map, (List.mergeSort_perm _ _).length_eq, List.length_range]
      exact Nat.le_trans hn (by decide)
    exact ⟨.ref p', _, I6.laid kp hp (show ObjOk X.prog X.w _ h' p' (.lst _) from ⟨hlen2, out, c1, hv, hD⟩), rfl, q _ _ eN hT3 (I6.hok.fresh hp)⟩
end
end Lk
/-! max of a list of ints -/
namespace Mx
open PySem PySem.Spec PyProof.Rows L2
def maxI (x : Int) (ys : List Int) : Int := ys.foldl max x
theorem maxI_ge : ∀ (ys : List Int) (x : Int), x ≤ maxI x ys ∧ ∀ y ∈ ys, y ≤ maxI x ys
  | [], x => ⟨Int.le_refl _, fun y hy => by cases hy⟩
  | y :: ys, x => by
    obtain ⟨h1, h2⟩ := maxI_ge ys (max x y)
    show x ≤ maxI (max x y) ys ∧ _
    refine ⟨by omega, fun z hz => ?_⟩
    show z ≤ maxI (max x y) ys
    rcases List.mem_cons.mp hz with e | e
    · rw [e]; omega
    · exact h2 z e
theorem maxI_mem : ∀ (ys : List Int) (x : Int), maxI x ys ∈ x :: ys
  | [], x => List.mem_singleton.mpr rfl
  | y :: ys, x => by
    have h := maxI_mem ys (max x y)
    show maxI (max x y) ys ∈ _
    rcases List.mem_cons.mp h with e | e
    · rw [e]
      by_cases c : x ≤ y
      · rw [Int.max_eq_right c]; exact List.mem_cons_of_mem _ List.mem_cons_self
      · rw [Int.max_eq_left (by omega)]; exact List.mem_cons_self
    · exact List.mem_cons_of_mem _ (List.mem_cons_of_mem _ e)
theorem dpAll_ints {K : PySem.W.Frag} {H : Hp} : ∀ zs : List Int, DpAll K H (zs.map V.int) (zs.map PyData.int)
  | [] => .nil
  | z :: zs => .cons (.int z) (dpAll_ints zs)
theorem depthI : ∀ zs : List Int, PyData.depthAll (zs.map PyData.int) = 0
  | [] => rfl
  | z :: zs => by rw [List.map_cons, PyData.depthAll, depthI zs]; rfl
/-- max(xs), a list of ints -/
def rMaxI (K : PySem.W.Frag) : List V → Hp → VK → Prop := fun vs H Q => ∃ (a : Addr) (x : Int) (ys : List Int), vs = [.ref a] ∧ SqL K H a ((x :: ys).map V.int) ∧ Q (.int (maxI x ys)) H
theorem cr_maxI {X : Cx} (hc : X.calm = true) (hu : X.A.units + 64 < cLine) : CallR X (.builtin "max") (rMaxI X.K) := by
  intro pins s σ H vs us Q I r h
  obtain ⟨a, x, ys, rfl, hs, q⟩ := h
  obtain ⟨its, rv, hl, -⟩ := I.list hs
  rw [Vals.ref1 r]
  obtain ⟨as, hr⟩ := Dp.readsAll I _ _ _ (dpAll_ints (x :: ys)) rv
  have hl : s.heap.IsList a its.toArray := hl.isList
  have hr' : ReadsAll s.heap its.toArray.toList (PyData.int x :: ys.map PyData.int) as := hr
  refine PySem.W.max_list_data (I.ok.hd hc) hl hr' (PySem.W.alikeAll_datum (α := Int) (x :: ys)) ?_ fun i v h' tk bs hv rd hk => ?_
  · have : PyData.depthAll (PyData.int x :: ys.map PyData.int) = 0 := depthI (x :: ys)
    rw [this]
    omega
  · rw [PySem.W.maxD_ints] at rd
    cases rd
    exact ⟨.int (maxI x ys), H, I.kept hk, ⟨_, rfl⟩, q⟩
end Mx
namespace Pm
/-! a sum parted penny by penny to the greatest rest -/
theorem getD_map0 {f : Int → Int} (ws : List Int) {i : Nat} (h : i < ws.length) : (ws.map f).getD i 0 = f (ws.getD i 0) := by
  rw [List.getD_eq_getElem?_getD, List.getD_eq_getElem?_getD, List.getElem?_map, List.getElem?_eq_getElem h]
  rfl
theorem told_at (p : Int) (ws : List Int) {i : Nat} (h : i < ws.length) : (told p ws).getD i 0 = p * ws.getD i 0 / ws.sum := getD_map0 ws h
theorem rests_at (p : Int) (ws : List Int) {i : Nat} (h : i < ws.length) : (rests p ws).getD i 0 = p * ws.getD i 0 % ws.sum := getD_map0 ws h
theorem rest_nn (p : Int) {ws : List Int} (hW : 0 < ws.sum) {i : Nat} (h : i < ws.length) : 0 ≤ (rests p ws).getD i 0 := by
  rw [rests_at p ws h]
  exact Int.emod_nonneg _ (by omega)
theorem rest_lt (p : Int) {ws : List Int} (hW : 0 < ws.sum) {i : Nat} (h : i < ws.length) : (rests p ws).getD i 0 < ws.sum := by
  rw [rests_at p ws h]
  exact Int.emod_lt_of_pos _ hW
theorem told_rest (p : Int) (ws : List Int) {i : Nat} (h : i < ws.length) : p * ws.getD i 0 = ws.sum * (told p ws).getD i 0 + (rests p ws).getD i 0 := by
  rw [rests_at p ws h, told_at p ws h]
  exact (Int.mul_ediv_add_emod _ _).symm
/-- what stands behind m pennies -/
def pennies (p : Int) (ws : List Int) (m : Nat) : List Int := bump (told p ws) ((order p ws).take m)
theorem pennies_len (p : Int) (ws : List Int) (m : Nat) : (pennies p ws m).length = ws.length := by
  unfold pennies
  rw [bump_len, told_len]
theorem pennies_all (p : Int) {ws : List Int} (hW : 0 < ws.sum) : pennies p ws (left p ws).toNat = partsM p ws := by
  unfold partsM pennies
  rw [if_neg (by omega)]
theorem pennies_at (p : Int) (ws : List Int) (m : Nat) {i : Nat} (h : i < ws.length) : (pennies p ws m).getD i 0 = (told p ws).getD i 0 + (if i ∈ (order p ws).take m then 1 else 0) := by
  unfold pennies
  exact bump_get _ _ _ ((order_nodup p ws).sublist (List.take_sublist ..)) (by rw [told_len]; exact h)
theorem pennies_succ (p : Int) (ws : List Int) {m j : Nat} (h : (order p ws)[m]? = some j) : pennies p ws (m + 1) = (pennies p ws m).set j ((pennies p ws m).getD j 0 + 1) := by
  unfold pennies
  rw [List.take_add_one, h]
  exact bump_snoc _ _ _
/-- the rests behind m pennies -/
def restsAt (p : Int) (ws : List Int) (m : Nat) : List Int := (List.range ws.length).map fun i => p * ws.getD i 0 - ws.sum * (pennies p ws m).getD i 0
theorem restsAt_at (p : Int) (ws : List Int) (m : Nat) {i : Nat} (h : i < ws.length) : (restsAt p ws m)[i]? = some ((rests p ws).getD i 0 - (if i ∈ (order p ws).take m then ws.sum else 0)) := by
  unfold restsAt
  rw [List.getElem?_map, List.getElem?_range h]
  show some (p * ws.getD i 0 - ws.sum * (pennies p ws m).getD i 0) = some _
  congr 1
  rw [pennies_at p ws m h, told_rest p ws h, Int.mul_add]
  split
  · rw [Int.mul_one]; omega
  · rw [Int.mul_zero]; omega
/-- the next penny's place: the first of the greatest rest -/
theorem next_place (p : Int) {ws : List Int} (hW : 0 < ws.sum) {m j : Nat} (h : (order p ws)[m]? = some j) : j < ws.length ∧ ∃ r : Int, (restsAt p ws m)[j]? = some r ∧ (∀ (i : Nat) (y : Int), (restsAt p ws m)[i]? = some y → y ≤ r) ∧ ∀ (i : Nat) (y : Int), i < j → (restsAt p ws m)[i]? = some y → y < r := by
  have hj : j < ws.length := order_lt (List.mem_of_getElem? h)
  have hm : m < (order p ws).length := (List.getElem?_eq_some_iff.mp h).1
  have nt : j ∉ (order p ws).take m := fun z => by
    obtain ⟨i, hi⟩ := List.getElem?_of_mem z
    have lt : i < m := by
      have := (List.getElem?_eq_some_iff.mp hi).1
      rw [List.length_take] at this
      omega
    rw [List.getElem?_take_of_lt lt] at hi
    have hi' : i < (order p ws).length := (List.getElem?_eq_some_iff.mp hi).1
    have := (List.getElem?_inj hi' (order_nodup p ws)).mp (hi.trans h.symm)
    omega
  have ej := restsAt_at p ws m hj
  rw [if_neg nt] at ej
  have key : ∀ i, i < ws.length → i ≠ j → (rests p ws).getD i 0 - (if i ∈ (order p ws).take m then ws.sum else 0) < (rests p ws).getD j 0 - 0 ∨ ((rests p ws).getD i 0 - (if i ∈ (order p ws).take m then ws.sum else 0) = (rests p ws).getD j 0 - 0 ∧ j < i) := fun i hi ne => by
    have b1 := rest_lt p hW hi
    have b2 := rest_nn p hW hj
    by_cases c : i ∈ (order p ws).take m
    · rw [if_pos c]
      exact .inl (by omega)
    · rw [if_neg c]
      have hmem : i ∈ order p ws := (order_perm p ws).mem_iff.mpr (List.mem_range.mpr hi)
      obtain ⟨q, hq⟩ := List.getElem?_of_mem hmem
      have hq' : q < (order p ws).length := (List.getElem?_eq_some_iff.mp hq).1
      have qm : m < q := by
        rcases Nat.lt_trichotomy q m with z | z | z
        · exact absurd (List.mem_of_getElem? ((List.getElem?_take_of_lt z).trans hq)) c
        · subst z
          rw [h] at hq
          exact absurd (Option.some.inj hq).symm ne
        · exact z
      have srt := List.pairwise_iff_getElem.mp (order_sorted p ws) m q hm hq' qm
      rw [(List.getElem?_eq_some_iff.mp h).2, (List.getElem?_eq_some_iff.mp hq).2] at srt
      unfold byRest at srt
      have := of_decide_eq_true srt
      omega
  have get : ∀ i y, (restsAt p ws m)[i]? = some y → i < ws.length ∧ y = (rests p ws).getD i 0 - (if i ∈ (order p ws).take m then ws.sum else 0) := fun i y hy => by
    have hi : i < ws.length := by
      have := (List.getElem?_eq_some_iff.mp hy).1
      unfold restsAt at this
      rw [List.length_map, List.length_range] at this
      exact this
    rw [restsAt_at p ws m hi] at hy
    exact ⟨hi, (Option.some.inj hy).symm⟩
  refine ⟨hj, _, ej, fun i y hy => ?_, fun i y lt hy => ?_⟩
  · obtain ⟨hi, rfl⟩ := get i y hy
    by_cases e : i = j
    · subst e
      rw [if_neg nt]
      exact Int.le_refl _
    · rcases key i hi e with z | z
      · omega
      · omega
  · obtain ⟨hi, rfl⟩ := get i y hy
    rcases key i hi (by omega) with z | z
    · omega
    · omega
/-! weights of nought left out -/
def giv (ws : List Int) : List Nat := (List.range ws.length).filter fun i => decide (0 < ws.getD i 0)
def wts (ws : List Int) : List Int := (giv ws).map fun i => ws.getD i 0
theorem filt_sum (ws : List Int) (g : Int → Int) (h0 : g 0 = 0) (hw : ∀ w ∈ ws, 0 ≤ w) : ∀ n, n ≤ ws.length → ((((List.range n).filter fun i => decide (0 < ws.getD i 0)).map fun i => ws.getD i 0).map g).sum = ((ws.take n).map g).sum
  | 0, _ => by simp
  | n + 1, h => by
    have ih := filt_sum ws g h0 hw n (by omega)
    have e : ws[n]? = some (ws.getD n 0) := by rw [List.getD_eq_getElem?_getD, List.getElem?_eq_getElem (by omega)]; rfl
    rw [List.range_succ, List.filter_append, List.map_append, List.map_append, List.sum_append, ih, List.take_add_one, List.map_append, List.sum_append, e]
    congr 1
    by_cases c : 0 < ws.getD n 0
    · rw [List.filter_cons_of_pos (by simp only [decide_eq_true_eq]; exact c)]
      rfl
    · have z : ws.getD n 0 = 0 := by
        have := hw _ (List.mem_of_getElem? e)
        omega
      rw [List.filter_cons_of_neg (by simp only [decide_eq_true_eq]; exact c)]
      show (0 : Int) = g (ws.getD n 0) + 0
      rw [z, h0]
      rfl
theorem wts_map (ws : List Int) (g : Int → Int) (h0 : g 0 = 0) (hw : ∀ w ∈ ws, 0 ≤ w) : ((wts ws).map g).sum = (ws.map g).sum := by
  have := filt_sum ws g h0 hw ws.length (Nat.le_refl _)
  rw [List.take_length] at this
  exact this
theorem wts_sum (ws : List Int) (hw : ∀ w ∈ ws, 0 ≤ w) : (wts ws).sum = ws.sum := by
  have := wts_map ws id rfl hw
  rw [List.map_id, List.map_id] at this
  exact this
theorem wts_len (ws : List Int) : (wts ws).length = (giv ws).length := List.length_map ..
theorem giv_lt {ws : List Int} {i : Nat} (h : i ∈ giv ws) : i < ws.length ∧ 0 < ws.getD i 0 := by
  unfold giv at h
  rw [List.mem_filter] at h
  exact ⟨List.mem_range.mp h.1, of_decide_eq_true h.2⟩
theorem giv_mem {ws : List Int} {i : Nat} (h : i < ws.length) (h2 : 0 < ws.getD i 0) : i ∈ giv ws := by
  unfold giv
  rw [List.mem_filter]
  exact ⟨List.mem_range.mpr h, decide_eq_true h2⟩
theorem giv_sorted (ws : List Int) : (giv ws).Pairwise (· < ·) := List.pairwise_lt_range.filter _
theorem giv_nodup (ws : List Int) : (giv ws).Nodup := List.nodup_range.filter _
theorem wts_at {ws : List Int} {k i : Nat} (h : (giv ws)[k]? = some i) : (wts ws)[k]? = some (ws.getD i 0) := by
  unfold wts
  rw [List.getElem?_map, h]
  rfl
theorem getD_of {α : Type} {xs : List α} {k : Nat} {d x : α} (h : xs[k]? = some x) : xs.getD k d = x := by
  rw [List.getD_eq_getElem?_getD, h]
  rfl
/-- whoever has no rest gets no penny -/
theorem no_rest (p : Int) {ws : List Int} (hW : 0 < ws.sum) {i : Nat} (hi : i < ws.length) (h0 : (rests p ws).getD i 0 = 0) : ¬ ((aheadOf (rests p ws) i : Nat) : Int) < left p ws := by
  have e1 := left_eq p (ws := ws)
  have sb : ∀ (xs : List Int) (W : Int), (∀ x ∈ xs, 0 ≤ x ∧ x ≤ W) → xs.sum ≤ ((xs.filter fun x => decide (0 < x)).length : Nat) * W := fun xs W => by
    induction xs with
    | nil => intro _; simp
    | cons x xs ih =>
      intro h
      have := ih fun y hy => h y (List.mem_cons_of_mem _ hy)
      have hx := h x List.mem_cons_self
      rw [List.sum_cons]
      by_cases c : 0 < x
      · rw [List.filter_cons_of_pos (by simp only [decide_eq_true_eq]; exact c), List.length_cons, Int.natCast_add, Int.add_mul]
        omega
      · rw [List.filter_cons_of_neg (by simp only [decide_eq_true_eq]; exact c)]
        omega
  have hb : ∀ x ∈ rests p ws, 0 ≤ x ∧ x ≤ ws.sum := fun x hx => by
    obtain ⟨k, hk⟩ := List.getElem?_of_mem hx
    have hk2 : k < ws.length := by
      have := (List.getElem?_eq_some_iff.mp hk).1
      rw [rests_len] at this
      exact this
    have h1 := rest_nn p hW hk2
    have h2 := rest_lt p hW hk2
    rw [getD_of hk] at h1 h2
    omega
  have s1 := sb (rests p ws) ws.sum hb
  rw [← e1] at s1
  have s2 : left p ws ≤ (((rests p ws).filter fun x => decide (0 < x)).length : Nat) := Int.le_of_mul_le_mul_right s1 hW
  have s3 : ((rests p ws).filter fun x => decide (0 < x)).length ≤ aheadOf (rests p ws) i := by
    have cnt : ∀ (rs : List Int), ((List.range rs.length).filter fun k => decide (0 < rs.getD k 0)).length = (rs.filter fun x => decide (0 < x)).length := fun rs => by
      have : rs = (List.range rs.length).map fun k => rs.getD k 0 := by
        refine List.ext_getElem? fun k => ?_
        by_cases hk : k < rs.length
        · rw [List.getElem?_map, List.getElem?_range hk, List.getElem?_eq_getElem hk]
          show _ = some (rs.getD k 0)
          rw [List.getD_eq_getElem?_getD, List.getElem?_eq_getElem hk]
          rfl
        · rw [List.getElem?_eq_none (by omega), List.getElem?_eq_none (by rw [List.length_map, List.length_range]; omega)]
      conv => rhs; rw [this]
      rw [List.filter_map, List.length_map]
      rfl
    rw [← cnt]
    unfold aheadOf
    rw [← List.countP_eq_length_filter, ← List.countP_eq_length_filter]
    refine List.countP_mono_left fun k _ hk => ?_
    have hk := of_decide_eq_true hk
    unfold isAhead
    rw [h0]
    exact decide_eq_true (.inl hk)
  omega
theorem parts_at (p : Int) {ws : List Int} (hW : 0 < ws.sum) {i : Nat} (hi : i < ws.length) : (partsM p ws).getD i 0 = (told p ws).getD i 0 + (if ((aheadOf (rests p ws) i : Nat) : Int) < left p ws then 1 else 0) := by
  rw [parts_eq p hW]
  unfold lawParts
  rw [List.getD_eq_getElem?_getD, List.getElem?_map, List.getElem?_range hi]
  rfl
/-- a weight of nought gets nothing -/
theorem parts_none (p : Int) {ws : List Int} (hW : 0 < ws.sum) {i : Nat} (hi : i < ws.length) (h0 : ws.getD i 0 = 0) : (partsM p ws).getD i 0 = 0 := by
  rw [parts_at p hW hi, if_neg (no_rest p hW hi (by rw [rests_at p ws hi, h0, Int.mul_zero]; rfl)), told_at p ws hi, h0, Int.mul_zero, Int.zero_ediv]
  rfl
/-- with the noughts left out the parts are the same -/
theorem parts_wts (p : Int) {ws : List Int} (hw : ∀ w ∈ ws, 0 ≤ w) (hW : 0 < ws.sum) {k i : Nat} (h : (giv ws)[k]? = some i) : (partsM p (wts ws)).getD k 0 = (partsM p ws).getD i 0 := by
  have hs := wts_sum ws hw
  have hW' : 0 < (wts ws).sum := by omega
  have hk : k < (wts ws).length := by
    rw [wts_len]
    exact (List.getElem?_eq_some_iff.mp h).1
  obtain ⟨hi, hp⟩ := giv_lt (List.mem_of_getElem? h)
  have ew : ∀ {k i : Nat}, (giv ws)[k]? = some i → (wts ws).getD k 0 = ws.getD i 0 := fun h => getD_of (wts_at h)
  have et : (told p (wts ws)).getD k 0 = (told p ws).getD i 0 := by rw [told_at p _ hk, told_at p ws hi, ew h, hs]
  have er : ∀ {k i : Nat}, (giv ws)[k]? = some i → (rests p (wts ws)).getD k 0 = (rests p ws).getD i 0 := fun {k i} h => by
    have hk : k < (wts ws).length := by
      rw [wts_len]
      exact (List.getElem?_eq_some_iff.mp h).1
    rw [rests_at p _ hk, rests_at p ws (giv_lt (List.mem_of_getElem? h)).1, ew h, hs]
  have el : left p (wts ws) = left p ws := by
    unfold left told
    rw [hs, wts_map ws (fun w => p * w / ws.sum) (by simp) hw]
  rw [parts_at p hW' hk, parts_at p hW hi, et, el]
  congr 1
  by_cases c : (rests p ws).getD i 0 = 0
  · rw [if_neg (no_rest p hW hi c), if_neg]
    rw [← el]
    exact no_rest p hW' hk ((er h).trans c)
  · have : aheadOf (rests p (wts ws)) k = aheadOf (rests p ws) i := by
      unfold aheadOf
      rw [rests_len, rests_len, wts_len]
      have pos := rest_nn p hW hi
      -- those ahead of i are givers
      have e1 : ((List.range ws.length).filter fun m => isAhead (rests p ws) m i) = (giv ws).filter fun m => isAhead (rests p ws) m i := by
        unfold giv
        rw [List.filter_filter]
        refine List.filter_congr fun m hm => ?_
        cases q : isAhead (rests p ws) m i with
        | false => rfl
        | true =>
          unfold isAhead at q
          have q := of_decide_eq_true q
          have hm := List.mem_range.mp hm
          have hpos : 0 < (rests p ws).getD m 0 := by omega
          have : 0 < ws.getD m 0 := by
            have hn := hw (ws.getD m 0) (by rw [List.getD_eq_getElem?_getD, List.getElem?_eq_getElem hm]; exact List.getElem_mem hm)
            rcases Int.lt_or_eq_of_le hn with z | z
            · exact z
            · rw [rests_at p ws hm, ← z, Int.mul_zero] at hpos
              simp at hpos
          rw [decide_eq_true this]
          rfl
      rw [e1]
      have e2 : giv ws = (List.range (giv ws).length).map fun k => (giv ws).getD k 0 := by
        refine List.ext_getElem? fun k => ?_
        by_cases hk : k < (giv ws).length
        · rw [List.getElem?_map, List.getElem?_range hk, List.getElem?_eq_getElem hk]
          show _ = some ((giv ws).getD k 0)
          rw [List.getD_eq_getElem?_getD, List.getElem?_eq_getElem hk]
          rfl
        · rw [List.getElem?_eq_none (by omega), List.getElem?_eq_none (by rw [List.length_map, List.length_range]; omega)]
      conv => rhs; rw [e2]
      rw [List.filter_map, List.length_map]
      congr 1
      refine List.filter_congr fun m hm => ?_
      have hm := List.mem_range.mp hm
      have gm : (giv ws)[m]? = some ((giv ws).getD m 0) := by rw [List.getD_eq_getElem?_getD, List.getElem?_eq_getElem hm]; rfl
      show isAhead (rests p (wts ws)) m k = isAhead (rests p ws) ((giv ws).getD m 0) i
      unfold isAhead
      rw [er gm, er h]
      have hk2 : k < (giv ws).length := (List.getElem?_eq_some_iff.mp h).1
      have lt : m < k ↔ (giv ws).getD m 0 < i := by
        have em := (List.getElem?_eq_some_iff.mp gm).2
        have ei := (List.getElem?_eq_some_iff.mp h).2
        rw [← em, ← ei]
        constructor
        · exact fun z => List.pairwise_iff_getElem.mp (giv_sorted ws) m k hm hk2 z
        · intro z
          rcases Nat.lt_trichotomy m k with y | y | y
          · exact y
          · subst y; omega
          · have := List.pairwise_iff_getElem.mp (giv_sorted ws) k m hk2 hm y
            omega
      rw [decide_eq_decide]
      rw [lt]
    rw [this]
/-- no part is above its weight, where the sum is no more than the weights -/
theorem parts_le {p : Int} {ws : List Int} (hp : 0 ≤ p) (hpW : p ≤ ws.sum) (hw : ∀ w ∈ ws, 0 ≤ w) (hW : 0 < ws.sum) {i : Nat} (hi : i < ws.length) : 0 ≤ (partsM p ws).getD i 0 ∧ (partsM p ws).getD i 0 ≤ ws.getD i 0 := by
  have hn := hw (ws.getD i 0) (by rw [List.getD_eq_getElem?_getD, List.getElem?_eq_getElem hi]; exact List.getElem_mem hi)
  have t0 : 0 ≤ (told p ws).getD i 0 := by
    rw [told_at p ws hi]
    exact Int.ediv_nonneg (Int.mul_nonneg hp hn) (by omega)
  have e := told_rest p ws hi
  have r0 := rest_nn p hW hi
  have pw : p * ws.getD i 0 ≤ ws.sum * ws.getD i 0 := Int.mul_le_mul_of_nonneg_right hpW hn
  have tl : (told p ws).getD i 0 ≤ ws.getD i 0 := by
    have : ws.sum * (told p ws).getD i 0 ≤ ws.sum * ws.getD i 0 := by omega
    exact Int.le_of_mul_le_mul_left this hW
  rw [parts_at p hW hi]
  by_cases c : (rests p ws).getD i 0 = 0
  · rw [if_neg (no_rest p hW hi c)]
    omega
  · have : (told p ws).getD i 0 < ws.getD i 0 := by
      rcases Int.lt_or_eq_of_le tl with z | z
      · exact z
      · exfalso
        rw [z] at e
        omega
    split <;> omega
/-! what stopped lines lack, carried -/
def pos (t : List Int) : List Int := t.map fun x => if 0 < x then x else 0
theorem pos_at (t : List Int) {i : Nat} (h : i < t.length) : (pos t).getD i 0 = if 0 < t.getD i 0 then t.getD i 0 else 0 := getD_map0 t h
theorem pos_len (t : List Int) : (pos t).length = t.length := List.length_map ..
theorem pos_nn (t : List Int) : ∀ w ∈ pos t, 0 ≤ w := fun w hw => by
  obtain ⟨x, _, rfl⟩ := List.mem_map.mp hw
  split <;> omega
def giversM (t : List Int) : List Nat := (List.range t.length).filter fun i => decide (0 < t.getD i 0)
theorem givers_eq (t : List Int) : giversM t = giv (pos t) := by
  unfold giversM giv
  rw [pos_len]
  refine List.filter_congr fun i hi => ?_
  rw [pos_at t (List.mem_range.mp hi)]
  rw [decide_eq_decide]
  split <;> omega
theorem givW_eq (t : List Int) : (giversM t).map (fun i => t.getD i 0) = wts (pos t) := by
  unfold wts
  rw [← givers_eq]
  refine List.map_congr_left fun i hi => ?_
  unfold giversM at hi
  rw [List.mem_filter] at hi
  rw [pos_at t (List.mem_range.mp hi.1), if_pos (of_decide_eq_true hi.2)]
theorem sum_le_pos : ∀ t : List Int, t.sum ≤ (pos t).sum
  | [] => Int.le_refl _
  | y :: t => by
    have := sum_le_pos t
    show (y :: t).sum ≤ ((if 0 < y then y else 0) :: pos t).sum
    rw [List.sum_cons, List.sum_cons]
    split <;> omega
theorem pos_sum : ∀ (t : List Int) (a : Nat), a < t.length → t.getD a 0 < 0 → -(t.getD a 0) ≤ (pos t).sum - t.sum
  | [], a, h, _ => by simp at h
  | x :: t, 0, _, hx => by
    have hx : x < 0 := hx
    have := sum_le_pos t
    show -x ≤ ((if 0 < x then x else 0) :: pos t).sum - (x :: t).sum
    rw [List.sum_cons, List.sum_cons, if_neg (by omega)]
    omega
  | x :: t, a + 1, h, hx => by
    have := pos_sum t a (by simpa using h) hx
    show -(t.getD a 0) ≤ ((if 0 < x then x else 0) :: pos t).sum - (x :: t).sum
    rw [List.sum_cons, List.sum_cons]
    split <;> omega
def givenM (t : List Int) (a : Nat) : List Int := partsM (-(t.getD a 0)) (wts (pos t))
/-- pence taken from the givers -/
def takeM (t : List Int) (gs : List Nat) (xs : List Int) : List Int := (gs.zip xs).foldl (fun t q => t.set q.1 (t.getD q.1 0 - q.2)) t
def stepC (t : List Int) (a : Nat) : List Int := if 0 ≤ t.getD a 0 then t else takeM (t.set a (t.getD a 0 + (givenM t a).sum)) (giversM t) (givenM t a)
def stepL (t : List Int) (a : Nat) : List Int := if 0 < -(t.getD a 0) then List.zipWith (fun x y => x - y) (t.set a 0) (partsM (-(t.getD a 0)) (pos t)) else t
theorem take_len (qs : List (Nat × Int)) : ∀ t : List Int, (qs.foldl (fun t q => t.set q.1 (t.getD q.1 0 - q.2)) t).length = t.length := by
  induction qs with
  | nil => exact fun t => rfl
  | cons q qs ih =>
    intro t
    rw [List.foldl_cons, ih, List.length_set]
theorem set_getD (t : List Int) (j i : Nat) (v : Int) (h : j < t.length) : (t.set j v).getD i 0 = if i = j then v else t.getD i 0 := by
  rw [List.getD_eq_getElem?_getD, List.getD_eq_getElem?_getD]
  by_cases c : i = j
  · subst c
    rw [List.getElem?_set_self h, if_pos rfl]
    rfl
  · rw [List.getElem?_set_ne (fun z => c z.symm), if_neg c]
theorem take_out (qs : List (Nat × Int)) : ∀ (t : List Int) (i : Nat), (∀ q ∈ qs, q.1 < t.length) → (∀ q ∈ qs, q.1 ≠ i) → (qs.foldl (fun t q => t.set q.1 (t.getD q.1 0 - q.2)) t).getD i 0 = t.getD i 0 := by
  induction qs with
  | nil => exact fun t i _ _ => rfl
  | cons q qs ih =>
    intro t i hl hn
    rw [List.foldl_cons, ih _ _ (fun r hr => by rw [List.length_set]; exact hl r (List.mem_cons_of_mem _ hr)) fun r hr => hn r (List.mem_cons_of_mem _ hr), set_getD _ _ _ _ (hl q List.mem_cons_self), if_neg fun z => hn q List.mem_cons_self z.symm]
theorem take_in (qs : List (Nat × Int)) : ∀ (t : List Int) (i : Nat) (x : Int), (∀ q ∈ qs, q.1 < t.length) → (qs.map (·.1)).Nodup → (i, x) ∈ qs → (qs.foldl (fun t q => t.set q.1 (t.getD q.1 0 - q.2)) t).getD i 0 = t.getD i 0 - x := by
  induction qs with
  | nil => exact fun t i x _ _ h => by cases h
  | cons q qs ih =>
    intro t i x hl hn hm
    rw [List.map_cons, List.nodup_cons] at hn
    rw [List.foldl_cons]
    have hl' : ∀ r ∈ qs, r.1 < (t.set q.1 (t.getD q.1 0 - q.2)).length := fun r hr => by rw [List.length_set]; exact hl r (List.mem_cons_of_mem _ hr)
    rcases List.mem_cons.mp hm with e | e
    · subst e
      rw [take_out _ _ _ hl' fun r hr z => hn.1 (List.mem_map.mpr ⟨r, hr, z⟩), set_getD _ _ _ _ (hl _ List.mem_cons_self), if_pos rfl]
    · have ne : i ≠ q.1 := fun z => hn.1 (List.mem_map.mpr ⟨(i, x), e, z⟩)
      rw [ih _ i x hl' hn.2 e, set_getD _ _ _ _ (hl q List.mem_cons_self), if_neg ne]
theorem zipW_getD {xs ys : List Int} {i : Nat} (h1 : i < xs.length) (h2 : i < ys.length) : (List.zipWith (fun x y => x - y) xs ys).getD i 0 = xs.getD i 0 - ys.getD i 0 := by
  rw [List.getD_eq_getElem?_getD, List.getElem?_zipWith, List.getD_eq_getElem?_getD, List.getD_eq_getElem?_getD, List.getElem?_eq_getElem h1, List.getElem?_eq_getElem h2]
  rfl
theorem step_eq {t : List Int} {a : Nat} (ha : a < t.length) (h0 : t.sum = 0) : stepC t a = stepL t a := by
  unfold stepC stepL
  by_cases c : 0 ≤ t.getD a 0
  · rw [if_pos c, if_neg (by omega)]
  · rw [if_neg c, if_pos (by omega)]
    have hps := pos_sum t a ha (by omega)
    have hW : 0 < (pos t).sum := by omega
    have hWw : 0 < (wts (pos t)).sum := by rw [wts_sum _ (pos_nn t)]; exact hW
    have gs : (givenM t a).sum = -(t.getD a 0) := parts_sum _ hWw
    rw [gs, show t.getD a 0 + -(t.getD a 0) = 0 by omega]
    unfold takeM
    have gl : (givenM t a).length = (giversM t).length := by
      unfold givenM
      rw [partsM_len, wts_len, givers_eq]
    have hl : ∀ q ∈ (giversM t).zip (givenM t a), q.1 < (t.set a 0).length := fun q hq => by
      have := (List.of_mem_zip hq).1
      unfold giversM at this
      rw [List.length_set]
      exact List.mem_range.mp (List.mem_filter.mp this).1
    refine ext_getD (by rw [take_len, List.length_set, List.length_zipWith, List.length_set, partsM_len, pos_len, Nat.min_self]) fun i hi => ?_
    rw [take_len, List.length_set] at hi
    have rhs : (List.zipWith (fun x y => x - y) (t.set a 0) (partsM (-(t.getD a 0)) (pos t))).getD i 0 = (t.set a 0).getD i 0 - (partsM (-(t.getD a 0)) (pos t)).getD i 0 := by
      have h1 : i < (t.set a 0).length := by rw [List.length_set]; exact hi
      have h2 : i < (partsM (-(t.getD a 0)) (pos t)).length := by rw [partsM_len, pos_len]; exact hi
      exact zipW_getD h1 h2
    rw [rhs]
    by_cases g : i ∈ giversM t
    · obtain ⟨k, hk⟩ := List.getElem?_of_mem g
      have hk' : k < (givenM t a).length := by
        rw [gl]
        exact (List.getElem?_eq_some_iff.mp hk).1
      have m : (i, (givenM t a).getD k 0) ∈ (giversM t).zip (givenM t a) := by
        refine List.mem_of_getElem? (i := k) ?_
        rw [List.getElem?_zip_eq_some]
        exact ⟨hk, by rw [List.getD_eq_getElem?_getD, List.getElem?_eq_getElem hk']; rfl⟩
      rw [take_in _ _ _ _ hl ?_ m]
      · congr 1
        unfold givenM
        exact parts_wts _ (pos_nn t) hW (by rw [← givers_eq]; exact hk)
      · rw [List.map_fst_zip (by omega), givers_eq]
        exact giv_nodup _
    · rw [take_out _ _ _ hl fun q hq z => g (by rw [← z]; exact (List.of_mem_zip hq).1)]
      rw [parts_none _ hW (by rw [pos_len]; exact hi), Int.sub_zero]
      rw [pos_at t hi]
      have : ¬ 0 < t.getD i 0 := fun z => g (by unfold giversM; exact List.mem_filter.mpr ⟨List.mem_range.mpr hi, decide_eq_true z⟩)
      rw [if_neg this]
/-- what a step leaves -/
theorem stepL_len (t : List Int) (a : Nat) : (stepL t a).length = t.length := by
  unfold stepL
  split
  · rw [List.length_zipWith, List.length_set, partsM_len, pos_len, Nat.min_self]
  · rfl
theorem stepL_at {t : List Int} {a : Nat} (ha : a < t.length) (c : t.getD a 0 < 0) {i : Nat} (hi : i < t.length) : (stepL t a).getD i 0 = (if i = a then 0 else t.getD i 0) - (partsM (-(t.getD a 0)) (pos t)).getD i 0 := by
  unfold stepL
  rw [if_pos (by omega)]
  have h1 : i < (t.set a 0).length := by rw [List.length_set]; exact hi
  have h2 : i < (partsM (-(t.getD a 0)) (pos t)).length := by rw [partsM_len, pos_len]; exact hi
  rw [← set_getD t a i 0 ha]
  exact zipW_getD h1 h2
/-- those above 0 stay from 0 on and don't rise, those below stay, a is 0 -/
theorem stepL_in {t : List Int} {a : Nat} (ha : a < t.length) (h0 : t.sum = 0) {i : Nat} (hi : i < t.length) : (0 < t.getD i 0 → 0 ≤ (stepL t a).getD i 0 ∧ (stepL t a).getD i 0 ≤ t.getD i 0) ∧ (t.getD i 0 ≤ 0 → (stepL t a).getD i 0 = if i = a then 0 else t.getD i 0) ∨ (stepL t a = t ∧ 0 ≤ t.getD a 0) := by
  by_cases c : t.getD a 0 < 0
  · refine .inl ⟨fun hp => ?_, fun hp => ?_⟩
    · have hps := pos_sum t a ha c
      have := parts_le (p := -(t.getD a 0)) (ws := pos t) (by omega) (by omega) (pos_nn t) (by omega) (i := i) (by rw [pos_len]; exact hi)
      rw [pos_at t hi, if_pos hp] at this
      rw [stepL_at ha c hi, if_neg fun z => by subst z; omega]
      omega
    · have hps := pos_sum t a ha c
      rw [stepL_at ha c hi, parts_none _ (by omega) (by rw [pos_len]; exact hi) (by rw [pos_at t hi, if_neg (by omega)]), Int.sub_zero]
  · refine .inr ⟨?_, by omega⟩
    unfold stepL
    rw [if_neg (by omega)]
theorem zip_sum : ∀ (xs ys : List Int), xs.length = ys.length → (List.zipWith (fun x y => x - y) xs ys).sum = xs.sum - ys.sum
  | [], [], _ => rfl
  | x :: xs, y :: ys, h => by
    rw [List.zipWith_cons_cons, List.sum_cons, List.sum_cons, List.sum_cons, zip_sum xs ys (by simpa using h)]
    omega
theorem set_sum0 : ∀ (t : List Int) (j : Nat) (v : Int), j < t.length → (t.set j v).sum = t.sum - t.getD j 0 + v
  | [], j, v, h => by simp at h
  | x :: t, 0, v, _ => by
    show (v :: t).sum = (x :: t).sum - x + v
    rw [List.sum_cons, List.sum_cons]
    omega
  | x :: t, j + 1, v, h => by
    show (x :: t.set j v).sum = (x :: t).sum - t.getD j 0 + v
    rw [List.sum_cons, List.sum_cons, set_sum0 t j v (by simpa using h)]
    omega
theorem stepL_sum {t : List Int} {a : Nat} (ha : a < t.length) (h0 : t.sum = 0) : (stepL t a).sum = 0 := by
  unfold stepL
  by_cases c : 0 < -(t.getD a 0)
  · have hps := pos_sum t a ha (by omega)
    rw [if_pos c, zip_sum _ _ (by rw [List.length_set, partsM_len, pos_len]), parts_sum _ (by omega), set_sum0 _ _ _ ha]
    omega
  · rw [if_neg c]
    exact h0
def carriedM (t : List Int) (st : List Nat) : List Int := st.foldl stepL t
/-- all within B stay so -/
def Acc (B : Int) (n : Nat) (t : List Int) : Prop := t.length = n ∧ t.sum = 0 ∧ ∀ i, i < n → -B ≤ t.getD i 0 ∧ t.getD i 0 ≤ B
theorem Acc.step {B : Int} {n : Nat} {t : List Int} {a : Nat} (h : Acc B n t) (hB : 0 ≤ B) (ha : a < n) : Acc B n (stepL t a) := by
  obtain ⟨hl, h0, hb⟩ := h
  refine ⟨by rw [stepL_len, hl], stepL_sum (by omega) h0, fun i hi => ?_⟩
  have hbi := hb i hi
  rcases stepL_in (a := a) (by omega) h0 (i := i) (by omega) with ⟨h1, h2⟩ | ⟨e, _⟩
  · by_cases c : 0 < t.getD i 0
    · have := h1 c
      omega
    · rw [h2 (by omega)]
      split <;> omega
  · rw [e]
    exact hbi
theorem Acc.all {B : Int} {n : Nat} (hB : 0 ≤ B) : ∀ {st : List Nat} {t : List Int}, Acc B n t → (∀ s ∈ st, s < n) → Acc B n (carriedM t st)
  | [], t, h, _ => h
  | a :: st, t, h, hs => Acc.all (st := st) (t := stepL t a) hB (h.step hB (hs a List.mem_cons_self)) fun s z => hs s (List.mem_cons_of_mem _ z)
end Pm
namespace Th
open PySem PySem.Spec PyProof.Rows L2
/-! the text -/
def topS (i : Nat) : Stmt := PySem.Challenge.pw_throughlines_k58_carried.main.body.getD i (.Pass ⟨0, 0, 0, 0⟩)
abbrev FnP (K : PySem.W.Frag) (x : Str) (st : Stmt) (f : Addr) (fd : FuncData) : Prop := FunD K x x (defArgs st) (defBody st) (defScope st) [] [] f fd
abbrev s_parts : Stmt := topS 1
abbrev N_parts : List Str := ["pence", "weights", "whole", "told", "rests", "left", "by_rest", "at", "weight"]
theorem sc_parts : FnScope N_parts ["pence", "weights"] (defScope s_parts) := ⟨rfl, rfl, rfl, by decide +kernel, rfl, by decide +kernel, by decide +kernel⟩
abbrev s_carried : Stmt := topS 3
abbrev N_carried : List Str := ["accounts", "stopped", "told", "at", "givers", "given", "giver", "pence", "account"]
theorem sc_carried : FnScope N_carried ["accounts", "stopped"] (defScope s_carried) := ⟨rfl, rfl, rfl, by decide +kernel, rfl, by decide +kernel, by decide +kernel⟩
abbrev s_l_bag : Stmt := topS 5
abbrev N_l_bag : List Str := ["_law_script", "_law_at", "_law_cell", "_law_great", "_law_primes"]
theorem sc_l_bag : FnScope N_l_bag ["_law_script", "_law_at"] (defScope s_l_bag) := ⟨rfl, rfl, rfl, by decide +kernel, rfl, by decide +kernel, by decide +kernel⟩
abbrev s_l_take : Stmt := topS 6
abbrev N_l_take : List Str := ["_law_bag_here", "_law_many", "_law_digit"]
theorem sc_l_take : FnScope N_l_take ["_law_bag_here", "_law_many"] (defScope s_l_take) := ⟨rfl, rfl, rfl, by decide +kernel, rfl, by decide +kernel, by decide +kernel⟩
abbrev s_l_like : Stmt := topS 7
abbrev N_l_like : List Str := ["_law_told", "_law_due_here", "_law_one", "_law_other"]
theorem sc_l_like : FnScope N_l_like ["_law_told", "_law_due_here"] (defScope s_l_like) := ⟨rfl, rfl, rfl, by decide +kernel, rfl, by decide +kernel, by decide +kernel⟩
abbrev s_l_accounts : Stmt := topS 8
abbrev N_l_accounts : List Str := ["_law_bag_here", "_law_most", "_law_found", "_law_left", "_law_great", "_law_many", "_law_pence", "_law_one", "_law_k"]
theorem sc_l_accounts : FnScope N_l_accounts ["_law_bag_here", "_law_most"] (defScope s_l_accounts) := ⟨rfl, rfl, rfl, by decide +kernel, rfl, by decide +kernel, by decide +kernel⟩
abbrev s_l_borne : Stmt := topS 9
abbrev N_l_borne : List Str := ["_law_pence", "_law_weights", "_law_whole", "_law_found", "_law_penny", "_law_rests", "_law_weight", "_law_part"]
theorem sc_l_borne : FnScope N_l_borne ["_law_pence", "_law_weights"] (defScope s_l_borne) := ⟨rfl, rfl, rfl, by decide +kernel, rfl, by decide +kernel, by decide +kernel⟩
abbrev s_l_due : Stmt := topS 10
abbrev N_l_due : List Str := ["_law_accounts_here", "_law_stopped", "_law_found", "_law_place", "_law_lack", "_law_above", "_law_pence", "_law_part"]
theorem sc_l_due : FnScope N_l_due ["_law_accounts_here", "_law_stopped"] (defScope s_l_due) := ⟨rfl, rfl, rfl, by decide +kernel, rfl, by decide +kernel, by decide +kernel⟩
abbrev s_law : Stmt := topS 11
abbrev N_law : List Str := ["_law_script", "_law_k", "_law_bag_here", "_law_accounts_here", "_law_more", "_law_stopped", "_law_fewer", "_law_some", "_law_handed", "_law_told", "_law_place"]
theorem sc_law : FnScope N_law ["_law_script"] (defScope s_law) := ⟨rfl, rfl, rfl, by decide +kernel, rfl, by decide +kernel, by decide +kernel⟩
structure Defs (K : PySem.W.Frag) (mg : Str → Option Value) where
  a_parts : Addr
  d_parts : FuncData
  F_parts : FnP K "parts" s_parts a_parts d_parts
  g_parts : mg "parts" = some (.ref a_parts)
  b_parts : Binds K d_parts ["pence", "weights"] []
  cc_parts : Addr
  tp_parts : Addr
  dc_parts : d_parts.code = .ref cc_parts
  a_carried : Addr
  d_carried : FuncData
  F_carried : FnP K "carried" s_carried a_carried d_carried
  g_carried : mg "carried" = some (.ref a_carried)
  b_carried : Binds K d_carried ["accounts", "stopped"] []
  a_l_bag : Addr
  d_l_bag : FuncData
  F_l_bag : FnP K "_law_bag" s_l_bag a_l_bag d_l_bag
  g_l_bag : mg "_law_bag" = some (.ref a_l_bag)
  b_l_bag : Binds K d_l_bag ["_law_script", "_law_at"] []
  a_l_take : Addr
  d_l_take : FuncData
  F_l_take : FnP K "_law_take" s_l_take a_l_take d_l_take
  g_l_take : mg "_law_take" = some (.ref a_l_take)
  b_l_take : Binds K d_l_take ["_law_bag_here", "_law_many"] []
  a_l_like : Addr
  d_l_like : FuncData
  F_l_like : FnP K "_law_like" s_l_like a_l_like d_l_like
  g_l_like : mg "_law_like" = some (.ref a_l_like)
  b_l_like : Binds K d_l_like ["_law_told", "_law_due_here"] []
  a_l_accounts : Addr
  d_l_accounts : FuncData
  F_l_accounts : FnP K "_law_accounts" s_l_accounts a_l_accounts d_l_accounts
  g_l_accounts : mg "_law_accounts" = some (.ref a_l_accounts)
  b_l_accounts : Binds K d_l_accounts ["_law_bag_here", "_law_most"] []
  a_l_borne : Addr
  d_l_borne : FuncData
  F_l_borne : FnP K "_law_borne" s_l_borne a_l_borne d_l_borne
  g_l_borne : mg "_law_borne" = some (.ref a_l_borne)
  b_l_borne : Binds K d_l_borne ["_law_pence", "_law_weights"] []
  a_l_due : Addr
  d_l_due : FuncData
  F_l_due : FnP K "_law_due" s_l_due a_l_due d_l_due
  g_l_due : mg "_law_due" = some (.ref a_l_due)
  b_l_due : Binds K d_l_due ["_law_accounts_here", "_law_stopped"] []
  z_abs : mg "abs" = none
  z_all : mg "all" = none
  z_bool : mg "bool" = none
  z_enumerate : mg "enumerate" = none
  z_isinstance : mg "isinstance" = none
  z_len : mg "len" = none
  z_list : mg "list" = none
  z_max : mg "max" = none
  z_min : mg "min" = none
  z_range : mg "range" = none
  z_sorted : mg "sorted" = none
  z_sum : mg "sum" = none
  z_tuple : mg "tuple" = none
  z_zip : mg "zip" = none
end Th
namespace Th
open PySem PySem.Spec PyProof.Rows L2
section
variable {P : Program} {w : World} {K : PySem.W.Frag} {mg : Str → Option Value} {base : Heap} {k : Nat}
set_option maxHeartbeats 8000000 in
theorem ok_l_bag (T : Defs K mg) : FnOk P w K mg base CX0 (k + 1) T.a_l_bag T.d_l_bag ["_law_script", "_law_at"] (sp_bag K) := by
  refine T.F_l_bag.ok sc_l_bag (fun vs H Q E h => ?_) (fun cdv A outer s H vs Q E hr h => ?_)
  · obtain ⟨a, ns, i, rfl, _⟩ := h
    rfl
  · obtain ⟨a, ns, i, rfl, hS, hi, q⟩ := h
    refine ⟨_, PSs.nox
(pss_cons (ps_set (i := 2) sc_l_bag.nd rfl (.inl rfl) (pe_int))
    (Evl.pss_cut (ps_if (pt_cmpR op_gt (pe_callB (r := rLenS K) call_lenS (by rfl) T.z_len (by decide +kernel) (pa_cons (pv 0) pa_nil)) (pe_int) (nomark _))
      (pss_one (ps_set (i := 2) sc_l_bag.nd rfl (.inl rfl) (pe_ix (r := rIxL K) ix_list (pv 0) (pe_op op_mod (pv 1) (pe_callB (r := rLenS K) call_lenS (by rfl) T.z_len (by decide +kernel) (pa_cons (pv 0) pa_nil))) (fun _ _ => rfl))))
      pss_nil)
    (pss_cons (ps_set (i := 3) sc_l_bag.nd rfl (.inl rfl) (pe_int))
    (Evl.pss_cut (ps_if (PW.pt (pw_and (pt_cmpR op_ge (pe_callB call_abs (by rfl) T.z_abs (by decide +kernel) (pa_cons (pv 2) pa_nil)) (pe_op op_pow (pe_int) (pe_int)) (nomark _)) (pw_and1 (pt_cmpR op_lt (pv 1) (pe_callB (r := rLenS K) call_lenS (by rfl) T.z_len (by decide +kernel) (pa_cons (pv 0) pa_nil)) (nomark _)))))
      (pss_one (ps_set (i := 3) sc_l_bag.nd rfl (.inl rfl) (pe_callB call_abs (by rfl) T.z_abs (by decide +kernel) (pa_cons (pv 2) pa_nil))))
      pss_nil)
    (pss_cons (ps_set (i := 4) sc_l_bag.nd rfl (.inl rfl) (pe_tup (pa_cons (pe_int) (pa_cons (pe_int) (pa_cons (pe_int) (pa_cons (pe_int) (pa_cons (pe_int) (pa_cons (pe_int) (pa_cons (pe_int) (pa_cons (pe_int) pa_nil))))))))))
    (pss_one (ps_ret (pe_lst (pa_cons (pv 3) (pa_cons (pe_op op_mod (pe_op op_pow (pe_op op_add (pe_op op_add (pe_op op_mod (pv 2) (pe_int)) (pe_op op_mul (pe_int) (pv 1))) (pe_int)) (pe_int)) (pe_ix (r := rIxT K) ix_tup (pv 4) (pe_op op_mod (pv 1) (pe_int)) (fun _ _ => rfl))) pa_nil))))))))))
      , ?_⟩
    obtain ⟨pr, hp, hp0, hp1⟩ := primes_at i
    have lenV : (ns.map V.int).length = ns.length := List.length_map _
    refine ⟨fun σ H1 => ∃ c : Int, σ = [some (.ref a), some (.int i), some (.int c), none, none] ∧ H1 = H, ?_, fun σ H1 mid => ?_⟩
    · refine ⟨.ref a, rfl, a, _, rfl, .inl hS, _, 0, rfl, rfl, _, rfl, ite2 (fun e => ?_) (fun e => ⟨0, rfl, rfl⟩)⟩
      have lp : 0 < ns.length := by
        have := of_decide_eq_true e
        rw [lenV] at this
        omega
      have hm : i % ns.length < ns.length := Nat.mod_lt _ lp
      have g1 : (ns.map V.int)[i % ns.length]? = some (.int ns[i % ns.length]) := by
        rw [List.getElem?_map, List.getElem?_eq_getElem hm]
        rfl
      refine ⟨.ref a, rfl, .int i, rfl, .ref a, rfl, a, _, rfl, .inl hS, (i : Int), _, rfl, rfl, by rw [lenV]; omega, a, _, _, .int ns[i % ns.length], rfl, rfl, hS, ?_, _, rfl, rfl⟩
      rw [lenV, ← Int.natCast_emod]
      exact atI_nat g1
    obtain ⟨c, rfl, rfl⟩ := mid
    refine ⟨fun σ H2 => ∃ g : Int, 0 ≤ g ∧ σ = [some (.ref a), some (.int i), some (.int c), some (.int g), none] ∧ H2 = H1, ?_, fun σ H2 mid => ?_⟩
    · refine ⟨.int c, rfl, _, rfl, 10, 18, rfl, rfl, ⟨by decide, by decide, by decide⟩, _, _, rfl, rfl, _, rfl, ite2 (fun e => ?_) (fun e => ⟨0, by decide, rfl, rfl⟩)⟩
      refine ⟨.int i, rfl, .ref a, rfl, a, _, rfl, .inl hS, _, _, rfl, rfl, _, rfl, ite2 (fun e => ?_) (fun e => ⟨0, by decide, rfl, rfl⟩)⟩
      refine ⟨.int c, rfl, _, rfl, _, ?_, rfl, rfl⟩
      split <;> omega
    obtain ⟨g, hg, rfl, rfl⟩ := mid
    refine ⟨by show 8 ≤ sizeLine; decide, fun l nl => ?_⟩
    refine ⟨_, rfl, .int c, rfl, c, 2147483647, rfl, rfl, pA, .int i, rfl, 104729, i, rfl, rfl, .inl ⟨by decide, by decide⟩, _, _, rfl, rfl, _, 7, rfl, rfl, _, 5, rfl, rfl, ⟨by decide, by decide, ?_⟩, .ref l, rfl, .int i, rfl, i, 8, rfl, rfl, p8, l, _, _, _, rfl, rfl, SqT.of upd_same, hp, _, pr, rfl, rfl, hp0, by show 2 ≤ sizeLine; decide, fun p np => ?_⟩
    · omega
    · have s1 := same_upd (o := .tup [V.int 2147483629, .int 2147483587, .int 2147483579, .int 2147483563, .int 2147483549, .int 2147483543, .int 2147483497, .int 2147483489]) nl
      exact q _ p (s1.trans (same_upd np)) (s1.free np) ⟨g, _, upd_same, hg, Int.emod_nonneg _ (by omega), Int.lt_trans (Int.emod_lt_of_pos _ hp0) hp1⟩
end
/-! a draw from the bag, of up to 2 ^ 40 -/
section
variable {P : Program} {w : World} {K : PySem.W.Frag} {mg : Str → Option Value} {base : Heap} {k : Nat}
def sp_takeW : Sp := fun vs H Q _ => ∃ (p : Addr) (m : Int), vs = [.ref p, .int m] ∧ Bag H p ∧ 0 < m ∧ m < 2 ^ 40 ∧ ∀ H' d, Keep p H H' → Bag H' p → 0 ≤ d → d < m → Q (.int d) H'
theorem ok_l_take (T : Defs K mg) : FnOk P w K mg base CX0 (k + 1) T.a_l_take T.d_l_take ["_law_bag_here", "_law_many"] sp_takeW := by
  refine T.F_l_take.ok sc_l_take (fun vs H Q E h => ?_) (fun cdv A outer s H vs Q E hr h => ?_)
  · obtain ⟨p, m, rfl, _⟩ := h
    rfl
  · obtain ⟨p, m, rfl, ⟨g, r, hp, g0, r0, r1⟩, m0, m1, q⟩ := h
    refine ⟨_, PSs.nox
(pss_cons (ps_if (pt_cmpR op_gt (pe_ix (r := rIxL K) ix_list (pv 0) (pe_int) (fun _ _ => rfl)) (pe_int) (nomark _))
      (pss_cons (ps_set (i := 2) sc_l_take.nd rfl (.inl rfl) (pe_op op_mod (pe_ix (r := rIxL K) ix_list (pv 0) (pe_int) (fun _ _ => rfl)) (pv 1)))
      (pss_cons (ps_asg (pe_op op_fdivW (pe_ix (r := rIxL K) ix_list (pv 0) (pe_int) (fun _ _ => rfl)) (pv 1)) (pg_sub (pv 0) (pe_int) set_list))
      (pss_one (ps_ret (pv 2)))))
      pss_nil)
    (pss_cons (ps_asg (pe_op op_mod (pe_op op_add (pe_op op_mul (pe_ix (r := rIxL K) ix_list (pv 0) (pe_int) (fun _ _ => rfl)) (pe_int)) (pe_int)) (pe_int)) (pg_sub (pv 0) (pe_int) set_list))
    (pss_one (ps_ret (pe_op op_mod (pe_op op_mod (pe_op op_pow (pe_op op_fdiv (pe_ix (r := rIxL K) ix_list (pv 0) (pe_int) (fun _ _ => rfl)) (pe_int)) (pe_int)) (pe_int)) (pv 1))))))
      , ?_⟩
    refine ⟨.ref p, rfl, p, _, 0, .int g, rfl, rfl, SqL.of hp, atI_nat (j := 0) rfl, _, 0, rfl, rfl, _, rfl, ite2 (fun e => ?_) (fun e => ?_)⟩
    · refine ⟨.ref p, rfl, p, _, 0, .int g, rfl, rfl, SqL.of hp, atI_nat (j := 0) rfl, .int m, rfl, g, m, rfl, rfl, m0, ?_⟩
      refine ⟨.ref p, rfl, p, _, 0, .int g, rfl, rfl, SqL.of hp, atI_nat (j := 0) rfl, .int m, rfl, g, m, rfl, rfl, wide_div (b := 40) m0 (by omega) (by decide) (by decide), .ref p, rfl, p, _, 0, 0, rfl, rfl, hp, rfl, ?_⟩
      refine ⟨_, rfl, q _ _ Keep.upd ⟨_, _, upd_same, ?_, r0, r1⟩ (Int.emod_nonneg _ (by omega)) (Int.emod_lt_of_pos _ m0)⟩
      exact Int.ediv_nonneg g0 (by omega)
    · refine ⟨.ref p, rfl, p, _, 1, .int r, rfl, rfl, SqL.of hp, atI_nat (j := 1) rfl, r, 48271, rfl, rfl, .inr ⟨by decide, by decide⟩, _, 11, rfl, rfl, _, 2147483647, rfl, rfl, pA, .ref p, rfl, p, _, 1, 1, rfl, rfl, hp, rfl, ?_⟩
      have hz0 : 0 ≤ (r * 48271 + 11) % 2147483647 := Int.emod_nonneg _ (by decide)
      have hz1 : (r * 48271 + 11) % 2147483647 < 2147483647 := Int.emod_lt_of_pos _ (by decide)
      refine ⟨.ref p, rfl, p, _, 1, _, rfl, rfl, SqL.of upd_same, atI_nat (j := 1) rfl, (r * 48271 + 11) % 2147483647, 8, rfl, rfl, ⟨by decide, by decide⟩, _, 3, rfl, rfl, ⟨by decide, by decide, ?_⟩, _, 2147483629, rfl, rfl, pB, .int m, rfl, _, m, rfl, rfl, m0, ?_⟩
      · omega
      · exact q _ _ Keep.upd ⟨_, _, upd_same, g0, hz0, by omega⟩ (Int.emod_nonneg _ (by omega)) (Int.emod_lt_of_pos _ m0)
end
/-- told and due are the same data, no truth, of a depth below n: True -/
def noB : PyData → Bool
  | .bool _ => false
  | .list ds => noBs ds
  | .tuple ds => noBs ds
  | _ => true
where noBs : List PyData → Bool
  | [] => true
  | d :: ds => noB d && noBs ds
def sp_like1 (n : Nat) : Sp := fun vs H Q _ => ∃ (v u : V) (d : PyData), vs = [v, u] ∧ Dt SA H v d ∧ Dt SA H u d ∧ d.canLay0 = true ∧ noB d = true ∧ d.depth < n ∧ n ≤ 60 ∧ ∀ H', Same H H' → Q (.bl true) H'
theorem noB_mem : ∀ {ds : List PyData} {i : Nat} {d : PyData}, noB.noBs ds = true → ds[i]? = some d → noB d = true
  | [], _, _, _, h => by simp at h
  | x :: ds, 0, d, k, h => by
    have e := Option.some.inj h
    subst e
    exact (Bool.and_eq_true_iff.mp (show (noB x && noB.noBs ds) = true from k)).1
  | x :: ds, i + 1, d, k, h => noB_mem (i := i) (Bool.and_eq_true_iff.mp (show (noB x && noB.noBs ds) = true from k)).2 h
section
variable {P : Program} {w : World} {K : PySem.W.Frag} {mg : Str → Option Value} {base : Heap} {k : Nat}
theorem ok_l_like (T : Defs K mg) : ∀ n : Nat, FnOk P w K mg base CX0 n T.a_l_like T.d_l_like ["_law_told", "_law_due_here"] (sp_like1 n) := by
  intro n
  induction n with
  | zero =>
    exact ⟨fun vs H Q E ⟨v, u, d, _, _, _, _, _, z, _⟩ => absurd z (Nat.not_lt_zero _), fun A outer s H args us vs Q E _ _ _ _ ⟨v, u, d, _, _, _, _, _, z, _⟩ => absurd z (Nat.not_lt_zero _)⟩
  | succ n ih =>
  have G_l_like := ih
  refine T.F_l_like.ok sc_l_like (fun vs H Q E h => ?_) (fun cdv A outer s H vs Q E hr h => ?_)
  · obtain ⟨v, u, d, rfl, _⟩ := h
    rfl
  · obtain ⟨v, u, d, rfl, hv, hu, hlay, hnb, hdep, hn, q⟩ := h
    refine ⟨_, PSs.nox
(pss_cons (ps_if (PW.pt (pw_or (pt_val (pe_callB call_isi (by rfl) T.z_isinstance (by decide +kernel) (pa_cons (pv 0) (pa_cons (pe_bltn (v := .ty "bool") (by rfl) T.z_bool (by decide +kernel) rfl) pa_nil)))) (pw_or1 (pt_cmpR (r := rNeD K) (op_neD hr.units) (pv 0) (pv 1) (nomark _)))))
      (pss_one (ps_ret (pe_bl)))
      pss_nil)
    (pss_cons (ps_if (pt_val (pe_callB call_isiT (by rfl) T.z_isinstance (by decide +kernel) (pa_cons (pv 0) (pa_cons (pe_tup (pa_cons (pe_bltn (v := .ty "list") (by rfl) T.z_list (by decide +kernel) rfl) (pa_cons (pe_bltn (v := .ty "tuple") (by rfl) T.z_tuple (by decide +kernel) rfl) pa_nil))) pa_nil))))
      (pss_one (ps_ret (pe_callB (r := rAll K) (cr_all rfl) (by rfl) T.z_all (by decide +kernel) (pa_cons (pe_lc (own := [("_law_one", 2), ("_law_other", 3)]) (g := gTup K 2 (gCons (gName 2) (gCons (gName 3) gNil))) rfl sc_l_like.nd (RZ.pi_zipA (by rfl) T.z_zip (pa_cons (pv 0) (pa_cons (pv 1) pa_nil))) (blkOk_by (N := N_l_like) (sc := defScope s_l_like) (by decide +kernel)) (fun _ _ _ _ _ => (pg_tup rfl (pgs_cons (pg_name (i := 2) sc_l_like.nd rfl (.inl rfl)) (pgs_cons (pg_name (i := 3) sc_l_like.nd rfl (.inl rfl)) pgs_nil)))) (fun _ _ _ _ _ => pts_nil) (fun _ _ _ _ _ => (pe_call G_l_like hr (by rfl) T.g_l_like T.F_l_like.kp T.b_l_like .nil pass0 (pa_cons (pv 2) (pa_cons (pv 3) pa_nil))))) pa_nil))))
      pss_nil)
    (pss_one (ps_ret (pe_bl)))))
      , ?_⟩
    have hsh : SeqAt.shaped d = true := Bool.and_eq_true_iff.mpr ⟨hlay, decide_eq_true (by omega)⟩
    have nb : isB d = false := by
      cases d with
      | bool b => cases hnb
      | _ => rfl
    refine ⟨v, rfl, v, .ty "bool", _, _, _, rfl, .ty "bool", hv.ty, kit_bool hv, _, rfl, ?_⟩
    rw [nb]
    refine iteF ?_
    refine ⟨v, rfl, u, rfl, d, d, hv.dp, hu.dp, hsh, hsh, _, rfl, ?_⟩
    rw [SeqAt.eqv_refl d hlay]
    refine iteF ?_
    refine ⟨v, rfl, by show 2 ≤ sizeLine; decide, fun t nt => ?_⟩
    have s1 : Same H (upd H t (.tup [.ty "list", .ty "tuple"])) := same_upd nt
    have hv1 := hv.same s1
    have hu1 := hu.same s1
    refine ⟨v, t, [.ty "list", .ty "tuple"], _, _, _, rfl, upd_same, .cons (.ty _) (.cons (.ty _) .nil), hv1.ty, kit_seq hv1, _, rfl, ?_⟩
    generalize upd H t (.tup [.ty "list", .ty "tuple"]) = H1 at s1 hv1 hu1
    cases hv1 with
    | non => exact iteF (q _ s1)
    | bl b => exact iteF (q _ s1)
    | int b => exact iteF (q _ s1)
    | str b => exact iteF (q _ s1)
    | @lst a xs ds _ ea la ra =>
      cases hu1 with
      | @lst b ys _ _ eb lb rb =>
      refine iteT ?_
      have lx := ra.len
      have ly := rb.len
      refine ⟨.ref a, rfl, .ref b, rfl, a, b, xs, ys, rfl, .inl ⟨SqL.of ea, SqL.of eb, fun D nD => ?_⟩⟩
      refine lc_it (walk_zip (n := xs.length) (xs := xs) (ys := ys) (by omega)) (fun i H3 => Same H1 H3 ∧ H3 D = some (.lst (List.replicate i (V.bl true)))) ⟨same_upd nD, upd_same⟩ (fun i H3 _ p => ⟨SqL.of (p.1 _ _ ea), SqL.of (p.1 _ _ eb)⟩) (fun i x H3 H4 hi p y => ?_) (fun H3 p => ?_)
      · obtain ⟨t1, x1, y1, rfl, nT, rfl, e1, e2⟩ := y
        obtain ⟨d1, f1, hd1⟩ := ra.get e1
        obtain ⟨d2, f2, hd2⟩ := rb.get e2
        have e12 : d1 = d2 := Option.some.inj (f1.symm.trans f2)
        subst e12
        have s2 : Same H1 (upd H3 t1 (.tup [x1, y1])) := p.1.trans (same_upd nT)
        refine ⟨t1, [x1, y1], rfl, SqT.of upd_same, rfl, x1, [y1], rfl, y1, [], rfl, rfl, rfl, yes_ ?_⟩
        refine ⟨x1, rfl, y1, rfl, x1, y1, d1, rfl, hd1.same s2, hd2.same s2, lay_mem hlay f1, noB_mem hnb f1, ?_, by omega, fun H5 s5 => ?_⟩
        · have := depth_mem f1
          rw [PyData.depth] at hdep
          omega
        · have eD : H5 D = some (.lst (List.replicate i (V.bl true))) := s5 _ _ (same_upd nT _ _ p.2)
          refine ⟨_, eD, by rw [List.length_replicate]; exact small5000 (by omega), fun c o e => ?_, ?_⟩
          · rw [upd_ne (ne_of_none e nD)]
            exact s5 _ _ (s2 _ _ e)
          · rw [upd_same, List.replicate_succ']
      · refine ⟨D, List.replicate xs.length true, rfl, SqL.of (by rw [p.2, List.map_replicate]), ?_⟩
        rw [show (List.replicate xs.length true).all id = true from by simp]
        exact q _ (s1.trans p.1)
    | @tup a xs ds _ ea la ra =>
      cases hu1 with
      | @tup b ys _ _ eb lb rb =>
      refine iteT ?_
      have lx := ra.len
      have ly := rb.len
      refine ⟨.ref a, rfl, .ref b, rfl, a, b, xs, ys, rfl, .inr ⟨SqT.of ea, SqT.of eb, fun D nD => ?_⟩⟩
      refine lc_it (walk_zipT (n := xs.length) (xs := xs) (ys := ys) (by omega)) (fun i H3 => Same H1 H3 ∧ H3 D = some (.lst (List.replicate i (V.bl true)))) ⟨same_upd nD, upd_same⟩ (fun i H3 _ p => ⟨SqT.of (p.1 _ _ ea), SqT.of (p.1 _ _ eb)⟩) (fun i x H3 H4 hi p y => ?_) (fun H3 p => ?_)
      · obtain ⟨t1, x1, y1, rfl, nT, rfl, e1, e2⟩ := y
        obtain ⟨d1, f1, hd1⟩ := ra.get e1
        obtain ⟨d2, f2, hd2⟩ := rb.get e2
        have e12 : d1 = d2 := Option.some.inj (f1.symm.trans f2)
        subst e12
        have s2 : Same H1 (upd H3 t1 (.tup [x1, y1])) := p.1.trans (same_upd nT)
        refine ⟨t1, [x1, y1], rfl, SqT.of upd_same, rfl, x1, [y1], rfl, y1, [], rfl, rfl, rfl, yes_ ?_⟩
        refine ⟨x1, rfl, y1, rfl, x1, y1, d1, rfl, hd1.same s2, hd2.same s2, lay_mem hlay f1, noB_mem hnb f1, ?_, by omega, fun H5 s5 => ?_⟩
        · have := depth_mem f1
          rw [PyData.depth] at hdep
          omega
        · have eD : H5 D = some (.lst (List.replicate i (V.bl true))) := s5 _ _ (same_upd nT _ _ p.2)
          refine ⟨_, eD, by rw [List.length_replicate]; exact small5000 (by omega), fun c o e => ?_, ?_⟩
          · rw [upd_ne (ne_of_none e nD)]
            exact s5 _ _ (s2 _ _ e)
          · rw [upd_same, List.replicate_succ']
      · refine ⟨D, List.replicate xs.length true, rfl, SqL.of (by rw [p.2, List.map_replicate]), ?_⟩
        rw [show (List.replicate xs.length true).all id = true from by simp]
        exact q _ (s1.trans p.1)
end
end Th
namespace Th
open PySem PySem.Spec PyProof.Rows L2
theorem up0 {H H' : Hp} {p : Addr} (s : Same H H') (n : H' p = none) : H p = none := by
  cases e : H p with
  | none => rfl
  | some o => rw [s _ _ e] at n; cases n
theorem same_set {S : Addr} {H H' : Hp} {o : HO} (k : Same H H') (n : H S = none) : Same H (upd H' S o) := fun c o ec => by
  rw [upd_ne (ne_of_none ec n)]
  exact k c o ec
theorem two_sz {x y : V} : [x, y].length ≤ sizeLine := by show 2 ≤ sizeLine; decide
/-! drawn accounts -/
def AccD (t : List Int) : Prop := Pm.Acc 10000000000 t.length t ∧ 1 ≤ t.length ∧ t.length ≤ 8
theorem ints_sum {xs : List Int} {B : Int} (h : ∀ x ∈ xs, -B ≤ x ∧ x ≤ B) : -(xs.length * B) ≤ xs.sum ∧ xs.sum ≤ xs.length * B := by
  induction xs with
  | nil => simp
  | cons x xs ih =>
    have h1 := ih fun y hy => h y (List.mem_cons_of_mem _ hy)
    have h2 := h x List.mem_cons_self
    rw [List.sum_cons, List.length_cons, Int.natCast_add, Int.add_mul]
    omega
theorem ins_sum (xs : List Int) (i : Nat) (y : Int) : (xs.take i ++ [y] ++ xs.drop i).sum = xs.sum + y := by
  have := congrArg List.sum (List.take_append_drop i xs)
  rw [List.sum_append] at this
  rw [List.sum_append, List.sum_append, List.sum_singleton]
  omega
theorem ins_len {α : Type} (xs : List α) (i : Nat) (y : α) : (xs.take i ++ [y] ++ xs.drop i).length = xs.length + 1 := by
  have := congrArg List.length (List.take_append_drop i xs)
  rw [List.length_append] at this
  rw [List.length_append, List.length_append, List.length_singleton]
  omega
theorem ins_mem {α : Type} {xs : List α} {i : Nat} {y z : α} (h : z ∈ xs.take i ++ [y] ++ xs.drop i) : z ∈ xs ∨ z = y := by
  rcases List.mem_append.mp h with h | h
  · rcases List.mem_append.mp h with h | h
    · exact .inl (List.mem_of_mem_take h)
    · exact .inr (List.mem_singleton.mp h)
  · exact .inl (List.mem_of_mem_drop h)
theorem ins_map {α β : Type} (f : α → β) (xs : List α) (i : Nat) (y : α) : (xs.map f).take i ++ [f y] ++ (xs.map f).drop i = (xs.take i ++ [y] ++ xs.drop i).map f := by
  rw [List.map_append, List.map_append, List.map_take, List.map_drop]
  rfl
section
variable {P : Program} {w : World} {K : PySem.W.Frag} {mg : Str → Option Value} {base : Heap} {k : Nat}
def sp_l_accounts : Sp := fun vs H Q _ => ∃ (p : Addr) (most : Nat), vs = [.ref p, .int most] ∧ Bag H p ∧ 1 ≤ most ∧ most ≤ 8 ∧ ∀ (H' : Hp) (l : Addr) (t : List Int), Keep p H H' → Bag H' p → H l = none → H' l = some (.lst (t.map V.int)) → AccD t → t.length ≤ most → Q (.ref l) H'
/-- the state of accounts under way: D is the list -/
structure AcS (H H3 : Hp) (p D : Addr) (fs : List Int) : Prop where
  k : Keep p H H3
  b : Bag H3 p
  e : H3 D = some (.lst (fs.map V.int))
  bd : ∀ x ∈ fs, -10000000000 ≤ x ∧ x ≤ 10000000000
theorem AcS.new {H H3 : Hp} {p D q : Addr} {fs : List Int} {o : HO} (h : AcS H H3 p D fs) (n : H3 q = none) : AcS H (upd H3 q o) p D fs := ⟨h.k.new n, h.b.keep (same_upd n), same_upd n _ _ h.e, h.bd⟩
theorem AcS.keep {H H3 H4 : Hp} {p D : Addr} {fs : List Int} (h : AcS H H3 p D fs) (k : Keep p H3 H4) (b : Bag H4 p) (nD : D ≠ p) : AcS H H4 p D fs := ⟨h.k.trans k, b, k _ _ nD h.e, h.bd⟩
set_option maxHeartbeats 8000000 in
theorem ok_l_accounts (T : Defs K mg) : FnOk P w K mg base CX0 (k + 2) T.a_l_accounts T.d_l_accounts ["_law_bag_here", "_law_most"] sp_l_accounts := by
  have G_l_take : FnOk P w K mg base CX0 (k + 1) _ _ _ _ := ok_l_take T
  refine T.F_l_accounts.ok sc_l_accounts (fun vs H Q E h => ?_) (fun cdv A outer s H vs Q E hr h => ?_)
  · obtain ⟨p, pence, rfl, _⟩ := h
    rfl
  · obtain ⟨p, most, rfl, b, m1, m8, q⟩ := h
    refine ⟨_, PSs.nox
(pss_cons (ps_par (i := 2) (j := 3) (by rfl) sc_l_accounts.nd rfl rfl (by decide) rfl rfl (pa_cons (pe_lst pa_nil) (pa_cons (pe_op op_add (pe_int) (pe_call G_l_take hr (by rfl) T.g_l_take T.F_l_take.kp T.b_l_take .nil pass0 (pa_cons (pv 0) (pa_cons (pv 1) pa_nil)))) pa_nil)) (by rfl))
    (pss_cons (ps_set (i := 4) sc_l_accounts.nd rfl (.inr rfl) (pe_ix (r := rIxT K) ix_tup (pe_tup (pa_cons (pe_int) (pa_cons (pe_int) (pa_cons (pe_int) (pa_cons (pe_op op_pow (pe_int) (pe_int)) pa_nil))))) (pe_call G_l_take hr (by rfl) T.g_l_take T.F_l_take.kp T.b_l_take .nil pass0 (pa_cons (pv 0) (pa_cons (pe_int) pa_nil))) (fun _ _ => rfl)))
    (pss_cons (ps_while PassesOwn.never (pt_cmpR op_gt (pv 3) (pe_int) (nomark _))
      (pss_cons (ps_set (i := 5) sc_l_accounts.nd rfl (.inl rfl) (pe_op op_add (pe_int) (pe_call G_l_take hr (by rfl) T.g_l_take T.F_l_take.kp T.b_l_take .nil pass0 (pa_cons (pv 0) (pa_cons (pe_callB (call_min2 rfl) (by rfl) T.z_min (by decide +kernel) (pa_cons (pv 3) (pa_cons (pe_ix (r := rIxT K) ix_tup (pe_tup (pa_cons (pe_int) (pa_cons (pe_int) (pa_cons (pe_int) pa_nil)))) (pe_call G_l_take hr (by rfl) T.g_l_take T.F_l_take.kp T.b_l_take .nil pass0 (pa_cons (pv 0) (pa_cons (pe_int) pa_nil))) (fun _ _ => rfl)) pa_nil))) pa_nil)))))
      (pss_cons (ps_setLc (i := 6) (own := [("_law_k", 8)]) (g := gName 8) rfl sc_l_accounts.nd rfl rfl (sw_true rfl rfl rfl (by decide +kernel)) (pi_range1 (by rfl) T.z_range (pa_cons (pe_op op_sub (pv 5) (pe_int)) pa_nil)) (blkOk_by (N := N_l_accounts) (sc := defScope s_l_accounts) (by decide +kernel)) (fun _ _ _ _ _ => (pg_name (i := 8) sc_l_accounts.nd rfl (.inl rfl))) (fun _ _ _ _ _ => pts_nil) (fun _ _ _ _ _ => (pe_op op_sub (pe_call G_l_take hr (by rfl) T.g_l_take T.F_l_take.kp T.b_l_take .nil pass0 (pa_cons (pv 0) (pa_cons (pe_op op_add (pe_op op_mul (pe_int) (pv 4)) (pe_int)) pa_nil))) (pv 4))))
      (pss_cons (ps_for PassesOwn.never rfl (pi_list (pe_op op_cat (pv 6) (pe_lst (pa_cons (pe_un un_neg (pe_callB (r := rSum K) (cr_sum rfl) (by rfl) T.z_sum (by decide +kernel) (pa_cons (pv 6) pa_nil))) pa_nil)))) (pg_name (i := 7) sc_l_accounts.nd rfl (.inl rfl))
        (pss_one (ps_expr (pe_bm PySem.F.plainAttrs_list PySem.F.slot_list_insert PySem.F.type_list_insert mt_insert (pv 2) (pa_cons (pe_call G_l_take hr (by rfl) T.g_l_take T.F_l_take.kp T.b_l_take .nil pass0 (pa_cons (pv 0) (pa_cons (pe_op op_add (pe_callB (r := rLenS K) call_lenS (by rfl) T.z_len (by decide +kernel) (pa_cons (pv 2) pa_nil)) (pe_int)) pa_nil))) (pa_cons (pv 7) pa_nil))))))
      (pss_one (ps_aug (i := 3) sc_l_accounts.nd rfl (.inl rfl) (pv 5) ip_sub))))))
    (pss_one (ps_ret (pv 2))))))
      , ?_⟩
    refine ⟨Nat.zero_le _, fun D nD => ?_⟩
    have b1 := b.keep (same_upd (o := .lst []) nD)
    have nDp : D ≠ p := b.ne nD
    refine ⟨.ref p, rfl, .int most, rfl, p, most, rfl, b1, by omega, by omega, fun H2 d k2 b2 d0 d1 => ?_⟩
    have a2 : AcS H H2 p D [] := ⟨(Keep.of (same_upd nD)).trans k2, b2, k2 _ _ nDp upd_same, fun x hx => (by cases hx)⟩
    refine ⟨1, d, rfl, rfl, _, _, rfl, ?_⟩
    -- great
    refine ⟨10, 9, rfl, rfl, ⟨by decide, by decide, by decide⟩, by show 4 ≤ sizeLine; decide, fun t nt => ?_⟩
    have a3 := a2.new (o := .tup [.int 3, .int 20, .int 1000, .int (10 ^ (9 : Int).toNat)]) nt
    refine ⟨.ref p, rfl, p, 4, rfl, a3.b, by decide, by decide, fun H3 c k3 b3 c0 c1 => ?_⟩
    have et : H3 t = some (.tup (([3, 20, 1000, 1000000000] : List Int).map V.int)) := k3 _ _ (a2.b.ne nt) upd_same
    obtain ⟨great, hgr, ha⟩ := pick (ms := [3, 20, 1000, 1000000000]) c0 c1
    have hgr : 3 ≤ great ∧ great ≤ 1000000000 := by
      simp only [List.mem_cons, List.not_mem_nil, or_false] at hgr
      omega
    have a4 := a3.keep k3 b3 nDp
    refine ⟨t, _, c, _, rfl, rfl, SqT.of et, ha, ?_⟩
    -- while left > 0
    refine while_by (fun σ H5 => ∃ (left : Nat) (fs : List Int) (y5 y6 y7 : Option V), σ = [some (.ref p), some (.int most), some (.ref D), some (.int left), some (.int great), y5, y6, y7, none] ∧ AcS H H5 p D fs ∧ fs.sum = 0 ∧ fs.length + left = (1 + d).toNat)
      (fun σ _ => match (σ[3]? : Option (Option V)) with | some (some (V.int i)) => i.toNat | _ => 0) ⟨(1 + d).toNat, [], none, none, none, by rw [show ((1 + d).toNat : Int) = 1 + d by omega]; rfl, a4, rfl, Nat.zero_add _⟩ (fun σ H5 hp => ?_) (fun σ H5 Q Q' h z => ?_)
    · obtain ⟨left, fs, y5, y6, y7, rfl, a5, fs0, fsl⟩ := hp
      refine ⟨.int left, rfl, _, _, rfl, rfl, _, rfl, ite2 (fun hl => ?_) (fun hl => ?_)⟩
      · have hl : (0 : Int) < left := of_decide_eq_true hl
        -- many
        refine ⟨.ref p, rfl, .int left, rfl, by show 3 ≤ sizeLine; decide, fun t nt => ?_⟩
        have a6 := a5.new (o := .tup [.int 2, .int 3, .int 8]) nt
        refine ⟨.ref p, rfl, p, 3, rfl, a6.b, by decide, by decide, fun H6 c k6 b6 c0 c1 => ?_⟩
        have et : H6 t = some (.tup (([2, 3, 8] : List Int).map V.int)) := k6 _ _ (a5.b.ne nt) upd_same
        obtain ⟨mx, hmx, ha⟩ := pick (ms := [2, 3, 8]) c0 c1
        have hmx : 2 ≤ mx ∧ mx ≤ 8 := by
          simp only [List.mem_cons, List.not_mem_nil, or_false] at hmx
          omega
        have a7 := a6.keep k6 b6 nDp
        refine ⟨t, _, c, _, rfl, rfl, SqT.of et, ha, _, _, rfl, p, _, rfl, a7.b, by split <;> omega, by split <;> omega, fun H7 e k7 b7 e0 e1 => ?_⟩
        have a8 := a7.keep k7 b7 nDp
        have e1 : e < left ∧ e < 8 := by
          split at e1 <;> omega
        refine ⟨1, e, rfl, rfl, ?_⟩
        -- pence
        refine ⟨.int (1 + e), rfl, _, _, rfl, rfl, _, rfl, by omega, by omega, fun B nB => ?_⟩
        have nBp : B ≠ p := a8.b.ne nB
        have nBD : D ≠ B := ne_of_none a8.e nB
        have en : (1 + e - 1).toNat = e.toNat := by omega
        rw [en]
        refine lc_it walk_range (fun i H8 => AcS H H8 p D fs ∧ ∃ ps : List Int, ps.length = i ∧ (∀ x ∈ ps, -great ≤ x ∧ x ≤ great) ∧ H8 B = some (.lst (ps.map V.int))) ⟨a8.new nB, [], rfl, fun x hx => (by cases hx), upd_same⟩ (fun _ _ _ _ => trivial) (fun i x H8 H8' hi pv y => ?_) (fun H8 pv => ?_)
        · obtain ⟨rfl, rfl⟩ := y
          obtain ⟨a9, ps, hpl, hpb, eB⟩ := pv
          refine ⟨rfl, yes_ ?_⟩
          refine ⟨.ref p, rfl, .int great, rfl, 2, great, rfl, rfl, .inl ⟨by decide, by decide⟩, _, 1, rfl, rfl, p, _, rfl, a9.b, by omega, by omega, fun H9 c k9 b9 c0 c1 => ?_⟩
          refine ⟨.int great, rfl, c, great, rfl, rfl, ?_⟩
          have a10 := a9.keep k9 b9 nDp
          refine ⟨_, k9 _ _ nBp eB, by rw [List.length_map]; exact small5000 (by omega), ⟨?_, a10.b.at (upd_ne nBp.symm), by rw [upd_ne nBD]; exact a10.e, a10.bd⟩, ps ++ [c - great], by rw [List.length_append, hpl]; rfl, fun x hx => ?_, by rw [upd_same, List.map_append]; rfl⟩
          · intro c' o nc ec
            rw [upd_ne (fun z => by rw [z] at ec; exact absurd (a8.k _ _ nBp ec) (by rw [nB]; simp))]
            exact a10.k _ _ nc ec
          · rcases List.mem_append.mp hx with z | z
            · exact hpb x z
            · rw [List.mem_singleton.mp z]
              omega
        · obtain ⟨a9, ps, hpl, hpb, eB⟩ := pv
          have hpl' : (ps.length : Int) = e := by omega
          have hsum := ints_sum hpb
          have hs : -(7 * 1000000000) ≤ ps.sum ∧ ps.sum ≤ 7 * 1000000000 := by
            have : (ps.length : Int) * great ≤ 7 * 1000000000 := Int.mul_le_mul (by omega) hgr.2 (by omega) (by decide)
            omega
          -- pence + [-sum(pence)]
          refine ⟨.ref B, rfl, .ref B, rfl, B, ps, rfl, SqL.of eB, _, rfl, by show 1 ≤ sizeLine; decide, fun l1 n1 => ?_⟩
          have eB1 := same_upd (o := .lst [V.int (-ps.sum)]) n1 _ _ eB
          refine ⟨B, l1, _, _, rfl, rfl, eB1, upd_same, by rw [List.length_map]; exact Nat.le_of_lt (small5000 (by show _ + 1 ≤ 5000; omega)), fun C nC => ?_⟩
          have a10 := (a9.new (o := .lst [V.int (-ps.sum)]) n1).new (o := .lst (ps.map V.int ++ [V.int (-ps.sum)])) nC
          have eC : (upd (upd H8 l1 (.lst [V.int (-ps.sum)])) C (.lst (ps.map V.int ++ [V.int (-ps.sum)]))) C = some (.lst ((ps ++ [-ps.sum]).map V.int)) := by rw [upd_same, List.map_append]; rfl
          have nCD : D ≠ C := ne_of_none (a9.new (o := .lst [V.int (-ps.sum)]) n1).e nC
          have nCp : C ≠ p := (a9.new (o := .lst [V.int (-ps.sum)]) n1).b.ne nC
          have nCH : H C = none := a9.k.free b (up0 (same_upd n1) nC) a9.b
          generalize upd (upd H8 l1 (.lst [V.int (-ps.sum)])) C (.lst (ps.map V.int ++ [V.int (-ps.sum)])) = H9 at a10 eC
          have hqs : (ps ++ [-ps.sum]).sum = 0 := by rw [List.sum_append, List.sum_singleton]; omega
          have hqb : ∀ x ∈ ps ++ [-ps.sum], -10000000000 ≤ x ∧ x ≤ 10000000000 := fun x hx => by
            rcases List.mem_append.mp hx with z | z
            · have := hpb x z
              omega
            · rw [List.mem_singleton.mp z]
              omega
          have hql : ((ps ++ [-ps.sum]).length : Int) = 1 + e := by rw [List.length_append, List.length_singleton]; omega
          generalize ps ++ [-ps.sum] = qs at eC hqs hqb hql
          refine ⟨C, rfl, ⟨_, SqL.of eC⟩, ?_⟩
          refine for_it (walk_list (xs := qs.map V.int)) (fun i σ H10 => ∃ (gs : List Int) (y7 : Option V), σ = [some (.ref p), some (.int most), some (.ref D), some (.int left), some (.int great), some (.int (1 + e)), some (.ref B), y7, none] ∧ AcS H H10 p D gs ∧ H10 C = some (.lst (qs.map V.int)) ∧ gs.sum = (qs.take i).sum ∧ gs.length = fs.length + i)
            ⟨fs, _, rfl, a10, eC, fs0, rfl⟩ (fun i σ H10 _ hp => ?_) (fun i v σ H10₀ H10 hi hp yy => ?_) (fun σ H10 hp => ?_)
          · obtain ⟨_, _, _, _, e, _⟩ := hp
            exact SqL.of e
          · obtain ⟨rfl, ex⟩ := yy
            obtain ⟨gs, y7, rfl, a11, eC10, gs0, gsl⟩ := hp
            rw [List.length_map] at hi
            have ev : v = .int qs[i] := by
              rw [List.getElem?_map, List.getElem?_eq_getElem hi] at ex
              exact (Option.some.inj ex).symm
            subst ev
            have gl8 : gs.length ≤ 8 := by omega
            refine ⟨.ref D, rfl, .inl ⟨rfl, _, SqL.of a11.e⟩, .ref p, rfl, .ref D, rfl, D, _, rfl, .inl (SqL.of a11.e), _, 1, rfl, rfl, p, _, rfl, a11.b, by omega, by rw [List.length_map]; omega, fun H11 c k11 b11 c0 c1 => ?_⟩
            have a12 := a11.keep k11 b11 nDp
            refine ⟨.int qs[i], rfl, D, _, c, _, rfl, rfl, a12.e, by rw [List.length_map]; exact small5000 (by omega), c0, by rw [List.length_map] at c1; omega, ?_⟩
            rw [ins_map]
            have hbd := hqb _ (List.getElem_mem hi)
            refine ⟨gs.take c.toNat ++ [qs[i]] ++ gs.drop c.toNat, _, rfl, ⟨fun c' o nc ec => ?_, a12.b.at (upd_ne nDp.symm), upd_same, fun x hx => ?_⟩, ?_, ?_, ?_⟩
            · rw [upd_ne (fun z => by rw [z] at ec; rw [nD] at ec; cases ec)]
              exact a12.k _ _ nc ec
            · rcases ins_mem hx with z | z
              · exact a12.bd x z
              · rw [z]
                exact hbd
            · rw [upd_ne nCD.symm]
              exact k11 _ _ nCp eC10
            · rw [ins_sum, gs0, List.take_add_one, List.getElem?_eq_getElem hi, List.sum_append]
              simp
            · rw [ins_len, gsl, Nat.add_assoc]
          · obtain ⟨gs, y7, rfl, a11, eC10, gs0, gsl⟩ := hp
            rw [List.length_map, List.take_length] at gs0
            rw [List.length_map] at gsl
            refine ⟨.int left, rfl, .int (1 + e), rfl, _, _, rfl, rfl, ?_⟩
            have el : (left : Int) - (1 + e) = ((left - (1 + e).toNat : Nat) : Int) := by omega
            refine ⟨⟨left - (1 + e).toNat, gs, _, _, _, by rw [← el]; rfl, a11, by rw [gs0]; exact hqs, by omega⟩, ?_⟩
            show ((left : Int) - (1 + e)).toNat < ((left : Nat) : Int).toNat
            omega
      · have hl : ¬ (0 : Int) < left := fun z => hl (decide_eq_true z)
        refine ⟨.ref D, rfl, q _ D fs a5.k a5.b nD a5.e ⟨⟨rfl, fs0, fun i hi => ?_⟩, by omega, by omega⟩ (by omega)⟩
        have := a5.bd (fs.getD i 0) (by rw [List.getD_eq_getElem?_getD, List.getElem?_eq_getElem hi]; exact List.getElem_mem hi)
        omega
    · obtain ⟨v, e, i, j, e1, e2, b, e3, z⟩ := z
      exact ⟨v, e, i, j, e1, e2, b, e3, h _ _ z⟩
end
end Th
namespace Th
open PySem PySem.Spec PyProof.Rows L2
/-! parts -/
open LamX in
theorem ExtN.seq {K : PySem.W.Frag} {H H' : Hp} {a : Addr} {xs : List V} (e : ExtN H H') (h : SqL K H a xs) : SqL K H' a xs := by
  rcases h with (h | ⟨o, h⟩) | h
  · exact .inl (.inl (e _ _ h fun _ z => nomatch z))
  · exact .inl (.inr ⟨o, e _ _ h fun _ z => nomatch z⟩)
  · exact .inr h
theorem ExtN.free {H H' : Hp} (e : LamX.ExtN H H') {l : Addr} (h : H' l = none) (ht : ∀ ps, H l ≠ some (.tbl ps)) : H l = none := by
  cases q : H l with
  | none => rfl
  | some o =>
    rw [e l o q (fun ps z => ht ps (by rw [q, z]))] at h
    cases h
theorem ExtN.lst {H H' : Hp} (e : LamX.ExtN H H') {l : Addr} {xs : List V} (h : H l = some (.lst xs)) : H' l = some (.lst xs) := e _ _ h fun _ z => nomatch z
theorem ExtN.tup {H H' : Hp} (e : LamX.ExtN H H') {l : Addr} {xs : List V} (h : H l = some (.tup xs)) : H' l = some (.tup xs) := e _ _ h fun _ z => nomatch z
theorem tab_upd {H : Hp} {P p : Addr} {q : Str} {o u : HO} (t : LamX.TabS H P q) (hp : H p = some o) (n1 : ∀ ps, o ≠ .tbl ps) (n2 : ∀ c, o ≠ LamX.CodeO c q) : LamX.TabS (upd H p u) P q := by
  obtain ⟨ps, h1, h2, h3⟩ := t
  refine ⟨ps, ?_, h2, fun pos cv hc => ?_⟩
  · rw [upd_ne (fun z => n1 ps (by rw [← z, h1] at hp; exact (Option.some.inj hp).symm))]
    exact h1
  · obtain ⟨c, e1, e2⟩ := h3 pos cv hc
    refine ⟨c, e1, ?_⟩
    rw [upd_ne (fun z => n2 c (by rw [← z, e2] at hp; exact (Option.some.inj hp).symm))]
    exact e2
theorem lst_ne_code {xs : List V} (c : Addr) (q : Str) : HO.lst xs ≠ LamX.CodeO c q := fun z => by unfold LamX.CodeO at z; cases z
theorem tab_lst {H : Hp} {P p : Addr} {q : Str} {xs : List V} {u : HO} (t : LamX.TabS H P q) (hp : H p = some (.lst xs)) : LamX.TabS (upd H p u) P q :=
  tab_upd t hp (fun _ z => nomatch z) fun c => lst_ne_code c q
theorem ext_fresh {H H' : Hp} {p : Addr} {u : HO} (n : H p = none) (e : LamX.ExtN H H') : LamX.ExtN H (upd H' p u) := fun b o h nt => by
  rw [upd_ne (ne_of_none h n)]
  exact e b o h nt
theorem cut_take (xs : List V) (m : Nat) : cutV xs none (some (m : Int)) = xs.take m := by
  unfold cutV
  rw [HT.sIx_none, HT.sIx_nat]
  show (xs.drop 0).take (min m xs.length - 0) = xs.take m
  rw [List.drop_zero, Nat.sub_zero]
  by_cases h : m ≤ xs.length
  · rw [Nat.min_eq_left h]
  · rw [Nat.min_eq_right (by omega), List.take_length, List.take_of_length_le (by omega)]
theorem sum_lt : ∀ (ws : List Int), (∀ w ∈ ws, 0 ≤ w ∧ w < 2 ^ 63) → 0 ≤ ws.sum ∧ ws.sum ≤ ws.length * 2 ^ 63
  | [], _ => by simp
  | w :: ws, h => by
    have h1 := h w (List.mem_cons_self ..)
    have h2 := sum_lt ws fun x hx => h x (List.mem_cons_of_mem _ hx)
    rw [List.sum_cons, List.length_cons]
    omega
theorem wide_ok {z : Int} (h0 : 0 < z) (h1 : z ≤ 1000 * 2 ^ 63) : CDivW 0 z := by
  refine ⟨h0, ?_⟩
  refine Nat.lt_of_le_of_lt ?_ (show 99 < 9000 by decide)
  have h2 : z.natAbs < 2 ^ 100 := by omega
  have h3 : z.natAbs ≠ 0 := by omega
  have := (Nat.log2_lt h3).mpr h2
  omega
section
variable {P : Program} {w : World} {K : PySem.W.Frag} {mg : Str → Option Value} {base : Heap} {k : Nat}
/-- the rule for a def whose code object is known -/
theorem okC {x : Str} {st : Stmt} {f : Addr} {fd : FuncData} {N ps : List Str} {sp : Sp} (F : FnP K x st f fd) (S : FnScope N ps (defScope st)) (len : ∀ vs H Q E, sp vs H Q E → vs.length = ps.length)
    (hb : ∀ (A : Around) (outer : List Env) (s : Shared) (H : Hp) (vs : List V) (Q : VK) (E : XK), Room k (A.deeper (envOfC x (defScope st) s.heap.objs.size f fd.code)) → sp vs H Q E →
      ∃ t, PSs (cxOf CX0 P w K mg base N x (defScope st) f fd.code A outer s H E) (defBody st) t ∧ t { nx := fun _ H' => Q .non H', rt := Q } (start N vs) H) : FnOk P w K mg base CX0 (k + 1) f fd ps sp := by
  obtain ⟨oc, od, dV, kV, doc, pm, an, cdv, ct, osl, rfl, lk, hcd, _, _⟩ := F.ex
  exact fn_of lk hcd S len fun A outer s H vs Q E hr hsp => hb A outer s H vs Q E hr hsp
abbrev qParts : Str := (Str.ofString "parts" ++ Str.ofString ".<locals>.") ++ Str.ofString "<lambda>"
abbrev TabP (T : Defs K mg) (H : Hp) : Prop := LamX.TabS H T.tp_parts qParts
def sp_parts (T : Defs K mg) : Sp := fun vs H Q _ => ∃ (pence : Int) (a : Addr) (ws : List Int), vs = [.int pence, .ref a] ∧ SqL K H a (ws.map V.int) ∧ ws.length ≤ 1000 ∧ 0 ≤ pence ∧ pence < 2 ^ 63 ∧ (∀ w ∈ ws, 0 ≤ w ∧ w < 2 ^ 63) ∧ TabP T H ∧
  ∀ H' p, LamX.ExtN H H' → TabP T H' → H p = none → H' p = some (.lst ((Pm.partsM pence ws).map V.int)) → Q (.ref p) H'
set_option maxHeartbeats 8000000 in
theorem ok_parts (T : Defs K mg) (TB : LamX.TabB base mg T.cc_parts T.tp_parts) : FnOk P w K mg base CX0 4 T.a_parts T.d_parts ["pence", "weights"] (sp_parts T) := by
  refine okC T.F_parts sc_parts (fun vs H Q E h => ?_) (fun A outer s H vs Q E hr h => ?_)
  · obtain ⟨p, a, ws, rfl, _⟩ := h
    rfl
  · obtain ⟨pence, a, ws, rfl, hS, hlen, p0, p1, hw, hT, q⟩ := h
    obtain ⟨W0, W1⟩ := sum_lt ws hw
    have lenV : (ws.map V.int).length = ws.length := List.length_map _
    refine ⟨_, PSs.nox
(pss_cons (ps_set (i := 2) sc_parts.nd rfl (.inr rfl) (pe_callB (r := rSum K) (cr_sum rfl) (by rfl) T.z_sum (by decide +kernel) (pa_cons (pv 1) pa_nil)))
    (pss_cons (ps_if (pt_cmpR op_eq (pv 2) (pe_int) (nomark _))
      (pss_one (ps_ret (pe_op op_rep (pe_lst (pa_cons (pe_int) pa_nil)) (pe_callB (r := rLenS K) call_lenS (by rfl) T.z_len (by decide +kernel) (pa_cons (pv 1) pa_nil)))))
      pss_nil)
    (pss_cons (ps_setLc (i := 3) (own := [("weight", 8)]) (g := gName 8) rfl sc_parts.nd rfl rfl (sw_true rfl rfl rfl (by decide +kernel)) (pi_list (pv 1)) (blkOk_by (N := N_parts) (sc := defScope s_parts) (by decide +kernel)) (fun _ _ _ _ _ => (pg_name (i := 8) sc_parts.nd rfl (.inl rfl))) (fun _ _ _ _ _ => pts_nil) (fun _ _ _ _ _ => (pe_op op_fdivW (pe_op op_mul (pv 0) (pv 8)) (pv 2))))
    (pss_cons (ps_set (i := 4) sc_parts.nd rfl (.inr rfl) (pe_lc (own := [("weight", 8)]) (g := gName 8) rfl sc_parts.nd (pi_list (pv 1)) (blkOk_by (N := N_parts) (sc := defScope s_parts) (by decide +kernel)) (fun _ _ _ _ _ => (pg_name (i := 8) sc_parts.nd rfl (.inl rfl))) (fun _ _ _ _ _ => pts_nil) (fun _ _ _ _ _ => (pe_op op_mod (pe_op op_mul (pv 0) (pv 8)) (pv 2)))))
    (pss_cons (ps_set (i := 5) sc_parts.nd rfl (.inl rfl) (pe_op op_sub (pv 0) (pe_callB (r := rSum K) (cr_sum rfl) (by rfl) T.z_sum (by decide +kernel) (pa_cons (pv 3) pa_nil))))
    (pss_cons (ps_set (i := 6) sc_parts.nd rfl (.inl rfl) (Lk.pe_sortedLam (k := 0) (iy := 4) rfl (by rfl) T.z_sorted (by rfl) T.z_range (pe_callB (r := rLenS K) call_lenS (by rfl) T.z_len (by decide +kernel) (pa_cons (pv 1) pa_nil)) TB T.dc_parts (Lk.lam1_by (sc := defScope s_parts) rfl rfl rfl (by decide +kernel) (by decide +kernel) (by decide +kernel) (by decide +kernel)) rfl rfl (fun _ _ _ _ _ _ _ => rfl) hr (by decide) (by decide) (by decide)))
    (pss_cons (ps_for PassesOwn.never rfl (pi_list (pe_slice sl_list (pv 6) po_none (po_some (pv 5)))) (pg_name (i := 7) sc_parts.nd rfl (.inl rfl))
      (pss_one (ps_augS (pv 3) (pv 7) get_listN (pe_int) ip_add set_list)))
    (pss_one (ps_ret (pv 3))))))))))
      , ?_⟩
    -- whole = sum(weights)
    refine ⟨.ref a, rfl, a, ws, rfl, hS, ?_⟩
    -- if whole == 0
    refine ⟨.int ws.sum, rfl, rfl, _, rfl, ite2 (fun e => ?_) (fun e => ?_)⟩
    · have e0 : ws.sum = 0 := V.int.inj (of_decide_eq_true e)
      refine ⟨by show 1 ≤ sizeLine; decide, fun l n1 => ?_⟩
      refine ⟨.ref a, rfl, a, ws.map V.int, rfl, .inl ((same_upd n1).seq hS), ?_⟩
      refine ⟨l, _, [.int 0], rfl, rfl, upd_same, by rw [lenV]; omega, by rw [lenV]; omega, by rw [lenV]; show 1 * _ ≤ sizeLine; exact Nat.le_trans (by omega) (show 5000 ≤ sizeLine by decide), fun p np => ?_⟩
      refine q _ p (.of ((same_upd n1).trans (same_upd np))) (hT.ext ((same_upd n1).trans (same_upd np))) ((same_upd n1).free np) ?_
      rw [upd_same, lenV]
      unfold Pm.partsM
      rw [if_pos e0, List.map_replicate]
      congr 2
      show (List.replicate ((ws.length : Int).toNat) [V.int 0]).flatten = _
      rw [Int.toNat_natCast]
      generalize ws.length = m
      induction m with
      | zero => rfl
      | succ m ih => rw [List.replicate_succ, List.flatten_cons, ih, List.replicate_succ]; rfl
    · have hW : 0 < ws.sum := by
        have : ws.sum ≠ 0 := fun z => e (decide_eq_true (congrArg V.int z))
        omega
      have wd : CDivW 0 ws.sum := wide_ok hW (by omega)
      -- told
      refine ⟨.ref a, rfl, a, rfl, ⟨_, hS⟩, fun D nD => ?_⟩
      refine lc_it (walk_list (xs := ws.map V.int)) (fun i H3 => Same H H3 ∧ H3 D = some (.lst (((Pm.told pence ws).take i).map V.int))) ⟨same_upd nD, upd_same⟩ (fun i H3 _ p => p.1.seq hS) (fun i x H3 H4 hi p y => ?_) (fun H3 p => ?_)
      · obtain ⟨rfl, ex⟩ := y
        rw [lenV] at hi
        rw [List.getElem?_map, List.getElem?_eq_getElem hi] at ex
        have ex : x = .int ws[i] := (Option.some.inj ex).symm
        subst ex
        have hm := hw ws[i] (List.getElem_mem hi)
        refine ⟨rfl, yes_ ?_⟩
        refine ⟨.int pence, rfl, .int ws[i], rfl, pence, ws[i], rfl, rfl, .inl ⟨by omega, by omega⟩, .int ws.sum, rfl, _, ws.sum, rfl, rfl, wd, _, p.2, ?_, fun b o eb => ?_, ?_⟩
        · rw [List.length_map, List.length_take]
          exact small5000 (by omega)
        · rw [upd_ne (ne_of_none eb nD)]
          exact p.1 _ _ eb
        · rw [upd_same, List.take_add_one]
          have : (Pm.told pence ws)[i]? = some (pence * ws[i] / ws.sum) := by
            unfold Pm.told
            rw [List.getElem?_map, List.getElem?_eq_getElem hi]
            rfl
          rw [this, List.map_append]
          rfl
      · obtain ⟨s3, eD⟩ := p
        rw [lenV, List.take_of_length_le (by rw [Pm.told_len]; exact Nat.le_refl _)] at eD
        -- rests
        refine ⟨.ref a, rfl, a, rfl, ⟨_, s3.seq hS⟩, fun R nR => ?_⟩
        refine lc_it (walk_list (xs := ws.map V.int)) (fun i H4 => Same H3 H4 ∧ H4 R = some (.lst (((Pm.rests pence ws).take i).map V.int))) ⟨same_upd nR, upd_same⟩ (fun i H4 _ p => p.1.seq (s3.seq hS)) (fun i x H4 H5 hi p y => ?_) (fun H4 p => ?_)
        · obtain ⟨rfl, ex⟩ := y
          rw [lenV] at hi
          rw [List.getElem?_map, List.getElem?_eq_getElem hi] at ex
          have ex : x = .int ws[i] := (Option.some.inj ex).symm
          subst ex
          have hm := hw ws[i] (List.getElem_mem hi)
          refine ⟨rfl, yes_ ?_⟩
          refine ⟨.int pence, rfl, .int ws[i], rfl, pence, ws[i], rfl, rfl, .inl ⟨by omega, by omega⟩, .int ws.sum, rfl, _, ws.sum, rfl, rfl, hW, _, p.2, ?_, fun b o eb => ?_, ?_⟩
          · rw [List.length_map, List.length_take]
            exact small5000 (by omega)
          · rw [upd_ne (ne_of_none eb nR)]
            exact p.1 _ _ eb
          · rw [upd_same, List.take_add_one]
            have : (Pm.rests pence ws)[i]? = some (pence * ws[i] % ws.sum) := by
              unfold Pm.rests
              rw [List.getElem?_map, List.getElem?_eq_getElem hi]
              rfl
            rw [this, List.map_append]
            rfl
        · obtain ⟨s4, eR⟩ := p
          rw [lenV, List.take_of_length_le (by rw [Pm.rests_len]; exact Nat.le_refl _)] at eR
          have sH4 : Same H H4 := s3.trans s4
          have eD4 : H4 D = some (.lst ((Pm.told pence ws).map V.int)) := s4 _ _ eD
          -- left = pence - sum(told)
          refine ⟨.int pence, rfl, .ref D, rfl, D, _, rfl, SqL.of eD4, pence, _, rfl, rfl, ?_⟩
          -- by_rest
          refine ⟨.ref a, rfl, a, _, rfl, .inl (sH4.seq hS), ws.length, R, Pm.rests pence ws, by rw [lenV], by omega, Pm.rests_len _ _, rfl, eR, hT.ext sH4, fun H5 B e5 t5 nB => ?_⟩
          have l0 := Pm.left_nonneg pence hW
          obtain ⟨m, em⟩ : ∃ m : Nat, pence - (Pm.told pence ws).sum = (m : Int) := ⟨(Pm.left pence ws).toNat, by unfold Pm.left at *; omega⟩
          have em2 : (Pm.left pence ws).toNat = m := by unfold Pm.left; omega
          -- for at in by_rest[:left]
          refine ⟨.ref B, rfl, .int (pence - (Pm.told pence ws).sum), rfl, _, rfl, B, _, rfl, SqL.of upd_same, fun C nC => ?_⟩
          rw [em, cut_take, ← List.map_take]
          refine ⟨C, rfl, ⟨_, SqL.of upd_same⟩, ?_⟩
          have hD5 : H5 D = some (.lst ((Pm.told pence ws).map V.int)) := ExtN.lst e5 eD4
          have s6 : Same H5 (upd (upd H5 B (.lst ((Pm.order pence ws).map fun j => V.int ((j : Nat) : Int)))) C (.lst (((Pm.order pence ws).take m).map fun j => V.int ((j : Nat) : Int)))) := (same_upd nB).trans (same_upd nC)
          have nDC : D ≠ C := ne_of_none (same_upd nB _ _ hD5) nC
          refine for_it (walk_list (xs := ((Pm.order pence ws).take m).map fun j => V.int ((j : Nat) : Int))) (fun i σ H6 => ∃ y7, σ = [some (.int pence), some (.ref a), some (.int ws.sum), some (.ref D), some (.ref R), some (.int (pence - (Pm.told pence ws).sum)), some (.ref B), y7, none] ∧
              LamX.ExtN H H6 ∧ TabP T H6 ∧ H6 C = some (.lst (((Pm.order pence ws).take m).map fun j => V.int ((j : Nat) : Int))) ∧ H6 D = some (.lst ((Pm.bump (Pm.told pence ws) (((Pm.order pence ws).take m).take i)).map V.int)))
            ⟨none, rfl, (LamX.ExtN.of sH4).trans (e5.trans (.of s6)), t5.ext s6, upd_same, s6 _ _ hD5⟩ (fun i σ H6 _ p => ?_) (fun i x σ H6 H7 hi p y => ?_) (fun σ H6 p => ?_)
          · obtain ⟨_, _, _, _, eC, _⟩ := p
            exact SqL.of eC
          · obtain ⟨y7, rfl, e6, t6, eC, eD6⟩ := p
            obtain ⟨rfl, ex⟩ := y
            rw [List.length_map] at hi
            rw [List.getElem?_map, List.getElem?_eq_getElem hi] at ex
            have ex := (Option.some.inj ex).symm
            subst ex
            have hj : ((Pm.order pence ws).take m)[i] < ws.length := Pm.order_lt (List.mem_of_mem_take (List.getElem_mem hi))
            generalize hjj : ((Pm.order pence ws).take m)[i] = j at hj
            have hjl : j < (Pm.bump (Pm.told pence ws) (((Pm.order pence ws).take m).take i)).length := by rw [Pm.bump_len, Pm.told_len]; exact hj
            have gj : ((Pm.bump (Pm.told pence ws) (((Pm.order pence ws).take m).take i)).map V.int)[j]? = some (.int ((Pm.bump (Pm.told pence ws) (((Pm.order pence ws).take m).take i)).getD j 0)) := by
              rw [List.getElem?_map, List.getD_eq_getElem?_getD, List.getElem?_eq_getElem hjl]
              rfl
            refine ⟨.ref D, rfl, .int j, rfl, D, _, j, _, rfl, rfl, eD6, gj, _, 1, rfl, rfl, D, _, j, j, rfl, rfl, eD6, ?_, ?_⟩
            · unfold ixN
              rw [List.length_map, if_pos (by omega), if_pos (by omega)]
              rfl
            · refine ⟨some (.int j), rfl, ?_, tab_lst t6 eD6, ?_, ?_⟩
              · intro b o hb nt
                have nb : b ≠ D := fun z => by
                  subst z
                  rw [nD] at hb
                  cases hb
                rw [upd_ne nb]
                exact e6 b o hb nt
              · rw [upd_ne nDC.symm]
                exact eC
              · have e1 : ((Pm.order pence ws).take m).take (i + 1) = ((Pm.order pence ws).take m).take i ++ [j] := by
                  rw [List.take_add_one, List.getElem?_eq_getElem hi, hjj]
                  rfl
                rw [upd_same, e1, Pm.bump_snoc, List.map_set]
          · obtain ⟨y7, rfl, e6, t6, eC, eD6⟩ := p
            rw [List.length_map, List.take_of_length_le (Nat.le_refl _)] at eD6
            refine ⟨.ref D, rfl, q _ D e6 t6 nD ?_⟩
            have : Pm.partsM pence ws = Pm.bump (Pm.told pence ws) ((Pm.order pence ws).take m) := by
              unfold Pm.partsM
              rw [if_neg (by omega), em2]
            rw [this]
            exact eD6
end
theorem ext_keep {H H1 H2 : Hp} {p : Addr} (e : LamX.ExtN H H1) (k : Keep p H1 H2) (n : H p = none) : LamX.ExtN H H2 := fun b o h nt => k b o (ne_of_none h n) (e b o h nt)
theorem ext_upd {H H1 : Hp} {p : Addr} {u : HO} (e : LamX.ExtN H H1) (n : H p = none) : LamX.ExtN H (upd H1 p u) := fun b o h nt => by
  rw [upd_ne (ne_of_none h n)]
  exact e b o h nt
theorem ext_same {H H1 H2 : Hp} (e : LamX.ExtN H H1) (s : Same H1 H2) : LamX.ExtN H H2 := e.trans (.of s)
/-- a store to what was new behind H1 -/
theorem ext_upd2 {H H1 H2 : Hp} {p : Addr} {u : HO} (e1 : LamX.ExtN H H1) (n : H1 p = none) (e2 : LamX.ExtN H H2) : LamX.ExtN H (upd H2 p u) := fun b o h nt => by
  rw [upd_ne (ne_of_none (e1 b o h nt) n)]
  exact e2 b o h nt
theorem tab_keep {H H' : Hp} {P p : Addr} {q : Str} (t : LamX.TabS H P q) (k : Keep p H H') (b : Bag H p) : LamX.TabS H' P q := by
  obtain ⟨ps, h1, h2, h3⟩ := t
  obtain ⟨g, r, eb, _⟩ := b
  refine ⟨ps, k _ _ (fun z => by rw [z, eb] at h1; cases h1) h1, h2, fun pos cv hc => ?_⟩
  obtain ⟨c, e1, e2⟩ := h3 pos cv hc
  refine ⟨c, e1, k _ _ (fun z => ?_) e2⟩
  rw [z, eb] at e2
  exact lst_ne_code _ q (Option.some.inj e2)
/-- p is none of what stood, tables aside -/
def NewN (H : Hp) (p : Addr) : Prop := ∀ b o, H b = some o → (∀ ps, o ≠ .tbl ps) → b ≠ p
theorem NewN.of {H : Hp} {p : Addr} (h : H p = none) : NewN H p := fun b o hb _ => ne_of_none hb h
theorem NewN.back {H H1 : Hp} {p : Addr} (e : LamX.ExtN H H1) (h : H1 p = none) : NewN H p := fun b o hb nt => ne_of_none (e b o hb nt) h
theorem NewN.lst {H : Hp} {p b : Addr} {xs : List V} (n : NewN H p) (h : H b = some (.lst xs)) : b ≠ p := n b _ h fun _ z => nomatch z
theorem ext_upd3 {H H1 H2 : Hp} {p : Addr} {u : HO} (e1 : LamX.ExtN H H1) (n : NewN H1 p) (e2 : LamX.ExtN H H2) : LamX.ExtN H (upd H2 p u) := fun b o h nt => by
  rw [upd_ne (n b o (e1 b o h nt) nt)]
  exact e2 b o h nt
end Th
namespace Th
open PySem PySem.Spec PyProof.Rows L2
/-! the law's own parts, penny by penny -/
theorem flat_ints (zs : List Int) : (zs.map V.int).all flatV = true := by
  rw [List.all_map]
  exact List.all_eq_true.mpr fun _ _ => rfl
theorem int_at {zs : List Int} {i : Nat} {v : V} (h : (zs.map V.int)[i]? = some v) : ∃ z, zs[i]? = some z ∧ v = .int z := by
  rw [List.getElem?_map] at h
  cases e : zs[i]? with
  | none => rw [e] at h; cases h
  | some z => rw [e] at h; exact ⟨z, rfl, (Option.some.inj h).symm⟩
section
variable {P : Program} {w : World} {K : PySem.W.Frag} {mg : Str → Option Value} {base : Heap} {k : Nat}
def sp_l_borne (K : PySem.W.Frag) : Sp := fun vs H Q _ => ∃ (pence : Int) (a : Addr) (ws : List Int), vs = [.int pence, .ref a] ∧ SqL K H a (ws.map V.int) ∧ ws.length ≤ 1000 ∧ 0 ≤ pence ∧ pence < 2 ^ 63 ∧ (∀ w ∈ ws, 0 ≤ w ∧ w < 2 ^ 63) ∧ 0 < ws.sum ∧ ws.sum < 2 ^ 63 ∧
  ∀ H' p, Same H H' → H p = none → H' p = some (.lst ((Pm.partsM pence ws).map V.int)) → Q (.ref p) H'
set_option maxHeartbeats 8000000 in
theorem ok_l_borne (T : Defs K mg) : FnOk P w K mg base CX0 (k + 1) T.a_l_borne T.d_l_borne ["_law_pence", "_law_weights"] (sp_l_borne K) := by
  refine T.F_l_borne.ok sc_l_borne (fun vs H Q E h => ?_) (fun cdv A outer s H vs Q E hr h => ?_)
  · obtain ⟨p, a, ws, rfl, _⟩ := h
    rfl
  · obtain ⟨pence, a, ws, rfl, hS, hlen, p0, p1, hw, hW, hW2, q⟩ := h
    have lenV : (ws.map V.int).length = ws.length := List.length_map _
    refine ⟨_, PSs.nox
(pss_cons (ps_set (i := 2) sc_l_borne.nd rfl (.inr rfl) (pe_callB (r := rSum K) (cr_sum rfl) (by rfl) T.z_sum (by decide +kernel) (pa_cons (pv 1) pa_nil)))
    (pss_cons (ps_setLc (i := 3) (own := [("_law_weight", 6)]) (g := gName 6) rfl sc_l_borne.nd rfl rfl (sw_true rfl rfl rfl (by decide +kernel)) (pi_list (pv 1)) (blkOk_by (N := N_l_borne) (sc := defScope s_l_borne) (by decide +kernel)) (fun _ _ _ _ _ => (pg_name (i := 6) sc_l_borne.nd rfl (.inl rfl))) (fun _ _ _ _ _ => pts_nil) (fun _ _ _ _ _ => (pe_op op_fdivW (pe_op op_mul (pv 0) (pv 6)) (pv 2))))
    (pss_cons (ps_for PassesOwn.never rfl (pi_range1 (by rfl) T.z_range (pa_cons (pe_op op_sub (pv 0) (pe_callB (r := rSum K) (cr_sum rfl) (by rfl) T.z_sum (by decide +kernel) (pa_cons (pv 3) pa_nil))) pa_nil)) (pg_name (i := 4) sc_l_borne.nd rfl (.inl rfl))
      (pss_cons (ps_setLc (i := 5) (own := [("_law_weight", 6), ("_law_part", 7)]) (g := gTup K 2 (gCons (gName 6) (gCons (gName 7) gNil))) rfl sc_l_borne.nd rfl rfl (sw_true rfl rfl rfl (by decide +kernel)) (pi_zip (by rfl) T.z_zip (pa_cons (pv 1) (pa_cons (pv 3) pa_nil))) (blkOk_by (N := N_l_borne) (sc := defScope s_l_borne) (by decide +kernel)) (fun _ _ _ _ _ => (pg_tup rfl (pgs_cons (pg_name (i := 6) sc_l_borne.nd rfl (.inl rfl)) (pgs_cons (pg_name (i := 7) sc_l_borne.nd rfl (.inl rfl)) pgs_nil)))) (fun _ _ _ _ _ => pts_nil) (fun _ _ _ _ _ => (pe_op op_sub (pe_op op_mul (pv 0) (pv 6)) (pe_op op_mul (pv 2) (pv 7)))))
      (pss_one (ps_augS (pv 3) (pe_bm PySem.F.plainAttrs_list PySem.F.slot_list_index PySem.F.type_list_index mt_index (pv 5) (pa_cons (pe_callB (r := Mx.rMaxI K) (Mx.cr_maxI rfl hr.units) (by rfl) T.z_max (by decide +kernel) (pa_cons (pv 5) pa_nil)) pa_nil)) get_listN (pe_int) ip_add set_list))))
    (pss_one (ps_ret (pv 3))))))
      , ?_⟩
    refine ⟨.ref a, rfl, a, ws, rfl, hS, ?_⟩
    have wd : CDivW 0 ws.sum := wide_ok hW (by omega)
    -- told
    refine ⟨.ref a, rfl, a, rfl, ⟨_, hS⟩, fun D nD => ?_⟩
    refine lc_it (walk_list (xs := ws.map V.int)) (fun i H3 => Same H H3 ∧ H3 D = some (.lst (((Pm.told pence ws).take i).map V.int))) ⟨same_upd nD, upd_same⟩ (fun i H3 _ p => p.1.seq hS) (fun i x H3 H4 hi p y => ?_) (fun H3 p => ?_)
    · obtain ⟨rfl, ex⟩ := y
      rw [lenV] at hi
      rw [List.getElem?_map, List.getElem?_eq_getElem hi] at ex
      have ex : x = .int ws[i] := (Option.some.inj ex).symm
      subst ex
      have hm := hw ws[i] (List.getElem_mem hi)
      refine ⟨rfl, yes_ ?_⟩
      refine ⟨.int pence, rfl, .int ws[i], rfl, pence, ws[i], rfl, rfl, .inl ⟨by omega, by omega⟩, .int ws.sum, rfl, _, ws.sum, rfl, rfl, wd, _, p.2, ?_, fun b o eb => ?_, ?_⟩
      · rw [List.length_map, List.length_take]
        exact small5000 (by omega)
      · rw [upd_ne (ne_of_none eb nD)]
        exact p.1 _ _ eb
      · rw [upd_same, List.take_add_one]
        have : (Pm.told pence ws)[i]? = some (pence * ws[i] / ws.sum) := by
          unfold Pm.told
          rw [List.getElem?_map, List.getElem?_eq_getElem hi]
          rfl
        rw [this, List.map_append]
        rfl
    · obtain ⟨s3, eD⟩ := p
      rw [lenV, List.take_of_length_le (by rw [Pm.told_len]; exact Nat.le_refl _)] at eD
      have l0 := Pm.left_nonneg pence hW
      have l1 := Pm.left_le pence hW
      refine ⟨.int pence, rfl, .ref D, rfl, D, _, rfl, SqL.of eD, _, _, rfl, rfl, _, rfl, ?_, ?_, ?_⟩
      · show -(2 ^ 62) ≤ Pm.left pence ws
        omega
      · show Pm.left pence ws < 2 ^ 62
        omega
      · have e0 : Pm.pennies pence ws 0 = Pm.told pence ws := by
          unfold Pm.pennies
          rw [List.take_zero]
          rfl
        refine for_range (lo := 0) (n := (Pm.left pence ws).toNat) (fun i σ H4 => ∃ (y4 y5 : Option V), σ = [some (.int pence), some (.ref a), some (.int ws.sum), some (.ref D), y4, y5, none, none] ∧ Same H H4 ∧ H4 D = some (.lst ((Pm.pennies pence ws i).map V.int)))
          ⟨_, _, rfl, s3, by rw [e0]; exact eD⟩ (fun i σ H4 hi hp => ?_) (fun σ H4 hp => ?_)
        · obtain ⟨y4, y5, rfl, s4, eD4⟩ := hp
          have hi2 : i < ws.length := by omega
          have hS4 := s4.seq hS
          have pl : (Pm.pennies pence ws i).length = ws.length := Pm.pennies_len ..
          -- rests
          refine ⟨.ref a, rfl, .ref D, rfl, a, D, _, _, rfl, hS4, SqL.of eD4, fun R nR => ?_⟩
          refine lc_it (walk_zip (n := ws.length) (xs := ws.map V.int) (ys := (Pm.pennies pence ws i).map V.int) (by rw [List.length_map, List.length_map, pl, Nat.min_self])) (fun j H5 => Same H4 H5 ∧ H5 R = some (.lst (((Pm.restsAt pence ws i).take j).map V.int))) ⟨same_upd nR, upd_same⟩ (fun j H5 _ pv => ⟨pv.1.seq hS4, SqL.of (pv.1 _ _ eD4)⟩) (fun j v H5 H6 hj pv yy => ?_) (fun H5 pv => ?_)
          · obtain ⟨U, x, y, rfl, nU, rfl, ex, ey⟩ := yy
            obtain ⟨x, hx, rfl⟩ := int_at ex
            obtain ⟨y, hy, rfl⟩ := int_at ey
            have s5 := pv.1.trans (same_upd (o := .tup [.int x, .int y]) nU)
            have eR := same_upd (o := .tup [.int x, .int y]) nU _ _ pv.2
            have ey' : (Pm.pennies pence ws i).getD j 0 = y := Pm.getD_of hy
            have ex' : ws.getD j 0 = x := Pm.getD_of hx
            refine ⟨U, _, rfl, SqT.of upd_same, rfl, _, _, rfl, _, [], rfl, rfl, rfl, yes_ ?_⟩
            refine ⟨.int pence, rfl, .int x, rfl, pence, x, rfl, rfl, .inl ⟨by omega, by omega⟩, .int ws.sum, rfl, .int y, rfl, ws.sum, y, rfl, rfl, .inl ⟨by omega, by omega⟩, _, _, rfl, rfl, ?_⟩
            refine ⟨_, eR, by rw [List.length_map, List.length_take]; exact small5000 (by omega), fun b o eb => ?_, ?_⟩
            · rw [upd_ne (ne_of_none eb nR)]
              exact s5 _ _ eb
            · rw [upd_same, List.take_add_one]
              have : (Pm.restsAt pence ws i)[j]? = some (pence * x - ws.sum * y) := by
                unfold Pm.restsAt
                rw [List.getElem?_map, List.getElem?_range hj]
                show some (pence * ws.getD j 0 - ws.sum * (Pm.pennies pence ws i).getD j 0) = _
                rw [ex', ey']
              rw [this, List.map_append]
              rfl
          · obtain ⟨s5, eR⟩ := pv
            have rl : (Pm.restsAt pence ws i).length = ws.length := by
              unfold Pm.restsAt
              rw [List.length_map, List.length_range]
            rw [List.take_of_length_le (by omega)] at eR
            have ho : i < (Pm.order pence ws).length := by rw [Pm.order_len]; exact hi2
            obtain ⟨j, hj⟩ : ∃ j, (Pm.order pence ws)[i]? = some j := ⟨_, List.getElem?_eq_getElem ho⟩
            obtain ⟨jl, r, er, rle, rlt⟩ := Pm.next_place pence hW hj
            obtain ⟨x, ys, exy⟩ : ∃ x ys, Pm.restsAt pence ws i = x :: ys := by
              cases h : Pm.restsAt pence ws i with
              | nil => rw [h] at rl; simp at rl; omega
              | cons x ys => exact ⟨x, ys, rfl⟩
            have emax : Mx.maxI x ys = r := by
              obtain ⟨g1, g2⟩ := Mx.maxI_ge ys x
              obtain ⟨m, hm⟩ := List.getElem?_of_mem (Mx.maxI_mem ys x)
              rw [← exy] at hm
              have h1 := rle m _ hm
              have h2 : r ≤ Mx.maxI x ys := by
                have := List.mem_of_getElem? er
                rw [exy] at this
                rcases List.mem_cons.mp this with z | z
                · rw [z]; exact g1
                · exact g2 _ z
              omega
            have eD5 := s5 _ _ eD4
            refine ⟨.ref D, rfl, .ref R, rfl, .inl ⟨rfl, _, SqL.of eR⟩, .ref R, rfl, R, x, ys, rfl, SqL.of (by rw [eR, exy]), ?_⟩
            rw [emax]
            refine ⟨R, _, _, j, .int r, rfl, rfl, SqL.of eR, rfl, flat_ints _, by rw [List.getElem?_map, er]; rfl, by show (r == r) = true; simp, fun m z hm hz => ?_, ?_⟩
            · obtain ⟨z, hz', rfl⟩ := int_at hz
              have := rlt m z hm hz'
              show (z == r) = false
              rw [beq_eq_false_iff_ne]
              omega
            have ex : (Pm.pennies pence ws i)[j]? = some ((Pm.pennies pence ws i).getD j 0) := by
              rw [List.getD_eq_getElem?_getD, List.getElem?_eq_getElem (by omega)]
              rfl
            refine ⟨D, _, j, _, rfl, rfl, eD5, by rw [List.getElem?_map, ex]; rfl, _, _, rfl, rfl, D, _, j, j, rfl, rfl, eD5, by unfold ixN; rw [List.length_map, if_pos (by omega), if_pos (by omega)]; rfl, ?_⟩
            refine ⟨_, _, rfl, same_set (s4.trans s5) nD, ?_⟩
            rw [upd_same, Pm.pennies_succ pence ws hj, List.map_set]
        · obtain ⟨y4, y5, rfl, s4, eD4⟩ := hp
          rw [Pm.pennies_all pence hW] at eD4
          exact ⟨.ref D, rfl, q _ D s4 nD eD4⟩
end
end Th
namespace Th
open PySem PySem.Spec PyProof.Rows L2
/-! what stopped lines lack, carried: by the program, by the law -/
theorem acc_at {B : Int} {t : List Int} (h : Pm.Acc B t.length t) : ∀ x ∈ t, -B ≤ x ∧ x ≤ B := fun x hx => by
  obtain ⟨i, hi⟩ := List.getElem?_of_mem hx
  have := h.2.2 i (List.getElem?_eq_some_iff.mp hi).1
  rw [Pm.getD_of hi] at this
  exact this
theorem pos_bd {B : Int} {t : List Int} (h : Pm.Acc B t.length t) (hB : 0 ≤ B) : (∀ x ∈ Pm.pos t, 0 ≤ x ∧ x ≤ B) := fun x hx => by
  refine ⟨Pm.pos_nn t x hx, ?_⟩
  obtain ⟨y, hy, rfl⟩ := List.mem_map.mp hx
  have := acc_at h y hy
  split <;> omega
theorem getD_int {t : List Int} {i : Nat} (h : i < t.length) : (t.map V.int)[i]? = some (.int (t.getD i 0)) := by
  rw [List.getElem?_map, List.getD_eq_getElem?_getD, List.getElem?_eq_getElem h]
  rfl
theorem getD_at {t : List Int} {i : Nat} (h : i < t.length) : t[i]? = some (t.getD i 0) := by
  rw [List.getD_eq_getElem?_getD, List.getElem?_eq_getElem h]
  rfl
abbrev nI (n : Nat) : V := .int ((n : Nat) : Int)
theorem nat_at {zs : List Nat} {i : Nat} {v : V} (h : (zs.map nI)[i]? = some v) : ∃ z, zs[i]? = some z ∧ v = nI z := by
  rw [List.getElem?_map] at h
  cases e : zs[i]? with
  | none => rw [e] at h; cases h
  | some z => rw [e] at h; exact ⟨z, rfl, (Option.some.inj h).symm⟩
theorem carried_snoc (t : List Int) (st : List Nat) (i a : Nat) (h : st[i]? = some a) : Pm.carriedM t (st.take (i + 1)) = Pm.stepL (Pm.carriedM t (st.take i)) a := by
  rw [List.take_add_one, h]
  unfold Pm.carriedM
  rw [List.foldl_append]
  rfl
theorem ixN_nat {n j : Nat} (h : j < n) : ixN n (j : Int) = some j := by
  unfold ixN
  rw [if_pos (by omega), if_pos (by omega)]
  rfl
section
variable {P : Program} {w : World} {K : PySem.W.Frag} {mg : Str → Option Value} {base : Heap} {k : Nat}
def sp_carried (T : Defs K mg) : Sp := fun vs H Q _ => ∃ (a b : Addr) (t : List Int) (st : List Nat), vs = [.ref a, .ref b] ∧ SqL K H a (t.map V.int) ∧ SqL K H b (st.map nI) ∧ Pm.Acc (2 ^ 59) t.length t ∧ t.length ≤ 8 ∧ (∀ s ∈ st, s < t.length) ∧ TabP T H ∧
  ∀ H' p, LamX.ExtN H H' → TabP T H' → H p = none → H' p = some (.lst ((Pm.carriedM t st).map V.int)) → Q (.ref p) H'
set_option maxHeartbeats 16000000 in
theorem ok_carried (T : Defs K mg) (TB : LamX.TabB base mg T.cc_parts T.tp_parts) : FnOk P w K mg base CX0 5 T.a_carried T.d_carried ["accounts", "stopped"] (sp_carried T) := by
  have G_parts : FnOk P w K mg base CX0 4 _ _ _ _ := ok_parts T TB
  refine T.F_carried.ok sc_carried (fun vs H Q E h => ?_) (fun cdv A outer s H vs Q E hr h => ?_)
  · obtain ⟨a, b, t, st, rfl, _⟩ := h
    rfl
  · obtain ⟨a, b, t, st, rfl, hA, hB, hacc, l8, hst, hT, q⟩ := h
    refine ⟨_, PSs.nox
(pss_cons (ps_set (i := 2) sc_carried.nd rfl (.inr rfl) (pe_callTy call_list_of (by rfl) T.z_list (by decide +kernel) (pa_cons (pv 0) pa_nil)))
    (pss_cons (ps_for PassesOwn.never rfl (pi_list (pv 1)) (pg_name (i := 3) sc_carried.nd rfl (.inl rfl))
      (pss_cons (ps_if (pt_cmpR op_ge (pe_ix (r := rIxL K) ix_list (pv 2) (pv 3) (fun _ _ => rfl)) (pe_int) (nomark _))
        (pss_one (ps_continue))
        pss_nil)
      (pss_cons (ps_setLc (i := 4) (own := [("giver", 6), ("account", 8)]) (g := gTup K 2 (gCons (gName 6) (gCons (gName 8) gNil))) rfl sc_carried.nd rfl rfl (sw_true rfl rfl rfl (by decide +kernel)) (pi_enum (by rfl) T.z_enumerate (pa_cons (pv 2) pa_nil)) (blkOk_by (N := N_carried) (sc := defScope s_carried) (by decide +kernel)) (fun _ _ _ _ _ => (pg_tup rfl (pgs_cons (pg_name (i := 6) sc_carried.nd rfl (.inl rfl)) (pgs_cons (pg_name (i := 8) sc_carried.nd rfl (.inl rfl)) pgs_nil)))) (fun _ _ _ _ _ => pts_one (pt_cmpR op_gt (pv 8) (pe_int) (nomark _))) (fun _ _ _ _ _ => (pv 6)))
      (pss_cons (ps_set (i := 5) sc_carried.nd rfl (.inl rfl) (pe_call G_parts hr (by rfl) T.g_parts T.F_parts.kp T.b_parts .nil pass0 (pa_cons (pe_un un_neg (pe_ix (r := rIxL K) ix_list (pv 2) (pv 3) (fun _ _ => rfl))) (pa_cons (pe_lc (own := [("giver", 6)]) (g := gName 6) rfl sc_carried.nd (pi_list (pv 4)) (blkOk_by (N := N_carried) (sc := defScope s_carried) (by decide +kernel)) (fun _ _ _ _ _ => (pg_name (i := 6) sc_carried.nd rfl (.inl rfl))) (fun _ _ _ _ _ => pts_nil) (fun _ _ _ _ _ => (pe_ix (r := rIxL K) ix_list (pv 2) (pv 6) (fun _ _ => rfl)))) pa_nil))))
      (pss_cons (ps_augS (pv 2) (pv 3) get_listN (pe_callB (r := rSum K) (cr_sum rfl) (by rfl) T.z_sum (by decide +kernel) (pa_cons (pv 5) pa_nil)) ip_add set_list)
      (pss_one (ps_for PassesOwn.never rfl (pi_zip (by rfl) T.z_zip (pa_cons (pv 4) (pa_cons (pv 5) pa_nil))) (pg_tup rfl (pgs_cons (pg_name (i := 6) sc_carried.nd rfl (.inl rfl)) (pgs_cons (pg_name (i := 7) sc_carried.nd rfl (.inl rfl)) pgs_nil)))
        (pss_one (ps_augS (pv 2) (pv 6) get_listN (pv 7) ip_sub set_list)))))))))
    (pss_one (ps_ret (pv 2)))))
      , ?_⟩
    refine ⟨.ref a, rfl, a, _, rfl, .inl hA, fun D nD => ?_⟩
    have s1 := same_upd (o := .lst (t.map V.int)) nD
    refine ⟨.ref b, rfl, b, rfl, ⟨_, s1.seq hB⟩, ?_⟩
    refine for_it (walk_list (xs := st.map nI)) (fun i σ H3 => ∃ (y3 y4 y5 y6 y7 : Option V), σ = [some (.ref a), some (.ref b), some (.ref D), y3, y4, y5, y6, y7, none] ∧ LamX.ExtN H H3 ∧ TabP T H3 ∧ H3 D = some (.lst ((Pm.carriedM t (st.take i)).map V.int)))
      ⟨_, _, _, _, _, rfl, .of s1, hT.ext s1, upd_same⟩ (fun i σ H3 _ hp => ?_) (fun i v σ H3₀ H3 hi hp yy => ?_) (fun σ H3 hp => ?_)
    · obtain ⟨_, _, _, _, _, _, e, _⟩ := hp
      exact ExtN.seq e hB
    · obtain ⟨rfl, ex⟩ := yy
      obtain ⟨y3, y4, y5, y6, y7, rfl, e3, t3, eD⟩ := hp
      obtain ⟨j, hj, rfl⟩ := nat_at ex
      have hac := hacc.all (by decide) (st := st.take i) fun s hs => hst s (List.mem_of_mem_take hs)
      have hjl := hst j (List.mem_of_getElem? hj)
      rw [carried_snoc t st i j hj]
      generalize Pm.carriedM t (st.take i) = u at eD hac
      obtain ⟨ul, u0, ub⟩ := hac
      have hju : j < u.length := by omega
      have hacu : Pm.Acc (2 ^ 59) u.length u := ⟨rfl, u0, by rw [ul]; exact ub⟩
      have bj := ub j hjl
      refine ⟨.ref D, rfl, nI j, rfl, D, _, _, _, rfl, rfl, SqL.of eD, atI_nat (getD_int hju), _, _, rfl, rfl, _, rfl, ite2 (fun c => ?_) (fun c => ?_)⟩
      · have c : 0 ≤ u.getD j 0 := of_decide_eq_true c
        have : Pm.stepL u j = u := by
          unfold Pm.stepL
          rw [if_neg (by omega)]
        rw [this]
        exact ⟨_, _, _, _, _, rfl, e3, t3, eD⟩
      · have c : u.getD j 0 < 0 := by
          have : ¬ 0 ≤ u.getD j 0 := fun z => c (decide_eq_true z)
          omega
        rw [← Pm.step_eq hju u0]
        -- givers
        refine ⟨.ref D, rfl, D, _, rfl, SqL.of eD, fun G nG => ?_⟩
        have nGD : D ≠ G := ne_of_none eD nG
        refine lc_it (walk_enum (xs := u.map V.int)) (fun m H4 => Same H3 H4 ∧ H4 G = some (.lst (((List.range m).filter fun i => decide (0 < u.getD i 0)).map nI))) ⟨same_upd nG, upd_same⟩ (fun m H4 _ pv => SqL.of (pv.1 _ _ eD)) (fun m v H4 H5 hm pv yy => ?_) (fun H4 pv => ?_)
        · obtain ⟨U, x, y, rfl, nU, rfl, ex, ey⟩ := yy
          have ex : x = nI m := (Option.some.inj ex).symm
          rw [List.length_map] at hm
          have ey : y = .int (u.getD m 0) := Option.some.inj ((show (u.map V.int)[m]? = some y from ey).symm.trans (getD_int hm))
          subst ex ey
          have s4 := pv.1.trans (same_upd (o := .tup [nI m, .int (u.getD m 0)]) nU)
          have eG := same_upd (o := .tup [nI m, .int (u.getD m 0)]) nU _ _ pv.2
          refine ⟨U, _, rfl, SqT.of upd_same, rfl, _, _, rfl, _, [], rfl, rfl, rfl, .int (u.getD m 0), rfl, _, _, rfl, rfl, _, rfl, ite2 (fun c => ?_) (fun c => ?_)⟩
          · refine ⟨nI m, rfl, _, eG, by rw [List.length_map]; exact small5000 (Nat.le_trans (List.length_filter_le ..) (by rw [List.length_range]; omega)), fun b o eb => ?_, ?_⟩
            · rw [upd_ne (ne_of_none eb nG)]
              exact s4 _ _ eb
            · rw [upd_same, List.range_succ, List.filter_append, List.map_append, List.filter_cons_of_pos (p := fun i => decide (0 < u.getD i 0)) c]
              rfl
          · refine ⟨s4, ?_⟩
            rw [List.range_succ, List.filter_append, List.filter_cons_of_neg (p := fun i => decide (0 < u.getD i 0)) c, List.filter_nil, List.append_nil]
            exact eG
        · obtain ⟨s4, eG⟩ := pv
          rw [List.length_map] at eG
          have eG : H4 G = some (.lst ((Pm.giversM u).map nI)) := eG
          have eD4 := s4 _ _ eD
          have gm : ∀ g ∈ Pm.giversM u, g < u.length ∧ 0 < u.getD g 0 := fun g hg => by
            unfold Pm.giversM at hg
            rw [List.mem_filter] at hg
            exact ⟨List.mem_range.mp hg.1, of_decide_eq_true hg.2⟩
          have gl : (Pm.giversM u).length ≤ 8 := by
            unfold Pm.giversM
            exact Nat.le_trans (List.length_filter_le ..) (by rw [List.length_range]; omega)
          -- given
          refine ⟨.ref D, rfl, nI j, rfl, D, _, _, _, rfl, rfl, SqL.of eD4, atI_nat (getD_int hju), _, rfl, .ref G, rfl, G, rfl, ⟨_, SqL.of eG⟩, fun F nF => ?_⟩
          refine lc_it (walk_list (xs := (Pm.giversM u).map nI)) (fun m H5 => Same H4 H5 ∧ H5 F = some (.lst ((((Pm.giversM u).take m).map fun i => u.getD i 0).map V.int))) ⟨same_upd nF, upd_same⟩ (fun m H5 _ pv => SqL.of (pv.1 _ _ eG)) (fun m v H5₀ H5 hm pv yy => ?_) (fun H5 pv => ?_)
          · obtain ⟨rfl, ex⟩ := yy
            obtain ⟨s5, eF⟩ := pv
            obtain ⟨g, hg, rfl⟩ := nat_at ex
            obtain ⟨g1, g2⟩ := gm g (List.mem_of_getElem? hg)
            refine ⟨rfl, yes_ ⟨.ref D, rfl, nI g, rfl, D, _, _, _, rfl, rfl, SqL.of (s5 _ _ eD4), atI_nat (getD_int g1), _, eF, by rw [List.length_map, List.length_map, List.length_take]; exact small5000 (by omega), same_set s5 nF, ?_⟩⟩
            rw [upd_same, List.take_add_one, hg, List.map_append, List.map_append]
            rfl
          · obtain ⟨s5, eF⟩ := pv
            rw [List.length_map, List.take_length, Pm.givW_eq] at eF
            have wb : ∀ w ∈ Pm.wts (Pm.pos u), 0 ≤ w ∧ w < 2 ^ 63 := fun w hw => by
              rw [← Pm.givW_eq] at hw
              obtain ⟨g, hg, rfl⟩ := List.mem_map.mp hw
              obtain ⟨g1, g2⟩ := gm g hg
              have := ub g (by omega)
              omega
            have wl : (Pm.wts (Pm.pos u)).length ≤ 1000 := by
              rw [Pm.wts_len, ← Pm.givers_eq]
              omega
            refine ⟨_, F, _, rfl, SqL.of eF, wl, by omega, by omega, wb, (t3.ext s4).ext s5, fun H6 Gv e6 t6 nGv eGv => ?_⟩
            have eD6 := ExtN.lst e6 (s5 _ _ eD4)
            have eG6 := ExtN.lst e6 (s5 _ _ eG)
            have nGvD : D ≠ Gv := ne_of_none (s5 _ _ eD4) nGv
            have nGvG : G ≠ Gv := ne_of_none (s5 _ _ eG) nGv
            have e36 : LamX.ExtN H H6 := (ext_same (ext_same e3 s4) s5).trans e6
            have eGv : H6 Gv = some (.lst ((Pm.givenM u j).map V.int)) := eGv
            have gvl : (Pm.givenM u j).length = (Pm.giversM u).length := by
              unfold Pm.givenM
              rw [Pm.partsM_len, Pm.wts_len, Pm.givers_eq]
            -- told[at] += sum(given)
            refine ⟨.ref D, rfl, nI j, rfl, D, _, j, _, rfl, rfl, eD6, getD_int hju, .ref Gv, rfl, Gv, _, rfl, SqL.of eGv, _, _, rfl, rfl, D, _, j, j, rfl, rfl, eD6, ixN_nat (by rw [List.length_map]; exact hju), ?_⟩
            have eD7 : (upd H6 D (.lst ((u.map V.int).set j (.int (u.getD j 0 + (Pm.givenM u j).sum))))) D = some (.lst ((u.set j (u.getD j 0 + (Pm.givenM u j).sum)).map V.int)) := by rw [upd_same, List.map_set]
            have eG7 : (upd H6 D (.lst ((u.map V.int).set j (.int (u.getD j 0 + (Pm.givenM u j).sum))))) G = some (.lst ((Pm.giversM u).map nI)) := by rw [upd_ne nGD.symm]; exact eG6
            have eGv7 : (upd H6 D (.lst ((u.map V.int).set j (.int (u.getD j 0 + (Pm.givenM u j).sum))))) Gv = some (.lst ((Pm.givenM u j).map V.int)) := by rw [upd_ne nGvD.symm]; exact eGv
            have e37 : LamX.ExtN H (upd H6 D (.lst ((u.map V.int).set j (.int (u.getD j 0 + (Pm.givenM u j).sum))))) := ext_upd e36 nD
            have t7 : TabP T (upd H6 D (.lst ((u.map V.int).set j (.int (u.getD j 0 + (Pm.givenM u j).sum))))) := tab_lst t6 eD6
            generalize upd H6 D (.lst ((u.map V.int).set j (.int (u.getD j 0 + (Pm.givenM u j).sum)))) = H7 at eD7 eG7 eGv7 e37 t7
            have hstep : Pm.stepC u j = Pm.takeM (u.set j (u.getD j 0 + (Pm.givenM u j).sum)) (Pm.giversM u) (Pm.givenM u j) := by
              unfold Pm.stepC
              rw [if_neg (by omega)]
            rw [hstep]
            have u'l : (u.set j (u.getD j 0 + (Pm.givenM u j).sum)).length = u.length := List.length_set ..
            generalize u.set j (u.getD j 0 + (Pm.givenM u j).sum) = u' at eD7 u'l
            refine ⟨.ref G, rfl, .ref Gv, rfl, G, Gv, _, _, rfl, SqL.of eG7, SqL.of eGv7, ?_⟩
            refine for_it (walk_zip (n := ((Pm.giversM u).zip (Pm.givenM u j)).length) (xs := (Pm.giversM u).map nI) (ys := (Pm.givenM u j).map V.int) (by rw [List.length_zip, List.length_map, List.length_map])) (fun m σ H8 => ∃ (y6 y7 : Option V), σ = [some (.ref a), some (.ref b), some (.ref D), some (nI j), some (.ref G), some (.ref Gv), y6, y7, none] ∧ LamX.ExtN H H8 ∧ TabP T H8 ∧ H8 G = some (.lst ((Pm.giversM u).map nI)) ∧ H8 Gv = some (.lst ((Pm.givenM u j).map V.int)) ∧
                H8 D = some (.lst (((((Pm.giversM u).zip (Pm.givenM u j)).take m).foldl (fun t q => t.set q.1 (t.getD q.1 0 - q.2)) u').map V.int)))
              ⟨_, _, rfl, e37, t7, eG7, eGv7, eD7⟩ (fun m σ H8 _ hp => ?_) (fun m v σ H8 H9 hm hp yy => ?_) (fun σ H8 hp => ?_)
            · obtain ⟨_, _, _, _, _, e1, e2, _⟩ := hp
              exact ⟨SqL.of e1, SqL.of e2⟩
            · obtain ⟨U, x, y, rfl, nU, rfl, ex, ey⟩ := yy
              obtain ⟨y6, y7, rfl, e8, t8, eG8, eGv8, eD8⟩ := hp
              obtain ⟨g, hg, rfl⟩ := nat_at ex
              obtain ⟨x, hx, rfl⟩ := int_at ey
              obtain ⟨g1, g2⟩ := gm g (List.mem_of_getElem? hg)
              have eq : ((Pm.giversM u).zip (Pm.givenM u j))[m]? = some (g, x) := List.getElem?_zip_eq_some.mpr ⟨hg, hx⟩
              have s9 := same_upd (o := .tup [nI g, .int x]) nU
              rw [List.take_add_one, eq, Option.toList, List.foldl_append]
              have fl : ((((Pm.giversM u).zip (Pm.givenM u j)).take m).foldl (fun t q => t.set q.1 (t.getD q.1 0 - q.2)) u').length = u.length := by rw [Pm.take_len, u'l]
              generalize (((Pm.giversM u).zip (Pm.givenM u j)).take m).foldl (fun t q => t.set q.1 (t.getD q.1 0 - q.2)) u' = z at eD8 fl
              have eD9 := s9 _ _ eD8
              refine ⟨U, _, rfl, SqT.of upd_same, rfl, _, _, rfl, _, [], rfl, rfl, ?_⟩
              refine ⟨.ref D, rfl, nI g, rfl, D, _, g, _, rfl, rfl, eD9, getD_int (by omega), .int x, rfl, _, _, rfl, rfl, D, _, g, g, rfl, rfl, eD9, ixN_nat (by rw [List.length_map]; omega), ?_⟩
              refine ⟨_, _, rfl, ext_upd (ext_same e8 s9) nD, tab_lst (t8.ext s9) eD9, by rw [upd_ne nGD.symm]; exact s9 _ _ eG8, by rw [upd_ne nGvD.symm]; exact s9 _ _ eGv8, ?_⟩
              rw [upd_same, ← List.map_set]
              rfl
            · obtain ⟨y6, y7, rfl, e8, t8, eG8, eGv8, eD8⟩ := hp
              rw [List.take_length] at eD8
              exact ⟨_, _, _, _, _, rfl, e8, t8, eD8⟩
    · obtain ⟨y3, y4, y5, y6, y7, rfl, e3, t3, eD⟩ := hp
      rw [List.length_map, List.take_length] at eD
      exact ⟨.ref D, rfl, q _ D e3 t3 nD eD⟩
end
end Th
namespace Th
open PySem PySem.Spec PyProof.Rows L2
section
variable {P : Program} {w : World} {K : PySem.W.Frag} {mg : Str → Option Value} {base : Heap} {k : Nat}
def sp_l_due (K : PySem.W.Frag) : Sp := fun vs H Q _ => ∃ (a b : Addr) (t : List Int) (st : List Nat), vs = [.ref a, .ref b] ∧ SqL K H a (t.map V.int) ∧ SqL K H b (st.map nI) ∧ Pm.Acc (2 ^ 59) t.length t ∧ t.length ≤ 8 ∧ (∀ s ∈ st, s < t.length) ∧
  ∀ H' p, Same H H' → H p = none → H' p = some (.lst ((Pm.carriedM t st).map V.int)) → Q (.ref p) H'
set_option maxHeartbeats 16000000 in
theorem ok_l_due (T : Defs K mg) : FnOk P w K mg base CX0 (k + 2) T.a_l_due T.d_l_due ["_law_accounts_here", "_law_stopped"] (sp_l_due K) := by
  have G_l_borne : FnOk P w K mg base CX0 (k + 1) _ _ _ _ := ok_l_borne T
  refine T.F_l_due.ok sc_l_due (fun vs H Q E h => ?_) (fun cdv A outer s H vs Q E hr h => ?_)
  · obtain ⟨a, b, t, st, rfl, _⟩ := h
    rfl
  · obtain ⟨a, b, t, st, rfl, hA, hB, hacc, l8, hst, q⟩ := h
    refine ⟨_, PSs.nox
(pss_cons (ps_set (i := 2) sc_l_due.nd rfl (.inl rfl) (pe_callTy call_list_of (by rfl) T.z_list (by decide +kernel) (pa_cons (pv 0) pa_nil)))
    (pss_cons (ps_for PassesOwn.never rfl (pi_list (pv 1)) (pg_name (i := 3) sc_l_due.nd rfl (.inl rfl))
      (pss_cons (ps_set (i := 4) sc_l_due.nd rfl (.inl rfl) (pe_un un_neg (pe_ix (r := rIxL K) ix_list (pv 2) (pv 3) (fun _ _ => rfl))))
      (pss_one (ps_if (pt_cmpR op_gt (pv 4) (pe_int) (nomark _))
        (pss_cons (ps_setLc (i := 5) (own := [("_law_pence", 6)]) (g := gName 6) rfl sc_l_due.nd rfl rfl (sw_true rfl rfl rfl (by decide +kernel)) (pi_list (pv 2)) (blkOk_by (N := N_l_due) (sc := defScope s_l_due) (by decide +kernel)) (fun _ _ _ _ _ => (pg_name (i := 6) sc_l_due.nd rfl (.inl rfl))) (fun _ _ _ _ _ => pts_nil) (fun _ _ _ _ _ => (pe_ifExp (pt_cmpR op_gt (pv 6) (pe_int) (nomark _)) (pv 6) (pe_int))))
        (pss_cons (ps_asg (pe_int) (pg_sub (pv 2) (pv 3) set_list))
        (pss_one (ps_setLc (i := 2) (own := [("_law_pence", 6), ("_law_part", 7)]) (g := gTup K 2 (gCons (gName 6) (gCons (gName 7) gNil))) rfl sc_l_due.nd rfl rfl (sw_true rfl rfl rfl (by decide +kernel)) (pi_zip (by rfl) T.z_zip (pa_cons (pv 2) (pa_cons (pe_call G_l_borne hr (by rfl) T.g_l_borne T.F_l_borne.kp T.b_l_borne .nil pass0 (pa_cons (pv 4) (pa_cons (pv 5) pa_nil))) pa_nil))) (blkOk_by (N := N_l_due) (sc := defScope s_l_due) (by decide +kernel)) (fun _ _ _ _ _ => (pg_tup rfl (pgs_cons (pg_name (i := 6) sc_l_due.nd rfl (.inl rfl)) (pgs_cons (pg_name (i := 7) sc_l_due.nd rfl (.inl rfl)) pgs_nil)))) (fun _ _ _ _ _ => pts_nil) (fun _ _ _ _ _ => (pe_op op_sub (pv 6) (pv 7)))))))
        pss_nil))))
    (pss_one (ps_ret (pv 2)))))
      , ?_⟩
    refine ⟨.ref a, rfl, a, _, rfl, .inl hA, fun D nD => ?_⟩
    have s1 := same_upd (o := .lst (t.map V.int)) nD
    refine ⟨.ref b, rfl, b, rfl, ⟨_, s1.seq hB⟩, ?_⟩
    refine for_it (walk_list (xs := st.map nI)) (fun i σ H3 => ∃ (D : Addr) (y3 y4 y5 : Option V), σ = [some (.ref a), some (.ref b), some (.ref D), y3, y4, y5, none, none] ∧ Same H H3 ∧ H D = none ∧ H3 D = some (.lst ((Pm.carriedM t (st.take i)).map V.int)))
      ⟨D, _, _, _, rfl, s1, nD, upd_same⟩ (fun i σ H3 _ hp => ?_) (fun i v σ H3₀ H3 hi hp yy => ?_) (fun σ H3 hp => ?_)
    · obtain ⟨_, _, _, _, _, e, _⟩ := hp
      exact e.seq hB
    · obtain ⟨rfl, ex⟩ := yy
      obtain ⟨D, y3, y4, y5, rfl, s3, nD, eD⟩ := hp
      obtain ⟨j, hj, rfl⟩ := nat_at ex
      have hac := hacc.all (by decide) (st := st.take i) fun s hs => hst s (List.mem_of_mem_take hs)
      have hjl := hst j (List.mem_of_getElem? hj)
      rw [carried_snoc t st i j hj]
      generalize Pm.carriedM t (st.take i) = u at eD hac
      obtain ⟨ul, u0, ub⟩ := hac
      have hju : j < u.length := by omega
      have hacu : Pm.Acc (2 ^ 59) u.length u := ⟨rfl, u0, by rw [ul]; exact ub⟩
      have bj := ub j hjl
      refine ⟨.ref D, rfl, nI j, rfl, D, _, _, _, rfl, rfl, SqL.of eD, atI_nat (getD_int hju), _, rfl, .int (-(u.getD j 0)), rfl, _, _, rfl, rfl, _, rfl, ite2 (fun c => ?_) (fun c => ?_)⟩
      · have c : 0 < -(u.getD j 0) := of_decide_eq_true c
        have hstep : Pm.stepL u j = List.zipWith (fun x y => x - y) (u.set j 0) (Pm.partsM (-(u.getD j 0)) (Pm.pos u)) := by
          unfold Pm.stepL
          rw [if_pos c]
        rw [hstep]
        -- above
        refine ⟨.ref D, rfl, D, rfl, ⟨_, SqL.of eD⟩, fun F nF => ?_⟩
        have nFD : D ≠ F := ne_of_none eD nF
        refine lc_it (walk_list (xs := u.map V.int)) (fun m H4 => Same H3 H4 ∧ H4 F = some (.lst (((Pm.pos u).take m).map V.int))) ⟨same_upd nF, upd_same⟩ (fun m H4 _ pv => SqL.of (pv.1 _ _ eD)) (fun m v H4₀ H4 hm pv yy => ?_) (fun H4 pv => ?_)
        · obtain ⟨rfl, ex⟩ := yy
          obtain ⟨x, hx, rfl⟩ := int_at ex
          rw [List.length_map] at hm
          have nxt : ∃ acc, H4 F = some (.lst acc) ∧ acc.length < sizeLine ∧ (Same H3 (upd H4 F (.lst (acc ++ [V.int (if 0 < x then x else 0)]))) ∧ (upd H4 F (.lst (acc ++ [V.int (if 0 < x then x else 0)]))) F = some (.lst (((Pm.pos u).take (m + 1)).map V.int))) := by
            refine ⟨_, pv.2, by rw [List.length_map, List.length_take]; exact small5000 (by omega), same_set pv.1 nF, ?_⟩
            have : (Pm.pos u)[m]? = some (if 0 < x then x else 0) := by
              unfold Pm.pos
              rw [List.getElem?_map, hx]
              rfl
            rw [upd_same, List.take_add_one, this, List.map_append]
            rfl
          refine ⟨rfl, yes_ ⟨.int x, rfl, _, _, rfl, rfl, _, rfl, ite2 (fun c => ?_) (fun c => ?_)⟩⟩
          · have c : 0 < x := of_decide_eq_true c
            rw [if_pos c] at nxt
            exact ⟨.int x, rfl, nxt⟩
          · have c : ¬ 0 < x := fun z => c (decide_eq_true z)
            rw [if_neg c] at nxt
            exact nxt
        · obtain ⟨s4, eF⟩ := pv
          have eD4 := s4 _ _ eD
          rw [List.length_map, List.take_of_length_le (by rw [Pm.pos_len]; exact Nat.le_refl _)] at eF
          -- found[place] = 0
          refine ⟨.ref D, rfl, nI j, rfl, D, _, j, j, rfl, rfl, eD4, ixN_nat (by rw [List.length_map]; exact hju), ?_⟩
          have eD5 : (upd H4 D (.lst ((u.map V.int).set j (.int 0)))) D = some (.lst ((u.set j 0).map V.int)) := by rw [upd_same, List.map_set]
          have eF5 : (upd H4 D (.lst ((u.map V.int).set j (.int 0)))) F = some (.lst ((Pm.pos u).map V.int)) := by rw [upd_ne nFD.symm]; exact eF
          have s5 : Same H (upd H4 D (.lst ((u.map V.int).set j (.int 0)))) := same_set (s3.trans s4) nD
          generalize upd H4 D (.lst ((u.map V.int).set j (.int 0))) = H5 at eD5 eF5 s5
          have hps := Pm.pos_sum u j hju (by omega)
          have pb := pos_bd hacu (by decide)
          have psum : (Pm.pos u).sum ≤ 8 * 2 ^ 59 := by
            have := (ints_sum (xs := Pm.pos u) (B := 2 ^ 59) fun x hx => by have := pb x hx; omega).2
            rw [Pm.pos_len] at this
            have l : (u.length : Int) * 2 ^ 59 ≤ 8 * 2 ^ 59 := Int.mul_le_mul_of_nonneg_right (by omega) (by decide)
            omega
          refine ⟨.ref D, rfl, .int (-(u.getD j 0)), rfl, .ref F, rfl, _, F, _, rfl, SqL.of eF5, by rw [Pm.pos_len]; omega, by omega, by omega, fun x hx => by have := pb x hx; omega, by omega, by omega, fun H6 p s6 np ep => ?_⟩
          have eD6 := s6 _ _ eD5
          have zl : (List.zipWith (fun x y => x - y) (u.set j 0) (Pm.partsM (-(u.getD j 0)) (Pm.pos u))).length = u.length := by rw [List.length_zipWith, List.length_set, Pm.partsM_len, Pm.pos_len, Nat.min_self]
          refine ⟨D, p, _, _, rfl, SqL.of eD6, SqL.of ep, fun D2 nD2 => ?_⟩
          refine lc_it (walk_zip (n := u.length) (xs := (u.set j 0).map V.int) (ys := (Pm.partsM (-(u.getD j 0)) (Pm.pos u)).map V.int) (by rw [List.length_map, List.length_map, List.length_set, Pm.partsM_len, Pm.pos_len, Nat.min_self])) (fun m H7 => Same H6 H7 ∧ H7 D2 = some (.lst (((List.zipWith (fun x y => x - y) (u.set j 0) (Pm.partsM (-(u.getD j 0)) (Pm.pos u))).take m).map V.int))) ⟨same_upd nD2, upd_same⟩ (fun m H7 _ pv => ⟨SqL.of (pv.1 _ _ eD6), SqL.of (pv.1 _ _ ep)⟩) (fun m v H7 H8 hm pv yy => ?_) (fun H7 pv => ?_)
          · obtain ⟨U, x, y, rfl, nU, rfl, ex, ey⟩ := yy
            obtain ⟨x, hx, rfl⟩ := int_at ex
            obtain ⟨y, hy, rfl⟩ := int_at ey
            have s8 := pv.1.trans (same_upd (o := .tup [.int x, .int y]) nU)
            refine ⟨U, _, rfl, SqT.of upd_same, rfl, _, _, rfl, _, [], rfl, rfl, rfl, yes_ ⟨.int x, rfl, .int y, rfl, _, _, rfl, rfl, _, same_upd nU _ _ pv.2, by rw [List.length_map, List.length_take]; exact small5000 (by omega), same_set s8 nD2, ?_⟩⟩
            have : (List.zipWith (fun x y => x - y) (u.set j 0) (Pm.partsM (-(u.getD j 0)) (Pm.pos u)))[m]? = some (x - y) := by
              rw [List.getElem?_zipWith, hx, hy]
            rw [upd_same, List.take_add_one, this, List.map_append]
            rfl
          · obtain ⟨s7, e7⟩ := pv
            rw [List.take_of_length_le (by omega)] at e7
            exact ⟨D2, _, _, _, rfl, (s5.trans s6).trans s7, up0 (s5.trans s6) nD2, e7⟩
      · have c : ¬ 0 < -(u.getD j 0) := fun z => c (decide_eq_true z)
        have hstep : Pm.stepL u j = u := by
          unfold Pm.stepL
          rw [if_neg c]
        rw [hstep]
        exact ⟨D, _, _, _, rfl, s3, nD, eD⟩
    · obtain ⟨D, y3, y4, y5, rfl, s3, nD, eD⟩ := hp
      rw [List.length_map, List.take_length] at eD
      exact ⟨.ref D, rfl, q _ D s3 nD eD⟩
end
end Th
namespace Th
open PySem PySem.Spec PyProof.Rows L2
/-! the law -/
theorem noBs_ints : ∀ zs : List Int, noB.noBs (zs.map PyData.int) = true
  | [] => rfl
  | z :: zs => noBs_ints zs
theorem noB_ints (zs : List Int) : noB (dI zs) = true := noBs_ints zs
theorem nI_ints (st : List Nat) : st.map nI = (st.map fun n => ((n : Nat) : Int)).map V.int := by rw [List.map_map]; rfl
abbrev dN (st : List Nat) : PyData := dI (st.map fun n => ((n : Nat) : Int))
theorem dt_nats {H : Hp} {x : Addr} {st : List Nat} (h : H x = some (.lst (st.map nI))) (hl : st.length ≤ 5000) : Dt SA H (.ref x) (dN st) := dt_ints (by rw [h, nI_ints]) (by rw [List.length_map]; exact hl)
theorem dt_two {H : Hp} {x y z : Addr} {d e : PyData} (h : H x = some (.lst [.ref y, .ref z])) (h1 : Dt SA H (.ref y) d) (h2 : Dt SA H (.ref z) e) : Dt SA H (.ref x) (.list [d, e]) := .lst trivial h (by show 2 ≤ 5000; decide) (.cons h1 (.cons h2 .nil))
theorem lay_two {d e : PyData} (h1 : d.canLay0 = true) (h2 : e.canLay0 = true) : (PyData.list [d, e]).canLay0 = true := by
  show PyData.canLayAll0 [d, e] = true
  rw [PyData.canLayAll0, PyData.canLayAll0, h1, h2]
  rfl
theorem depth_two {d e : PyData} (h1 : d.depth ≤ 5) (h2 : e.depth ≤ 5) : (PyData.list [d, e]).depth ≤ 6 := by
  show PyData.depthAll [d, e] + 1 ≤ 6
  rw [PyData.depthAll, PyData.depthAll, PyData.depthAll]
  omega
theorem shaped_two {s t : List Int} : SeqAt.shaped (.list [dI s, dI t]) = true := Bool.and_eq_true_iff.mpr ⟨lay_two (lay_ints _) (lay_ints _), decide_eq_true (Nat.le_trans (depth_two (by rw [depth_ints]; decide) (by rw [depth_ints]; decide)) (by decide))⟩
section
variable {P : Program} {w : World} {K : PySem.W.Frag} {mg : Str → Option Value} {base : Heap} {k : Nat}
def sp_law (T : Defs K mg) : Sp := fun vs H Q _ => ∃ (a : Addr) (ns : List Int), vs = [.ref a] ∧ SqL K H a (ns.map V.int) ∧ ns.length ≤ 63 ∧ TabP T H ∧ ∀ H', Q (.bl true) H'
set_option maxHeartbeats 16000000 in
theorem ok_law {f : Addr} {fd : FuncData} (F : FnP K "law" s_law f fd) (T : Defs K mg) (TB : LamX.TabB base mg T.cc_parts T.tp_parts) : FnOk P w K mg base CX0 6 f fd ["_law_script"] (sp_law T) := by
  have G_l_bag : FnOk P w K mg base CX0 5 _ _ _ _ := ok_l_bag T
  have G_l_take : FnOk P w K mg base CX0 5 _ _ _ _ := ok_l_take T
  have G_l_accounts : FnOk P w K mg base CX0 5 _ _ _ _ := ok_l_accounts T
  have G_carried : FnOk P w K mg base CX0 5 _ _ _ _ := ok_carried T TB
  have G_l_due : FnOk P w K mg base CX0 5 _ _ _ _ := ok_l_due T
  have G_l_like : FnOk P w K mg base CX0 5 _ _ _ _ := (ok_l_like T 2).mono (by decide)
  refine F.ok sc_law (fun vs H Q E h => ?_) (fun cdv A outer s H vs Q E hr h => ?_)
  · obtain ⟨a, ns, rfl, _⟩ := h
    rfl
  · obtain ⟨a, ns, rfl, hS, hlen, hT, q⟩ := h
    refine ⟨_, PSs.nox
(pss_cons (ps_for PassesOwn.never rfl (pi_range1 (by rfl) T.z_range (pa_cons (pe_callB (call_max2 rfl) (by rfl) T.z_max (by decide +kernel) (pa_cons (pe_int) (pa_cons (pe_callB (call_min2 rfl) (by rfl) T.z_min (by decide +kernel) (pa_cons (pe_int) (pa_cons (pe_callB (r := rLenS K) call_lenS (by rfl) T.z_len (by decide +kernel) (pa_cons (pv 0) pa_nil)) pa_nil))) pa_nil))) pa_nil)) (pg_name (i := 1) sc_law.nd rfl (.inl rfl))
      (pss_cons (ps_set (i := 2) sc_law.nd rfl (.inr rfl) (pe_call G_l_bag hr (by rfl) T.g_l_bag T.F_l_bag.kp T.b_l_bag .nil pass0 (pa_cons (pv 0) (pa_cons (pv 1) pa_nil))))
      (pss_cons (ps_set (i := 3) sc_law.nd rfl (.inl rfl) (pe_call G_l_accounts hr (by rfl) T.g_l_accounts T.F_l_accounts.kp T.b_l_accounts .nil pass0 (pa_cons (pv 2) (pa_cons (pe_int) pa_nil))))
      (pss_cons (ps_set (i := 4) sc_law.nd rfl (.inr rfl) (pe_call G_l_take hr (by rfl) T.g_l_take T.F_l_take.kp T.b_l_take .nil pass0 (pa_cons (pv 2) (pa_cons (pe_int) pa_nil))))
      (pss_cons (ps_setLc (i := 5) (own := [("_law_place", 10)]) (g := gName 10) rfl sc_law.nd rfl rfl (sw_true rfl rfl rfl (by decide +kernel)) (pi_range1 (by rfl) T.z_range (pa_cons (pe_callB (r := rLenS K) call_lenS (by rfl) T.z_len (by decide +kernel) (pa_cons (pv 3) pa_nil)) pa_nil)) (blkOk_by (N := N_law) (sc := defScope s_law) (by decide +kernel)) (fun _ _ _ _ _ => (pg_name (i := 10) sc_law.nd rfl (.inl rfl))) (fun _ _ _ _ _ => pts_one (pt_cmpR op_le (pe_call G_l_take hr (by rfl) T.g_l_take T.F_l_take.kp T.b_l_take .nil pass0 (pa_cons (pv 2) (pa_cons (pe_int) pa_nil))) (pv 4) (nomark _))) (fun _ _ _ _ _ => (pv 10)))
      (pss_cons (ps_setLc (i := 6) (own := [("_law_place", 10)]) (g := gName 10) rfl sc_law.nd rfl rfl (sw_true rfl rfl rfl (by decide +kernel)) (pi_list (pv 5)) (blkOk_by (N := N_law) (sc := defScope s_law) (by decide +kernel)) (fun _ _ _ _ _ => (pg_name (i := 10) sc_law.nd rfl (.inl rfl))) (fun _ _ _ _ _ => pts_one (pt_cmpR op_eq (pe_call G_l_take hr (by rfl) T.g_l_take T.F_l_take.kp T.b_l_take .nil pass0 (pa_cons (pv 2) (pa_cons (pe_int) pa_nil))) (pe_int) (nomark _))) (fun _ _ _ _ _ => (pv 10)))
      (pss_one (ps_for PassesOwn.never rfl (pi_tup (pe_tup (pa_cons (pv 5) (pa_cons (pv 6) (pa_cons (pe_lst pa_nil) (pa_cons (pv 5) pa_nil)))))) (pg_name (i := 7) sc_law.nd rfl (.inl rfl))
        (pss_cons (ps_set (i := 8) sc_law.nd rfl (.inl rfl) (pe_lst (pa_cons (pe_callTy call_list_of (by rfl) T.z_list (by decide +kernel) (pa_cons (pv 3) pa_nil)) (pa_cons (pe_callTy call_list_of (by rfl) T.z_list (by decide +kernel) (pa_cons (pv 7) pa_nil)) pa_nil))))
        (pss_cons (ps_set (i := 9) sc_law.nd rfl (.inl rfl) (pe_call G_carried hr (by rfl) T.g_carried T.F_carried.kp T.b_carried .nil pass0 (pa_cons (pe_ix (r := rIxL K) ix_list (pv 8) (pe_int) (fun _ _ => rfl)) (pa_cons (pe_ix (r := rIxL K) ix_list (pv 8) (pe_int) (fun _ _ => rfl)) pa_nil))))
        (pss_cons (ps_if (PW.pt (pw_or (pt_not (pt_val (pe_callB call_isi (by rfl) T.z_isinstance (by decide +kernel) (pa_cons (pv 9) (pa_cons (pe_bltn (v := .ty "list") (by rfl) T.z_list (by decide +kernel) rfl) pa_nil))))) (pw_or1 (pt_not (pt_val (pe_call G_l_like hr (by rfl) T.g_l_like T.F_l_like.kp T.b_l_like .nil pass0 (pa_cons (pv 9) (pa_cons (pe_call G_l_due hr (by rfl) T.g_l_due T.F_l_due.kp T.b_l_due .nil pass0 (pa_cons (pv 3) (pa_cons (pv 7) pa_nil))) pa_nil))))))))
          (pss_one (ps_ret (pe_bl)))
          pss_nil)
        (pss_cons (ps_if (pt_cmpR (r := rNeD K) (op_neD hr.units) (pv 8) (pe_lst (pa_cons (pv 3) (pa_cons (pv 7) pa_nil))) (nomark _))
          (pss_one (ps_ret (pe_bl)))
          pss_nil)
        (pss_one (ps_expr (pe_bm PySem.F.plainAttrs_list PySem.F.slot_list_append PySem.F.type_list_append mt_append (pv 9) (pa_cons (pe_int) pa_nil))))))))))))))))
    (pss_one (ps_ret (pe_bl))))
      , ?_⟩
    have lenV : (ns.map V.int).length = ns.length := List.length_map _
    refine ⟨.ref a, rfl, a, _, rfl, .inl hS, 16, _, rfl, 4, _, rfl, _, rfl, ?_, ?_, ?_⟩
    · rw [lenV]
      split <;> split <;> omega
    · rw [lenV]
      split <;> split <;> omega
    · obtain ⟨n, en, hn⟩ : ∃ n : Nat, (if (if ((ns.map V.int).length : Int) < 16 then ((ns.map V.int).length : Int) else 16) > 4 then (if ((ns.map V.int).length : Int) < 16 then ((ns.map V.int).length : Int) else 16) else 4) = (n : Int) ∧ n ≤ 16 := by
        rw [lenV]
        refine ⟨(if (if (ns.length : Int) < 16 then (ns.length : Int) else 16) > 4 then (if (ns.length : Int) < 16 then (ns.length : Int) else 16) else 4).toNat, ?_, ?_⟩
        · split <;> split <;> omega
        · split <;> split <;> omega
      rw [en, Int.toNat_natCast]
      refine for_range (lo := 0) (n := n) (fun i σ H3 => ∃ (y1 y2 y3 y4 y5 y6 y7 y8 y9 : Option V), σ = [some (.ref a), y1, y2, y3, y4, y5, y6, y7, y8, y9, none] ∧ LamX.ExtN H H3 ∧ TabP T H3)
        ⟨_, _, _, _, _, _, _, _, _, rfl, .refl H, hT⟩ (fun i σ H3 hi hp => ?_) (fun σ H3 hp => ?_)
      · obtain ⟨y1, y2, y3, y4, y5, y6, y7, y8, y9, rfl, e03, hT3⟩ := hp
        have hS3 : SqL K H3 a (ns.map V.int) := ExtN.seq e03 hS
        refine ⟨.ref a, rfl, .int (0 + (i : Int)), rfl, a, ns, i, by rw [Int.zero_add]; rfl, hS3, by omega, fun H4 p s4 np b4 => ?_⟩
        have t4 : TabP T H4 := hT3.ext s4
        refine ⟨.ref p, rfl, p, 8, rfl, b4, by decide, by decide, fun H5 l t k5 b5 nl el hac tl => ?_⟩
        have e5 : LamX.ExtN H3 H5 := ext_keep (.of s4) k5 np
        have t5 : TabP T H5 := tab_keep t4 k5 b4
        have nlp : l ≠ p := b4.ne nl
        refine ⟨.ref p, rfl, p, 3, rfl, b5, by decide, by decide, fun H6 more k6 b6 m0 m1 => ?_⟩
        have e6 := ext_keep e5 k6 np
        have t6 : TabP T H6 := tab_keep t5 k6 b5
        have el6 := k6 _ _ nlp el
        obtain ⟨hacc, l1, l8⟩ := hac
        have hacc' : Pm.Acc (2 ^ 59) t.length t := ⟨rfl, hacc.2.1, fun i hi => by have := hacc.2.2 i hi; omega⟩
        -- stopped
        refine ⟨.ref l, rfl, l, _, rfl, .inl (SqL.of el6), _, rfl, by rw [List.length_map]; omega, by rw [List.length_map]; omega, fun S nS => ?_⟩
        have nSp : S ≠ p := b6.ne nS
        have nSl : l ≠ S := ne_of_none el6 nS
        have en : ((t.map V.int).length : Int).toNat = t.length := by rw [List.length_map]; rfl
        rw [en]
        refine lc_it walk_range (fun m H7 => Keep p H6 H7 ∧ Bag H7 p ∧ ∃ st : List Nat, (∀ s ∈ st, s < m) ∧ st.length ≤ m ∧ H7 S = some (.lst (st.map nI))) ⟨.of (same_upd nS), b6.keep (same_upd nS), [], fun s hs => (by cases hs), Nat.le_refl _, upd_same⟩ (fun _ _ _ _ => trivial) (fun m x H7 H7' hm pv y => ?_) (fun H7 pv => ?_)
        · obtain ⟨rfl, rfl⟩ := y
          obtain ⟨k7, b7, st, hst, hsl, eS⟩ := pv
          refine ⟨rfl, .ref p, rfl, p, 3, rfl, b7, by decide, by decide, fun H8 c k8 b8 c0 c1 => ?_⟩
          have eS8 := k8 _ _ nSp eS
          refine ⟨.int more, rfl, _, _, rfl, rfl, _, rfl, ite2 (fun _ => ?_) (fun _ => ?_)⟩
          · refine ⟨_, rfl, _, eS8, by rw [List.length_map]; exact small5000 (by omega), fun c o nc ec => ?_, b8.at (upd_ne nSp.symm), st ++ [m], fun s hs => ?_, by rw [List.length_append]; simp; omega, ?_⟩
            · rw [upd_ne (ne_of_none ec nS)]
              exact k8 _ _ nc (k7 _ _ nc ec)
            · rcases List.mem_append.mp hs with z | z
              · have := hst s z
                omega
              · rw [List.mem_singleton.mp z]
                omega
            · rw [upd_same, List.map_append]
              show some (HO.lst (st.map nI ++ [V.int (0 + (m : Int))])) = _
              rw [Int.zero_add]
              rfl
          · exact ⟨k7.trans k8, b8, st, fun s hs => by have := hst s hs; omega, by omega, eS8⟩
        · obtain ⟨k7, b7, st, hst, hsl, eS⟩ := pv
          have e7 := ext_keep e6 k7 np
          have t7 : TabP T H7 := tab_keep t6 k7 b6
          have el7 := k7 _ _ nlp el6
          -- fewer
          refine ⟨.ref S, rfl, S, rfl, ⟨_, SqL.of eS⟩, fun Fw nF => ?_⟩
          have nFp : Fw ≠ p := b7.ne nF
          refine lc_it (walk_list (xs := st.map nI)) (fun m H8 => Keep p H7 H8 ∧ Bag H8 p ∧ ∃ fw : List Nat, (∀ s ∈ fw, s < t.length) ∧ fw.length ≤ m ∧ H8 Fw = some (.lst (fw.map nI))) ⟨.of (same_upd nF), b7.keep (same_upd nF), [], fun s hs => (by cases hs), Nat.le_refl _, upd_same⟩ (fun m H8 _ pv => SqL.of (pv.1 _ _ nSp eS)) (fun m x H8₀ H8 hm pv y => ?_) (fun H8 pv => ?_)
          · obtain ⟨rfl, ex⟩ := y
            obtain ⟨k8, b8, fw, hfw, hfl, eF⟩ := pv
            obtain ⟨g, hg, rfl⟩ := nat_at ex
            rw [List.length_map] at hm
            refine ⟨rfl, .ref p, rfl, p, 2, rfl, b8, by decide, by decide, fun H9 c k9 b9 c0 c1 => ?_⟩
            have eF9 := k9 _ _ nFp eF
            refine ⟨rfl, _, rfl, ite2 (fun _ => ?_) (fun _ => ?_)⟩
            · refine ⟨_, rfl, _, eF9, by rw [List.length_map]; exact small5000 (by omega), fun c o nc ec => ?_, b9.at (upd_ne nFp.symm), fw ++ [g], fun s hs => ?_, by rw [List.length_append]; simp; omega, ?_⟩
              · rw [upd_ne (ne_of_none ec nF)]
                exact k9 _ _ nc (k8 _ _ nc ec)
              · rcases List.mem_append.mp hs with z | z
                · exact hfw s z
                · rw [List.mem_singleton.mp z]
                  have := hst g (List.mem_of_getElem? hg)
                  omega
              · rw [upd_same, List.map_append]
                rfl
            · exact ⟨k8.trans k9, b9, fw, hfw, by omega, eF9⟩
          · obtain ⟨k8, b8, fw, hfw, hfl, eF⟩ := pv
            rw [List.length_map] at hfl
            have e8 := ext_keep e7 k8 np
            have t8 : TabP T H8 := tab_keep t7 k8 b7
            have el8 := k8 _ _ nlp el7
            have eS8 := k8 _ _ nSp eS
            -- the tuple of the four
            refine ⟨.ref S, rfl, .ref Fw, rfl, Nat.zero_le _, fun Z nZ => ?_⟩
            have s9 := same_upd (o := .lst []) nZ
            refine ⟨.ref S, rfl, by show 4 ≤ sizeLine; decide, fun U nU => ?_⟩
            have s10 := same_upd (o := .tup [.ref S, .ref Fw, .ref Z, .ref S]) nU
            have e10 : LamX.ExtN H3 (upd (upd H8 Z (.lst [])) U (.tup [.ref S, .ref Fw, .ref Z, .ref S])) := ext_same (ext_same e8 s9) s10
            have t10 : TabP T (upd (upd H8 Z (.lst [])) U (.tup [.ref S, .ref Fw, .ref Z, .ref S])) := (t8.ext s9).ext s10
            have el10 := s10 _ _ (s9 _ _ el8)
            have eU : (upd (upd H8 Z (.lst [])) U (.tup [.ref S, .ref Fw, .ref Z, .ref S])) U = some (.tup [.ref S, .ref Fw, .ref Z, .ref S]) := upd_same
            have each : ∀ (j : Nat) (v : V), [V.ref S, .ref Fw, .ref Z, .ref S][j]? = some v → ∃ (y : Addr) (sm : List Nat), v = .ref y ∧ (upd (upd H8 Z (.lst [])) U (.tup [.ref S, .ref Fw, .ref Z, .ref S])) y = some (.lst (sm.map nI)) ∧ (∀ s ∈ sm, s < t.length) ∧ sm.length ≤ 8 := fun j v hv => by
              match j, hv with
              | 0, h => exact ⟨S, st, (Option.some.inj h).symm, s10 _ _ (s9 _ _ eS8), fun s hs => by have := hst s hs; omega, by omega⟩
              | 1, h => exact ⟨Fw, fw, (Option.some.inj h).symm, s10 _ _ (s9 _ _ eF), hfw, by omega⟩
              | 2, h => exact ⟨Z, [], (Option.some.inj h).symm, s10 _ _ upd_same, fun s hs => (by cases hs), Nat.zero_le _⟩
              | 3, h => exact ⟨S, st, (Option.some.inj h).symm, s10 _ _ (s9 _ _ eS8), fun s hs => by have := hst s hs; omega, by omega⟩
              | j + 4, h => simp at h
            generalize upd (upd H8 Z (.lst [])) U (.tup [.ref S, .ref Fw, .ref Z, .ref S]) = H10 at s10 e10 t10 el10 eU each
            refine ⟨U, rfl, ⟨_, SqT.of eU⟩, ?_⟩
            refine for_it (walk_tup (xs := [V.ref S, .ref Fw, .ref Z, .ref S])) (fun j σ H11 => ∃ (y7 y8 y9 : Option V), σ = [some (.ref a), some (.int (0 + (i : Int))), some (.ref p), some (.ref l), some (.int more), some (.ref S), some (.ref Fw), y7, y8, y9, none] ∧ LamX.ExtN H10 H11 ∧ TabP T H11)
              ⟨_, _, _, rfl, .refl _, t10⟩ (fun j σ H11 _ hp => ?_) (fun j v σ H11₀ H11 hj hp yy => ?_) (fun σ H11 hp => ?_)
            · obtain ⟨_, _, _, _, e, _⟩ := hp
              exact SqT.of (ExtN.tup e eU)
            · obtain ⟨rfl, ex⟩ := yy
              obtain ⟨y7, y8, y9, rfl, e11, t11⟩ := hp
              obtain ⟨y, sm, rfl, ey10, hsm, sml⟩ := each j v ex
              have el11 := ExtN.lst e11 el10
              have ey11 := ExtN.lst e11 ey10
              -- handed
              refine ⟨.ref l, rfl, l, _, rfl, .inl (SqL.of el11), fun x1 n1 => ?_⟩
              have s12 := same_upd (o := .lst (t.map V.int)) n1
              refine ⟨.ref y, rfl, y, _, rfl, .inl (SqL.of (s12 _ _ ey11)), fun x2 n2 => ?_⟩
              have s13 := same_upd (o := .lst (sm.map nI)) n2
              refine ⟨two_sz, fun hd nhd => ?_⟩
              have s14 := same_upd (o := .lst [.ref x1, .ref x2]) nhd
              have ex1 := s14 _ _ (s13 _ _ (upd_same (H := H11) (a := x1) (o := .lst (t.map V.int))))
              have ex2 := s14 _ _ (upd_same (H := upd H11 x1 (.lst (t.map V.int))) (a := x2) (o := .lst (sm.map nI)))
              have ehd : (upd (upd (upd H11 x1 (.lst (t.map V.int))) x2 (.lst (sm.map nI))) hd (.lst [.ref x1, .ref x2])) hd = some (.lst [.ref x1, .ref x2]) := upd_same
              have s15 := (s12.trans s13).trans s14
              generalize upd (upd (upd H11 x1 (.lst (t.map V.int))) x2 (.lst (sm.map nI))) hd (.lst [.ref x1, .ref x2]) = H15 at s15 ex1 ex2 ehd
              have el15 := s15 _ _ el11
              have ey15 := s15 _ _ ey11
              have t15 : TabP T H15 := t11.ext s15
              have e15 : LamX.ExtN H10 H15 := ext_same e11 s15
              refine ⟨.ref hd, rfl, hd, _, 0, _, rfl, rfl, SqL.of ehd, atI_nat (j := 0) rfl, .ref hd, rfl, hd, _, 1, _, rfl, rfl, SqL.of ehd, atI_nat (j := 1) rfl, ?_⟩
              refine ⟨x1, x2, t, sm, rfl, SqL.of ex1, SqL.of ex2, hacc', l8, hsm, t15, fun H16 x e16 t16 nx ex => ?_⟩
              have el16 := ExtN.lst e16 el15
              have ey16 := ExtN.lst e16 ey15
              have eh16 := ExtN.lst e16 ehd
              have ex116 := ExtN.lst e16 ex1
              have ex216 := ExtN.lst e16 ex2
              have cl : (Pm.carriedM t sm).length = t.length := (hacc'.all (by decide) hsm).1
              refine ⟨.ref x, rfl, .ref x, .ty "list", _, _, _, rfl, .ty _, .base (.lst ex), kit_ty (r := true) (by decide +kernel), true, rfl, iteF ?_⟩
              refine ⟨.ref x, rfl, .ref l, rfl, .ref y, rfl, l, y, t, sm, rfl, SqL.of el16, SqL.of ey16, hacc', l8, hsm, fun H17 z s17 nz ez => ?_⟩
              refine ⟨.ref x, .ref z, dI (Pm.carriedM t sm), rfl, dt_ints (s17 _ _ ex) (by omega), dt_ints ez (by omega), lay_ints _, noB_ints _, by rw [depth_ints]; decide, by decide, fun H18 s18 => ⟨true, rfl, iteF ?_⟩⟩
              have s78 := s17.trans s18
              have ehd18 := s78 _ _ eh16
              have el18 := s78 _ _ el16
              have ey18 := s78 _ _ ey16
              have dH := dt_two ehd18 (dt_ints (s78 _ _ ex116) (by omega)) (dt_nats (s78 _ _ ex216) (by omega))
              refine ⟨.ref hd, rfl, .ref l, rfl, .ref y, rfl, two_sz, fun v nv => ?_⟩
              have s19 := same_upd (o := .lst [.ref l, .ref y]) nv
              refine ⟨_, _, (dH.same s19).dp, (dt_two upd_same (dt_ints (s19 _ _ el18) (by omega)) (dt_nats (s19 _ _ ey18) (by omega))).dp, shaped_two, shaped_two, _, rfl, ?_⟩
              rw [SeqAt.eqv_refl _ (lay_two (lay_ints _) (lay_ints _))]
              refine iteF ?_
              have ex19 := s19 _ _ (s78 _ _ ex)
              refine ⟨.ref x, rfl, .inl ⟨rfl, _, SqL.of ex19⟩, x, _, _, rfl, rfl, ex19, by rw [List.length_map]; exact small5000 (by omega), ?_⟩
              have e19 : LamX.ExtN H10 (upd H18 v (.lst [.ref l, .ref y])) := ext_same (ext_same (e15.trans e16) s78) s19
              exact ⟨_, _, _, rfl, ext_upd2 e15 nx e19, tab_lst ((t16.ext s78).ext s19) ex19⟩
            · obtain ⟨y7, y8, y9, rfl, e11, t11⟩ := hp
              exact ⟨_, _, _, _, _, _, _, _, _, rfl, e03.trans (e10.trans e11), t11⟩
      · exact q _
end
end Th
namespace Th
open PySem PySem.Spec PyProof.Rows L2
def dd_parts : He.DefD := ⟨("parts", none), "parts", "parts", defArgs s_parts, defBody s_parts, defScope s_parts, [], []⟩
def dd_carried : He.DefD := ⟨("carried", none), "carried", "carried", defArgs s_carried, defBody s_carried, defScope s_carried, [], []⟩
def dd_l_bag : He.DefD := ⟨("_law_bag", none), "_law_bag", "_law_bag", defArgs s_l_bag, defBody s_l_bag, defScope s_l_bag, [], []⟩
def dd_l_take : He.DefD := ⟨("_law_take", none), "_law_take", "_law_take", defArgs s_l_take, defBody s_l_take, defScope s_l_take, [], []⟩
def dd_l_like : He.DefD := ⟨("_law_like", none), "_law_like", "_law_like", defArgs s_l_like, defBody s_l_like, defScope s_l_like, [], []⟩
def dd_l_accounts : He.DefD := ⟨("_law_accounts", none), "_law_accounts", "_law_accounts", defArgs s_l_accounts, defBody s_l_accounts, defScope s_l_accounts, [], []⟩
def dd_l_borne : He.DefD := ⟨("_law_borne", none), "_law_borne", "_law_borne", defArgs s_l_borne, defBody s_l_borne, defScope s_l_borne, [], []⟩
def dd_l_due : He.DefD := ⟨("_law_due", none), "_law_due", "_law_due", defArgs s_l_due, defBody s_l_due, defScope s_l_due, [], []⟩
def dd_law : He.DefD := ⟨("law", none), "law", "law", defArgs s_law, defBody s_law, defScope s_law, [], []⟩
def fn : List He.DefD := [dd_parts, dd_carried, dd_l_bag, dd_l_take, dd_l_like, dd_l_accounts, dd_l_borne, dd_l_due, dd_law]
def fa : List He.Fa := [.glo "parts", .glo "carried", .glo "_law_bag", .glo "_law_take", .glo "_law_like", .glo "_law_accounts", .glo "_law_borne", .glo "_law_due", .glo "law", .free "abs", .free "all", .free "bool", .free "enumerate", .free "isinstance", .free "len", .free "list", .free "max", .free "min", .free "range", .free "sorted", .free "sum", .free "tuple", .free "zip"]
def tf : List He.Defn := [("parts", none)]
abbrev R : PySem.W.OpenRow := PySem.W.OpenLaw.row PySem.Challenge.rw_throughlines_k58_carried
abbrev hk : PySem.W.Hook := He.hookX 4 fa fn [] tf (fun _ => true)
def ob (s : PySem.W.SharedT) : He.AlX := He.obsX 4 fa fn [] tf (fun _ => true) (HandSHeadRun.getT s)
theorem ob_eq (s : PySem.W.SharedT) : ob s = hk.obs s.abs := He.obsX_eq (HandSHeadRun.getT_eq s)
def loose : List PySem.Str := ["parts", "carried", "_law_bag", "_law_take", "_law_like", "_law_accounts", "_law_borne", "_law_due"]
set_option maxHeartbeats 0 in
theorem run (w : World) : HandSHeadRun.RunEq R (PySem.W.view R.prog [11]) hk ob 2000 loose w := by
  intro os
  kernel_rfl
/-- a def's code object, by its function's data -/
theorem code_ref {K : PySem.W.Frag} {x : Str} {st : Stmt} {p : He.Defn} {fd : FuncData} (F : FnP K x st (He.fAd K p) fd) : fd.code = .ref (He.cT K p).1 := by
  obtain ⟨oc, od, dV, kV, doc, pm, an, cdv, ct, osl, rfl, lk, hcd, _, _⟩ := F.ex
  obtain ⟨c, e⟩ := He.codeIn_ref hcd
  have h := He.codeOf_eq lk (show _ = Value.ref c from e)
  show cdv = _
  rw [e]
  show Value.ref c = Value.ref (He.codeOf K p)
  rw [h]
theorem facts {w : World} {K : PySem.W.Frag} {h : Heap} {mg : Str → Option Value} {f : Addr} (X : K.In h) (G : h.Ns mainGlobals mg) (hfa : mg ("law" : Str) = some (.ref f)) (c' : He.SaysX fa fn [] tf (fun _ => true) w h K) :
    LamX.LawAtS PySem.Challenge.rw_throughlines_k58_carried w K CX0 6 63 "_law_script" mg f h := by
  have c := c'.t.d
  obtain ⟨d_parts, F_parts⟩ := c.def_ 0 (d := dd_parts) rfl
  have b_parts : Binds K d_parts ["pence", "weights"] [] := FunD.bindsN F_parts fun _ _ _ _ _ _ us hl => match us, hl with | [_, _], _ => rfl
  obtain ⟨d_carried, F_carried⟩ := c.def_ 1 (d := dd_carried) rfl
  have b_carried : Binds K d_carried ["accounts", "stopped"] [] := FunD.bindsN F_carried fun _ _ _ _ _ _ us hl => match us, hl with | [_, _], _ => rfl
  obtain ⟨d_l_bag, F_l_bag⟩ := c.def_ 2 (d := dd_l_bag) rfl
  have b_l_bag : Binds K d_l_bag ["_law_script", "_law_at"] [] := FunD.bindsN F_l_bag fun _ _ _ _ _ _ us hl => match us, hl with | [_, _], _ => rfl
  obtain ⟨d_l_take, F_l_take⟩ := c.def_ 3 (d := dd_l_take) rfl
  have b_l_take : Binds K d_l_take ["_law_bag_here", "_law_many"] [] := FunD.bindsN F_l_take fun _ _ _ _ _ _ us hl => match us, hl with | [_, _], _ => rfl
  obtain ⟨d_l_like, F_l_like⟩ := c.def_ 4 (d := dd_l_like) rfl
  have b_l_like : Binds K d_l_like ["_law_told", "_law_due_here"] [] := FunD.bindsN F_l_like fun _ _ _ _ _ _ us hl => match us, hl with | [_, _], _ => rfl
  obtain ⟨d_l_accounts, F_l_accounts⟩ := c.def_ 5 (d := dd_l_accounts) rfl
  have b_l_accounts : Binds K d_l_accounts ["_law_bag_here", "_law_most"] [] := FunD.bindsN F_l_accounts fun _ _ _ _ _ _ us hl => match us, hl with | [_, _], _ => rfl
  obtain ⟨d_l_borne, F_l_borne⟩ := c.def_ 6 (d := dd_l_borne) rfl
  have b_l_borne : Binds K d_l_borne ["_law_pence", "_law_weights"] [] := FunD.bindsN F_l_borne fun _ _ _ _ _ _ us hl => match us, hl with | [_, _], _ => rfl
  obtain ⟨d_l_due, F_l_due⟩ := c.def_ 7 (d := dd_l_due) rfl
  have b_l_due : Binds K d_l_due ["_law_accounts_here", "_law_stopped"] [] := FunD.bindsN F_l_due fun _ _ _ _ _ _ us hl => match us, hl with | [_, _], _ => rfl
  obtain ⟨d_law, F_law⟩ := c.def_ 8 (d := dd_law) rfl
  let T : Defs K mg := {
    a_parts := _,
    d_parts := d_parts,
    F_parts := F_parts,
    g_parts := He.glo_ok X G (c.fact 0 (f := .glo "parts") rfl),
    b_parts := b_parts,
    cc_parts := (He.cT K ("parts", none)).1,
    tp_parts := (He.cT K ("parts", none)).2,
    dc_parts := code_ref (x := "parts") (st := s_parts) (p := ("parts", none)) F_parts,
    a_carried := _,
    d_carried := d_carried,
    F_carried := F_carried,
    g_carried := He.glo_ok X G (c.fact 1 (f := .glo "carried") rfl),
    b_carried := b_carried,
    a_l_bag := _,
    d_l_bag := d_l_bag,
    F_l_bag := F_l_bag,
    g_l_bag := He.glo_ok X G (c.fact 2 (f := .glo "_law_bag") rfl),
    b_l_bag := b_l_bag,
    a_l_take := _,
    d_l_take := d_l_take,
    F_l_take := F_l_take,
    g_l_take := He.glo_ok X G (c.fact 3 (f := .glo "_law_take") rfl),
    b_l_take := b_l_take,
    a_l_like := _,
    d_l_like := d_l_like,
    F_l_like := F_l_like,
    g_l_like := He.glo_ok X G (c.fact 4 (f := .glo "_law_like") rfl),
    b_l_like := b_l_like,
    a_l_accounts := _,
    d_l_accounts := d_l_accounts,
    F_l_accounts := F_l_accounts,
    g_l_accounts := He.glo_ok X G (c.fact 5 (f := .glo "_law_accounts") rfl),
    b_l_accounts := b_l_accounts,
    a_l_borne := _,
    d_l_borne := d_l_borne,
    F_l_borne := F_l_borne,
    g_l_borne := He.glo_ok X G (c.fact 6 (f := .glo "_law_borne") rfl),
    b_l_borne := b_l_borne,
    a_l_due := _,
    d_l_due := d_l_due,
    F_l_due := F_l_due,
    g_l_due := He.glo_ok X G (c.fact 7 (f := .glo "_law_due") rfl),
    b_l_due := b_l_due,
    z_abs := He.free_ok X G (c.fact 9 (f := .free "abs") rfl),
    z_all := He.free_ok X G (c.fact 10 (f := .free "all") rfl),
    z_bool := He.free_ok X G (c.fact 11 (f := .free "bool") rfl),
    z_enumerate := He.free_ok X G (c.fact 12 (f := .free "enumerate") rfl),
    z_isinstance := He.free_ok X G (c.fact 13 (f := .free "isinstance") rfl),
    z_len := He.free_ok X G (c.fact 14 (f := .free "len") rfl),
    z_list := He.free_ok X G (c.fact 15 (f := .free "list") rfl),
    z_max := He.free_ok X G (c.fact 16 (f := .free "max") rfl),
    z_min := He.free_ok X G (c.fact 17 (f := .free "min") rfl),
    z_range := He.free_ok X G (c.fact 18 (f := .free "range") rfl),
    z_sorted := He.free_ok X G (c.fact 19 (f := .free "sorted") rfl),
    z_sum := He.free_ok X G (c.fact 20 (f := .free "sum") rfl),
    z_tuple := He.free_ok X G (c.fact 21 (f := .free "tuple") rfl),
    z_zip := He.free_ok X G (c.fact 22 (f := .free "zip") rfl) }
  have e := hfa.symm.trans (He.glo_ok X G (c.fact 8 (f := .glo "law") rfl))
  cases e
  have b := FunD.bindsA (ps := ["_law_script"]) F_law fun _ _ _ _ _ _ us hl => match us, hl with | [_], _ => rfl
  refine ⟨d_law, tf.map (He.cT K), sp_law T, fun p hp => ?_, fun p hp => ?_, fun p hp => ?_, fun s v => b s [v] rfl, fun H a ns hl _ hH hS => ⟨a, ns, rfl, hS, hl, LamX.TabS.nil (hH (He.cT K ("parts", none)) (List.mem_map_of_mem (f := He.cT K) (List.mem_of_getElem? (l := tf) (i := 0) rfl))), fun _ => rfl⟩, fun base _ _ hTB => ok_law F_law T (hTB (He.cT K ("parts", none)) (List.mem_map_of_mem (f := He.cT K) (List.mem_of_getElem? (l := tf) (i := 0) rfl)))⟩
  · obtain ⟨q, hq, rfl⟩ := List.mem_map.mp hp
    exact c'.empty q hq
  · obtain ⟨q, hq, rfl⟩ := List.mem_map.mp hp
    exact c'.out q hq
  · obtain ⟨q, hq, rfl⟩ := List.mem_map.mp hp
    exact PySem.W.codeHd_of_K X (c'.hd q hq)
end Th
open PySem PySem.W PySem.Calls PyProof.Rows
set_option maxHeartbeats 0 in
theorem PySem.Challenge.cw_throughlines_k58_carried_holds : PySem.Challenge.rw_throughlines_k58_carried.Holds := by
  w_on; o_law
  refine HandSHeadRun.head_any (r := OpenLaw.row PySem.Challenge.rw_throughlines_k58_carried) (q := view (OpenLaw.row PySem.Challenge.rw_throughlines_k58_carried).prog [11]) (H := Th.hk) (ob := Th.ob) (M := 2000) (loose := Th.loose) (d := HandSHeadRun.topDef (OpenLaw.row PySem.Challenge.rw_throughlines_k58_carried).prog 11) (kwd := []) Th.ob_eq
    (by kernel_rfl) (fun s => by kernel_rfl) Th.run (by kernel_rfl) (by kernel_rfl) (by kernel_rfl) (by rfl) (by first | assumption | decide +kernel) (by decide +kernel) ⟨rfl, rfl, rfl, rfl, rfl, by decide +kernel⟩ ?hw ?hc
  case hw => w_witness2
  case hc =>
    refine LamX.walk_ofTsE (l := PySem.Challenge.rw_throughlines_k58_carried) (n := 63) (k := 6) (x := "_law_script") (CX := fun _ => L2.CX0) rfl (by decide) (by kernel_rfl) ⟨rfl, by decide, by decide⟩ ?F (fun _ _ _ _ _ z => z)
    intro w mg fa h Y G hmg0
    obtain ⟨K, KX, c⟩ := Y
    have hmg : mg ("law" : PySem.Str) = some (.ref fa) := by
      have e : (HandSHeadRun.topDef (OpenLaw.row PySem.Challenge.rw_throughlines_k58_carried).prog 11).name = ("law" : PySem.Str) := by kernel_rfl
      rw [← e]
      exact hmg0
    exact ⟨K, KX, Th.facts KX G hmg c⟩
