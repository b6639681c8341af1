import PyProof.Rows.All
import Wide.All
import OpenK.AllK
import Wide.FinOn
import KE.KStateDown
import Lean
import HandS.ForMost
import HandS.More
import HandS.WordsExc
import HandS.Defaults
import HandS.IsInst
import HandS.Zip
import HandS.Walk
import HandS.Wide
import HandS.Flow
import HandS.Evl
import HandS.Strs
import HandS.SetFor
import KE.KDictZip
import KE.KItemsList
import HandS.DictComp
import HandS.Style
import HandS.Set
import HandS.SetBool
import KE.DatumOrd
import HandS.TupAny
import HandS.Codes
import HandS.DictTup
import HandS.Head0
import HandS.Head1
import HandS.Head2
import HandS.HeadEnd
import HandS.HeadHook1
import HandS.HeadHook2
import PySem.Challenge.RW_throughlines_k07_roads_of_lines
set_option Elab.async false
set_option linter.all false
set_option maxRecDepth 100000
set_option maxHeartbeats 4000000
namespace Th
open PySem PySem.Spec PyProof.Rows L2
/-! heaps -/
theorem same_upd {H : Hp} {p : Addr} {o : HO} (h : H p = none) : Same H (upd H p o) := fun b x e => by
  rw [upd_ne (ne_of_none e h)]
  exact e
/-- all but p stays -/
def Keep (p : Addr) (H H' : Hp) : Prop := ∀ b o, b ≠ p → H b = some o → H' b = some o
theorem Keep.refl (p : Addr) (H : Hp) : Keep p H H := fun _ _ _ h => h
theorem Keep.trans {p : Addr} {H H1 H2 : Hp} (a : Keep p H H1) (b : Keep p H1 H2) : Keep p H H2 := fun c o n h => b c o n (a c o n h)
theorem Keep.of {p : Addr} {H H1 : Hp} (a : Same H H1) : Keep p H H1 := fun c o _ h => a c o h
theorem Keep.upd {p : Addr} {H : Hp} {o : HO} : Keep p H (upd H p o) := fun c o n h => by rw [upd_ne n]; exact h
/-- the bag of draws at p -/
def Bag (H : Hp) (p : Addr) : Prop := ∃ g r : Int, H p = some (.lst [.int g, .int r]) ∧ 0 ≤ g ∧ 0 ≤ r ∧ r < 2147483648
theorem Bag.keep {H H' : Hp} {p : Addr} (b : Bag H p) (s : Same H H') : Bag H' p := by
  obtain ⟨g, r, e, h⟩ := b
  exact ⟨g, r, s _ _ e, h⟩
theorem Bag.some {H : Hp} {p : Addr} (b : Bag H p) : ∃ o, H p = Option.some o := by
  obtain ⟨g, r, e, _⟩ := b
  exact ⟨_, e⟩
theorem Bag.ne {H : Hp} {p q : Addr} (b : Bag H p) (h : H q = none) : q ≠ p := by
  obtain ⟨g, r, e, _⟩ := b
  exact (ne_of_none e h).symm
theorem p8 : (0 : Int) < 8 := by decide
theorem pA : (0 : Int) < 2147483647 := by decide
theorem pB : (0 : Int) < 2147483629 := by decide
theorem primes_at (i : Nat) : ∃ pr : Int, atI [V.int 2147483629, .int 2147483587, .int 2147483579, .int 2147483563, .int 2147483549, .int 2147483543, .int 2147483497, .int 2147483489] ((i : Int) % 8) = some (.int pr) ∧ 0 < pr ∧ pr < 2147483648 := by
  have e : ((i : Int) % 8) = ((i % 8 : Nat) : Int) := by omega
  rw [e]
  have h : i % 8 < 8 := Nat.mod_lt _ (by decide)
  generalize i % 8 = j at h
  have c : j = 0 ∨ j = 1 ∨ j = 2 ∨ j = 3 ∨ j = 4 ∨ j = 5 ∨ j = 6 ∨ j = 7 := by omega
  rcases c with rfl | rfl | rfl | rfl | rfl | rfl | rfl | rfl
  all_goals exact ⟨_, atI_nat rfl, by decide, by decide⟩
def sp_bag (K : PySem.W.Frag) : Sp := fun vs H Q _ => ∃ (a : Addr) (ns : List Int) (i : Nat), vs = [.ref a, .int i] ∧ SqL K H a (ns.map V.int) ∧ i < 1000000 ∧ ∀ H' p, Same H H' → H p = none → Bag H' p → Q (.ref p) H'
def sp_take : Sp := fun vs H Q _ => ∃ (p : Addr) (m : Int), vs = [.ref p, .int m] ∧ Bag H p ∧ 0 < m ∧ m < 1073741824 ∧ ∀ H' d, Keep p H H' → Bag H' p → 0 ≤ d → d < m → Q (.int d) H'
/-! data that is tracked, at addresses of which S holds -/
mutual
inductive Dt (S : Addr → Prop) (H : Hp) : V → PyData → Prop
  | non : Dt S H .non .none
  | bl (b : Bool) : Dt S H (.bl b) (.bool b)
  | int (i : Int) : Dt S H (.int i) (.int i)
  | str (x : Str) : Dt S H (.str x) (.str x)
  | lst {a : Addr} {xs : List V} {ds : List PyData} : S a → H a = some (.lst xs) → xs.length ≤ 5000 → DtAll S H xs ds → Dt S H (.ref a) (.list ds)
  | tup {a : Addr} {xs : List V} {ds : List PyData} : S a → H a = some (.tup xs) → xs.length ≤ 5000 → DtAll S H xs ds → Dt S H (.ref a) (.tuple ds)
inductive DtAll (S : Addr → Prop) (H : Hp) : List V → List PyData → Prop
  | nil : DtAll S H [] []
  | cons {v : V} {vs : List V} {d : PyData} {ds : List PyData} : Dt S H v d → DtAll S H vs ds → DtAll S H (v :: vs) (d :: ds)
end
mutual
theorem Dt.mono {S S' : Addr → Prop} {H H' : Hp} (hS : ∀ a, S a → S' a) (hh : ∀ a o, S a → H a = some o → H' a = some o) : ∀ {v : V} {d : PyData}, Dt S H v d → Dt S' H' v d
  | _, _, .non => .non
  | _, _, .bl b => .bl b
  | _, _, .int b => .int b
  | _, _, .str b => .str b
  | _, _, .lst s e l r => .lst (hS _ s) (hh _ _ s e) l (DtAll.mono hS hh r)
  | _, _, .tup s e l r => .tup (hS _ s) (hh _ _ s e) l (DtAll.mono hS hh r)
theorem DtAll.mono {S S' : Addr → Prop} {H H' : Hp} (hS : ∀ a, S a → S' a) (hh : ∀ a o, S a → H a = some o → H' a = some o) : ∀ {v : List V} {d : List PyData}, DtAll S H v d → DtAll S' H' v d
  | _, _, .nil => .nil
  | _, _, .cons a r => .cons (Dt.mono hS hh a) (DtAll.mono hS hh r)
end
mutual
theorem Dt.dp {K : PySem.W.Frag} {S : Addr → Prop} {H : Hp} : ∀ {v : V} {d : PyData}, Dt S H v d → Dp K H v d
  | _, _, .non => .non
  | _, _, .bl b => .bl b
  | _, _, .int b => .int b
  | _, _, .str b => .str b
  | _, _, .lst s e l r => .lst (SqL.of e) (DtAll.dp r)
  | _, _, .tup s e l r => .tup (SqT.of e) (DtAll.dp r)
theorem DtAll.dp {K : PySem.W.Frag} {S : Addr → Prop} {H : Hp} : ∀ {v : List V} {d : List PyData}, DtAll S H v d → DpAll K H v d
  | _, _, .nil => .nil
  | _, _, .cons a r => .cons (Dt.dp a) (DtAll.dp r)
end
abbrev SA : Addr → Prop := fun _ => True
theorem Dt.same {H H' : Hp} {v : V} {d : PyData} (s : Same H H') (h : Dt SA H v d) : Dt SA H' v d := h.mono (fun _ x => x) fun a o _ e => s a o e
theorem DtAll.same {H H' : Hp} {v : List V} {d : List PyData} (s : Same H H') (h : DtAll SA H v d) : DtAll SA H' v d := h.mono (fun _ x => x) fun a o _ e => s a o e
theorem DtAll.len {S : Addr → Prop} {H : Hp} : ∀ {v : List V} {d : List PyData}, DtAll S H v d → v.length = d.length
  | _, _, .nil => rfl
  | _, _, .cons _ r => congrArg Nat.succ r.len
theorem DtAll.get {S : Addr → Prop} {H : Hp} : ∀ {v : List V} {d : List PyData} {i : Nat} {x : V}, DtAll S H v d → v[i]? = some x → ∃ e, d[i]? = some e ∧ Dt S H x e
  | _, _, _, _, .nil, h => by simp at h
  | _, _, 0, _, .cons a r, h => by
    have e := Option.some.inj h
    subst e
    exact ⟨_, rfl, a⟩
  | _, _, i + 1, _, .cons a r, h => r.get (i := i) h
/-! depth, what may be laid -/
theorem depth_mem : ∀ {ds : List PyData} {i : Nat} {d : PyData}, ds[i]? = some d → PyData.depth d ≤ PyData.depthAll ds
  | [], _, _, h => by simp at h
  | x :: xs, 0, d, h => by
    have e := Option.some.inj h
    subst e
    rw [PyData.depthAll]
    exact Nat.le_max_left _ _
  | x :: xs, i + 1, d, h => by
    rw [PyData.depthAll]
    exact Nat.le_trans (depth_mem (i := i) h) (Nat.le_max_right _ _)
theorem lay_mem : ∀ {ds : List PyData} {i : Nat} {d : PyData}, PyData.canLayAll0 ds = true → ds[i]? = some d → PyData.canLay0 d = true
  | [], _, _, _, h => by simp at h
  | x :: xs, 0, d, c, h => by
    have e := Option.some.inj h
    subst e
    rw [PyData.canLayAll0, Bool.and_eq_true_iff] at c
    exact c.1
  | x :: xs, i + 1, d, c, h => by
    rw [PyData.canLayAll0, Bool.and_eq_true_iff] at c
    exact lay_mem (i := i) c.2 h
/-! the types -/
def tyN : PyData → String
  | .none => "NoneType"
  | .bool _ => "bool"
  | .int _ => "int"
  | .str _ => "str"
  | .list _ => "list"
  | .tuple _ => "tuple"
  | .dict _ => "dict"
theorem Dt.ty {K : PySem.W.Frag} {S : Addr → Prop} {H : Hp} {v : V} {d : PyData} (h : Dt S H v d) : TyX K H v (.type (tyN d)) := by
  cases h with
  | non => exact .base .non
  | bl b => exact .base (.bl b)
  | int b => exact .base (.int b)
  | str b => exact .base (.str b)
  | lst s e l r => exact .base (.lst e)
  | tup s e l r => exact .base (.tup e)
def isB : PyData → Bool
  | .bool _ => true
  | _ => false
def isSeq : PyData → Bool
  | .list _ => true
  | .tuple _ => true
  | _ => false
theorem kit_bool {K : PySem.W.Frag} {S : Addr → Prop} {H : Hp} {v : V} {d : PyData} (h : Dt S H v d) : PySem.W.kitOne K (.type (tyN d)) (.type "bool") = some (isB d) := by
  cases h with
  | non => exact kit_ty (a := "NoneType") (b := "bool") (r := false) (by decide +kernel)
  | bl b => exact kit_ty (a := "bool") (b := "bool") (r := true) (by decide +kernel)
  | int b => exact kit_ty (a := "int") (b := "bool") (r := false) (by decide +kernel)
  | str b => exact kit_ty (a := "str") (b := "bool") (r := false) (by decide +kernel)
  | lst s e l r => exact kit_ty (a := "list") (b := "bool") (r := false) (by decide +kernel)
  | tup s e l r => exact kit_ty (a := "tuple") (b := "bool") (r := false) (by decide +kernel)
theorem kit2 {K : PySem.W.Frag} {n : String} (h1 : kitB n "list" = some false) (h2 : kitB n "tuple" = some false) : PySem.W.kitAny K (.type n) [.type "list", .type "tuple"] = some false :=
  kitAny_cons (b := false) (kit_ty h1) (fun _ => kitAny_cons (b := false) (kit_ty h2) (fun _ => kitAny_nil) (fun z => nomatch z)) (fun z => nomatch z)
theorem kit_seq {K : PySem.W.Frag} {S : Addr → Prop} {H : Hp} {v : V} {d : PyData} (h : Dt S H v d) : PySem.W.kitAny K (.type (tyN d)) [.type "list", .type "tuple"] = some (isSeq d) := by
  cases h with
  | non => exact kit2 (n := "NoneType") (by decide +kernel) (by decide +kernel)
  | bl b => exact kit2 (n := "bool") (by decide +kernel) (by decide +kernel)
  | int b => exact kit2 (n := "int") (by decide +kernel) (by decide +kernel)
  | str b => exact kit2 (n := "str") (by decide +kernel) (by decide +kernel)
  | lst s e l r => exact kitAny_cons (b := true) (kit_ty (a := "list") (by decide +kernel)) (fun z => nomatch z) (fun _ => rfl)
  | tup s e l r => exact kitAny_cons (b := false) (kit_ty (a := "tuple") (by decide +kernel)) (fun _ => kitAny_cons (b := true) (kit_ty (a := "tuple") (by decide +kernel)) (fun z => nomatch z) (fun _ => rfl)) (fun z => nomatch z)
/-! zip of two tuples, walked -/
theorem walk_zipT {K : PySem.W.Frag} {a b : Addr} {xs ys : List V} {n : Nat} (hn : n = min xs.length ys.length) : Walk (RZ.ItzT K a b) n (fun H => SqT K H a xs ∧ SqT K H b ys) (YPair (fun i => xs[i]?) (fun i => ys[i]?)) := by
  subst hn
  refine ⟨fun i _ hi q => ?_, fun _ q => ⟨xs, ys, q.1, q.2, by omega⟩, fun i H v H' _ q y => ?_⟩
  · have h1 : i < xs.length := by omega
    have h2 : i < ys.length := by omega
    exact ⟨xs, ys, xs[i], ys[i], q.1, q.2, by simp [h1], by simp [h2]⟩
  · obtain ⟨T, x, z, h1, h2, h3, h4, h5⟩ := y
    exact ⟨T, x, z, h1, h2, h3, h4 xs q.1, h5 ys q.2⟩
theorem yes_ {σ : L2.St} {H : Hp} {A B : Hp → Prop} (h : A H) : tYes σ H fun b H3 => if b = true then A H3 else B H3 := by
  show if true = true then A H else B H
  exact iteT h
theorem small5000 {n : Nat} (h : n ≤ 5000) : n < sizeLine := Nat.lt_of_le_of_lt h (by decide)
/-- told and due are the same data, of a depth below n: True -/
def sp_like (n : Nat) : Sp := fun vs H Q _ => ∃ (v u : V) (d : PyData), vs = [v, u] ∧ Dt SA H v d ∧ Dt SA H u d ∧ d.canLay0 = true ∧ d.depth < n ∧ n ≤ 60 ∧ ∀ H', Same H H' → Q (.bl true) H'
/-- xs[i] read for an augmented store, i from 0 on -/
theorem get_listN {X : Cx} : PGet X (fun o i H Q => ∃ (p : Addr) (xs : List V) (j : Nat) (v : V), o = .ref p ∧ i = .int j ∧ H p = some (.lst xs) ∧ xs[j]? = some v ∧ Q v H) := by
  intro pins s σ H o i ov iv Q I ro ri h
  obtain ⟨p, xs, j, v, rfl, rfl, hp, hx, q⟩ := h
  cases (show ov = Value.ref p from ro)
  obtain ⟨t, rfl⟩ := ri
  obtain ⟨its, r, pl, hz⟩ := I.list (SqL.of hp)
  obtain ⟨u, eu, ru⟩ := r.get hx
  have hj : j < xs.length := (List.getElem?_eq_some_iff.mp hx).1
  have h63 := line63
  exact wpAny_getItem_list pl.isList (by omega) (by omega) (by simpa using eu) ⟨v, H, I, ru, q⟩
/-- the d-th of some whole numbers -/
theorem pick {ms : List Int} {d : Int} (h0 : 0 ≤ d) (h1 : d < ms.length) : ∃ m ∈ ms, atI (ms.map V.int) d = some (.int m) := by
  obtain ⟨j, rfl⟩ : ∃ j : Nat, d = (j : Int) := ⟨d.toNat, by omega⟩
  have hj : j < ms.length := by omega
  refine ⟨ms[j], List.getElem_mem hj, atI_nat ?_⟩
  rw [List.getElem?_map, List.getElem?_eq_getElem hj]
  rfl
theorem Bag.at {H H' : Hp} {p : Addr} (b : Bag H p) (e : H' p = H p) : Bag H' p := by
  obtain ⟨g, r, h, k⟩ := b
  exact ⟨g, r, e.trans h, k⟩
theorem Keep.new {p q : Addr} {H H' : Hp} {o : HO} (k : Keep p H H') (n : H' q = none) : Keep p H (L2.upd H' q o) := k.trans (.of (same_upd n))
theorem Keep.free {p q : Addr} {H H' : Hp} (k : Keep p H H') (b : Bag H p) (h : H' q = none) (b' : Bag H' p) : H q = none := by
  cases e : H q with
  | none => rfl
  | some o =>
    by_cases z : q = p
    · rw [z] at h
      obtain ⟨g, r, e', _⟩ := b'
      rw [e'] at h
      cases h
    · rw [k q o z e] at h
      cases h
theorem rep_one {α : Type} (x : α) (m : Nat) : (List.replicate m [x]).flatten = List.replicate m x := by
  induction m with
  | zero => rfl
  | succ m ih => rw [List.replicate_succ, List.flatten_cons, ih, List.replicate_succ]; rfl
/-! lists of whole numbers as data -/
abbrev dI (zs : List Int) : PyData := .list (zs.map PyData.int)
theorem dtAll_ints {S : Addr → Prop} {H : Hp} : ∀ zs : List Int, DtAll S H (zs.map V.int) (zs.map PyData.int)
  | [] => .nil
  | z :: zs => .cons (.int z) (dtAll_ints zs)
theorem dt_ints {H : Hp} {x : Addr} {zs : List Int} (h : H x = some (.lst (zs.map V.int))) (hl : zs.length ≤ 5000) : Dt SA H (.ref x) (dI zs) := .lst trivial h (by rw [List.length_map]; exact hl) (dtAll_ints zs)
theorem layAll_ints : ∀ zs : List Int, PyData.canLayAll0 (zs.map PyData.int) = true
  | [] => rfl
  | z :: zs => by rw [List.map_cons, PyData.canLayAll0, layAll_ints zs]; rfl
theorem lay_ints (zs : List Int) : (dI zs).canLay0 = true := layAll_ints zs
theorem depthAll_ints : ∀ zs : List Int, PyData.depthAll (zs.map PyData.int) = 0
  | [] => rfl
  | z :: zs => by rw [List.map_cons, PyData.depthAll, depthAll_ints zs]; rfl
theorem depth_ints (zs : List Int) : (dI zs).depth = 1 := by
  show PyData.depthAll (zs.map PyData.int) + 1 = 1
  rw [depthAll_ints]
theorem shaped_ints (zs : List Int) : SeqAt.shaped (dI zs) = true := Bool.and_eq_true_iff.mpr ⟨lay_ints zs, decide_eq_true (by rw [depth_ints]; decide)⟩
theorem eqv_ints (zs : List Int) : PyData.eqv (dI zs) (dI zs) = true := SeqAt.eqv_refl _ (lay_ints zs)
/-! len by a reading that names K -/
def rLenS (K : PySem.W.Frag) : List V → Hp → VK → Prop := fun xs H Q => ∃ (p : Addr) (ys : List V), xs = [.ref p] ∧ (SqL K H p ys ∨ SqT K H p ys) ∧ Q (.int ys.length) H
theorem call_lenS {X : Cx} : CallR X (.builtin "len") (rLenS X.K) := call_len_seq
theorem nn_sum : ∀ {ws : List Int}, (∀ w ∈ ws, 0 ≤ w) → 0 ≤ ws.sum
  | [], _ => by simp
  | w :: ws, h => by
    have h1 := h w (List.mem_cons_self ..)
    have h2 := nn_sum (ws := ws) fun x hx => h x (List.mem_cons_of_mem _ hx)
    rw [List.sum_cons]
    omega
theorem pos_sum : ∀ {ws : List Int} {j : Nat} {x : Int}, (∀ w ∈ ws, 0 ≤ w) → ws[j]? = some x → 0 < x → 0 < ws.sum
  | [], _, _, _, h, _ => by simp at h
  | w :: ws, 0, x, hw, h, hx => by
    have e : w = x := Option.some.inj h
    have h2 := nn_sum (ws := ws) fun x hx => hw x (List.mem_cons_of_mem _ hx)
    rw [List.sum_cons]
    omega
  | w :: ws, j + 1, x, hw, h, hx => by
    have h1 := hw w (List.mem_cons_self ..)
    have h2 := pos_sum (ws := ws) (j := j) (x := x) (fun x hx => hw x (List.mem_cons_of_mem _ hx)) h hx
    rw [List.sum_cons]
    omega
theorem cut_ints (ws : List Int) (lo hi : Option Int) : ∃ ys : List Int, cutV (ws.map V.int) lo hi = ys.map V.int := by
  unfold cutV
  exact ⟨(ws.drop _).take _, by rw [List.map_take, List.map_drop]⟩
end Th
namespace Sl
open PySem PySem.Spec PyProof.Rows L2
/-- the object of a set just made -/
abbrev set0 (w : World) : Obj := { cls := .type "set", dict := none, data := .set #[] 0 (.fresh 0 0 (!w.params.followText "set-order")) }
section
variable {P : Program} {w : World} {A : Around} {E : Value → Shared → Prop} {s : Shared}
set_option maxHeartbeats 8000000 in
/-- set(xs) of a list of whole numbers -/
theorem set_of_ints {l : Addr} {its : Array Value} (ns : List Int) {Q : Value → Shared → Prop} (nh : A.handled = none) (il : s.heap.IsList l its) (ii : IntsAre its.toList ns) (nb : ns.length + 1 < scanBound)
    (fin : ∀ (g : Heap) (tk c : Nat), SetR w g s.heap.objs.size (fun j => decide (j ∈ ns)) c → c ≤ ns.length → (∀ b o, s.heap.get? b = some o → g.get? b = some o) → Q (.ref s.heap.objs.size) { s with heap := g, toks := tk }) :
    wpAny (model P w) A (call (.type "set") [.ref l]) Q E s := by
  have isz : its.size = ns.length := by
    have z := IntsAre.length ii
    rwa [Array.length_toList] at z
  obtain ⟨_, _, mro⟩ := F.called_set.mro
  have m1 := F.called_set.made
  have m2 := F.called_set.sub
  have m3 := F.called_set.notType
  have m4 := F.called_set.canCreate
  have m5 := F.typeCall_set_1 (.ref l)
  refine wpAny_call (codeAny_of_tree (?_ : wpAny _ _ (callAny (.type "set") _) _ _ _))
  refine wpAny_pure ⟨Code.quiet_builtin _ (by decide +kernel), codeAny_builtin F.entry_type_call ?_⟩
  rw [Around.under_plain (weight_type_call_type "set" [.ref l] []) rfl]
  repeat (any_goals (first | assumption | wp_step))
  refine codeAny_mono (code_set_led1 (.ref l) (E := E) (Q₁ := fun ob z => ob = .ref s.heap.objs.size ∧ z = { s with heap := s.heap.push (set0 w) }) ⟨rfl, rfl⟩) fun r z hz => ?_
  cases r with
  | error e => exact hz
  | ok fl =>
    cases fl with
    | ret ob =>
      obtain ⟨rfl, rfl⟩ := hz
      have zS : (s.heap.push (set0 w)).get? s.heap.objs.size = some (set0 w) := Heap.get?_push_size _ rfl
      have zT : Shared.TypeIs { s with heap := s.heap.push (set0 w) } (.ref s.heap.objs.size) "set" := ⟨_, zS, rfl⟩
      have n1 := F.called_set.init.lookup
      have n2 := F.called_set.init.bind (.ref s.heap.objs.size)
      repeat (any_goals (first | assumption | wp_step))
      refine codeAny_mono (codeAny_call_builtin (R := wants (fun r z => r = .none ∧ ∃ g tk c, z = { s with heap := g, toks := tk } ∧ SetR w g s.heap.objs.size (fun j => decide (j ∈ ns)) c ∧ c ≤ ns.length ∧ ∀ b o, s.heap.get? b = some o → g.get? b = some o) E)
        F.called_set.init.plain F.entry_set_init (check_set_init_1 zT ?_)) fun r2 z2 hz2 => ?_
      · obtain ⟨⟨oc, od, odt, osl⟩, ol, c1, nl, c2⟩ := il
        simp only at c1 c2
        subst c1 c2
        have ol2 : (s.heap.push (set0 w)).get? l = some { cls := .type "list", dict := od, data := .seq its nl, slots := osl } := Heap.get?_push_of_some _ ol
        have k1 := F.sub_list_set
        have k2 := F.sub_list_frozenset
        have k3 : (Value.type "list" == Value.type "dict") = false := by decide
        have il2 : (s.heap.push (set0 w)).IsList l its := ⟨_, ol2, rfl, nl, rfl⟩
        unfold Builtin.«set.__init__» noKeywords Builtin.Frozenset.updateFrom
        generalize ePI : pyIter = PI
        wp_walk
        subst ePI
        refine wpAny_pyIter_list il2 (wpAny_bind (wpAny_runValue ?_))
        have lS : l < s.heap.objs.size := Heap.lt_size ol
        have h3 : A.in1.in1.in1.handled = none := by simp [nh]
        have nI : l ≠ (s.heap.push (set0 w)).objs.size := by
          rw [Heap.size_push]
          exact Nat.ne_of_lt (Nat.lt_succ_of_lt lS)
        have nf : s.heap.objs.size ∉ [(s.heap.push (set0 w)).objs.size, l] := by
          rw [Heap.size_push]
          simp only [List.mem_cons, List.not_mem_nil, or_false, not_or]
          exact ⟨Nat.ne_of_lt (Nat.lt_succ_self _), Nat.ne_of_gt lS⟩
        have vl : ∀ (i : Nat) (v : Value), its[i]? = some v → ∃ k t, ns[i]? = some k ∧ v = .int k t := fun i v hv => by
          have hi : i < ns.length := by rw [← isz]; exact (Array.getElem?_eq_some_iff.mp hv).1
          obtain ⟨t, e⟩ := IntsAre.int_at ii i v (by rw [Array.getElem?_toList]; exact hv)
          refine ⟨ns[i], t, List.getElem?_eq_getElem hi, ?_⟩
          rw [e, List.getD_eq_getElem?_getD, List.getElem?_eq_getElem hi] <;> rfl
        refine set_update_ints ((Walks.list h3 _ l nI its).toS) s.heap.objs.size nf ns isz nb vl (its.size - 0) 0 _ (by omega) (Nat.zero_le _) ⟨⟨_, Heap.get?_push_size _ rfl, rfl, rfl⟩, il2.push _⟩ ?zStart ?zEnd
        case zStart => exact ⟨0, Nat.le_refl 0, setR_new_at (Heap.get?_push_of_some _ zS)⟩
        case zEnd =>
          intro z c hm hc hS
          obtain ⟨g, gg, dd, tk, os⟩ := z
          have e1 : gg = s.gens := hm.gens
          have e2 : dd = s.drawn := hm.drawn
          have e3 : os = s.os := hm.os
          subst e1 e2 e3
          refine wpAny_pure (?_ : wpAny _ _ (ret Value.none) _ _ _)
          rw [isz] at hc
          refine wpAny_pure ⟨rfl, g, tk, c, rfl, hS, hc, fun b o e => ?_⟩
          have b0 : b < s.heap.objs.size := Heap.lt_size e
          refine hm.heap b o ?_ (Heap.get?_push_of_some _ (Heap.get?_push_of_some _ e))
          rw [Heap.size_push]
          simp only [List.mem_cons, List.not_mem_nil, or_false, not_or]
          exact ⟨Nat.ne_of_lt b0, Nat.ne_of_lt (Nat.lt_succ_of_lt b0)⟩
      · cases r2 with
        | error e => exact hz2
        | ok f2 =>
          cases f2 with
          | ret r =>
            obtain ⟨rfl, g, tk, c, rfl, q1, q2, q3⟩ := hz2
            repeat (any_goals (first | assumption | wp_step))
            exact fin _ _ _ q1 q2 q3
          | _ => exact hz2.elim
    | _ => exact hz.elim
end
def rSetI (K : PySem.W.Frag) (w : World) : List V → Hp → VK → Prop := fun xs H Q => ∃ (l : Addr) (ns : List Int), xs = [.ref l] ∧ SqL K H l (ns.map V.int) ∧ ns.length ≤ 1000 ∧ ∀ p c, H p = none → c ≤ ns.length → Q (.ref p) (upd H p (SetO w p (fun j => decide (j ∈ ns)) c))
theorem call_setI {X : Cx} (hc : X.calm = true) : CallR X (.type "set") (rSetI X.K X.w) := by
  intro pins s σ H xs us Q I r h
  obtain ⟨l, ns, rfl, hs, hl, q⟩ := h
  rw [Vals.ref1 r]
  obtain ⟨its, rv, pl, hz⟩ := I.list hs
  refine set_of_ints ns (I.ok.hd hc) pl.isList (ints_of_vals rv) (by unfold scanBound; omega) fun g tk c R hcn k => ?_
  exact ⟨.ref _, _, I.laid (t' := tk) k (Nat.le_refl _) (setO_new R), rfl, q _ c (I.hok.fresh (Nat.le_refl _)) hcn⟩
end Sl
/-! list(zip(xs, ys)), xs and ys lists of one length: a new list of new tuples -/
namespace Lz
open PySem PySem.Spec PyProof.Rows L2
theorem no_len : typeLookup (.type "zip") "__len__" = pure none := am_miss_of_fast (by decide +kernel)
theorem no_hint : typeLookup (.type "zip") "__length_hint__" = pure none := am_miss_of_fast (by decide +kernel)
structure ZS (z TI TO i1 i2 l1 l2 S : Addr) (xs ys : Array Value) (i : Nat) (h : Heap) : Prop where
  ti : IsPair h TI (.ref i1) (.ref i2)
  a1 : h.IsListIter i1 l1 i
  a2 : h.IsListIter i2 l2 i
  b1 : h.IsList l1 xs
  b2 : h.IsList l2 ys
  zz : (IsZip h z TI TO .none ∧ ∃ a b, IsPair h TO a b) ∨ ∃ T f oT, IsZipHeld h z TI TO T f ∧ h.get? T = some oT ∧ T ≠ z ∧ T ≠ i1 ∧ T ≠ i2 ∧ T ≠ S
structure Off (z TI TO i1 i2 l1 l2 S : Addr) : Prop where
  z : z ≠ S
  ti : TI ≠ S
  to' : TO ≠ S
  i1 : i1 ≠ S
  i2 : i2 ≠ S
  l1 : l1 ≠ S
  l2 : l2 ≠ S
theorem ZS.frame {z TI TO i1 i2 l1 l2 S : Addr} {xs ys : Array Value} {i : Nat} {h h' : Heap} (O : Off z TI TO i1 i2 l1 l2 S) (st : ZS z TI TO i1 i2 l1 l2 S xs ys i h) (hk : ∀ b o, b ≠ S → h.get? b = some o → h'.get? b = some o) : ZS z TI TO i1 i2 l1 l2 S xs ys i h' := by
  refine ⟨hk _ _ O.ti st.ti, st.a1.at fun o e => hk _ o O.i1 e, st.a2.at fun o e => hk _ o O.i2 e, st.b1.at fun o e => hk _ o O.l1 e, st.b2.at fun o e => hk _ o O.l2 e, ?_⟩
  rcases st.zz with ⟨hz, a, b, hTO⟩ | ⟨T, f, oT, hz, hT, r1, r2, r3, r4⟩
  · exact .inl ⟨hk _ _ O.z hz, a, b, hk _ _ O.to' hTO⟩
  · exact .inr ⟨T, f, oT, hk _ _ O.z hz, hk _ _ r4 hT, r1, r2, r3, r4⟩
structure ZG (xs ys : Array Value) (lo : Addr) (h : Heap) (as : List Addr) : Prop where
  rise : as.Pairwise (· < ·)
  above : ∀ a ∈ as, lo < a
  pairs : ∀ (j : Nat) (a : Addr), as[j]? = some a → ∃ x y, xs[j]? = some x ∧ ys[j]? = some y ∧ h.get? a = some { cls := .type "tuple", data := .seq #[x, y] }
theorem ZG.there {xs ys : Array Value} {lo : Addr} {h : Heap} {as : List Addr} (g : ZG xs ys lo h as) {a : Addr} (ha : a ∈ as) : a < h.objs.size := by
  obtain ⟨j, hj⟩ := List.mem_iff_getElem?.mp ha
  obtain ⟨_, _, _, _, e⟩ := g.pairs j a hj
  exact Heap.lt_size e
section
variable {prog : Program} {w : World} {A : Around} {E : Value → Shared → Prop} {s : Shared} {z TI TO i1 i2 l1 l2 S : Addr} {xs ys : Array Value} {i : Nat}
theorem z_item {x y : Value} {Q : Option Value → Shared → Prop} (D : ZipApart z TI TO i1 i2 l1 l2) (st : ZS z TI TO i1 i2 l1 l2 S xs ys i s.heap) (hS : S < s.heap.objs.size) (ex : xs[i]? = some x) (ey : ys[i]? = some y)
    (hQ : ∀ h', ZS z TI TO i1 i2 l1 l2 S xs ys (i + 1) h' → IsPair h' s.heap.objs.size x y → (∀ c o, c ≠ z → c ≠ TO → c ≠ i1 → c ≠ i2 → s.heap.get? c = some o → h'.get? c = some o) → Q (some (.ref s.heap.objs.size)) { s with heap := h' }) :
    wpAny (model prog w) A (pyNext (.ref z)) Q E s := by
  obtain ⟨hTI, h1, h2, hl1, hl2, hz⟩ := st
  have lt : ∀ {c o}, s.heap.get? c = some o → s.heap.objs.size ≠ c := fun e => Nat.ne_of_gt (Heap.lt_size e)
  have n1 : s.heap.objs.size ≠ i1 := let ⟨_, e, _⟩ := h1; lt e
  have n2 : s.heap.objs.size ≠ i2 := let ⟨_, e, _⟩ := h2; lt e
  rcases hz with ⟨hz, a, b, hTO⟩ | ⟨T, f, oT, hz, hT, r1, r2, r3, r4⟩
  · refine wpAny_pyNext_zip_item D hz hTI hTO h1 h2 hl1 hl2 ex ey fun h' a1 a2 a3 a4 a5 a6 hk => ?_
    exact hQ h' ⟨hk _ _ D.TIz D.TITO D.TIi1 D.TIi2 hTI, a3, a4, hl1.at fun o e => hk _ o D.l1z D.l1TO D.l1i1 D.l1i2 e, hl2.at fun o e => hk _ o D.l2z D.l2TO D.l2i1 D.l2i2 e, .inr ⟨s.heap.objs.size, false, _, a1, a5, lt hz, n1, n2, Nat.ne_of_gt hS⟩⟩ a5 hk
  · refine wpAny_pyNext_zip_item_held D hz hT hTI h1 h2 hl1 hl2 ex ey fun h' a1 a3 a4 a5 a6 hk => ?_
    exact hQ h' ⟨hk _ _ D.TIz D.TIi1 D.TIi2 hTI, a3, a4, hl1.at fun o e => hk _ o D.l1z D.l1i1 D.l1i2 e, hl2.at fun o e => hk _ o D.l2z D.l2i1 D.l2i2 e, .inr ⟨T, true, oT, a1, hk _ _ r1 r2 r3 hT, r1, r2, r3, r4⟩⟩ a5 fun c o c1 _ c3 c4 e => hk c o c1 c3 c4 e
theorem z_done {Q : Option Value → Shared → Prop} (hA : A.handled = none) (D : ZipApart z TI TO i1 i2 l1 l2) (st : ZS z TI TO i1 i2 l1 l2 S xs ys i s.heap) (hend : xs[i]? = none ∨ ys[i]? = none)
    (hQ : ∀ h', (∀ c o, c ≠ z → c ≠ TO → c ≠ i1 → c ≠ i2 → s.heap.get? c = some o → h'.get? c = some o) → Q none { s with heap := h' }) : wpAny (model prog w) A (pyNext (.ref z)) Q E s := by
  obtain ⟨hTI, h1, h2, hl1, hl2, hz⟩ := st
  rcases hz with ⟨hz, a, b, hTO⟩ | ⟨T, f, oT, hz, hT, r1, r2, r3, r4⟩
  · exact wpAny_pyNext_zip_end hA D hz hTI hTO h1 h2 hl1 hl2 hend fun h' hk => hQ h' hk
  · exact wpAny_pyNext_zip_end_held hA D hz hT hTI h1 h2 hl1 hl2 hend fun h' hk => hQ h' fun c o c1 _ c3 c4 e => hk c o c1 c3 c4 e
theorem z_loop {R : Result → Shared → Prop} (hh : A.handled = none) (D : ZipApart z TI TO i1 i2 l1 l2) (O : Off z TI TO i1 i2 l1 l2 S) (lz : z < S) (lt : TO < S) (li1 : i1 < S) (li2 : i2 < S) {n : Nat} (hx : xs.size = n) (hy : ys.size = n) (hn : n ≤ sizeLine) (res : Value) {h₁ : Heap}
    (hR : ∀ h' tk acc c as, (∀ b o, b ≠ S → b ≠ z → b ≠ TO → b ≠ i1 → b ≠ i2 → h₁.get? b = some o → h'.get? b = some o) → h'.get? S = some { cls := .type "list", dict := none, data := .seq acc c, slots := #[] } → as.length = n → ZG xs ys S h' as →
      acc.toList = as.map Value.ref → R (.ok (.ret res)) { s with heap := h', toks := tk }) :
    ∀ (k i : Nat) (h : Heap) (tk c : Nat) (acc : Array Value) (as : List Addr), n - i = k → i ≤ n → ZS z TI TO i1 i2 l1 l2 S xs ys i h → (∀ b o, b ≠ S → b ≠ z → b ≠ TO → b ≠ i1 → b ≠ i2 → h₁.get? b = some o → h.get? b = some o) →
      h.get? S = some { cls := .type "list", dict := none, data := .seq acc c, slots := #[] } → acc.toList = as.map Value.ref → as.length = i → ZG xs ys S h as →
      codeAny (model prog w) A (.builtin "list.extend.loop" ⟨[.ref S, .ref z, res], []⟩) R { s with heap := h, toks := tk } := by
  intro k
  induction k with
  | zero =>
    intro i h tk c acc as hk hi hst hkeep hS hacc hal hG
    refine codeAny_builtin PySem.F.entry_extend_loop ?_
    rw [Around.under_plainId PySem.F.plain_extend_loop _]
    show wpAny _ A.in1 (pyNext (.ref z) >>= _) _ _ _
    refine wpAny_bind (z_done (s := { s with heap := h, toks := tk }) (A := A.in1) hh D hst (.inl (Array.getElem?_eq_none (by omega))) fun h' he => ?_)
    refine wpAny_pure (hR h' tk acc c as (fun b o h1 h2 h3 h4 h5 e => he b o h2 h3 h4 h5 (hkeep b o h1 h2 h3 h4 h5 e)) (he S _ O.z.symm O.to'.symm O.i1.symm O.i2.symm hS) (by omega) ⟨hG.rise, hG.above, fun j a hj => ?_⟩ hacc)
    obtain ⟨x, y, e1, e2, e3⟩ := hG.pairs j a hj
    have ab := hG.above a (List.mem_of_getElem? hj)
    exact ⟨x, y, e1, e2, he a _ (Nat.ne_of_gt (Nat.lt_trans lz ab)) (Nat.ne_of_gt (Nat.lt_trans lt ab)) (Nat.ne_of_gt (Nat.lt_trans li1 ab)) (Nat.ne_of_gt (Nat.lt_trans li2 ab)) e3⟩
  | succ k ih =>
    intro i h tk c acc as hk hi hst hkeep hS hacc hal hG
    have hlt : i < n := by omega
    obtain ⟨x, ex⟩ : ∃ p, xs[i]? = some p := ⟨xs[i], Array.getElem?_eq_getElem (by omega)⟩
    obtain ⟨y, ey⟩ : ∃ p, ys[i]? = some p := ⟨ys[i], Array.getElem?_eq_getElem (by omega)⟩
    have hsz : acc.size = i := by rw [← Array.length_toList, hacc, List.length_map, hal]
    have hSl : S < h.objs.size := Heap.lt_size hS
    refine codeAny_builtin PySem.F.entry_extend_loop ?_
    rw [Around.under_plainId PySem.F.plain_extend_loop _]
    show wpAny _ A.in1 (pyNext (.ref z) >>= _) _ _ _
    refine wpAny_bind (z_item (s := { s with heap := h, toks := tk }) (S := S) D hst hSl ex ey fun h' hst' ht hkp => ?_)
    dsimp only at ht hkp ⊢
    have hS' := hkp S _ O.z.symm O.to'.symm O.i1.symm O.i2.symm hS
    have up : ∀ b o, b ≠ S → h'.get? b = some o → (h'.update S (Obj.mapSeq (·.push (Value.ref h.objs.size)))).get? b = some o := fun b o hb e => (Heap.get?_update_other _ _ (Ne.symm hb)).trans e
    show wpAny _ A.in1 (updateSeq S (·.push (Value.ref h.objs.size)) >>= _) _ _ _
    refine wpAny_bind ?_
    refine wpAny_updateSeq hS' rfl (wpAny_pure ⟨plainId_quiet PySem.F.plain_extend_loop _, ih (i + 1) _ tk _ (acc.push (Value.ref h.objs.size)) (as ++ [h.objs.size]) (by omega) hlt (hst'.frame O up)
      (fun b o h1 h2 h3 h4 h5 e => up b o h1 (hkp b o h2 h3 h4 h5 (hkeep b o h1 h2 h3 h4 h5 e))) (Heap.get?_update_self _ hS' rfl) (by rw [Array.toList_push, hacc, List.map_append]; rfl) (by rw [List.length_append, hal]; rfl) ⟨?_, ?_, ?_⟩⟩) (by rw [hsz]; omega) (by show (acc.push (Value.ref h.objs.size)).size ≤ sizeLine + 1; rw [Array.size_push, hsz]; omega)
    · refine List.pairwise_append.mpr ⟨hG.rise, List.pairwise_singleton _ _, fun a ha b hb => ?_⟩
      rw [List.mem_singleton.mp hb]
      exact hG.there ha
    · intro a ha
      rcases List.mem_append.mp ha with ha | ha
      · exact hG.above a ha
      · rw [List.mem_singleton.mp ha]
        exact hSl
    · intro j b hj
      rcases Nat.lt_trichotomy j as.length with h1 | h1 | h1
      · rw [List.getElem?_append_left h1] at hj
        obtain ⟨x', y', e1, e2, e3⟩ := hG.pairs j b hj
        have ab := hG.above b (List.mem_of_getElem? hj)
        exact ⟨x', y', e1, e2, up b _ (Nat.ne_of_gt ab) (hkp b _ (Nat.ne_of_gt (Nat.lt_trans lz ab)) (Nat.ne_of_gt (Nat.lt_trans lt ab)) (Nat.ne_of_gt (Nat.lt_trans li1 ab)) (Nat.ne_of_gt (Nat.lt_trans li2 ab)) e3)⟩
      · subst h1
        have hb : h.objs.size = b := by simpa using hj
        subst hb
        exact ⟨x, y, by rw [hal]; exact ex, by rw [hal]; exact ey, up _ _ (Nat.ne_of_gt hSl) ht⟩
      · have hnone : (as ++ [h.objs.size])[j]? = none := List.getElem?_eq_none (by rw [List.length_append, List.length_singleton]; omega)
        rw [hnone] at hj
        cases hj
theorem z_hint (hT : s.TypeIs (.ref z) "zip") {Q : Bool → Shared → Prop} (h : Q true s) : wpAny (model prog w) A (Builtin.List.listLengthHint (.ref z)) Q E s := by
  unfold Builtin.List.listLengthHint
  refine wpAny_bind (wpAny_specialOf hT no_len ?_)
  show wpAny _ _ (specialOf (Value.ref z) (Str.ofString "__length_hint__") >>= _) _ _ _
  refine wpAny_bind (wpAny_specialOf hT no_hint ?_)
  exact wpAny_pure h
theorem z_extend {R : Result → Shared → Prop} (hh : A.handled = none) (D : ZipApart z TI TO i1 i2 l1 l2) (O : Off z TI TO i1 i2 l1 l2 S) (lz : z < S) (lt : TO < S) (li1 : i1 < S) (li2 : i2 < S) {n : Nat} (hx : xs.size = n) (hy : ys.size = n) (hn : n ≤ sizeLine) (res : Value) (c₀ : Nat)
    (hz : IsZip s.heap z TI TO .none) (st : ZS z TI TO i1 i2 l1 l2 S xs ys 0 s.heap) (hS : s.heap.get? S = some { cls := .type "list", data := .seq #[] c₀ })
    (hR : ∀ h' tk acc c as, (∀ b o, b ≠ S → b ≠ z → b ≠ TO → b ≠ i1 → b ≠ i2 → s.heap.get? b = some o → h'.get? b = some o) → h'.get? S = some { cls := .type "list", dict := none, data := .seq acc c, slots := #[] } → as.length = n → ZG xs ys S h' as →
      acc.toList = as.map Value.ref → R (.ok (.ret res)) { s with heap := h', toks := tk }) :
    wpAny (model prog w) A.in1 (Builtin.List.listExtendWith (.ref S) (.ref z) res)
      (fun fin s' => match fin with | .done f => R (.ok f) s' | .again c' => c'.quiet = true ∧ codeAny (model prog w) A c' R s') (fun e s' => R (.error e) s') s := by
  have hT : s.TypeIs (.ref z) "zip" := ⟨_, hz, rfl⟩
  have key : ∀ (h : Heap) (c₁ tk : Nat), (∀ b o, b ≠ S → s.heap.get? b = some o → h.get? b = some o) → h.get? S = some { cls := .type "list", data := .seq #[] c₁ } → codeAny (model prog w) A (.builtin "list.extend.loop" ⟨[.ref S, .ref z, res], []⟩) R { s with heap := h, toks := tk } := by
    intro h c₁ tk hk hS₁
    exact z_loop (s := s) (h₁ := s.heap) hh D O lz lt li1 li2 hx hy hn res hR n 0 h tk c₁ #[] [] (Nat.sub_zero _) (Nat.zero_le _) (st.frame O hk) (fun b o hb _ _ _ _ e => hk b o hb e) hS₁ rfl rfl ⟨List.Pairwise.nil, (fun _ ha => nomatch ha), (fun j a hj => by simp at hj)⟩
  unfold Builtin.List.listExtendWith
  refine wpAny_bind (wpAny_typeOf (T := "zip") hT ?_)
  have h1 : Builtin.List.listSameRef (.ref S) (.ref z) = false := by simp [Builtin.List.listSameRef, O.z.symm]
  have h2 : (Value.type "zip" == Value.type "list") = false := by decide
  have h3 : (Value.type "zip" == Value.type "tuple") = false := by decide
  simp only [h1, h2, h3, Bool.or_false, Bool.false_eq_true, if_false]
  refine wpAny_bind (wpAny_pyIter_zip hz ?_)
  refine wpAny_bind (wpAny_holding (z_hint hT ?_))
  refine wpAny_ite_split (fun _ => ?_) (fun _ => wpAny_pure ⟨plainId_quiet PySem.F.plain_extend_loop _, key _ c₀ _ (fun b o _ e => e) hS⟩)
  refine wpAny_bind (wpAny_rule ?_)
  refine wpAny_bind ?_
  show wpAny _ _ (updateSeq S (·.push .none) >>= fun _ => updateSeq S (·.pop)) _ _ _
  refine wpAny_bind (wpAny_updateSeq hS rfl ?_)
  have hS₂ := Heap.get?_update_self (Obj.mapSeq (·.push Value.none)) hS rfl
  refine wpAny_updateSeq (hz := by seq_fits) hS₂ rfl ?_
  have hS₃ := Heap.get?_update_self (Obj.mapSeq (·.pop)) hS₂ rfl
  refine wpAny_pure ⟨plainId_quiet PySem.F.plain_extend_loop _, key _ _ _ (fun b o hb e => ?_) hS₃⟩
  exact (Heap.get?_update_other _ _ (Ne.symm hb)).trans ((Heap.get?_update_other _ _ (Ne.symm hb)).trans e)
theorem z_init {R : Result → Shared → Prop} (hh : A.handled = none) (D : ZipApart z TI TO i1 i2 l1 l2) (O : Off z TI TO i1 i2 l1 l2 S) (lz : z < S) (lt : TO < S) (li1 : i1 < S) (li2 : i2 < S) {n : Nat} (hx : xs.size = n) (hy : ys.size = n) (hn : n ≤ sizeLine)
    (hz : IsZip s.heap z TI TO .none) (st : ZS z TI TO i1 i2 l1 l2 S xs ys 0 s.heap) (hS : s.heap.get? S = some { cls := .type "list", data := .seq #[] })
    (hR : ∀ h' tk acc c as, (∀ b o, b ≠ S → b ≠ z → b ≠ TO → b ≠ i1 → b ≠ i2 → s.heap.get? b = some o → h'.get? b = some o) → h'.get? S = some { cls := .type "list", dict := none, data := .seq acc c, slots := #[] } → as.length = n → ZG xs ys S h' as →
      acc.toList = as.map Value.ref → R (.ok (.ret .none)) { s with heap := h', toks := tk }) :
    wpAny (model prog w) A.in1 (Builtin.«list.__init__» ⟨[.ref S, .ref z], []⟩)
      (fun fin s' => match fin with | .done f => R (.ok f) s' | .again c' => c'.quiet = true ∧ codeAny (model prog w) A c' R s') (fun e s' => R (.error e) s') s := by
  show wpAny _ _ (do let old ← Builtin.List.listItems (.ref S); Builtin.List.listUpdate (.ref S) (fun _ => #[]); letGo old.toList.reverse; Builtin.List.listExtendWith (.ref S) (.ref z) .none) _ _ s
  refine wpAny_bind ?_
  unfold Builtin.List.listItems
  refine wpAny_bind (wpAny_seqItems hS rfl (wpAny_pure ?_))
  show wpAny _ _ (updateSeq S (fun _ => #[]) >>= fun _ => letGo (#[] : Array Value).toList.reverse >>= fun _ => Builtin.List.listExtendWith (.ref S) (.ref z) .none) _ _ s
  refine wpAny_bind (wpAny_updateSeq hS rfl ?_)
  have hS₂ := Heap.get?_update_self (Obj.mapSeq (fun _ => (#[] : Array Value))) hS rfl
  have oth : ∀ b o, b ≠ S → s.heap.get? b = some o → (s.heap.update S (Obj.mapSeq (fun _ => (#[] : Array Value)))).get? b = some o :=
    fun b o hb e => (Heap.get?_update_other _ _ (Ne.symm hb)).trans e
  refine wpAny_bind (wpAny_letGo ?_)
  refine z_extend hh D O lz lt li1 li2 hx hy hn .none _ (oth _ _ O.z hz) (st.frame O oth) hS₂ (fun h' tk acc c as hk hS' hl hG hacc => ?_)
  exact hR h' tk acc c as (fun b o hb h2 h3 h4 h5 e => hk b o hb h2 h3 h4 h5 (oth b o hb e)) hS' hl hG hacc
theorem z_call {Q : Value → Shared → Prop} (hh : A.handled = none) (D : ZipApart z TI TO i1 i2 l1 l2) {n : Nat} (hx : xs.size = n) (hy : ys.size = n) (hn : n ≤ sizeLine)
    (hz : IsZip s.heap z TI TO .none) (hTI : IsPair s.heap TI (.ref i1) (.ref i2)) {va vb : Value} (hTO : IsPair s.heap TO va vb) (h1 : s.heap.IsListIter i1 l1 0) (h2 : s.heap.IsListIter i2 l2 0) (hl1 : s.heap.IsList l1 xs) (hl2 : s.heap.IsList l2 ys)
    (hQ : ∀ h' tk acc c as, (∀ b o, b ≠ z → b ≠ TO → b ≠ i1 → b ≠ i2 → s.heap.get? b = some o → h'.get? b = some o) → h'.get? s.heap.objs.size = some { cls := .type "list", dict := none, data := .seq acc c, slots := #[] } → as.length = n → ZG xs ys s.heap.objs.size h' as →
      acc.toList = as.map Value.ref → Q (.ref s.heap.objs.size) { s with heap := h', toks := tk }) :
    wpAny (model prog w) A (call (.type "list") [.ref z]) Q E s := by
  refine callType_codes (Q₁ := fun obj s₁ => obj = .ref s.heap.objs.size ∧ s₁ = { s with heap := s.heap.push { cls := .type "list", data := .seq #[] } }) PySem.F.called_list (PySem.F.typeCall_list_1 _) PySem.F.entry_list_init
    (code_list_new _ ⟨rfl, rfl⟩) fun obj s₁ h₁ => ?_
  obtain ⟨rfl, rfl⟩ := h₁
  have hS : (s.heap.push { cls := .type "list", data := .seq #[] }).get? s.heap.objs.size = some { cls := .type "list", data := .seq #[] } := Heap.get?_push_size _ rfl
  have lz := Heap.lt_size hz
  have lti := Heap.lt_size hTI
  have lt := Heap.lt_size hTO
  obtain ⟨_, e1, _⟩ := id h1
  obtain ⟨_, e2, _⟩ := id h2
  obtain ⟨_, e3, _⟩ := id hl1
  obtain ⟨_, e4, _⟩ := id hl2
  have li1 := Heap.lt_size e1
  have li2 := Heap.lt_size e2
  have ll1 := Heap.lt_size e3
  have ll2 := Heap.lt_size e4
  have O : Off z TI TO i1 i2 l1 l2 s.heap.objs.size := ⟨Nat.ne_of_lt lz, Nat.ne_of_lt lti, Nat.ne_of_lt lt, Nat.ne_of_lt li1, Nat.ne_of_lt li2, Nat.ne_of_lt ll1, Nat.ne_of_lt ll2⟩
  refine ⟨⟨_, hS, rfl⟩, PySem.F.args_list_init_2 _ _, z_init (A := A.in1) hh D O lz lt li1 li2 hx hy hn (Heap.get?_push_of_some _ hz) ⟨Heap.get?_push_of_some _ hTI, h1.at fun o e => Heap.get?_push_of_some _ e, h2.at fun o e => Heap.get?_push_of_some _ e, hl1.at fun o e => Heap.get?_push_of_some _ e, hl2.at fun o e => Heap.get?_push_of_some _ e, .inl ⟨Heap.get?_push_of_some _ hz, _, _, Heap.get?_push_of_some _ hTO⟩⟩ hS (fun h' tk acc c as hk hS' hl hG hacc => ?_)⟩
  exact ⟨rfl, hQ h' tk acc c as (fun b o b1 b2 b3 b4 e => hk b o (Nat.ne_of_lt (Heap.lt_size e)) b1 b2 b3 b4 (Heap.get?_push_of_some _ e)) hS' hl hG hacc⟩
end
/-- the tuples at their addresses -/
def putP : Hp → List Addr → List (V × V) → Hp
  | H, a :: as, p :: ps => putP (upd H a (.tup [p.1, p.2])) as ps
  | H, _, _ => H
theorem putP_off {b : Addr} : ∀ (as : List Addr) (ps : List (V × V)) (H : Hp), b ∉ as → putP H as ps b = H b
  | [], _, _, _ => rfl
  | _ :: _, [], _, _ => rfl
  | a :: as, p :: ps, H, h => by
    show putP (upd H a (.tup [p.1, p.2])) as ps b = H b
    rw [putP_off as ps _ (fun z => h (List.mem_cons_of_mem _ z)), upd_ne (fun z => h (by rw [z]; exact List.mem_cons_self))]
/-- as many tuples as pairs, each its pair -/
abbrev Tups (H : Hp) : List Addr → List (V × V) → Prop := Paired fun t q => H t = some (.tup [q.1, q.2])
theorem putP_at : ∀ (as : List Addr) (ps : List (V × V)) (H : Hp), as.length = ps.length → as.Nodup → Tups (putP H as ps) as ps
  | [], [], _, _, _ => .nil
  | [], _ :: _, _, h, _ => by cases h
  | _ :: _, [], _, h, _ => by cases h
  | a :: as, p :: ps, H, h, hn => by
    have hn' := List.nodup_cons.mp hn
    refine .cons ?_ (putP_at as ps (upd H a (.tup [p.1, p.2])) (Nat.succ.inj h) hn'.2)
    show putP (upd H a (.tup [p.1, p.2])) as ps a = some (.tup [p.1, p.2])
    rw [putP_off as ps _ hn'.1, upd_same]
theorem paired_ix {α β : Type} {F : α → β → Prop} : ∀ {xs : List α} {ys : List β}, Paired F xs ys → ∀ {x : α}, x ∈ xs → ∃ (j : Nat) (y : β), xs[j]? = some x ∧ ys[j]? = some y ∧ F x y
  | _, _, .cons h t, x, hx => by
    rcases List.mem_cons.mp hx with e | hx
    · rw [e]
      exact ⟨0, _, rfl, rfl, h⟩
    · obtain ⟨j, y, e1, e2, e3⟩ := paired_ix t hx
      exact ⟨j + 1, y, e1, e2, e3⟩
theorem refs_vals : ∀ as : List Addr, Vals (as.map V.ref) (as.map Value.ref)
  | [] => .nil
  | _ :: as => .cons rfl (refs_vals as)
section
variable {X : Cx}
theorem z_laid {pins : List (Addr × Obj)} {σ : L2.St} {H : Hp} {s : Shared} {h' : Heap} {tk : Nat} {S : Addr} {vs us : List V} {xs ys : List Value} {acc : Array Value} {c : Nat} {as : List Addr} (I : Inv X pins σ H s) (hS0 : s.heap.objs.size ≤ S) (rx : Vals vs xs) (ry : Vals us ys) (hlen : vs.length = us.length) (hz : vs.length ≤ sizeLine)
    (hk : ∀ b o, s.heap.get? b = some o → h'.get? b = some o) (hS : h'.get? S = some { cls := .type "list", dict := none, data := .seq acc c, slots := #[] }) (hl : as.length = vs.length) (hG : ZG xs.toArray ys.toArray S h' as) (hacc : acc.toList = as.map Value.ref) :
    ∃ H' : Hp, Same H H' ∧ H S = none ∧ (∀ t ∈ as, H t = none) ∧ S ∉ as ∧ as.Nodup ∧ H' S = some (.lst (as.map V.ref)) ∧ Tups H' as (vs.zip us) ∧ Inv X pins σ H' { s with heap := h', toks := tk } := by
  have hSn : S ∉ as := fun z => Nat.lt_irrefl _ (hG.above _ z)
  have nd : as.Nodup := List.Pairwise.imp (fun {a b} (h : a < b) => Nat.ne_of_lt h) hG.rise
  have new : ∀ t ∈ as, H t = none := fun t ht => I.hok.fresh (Nat.le_trans hS0 (Nat.le_of_lt (hG.above t ht)))
  have newS : H S = none := I.hok.fresh hS0
  have lz : (vs.zip us).length = vs.length := by rw [List.length_zip]; omega
  have atP := putP_at as (vs.zip us) (upd H S (.lst (as.map V.ref))) (by omega) nd
  have off : ∀ b, b ∉ as → b ≠ S → putP (upd H S (.lst (as.map V.ref))) as (vs.zip us) b = H b := fun b h1 h2 => by rw [putP_off as _ _ h1, upd_ne h2]
  have low : ∀ b o, s.heap.get? b = some o → b ∉ as ∧ b ≠ S := fun b o e => ⟨fun z => absurd (Heap.lt_size e) (Nat.not_lt.mpr (Nat.le_trans hS0 (Nat.le_of_lt (hG.above b z)))), Nat.ne_of_lt (Nat.lt_of_lt_of_le (Heap.lt_size e) hS0)⟩
  have kp : ∀ b u, H b = some u → (putP (upd H S (.lst (as.map V.ref))) as (vs.zip us)) b = some u := fun b u e => by
    rw [off b (fun z => by rw [new b z] at e; cases e) (fun z => by rw [z, newS] at e; cases e)]
    exact e
  have eS : putP (upd H S (.lst (as.map V.ref))) as (vs.zip us) S = some (.lst (as.map V.ref)) := by rw [putP_off as _ _ hSn, upd_same]
  refine ⟨putP (upd H S (.lst (as.map V.ref))) as (vs.zip us), kp, newS, new, hSn, nd, eS, atP, ?_⟩
  refine I.call' (ch := []) rfl ⟨fun b o q _ _ _ => hk b o q, fun b o q _ _ _ => ⟨o.slots, hk b o q⟩, fun b o q n _ => ?_, fun b o q _ => ⟨o, hk b o q⟩, fun b xs q => kp b _ q, fun b o u q => kp b _ q, fun b ps q => ⟨#[], by rw [kp b _ q]; simp⟩⟩ (fun b u q => ?_) I.bare fun b z => by simp at z
  · obtain ⟨z1, z2⟩ := low b o q
    rw [off b z1 z2]
    exact n
  · by_cases hb : b ∈ as
    · obtain ⟨j, pk, e1, e2, e3⟩ := paired_ix atP hb
      rw [e3] at q
      cases q
      obtain ⟨x, y, f1, f2, f3⟩ := hG.pairs j b e1
      rw [List.getElem?_zip_eq_some] at e2
      obtain ⟨x', g1, r1⟩ := rx.get e2.1
      obtain ⟨y', g2, r2⟩ := ry.get e2.2
      have f1 : xs[j]? = some x := by simpa using f1
      have f2 : ys[j]? = some y := by simpa using f2
      rw [f1] at g1
      rw [f2] at g2
      cases g1
      cases g2
      exact ⟨by show 2 ≤ sizeLine; decide, [x, y], .cons r1 (.cons r2 .nil), ⟨_, f3, rfl, _, rfl⟩⟩
    · by_cases hb2 : b = S
      · rw [hb2] at q ⊢
        rw [eS] at q
        cases q
        refine ⟨by rw [List.length_map]; omega, acc.toList, c, by rw [hacc]; exact refs_vals as, ?_⟩
        rw [Array.toArray_toList]
        exact hS
      · rw [off b hb hb2] at q
        exact (I.hok b u q).stay (fun d v _ y => hk d v y) (fun d y => kp d _ y) fun d xs y => kp d _ y
/-- list(zip(xs, ys)) -/
def tListZip (K : PySem.W.Frag) (ta : TA) : TE := fun σ H Q => ta σ H fun vs H1 => ∃ (a b : Addr) (xs ys : List V), vs = [.ref a, .ref b] ∧ SqL K H1 a xs ∧ SqL K H1 b ys ∧ xs.length = ys.length ∧ xs.length ≤ 5000 ∧
  ∀ (H' : Hp) (p : Addr) (ts : List Addr), Same H1 H' → H1 p = none → (∀ t ∈ ts, H1 t = none) → p ∉ ts → ts.Nodup → H' p = some (.lst (ts.map V.ref)) → Tups H' ts (xs.zip ys) → Q (.ref p) H'
theorem pe_listZip {e1 e2 : Expr} {ta : TA} {p p2 pos pos2 : Pos} (hcalm : X.calm = true) (hg : Gl X "list") (hm : X.mg "list" = none) (hgz : Gl X "zip") (hmz : X.mg "zip" = none) (ha : PA X [e1, e2] ta)
    (hs : starEach [e1, e2] X.env = (false, eval e1 X.env) :: starEach [e2] X.env := by rfl) (hpl : (backTo pos2 (starEach [e2] X.env)).any (·.1) = false := by rfl) :
    PE X (.Call (.Name "list" p) [.Call (.Name "zip" p2) [e1, e2] [] pos2] [] pos) (tListZip X.K ta) := by
  refine ⟨fun pins s σ H Q I h => ?_⟩
  refine Call_ (ld_blt I hg hm PyProof.Rows.boot_list (PyProof.Rows.callWith_type1 (args_cons (Call_ (ld_blt I hgz hmz PyProof.Rows.boot_zip (PyProof.Rows.callWith_type1 (thn (ha.run pos2 pins s σ H _ I h) fun us s1 ⟨vs, H1, I1, r1, q1⟩ => ?_) hs hpl))) (by rfl)) (by rfl)))
  obtain ⟨a, b, xs, ys, rfl, sa, sb, hl, hk, q⟩ := q1
  obtain ⟨u1, u2, rfl, ra, rb⟩ := vals2 r1
  cases (show u1 = Value.ref a from ra)
  cases (show u2 = Value.ref b from rb)
  obtain ⟨its, rv, p1, _⟩ := I1.list sa
  obtain ⟨its2, rv2, p2', _⟩ := I1.list sb
  have n1 := rv.length
  have n2 := rv2.length
  refine call_zip_2 p1.isList p2'.isList fun h1 hz hTI hTO i1 i2 hsz hk1 => args_nil ?_
  have D := PySem.W.ktu_apart s1.heap.objs.size a b p1.lt p2'.lt
  refine z_call (s := { s1 with heap := h1 }) (n := xs.length) (I1.ok.hd hcalm) D (by rw [List.size_toArray]; omega) (by rw [List.size_toArray]; omega) (Nat.le_trans hk (by decide)) hz hTI hTO i1 i2 (p1.isList.at fun o e => hk1 _ o e) (p2'.isList.at fun o e => hk1 _ o e) fun h' tk acc c as hkp hS hla hG hacc => ?_
  have k : ∀ c o, s1.heap.get? c = some o → h'.get? c = some o := fun c o e => by
    have lt := Heap.lt_size e
    exact hkp c o (Nat.ne_of_lt (Nat.lt_of_lt_of_le lt (Nat.le_add_right _ _))) (Nat.ne_of_lt (Nat.lt_of_lt_of_le lt (Nat.le_add_right _ _))) (Nat.ne_of_lt lt) (Nat.ne_of_lt (Nat.lt_of_lt_of_le lt (Nat.le_add_right _ _))) (hk1 c o e)
  obtain ⟨H', t1, t2, t3, t4, t5, t6, t7, J⟩ := z_laid (tk := tk) I1 (S := h1.objs.size) (by omega) rv rv2 hl (Nat.le_trans hk (by decide)) k hS hla hG hacc
  exact ⟨.ref _, H', J, rfl, q H' _ as t1 t2 t3 t4 t5 t6 t7⟩
end
end Lz
/-! y = {k: v for .. in ..}, y a local name of a def -/
namespace Ds
open PySem PySem.Spec PyProof.Rows L2
section
variable {X : Cx}
theorem ps_setDc {i : Nat} {y : Str} {py : Pos} {kx vx tg iter : Expr} {ifs : List Expr} {scope : Scope} {own : List (Str × Nat)} {pos spos : Pos} {wi : TI} {g : TG} {tt : TT} {tk tv : TE} (hc : X.calm = true) (hN : X.N.Nodup) (hy : X.N[i]? = some y) (hyl : X.env.scope.names.lookup y = some .local)
    (hsw : swapsWith (.DictComp kx vx [⟨tg, iter, ifs, 0⟩] scope pos) (some (.Name y py)) spos.line X.env = pure true) (hi : PI X tg iter wi) (ok : BlkOk X.N X.env.scope scope own)
    (hg : ∀ (s : Shared) (H : Hp) (C : Addr) (cl : List (Str × Addr)) (fp : List Addr), PG (X.blk s H scope (compEnvC scope cl C X.env) fp) tg g) (ht : ∀ (s : Shared) (H : Hp) (C : Addr) (cl : List (Str × Addr)) (fp : List Addr), PTs (X.blk s H scope (compEnvC scope cl C X.env) fp) ifs tt)
    (hk : ∀ (s : Shared) (H : Hp) (C : Addr) (cl : List (Str × Addr)) (fp : List Addr), PE (X.blk s H scope (compEnvC scope cl C X.env) fp) kx tk)
    (he : ∀ (s : Shared) (H : Hp) (C : Addr) (cl : List (Str × Addr)) (fp : List Addr), PE (X.blk s H scope (compEnvC scope cl C X.env) fp) vx tv) (hs : ∀ x, foldedSetIterable iter X.env x = pure x := by intro _; rfl) :
    PS X (.Assign [.Name y py] (.DictComp kx vx [⟨tg, iter, ifs, 0⟩] scope pos) spos) (tAsg (tDc wi g tt tk tv (own.map (·.2))) (gName i)) := by
  refine ⟨fun pins s σ H D I h => ?_⟩
  rw [exec_Assign_Name_used _ _ _ _ hsw]
  refine wpAny_bind (wpAny_standAt (wpAny_bind ?_))
  show wpAny _ X.A (do let _ ← comprehension (.DictComp kx vx [⟨tg, iter, ifs, 0⟩] scope pos) scope X.env (firstIterPos [⟨tg, iter, ifs, 0⟩] pos) newDict false (eval iter X.env) (some (assign (.Name y py) X.env))) _ _ s
  have h : tDc wi g tt tk tv (own.map (·.2)) σ H (fun x H1 => gName i x σ H1 D.nx) := h
  refine wpAny_bind (thn (dc_core (Qf := fun _ s' => SP X pins D .next s') hc hN I hi ok hg ht hk he hs h fun L C s' m H' I' q hn f => ?_) fun _ s' hq => wpAny_pure (wpAny_pure hq))
  show wpAny _ _ (assign (.Name y py) X.env (.ref L)) _ _ _
  refine wpAny_assign_Name (store_ok2 (v := V.ref L) I' hN hy (.inl hyl) rfl (fun s2 I2 ⟨a, sb, ha⟩ => ?_) (.inr hyl))
  obtain ⟨f0, f1, f2, f3, f4, f5⟩ := f
  have haC : C ≠ a := by
    rcases ha with z | z
    · rw [z]; exact f1
    · exact fun e => f4 y a z e.symm
  refine ⟨m, hn.sameBut sb haC, fun h3 sb3 => ?_⟩
  exact ⟨_, H', I2.turned (t' := s2.toks) (fun b o hb e => (sb3.2 b hb).trans e) f0 f1 f3 f4 f5, q⟩
theorem sw_trueD {kx vx : Expr} {gs : List Comprehension} {scope : Scope} {pos py : Pos} {y : Str} {l : Nat} {env : Env} (hk : env.scope.kind = .function) (hy : env.scope.names.lookup y = some .local) (hl : (py.line == pos.line) = true)
    (ha : (scope.names.any fun (n, k) => n == y && (k == .local || k == .cell)) = false) : swapsWith (.DictComp kx vx gs scope pos) (some (.Name y py)) l env = pure true := by
  have ky : env.kindOf y = some .local := hy
  have hb : env.blockKind = .function := by unfold Env.blockKind; rw [hk]; rfl
  unfold swapsWith
  simp only [hb, ky, ha, Expr.pos, hl]
  rfl
end
end Ds
/-! t[1::-1] of a tuple of four: a new tuple of its second and its first thing -/
namespace Rt
open PySem PySem.Spec PyProof.Rows L2 HT
section
variable {prog : Program} {w : World} {A : Around} {E : Value → Shared → Prop} {s : Shared}
theorem applied {sl : Addr} {vl vu vs : Value} {Q : Int × Int × Nat → Shared → Prop} (hs : s.heap.IsSliceOf sl vl vu vs) (pl : IsPart vl (some 1)) (pu : IsPart vu none) (ps : IsPart vs (some (-1)))
    (h : Q (1, -1, 2) s) : wpAny (model prog w) A (Builtin.Slice.sliceApplied (.ref sl) (pure 4)) Q E s := by
  obtain ⟨os, hos, hcs, hds⟩ := id hs
  unfold Builtin.Slice.sliceApplied Builtin.Slice.sliceFields
  refine wpAny_bind (wpAny_bind (wpAny_field hos hds (x := vl) rfl (wpAny_bind (wpAny_field hos hds (x := vu) rfl (wpAny_bind (wpAny_field hos hds (x := vs) rfl (wpAny_pure ?_)))))))
  refine wpAny_bind (slicePart_ ps ?_)
  show wpAny _ _ (if ((-1 : Int) == 0) = true then _ else _) _ _ s
  rw [if_neg (by decide)]
  refine wpAny_bind (slicePart_ pl (wpAny_bind (slicePart_ pu (wpAny_bind (wpAny_pure ?_)))))
  exact wpAny_pure h
theorem item4 {t sl : Addr} {x0 x1 x2 x3 : Value} {vl vu vs : Value} {Q : Value → Shared → Prop} (ht : IsTup s.heap t #[x0, x1, x2, x3]) (hs : s.heap.IsSliceOf sl vl vu vs) (pl : IsPart vl (some 1)) (pu : IsPart vu none) (ps : IsPart vs (some (-1)))
    (h : Q (.ref s.heap.objs.size) { s with heap := s.heap.push { cls := .type "tuple", data := .seq #[x1, x0] } }) : wpAny (model prog w) A (getItem (.ref t) (.ref sl)) Q E s := by
  have htake : sizeOk (.seq #[x1, x0]) := by
    show 2 ≤ sizeLine
    decide
  obtain ⟨os, hos, hcs, hds⟩ := id hs
  have hTs : s.TypeIs (.ref sl) "slice" := ⟨os, hos, hcs⟩
  unfold getItem
  try with_reducible refine wpAny_holding ?_
  first | refine wpAny_bind (wpAny_pure ?_) | skip
  refine wpAny_bind (wpAny_sequenceKey ht.typeIs (by decide) ?_)
  refine wpAny_bind (wpAny_callSpecial?_slot (name := Str.ofString "__getitem__") ht.typeIs PyProof.Rows.slot_tuple_getitem
    (wpAny_call_entry PyProof.Rows.slot_tuple_getitem ht.typeIs entry_tuple_getitem ?_ (args_tuple_getitem _ _)))
  show wpAny _ _ (Builtin.Tuple.tupleItemsOf (.ref t) >>= _) _ _ s
  refine wpAny_bind (tupleItemsOf_ ht ?_)
  refine wpAny_bind (wpAny_typeOf hTs ?_)
  rw [if_pos (by decide)]
  refine wpAny_bind (applied hs pl pu ps ?_)
  show wpAny _ _ (if ((1 : Int) == 0 && (-1 : Int) == 1 && (2 : Nat) == 4) = true then _ else _) _ _ s
  rw [if_neg (by decide)]
  first
    | exact wpAny_bind (m := Builtin.Tuple.tupleExact _) (wpAny_newObj_type (wpAny_pure ⟨_, rfl, wpAny_pure h⟩) htake)
    | exact wpAny_bind (m := Builtin.Tuple.tupleExact _) (wpAny_newObj_type (wpAny_bind (wpAny_pure (wpAny_pure ⟨_, rfl, wpAny_pure h⟩))) htake)
    | exact wpAny_bind (wpAny_bind (m := Builtin.Tuple.tupleExact _) (wpAny_newObj_type (wpAny_pure (wpAny_pure ⟨_, rfl, wpAny_pure h⟩)) htake))
    | exact wpAny_bind (wpAny_bind (m := Builtin.Tuple.tupleExact _) (wpAny_newObj_type (wpAny_pure ⟨_, rfl, wpAny_pure h⟩) htake))
end
section
variable {X : Cx}
def tRev2 (K : PySem.W.Frag) (te : TE) : TE := fun σ H Q => te σ H fun x H1 => ∃ a x0 x1 x2 x3, x = .ref a ∧ SqT K H1 a [x0, x1, x2, x3] ∧ ∀ p, H1 p = none → Q (.ref p) (upd H1 p (.tup [x1, x0]))
theorem pe_rev2 {e : Expr} {te : TE} {k0 k : Nat} {p0 p1 p2 p3 pos : Pos} (he : PE X e te) : PE X (.Subscript e (.Slice (some (.Constant (.int 1) k0 p0)) none (some (.UnaryOp .USub (.Constant (.int 1) k p1) p2)) p3) pos) (tRev2 X.K te) := by
  refine ⟨fun pins s σ H Q I h => ?_⟩
  refine Subscript_ (thn (he.run pins s σ H _ I h) fun v s1 ⟨x, H1, I1, r1, q1⟩ => ?_)
  obtain ⟨a, x0, x1, x2, x3, ex, hx, q⟩ := q1
  subst ex
  cases r1
  have hlo : PO X (some (.Constant (.int 1) k0 p0)) (tPart (tC (.int 1))) := po_some pe_int
  have hst : PO X (some (.UnaryOp .USub (.Constant (.int 1) k p1) p2)) (tPart (tUn (rU fun i => .int (-i)) (tC (.int 1)))) := po_some (pe_un un_neg pe_int)
  refine wpAny_Slice (thn (hlo.run pins s1 σ H1 (fun o H2 => o = some 1 ∧ H2 = H1) I1 ⟨1, rfl, rfl, rfl⟩) fun vl s2 ⟨l, H2, I2, pl, el, e2⟩ => ?_)
  subst el e2
  refine thn (po_none.run pins s2 σ H2 (fun o H3 => o = none ∧ H3 = H2) I2 ⟨rfl, rfl⟩) fun vu s3 ⟨u, H3, I3, pu, eu, e3⟩ => ?_
  subst eu e3
  refine thn (hst.run pins s3 σ H3 (fun o H4 => o = some (-1) ∧ H4 = H3) I3 ⟨1, rfl, -1, rfl, rfl, rfl⟩) fun vs s4 ⟨o, H4, I4, ps, eo, e4⟩ => ?_
  subst eo e4
  have I5 : Inv X pins σ H4 { s4 with heap := s4.heap.push { cls := .type "slice", data := .fields #[vl, vu, vs] } } := I4.kept (t' := s4.toks) fun b ob q => Heap.get?_push_of_some _ q
  obtain ⟨its, r, ht, hz⟩ := I5.tuple hx
  show wpAny (model X.prog X.w) X.A (subscriptTail e (.Slice (some (.Constant (.int 1) k0 p0)) none (some (.UnaryOp .USub (.Constant (.int 1) k p1) p2)) p3) (.ref a) (.ref s4.heap.objs.size)) (EP X pins σ Q) X.xe { s4 with heap := s4.heap.push { cls := .type "slice", data := .fields #[vl, vu, vs] } }
  refine tail_any (ops := [.ref a, .ref s4.heap.objs.size]) ht.typeIs (PyProof.Rows.slot_tuple_getitem.lookup) ?_ (by with_unfolding_all rfl)
  cases r with
  | cons r0 r =>
    cases r with
    | cons r1 r =>
      cases r with
      | cons r2 r =>
        cases r with
        | cons r3 r =>
          cases r
          refine item4 ht (Heap.IsSliceOf.new _ vl vu vs) pl pu ps ?_
          refine ⟨.ref _, _, I5.laid (t' := s4.toks) (o := .tup [x1, x0]) (fun b ob q => Heap.get?_push_of_some _ q) (Nat.le_refl _) ?_, rfl, q _ (I5.hok.fresh (Nat.le_refl _))⟩
          exact ⟨by show 2 ≤ sizeLine; decide, _, .cons r1 (.cons r0 .nil), IsTup.new _ _⟩
end
end Rt
/-! sets of texts: their members as a list; a comprehension of two clauses; sorted of it -/
namespace Ss
open PySem PySem.Spec PyProof.Rows L2
def kOf (e : Int × Value) : Str := match e.2 with
  | .str k _ => k
  | _ => ⟨#[]⟩
def Gd (w : World) (e : Int × Value) : Prop := ∃ k tk, e.2 = Value.str k tk ∧ e.1 = hashStr w k
def addL (L : List Str) (k : Str) : List Str := if k ∈ L then L else k :: L
theorem mem_addL {L : List Str} {k x : Str} : x ∈ addL L k ↔ x = k ∨ x ∈ L := by
  unfold addL
  split
  · exact ⟨.inr, fun z => z.elim (fun e => by rw [e]; assumption) id⟩
  · exact List.mem_cons
theorem nd_addL {L : List Str} {k : Str} (h : L.Nodup) : (addL L k).Nodup := by
  unfold addL
  split
  · exact h
  · exact List.nodup_cons.mpr ⟨by assumption, h⟩
abbrev Led (w : World) (t : SetTable) : Prop := w.params.followText "set-order" = true ∨ t.led = true
/-- the set of texts at a, its members the list L -/
def SetS (w : World) (h : Heap) (a : Addr) (L : List Str) : Prop := ∃ o es ep t, h.get? a = some o ∧ o.ExactSet ∧ o.data = .set es ep t ∧ (∀ e ∈ es.toList, Gd w e) ∧ (es.toList.map kOf).Perm L ∧ L.Nodup ∧ es.size < scanBound ∧ t.fits es.size = true ∧ Ris t.place.toList ∧ Led w t
section
variable {P : Program} {w : World} {A : Around} {E : Value → Shared → Prop} {s : Shared} {a : Addr} {L : List Str} {h h' : Heap}
theorem isS (k : Str) (u : Tok) : (PySem.strKind P w).is k (.str k u) = true := by show Value.isStrOf k (.str k u) = true; simp [Value.isStrOf]
theorem SetS.at (R : SetS w h a L) (k : ∀ o, h.get? a = some o → h'.get? a = some o) : SetS w h' a L := let ⟨o, es, ep, t, ho, r⟩ := R; ⟨o, es, ep, t, k o ho, r⟩
theorem gd_elems {l : List (Int × Value)} (g : ∀ e ∈ l, Gd w e) : ElemsOf (PySem.strKind P w) l := fun e he => let ⟨k, tk, h1, h2⟩ := g e he; ⟨⟨k, h1 ▸ isS k tk, h2⟩, by rw [h1]; rfl⟩
theorem gd_is {e : Int × Value} (g : Gd w e) (k : Str) : (PySem.strKind P w).is k e.2 = true ↔ kOf e = k := by
  obtain ⟨k0, tk, h1, -⟩ := g
  have ek : kOf e = k0 := by unfold kOf; rw [h1]
  rw [ek, h1]
  constructor
  · intro z
    obtain ⟨t, et⟩ := Value.isStrOf_shape (x := k) (v := .str k0 tk) z
    injection et
  · intro z
    rw [z]
    exact isS k tk
theorem gd_mem {l : List (Int × Value)} (g : ∀ e ∈ l, Gd w e) (k : Str) : k ∈ l.map kOf ↔ ∃ e ∈ l, (PySem.strKind P w).is k e.2 = true :=
  ⟨fun z => let ⟨e, he, q⟩ := List.mem_map.mp z; ⟨e, he, (gd_is (g e he) k).2 q⟩, fun ⟨e, he, q⟩ => List.mem_map.mpr ⟨e, he, (gd_is (g e he) k).1 q⟩⟩
theorem SetS.len (R : SetS w h a L) : ∀ {o es ep t}, h.get? a = some o → o.data = .set es ep t → es.size = L.length := by
  obtain ⟨o', es', ep', t', ho', _, hd', _, pm, _⟩ := R
  intro o es ep t ho hd
  rw [ho'] at ho
  cases ho
  rw [hd'] at hd
  cases hd
  have z := pm.length_eq
  rw [List.length_map, Array.length_toList] at z
  exact z
theorem SetS.setOf (R : SetS w h a L) : h.SetOf (PySem.strKind P w) a (fun k => decide (k ∈ L)) L.length := by
  have hlen := @SetS.len _ _ _ _ R
  obtain ⟨o, es, ep, t, ho, hx, hd, g, pm, nd, hb, hf, -⟩ := R
  exact ⟨o, es, ep, t, ho, hx, hd, gd_elems g, fun k => by rw [decide_eq_true_eq, ← pm.mem_iff]; exact gd_mem g k, hb, hf, hlen ho hd⟩
theorem putS {o : Obj} {es es' : Array (Int × Value)} {ep : Nat} {t t' : SetTable} (ho : h.get? a = some o) (hd : o.data = .set es ep t) : (h.update a (Obj.putSet es' t')).get? a = some { o with data := .set es' (ep + 1) t' } := by
  have z := Heap.get?_update_self (Obj.putSet es' t') ho (by rw [putSet_of es' t' hd]; rfl)
  rwa [putSet_of es' t' hd] at z
/-- the store behind an add, with the table laid anew where it is too full -/
theorem tailS {g : Bool → Sem Unit} (hg : ∀ (b : Bool) (s1 : Shared) (Q1 : Unit → Shared → Prop), Q1 () s1 → wpAny (model P w) A (g b) Q1 E s1) {o : Obj} {es : Array (Int × Value)} {ep : Nat} {t : SetTable} (ho : s.heap.get? a = some o) (hex : o.ExactSet) (hd : o.data = .set es ep t)
    {fs : Array (Int × Value)} {u : SetTable} {M : List Str} (gf : ∀ e ∈ fs.toList, Gd w e) (pf : (fs.toList.map kOf).Perm M) (nf : M.Nodup) (bf : fs.size < scanBound) (ff : u.fits fs.size = true) (rf : Ris u.place.toList) (lf : Led w u) {dm : Bool} {R : Option Bool → Shared → Prop}
    (hR : ∀ h', Heap.SameBut a s.heap h' → SetS w h' a M → R (some true) { s with heap := h' }) :
    wpAny (model P w) A (do
        storeSet a fs u
        if (!dm && u.tooFull) = true then do
            g (relayAll u fs (SetTable.grown fs.size)).2.2
            storeSet a (relayAll u fs (SetTable.grown fs.size)).1 (relayAll u fs (SetTable.grown fs.size)).2.1
            pure (some true)
          else pure (some true)) R E s := by
  refine wpAny_bind (wpAny_storeSet_of ho hd ?_ (fits_of_scanBound bf))
  have h1 := putS (es' := fs) (t' := u) ho hd
  have b1 := Heap.SameBut.update s.heap a (Obj.putSet fs u)
  split
  · have pm := relayAll_perm u fs (SetTable.grown fs.size)
    have f3 := relayAll_fits u fs (SetTable.grown fs.size)
    have r3 := relayAll_ris u fs (SetTable.grown fs.size)
    have l3 := relayAll_led u fs (SetTable.grown fs.size)
    generalize relayAll u fs (SetTable.grown fs.size) = Z at pm f3 r3 l3 ⊢
    obtain ⟨gs, v, gave⟩ := Z
    dsimp only at pm f3 r3 l3 ⊢
    have hz : gs.size = fs.size := by
      have z := pm.length_eq
      rwa [Array.length_toList, Array.length_toList] at z
    have bg : gs.size < scanBound := hz ▸ bf
    refine wpAny_bind (hg _ _ _ (wpAny_bind (wpAny_storeSet_of h1 rfl ?_ (fits_of_scanBound bg))))
    have h2 := putS (es' := gs) (t' := v) h1 rfl
    exact wpAny_pure (hR _ (b1.trans (Heap.SameBut.update _ a _)) ⟨_, gs, _, v, h2, hex, rfl, fun e he => gf e (pm.mem_iff.mp he), (pm.map kOf).trans pf, nf, bg, f3, r3, lf.imp id fun z => l3.trans z⟩)
  · exact wpAny_pure (hR _ b1 ⟨_, fs, _, u, h1, hex, rfl, gf, pf, nf, bf, ff, rf, lf⟩)
theorem addS_hashed {k : Str} {tk : Tok} {Q : Bool → Shared → Prop} (R : SetS w s.heap a L) (room : L.length + 1 < scanBound)
    (hQ : ∀ h' b, Heap.SameBut a s.heap h' → SetS w h' a (addL L k) → Q b { s with heap := h' }) : wpAny (model P w) A (setAddHashed a (.str k tk) ((PySem.strKind P w).hash k)) Q E s := by
  have hlen := @SetS.len _ _ _ _ R
  obtain ⟨o, es, ep, t, ho, hex, hd, g, pmL, nd, hb, hf, hr, hl⟩ := R
  have hn : es.size = L.length := hlen ho hd
  have hsc : (Value.str k tk).scannable = true := rfl
  have hel : ElemsOf (PySem.strKind P w) es.toList := gd_elems g
  unfold setAddHashed setAddHashedIn
  refine wpAny_holding (wpAny_bind (wpAny_setState_of ho hd hf ?_))
  dsimp only
  rw [byScan_of hsc hb hel]
  simp only [↓reduceIte]
  unfold setAddByScan
  refine wpAny_bind (wpAny_bind (wpAny_rule (wpAny_bind (wpAny_setScan_of (isS k tk) ho hd hf hel ?_))))
  cases hfi : List.findIdx? (fun e => (PySem.strKind P w).is k e.2) es.toList with
  | some j =>
    dsimp only
    obtain ⟨hj, pj, -⟩ := List.findIdx?_eq_some_iff_getElem.mp hfi
    have hk : k ∈ L := pmL.mem_iff.mp ((gd_mem (P := P) g k).2 ⟨es.toList[j], List.getElem_mem hj, pj⟩)
    have eL : addL L k = L := by unfold addL; rw [if_pos hk]
    exact wpAny_pure (wpAny_pure (hQ s.heap _ (Heap.SameBut.refl a s.heap) ⟨o, es, ep, t, ho, hex, hd, g, by rw [eL]; exact pmL, nd_addL nd, hb, hf, hr, hl⟩))
  | none =>
    dsimp only
    have hk : k ∉ L := fun z => by
      obtain ⟨e, he, q⟩ := (gd_mem (P := P) g k).1 (pmL.mem_iff.mpr z)
      have c := List.findIdx?_eq_none_iff.mp hfi e he
      rw [q] at c
      cases c
    have eL : addL L k = k :: L := by unfold addL; rw [if_neg hk]
    have pm := layNew_perm t es ((PySem.strKind P w).hash k) (.str k tk)
    have f1 := layNew_fits t es ((PySem.strKind P w).hash k) (.str k tk)
    have r1 := layNew_ris t es ((PySem.strKind P w).hash k) (.str k tk) hr
    have l1 := layNew_led t es ((PySem.strKind P w).hash k) (.str k tk)
    generalize layNew t es ((PySem.strKind P w).hash k) (.str k tk) = Z at pm f1 r1 l1 ⊢
    obtain ⟨fs, u, dm, gave⟩ := Z
    dsimp only at pm f1 r1 l1 ⊢
    rw [Array.toList_push] at pm
    have pc : fs.toList.Perm (((PySem.strKind P w).hash k, Value.str k tk) :: es.toList) := pm.trans (List.perm_append_singleton _ _)
    have pf : (fs.toList.map kOf).Perm (addL L k) := by rw [eL]; exact (pc.map kOf).trans (pmL.cons k)
    have gf : ∀ e ∈ fs.toList, Gd w e := fun e he => (List.mem_cons.mp (pc.mem_iff.mp he)).elim (fun z => z ▸ ⟨k, tk, rfl, rfl⟩) (g e)
    have hz : fs.size = L.length + 1 := by rw [← Array.length_toList, pc.length_eq, List.length_cons, Array.length_toList, hn]
    have bf : fs.size < scanBound := hz ▸ room
    have lf : Led w u := hl.imp id fun z => l1.trans z
    have gw : ∀ (b : Bool) (s1 : Shared) (Q1 : Unit → Shared → Prop), Q1 () s1 → wpAny (model P w) A (match b with | true => rule "set.scan.the-table-gave-way" | false => pure ()) Q1 E s1 :=
      fun b s1 Q1 z => by cases b <;> first | exact wpAny_pure z | exact wpAny_rule z
    refine wpAny_bind (gw _ _ _ ?_)
    split
    · refine wpAny_bind ?_
      rw [hashByValue_scannable 8 hsc]
      refine wpAny_pure ?_
      refine tailS ?_ ho hex hd gf pf (nd_addL nd) bf ?_ ?_ ?_ fun h' sb r => by dsimp only; exact wpAny_pure (hQ h' _ sb r)
      · intro b s1 Q1 z; cases b <;> first | exact wpAny_pure z | exact wpAny_rule z
      · first | (split <;> first | exact f1 | exact SetTable.fits_plain_off f1) | exact f1
      · first | (split <;> exact r1) | exact r1
      · first | (split <;> exact lf) | exact lf
    · refine wpAny_bind (wpAny_pure ?_)
      simp only [↓reduceIte]
      refine tailS ?_ ho hex hd gf pf (nd_addL nd) bf f1 r1 lf ?_
      · intro b s1 Q1 z; cases b <;> first | exact wpAny_pure z | exact wpAny_rule z
      · intro h' sb r; dsimp only; exact wpAny_pure (hQ h' _ sb r)
theorem addS {k : Str} {tk : Tok} {Q : Value → Shared → Prop} (R : SetS w s.heap a L) (room : L.length + 1 < scanBound)
    (hQ : ∀ h', Heap.SameBut a s.heap h' → SetS w h' a (addL L k) → Q .none { s with heap := h', toks := s.toks + 1 }) : wpAny (model P w) A (call (.builtin "set.add") [.ref a, .str k tk]) Q E s := by
  have hS : s.heap.SetOf (PySem.strKind P w) a (fun k => decide (k ∈ L)) L.length := R.setOf
  refine wpAny_call_entry F.slot_set_add hS.typeIs F.entry_set_add ?_ (F.args_set_add_2 _ _)
  unfold Builtin.«set.add» Builtin.Frozenset.oneOther
  simp only [List.isEmpty_nil, bind_assoc]
  unfold Builtin.Frozenset.addrOf setAdd
  refine wpAny_bind (wpAny_pure ?_)
  try dsimp only
  refine wpAny_bind (wpAny_pure ?_)
  try dsimp only
  refine wpAny_bind (wpAny_holding (wpAny_bind ((PySem.strKind P w).pyHash (isS k tk) ?_)))
  refine addS_hashed (s := { s with toks := s.toks + 1 }) R room fun h' b sb r => ?_
  show wpAny _ _ (ret Value.none) _ _ _
  exact wpAny_pure ⟨_, rfl, hQ h' sb r⟩
end
/-! a comprehension of two clauses -/
abbrev SC2 (elt t0 i0 t1 i1 : Expr) (f0 f1 : List Expr) (sc : Scope) (pos : Pos) : Expr := .SetComp elt [⟨t0, i0, f0, 0⟩, ⟨t1, i1, f1, 0⟩] sc pos
abbrev Tests (prog : Program) (w : World) (A : Around) (fs : List Expr) (env : Env) (Q : Bool → Shared → Prop) (E : Value → Shared → Prop) (s : Shared) : Prop :=
  wpAny (model prog w) A (forIn fs true fun c r => if r = true then do let ok ← isTrue c env (eval c env); pure (ForInStep.yield ok) else pure (ForInStep.yield r)) Q E s
section
variable {prog : Program} {w : World} {A : Around} {R : Result → Shared → Prop} {s : Shared} {elt t0 i0 t1 i1 : Expr} {f0 f1 : List Expr} {sc : Scope} {pos : Pos} {it acc : Value} {env : Env}
theorem turnOut : compTurn (SC2 elt t0 i0 t1 i1 f0 f1 sc pos) 0 it acc env = (do
      standAt i0.pos
      match ← pyNext it with
      | none => pure (.done .next)
      | some v =>
        letOwnedTupleGo t0 it v
        assign t0 env v
        let mut ok := true
        for c in f0 do
          if ok then ok ← isTrue c env (eval c env)
        if ok then
          let x ← eval i1 env
          standAt i1.pos
          let x ← foldedSetIterable i1 env x
          let _ ← runOwn (.compStart (SC2 elt t0 i0 t1 i1 f0 f1 sc pos) 1 (← holding [x] (pyIter x)) acc env) env
        again (.compLoop (SC2 elt t0 i0 t1 i1 f0 f1 sc pos) 0 it acc env)) := by rfl
theorem turnIn : compTurn (SC2 elt t0 i0 t1 i1 f0 f1 sc pos) 1 it acc env = (do
      standAt i1.pos
      match ← pyNext it with
      | none => pure (.done .next)
      | some v =>
        letOwnedTupleGo t1 it v
        assign t1 env v
        let mut ok := true
        for c in f1 do
          if ok then ok ← isTrue c env (eval c env)
        if ok then
          (do let v ← eval elt env; standAt elt.pos; let _ ← call (.builtin "set.add") [acc, v])
        again (.compLoop (SC2 elt t0 i0 t1 i1 f0 f1 sc pos) 1 it acc env)) := by rfl
abbrev Er (prog : Program) (w : World) (A : Around) (env : Env) (R : Result → Shared → Prop) : Value → Shared → Prop := notedBy (model prog w) A env fun e s' => R (.error e) s'
theorem loopOut (hs : ∀ x, foldedSetIterable i1 env x = pure x) (I : Nat → Shared → Prop)
    (turn : ∀ n s, I n s → wpAny (model prog w) A (pyNext it) (fun r s1 => match r with
      | none => R (.ok .next) s1
      | some v => wpAny (model prog w) A (letOwnedTupleGo t0 it v) (fun _ s2 => wpAny (model prog w) A (assign t0 env v) (fun _ s3 => Tests prog w A f0 env (fun ok s4 =>
            if ok = true then wpAny (model prog w) A (eval i1 env) (fun x s5 => wpAny (model prog w) A (pyIter x) (fun it1 s6 => codeAny (model prog w) A (.compStart (SC2 elt t0 i0 t1 i1 f0 f1 sc pos) 1 it1 acc env) (fun r s' => match r with
                | .ok _ => ∃ m, m < n ∧ I m s'
                | .error _ => False) s6) (Er prog w A env R) s5) (Er prog w A env R) s4
            else ∃ m, m < n ∧ I m s4) (Er prog w A env R) s3) (Er prog w A env R) s2) (Er prog w A env R) s1) (Er prog w A env R) s) (n : Nat) (h : I n s) :
    codeAny (model prog w) A (.compLoop (SC2 elt t0 i0 t1 i1 f0 f1 sc pos) 0 it acc env) R s := by
  refine codeAny_loop rfl I (fun n s hI => ?_) n h
  show wpAny _ A ((compTurn (SC2 elt t0 i0 t1 i1 f0 f1 sc pos) 0 it acc env).onRaise (fun x => do noteFrame x env; theTreesLotGoes x)) _ _ s
  refine wpAny_noted ?_
  rw [turnOut]
  refine wpAny_bind (wpAny_standAt (wpAny_bind (wpAny_mono (turn n s hI) (fun r s1 h1 => ?_) fun _ _ z => z)))
  cases r with
  | none => exact wpAny_pure h1
  | some v =>
    refine wpAny_bind (wpAny_mono h1 (fun _ s2 h2 => wpAny_bind (wpAny_mono h2 (fun _ s3 h3 => wpAny_bind (wpAny_mono h3 (fun ok s4 h4 => ?_) fun _ _ z => z)) fun _ _ z => z)) fun _ _ z => z)
    cases ok with
    | false => exact wpAny_pure ⟨rfl, h4⟩
    | true =>
      refine wpAny_bind (wpAny_mono h4 (fun x s5 h5 => wpAny_bind (wpAny_standAt (wpAny_bind (wpAny_of_eq (hs x) (wpAny_bind (wpAny_holding (wpAny_mono h5 (fun it1 s6 h6 => ?_) fun _ _ z => z))))))) fun _ _ z => z)
      refine wpAny_bind (wpAny_runOwn ?_)
      rw [Around.mark_none]
      refine codeAny_mono h6 fun r s' hr => ?_
      cases r with
      | ok f => first | exact wpAny_pure ⟨rfl, hr⟩ | exact wpAny_bind (wpAny_pure (wpAny_pure ⟨rfl, hr⟩))
      | error e => exact hr.elim
theorem loopIn (I : Nat → Shared → Prop)
    (turn : ∀ n s, I n s → wpAny (model prog w) A (pyNext it) (fun r s1 => match r with
      | none => R (.ok .next) s1
      | some v => wpAny (model prog w) A (letOwnedTupleGo t1 it v) (fun _ s2 => wpAny (model prog w) A (assign t1 env v) (fun _ s3 => Tests prog w A f1 env (fun ok s4 =>
            if ok = true then wpAny (model prog w) A (eval elt env) (fun x s5 => wpAny (model prog w) A (call (.builtin "set.add") [acc, x]) (fun _ s6 => ∃ m, m < n ∧ I m s6) (Er prog w A env R) s5) (Er prog w A env R) s4
            else ∃ m, m < n ∧ I m s4) (Er prog w A env R) s3) (Er prog w A env R) s2) (Er prog w A env R) s1) (Er prog w A env R) s) (n : Nat) (h : I n s) :
    codeAny (model prog w) A (.compLoop (SC2 elt t0 i0 t1 i1 f0 f1 sc pos) 1 it acc env) R s := by
  refine codeAny_loop rfl I (fun n s hI => ?_) n h
  show wpAny _ A ((compTurn (SC2 elt t0 i0 t1 i1 f0 f1 sc pos) 1 it acc env).onRaise (fun x => do noteFrame x env; theTreesLotGoes x)) _ _ s
  refine wpAny_noted ?_
  rw [turnIn]
  refine wpAny_bind (wpAny_standAt (wpAny_bind (wpAny_mono (turn n s hI) (fun r s1 h1 => ?_) fun _ _ z => z)))
  cases r with
  | none => exact wpAny_pure h1
  | some v =>
    refine wpAny_bind (wpAny_mono h1 (fun _ s2 h2 => wpAny_bind (wpAny_mono h2 (fun _ s3 h3 => wpAny_bind (wpAny_mono h3 (fun ok s4 h4 => ?_) fun _ _ z => z)) fun _ _ z => z)) fun _ _ z => z)
    cases ok with
    | false => exact wpAny_pure ⟨rfl, h4⟩
    | true => exact wpAny_bind (wpAny_bind (wpAny_mono h4 (fun x s5 h5 => wpAny_bind (wpAny_standAt (wpAny_bind (wpAny_mono h5 (fun _ s6 h6 => wpAny_pure (wpAny_pure ⟨rfl, h6⟩)) fun _ _ z => z)))) fun _ _ z => z))
theorem startIn (h0 : codeAny (model prog w) A (.compLoop (SC2 elt t0 i0 t1 i1 f0 f1 sc pos) 1 it acc env) R s)
    (h : wpAny (model prog w) A (pyIter it) (fun it' s' => codeAny (model prog w) A (.compLoop (SC2 elt t0 i0 t1 i1 f0 f1 sc pos) 1 it' acc env) R s') (Er prog w A env R) s) :
    codeAny (model prog w) A (.compStart (SC2 elt t0 i0 t1 i1 f0 f1 sc pos) 1 it acc env) R s := by
  refine codeAny_of_tree ?_
  show wpAny _ _ ((compStart (SC2 elt t0 i0 t1 i1 f0 f1 sc pos) 1 it acc env).onRaise (fun x => do noteFrame x env; standAt theWindowsPlace)) _ _ s
  refine wpAny_notedAt ?_
  unfold compStart
  show wpAny _ _ (ask >>= _) _ _ s
  refine wpAny_bind (wpAny_askSetting (wpAny_ite ?_))
  split
  · first | exact wpAny_bind (wpAny_pure (wpAny_pure (And.intro rfl h0))) | exact wpAny_pure (And.intro rfl h0)
  · first
      | exact wpAny_bind (wpAny_rule (wpAny_bind (wpAny_standAt (wpAny_bind (wpAny_mono h (fun it' s' z => wpAny_pure (And.intro rfl z)) fun _ _ z => z)))))
      | (refine wpAny_bind (wpAny_rule ?_); show wpAny _ _ (standAt i1.pos >>= _) _ _ s; exact wpAny_bind (wpAny_standAt (wpAny_bind (wpAny_mono h (fun it' s' z => wpAny_pure (And.intro rfl z)) fun _ _ z => z))))
end
/-! as a tracked thing -/
def SetSO (w : World) (a : Addr) (L : List Str) : HO := .ext fun h => SetS w h a L
theorem setSO_new {w : World} {P : Program} {H : Hp} {h : Heap} {a : Addr} {L : List Str} (R : SetS w h a L) : ObjOk P w H h a (SetSO w a L) := let ⟨o, _, _, _, ho, _⟩ := id R; ⟨R, ⟨o, ho⟩, fun h1 h2 p k => SetS.at p k⟩
abbrev emptySet (w : World) : Obj := { cls := .type "set", dict := none, data := .set #[] 0 (.fresh 0 0 (!w.params.followText "set-order")) }
theorem setS_fresh {h : Heap} (w : World) : SetS w (h.push (emptySet w)) h.objs.size [] :=
  ⟨_, #[], 0, _, Heap.get?_push_size _ rfl, ⟨rfl, rfl, rfl⟩, rfl, (fun e he => by simp at he), (by simp), .nil, (by decide), (by rfl), List.Pairwise.nil, by
    show _ ∨ (!w.params.followText "set-order") = true
    cases w.params.followText "set-order"
    · exact .inr rfl
    · exact .inl rfl⟩
section
variable {X : Cx}
theorem setSO_get {pins : List (Addr × Obj)} {σ : L2.St} {H : Hp} {s : Shared} {a : Addr} {L : List Str} (I : Inv X pins σ H s) (ha : H a = some (SetSO X.w a L)) : SetS X.w s.heap a L := (I.hok a _ ha).1
theorem addS_ok {pins : List (Addr × Obj)} {σ : L2.St} {H : Hp} {s : Shared} {E : Value → Shared → Prop} {D : Addr} {L : List Str} {y : Str} {u : Tok} {Q : Value → Shared → Prop} (I : Inv X pins σ H s) (hD : H D = some (SetSO X.w D L)) (room : L.length + 1 < scanBound)
    (h : ∀ s', Inv X pins σ (upd H D (SetSO X.w D (addL L y))) s' → Q .none s') : wpAny (model X.prog X.w) X.A (call (.builtin "set.add") [.ref D, .str y u]) Q E s :=
  addS (setSO_get I hD) room fun h' sb new => h _ (I.write (e := D) (t' := s.toks + 1) (by rw [hD]; trivial) (.inl rfl) (fun b o hb e => (sb.2 b hb).trans e) (let ⟨o, _, _, _, ho, _⟩ := id new; ⟨o, ho⟩) (setSO_new new))
/-- {elt for tg in iter if .. for tg1 in iter1 if ..}, elt a text: D the new set -/
def tSc2 (w : World) (wi : TI) (g : TG) (tt : TT) (wi1 : TI) (g1 : TG) (tt1 : TT) (te : TE) (vs vs1 : List Nat) : TE := fun σ H Q => wi σ H fun J H1 => ∀ D, H1 D = none → ∃ W : Nat → Nat → Hp → Prop, (∃ m, W 0 m (upd H1 D (SetSO w D []))) ∧ ∀ i m H, W i m H →
  (J.stop i H ∧ Q (.ref D) H) ∨ (J.go i H ∧ ∃ Nx : Hp → Prop, (∀ H', Nx H' → ∃ m', m' < m ∧ W (i + 1) m' H') ∧ ∀ x H', J.yld i H x H' → g x (wipe σ vs) H' fun σ2 H2 => wipe σ2 vs = wipe σ vs ∧ tt σ2 H2 fun b H3 =>
    if b = true then wi1 σ2 H3 fun J1 H4 => ∃ W1 : Nat → Nat → Hp → Prop, (∃ m, W1 0 m H4) ∧ ∀ j k H, W1 j k H →
      (J1.stop j H ∧ Nx H) ∨ (J1.go j H ∧ ∃ Nx1 : Hp → Prop, (∀ H', Nx1 H' → ∃ k', k' < k ∧ W1 (j + 1) k' H') ∧ ∀ x H', J1.yld j H x H' → g1 x (wipe σ2 vs1) H' fun σ3 H5 => wipe σ3 vs1 = wipe σ2 vs1 ∧ tt1 σ3 H5 fun b H6 =>
        if b = true then te σ3 H6 fun y H7 => ∃ k L, y = .str k ∧ H7 D = some (SetSO w D L) ∧ L.length + 1 < scanBound ∧ Nx1 (upd H7 D (SetSO w D (addL L k))) else Nx1 H6)
    else Nx H3)
abbrev Blk (X : Cx) (sc : Scope) (s : Shared) (H : Hp) (C : Addr) (cl : List (PySem.Str × Addr)) (fp : List Addr) : Cx := X.blk s H sc (compEnvC sc cl C X.env) fp
theorem sc2_core {pins : List (Addr × Obj)} {s : Shared} {σ : L2.St} {H : Hp} {Q : VK} {elt tg iter tg1 iter1 : Expr} {ifs ifs1 : List Expr} {sc : Scope} {own : List (PySem.Str × Nat)} {vs1 : List Nat} {pos pos' : Pos} {wi wi1 : TI} {g g1 : TG} {tt tt1 : TT} {te : TE} {use : Option (Value → Sem Unit)} {Qf : Value → Shared → Prop}
    (hc : X.calm = true) (hN : X.N.Nodup) (I : Inv X pins σ H s) (hi : PI X tg iter wi) (ok : BlkOk X.N X.env.scope sc own) (hv : ∀ i ∈ vs1, i ∈ own.map (·.2))
    (hg : ∀ s H C cl fp, PG (Blk X sc s H C cl fp) tg g) (ht : ∀ s H C cl fp, PTs (Blk X sc s H C cl fp) ifs tt) (he : ∀ s H C cl fp, PE (Blk X sc s H C cl fp) elt te) (hs : ∀ x, foldedSetIterable iter X.env x = pure x)
    (hi1 : ∀ s H C cl fp, PI (Blk X sc s H C cl fp) tg1 iter1 wi1) (hg1 : ∀ s H C cl fp, PG (Blk X sc s H C cl fp) tg1 g1) (ht1 : ∀ s H C cl fp, PTs (Blk X sc s H C cl fp) ifs1 tt1) (hs1 : ∀ env x, foldedSetIterable iter1 env x = pure x)
    (h : tSc2 X.w wi g tt wi1 g1 tt1 te (own.map (·.2)) vs1 σ H Q)
    (hRR : ∀ D C s' m H', Inv X pins σ H' s' → Q (.ref D) H' → s'.heap.Ns C m → FpOk X pins H' C → compPost (model X.prog X.w) X.A X.xe use Qf (.ref D) C (.ok .next) s') :
    wpAny (model X.prog X.w) X.A (comprehension (SC2 elt tg iter tg1 iter1 ifs ifs1 sc pos) sc X.env pos' (newSet (.type "set")) false (eval iter X.env) use) Qf X.xe s := by
  have hfree : ∀ y ∈ sc.names, y.2 = .free → ∃ c, X.env.cells.lookup y.1 = some c := fun y hy e => (ok.free y hy e).elim (fun k => I.ok.has _ (.inl k)) fun k => I.ok.has _ (.inr k)
  refine wpAny_comprehension_free (use := use) rfl hs (closure_ok hfree) ok.kind (fun y hy e => by rw [ok.uniq y hy, e]) (thn (hi.run pins s σ H _ I h) fun xv s1 hx => thn hx fun itv s2 h2 => ?_)
  obtain ⟨it, fp, tn, J, H2, e, I2, T, st2, f2, q⟩ := h2
  subst e
  refine PpSet.newSet_ok (newEnv_comp ?_)
  generalize hD : s2.heap.objs.size = D
  have hDn : H2 D = none := I2.hok.fresh (Nat.le_of_eq hD)
  obtain ⟨W, ⟨m0, w0⟩, turn⟩ := q D hDn
  generalize hs3 : ({ s2 with heap := s2.heap.push (emptySet X.w) } : Shared) = s3
  have I3 : Inv X pins σ (upd H2 D (SetSO X.w D [])) s3 := by
    rw [← hs3]
    exact I2.laid (t' := s2.toks) (fun b o e => Heap.get?_push_of_some _ e) (Nat.le_of_eq hD) (hD ▸ setSO_new (setS_fresh X.w))
  have h3 : s3.heap = s2.heap.push (emptySet X.w) := by rw [← hs3]
  have sz : ∀ b ∈ fp, b < s2.heap.objs.size := fun b hb => let ⟨o, e, _⟩ := T.obj _ _ st2 b hb; Heap.lt_size e
  have f3 : ∀ b ∈ fp, FpOk X pins (upd H2 D (SetSO X.w D [])) b ∧ b < s3.heap.objs.size := fun b hb =>
    ⟨⟨by rw [upd_ne (by rw [← hD]; exact Nat.ne_of_lt (sz b hb))]; exact (f2 b hb).1, (f2 b hb).2⟩, by rw [h3, Heap.size_push]; exact Nat.lt_succ_of_lt (sz b hb)⟩
  have st3 : tn 0 s3.heap := T.keep _ _ _ st2 fun b _ o e => by rw [h3]; exact Heap.get?_push_of_some _ e
  have I4 := block_start I3 ok hN f3
  generalize hcl : cellsFrom (s3.heap.objs.size + 1) sc.names (cloFrom X.env.cells sc.names []) = cl at I4
  have pg : PG (X.blk s3 (upd H2 D (SetSO X.w D [])) sc (compEnvC sc cl s3.heap.objs.size X.env) fp) tg g := hg s3 _ _ cl fp
  have pt : PTs (X.blk s3 (upd H2 D (SetSO X.w D [])) sc (compEnvC sc cl s3.heap.objs.size X.env) fp) ifs tt := ht s3 _ _ cl fp
  have pe : PE (X.blk s3 (upd H2 D (SetSO X.w D [])) sc (compEnvC sc cl s3.heap.objs.size X.env) fp) elt te := he s3 _ _ cl fp
  have pi1 : PI (X.blk s3 (upd H2 D (SetSO X.w D [])) sc (compEnvC sc cl s3.heap.objs.size X.env) fp) tg1 iter1 wi1 := hi1 s3 _ _ cl fp
  have pg1 : PG (X.blk s3 (upd H2 D (SetSO X.w D [])) sc (compEnvC sc cl s3.heap.objs.size X.env) fp) tg1 g1 := hg1 s3 _ _ cl fp
  have pt1 : PTs (X.blk s3 (upd H2 D (SetSO X.w D [])) sc (compEnvC sc cl s3.heap.objs.size X.env) fp) ifs1 tt1 := ht1 s3 _ _ cl fp
  show codeAny _ _ (.compStart (SC2 elt tg iter tg1 iter1 ifs ifs1 sc pos) 0 (.ref it) (.ref D) (compEnvC sc cl s3.heap.objs.size X.env)) (compPost (model X.prog X.w) X.A X.xe use Qf (.ref D) s3.heap.objs.size) { s3 with heap := pushCells (s3.heap.push { cls := .type "dict", data := .dict #[] }) sc.names }
  have nfp : ∀ b ∈ fp, (upd H2 D (SetSO X.w D [])) b = none := fun b hb => (f3 b hb).1.1
  generalize hce : compEnvC sc cl s3.heap.objs.size X.env = ce at I4 pg pt pe pi1 pg1 pt1 ⊢
  have cL : ce.locals = s3.heap.objs.size := by subst hce; rfl
  generalize hH3 : upd H2 D (SetSO X.w D []) = H3 at I3 I4 pg pt pe pi1 pg1 pt1 w0 nfp f3
  generalize hs4 : ({ s3 with heap := pushCells (s3.heap.push { cls := .type "dict", data := .dict #[] }) sc.names } : Shared) = s4 at I4 ⊢
  have st4 : tn 0 s4.heap := T.keep _ _ _ st3 fun b _ o e => by rw [← hs4]; exact pushCells_keeps _ _ _ _ (Heap.get?_push_of_some _ e)
  have stat : ∀ {σ' : L2.St} {H' : Hp} {s' : Shared}, Inv (X.blk s3 H3 sc ce fp) [] σ' H' s' → (∀ b ∈ fp, H' b = none) → ∀ b ∈ fp, FpOk (X.blk s3 H3 sc ce fp) [] H' b := fun I' hn b hb =>
    ⟨hn b hb, (I'.ok.exf b hb).1, I'.ok.exfs b hb, .inl hb, fun x c e => (I'.ok.exf b hb).2 x c e, fun p hp => absurd (show p ∈ ([] : List (Addr × Obj)) ++ [] from hp) (by simp)⟩
  have loop : codeAny (model X.prog X.w) X.A (.compLoop (SC2 elt tg iter tg1 iter1 ifs ifs1 sc pos) 0 (.ref it) (.ref D) ce) (compPost (model X.prog X.w) X.A X.xe use Qf (.ref D) s3.heap.objs.size) s4 := by
    refine loopOut (hs1 ce) (fun n s' => ∃ i H', Inv (X.blk s3 H3 sc ce fp) [] (wipe σ (own.map (·.2))) H' s' ∧ tn i s'.heap ∧ (∀ b ∈ fp, H' b = none) ∧ W i n H') ?_ m0 ⟨0, H3, I4, st4, nfp, w0⟩
    rintro n s5 ⟨i, H5, I5, st5, n5, w5⟩
    rcases turn i n H5 w5 with ⟨stop, qq⟩ | ⟨go, Nx, hNx, step⟩
    · refine thnF (T.done (X.blk s3 H3 sc ce fp) rfl rfl rfl hc i [] s5 _ H5 (fun _ _ => False) I5 (stat I5 n5) st5 stop) fun r s6 ⟨hr, I6⟩ => ?_
      subst hr
      have I7 : Inv X pins σ H5 s6 := I3.call' (ch := fp) I6.os I6.base I6.hok I6.bare fun b hb => let z := (f3 b hb).1.2; ⟨z.2.2.1, z.1, z.2.2.2.1, z.2.2.2.2⟩
      have nC : H5 s3.heap.objs.size = none := cL ▸ (show H5 ce.locals = none from I6.free)
      obtain ⟨m, hn, -⟩ := I6.loc
      exact hRR D s3.heap.objs.size s6 m H5 I7 qq (cL ▸ (show s6.heap.Ns ce.locals m from hn)) (I3.fpOk (Nat.le_refl _) nC)
    · refine thnF (T.item (X.blk s3 H3 sc ce fp) rfl rfl rfl hc i [] s5 _ H5 (fun _ _ => False) I5 (stat I5 n5) st5 go) fun r s6 ⟨u, hr, h6⟩ => ?_
      subst hr
      refine thnF h6 fun _ s7 ⟨x, H7, I7, r7, y7, st7, n7⟩ => ?_
      have I7' := I7.pinned (stat I7 n7) (T.obj _ _ st7)
      refine thnF (pg.run _ s7 _ H7 x u _ I7' r7 (step x H7 y7)) fun _ s8 ⟨σ8, H8, I8, hw8, q8⟩ => thnF (pt.run _ s8 σ8 H8 _ I8 q8) fun b s9 ⟨H9, I9, q9⟩ => ?_
      have fin : ∀ {σ9 : L2.St} {s' : Shared} {H' : Hp}, Inv (X.blk s3 H3 sc ce fp) ([] ++ pinsAt fp s7.heap) σ9 H' s' → (wipe σ (own.map (·.2))).length = σ9.length → (∀ (j : Nat) v, (wipe σ (own.map (·.2)))[j]? = some (some v) → σ9[j]? = some (some v)) → Nx H' →
          ∃ m, m < n ∧ ∃ i H', Inv (X.blk s3 H3 sc ce fp) [] (wipe σ (own.map (·.2))) H' s' ∧ tn i s'.heap ∧ (∀ b ∈ fp, H' b = none) ∧ W i m H' := fun {σ9 s' H'} I' hl hk nx => by
        obtain ⟨m', hm, w'⟩ := hNx H' nx
        have pin' : ∀ b ∈ fp, ∀ o, s7.heap.get? b = some o → s'.heap.get? b = some o ∧ H' b = none := fun b hb o e =>
          let z := I'.pin (b, o) (List.mem_append_right _ (List.mem_append_right _ (mem_pinsAt hb e))); ⟨z.1, z.2.1⟩
        exact ⟨m', hm, i + 1, H', (I'.unpinned (pins := [])).weak hl hk, T.keep _ _ _ st7 fun b hb o e => (pin' b hb o e).1, fun b hb => let ⟨o, e, _⟩ := T.obj _ _ st7 b hb; (pin' b hb o e).2, w'⟩
      have hl8 : (wipe σ (own.map (·.2))).length = σ8.length := by rw [← hw8, wipe_length]
      have hk8 : ∀ (j : Nat) v, (wipe σ (own.map (·.2)))[j]? = some (some v) → σ8[j]? = some (some v) := fun j v e => (wipe_some (hw8 ▸ e)).1
      have hk9 : ∀ (j : Nat) v, (wipe σ (own.map (·.2)))[j]? = some (some v) → (wipe σ8 vs1)[j]? = some (some v) := fun j v e => by
        rw [← hw8] at e
        rw [wipe_out fun z => (wipe_some e).2 (hv j z)]
        exact (wipe_some e).1
      cases b with
      | false => simp only [Bool.false_eq_true, if_false] at q9 ⊢; exact fin I9 hl8 hk8 q9
      | true =>
        simp only [if_true] at q9 ⊢
        refine thnF (pi1.run _ s9 σ8 H9 _ I9 q9) fun xv s10 hx => thnF hx fun itv s11 h11 => ?_
        obtain ⟨it1, fp1, tn1, J1, H11, e1, I11, T1, st11, f11, W1, ⟨m1, w1⟩, turn1⟩ := h11
        subst e1
        have stat1 : ∀ {H' : Hp}, (∀ b ∈ fp1, H' b = none) → ∀ b ∈ fp1, FpOk (X.blk s3 H3 sc ce fp) ([] ++ pinsAt fp s7.heap) H' b := fun hn b hb => ⟨hn b hb, (f11 b hb).2⟩
        have loop1 : codeAny (model X.prog X.w) X.A (.compLoop (SC2 elt tg iter tg1 iter1 ifs ifs1 sc pos) 1 (.ref it1) (.ref D) ce)
            (fun r s' => match r with
              | .ok _ => ∃ m, m < n ∧ ∃ i H', Inv (X.blk s3 H3 sc ce fp) [] (wipe σ (own.map (·.2))) H' s' ∧ tn i s'.heap ∧ (∀ b ∈ fp, H' b = none) ∧ W i m H'
              | .error _ => False) s11 := by
          refine loopIn (fun k s' => ∃ j H', Inv (X.blk s3 H3 sc ce fp) ([] ++ pinsAt fp s7.heap) (wipe σ8 vs1) H' s' ∧ tn1 j s'.heap ∧ (∀ b ∈ fp1, H' b = none) ∧ W1 j k H') ?_ m1 ⟨0, H11, I11.weak (wipe_length _ _) (fun j v e => (wipe_some e).1), st11, fun b hb => (f11 b hb).1, w1⟩
          rintro k s12 ⟨j, H12, I12, st12, n12, w12⟩
          rcases turn1 j k H12 w12 with ⟨stop1, nx1⟩ | ⟨go1, Nx1, hNx1, step1⟩
          · refine thnF (T1.done (X.blk s3 H3 sc ce fp) rfl rfl rfl hc j _ s12 (wipe σ8 vs1) H12 (fun _ _ => False) I12 (stat1 n12) st12 stop1) fun r s13 ⟨hr, I13⟩ => ?_
            subst hr
            exact fin I13 (hl8.trans (wipe_length σ8 vs1).symm) hk9 nx1
          · refine thnF (T1.item (X.blk s3 H3 sc ce fp) rfl rfl rfl hc j _ s12 (wipe σ8 vs1) H12 (fun _ _ => False) I12 (stat1 n12) st12 go1) fun r s13 ⟨u1, hr, h13⟩ => ?_
            subst hr
            refine thnF h13 fun _ s14 ⟨x1, H14, I14, r14, y14, st14, n14⟩ => ?_
            have I14' := I14.pinned (stat1 n14) (T1.obj _ _ st14)
            refine thnF (pg1.run _ s14 (wipe σ8 vs1) H14 x1 u1 _ I14' r14 (step1 x1 H14 y14)) fun _ s15 ⟨σ15, H15, I15, hw15, q15⟩ => thnF (pt1.run _ s15 σ15 H15 _ I15 q15) fun b1 s16 ⟨H16, I16, q16⟩ => ?_
            have fin1 : ∀ {s' : Shared} {H' : Hp}, Inv (X.blk s3 H3 sc ce fp) (([] ++ pinsAt fp s7.heap) ++ pinsAt fp1 s14.heap) σ15 H' s' → Nx1 H' → ∃ m, m < k ∧ ∃ j H', Inv (X.blk s3 H3 sc ce fp) ([] ++ pinsAt fp s7.heap) (wipe σ8 vs1) H' s' ∧ tn1 j s'.heap ∧ (∀ b ∈ fp1, H' b = none) ∧ W1 j m H' := fun {s' H'} I' nx => by
              obtain ⟨m', hm, w'⟩ := hNx1 H' nx
              have pin' : ∀ b ∈ fp1, ∀ o, s14.heap.get? b = some o → s'.heap.get? b = some o ∧ H' b = none := fun b hb o e =>
                let z := I'.pin (b, o) (List.mem_append_right _ (List.mem_append_right _ (mem_pinsAt hb e))); ⟨z.1, z.2.1⟩
              exact ⟨m', hm, j + 1, H', I'.unpinned.weak (by rw [← hw15, wipe_length]) (fun j v e => (wipe_some (hw15 ▸ e)).1), T1.keep _ _ _ st14 fun b hb o e => (pin' b hb o e).1, fun b hb => let ⟨o, e, _⟩ := T1.obj _ _ st14 b hb; (pin' b hb o e).2, w'⟩
            cases b1 with
            | false => simp only [Bool.false_eq_true, if_false] at q16 ⊢; exact fin1 I16 q16
            | true =>
              simp only [if_true] at q16 ⊢
              refine thnF (pe.run _ s16 σ15 H16 _ I16 q16) fun z s17 ⟨yv, H17, I17, r17, ky, L17, ey, hD17, hz17, nx⟩ => ?_
              subst ey
              obtain ⟨tk, rfl⟩ := r17
              exact addS_ok (X := X.blk s3 H3 sc ce fp) I17 hD17 hz17 fun s18 I18 => fin1 I18 nx
        exact startIn loop1 (T1.self X.A 0 _ _ _ st11 loop1)
  exact PpSet.codeAny_compStart_set loop (T.self X.A 0 _ _ _ st4 loop)
/-- as a value -/
theorem pe_sc2 {elt tg iter tg1 iter1 : Expr} {ifs ifs1 : List Expr} {sc : Scope} {own : List (PySem.Str × Nat)} {vs1 : List Nat} {pos : Pos} {wi wi1 : TI} {g g1 : TG} {tt tt1 : TT} {te : TE} (hc : X.calm = true) (hN : X.N.Nodup) (hi : PI X tg iter wi) (ok : BlkOk X.N X.env.scope sc own) (hv : ∀ i ∈ vs1, i ∈ own.map (·.2))
    (hg : ∀ s H C cl fp, PG (Blk X sc s H C cl fp) tg g) (ht : ∀ s H C cl fp, PTs (Blk X sc s H C cl fp) ifs tt) (hi1 : ∀ s H C cl fp, PI (Blk X sc s H C cl fp) tg1 iter1 wi1) (hg1 : ∀ s H C cl fp, PG (Blk X sc s H C cl fp) tg1 g1) (ht1 : ∀ s H C cl fp, PTs (Blk X sc s H C cl fp) ifs1 tt1)
    (he : ∀ s H C cl fp, PE (Blk X sc s H C cl fp) elt te) (hs : ∀ x, foldedSetIterable iter X.env x = pure x := by intro _; rfl) (hs1 : ∀ env x, foldedSetIterable iter1 env x = pure x := by intro _ _; rfl) :
    PE X (SC2 elt tg iter tg1 iter1 ifs ifs1 sc pos) (tSc2 X.w wi g tt wi1 g1 tt1 te (own.map (·.2)) vs1) := by
  refine ⟨fun pins s σ H Q I h => ?_⟩
  rw [PpSet.eval_SetComp]
  refine sc2_core hc hN I hi ok hv hg ht he hs hi1 hg1 ht1 hs1 h fun D C s' m H' I' q hn f => ⟨m, hn, fun h'' sb => ?_⟩
  obtain ⟨f0, f1, f2, f3, f4, f5⟩ := f
  exact ⟨.ref D, H', I'.turned (t' := s'.toks) (fun b o hb e => (sb.2 b hb).trans e) f0 f1 f3 f4 f5, rfl, q⟩
/-- sorted of such a set, fewer than 64 members -/
def rSortS (w : World) : List V → Hp → VK → Prop := fun vs H Q => ∃ (a : Addr) (L : List Str), vs = [V.ref a] ∧ H a = some (SetSO w a L) ∧ L.length < 64 ∧ ∀ (ys : List Str) (p : Addr), ys.Perm L → sortedS ys = true → H p = none → Q (.ref p) (upd H p (.lst (ys.map V.str)))
theorem strs_of : ∀ (l : List Value), (∀ v ∈ l, ∃ k tk, v = Value.str k tk) → StrsAre l (l.map fun v => kOf (0, v))
  | [], _ => .nil
  | v :: l, h => by
    obtain ⟨k, tk, rfl⟩ := h v List.mem_cons_self
    exact .cons k tk (strs_of l fun u hu => h u (List.mem_cons_of_mem _ hu))
theorem cr_sortS (hc : X.calm = true) : CallR X (.builtin "sorted") (rSortS X.w) := by
  intro pins s σ H vs us Q I r h
  obtain ⟨a, L, rfl, ha, h64, q⟩ := h
  have R := setSO_get I ha
  have hlen := @SetS.len _ _ _ _ R
  rw [Vals.ref1 r]
  obtain ⟨o, es, ep, t, ho, hex, hd, g, pmL, nd, hb, hf, hr, hl⟩ := R
  have hn : es.size = L.length := hlen ho hd
  refine Calls.call_function_entry kind_sorted plain_sorted entry_sorted (args_sorted1 _) ?_
  unfold Builtin.«sorted»
  refine wpAny_bind (m := checkCount "sorted" 1 1 _) (wpAny_pure (wpAny_bind (collect_set (A := X.A.in1) (I.ok.hd hc) ⟨o, ho, hex.1, hd⟩ hf hb hr hl fun s1 ws k1 hz g1 o1 pm => ?_)))
  have hvl : ws.length = L.length := by rw [pm.length_eq, List.length_map, Array.length_toList]; exact hn
  have hS : StrsAre ws (ws.map fun v => kOf (0, v)) := strs_of ws fun v hv => by
    obtain ⟨e, he, z⟩ := List.mem_map.mp (pm.mem_iff.mp hv)
    obtain ⟨k, tk, h1, -⟩ := g e he
    exact ⟨k, tk, by rw [← z]; exact h1⟩
  have pk : (ws.map fun v => kOf (0, v)).Perm L := by
    have z := pm.map fun v => kOf (0, v)
    rw [List.map_map] at z
    exact z.trans pmL
  have I1 : Inv X pins σ H s1 := by
    have e : s1 = { s with heap := s1.heap, gens := s1.gens, drawn := s1.drawn, toks := s1.toks } := by cases s1; cases s; cases o1; rfl
    rw [e]
    exact I.call (ch := []) (Un.kept k1) (I.hok.kept k1) (by rw [g1]; exact I.bare) (fun _ z => nomatch z)
  refine wpAny_bind (wpAny_newList ?_ (by rw [hvl, sizeLine_eq]; omega))
  have hoL : (s1.heap.push (seqObj "list" ws.toArray 0)).get? s1.heap.objs.size = some (seqObj "list" ws.toArray 0) := Heap.get?_push_size _ rfl
  refine wpAny_bind (wpAny_holding (wpAny_call_entry slot_list_sort ⟨_, hoL, rfl⟩ entry_list_sort (list_sort_treeK strKind_oneLt (s := { s1 with heap := s1.heap.push (seqObj "list" ws.toArray 0) }) hoL hS.keysOf (fun v₁ v₂ rest e => keyKind_strs (by rw [← e]; exact hS)) (by rw [hvl]; exact h64) fun st' hp hs => ⟨_, rfl, ?_⟩) (args_list_sort _)))
  obtain ⟨ys, y1, y2, y3⟩ := sorted_out_str hS hp hs
  obtain ⟨e', he'⟩ := sortedHeap_at (vs := ws) (out := (arrOf st').map (·.2)) hoL
  have hl2 : (ys.map V.str).length ≤ sizeLine := by
    rw [List.length_map, y2.length_eq, pk.length_eq, sizeLine_eq]
    omega
  refine wpAny_pure ⟨_, rfl, .ref s1.heap.objs.size, upd H s1.heap.objs.size (.lst (ys.map V.str)), I1.laid (t' := s1.toks) (fun b u e => ?_) (Nat.le_refl _) (show ObjOk X.prog X.w _ _ _ (.lst (ys.map V.str)) from ⟨hl2, ((arrOf st').map (·.2)).toList, e', vals_of_strs y1, by rw [Array.toArray_toList]; exact he'⟩), rfl, q ys _ (y2.trans pk) y3 (I1.hok.fresh (Nat.le_refl _))⟩
  show (sortedHeap (s1.heap.push (seqObj "list" ws.toArray 0)) s1.heap.objs.size ws _).get? b = some u
  have hlt := Heap.lt_size e
  rw [sortedHeap_old (Nat.ne_of_lt hlt) (by rw [size_push']; exact Nat.lt_succ_of_lt hlt)]
  exact Heap.get?_push_of_some _ e
end
/-- walked: the outer clause -/
theorem sc2_it {J : It} {n : Nat} {G : Hp → Prop} {Y : Nat → Hp → V → Hp → Prop} (wk : Walk J n G Y) {w : World} {g g1 : TG} {tt tt1 : TT} {wi1 : TI} {te : TE} {vs vs1 : List Nat} {σ : L2.St} {H1 : Hp} {D : Addr} {Qd : Hp → Prop} (Pv : Nat → Hp → Prop) (h0 : Pv 0 (upd H1 D (SetSO w D []))) (hG : ∀ i H, i ≤ n → Pv i H → G H)
    (hs : ∀ i x H H', i < n → Pv i H → Y i H x H' → g x (wipe σ vs) H' fun σ2 H2 => wipe σ2 vs = wipe σ vs ∧ tt σ2 H2 fun b H3 =>
      if b = true then wi1 σ2 H3 fun J1 H4 => ∃ W1 : Nat → Nat → Hp → Prop, (∃ m, W1 0 m H4) ∧ ∀ j k H, W1 j k H →
        (J1.stop j H ∧ Pv (i + 1) H) ∨ (J1.go j H ∧ ∃ Nx1 : Hp → Prop, (∀ H', Nx1 H' → ∃ k', k' < k ∧ W1 (j + 1) k' H') ∧ ∀ x H', J1.yld j H x H' → g1 x (wipe σ2 vs1) H' fun σ3 H5 => wipe σ3 vs1 = wipe σ2 vs1 ∧ tt1 σ3 H5 fun b H6 =>
          if b = true then te σ3 H6 fun y H7 => ∃ k L, y = .str k ∧ H7 D = some (SetSO w D L) ∧ L.length + 1 < scanBound ∧ Nx1 (upd H7 D (SetSO w D (addL L k))) else Nx1 H6)
      else Pv (i + 1) H3) (hd : ∀ H, Pv n H → Qd H) :
    ∃ W : Nat → Nat → Hp → Prop, (∃ m, W 0 m (upd H1 D (SetSO w D []))) ∧ ∀ i m H, W i m H →
      (J.stop i H ∧ Qd H) ∨ (J.go i H ∧ ∃ Nx : Hp → Prop, (∀ H', Nx H' → ∃ m', m' < m ∧ W (i + 1) m' H') ∧ ∀ x H', J.yld i H x H' → g x (wipe σ vs) H' fun σ2 H2 => wipe σ2 vs = wipe σ vs ∧ tt σ2 H2 fun b H3 =>
        if b = true then wi1 σ2 H3 fun J1 H4 => ∃ W1 : Nat → Nat → Hp → Prop, (∃ m, W1 0 m H4) ∧ ∀ j k H, W1 j k H →
          (J1.stop j H ∧ Nx H) ∨ (J1.go j H ∧ ∃ Nx1 : Hp → Prop, (∀ H', Nx1 H' → ∃ k', k' < k ∧ W1 (j + 1) k' H') ∧ ∀ x H', J1.yld j H x H' → g1 x (wipe σ2 vs1) H' fun σ3 H5 => wipe σ3 vs1 = wipe σ2 vs1 ∧ tt1 σ3 H5 fun b H6 =>
            if b = true then te σ3 H6 fun y H7 => ∃ k L, y = .str k ∧ H7 D = some (SetSO w D L) ∧ L.length + 1 < scanBound ∧ Nx1 (upd H7 D (SetSO w D (addL L k))) else Nx1 H6)
        else Nx H3) := by
  refine ⟨fun i m H => m = n - i ∧ i ≤ n ∧ Pv i H, ⟨n, by simp, Nat.zero_le _, h0⟩, ?_⟩
  rintro i m H ⟨rfl, hi, p⟩
  have q := hG i H hi p
  by_cases c : i < n
  · exact .inr ⟨wk.goes i H c q, Pv (i + 1), fun H' p' => ⟨n - (i + 1), by omega, rfl, c, p'⟩, fun x H' y => hs i x H H' c p (wk.yields i H x H' c q y)⟩
  · obtain rfl : i = n := by omega
    exact .inl ⟨wk.stops H q, hd H p⟩
/-- walked: the inner clause -/
theorem in2_it {J1 : It} {n : Nat} {G : Hp → Prop} {Y : Nat → Hp → V → Hp → Prop} (wk : Walk J1 n G Y) {w : World} {g1 : TG} {tt1 : TT} {te : TE} {vs1 : List Nat} {σ2 : L2.St} {H4 : Hp} {D : Addr} {Nx : Hp → Prop} (Pv : Nat → Hp → Prop) (h0 : Pv 0 H4) (hG : ∀ i H, i ≤ n → Pv i H → G H)
    (hs : ∀ i x H H', i < n → Pv i H → Y i H x H' → g1 x (wipe σ2 vs1) H' fun σ3 H5 => wipe σ3 vs1 = wipe σ2 vs1 ∧ tt1 σ3 H5 fun b H6 =>
      if b = true then te σ3 H6 fun y H7 => ∃ k L, y = .str k ∧ H7 D = some (SetSO w D L) ∧ L.length + 1 < scanBound ∧ Pv (i + 1) (upd H7 D (SetSO w D (addL L k))) else Pv (i + 1) H6) (hd : ∀ H, Pv n H → Nx H) :
    ∃ W1 : Nat → Nat → Hp → Prop, (∃ m, W1 0 m H4) ∧ ∀ j k H, W1 j k H →
      (J1.stop j H ∧ Nx H) ∨ (J1.go j H ∧ ∃ Nx1 : Hp → Prop, (∀ H', Nx1 H' → ∃ k', k' < k ∧ W1 (j + 1) k' H') ∧ ∀ x H', J1.yld j H x H' → g1 x (wipe σ2 vs1) H' fun σ3 H5 => wipe σ3 vs1 = wipe σ2 vs1 ∧ tt1 σ3 H5 fun b H6 =>
        if b = true then te σ3 H6 fun y H7 => ∃ k L, y = .str k ∧ H7 D = some (SetSO w D L) ∧ L.length + 1 < scanBound ∧ Nx1 (upd H7 D (SetSO w D (addL L k))) else Nx1 H6) := by
  refine ⟨fun i m H => m = n - i ∧ i ≤ n ∧ Pv i H, ⟨n, by simp, Nat.zero_le _, h0⟩, ?_⟩
  rintro i m H ⟨rfl, hi, p⟩
  have q := hG i H hi p
  by_cases c : i < n
  · exact .inr ⟨wk.goes i H c q, Pv (i + 1), fun H' p' => ⟨n - (i + 1), by omega, rfl, c, p'⟩, fun x H' y => hs i x H H' c p (wk.yields i H x H' c q y)⟩
  · obtain rfl : i = n := by omega
    exact .inl ⟨wk.stops H q, hd H p⟩
end Ss
/-! min of a list of data that can be compared: which of them it is -/
namespace Md
open PySem PySem.Spec PyProof.Rows L2
open PySem.W (DatumOrd Datum minOf AlikeAll readsAll_len readsAll_atA cmpIn_lt iter_listW moved_old argBest_fold dataLt)
section
variable {α : Type} [DecidableEq α] [DatumOrd α]
theorem minOf_mem (x : α) : ∀ ys : List α, minOf x ys ∈ x :: ys := by
  intro ys
  unfold minOf
  induction ys generalizing x with
  | nil => exact List.mem_singleton.mpr rfl
  | cons y r ih =>
    rw [List.foldl_cons]
    have h := ih (if DatumOrd.lt y x = true then y else x)
    rcases List.mem_cons.mp h with z | z
    · rw [z]
      split
      · exact List.mem_cons_of_mem _ List.mem_cons_self
      · exact List.mem_cons_self
    · exact List.mem_cons_of_mem _ (List.mem_cons_of_mem _ z)
theorem minOf_le (ir : ∀ a : α, DatumOrd.lt a a = false) (asy : ∀ a b : α, DatumOrd.lt a b = true → DatumOrd.lt b a = false) (tr : ∀ a b c : α, DatumOrd.lt a b = false → DatumOrd.lt b c = false → DatumOrd.lt a c = false) (x : α) : ∀ ys : List α, ∀ z ∈ x :: ys, DatumOrd.lt z (minOf x ys) = false := by
  intro ys
  unfold minOf
  induction ys generalizing x with
  | nil =>
    intro z hz
    rw [List.mem_singleton.mp hz]
    exact ir x
  | cons y r ih =>
    intro z hz
    rw [List.foldl_cons]
    have h := ih (if DatumOrd.lt y x = true then y else x)
    by_cases c : DatumOrd.lt y x = true
    · rw [if_pos c] at h ⊢
      rcases List.mem_cons.mp hz with e | hz
      · rw [e]
        exact tr x y _ (asy y x c) (h y List.mem_cons_self)
      · exact h z hz
    · rw [if_neg c] at h ⊢
      have c : DatumOrd.lt y x = false := by
        cases q : DatumOrd.lt y x with
        | false => rfl
        | true => exact absurd q c
      rcases List.mem_cons.mp hz with e | hz
      · rw [e]
        exact h x List.mem_cons_self
      · rcases List.mem_cons.mp hz with e | hz
        · rw [e]
          exact tr y x _ c (h x List.mem_cons_self)
        · exact h z (List.mem_cons_of_mem _ hz)
end
/-- min(xs): the item at a place of the least -/
def rMinG (α : Type) [DecidableEq α] [DatumOrd α] (K : PySem.W.Frag) : List V → Hp → VK → Prop := fun vs H Q => ∃ (a : Addr) (xs : List V) (x : α) (ys : List α), vs = [.ref a] ∧ SqL K H a xs ∧ DpAll K H xs ((x :: ys).map Datum.toD) ∧ Datum.depth α ≤ 60 ∧
  ∀ (i : Nat) (v : V), xs[i]? = some v → (x :: ys)[i]? = some (minOf x ys) → Q v H
theorem cr_minG {X : Cx} {α : Type} [DecidableEq α] [DatumOrd α] (hc : X.calm = true) (hu : X.A.units + 64 < cLine) : CallR X (.builtin "min") (rMinG α X.K) := by
  intro pins s σ H vs us Q I r h
  obtain ⟨a, xs, x, ys, rfl, hs, hd, hdep, q⟩ := h
  obtain ⟨its, rv, hl, -⟩ := I.list hs
  rw [Vals.ref1 r]
  obtain ⟨as, hr⟩ := Dp.readsAll I _ _ _ hd rv
  have hl : s.heap.IsList a its.toArray := hl.isList
  have hr' : ReadsAll s.heap its.toArray.toList (Datum.toD x :: ys.map Datum.toD) as := hr
  have hn : its.toArray.size = ys.length + 1 := by rw [readsAll_len hr']; simp
  have hdd : PyData.depthAll (Datum.toD x :: ys.map Datum.toD) ≤ 60 := Nat.le_trans (PySem.W.depthAll_map (x :: ys)) hdep
  refine PySem.call_min_walkH (iter_listW (A := X.A.in1) (I.ok.hd hc) hl fun s2 e W st hfp hw hk => ?_)
  refine ⟨_, _, _, _, _, _, _, s.heap, _, rfl, W, st, hfp, by omega, hw, hk, cmpIn_lt (A := X.A.in1) hr' (PySem.W.alikeAll_datum (x :: ys)) (by show X.A.units + 1 + _ < _; omega), fun v s' hP m => ?_⟩
  obtain ⟨h', tk, rfl, hk'⟩ := moved_old e rfl m
  have e1 : its.toArray.size - 1 = (ys.map Datum.toD (α := α)).length := by rw [List.length_map]; omega
  rw [e1] at hP
  have f := argBest_fold dataLt PyData.none (Datum.toD x) (ys.map Datum.toD) (ys.map Datum.toD).length (Nat.le_refl _)
  generalize argBest (fun i j => dataLt ((Datum.toD x :: ys.map Datum.toD).getD i .none) ((Datum.toD x :: ys.map Datum.toD).getD j .none)) (ys.map Datum.toD).length = j at f hP
  rw [List.take_length] at f
  have f2 : (Datum.toD x :: ys.map Datum.toD).getD j .none = Datum.toD (minOf x ys) := f.2.trans (PySem.W.minD_map x ys)
  have hj : j < (x :: ys).length := by
    have := f.1
    rw [List.length_map] at this
    rw [List.length_cons]
    omega
  have g : (x :: ys)[j]? = some (minOf x ys) := by
    rw [List.getElem?_eq_getElem hj]
    congr 1
    have z : (Datum.toD x :: ys.map Datum.toD)[j]? = some (Datum.toD (x :: ys)[j]) := by
      show ((x :: ys).map Datum.toD)[j]? = _
      rw [List.getElem?_map, List.getElem?_eq_getElem hj]
      rfl
    rw [List.getD_eq_getElem?_getD, z] at f2
    have f3 : Datum.toD (x :: ys)[j] = Datum.toD (minOf x ys) := f2
    have f4 := Datum.eqv (x :: ys)[j] (minOf x ys)
    have f5 := Datum.eqv (minOf x ys) (minOf x ys)
    rw [f3, f5] at f4
    have : decide ((x :: ys)[j] = minOf x ys) = true := by rw [← f4]; exact decide_eq_true rfl
    exact of_decide_eq_true this
  have hP : its[j]? = some v := by simpa using hP
  have hjx : j < xs.length := by
    rw [rv.length]
    exact (List.getElem?_eq_some_iff.mp hP).1
  obtain ⟨u0, hu0, ru0⟩ := Vals.get rv (List.getElem?_eq_getElem hjx)
  rw [hP] at hu0
  cases hu0
  exact ⟨xs[j], H, I.kept hk', ru0, q j _ (List.getElem?_eq_getElem hjx) g⟩
end Md
/-! shortest roads as mathematics: steps to a goal, the least of the shortest -/
namespace Rm
abbrev Nd := List Nat
section
variable (R : Nd → Nd → Prop) (F : Nd → Prop)
/-- a walk of n steps to a goal -/
def Wk : Nat → Nd → Prop
  | 0, x => F x
  | n + 1, x => ∃ y, R x y ∧ Wk n y
/-- it is n steps away -/
def Ds (n : Nat) (x : Nd) : Prop := Wk R F n x ∧ ∀ m, m < n → ¬ Wk R F m x
variable {R F}
theorem Ds.eq {n m : Nat} {x : Nd} (h : Ds R F n x) (k : Ds R F m x) : n = m := by
  rcases Nat.lt_trichotomy n m with c | c | c
  · exact absurd h.1 (k.2 n c)
  · exact c
  · exact absurd k.1 (h.2 m c)
theorem wk_ds : ∀ (n : Nat) {x : Nd}, Wk R F n x → ∃ m, m ≤ n ∧ Ds R F m x := by
  intro n
  induction n using Nat.strongRecOn with
  | ind n ih =>
    intro x h
    by_cases c : ∃ m, m < n ∧ Wk R F m x
    · obtain ⟨m, hm, hw⟩ := c
      obtain ⟨k, hk, hd⟩ := ih m hm hw
      exact ⟨k, by omega, hd⟩
    · exact ⟨n, Nat.le_refl _, h, fun m hm hw => c ⟨m, hm, hw⟩⟩
theorem Ds.down {n : Nat} {x : Nd} (h : Ds R F (n + 1) x) : ∃ y, R x y ∧ Ds R F n y := by
  obtain ⟨⟨y, h1, h2⟩, hm⟩ := h
  exact ⟨y, h1, h2, fun m hmn hw => hm (m + 1) (by omega) ⟨y, h1, hw⟩⟩
theorem Ds.next {n : Nat} {x y : Nd} (h : Ds R F (n + 1) x) (r : R x y) (w : Wk R F n y) : Ds R F n y := ⟨w, fun m hm hw => h.2 (m + 1) (by omega) ⟨y, r, hw⟩⟩
theorem ds_succ {n : Nat} {x : Nd} : Ds R F (n + 1) x ↔ (∃ y, R x y ∧ Ds R F n y) ∧ ∀ m, m ≤ n → ¬ Ds R F m x := by
  constructor
  · intro h
    exact ⟨h.down, fun m hm hd => by have := h.eq hd; omega⟩
  · rintro ⟨⟨y, h1, h2⟩, hm⟩
    refine ⟨⟨y, h1, h2.1⟩, fun m hmn hw => ?_⟩
    obtain ⟨k, hk, hd⟩ := wk_ds m hw
    exact hm k (by omega) hd
theorem ds_zero {x : Nd} : Ds R F 0 x ↔ F x := ⟨fun h => h.1, fun h => ⟨h, fun m hm => absurd hm (Nat.not_lt_zero _)⟩⟩
theorem ds_none {m : Nat} (h : ∀ x, ¬ Ds R F m x) : ∀ n x, m ≤ n → ¬ Ds R F n x := by
  intro n
  induction n with
  | zero =>
    intro x hm
    have : m = 0 := by omega
    subst this
    exact h x
  | succ n ih =>
    intro x hm hd
    by_cases c : m = n + 1
    · subst c
      exact h x hd
    · obtain ⟨y, _, hy⟩ := hd.down
      exact ih y (by omega) hy
/-- the least of those with a property -/
def Lst (P : Nd → Prop) (y : Nd) : Prop := P y ∧ ∀ z, P z → ¬ z < y
theorem Lst.eq {P : Nd → Prop} {y z : Nd} (a : Lst P y) (b : Lst P z) : y = z := List.le_antisymm (List.not_lt.mp (a.2 z b.1)) (List.not_lt.mp (b.2 y a.1))
variable (R F)
/-- the least of the shortest roads -/
def Gr : Nat → Nd → List Nd → Prop
  | 0, x, r => F x ∧ r = [x]
  | n + 1, x, r => ∃ y t, Lst (fun y => R x y ∧ Ds R F n y) y ∧ Gr n y t ∧ r = x :: t
variable {R F}
theorem Gr.eq : ∀ {n : Nat} {x : Nd} {r t : List Nd}, Gr R F n x r → Gr R F n x t → r = t
  | 0, _, _, _, h, k => h.2.trans k.2.symm
  | n + 1, x, _, _, ⟨y, r, h1, h2, h3⟩, ⟨z, t, k1, k2, k3⟩ => by
    have := h1.eq k1
    subst this
    rw [h3, k3, h2.eq k2]
theorem Gr.len : ∀ {n : Nat} {x : Nd} {r : List Nd}, Gr R F n x r → r.length = n + 1
  | 0, _, _, h => by rw [h.2]; rfl
  | n + 1, _, _, ⟨y, t, _, h2, h3⟩ => by rw [h3, List.length_cons, h2.len]
theorem Gr.head : ∀ {n : Nat} {x : Nd} {r : List Nd}, Gr R F n x r → r.head? = some x
  | 0, _, _, h => by rw [h.2]; rfl
  | n + 1, _, _, ⟨y, t, _, h2, h3⟩ => by rw [h3]; rfl
theorem Gr.last : ∀ {n : Nat} {x : Nd} {r : List Nd}, Gr R F n x r → ∃ z, r.getLast? = some z ∧ F z
  | 0, x, _, h => ⟨x, by rw [h.2]; rfl, h.1⟩
  | n + 1, x, _, ⟨y, t, _, h2, h3⟩ => by
    obtain ⟨z, e, f⟩ := h2.last
    refine ⟨z, ?_, f⟩
    rw [h3]
    cases t with
    | nil => cases e
    | cons a t => rw [List.getLast?_cons_cons]; exact e
/-- a walk, its places told: p begins with x and its neighbours are related -/
def Pth (R : Nd → Nd → Prop) : Nd → List Nd → Prop
  | x, [] => False
  | x, [y] => x = y
  | x, y :: z :: t => x = y ∧ R x z ∧ Pth R z (z :: t)
theorem pth_cons {x : Nd} {p : List Nd} (h : Pth R x p) : ∃ t, p = x :: t := by
  match p, h with
  | [y], h => exact ⟨[], by rw [show x = y from h]⟩
  | y :: z :: t, h => exact ⟨z :: t, by rw [h.1]⟩
theorem pth_snoc : ∀ {p : List Nd} {x z : Nd}, Pth R x p → (∀ y, p.getLast? = some y → R y z) → Pth R x (p ++ [z])
  | [y], x, z, h, k => ⟨h, by rw [show x = y from h]; exact k y rfl, rfl⟩
  | y :: w :: t, x, z, h, k => ⟨h.1, h.2.1, pth_snoc (p := w :: t) h.2.2 fun y' e => k y' (by rw [List.getLast?_cons_cons]; exact e)⟩
theorem pth_init : ∀ {p : List Nd} {x z : Nd}, p ≠ [] → Pth R x (p ++ [z]) → Pth R x p ∧ ∀ y, p.getLast? = some y → R y z
  | [y], x, z, _, h => ⟨h.1, fun y' e => by
      have : y = y' := Option.some.inj e
      rw [← this, ← h.1]
      exact h.2.1⟩
  | y :: w :: t, x, z, _, h => by
    obtain ⟨h1, h2⟩ := pth_init (p := w :: t) (by simp) h.2.2
    exact ⟨⟨h.1, h.2.1, h1⟩, fun y' e => h2 y' (by rw [List.getLast?_cons_cons] at e; exact e)⟩
theorem pth_wk : ∀ {p : List Nd} {x z : Nd}, Pth R x p → p.getLast? = some z → F z → Wk R F (p.length - 1) x
  | [y], x, z, h, e, f => by
    have : y = z := Option.some.inj e
    show F x
    rw [show x = y from h, this]
    exact f
  | y :: w :: t, x, z, h, e, f => ⟨w, h.2.1, pth_wk (p := w :: t) h.2.2 (by rw [List.getLast?_cons_cons] at e; exact e) f⟩
theorem gr_pth : ∀ {n : Nat} {x : Nd} {r : List Nd}, Gr R F n x r → Pth R x r
  | 0, x, _, h => by rw [h.2]; rfl
  | n + 1, x, _, ⟨y, t, h1, h2, h3⟩ => by
    have hp := gr_pth h2
    obtain ⟨u, rfl⟩ := pth_cons hp
    rw [h3]
    exact ⟨rfl, h1.1.1, hp⟩
/-- on it each is nearer than the one ahead -/
theorem gr_ds : ∀ {n : Nat} {x : Nd} {r : List Nd}, Gr R F n x r → Ds R F n x → ∀ (i : Nat) (z : Nd), r[i]? = some z → i ≤ n ∧ Ds R F (n - i) z
  | 0, x, _, h, d, i, z, e => by
    rw [h.2] at e
    match i, e with
    | 0, e =>
      have : x = z := Option.some.inj e
      rw [← this]
      exact ⟨Nat.le_refl _, d⟩
  | n + 1, x, _, ⟨y, t, h1, h2, h3⟩, d, i, z, e => by
    rw [h3] at e
    match i, e with
    | 0, e =>
      have : x = z := Option.some.inj e
      rw [← this]
      exact ⟨Nat.zero_le _, d⟩
    | i + 1, e =>
      obtain ⟨h4, h5⟩ := gr_ds h2 h1.1.2 i z e
      exact ⟨by omega, by rw [show n + 1 - (i + 1) = n - i by omega]; exact h5⟩
theorem gr_nodup {n : Nat} {x : Nd} {r : List Nd} (h : Gr R F n x r) (d : Ds R F n x) : r.Nodup := by
  rw [List.nodup_iff_pairwise_ne, List.pairwise_iff_getElem]
  intro i j hi hj hij e
  obtain ⟨h1, h2⟩ := gr_ds h d i _ (List.getElem?_eq_getElem hi)
  obtain ⟨h3, h4⟩ := gr_ds h d j _ (List.getElem?_eq_getElem hj)
  rw [e] at h2
  have := h2.eq h4
  omega
end
/-- the order of roads: the first unlike places, else the shorter -/
def rLt : List Nd → List Nd → Bool
  | [], [] => false
  | [], _ :: _ => true
  | _ :: _, [] => false
  | x :: xs, y :: ys => if x = y then rLt xs ys else decide (x < y)
theorem rLt_self : ∀ a : List Nd, rLt a a = false
  | [] => rfl
  | x :: xs => by
    show (if x = x then rLt xs xs else decide (x < x)) = false
    rw [if_pos rfl, rLt_self xs]
theorem lt_asym {x y : Nd} (h : x < y) : ¬ y < x := fun k => List.lt_irrefl _ (List.lt_trans h k)
theorem rLt_asy : ∀ a b : List Nd, rLt a b = true → rLt b a = false
  | [], [], h => by cases h
  | [], _ :: _, _ => rfl
  | _ :: _, [], h => by cases h
  | x :: xs, y :: ys, h => by
    have h : (if x = y then rLt xs ys else decide (x < y)) = true := h
    show (if y = x then rLt ys xs else decide (y < x)) = false
    by_cases c : x = y
    · rw [if_pos c] at h
      rw [if_pos c.symm]
      exact rLt_asy xs ys h
    · rw [if_neg c] at h
      rw [if_neg (fun z => c z.symm)]
      exact decide_eq_false (lt_asym (of_decide_eq_true h))
theorem rLt_tr : ∀ a b c : List Nd, rLt a b = false → rLt b c = false → rLt a c = false
  | [], [], _, _, k => k
  | [], _ :: _, _, h, _ => by cases h
  | _ :: _, _, [], _, _ => rfl
  | _ :: _, [], _ :: _, _, k => by cases k
  | x :: xs, y :: ys, z :: zs, h, k => by
    have h : (if x = y then rLt xs ys else decide (x < y)) = false := h
    have k : (if y = z then rLt ys zs else decide (y < z)) = false := k
    show (if x = z then rLt xs zs else decide (x < z)) = false
    by_cases c : x = y
    · subst c
      rw [if_pos rfl] at h
      by_cases c2 : x = z
      · rw [if_pos c2] at k ⊢
        exact rLt_tr xs ys zs h k
      · rw [if_neg c2] at k ⊢
        exact k
    · rw [if_neg c] at h
      have h := List.not_lt.mp (of_decide_eq_false h)
      by_cases c2 : y = z
      · subst c2
        rw [if_neg c]
        exact decide_eq_false (List.not_lt.mpr h)
      · rw [if_neg c2] at k
        have k := List.not_lt.mp (of_decide_eq_false k)
        have hk := List.le_trans k h
        by_cases c3 : x = z
        · subst c3
          exact absurd (List.le_antisymm h k) (fun e => c e.symm)
        · rw [if_neg c3]
          exact decide_eq_false (List.not_lt.mpr hk)
theorem rLt_anti : ∀ a b : List Nd, rLt a b = false → rLt b a = false → a = b
  | [], [], _, _ => rfl
  | [], _ :: _, h, _ => by cases h
  | _ :: _, [], _, k => by cases k
  | x :: xs, y :: ys, h, k => by
    have h : (if x = y then rLt xs ys else decide (x < y)) = false := h
    have k : (if y = x then rLt ys xs else decide (y < x)) = false := k
    by_cases c : x = y
    · subst c
      rw [if_pos rfl] at h k
      rw [rLt_anti xs ys h k]
    · rw [if_neg c] at h
      rw [if_neg (fun z => c z.symm)] at k
      exact absurd (List.le_antisymm (List.not_lt.mp (of_decide_eq_false k)) (List.not_lt.mp (of_decide_eq_false h))) c
/-- none of the roads of as many steps is less -/
theorem gr_least {R : Nd → Nd → Prop} {F : Nd → Prop} : ∀ {n : Nat} {x : Nd} {r p : List Nd} {z : Nd}, Gr R F n x r → Ds R F n x → Pth R x p → p.length = n + 1 → p.getLast? = some z → F z → rLt p r = false
  | 0, x, _, p, z, h, d, hp, hl, e, f => by
    obtain ⟨t, rfl⟩ := pth_cons hp
    have : t = [] := List.eq_nil_of_length_eq_zero (by rw [List.length_cons] at hl; omega)
    rw [h.2, this]
    exact rLt_self _
  | n + 1, x, _, p, z, ⟨y, t, h1, h2, h3⟩, d, hp, hl, e, f => by
    match p, hp, hl, e with
    | y' :: w :: u, hp, hl, e =>
      have e2 : (w :: u).getLast? = some z := by rw [List.getLast?_cons_cons] at e; exact e
      have l2 : (w :: u).length = n + 1 := by rw [List.length_cons] at hl; omega
      have hw : Wk R F n w := by
        have := pth_wk hp.2.2 e2 f
        rw [l2] at this
        exact this
      have dw : Ds R F n w := d.next hp.2.1 hw
      have nl : ¬ w < y := h1.2 w ⟨hp.2.1, dw⟩
      rw [h3, ← hp.1]
      show (if x = x then rLt (w :: u) t else decide (x < x)) = false
      rw [if_pos rfl]
      obtain ⟨t', rfl⟩ := pth_cons (gr_pth h2)
      by_cases c : w = y
      · subst c
        exact gr_least h2 dw hp.2.2 l2 e2 f
      · show (if w = y then rLt u t' else decide (w < y)) = false
        rw [if_neg c]
        exact decide_eq_false nl
/-- among finitely many there is a least -/
theorem lst_ex : ∀ {ls : List Nd} {P : Nd → Prop}, (∀ y, P y → y ∈ ls) → (∃ y, P y) → ∃ y, Lst P y
  | [], P, h, ⟨y, hy⟩ => by cases h y hy
  | a :: r, P, h, ⟨y, hy⟩ => by
    by_cases c : ∃ z, P z ∧ z ≠ a
    · obtain ⟨y, hy, hl⟩ := lst_ex (ls := r) (P := fun z => P z ∧ z ≠ a) (fun z hz => (List.mem_cons.mp (h z hz.1)).elim (fun e => absurd e hz.2) id) c
      by_cases ha : P a ∧ a < y
      · refine ⟨a, ha.1, fun z hz hlt => ?_⟩
        by_cases e : z = a
        · rw [e] at hlt
          exact List.lt_irrefl _ hlt
        · exact hl z ⟨hz, e⟩ (List.lt_trans hlt ha.2)
      · refine ⟨y, hy.1, fun z hz hlt => ?_⟩
        by_cases e : z = a
        · rw [e] at hlt hz
          exact ha ⟨hz, hlt⟩
        · exact hl z ⟨hz, e⟩ hlt
    · have : ∀ z, P z → z = a := fun z hz => Classical.byContradiction fun e => c ⟨z, hz, e⟩
      have e := this y hy
      refine ⟨y, hy, fun z hz hlt => ?_⟩
      rw [this z hz, e] at hlt
      exact List.lt_irrefl _ hlt
theorem gr_ex {R : Nd → Nd → Prop} {F : Nd → Prop} {ls : List Nd} (hf : ∀ n y, Ds R F n y → y ∈ ls) : ∀ (n : Nat) {x : Nd}, Ds R F n x → ∃ r, Gr R F n x r
  | 0, x, h => ⟨[x], h.1, rfl⟩
  | n + 1, x, h => by
    obtain ⟨y, hy⟩ := lst_ex (ls := ls) (P := fun y => R x y ∧ Ds R F n y) (fun y hy => hf n y hy.2) h.down
    obtain ⟨t, ht⟩ := gr_ex hf n hy.1.2
    exact ⟨x :: t, y, t, hy, ht, rfl⟩
theorem pth_mem {R : Nd → Nd → Prop} {ls : List Nd} (hr : ∀ y z, R y z → z ∈ ls) : ∀ {p : List Nd} {x : Nd}, Pth R x p → x ∈ ls → ∀ z ∈ p, z ∈ ls
  | [y], x, h, hx, z, hz => by
    rw [List.mem_singleton.mp hz, ← show x = y from h]
    exact hx
  | y :: w :: t, x, h, hx, z, hz => by
    rcases List.mem_cons.mp hz with e | e
    · rw [e, ← h.1]
      exact hx
    · exact pth_mem hr (p := w :: t) h.2.2 (hr _ _ h.2.1) z e
theorem ne_snoc {α : Type} {p : List α} (h : p ≠ []) : ∃ q z, p = q ++ [z] := ⟨p.dropLast, p.getLast h, (List.dropLast_concat_getLast h).symm⟩
/-- roads of unlike places, t steps long -/
def SP (R : Nd → Nd → Prop) (x : Nd) (t : Nat) (p : List Nd) : Prop := Pth R x p ∧ p.length = t + 1 ∧ p.Nodup
theorem sp_zero {R : Nd → Nd → Prop} {x : Nd} {p : List Nd} : SP R x 0 p ↔ p = [x] := by
  constructor
  · rintro ⟨h1, h2, _⟩
    obtain ⟨t, rfl⟩ := pth_cons h1
    rw [List.eq_nil_of_length_eq_zero (l := t) (by rw [List.length_cons] at h2; omega)]
  · rintro rfl
    exact ⟨rfl, rfl, by simp⟩
theorem SP.ne {R : Nd → Nd → Prop} {x : Nd} {t : Nat} {p : List Nd} (h : SP R x t p) : p ≠ [] := fun e => by
  have := h.2.1
  rw [e] at this
  cases this
theorem sp_succ {R : Nd → Nd → Prop} {x : Nd} {t : Nat} {q : List Nd} : SP R x (t + 1) q ↔ ∃ p y z, SP R x t p ∧ p.getLast? = some y ∧ (z ≠ y ∧ R y z) ∧ z ∉ p ∧ q = p ++ [z] := by
  constructor
  · intro h
    obtain ⟨p, z, rfl⟩ := ne_snoc h.ne
    obtain ⟨h1, h2, h3⟩ := h
    rw [List.length_append, List.length_singleton] at h2
    have pn : p ≠ [] := fun e => by rw [e] at h2; simp at h2
    obtain ⟨h4, h5⟩ := pth_init pn h1
    obtain ⟨p', y, rfl⟩ := ne_snoc pn
    obtain ⟨n1, n2, n3⟩ := List.nodup_append.mp h3
    have zn : z ∉ p' ++ [y] := fun hz => n3 z hz z (List.mem_singleton.mpr rfl) rfl
    have ey : (p' ++ [y]).getLast? = some y := by simp
    exact ⟨p' ++ [y], y, z, ⟨h4, by omega, n1⟩, ey, ⟨fun e => zn (by rw [e]; simp), h5 y ey⟩, zn, rfl⟩
  · rintro ⟨p, y, z, ⟨h1, h2, h3⟩, hy, ⟨_, hr⟩, hz, rfl⟩
    refine ⟨pth_snoc h1 fun y' e => ?_, by rw [List.length_append, List.length_singleton, h2], List.nodup_append.mpr ⟨h3, by simp, fun a ha b hb e => ?_⟩⟩
    · rw [hy] at e
      have : y = y' := Option.some.inj e
      rw [← this]
      exact hr
    · rw [List.mem_singleton.mp hb] at e
      rw [e] at ha
      exact hz ha
end Rm
/-! tuple + tuple and slices of tuples, whichever object comes -/
namespace Th
open PySem PySem.Spec PyProof.Rows L2
def rCatS (K : PySem.W.Frag) : R2 := fun x y H Q => ∃ (a b : Addr) (xs ys : List V), x = .ref a ∧ y = .ref b ∧ H a = some (.tup xs) ∧ H b = some (.tup ys) ∧ xs.length + ys.length ≤ sizeLine ∧ ∀ (c : Addr) (H' : Hp), Same H H' → H' c = some (.tup (xs ++ ys)) → Q (.ref c) H'
theorem op_catS {X : Cx} : OpR X (binaryOp .Add) (rCatS X.K) := by
  intro pins s σ H x y v u Q I rx ry h
  obtain ⟨a, b, xs, ys, rfl, rfl, hx, hy, hz, h⟩ := h
  exact op_catA pins s σ H _ _ v u Q I rx ry ⟨a, b, xs, ys, rfl, rfl, SqT.of hx, SqT.of hy, hz, fun e => h b H (.refl _) (by rw [hy, e]; rfl), fun _ e => h a H (.refl _) (by rw [hx, e, List.append_nil]), fun _ _ p np => h p _ (same_upd np) upd_same⟩
def rSlS (K : PySem.W.Frag) : V → Option Int → Option Int → Hp → VK → Prop := fun x lo hi H Q => ∃ (a : Addr) (xs : List V), x = .ref a ∧ H a = some (.tup xs) ∧ ∀ (c : Addr) (H' : Hp), Same H H' → H' c = some (.tup (cutV xs lo hi)) → Q (.ref c) H'
theorem sl_tupS {X : Cx} : SlR X (rSlS X.K) := by
  intro pins s σ H x v vl vu lo hi sl Q I rx hs pl pu h
  obtain ⟨a, xs, rfl, hx, h⟩ := h
  exact sl_tupA pins s σ H _ v vl vu lo hi sl Q I rx hs pl pu ⟨a, xs, rfl, SqT.of hx, fun e => h a H (.refl _) (by rw [hx]; unfold cutV; rw [e.1, e.2, List.drop_zero, Nat.sub_zero, List.take_length]), fun _ p np => h p _ (same_upd np) upd_same⟩
end Th
namespace Th
open PySem PySem.Spec PyProof.Rows L2
/-! the text -/
def topS (i : Nat) : Stmt := PySem.Challenge.pw_throughlines_k07_roads_of_lines.main.body.getD i (.Pass ⟨0, 0, 0, 0⟩)
abbrev FnP (K : PySem.W.Frag) (x : Str) (st : Stmt) (f : Addr) (fd : FuncData) : Prop := FunD K x x (defArgs st) (defBody st) (defScope st) [] [] f fd
abbrev s_road_of_lines : Stmt := topS 1
abbrev N_road_of_lines : List Str := ["net", "line", "far"]
theorem sc_road_of_lines : FnScope N_road_of_lines ["net", "line", "far"] (defScope s_road_of_lines) := ⟨rfl, rfl, rfl, by decide +kernel, rfl, by decide +kernel, by decide +kernel⟩
abbrev s_road_to_any : Stmt := topS 2
abbrev N_road_to_any : List Str := ["net", "line", "fars", "beside", "steps", "road", "nearer", "onward", "near"]
theorem sc_road_to_any : FnScope N_road_to_any ["net", "line", "fars"] (defScope s_road_to_any) := ⟨rfl, rfl, rfl, by decide +kernel, rfl, by decide +kernel, by decide +kernel⟩
abbrev s_steps_to : Stmt := topS 3
abbrev N_steps_to : List Str := ["beside", "fars", "steps", "many", "edge", "line", "near"]
theorem sc_steps_to : FnScope N_steps_to ["beside", "fars"] (defScope s_steps_to) := ⟨rfl, rfl, rfl, by decide +kernel, rfl, by decide +kernel, by decide +kernel⟩
abbrev s_lines_beside : Stmt := topS 4
abbrev N_lines_beside : List Str := ["net", "line"]
theorem sc_lines_beside : FnScope N_lines_beside ["net"] (defScope s_lines_beside) := ⟨rfl, rfl, rfl, by decide +kernel, rfl, by decide +kernel, by decide +kernel⟩
abbrev s_lines_joined : Stmt := topS 5
abbrev N_lines_joined : List Str := ["net", "line", "name", "joined", "beside"]
theorem sc_lines_joined : FnScope N_lines_joined ["net", "line"] (defScope s_lines_joined) := ⟨rfl, rfl, rfl, by decide +kernel, rfl, by decide +kernel, by decide +kernel⟩
abbrev s_l_bag : Stmt := topS 7
abbrev N_l_bag : List Str := ["_law_script", "_law_at", "_law_cell", "_law_great", "_law_primes"]
theorem sc_l_bag : FnScope N_l_bag ["_law_script", "_law_at"] (defScope s_l_bag) := ⟨rfl, rfl, rfl, by decide +kernel, rfl, by decide +kernel, by decide +kernel⟩
abbrev s_l_take : Stmt := topS 8
abbrev N_l_take : List Str := ["_law_bag_here", "_law_many", "_law_digit"]
theorem sc_l_take : FnScope N_l_take ["_law_bag_here", "_law_many"] (defScope s_l_take) := ⟨rfl, rfl, rfl, by decide +kernel, rfl, by decide +kernel, by decide +kernel⟩
abbrev s_l_names : Stmt := topS 9
abbrev N_l_names : List Str := ["_law_bag_here", "_law_many", "_law_letters", "_law_found", "_law_k", "_law_size", "_law_stem", "_law_turn"]
theorem sc_l_names : FnScope N_l_names ["_law_bag_here", "_law_many"] (defScope s_l_names) := ⟨rfl, rfl, rfl, by decide +kernel, rfl, by decide +kernel, by decide +kernel⟩
abbrev s_l_spots : Stmt := topS 10
abbrev N_l_spots : List Str := ["_law_bag_here", "_law_many", "_law_junctions", "_law_found", "_law_here", "_law_k", "_law_some", "_law_turn"]
theorem sc_l_spots : FnScope N_l_spots ["_law_bag_here", "_law_many", "_law_junctions"] (defScope s_l_spots) := ⟨rfl, rfl, rfl, by decide +kernel, rfl, by decide +kernel, by decide +kernel⟩
abbrev s_l_places : Stmt := topS 11
abbrev N_l_places : List Str := ["_law_bag_here", "_law_many", "_law_junctions", "_law_more", "_law_names_here", "_law_spots_here", "_law_first", "_law_last", "_law_towns", "_law_k"]
theorem sc_l_places : FnScope N_l_places ["_law_bag_here", "_law_many"] (defScope s_l_places) := ⟨rfl, rfl, rfl, by decide +kernel, rfl, by decide +kernel, by decide +kernel⟩
abbrev s_l_net : Stmt := topS 12
abbrev N_l_net : List Str := ["_law_bag_here", "_law_many", "_law_lines", "_law_places_here", "_law_row", "_law_ties", "_law_k", "_law_one", "_law_other", "_law_common", "_law_chains", "_law_near", "_law_line"]
theorem sc_l_net : FnScope N_l_net ["_law_bag_here"] (defScope s_l_net) := ⟨rfl, rfl, rfl, by decide +kernel, rfl, by decide +kernel, by decide +kernel⟩
abbrev s_l_laid : Stmt := topS 13
abbrev N_l_laid : List Str := ["_law_bag_here", "_law_lines", "_law_places_here", "_law_ties", "_law_stations", "_law_junctions", "_law_rows", "_law_name", "_law_some", "_law_one", "_law_other", "_law_tie", "_law_line"]
theorem sc_l_laid : FnScope N_l_laid ["_law_bag_here", "_law_lines", "_law_places_here", "_law_ties"] (defScope s_l_laid) := ⟨rfl, rfl, rfl, by decide +kernel, rfl, by decide +kernel, by decide +kernel⟩
abbrev s_l_next : Stmt := topS 14
abbrev N_l_next : List Str := ["_law_net_here", "_law_line", "_law_found", "_law_place", "_law_some", "_law_one"]
theorem sc_l_next : FnScope N_l_next ["_law_net_here", "_law_line"] (defScope s_l_next) := ⟨rfl, rfl, rfl, by decide +kernel, rfl, by decide +kernel, by decide +kernel⟩
abbrev s_l_road : Stmt := topS 15
abbrev N_l_road : List Str := ["_law_net_here", "_law_line", "_law_goals", "_law_begun", "_law_turn", "_law_there", "_law_longer", "_law_one", "_law_other"]
theorem sc_l_road : FnScope N_l_road ["_law_net_here", "_law_line", "_law_goals"] (defScope s_l_road) := ⟨rfl, rfl, rfl, by decide +kernel, rfl, by decide +kernel, by decide +kernel⟩
abbrev s_l_like : Stmt := topS 16
abbrev N_l_like : List Str := ["_law_told", "_law_due", "_law_one", "_law_other"]
theorem sc_l_like : FnScope N_l_like ["_law_told", "_law_due"] (defScope s_l_like) := ⟨rfl, rfl, rfl, by decide +kernel, rfl, by decide +kernel, by decide +kernel⟩
abbrev s_l_less : Stmt := topS 17
abbrev N_l_less : List Str := ["_law_bag_here", "_law_net_here", "_law_least", "_law_some", "_law_places_here", "_law_one"]
theorem sc_l_less : FnScope N_l_less ["_law_bag_here", "_law_net_here"] (defScope s_l_less) := ⟨rfl, rfl, rfl, by decide +kernel, rfl, by decide +kernel, by decide +kernel⟩
abbrev s_law : Stmt := topS 18
abbrev N_law : List Str := ["_law_script", "_law_at", "_law_bag_here", "_law_net_here", "_law_first", "_law_line", "_law_far", "_law_due", "_law_turn", "_law_told"]
theorem sc_law : FnScope N_law ["_law_script"] (defScope s_law) := ⟨rfl, rfl, rfl, by decide +kernel, rfl, by decide +kernel, by decide +kernel⟩
structure Defs (K : PySem.W.Frag) (mg : Str → Option Value) where
  a_road_of_lines : Addr
  d_road_of_lines : FuncData
  F_road_of_lines : FnP K "road_of_lines" s_road_of_lines a_road_of_lines d_road_of_lines
  g_road_of_lines : mg "road_of_lines" = some (.ref a_road_of_lines)
  b_road_of_lines : Binds K d_road_of_lines ["net", "line", "far"] []
  a_road_to_any : Addr
  d_road_to_any : FuncData
  F_road_to_any : FnP K "road_to_any" s_road_to_any a_road_to_any d_road_to_any
  g_road_to_any : mg "road_to_any" = some (.ref a_road_to_any)
  b_road_to_any : Binds K d_road_to_any ["net", "line", "fars"] []
  a_steps_to : Addr
  d_steps_to : FuncData
  F_steps_to : FnP K "steps_to" s_steps_to a_steps_to d_steps_to
  g_steps_to : mg "steps_to" = some (.ref a_steps_to)
  b_steps_to : Binds K d_steps_to ["beside", "fars"] []
  a_lines_beside : Addr
  d_lines_beside : FuncData
  F_lines_beside : FnP K "lines_beside" s_lines_beside a_lines_beside d_lines_beside
  g_lines_beside : mg "lines_beside" = some (.ref a_lines_beside)
  b_lines_beside : Binds K d_lines_beside ["net"] []
  a_lines_joined : Addr
  d_lines_joined : FuncData
  F_lines_joined : FnP K "lines_joined" s_lines_joined a_lines_joined d_lines_joined
  g_lines_joined : mg "lines_joined" = some (.ref a_lines_joined)
  b_lines_joined : Binds K d_lines_joined ["net", "line"] []
  a_l_bag : Addr
  d_l_bag : FuncData
  F_l_bag : FnP K "_law_bag" s_l_bag a_l_bag d_l_bag
  g_l_bag : mg "_law_bag" = some (.ref a_l_bag)
  b_l_bag : Binds K d_l_bag ["_law_script", "_law_at"] []
  a_l_take : Addr
  d_l_take : FuncData
  F_l_take : FnP K "_law_take" s_l_take a_l_take d_l_take
  g_l_take : mg "_law_take" = some (.ref a_l_take)
  b_l_take : Binds K d_l_take ["_law_bag_here", "_law_many"] []
  a_l_names : Addr
  d_l_names : FuncData
  F_l_names : FnP K "_law_names" s_l_names a_l_names d_l_names
  g_l_names : mg "_law_names" = some (.ref a_l_names)
  b_l_names : Binds K d_l_names ["_law_bag_here", "_law_many"] []
  a_l_spots : Addr
  d_l_spots : FuncData
  F_l_spots : FnP K "_law_spots" s_l_spots a_l_spots d_l_spots
  g_l_spots : mg "_law_spots" = some (.ref a_l_spots)
  b_l_spots : Binds K d_l_spots ["_law_bag_here", "_law_many", "_law_junctions"] []
  a_l_places : Addr
  d_l_places : FuncData
  F_l_places : FnP K "_law_places" s_l_places a_l_places d_l_places
  g_l_places : mg "_law_places" = some (.ref a_l_places)
  b_l_places : Binds K d_l_places ["_law_bag_here", "_law_many"] []
  a_l_net : Addr
  d_l_net : FuncData
  F_l_net : FnP K "_law_net" s_l_net a_l_net d_l_net
  g_l_net : mg "_law_net" = some (.ref a_l_net)
  b_l_net : Binds K d_l_net ["_law_bag_here"] []
  a_l_laid : Addr
  d_l_laid : FuncData
  F_l_laid : FnP K "_law_laid" s_l_laid a_l_laid d_l_laid
  g_l_laid : mg "_law_laid" = some (.ref a_l_laid)
  b_l_laid : Binds K d_l_laid ["_law_bag_here", "_law_lines", "_law_places_here", "_law_ties"] []
  a_l_next : Addr
  d_l_next : FuncData
  F_l_next : FnP K "_law_next" s_l_next a_l_next d_l_next
  g_l_next : mg "_law_next" = some (.ref a_l_next)
  b_l_next : Binds K d_l_next ["_law_net_here", "_law_line"] []
  a_l_road : Addr
  d_l_road : FuncData
  F_l_road : FnP K "_law_road" s_l_road a_l_road d_l_road
  g_l_road : mg "_law_road" = some (.ref a_l_road)
  b_l_road : Binds K d_l_road ["_law_net_here", "_law_line", "_law_goals"] []
  a_l_like : Addr
  d_l_like : FuncData
  F_l_like : FnP K "_law_like" s_l_like a_l_like d_l_like
  g_l_like : mg "_law_like" = some (.ref a_l_like)
  b_l_like : Binds K d_l_like ["_law_told", "_law_due"] []
  a_l_less : Addr
  d_l_less : FuncData
  F_l_less : FnP K "_law_less" s_l_less a_l_less d_l_less
  g_l_less : mg "_law_less" = some (.ref a_l_less)
  b_l_less : Binds K d_l_less ["_law_bag_here", "_law_net_here"] []
  z_abs : mg "abs" = none
  z_all : mg "all" = none
  z_bool : mg "bool" = none
  z_int : mg "int" = none
  z_isinstance : mg "isinstance" = none
  z_len : mg "len" = none
  z_list : mg "list" = none
  z_max : mg "max" = none
  z_min : mg "min" = none
  z_range : mg "range" = none
  z_set : mg "set" = none
  z_sorted : mg "sorted" = none
  z_tuple : mg "tuple" = none
  z_zip : mg "zip" = none
end Th
namespace Th
open PySem PySem.Spec PyProof.Rows L2
section
variable {P : Program} {w : World} {K : PySem.W.Frag} {mg : Str → Option Value} {base : Heap} {k : Nat}
theorem ok_l_bag (T : Defs K mg) : FnOk P w K mg base CX0 (k + 1) T.a_l_bag T.d_l_bag ["_law_script", "_law_at"] (sp_bag K) := by
  refine T.F_l_bag.ok sc_l_bag (fun vs H Q E h => ?_) (fun cdv A outer s H vs Q E hr h => ?_)
  · obtain ⟨a, ns, i, rfl, _⟩ := h
    rfl
  · obtain ⟨a, ns, i, rfl, hS, hi, q⟩ := h
    refine ⟨_, PSs.nox
(pss_cons (ps_set (i := 2) sc_l_bag.nd rfl (.inl rfl) (pe_int))
    (pss_cons (ps_if (pt_cmpR op_lt (pv 1) (pe_callB (r := rLenS K) call_lenS (by rfl) T.z_len (by decide +kernel) (pa_cons (pv 0) pa_nil)) (nomark _))
      (pss_one (ps_set (i := 2) sc_l_bag.nd rfl (.inl rfl) (pe_ix (r := rIxL K) ix_list (pv 0) (pv 1) (fun _ _ => rfl))))
      pss_nil)
    (pss_cons (ps_set (i := 3) sc_l_bag.nd rfl (.inl rfl) (pe_int))
    (pss_cons (ps_if (pt_cmpR op_ge (pe_callB call_abs (by rfl) T.z_abs (by decide +kernel) (pa_cons (pv 2) pa_nil)) (pe_op op_pow (pe_int) (pe_int)) (nomark _))
      (pss_one (ps_set (i := 3) sc_l_bag.nd rfl (.inl rfl) (pe_callB call_abs (by rfl) T.z_abs (by decide +kernel) (pa_cons (pv 2) pa_nil))))
      pss_nil)
    (pss_cons (ps_set (i := 4) sc_l_bag.nd rfl (.inl rfl) (pe_lst (pa_cons (pe_int) (pa_cons (pe_int) (pa_cons (pe_int) (pa_cons (pe_int) (pa_cons (pe_int) (pa_cons (pe_int) (pa_cons (pe_int) (pa_cons (pe_int) pa_nil))))))))))
    (pss_one (ps_ret (pe_lst (pa_cons (pv 3) (pa_cons (pe_op op_mod (pe_op op_pow (pe_op op_add (pe_op op_add (pe_op op_mod (pv 2) (pe_int)) (pe_op op_mul (pe_int) (pv 1))) (pe_int)) (pe_int)) (pe_ix (r := rIxL K) ix_list (pv 4) (pe_op op_mod (pv 1) (pe_int)) (fun _ _ => rfl))) pa_nil))))))))))
      , ?_⟩
    obtain ⟨pr, hp, hp0, hp1⟩ := primes_at i
    have fin : ∀ (c g : Int), 0 ≤ g → ∀ l, H l = none → ∀ H1, H1 = upd H l (.lst [V.int 2147483629, .int 2147483587, .int 2147483579, .int 2147483563, .int 2147483549, .int 2147483543, .int 2147483497, .int 2147483489]) →
        ∀ p, H1 p = none → Q (.ref p) (upd H1 p (.lst [.int g, .int ((c % 2147483647 + 104729 * (i : Int) + 7) ^ (5 : Int).toNat % pr)])) := by
      intro c g hg l nl H1 e p np
      have s1 : Same H H1 := by rw [e]; exact same_upd nl
      exact q _ p (s1.trans (same_upd np)) (s1.free np) ⟨g, _, upd_same, hg, Int.emod_nonneg _ (by omega), Int.lt_trans (Int.emod_lt_of_pos _ hp0) hp1⟩
    refine ⟨.int i, rfl, .ref a, rfl, a, ns.map V.int, rfl, .inl hS, _, _, rfl, rfl, _, rfl, ite2 (fun e => ?_) (fun e => ?_)⟩
    · have lt : i < ns.length := by
        have := of_decide_eq_true e
        rw [List.length_map] at this
        omega
      have g1 : (ns.map V.int)[i]? = some (.int ns[i]) := by
        rw [List.getElem?_map, List.getElem?_eq_getElem lt]
        rfl
      refine ⟨.ref a, rfl, .int i, rfl, a, _, (i : Int), .int ns[i], rfl, rfl, hS, atI_nat g1, ?_⟩
      refine ⟨.int ns[i], rfl, _, rfl, 10, 18, rfl, rfl, ⟨by decide, by decide, by decide⟩, _, _, rfl, rfl, _, rfl, ite2 (fun e => ?_) (fun e => ?_)⟩
      · refine ⟨.int ns[i], rfl, _, rfl, ?_⟩
        refine ⟨by show 8 ≤ sizeLine; decide, fun l nl => ?_⟩
        refine ⟨_, rfl, .int ns[i], rfl, ns[i], 2147483647, rfl, rfl, pA, .int i, rfl, 104729, i, rfl, rfl, .inl ⟨by decide, by decide⟩, _, _, rfl, rfl, _, 7, rfl, rfl, _, 5, rfl, rfl, ⟨by decide, by decide, ?_⟩, .ref l, rfl, .int i, rfl, i, 8, rfl, rfl, p8, l, _, _, _, rfl, rfl, SqL.of upd_same, hp, _, pr, rfl, rfl, hp0, by show 2 ≤ sizeLine; decide, fin ns[i] _ ?_ l nl _ rfl⟩
        · omega
        · split <;> omega
      · refine ⟨by show 8 ≤ sizeLine; decide, fun l nl => ?_⟩
        refine ⟨_, rfl, .int ns[i], rfl, ns[i], 2147483647, rfl, rfl, pA, .int i, rfl, 104729, i, rfl, rfl, .inl ⟨by decide, by decide⟩, _, _, rfl, rfl, _, 7, rfl, rfl, _, 5, rfl, rfl, ⟨by decide, by decide, ?_⟩, .ref l, rfl, .int i, rfl, i, 8, rfl, rfl, p8, l, _, _, _, rfl, rfl, SqL.of upd_same, hp, _, pr, rfl, rfl, hp0, by show 2 ≤ sizeLine; decide, fin ns[i] 0 (by decide) l nl _ rfl⟩
        omega
    · refine ⟨.int 0, rfl, _, rfl, 10, 18, rfl, rfl, ⟨by decide, by decide, by decide⟩, _, _, rfl, rfl, _, rfl, ite2 (fun e => ?_) (fun e => ?_)⟩
      · exact absurd (of_decide_eq_true e) (by decide)
      · refine ⟨by show 8 ≤ sizeLine; decide, fun l nl => ?_⟩
        refine ⟨_, rfl, .int 0, rfl, 0, 2147483647, rfl, rfl, pA, .int i, rfl, 104729, i, rfl, rfl, .inl ⟨by decide, by decide⟩, _, _, rfl, rfl, _, 7, rfl, rfl, _, 5, rfl, rfl, ⟨by decide, by decide, ?_⟩, .ref l, rfl, .int i, rfl, i, 8, rfl, rfl, p8, l, _, _, _, rfl, rfl, SqL.of upd_same, hp, _, pr, rfl, rfl, hp0, by show 2 ≤ sizeLine; decide, fin 0 0 (by decide) l nl _ rfl⟩
        omega
theorem ok_l_take (T : Defs K mg) : FnOk P w K mg base CX0 (k + 1) T.a_l_take T.d_l_take ["_law_bag_here", "_law_many"] sp_take := by
  refine T.F_l_take.ok sc_l_take (fun vs H Q E h => ?_) (fun cdv A outer s H vs Q E hr h => ?_)
  · obtain ⟨p, m, rfl, _⟩ := h
    rfl
  · obtain ⟨p, m, rfl, ⟨g, r, hp, g0, r0, r1⟩, m0, m1, q⟩ := h
    refine ⟨_, PSs.nox
(pss_cons (ps_if (pt_cmpR op_gt (pe_ix (r := rIxL K) ix_list (pv 0) (pe_int) (fun _ _ => rfl)) (pe_int) (nomark _))
      (pss_cons (ps_set (i := 2) sc_l_take.nd rfl (.inl rfl) (pe_op op_mod (pe_ix (r := rIxL K) ix_list (pv 0) (pe_int) (fun _ _ => rfl)) (pv 1)))
      (pss_cons (ps_asg (pe_op op_fdiv (pe_ix (r := rIxL K) ix_list (pv 0) (pe_int) (fun _ _ => rfl)) (pv 1)) (pg_sub (pv 0) (pe_int) set_list))
      (pss_one (ps_ret (pv 2)))))
      pss_nil)
    (pss_cons (ps_asg (pe_op op_mod (pe_op op_add (pe_op op_mul (pe_ix (r := rIxL K) ix_list (pv 0) (pe_int) (fun _ _ => rfl)) (pe_int)) (pe_int)) (pe_int)) (pg_sub (pv 0) (pe_int) set_list))
    (pss_one (ps_ret (pe_op op_mod (pe_op op_mod (pe_op op_pow (pe_op op_fdiv (pe_ix (r := rIxL K) ix_list (pv 0) (pe_int) (fun _ _ => rfl)) (pe_int)) (pe_int)) (pe_int)) (pv 1))))))
      , ?_⟩
    refine ⟨.ref p, rfl, p, _, 0, .int g, rfl, rfl, SqL.of hp, atI_nat (j := 0) rfl, _, 0, rfl, rfl, _, rfl, ite2 (fun e => ?_) (fun e => ?_)⟩
    · refine ⟨.ref p, rfl, p, _, 0, .int g, rfl, rfl, SqL.of hp, atI_nat (j := 0) rfl, .int m, rfl, g, m, rfl, rfl, m0, ?_⟩
      refine ⟨.ref p, rfl, p, _, 0, .int g, rfl, rfl, SqL.of hp, atI_nat (j := 0) rfl, .int m, rfl, g, m, rfl, rfl, ⟨m0, m1⟩, .ref p, rfl, p, _, 0, 0, rfl, rfl, hp, rfl, ?_⟩
      refine ⟨_, rfl, q _ _ Keep.upd ⟨_, _, upd_same, ?_, r0, r1⟩ (Int.emod_nonneg _ (by omega)) (Int.emod_lt_of_pos _ m0)⟩
      exact Int.ediv_nonneg g0 (by omega)
    · refine ⟨.ref p, rfl, p, _, 1, .int r, rfl, rfl, SqL.of hp, atI_nat (j := 1) rfl, r, 48271, rfl, rfl, .inr ⟨by decide, by decide⟩, _, 11, rfl, rfl, _, 2147483647, rfl, rfl, pA, .ref p, rfl, p, _, 1, 1, rfl, rfl, hp, rfl, ?_⟩
      have hz0 : 0 ≤ (r * 48271 + 11) % 2147483647 := Int.emod_nonneg _ (by decide)
      have hz1 : (r * 48271 + 11) % 2147483647 < 2147483647 := Int.emod_lt_of_pos _ (by decide)
      refine ⟨.ref p, rfl, p, _, 1, _, rfl, rfl, SqL.of upd_same, atI_nat (j := 1) rfl, (r * 48271 + 11) % 2147483647, 8, rfl, rfl, ⟨by decide, by decide⟩, _, 3, rfl, rfl, ⟨by decide, by decide, ?_⟩, _, 2147483629, rfl, rfl, pB, .int m, rfl, _, m, rfl, rfl, m0, ?_⟩
      · omega
      · exact q _ _ Keep.upd ⟨_, _, upd_same, g0, hz0, by omega⟩ (Int.emod_nonneg _ (by omega)) (Int.emod_lt_of_pos _ m0)
end
section
variable {P : Program} {w : World} {K : PySem.W.Frag} {mg : Str → Option Value} {base : Heap} {k : Nat}
theorem ok_l_like (T : Defs K mg) : ∀ n : Nat, FnOk P w K mg base CX0 n T.a_l_like T.d_l_like ["_law_told", "_law_due"] (sp_like n) := by
  intro n
  induction n with
  | zero =>
    exact ⟨fun vs H Q E ⟨v, u, d, _, _, _, _, z, _⟩ => absurd z (Nat.not_lt_zero _), fun A outer s H args us vs Q E _ _ _ _ ⟨v, u, d, _, _, _, _, z, _⟩ => absurd z (Nat.not_lt_zero _)⟩
  | succ n ih =>
  have G_l_like := ih
  refine T.F_l_like.ok sc_l_like (fun vs H Q E h => ?_) (fun cdv A outer s H vs Q E hr h => ?_)
  · obtain ⟨v, u, d, rfl, _⟩ := h
    rfl
  · obtain ⟨v, u, d, rfl, hv, hu, hlay, hdep, hn, q⟩ := h
    refine ⟨_, PSs.nox
(pss_cons (ps_if (PW.pt (pw_or (pt_cmpR op_ne (pe_callB call_isi (by rfl) T.z_isinstance (by decide +kernel) (pa_cons (pv 0) (pa_cons (pe_bltn (v := .ty "bool") (by rfl) T.z_bool (by decide +kernel) rfl) pa_nil))) (pe_callB call_isi (by rfl) T.z_isinstance (by decide +kernel) (pa_cons (pv 1) (pa_cons (pe_bltn (v := .ty "bool") (by rfl) T.z_bool (by decide +kernel) rfl) pa_nil))) (nomark _)) (pw_or1 (pt_cmpR (r := rNeD K) (op_neD hr.units) (pv 0) (pv 1) (nomark _)))))
      (pss_one (ps_ret (pe_bl)))
      pss_nil)
    (pss_cons (ps_if (pt_val (pe_callB call_isiT (by rfl) T.z_isinstance (by decide +kernel) (pa_cons (pv 0) (pa_cons (pe_tup (pa_cons (pe_bltn (v := .ty "list") (by rfl) T.z_list (by decide +kernel) rfl) (pa_cons (pe_bltn (v := .ty "tuple") (by rfl) T.z_tuple (by decide +kernel) rfl) pa_nil))) pa_nil))))
      (pss_one (ps_ret (pe_callB (r := rAll K) (cr_all rfl) (by rfl) T.z_all (by decide +kernel) (pa_cons (pe_lc (own := [("_law_one", 2), ("_law_other", 3)]) (g := gTup K 2 (gCons (gName 2) (gCons (gName 3) gNil))) rfl sc_l_like.nd (RZ.pi_zipA (by rfl) T.z_zip (pa_cons (pv 0) (pa_cons (pv 1) pa_nil))) (blkOk_by (N := N_l_like) (sc := defScope s_l_like) (by decide +kernel)) (fun _ _ _ _ _ => (pg_tup rfl (pgs_cons (pg_name (i := 2) sc_l_like.nd rfl (.inl rfl)) (pgs_cons (pg_name (i := 3) sc_l_like.nd rfl (.inl rfl)) pgs_nil)))) (fun _ _ _ _ _ => pts_nil) (fun _ _ _ _ _ => (pe_call G_l_like hr (by rfl) T.g_l_like T.F_l_like.kp T.b_l_like .nil pass0 (pa_cons (pv 2) (pa_cons (pv 3) pa_nil))))) pa_nil))))
      pss_nil)
    (pss_one (ps_ret (pe_bl)))))
      , ?_⟩
    have hsh : SeqAt.shaped d = true := Bool.and_eq_true_iff.mpr ⟨hlay, decide_eq_true (by omega)⟩
    refine ⟨v, rfl, v, .ty "bool", _, _, _, rfl, .ty "bool", hv.ty, kit_bool hv, u, rfl, u, .ty "bool", _, _, _, rfl, .ty "bool", hu.ty, kit_bool hu, rfl, _, rfl, iteNS rfl ?_⟩
    refine ⟨v, rfl, u, rfl, d, d, hv.dp, hu.dp, hsh, hsh, _, rfl, ?_⟩
    rw [SeqAt.eqv_refl d hlay]
    refine iteF ?_
    refine ⟨v, rfl, by show 2 ≤ sizeLine; decide, fun t nt => ?_⟩
    have s1 : Same H (upd H t (.tup [.ty "list", .ty "tuple"])) := same_upd nt
    have hv1 := hv.same s1
    have hu1 := hu.same s1
    refine ⟨v, t, [.ty "list", .ty "tuple"], _, _, _, rfl, upd_same, .cons (.ty _) (.cons (.ty _) .nil), hv1.ty, kit_seq hv1, _, rfl, ?_⟩
    generalize upd H t (.tup [.ty "list", .ty "tuple"]) = H1 at s1 hv1 hu1
    cases hv1 with
    | non => exact iteF (q _ s1)
    | bl b => exact iteF (q _ s1)
    | int b => exact iteF (q _ s1)
    | str b => exact iteF (q _ s1)
    | @lst a xs ds _ ea la ra =>
      cases hu1 with
      | @lst b ys _ _ eb lb rb =>
      refine iteT ?_
      have lx := ra.len
      have ly := rb.len
      refine ⟨.ref a, rfl, .ref b, rfl, a, b, xs, ys, rfl, .inl ⟨SqL.of ea, SqL.of eb, fun D nD => ?_⟩⟩
      refine lc_it (walk_zip (n := xs.length) (xs := xs) (ys := ys) (by omega)) (fun i H3 => Same H1 H3 ∧ H3 D = some (.lst (List.replicate i (V.bl true)))) ⟨same_upd nD, upd_same⟩ (fun i H3 _ p => ⟨SqL.of (p.1 _ _ ea), SqL.of (p.1 _ _ eb)⟩) (fun i x H3 H4 hi p y => ?_) (fun H3 p => ?_)
      · obtain ⟨t1, x1, y1, rfl, nT, rfl, e1, e2⟩ := y
        obtain ⟨d1, f1, hd1⟩ := ra.get e1
        obtain ⟨d2, f2, hd2⟩ := rb.get e2
        have e12 : d1 = d2 := Option.some.inj (f1.symm.trans f2)
        subst e12
        have s2 : Same H1 (upd H3 t1 (.tup [x1, y1])) := p.1.trans (same_upd nT)
        refine ⟨t1, [x1, y1], rfl, SqT.of upd_same, rfl, x1, [y1], rfl, y1, [], rfl, rfl, rfl, yes_ ?_⟩
        refine ⟨x1, rfl, y1, rfl, x1, y1, d1, rfl, hd1.same s2, hd2.same s2, lay_mem hlay f1, ?_, by omega, fun H5 s5 => ?_⟩
        · have := depth_mem f1
          rw [PyData.depth] at hdep
          omega
        · have eD : H5 D = some (.lst (List.replicate i (V.bl true))) := s5 _ _ (same_upd nT _ _ p.2)
          refine ⟨_, eD, by rw [List.length_replicate]; exact small5000 (by omega), fun c o e => ?_, ?_⟩
          · rw [upd_ne (ne_of_none e nD)]
            exact s5 _ _ (s2 _ _ e)
          · rw [upd_same, List.replicate_succ']
      · refine ⟨D, List.replicate xs.length true, rfl, SqL.of (by rw [p.2, List.map_replicate]), ?_⟩
        rw [show (List.replicate xs.length true).all id = true from by simp]
        exact q _ (s1.trans p.1)
    | @tup a xs ds _ ea la ra =>
      cases hu1 with
      | @tup b ys _ _ eb lb rb =>
      refine iteT ?_
      have lx := ra.len
      have ly := rb.len
      refine ⟨.ref a, rfl, .ref b, rfl, a, b, xs, ys, rfl, .inr ⟨SqT.of ea, SqT.of eb, fun D nD => ?_⟩⟩
      refine lc_it (walk_zipT (n := xs.length) (xs := xs) (ys := ys) (by omega)) (fun i H3 => Same H1 H3 ∧ H3 D = some (.lst (List.replicate i (V.bl true)))) ⟨same_upd nD, upd_same⟩ (fun i H3 _ p => ⟨SqT.of (p.1 _ _ ea), SqT.of (p.1 _ _ eb)⟩) (fun i x H3 H4 hi p y => ?_) (fun H3 p => ?_)
      · obtain ⟨t1, x1, y1, rfl, nT, rfl, e1, e2⟩ := y
        obtain ⟨d1, f1, hd1⟩ := ra.get e1
        obtain ⟨d2, f2, hd2⟩ := rb.get e2
        have e12 : d1 = d2 := Option.some.inj (f1.symm.trans f2)
        subst e12
        have s2 : Same H1 (upd H3 t1 (.tup [x1, y1])) := p.1.trans (same_upd nT)
        refine ⟨t1, [x1, y1], rfl, SqT.of upd_same, rfl, x1, [y1], rfl, y1, [], rfl, rfl, rfl, yes_ ?_⟩
        refine ⟨x1, rfl, y1, rfl, x1, y1, d1, rfl, hd1.same s2, hd2.same s2, lay_mem hlay f1, ?_, by omega, fun H5 s5 => ?_⟩
        · have := depth_mem f1
          rw [PyData.depth] at hdep
          omega
        · have eD : H5 D = some (.lst (List.replicate i (V.bl true))) := s5 _ _ (same_upd nT _ _ p.2)
          refine ⟨_, eD, by rw [List.length_replicate]; exact small5000 (by omega), fun c o e => ?_, ?_⟩
          · rw [upd_ne (ne_of_none e nD)]
            exact s5 _ _ (s2 _ _ e)
          · rw [upd_same, List.replicate_succ']
      · refine ⟨D, List.replicate xs.length true, rfl, SqL.of (by rw [p.2, List.map_replicate]), ?_⟩
        rw [show (List.replicate xs.length true).all id = true from by simp]
        exact q _ (s1.trans p.1)
end
end Th
namespace Th
open PySem PySem.Spec PyProof.Rows L2
/-! drawn names -/
abbrev nS (l : List Nat) : V := .str (SX.S l)
def Lower (l : List Nat) : Prop := ∀ c ∈ l, 97 ≤ c ∧ c ≤ 122
/-- a name: one to eight letters -/
def IsNm (l : List Nat) : Prop := 1 ≤ l.length ∧ l.length ≤ 8 ∧ Lower l
abbrev abc : Str := Str.ofString "abcdefghijklmnopqrstuvwxyz"
theorem abc_list : abc.cps.toList = (List.range 26).map (97 + ·) := by decide +kernel
theorem abc_at {d : Int} (h0 : 0 ≤ d) (h1 : d < 26) : atI abc.cps.toList d = some (97 + d.toNat) := by
  obtain ⟨j, rfl⟩ : ∃ j : Nat, d = (j : Int) := ⟨d.toNat, by omega⟩
  refine atI_nat ?_
  rw [abc_list, List.getElem?_map, List.getElem?_range (by omega)]
  rfl
theorem joinL_one : ∀ cs : List Nat, TL.joinL [] (cs.map fun c => [c]) = cs
  | [] => rfl
  | [_] => rfl
  | c :: d :: cs => by
    show [c] ++ ([] ++ TL.joinL [] ((d :: cs).map fun c => [c])) = _
    rw [joinL_one (d :: cs)]
    rfl
theorem join_signs (cs : List Nat) : Txt.join (SX.S []) ((cs.map fun c => [c]).map SX.S) = SX.S cs := by rw [SX.join_S, joinL_one]
/-- what is known of the k-th name -/
def NmAt (k : Nat) (l : List Nat) : Prop := (∃ st, l = st ++ [97 + k % 26] ∧ Lower st ∧ st.length ≤ 7) ∧ (k ≤ 25 → l.length ≤ 7) ∧ (25 < k → l.length = 8)
theorem NmAt.nm {k : Nat} {l : List Nat} (h : NmAt k l) : IsNm l := by
  obtain ⟨⟨st, rfl, hl, hn⟩, _⟩ := h
  refine ⟨by rw [List.length_append]; simp, by rw [List.length_append]; simp; omega, fun c hc => ?_⟩
  rcases List.mem_append.mp hc with z | z
  · exact hl c z
  · rw [List.mem_singleton.mp z]
    omega
theorem nm_unlike {i j : Nat} {a b : List Nat} (hi : NmAt i a) (hj : NmAt j b) (h : i < j) (hj2 : j < 52) : a ≠ b := fun e => by
  obtain ⟨⟨s1, e1, _⟩, h1, _⟩ := hi
  obtain ⟨⟨s2, e2, _⟩, _, h3⟩ := hj
  have l1 : a.getLast? = some (97 + i % 26) := by rw [e1]; simp
  have l2 : b.getLast? = some (97 + j % 26) := by rw [e2]; simp
  rw [e, l2] at l1
  have := Option.some.inj l1
  have h4 := h1 (by omega)
  have h5 := h3 (by omega)
  rw [e] at h4
  omega
theorem nm_nodup {zs : List (List Nat)} (h : ∀ k l, zs[k]? = some l → NmAt k l) (hn : zs.length ≤ 52) : zs.Nodup := by
  rw [List.nodup_iff_pairwise_ne, List.pairwise_iff_getElem]
  intro i j hi hj hij
  exact nm_unlike (h i _ (List.getElem?_eq_getElem hi)) (h j _ (List.getElem?_eq_getElem hj)) hij (by omega)
theorem p26 : (0 : Int) < 26 := by decide
section
variable {P : Program} {w : World} {K : PySem.W.Frag} {mg : Str → Option Value} {base : Heap} {k : Nat}
def sp_l_names : Sp := fun vs H Q _ => ∃ (p : Addr) (n : Nat), vs = [.ref p, .int n] ∧ Bag H p ∧ n ≤ 52 ∧ ∀ (H' : Hp) (l : Addr) (zs : List (List Nat)), Keep p H H' → Bag H' p → H l = none → H' l = some (.lst (zs.map nS)) → zs.length = n → zs.Nodup → (∀ z ∈ zs, IsNm z) → (∀ k l, zs[k]? = some l → NmAt k l) → Q (.ref l) H'
set_option maxHeartbeats 8000000 in
theorem ok_l_names (T : Defs K mg) : FnOk P w K mg base CX0 (k + 2) T.a_l_names T.d_l_names ["_law_bag_here", "_law_many"] sp_l_names := by
  have G_l_take : FnOk P w K mg base CX0 (k + 1) _ _ _ _ := ok_l_take T
  refine T.F_l_names.ok sc_l_names (fun vs H Q E h => ?_) (fun cdv A outer s H vs Q E hr h => ?_)
  · obtain ⟨p, n, rfl, _⟩ := h
    rfl
  · obtain ⟨p, n, rfl, b, hn, q⟩ := h
    refine ⟨_, PSs.nox
(pss_cons (ps_set (i := 2) sc_l_names.nd rfl (.inr rfl) (pe_str))
    (pss_cons (ps_set (i := 3) sc_l_names.nd rfl (.inl rfl) (pe_lst pa_nil))
    (pss_cons (ps_for PassesOwn.never rfl (pi_range1 (by rfl) T.z_range (pa_cons (pv 1) pa_nil)) (pg_name (i := 4) sc_l_names.nd rfl (.inl rfl))
      (Evl.pss_cut (ps_set (i := 5) sc_l_names.nd rfl (.inl rfl) (pe_ifExp (pt_cmpR op_gt (pv 4) (pe_int) (nomark _)) (pe_int) (pe_call G_l_take hr (by rfl) T.g_l_take T.F_l_take.kp T.b_l_take .nil pass0 (pa_cons (pv 0) (pa_cons (pe_int) pa_nil)))))
      (pss_cons (ps_set (i := 6) sc_l_names.nd rfl (.inl rfl) (pe_join (pe_str) (pe_lc (own := [("_law_turn", 7)]) (g := gName 7) rfl sc_l_names.nd (pi_range1 (by rfl) T.z_range (pa_cons (pv 5) pa_nil)) (blkOk_by (N := N_l_names) (sc := defScope s_l_names) (by decide +kernel)) (fun _ _ _ _ _ => (pg_name (i := 7) sc_l_names.nd rfl (.inl rfl))) (fun _ _ _ _ _ => pts_nil) (fun _ _ _ _ _ => (pe_ix ix_str (pv 2) (pe_call G_l_take hr (by rfl) T.g_l_take T.F_l_take.kp T.b_l_take .nil pass0 (pa_cons (pv 0) (pa_cons (pe_int) pa_nil))) (fun _ _ => rfl))))))
      (pss_one (ps_expr (pe_bm PySem.F.plainAttrs_list PySem.F.slot_list_append PySem.F.type_list_append mt_append (pv 3) (pa_cons (pe_op op_add_str (pv 6) (pe_ix ix_str (pv 2) (pe_op op_mod (pv 4) (pe_int)) (fun _ _ => rfl))) pa_nil)))))))
    (pss_one (ps_ret (pv 3))))))
      , ?_⟩
    refine ⟨Nat.zero_le _, fun F nF => ?_⟩
    have nFp : F ≠ p := b.ne nF
    refine ⟨.int n, rfl, n, rfl, by omega, by omega, ?_⟩
    rw [Int.toNat_natCast]
    refine for_range (lo := 0) (n := n) (fun i σ H3 => ∃ (y4 y5 y6 : Option V) (zs : List (List Nat)), σ = [some (.ref p), some (.int n), some (.str abc), some (.ref F), y4, y5, y6, none] ∧ Keep p H H3 ∧ Bag H3 p ∧ zs.length = i ∧ (∀ k l, zs[k]? = some l → NmAt k l) ∧ H3 F = some (.lst (zs.map nS)))
      ⟨none, none, none, [], rfl, .of (same_upd nF), b.keep (same_upd nF), rfl, fun k l h => by simp at h, upd_same⟩ (fun i σ H3 hi hp => ?_) (fun σ H3 hp => ?_)
    · obtain ⟨y4, y5, y6, zs, rfl, k3, b3, hl, hz, eF⟩ := hp
      -- size
      refine ⟨fun σ H4 => ∃ sz : Nat, σ = [some (.ref p), some (.int n), some (.str abc), some (.ref F), some (.int (0 + (i : Int))), some (.int sz), y6, none] ∧ Keep p H H4 ∧ Bag H4 p ∧ H4 F = some (.lst (zs.map nS)) ∧ (i ≤ 25 → sz ≤ 6) ∧ (25 < i → sz = 7), ?_, fun σ H4 mid => ?_⟩
      · refine ⟨.int (0 + (i : Int)), rfl, _, _, rfl, rfl, _, rfl, ite2 (fun c => ?_) (fun c => ?_)⟩
        · have c := of_decide_eq_true c
          exact ⟨7, rfl, k3, b3, eF, fun _ => by omega, fun _ => rfl⟩
        · have c : ¬ 25 < 0 + (i : Int) := fun z => c (decide_eq_true z)
          refine ⟨.ref p, rfl, p, 7, rfl, b3, by decide, by decide, fun H4 d k4 b4 d0 d1 => ?_⟩
          obtain ⟨sz, rfl⟩ : ∃ sz : Nat, d = (sz : Int) := ⟨d.toNat, by omega⟩
          exact ⟨sz, rfl, k3.trans k4, b4, k4 _ _ nFp eF, fun _ => by omega, fun _ => by omega⟩
      obtain ⟨sz, rfl, k4, b4, eF, hs1, hs2⟩ := mid
      -- stem
      refine ⟨⟨_, rfl⟩, .int sz, rfl, sz, rfl, by omega, by omega, fun D nD => ?_⟩
      have nDp : D ≠ p := b4.ne nD
      have nFD : F ≠ D := ne_of_none eF nD
      rw [Int.toNat_natCast]
      refine lc_it walk_range (fun j H5 => Keep p H4 H5 ∧ Bag H5 p ∧ ∃ cs : List Nat, cs.length = j ∧ Lower cs ∧ H5 D = some (.lst (((cs.map fun c => [c]).map SX.S).map V.str))) ⟨.of (same_upd nD), b4.keep (same_upd nD), [], rfl, fun c hc => by simp at hc, upd_same⟩ (fun _ _ _ _ => trivial) (fun j x H5 H6 hj pv y => ?_) (fun H5 pv => ?_)
      · obtain ⟨rfl, rfl⟩ := y
        obtain ⟨k5, b5, cs, hcl, hcs, eD⟩ := pv
        refine ⟨rfl, yes_ ?_⟩
        refine ⟨.str abc, rfl, .ref p, rfl, p, 26, rfl, b5, by decide, by decide, fun H7 d k7 b7 d0 d1 => ?_⟩
        refine ⟨abc, d, _, rfl, rfl, by decide +kernel, abc_at d0 d1, _, k7 _ _ nDp eD, by rw [List.length_map, List.length_map, List.length_map]; exact small5000 (by omega), ?_, b7.at (upd_ne nDp.symm), cs ++ [97 + d.toNat], by rw [List.length_append, hcl]; rfl, fun c hc => ?_, by rw [upd_same, List.map_append, List.map_append, List.map_append]; rfl⟩
        · intro c o nc ec
          rw [upd_ne (fun z => by rw [z] at ec; rw [nD] at ec; cases ec)]
          exact k7 _ _ nc (k5 _ _ nc ec)
        · rcases List.mem_append.mp hc with z | z
          · exact hcs c z
          · rw [List.mem_singleton.mp z]
            omega
      obtain ⟨k5, b5, cs, hcl, hcs, eD⟩ := pv
      have eF5 := k5 _ _ nFp eF
      have k5 := k4.trans k5
      refine ⟨_, D, (cs.map fun c => [c]).map SX.S, rfl, rfl, .inl (SqL.of eD), ?_, ?_⟩
      · rw [SX.lens, List.map_map, List.length_map, List.length_map]
        have e1 : (cs.map ((fun x : List Nat => x.length) ∘ fun c => [c])).sum = cs.length := by
          clear eD hcs hcl
          induction cs with
          | nil => rfl
          | cons c cs ih => rw [List.map_cons, List.sum_cons, ih, List.length_cons]; show 1 + _ = _; omega
        rw [e1]
        show cs.length + cs.length * 0 ≤ 16777216
        omega
      have ej : Txt.join (Str.ofString "") ((cs.map fun c => [c]).map SX.S) = SX.S cs := join_signs cs
      rw [ej]
      -- found.append(stem + letters[k % 26])
      have hm0 : 0 ≤ (0 + (i : Int)) % 26 := Int.emod_nonneg _ (by decide)
      have hm1 : (0 + (i : Int)) % 26 < 26 := Int.emod_lt_of_pos _ (by decide)
      refine ⟨.ref F, rfl, .inl ⟨rfl, _, SqL.of eF5⟩, nS cs, rfl, .str abc, rfl, .int (0 + (i : Int)), rfl, _, 26, rfl, rfl, p26, abc, _, _, rfl, rfl, by decide +kernel, abc_at hm0 hm1, _, _, rfl, rfl, ?_, ?_⟩
      · rw [SX.S_len]
        show cs.length + 1 ≤ sizeLine
        exact Nat.le_of_lt (small5000 (by omega))
      have ei : ((0 + (i : Int)) % 26).toNat = i % 26 := by omega
      refine ⟨F, _, _, rfl, rfl, eF5, by rw [List.length_map, hl]; exact small5000 (by omega), ?_⟩
      refine ⟨_, _, _, zs ++ [cs ++ [97 + i % 26]], rfl, fun c o nc ec => ?_, b5.at (upd_ne nFp.symm), by rw [List.length_append, hl]; rfl, fun k l hk => ?_, ?_⟩
      · rw [upd_ne (ne_of_none ec nF)]
        exact k5 _ _ nc ec
      · by_cases hk2 : k < zs.length
        · rw [List.getElem?_append_left hk2] at hk
          exact hz k l hk
        · rw [List.getElem?_append_right (by omega)] at hk
          have ek : k = i := by
            have := (List.getElem?_eq_some_iff.mp hk).1
            simp at this
            omega
          subst ek
          rw [hl, Nat.sub_self] at hk
          have := Option.some.inj hk
          subst this
          refine ⟨⟨cs, rfl, hcs, by omega⟩, fun h => ?_, fun h => ?_⟩
          · have := hs1 h
            rw [List.length_append]
            show cs.length + 1 ≤ 7
            omega
          · have := hs2 h
            rw [List.length_append]
            show cs.length + 1 = 8
            omega
      · rw [upd_same, List.map_append]
        show some (HO.lst (zs.map nS ++ [V.str (SX.S cs ++ SX.S [97 + ((0 + (i : Int)) % 26).toNat])])) = _
        rw [SX.S_cat, ei]
        rfl
    · obtain ⟨y4, y5, y6, zs, rfl, k3, b3, hl, hz, eF⟩ := hp
      refine ⟨.ref F, rfl, q _ F zs k3 b3 nF eF hl (nm_nodup hz (by omega)) (fun z hm => ?_) hz⟩
      obtain ⟨j, hj⟩ := List.getElem?_of_mem hm
      exact (hz j z hj).nm
end
end Th
namespace Th
open PySem PySem.Spec PyProof.Rows L2
/-! drawn spots: sorted lists of lines' places -/
abbrev jV (js : List Nat) : List V := js.map fun j => V.int ((j : Nat) : Int)
/-- strictly rising, below n, two at least -/
structure Spot (n : Nat) (js : List Nat) : Prop where
  rise : js.Pairwise (· < ·)
  lt : ∀ j ∈ js, j < n
  two : 2 ≤ js.length
theorem rise_len : ∀ {js : List Nat} {lo n : Nat}, js.Pairwise (· < ·) → (∀ j ∈ js, lo ≤ j ∧ j < n) → js.length + lo ≤ n ∨ js = []
  | [], _, _, _, _ => .inr rfl
  | a :: js, lo, n, h, hb => by
    have h' := List.pairwise_cons.mp h
    have ha := hb a (List.mem_cons_self ..)
    rcases rise_len (lo := a + 1) (n := n) h'.2 (fun j hj => ⟨h'.1 j hj, (hb j (List.mem_cons_of_mem _ hj)).2⟩) with z | z
    · rw [List.length_cons]
      omega
    · rw [z]
      simp only [List.length_cons, List.length_nil]
      omega
theorem Spot.len8 {n : Nat} {js : List Nat} (s : Spot n js) (h : n ≤ 8) : js.length ≤ 8 := by
  rcases rise_len (lo := 0) s.rise (fun j hj => ⟨Nat.zero_le _, s.lt j hj⟩) with z | z
  · omega
  · rw [z]
    exact Nat.zero_le _
theorem two_of {ns : List Int} {x y : Int} (hx : x ∈ ns) (hy : y ∈ ns) (h : x ≠ y) : 2 ≤ ns.length := by
  cases ns with
  | nil => cases hx
  | cons a r =>
    cases r with
    | nil =>
      rw [List.mem_singleton] at hx hy
      exact absurd (hx.trans hy.symm) h
    | cons b r =>
      rw [List.length_cons, List.length_cons]
      omega
theorem nats_of {ns : List Int} (h : ∀ x ∈ ns, 0 ≤ x) : ns = (ns.map Int.toNat).map fun j => ((j : Nat) : Int) := by
  rw [List.map_map]
  conv => lhs; rw [← List.map_id ns]
  refine List.map_congr_left fun x hx => ?_
  have := h x hx
  show x = ((x.toNat : Nat) : Int)
  omega
theorem ints_nats {ns : List Int} (h : ∀ x ∈ ns, 0 ≤ x) : ns.map V.int = jV (ns.map Int.toNat) := by
  conv => lhs; rw [nats_of h]
  rw [List.map_map]
  rfl
/-- neighbours have one in common -/
def Chained : List (List Nat) → Prop
  | a :: b :: r => (∃ x, x ∈ a ∧ x ∈ b) ∧ Chained (b :: r)
  | _ => True
theorem Chained.snoc : ∀ {qs : List (List Nat)} {a b : List Nat}, Chained (qs ++ [a]) → (∃ x, x ∈ a ∧ x ∈ b) → Chained (qs ++ [a] ++ [b])
  | [], a, b, _, h => ⟨h, trivial⟩
  | [c], a, b, h0, h => ⟨h0.1, h, trivial⟩
  | c :: d :: qs, a, b, h0, h => ⟨h0.1, Chained.snoc (qs := d :: qs) h0.2 h⟩
/-- lists of whole numbers at addresses -/
abbrev LLs (H : Hp) : List Addr → List (List Nat) → Prop := Paired fun a js => H a = some (.lst (jV js))
theorem paired_snoc {α β : Type} {R : α → β → Prop} : ∀ {as : List α} {bs : List β} {a : α} {b : β}, Paired R as bs → R a b → Paired R (as ++ [a]) (bs ++ [b])
  | _, _, _, _, .nil, r => .cons r .nil
  | _, _, _, _, .cons q t, r => .cons q (paired_snoc t r)
theorem paired_imp {α β : Type} {R S : α → β → Prop} : ∀ {as : List α} {bs : List β}, Paired R as bs → (∀ a ∈ as, ∀ b, R a b → S a b) → Paired S as bs
  | _, _, .nil, _ => .nil
  | _, _, .cons q t, f => .cons (f _ (List.mem_cons_self ..) _ q) (paired_imp t fun a ha b r => f a (List.mem_cons_of_mem _ ha) b r)
theorem paired_get {α β : Type} {R : α → β → Prop} : ∀ {as : List α} {bs : List β} {i : Nat} {a : α}, Paired R as bs → as[i]? = some a → ∃ b, bs[i]? = some b ∧ R a b
  | _, _, _, _, .nil, h => by simp at h
  | _, _, 0, _, .cons q t, h => by
    have e := Option.some.inj h
    subst e
    exact ⟨_, rfl, q⟩
  | _, _, i + 1, _, .cons q t, h => paired_get (i := i) t h
theorem paired_len {α β : Type} {R : α → β → Prop} : ∀ {as : List α} {bs : List β}, Paired R as bs → as.length = bs.length
  | _, _, .nil => rfl
  | _, _, .cons _ t => congrArg Nat.succ (paired_len t)
section
variable {P : Program} {w : World} {K : PySem.W.Frag} {mg : Str → Option Value} {base : Heap} {k : Nat}
def sp_l_spots : Sp := fun vs H Q _ => ∃ (p : Addr) (n m : Nat), vs = [.ref p, .int n, .int m] ∧ Bag H p ∧ 2 ≤ n ∧ n ≤ 8 ∧ 1 ≤ m ∧ m ≤ 12 ∧
  ∀ (H' : Hp) (l : Addr) (as : List Addr) (qs : List (List Nat)), Keep p H H' → Bag H' p → H l = none → H' l = some (.lst (as.map V.ref)) → qs.length = m → LLs H' as qs → (∀ a ∈ as, H a = none ∧ a ≠ l ∧ a ≠ p) → (∀ js ∈ qs, Spot n js) → Chained qs → Q (.ref l) H'
set_option maxHeartbeats 8000000 in
theorem ok_l_spots (T : Defs K mg) : FnOk P w K mg base CX0 (k + 2) T.a_l_spots T.d_l_spots ["_law_bag_here", "_law_many", "_law_junctions"] sp_l_spots := by
  have G_l_take : FnOk P w K mg base CX0 (k + 1) _ _ _ _ := ok_l_take T
  refine T.F_l_spots.ok sc_l_spots (fun vs H Q E h => ?_) (fun cdv A outer s H vs Q E hr h => ?_)
  · obtain ⟨p, n, m, rfl, _⟩ := h
    rfl
  · obtain ⟨p, n, m, rfl, b, n2, n8, m1, m12, q⟩ := h
    refine ⟨_, PSs.nox
(pss_cons (ps_set (i := 3) sc_l_spots.nd rfl (.inl rfl) (pe_lst pa_nil))
    (pss_cons (ps_set (i := 4) sc_l_spots.nd rfl (.inl rfl) (pe_call G_l_take hr (by rfl) T.g_l_take T.F_l_take.kp T.b_l_take .nil pass0 (pa_cons (pv 0) (pa_cons (pv 1) pa_nil))))
    (pss_cons (ps_for PassesOwn.never rfl (pi_range1 (by rfl) T.z_range (pa_cons (pv 2) pa_nil)) (pg_name (i := 5) sc_l_spots.nd rfl (.inl rfl))
      (pss_cons (ps_set (i := 6) sc_l_spots.nd rfl (.inl rfl) (pe_lst (pa_cons (pv 4) (pa_cons (pe_op op_mod (pe_op op_add (pe_op op_add (pv 4) (pe_int)) (pe_call G_l_take hr (by rfl) T.g_l_take T.F_l_take.kp T.b_l_take .nil pass0 (pa_cons (pv 0) (pa_cons (pe_op op_sub (pv 1) (pe_int)) pa_nil)))) (pv 1)) pa_nil))))
      (pss_cons (ps_for PassesOwn.never rfl (pi_range1 (by rfl) T.z_range (pa_cons (pe_op op_fdiv (pe_call G_l_take hr (by rfl) T.g_l_take T.F_l_take.kp T.b_l_take .nil pass0 (pa_cons (pv 0) (pa_cons (pe_int) pa_nil))) (pe_int)) pa_nil)) (pg_name (i := 7) sc_l_spots.nd rfl (.inl rfl))
        (pss_one (ps_expr (pe_bm PySem.F.plainAttrs_list PySem.F.slot_list_append PySem.F.type_list_append mt_append (pv 6) (pa_cons (pe_call G_l_take hr (by rfl) T.g_l_take T.F_l_take.kp T.b_l_take .nil pass0 (pa_cons (pv 0) (pa_cons (pv 1) pa_nil))) pa_nil)))))
      (pss_cons (ps_expr (pe_bm PySem.F.plainAttrs_list PySem.F.slot_list_append PySem.F.type_list_append mt_append (pv 3) (pa_cons (pe_callB (cr_sortedSet rfl) (by rfl) T.z_sorted (by decide +kernel) (pa_cons (pe_callTy (Sl.call_setI rfl) (by rfl) T.z_set (by decide +kernel) (pa_cons (pv 6) pa_nil)) pa_nil)) pa_nil)))
      (pss_one (ps_set (i := 4) sc_l_spots.nd rfl (.inl rfl) (pe_ix (r := rIxL K) ix_list (pe_ix (r := rIxL K) ix_list (pv 3) (pe_un un_neg (pe_int)) (fun _ _ => rfl)) (pe_call G_l_take hr (by rfl) T.g_l_take T.F_l_take.kp T.b_l_take .nil pass0 (pa_cons (pv 0) (pa_cons (pe_callB (r := rLenS K) call_lenS (by rfl) T.z_len (by decide +kernel) (pa_cons (pe_ix (r := rIxL K) ix_list (pv 3) (pe_un un_neg (pe_int)) (fun _ _ => rfl)) pa_nil)) pa_nil))) (fun _ _ => rfl))))))))
    (pss_one (ps_ret (pv 3))))))
      , ?_⟩
    refine ⟨Nat.zero_le _, fun F nF => ?_⟩
    have nFp : F ≠ p := b.ne nF
    -- here
    refine ⟨.ref p, rfl, .int n, rfl, p, n, rfl, b.keep (same_upd nF), by omega, by omega, fun H2 h0 k2 b2 h00 h01 => ?_⟩
    have eF2 : H2 F = some (.lst (([] : List Addr).map V.ref)) := k2 _ _ nFp upd_same
    have k2 : Keep p H H2 := (Keep.of (same_upd nF)).trans k2
    refine ⟨.int m, rfl, m, rfl, by omega, by omega, ?_⟩
    rw [Int.toNat_natCast]
    refine for_range (lo := 0) (n := m) (fun i σ H3 => ∃ (hh : Nat) (y5 y6 y7 : Option V) (as : List Addr) (qs : List (List Nat)), σ = [some (.ref p), some (.int n), some (.int m), some (.ref F), some (.int hh), y5, y6, y7] ∧ hh < n ∧ Keep p H H3 ∧ Bag H3 p ∧ H3 F = some (.lst (as.map V.ref)) ∧ qs.length = i ∧ LLs H3 as qs ∧ (∀ a ∈ as, H a = none ∧ a ≠ F ∧ a ≠ p) ∧ (∀ js ∈ qs, Spot n js) ∧ Chained qs ∧ (∀ js, qs.getLast? = some js → hh ∈ js))
      ⟨h0.toNat, none, none, none, [], [], by rw [show ((h0.toNat : Nat) : Int) = h0 by omega]; rfl, by omega, k2, b2, eF2, rfl, .nil, fun a ha => by simp at ha, fun a ha => by simp at ha, trivial, fun js h => by simp at h⟩ (fun i σ H3 hi hp => ?_) (fun σ H3 hp => ?_)
    · obtain ⟨hh, y5, y6, y7, as, qs, rfl, hh1, k3, b3, eF, hq, hL, hfr, hsp, hch, hlast⟩ := hp
      -- some = [here, (here + 1 + take(bag, many - 1)) % many]
      refine ⟨.int hh, rfl, .int hh, rfl, hh, 1, rfl, rfl, .ref p, rfl, .int n, rfl, n, 1, rfl, rfl, p, (n : Int) - 1, rfl, b3, by omega, by omega, fun H4 d k4 b4 d0 d1 => ?_⟩
      refine ⟨_, d, rfl, rfl, .int n, rfl, _, n, rfl, rfl, by omega, by show 2 ≤ sizeLine; decide, fun S nS => ?_⟩
      have nSp : S ≠ p := b4.ne nS
      have r0 : 0 ≤ ((hh : Int) + 1 + d) % (n : Int) := Int.emod_nonneg _ (by omega)
      have r1 : ((hh : Int) + 1 + d) % (n : Int) < n := Int.emod_lt_of_pos _ (by omega)
      have ne2 : (hh : Int) ≠ ((hh : Int) + 1 + d) % (n : Int) := by
        by_cases c : (hh : Int) + 1 + d < n
        · rw [Int.emod_eq_of_lt (by omega) c]
          omega
        · rw [← Int.sub_emod_right, Int.emod_eq_of_lt (by omega) (by omega)]
          omega
      dsimp only
      generalize ((hh : Int) + 1 + d) % (n : Int) = x2 at r0 r1 ne2 ⊢
      have eF4 : (upd H4 S (.lst [.int hh, .int x2])) F = some (.lst (as.map V.ref)) := same_upd nS _ _ (k4 _ _ nFp eF)
      have nFS : F ≠ S := ne_of_none (k4 _ _ nFp eF) nS
      have nHS : H S = none := k3.free b (k4.free b3 nS b4) b3
      -- for turn in range(take(bag, 4) // 2)
      refine ⟨.ref p, rfl, p, 4, rfl, b4.keep (same_upd nS), by decide, by decide, fun H5 d5 k5 b5 d50 d51 => ?_⟩
      have eS5 : H5 S = some (.lst (([(hh : Int), x2] : List Int).map V.int)) := k5 _ _ nSp upd_same
      have eF5 := k5 _ _ nFp eF4
      have k5 : Keep p H3 H5 := k4.trans ((Keep.of (same_upd nS)).trans k5)
      refine ⟨d5, 2, rfl, rfl, ⟨by decide, by decide⟩, _, rfl, by omega, by omega, ?_⟩
      refine for_range (lo := 0) (n := (d5 / 2).toNat) (fun j σ H6 => ∃ (y7 : Option V) (xs : List Int), σ = [some (.ref p), some (.int n), some (.int m), some (.ref F), some (.int hh), some (.int (0 + (i : Int))), some (.ref S), y7] ∧ Keep p H3 H6 ∧ Bag H6 p ∧ H6 F = some (.lst (as.map V.ref)) ∧ xs.length = 2 + j ∧ (∀ x ∈ xs, 0 ≤ x ∧ x < n) ∧ (hh : Int) ∈ xs ∧ x2 ∈ xs ∧ H6 S = some (.lst (xs.map V.int)))
        ⟨_, [(hh : Int), x2], rfl, k5, b5, eF5, rfl, fun x hx => by
          simp only [List.mem_cons, List.not_mem_nil, or_false] at hx
          omega, by simp, by simp, eS5⟩ (fun j σ H6 hj hp => ?_) (fun σ H6 hp => ?_)
      · obtain ⟨y7, xs, rfl, k6, b6, eF6, hxl, hx, hm1, hm2, eS6⟩ := hp
        refine ⟨.ref S, rfl, .inl ⟨rfl, _, SqL.of eS6⟩, .ref p, rfl, .int n, rfl, p, n, rfl, b6, by omega, by omega, fun H7 d7 k7 b7 d70 d71 => ?_⟩
        refine ⟨S, _, _, rfl, rfl, k7 _ _ nSp eS6, by rw [List.length_map, hxl]; exact small5000 (by omega), ?_⟩
        refine ⟨_, xs ++ [d7], rfl, fun c o nc ec => ?_, b7.at (upd_ne nSp.symm), by rw [upd_ne nFS]; exact k7 _ _ nFp eF6, by rw [List.length_append, hxl]; rfl, fun x hx' => ?_, List.mem_append_left _ hm1, List.mem_append_left _ hm2, by rw [upd_same, List.map_append]; rfl⟩
        · have nS3 : H3 S = none := k4.free b3 nS b4
          rw [upd_ne (ne_of_none ec nS3)]
          exact k7 _ _ nc (k6 _ _ nc ec)
        · rcases List.mem_append.mp hx' with z | z
          · exact hx x z
          · rw [List.mem_singleton.mp z]
            exact ⟨d70, d71⟩
      obtain ⟨y7, xs, rfl, k6, b6, eF6, hxl, hx, hm1, hm2, eS6⟩ := hp
      -- found.append(sorted(set(some)))
      refine ⟨.ref F, rfl, .inl ⟨rfl, _, SqL.of eF6⟩, .ref S, rfl, S, xs, rfl, SqL.of eS6, by omega, fun se c nse hc => ?_⟩
      refine ⟨se, _, c, rfl, upd_same, by omega, fun ns so pw mem len nso => ?_⟩
      have s7 : Same H6 (upd (upd H6 se (SetO w se (fun j => decide (j ∈ xs)) c)) so (.lst (ns.map V.int))) := (same_upd nse).trans (same_upd nso)
      have memx : ∀ x, x ∈ ns ↔ x ∈ xs := fun x => (mem x).trans decide_eq_true_iff
      have hns : ∀ x ∈ ns, 0 ≤ x ∧ x < n := fun x h => hx x ((memx x).mp h)
      have h2 : 2 ≤ ns.length := two_of ((memx _).mpr hm1) ((memx _).mpr hm2) ne2
      have eso : (upd (upd H6 se (SetO w se (fun j => decide (j ∈ xs)) c)) so (.lst (ns.map V.int))) so = some (.lst (jV (ns.map Int.toNat))) := by
        rw [upd_same, ints_nats fun x h => (hns x h).1]
      have nso6 : H6 so = none := (same_upd nse).free nso
      have nsop : so ≠ p := b6.ne nso6
      have nsoF : so ≠ F := (ne_of_none eF6 nso6).symm
      have k7 : Keep p H3 _ := k6.trans (.of s7)
      have b7 := b6.keep s7
      have eF7 := s7 _ _ eF6
      refine ⟨F, _, _, rfl, rfl, eF7, by rw [List.length_map, paired_len hL, hq]; exact small5000 (by omega), ?_⟩
      have spot : Spot n (ns.map Int.toNat) := by
        refine ⟨?_, fun j hj => ?_, by rw [List.length_map]; exact h2⟩
        · rw [List.pairwise_map]
          refine List.Pairwise.imp_of_mem ?_ pw
          intro a b ha hb hab
          have := hns a ha
          have := hns b hb
          omega
        · obtain ⟨x, hx', rfl⟩ := List.mem_map.mp hj
          have := hns x hx'
          omega
      have inH : hh ∈ ns.map Int.toNat := List.mem_map.mpr ⟨(hh : Int), (memx _).mpr hm1, by omega⟩
      have hjl : (ns.map Int.toNat).length ≤ 8 := by rw [List.length_map]; omega
      generalize ns.map Int.toNat = js at eso spot inH hjl
      obtain ⟨H7, hH7⟩ : ∃ X, X = upd (upd H6 se (SetO w se (fun j => decide (j ∈ xs)) c)) so (.lst (ns.map V.int)) := ⟨_, rfl⟩
      rw [← hH7] at s7 eso k7 b7 eF7
      -- here = found[-1][take(bag, len(found[-1]))]
      have eF8 : (upd H7 F (.lst (as.map V.ref ++ [.ref so]))) F = some (.lst ((as ++ [so]).map V.ref)) := by
        rw [upd_same, List.map_append]
        rfl
      have eso8 : (upd H7 F (.lst (as.map V.ref ++ [.ref so]))) so = some (.lst (jV js)) := by rw [upd_ne nsoF]; exact eso
      have b8 : Bag (upd H7 F (.lst (as.map V.ref ++ [.ref so]))) p := b7.at (upd_ne nFp.symm)
      have k8 : Keep p H (upd H7 F (.lst (as.map V.ref ++ [.ref so]))) := fun c o nc ec => by
        rw [upd_ne (ne_of_none ec nF)]
        exact k7 _ _ nc (k3 _ _ nc ec)
      have o8 : ∀ a o, a ≠ F → a ≠ p → H3 a = some o → (upd H7 F (.lst (as.map V.ref ++ [.ref so]))) a = some o := fun a o n1 n2 e => by
        rw [upd_ne n1]
        exact k7 _ _ n2 e
      subst hH7
      have lastR : atI ((as ++ [so]).map V.ref) (-1) = some (.ref so) := by
        rw [List.map_append]
        exact atI_last _ _
      refine ⟨.ref F, rfl, 1, rfl, F, _, -1, .ref so, rfl, rfl, SqL.of eF8, lastR, .ref p, rfl, .ref F, rfl, 1, rfl, F, _, -1, .ref so, rfl, rfl, SqL.of eF8, lastR, so, jV js, rfl, .inl (SqL.of eso8), p, js.length, by rw [List.length_map]; rfl, b8, by have := spot.two; omega, by omega, fun H9 d9 k9 b9 d90 d91 => ?_⟩
      obtain ⟨jj, rfl⟩ : ∃ jj : Nat, d9 = (jj : Int) := ⟨d9.toNat, by omega⟩
      have hjj : jj < js.length := by omega
      have gj : (jV js)[jj]? = some (.int (js[jj] : Nat)) := by
        rw [List.getElem?_map, List.getElem?_eq_getElem hjj]
        rfl
      refine ⟨so, _, (jj : Int), _, rfl, rfl, SqL.of (k9 _ _ nsop eso8), atI_nat gj, ?_⟩
      have nFp' := nFp
      refine ⟨js[jj], _, _, _, as ++ [so], qs ++ [js], rfl, spot.lt _ (List.getElem_mem hjj), k8.trans k9, b9, k9 _ _ nFp eF8, by rw [List.length_append, hq]; rfl, ?_, fun a ha => ?_, fun x hx => ?_, ?_, fun x hx => ?_⟩
      · refine paired_snoc (paired_imp hL fun a ha x e => ?_) (k9 _ _ nsop eso8)
        obtain ⟨_, f1, f2⟩ := hfr a ha
        exact k9 _ _ f2 (o8 _ _ f1 f2 e)
      · rcases List.mem_append.mp ha with z | z
        · exact hfr a z
        · rw [List.mem_singleton.mp z]
          exact ⟨k3.free b (k6.free b3 nso6 b6) b3, nsoF, nsop⟩
      · rcases List.mem_append.mp hx with z | z
        · exact hsp x z
        · rw [List.mem_singleton.mp z]
          exact spot
      · cases hqs : qs.getLast? with
        | none =>
          rw [List.getLast?_eq_none_iff] at hqs
          rw [hqs]
          exact trivial
        | some z =>
          obtain ⟨q0, rfl⟩ := List.getLast?_eq_some_iff.mp hqs
          exact Chained.snoc hch ⟨hh, hlast z hqs, inH⟩
      · rw [List.getLast?_concat] at hx
        rw [← Option.some.inj hx]
        exact List.getElem_mem hjj
    · obtain ⟨hh, y5, y6, y7, as, qs, rfl, hh1, k3, b3, eF, hq, hL, hfr, hsp, hch, hlast⟩ := hp
      exact ⟨.ref F, rfl, q _ F as qs k3 b3 nF eF hq hL hfr hsp hch⟩
end
end Th
namespace Th
open PySem PySem.Spec PyProof.Rows L2
/-! drawn places -/
theorem one_sz {x : V} : [x].length ≤ sizeLine := by show 1 ≤ sizeLine; decide
theorem paired_append {α β : Type} {R : α → β → Prop} : ∀ {as cs : List α} {bs ds : List β}, Paired R as bs → Paired R cs ds → Paired R (as ++ cs) (bs ++ ds)
  | _, _, _, _, .nil, h => h
  | _, _, _, _, .cons q t, h => .cons q (paired_append t h)
theorem paired_take {α β : Type} {R : α → β → Prop} : ∀ {as : List α} {bs : List β} (n : Nat), Paired R as bs → Paired R (as.take n) (bs.take n)
  | _, _, 0, _ => by rw [List.take_zero, List.take_zero]; exact .nil
  | _, _, n + 1, .nil => .nil
  | _, _, n + 1, .cons q t => .cons q (paired_take n t)
theorem cut_to (xs : List V) (j : Nat) : cutV xs none (some (j : Int)) = xs.take j := by
  unfold cutV
  rw [HT.sIx_none, HT.sIx_nat, List.drop_zero, Nat.sub_zero]
  by_cases h : j ≤ xs.length
  · rw [Nat.min_eq_left h]
  · rw [Nat.min_eq_right (by omega), List.take_of_length_le (Nat.le_refl _), List.take_of_length_le (by omega)]
theorem Chained.ends {f l : Nat} {ss : List (List Nat)} {a b : List Nat} (hc : Chained ss) (ha : ss.head? = some a) (hb : ss.getLast? = some b) (hf : f ∈ a) (hl : l ∈ b) : Chained (([f] :: ss) ++ [[l]]) := by
  have h1 : Chained ([f] :: ss) := by
    cases ss with
    | nil => cases ha
    | cons c r =>
      have := Option.some.inj ha
      subst this
      exact ⟨⟨f, by simp, hf⟩, hc⟩
  obtain ⟨q0, rfl⟩ := List.getLast?_eq_some_iff.mp hb
  exact Chained.snoc (qs := [f] :: q0) h1 ⟨l, hl, by simp⟩
/-- what is known of the lines by their numbers, place by place -/
structure PlQ (n J : Nat) (qs : List (List Nat)) : Prop where
  form : ∃ (f l : Nat) (ss : List (List Nat)) (tw : List Nat), qs = (([f] :: ss) ++ [[l]]) ++ tw.map (fun x => [x]) ∧ ss.length = J ∧ (∀ js ∈ ss, Spot n js) ∧ f < n ∧ l < n ∧ (∀ x ∈ tw, x < n) ∧ Chained (([f] :: ss) ++ [[l]]) ∧ tw.length ≤ 14
  most : J ≤ 12
theorem PlQ.len {n J : Nat} {qs : List (List Nat)} (h : PlQ n J qs) : J + 2 ≤ qs.length ∧ qs.length ≤ 28 := by
  obtain ⟨f, l, ss, tw, rfl, h1, _, _, _, _, _, h2⟩ := h.form
  have := h.most
  simp only [List.length_append, List.length_cons, List.length_map, List.length_nil]
  omega
/-- a list of pairs of a name and a list of numbers -/
structure PlAt (p : Addr) (H : Hp) (l : Addr) (ts : List Addr) (zs : List (List Nat)) (as : List Addr) (qs : List (List Nat)) : Prop where
  lst : H l = some (.lst (ts.map V.ref))
  tup : Lz.Tups H ts ((zs.map nS).zip (as.map V.ref))
  ll : LLs H as qs
  lz : zs.length = qs.length
  lt : ts.length = qs.length
  np : l ≠ p ∧ (∀ t ∈ ts, t ≠ p) ∧ ∀ a ∈ as, a ≠ p
theorem PlAt.keep {p : Addr} {H H' : Hp} {l : Addr} {ts as : List Addr} {zs qs : List (List Nat)} (h : PlAt p H l ts zs as qs) (k : Keep p H H') : PlAt p H' l ts zs as qs :=
  ⟨k _ _ h.np.1 h.lst, paired_imp h.tup fun t ht q e => k _ _ (h.np.2.1 t ht) e, paired_imp h.ll fun a ha q e => k _ _ (h.np.2.2 a ha) e, h.lz, h.lt, h.np⟩
section
variable {P : Program} {w : World} {K : PySem.W.Frag} {mg : Str → Option Value} {base : Heap} {k : Nat}
def sp_l_places : Sp := fun vs H Q _ => ∃ (p : Addr) (n : Nat), vs = [.ref p, .int n] ∧ Bag H p ∧ 1 ≤ n ∧ n ≤ 8 ∧
  ∀ (H' : Hp) (l : Addr) (ts as : List Addr) (zs qs : List (List Nat)) (J : Nat), Keep p H H' → Bag H' p → PlAt p H' l ts zs as qs → PlQ n J qs → zs.Nodup → (∀ z ∈ zs, IsNm z) → (∀ k l, zs[k]? = some l → NmAt k l) → H l = none → (∀ t ∈ ts, H t = none) → (∀ a ∈ as, H a = none) → Q (.ref l) H'
set_option maxHeartbeats 8000000 in
theorem ok_l_places (T : Defs K mg) : FnOk P w K mg base CX0 (k + 3) T.a_l_places T.d_l_places ["_law_bag_here", "_law_many"] sp_l_places := by
  have G_l_take : FnOk P w K mg base CX0 (k + 2) _ _ _ _ := ok_l_take (k := k + 1) T
  have G_l_names : FnOk P w K mg base CX0 (k + 2) _ _ _ _ := ok_l_names T
  have G_l_spots : FnOk P w K mg base CX0 (k + 2) _ _ _ _ := ok_l_spots T
  refine T.F_l_places.ok sc_l_places (fun vs H Q E h => ?_) (fun cdv A outer s H vs Q E hr h => ?_)
  · obtain ⟨p, n, rfl, _⟩ := h
    rfl
  · obtain ⟨p, n, rfl, b, n1, n8, q⟩ := h
    refine ⟨_, PSs.nox
(pss_cons (ps_set (i := 2) sc_l_places.nd rfl (.inl rfl) (pe_op op_mul (pe_ix (r := rIxT K) ix_tup (pe_tup (pa_cons (pe_int) (pa_cons (pe_int) (pa_cons (pe_int) (pa_cons (pe_int) (pa_cons (pe_int) (pa_cons (pe_int) pa_nil))))))) (pe_call G_l_take hr (by rfl) T.g_l_take T.F_l_take.kp T.b_l_take .nil pass0 (pa_cons (pv 0) (pa_cons (pe_int) pa_nil))) (fun _ _ => rfl)) (pe_callTy call_int1 (by rfl) T.z_int (by decide +kernel) (pa_cons (pe_cmpR op_gt (pv 1) (pe_int) (nomark _)) pa_nil))))
    (pss_cons (ps_set (i := 3) sc_l_places.nd rfl (.inl rfl) (pe_call G_l_take hr (by rfl) T.g_l_take T.F_l_take.kp T.b_l_take .nil pass0 (pa_cons (pv 0) (pa_cons (pe_int) pa_nil))))
    (pss_cons (ps_set (i := 4) sc_l_places.nd rfl (.inl rfl) (pe_call G_l_names hr (by rfl) T.g_l_names T.F_l_names.kp T.b_l_names .nil pass0 (pa_cons (pv 0) (pa_cons (pe_op op_add (pe_op op_add (pv 2) (pe_int)) (pv 3)) pa_nil))))
    (Evl.pss_cut (ps_set (i := 5) sc_l_places.nd rfl (.inl rfl) (pe_ifExp (pt_cmpR op_gt (pv 2) (pe_int) (nomark _)) (pe_call G_l_spots hr (by rfl) T.g_l_spots T.F_l_spots.kp T.b_l_spots .nil pass0 (pa_cons (pv 0) (pa_cons (pv 1) (pa_cons (pv 2) pa_nil)))) (pe_lst (pa_cons (pe_lst (pa_cons (pe_call G_l_take hr (by rfl) T.g_l_take T.F_l_take.kp T.b_l_take .nil pass0 (pa_cons (pv 0) (pa_cons (pv 1) pa_nil))) pa_nil)) pa_nil))))
    (pss_cons (ps_set (i := 6) sc_l_places.nd rfl (.inl rfl) (pe_lst (pa_cons (pe_ix (r := rIxL K) ix_list (pe_ix (r := rIxL K) ix_list (pv 5) (pe_int) (fun _ _ => rfl)) (pe_call G_l_take hr (by rfl) T.g_l_take T.F_l_take.kp T.b_l_take .nil pass0 (pa_cons (pv 0) (pa_cons (pe_callB (r := rLenS K) call_lenS (by rfl) T.z_len (by decide +kernel) (pa_cons (pe_ix (r := rIxL K) ix_list (pv 5) (pe_int) (fun _ _ => rfl)) pa_nil)) pa_nil))) (fun _ _ => rfl)) pa_nil)))
    (pss_cons (ps_set (i := 7) sc_l_places.nd rfl (.inl rfl) (pe_lst (pa_cons (pe_ix (r := rIxL K) ix_list (pe_ix (r := rIxL K) ix_list (pv 5) (pe_un un_neg (pe_int)) (fun _ _ => rfl)) (pe_call G_l_take hr (by rfl) T.g_l_take T.F_l_take.kp T.b_l_take .nil pass0 (pa_cons (pv 0) (pa_cons (pe_callB (r := rLenS K) call_lenS (by rfl) T.z_len (by decide +kernel) (pa_cons (pe_ix (r := rIxL K) ix_list (pv 5) (pe_un un_neg (pe_int)) (fun _ _ => rfl)) pa_nil)) pa_nil))) (fun _ _ => rfl)) pa_nil)))
    (pss_cons (ps_setLc (i := 8) (own := [("_law_k", 9)]) (g := gName 9) rfl sc_l_places.nd rfl rfl (sw_true rfl rfl rfl (by decide +kernel)) (pi_range1 (by rfl) T.z_range (pa_cons (pv 3) pa_nil)) (blkOk_by (N := N_l_places) (sc := defScope s_l_places) (by decide +kernel)) (fun _ _ _ _ _ => (pg_name (i := 9) sc_l_places.nd rfl (.inl rfl))) (fun _ _ _ _ _ => pts_nil) (fun _ _ _ _ _ => (pe_lst (pa_cons (pe_call G_l_take hr (by rfl) T.g_l_take T.F_l_take.kp T.b_l_take .nil pass0 (pa_cons (pv 0) (pa_cons (pv 1) pa_nil))) pa_nil))))
    (pss_one (ps_ret (Lz.pe_listZip rfl (by rfl) T.z_list (by rfl) T.z_zip (pa_cons (pv 4) (pa_cons (pe_op op_cat (pe_op op_cat (pe_op op_cat (pe_lst (pa_cons (pv 6) pa_nil)) (pe_slice sl_list (pv 5) po_none (po_some (pv 2)))) (pe_lst (pa_cons (pv 7) pa_nil))) (pv 8)) pa_nil))))))))))))
      , ?_⟩
    -- junctions
    refine ⟨by decide, fun t nt => ?_⟩
    have ntp : t ≠ p := b.ne nt
    refine ⟨.ref p, rfl, p, 6, rfl, b.keep (same_upd nt), by decide, by decide, fun H1 d k1 b1 d0 d1 => ?_⟩
    obtain ⟨m0, hm0, em0⟩ := pick (ms := [1, 12, 4, 7, 2, 0]) d0 d1
    refine ⟨t, _, d, _, rfl, rfl, SqT.of (k1 _ _ ntp upd_same), em0, ?_⟩
    have k1 : Keep p H H1 := (Keep.of (same_upd nt)).trans k1
    have hm : 0 ≤ m0 ∧ m0 ≤ 12 := by
      simp only [List.mem_cons, List.not_mem_nil, or_false] at hm0
      omega
    refine ⟨.int n, rfl, n, 1, rfl, rfl, .inr ⟨_, rfl, m0, _, rfl, rfl, .inl ⟨by omega, by omega⟩, ?_⟩⟩
    obtain ⟨J, hJ⟩ : ∃ J : Nat, m0 * (if decide ((1 : Int) < (n : Int)) then 1 else 0) = (J : Int) ∧ J ≤ 12 ∧ (0 < J → 2 ≤ n) := by
      by_cases c : (1 : Int) < n
      · rw [if_pos (decide_eq_true c)]
        exact ⟨m0.toNat, by omega, by omega, fun _ => by omega⟩
      · rw [if_neg (fun z => c (of_decide_eq_true z))]
        exact ⟨0, by omega, by omega, fun z => absurd z (Nat.lt_irrefl _)⟩
    obtain ⟨eJ, J12, J2⟩ := hJ
    dsimp only
    rw [eJ]
    -- more
    refine ⟨.ref p, rfl, p, 15, rfl, b1, by decide, by decide, fun H2 mo k2 b2 mo0 mo1 => ?_⟩
    obtain ⟨m, rfl⟩ : ∃ m : Nat, mo = (m : Int) := ⟨mo.toNat, by omega⟩
    have k2 := k1.trans k2
    -- names
    refine ⟨.ref p, rfl, .int J, rfl, J, 2, rfl, rfl, .int m, rfl, _, m, rfl, rfl, p, J + 2 + m, by dsimp only; rw [show ((J : Int) + 2 + (m : Int)) = ((J + 2 + m : Nat) : Int) by omega]; rfl, b2, by omega, fun H3 nl zs k3 b3 nnl enl hzs nd nms nat => ?_⟩
    have nnl0 : H nl = none := k2.free b nnl b2
    have nlp : nl ≠ p := b2.ne nnl
    have k3 := k2.trans k3
    -- spots
    refine ⟨fun σ H4 => ∃ (sp : Addr) (as : List Addr) (qs : List (List Nat)), σ = [some (.ref p), some (.int n), some (.int J), some (.int m), some (.ref nl), some (.ref sp), none, none, none, none] ∧ Keep p H3 H4 ∧ Bag H4 p ∧ H3 sp = none ∧ H4 sp = some (.lst (as.map V.ref)) ∧ LLs H4 as qs ∧ (∀ a ∈ as, H3 a = none ∧ a ≠ sp ∧ a ≠ p) ∧ 1 ≤ qs.length ∧ Chained qs ∧ (∀ js ∈ qs, (∀ j ∈ js, j < n) ∧ 1 ≤ js.length ∧ js.length ≤ 8) ∧ (0 < J → qs.length = J ∧ ∀ js ∈ qs, Spot n js) ∧ (J = 0 → ∃ x, qs = [[x]]), ?_, fun σ H4 mid => ?_⟩
    · refine ⟨.int J, rfl, _, _, rfl, rfl, _, rfl, ite2 (fun c => ?_) (fun c => ?_)⟩
      · have c := of_decide_eq_true c
        refine ⟨.ref p, rfl, .int n, rfl, .int J, rfl, p, n, J, rfl, b3, J2 (by omega), n8, by omega, J12, fun H4 sp as qs k4 b4 nsp esp hql hL hfr hsp hch => ?_⟩
        refine ⟨sp, as, qs, rfl, k4, b4, nsp, esp, hL, hfr, by omega, hch, fun js hj => ?_, fun _ => ⟨hql, hsp⟩, fun z => by omega⟩
        have s := hsp js hj
        exact ⟨s.lt, by have := s.two; omega, Spot.len8 s n8⟩
      · have c : ¬ (0 : Int) < (J : Int) := fun z => c (decide_eq_true z)
        refine ⟨.ref p, rfl, .int n, rfl, p, n, rfl, b3, by omega, by omega, fun H4 x k4 b4 x0 x1 => ?_⟩
        refine ⟨one_sz, fun a na => ⟨one_sz, fun sp nsp => ?_⟩⟩
        obtain ⟨x, rfl⟩ : ∃ j : Nat, x = (j : Int) := ⟨x.toNat, by omega⟩
        have nsp4 : H4 sp = none := (same_upd na).free nsp
        have nap : a ≠ p := b4.ne na
        have nspp : sp ≠ p := b4.ne nsp4
        have nas : a ≠ sp := fun z => by rw [← z, upd_same] at nsp; cases nsp
        refine ⟨sp, [a], [[x]], rfl, k4.trans (.of ((same_upd na).trans (same_upd nsp))), b4.keep ((same_upd na).trans (same_upd nsp)), k4.free b3 nsp4 b4, upd_same, .cons (by rw [upd_ne nas, upd_same]; rfl) .nil, fun c hc => ?_, by simp, trivial, fun js hj => ?_, fun z => by omega, fun _ => ⟨x, rfl⟩⟩
        · rw [List.mem_singleton.mp hc]
          exact ⟨k4.free b3 na b4, nas, nap⟩
        · rw [List.mem_singleton.mp hj]
          exact ⟨fun j hj => by rw [List.mem_singleton.mp hj]; omega, by simp, by simp⟩
    obtain ⟨sp, as, qs, rfl, k4, b4, nsp, esp, hL, hfr, hq1, hch, hqa, hJ0, hJ1⟩ := mid
    have nspp : sp ≠ p := b3.ne nsp
    have hal := paired_len hL
    obtain ⟨a0, qa, ha0, hqa0, ea0, h00⟩ : ∃ a0 qa, as[0]? = some a0 ∧ qs[0]? = some qa ∧ H4 a0 = some (.lst (jV qa)) ∧ qs.head? = some qa := by
      have h : 0 < as.length := by omega
      obtain ⟨qa, e1, e2⟩ := paired_get hL (List.getElem?_eq_getElem h)
      exact ⟨as[0], qa, List.getElem?_eq_getElem h, e1, e2, by rw [List.head?_eq_getElem?]; exact e1⟩
    obtain ⟨az, qz, haz, hqz, eaz, hzz⟩ : ∃ az qz, atI (as.map V.ref) (-1) = some (.ref az) ∧ qz ∈ qs ∧ H4 az = some (.lst (jV qz)) ∧ qs.getLast? = some qz := by
      have h : as.length - 1 < as.length := by omega
      obtain ⟨qz, e1, e2⟩ := paired_get hL (List.getElem?_eq_getElem h)
      have eas : as = as.take (as.length - 1) ++ [as[as.length - 1]] := by
        rw [List.take_append_getElem, List.take_of_length_le (by omega)]
      refine ⟨as[as.length - 1], qz, ?_, List.mem_of_getElem? e1, e2, by rw [List.getLast?_eq_getElem?, ← hal]; exact e1⟩
      conv => lhs; rw [eas]
      rw [List.map_append]
      exact atI_last _ _
    have m0' : a0 ∈ as := List.mem_of_getElem? ha0
    have q0m := hqa qa (List.mem_of_getElem? hqa0)
    have qzm := hqa qz hqz
    have a0p : a0 ≠ p := (hfr a0 m0').2.2
    have azp : az ≠ p := fun z => by
      obtain ⟨g, r, e, _⟩ := b4
      obtain ⟨j, hj⟩ := atI_get haz
      have hj := hj.2.1
      rw [List.getElem?_map] at hj
      cases hx : as[j]? with
      | none => rw [hx] at hj; cases hj
      | some y =>
        rw [hx] at hj
        have ey := V.ref.inj (Option.some.inj hj)
        exact (hfr y (List.mem_of_getElem? hx)).2.2 (ey.trans z)
    -- first
    have i0 : atI (as.map V.ref) 0 = some (.ref a0) := atI_nat (j := 0) (by rw [List.getElem?_map, ha0]; rfl)
    refine ⟨.ref sp, rfl, sp, _, 0, .ref a0, rfl, rfl, SqL.of esp, i0, .ref p, rfl, .ref sp, rfl, sp, _, 0, .ref a0, rfl, rfl, SqL.of esp, i0, a0, jV qa, rfl, .inl (SqL.of ea0), p, qa.length, by rw [List.length_map]; rfl, b4, by have := q0m.2.1; omega, by have := q0m.2.2; omega, fun H5 d5 k5 b5 d50 d51 => ?_⟩
    obtain ⟨j5, rfl⟩ : ∃ jj : Nat, d5 = (jj : Int) := ⟨d5.toNat, by omega⟩
    have hj5 : j5 < qa.length := by omega
    have g5 : (jV qa)[j5]? = some (.int (qa[j5] : Nat)) := by
      rw [List.getElem?_map, List.getElem?_eq_getElem hj5]
      rfl
    refine ⟨a0, _, (j5 : Int), _, rfl, rfl, SqL.of (k5 _ _ a0p ea0), atI_nat g5, one_sz, fun fa nfa => ?_⟩
    have inf : qa[j5] ∈ qa := List.getElem_mem hj5
    generalize qa[j5] = f at inf g5
    have nfap : fa ≠ p := b5.ne nfa
    have k6 : Keep p H4 (upd H5 fa (.lst [.int ((f : Nat) : Int)])) := k5.trans (.of (same_upd nfa))
    have b6 := b5.keep (same_upd (o := .lst [.int ((f : Nat) : Int)]) nfa)
    have efa : (upd H5 fa (.lst [.int ((f : Nat) : Int)])) fa = some (.lst (jV [f])) := upd_same
    have nfa4 : H4 fa = none := k5.free b4 nfa b5
    dsimp only
    generalize upd H5 fa (.lst [.int ((f : Nat) : Int)]) = H6 at k6 b6 efa ⊢
    -- last
    refine ⟨.ref sp, rfl, 1, rfl, sp, _, -1, .ref az, rfl, rfl, SqL.of (k6 _ _ nspp esp), haz, .ref p, rfl, .ref sp, rfl, 1, rfl, sp, _, -1, .ref az, rfl, rfl, SqL.of (k6 _ _ nspp esp), haz, az, jV qz, rfl, .inl (SqL.of (k6 _ _ azp eaz)), p, qz.length, by rw [List.length_map]; rfl, b6, by have := qzm.2.1; omega, by have := qzm.2.2; omega, fun H7 d7 k7 b7 d70 d71 => ?_⟩
    obtain ⟨j7, rfl⟩ : ∃ jj : Nat, d7 = (jj : Int) := ⟨d7.toNat, by omega⟩
    have hj7 : j7 < qz.length := by omega
    have g7 : (jV qz)[j7]? = some (.int (qz[j7] : Nat)) := by
      rw [List.getElem?_map, List.getElem?_eq_getElem hj7]
      rfl
    refine ⟨az, _, (j7 : Int), _, rfl, rfl, SqL.of (k7 _ _ azp (k6 _ _ azp eaz)), atI_nat g7, one_sz, fun la nla => ?_⟩
    have inl : qz[j7] ∈ qz := List.getElem_mem hj7
    generalize qz[j7] = l at inl g7
    have nlap : la ≠ p := b7.ne nla
    have nla4 : H4 la = none := k6.free b4 (k7.free b6 nla b7) b6
    have efa8 : (upd H7 la (.lst [.int ((l : Nat) : Int)])) fa = some (.lst (jV [f])) := same_upd nla _ _ (k7 _ _ nfap efa)
    have k8 : Keep p H4 (upd H7 la (.lst [.int ((l : Nat) : Int)])) := k6.trans (k7.trans (.of (same_upd nla)))
    have b8 := b7.keep (same_upd (o := .lst [.int ((l : Nat) : Int)]) nla)
    have ela8 : (upd H7 la (.lst [.int ((l : Nat) : Int)])) la = some (.lst (jV [l])) := upd_same
    dsimp only
    generalize upd H7 la (.lst [.int ((l : Nat) : Int)]) = H8 at k8 b8 efa8 ela8 ⊢
    -- towns
    refine ⟨.int m, rfl, m, rfl, by omega, by omega, fun D nD => ?_⟩
    have nDp : D ≠ p := b8.ne nD
    rw [Int.toNat_natCast]
    refine lc_it walk_range (fun j H9 => Keep p H8 H9 ∧ Bag H9 p ∧ ∃ (ta : List Addr) (tw : List Nat), tw.length = j ∧ (∀ x ∈ tw, x < n) ∧ H9 D = some (.lst (ta.map V.ref)) ∧ LLs H9 ta (tw.map fun x => [x]) ∧ ∀ a ∈ ta, H8 a = none ∧ a ≠ D ∧ a ≠ p) ⟨.of (same_upd nD), b8.keep (same_upd nD), [], [], rfl, fun c hc => by simp at hc, upd_same, .nil, fun c hc => by simp at hc⟩ (fun _ _ _ _ => trivial) (fun j x H9 H10 hj pv y => ?_) (fun H9 pv => ?_)
    · obtain ⟨rfl, rfl⟩ := y
      obtain ⟨k9, b9, ta, tw, htl, htw, eD, hTL, htf⟩ := pv
      refine ⟨rfl, yes_ ?_⟩
      refine ⟨.ref p, rfl, .int n, rfl, p, n, rfl, b9, by omega, by omega, fun H11 x k11 b11 x0 x1 => ⟨one_sz, fun c nc => ?_⟩⟩
      obtain ⟨x, rfl⟩ : ∃ j : Nat, x = (j : Int) := ⟨x.toNat, by omega⟩
      have ncp : c ≠ p := b11.ne nc
      have eD11 := k11 _ _ nDp eD
      have nDc : D ≠ c := ne_of_none eD11 nc
      have nc8 : H8 c = none := k9.free b8 (k11.free b9 nc b11) b9
      have tl := paired_len hTL
      rw [List.length_map] at tl
      refine ⟨_, same_upd nc _ _ eD11, by rw [List.length_map]; exact small5000 (by omega), fun e o ne ee => ?_, (b11.keep (same_upd nc)).at (upd_ne nDp.symm), ta ++ [c], tw ++ [x], by rw [List.length_append, htl]; rfl, fun y hy => ?_, by rw [upd_same, List.map_append]; rfl, ?_, fun e he => ?_⟩
      · rw [upd_ne (ne_of_none ee nD), upd_ne (ne_of_none (k11 _ _ ne (k9 _ _ ne ee)) nc)]
        exact k11 _ _ ne (k9 _ _ ne ee)
      · rcases List.mem_append.mp hy with z | z
        · exact htw y z
        · rw [List.mem_singleton.mp z]
          omega
      · rw [List.map_append]
        refine paired_snoc (paired_imp hTL fun a ha js e => ?_) (by rw [upd_ne nDc.symm, upd_same]; rfl)
        obtain ⟨_, f1, f2⟩ := htf a ha
        rw [upd_ne f1, upd_ne (ne_of_none (k11 _ _ f2 e) nc)]
        exact k11 _ _ f2 e
      · rcases List.mem_append.mp he with z | z
        · exact htf e z
        · rw [List.mem_singleton.mp z]
          exact ⟨nc8, nDc.symm, ncp⟩
    obtain ⟨k9, b9, ta, tw, htl, htw, eD, hTL, htf⟩ := pv
    have kk9 : Keep p H4 H9 := k8.trans k9
    have esp9 := kk9 _ _ nspp esp
    have enl9 : H9 nl = some (.lst (zs.map nS)) := kk9 _ _ nlp (k4 _ _ nlp enl)
    have efa9 := k9 _ _ nfap efa8
    have ela9 := k9 _ _ nlap ela8
    have hL9 : LLs H9 as qs := paired_imp hL fun a ha js e => kk9 _ _ (hfr a ha).2.2 e
    have tl := paired_len hTL
    rw [List.length_map] at tl
    -- list(zip(names, [first] + spots[:J] + [last] + towns))
    refine ⟨.ref nl, rfl, .ref fa, rfl, one_sz, fun c1 n1' => ?_⟩
    refine ⟨.ref sp, rfl, .int J, rfl, J, rfl, sp, _, rfl, SqL.of (same_upd n1' _ _ esp9), fun c2 n2' => ?_⟩
    rw [cut_to]
    have e2 : (upd (upd H9 c1 (.lst [.ref fa])) c2 (.lst ((as.map V.ref).take J))) c1 = some (.lst [.ref fa]) := same_upd n2' _ _ upd_same
    refine ⟨c1, c2, _, _, rfl, rfl, e2, upd_same, ?_, fun c3 n3' => ?_⟩
    · refine Nat.le_of_lt (small5000 ?_)
      rw [List.length_take, List.length_map]
      show 1 + _ ≤ 5000
      omega
    have s3 : Same H9 (upd (upd (upd H9 c1 (.lst [.ref fa])) c2 (.lst ((as.map V.ref).take J))) c3 (.lst ([.ref fa] ++ (as.map V.ref).take J))) := (same_upd n1').trans ((same_upd n2').trans (same_upd n3'))
    have e3 : (upd (upd (upd H9 c1 (.lst [.ref fa])) c2 (.lst ((as.map V.ref).take J))) c3 (.lst ([.ref fa] ++ (as.map V.ref).take J))) c3 = some (.lst ([.ref fa] ++ (as.map V.ref).take J)) := upd_same
    generalize upd (upd (upd H9 c1 (.lst [.ref fa])) c2 (.lst ((as.map V.ref).take J))) c3 (.lst ([.ref fa] ++ (as.map V.ref).take J)) = G3 at s3 e3 ⊢
    refine ⟨.ref la, rfl, one_sz, fun c4 n4' => ?_⟩
    refine ⟨c3, c4, _, _, rfl, rfl, same_upd n4' _ _ e3, upd_same, ?_, fun c5 n5' => ?_⟩
    · refine Nat.le_of_lt (small5000 ?_)
      rw [List.length_append, List.length_take, List.length_map]
      show 1 + _ + 1 ≤ 5000
      omega
    refine ⟨.ref D, rfl, c5, D, _, _, rfl, rfl, upd_same, same_upd n5' _ _ (same_upd n4' _ _ (s3 _ _ eD)), ?_, fun c6 n6' => ?_⟩
    · refine Nat.le_of_lt (small5000 ?_)
      rw [List.length_append, List.length_append, List.length_take, List.length_map, List.length_map]
      show 1 + _ + 1 + _ ≤ 5000
      omega
    have s6 := s3.trans ((same_upd (o := .lst [.ref la]) n4').trans ((same_upd (o := .lst ([.ref fa] ++ (as.map V.ref).take J ++ [.ref la])) n5').trans (same_upd (o := .lst ([.ref fa] ++ (as.map V.ref).take J ++ [.ref la] ++ ta.map V.ref)) n6')))
    have eLL : ([V.ref fa] ++ (as.map V.ref).take J ++ [.ref la] ++ ta.map V.ref) = ((([fa] ++ as.take J) ++ [la]) ++ ta).map V.ref := by
      simp only [List.map_append, List.map_take, List.map_cons, List.map_nil]
    have lens : ((([fa] ++ as.take J) ++ [la]) ++ ta).length = J + 2 + m := by
      simp only [List.length_append, List.length_take, List.length_cons, List.length_nil]
      by_cases c : 0 < J
      · have := (hJ0 c).1
        omega
      · omega
    refine ⟨nl, c6, zs.map nS, _, rfl, SqL.of (s6 _ _ enl9), SqL.of upd_same, by rw [eLL, List.length_map, List.length_map, lens]; exact hzs, by rw [List.length_map]; omega, fun H' l' ts st nl' nts nlt ndt elt htup => ?_⟩
    have s' := s6.trans st
    have kf : Keep p H H' := k3.trans (k4.trans (kk9.trans (.of s')))
    have fin : ∀ a, H9 a = none → H a = none := fun a h => k3.free b (k4.free b3 (kk9.free b4 h b9) b4) b3
    rw [eLL] at htup
    have tlen : ts.length = J + 2 + m := by
      have := paired_len htup
      rw [this, List.length_zip, List.length_map, List.length_map, lens, hzs, Nat.min_self]
    have pq : PlQ n J ((([f] :: qs.take J) ++ [[l]]) ++ tw.map fun x => [x]) := by
      refine ⟨⟨f, l, qs.take J, tw, rfl, ?_, fun js hj => ?_, q0m.1 f inf, qzm.1 l inl, htw, ?_, by omega⟩, J12⟩
      · rw [List.length_take]
        by_cases c : 0 < J
        · have := (hJ0 c).1
          omega
        · omega
      · by_cases c : 0 < J
        · exact (hJ0 c).2 js (List.mem_of_mem_take hj)
        · rw [show J = 0 by omega, List.take_zero] at hj
          cases hj
      · by_cases c : 0 < J
        · rw [List.take_of_length_le (by have := (hJ0 c).1; omega)]
          exact Chained.ends hch h00 hzz inf inl
        · have c0 : J = 0 := by omega
          obtain ⟨x, rfl⟩ := hJ1 c0
          rw [c0, List.take_zero]
          have e1 := Option.some.inj h00
          have e2 := Option.some.inj hzz
          subst e1
          subst e2
          rw [List.mem_singleton.mp inf, List.mem_singleton.mp inl]
          exact ⟨⟨x, by simp, by simp⟩, trivial⟩
    have n9 : ∀ a, H9 a = none → a ≠ p := fun a h => b9.ne h
    have nl9 : H9 l' = none := s6.free nl'
    have nt9 : ∀ t ∈ ts, H9 t = none := fun t ht => s6.free (nts t ht)
    have npa : ∀ a ∈ (([fa] ++ as.take J) ++ [la]) ++ ta, a ≠ p ∧ H a = none := fun a ha => by
      rcases List.mem_append.mp ha with z | z
      · rcases List.mem_append.mp z with z | z
        · rcases List.mem_append.mp z with z | z
          · rw [List.mem_singleton.mp z]
            exact ⟨nfap, k3.free b (k4.free b3 nfa4 b4) b3⟩
          · have := hfr a (List.mem_of_mem_take z)
            exact ⟨this.2.2, k3.free b this.1 b3⟩
        · rw [List.mem_singleton.mp z]
          exact ⟨nlap, k3.free b (k4.free b3 nla4 b4) b3⟩
      · have := htf a z
        exact ⟨this.2.2, k3.free b (k4.free b3 (k8.free b4 this.1 b8) b4) b3⟩
    refine q H' l' ts ((([fa] ++ as.take J) ++ [la]) ++ ta) zs _ J kf (b9.keep s') ⟨elt, htup, ?_, ?_, ?_, n9 _ nl9, fun t ht => n9 _ (nt9 t ht), fun a ha => (npa a ha).1⟩ pq nd nms nat (fin _ nl9) (fun t ht => fin _ (nt9 t ht)) fun a ha => (npa a ha).2
    · refine paired_append (paired_append (paired_append (as := [fa]) (bs := [[f]]) (.cons (s' _ _ efa9) .nil) (paired_take J (paired_imp hL9 fun a _ js e => s' _ _ e))) (.cons (s' _ _ ela9) .nil)) (paired_imp hTL fun a _ js e => s' _ _ e)
    · rw [hzs]
      simp only [List.length_append, List.length_take, List.length_cons, List.length_nil, List.length_map]
      by_cases c : 0 < J
      · have := (hJ0 c).1
        omega
      · omega
    · rw [tlen]
      simp only [List.length_append, List.length_take, List.length_cons, List.length_nil, List.length_map]
      by_cases c : 0 < J
      · have := (hJ0 c).1
        omega
      · omega
end
end Th
namespace Th
open PySem PySem.Spec PyProof.Rows L2
/-! the net laid out as four tuples -/
abbrev Nm := List Nat
def TK (H H' : Hp) : Prop := ∀ a xs, H a = some (.tup xs) → H' a = some (.tup xs)
theorem TK.of {H H' : Hp} (s : Same H H') : TK H H' := fun a xs e => s a _ e
theorem TK.trans {H H' H2 : Hp} (a : TK H H') (b : TK H' H2) : TK H H2 := fun c xs e => b c xs (a c xs e)
theorem TK.keep {p : Addr} {H H' : Hp} (k : Keep p H H') (b : Bag H p) : TK H H' := fun a xs e => k a _ (fun z => by
  obtain ⟨g, r, e', _⟩ := b
  rw [z, e'] at e
  cases e) e
theorem TK.upd {c : Addr} {H : Hp} {o : HO} (h : ∀ xs, H c ≠ some (.tup xs)) : TK H (upd H c o) := fun a xs e => by
  rw [upd_ne (fun z => h xs (by rw [← z]; exact e))]
  exact e
theorem Keep.set {p S : Addr} {H H' : Hp} {o : HO} (k : Keep p H H') (n : H S = none) : Keep p H (L2.upd H' S o) := fun c o nc ec => by
  rw [upd_ne (ne_of_none ec n)]
  exact k c o nc ec
theorem same_set {S : Addr} {H H' : Hp} {o : HO} (k : Same H H') (n : H S = none) : Same H (upd H' S o) := fun c o ec => by
  rw [upd_ne (ne_of_none ec n)]
  exact k c o ec
theorem two_sz {x y : V} : [x, y].length ≤ sizeLine := by show 2 ≤ sizeLine; decide
theorem four_sz {x y z u : V} : [x, y, z, u].length ≤ sizeLine := by show 4 ≤ sizeLine; decide
def StAt (H : Hp) (a : Addr) (st : Nm × Nm) : Prop := H a = some (.tup [nS st.1, nS st.2])
def JnAt (H : Hp) (a : Addr) (jn : Nm × List Nm) : Prop := ∃ b, H a = some (.tup [nS jn.1, .ref b]) ∧ H b = some (.tup (jn.2.map nS))
structure Ti where
  a : Nm
  b : Nm
  ln : Nm
  ch : Nat
def TiAt (H : Hp) (x : Addr) (t : Ti) : Prop := H x = some (.tup [nS t.a, nS t.b, nS t.ln, .int t.ch])
/-- the net at its address -/
def NetAt (H : Hp) (r : Addr) (ls : List Nm) (sts : List (Nm × Nm)) (jns : List (Nm × List Nm)) (tis : List Ti) : Prop :=
  ∃ (a b c d : Addr) (sa ja ta : List Addr), H r = some (.tup [.ref a, .ref b, .ref c, .ref d]) ∧ H a = some (.tup (ls.map nS)) ∧ H b = some (.tup (sa.map V.ref)) ∧ Paired (StAt H) sa sts ∧
    H c = some (.tup (ja.map V.ref)) ∧ Paired (JnAt H) ja jns ∧ H d = some (.tup (ta.map V.ref)) ∧ Paired (TiAt H) ta tis
theorem NetAt.tk {H H' : Hp} {r : Addr} {ls : List Nm} {sts : List (Nm × Nm)} {jns : List (Nm × List Nm)} {tis : List Ti} (h : NetAt H r ls sts jns tis) (k : TK H H') : NetAt H' r ls sts jns tis := by
  obtain ⟨a, b, c, d, sa, ja, ta, e1, e2, e3, e4, e5, e6, e7, e8⟩ := h
  exact ⟨a, b, c, d, sa, ja, ta, k _ _ e1, k _ _ e2, k _ _ e3, paired_imp e4 fun x _ y e => k _ _ e, k _ _ e5, paired_imp e6 (fun x _ y ⟨z, f1, f2⟩ => ⟨z, k _ _ f1, k _ _ f2⟩), k _ _ e7, paired_imp e8 fun x _ y e => k _ _ e⟩
theorem paired_drop {α β : Type} {R : α → β → Prop} : ∀ {as : List α} {bs : List β} (n : Nat), Paired R as bs → Paired R (as.drop n) (bs.drop n)
  | _, _, 0, h => h
  | _, _, n + 1, .nil => .nil
  | _, _, n + 1, .cons q t => paired_drop n t
theorem paired_ins {α β : Type} {R : α → β → Prop} {as : List α} {bs : List β} (n : Nat) {a : α} {b : β} (h : Paired R as bs) (r : R a b) : Paired R (as.take n ++ [a] ++ as.drop n) (bs.take n ++ [b] ++ bs.drop n) :=
  paired_append (paired_append (paired_take n h) (.cons r .nil)) (paired_drop n h)
theorem perm_ins {α : Type} (xs : List α) (n : Nat) (x : α) : (xs.take n ++ [x] ++ xs.drop n).Perm (xs ++ [x]) := by
  have h1 : (xs.take n ++ [x] ++ xs.drop n).Perm (x :: (xs.take n ++ xs.drop n)) := by
    rw [List.append_assoc]
    exact List.perm_middle
  rw [List.take_append_drop] at h1
  exact h1.trans (List.perm_append_comm (l₁ := [x]) (l₂ := xs))
theorem ins_map {xs : List Addr} {n : Nat} {x : Addr} : (xs.map V.ref).take n ++ [V.ref x] ++ (xs.map V.ref).drop n = (xs.take n ++ [x] ++ xs.drop n).map V.ref := by
  simp only [List.map_append, List.map_take, List.map_drop, List.map_cons, List.map_nil]
def stOf (ls : List Nm) (x : Nm × List Nat) : Option (Nm × Nm) := if x.2.length = 1 then some (x.1, ls.getD (x.2.getD 0 0) []) else none
def jnOf (ls : List Nm) (x : Nm × List Nat) : Option (Nm × List Nm) := if x.2.length = 1 then none else some (x.1, x.2.map fun j => ls.getD j [])
/-- the dict of the ties -/
def TiD (H : Hp) (td : Addr) (tis : List Ti) : Prop := ∃ kvs : List (List Key × V), H td = some (.dT kvs) ∧ (kvs.map (·.1)).Nodup ∧
  Paired (fun kv (t : Ti) => kv.1 = [Sum.inr (SX.S t.a), Sum.inr (SX.S t.b)] ∧ ∃ v, kv.2 = .ref v ∧ H v = some (.tup [nS t.ln, .int t.ch])) kvs tis
theorem val_at : ∀ {kvs : List (List Key × V)} {i : Nat} {k : List Key} {v : V}, (kvs.map (·.1)).Nodup → kvs[i]? = some (k, v) → valV kvs k = some v
  | [], _, _, _, _, h => by simp at h
  | p :: r, 0, k, v, _, h => by
    have := Option.some.inj h
    subst this
    exact valV_pos rfl
  | p :: r, i + 1, k, v, hn, h => by
    have hn' := List.nodup_cons.mp hn
    rw [valV_neg]
    · exact val_at hn'.2 h
    · intro e
      exact hn'.1 (List.mem_map.mpr ⟨(k, v), List.mem_of_getElem? h, e.symm⟩)
section
variable {P : Program} {w : World} {K : PySem.W.Frag} {mg : Str → Option Value} {base : Heap} {k : Nat}
def sp_l_laid : Sp := fun vs H Q _ => ∃ (p ln pl td : Addr) (ts as : List Addr) (ls zs : List Nm) (qs : List (List Nat)) (tis : List Ti), vs = [.ref p, .ref ln, .ref pl, .ref td] ∧ Bag H p ∧ ln ≠ p ∧ H ln = some (.lst (ls.map nS)) ∧ ls.length ≤ 8 ∧
  PlAt p H pl ts zs as qs ∧ qs.length ≤ 28 ∧ (∀ js ∈ qs, 1 ≤ js.length ∧ js.length ≤ 8 ∧ ∀ j ∈ js, j < ls.length) ∧ TiD H td tis ∧ tis.length ≤ 100 ∧
  ∀ (H' : Hp) (r : Addr) (sts : List (Nm × Nm)) (jns : List (Nm × List Nm)) (rws : List Ti), Keep p H H' → Bag H' p → NetAt H' r ls sts jns rws → sts.Perm ((zs.zip qs).filterMap (stOf ls)) → jns.Perm ((zs.zip qs).filterMap (jnOf ls)) → rws.Perm tis → H r = none → Q (.ref r) H'
set_option maxHeartbeats 8000000 in
theorem ok_l_laid (T : Defs K mg) : FnOk P w K mg base CX0 (k + 2) T.a_l_laid T.d_l_laid ["_law_bag_here", "_law_lines", "_law_places_here", "_law_ties"] sp_l_laid := by
  have G_l_take : FnOk P w K mg base CX0 (k + 1) _ _ _ _ := ok_l_take T
  refine T.F_l_laid.ok sc_l_laid (fun vs H Q E h => ?_) (fun cdv A outer s H vs Q E hr h => ?_)
  · obtain ⟨p, ln, pl, td, ts, as, ls, zs, qs, tis, rfl, _⟩ := h
    rfl
  · obtain ⟨p, ln, pl, td, ts, as, ls, zs, qs, tis, rfl, b, nlp, eln, l8, pa, q28, hqs, htd, t100, q⟩ := h
    refine ⟨_, PSs.nox
(pss_cons (ps_par3 (i := 4) (j := 5) (l := 6) rfl sc_l_laid.nd rfl rfl rfl (by decide) (by decide) (by decide) rfl rfl rfl (pa_cons (pe_lst pa_nil) (pa_cons (pe_lst pa_nil) (pa_cons (pe_lst pa_nil) pa_nil))) (by rfl))
    (pss_cons (ps_for PassesOwn.never rfl (pi_list (pv 2)) (pg_tup rfl (pgs_cons (pg_name (i := 7) sc_l_laid.nd rfl (.inl rfl)) (pgs_cons (pg_name (i := 8) sc_l_laid.nd rfl (.inl rfl)) pgs_nil)))
      (pss_one (ps_if (pt_cmpR op_eq (pe_callB (r := rLenS K) call_lenS (by rfl) T.z_len (by decide +kernel) (pa_cons (pv 8) pa_nil)) (pe_int) (nomark _))
        (pss_one (ps_expr (pe_bm PySem.F.plainAttrs_list PySem.F.slot_list_insert PySem.F.type_list_insert mt_insert (pv 4) (pa_cons (pe_call G_l_take hr (by rfl) T.g_l_take T.F_l_take.kp T.b_l_take .nil pass0 (pa_cons (pv 0) (pa_cons (pe_op op_add (pe_callB (r := rLenS K) call_lenS (by rfl) T.z_len (by decide +kernel) (pa_cons (pv 4) pa_nil)) (pe_int)) pa_nil))) (pa_cons (pe_tup (pa_cons (pv 7) (pa_cons (pe_ix (r := rIxL K) ix_list (pv 1) (pe_ix (r := rIxL K) ix_list (pv 8) (pe_int) (fun _ _ => rfl)) (fun _ _ => rfl)) pa_nil))) pa_nil)))))
        (pss_one (ps_expr (pe_bm PySem.F.plainAttrs_list PySem.F.slot_list_insert PySem.F.type_list_insert mt_insert (pv 5) (pa_cons (pe_call G_l_take hr (by rfl) T.g_l_take T.F_l_take.kp T.b_l_take .nil pass0 (pa_cons (pv 0) (pa_cons (pe_op op_add (pe_callB (r := rLenS K) call_lenS (by rfl) T.z_len (by decide +kernel) (pa_cons (pv 5) pa_nil)) (pe_int)) pa_nil))) (pa_cons (pe_tup (pa_cons (pv 7) (pa_cons (pe_callTy call_tuple_of (by rfl) T.z_tuple (by decide +kernel) (pa_cons (pe_lc (own := [("_law_line", 12)]) (g := gName 12) rfl sc_l_laid.nd (pi_list (pv 8)) (blkOk_by (N := N_l_laid) (sc := defScope s_l_laid) (by decide +kernel)) (fun _ _ _ _ _ => (pg_name (i := 12) sc_l_laid.nd rfl (.inl rfl))) (fun _ _ _ _ _ => pts_nil) (fun _ _ _ _ _ => (pe_ix (r := rIxL K) ix_list (pv 1) (pv 12) (fun _ _ => rfl)))) pa_nil)) pa_nil))) pa_nil))))))))
    (pss_cons (ps_lock (ps_for PassesOwn.never rfl (pi_keys (pv 3)) (pg_tup rfl (pgs_cons (pg_name (i := 9) sc_l_laid.nd rfl (.inl rfl)) (pgs_cons (pg_name (i := 10) sc_l_laid.nd rfl (.inl rfl)) pgs_nil)))
      (pss_cons (ps_set (i := 11) sc_l_laid.nd rfl (.inl rfl) (pe_op op_catT (pe_tup (pa_cons (pv 9) (pa_cons (pv 10) pa_nil))) (pe_dget (hu_of hr) (pv 3) (pe_tup (pa_cons (pv 9) (pa_cons (pv 10) pa_nil))) (fun _ _ => rfl))))
      (pss_one (ps_expr (pe_bm PySem.F.plainAttrs_list PySem.F.slot_list_insert PySem.F.type_list_insert mt_insert (pv 6) (pa_cons (pe_call G_l_take hr (by rfl) T.g_l_take T.F_l_take.kp T.b_l_take .nil pass0 (pa_cons (pv 0) (pa_cons (pe_op op_add (pe_callB (r := rLenS K) call_lenS (by rfl) T.z_len (by decide +kernel) (pa_cons (pv 6) pa_nil)) (pe_int)) pa_nil))) (pa_cons (pv 11) pa_nil))))))))
    (pss_one (ps_ret (pe_tup (pa_cons (pe_callTy call_tuple_of (by rfl) T.z_tuple (by decide +kernel) (pa_cons (pv 1) pa_nil)) (pa_cons (pe_callTy call_tuple_of (by rfl) T.z_tuple (by decide +kernel) (pa_cons (pv 4) pa_nil)) (pa_cons (pe_callTy call_tuple_of (by rfl) T.z_tuple (by decide +kernel) (pa_cons (pv 5) pa_nil)) (pa_cons (pe_callTy call_tuple_of (by rfl) T.z_tuple (by decide +kernel) (pa_cons (pv 6) pa_nil)) pa_nil))))))))))
      , ?_⟩
    refine ⟨Nat.zero_le _, fun S nS' => ⟨Nat.zero_le _, fun J nJ' => ⟨Nat.zero_le _, fun R nR' => ⟨_, _, _, rfl, ?_⟩⟩⟩⟩
    have nJ0 : H J = none := (same_upd nS').free nJ'
    have nR1 := (same_upd nJ').free nR'
    have nR0 : H R = none := (same_upd nS').free nR1
    have eS0 : (upd (upd (upd H S (.lst [])) J (.lst [])) R (.lst [])) S = some (.lst (([] : List Addr).map V.ref)) := same_upd nR' _ _ (same_upd nJ' _ _ upd_same)
    have eJ0 : (upd (upd (upd H S (.lst [])) J (.lst [])) R (.lst [])) J = some (.lst (([] : List Addr).map V.ref)) := same_upd nR' _ _ upd_same
    have eR0 : (upd (upd (upd H S (.lst [])) J (.lst [])) R (.lst [])) R = some (.lst (([] : List Addr).map V.ref)) := upd_same
    have s0 : Same H (upd (upd (upd H S (.lst [])) J (.lst [])) R (.lst [])) := (same_upd nS').trans ((same_upd nJ').trans (same_upd nR'))
    have nSJ : S ≠ J := fun z => by rw [← z, upd_same] at nJ'; cases nJ'
    have nJR : J ≠ R := fun z => by rw [← z, upd_same] at nR'; cases nR'
    have nSR : S ≠ R := fun z => by rw [← z, upd_ne nSJ, upd_same] at nR'; cases nR'
    have nSp : S ≠ p := b.ne nS'
    have nJp : J ≠ p := b.ne nJ0
    have nRp : R ≠ p := b.ne nR0
    have b0 := b.keep s0
    generalize upd (upd (upd H S (.lst [])) J (.lst [])) R (.lst []) = H1 at eS0 eJ0 eR0 s0 b0 ⊢
    have lts : (ts.map V.ref).length = (zs.zip qs).length := by rw [List.length_map, List.length_zip, pa.lt, pa.lz, Nat.min_self]
    refine ⟨.ref pl, rfl, pl, rfl, ⟨_, SqL.of (s0 _ _ pa.lst)⟩, ?_⟩
    refine for_it (walk_list (xs := ts.map V.ref)) (fun i σ H3 => ∃ (y7 y8 : Option V) (sa ja : List Addr) (sts : List (Nm × Nm)) (jns : List (Nm × List Nm)), σ = [some (.ref p), some (.ref ln), some (.ref pl), some (.ref td), some (.ref S), some (.ref J), some (.ref R), y7, y8, none, none, none, none] ∧ Keep p H H3 ∧ Bag H3 p ∧ H3 S = some (.lst (sa.map V.ref)) ∧ H3 J = some (.lst (ja.map V.ref)) ∧ H3 R = some (.lst (([] : List Addr).map V.ref)) ∧ Paired (StAt H3) sa sts ∧ Paired (JnAt H3) ja jns ∧ sa.length ≤ i ∧ ja.length ≤ i ∧ sts.Perm (((zs.zip qs).take i).filterMap (stOf ls)) ∧ jns.Perm (((zs.zip qs).take i).filterMap (jnOf ls)))
      ⟨none, none, [], [], [], [], rfl, .of s0, b0, eS0, eJ0, eR0, .nil, .nil, Nat.le_refl _, Nat.le_refl _, by rw [List.take_zero]; exact .refl _, by rw [List.take_zero]; exact .refl _⟩ (fun i σ H3 _ hp => ?_) (fun i x σ H3₀ H3 hi hp y => ?_) (fun σ H3 hp => ?_)
    · obtain ⟨y7, y8, sa, ja, sts, jns, rfl, k3, _⟩ := hp
      exact SqL.of (k3 _ _ pa.np.1 pa.lst)
    · obtain ⟨rfl, ex⟩ := y
      obtain ⟨y7, y8, sa, ja, sts, jns, rfl, k3, b3, eS, eJ, eR, hS, hJ, lS, lJ, pS, pJ⟩ := hp
      obtain ⟨t, et, rfl⟩ : ∃ t, ts[i]? = some t ∧ x = .ref t := by
        rw [List.getElem?_map] at ex
        cases h : ts[i]? with
        | none => rw [h] at ex; cases ex
        | some t => rw [h] at ex; exact ⟨t, rfl, (Option.some.inj ex).symm⟩
      obtain ⟨pr, epr, etup⟩ := paired_get pa.tup et
      rw [List.getElem?_zip_eq_some, List.getElem?_map, List.getElem?_map] at epr
      obtain ⟨z, ez, ez1⟩ : ∃ z, zs[i]? = some z ∧ pr.1 = nS z := by
        cases h : zs[i]? with
        | none => rw [h] at epr; cases epr.1
        | some z => rw [h] at epr; exact ⟨z, rfl, (Option.some.inj epr.1).symm⟩
      obtain ⟨a, ea, ea1⟩ : ∃ a, as[i]? = some a ∧ pr.2 = .ref a := by
        cases h : as[i]? with
        | none => rw [h] at epr; cases epr.2
        | some z => rw [h] at epr; exact ⟨z, rfl, (Option.some.inj epr.2).symm⟩
      rw [ez1, ea1] at etup
      obtain ⟨js, ejs, eas⟩ := paired_get pa.ll ea
      have hjs := hqs js (List.mem_of_getElem? ejs)
      have nap := pa.np.2.2 a (List.mem_of_getElem? ea)
      have ntp := pa.np.2.1 t (List.mem_of_getElem? et)
      have e3t := k3 _ _ ntp etup
      have e3a := k3 _ _ nap eas
      have e3l := k3 _ _ nlp eln
      have tk1 : (zs.zip qs).take (i + 1) = (zs.zip qs).take i ++ [(z, js)] := by
        rw [List.take_add_one, (List.getElem?_zip_eq_some (l₁ := zs) (l₂ := qs) (z := (z, js)) (i := i)).mpr ⟨ez, ejs⟩]
        rfl
      have i28 : i < 28 := by
        rw [lts, List.length_zip] at hi
        omega
      refine ⟨t, _, rfl, SqT.of e3t, rfl, _, _, rfl, _, [], rfl, rfl, ?_⟩
      refine ⟨.ref a, rfl, a, jV js, rfl, .inl (SqL.of e3a), rfl, _, rfl, ite2 (fun c => ?_) (fun c => ?_)⟩
      · have c : js.length = 1 := by
          have c := V.int.inj (of_decide_eq_true c)
          rw [List.length_map] at c
          omega
        obtain ⟨j, rfl⟩ := List.length_eq_one_iff.mp c
        have hj : j < ls.length := hjs.2.2 j (by simp)
        have gl : (ls.map nS)[j]? = some (nS (ls.getD j [])) := by
          rw [List.getElem?_map, List.getElem?_eq_getElem hj, List.getD_eq_getElem?_getD, List.getElem?_eq_getElem hj]
          rfl
        refine ⟨.ref S, rfl, .inl ⟨rfl, _, SqL.of eS⟩, .ref p, rfl, .ref S, rfl, S, sa.map V.ref, rfl, .inl (SqL.of eS), _, 1, rfl, rfl, p, (sa.length : Int) + 1, by dsimp only; rw [List.length_map]; rfl, b3, by omega, by omega, fun H4 d k4 b4 d0 d1 => ?_⟩
        refine ⟨nS z, rfl, .ref ln, rfl, .ref a, rfl, a, jV [j], 0, .int (j : Nat), rfl, rfl, SqL.of (k4 _ _ nap e3a), atI_nat (j := 0) rfl, ln, _, (j : Nat), nS (ls.getD j []), rfl, rfl, SqL.of (k4 _ _ nlp e3l), atI_nat gl, two_sz, fun t' nt' => ?_⟩
        have eS4 := same_upd (o := .tup [nS z, nS (ls.getD j [])]) nt' _ _ (k4 _ _ nSp eS)
        refine ⟨S, _, d, .ref t', rfl, rfl, eS4, by rw [List.length_map]; exact small5000 (by omega), d0, by omega, ?_⟩
        have tk : TK H3 (upd (upd H4 t' (.tup [nS z, nS (ls.getD j [])])) S (.lst ((sa.map V.ref).take d.toNat ++ [.ref t'] ++ (sa.map V.ref).drop d.toNat))) := (TK.keep k4 b3).trans ((TK.of (same_upd nt')).trans (.upd fun xs e => by rw [eS4] at e; cases e))
        have ntS : t' ≠ S := fun z => by rw [← z, upd_same] at eS4; cases eS4
        refine ⟨_, _, sa.take d.toNat ++ [t'] ++ sa.drop d.toNat, ja, sts.take d.toNat ++ [(z, ls.getD j [])] ++ sts.drop d.toNat, jns, rfl, (k3.trans (k4.trans (.of (same_upd nt')))).set nS', (b4.keep (same_upd nt')).at (upd_ne nSp.symm), by rw [upd_same, ins_map], ?_, ?_, ?_, paired_imp hJ (fun x _ y ⟨z, f1, f2⟩ => ⟨z, tk _ _ f1, tk _ _ f2⟩), ?_, by omega, ?_, ?_⟩
        · rw [upd_ne nSJ.symm]
          exact same_upd nt' _ _ (k4 _ _ nJp eJ)
        · rw [upd_ne nSR.symm]
          exact same_upd nt' _ _ (k4 _ _ nRp eR)
        · refine paired_ins _ (paired_imp hS fun x _ y e => tk _ _ e) ?_
          show (upd (upd H4 t' _) S _) t' = _
          rw [upd_ne ntS, upd_same]
        · simp only [List.length_append, List.length_take, List.length_drop, List.length_cons, List.length_nil]
          omega
        · rw [tk1, List.filterMap_append]
          exact (perm_ins _ _ _).trans (pS.append_right _)
        · rw [tk1, List.filterMap_append]
          show jns.Perm (_ ++ [])
          rw [List.append_nil]
          exact pJ
      · have c : js.length ≠ 1 := fun z => c (decide_eq_true (by rw [List.length_map, z]; rfl))
        refine ⟨.ref J, rfl, .inl ⟨rfl, _, SqL.of eJ⟩, .ref p, rfl, .ref J, rfl, J, ja.map V.ref, rfl, .inl (SqL.of eJ), _, 1, rfl, rfl, p, (ja.length : Int) + 1, by dsimp only; rw [List.length_map]; rfl, b3, by omega, by omega, fun H4 d k4 b4 d0 d1 => ?_⟩
        refine ⟨nS z, rfl, .ref a, rfl, a, rfl, ⟨_, SqL.of (k4 _ _ nap e3a)⟩, fun M nM => ?_⟩
        refine lc_it (walk_list (xs := jV js)) (fun n H5 => Same H4 H5 ∧ H5 M = some (.lst (((js.take n).map fun j => ls.getD j []).map nS))) ⟨same_upd nM, upd_same⟩ (fun n H5 _ pv => SqL.of (pv.1 _ _ (k4 _ _ nap e3a))) (fun n x H5 H6 hn pv y => ?_) (fun H5 pv => ?_)
        · obtain ⟨rfl, ex⟩ := y
          obtain ⟨s5, eM⟩ := pv
          obtain ⟨j, ej, rfl⟩ : ∃ j, js[n]? = some j ∧ x = .int (j : Nat) := by
            rw [List.getElem?_map] at ex
            cases h : js[n]? with
            | none => rw [h] at ex; cases ex
            | some t => rw [h] at ex; exact ⟨t, rfl, (Option.some.inj ex).symm⟩
          have hj : j < ls.length := hjs.2.2 j (List.mem_of_getElem? ej)
          have gl : (ls.map nS)[j]? = some (nS (ls.getD j [])) := by
            rw [List.getElem?_map, List.getElem?_eq_getElem hj, List.getD_eq_getElem?_getD, List.getElem?_eq_getElem hj]
            rfl
          refine ⟨rfl, yes_ ?_⟩
          refine ⟨.ref ln, rfl, .int (j : Nat), rfl, ln, _, (j : Nat), nS (ls.getD j []), rfl, rfl, SqL.of (s5 _ _ (k4 _ _ nlp e3l)), atI_nat gl, _, eM, ?_, same_set s5 nM, ?_⟩
          · rw [List.length_map, List.length_map, List.length_take]
            exact small5000 (by omega)
          · rw [upd_same, List.take_add_one, ej, List.map_append, List.map_append]
            rfl
        obtain ⟨s5, eM⟩ := pv
        rw [List.length_map, List.take_length] at eM
        refine ⟨M, _, rfl, .inl ⟨SqL.of eM, fun jt njt => ⟨two_sz, fun t' nt' => ?_⟩⟩⟩
        have s6 := s5.trans ((same_upd (o := .tup ((js.map fun j => ls.getD j []).map nS)) njt).trans (same_upd (o := .tup [nS z, .ref jt]) nt'))
        have et' : (upd (upd H5 jt (.tup ((js.map fun j => ls.getD j []).map nS))) t' (.tup [nS z, .ref jt])) t' = some (.tup [nS z, .ref jt]) := upd_same
        have ejt : (upd (upd H5 jt (.tup ((js.map fun j => ls.getD j []).map nS))) t' (.tup [nS z, .ref jt])) jt = some (.tup ((js.map fun j => ls.getD j []).map nS)) := same_upd nt' _ _ upd_same
        generalize upd (upd H5 jt (.tup ((js.map fun j => ls.getD j []).map nS))) t' (.tup [nS z, .ref jt]) = H6 at s6 et' ejt ⊢
        have eJ6 := s6 _ _ (k4 _ _ nJp eJ)
        refine ⟨J, _, d, .ref t', rfl, rfl, eJ6, by rw [List.length_map]; exact small5000 (by omega), d0, by omega, ?_⟩
        have tk6 : TK H6 (upd H6 J (.lst ((ja.map V.ref).take d.toNat ++ [.ref t'] ++ (ja.map V.ref).drop d.toNat))) := .upd fun xs e => by rw [eJ6] at e; cases e
        have tk : TK H3 (upd H6 J (.lst ((ja.map V.ref).take d.toNat ++ [.ref t'] ++ (ja.map V.ref).drop d.toNat))) := (TK.keep k4 b3).trans ((TK.of s6).trans tk6)
        refine ⟨_, _, sa, ja.take d.toNat ++ [t'] ++ ja.drop d.toNat, sts, jns.take d.toNat ++ [(z, js.map fun j => ls.getD j [])] ++ jns.drop d.toNat, rfl, (k3.trans (k4.trans (.of s6))).set nJ0, (b4.keep s6).at (upd_ne nJp.symm), ?_, by rw [upd_same, ins_map], ?_, paired_imp hS fun x _ y e => tk _ _ e, ?_, by omega, ?_, ?_, ?_⟩
        · rw [upd_ne nSJ]
          exact s6 _ _ (k4 _ _ nSp eS)
        · rw [upd_ne nJR.symm]
          exact s6 _ _ (k4 _ _ nRp eR)
        · exact paired_ins _ (paired_imp hJ (fun x _ y ⟨z, f1, f2⟩ => ⟨z, tk _ _ f1, tk _ _ f2⟩)) ⟨jt, tk6 _ _ et', tk6 _ _ ejt⟩
        · simp only [List.length_append, List.length_take, List.length_drop, List.length_cons, List.length_nil]
          omega
        · rw [tk1, List.filterMap_append]
          show sts.Perm (_ ++ (([(z, js)] : List (Nm × List Nat)).filterMap (stOf ls)))
          rw [show ([(z, js)] : List (Nm × List Nat)).filterMap (stOf ls) = [] by
            rw [List.filterMap_cons]
            unfold stOf
            rw [if_neg c]
            rfl, List.append_nil]
          exact pS
        · rw [tk1, List.filterMap_append]
          rw [show ([(z, js)] : List (Nm × List Nat)).filterMap (jnOf ls) = [(z, js.map fun j => ls.getD j [])] by
            rw [List.filterMap_cons]
            unfold jnOf
            rw [if_neg c]
            rfl]
          exact (perm_ins _ _ _).trans (pJ.append_right _)
    · obtain ⟨y7, y8, sa, ja, sts, jns, rfl, k3, b3, eS, eJ, eR, hS, hJ, lS, lJ, pS, pJ⟩ := hp
      rw [lts, List.take_length] at pS pJ
      obtain ⟨kvs, etd, knd, hkt⟩ := htd
      have ntp : td ≠ p := fun z => by
        obtain ⟨g, r, e, _⟩ := b
        rw [z, e] at etd
        cases etd
      have etd3 := k3 _ _ ntp etd
      refine ⟨td, .dT kvs, etd3, trivial, fun od => ?_⟩
      have tkl : TK H3 (upd H3 td (.frz od (.dT kvs))) := .upd fun xs e => by rw [etd3] at e; cases e
      have nStd : S ≠ td := fun z => by rw [← z, nS'] at etd; cases etd
      have nJtd : J ≠ td := fun z => by rw [← z, nJ0] at etd; cases etd
      have nRtd : R ≠ td := fun z => by rw [← z, nR0] at etd; cases etd
      refine ⟨.ref td, rfl, td, od, rfl, .inr ⟨kvs, upd_same, ?_⟩⟩
      refine for_it (walk_keysT (kvs := kvs)) (fun i σ H5 => ∃ (y9 y10 y11 : Option V) (ra : List Addr) (rws : List Ti), σ = [some (.ref p), some (.ref ln), some (.ref pl), some (.ref td), some (.ref S), some (.ref J), some (.ref R), y7, y8, y9, y10, y11, none] ∧ Keep p (upd H td (.frz od (.dT kvs))) H5 ∧ Bag H5 p ∧ H5 td = some (.frz od (.dT kvs)) ∧ H5 S = some (.lst (sa.map V.ref)) ∧ H5 J = some (.lst (ja.map V.ref)) ∧ TK H3 H5 ∧ H5 R = some (.lst (ra.map V.ref)) ∧ Paired (TiAt H5) ra rws ∧ ra.length ≤ i ∧ rws.Perm (tis.take i))
        ⟨none, none, none, [], [], rfl, fun c o nc ec => ?_, b3.at (upd_ne ntp.symm), upd_same, by rw [upd_ne nStd]; exact eS, by rw [upd_ne nJtd]; exact eJ, tkl, by rw [upd_ne nRtd]; exact eR, .nil, Nat.le_refl _, by rw [List.take_zero]⟩ (fun i σ H5 _ hp => ?_) (fun i x σ H5₀ H5 hi hp y => ?_) (fun σ H5 hp => ?_)
      · by_cases z : c = td
        · rw [z, upd_same] at ec ⊢
          exact ec
        · rw [upd_ne z] at ec ⊢
          exact k3 _ _ nc ec
      · obtain ⟨y9, y10, y11, ra, rws, rfl, k5, b5, etd5, _⟩ := hp
        exact etd5
      · obtain ⟨rfl, kk, v, u, ekv, rfl, eu⟩ := y
        obtain ⟨y9, y10, y11, ra, rws, rfl, k5, b5, etd5, eS5, eJ5, tk5, eR5, hR, lR, pR⟩ := hp
        obtain ⟨ti, eti, ekk, v0, ev, ev0⟩ := paired_get hkt ekv
        dsimp only at ekk ev
        subst ekk
        subst ev
        have ev3 := (TK.keep k3 b) _ _ ev0
        refine ⟨u, _, rfl, SqT.of eu, rfl, _, _, rfl, _, [], rfl, rfl, ?_⟩
        refine ⟨nS ti.a, rfl, nS ti.b, rfl, two_sz, fun u1 n1 => ?_⟩
        refine ⟨.ref td, rfl, nS ti.a, rfl, nS ti.b, rfl, two_sz, fun u2 n2 => ?_⟩
        refine ⟨td, .ref v0, rfl, .inr ⟨kvs, [Sum.inr (SX.S ti.a), Sum.inr (SX.S ti.b)], u2, .inr ⟨od, same_upd n2 _ _ (same_upd n1 _ _ etd5)⟩, rfl, upd_same, (val_at knd ekv).symm⟩, ?_⟩
        refine ⟨u1, v0, [nS ti.a, nS ti.b], [nS ti.ln, .int ti.ch], rfl, rfl, SqT.of (same_upd n2 _ _ upd_same), SqT.of (same_upd n2 _ _ (same_upd n1 _ _ (tk5 _ _ ev3))), by simp, four_sz (x := nS ti.a) (y := nS ti.b) (z := nS ti.ln) (u := .int ti.ch), fun h => (by cases h), fun _ u3 n3 => ?_⟩
        have s6 := (same_upd (o := .tup [nS ti.a, nS ti.b]) n1).trans ((same_upd (o := .tup [nS ti.a, nS ti.b]) n2).trans (same_upd (o := .tup ([nS ti.a, nS ti.b] ++ [nS ti.ln, .int ti.ch])) n3))
        have eu3 : (upd (upd (upd H5 u1 (.tup [nS ti.a, nS ti.b])) u2 (.tup [nS ti.a, nS ti.b])) u3 (.tup ([nS ti.a, nS ti.b] ++ [nS ti.ln, .int ti.ch]))) u3 = some (.tup [nS ti.a, nS ti.b, nS ti.ln, .int ti.ch]) := upd_same
        generalize upd (upd (upd H5 u1 (.tup [nS ti.a, nS ti.b])) u2 (.tup [nS ti.a, nS ti.b])) u3 (.tup ([nS ti.a, nS ti.b] ++ [nS ti.ln, .int ti.ch])) = H6 at s6 eu3 ⊢
        have eR6 := s6 _ _ eR5
        have b6 := b5.keep s6
        have il : i < tis.length := (List.getElem?_eq_some_iff.mp eti).1
        refine ⟨.ref R, rfl, .inl ⟨rfl, _, SqL.of eR6⟩, .ref p, rfl, .ref R, rfl, R, ra.map V.ref, rfl, .inl (SqL.of eR6), _, 1, rfl, rfl, p, (ra.length : Int) + 1, by dsimp only; rw [List.length_map]; rfl, b6, by omega, by omega, fun H7 d k7 b7 d0 d1 => ?_⟩
        have eR7 := k7 _ _ nRp eR6
        refine ⟨.ref u3, rfl, R, _, d, .ref u3, rfl, rfl, eR7, by rw [List.length_map]; exact small5000 (by omega), d0, by omega, ?_⟩
        have tk7 : TK H6 (upd H7 R (.lst ((ra.map V.ref).take d.toNat ++ [.ref u3] ++ (ra.map V.ref).drop d.toNat))) := (TK.keep k7 b6).trans (.upd fun xs e => by rw [eR7] at e; cases e)
        have nRf : (upd H td (.frz od (.dT kvs))) R = none := by rw [upd_ne nRtd]; exact nR0
        refine ⟨_, _, _, ra.take d.toNat ++ [u3] ++ ra.drop d.toNat, rws.take d.toNat ++ [ti] ++ rws.drop d.toNat, rfl, (k5.trans ((Keep.of s6).trans k7)).set nRf, b7.at (upd_ne nRp.symm), ?_, ?_, ?_, tk5.trans ((TK.of s6).trans tk7), by rw [upd_same, ins_map], paired_ins _ (paired_imp hR fun x _ y e => tk7 _ _ (s6 _ _ e)) (tk7 _ _ eu3), ?_, ?_⟩
        · rw [upd_ne nRtd.symm]
          exact k7 _ _ ntp (s6 _ _ etd5)
        · rw [upd_ne nSR]
          exact k7 _ _ nSp (s6 _ _ eS5)
        · rw [upd_ne nJR]
          exact k7 _ _ nJp (s6 _ _ eJ5)
        · simp only [List.length_append, List.length_take, List.length_drop, List.length_cons, List.length_nil]
          omega
        · rw [List.take_add_one, eti]
          exact (perm_ins _ _ _).trans (pR.append_right _)
      · obtain ⟨y9, y10, y11, ra, rws, rfl, k5, b5, etd5, eS5, eJ5, tk5, eR5, hR, lR, pR⟩ := hp
        rw [paired_len hkt, List.take_length] at pR
        refine ⟨etd5, ?_⟩
        have kf : Keep p H (upd H5 td (.dT kvs)) := fun c o nc ec => by
          by_cases z : c = td
          · rw [z] at ec ⊢
            rw [upd_same, ← etd]
            exact ec
          · rw [upd_ne z]
            exact k5 _ _ nc (by rw [upd_ne z]; exact ec)
        have bf : Bag (upd H5 td (.dT kvs)) p := b5.at (upd_ne ntp.symm)
        have tkf : TK H5 (upd H5 td (.dT kvs)) := .upd fun xs e => by rw [etd5] at e; cases e
        have eSf : (upd H5 td (.dT kvs)) S = some (.lst (sa.map V.ref)) := by rw [upd_ne nStd]; exact eS5
        have eJf : (upd H5 td (.dT kvs)) J = some (.lst (ja.map V.ref)) := by rw [upd_ne nJtd]; exact eJ5
        have eRf : (upd H5 td (.dT kvs)) R = some (.lst (ra.map V.ref)) := by rw [upd_ne nRtd]; exact eR5
        generalize upd H5 td (.dT kvs) = Hf at kf bf tkf eSf eJf eRf ⊢
        have elf := kf _ _ nlp eln
        refine ⟨.ref ln, rfl, ln, _, rfl, .inl ⟨SqL.of elf, fun a na => ?_⟩⟩
        refine ⟨.ref S, rfl, S, _, rfl, .inl ⟨SqL.of (same_upd na _ _ eSf), fun b' nb => ?_⟩⟩
        refine ⟨.ref J, rfl, J, _, rfl, .inl ⟨SqL.of (same_upd nb _ _ (same_upd na _ _ eJf)), fun c nc => ?_⟩⟩
        refine ⟨.ref R, rfl, R, _, rfl, .inl ⟨SqL.of (same_upd nc _ _ (same_upd nb _ _ (same_upd na _ _ eRf))), fun d nd => ?_⟩⟩
        refine ⟨four_sz, fun r nr => ?_⟩
        have sa' := same_upd (o := .tup (ls.map nS)) na
        have sb' := same_upd (o := .tup (sa.map V.ref)) nb
        have sc' := same_upd (o := .tup (ja.map V.ref)) nc
        have sd' := same_upd (o := .tup (ra.map V.ref)) nd
        have sr' := same_upd (o := .tup [.ref a, .ref b', .ref c, .ref d]) nr
        have sf := sa'.trans (sb'.trans (sc'.trans (sd'.trans sr')))
        have tkr : TK H5 _ := tkf.trans (.of sf)
        have nrf : Hf r = none := sa'.free (sb'.free (sc'.free (sd'.free nr)))
        refine q _ r sts jns rws (kf.trans (.of sf)) (bf.keep sf) ⟨a, b', c, d, sa, ja, ra, upd_same, sr' _ _ (sd' _ _ (sc' _ _ (sb' _ _ upd_same))), sr' _ _ (sd' _ _ (sc' _ _ upd_same)), paired_imp hS fun x _ y e => tkr _ _ (tk5 _ _ e), sr' _ _ (sd' _ _ upd_same), paired_imp hJ (fun x _ y ⟨z, f1, f2⟩ => ⟨z, tkr _ _ (tk5 _ _ f1), tkr _ _ (tk5 _ _ f2)⟩), sr' _ _ upd_same, paired_imp hR fun x _ y e => tkr _ _ e⟩ pS pJ pR (kf.free b nrf bf)
end
end Th
namespace Th
open PySem PySem.Spec PyProof.Rows L2
/-! the drawn net -/
def TieOk (zs : List Nm) (qs : List (List Nat)) (ls : List Nm) (t : Ti) : Prop := ∃ (i j x : Nat) (a b : List Nat), i ≠ j ∧ zs[i]? = some t.a ∧ zs[j]? = some t.b ∧ qs[i]? = some a ∧ qs[j]? = some b ∧ x ∈ a ∧ x ∈ b ∧ ls[x]? = some t.ln ∧ 1 ≤ t.ch ∧ t.ch ≤ 9999
def Apart (s t : Ti) : Prop := ¬ (s.a = t.a ∧ s.b = t.b) ∧ ¬ (s.a = t.b ∧ s.b = t.a)
structure NetOk (ls zs : List Nm) (qs : List (List Nat)) (J : Nat) (tis : List Ti) : Prop where
  l1 : 1 ≤ ls.length
  l8 : ls.length ≤ 8
  lnd : ls.Nodup
  lnm : ∀ z ∈ ls, IsNm z
  q : PlQ ls.length J qs
  lz : zs.length = qs.length
  znd : zs.Nodup
  znm : ∀ z ∈ zs, IsNm z
  ok : ∀ t ∈ tis, TieOk zs qs ls t
  ap : tis.Pairwise Apart
  way : ∀ i, i < J + 1 → ∃ t ∈ tis, zs[i]? = some t.a ∧ zs[i + 1]? = some t.b
  t40 : tis.length ≤ 40
theorem nms_of {ls : List Nm} (h : ∀ k l, ls[k]? = some l → NmAt k l) : ∀ z ∈ ls, IsNm z := fun z hz => by
  obtain ⟨k, hk⟩ := List.getElem?_of_mem hz
  exact (h k z hk).nm
theorem PlAt.at {p : Addr} {H : Hp} {l : Addr} {ts as : List Addr} {zs qs : List (List Nat)} (h : PlAt p H l ts zs as qs) {i : Nat} (hi : i < qs.length) :
    ∃ t z a js, ts[i]? = some t ∧ zs[i]? = some z ∧ as[i]? = some a ∧ qs[i]? = some js ∧ H t = some (.tup [nS z, .ref a]) ∧ H a = some (.lst (jV js)) ∧ t ≠ p ∧ a ≠ p := by
  have et : ts[i]? = some (ts[i]'(by rw [h.lt]; exact hi)) := List.getElem?_eq_getElem _
  obtain ⟨pr, epr, etup⟩ := paired_get h.tup et
  rw [List.getElem?_zip_eq_some, List.getElem?_map, List.getElem?_map] at epr
  obtain ⟨z, ez, ez1⟩ : ∃ z, zs[i]? = some z ∧ pr.1 = nS z := by
    cases h : zs[i]? with
    | none => rw [h] at epr; cases epr.1
    | some z => rw [h] at epr; exact ⟨z, rfl, (Option.some.inj epr.1).symm⟩
  obtain ⟨a, ea, ea1⟩ : ∃ a, as[i]? = some a ∧ pr.2 = .ref a := by
    cases h : as[i]? with
    | none => rw [h] at epr; cases epr.2
    | some z => rw [h] at epr; exact ⟨z, rfl, (Option.some.inj epr.2).symm⟩
  rw [ez1, ea1] at etup
  obtain ⟨js, ejs, eas⟩ := paired_get h.ll ea
  exact ⟨_, z, a, js, et, ez, ea, ejs, etup, eas, h.np.2.1 _ (List.mem_of_getElem? et), h.np.2.2 a (List.mem_of_getElem? ea)⟩
theorem PlQ.each {n J : Nat} {qs : List (List Nat)} (h : PlQ n J qs) (n8 : n ≤ 8) : ∀ js ∈ qs, 1 ≤ js.length ∧ js.length ≤ 8 ∧ ∀ j ∈ js, j < n := by
  obtain ⟨f, l, ss, tw, rfl, h1, h2, hf, hl, htw, _, _⟩ := h.form
  have one : ∀ x, x < n → 1 ≤ [x].length ∧ [x].length ≤ 8 ∧ ∀ j ∈ [x], j < n := fun x hx => ⟨by simp, by simp, fun j hj => by rw [List.mem_singleton.mp hj]; exact hx⟩
  intro js hj
  rcases List.mem_append.mp hj with z | z
  · rcases List.mem_append.mp z with z | z
    · rcases List.mem_cons.mp z with z | z
      · rw [z]
        exact one f hf
      · have s := h2 js z
        exact ⟨by have := s.two; omega, s.len8 n8, s.lt⟩
    · rw [List.mem_singleton.mp z]
      exact one l hl
  · obtain ⟨x, hx, rfl⟩ := List.mem_map.mp z
    exact one x (htw x hx)
theorem PlQ.count {n J : Nat} {qs : List (List Nat)} (h : PlQ n J qs) : qs.countP (fun js => decide (1 < js.length)) = J := by
  obtain ⟨f, l, ss, tw, rfl, h1, h2, _⟩ := h.form
  have e1 : ss.countP (fun js => decide (1 < js.length)) = ss.length := List.countP_eq_length.mpr fun js hj => decide_eq_true (by have := (h2 js hj).two; omega)
  have e2 : (tw.map fun x => [x]).countP (fun js : List Nat => decide (1 < js.length)) = 0 := List.countP_eq_zero.mpr fun js hj => by
    obtain ⟨x, _, rfl⟩ := List.mem_map.mp hj
    simp
  rw [List.countP_append, List.countP_append, List.countP_cons, e1, e2, List.countP_singleton, h1]
  simp
theorem tid_none {H : Hp} {kvs : List (List Key × V)} {tis : List Ti} (h : Paired (fun kv (t : Ti) => kv.1 = [Sum.inr (SX.S t.a), Sum.inr (SX.S t.b)] ∧ ∃ v, kv.2 = .ref v ∧ H v = some (.tup [nS t.ln, .int t.ch])) kvs tis) (a b : Nm) :
    valV kvs [Sum.inr (SX.S a), Sum.inr (SX.S b)] = none ↔ ∀ t ∈ tis, ¬ (t.a = a ∧ t.b = b) := by
  induction h with
  | nil => exact ⟨fun _ t ht => (by cases ht), fun _ => rfl⟩
  | @cons kv t kvs tis hk _ ih =>
    by_cases e : t.a = a ∧ t.b = b
    · rw [valV_pos (by rw [hk.1, e.1, e.2])]
      exact ⟨fun z => (by cases z), fun z => absurd e (z t (List.mem_cons_self ..))⟩
    · rw [valV_neg (fun z => e (by
        rw [hk.1] at z
        simp only [List.cons.injEq, Sum.inr.injEq, and_true] at z
        exact ⟨SX.S_inj z.1, SX.S_inj z.2⟩)), ih]
      exact ⟨fun z x hx => (List.mem_cons.mp hx).elim (fun q => by rw [q]; exact e) (z x), fun z x hx => z x (List.mem_cons_of_mem _ hx)⟩
theorem key_none {kvs : List (List Key × V)} {k : List Key} (h : valV kvs k = none) : k ∉ kvs.map (·.1) := fun z => by
  obtain ⟨kv, h1, h2⟩ := List.mem_map.mp z
  have := valV_any k kvs
  rw [h] at this
  have h3 : (kvs.any fun kv => decide (kv.1 = k)) = true := List.any_eq_true.mpr ⟨kv, h1, decide_eq_true h2⟩
  rw [h3] at this
  cases this
theorem jV_app (a b : List Nat) : jV (a ++ b) = jV a ++ jV b := List.map_append
theorem nodup_inj {α : Type} {zs : List α} (h : zs.Nodup) {x y : Nat} {z : α} (h1 : zs[x]? = some z) (h2 : zs[y]? = some z) : x = y := by
  rw [List.nodup_iff_pairwise_ne, List.pairwise_iff_getElem] at h
  obtain ⟨l1, g1⟩ := List.getElem?_eq_some_iff.mp h1
  obtain ⟨l2, g2⟩ := List.getElem?_eq_some_iff.mp h2
  rcases Nat.lt_trichotomy x y with c | c | c
  · exact absurd (g1.trans g2.symm) (h x y l1 l2 c)
  · exact c
  · exact absurd (g2.trans g1.symm) (h y x l2 l1 c)
theorem TiD.keep {p td : Addr} {H H' : Hp} {tis : List Ti} (h : TiD H td tis) (k : Keep p H H') (b : Bag H p) : TiD H' td tis := by
  obtain ⟨kvs, e, nd, hp⟩ := h
  have n : td ≠ p := fun z => by
    obtain ⟨g, r, e', _⟩ := b
    rw [z, e'] at e
    cases e
  exact ⟨kvs, k _ _ n e, nd, paired_imp hp fun kv _ t ⟨h1, v, h2, h3⟩ => ⟨h1, v, h2, (TK.keep k b) _ _ h3⟩⟩
theorem Chained.at : ∀ {l : List (List Nat)} {i : Nat} {a b : List Nat}, Chained l → l[i]? = some a → l[i + 1]? = some b → ∃ x, x ∈ a ∧ x ∈ b
  | [], _, _, _, _, h, _ => by simp at h
  | [_], 0, _, _, _, _, h => by simp at h
  | [_], i + 1, _, _, _, h, _ => by simp at h
  | c :: d :: r, 0, a, b, hc, h1, h2 => by
    have e1 := Option.some.inj h1
    have e2 := Option.some.inj h2
    subst e1
    subst e2
    exact hc.1
  | c :: d :: r, i + 1, a, b, hc, h1, h2 => Chained.at (l := d :: r) (i := i) hc.2 h1 h2
theorem PlQ.chain {n J : Nat} {qs : List (List Nat)} (h : PlQ n J qs) {i : Nat} (hi : i < J + 1) {a b : List Nat} (e1 : qs[i]? = some a) (e2 : qs[i + 1]? = some b) : ∃ x, x ∈ a ∧ x ∈ b := by
  obtain ⟨f, l, ss, tw, rfl, h1, _, _, _, _, hc, _⟩ := h.form
  have hl : (([f] :: ss) ++ [[l]]).length = J + 2 := by simp [h1]
  rw [List.getElem?_append_left (by omega)] at e1 e2
  exact Chained.at hc e1 e2
abbrev jI (js : List Nat) : List Int := js.map fun j => ((j : Nat) : Int)
theorem jV_ints (js : List Nat) : jV js = (jI js).map V.int := by rw [List.map_map]; rfl
/-- a place as data -/
abbrev plD (z : Nm) (js : List Nat) : PyData := .tuple [.str (SX.S z), dI (jI js)]
theorem dt_pl {H : Hp} {t a : Addr} {z : Nm} {js : List Nat} (e : H t = some (.tup [nS z, .ref a])) (ea : H a = some (.lst (jV js))) (h : js.length ≤ 5000) : Dt SA H (.ref t) (plD z js) :=
  .tup trivial e (by show 2 ≤ 5000; decide) (.cons (.str _) (.cons (dt_ints (by rw [ea, jV_ints]) (by rw [List.length_map]; exact h)) .nil))
theorem nm_ok {z : Nm} (h : IsNm z) : PyData.strOk (SX.S z) = true := by
  unfold PyData.strOk
  rw [Array.all_eq_true']
  intro c hc
  have hc : c ∈ z := by simpa [SX.S] using hc
  have := h.2.2 c hc
  exact decide_eq_true (by omega)
theorem lay_pl {z : Nm} (hz : IsNm z) (js : List Nat) : (plD z js).canLay0 = true := by
  show (PyData.strOk (SX.S z) && (PyData.canLay0 (dI (jI js)) && true)) = true
  rw [lay_ints, nm_ok hz]
  rfl
theorem shaped_pl {z : Nm} (hz : IsNm z) (js : List Nat) : SeqAt.shaped (plD z js) = true := Bool.and_eq_true_iff.mpr ⟨lay_pl hz js, decide_eq_true (by
  show max 0 (max (PyData.depth (dI (jI js))) 0) + 1 ≤ _
  rw [depth_ints]
  decide)⟩
theorem eqv_pl {z z' : Nm} {js js' : List Nat} (h : PyData.eqv (plD z js) (plD z' js') = true) : z = z' := by
  have h : (PyData.eqv (.str (SX.S z)) (.str (SX.S z')) && (PyData.eqv (dI (jI js)) (dI (jI js')) && true)) = true := h
  exact SX.S_inj (eq_of_beq (Bool.and_eq_true_iff.mp h).1)
theorem in_ints {x : Nat} {js : List Nat} : inV (.int (x : Nat)) (jV js) = decide (x ∈ js) := by
  unfold inV
  rw [List.any_map]
  by_cases h : x ∈ js
  · rw [decide_eq_true h]
    exact List.any_eq_true.mpr ⟨x, h, by show ((x : Int) == (x : Int)) = true; simp⟩
  · rw [decide_eq_false h]
    refine List.any_eq_false.mpr fun y hy z => h ?_
    have z : (((y : Nat) : Int) == ((x : Nat) : Int)) = true := z
    have := eq_of_beq z
    rw [show x = y by omega]
    exact hy
theorem flat_ints (js : List Nat) : (jV js).all flatV = true := List.all_eq_true.mpr fun x hx => by
  obtain ⟨j, _, rfl⟩ := List.mem_map.mp hx
  rfl
section
variable {P : Program} {w : World} {K : PySem.W.Frag} {mg : Str → Option Value} {base : Heap} {k : Nat}
def sp_l_net : Sp := fun vs H Q _ => ∃ p, vs = [.ref p] ∧ Bag H p ∧ ∀ (H' : Hp) (r nt wy : Addr) (ls zs : List Nm) (qs : List (List Nat)) (J : Nat) (tis : List Ti) (sts : List (Nm × Nm)) (jns : List (Nm × List Nm)) (rws : List Ti), Keep p H H' → Bag H' p → H' r = some (.tup [.ref nt, .ref wy]) →
  NetAt H' nt ls sts jns rws → H' wy = some (.tup ((zs.take (J + 2)).map nS)) → NetOk ls zs qs J tis → sts.Perm ((zs.zip qs).filterMap (stOf ls)) → jns.Perm ((zs.zip qs).filterMap (jnOf ls)) → rws.Perm tis → Q (.ref r) H'
set_option maxHeartbeats 8000000 in
theorem ok_l_net (T : Defs K mg) : FnOk P w K mg base CX0 (k + 4) T.a_l_net T.d_l_net ["_law_bag_here"] sp_l_net := by
  have G_l_take : FnOk P w K mg base CX0 (k + 3) _ _ _ _ := ok_l_take (k := k + 2) T
  have G_l_names : FnOk P w K mg base CX0 (k + 3) _ _ _ _ := ok_l_names (k := k + 1) T
  have G_l_places : FnOk P w K mg base CX0 (k + 3) _ _ _ _ := ok_l_places T
  have G_l_laid : FnOk P w K mg base CX0 (k + 3) _ _ _ _ := ok_l_laid (k := k + 1) T
  refine T.F_l_net.ok sc_l_net (fun vs H Q E h => ?_) (fun cdv A outer s H vs Q E hr h => ?_)
  · obtain ⟨p, rfl, _⟩ := h
    rfl
  · obtain ⟨p, rfl, b, q⟩ := h
    refine ⟨_, PSs.nox
(pss_cons (ps_set (i := 1) sc_l_net.nd rfl (.inl rfl) (pe_ix (r := rIxT K) ix_tup (pe_tup (pa_cons (pe_int) (pa_cons (pe_int) (pa_cons (pe_int) (pa_cons (pe_int) (pa_cons (pe_int) (pa_cons (pe_int) (pa_cons (pe_int) (pa_cons (pe_int) pa_nil))))))))) (pe_call G_l_take hr (by rfl) T.g_l_take T.F_l_take.kp T.b_l_take .nil pass0 (pa_cons (pv 0) (pa_cons (pe_int) pa_nil))) (fun _ _ => rfl)))
    (pss_cons (ps_set (i := 2) sc_l_net.nd rfl (.inl rfl) (pe_call G_l_names hr (by rfl) T.g_l_names T.F_l_names.kp T.b_l_names .nil pass0 (pa_cons (pv 0) (pa_cons (pv 1) pa_nil))))
    (pss_cons (ps_set (i := 3) sc_l_net.nd rfl (.inl rfl) (pe_call G_l_places hr (by rfl) T.g_l_places T.F_l_places.kp T.b_l_places .nil pass0 (pa_cons (pv 0) (pa_cons (pv 1) pa_nil))))
    (Evl.pss_cut (ps_if (pt_cmpR op_eq (pe_call G_l_take hr (by rfl) T.g_l_take T.F_l_take.kp T.b_l_take .nil pass0 (pa_cons (pv 0) (pa_cons (pe_int) pa_nil))) (pe_int) (nomark _))
      (pss_one (ps_asg (pe_ix (r := rIxT K) ix_tup (pe_ix (r := rIxL K) ix_list (pv 3) (pe_int) (fun _ _ => rfl)) (pe_int) (fun _ _ => rfl)) (pg_sub (pv 2) (pe_int) set_list)))
      pss_nil)
    (pss_cons (ps_set (i := 4) sc_l_net.nd rfl (.inl rfl) (pe_op op_add (pe_int) (pe_callB (r := rLenS K) call_lenS (by rfl) T.z_len (by decide +kernel) (pa_cons (pe_lc (own := [("_law_one", 7)]) (g := gName 7) rfl sc_l_net.nd (pi_list (pv 3)) (blkOk_by (N := N_l_net) (sc := defScope s_l_net) (by decide +kernel)) (fun _ _ _ _ _ => (pg_name (i := 7) sc_l_net.nd rfl (.inl rfl))) (fun _ _ _ _ _ => pts_one (pt_cmpR op_gt (pe_callB (r := rLenS K) call_lenS (by rfl) T.z_len (by decide +kernel) (pa_cons (pe_ix (r := rIxT K) ix_tup (pv 7) (pe_int) (fun _ _ => rfl)) pa_nil)) (pe_int) (nomark _))) (fun _ _ _ _ _ => (pv 7))) pa_nil))))
    (pss_cons (ps_set (i := 5) sc_l_net.nd rfl (.inl rfl) (pe_dnewT))
    (pss_cons (ps_for PassesOwn.never rfl (pi_range1 (by rfl) T.z_range (pa_cons (pe_op op_add (pe_op op_sub (pv 4) (pe_int)) (pe_call G_l_take hr (by rfl) T.g_l_take T.F_l_take.kp T.b_l_take .nil pass0 (pa_cons (pv 0) (pa_cons (pe_int) pa_nil)))) pa_nil)) (pg_name (i := 6) sc_l_net.nd rfl (.inl rfl))
      (pss_cons (ps_set (i := 7) sc_l_net.nd rfl (.inl rfl) (pe_ix (r := rIxL K) ix_list (pv 3) (pe_op op_mod (pv 6) (pe_callB (r := rLenS K) call_lenS (by rfl) T.z_len (by decide +kernel) (pa_cons (pv 3) pa_nil))) (fun _ _ => rfl)))
      (pss_cons (ps_set (i := 8) sc_l_net.nd rfl (.inr rfl) (pe_ix (r := rIxL K) ix_list (pv 3) (pe_op op_mod (pe_op op_add (pv 6) (pe_int)) (pe_callB (r := rLenS K) call_lenS (by rfl) T.z_len (by decide +kernel) (pa_cons (pv 3) pa_nil))) (fun _ _ => rfl)))
      (Evl.pss_cut (ps_if (pt_cmpR op_ge (pv 6) (pe_op op_sub (pv 4) (pe_int)) (nomark _))
        (pss_cons (ps_set (i := 7) sc_l_net.nd rfl (.inl rfl) (pe_ix (r := rIxL K) ix_list (pv 3) (pe_call G_l_take hr (by rfl) T.g_l_take T.F_l_take.kp T.b_l_take .nil pass0 (pa_cons (pv 0) (pa_cons (pe_callB (r := rLenS K) call_lenS (by rfl) T.z_len (by decide +kernel) (pa_cons (pv 3) pa_nil)) pa_nil))) (fun _ _ => rfl)))
        (pss_one (ps_set (i := 8) sc_l_net.nd rfl (.inr rfl) (pe_ix (r := rIxL K) ix_list (pv 3) (pe_call G_l_take hr (by rfl) T.g_l_take T.F_l_take.kp T.b_l_take .nil pass0 (pa_cons (pv 0) (pa_cons (pe_callB (r := rLenS K) call_lenS (by rfl) T.z_len (by decide +kernel) (pa_cons (pv 3) pa_nil)) pa_nil))) (fun _ _ => rfl)))))
        pss_nil)
      (pss_cons (ps_setLc (i := 9) (own := [("_law_line", 12)]) (g := gName 12) rfl sc_l_net.nd rfl rfl (sw_true rfl rfl rfl (by decide +kernel)) (pi_list (pe_ix (r := rIxT K) ix_tup (pv 7) (pe_int) (fun _ _ => rfl))) (blkOk_by (N := N_l_net) (sc := defScope s_l_net) (by decide +kernel)) (fun _ _ _ _ _ => (pg_name (i := 12) sc_l_net.nd rfl (.inl rfl))) (fun _ _ _ _ _ => pts_one (pt_cmpR (r := rIn K false) op_in_seq (pv 12) (pe_ix (r := rIxT K) ix_tup (pv 8) (pe_int) (fun _ _ => rfl)) (by rfl))) (fun _ _ _ _ _ => (pv 12)))
      (pss_cons (ps_set (i := 10) sc_l_net.nd rfl (.inl rfl) (pe_op op_add (pe_int) (pe_call G_l_take hr (by rfl) T.g_l_take T.F_l_take.kp T.b_l_take .nil pass0 (pa_cons (pv 0) (pa_cons (pe_ix (r := rIxT K) ix_tup (pe_tup (pa_cons (pe_int) (pa_cons (pe_int) (pa_cons (pe_int) pa_nil)))) (pe_call G_l_take hr (by rfl) T.g_l_take T.F_l_take.kp T.b_l_take .nil pass0 (pa_cons (pv 0) (pa_cons (pe_int) pa_nil))) (fun _ _ => rfl)) pa_nil)))))
      (Evl.pss_cut (ps_set (i := 11) sc_l_net.nd rfl (.inl rfl) (pe_or (pe_cmp (pc_din (hu_of hr) (pe_tup (pa_cons (pe_ix (r := rIxT K) ix_tup (pv 7) (pe_int) (fun _ _ => rfl)) (pa_cons (pe_ix (r := rIxT K) ix_tup (pv 8) (pe_int) (fun _ _ => rfl)) pa_nil))) (pv 5))) (pe_one (pe_cmp (pc_din (hu_of hr) (pe_tup (pa_cons (pe_ix (r := rIxT K) ix_tup (pv 8) (pe_int) (fun _ _ => rfl)) (pa_cons (pe_ix (r := rIxT K) ix_tup (pv 7) (pe_int) (fun _ _ => rfl)) pa_nil))) (pv 5))))))
      (pss_one (ps_if (PW.pt (pw_and (pt_cmpR (r := rNeD K) (op_neD hr.units) (pv 7) (pv 8) (nomark _)) (pw_and (pt_cmpR (r := rNeD K) (op_neD hr.units) (pv 9) (pe_lst pa_nil) (nomark _)) (pw_and1 (pt_not (pt_val (pv 11)))))))
        (pss_one (ps_dput (hu_of hr) (pv 5) (pe_tup (pa_cons (pe_ix (r := rIxT K) ix_tup (pv 7) (pe_int) (fun _ _ => rfl)) (pa_cons (pe_ix (r := rIxT K) ix_tup (pv 8) (pe_int) (fun _ _ => rfl)) pa_nil))) (pe_tup (pa_cons (pe_ix (r := rIxL K) ix_list (pv 2) (pe_ix (r := rIxL K) ix_list (pv 9) (pe_call G_l_take hr (by rfl) T.g_l_take T.F_l_take.kp T.b_l_take .nil pass0 (pa_cons (pv 0) (pa_cons (pe_callB (r := rLenS K) call_lenS (by rfl) T.z_len (by decide +kernel) (pa_cons (pv 9) pa_nil)) pa_nil))) (fun _ _ => rfl)) (fun _ _ => rfl)) (pa_cons (pv 10) pa_nil))) (by rfl)))
        pss_nil)))))))))
    (pss_one (ps_ret (pe_tup (pa_cons (pe_call G_l_laid hr (by rfl) T.g_l_laid T.F_l_laid.kp T.b_l_laid .nil pass0 (pa_cons (pv 0) (pa_cons (pv 2) (pa_cons (pv 3) (pa_cons (pv 5) pa_nil))))) (pa_cons (pe_callTy call_tuple_of (by rfl) T.z_tuple (by decide +kernel) (pa_cons (pe_lc (own := [("_law_one", 7)]) (g := gName 7) rfl sc_l_net.nd (pi_list (pe_slice sl_list (pv 3) po_none (po_some (pv 4)))) (blkOk_by (N := N_l_net) (sc := defScope s_l_net) (by decide +kernel)) (fun _ _ _ _ _ => (pg_name (i := 7) sc_l_net.nd rfl (.inl rfl))) (fun _ _ _ _ _ => pts_nil) (fun _ _ _ _ _ => (pe_ix (r := rIxT K) ix_tup (pv 7) (pe_int) (fun _ _ => rfl)))) pa_nil)) pa_nil))))))))))))
      , ?_⟩
    refine ⟨by decide, fun t nt => ?_⟩
    have ntp : t ≠ p := b.ne nt
    refine ⟨.ref p, rfl, p, 8, rfl, b.keep (same_upd nt), by decide, by decide, fun H1 d k1 b1 d0 d1 => ?_⟩
    obtain ⟨m0, hm0, em0⟩ := pick (ms := [3, 8, 2, 5, 1, 4, 6, 7]) d0 d1
    refine ⟨t, _, d, _, rfl, rfl, SqT.of (k1 _ _ ntp upd_same), em0, ?_⟩
    have k1 : Keep p H H1 := (Keep.of (same_upd nt)).trans k1
    obtain ⟨n, rfl, n1, n8⟩ : ∃ n : Nat, m0 = (n : Int) ∧ 1 ≤ n ∧ n ≤ 8 := by
      simp only [List.mem_cons, List.not_mem_nil, or_false] at hm0
      exact ⟨m0.toNat, by omega, by omega, by omega⟩
    -- lines
    refine ⟨.ref p, rfl, .int n, rfl, p, n, rfl, b1, by omega, fun H2 ln ls0 k2 b2 nln eln hl0 _ _ nat0 => ?_⟩
    have nln0 : H ln = none := k1.free b nln b1
    have nlp : ln ≠ p := b1.ne nln
    have k2 := k1.trans k2
    -- places
    refine ⟨.ref p, rfl, .int n, rfl, p, n, rfl, b2, n1, n8, fun H3 pl ts as zs qs J k3 b3 pa pq znd znm znat npl nts nas => ?_⟩
    have eln3 := k3 _ _ nlp eln
    have k3 := k2.trans k3
    have lnpl : ln ≠ pl := ne_of_none eln npl
    have lnts : ∀ a ∈ ts, ln ≠ a := fun a ha => ne_of_none eln (nts a ha)
    have lnas : ∀ a ∈ as, ln ≠ a := fun a ha => ne_of_none eln (nas a ha)
    have hN := pq.len
    -- a line by a place's name
    refine ⟨fun σ H5 => ∃ ls : List Nm, σ = [some (.ref p), some (.int n), some (.ref ln), some (.ref pl), none, none, none, none, none, none, none, none, none] ∧ Keep p H H5 ∧ Bag H5 p ∧ PlAt p H5 pl ts zs as qs ∧ H5 ln = some (.lst (ls.map nS)) ∧ ls.length = n ∧ ∀ k l, ls[k]? = some l → NmAt k l, ?_, fun σ H5 mid => ?_⟩
    · refine ⟨.ref p, rfl, p, 3, rfl, b3, by decide, by decide, fun H4 d4 k4 b4 d40 d41 => ⟨rfl, _, rfl, ite2 (fun c => ?_) (fun c => ?_)⟩⟩
      · obtain ⟨t0, z0, a0, j0, et0, ez0, _, _, e0, _, nt0, _⟩ := (pa.keep k4).at (i := 0) (by omega)
        refine ⟨.ref pl, rfl, pl, ts.map V.ref, 0, .ref t0, rfl, rfl, SqL.of (pa.keep k4).lst, atI_nat (j := 0) (by rw [List.getElem?_map, et0]; rfl), t0, [nS z0, .ref a0], 0, nS z0, rfl, rfl, SqT.of e0, atI_nat (j := 0) rfl, ?_⟩
        refine ⟨.ref ln, rfl, ln, _, 0, 0, rfl, rfl, k4 _ _ nlp eln3, ?_, ?_⟩
        · rw [List.length_map, hl0]
          exact Evl.ixN_nat n1
        have eset : (ls0.map nS).set 0 (nS z0) = (ls0.set 0 z0).map nS := by rw [List.map_set]
        refine ⟨ls0.set 0 z0, rfl, (k3.trans k4).set nln0, b4.at (upd_ne nlp.symm), ?_, by rw [upd_same, eset], by rw [List.length_set, hl0], fun k l hk => ?_⟩
        · have pk := pa.keep k4
          refine ⟨by rw [upd_ne lnpl.symm]; exact pk.lst, paired_imp pk.tup fun a ha x e => by rw [upd_ne (lnts a ha).symm]; exact e, paired_imp pk.ll fun a ha x e => by rw [upd_ne (lnas a ha).symm]; exact e, pk.lz, pk.lt, pk.np⟩
        · rw [List.getElem?_set] at hk
          split at hk
          · rename_i z
            subst z
            split at hk
            · have := Option.some.inj hk
              subst this
              exact znat 0 _ ez0
            · cases hk
          · exact nat0 k l hk
      · exact ⟨ls0, rfl, k3.trans k4, b4, pa.keep k4, k4 _ _ nlp eln3, hl0, nat0⟩
    obtain ⟨ls, rfl, k5, b5, pa5, eln5, hln, lnat⟩ := mid
    -- row
    refine ⟨.ref pl, rfl, pl, rfl, ⟨_, SqL.of pa5.lst⟩, fun D nD => ?_⟩
    have lts : (ts.map V.ref).length = qs.length := by rw [List.length_map, pa5.lt]
    refine lc_it (walk_list (xs := ts.map V.ref)) (fun i H6 => Same H5 H6 ∧ ∃ xs : List V, H6 D = some (.lst xs) ∧ xs.length = (qs.take i).countP (fun js => decide (1 < js.length))) ⟨same_upd nD, [], upd_same, by rw [List.take_zero]; rfl⟩ (fun i H6 _ pv => SqL.of (pv.1 _ _ pa5.lst)) (fun i x H6₀ H6 hi pv y => ?_) (fun H6 pv => ?_)
    · obtain ⟨rfl, ex⟩ := y
      obtain ⟨s6, xs, eD, hxs⟩ := pv
      rw [lts] at hi
      obtain ⟨t1, z1, a1, js, et1, ez1, ea1, ejs, e1, e2, nt1, na1⟩ := pa5.at hi
      have hx : x = .ref t1 := by
        rw [List.getElem?_map, et1] at ex
        exact (Option.some.inj ex).symm
      subst hx
      have hc1 : (qs.take (i + 1)).countP (fun js => decide (1 < js.length)) = (qs.take i).countP (fun js => decide (1 < js.length)) + if 1 < js.length then 1 else 0 := by
        rw [List.take_add_one, ejs, List.countP_append]
        show _ + List.countP _ [js] = _
        rw [List.countP_singleton]
        simp
      refine ⟨rfl, .ref t1, rfl, t1, [nS z1, .ref a1], 1, .ref a1, rfl, rfl, SqT.of (s6 _ _ e1), atI_nat (j := 1) rfl, a1, jV js, rfl, .inl (SqL.of (s6 _ _ e2)), _, 1, rfl, rfl, _, rfl, ite2 (fun c => ?_) (fun c => ?_)⟩
      · have c := of_decide_eq_true c
        rw [List.length_map] at c
        refine ⟨.ref t1, rfl, xs, eD, ?_, same_set s6 nD, _, upd_same, ?_⟩
        · rw [hxs]
          refine small5000 (Nat.le_trans List.countP_le_length ?_)
          rw [List.length_take]
          omega
        · rw [List.length_append, hxs, hc1, if_pos (by omega)]
          rfl
      · have c : ¬ _ := fun z => c (decide_eq_true z)
        rw [List.length_map] at c
        exact ⟨s6, xs, eD, by rw [hxs, hc1, if_neg (by omega)]; rfl⟩
    obtain ⟨s6, xs, eD, hxs⟩ := pv
    rw [lts, List.take_length, pq.count] at hxs
    refine ⟨D, xs, rfl, .inl (SqL.of eD), 2, J, rfl, by rw [hxs], ?_⟩
    have k6 := k5.trans (.of s6)
    have b6 := b5.keep s6
    have pa6 := pa5.keep (.of s6)
    have eln6 := s6 _ _ eln5
    clear eD hxs
    intro td ntd
    have ntd0 : H td = none := k6.free b ntd b6
    have ntdp : td ≠ p := b6.ne ntd
    have k7 : Keep p H (upd H6 td (.dT [])) := k6.trans (.of (same_upd ntd))
    have b7 := b6.keep (same_upd (o := .dT []) ntd)
    have pa7 := pa6.keep (.of (same_upd (o := .dT []) ntd))
    have eln7 := same_upd (o := .dT []) ntd _ _ eln6
    have etd7 : (upd H6 td (.dT [])) td = some (.dT []) := upd_same
    have hlntd : ln ≠ td := ne_of_none eln6 ntd
    generalize upd H6 td (.dT []) = H7 at k7 b7 pa7 eln7 etd7 ⊢
    dsimp only
    refine ⟨.int (2 + (J : Int)), rfl, _, 1, rfl, rfl, .ref p, rfl, p, 28, rfl, b7, by decide, by decide, fun H8 x k8 b8 x0 x1 => ?_⟩
    obtain ⟨x, rfl⟩ : ∃ xn : Nat, x = (xn : Int) := ⟨x.toNat, by omega⟩
    refine ⟨_, _, rfl, rfl, _, rfl, by omega, by omega, ?_⟩
    rw [show (2 + (J : Int) - 1 + (x : Int)).toNat = J + 1 + x by omega]
    have each := pq.each n8
    refine for_range (lo := 0) (n := J + 1 + x) (fun i σ H9 => ∃ (y6 y7 y8 y9 y10 y11 : Option V) (tis : List Ti), σ = [some (.ref p), some (.int n), some (.ref ln), some (.ref pl), some (.int (2 + (J : Int))), some (.ref td), y6, y7, y8, y9, y10, y11, none] ∧ Keep p H H9 ∧ Bag H9 p ∧ PlAt p H9 pl ts zs as qs ∧ H9 ln = some (.lst (ls.map nS)) ∧ TiD H9 td tis ∧ tis.length ≤ i ∧ (∀ t ∈ tis, TieOk zs qs ls t) ∧ tis.Pairwise Apart ∧ (∀ j, j < i → j < J + 1 → ∃ t ∈ tis, zs[j]? = some t.a ∧ zs[j + 1]? = some t.b) ∧ (i ≤ J + 1 → ∀ t ∈ tis, ∃ j, j < i ∧ zs[j]? = some t.a ∧ zs[j + 1]? = some t.b))
      ⟨_, _, _, _, _, _, [], rfl, k7.trans k8, b8, pa7.keep k8, k8 _ _ nlp eln7, ⟨[], k8 _ _ ntdp etd7, List.nodup_nil, .nil⟩, Nat.le_refl _, fun t ht => (by cases ht), List.Pairwise.nil, fun j hj => absurd hj (Nat.not_lt_zero _), fun _ t ht => (by cases ht)⟩ (fun i σ H9 hi hp => ?_) (fun σ H9 hp => ?_)
    · obtain ⟨y6, y7, y8, y9, y10, y11, tis, rfl, k9, b9, pa9, eln9, htd, tl, tok, tap, tway, tfst⟩ := hp
      have lN : ((ts.map V.ref).length : Int) = (qs.length : Int) := by rw [lts]
      have m1 : i % qs.length < qs.length := Nat.mod_lt _ (by omega)
      have m2 : (i + 1) % qs.length < qs.length := Nat.mod_lt _ (by omega)
      obtain ⟨t1, et1⟩ : ∃ t1, ts[i % qs.length]? = some t1 := ⟨_, List.getElem?_eq_getElem (by rw [pa9.lt]; exact m1)⟩
      obtain ⟨t2, et2⟩ : ∃ t2, ts[(i + 1) % qs.length]? = some t2 := ⟨_, List.getElem?_eq_getElem (by rw [pa9.lt]; exact m2)⟩
      have at1 : atI (ts.map V.ref) ((0 + (i : Int)) % ((ts.map V.ref).length : Int)) = some (.ref t1) := by
        rw [lN, Int.zero_add, ← Int.natCast_emod]
        exact atI_nat (by rw [List.getElem?_map, et1]; rfl)
      have at2 : atI (ts.map V.ref) ((0 + (i : Int) + 1) % ((ts.map V.ref).length : Int)) = some (.ref t2) := by
        rw [lN, Int.zero_add, show ((i : Int) + 1) = ((i + 1 : Nat) : Int) by omega, ← Int.natCast_emod]
        exact atI_nat (by rw [List.getElem?_map, et2]; rfl)
      refine ⟨.ref pl, rfl, .int (0 + (i : Int)), rfl, .ref pl, rfl, pl, ts.map V.ref, rfl, .inl (SqL.of pa9.lst), _, _, rfl, rfl, by omega, pl, ts.map V.ref, _, .ref t1, rfl, rfl, SqL.of pa9.lst, at1, ?_⟩
      refine ⟨.ref pl, rfl, .int (0 + (i : Int)), rfl, _, 1, rfl, rfl, .ref pl, rfl, pl, ts.map V.ref, rfl, .inl (SqL.of pa9.lst), _, _, rfl, rfl, by omega, pl, ts.map V.ref, _, .ref t2, rfl, rfl, SqL.of pa9.lst, at2, ?_⟩
      refine ⟨fun σ H10 => ∃ (io jo : Nat) (t1 t2 : Addr), σ = [some (.ref p), some (.int n), some (.ref ln), some (.ref pl), some (.int (2 + (J : Int))), some (.ref td), some (.int (0 + (i : Int))), some (.ref t1), some (.ref t2), y9, y10, y11, none] ∧ Keep p H9 H10 ∧ Bag H10 p ∧ io < qs.length ∧ jo < qs.length ∧ ts[io]? = some t1 ∧ ts[jo]? = some t2 ∧ (i < J + 1 → io = i ∧ jo = i + 1), ?_, fun σ H10 mid => ?_⟩
      · refine ⟨.int (0 + (i : Int)), rfl, .int (2 + (J : Int)), rfl, _, 1, rfl, rfl, _, _, rfl, rfl, _, rfl, ite2 (fun c => ?_) (fun c => ?_)⟩
        · have c := of_decide_eq_true c
          refine ⟨.ref pl, rfl, .ref p, rfl, .ref pl, rfl, pl, ts.map V.ref, rfl, .inl (SqL.of pa9.lst), p, (qs.length : Int), by rw [lN]; rfl, b9, by omega, by omega, fun H10 d1 k10 b10 d10 d11 => ?_⟩
          obtain ⟨io, rfl⟩ : ∃ xn : Nat, d1 = (xn : Int) := ⟨d1.toNat, by omega⟩
          obtain ⟨t1', et1'⟩ : ∃ t1, ts[io]? = some t1 := ⟨_, List.getElem?_eq_getElem (by rw [pa9.lt]; omega)⟩
          have pa10 := pa9.keep k10
          refine ⟨pl, ts.map V.ref, _, .ref t1', rfl, rfl, SqL.of pa10.lst, atI_nat (by rw [List.getElem?_map, et1']; rfl), ?_⟩
          refine ⟨.ref pl, rfl, .ref p, rfl, .ref pl, rfl, pl, ts.map V.ref, rfl, .inl (SqL.of pa10.lst), p, (qs.length : Int), by rw [lN]; rfl, b10, by omega, by omega, fun H11 d2 k11 b11 d20 d21 => ?_⟩
          obtain ⟨jo, rfl⟩ : ∃ xn : Nat, d2 = (xn : Int) := ⟨d2.toNat, by omega⟩
          obtain ⟨t2', et2'⟩ : ∃ t1, ts[jo]? = some t1 := ⟨_, List.getElem?_eq_getElem (by rw [pa9.lt]; omega)⟩
          refine ⟨pl, ts.map V.ref, _, .ref t2', rfl, rfl, SqL.of (pa10.keep k11).lst, atI_nat (by rw [List.getElem?_map, et2']; rfl), ?_⟩
          exact ⟨io, jo, t1', t2', rfl, k10.trans k11, b11, by omega, by omega, et1', et2', fun z => by omega⟩
        · exact ⟨_, _, t1, t2, rfl, .refl _ _, b9, m1, m2, et1, et2, fun z => ⟨Nat.mod_eq_of_lt (by omega), Nat.mod_eq_of_lt (by omega)⟩⟩
      clear at1 at2 et1 et2 m1 m2 t1 t2
      obtain ⟨io, jo, t1, t2, rfl, k10, b10, hio, hjo, et1, et2, hij⟩ := mid
      have pa10 := pa9.keep k10
      have eln10 := k10 _ _ nlp eln9
      obtain ⟨t1', z1, a1, js1, f1, ez1, _, eq1, e1, e1a, nt1, na1⟩ := pa10.at hio
      rw [et1] at f1
      cases f1
      obtain ⟨t2', z2, a2, js2, f2, ez2, _, eq2, e2, e2a, nt2, na2⟩ := pa10.at hjo
      rw [et2] at f2
      cases f2
      have js1m := each js1 (List.mem_of_getElem? eq1)
      have js2m := each js2 (List.mem_of_getElem? eq2)
      -- common
      refine ⟨.ref t1, rfl, t1, [nS z1, .ref a1], 1, .ref a1, rfl, rfl, SqT.of e1, atI_nat (j := 1) rfl, a1, rfl, ⟨_, SqL.of e1a⟩, fun D nD => ?_⟩
      have nDp : D ≠ p := b10.ne nD
      refine lc_it (walk_list (xs := jV js1)) (fun m H11 => Same H10 H11 ∧ H11 D = some (.lst (jV ((js1.take m).filter fun x => decide (x ∈ js2))))) ⟨same_upd nD, by rw [List.take_zero]; exact upd_same⟩ (fun m H11 _ pv => SqL.of (pv.1 _ _ e1a)) (fun m x H11₀ H11 hm pv y => ?_) (fun H11 pv => ?_)
      · obtain ⟨rfl, ex⟩ := y
        obtain ⟨s11, eD⟩ := pv
        obtain ⟨j, ej, rfl⟩ : ∃ j, js1[m]? = some j ∧ x = .int (j : Nat) := by
          rw [List.getElem?_map] at ex
          cases h : js1[m]? with
          | none => rw [h] at ex; cases ex
          | some t => rw [h] at ex; exact ⟨t, rfl, (Option.some.inj ex).symm⟩
        have hf : ((js1.take (m + 1)).filter fun x => decide (x ∈ js2)) = ((js1.take m).filter fun x => decide (x ∈ js2)) ++ if j ∈ js2 then [j] else [] := by
          rw [List.take_add_one, ej, List.filter_append]
          congr 1
          show List.filter _ [j] = _
          by_cases h : j ∈ js2
          · simp [h]
          · simp [h]
        refine ⟨rfl, .int (j : Nat), rfl, .ref t2, rfl, t2, [nS z2, .ref a2], 1, .ref a2, rfl, rfl, SqT.of (s11 _ _ e2), atI_nat (j := 1) rfl, a2, jV js2, rfl, .inl (SqL.of (s11 _ _ e2a)), rfl, flat_ints js2, _, rfl, ite2 (fun c => ?_) (fun c => ?_)⟩
        · have c : inV (.int (j : Nat)) (jV js2) = true := c
          rw [in_ints] at c
          have c := of_decide_eq_true c
          refine ⟨.int (j : Nat), rfl, _, eD, ?_, same_set s11 nD, ?_⟩
          · rw [List.length_map]
            refine small5000 (Nat.le_trans (List.length_filter_le ..) ?_)
            rw [List.length_take]
            omega
          · rw [upd_same, hf, if_pos c, jV_app]
            rfl
        · have c : ¬ inV (.int (j : Nat)) (jV js2) = true := c
          rw [in_ints] at c
          have c : ¬ j ∈ js2 := fun z => c (decide_eq_true z)
          exact ⟨s11, by rw [hf, if_neg c, List.append_nil]; exact eD⟩
      obtain ⟨s11, eD⟩ := pv
      rw [List.length_map, List.take_length] at eD
      have mcm : ∀ x, x ∈ js1.filter (fun x => decide (x ∈ js2)) ↔ x ∈ js1 ∧ x ∈ js2 := fun x => by rw [List.mem_filter, decide_eq_true_iff]
      have cml : (js1.filter fun x => decide (x ∈ js2)).length ≤ 8 := Nat.le_trans (List.length_filter_le ..) js1m.2.1
      generalize js1.filter (fun x => decide (x ∈ js2)) = cm at eD mcm cml
      have k11 := k10.trans (.of s11)
      have b11 := b10.keep s11
      -- chains
      refine ⟨.ref p, rfl, by decide, fun t nt => ?_⟩
      have ntp : t ≠ p := b11.ne nt
      refine ⟨.ref p, rfl, p, 3, rfl, b11.keep (same_upd nt), by decide, by decide, fun H12 d k12 b12 d0 d1 => ?_⟩
      obtain ⟨mx, hmx, emx⟩ := pick (ms := [9, 400, 9999]) d0 d1
      refine ⟨t, _, d, _, rfl, rfl, SqT.of (k12 _ _ ntp upd_same), emx, p, mx, rfl, b12, ?_, ?_, fun H13 ch k13 b13 ch0 ch1 => ?_⟩
      · simp only [List.mem_cons, List.not_mem_nil, or_false] at hmx
        omega
      · simp only [List.mem_cons, List.not_mem_nil, or_false] at hmx
        omega
      have chb : ch < 9999 := by
        simp only [List.mem_cons, List.not_mem_nil, or_false] at hmx
        omega
      obtain ⟨ch, rfl⟩ : ∃ xn : Nat, ch = (xn : Int) := ⟨ch.toNat, by omega⟩
      refine ⟨1, _, rfl, rfl, ?_⟩
      have eD13 : H13 D = some (.lst (jV cm)) := k13 _ _ nDp (k12 _ _ nDp (same_upd nt _ _ eD))
      have k13 : Keep p H10 H13 := (Keep.of (s11.trans (same_upd nt))).trans (k12.trans k13)
      have k13' : Keep p H9 H13 := k10.trans k13
      have e1' := k13 _ _ nt1 e1
      have e2' := k13 _ _ nt2 e2
      have e1a' := k13 _ _ na1 e1a
      have e2a' := k13 _ _ na2 e2a
      have htd13 : TiD H13 td tis := htd.keep k13' b9
      -- near
      refine ⟨fun σ H14 => ∃ nb : Bool, σ = [some (.ref p), some (.int n), some (.ref ln), some (.ref pl), some (.int (2 + (J : Int))), some (.ref td), some (.int (0 + (i : Int))), some (.ref t1), some (.ref t2), some (.ref D), some (.int (1 + (ch : Int))), some (.bl nb), none] ∧ Same H13 H14 ∧ (nb = false ↔ (∀ t ∈ tis, ¬ (t.a = z1 ∧ t.b = z2)) ∧ ∀ t ∈ tis, ¬ (t.a = z2 ∧ t.b = z1)), ?_, fun σ H14 mid => ?_⟩
      · obtain ⟨kvs, etd, knd, hkt⟩ := htd13
        refine ⟨.ref t1, rfl, t1, [nS z1, .ref a1], 0, nS z1, rfl, rfl, SqT.of e1', atI_nat (j := 0) rfl, .ref t2, rfl, t2, [nS z2, .ref a2], 0, nS z2, rfl, rfl, SqT.of e2', atI_nat (j := 0) rfl, two_sz, fun u nu => ?_⟩
        refine ⟨.ref td, rfl, td, _, rfl, DGet.t (k := [Sum.inr (SX.S z1), Sum.inr (SX.S z2)]) (same_upd nu _ _ etd) upd_same, _, rfl, ite2 (fun c => ?_) (fun c => ?_)⟩
        · refine ⟨true, rfl, same_upd nu, ⟨fun z => (by cases z), fun z => ?_⟩⟩
          rw [(tid_none hkt z1 z2).mpr z.1] at c
          cases c
        · have c1 : valV kvs [Sum.inr (SX.S z1), Sum.inr (SX.S z2)] = none := by
            cases h : valV kvs [Sum.inr (SX.S z1), Sum.inr (SX.S z2)] with
            | none => rfl
            | some x => rw [h] at c; exact absurd rfl c
          refine ⟨.ref t2, rfl, t2, [nS z2, .ref a2], 0, nS z2, rfl, rfl, SqT.of (same_upd nu _ _ e2'), atI_nat (j := 0) rfl, .ref t1, rfl, t1, [nS z1, .ref a1], 0, nS z1, rfl, rfl, SqT.of (same_upd nu _ _ e1'), atI_nat (j := 0) rfl, two_sz, fun u2 nu2 => ?_⟩
          refine ⟨.ref td, rfl, td, _, rfl, DGet.t (k := [Sum.inr (SX.S z2), Sum.inr (SX.S z1)]) (same_upd nu2 _ _ (same_upd nu _ _ etd)) upd_same, ?_⟩
          refine ⟨_, rfl, (same_upd nu).trans (same_upd nu2), ?_⟩
          have c1 := (tid_none hkt z1 z2).mp c1
          have c2 := tid_none hkt z2 z1
          cases h : valV kvs [Sum.inr (SX.S z2), Sum.inr (SX.S z1)] with
          | none => exact ⟨fun _ => ⟨c1, c2.mp h⟩, fun _ => rfl⟩
          | some x => exact ⟨fun z => (by cases z), fun z => (by rw [c2.mpr z.2] at h; cases h)⟩
      obtain ⟨nb, rfl, s14, hnb⟩ := mid
      have k14 : Keep p H9 H14 := k13'.trans (.of s14)
      have b14 := b13.keep s14
      have e1 := s14 _ _ e1'
      have e2 := s14 _ _ e2'
      have e1a := s14 _ _ e1a'
      have e2a := s14 _ _ e2a'
      have eD14 := s14 _ _ eD13
      have stay : ∀ H', Keep p H9 H' → Bag H' p → ¬ i < J + 1 → (Keep p H H' ∧ Bag H' p ∧ PlAt p H' pl ts zs as qs ∧ H' ln = some (.lst (ls.map nS)) ∧ TiD H' td tis ∧ tis.length ≤ i + 1 ∧ (∀ t ∈ tis, TieOk zs qs ls t) ∧ tis.Pairwise Apart ∧ (∀ j, j < i + 1 → j < J + 1 → ∃ t ∈ tis, zs[j]? = some t.a ∧ zs[j + 1]? = some t.b) ∧ (i + 1 ≤ J + 1 → ∀ t ∈ tis, ∃ j, j < i + 1 ∧ zs[j]? = some t.a ∧ zs[j + 1]? = some t.b)) := fun H' k b' c =>
        ⟨k9.trans k, b', pa9.keep k, k _ _ nlp eln9, htd.keep k b9, by omega, tok, tap, fun j h1 h2 => tway j (by omega) h2, fun z => absurd (by omega) c⟩
      have nm1 := znm z1 (List.mem_of_getElem? ez1)
      have nm2 := znm z2 (List.mem_of_getElem? ez2)
      have eln14 := k14 _ _ nlp eln9
      have htd14 := htd.keep k14 b9
      have lj1 : js1.length ≤ 5000 := by omega
      have lj2 : js2.length ≤ 5000 := by omega
      -- if one != other and common != [] and not near
      refine ⟨.ref t1, rfl, .ref t2, rfl, _, _, (dt_pl e1 e1a lj1).dp, (dt_pl e2 e2a lj2).dp, shaped_pl nm1 js1, shaped_pl nm2 js2, _, rfl, ite2 (fun c => ?_) (fun c => ?_)⟩
      rotate_left
      · have c : PyData.eqv (plD z1 js1) (plD z2 js2) = true := by
          cases h : PyData.eqv (plD z1 js1) (plD z2 js2) with
          | true => rfl
          | false => rw [h] at c; exact absurd rfl c
        refine ⟨_, _, _, _, _, _, tis, rfl, stay _ k14 b14 fun z => ?_⟩
        have ez := eqv_pl c
        rw [← ez] at ez2
        have := nodup_inj znd ez1 ez2
        have := hij z
        omega
      have cne : PyData.eqv (plD z1 js1) (plD z2 js2) = false := by
        cases h : PyData.eqv (plD z1 js1) (plD z2 js2) with
        | false => rfl
        | true => rw [h] at c; cases c
      have nij : io ≠ jo := fun z => by
        subst z
        rw [ez1] at ez2
        rw [eq1] at eq2
        cases ez2
        cases eq2
        rw [SeqAt.eqv_refl _ (lay_pl nm1 js1)] at cne
        cases cne
      refine ⟨.ref D, rfl, Nat.zero_le _, fun e ne => ?_⟩
      have s15 := same_upd (o := .lst []) ne
      have dD : Dt SA (upd H14 e (.lst [])) (.ref D) (dI (jI cm)) := dt_ints (by rw [s15 _ _ eD14, jV_ints]) (by rw [List.length_map]; omega)
      have dE : Dt SA (upd H14 e (.lst [])) (.ref e) (dI []) := dt_ints upd_same (Nat.zero_le _)
      refine ⟨_, _, dD.dp, dE.dp, shaped_ints _, shaped_ints _, _, rfl, ite2 (fun c => ?_) (fun c => ?_)⟩
      rotate_left
      · have c : cm = [] := by
          cases h : cm with
          | nil => rfl
          | cons x r => rw [h] at c; exact absurd rfl c
        refine ⟨_, _, _, _, _, _, tis, rfl, stay _ (k14.trans (.of s15)) (b14.keep s15) fun z => ?_⟩
        obtain ⟨r1, r2⟩ := hij z
        subst r1
        subst r2
        obtain ⟨x, x1, x2⟩ := pq.chain z eq1 eq2
        have := (mcm x).mpr ⟨x1, x2⟩
        rw [c] at this
        cases this
      have cm1 : 1 ≤ cm.length := by
        cases h : cm with
        | nil => rw [h] at c; cases c
        | cons x r => rw [List.length_cons]; omega
      refine ⟨.bl nb, rfl, nb, rfl, ite2 (fun c => ?_) (fun c => ?_)⟩
      rotate_left
      · have c : nb = true := by cases nb with
          | true => rfl
          | false => exact absurd rfl c
        refine ⟨_, _, _, _, _, _, tis, rfl, stay _ (k14.trans (.of s15)) (b14.keep s15) fun z => ?_⟩
        obtain ⟨r1, r2⟩ := hij z
        subst r1
        subst r2
        have : nb = false := hnb.mpr ⟨fun t ht e => ?_, fun t ht e => ?_⟩
        · rw [c] at this
          cases this
        · obtain ⟨j, hj, f1, f2⟩ := tfst (by omega) t ht
          rw [e.1] at f1
          have := nodup_inj znd f1 ez1
          omega
        · obtain ⟨j, hj, f1, f2⟩ := tfst (by omega) t ht
          rw [e.1] at f1
          have := nodup_inj znd f1 ez2
          omega
      have c : nb = false := by cases nb with
        | false => rfl
        | true => cases c
      obtain ⟨nn1, nn2⟩ := hnb.mp c
      have k15 : Keep p H9 _ := k14.trans (.of s15)
      have b15 := b14.keep s15
      have eD15 := s15 _ _ eD14
      have e1 := s15 _ _ e1
      have e2 := s15 _ _ e2
      generalize upd H14 e (.lst []) = H15 at k15 b15 eD15 e1 e2 s15 ⊢
      -- ties[(one[0], other[0])] = (lines[..], chains)
      have eln15 := k15 _ _ nlp eln9
      refine ⟨.ref ln, rfl, .ref D, rfl, .ref p, rfl, .ref D, rfl, D, jV cm, rfl, .inl (SqL.of eD15), p, (cm.length : Int), by rw [List.length_map]; rfl, b15, by omega, by omega, fun H16 d k16 b16 d0 d1 => ?_⟩
      obtain ⟨dj, rfl⟩ : ∃ xn : Nat, d = (xn : Int) := ⟨d.toNat, by omega⟩
      have hdj : dj < cm.length := by omega
      have inx := List.getElem_mem hdj
      have gx : (jV cm)[dj]? = some (.int (cm[dj] : Nat)) := by
        rw [List.getElem?_map, List.getElem?_eq_getElem hdj]
        rfl
      generalize cm[dj] = xj at inx gx
      have hx := (mcm xj).mp inx
      have hxl : xj < ls.length := by rw [hln]; exact js1m.2.2 xj hx.1
      obtain ⟨lx, elx⟩ : ∃ lx, ls[xj]? = some lx := ⟨_, List.getElem?_eq_getElem hxl⟩
      refine ⟨D, jV cm, (dj : Int), _, rfl, rfl, SqL.of (k16 _ _ nDp eD15), atI_nat gx, ln, ls.map nS, (xj : Nat), nS lx, rfl, rfl, SqL.of (k16 _ _ nlp eln15), atI_nat (by rw [List.getElem?_map, elx]; rfl), .int (1 + (ch : Int)), rfl, two_sz, fun v nv => ?_⟩
      have sv := same_upd (o := .tup [nS lx, .int (1 + (ch : Int))]) nv
      refine ⟨.ref td, rfl, .ref t1, rfl, t1, [nS z1, .ref a1], 0, nS z1, rfl, rfl, SqT.of (sv _ _ (k16 _ _ nt1 e1)), atI_nat (j := 0) rfl, .ref t2, rfl, t2, [nS z2, .ref a2], 0, nS z2, rfl, rfl, SqT.of (sv _ _ (k16 _ _ nt2 e2)), atI_nat (j := 0) rfl, two_sz, fun u nu => ?_⟩
      have su := same_upd (o := .tup [nS z1, nS z2]) nu
      have k17 : Keep p H9 _ := k15.trans (k16.trans (.of (sv.trans su)))
      have b17 := b16.keep (sv.trans su)
      obtain ⟨kvs, etd, knd, hkt⟩ := htd.keep k17 b9
      have ev : (upd (upd H16 v (.tup [nS lx, .int (1 + (ch : Int))])) u (.tup [nS z1, nS z2])) v = some (.tup [nS lx, .int (1 + (ch : Int))]) := su _ _ upd_same
      have eu : (upd (upd H16 v (.tup [nS lx, .int (1 + (ch : Int))])) u (.tup [nS z1, nS z2])) u = some (.tup [nS z1, nS z2]) := upd_same
      generalize upd (upd H16 v (.tup [nS lx, .int (1 + (ch : Int))])) u (.tup [nS z1, nS z2]) = H17 at k17 b17 etd hkt ev eu ⊢
      have vn := (tid_none hkt z1 z2).mpr nn1
      have kl := paired_len hkt
      refine ⟨td, _, rfl, DPut.t (k := [Sum.inr (SX.S z1), Sum.inr (SX.S z2)]) etd eu (by rw [kl]; exact small5000 (by omega)), ?_⟩
      rw [putK_new _ vn]
      have tk17 : TK H17 (upd H17 td (.dT (kvs ++ [([Sum.inr (SX.S z1), Sum.inr (SX.S z2)], .ref v)]))) := .upd fun xs e => by rw [etd] at e; cases e
      refine ⟨_, _, _, _, _, _, tis ++ [⟨z1, z2, lx, 1 + ch⟩], rfl, (k9.trans k17).set ntd0, b17.at (upd_ne ntdp.symm), ?_, ?_, ⟨_, upd_same, ?_, ?_⟩, ?_, ?_, ?_, ?_, ?_⟩
      · have pk := pa9.keep k17
        have off : ∀ {a : Addr} {o : HO}, H17 a = some o → (∀ kvs, o ≠ .dT kvs) → (upd H17 td (.dT (kvs ++ [([Sum.inr (SX.S z1), Sum.inr (SX.S z2)], .ref v)]))) a = some o := fun {a o} e h => by
          rw [upd_ne (fun z => by rw [z, etd] at e; exact h _ (Option.some.inj e).symm)]
          exact e
        exact ⟨off pk.lst fun _ z => (by cases z), paired_imp pk.tup fun a _ x e => off e fun _ z => (by cases z), paired_imp pk.ll fun a _ x e => off e fun _ z => (by cases z), pk.lz, pk.lt, pk.np⟩
      · rw [upd_ne hlntd]
        exact k17 _ _ nlp eln9
      · rw [List.map_append]
        refine List.nodup_append.mpr ⟨knd, by simp, fun x hx y hy e => ?_⟩
        rw [List.map_singleton, List.mem_singleton] at hy
        rw [e, hy] at hx
        exact key_none vn hx
      · refine paired_snoc (paired_imp hkt fun kv _ t ⟨h1, v, h2, h3⟩ => ⟨h1, v, h2, tk17 _ _ h3⟩) ⟨rfl, v, rfl, ?_⟩
        rw [tk17 _ _ ev]
        rfl
      · rw [List.length_append]
        show _ + 1 ≤ _
        omega
      · intro t ht
        rcases List.mem_append.mp ht with z | z
        · exact tok t z
        · rw [List.mem_singleton.mp z]
          exact ⟨io, jo, xj, js1, js2, nij, ez1, ez2, eq1, eq2, hx.1, hx.2, elx, by show 1 ≤ 1 + ch; omega, by show 1 + ch ≤ 9999; omega⟩
      · refine List.pairwise_append.mpr ⟨tap, List.pairwise_singleton _ _, fun s hs t ht => ?_⟩
        rw [List.mem_singleton.mp ht]
        exact ⟨nn1 s hs, nn2 s hs⟩
      · intro j h1 h2
        by_cases h3 : j < i
        · obtain ⟨t, ht, r⟩ := tway j h3 h2
          exact ⟨t, List.mem_append_left _ ht, r⟩
        · have h4 : j = i := by omega
          subst h4
          obtain ⟨r1, r2⟩ := hij h2
          subst r1
          subst r2
          exact ⟨_, List.mem_append_right _ (List.mem_singleton.mpr rfl), ez1, ez2⟩
      · intro h t ht
        rcases List.mem_append.mp ht with z | z
        · obtain ⟨j, hj, r⟩ := tfst (by omega) t z
          exact ⟨j, by omega, r⟩
        · rw [List.mem_singleton.mp z]
          obtain ⟨r1, r2⟩ := hij (by omega)
          subst r1
          subst r2
          exact ⟨_, Nat.lt_succ_self _, ez1, ez2⟩
    · obtain ⟨y6, y7, y8, y9, y10, y11, tis, rfl, k9, b9, pa9, eln9, htd, tl, tok, tap, tway, tfst⟩ := hp
      refine ⟨.ref p, rfl, .ref ln, rfl, .ref pl, rfl, .ref td, rfl, p, ln, pl, td, ts, as, ls, zs, qs, tis, rfl, b9, nlp, eln9, by omega, pa9, by omega, by rw [hln]; exact each, htd, by omega, fun H10 r sts jns rws k10 b10 hnet pS pJ pR nr => ?_⟩
      have pa10 := pa9.keep k10
      refine ⟨.ref pl, rfl, .int (2 + (J : Int)), rfl, _, rfl, pl, _, rfl, SqL.of pa10.lst, fun c nc => ?_⟩
      rw [show (2 + (J : Int)) = ((J + 2 : Nat) : Int) by omega, cut_to, ← List.map_take]
      refine ⟨c, rfl, ⟨_, SqL.of upd_same⟩, fun D nD => ?_⟩
      have s11 := same_upd (o := .lst ((ts.take (J + 2)).map V.ref)) nc
      have ec : (upd H10 c (.lst ((ts.take (J + 2)).map V.ref))) c = some (.lst ((ts.take (J + 2)).map V.ref)) := upd_same
      have pa11 := pa10.keep (.of s11)
      have b11 := b10.keep s11
      generalize upd H10 c (.lst ((ts.take (J + 2)).map V.ref)) = H11 at s11 ec pa11 b11 nD ⊢
      refine lc_it (walk_list (xs := (ts.take (J + 2)).map V.ref)) (fun i H12 => Same H11 H12 ∧ H12 D = some (.lst ((zs.take i).map nS))) ⟨same_upd nD, upd_same⟩ (fun i H12 _ pv => SqL.of (pv.1 _ _ ec)) (fun i x H12₀ H12 hi pv y => ?_) (fun H12 pv => ?_)
      · obtain ⟨rfl, ex⟩ := y
        obtain ⟨s12, eD⟩ := pv
        rw [List.length_map, List.length_take] at hi
        obtain ⟨t1, z1, a1, js, et1, ez1, _, _, e1, _, _, _⟩ := pa11.at (i := i) (by omega)
        have hx : x = .ref t1 := by
          rw [List.getElem?_map, List.getElem?_take_of_lt (by omega), et1] at ex
          exact (Option.some.inj ex).symm
        subst hx
        refine ⟨rfl, yes_ ?_⟩
        refine ⟨.ref t1, rfl, t1, [nS z1, .ref a1], 0, nS z1, rfl, rfl, SqT.of (s12 _ _ e1), atI_nat (j := 0) rfl, _, eD, ?_, same_set s12 nD, ?_⟩
        · rw [List.length_map, List.length_take]
          exact small5000 (by omega)
        · rw [upd_same, List.take_add_one, ez1, List.map_append]
          rfl
      obtain ⟨s12, eD⟩ := pv
      rw [List.length_map, List.length_take, Nat.min_eq_left (by rw [pa9.lt]; omega)] at eD
      refine ⟨D, _, rfl, .inl ⟨SqL.of eD, fun wy nwy => ⟨two_sz, fun r2 nr2 => ?_⟩⟩⟩
      have s13 := s11.trans (s12.trans ((same_upd (o := .tup ((zs.take (J + 2)).map nS)) nwy).trans (same_upd (o := .tup [.ref r, .ref wy]) nr2)))
      refine q _ r2 r wy ls zs qs J tis sts jns rws (k9.trans (k10.trans (.of s13))) (b10.keep s13) upd_same (hnet.tk (.of s13)) (same_upd nr2 _ _ upd_same) ⟨by omega, by omega, nm_nodup lnat (by omega), nms_of lnat, by rw [hln]; exact pq, pa9.lz, znd, znm, tok, tap, fun j hj => tway j (by omega) hj, by have := pq.most; omega⟩ pS pJ pR
end
end Th
namespace Th
open PySem PySem.Spec PyProof.Rows L2
/-! the program's roads of lines -/
def Adj (jns : List (Nm × List Nm)) (x y : Nm) : Prop := ∃ j ∈ jns, x ∈ j.2 ∧ y ∈ j.2
theorem Adj.symm {jns : List (Nm × List Nm)} {x y : Nm} (h : Adj jns x y) : Adj jns y x := let ⟨j, hj, a, b⟩ := h; ⟨j, hj, b, a⟩
theorem adj_snoc {jns : List (Nm × List Nm)} {j : Nm × List Nm} {x y : Nm} : Adj (jns ++ [j]) x y ↔ Adj jns x y ∨ (x ∈ j.2 ∧ y ∈ j.2) := by
  constructor
  · rintro ⟨i, hi, h⟩
    rcases List.mem_append.mp hi with z | z
    · exact .inl ⟨i, z, h⟩
    · rw [List.mem_singleton.mp z] at h
      exact .inr h
  · rintro (⟨i, hi, h⟩ | h)
    · exact ⟨i, List.mem_append_left _ hi, h⟩
    · exact ⟨j, List.mem_append_right _ (List.mem_singleton.mpr rfl), h⟩
/-- the net as far as lines and junctions go -/
def LJ (H : Hp) (r : Addr) (ls : List Nm) (jns : List (Nm × List Nm)) : Prop := ∃ (a c : Addr) (b d : V) (ja : List Addr), H r = some (.tup [.ref a, b, .ref c, d]) ∧ H a = some (.tup (ls.map nS)) ∧ H c = some (.tup (ja.map V.ref)) ∧ Paired (JnAt H) ja jns
theorem LJ.tk {H H' : Hp} {r : Addr} {ls : List Nm} {jns : List (Nm × List Nm)} (h : LJ H r ls jns) (k : TK H H') : LJ H' r ls jns := by
  obtain ⟨a, c, b, d, ja, h1, h2, h3, h4⟩ := h
  exact ⟨a, c, b, d, ja, k _ _ h1, k _ _ h2, k _ _ h3, paired_imp h4 fun x _ j ⟨t, e1, e2⟩ => ⟨t, k _ _ e1, k _ _ e2⟩⟩
structure LJok (ls : List Nm) (jns : List (Nm × List Nm)) : Prop where
  l8 : ls.length ≤ 8
  lnd : ls.Nodup
  sub : ∀ j ∈ jns, ∀ y ∈ j.2, y ∈ ls
  j9 : ∀ j ∈ jns, j.2.length ≤ 8
  jnd : ∀ j ∈ jns, j.2.Nodup
theorem LJok.adj {ls : List Nm} {jns : List (Nm × List Nm)} (h : LJok ls jns) {x y : Nm} (a : Adj jns x y) : y ∈ ls := let ⟨j, hj, _, b⟩ := a; h.sub j hj y b
theorem nd_len {α : Type} [DecidableEq α] : ∀ {l d : List α}, l.Nodup → (∀ x ∈ l, x ∈ d) → l.length ≤ d.length
  | [], _, _, _ => Nat.zero_le _
  | x :: l, d, h, s => by
    obtain ⟨h1, h2⟩ := List.nodup_cons.mp h
    have z := nd_len (l := l) (d := d.erase x) h2 fun y hy => (List.mem_erase_of_ne (fun e => h1 (by rw [← e]; exact hy))).mpr (s y (List.mem_cons_of_mem _ hy))
    have m := s x List.mem_cons_self
    rw [List.length_erase_of_mem m] at z
    have := List.length_pos_of_mem m
    rw [List.length_cons]
    omega
def addN (L : List Nm) (k : Nm) : List Nm := if k ∈ L then L else k :: L
theorem mem_addN {L : List Nm} {k x : Nm} : x ∈ addN L k ↔ x = k ∨ x ∈ L := by
  unfold addN
  split
  · exact ⟨.inr, fun z => z.elim (fun e => by rw [e]; assumption) id⟩
  · exact List.mem_cons
theorem nd_addN {L : List Nm} {k : Nm} (h : L.Nodup) : (addN L k).Nodup := by
  unfold addN
  split
  · exact h
  · exact List.nodup_cons.mpr ⟨by assumption, h⟩
theorem memS {L : List Nm} {k : Nm} : SX.S k ∈ L.map SX.S ↔ k ∈ L := ⟨fun z => let ⟨y, hy, e⟩ := List.mem_map.mp z; (SX.S_inj e) ▸ hy, fun z => List.mem_map_of_mem z⟩
theorem addL_S (L : List Nm) (k : Nm) : Ss.addL (L.map SX.S) (SX.S k) = (addN L k).map SX.S := by
  unfold Ss.addL addN
  by_cases c : k ∈ L
  · rw [if_pos (memS.mpr c), if_pos c]
  · rw [if_neg (fun z => c (memS.mp z)), if_neg c, List.map_cons]
theorem perm_S {ys : List Str} {L : List Nm} (h : ys.Perm (L.map SX.S)) : ∃ zs : List Nm, ys = zs.map SX.S ∧ zs.Perm L := by
  refine ⟨ys.map fun y => y.cps.toList, ?_, ?_⟩
  · rw [List.map_map]
    exact (List.map_id'' (fun y => rfl) ys).symm
  · have z := h.map fun y => y.cps.toList
    rw [List.map_map] at z
    rwa [show (L.map ((fun y : Str => y.cps.toList) ∘ SX.S)) = L from List.map_id'' (fun y => rfl) L] at z
theorem map_nS (zs : List Nm) : (zs.map SX.S).map V.str = zs.map nS := by rw [List.map_map]; rfl
theorem in_nms {x : Nm} {zs : List Nm} : inV (nS x) (zs.map nS) = decide (x ∈ zs) := by
  unfold inV
  rw [List.any_map]
  by_cases h : x ∈ zs
  · rw [decide_eq_true h]
    exact List.any_eq_true.mpr ⟨x, h, by show (SX.S x == SX.S x) = true; simp⟩
  · rw [decide_eq_false h]
    refine List.any_eq_false.mpr fun y hy z => h ?_
    have z : (SX.S y == SX.S x) = true := z
    rw [← SX.S_inj (eq_of_beq z)]
    exact hy
theorem flat_nms (zs : List Nm) : (zs.map nS).all flatV = true := List.all_eq_true.mpr fun x hx => by
  obtain ⟨j, _, rfl⟩ := List.mem_map.mp hx
  rfl
theorem at_ref {ts : List Addr} {i : Nat} {x : V} (h : (ts.map V.ref)[i]? = some x) : ∃ u, ts[i]? = some u ∧ x = .ref u := by
  rw [List.getElem?_map] at h
  cases c : ts[i]? with
  | none => rw [c] at h; cases h
  | some t => rw [c] at h; exact ⟨t, rfl, (Option.some.inj h).symm⟩
theorem at_nm {zs : List Nm} {i : Nat} {x : V} (h : (zs.map nS)[i]? = some x) : ∃ z, zs[i]? = some z ∧ x = nS z := by
  rw [List.getElem?_map] at h
  cases c : zs[i]? with
  | none => rw [c] at h; cases h
  | some t => rw [c] at h; exact ⟨t, rfl, (Option.some.inj h).symm⟩
section
variable {P : Program} {w : World} {K : PySem.W.Frag} {mg : Str → Option Value} {base : Heap} {k : Nat}
def sp_lines_joined : Sp := fun vs H Q _ => ∃ (r : Addr) (x : Nm) (ls : List Nm) (jns : List (Nm × List Nm)), vs = [.ref r, nS x] ∧ LJ H r ls jns ∧ LJok ls jns ∧
  ∀ H' p (ys : List Nm), Same H H' → H p = none → H' p = some (.lst (ys.map nS)) → ys.Nodup → (∀ y, y ∈ ys ↔ Adj jns x y) → Q (.ref p) H'
set_option maxHeartbeats 8000000 in
theorem ok_lines_joined (T : Defs K mg) : FnOk P w K mg base CX0 (k + 1) T.a_lines_joined T.d_lines_joined ["net", "line"] sp_lines_joined := by
  refine T.F_lines_joined.ok sc_lines_joined (fun vs H Q E h => ?_) (fun cdv A outer s H vs Q E hr h => ?_)
  · obtain ⟨r, x, ls, jns, rfl, _⟩ := h
    rfl
  · obtain ⟨r, x, ls, jns, rfl, hnet, hok, q⟩ := h
    refine ⟨_, PSs.nox
(pss_one (ps_ret (pe_callB (Ss.cr_sortS rfl) (by rfl) T.z_sorted (by decide +kernel) (pa_cons (Ss.pe_sc2 (own := [("name", 2), ("joined", 3), ("beside", 4)]) (vs1 := [4]) (g := gTup K 2 (gCons (gName 2) (gCons (gName 3) gNil))) (g1 := gName 4) (wi1 := iTup K _) rfl sc_lines_joined.nd (pi_tup (pe_ix (r := rIxT K) ix_tup (pv 0) (pe_int) (fun _ _ => rfl))) (blkOk_by (N := N_lines_joined) (sc := defScope s_lines_joined) (by decide +kernel)) (by decide) (fun _ _ _ _ _ => (pg_tup rfl (pgs_cons (pg_name (i := 2) sc_lines_joined.nd rfl (.inl rfl)) (pgs_cons (pg_name (i := 3) sc_lines_joined.nd rfl (.inl rfl)) pgs_nil)))) (fun _ _ _ _ _ => pts_one (pt_cmpR (r := rIn K false) op_in_seq (pv 1) (pv 3) (by rfl))) (fun _ _ _ _ _ => (pi_tup (pv 3))) (fun _ _ _ _ _ => (pg_name (i := 4) sc_lines_joined.nd rfl (.inl rfl))) (fun _ _ _ _ _ => pts_nil) (fun _ _ _ _ _ => (pv 4))) pa_nil))))
      , ?_⟩
    obtain ⟨a, c, b, d, ja, er, ea, ec, hJ⟩ := id hnet
    have jl := paired_len hJ
    refine ⟨.ref r, rfl, r, [.ref a, b, .ref c, d], 2, .ref c, rfl, rfl, SqT.of er, atI_nat (j := 2) rfl, c, rfl, ⟨_, SqT.of ec⟩, fun D nD => ?_⟩
    have sub : ∀ {i : Nat} {L : List Nm}, (∀ y, y ∈ L → Adj (jns.take i) x y ∨ y ∈ ls) → ∀ y ∈ L, y ∈ ls := fun h y hy => (h y hy).elim (fun ⟨j, hj, _, hb⟩ => hok.sub j (List.mem_of_mem_take hj) y hb) id
    refine Ss.sc2_it (walk_tup (xs := ja.map V.ref)) (fun i H3 => Same H H3 ∧ ∃ L : List Nm, H3 D = some (Ss.SetSO w D (L.map SX.S)) ∧ L.Nodup ∧ ∀ y, y ∈ L ↔ Adj (jns.take i) x y) ⟨same_upd nD, [], upd_same, .nil, fun y => ⟨fun z => (by cases z), fun ⟨j, hj, _⟩ => (by cases hj)⟩⟩ (fun i H3 _ pv => SqT.of (pv.1 _ _ ec)) (fun i v H3₀ H3 hi pv yy => ?_) (fun H3 pv => ?_)
    · obtain ⟨rfl, ex⟩ := yy
      obtain ⟨s3, L, eD, hnd, hm⟩ := pv
      obtain ⟨u, eu, rfl⟩ := at_ref ex
      obtain ⟨jn, ejn, jt, hu, hjt⟩ := paired_get hJ eu
      have jin : jn ∈ jns := List.mem_of_getElem? ejn
      have tk1 : jns.take (i + 1) = jns.take i ++ [jn] := by rw [List.take_add_one, ejn]; rfl
      refine ⟨u, _, rfl, SqT.of (s3 _ _ hu), rfl, _, _, rfl, _, [], rfl, rfl, rfl, ?_⟩
      refine ⟨nS x, rfl, .ref jt, rfl, jt, _, rfl, .inr (SqT.of (s3 _ _ hjt)), rfl, flat_nms _, _, rfl, ite2 (fun c => ?_) (fun c => ?_)⟩
      · have c : x ∈ jn.2 := by
          rw [in_nms] at c
          exact of_decide_eq_true c
        refine ⟨.ref jt, rfl, jt, rfl, ⟨_, SqT.of (s3 _ _ hjt)⟩, ?_⟩
        refine Ss.in2_it (walk_tup (xs := jn.2.map nS)) (fun j H4 => Same H H4 ∧ ∃ L : List Nm, H4 D = some (Ss.SetSO w D (L.map SX.S)) ∧ L.Nodup ∧ ∀ y, y ∈ L ↔ Adj (jns.take i) x y ∨ y ∈ jn.2.take j) ⟨s3, L, eD, hnd, fun y => by rw [hm y]; exact ⟨.inl, fun z => z.elim id fun z => (by cases z)⟩⟩ (fun j H4 _ pv => SqT.of (pv.1 _ _ hjt)) (fun j v H4₀ H4 hj pv yy => ?_) (fun H4 pv => ?_)
        · obtain ⟨rfl, ey⟩ := yy
          obtain ⟨s4, L, eD, hnd, hm⟩ := pv
          obtain ⟨z, ez, rfl⟩ := at_nm ey
          have tk2 : jn.2.take (j + 1) = jn.2.take j ++ [z] := by rw [List.take_add_one, ez]; rfl
          refine ⟨rfl, yes_ ?_⟩
          have l8 : L.length ≤ ls.length := nd_len hnd (sub (i := i) fun y hy => ((hm y).mp hy).imp id fun z => hok.sub jn jin y (List.mem_of_mem_take z))
          refine ⟨nS z, rfl, SX.S z, L.map SX.S, rfl, eD, by rw [List.length_map]; exact Nat.lt_of_le_of_lt (Nat.succ_le_succ (Nat.le_trans l8 hok.l8)) (by decide), same_set s4 nD, addN L z, by rw [upd_same, addL_S]; rfl, nd_addN hnd, fun y => ?_⟩
          rw [mem_addN, hm y, tk2, List.mem_append, List.mem_singleton]
          constructor
          · rintro (h | h | h)
            · exact .inr (.inr h)
            · exact .inl h
            · exact .inr (.inl h)
          · rintro (h | h | h)
            · exact .inr (.inl h)
            · exact .inr (.inr h)
            · exact .inl h
        · obtain ⟨s4, L, eD, hnd, hm⟩ := pv
          refine ⟨s4, L, eD, hnd, fun y => ?_⟩
          rw [hm y, tk1, adj_snoc, List.length_map, List.take_length]
          exact ⟨fun z => z.imp id fun z => ⟨c, z⟩, fun z => z.imp id fun z => z.2⟩
      · have c : ¬ x ∈ jn.2 := fun z => by
          rw [in_nms, decide_eq_true z] at c
          exact c rfl
        refine ⟨s3, L, eD, hnd, fun y => ?_⟩
        rw [hm y, tk1, adj_snoc]
        exact ⟨.inl, fun z => z.elim id fun z => absurd z.1 c⟩
    · obtain ⟨s3, L, eD, hnd, hm⟩ := pv
      rw [List.length_map, jl, List.take_length] at hm
      have l8 : L.length ≤ ls.length := nd_len hnd fun y hy => hok.adj ((hm y).mp hy)
      refine ⟨D, _, rfl, eD, by rw [List.length_map]; have := hok.l8; omega, fun ys p hp hs np => ?_⟩
      obtain ⟨zs, rfl, hz⟩ := perm_S hp
      refine q _ p zs (s3.trans (same_upd np)) ?_ (by rw [upd_same, map_nS]) (hz.nodup_iff.mpr hnd) (fun y => by rw [hz.mem_iff]; exact hm y)
      cases e : H p with
      | none => rfl
      | some o => rw [s3 _ _ e] at np; cases np
/-- of each line those beside it -/
def BsAt (H : Hp) (D : Addr) (ls : List Nm) (jns : List (Nm × List Nm)) : Prop := ∃ kvs : List (Key × V), H D = some (.dK kvs) ∧ ∀ x ∈ ls, ∃ (a : Addr) (ys : List Nm), valV kvs (Sum.inr (SX.S x)) = some (.ref a) ∧ H a = some (.lst (ys.map nS)) ∧ ys.Nodup ∧ ∀ y, y ∈ ys ↔ Adj jns x y
theorem BsAt.same {H H' : Hp} {D : Addr} {ls : List Nm} {jns : List (Nm × List Nm)} (h : BsAt H D ls jns) (s : Same H H') : BsAt H' D ls jns := let ⟨kvs, e, f⟩ := h; ⟨kvs, s _ _ e, fun x hx => let ⟨a, ys, h1, h2, h3⟩ := f x hx; ⟨a, ys, h1, s _ _ h2, h3⟩⟩
def sp_lines_beside : Sp := fun vs H Q _ => ∃ (r : Addr) (ls : List Nm) (jns : List (Nm × List Nm)), vs = [.ref r] ∧ LJ H r ls jns ∧ LJok ls jns ∧ ∀ H' D, Same H H' → H D = none → BsAt H' D ls jns → Q (.ref D) H'
set_option maxHeartbeats 8000000 in
theorem ok_lines_beside (T : Defs K mg) : FnOk P w K mg base CX0 (k + 2) T.a_lines_beside T.d_lines_beside ["net"] sp_lines_beside := by
  have G_lines_joined : FnOk P w K mg base CX0 (k + 1) _ _ _ _ := ok_lines_joined T
  refine T.F_lines_beside.ok sc_lines_beside (fun vs H Q E h => ?_) (fun cdv A outer s H vs Q E hr h => ?_)
  · obtain ⟨r, ls, jns, rfl, _⟩ := h
    rfl
  · obtain ⟨r, ls, jns, rfl, hnet, hok, q⟩ := h
    refine ⟨_, PSs.nox
(pss_one (ps_ret (pe_dc (own := [("line", 1)]) (g := gName 1) rfl sc_lines_beside.nd (pi_tup (pe_ix (r := rIxT K) ix_tup (pv 0) (pe_int) (fun _ _ => rfl))) (blkOk_by (N := N_lines_beside) (sc := defScope s_lines_beside) (by decide +kernel)) (fun _ _ _ _ _ => (pg_name (i := 1) sc_lines_beside.nd rfl (.inl rfl))) (fun _ _ _ _ _ => pts_nil) (fun _ _ _ _ _ => (pv 1)) (fun _ _ _ _ _ => (pe_call G_lines_joined hr (by rfl) T.g_lines_joined T.F_lines_joined.kp T.b_lines_joined .nil pass0 (pa_cons (pv 0) (pa_cons (pv 1) pa_nil)))))))
      , ?_⟩
    obtain ⟨a, c, b, d, ja, er, ea, ec, hJ⟩ := id hnet
    refine ⟨.ref r, rfl, r, [.ref a, b, .ref c, d], 0, .ref a, rfl, rfl, SqT.of er, atI_nat (j := 0) rfl, a, rfl, ⟨_, SqT.of ea⟩, fun D nD => ?_⟩
    refine dc_tup (xs := ls.map nS) (fun i H3 => Same H H3 ∧ ∃ kvs : List (Key × V), H3 D = some (.dK kvs) ∧ kvs.length ≤ i ∧ ∀ x ∈ ls.take i, ∃ (a : Addr) (ys : List Nm), a ≠ D ∧ valV kvs (Sum.inr (SX.S x)) = some (.ref a) ∧ H3 a = some (.lst (ys.map nS)) ∧ ys.Nodup ∧ ∀ y, y ∈ ys ↔ Adj jns x y) ⟨same_upd nD, [], upd_same, Nat.le_refl _, fun x hx => (by cases hx)⟩ (fun i H3 _ pv => SqT.of (pv.1 _ _ ea)) (fun i v H3 ex pv => ?_) (fun H3 pv => ?_)
    · obtain ⟨s3, kvs, eD, hl, hv⟩ := pv
      obtain ⟨x, exx, rfl⟩ := at_nm ex
      have ilt : i < ls.length := (List.getElem?_eq_some_iff.mp exx).1
      have l8 := hok.l8
      refine ⟨rfl, yes_ ?_⟩
      refine ⟨nS x, rfl, .ref r, rfl, nS x, rfl, r, x, ls, jns, rfl, hnet.tk (.of s3), hok, fun H4 p ys s4 np ep hnd hm => ?_⟩
      have npD : p ≠ D := fun e => by rw [e, eD] at np; cases np
      refine ⟨kvs, Sum.inr (SX.S x), rfl, s4 _ _ eD, small5000 (by omega), same_set (s3.trans s4) nD, _, upd_same, ?_, fun y hy => ?_⟩
      · have := length_putK kvs (Sum.inr (SX.S x)) (V.ref p)
        omega
      · rw [valV_put]
        by_cases c : y = x
        · rw [if_pos (by rw [c])]
          subst c
          exact ⟨p, ys, npD, rfl, by rw [upd_ne npD]; exact ep, hnd, hm⟩
        · rw [if_neg (fun q => c (SX.S_inj (Sum.inr.inj q)))]
          rw [List.take_add_one, exx] at hy
          rcases List.mem_append.mp hy with z | z
          · obtain ⟨a', ys', h0, h1, h2, h3⟩ := hv y z
            exact ⟨a', ys', h0, h1, by rw [upd_ne h0]; exact s4 _ _ h2, h3⟩
          · exact absurd (List.mem_singleton.mp z) c
    · obtain ⟨s3, kvs, eD, hl, hv⟩ := pv
      rw [List.length_map, List.take_length] at hv
      exact q _ D s3 nD ⟨kvs, eD, fun x hx => let ⟨a, ys, _, h⟩ := hv x hx; ⟨a, ys, h⟩⟩
end
end Th
namespace Th
open PySem PySem.Spec PyProof.Rows L2
/-! steps to any of the far ones -/
open Rm (Ds Wk Gr Lst ds_succ ds_zero ds_none wk_ds)
abbrev AF (jns : List (Nm × List Nm)) (fars : List Nm) (n : Nat) (x : Nm) : Prop := Ds (Adj jns) (· ∈ fars) n x
/-- what the steps below m tell -/
def SV (jns : List (Nm × List Nm)) (fars : List Nm) (m : Nat) (kvs : List (Key × V)) : Prop := ∀ x : Nm, (∃ n, n < m ∧ AF jns fars n x ∧ valV kvs (Sum.inr (SX.S x)) = some (.int (n : Nat))) ∨ ((∀ n, n < m → ¬ AF jns fars n x) ∧ valV kvs (Sum.inr (SX.S x)) = none)
/-- what all steps tell -/
def SA' (jns : List (Nm × List Nm)) (fars : List Nm) (kvs : List (Key × V)) : Prop := ∀ x : Nm, (∃ n, AF jns fars n x ∧ valV kvs (Sum.inr (SX.S x)) = some (.int (n : Nat))) ∨ ((∀ n, ¬ AF jns fars n x) ∧ valV kvs (Sum.inr (SX.S x)) = none)
theorem af_in {ls : List Nm} {jns : List (Nm × List Nm)} {fars : List Nm} (hok : LJok ls jns) (hf : ∀ f ∈ fars, f ∈ ls) {n : Nat} {x : Nm} (h : AF jns fars n x) : x ∈ ls := by
  cases n with
  | zero => exact hf x h.1
  | succ n =>
    obtain ⟨y, h1, _⟩ := h.down
    exact hok.adj h1.symm
section
variable {P : Program} {w : World} {K : PySem.W.Frag} {mg : Str → Option Value} {base : Heap} {k : Nat}
def sp_steps_to : Sp := fun vs H Q _ => ∃ (D fr : Addr) (ls : List Nm) (jns : List (Nm × List Nm)) (fars : List Nm), vs = [.ref D, .ref fr] ∧ BsAt H D ls jns ∧ LJok ls jns ∧ H fr = some (.lst (fars.map nS)) ∧ fars.Nodup ∧ (∀ f ∈ fars, f ∈ ls) ∧
  ∀ H' d kvs, Same H H' → H d = none → H' d = some (.dK kvs) → SA' jns fars kvs → Q (.ref d) H'
set_option maxHeartbeats 8000000 in
theorem ok_steps_to (T : Defs K mg) : FnOk P w K mg base CX0 (k + 1) T.a_steps_to T.d_steps_to ["beside", "fars"] sp_steps_to := by
  refine T.F_steps_to.ok sc_steps_to (fun vs H Q E h => ?_) (fun cdv A outer s H vs Q E hr h => ?_)
  · obtain ⟨D, fr, ls, jns, fars, rfl, _⟩ := h
    rfl
  · obtain ⟨D, fr, ls, jns, fars, rfl, hbs, hok, efr, fnd, fls, q⟩ := h
    refine ⟨_, PSs.nox
(pss_cons (ps_set (i := 2) sc_steps_to.nd rfl (.inr rfl) (pe_dnewK))
    (pss_cons (ps_set (i := 3) sc_steps_to.nd rfl (.inl rfl) (pe_int))
    (pss_cons (ps_set (i := 4) sc_steps_to.nd rfl (.inl rfl) (pv 1))
    (pss_cons (ps_while PassesOwn.never (pt_truth (pv 4) (by intro _; rfl))
      (pss_cons (ps_for PassesOwn.never rfl (pi_list (pv 4)) (pg_name (i := 5) sc_steps_to.nd rfl (.inl rfl))
        (pss_one (ps_dput (hu_of hr) (pv 2) (pv 5) (pv 3) (by rfl))))
      (pss_cons (ps_aug (i := 3) sc_steps_to.nd rfl (.inl rfl) (pe_int) ip_add)
      (pss_one (ps_set (i := 4) sc_steps_to.nd rfl (.inl rfl) (pe_callB (Ss.cr_sortS rfl) (by rfl) T.z_sorted (by decide +kernel) (pa_cons (Ss.pe_sc2 (own := [("line", 5), ("near", 6)]) (vs1 := [6]) (g := gName 5) (g1 := gName 6) (wi1 := iList K _) rfl sc_steps_to.nd (pi_list (pv 4)) (blkOk_by (N := N_steps_to) (sc := defScope s_steps_to) (by decide +kernel)) (by decide) (fun _ _ _ _ _ => (pg_name (i := 5) sc_steps_to.nd rfl (.inl rfl))) (fun _ _ _ _ _ => pts_nil) (fun _ _ _ _ _ => (pi_list (pe_dget (hu_of hr) (pv 0) (pv 5) (fun _ _ => rfl)))) (fun _ _ _ _ _ => (pg_name (i := 6) sc_steps_to.nd rfl (.inl rfl))) (fun _ _ _ _ _ => pts_one (pt_cmp (pc_dnotin (hu_of hr) (pv 6) (pv 2)))) (fun _ _ _ _ _ => (pv 6))) pa_nil)))))))
    (pss_one (ps_ret (pv 2)))))))
      , ?_⟩
    have l8 := hok.l8
    refine fun sd nsd => ⟨.ref fr, rfl, ?_⟩
    have nsdD : sd ≠ D := fun e => by
      obtain ⟨kvs, h, _⟩ := hbs
      rw [e, h] at nsd
      cases nsd
    refine ⟨fun m' σ H3 => ∃ (m : Nat) (eg : Addr) (es zs : List Nm) (kvs : List (Key × V)) (y5 : Option V), m' = 10 - m ∧ σ = [some (.ref D), some (.ref fr), some (.ref sd), some (.int (m : Nat)), some (.ref eg), y5, none] ∧ Same H H3 ∧ eg ≠ sd ∧ H3 eg = some (.lst (es.map nS)) ∧ es.Nodup ∧ (∀ x, x ∈ es ↔ AF jns fars m x) ∧
        H3 sd = some (.dK kvs) ∧ kvs.map (·.1) = (zs.map SX.S).map Sum.inr ∧ zs.Nodup ∧ (∀ z ∈ zs, ∃ n, n < m ∧ AF jns fars n z) ∧ m ≤ zs.length ∧ SV jns fars m kvs,
      ⟨_, 0, fr, fars, [], [], none, rfl, rfl, same_upd nsd, ne_of_none efr nsd, same_upd nsd _ _ efr, fnd, fun x => ds_zero.symm, upd_same, rfl, .nil, fun z hz => (by cases hz), Nat.le_refl _, fun x => .inr ⟨fun n hn => absurd hn (Nat.not_lt_zero _), rfl⟩⟩, fun m' σ H3 hW => ?_⟩
    obtain ⟨m, eg, es, zs, kvs, y5, rfl, rfl, s3, nes, eE, end_, hE, eS, hkz, znd, hz, mz, hsv⟩ := hW
    refine ⟨.ref eg, rfl, _, .inl ⟨_, SqL.of eE, rfl⟩, ite2 (fun c => ?_) (fun c => ?_)⟩
    · have ne : es ≠ [] := fun e => by rw [e] at c; cases c
      have zl : zs.length ≤ ls.length := nd_len znd fun z h => let ⟨n, _, h⟩ := hz z h; af_in hok fls h
      have dis : ∀ z ∈ zs, ∀ x ∈ es, z ≠ x := fun z hz1 x hx e => by
        obtain ⟨n, hn, h1⟩ := hz z hz1
        rw [e] at h1
        have := h1.eq ((hE x).mp hx)
        omega
      refine ⟨_, fun σ' H' h => h, ?_⟩
      refine ⟨.ref eg, rfl, eg, rfl, ⟨_, SqL.of eE⟩, ?_⟩
      refine for_it (walk_list (xs := es.map nS)) (fun i σ H4 => ∃ (y5 : Option V) (kvs : List (Key × V)), σ = [some (.ref D), some (.ref fr), some (.ref sd), some (.int (m : Nat)), some (.ref eg), y5, none] ∧ Same H H4 ∧ H4 eg = some (.lst (es.map nS)) ∧ H4 sd = some (.dK kvs) ∧ kvs.map (·.1) = ((zs ++ es.take i).map SX.S).map Sum.inr ∧
          ∀ x, (x ∈ es.take i → valV kvs (Sum.inr (SX.S x)) = some (.int (m : Nat))) ∧ (x ∉ es.take i → (∃ n, n < m ∧ AF jns fars n x ∧ valV kvs (Sum.inr (SX.S x)) = some (.int (n : Nat))) ∨ ((∀ n, n < m → ¬ AF jns fars n x) ∧ valV kvs (Sum.inr (SX.S x)) = none)))
        ⟨y5, kvs, rfl, s3, eE, eS, by rw [List.take_zero, List.append_nil]; exact hkz, fun x => ⟨fun z => (by cases z), fun _ => hsv x⟩⟩ (fun i σ H4 _ hp => ?_) (fun i v σ H4₀ H4 hi hp yy => ?_) (fun σ H4 hp => ?_)
      · obtain ⟨_, _, _, _, e4, _⟩ := hp
        exact SqL.of e4
      · obtain ⟨rfl, ex⟩ := yy
        obtain ⟨y5, kvs, rfl, s4, eE4, eS4, hkz4, hv⟩ := hp
        obtain ⟨z, ez, rfl⟩ := at_nm ex
        have zin : z ∈ es := List.mem_of_getElem? ez
        have tk1 : es.take (i + 1) = es.take i ++ [z] := by rw [List.take_add_one, ez]; rfl
        have znot : z ∉ es.take i := fun h => by
          have := List.nodup_append.mp (tk1 ▸ (List.Sublist.nodup (List.take_sublist (i + 1) es) end_))
          exact this.2.2 z h z (List.mem_singleton.mpr rfl) rfl
        have vn : valV kvs (Sum.inr (SX.S z)) = none := by
          rcases (hv z).2 znot with ⟨n, hn, h1, _⟩ | ⟨_, h⟩
          · have := h1.eq ((hE z).mp zin)
            omega
          · exact h
        have kl : kvs.length ≤ 5000 := by
          have := congrArg List.length hkz4
          rw [List.length_map, List.length_map, List.length_map, List.length_append] at this
          have h2 : es.length ≤ ls.length := nd_len end_ fun x hx => af_in hok fls ((hE x).mp hx)
          have h3 : (es.take i).length ≤ es.length := List.length_take_le' _ _
          omega
        refine ⟨.int (m : Nat), rfl, .ref sd, rfl, nS z, rfl, sd, _, rfl, DPut.k (k := Sum.inr (SX.S z)) eS4 (small5000 kl), ?_⟩
        refine ⟨_, _, rfl, same_set s4 nsd, by rw [upd_ne nes]; exact eE4, upd_same, ?_, fun x => ?_⟩
        · rw [putK_new _ vn, List.map_append, hkz4, tk1, ← List.append_assoc, List.map_append (l₁ := zs ++ es.take i), List.map_append (l₁ := (zs ++ es.take i).map SX.S)]
          rfl
        · rw [valV_put, tk1, List.mem_append, List.mem_singleton]
          by_cases c : x = z
          · rw [if_pos (by rw [c])]
            exact ⟨fun _ => rfl, fun h => absurd (.inr c) h⟩
          · rw [if_neg (fun q => c (SX.S_inj (Sum.inr.inj q)))]
            exact ⟨fun h => (hv x).1 (h.elim id fun e => absurd e c), fun h => (hv x).2 fun z => h (.inl z)⟩
      · obtain ⟨y5, kvs, rfl, s4, eE4, eS4, hkz4, hv⟩ := hp
        rw [List.length_map, List.take_length] at hkz4 hv
        have zs2 : (zs ++ es).Nodup := List.nodup_append.mpr ⟨znd, end_, dis⟩
        have hz2 : ∀ z ∈ zs ++ es, ∃ n, n < m + 1 ∧ AF jns fars n z := fun z h => (List.mem_append.mp h).elim (fun h => let ⟨n, hn, h⟩ := hz z h; ⟨n, by omega, h⟩) fun h => ⟨m, by omega, (hE z).mp h⟩
        have el : 1 ≤ es.length := List.length_pos_iff.mpr ne
        have sv2 : SV jns fars (m + 1) kvs := fun x => by
          by_cases c : x ∈ es
          · exact .inl ⟨m, by omega, (hE x).mp c, (hv x).1 c⟩
          · rcases (hv x).2 c with ⟨n, hn, h⟩ | ⟨h1, h2⟩
            · exact .inl ⟨n, by omega, h⟩
            · refine .inr ⟨fun n hn h => ?_, h2⟩
              by_cases c2 : n = m
              · subst c2
                exact c ((hE x).mpr h)
              · exact h1 n (by omega) h
        refine ⟨.int (m : Nat), rfl, _, _, rfl, rfl, ?_⟩
        refine ⟨.ref eg, rfl, eg, rfl, ⟨_, SqL.of eE4⟩, fun D2 nD2 => ?_⟩
        have hbs4 := hbs.same s4
        have sd2 : sd ≠ D2 := ne_of_none eS4 nD2
        have eg2 : eg ≠ D2 := ne_of_none eE4 nD2
        have beyond : ∀ y, (∃ x ∈ es, Adj jns x y) ∧ valV kvs (Sum.inr (SX.S y)) = none ↔ AF jns fars (m + 1) y := fun y => by
          show _ ↔ Ds (Adj jns) (· ∈ fars) (m + 1) y
          rw [ds_succ]
          constructor
          · rintro ⟨⟨x, hx, hxy⟩, hn⟩
            refine ⟨⟨x, hxy.symm, (hE x).mp hx⟩, fun n hn2 hd => ?_⟩
            rcases sv2 y with ⟨n', _, _, h3⟩ | ⟨h1, _⟩
            · rw [hn] at h3
              cases h3
            · exact h1 n (by omega) hd
          · rintro ⟨⟨x, hxy, hx⟩, hn⟩
            refine ⟨⟨x, (hE x).mpr hx, hxy.symm⟩, ?_⟩
            rcases sv2 y with ⟨n', h1, h2, _⟩ | ⟨_, h⟩
            · exact absurd h2 (hn n' (by omega))
            · exact h
        refine Ss.sc2_it (walk_list (xs := es.map nS)) (fun i H5 => Same H4 H5 ∧ ∃ L : List Nm, H5 D2 = some (Ss.SetSO w D2 (L.map SX.S)) ∧ L.Nodup ∧ ∀ y, y ∈ L ↔ (∃ x ∈ es.take i, Adj jns x y) ∧ valV kvs (Sum.inr (SX.S y)) = none) ⟨same_upd nD2, [], upd_same, .nil, fun y => ⟨fun z => (by cases z), fun ⟨⟨x, hx, _⟩, _⟩ => (by cases hx)⟩⟩ (fun i H5 _ pv => SqL.of (pv.1 _ _ eE4)) (fun i v H5₀ H5 hi pv yy => ?_) (fun H5 pv => ?_)
        · obtain ⟨rfl, ex⟩ := yy
          obtain ⟨s5, L, eD2, hnd, hm⟩ := pv
          obtain ⟨x, exx, rfl⟩ := at_nm ex
          have xin : x ∈ es := List.mem_of_getElem? exx
          have tk1 : es.take (i + 1) = es.take i ++ [x] := by rw [List.take_add_one, exx]; rfl
          obtain ⟨bk, eDb, hbv⟩ := hbs4
          obtain ⟨ba, ys, hv1, hba, ynd, hym⟩ := hbv x (af_in hok fls ((hE x).mp xin))
          refine ⟨rfl, yes_ ?_⟩
          refine ⟨.ref D, rfl, nS x, rfl, D, _, rfl, by rw [← hv1]; exact DGet.k (k := Sum.inr (SX.S x)) (s5 _ _ eDb), ba, rfl, ⟨_, SqL.of (s5 _ _ hba)⟩, ?_⟩
          refine Ss.in2_it (walk_list (xs := ys.map nS)) (fun j H6 => Same H4 H6 ∧ ∃ L : List Nm, H6 D2 = some (Ss.SetSO w D2 (L.map SX.S)) ∧ L.Nodup ∧ ∀ y, y ∈ L ↔ ((∃ x ∈ es.take i, Adj jns x y) ∨ y ∈ ys.take j) ∧ valV kvs (Sum.inr (SX.S y)) = none) ⟨s5, L, eD2, hnd, fun y => by rw [hm y]; exact ⟨fun z => ⟨.inl z.1, z.2⟩, fun z => ⟨z.1.elim id fun z => (by cases z), z.2⟩⟩⟩ (fun j H6 _ pv => SqL.of (pv.1 _ _ hba)) (fun j v H6₀ H6 hj pv yy => ?_) (fun H6 pv => ?_)
          · obtain ⟨rfl, ey⟩ := yy
            obtain ⟨s6, L, eD2, hnd, hm⟩ := pv
            obtain ⟨y, eyy, rfl⟩ := at_nm ey
            have tk2 : ys.take (j + 1) = ys.take j ++ [y] := by rw [List.take_add_one, eyy]; rfl
            refine ⟨rfl, nS y, rfl, .ref sd, rfl, sd, _, rfl, DGet.k (k := Sum.inr (SX.S y)) (s6 _ _ eS4), _, rfl, ite2 (fun c => ?_) (fun c => ?_)⟩
            · have vn : valV kvs (Sum.inr (SX.S y)) = none := by
                cases h : valV kvs (Sum.inr (SX.S y)) with
                | none => rfl
                | some o => rw [h] at c; cases c
              have l9 : L.length ≤ ls.length := nd_len hnd fun z hz => by
                obtain ⟨h, _⟩ := (hm z).mp hz
                rcases h with ⟨x', _, h⟩ | h
                · exact hok.adj h
                · exact hok.adj ((hym z).mp (List.mem_of_mem_take h))
              refine ⟨nS y, rfl, SX.S y, L.map SX.S, rfl, eD2, by rw [List.length_map]; exact Nat.lt_of_le_of_lt (Nat.succ_le_succ (Nat.le_trans l9 hok.l8)) (by decide), same_set s6 nD2, addN L y, by rw [upd_same, addL_S]; rfl, nd_addN hnd, fun z => ?_⟩
              rw [mem_addN, hm z, tk2, List.mem_append, List.mem_singleton]
              constructor
              · rintro (h | h)
                · subst h
                  exact ⟨.inr (.inr rfl), vn⟩
                · exact ⟨h.1.imp id .inl, h.2⟩
              · rintro ⟨h | h | h, hn⟩
                · exact .inr ⟨.inl h, hn⟩
                · exact .inr ⟨.inr h, hn⟩
                · exact .inl h
            · refine ⟨s6, L, eD2, hnd, fun z => ?_⟩
              rw [hm z, tk2, List.mem_append, List.mem_singleton]
              constructor
              · rintro ⟨h, hn⟩
                exact ⟨h.imp id .inl, hn⟩
              · rintro ⟨h | h | h, hn⟩
                · exact ⟨.inl h, hn⟩
                · exact ⟨.inr h, hn⟩
                · subst h
                  rw [hn] at c
                  exact absurd rfl c
          · obtain ⟨s6, L, eD2, hnd, hm⟩ := pv
            refine ⟨s6, L, eD2, hnd, fun y => ?_⟩
            rw [hm y, tk1, List.length_map, List.take_length, hym y]
            constructor
            · rintro ⟨⟨x', hx', h⟩ | h, hn⟩
              · exact ⟨⟨x', List.mem_append_left _ hx', h⟩, hn⟩
              · exact ⟨⟨x, List.mem_append_right _ (List.mem_singleton.mpr rfl), h⟩, hn⟩
            · rintro ⟨⟨x', hx', h⟩, hn⟩
              rcases List.mem_append.mp hx' with z | z
              · exact ⟨.inl ⟨x', z, h⟩, hn⟩
              · rw [List.mem_singleton.mp z] at h
                exact ⟨.inr h, hn⟩
        · obtain ⟨s5, L, eD2, hnd, hm⟩ := pv
          rw [List.length_map, List.take_length] at hm
          have hm2 : ∀ y, y ∈ L ↔ AF jns fars (m + 1) y := fun y => (hm y).trans (beyond y)
          have l9 : L.length ≤ ls.length := nd_len hnd fun z hz => af_in hok fls ((hm2 z).mp hz)
          refine ⟨D2, _, rfl, eD2, by rw [List.length_map]; omega, fun ys p hp hs np => ?_⟩
          obtain ⟨xs, rfl, hx⟩ := perm_S hp
          refine ⟨10 - (m + 1), by omega, m + 1, p, xs, zs ++ es, kvs, _, rfl, rfl, s4.trans (s5.trans (same_upd np)), (ne_of_none (s5 _ _ eS4) np).symm, by rw [upd_same, map_nS], hx.nodup_iff.mpr hnd, fun y => by rw [hx.mem_iff]; exact hm2 y, same_upd np _ _ (s5 _ _ eS4), hkz4, zs2, hz2, by rw [List.length_append]; omega, sv2⟩
    · have ne : es = [] := by
        cases h : es with
        | nil => rfl
        | cons a r => rw [h] at c; exact absurd rfl c
      refine ⟨.ref sd, rfl, q _ sd kvs s3 nsd eS fun x => ?_⟩
      have no : ∀ x, ¬ AF jns fars m x := fun x h => by
        have := (hE x).mpr h
        rw [ne] at this
        cases this
      rcases hsv x with ⟨n, _, h⟩ | ⟨h1, h2⟩
      · exact .inl ⟨n, h⟩
      · refine .inr ⟨fun n h => ?_, h2⟩
        by_cases c : n < m
        · exact h1 n c h
        · exact ds_none no n x (by omega) h
end
/-! the least of the shortest roads to any of the far ones -/
theorem af_chain {ls : List Nm} {jns : List (Nm × List Nm)} {fars : List Nm} (hok : LJok ls jns) (hf : ∀ f ∈ fars, f ∈ ls) : ∀ (n : Nat) {x : Nm}, AF jns fars n x → ∃ zs : List Nm, zs.length = n + 1 ∧ zs.Nodup ∧ ∀ z ∈ zs, z ∈ ls ∧ ∃ i, i ≤ n ∧ AF jns fars i z
  | 0, x, h => ⟨[x], rfl, by simp, fun z hz => by rw [List.mem_singleton.mp hz]; exact ⟨af_in hok hf h, 0, Nat.le_refl _, h⟩⟩
  | n + 1, x, h => by
    obtain ⟨y, _, hy⟩ := h.down
    obtain ⟨zs, h1, h2, h3⟩ := af_chain hok hf n hy
    refine ⟨x :: zs, by rw [List.length_cons, h1], List.nodup_cons.mpr ⟨fun hx => ?_, h2⟩, fun z hz => ?_⟩
    · obtain ⟨_, i, hi, hd⟩ := h3 x hx
      have := hd.eq h
      omega
    · rcases List.mem_cons.mp hz with e | e
      · rw [e]
        exact ⟨af_in hok hf h, n + 1, Nat.le_refl _, h⟩
      · obtain ⟨k1, i, hi, hd⟩ := h3 z e
        exact ⟨k1, i, by omega, hd⟩
theorem af_lt {ls : List Nm} {jns : List (Nm × List Nm)} {fars : List Nm} (hok : LJok ls jns) (hf : ∀ f ∈ fars, f ∈ ls) {n : Nat} {x : Nm} (h : AF jns fars n x) : n < ls.length := by
  obtain ⟨zs, h1, h2, h3⟩ := af_chain hok hf n h
  have := nd_len h2 fun z hz => (h3 z hz).1
  omega
/-- what is told of a road -/
def Rd' (jns : List (Nm × List Nm)) (fars : List Nm) (x : Nm) (rd : List Nm) : Prop := (∃ n, AF jns fars n x ∧ Gr (Adj jns) (· ∈ fars) n x rd) ∨ ((∀ n, ¬ AF jns fars n x) ∧ rd = [])
theorem dpAll_nms {K : PySem.W.Frag} {H : Hp} : ∀ zs : List Nm, DpAll K H (zs.map nS) ((zs.map SX.S).map PySem.W.Datum.toD)
  | [] => .nil
  | z :: zs => .cons (.str _) (dpAll_nms zs)
theorem s_ir (a : Str) : PySem.W.DatumOrd.lt a a = false := decide_eq_false (List.lt_irrefl _)
theorem s_asy (a b : Str) (h : PySem.W.DatumOrd.lt a b = true) : PySem.W.DatumOrd.lt b a = false := decide_eq_false (Rm.lt_asym (of_decide_eq_true h))
theorem s_tr (a b c : Str) (h : PySem.W.DatumOrd.lt a b = false) (k : PySem.W.DatumOrd.lt b c = false) : PySem.W.DatumOrd.lt a c = false := decide_eq_false (List.not_lt.mpr (List.le_trans (List.not_lt.mp (of_decide_eq_false k)) (List.not_lt.mp (of_decide_eq_false h))))
section
variable {P : Program} {w : World} {K : PySem.W.Frag} {mg : Str → Option Value} {base : Heap} {k : Nat}
def sp_road_to_any : Sp := fun vs H Q _ => ∃ (r fr : Addr) (x : Nm) (ls : List Nm) (jns : List (Nm × List Nm)) (fars : List Nm), vs = [.ref r, nS x, .ref fr] ∧ LJ H r ls jns ∧ LJok ls jns ∧ x ∈ ls ∧ H fr = some (.lst (fars.map nS)) ∧ fars.Nodup ∧ (∀ f ∈ fars, f ∈ ls) ∧
  ∀ H' p (rd : List Nm), Same H H' → H p = none → H' p = some (.lst (rd.map nS)) → Rd' jns fars x rd → Q (.ref p) H'
set_option maxHeartbeats 8000000 in
theorem ok_road_to_any (T : Defs K mg) : FnOk P w K mg base CX0 (k + 3) T.a_road_to_any T.d_road_to_any ["net", "line", "fars"] sp_road_to_any := by
  have G_lines_beside : FnOk P w K mg base CX0 (k + 2) _ _ _ _ := ok_lines_beside T
  have G_steps_to : FnOk P w K mg base CX0 (k + 2) _ _ _ _ := ok_steps_to (k := k + 1) T
  refine T.F_road_to_any.ok sc_road_to_any (fun vs H Q E h => ?_) (fun cdv A outer s H vs Q E hr h => ?_)
  · obtain ⟨r, fr, x, ls, jns, fars, rfl, _⟩ := h
    rfl
  · obtain ⟨r, fr, x, ls, jns, fars, rfl, hnet, hok, xin, efr, fnd, fls, q⟩ := h
    refine ⟨_, PSs.nox
(pss_cons (ps_if (pt_cmpR (r := rIn K true) op_notIn_seq (pv 1) (pe_ix (r := rIxT K) ix_tup (pv 0) (pe_int) (fun _ _ => rfl)) (by rfl))
      (pss_one (ps_ret (pe_lst pa_nil)))
      pss_nil)
    (pss_cons (ps_set (i := 3) sc_road_to_any.nd rfl (.inl rfl) (pe_call G_lines_beside hr (by rfl) T.g_lines_beside T.F_lines_beside.kp T.b_lines_beside .nil pass0 (pa_cons (pv 0) pa_nil)))
    (pss_cons (ps_set (i := 4) sc_road_to_any.nd rfl (.inr rfl) (pe_call G_steps_to hr (by rfl) T.g_steps_to T.F_steps_to.kp T.b_steps_to .nil pass0 (pa_cons (pv 3) (pa_cons (pv 2) pa_nil))))
    (pss_cons (ps_if (pt_cmp (pc_dnotin (hu_of hr) (pv 1) (pv 4)))
      (pss_one (ps_ret (pe_lst pa_nil)))
      pss_nil)
    (pss_cons (ps_set (i := 5) sc_road_to_any.nd rfl (.inl rfl) (pe_lst (pa_cons (pv 1) pa_nil)))
    (pss_cons (ps_while PassesOwn.never (pt_cmpR op_gt (pe_dget (hu_of hr) (pv 4) (pe_ix (r := rIxL K) ix_list (pv 5) (pe_un un_neg (pe_int)) (fun _ _ => rfl)) (fun _ _ => rfl)) (pe_int) (nomark _))
      (pss_cons (ps_set (i := 6) sc_road_to_any.nd rfl (.inr rfl) (pe_op op_sub (pe_dget (hu_of hr) (pv 4) (pe_ix (r := rIxL K) ix_list (pv 5) (pe_un un_neg (pe_int)) (fun _ _ => rfl)) (fun _ _ => rfl)) (pe_int)))
      (pss_cons (ps_setLc (i := 7) (own := [("near", 8)]) (g := gName 8) rfl sc_road_to_any.nd rfl rfl (sw_true rfl rfl rfl (by decide +kernel)) (pi_list (pe_dget (hu_of hr) (pv 3) (pe_ix (r := rIxL K) ix_list (pv 5) (pe_un un_neg (pe_int)) (fun _ _ => rfl)) (fun _ _ => rfl))) (blkOk_by (N := N_road_to_any) (sc := defScope s_road_to_any) (by decide +kernel)) (fun _ _ _ _ _ => (pg_name (i := 8) sc_road_to_any.nd rfl (.inl rfl))) (fun _ _ _ _ _ => pts_one (pt_cmpR op_eq (pe_dget (hu_of hr) (pv 4) (pv 8) (fun _ _ => rfl)) (pv 6) (nomark _))) (fun _ _ _ _ _ => (pv 8)))
      (pss_one (ps_expr (pe_bm PySem.F.plainAttrs_list PySem.F.slot_list_append PySem.F.type_list_append mt_append (pv 5) (pa_cons (pe_callB (Md.cr_minG (α := PySem.Str) rfl hr.units) (by rfl) T.z_min (by decide +kernel) (pa_cons (pv 7) pa_nil)) pa_nil)))))))
    (pss_one (ps_ret (pv 5)))))))))
      , ?_⟩
    have l8 := hok.l8
    obtain ⟨a, c, b, d, ja, er, ea, ec, hJ⟩ := id hnet
    refine ⟨nS x, rfl, .ref r, rfl, r, [.ref a, b, .ref c, d], 0, .ref a, rfl, rfl, SqT.of er, atI_nat (j := 0) rfl, a, _, rfl, .inr (SqT.of ea), rfl, flat_nms _, _, rfl, ?_⟩
    rw [show (if true = true then !inV (nS x) (ls.map nS) else inV (nS x) (ls.map nS)) = false by rw [in_nms, decide_eq_true xin]; rfl]
    refine iteF ?_
    refine ⟨.ref r, rfl, r, ls, jns, rfl, hnet, hok, fun H1 D s1 nD hbs => ?_⟩
    have nD0 : D ≠ fr := fun e => by rw [e, efr] at nD; cases nD
    refine ⟨.ref D, rfl, .ref fr, rfl, D, fr, ls, jns, fars, rfl, hbs, hok, s1 _ _ efr, fnd, fls, fun H2 sd kvs s2 nsd esd hsa => ?_⟩
    have s12 := s1.trans s2
    refine ⟨nS x, rfl, .ref sd, rfl, sd, _, rfl, DGet.k (k := Sum.inr (SX.S x)) esd, _, rfl, ?_⟩
    have up : ∀ {H' : Hp} {p : Addr}, Same H H' → H' p = none → H p = none := fun {H' p} s n => by
      cases e : H p with
      | none => rfl
      | some o => rw [s _ _ e] at n; cases n
    rcases hsa x with ⟨n0, hn0, hv0⟩ | ⟨hno, hv0⟩
    · rw [hv0]
      refine iteF ?_
      refine ⟨nS x, rfl, by show 1 ≤ sizeLine; decide, fun rd nrd => ?_⟩
      have n8 := af_lt hok fls hn0
      have sdrd : sd ≠ rd := ne_of_none esd nrd
      -- while steps[road[-1]] > 0
      refine ⟨fun m' σ H3 => ∃ (n : Nat) (pre : List Nm) (cur : Nm) (y6 y7 : Option V), m' = n ∧ σ = [some (.ref r), some (nS x), some (.ref fr), some (.ref D), some (.ref sd), some (.ref rd), y6, y7, none] ∧ Same H2 H3 ∧ H3 rd = some (.lst ((pre ++ [cur]).map nS)) ∧ AF jns fars n cur ∧ pre.length + n = n0 ∧ ∀ t, Gr (Adj jns) (· ∈ fars) n cur t → Gr (Adj jns) (· ∈ fars) n0 x (pre ++ t),
        ⟨_, n0, [], x, none, none, rfl, rfl, same_upd nrd, upd_same, hn0, by simp, fun t h => h⟩, fun m' σ H3 hW => ?_⟩
      obtain ⟨n, pre, cur, y6, y7, rfl, rfl, s3, erd, hn, hpre, hgr⟩ := hW
      have s13 := s12.trans s3
      have last : atI ((pre ++ [cur]).map nS) (-1) = some (nS cur) := by
        rw [List.map_append]
        exact atI_last _ _
      have hvc : valV kvs (Sum.inr (SX.S cur)) = some (.int (m' : Nat)) := by
        rcases hsa cur with ⟨n', h1, h2⟩ | ⟨h1, _⟩
        · rw [h2, h1.eq hn]
        · exact absurd hn (h1 m')
      have dg : ∀ {H' : Hp}, Same H2 H' → DGet H' sd (nS cur) (some (.int (m' : Nat))) := fun s => by
        rw [← hvc]
        exact DGet.k (k := Sum.inr (SX.S cur)) (s _ _ esd)
      refine ⟨.ref sd, rfl, .ref rd, rfl, 1, rfl, rd, _, -1, nS cur, rfl, rfl, SqL.of erd, last, sd, _, rfl, dg s3, _, 0, rfl, rfl, _, rfl, ite2 (fun c => ?_) (fun c => ?_)⟩
      · have c : (0 : Int) < (m' : Nat) := of_decide_eq_true c
        obtain ⟨m, rfl⟩ : ∃ m, m' = m + 1 := ⟨m' - 1, by omega⟩
        refine ⟨_, fun σ' H' h => h, ?_⟩
        refine ⟨.ref sd, rfl, .ref rd, rfl, 1, rfl, rd, _, -1, nS cur, rfl, rfl, SqL.of erd, last, sd, _, rfl, dg s3, _, 1, rfl, rfl, ?_⟩
        obtain ⟨bk, eDb, hbv⟩ := hbs.same (s2.trans s3)
        obtain ⟨ba, ys, hv1, hba, ynd, hym⟩ := hbv cur (af_in hok fls hn)
        refine ⟨.ref D, rfl, .ref rd, rfl, 1, rfl, rd, _, -1, nS cur, rfl, rfl, SqL.of erd, last, D, _, rfl, by rw [← hv1]; exact DGet.k (k := Sum.inr (SX.S cur)) eDb, ba, rfl, ⟨_, SqL.of hba⟩, fun on non => ?_⟩
        have onrd : rd ≠ on := ne_of_none erd non
        refine lc_it (walk_list (xs := ys.map nS)) (fun i H4 => Same H3 H4 ∧ ∃ os : List Nm, H4 on = some (.lst (os.map nS)) ∧ os.length ≤ i ∧ ∀ y, y ∈ os ↔ y ∈ ys.take i ∧ AF jns fars m y) ⟨same_upd non, [], upd_same, Nat.le_refl _, fun y => ⟨fun z => (by cases z), fun z => (by cases z.1)⟩⟩ (fun i H4 _ pv => SqL.of (pv.1 _ _ hba)) (fun i v H4₀ H4 hi pv yy => ?_) (fun H4 pv => ?_)
        · obtain ⟨rfl, ex⟩ := yy
          obtain ⟨s4, os, eon, hol, hom⟩ := pv
          obtain ⟨y, ey, rfl⟩ := at_nm ex
          have tk1 : ys.take (i + 1) = ys.take i ++ [y] := by rw [List.take_add_one, ey]; rfl
          have yin : y ∈ ys := List.mem_of_getElem? ey
          have adj : Adj jns cur y := (hym y).mp yin
          have yl : ys.length ≤ ls.length := nd_len ynd fun z hz => hok.adj ((hym z).mp hz)
          rw [List.length_map] at hi
          obtain ⟨n', hn', hv'⟩ : ∃ n', AF jns fars n' y ∧ valV kvs (Sum.inr (SX.S y)) = some (.int (n' : Nat)) := by
            rcases hsa y with h | ⟨h1, _⟩
            · exact h
            · obtain ⟨n', _, hd⟩ := wk_ds (m + 2) (⟨cur, adj.symm, hn.1⟩ : Wk (Adj jns) (· ∈ fars) (m + 2) y)
              exact absurd hd (h1 n')
          refine ⟨rfl, .ref sd, rfl, nS y, rfl, sd, _, rfl, by rw [← hv']; exact DGet.k (k := Sum.inr (SX.S y)) ((s3.trans s4) _ _ esd), _, rfl, rfl, _, rfl, ite2 (fun c => ?_) (fun c => ?_)⟩
          · have c : n' = m := by
              have c := of_decide_eq_true c
              have c : ((n' : Nat) : Int) = (((m + 1 : Nat)) : Int) - 1 := by injection c
              omega
            subst c
            refine ⟨nS y, rfl, os.map nS, eon, small5000 (by rw [List.length_map]; omega), same_set s4 non, os ++ [y], by rw [upd_same, List.map_append]; rfl, by rw [List.length_append, List.length_singleton]; omega, fun z => ?_⟩
            rw [List.mem_append, List.mem_singleton, hom z, tk1, List.mem_append, List.mem_singleton]
            constructor
            · rintro (h | h)
              · exact ⟨.inl h.1, h.2⟩
              · subst h
                exact ⟨.inr rfl, hn'⟩
            · rintro ⟨h | h, h2⟩
              · exact .inl ⟨h, h2⟩
              · exact .inr h
          · have c : n' ≠ m := fun e => c (decide_eq_true (by rw [e]; congr 1; omega))
            refine ⟨s4, os, eon, by omega, fun z => ?_⟩
            rw [hom z, tk1, List.mem_append, List.mem_singleton]
            exact ⟨fun h => ⟨.inl h.1, h.2⟩, fun ⟨h, h2⟩ => ⟨h.elim id fun e => absurd (hn'.eq (e ▸ h2)) c, h2⟩⟩
        · obtain ⟨s4, os, eon, hol, hom⟩ := pv
          rw [List.length_map, List.take_length] at hom
          have hom : ∀ y, y ∈ os ↔ Adj jns cur y ∧ AF jns fars m y := fun y => by rw [hom y, hym y]
          obtain ⟨y0, hy0, hd0⟩ := hn.down
          match os, hom, eon with
          | [], hom, _ => exact absurd ((hom y0).mpr ⟨hy0, hd0⟩) (by simp)
          | o :: os, hom, eon =>
            refine ⟨.ref rd, rfl, .inl ⟨rfl, _, SqL.of (s4 _ _ erd)⟩, .ref on, rfl, on, _, SX.S o, os.map SX.S, rfl, SqL.of eon, dpAll_nms (o :: os), by show 0 ≤ 60; decide, fun i v hv hmin => ?_⟩
            obtain ⟨y, ey, rfl⟩ := at_nm hv
            have ymin : SX.S y = PySem.W.minOf (SX.S o) (os.map SX.S) := by
              have hmin : ((o :: os).map SX.S)[i]? = _ := hmin
              rw [List.getElem?_map, ey] at hmin
              exact Option.some.inj hmin
            have lst : Lst (fun y => Adj jns cur y ∧ AF jns fars m y) y := by
              refine ⟨(hom y).mp (List.mem_of_getElem? ey), fun z hz hlt => ?_⟩
              have := Md.minOf_le s_ir s_asy s_tr (SX.S o) (os.map SX.S) (SX.S z) (List.mem_map_of_mem (f := SX.S) ((hom z).mpr hz))
              rw [← ymin] at this
              exact of_decide_eq_false this hlt
            have erd4 := s4 _ _ erd
            refine ⟨rd, _, _, rfl, rfl, erd4, small5000 (by rw [List.length_map, List.length_append, List.length_singleton]; omega), m, by omega, m, pre ++ [cur], y, _, _, rfl, rfl, ?_, by rw [upd_same, List.map_append (l₁ := pre ++ [cur])]; rfl, lst.1.2, by rw [List.length_append, List.length_singleton]; omega, fun t ht => ?_⟩
            · exact same_set (s3.trans s4) nrd
            · have := hgr (cur :: t) ⟨y, t, lst, ht, rfl⟩
              rwa [List.append_assoc]
      · have c : m' = 0 := by
          have c : ¬ (0 : Int) < (m' : Nat) := fun z => c (decide_eq_true z)
          omega
        subst c
        exact ⟨.ref rd, rfl, q _ rd _ s13 (up s12 nrd) erd (.inl ⟨n0, hn0, hgr [cur] ⟨hn.1, rfl⟩⟩)⟩
    · rw [hv0]
      refine iteT ?_
      exact ⟨Nat.zero_le _, fun e ne => q _ e [] (s12.trans (same_upd ne)) (up s12 ne) upd_same (.inr ⟨hno, rfl⟩)⟩
end
end Th
namespace Th
open PySem PySem.Spec PyProof.Rows L2
section
variable {P : Program} {w : World} {K : PySem.W.Frag} {mg : Str → Option Value} {base : Heap} {k : Nat}
def sp_road_of_lines : Sp := fun vs H Q _ => ∃ (r : Addr) (x y : Nm) (ls : List Nm) (jns : List (Nm × List Nm)), vs = [.ref r, nS x, nS y] ∧ LJ H r ls jns ∧ LJok ls jns ∧ x ∈ ls ∧ y ∈ ls ∧
  ∀ H' p (rd : List Nm), Same H H' → H p = none → H' p = some (.lst (rd.map nS)) → Rd' jns [y] x rd → Q (.ref p) H'
set_option maxHeartbeats 8000000 in
theorem ok_road_of_lines (T : Defs K mg) : FnOk P w K mg base CX0 (k + 4) T.a_road_of_lines T.d_road_of_lines ["net", "line", "far"] sp_road_of_lines := by
  have G_road_to_any : FnOk P w K mg base CX0 (k + 3) _ _ _ _ := ok_road_to_any T
  refine T.F_road_of_lines.ok sc_road_of_lines (fun vs H Q E h => ?_) (fun cdv A outer s H vs Q E hr h => ?_)
  · obtain ⟨r, x, y, ls, jns, rfl, _⟩ := h
    rfl
  · obtain ⟨r, x, y, ls, jns, rfl, hnet, hok, xin, yin, q⟩ := h
    refine ⟨_, PSs.nox
(pss_cons (ps_if (pt_cmpR (r := rIn K true) op_notIn_seq (pv 2) (pe_ix (r := rIxT K) ix_tup (pv 0) (pe_int) (fun _ _ => rfl)) (by rfl))
      (pss_one (ps_ret (pe_lst pa_nil)))
      pss_nil)
    (pss_one (ps_ret (pe_call G_road_to_any hr (by rfl) T.g_road_to_any T.F_road_to_any.kp T.b_road_to_any .nil pass0 (pa_cons (pv 0) (pa_cons (pv 1) (pa_cons (pe_lst (pa_cons (pv 2) pa_nil)) pa_nil)))))))
      , ?_⟩
    obtain ⟨a, c, b, d, ja, er, ea, ec, hJ⟩ := id hnet
    refine ⟨nS y, rfl, .ref r, rfl, r, [.ref a, b, .ref c, d], 0, .ref a, rfl, rfl, SqT.of er, atI_nat (j := 0) rfl, a, _, rfl, .inr (SqT.of ea), rfl, flat_nms _, _, rfl, ?_⟩
    rw [show (if true = true then !inV (nS y) (ls.map nS) else inV (nS y) (ls.map nS)) = false by rw [in_nms, decide_eq_true yin]; rfl]
    refine iteF ?_
    refine ⟨.ref r, rfl, nS x, rfl, nS y, rfl, by show 1 ≤ sizeLine; decide, fun fr nfr => ?_⟩
    refine ⟨r, fr, x, ls, jns, [y], rfl, hnet.tk (.of (same_upd nfr)), hok, xin, upd_same, by simp, fun f hf => by rw [List.mem_singleton.mp hf]; exact yin, fun H' p rd s' np ep hrd => q H' p rd ((same_upd nfr).trans s') ?_ ep hrd⟩
    cases e : H p with
    | none => rfl
    | some o => rw [same_upd nfr _ _ e] at np; cases np
end
/-! the law's own roads -/
section
variable {P : Program} {w : World} {K : PySem.W.Frag} {mg : Str → Option Value} {base : Heap} {k : Nat}
def sp_l_next : Sp := fun vs H Q _ => ∃ (r : Addr) (x : Nm) (ls : List Nm) (jns : List (Nm × List Nm)), vs = [.ref r, nS x] ∧ LJ H r ls jns ∧ LJok ls jns ∧ x ∈ ls ∧
  ∀ H' p (ys : List Nm), Same H H' → H p = none → H' p = some (.lst (ys.map nS)) → ys.Nodup → (∀ y, y ∈ ys ↔ y ≠ x ∧ Adj jns x y) → Q (.ref p) H'
set_option maxHeartbeats 8000000 in
theorem ok_l_next (T : Defs K mg) : FnOk P w K mg base CX0 (k + 1) T.a_l_next T.d_l_next ["_law_net_here", "_law_line"] sp_l_next := by
  refine T.F_l_next.ok sc_l_next (fun vs H Q E h => ?_) (fun cdv A outer s H vs Q E hr h => ?_)
  · obtain ⟨r, x, ls, jns, rfl, _⟩ := h
    rfl
  · obtain ⟨r, x, ls, jns, rfl, hnet, hok, xin, q⟩ := h
    refine ⟨_, PSs.nox
(pss_cons (ps_set (i := 2) sc_l_next.nd rfl (.inr rfl) (pe_lst pa_nil))
    (pss_cons (ps_for PassesOwn.never rfl (pi_tup (pe_ix (r := rIxT K) ix_tup (pv 0) (pe_int) (fun _ _ => rfl))) (pg_tup rfl (pgs_cons (pg_name (i := 3) sc_l_next.nd rfl (.inl rfl)) (pgs_cons (pg_name (i := 4) sc_l_next.nd rfl (.inl rfl)) pgs_nil)))
      (pss_one (ps_if (pt_cmpR (r := rIn K false) op_in_seq (pv 1) (pv 4) (by rfl))
        (pss_one (ps_expr (pe_bm PySem.F.plainAttrs_list PySem.F.slot_list_extend PySem.F.type_list_extend mt_extend (pv 2) (pa_cons (pe_lc (own := [("_law_one", 5)]) (g := gName 5) rfl sc_l_next.nd (pi_tup (pv 4)) (blkOk_by (N := N_l_next) (sc := defScope s_l_next) (by decide +kernel)) (fun _ _ _ _ _ => (pg_name (i := 5) sc_l_next.nd rfl (.inl rfl))) (fun _ _ _ _ _ => pts_one (PW.pt (pw_and (pt_cmpR op_ne (pv 5) (pv 1) (nomark _)) (pw_and1 (pt_cmpR (r := rIn K true) op_notIn_seq (pv 5) (pv 2) (by rfl)))))) (fun _ _ _ _ _ => (pv 5))) pa_nil))))
        pss_nil)))
    (pss_one (ps_ret (pv 2)))))
      , ?_⟩
    have l8 := hok.l8
    refine ⟨Nat.zero_le _, fun F nF => ?_⟩
    have s0 := same_upd (o := .lst []) nF
    obtain ⟨a, c, b, d, ja, er, ea, ec, hJ⟩ := hnet.tk (.of s0)
    have jl := paired_len hJ
    refine ⟨.ref r, rfl, r, [.ref a, b, .ref c, d], 2, .ref c, rfl, rfl, SqT.of er, atI_nat (j := 2) rfl, c, rfl, ⟨_, SqT.of ec⟩, ?_⟩
    have eF0 : (upd H F (.lst [])) F = some (.lst []) := upd_same
    refine for_it (walk_tup (xs := ja.map V.ref)) (fun i σ H3 => ∃ (y3 y4 : Option V) (ys : List Nm), σ = [some (.ref r), some (nS x), some (.ref F), y3, y4, none] ∧ Same H H3 ∧ TK (upd H F (.lst [])) H3 ∧ H3 F = some (.lst (ys.map nS)) ∧ ys.Nodup ∧ ∀ y, y ∈ ys ↔ y ≠ x ∧ Adj (jns.take i) x y)
      ⟨none, none, [], rfl, s0, .of (fun _ _ h => h), upd_same, .nil, fun y => ⟨fun z => (by cases z), fun ⟨_, j, hj, _⟩ => (by cases hj)⟩⟩ (fun i σ H3 _ hp => ?_) (fun i v σ H3₀ H3 hi hp yy => ?_) (fun σ H3 hp => ?_)
    · obtain ⟨_, _, _, _, _, k3, _⟩ := hp
      exact SqT.of (k3 _ _ ec)
    · obtain ⟨rfl, ex⟩ := yy
      obtain ⟨y3, y4, ys, rfl, s3, k3, eF, ynd, hym⟩ := hp
      obtain ⟨u, eu, rfl⟩ := at_ref ex
      obtain ⟨jn, ejn, jt, hu, hjt⟩ := paired_get hJ eu
      have jin : jn ∈ jns := List.mem_of_getElem? ejn
      have tk1 : jns.take (i + 1) = jns.take i ++ [jn] := by rw [List.take_add_one, ejn]; rfl
      have hjt3 := k3 _ _ hjt
      refine ⟨u, _, rfl, SqT.of (k3 _ _ hu), rfl, _, _, rfl, _, [], rfl, rfl, ?_⟩
      refine ⟨nS x, rfl, .ref jt, rfl, jt, _, rfl, .inr (SqT.of hjt3), rfl, flat_nms _, _, rfl, ite2 (fun c => ?_) (fun c => ?_)⟩
      · have c : x ∈ jn.2 := by
          rw [in_nms] at c
          exact of_decide_eq_true c
        have yl : ys.length ≤ ls.length := nd_len ynd fun z hz => let ⟨_, j, hj, _, h⟩ := (hym z).mp hz; hok.sub j (List.mem_of_mem_take hj) z h
        refine ⟨.ref F, rfl, .inl ⟨rfl, _, SqL.of eF⟩, .ref jt, rfl, jt, rfl, ⟨_, SqT.of hjt3⟩, fun D nD => ?_⟩
        have FD : F ≠ D := ne_of_none eF nD
        refine lc_it (walk_tup (xs := jn.2.map nS)) (fun j H4 => Same H3 H4 ∧ ∃ os : List Nm, H4 D = some (.lst (os.map nS)) ∧ os.length ≤ j ∧ os.Nodup ∧ ∀ y, y ∈ os ↔ y ∈ jn.2.take j ∧ y ≠ x ∧ y ∉ ys) ⟨same_upd nD, [], upd_same, Nat.le_refl _, .nil, fun y => ⟨fun z => (by cases z), fun z => (by cases z.1)⟩⟩ (fun j H4 _ pv => SqT.of (pv.1 _ _ hjt3)) (fun j v H4₀ H4 hj pv yy => ?_) (fun H4 pv => ?_)
        · obtain ⟨rfl, ey⟩ := yy
          obtain ⟨s4, os, eD, ol, ond, hom⟩ := pv
          obtain ⟨y, eyy, rfl⟩ := at_nm ey
          have tk2 : jn.2.take (j + 1) = jn.2.take j ++ [y] := by rw [List.take_add_one, eyy]; rfl
          have ynot : y ∉ jn.2.take j := fun h => by
            have := List.nodup_append.mp (tk2 ▸ (List.Sublist.nodup (List.take_sublist (j + 1) jn.2) (hok.jnd jn jin)))
            exact this.2.2 y h y (List.mem_singleton.mpr rfl) rfl
          have j9 := hok.j9 jn jin
          rw [List.length_map] at hj
          refine ⟨rfl, nS y, rfl, nS x, rfl, rfl, _, rfl, ite2 (fun c1 => ?_) (fun c1 => ?_)⟩
          · have c1 : y ≠ x := fun e => by
              rw [e] at c1
              simp at c1
            refine ⟨nS y, rfl, .ref F, rfl, F, _, rfl, .inl (SqL.of (s4 _ _ eF)), rfl, flat_nms _, _, rfl, ite2 (fun c2 => ?_) (fun c2 => ?_)⟩
            · have c2 : y ∉ ys := fun h => by
                rw [in_nms, decide_eq_true h] at c2
                cases c2
              refine ⟨nS y, rfl, os.map nS, eD, small5000 (by rw [List.length_map]; omega), same_set s4 nD, os ++ [y], by rw [upd_same, List.map_append]; rfl, by rw [List.length_append, List.length_singleton]; omega, List.nodup_append.mpr ⟨ond, by simp, fun p hp q hq e => ?_⟩, fun z => ?_⟩
              · rw [List.mem_singleton.mp hq] at e
                rw [e] at hp
                exact ynot ((hom y).mp hp).1
              · rw [List.mem_append, List.mem_singleton, hom z, tk2, List.mem_append, List.mem_singleton]
                constructor
                · rintro (h | h)
                  · exact ⟨.inl h.1, h.2⟩
                  · subst h
                    exact ⟨.inr rfl, c1, c2⟩
                · rintro ⟨h | h, h2⟩
                  · exact .inl ⟨h, h2⟩
                  · exact .inr h
            · have c2 : y ∈ ys := by
                by_cases h : y ∈ ys
                · exact h
                · rw [in_nms, decide_eq_false h] at c2
                  exact absurd rfl c2
              refine ⟨s4, os, eD, by omega, ond, fun z => ?_⟩
              rw [hom z, tk2, List.mem_append, List.mem_singleton]
              exact ⟨fun h => ⟨.inl h.1, h.2⟩, fun ⟨h, h2, h3⟩ => ⟨h.elim id fun e => absurd (e ▸ c2) h3, h2, h3⟩⟩
          · have c1 : y = x := by
              by_cases h : y = x
              · exact h
              · refine absurd ?_ c1
                simp
                exact h
            refine ⟨s4, os, eD, by omega, ond, fun z => ?_⟩
            rw [hom z, tk2, List.mem_append, List.mem_singleton]
            exact ⟨fun h => ⟨.inl h.1, h.2⟩, fun ⟨h, h2, h3⟩ => ⟨h.elim id fun e => absurd (e.trans c1) h2, h2, h3⟩⟩
        · obtain ⟨s4, os, eD, ol, ond, hom⟩ := pv
          rw [List.length_map, List.take_length] at hom
          rw [List.length_map] at ol
          have j9 := hok.j9 jn jin
          refine ⟨F, D, ys.map nS, os.map nS, rfl, rfl, s4 _ _ eF, eD, by rw [List.length_map, List.length_map]; exact Nat.le_of_lt (small5000 (by omega)), ?_⟩
          refine ⟨_, _, ys ++ os, rfl, same_set (s3.trans s4) nF, k3.trans ((TK.of s4).trans (.upd fun xs z => by rw [s4 _ _ eF] at z; cases z)), by rw [upd_same, List.map_append], List.nodup_append.mpr ⟨ynd, ond, fun p hp q hq e => ?_⟩, fun z => ?_⟩
          · rw [e] at hp
            exact ((hom q).mp hq).2.2 hp
          · rw [List.mem_append, hym z, hom z, tk1, adj_snoc]
            constructor
            · rintro (h | h)
              · exact ⟨h.1, .inl h.2⟩
              · exact ⟨h.2.1, .inr ⟨c, h.1⟩⟩
            · rintro ⟨h1, h2 | h2⟩
              · exact .inl ⟨h1, h2⟩
              · by_cases c2 : z ∈ ys
                · exact .inl ((hym z).mp c2)
                · exact .inr ⟨h2.2, h1, c2⟩
      · have c : ¬ x ∈ jn.2 := fun z => by
          rw [in_nms, decide_eq_true z] at c
          exact c rfl
        refine ⟨_, _, ys, rfl, s3, k3, eF, ynd, fun y => ?_⟩
        rw [hym y, tk1, adj_snoc]
        exact ⟨fun h => ⟨h.1, .inl h.2⟩, fun h => ⟨h.1, h.2.elim id fun z => absurd z.1 c⟩⟩
    · obtain ⟨y3, y4, ys, rfl, s3, k3, eF, ynd, hym⟩ := hp
      rw [List.length_map, jl, List.take_length] at hym
      exact ⟨.ref F, rfl, q _ F ys s3 nF eF ynd hym⟩
end
end Th
namespace Th
open PySem PySem.Spec PyProof.Rows L2
/-! all roads of unlike lines, gone through -/
open Rm (SP sp_zero sp_succ ne_snoc Ds Wk Gr Lst ds_succ ds_zero ds_none wk_ds)
theorem ne_in {a b : Addr} {l : List Addr} (h : b ∉ l) (ha : a ∈ l) : a ≠ b := fun e => h (e ▸ ha)
abbrev lD (p : List Nm) : PyData := PySem.W.Datum.toD (p.map SX.S)
theorem layAll_nms : ∀ {zs : List Nm}, (∀ z ∈ zs, IsNm z) → PyData.canLayAll0 ((zs.map SX.S).map PyData.str) = true
  | [], _ => rfl
  | z :: zs, h => by
    show (PyData.strOk (SX.S z) && PyData.canLayAll0 ((zs.map SX.S).map PyData.str)) = true
    rw [nm_ok (h z List.mem_cons_self), layAll_nms fun y hy => h y (List.mem_cons_of_mem _ hy)]
    rfl
theorem layAll_lD : ∀ {ps : List (List Nm)}, (∀ p ∈ ps, ∀ z ∈ p, IsNm z) → PyData.canLayAll0 (ps.map lD) = true
  | [], _ => rfl
  | p :: ps, h => by
    show (PyData.canLayAll0 ((p.map SX.S).map PyData.str) && PyData.canLayAll0 (ps.map lD)) = true
    rw [layAll_nms (h p List.mem_cons_self), layAll_lD fun y hy => h y (List.mem_cons_of_mem _ hy)]
    rfl
theorem depthAll_nms : ∀ zs : List Nm, PyData.depthAll ((zs.map SX.S).map PyData.str) = 0
  | [] => rfl
  | z :: zs => by
    show max 0 (PyData.depthAll ((zs.map SX.S).map PyData.str)) = 0
    rw [depthAll_nms zs]
    rfl
theorem depthAll_lD : ∀ ps : List (List Nm), PyData.depthAll (ps.map lD) ≤ 1
  | [] => Nat.zero_le _
  | p :: ps => by
    show max (PyData.depthAll ((p.map SX.S).map PyData.str) + 1) (PyData.depthAll (ps.map lD)) ≤ 1
    rw [depthAll_nms]
    exact Nat.max_le.mpr ⟨Nat.le_refl _, depthAll_lD ps⟩
theorem shaped_lD {ps : List (List Nm)} (h : ∀ p ∈ ps, ∀ z ∈ p, IsNm z) : SeqAt.shaped (.list (ps.map lD)) = true := Bool.and_eq_true_iff.mpr ⟨layAll_lD h, decide_eq_true (by
  show PyData.depthAll (ps.map lD) + 1 ≤ 64
  have := depthAll_lD ps
  omega)⟩
theorem dp_lD {K : PySem.W.Frag} {H : Hp} {a : Addr} {p : List Nm} (e : H a = some (.lst (p.map nS))) : Dp K H (.ref a) (lD p) := .lst (SqL.of e) (dpAll_nms p)
theorem dpAll_lD {K : PySem.W.Frag} {H : Hp} {as : List Addr} {ps : List (List Nm)} (h : Paired (fun a (p : List Nm) => H a = some (.lst (p.map nS))) as ps) : DpAll K H (as.map V.ref) (ps.map lD) := by
  induction h with
  | nil => exact .nil
  | cons e _ ih => exact .cons (dp_lD e) ih
theorem listLt_S : ∀ a b : List Nm, PySem.W.DatumOrd.lt (a.map SX.S) (b.map SX.S) = Rm.rLt a b
  | [], [] => rfl
  | [], _ :: _ => rfl
  | _ :: _, [] => rfl
  | x :: a, y :: b => by
    show (if SX.S x = SX.S y then PySem.W.listLt (a.map SX.S) (b.map SX.S) else decide ((SX.S x).cps.toList < (SX.S y).cps.toList)) = if x = y then Rm.rLt a b else decide (x < y)
    by_cases c : x = y
    · rw [if_pos c, if_pos (by rw [c])]
      exact listLt_S a b
    · rw [if_neg c, if_neg (fun e => c (SX.S_inj e))]
theorem S_list (s : List Str) : ∃ p : List Nm, s = p.map SX.S := ⟨s.map fun y => y.cps.toList, by rw [List.map_map]; exact (List.map_id'' (fun y => rfl) s).symm⟩
theorem l_ir (a : List Str) : PySem.W.DatumOrd.lt a a = false := by
  obtain ⟨p, rfl⟩ := S_list a
  rw [listLt_S, Rm.rLt_self]
theorem l_asy (a b : List Str) (h : PySem.W.DatumOrd.lt a b = true) : PySem.W.DatumOrd.lt b a = false := by
  obtain ⟨p, rfl⟩ := S_list a
  obtain ⟨q, rfl⟩ := S_list b
  rw [listLt_S] at h ⊢
  exact Rm.rLt_asy _ _ h
theorem l_tr (a b c : List Str) (h : PySem.W.DatumOrd.lt a b = false) (k : PySem.W.DatumOrd.lt b c = false) : PySem.W.DatumOrd.lt a c = false := by
  obtain ⟨p, rfl⟩ := S_list a
  obtain ⟨q, rfl⟩ := S_list b
  obtain ⟨r, rfl⟩ := S_list c
  rw [listLt_S] at h k ⊢
  exact Rm.rLt_tr _ _ _ h k
theorem paired_app {α β : Type} {R : α → β → Prop} {as as' : List α} {bs bs' : List β} (h : Paired R as bs) (k : Paired R as' bs') : Paired R (as ++ as') (bs ++ bs') := by
  induction h with
  | nil => exact k
  | cons r _ ih => exact .cons r ih
theorem pow7 {t : Nat} (h : t < 8) : 7 ^ (t + 1) ≤ 5764801 := Nat.le_trans (Nat.pow_le_pow_right (by decide) (by omega : t + 1 ≤ 8)) (by decide)
theorem small7 {n : Nat} (h : n ≤ 5764801) : n < sizeLine := Nat.lt_of_le_of_lt h (by decide)
/-- a list of roads -/
abbrev RsAt (H0 H : Hp) (as : List Addr) (ps : List (List Nm)) : Prop := Paired (fun a (p : List Nm) => H0 a = none ∧ H a = some (.lst (p.map nS))) as ps
theorem RsAt.keep {lg : Addr} {H0 H H' : Hp} {as : List Addr} {ps : List (List Nm)} (h : RsAt H0 H as ps) (k : Keep lg H H') (n : ∀ a ∈ as, a ≠ lg) : RsAt H0 H' as ps := paired_imp h fun a ha p e => ⟨e.1, k _ _ (n a ha) e.2⟩
theorem RsAt.same {H0 H H' : Hp} {as : List Addr} {ps : List (List Nm)} (h : RsAt H0 H as ps) (s : Same H H') : RsAt H0 H' as ps := paired_imp h fun a ha p e => ⟨e.1, s _ _ e.2⟩
theorem RsAt.mem {H0 H : Hp} {as : List Addr} {ps : List (List Nm)} (h : RsAt H0 H as ps) {a : Addr} (ha : a ∈ as) : ∃ p : List Nm, H a = some (.lst (p.map nS)) := by
  obtain ⟨i, hi⟩ := List.getElem?_of_mem ha
  obtain ⟨p, _, e⟩ := paired_get h hi
  exact ⟨p, e.2⟩
section
variable {P : Program} {w : World} {K : PySem.W.Frag} {mg : Str → Option Value} {base : Heap} {k : Nat}
def sp_l_road : Sp := fun vs H Q _ => ∃ (r go : Addr) (x : Nm) (ls : List Nm) (jns : List (Nm × List Nm)) (gs : List Nm), vs = [.ref r, nS x, .ref go] ∧ LJ H r ls jns ∧ LJok ls jns ∧ (∀ z ∈ ls, IsNm z) ∧ x ∈ ls ∧ H go = some (.lst (gs.map nS)) ∧ (∀ f ∈ gs, f ∈ ls) ∧
  ∀ H' p (rd : List Nm), Same H H' → H p = none → H' p = some (.lst (rd.map nS)) → Rd' jns gs x rd → Q (.ref p) H'
set_option maxHeartbeats 16000000 in
theorem ok_l_road (T : Defs K mg) : FnOk P w K mg base CX0 (k + 2) T.a_l_road T.d_l_road ["_law_net_here", "_law_line", "_law_goals"] sp_l_road := by
  have G_l_next : FnOk P w K mg base CX0 (k + 1) _ _ _ _ := ok_l_next T
  refine T.F_l_road.ok sc_l_road (fun vs H Q E h => ?_) (fun cdv A outer s H vs Q E hr h => ?_)
  · obtain ⟨r, go, x, ls, jns, gs, rfl, _⟩ := h
    rfl
  · obtain ⟨r, go, x, ls, jns, gs, rfl, hnet, hok, lnm, xin, ego, gls, q⟩ := h
    refine ⟨_, PSs.nox
(pss_cons (ps_set (i := 3) sc_l_road.nd rfl (.inl rfl) (pe_lst (pa_cons (pe_lst (pa_cons (pv 1) pa_nil)) pa_nil)))
    (pss_cons (ps_for PassesOwn.never rfl (pi_range1 (by rfl) T.z_range (pa_cons (pe_int) pa_nil)) (pg_name (i := 4) sc_l_road.nd rfl (.inl rfl))
      (pss_cons (ps_setLc (i := 5) (own := [("_law_one", 7)]) (g := gName 7) rfl sc_l_road.nd rfl rfl (sw_true rfl rfl rfl (by decide +kernel)) (pi_list (pv 3)) (blkOk_by (N := N_l_road) (sc := defScope s_l_road) (by decide +kernel)) (fun _ _ _ _ _ => (pg_name (i := 7) sc_l_road.nd rfl (.inl rfl))) (fun _ _ _ _ _ => pts_one (pt_cmpR (r := rIn K false) op_in_seq (pe_ix (r := rIxL K) ix_list (pv 7) (pe_un un_neg (pe_int)) (fun _ _ => rfl)) (pv 2) (by rfl))) (fun _ _ _ _ _ => (pv 7)))
      (pss_cons (ps_if (pt_cmpR (r := rNeD K) (op_neD hr.units) (pv 5) (pe_lst pa_nil) (nomark _))
        (pss_one (ps_ret (pe_callB (Md.cr_minG (α := (List PySem.Str)) rfl hr.units) (by rfl) T.z_min (by decide +kernel) (pa_cons (pv 5) pa_nil))))
        pss_nil)
      (pss_cons (ps_set (i := 6) sc_l_road.nd rfl (.inl rfl) (pe_lst pa_nil))
      (pss_cons (ps_for PassesOwn.never rfl (pi_list (pv 3)) (pg_name (i := 7) sc_l_road.nd rfl (.inr rfl))
        (pss_one (ps_expr (pe_bm PySem.F.plainAttrs_list PySem.F.slot_list_extend PySem.F.type_list_extend mt_extend (pv 6) (pa_cons (pe_lc (own := [("_law_other", 8)]) (g := gName 8) rfl sc_l_road.nd (pi_list (pe_call G_l_next hr (by rfl) T.g_l_next T.F_l_next.kp T.b_l_next .nil pass0 (pa_cons (pv 0) (pa_cons (pe_ix (r := rIxL K) ix_list (pv 7) (pe_un un_neg (pe_int)) (fun _ _ => rfl)) pa_nil)))) (blkOk_by (N := N_l_road) (sc := defScope s_l_road) (by decide +kernel)) (fun _ _ _ _ _ => (pg_name (i := 8) sc_l_road.nd rfl (.inl rfl))) (fun _ _ _ _ _ => pts_one (pt_cmpR (r := rIn K true) op_notIn_seq (pv 8) (pv 7) (by rfl))) (fun _ _ _ _ _ => (pe_op op_cat (pv 7) (pe_lst (pa_cons (pv 8) pa_nil))))) pa_nil)))))
      (pss_one (ps_set (i := 3) sc_l_road.nd rfl (.inl rfl) (pv 6))))))))
    (pss_one (ps_ret (pe_lst pa_nil)))))
      , ?_⟩
    have l8 := hok.l8
    have pin : ∀ {t : Nat} {p : List Nm}, SP (Adj jns) x t p → ∀ z ∈ p, z ∈ ls := fun h => Rm.pth_mem (fun _ _ a => hok.adj a) h.1 xin
    have up : ∀ {H' : Hp} {p : Addr}, Same H H' → H' p = none → H p = none := fun {H' p} s n => by
      cases e : H p with
      | none => rfl
      | some o => rw [s _ _ e] at n; cases n
    refine ⟨nS x, rfl, by show 1 ≤ sizeLine; decide, fun b0 nb0 => ⟨by show 1 ≤ sizeLine; decide, fun bg nbg => ?_⟩⟩
    have s0 := same_upd (o := .lst [nS x]) nb0
    have s1 := s0.trans (same_upd (o := .lst [.ref b0]) nbg)
    have eb0 : (upd (upd H b0 (.lst [nS x])) bg (.lst [.ref b0])) b0 = some (.lst [nS x]) := same_upd nbg _ _ upd_same
    have ebg : (upd (upd H b0 (.lst [nS x])) bg (.lst [.ref b0])) bg = some (.lst [.ref b0]) := upd_same
    generalize upd (upd H b0 (.lst [nS x])) bg (.lst [.ref b0]) = H1 at s1 eb0 ebg ⊢
    refine ⟨8, rfl, by decide, by decide, ?_⟩
    refine for_range (lo := 0) (n := 8) (fun t σ H3 => ∃ (bg : Addr) (bs : List Addr) (ps : List (List Nm)) (y4 y5 y6 y7 : Option V), σ = [some (.ref r), some (nS x), some (.ref go), some (.ref bg), y4, y5, y6, y7, none] ∧ Same H H3 ∧ H3 bg = some (.lst (bs.map V.ref)) ∧ RsAt H H3 bs ps ∧ ps.length ≤ 7 ^ t ∧ (∀ p, p ∈ ps ↔ SP (Adj jns) x t p) ∧ ∀ n, n < t → ¬ AF jns gs n x)
      ⟨bg, [b0], [[x]], none, none, none, none, rfl, s1, ebg, .cons ⟨nb0, eb0⟩ .nil, Nat.le_refl 1, fun p => by rw [List.mem_singleton]; exact sp_zero.symm, fun n hn => absurd hn (Nat.not_lt_zero _)⟩ (fun t σ H3 ht hp => ?_) (fun σ H3 hp => ?_)
    · obtain ⟨bg, bs, ps, y4, y5, y6, y7, rfl, s3, ebg, hbs, pl, hps, hno⟩ := hp
      have bl := paired_len hbs
      have pw := pow7 ht
      have p7 : 7 ^ (t + 1) = 7 * 7 ^ t := by rw [Nat.pow_succ]; omega
      -- there
      refine ⟨.ref bg, rfl, bg, rfl, ⟨_, SqL.of ebg⟩, fun D nD => ?_⟩
      refine lc_it (walk_list (xs := bs.map V.ref)) (fun i H4 => Same H3 H4 ∧ ∃ (ts : List Addr) (qs : List (List Nm)), H4 D = some (.lst (ts.map V.ref)) ∧ RsAt H H4 ts qs ∧ D ∉ ts ∧ qs.length ≤ i ∧ ∀ p, p ∈ qs ↔ p ∈ ps.take i ∧ ∃ z, p.getLast? = some z ∧ z ∈ gs) ⟨same_upd nD, [], [], upd_same, .nil, by simp, Nat.le_refl _, fun p => ⟨fun z => (by cases z), fun z => (by cases z.1)⟩⟩ (fun i H4 _ pv => SqL.of (pv.1 _ _ ebg)) (fun i v H4₀ H4 hi pv yy => ?_) (fun H4 pv => ?_)
      · obtain ⟨rfl, ex⟩ := yy
        obtain ⟨s4, ts, qs, eD, hts, nDt, ql, hqs⟩ := pv
        obtain ⟨u, eu, rfl⟩ := at_ref ex
        obtain ⟨p, ep, nu, hu⟩ := paired_get hbs eu
        have tk1 : ps.take (i + 1) = ps.take i ++ [p] := by rw [List.take_add_one, ep]; rfl
        have psp := (hps p).mp (List.mem_of_getElem? ep)
        obtain ⟨p0, z, rfl⟩ := ne_snoc psp.ne
        have last : atI ((p0 ++ [z]).map nS) (-1) = some (nS z) := by rw [List.map_append]; exact atI_last _ _
        have lz : (p0 ++ [z]).getLast? = some z := by simp
        rw [List.length_map, bl] at hi
        have uD : u ≠ D := fun e => by rw [e] at hu; rw [hu] at nD; cases nD
        refine ⟨rfl, .ref u, rfl, 1, rfl, u, _, -1, nS z, rfl, rfl, SqL.of (s4 _ _ hu), last, .ref go, rfl, go, _, rfl, .inl (SqL.of (s4 _ _ (s3 _ _ ego))), rfl, flat_nms _, _, rfl, ite2 (fun c => ?_) (fun c => ?_)⟩
        · have c : z ∈ gs := by
            rw [in_nms] at c
            exact of_decide_eq_true c
          refine ⟨.ref u, rfl, ts.map V.ref, eD, small7 (by rw [List.length_map, paired_len hts]; omega), same_set s4 nD, ts ++ [u], qs ++ [p0 ++ [z]], by rw [upd_same, List.map_append]; rfl, ?_, ?_, by rw [List.length_append, List.length_singleton]; omega, fun p => ?_⟩
          · refine paired_app (paired_imp hts fun a ha p e => ⟨e.1, by rw [upd_ne (ne_in nDt ha)]; exact e.2⟩) (.cons ⟨nu, by rw [upd_ne uD]; exact s4 _ _ hu⟩ .nil)
          · intro h
            rcases List.mem_append.mp h with h | h
            · exact nDt h
            · exact uD (List.mem_singleton.mp h).symm
          · rw [List.mem_append, List.mem_singleton, hqs p, tk1, List.mem_append, List.mem_singleton]
            constructor
            · rintro (h | h)
              · exact ⟨.inl h.1, h.2⟩
              · exact ⟨.inr h, z, by rw [h]; exact lz, c⟩
            · rintro ⟨h | h, h2⟩
              · exact .inl ⟨h, h2⟩
              · exact .inr h
        · have c : z ∉ gs := fun h => by
            rw [in_nms, decide_eq_true h] at c
            exact c rfl
          refine ⟨s4, ts, qs, eD, hts, nDt, by omega, fun p => ?_⟩
          rw [hqs p, tk1, List.mem_append, List.mem_singleton]
          refine ⟨fun h => ⟨.inl h.1, h.2⟩, fun ⟨h, z', e, hz⟩ => ⟨h.elim id fun h => ?_, z', e, hz⟩⟩
          rw [h, lz] at e
          rw [← Option.some.inj e] at hz
          exact absurd hz c
      obtain ⟨s4, ts, qs, eD, hts, nDt, ql, hqs⟩ := pv
      rw [List.length_map, bl, List.take_length] at hqs
      have hqs : ∀ p, p ∈ qs ↔ SP (Adj jns) x t p ∧ ∃ z, p.getLast? = some z ∧ z ∈ gs := fun p => by rw [hqs p, hps p]
      have qnm : ∀ p ∈ qs, ∀ z ∈ p, IsNm z := fun p hp z hz => lnm z (pin ((hqs p).mp hp).1 z hz)
      have s34 := s3.trans s4
      -- if there != []
      refine ⟨.ref D, rfl, Nat.zero_le _, fun e ne => ?_⟩
      have se := same_upd (o := .lst []) ne
      have dD : Dp K (upd H4 e (.lst [])) (.ref D) (.list (qs.map lD)) := .lst (SqL.of (se _ _ eD)) (dpAll_lD (paired_imp hts fun a _ p h => se _ _ h.2))
      have dE : Dp K (upd H4 e (.lst [])) (.ref e) (.list []) := .lst (SqL.of upd_same) .nil
      refine ⟨_, _, dD, dE, shaped_lD qnm, shaped_lD (ps := []) (fun p hp => (by cases hp)), _, rfl, ite2 (fun c => ?_) (fun c => ?_)⟩
      · match qs, hqs, hts, qnm, c with
        | [], _, _, _, c => cases c
        | q0 :: qs, hqs, hts, qnm, _ =>
          obtain ⟨h0, z0, e0, g0⟩ := (hqs q0).mp List.mem_cons_self
          have wk := Rm.pth_wk h0.1 e0 (F := fun f => f ∈ gs) g0
          rw [h0.2.1] at wk
          obtain ⟨m, hm, hd⟩ := wk_ds _ wk
          have hm : m = t := Classical.byContradiction fun h => hno m (by omega) hd
          subst hm
          obtain ⟨rd, hrd⟩ := Rm.gr_ex (ls := ls) (fun n y h => af_in hok gls h) m hd
          have rin : rd ∈ q0 :: qs := (hqs rd).mpr ⟨⟨Rm.gr_pth hrd, hrd.len, Rm.gr_nodup hrd hd⟩, hrd.last⟩
          refine ⟨.ref D, rfl, D, _, q0.map SX.S, qs.map (·.map SX.S), rfl, SqL.of (se _ _ eD), ?_, by decide, fun i v hv hmin => ?_⟩
          · have := dpAll_lD (K := K) (paired_imp hts fun a _ p h => se _ _ h.2)
            rw [show ((q0.map SX.S :: qs.map (·.map SX.S)).map PySem.W.Datum.toD) = (q0 :: qs).map lD by rw [List.map_cons, List.map_cons, List.map_map]; rfl]
            exact this
          · obtain ⟨u, eu, rfl⟩ := at_ref hv
            obtain ⟨p, ep, nu, hu⟩ := paired_get hts eu
            have pmin : p.map SX.S = PySem.W.minOf (q0.map SX.S) (qs.map (·.map SX.S)) := by
              have hmin : ((q0 :: qs).map (·.map SX.S))[i]? = _ := hmin
              rw [List.getElem?_map, ep] at hmin
              exact Option.some.inj hmin
            have pq := (hqs p).mp (List.mem_of_getElem? ep)
            have le1 : Rm.rLt rd p = false := by
              have := Md.minOf_le l_ir l_asy l_tr (q0.map SX.S) (qs.map fun p : List Nm => p.map SX.S) (rd.map SX.S) (List.mem_map_of_mem (f := fun p : List Nm => p.map SX.S) rin)
              rw [← pmin, listLt_S] at this
              exact this
            obtain ⟨zp, ezp, gzp⟩ := pq.2
            have le2 : Rm.rLt p rd = false := Rm.gr_least hrd hd pq.1.1 pq.1.2.1 ezp gzp
            have epr := Rm.rLt_anti _ _ le2 le1
            subst epr
            exact q _ u p (s34.trans se) nu (se _ _ hu) (.inl ⟨m, hd, hrd⟩)
      · have q0 : qs = [] := by
          cases h : qs with
          | nil => rfl
          | cons a r => rw [h] at c; exact absurd rfl c
        have not : ¬ AF jns gs t x := fun hd => by
          obtain ⟨rd, hrd⟩ := Rm.gr_ex (ls := ls) (fun n y h => af_in hok gls h) t hd
          have := (hqs rd).mpr ⟨⟨Rm.gr_pth hrd, hrd.len, Rm.gr_nodup hrd hd⟩, hrd.last⟩
          rw [q0] at this
          cases this
        -- longer
        refine ⟨Nat.zero_le _, fun lg nlg => ?_⟩
        have sl := same_upd (o := .lst []) nlg
        have s5 := (s4.trans se).trans sl
        have s05 := s3.trans s5
        have elg : (upd (upd H4 e (.lst [])) lg (.lst [])) lg = some (.lst []) := upd_same
        have ebg5 := s5 _ _ ebg
        have hbs5 := hbs.same s5
        have nlgH : H lg = none := up (s34.trans se) nlg
        have bne : ∀ a ∈ bs, a ≠ lg := fun a ha z => by
          obtain ⟨p, h⟩ := (hbs.same (s4.trans se)).mem ha
          rw [z, nlg] at h
          cases h
        generalize upd (upd H4 e (.lst [])) lg (.lst []) = H5 at s5 s05 elg ebg5 hbs5 ⊢
        refine ⟨.ref bg, rfl, bg, rfl, ⟨_, SqL.of ebg5⟩, ?_⟩
        have bglg : bg ≠ lg := fun z => by
          rw [z] at ebg
          rw [(s4.trans se) _ _ ebg] at nlg
          cases nlg
        refine for_it (walk_list (xs := bs.map V.ref)) (fun i σ H6 => ∃ (y7 : Option V) (cs : List Addr) (ks : List (List Nm)), σ = [some (.ref r), some (nS x), some (.ref go), some (.ref bg), some (.int (0 + (t : Int))), some (.ref D), some (.ref lg), y7, none] ∧ Same H H6 ∧ Keep lg H5 H6 ∧ H6 lg = some (.lst (cs.map V.ref)) ∧ RsAt H H6 cs ks ∧ lg ∉ cs ∧ ks.length ≤ 7 * i ∧
            ∀ q, q ∈ ks ↔ ∃ p ∈ ps.take i, ∃ y z, p.getLast? = some y ∧ (z ≠ y ∧ Adj jns y z) ∧ z ∉ p ∧ q = p ++ [z])
          ⟨y7, [], [], rfl, s05, .refl _ _, elg, .nil, by simp, Nat.le_refl _, fun q => ⟨fun z => (by cases z), fun ⟨p, hp, _⟩ => (by cases hp)⟩⟩ (fun i σ H6 _ hp => ?_) (fun i v σ H6₀ H6 hi hp yy => ?_) (fun σ H6 hp => ?_)
        · obtain ⟨_, _, _, _, _, k6, _⟩ := hp
          exact SqL.of (k6 _ _ bglg ebg5)
        · obtain ⟨rfl, ex⟩ := yy
          obtain ⟨y7, cs, ks, rfl, s6, k6, elg6, hcs, nlc, kl, hks⟩ := hp
          obtain ⟨u, eu, rfl⟩ := at_ref ex
          obtain ⟨p, ep, nu, hu5⟩ := paired_get hbs5 eu
          have hu := k6 _ _ (bne u (List.mem_of_getElem? eu)) hu5
          have tk1 : ps.take (i + 1) = ps.take i ++ [p] := by rw [List.take_add_one, ep]; rfl
          have psp := (hps p).mp (List.mem_of_getElem? ep)
          have plen : p.length ≤ 8 := by
            have := nd_len psp.2.2 (pin psp)
            omega
          have lastp : ∃ p0 y, p = p0 ++ [y] := ne_snoc psp.ne
          obtain ⟨p0, y, ep0⟩ := lastp
          have last : atI (p.map nS) (-1) = some (nS y) := by rw [ep0, List.map_append]; exact atI_last _ _
          have ly : p.getLast? = some y := by rw [ep0]; simp
          have yin : y ∈ ls := pin psp y (by rw [ep0]; simp)
          rw [List.length_map, bl] at hi
          refine ⟨.ref lg, rfl, .inl ⟨rfl, _, SqL.of elg6⟩, .ref r, rfl, .ref u, rfl, 1, rfl, u, _, -1, nS y, rfl, rfl, SqL.of hu, last, r, y, ls, jns, rfl, hnet.tk (.of s6), hok, yin, fun H7 np ys s7 nnp eys ynd hym => ?_⟩
          have yl : ys.length + 1 ≤ ls.length := by
            have := nd_len (l := y :: ys) (d := ls) (List.nodup_cons.mpr ⟨fun h => ((hym y).mp h).1 rfl, ynd⟩) fun z hz => (List.mem_cons.mp hz).elim (fun e => by rw [e]; exact yin) fun h => hok.adj ((hym z).mp h).2
            rwa [List.length_cons] at this
          refine ⟨np, rfl, ⟨_, SqL.of eys⟩, fun D2 nD2 => ?_⟩
          have s67 := s6.trans s7
          refine lc_it (walk_list (xs := ys.map nS)) (fun j H8 => Same H7 H8 ∧ ∃ (ts : List Addr) (qs : List (List Nm)), H8 D2 = some (.lst (ts.map V.ref)) ∧ RsAt H H8 ts qs ∧ D2 ∉ ts ∧ lg ∉ ts ∧ qs.length ≤ j ∧ ∀ q, q ∈ qs ↔ ∃ z ∈ ys.take j, z ∉ p ∧ q = p ++ [z]) ⟨same_upd nD2, [], [], upd_same, .nil, by simp, by simp, Nat.le_refl _, fun q => ⟨fun z => (by cases z), fun ⟨z, hz, _⟩ => (by cases hz)⟩⟩ (fun j H8 _ pv => SqL.of (pv.1 _ _ eys)) (fun j v H8₀ H8 hj pv yy => ?_) (fun H8 pv => ?_)
          · obtain ⟨rfl, ey⟩ := yy
            obtain ⟨s8, ts, qs, eD2, hts2, nDt2, nlt, ql2, hqs2⟩ := pv
            obtain ⟨z, ez, rfl⟩ := at_nm ey
            have tk2 : ys.take (j + 1) = ys.take j ++ [z] := by rw [List.take_add_one, ez]; rfl
            have hu8 := s8 _ _ (s7 _ _ hu)
            rw [List.length_map] at hj
            refine ⟨rfl, nS z, rfl, .ref u, rfl, u, _, rfl, .inl (SqL.of hu8), rfl, flat_nms _, _, rfl, ite2 (fun c => ?_) (fun c => ?_)⟩
            · have c : z ∉ p := fun h => by
                rw [in_nms, decide_eq_true h] at c
                cases c
              refine ⟨.ref u, rfl, nS z, rfl, by show 1 ≤ sizeLine; decide, fun l2 nl2 => ?_⟩
              have sl2 := same_upd (o := .lst [nS z]) nl2
              refine ⟨u, l2, p.map nS, [nS z], rfl, rfl, sl2 _ _ hu8, upd_same, Nat.le_of_lt (small5000 (by rw [List.length_map]; show p.length + 1 ≤ 5000; omega)), fun cn ncn => ?_⟩
              have sc := sl2.trans (same_upd (o := .lst (p.map nS ++ [nS z])) ncn)
              have ecn : (upd (upd H8 l2 (.lst [nS z])) cn (.lst (p.map nS ++ [nS z]))) cn = some (.lst ((p ++ [z]).map nS)) := by rw [upd_same, List.map_append]; rfl
              have ncH : H cn = none := up (s67.trans (s8.trans sl2)) ncn
              have cnD : cn ≠ D2 := fun z => by rw [z, sl2 _ _ eD2] at ncn; cases ncn
              have cnl : cn ≠ lg := fun z => by rw [z, sl2 _ _ (s8 _ _ (s7 _ _ elg6))] at ncn; cases ncn
              generalize upd (upd H8 l2 (.lst [nS z])) cn (.lst (p.map nS ++ [nS z])) = H9 at sc ecn ⊢
              refine ⟨ts.map V.ref, sc _ _ eD2, small5000 (by rw [List.length_map, paired_len hts2]; omega), same_set (s8.trans sc) nD2, ts ++ [cn], qs ++ [p ++ [z]], by rw [upd_same, List.map_append]; rfl, ?_, ?_, ?_, by rw [List.length_append, List.length_singleton]; omega, fun q => ?_⟩
              · exact paired_app (paired_imp hts2 fun a ha p e => ⟨e.1, by rw [upd_ne (ne_in nDt2 ha)]; exact sc _ _ e.2⟩) (.cons ⟨ncH, by rw [upd_ne cnD]; exact ecn⟩ .nil)
              · exact fun h => (List.mem_append.mp h).elim nDt2 fun h => cnD (List.mem_singleton.mp h).symm
              · exact fun h => (List.mem_append.mp h).elim nlt fun h => cnl (List.mem_singleton.mp h).symm
              · rw [List.mem_append, List.mem_singleton, hqs2 q, tk2]
                constructor
                · rintro (⟨z', h1, h2⟩ | h)
                  · exact ⟨z', List.mem_append_left _ h1, h2⟩
                  · exact ⟨z, List.mem_append_right _ (List.mem_singleton.mpr rfl), c, h⟩
                · rintro ⟨z', h1, h2, h3⟩
                  rcases List.mem_append.mp h1 with h | h
                  · exact .inl ⟨z', h, h2, h3⟩
                  · rw [List.mem_singleton.mp h] at h3
                    exact .inr h3
            · have c : z ∈ p := by
                by_cases h : z ∈ p
                · exact h
                · rw [in_nms, decide_eq_false h] at c
                  exact absurd rfl c
              refine ⟨s8, ts, qs, eD2, hts2, nDt2, nlt, by omega, fun q => ?_⟩
              rw [hqs2 q, tk2]
              constructor
              · rintro ⟨z', h1, h2⟩
                exact ⟨z', List.mem_append_left _ h1, h2⟩
              · rintro ⟨z', h1, h2, h3⟩
                rcases List.mem_append.mp h1 with h | h
                · exact ⟨z', h, h2, h3⟩
                · rw [List.mem_singleton.mp h] at h2
                  exact absurd c h2
          · obtain ⟨s8, ts, qs, eD2, hts2, nDt2, nlt, ql2, hqs2⟩ := pv
            rw [List.length_map, List.take_length] at hqs2
            rw [List.length_map] at ql2
            have elg8 := s8 _ _ (s7 _ _ elg6)
            have sz : ks.length + qs.length ≤ 5764801 := by
              have : 7 * (i + 1) ≤ 7 * 7 ^ t := Nat.mul_le_mul_left 7 (by omega)
              omega
            refine ⟨lg, D2, cs.map V.ref, ts.map V.ref, rfl, rfl, elg8, eD2, by rw [List.length_map, List.length_map, paired_len hcs, paired_len hts2]; exact Nat.le_of_lt (small7 sz), ?_⟩
            refine ⟨_, cs ++ ts, ks ++ qs, rfl, same_set (s67.trans s8) nlgH, k6.trans ((Keep.of (s7.trans s8)).trans .upd), by rw [upd_same, List.map_append], paired_app (paired_imp hcs fun a ha p e => ⟨e.1, by rw [upd_ne (ne_in nlc ha)]; exact s8 _ _ (s7 _ _ e.2)⟩) (paired_imp hts2 fun a ha p e => ⟨e.1, by rw [upd_ne (ne_in nlt ha)]; exact e.2⟩), fun h => (List.mem_append.mp h).elim nlc nlt, by rw [List.length_append]; omega, fun q => ?_⟩
            rw [List.mem_append, hks q, hqs2 q, tk1]
            constructor
            · rintro (⟨p', h1, h2⟩ | ⟨z, h1, h2, h3⟩)
              · exact ⟨p', List.mem_append_left _ h1, h2⟩
              · exact ⟨p, List.mem_append_right _ (List.mem_singleton.mpr rfl), y, z, ly, (hym z).mp h1, h2, h3⟩
            · rintro ⟨p', h1, y', z, h2, h3, h4, h5⟩
              rcases List.mem_append.mp h1 with h | h
              · exact .inl ⟨p', h, y', z, h2, h3, h4, h5⟩
              · have h := List.mem_singleton.mp h
                subst h
                rw [ly] at h2
                have := Option.some.inj h2
                subst this
                exact .inr ⟨z, (hym z).mpr h3, h4, h5⟩
        · obtain ⟨y7, cs, ks, rfl, s6, k6, elg6, hcs, nlc, kl, hks⟩ := hp
          rw [List.length_map, bl, List.take_length] at hks
          rw [List.length_map, bl] at kl
          refine ⟨.ref lg, rfl, lg, cs, ks, _, _, _, _, rfl, s6, elg6, hcs, ?_, fun q => ?_, fun n hn => ?_⟩
          · rw [p7]
            exact Nat.le_trans kl (Nat.mul_le_mul_left 7 pl)
          · rw [hks q, sp_succ]
            constructor
            · rintro ⟨p, h1, y, z, h2⟩
              exact ⟨p, y, z, (hps p).mp h1, h2⟩
            · rintro ⟨p, y, z, h1, h2⟩
              exact ⟨p, (hps p).mpr h1, y, z, h2⟩
          · by_cases c2 : n = t
            · rw [c2]
              exact not
            · exact hno n (by omega)
    · obtain ⟨bg, bs, ps, y4, y5, y6, y7, rfl, s3, ebg, hbs, pl, hps, hno⟩ := hp
      refine ⟨Nat.zero_le _, fun e ne => q _ e [] (s3.trans (same_upd ne)) (up s3 ne) upd_same (.inr ⟨fun n h => ?_, rfl⟩)⟩
      exact hno n (by have := af_lt hok gls h; omega) h
end
end Th
namespace Th
open PySem PySem.Spec PyProof.Rows L2
/-! some junctions left out -/
section
variable {P : Program} {w : World} {K : PySem.W.Frag} {mg : Str → Option Value} {base : Heap} {k : Nat}
def sp_l_less : Sp := fun vs H Q _ => ∃ (p nt : Addr) (ls : List Nm) (sts : List (Nm × Nm)) (jns : List (Nm × List Nm)) (tis : List Ti), vs = [.ref p, .ref nt] ∧ Bag H p ∧ NetAt H nt ls sts jns tis ∧ sts.length ≤ 100 ∧ jns.length ≤ 100 ∧ tis.length ≤ 100 ∧
  ∀ H' r js, Keep p H H' → Bag H' p → LJ H' r ls js → (∀ j ∈ js, j ∈ jns) → Q (.ref r) H'
set_option maxHeartbeats 16000000 in
theorem ok_l_less (T : Defs K mg) : FnOk P w K mg base CX0 (k + 2) T.a_l_less T.d_l_less ["_law_bag_here", "_law_net_here"] sp_l_less := by
  have G_l_take : FnOk P w K mg base CX0 (k + 1) _ _ _ _ := ok_l_take T
  refine T.F_l_less.ok sc_l_less (fun vs H Q E h => ?_) (fun cdv A outer s H vs Q E hr h => ?_)
  · obtain ⟨p, nt, ls, sts, jns, tis, rfl, _⟩ := h
    rfl
  · obtain ⟨p, nt, ls, sts, jns, tis, rfl, b, hnet, l1, l2, l3, q⟩ := h
    refine ⟨_, PSs.nox
(pss_cons (ps_set (i := 2) sc_l_less.nd rfl (.inr rfl) (pe_call G_l_take hr (by rfl) T.g_l_take T.F_l_take.kp T.b_l_take .nil pass0 (pa_cons (pv 0) (pa_cons (pe_int) pa_nil))))
    (pss_cons (ps_set (i := 3) sc_l_less.nd rfl (.inl rfl) (pe_callTy call_tuple_of (by rfl) T.z_tuple (by decide +kernel) (pa_cons (pe_lc (own := [("_law_one", 5)]) (g := gName 5) rfl sc_l_less.nd (pi_tup (pe_ix (r := rIxT K) ix_tup (pv 1) (pe_int) (fun _ _ => rfl))) (blkOk_by (N := N_l_less) (sc := defScope s_l_less) (by decide +kernel)) (fun _ _ _ _ _ => (pg_name (i := 5) sc_l_less.nd rfl (.inl rfl))) (fun _ _ _ _ _ => pts_one (pt_cmpR op_ge (pe_call G_l_take hr (by rfl) T.g_l_take T.F_l_take.kp T.b_l_take .nil pass0 (pa_cons (pv 0) (pa_cons (pe_int) pa_nil))) (pv 2) (nomark _))) (fun _ _ _ _ _ => (pv 5))) pa_nil)))
    (pss_cons (ps_set (i := 4) sc_l_less.nd rfl (.inr rfl) (pe_lc (own := [("_law_one", 5)]) (g := gName 5) rfl sc_l_less.nd (pi_tup (pe_op op_catS (pe_ix (r := rIxT K) ix_tup (pv 1) (pe_int) (fun _ _ => rfl)) (pv 3))) (blkOk_by (N := N_l_less) (sc := defScope s_l_less) (by decide +kernel)) (fun _ _ _ _ _ => (pg_name (i := 5) sc_l_less.nd rfl (.inl rfl))) (fun _ _ _ _ _ => pts_nil) (fun _ _ _ _ _ => (pe_ix (r := rIxT K) ix_tup (pv 5) (pe_int) (fun _ _ => rfl)))))
    (pss_one (ps_ret (pe_tup (pa_cons (pe_ix (r := rIxT K) ix_tup (pv 1) (pe_int) (fun _ _ => rfl)) (pa_cons (pe_ix (r := rIxT K) ix_tup (pv 1) (pe_int) (fun _ _ => rfl)) (pa_cons (pv 3) (pa_cons (pe_callTy call_tuple_of (by rfl) T.z_tuple (by decide +kernel) (pa_cons (pe_lc (own := [("_law_one", 5)]) (g := gName 5) rfl sc_l_less.nd (pi_tup (pe_ix (r := rIxT K) ix_tup (pv 1) (pe_int) (fun _ _ => rfl))) (blkOk_by (N := N_l_less) (sc := defScope s_l_less) (by decide +kernel)) (fun _ _ _ _ _ => (pg_name (i := 5) sc_l_less.nd rfl (.inl rfl))) (fun _ _ _ _ _ => pts_one (PW.pt (pw_and (pt_cmpR (r := rIn K false) op_in_seq (pe_ix (r := rIxT K) ix_tup (pv 5) (pe_int) (fun _ _ => rfl)) (pv 4) (by rfl)) (pw_and1 (pt_cmpR (r := rIn K false) op_in_seq (pe_ix (r := rIxT K) ix_tup (pv 5) (pe_int) (fun _ _ => rfl)) (pv 4) (by rfl)))))) (fun _ _ _ _ _ => (pv 5))) pa_nil)) pa_nil))))))))))
      , ?_⟩
    refine ⟨.ref p, rfl, p, 5, rfl, b, by decide, by decide, fun H1 d1 k1 b1 d10 d11 => ?_⟩
    have hnet1 := hnet.tk (.keep k1 b)
    obtain ⟨na, nb, nc, nd, sa, ja, ta, er, ea, eb, hSt, ec, hJ, ed, hTi⟩ := id hnet1
    have sl := paired_len hSt
    have jl := paired_len hJ
    have tl := paired_len hTi
    -- some
    refine ⟨.ref nt, rfl, nt, [.ref na, .ref nb, .ref nc, .ref nd], 2, .ref nc, rfl, rfl, SqT.of er, atI_nat (j := 2) rfl, nc, rfl, ⟨_, SqT.of ec⟩, fun D nD => ?_⟩
    have nDp : D ≠ p := b1.ne nD
    refine lc_it (walk_tup (xs := ja.map V.ref)) (fun i H2 => Keep p H1 H2 ∧ Bag H2 p ∧ ∃ (ks : List Addr) (js : List (Nm × List Nm)), H2 D = some (.lst (ks.map V.ref)) ∧ Paired (JnAt H1) ks js ∧ js.length ≤ i ∧ ∀ j ∈ js, j ∈ jns) ⟨.of (same_upd nD), b1.keep (same_upd nD), [], [], upd_same, .nil, Nat.le_refl _, fun j hj => (by cases hj)⟩ (fun i H2 _ pv => SqT.of (TK.keep pv.1 b1 _ _ ec)) (fun i v H2₀ H2 hi pv yy => ?_) (fun H2 pv => ?_)
    · obtain ⟨rfl, ex⟩ := yy
      obtain ⟨k2, b2, ks, js, eD, hks, kl, hjs⟩ := pv
      obtain ⟨u, eu, rfl⟩ := at_ref ex
      obtain ⟨jn, ejn, hu⟩ := paired_get hJ eu
      rw [List.length_map, jl] at hi
      refine ⟨rfl, .ref p, rfl, p, 4, rfl, b2, by decide, by decide, fun H3 d k3 b3 _ _ => ⟨.int d1, rfl, _, _, rfl, rfl, _, rfl, ite2 (fun c => ?_) (fun c => ?_)⟩⟩
      · refine ⟨.ref u, rfl, ks.map V.ref, k3 _ _ nDp eD, small5000 (by rw [List.length_map, paired_len hks]; omega), (k2.trans k3).set nD, b3.at (upd_ne nDp.symm), ks ++ [u], js ++ [jn], by rw [upd_same, List.map_append]; rfl, paired_snoc hks hu, by rw [List.length_append, List.length_singleton]; omega, fun j hj => (List.mem_append.mp hj).elim (hjs j) fun h => by rw [List.mem_singleton.mp h]; exact List.mem_of_getElem? ejn⟩
      · exact ⟨k2.trans k3, b3, ks, js, k3 _ _ nDp eD, hks, by omega, hjs⟩
    obtain ⟨k2, b2, ks, js, eD, hks, kl, hjs⟩ := pv
    rw [List.length_map, jl] at kl
    have t2 : TK H1 H2 := .keep k2 b1
    refine ⟨D, _, rfl, .inl ⟨SqL.of eD, fun so nso => ?_⟩⟩
    have s3 := same_upd (o := .tup (ks.map V.ref)) nso
    have eso : (upd H2 so (.tup (ks.map V.ref))) so = some (.tup (ks.map V.ref)) := upd_same
    have t3 := t2.trans (.of s3)
    generalize upd H2 so (.tup (ks.map V.ref)) = H3 at s3 eso t3 ⊢
    -- places
    refine ⟨.ref nt, rfl, nt, [.ref na, .ref nb, .ref nc, .ref nd], 1, .ref nb, rfl, rfl, SqT.of (t3 _ _ er), atI_nat (j := 1) rfl, .ref so, rfl, nb, so, _, _, rfl, rfl, t3 _ _ eb, eso, Nat.le_of_lt (small5000 (by rw [List.length_map, List.length_map, sl, paired_len hks]; omega)), fun ca H4 s4 eca => ?_⟩
    rw [← List.map_append] at eca
    refine ⟨ca, rfl, ⟨_, SqT.of eca⟩, fun D2 nD2 => ?_⟩
    have t4 := t3.trans (.of s4)
    refine lc_it (walk_tup (xs := (sa ++ ks).map V.ref)) (fun i H5 => Same H4 H5 ∧ ∃ zs : List Nm, H5 D2 = some (.lst (zs.map nS)) ∧ zs.length ≤ i) ⟨same_upd nD2, [], upd_same, Nat.le_refl _⟩ (fun i H5 _ pv => SqT.of (pv.1 _ _ eca)) (fun i v H5₀ H5 hi pv yy => ?_) (fun H5 pv => ?_)
    · obtain ⟨rfl, ex⟩ := yy
      obtain ⟨s5, zs, eD2, zl⟩ := pv
      obtain ⟨u, eu, rfl⟩ := at_ref ex
      obtain ⟨z, x2, hu⟩ : ∃ (z : Nm) (x2 : V), H1 u = some (.tup [nS z, x2]) := by
        rcases List.mem_append.mp (List.mem_of_getElem? eu) with h | h
        · obtain ⟨j, hj⟩ := List.getElem?_of_mem h
          obtain ⟨st, _, h⟩ := paired_get hSt hj
          exact ⟨_, _, h⟩
        · obtain ⟨j, hj⟩ := List.getElem?_of_mem h
          obtain ⟨jn, _, jt, h, _⟩ := paired_get hks hj
          exact ⟨_, _, h⟩
      rw [List.length_map, List.length_append, sl, paired_len hks] at hi
      refine ⟨rfl, yes_ ?_⟩
      refine ⟨.ref u, rfl, u, _, 0, nS z, rfl, rfl, SqT.of (s5 _ _ (t4 _ _ hu)), atI_nat (j := 0) rfl, zs.map nS, eD2, small5000 (by rw [List.length_map]; omega), same_set s5 nD2, zs ++ [z], by rw [upd_same, List.map_append]; rfl, by rw [List.length_append, List.length_singleton]; omega⟩
    obtain ⟨s5, zs, eD2, zl⟩ := pv
    have t5 := t4.trans (.of s5)
    -- the net
    refine ⟨.ref nt, rfl, nt, [.ref na, .ref nb, .ref nc, .ref nd], 0, .ref na, rfl, rfl, SqT.of (t5 _ _ er), atI_nat (j := 0) rfl, .ref nt, rfl, nt, [.ref na, .ref nb, .ref nc, .ref nd], 1, .ref nb, rfl, rfl, SqT.of (t5 _ _ er), atI_nat (j := 1) rfl, .ref so, rfl, ?_⟩
    refine ⟨.ref nt, rfl, nt, [.ref na, .ref nb, .ref nc, .ref nd], 3, .ref nd, rfl, rfl, SqT.of (t5 _ _ er), atI_nat (j := 3) rfl, nd, rfl, ⟨_, SqT.of (t5 _ _ ed)⟩, fun D3 nD3 => ?_⟩
    refine lc_it (walk_tup (xs := ta.map V.ref)) (fun i H6 => Same H5 H6 ∧ ∃ us : List Addr, H6 D3 = some (.lst (us.map V.ref)) ∧ us.length ≤ i) ⟨same_upd nD3, [], upd_same, Nat.le_refl _⟩ (fun i H6 _ pv => SqT.of (pv.1 _ _ (t5 _ _ ed))) (fun i v H6₀ H6 hi pv yy => ?_) (fun H6 pv => ?_)
    · obtain ⟨rfl, ex⟩ := yy
      obtain ⟨s6, us, eD3, ul⟩ := pv
      obtain ⟨u, eu, rfl⟩ := at_ref ex
      obtain ⟨t, et, hu⟩ := paired_get hTi eu
      have hu6 : H6 u = some (.tup [nS t.a, nS t.b, nS t.ln, .int t.ch]) := s6 _ _ (t5 _ _ hu)
      rw [List.length_map, tl] at hi
      refine ⟨rfl, .ref u, rfl, u, _, 0, nS t.a, rfl, rfl, SqT.of hu6, atI_nat (j := 0) rfl, .ref D2, rfl, D2, _, rfl, .inl (SqL.of (s6 _ _ eD2)), rfl, flat_nms _, _, rfl, ite2 (fun c => ?_) (fun c => ⟨s6, us, eD3, by omega⟩)⟩
      refine ⟨.ref u, rfl, u, _, 1, nS t.b, rfl, rfl, SqT.of hu6, atI_nat (j := 1) rfl, .ref D2, rfl, D2, _, rfl, .inl (SqL.of (s6 _ _ eD2)), rfl, flat_nms _, _, rfl, ite2 (fun c => ?_) (fun c => ⟨s6, us, eD3, by omega⟩)⟩
      exact ⟨.ref u, rfl, us.map V.ref, eD3, small5000 (by rw [List.length_map]; omega), same_set s6 nD3, us ++ [u], by rw [upd_same, List.map_append]; rfl, by rw [List.length_append, List.length_singleton]; omega⟩
    obtain ⟨s6, us, eD3, ul⟩ := pv
    refine ⟨D3, _, rfl, .inl ⟨SqL.of eD3, fun tt ntt => ⟨four_sz, fun r nr => ?_⟩⟩⟩
    have s7 := s6.trans ((same_upd (o := .tup (us.map V.ref)) ntt).trans (same_upd (o := .tup [.ref na, .ref nb, .ref so, .ref tt]) nr))
    have t7 := t5.trans (.of s7)
    have k7 : Keep p H _ := k1.trans (k2.trans (.of (s3.trans (s4.trans (s5.trans s7)))))
    refine q _ r js k7 (b2.keep (s3.trans (s4.trans (s5.trans s7)))) ⟨na, so, .ref nb, .ref tt, ks, upd_same, t7 _ _ ea, (s4.trans (s5.trans s7)) _ _ eso, paired_imp hks fun a _ j ⟨jt, h1, h2⟩ => ⟨jt, t7 _ _ h1, t7 _ _ h2⟩⟩ hjs
end
end Th
namespace Th
open PySem PySem.Spec PyProof.Rows L2
theorem sq_same {K : PySem.W.Frag} {H H' : Hp} {a : Addr} {xs : List V} (s : Same H H') (h : SqL K H a xs) : SqL K H' a xs := by
  rcases h with (h | ⟨o, h⟩) | h
  · exact .inl (.inl (s _ _ h))
  · exact .inl (.inr ⟨o, s _ _ h⟩)
  · exact .inr h
theorem netok_lj {ls zs : List Nm} {qs : List (List Nat)} {J : Nat} {tis : List Ti} {jns : List (Nm × List Nm)} (h : NetOk ls zs qs J tis) (pJ : jns.Perm ((zs.zip qs).filterMap (jnOf ls))) : LJok ls jns := by
  have each := h.q.each h.l8
  have spot : ∀ js ∈ qs, js.length ≠ 1 → js.Pairwise (· < ·) := by
    obtain ⟨f, l, ss, tw, e, h1, h2, _⟩ := h.q.form
    intro js hj hl
    rw [e] at hj
    rcases List.mem_append.mp hj with z | z
    · rcases List.mem_append.mp z with z | z
      · rcases List.mem_cons.mp z with z | z
        · rw [z] at hl
          exact absurd rfl hl
        · exact (h2 js z).rise
      · rw [List.mem_singleton.mp z] at hl
        exact absurd rfl hl
    · obtain ⟨x, _, rfl⟩ := List.mem_map.mp z
      exact absurd rfl hl
  have form : ∀ j ∈ jns, ∃ js ∈ qs, js.length ≠ 1 ∧ j.2 = js.map fun i => ls.getD i [] := fun j hj => by
    obtain ⟨x, hx, ex⟩ := List.mem_filterMap.mp (pJ.mem_iff.mp hj)
    unfold jnOf at ex
    split at ex
    · cases ex
    · rename_i c
      have := Option.some.inj ex
      subst this
      exact ⟨x.2, (List.of_mem_zip hx).2, c, rfl⟩
  have gd : ∀ {i : Nat}, i < ls.length → ls[i]? = some (ls.getD i []) := fun {i} hi => by
    rw [List.getD_eq_getElem?_getD, List.getElem?_eq_getElem hi]
    rfl
  refine ⟨h.l8, h.lnd, fun j hj y hy => ?_, fun j hj => ?_, fun j hj => ?_⟩
  · obtain ⟨js, h1, _, h2⟩ := form j hj
    rw [h2] at hy
    obtain ⟨i, hi, rfl⟩ := List.mem_map.mp hy
    exact List.mem_of_getElem? (gd ((each js h1).2.2 i hi))
  · obtain ⟨js, h1, _, h2⟩ := form j hj
    rw [h2, List.length_map]
    exact (each js h1).2.1
  · obtain ⟨js, h1, h3, h2⟩ := form j hj
    rw [h2, List.nodup_iff_pairwise_ne, List.pairwise_map]
    refine List.Pairwise.imp_of_mem (fun {a b} ha hb hlt e => ?_) (spot js h1 h3)
    have ga := gd ((each js h1).2.2 a ha)
    have gb := gd ((each js h1).2.2 b hb)
    rw [e] at ga
    have := nodup_inj h.lnd ga gb
    omega
theorem LJok.less {ls : List Nm} {jns js : List (Nm × List Nm)} (h : LJok ls jns) (s : ∀ j ∈ js, j ∈ jns) : LJok ls js := ⟨h.l8, h.lnd, fun j hj => h.sub j (s j hj), fun j hj => h.j9 j (s j hj), fun j hj => h.jnd j (s j hj)⟩
theorem rd_eq {jns : List (Nm × List Nm)} {fars : List Nm} {x : Nm} {r t : List Nm} (h : Rd' jns fars x r) (k : Rd' jns fars x t) : r = t := by
  rcases h with ⟨n, h1, h2⟩ | ⟨h1, h2⟩
  · rcases k with ⟨m, k1, k2⟩ | ⟨k1, _⟩
    · have := h1.eq k1
      subst this
      exact h2.eq k2
    · exact absurd h1 (k1 n)
  · rcases k with ⟨m, k1, _⟩ | ⟨_, k2⟩
    · exact absurd k1 (h1 m)
    · rw [h2, k2]
theorem rd_in {ls : List Nm} {jns : List (Nm × List Nm)} {fars : List Nm} {x : Nm} {r : List Nm} (hok : LJok ls jns) (hf : ∀ f ∈ fars, f ∈ ls) (h : Rd' jns fars x r) : (∀ z ∈ r, z ∈ ls) ∧ r.length ≤ 8 := by
  rcases h with ⟨n, h1, h2⟩ | ⟨_, h2⟩
  · have l := h2.len
    have := af_lt hok hf h1
    have := hok.l8
    refine ⟨fun z hz => ?_, by omega⟩
    obtain ⟨i, hi⟩ := List.getElem?_of_mem hz
    exact af_in hok hf (Rm.gr_ds h2 h1 i z hi).2
  · rw [h2]
    exact ⟨fun z hz => (by cases hz), Nat.zero_le _⟩
theorem dtAll_nms {H : Hp} : ∀ zs : List Nm, DtAll SA H (zs.map nS) ((zs.map SX.S).map PyData.str)
  | [] => .nil
  | z :: zs => .cons (.str _) (dtAll_nms zs)
theorem dt_lD {H : Hp} {a : Addr} {p : List Nm} (e : H a = some (.lst (p.map nS))) (l : p.length ≤ 5000) : Dt SA H (.ref a) (lD p) := .lst trivial e (by rw [List.length_map]; exact l) (dtAll_nms p)
theorem cut_nms (ls : List Nm) (lo hi : Option Int) : ∃ ys : List Nm, cutV (ls.map nS) lo hi = ys.map nS ∧ ∀ y ∈ ys, y ∈ ls := by
  unfold cutV
  exact ⟨(ls.drop _).take _, by rw [List.map_take, List.map_drop], fun y hy => List.mem_of_mem_drop (List.mem_of_mem_take hy)⟩
section
variable {P : Program} {w : World} {K : PySem.W.Frag} {mg : Str → Option Value} {base : Heap} {k : Nat}
def sp_law (K : PySem.W.Frag) : Sp := fun vs H Q _ => ∃ (a : Addr) (ns : List Int), vs = [.ref a] ∧ SqL K H a (ns.map V.int) ∧ ns.length ≤ 63 ∧ ∀ H', Q (.bl true) H'
set_option maxHeartbeats 16000000 in
theorem ok_law {f : Addr} {fd : FuncData} (F : FnP K "law" s_law f fd) (T : Defs K mg) : FnOk P w K mg base CX0 5 f fd ["_law_script"] (sp_law K) := by
  have G_l_bag : FnOk P w K mg base CX0 4 _ _ _ _ := ok_l_bag T
  have G_l_take : FnOk P w K mg base CX0 4 _ _ _ _ := ok_l_take (k := 3) T
  have G_l_net : FnOk P w K mg base CX0 4 _ _ _ _ := ok_l_net (k := 0) T
  have G_l_less : FnOk P w K mg base CX0 4 _ _ _ _ := ok_l_less (k := 2) T
  have G_l_road : FnOk P w K mg base CX0 4 _ _ _ _ := ok_l_road (k := 2) T
  have G_road_of_lines : FnOk P w K mg base CX0 4 _ _ _ _ := ok_road_of_lines (k := 0) T
  have G_l_like : FnOk P w K mg base CX0 4 _ _ _ _ := ok_l_like T 4
  refine F.ok sc_law (fun vs H Q E h => ?_) (fun cdv A outer s H vs Q E hr h => ?_)
  · obtain ⟨a, ns, rfl, _⟩ := h
    rfl
  · obtain ⟨a, ns, rfl, hS, hlen, q⟩ := h
    refine ⟨_, PSs.nox
(pss_cons (ps_for PassesOwn.never rfl (pi_range1 (by rfl) T.z_range (pa_cons (pe_callB (call_max2 rfl) (by rfl) T.z_max (by decide +kernel) (pa_cons (pe_int) (pa_cons (pe_callB (call_min2 rfl) (by rfl) T.z_min (by decide +kernel) (pa_cons (pe_int) (pa_cons (pe_callB (r := rLenS K) call_lenS (by rfl) T.z_len (by decide +kernel) (pa_cons (pv 0) pa_nil)) pa_nil))) pa_nil))) pa_nil)) (pg_name (i := 1) sc_law.nd rfl (.inl rfl))
      (pss_cons (ps_set (i := 2) sc_law.nd rfl (.inl rfl) (pe_call G_l_bag hr (by rfl) T.g_l_bag T.F_l_bag.kp T.b_l_bag .nil pass0 (pa_cons (pv 0) (pa_cons (pv 1) pa_nil))))
      (pss_cons (ps_set (i := 3) sc_law.nd rfl (.inl rfl) (pe_call G_l_less hr (by rfl) T.g_l_less T.F_l_less.kp T.b_l_less .nil pass0 (pa_cons (pv 2) (pa_cons (pe_ix (r := rIxT K) ix_tup (pe_call G_l_net hr (by rfl) T.g_l_net T.F_l_net.kp T.b_l_net .nil pass0 (pa_cons (pv 2) pa_nil)) (pe_int) (fun _ _ => rfl)) pa_nil))))
      (pss_cons (ps_set (i := 4) sc_law.nd rfl (.inl rfl) (pe_call G_l_take hr (by rfl) T.g_l_take T.F_l_take.kp T.b_l_take .nil pass0 (pa_cons (pv 2) (pa_cons (pe_callB (r := rLenS K) call_lenS (by rfl) T.z_len (by decide +kernel) (pa_cons (pe_ix (r := rIxT K) ix_tup (pv 3) (pe_int) (fun _ _ => rfl)) pa_nil)) pa_nil))))
      (pss_one (ps_for PassesOwn.never rfl (pi_tup (pe_op op_catS (pe_slice (r := rSlS K) sl_tupS (pe_ix (r := rIxT K) ix_tup (pv 3) (pe_int) (fun _ _ => rfl)) (po_some (pv 4)) po_none) (pe_slice (r := rSlS K) sl_tupS (pe_ix (r := rIxT K) ix_tup (pv 3) (pe_int) (fun _ _ => rfl)) po_none (po_some (pv 4))))) (pg_name (i := 5) sc_law.nd rfl (.inl rfl))
        (pss_one (ps_for PassesOwn.never rfl (pi_tup (pe_ix (r := rIxT K) ix_tup (pv 3) (pe_int) (fun _ _ => rfl))) (pg_name (i := 6) sc_law.nd rfl (.inl rfl))
          (pss_cons (ps_set (i := 7) sc_law.nd rfl (.inl rfl) (pe_call G_l_road hr (by rfl) T.g_l_road T.F_l_road.kp T.b_l_road .nil pass0 (pa_cons (pv 3) (pa_cons (pv 5) (pa_cons (pe_lst (pa_cons (pv 6) pa_nil)) pa_nil)))))
          (pss_one (ps_for PassesOwn.never rfl (pi_range1 (by rfl) T.z_range (pa_cons (pe_int) pa_nil)) (pg_name (i := 8) sc_law.nd rfl (.inl rfl))
            (pss_cons (ps_set (i := 9) sc_law.nd rfl (.inl rfl) (pe_call G_road_of_lines hr (by rfl) T.g_road_of_lines T.F_road_of_lines.kp T.b_road_of_lines .nil pass0 (pa_cons (pv 3) (pa_cons (pv 5) (pa_cons (pv 6) pa_nil)))))
            (pss_cons (ps_if (PW.pt (pw_or (pt_not (pt_val (pe_callB call_isi (by rfl) T.z_isinstance (by decide +kernel) (pa_cons (pv 9) (pa_cons (pe_bltn (v := .ty "list") (by rfl) T.z_list (by decide +kernel) rfl) pa_nil))))) (pw_or1 (pt_not (pt_val (pe_call G_l_like hr (by rfl) T.g_l_like T.F_l_like.kp T.b_l_like .nil pass0 (pa_cons (pv 9) (pa_cons (pv 7) pa_nil))))))))
              (pss_one (ps_ret (pe_bl)))
              pss_nil)
            (pss_one (ps_expr (pe_bm PySem.F.plainAttrs_list PySem.F.slot_list_append PySem.F.type_list_append mt_append (pv 9) (pa_cons (pe_str) pa_nil)))))))))))))))))
    (pss_one (ps_ret (pe_bl))))
      , ?_⟩
    have lenV : (ns.map V.int).length = ns.length := List.length_map _
    refine ⟨.ref a, rfl, a, _, rfl, .inl hS, 4, _, rfl, 2, _, rfl, _, rfl, ?_, ?_, ?_⟩
    · rw [lenV]
      split <;> split <;> omega
    · rw [lenV]
      split <;> split <;> omega
    · obtain ⟨n, en, hn⟩ : ∃ n : Nat, (if (if ((ns.map V.int).length : Int) < 4 then ((ns.map V.int).length : Int) else 4) > 2 then (if ((ns.map V.int).length : Int) < 4 then ((ns.map V.int).length : Int) else 4) else 2) = (n : Int) ∧ n ≤ 4 := by
        rw [lenV]
        refine ⟨(if (if (ns.length : Int) < 4 then (ns.length : Int) else 4) > 2 then (if (ns.length : Int) < 4 then (ns.length : Int) else 4) else 2).toNat, ?_, ?_⟩
        · split <;> split <;> omega
        · split <;> split <;> omega
      rw [en, Int.toNat_natCast]
      refine for_range (lo := 0) (n := n) (fun i σ H3 => ∃ (y1 y2 y3 y4 y5 y6 y7 y8 y9 : Option V), σ = [some (.ref a), y1, y2, y3, y4, y5, y6, y7, y8, y9] ∧ Same H H3)
        ⟨none, none, none, none, none, none, none, none, none, rfl, .refl H⟩ (fun i σ H3 hi hp => ?_) (fun σ H3 hp => ?_)
      · obtain ⟨y1, y2, y3, y4, y5, y6, y7, y8, y9, rfl, s3⟩ := hp
        have hS3 : SqL K H3 a (ns.map V.int) := sq_same s3 hS
        refine ⟨.ref a, rfl, .int (0 + (i : Int)), rfl, a, ns, i, by rw [Int.zero_add]; rfl, hS3, by omega, fun H4 p s4 np b4 => ?_⟩
        have nHp : H p = none := s3.free np
        refine ⟨.ref p, rfl, .ref p, rfl, p, rfl, b4, fun H5 r nt wy ls zs qs J tis sts jns rws k5 b5 er hnet ewy hok pS pJ pR => ?_⟩
        have hl := hok.q.len
        have s28 : sts.length ≤ 28 := by
          rw [pS.length_eq]
          refine Nat.le_trans (List.length_filterMap_le _ _) ?_
          rw [List.length_zip]
          omega
        have j28 : jns.length ≤ 28 := by
          rw [pJ.length_eq]
          refine Nat.le_trans (List.length_filterMap_le _ _) ?_
          rw [List.length_zip]
          omega
        have r40 : rws.length ≤ 40 := by rw [pR.length_eq]; exact hok.t40
        have s5 : Same H H5 := fun c o e => k5 _ _ (ne_of_none e nHp) (s4 _ _ (s3 _ _ e))
        refine ⟨r, [.ref nt, .ref wy], 0, .ref nt, rfl, rfl, SqT.of er, atI_nat (j := 0) rfl, p, nt, ls, sts, jns, rws, rfl, b5, hnet, by omega, by omega, by omega, fun H6 nr js k6 b6 lj hjs => ?_⟩
        have ljo : LJok ls js := (netok_lj hok pJ).less hjs
        have s6 : Same H H6 := fun c o e => k6 _ _ (ne_of_none e nHp) (s5 _ _ e)
        obtain ⟨na, nc, nb, nd, ja, enr, ena, enc, hJ⟩ := id lj
        have l1 := hok.l1
        have l8 := hok.l8
        -- first
        refine ⟨.ref p, rfl, .ref nr, rfl, nr, _, 0, .ref na, rfl, rfl, SqT.of enr, atI_nat (j := 0) rfl, na, _, rfl, .inr (SqT.of ena), p, (ls.length : Int), by rw [List.length_map]; rfl, b6, by omega, by omega, fun H7 d k7 b7 d0 d1 => ?_⟩
        obtain ⟨dn, rfl⟩ : ∃ dn : Nat, d = (dn : Int) := ⟨d.toNat, by omega⟩
        have t7 : TK H6 H7 := .keep k7 b6
        have s7 : Same H H7 := fun c o e => k7 _ _ (ne_of_none e nHp) (s6 _ _ e)
        refine ⟨.ref nr, rfl, nr, _, 0, .ref na, rfl, rfl, SqT.of (t7 _ _ enr), atI_nat (j := 0) rfl, .int dn, rfl, _, rfl, na, _, rfl, t7 _ _ ena, fun c1 H8 s8 ec1 => ?_⟩
        refine ⟨.ref nr, rfl, nr, _, 0, .ref na, rfl, rfl, SqT.of (s8 _ _ (t7 _ _ enr)), atI_nat (j := 0) rfl, .int dn, rfl, _, rfl, na, _, rfl, s8 _ _ (t7 _ _ ena), fun c2 H9 s9 ec2 => ?_⟩
        obtain ⟨xs, ex, hxs⟩ : ∃ xs : List Nm, cutV (ls.map nS) (some (dn : Int)) none ++ cutV (ls.map nS) none (some (dn : Int)) = xs.map nS ∧ (∀ x ∈ xs, x ∈ ls) := by
          obtain ⟨ys1, e1, h1⟩ := cut_nms ls (some (dn : Int)) none
          obtain ⟨ys2, e2, h2⟩ := cut_nms ls none (some (dn : Int))
          exact ⟨ys1 ++ ys2, by rw [e1, e2, List.map_append], fun x hx => (List.mem_append.mp hx).elim (h1 x) (h2 x)⟩
        refine ⟨c1, c2, _, _, rfl, rfl, s9 _ _ ec1, ec2, Nat.le_of_lt (small5000 ?_), fun c3 H10 s10 ec3 => ?_⟩
        · have h1 := cutV_length (ls.map nS) (some (dn : Int)) none
          have h2 := cutV_length (ls.map nS) none (some (dn : Int))
          rw [List.length_map] at h1 h2
          omega
        rw [ex] at ec3
        have lj10 : LJ H10 nr ls js := (lj.tk t7).tk (.of (s8.trans (s9.trans s10)))
        have s010 : Same H H10 := s7.trans (s8.trans (s9.trans s10))
        have enr10 := (s8.trans (s9.trans s10)) _ _ (t7 _ _ enr)
        have ena10 := (s8.trans (s9.trans s10)) _ _ (t7 _ _ ena)
        refine ⟨c3, rfl, ⟨_, SqT.of ec3⟩, ?_⟩
        refine for_it (walk_tup (xs := xs.map nS)) (fun j σ H11 => ∃ (y5 y6 y7 y8 y9 : Option V), σ = [some (.ref a), some (.int (0 + (i : Int))), some (.ref p), some (.ref nr), some (.int dn), y5, y6, y7, y8, y9] ∧ Same H10 H11)
          ⟨_, _, _, _, _, rfl, .refl _⟩ (fun j σ H11 _ hp => ?_) (fun j v σ H11₀ H11 hj hp yy => ?_) (fun σ H11 hp => ?_)
        · obtain ⟨_, _, _, _, _, _, s11⟩ := hp
          exact SqT.of (s11 _ _ ec3)
        · obtain ⟨rfl, exx⟩ := yy
          obtain ⟨y5, y6, y7, y8, y9, rfl, s11⟩ := hp
          obtain ⟨x, hx, rfl⟩ := at_nm exx
          have xin : x ∈ ls := hxs x (List.mem_of_getElem? hx)
          refine ⟨.ref nr, rfl, nr, _, 0, .ref na, rfl, rfl, SqT.of (s11 _ _ enr10), atI_nat (j := 0) rfl, na, rfl, ⟨_, SqT.of (s11 _ _ ena10)⟩, ?_⟩
          refine for_it (walk_tup (xs := ls.map nS)) (fun j2 σ H12 => ∃ (y6 y7 y8 y9 : Option V), σ = [some (.ref a), some (.int (0 + (i : Int))), some (.ref p), some (.ref nr), some (.int dn), some (nS x), y6, y7, y8, y9] ∧ Same H10 H12)
            ⟨_, _, _, _, rfl, s11⟩ (fun j2 σ H12 _ hp => ?_) (fun j2 v σ H12₀ H12 hj2 hp yy => ?_) (fun σ H12 hp => ?_)
          · obtain ⟨_, _, _, _, _, s12⟩ := hp
            exact SqT.of (s12 _ _ ena10)
          · obtain ⟨rfl, eyy⟩ := yy
            obtain ⟨y6, y7, y8, y9, rfl, s12⟩ := hp
            obtain ⟨y, hy, rfl⟩ := at_nm eyy
            have yin : y ∈ ls := List.mem_of_getElem? hy
            have lj12 := lj10.tk (.of s12)
            refine ⟨.ref nr, rfl, nS x, rfl, nS y, rfl, by show 1 ≤ sizeLine; decide, fun go ngo => ?_⟩
            have sg := same_upd (o := .lst [nS y]) ngo
            refine ⟨nr, go, x, ls, js, [y], rfl, lj12.tk (.of sg), ljo, hok.lnm, xin, upd_same, fun f hf => by rw [List.mem_singleton.mp hf]; exact yin, fun H13 du rd s13 ndu edu hrd => ?_⟩
            obtain ⟨rin, rl⟩ := rd_in ljo (fun f hf => by rw [List.mem_singleton.mp hf]; exact yin) hrd
            have s13' := s12.trans (sg.trans s13)
            refine ⟨2, rfl, by decide, by decide, ?_⟩
            refine for_range (lo := 0) (n := 2) (fun tn σ H14 => ∃ (y8 y9 : Option V), σ = [some (.ref a), some (.int (0 + (i : Int))), some (.ref p), some (.ref nr), some (.int dn), some (nS x), some (nS y), some (.ref du), y8, y9] ∧ Same H13 H14)
              ⟨_, _, rfl, .refl _⟩ (fun tn σ H14 htn hp => ?_) (fun σ H14 hp => ?_)
            · obtain ⟨y8, y9, rfl, s14⟩ := hp
              have lj14 := lj10.tk (.of (s13'.trans s14))
              refine ⟨.ref nr, rfl, nS x, rfl, nS y, rfl, nr, x, y, ls, js, rfl, lj14, ljo, xin, yin, fun H15 tp rd2 s15 ntp etp hrd2 => ?_⟩
              have e2 := rd_eq hrd2 hrd
              subst e2
              have dT := dt_lD etp (by omega : rd2.length ≤ 5000)
              have dU := dt_lD (s15 _ _ (s14 _ _ edu)) (by omega : rd2.length ≤ 5000)
              refine ⟨.ref tp, rfl, .ref tp, .ty "list", _, _, _, rfl, .ty "list", .base (.lst etp), kit_ty (a := "list") (b := "list") (r := true) (by decide +kernel), true, rfl, iteF ?_⟩
              refine ⟨.ref tp, rfl, .ref du, rfl, .ref tp, .ref du, lD rd2, rfl, dT, dU, layAll_nms (fun z hz => hok.lnm z (rin z hz)), ?_, by decide, fun H16 s16 => ⟨true, rfl, iteF ?_⟩⟩
              · show PyData.depthAll ((rd2.map SX.S).map PyData.str) + 1 < 4
                rw [depthAll_nms]
                decide
              · refine ⟨.ref tp, rfl, .inl ⟨rfl, _, SqL.of (s16 _ _ etp)⟩, tp, _, _, rfl, rfl, s16 _ _ etp, small5000 (by rw [List.length_map]; omega), _, _, rfl, same_set (s14.trans (s15.trans s16)) ?_⟩
                cases e : H13 tp with
                | none => rfl
                | some o => rw [s14 _ _ e] at ntp; cases ntp
            · obtain ⟨y8, y9, rfl, s14⟩ := hp
              exact ⟨_, _, _, _, rfl, s13'.trans s14⟩
          · obtain ⟨y6, y7, y8, y9, rfl, s12⟩ := hp
            exact ⟨_, _, _, _, _, rfl, s12⟩
        · obtain ⟨y5, y6, y7, y8, y9, rfl, s11⟩ := hp
          exact ⟨_, _, _, _, _, _, _, _, _, rfl, s010.trans s11⟩
      · obtain ⟨y1, y2, y3, y4, y5, y6, y7, y8, y9, rfl, s3⟩ := hp
        exact q _
end
end Th
namespace Th
open PySem PySem.Spec PyProof.Rows L2
def dd_road_of_lines : He.DefD := ⟨("road_of_lines", none), "road_of_lines", "road_of_lines", defArgs s_road_of_lines, defBody s_road_of_lines, defScope s_road_of_lines, [], []⟩
def dd_road_to_any : He.DefD := ⟨("road_to_any", none), "road_to_any", "road_to_any", defArgs s_road_to_any, defBody s_road_to_any, defScope s_road_to_any, [], []⟩
def dd_steps_to : He.DefD := ⟨("steps_to", none), "steps_to", "steps_to", defArgs s_steps_to, defBody s_steps_to, defScope s_steps_to, [], []⟩
def dd_lines_beside : He.DefD := ⟨("lines_beside", none), "lines_beside", "lines_beside", defArgs s_lines_beside, defBody s_lines_beside, defScope s_lines_beside, [], []⟩
def dd_lines_joined : He.DefD := ⟨("lines_joined", none), "lines_joined", "lines_joined", defArgs s_lines_joined, defBody s_lines_joined, defScope s_lines_joined, [], []⟩
def dd_l_bag : He.DefD := ⟨("_law_bag", none), "_law_bag", "_law_bag", defArgs s_l_bag, defBody s_l_bag, defScope s_l_bag, [], []⟩
def dd_l_take : He.DefD := ⟨("_law_take", none), "_law_take", "_law_take", defArgs s_l_take, defBody s_l_take, defScope s_l_take, [], []⟩
def dd_l_names : He.DefD := ⟨("_law_names", none), "_law_names", "_law_names", defArgs s_l_names, defBody s_l_names, defScope s_l_names, [], []⟩
def dd_l_spots : He.DefD := ⟨("_law_spots", none), "_law_spots", "_law_spots", defArgs s_l_spots, defBody s_l_spots, defScope s_l_spots, [], []⟩
def dd_l_places : He.DefD := ⟨("_law_places", none), "_law_places", "_law_places", defArgs s_l_places, defBody s_l_places, defScope s_l_places, [], []⟩
def dd_l_net : He.DefD := ⟨("_law_net", none), "_law_net", "_law_net", defArgs s_l_net, defBody s_l_net, defScope s_l_net, [], []⟩
def dd_l_laid : He.DefD := ⟨("_law_laid", none), "_law_laid", "_law_laid", defArgs s_l_laid, defBody s_l_laid, defScope s_l_laid, [], []⟩
def dd_l_next : He.DefD := ⟨("_law_next", none), "_law_next", "_law_next", defArgs s_l_next, defBody s_l_next, defScope s_l_next, [], []⟩
def dd_l_road : He.DefD := ⟨("_law_road", none), "_law_road", "_law_road", defArgs s_l_road, defBody s_l_road, defScope s_l_road, [], []⟩
def dd_l_like : He.DefD := ⟨("_law_like", none), "_law_like", "_law_like", defArgs s_l_like, defBody s_l_like, defScope s_l_like, [], []⟩
def dd_l_less : He.DefD := ⟨("_law_less", none), "_law_less", "_law_less", defArgs s_l_less, defBody s_l_less, defScope s_l_less, [], []⟩
def dd_law : He.DefD := ⟨("law", none), "law", "law", defArgs s_law, defBody s_law, defScope s_law, [], []⟩
def fn : List He.DefD := [dd_road_of_lines, dd_road_to_any, dd_steps_to, dd_lines_beside, dd_lines_joined, dd_l_bag, dd_l_take, dd_l_names, dd_l_spots, dd_l_places, dd_l_net, dd_l_laid, dd_l_next, dd_l_road, dd_l_like, dd_l_less, dd_law]
def fa : List He.Fa := [.glo "road_of_lines", .glo "road_to_any", .glo "steps_to", .glo "lines_beside", .glo "lines_joined", .glo "_law_bag", .glo "_law_take", .glo "_law_names", .glo "_law_spots", .glo "_law_places", .glo "_law_net", .glo "_law_laid", .glo "_law_next", .glo "_law_road", .glo "_law_like", .glo "_law_less", .glo "law", .free "abs", .free "all", .free "bool", .free "int", .free "isinstance", .free "len", .free "list", .free "max", .free "min", .free "range", .free "set", .free "sorted", .free "tuple", .free "zip"]
abbrev R : PySem.W.OpenRow := PySem.W.OpenLaw.row PySem.Challenge.rw_throughlines_k07_roads_of_lines
abbrev hk : PySem.W.Hook := He.hookD 4 fa fn
def ob (s : PySem.W.SharedT) : He.AlD := He.obsDG 4 fa fn (HandSHeadRun.getT s)
theorem ob_eq (s : PySem.W.SharedT) : ob s = hk.obs s.abs := He.obsDG_eq (HandSHeadRun.getT_eq s)
def loose : List PySem.Str := ["road_of_lines", "road_to_any", "steps_to", "lines_beside", "lines_joined", "_law_bag", "_law_take", "_law_names", "_law_spots", "_law_places", "_law_net", "_law_laid", "_law_next", "_law_road", "_law_like", "_law_less"]
set_option maxHeartbeats 0 in
theorem run (w : World) : HandSHeadRun.RunEq R (PySem.W.view R.prog [18]) hk ob 2000 loose w := by
  intro os
  kernel_rfl
theorem facts {P : Program} {w : World} {K : PySem.W.Frag} {h : Heap} {mg : Str → Option Value} {f : Addr} (X : K.In h) (G : h.Ns mainGlobals mg) (hfa : mg ("law" : Str) = some (.ref f)) (c : He.SaysD fa fn K) :
    ∃ fd : FuncData, (∀ (s : Shared) (v : Value), BindsTo s fd ⟨[v], []⟩ [("_law_script", v)]) ∧ ∀ base : Heap, K.In base → base.Ns mainGlobals mg → FnOk P w K mg base CX0 5 f fd ["_law_script"] (sp_law K) := by
  obtain ⟨d_road_of_lines, F_road_of_lines⟩ := c.def_ 0 (d := dd_road_of_lines) rfl
  have b_road_of_lines : Binds K d_road_of_lines ["net", "line", "far"] [] := FunD.bindsN F_road_of_lines fun _ _ _ _ _ _ us hl => match us, hl with | [_, _, _], _ => rfl
  obtain ⟨d_road_to_any, F_road_to_any⟩ := c.def_ 1 (d := dd_road_to_any) rfl
  have b_road_to_any : Binds K d_road_to_any ["net", "line", "fars"] [] := FunD.bindsN F_road_to_any fun _ _ _ _ _ _ us hl => match us, hl with | [_, _, _], _ => rfl
  obtain ⟨d_steps_to, F_steps_to⟩ := c.def_ 2 (d := dd_steps_to) rfl
  have b_steps_to : Binds K d_steps_to ["beside", "fars"] [] := FunD.bindsN F_steps_to fun _ _ _ _ _ _ us hl => match us, hl with | [_, _], _ => rfl
  obtain ⟨d_lines_beside, F_lines_beside⟩ := c.def_ 3 (d := dd_lines_beside) rfl
  have b_lines_beside : Binds K d_lines_beside ["net"] [] := FunD.bindsN F_lines_beside fun _ _ _ _ _ _ us hl => match us, hl with | [_], _ => rfl
  obtain ⟨d_lines_joined, F_lines_joined⟩ := c.def_ 4 (d := dd_lines_joined) rfl
  have b_lines_joined : Binds K d_lines_joined ["net", "line"] [] := FunD.bindsN F_lines_joined fun _ _ _ _ _ _ us hl => match us, hl with | [_, _], _ => rfl
  obtain ⟨d_l_bag, F_l_bag⟩ := c.def_ 5 (d := dd_l_bag) rfl
  have b_l_bag : Binds K d_l_bag ["_law_script", "_law_at"] [] := FunD.bindsN F_l_bag fun _ _ _ _ _ _ us hl => match us, hl with | [_, _], _ => rfl
  obtain ⟨d_l_take, F_l_take⟩ := c.def_ 6 (d := dd_l_take) rfl
  have b_l_take : Binds K d_l_take ["_law_bag_here", "_law_many"] [] := FunD.bindsN F_l_take fun _ _ _ _ _ _ us hl => match us, hl with | [_, _], _ => rfl
  obtain ⟨d_l_names, F_l_names⟩ := c.def_ 7 (d := dd_l_names) rfl
  have b_l_names : Binds K d_l_names ["_law_bag_here", "_law_many"] [] := FunD.bindsN F_l_names fun _ _ _ _ _ _ us hl => match us, hl with | [_, _], _ => rfl
  obtain ⟨d_l_spots, F_l_spots⟩ := c.def_ 8 (d := dd_l_spots) rfl
  have b_l_spots : Binds K d_l_spots ["_law_bag_here", "_law_many", "_law_junctions"] [] := FunD.bindsN F_l_spots fun _ _ _ _ _ _ us hl => match us, hl with | [_, _, _], _ => rfl
  obtain ⟨d_l_places, F_l_places⟩ := c.def_ 9 (d := dd_l_places) rfl
  have b_l_places : Binds K d_l_places ["_law_bag_here", "_law_many"] [] := FunD.bindsN F_l_places fun _ _ _ _ _ _ us hl => match us, hl with | [_, _], _ => rfl
  obtain ⟨d_l_net, F_l_net⟩ := c.def_ 10 (d := dd_l_net) rfl
  have b_l_net : Binds K d_l_net ["_law_bag_here"] [] := FunD.bindsN F_l_net fun _ _ _ _ _ _ us hl => match us, hl with | [_], _ => rfl
  obtain ⟨d_l_laid, F_l_laid⟩ := c.def_ 11 (d := dd_l_laid) rfl
  have b_l_laid : Binds K d_l_laid ["_law_bag_here", "_law_lines", "_law_places_here", "_law_ties"] [] := FunD.bindsN F_l_laid fun _ _ _ _ _ _ us hl => match us, hl with | [_, _, _, _], _ => rfl
  obtain ⟨d_l_next, F_l_next⟩ := c.def_ 12 (d := dd_l_next) rfl
  have b_l_next : Binds K d_l_next ["_law_net_here", "_law_line"] [] := FunD.bindsN F_l_next fun _ _ _ _ _ _ us hl => match us, hl with | [_, _], _ => rfl
  obtain ⟨d_l_road, F_l_road⟩ := c.def_ 13 (d := dd_l_road) rfl
  have b_l_road : Binds K d_l_road ["_law_net_here", "_law_line", "_law_goals"] [] := FunD.bindsN F_l_road fun _ _ _ _ _ _ us hl => match us, hl with | [_, _, _], _ => rfl
  obtain ⟨d_l_like, F_l_like⟩ := c.def_ 14 (d := dd_l_like) rfl
  have b_l_like : Binds K d_l_like ["_law_told", "_law_due"] [] := FunD.bindsN F_l_like fun _ _ _ _ _ _ us hl => match us, hl with | [_, _], _ => rfl
  obtain ⟨d_l_less, F_l_less⟩ := c.def_ 15 (d := dd_l_less) rfl
  have b_l_less : Binds K d_l_less ["_law_bag_here", "_law_net_here"] [] := FunD.bindsN F_l_less fun _ _ _ _ _ _ us hl => match us, hl with | [_, _], _ => rfl
  obtain ⟨d_law, F_law⟩ := c.def_ 16 (d := dd_law) rfl
  have T : Defs K mg := {
    a_road_of_lines := _,
    d_road_of_lines := d_road_of_lines,
    F_road_of_lines := F_road_of_lines,
    g_road_of_lines := He.glo_ok X G (c.fact 0 (f := .glo "road_of_lines") rfl),
    b_road_of_lines := b_road_of_lines,
    a_road_to_any := _,
    d_road_to_any := d_road_to_any,
    F_road_to_any := F_road_to_any,
    g_road_to_any := He.glo_ok X G (c.fact 1 (f := .glo "road_to_any") rfl),
    b_road_to_any := b_road_to_any,
    a_steps_to := _,
    d_steps_to := d_steps_to,
    F_steps_to := F_steps_to,
    g_steps_to := He.glo_ok X G (c.fact 2 (f := .glo "steps_to") rfl),
    b_steps_to := b_steps_to,
    a_lines_beside := _,
    d_lines_beside := d_lines_beside,
    F_lines_beside := F_lines_beside,
    g_lines_beside := He.glo_ok X G (c.fact 3 (f := .glo "lines_beside") rfl),
    b_lines_beside := b_lines_beside,
    a_lines_joined := _,
    d_lines_joined := d_lines_joined,
    F_lines_joined := F_lines_joined,
    g_lines_joined := He.glo_ok X G (c.fact 4 (f := .glo "lines_joined") rfl),
    b_lines_joined := b_lines_joined,
    a_l_bag := _,
    d_l_bag := d_l_bag,
    F_l_bag := F_l_bag,
    g_l_bag := He.glo_ok X G (c.fact 5 (f := .glo "_law_bag") rfl),
    b_l_bag := b_l_bag,
    a_l_take := _,
    d_l_take := d_l_take,
    F_l_take := F_l_take,
    g_l_take := He.glo_ok X G (c.fact 6 (f := .glo "_law_take") rfl),
    b_l_take := b_l_take,
    a_l_names := _,
    d_l_names := d_l_names,
    F_l_names := F_l_names,
    g_l_names := He.glo_ok X G (c.fact 7 (f := .glo "_law_names") rfl),
    b_l_names := b_l_names,
    a_l_spots := _,
    d_l_spots := d_l_spots,
    F_l_spots := F_l_spots,
    g_l_spots := He.glo_ok X G (c.fact 8 (f := .glo "_law_spots") rfl),
    b_l_spots := b_l_spots,
    a_l_places := _,
    d_l_places := d_l_places,
    F_l_places := F_l_places,
    g_l_places := He.glo_ok X G (c.fact 9 (f := .glo "_law_places") rfl),
    b_l_places := b_l_places,
    a_l_net := _,
    d_l_net := d_l_net,
    F_l_net := F_l_net,
    g_l_net := He.glo_ok X G (c.fact 10 (f := .glo "_law_net") rfl),
    b_l_net := b_l_net,
    a_l_laid := _,
    d_l_laid := d_l_laid,
    F_l_laid := F_l_laid,
    g_l_laid := He.glo_ok X G (c.fact 11 (f := .glo "_law_laid") rfl),
    b_l_laid := b_l_laid,
    a_l_next := _,
    d_l_next := d_l_next,
    F_l_next := F_l_next,
    g_l_next := He.glo_ok X G (c.fact 12 (f := .glo "_law_next") rfl),
    b_l_next := b_l_next,
    a_l_road := _,
    d_l_road := d_l_road,
    F_l_road := F_l_road,
    g_l_road := He.glo_ok X G (c.fact 13 (f := .glo "_law_road") rfl),
    b_l_road := b_l_road,
    a_l_like := _,
    d_l_like := d_l_like,
    F_l_like := F_l_like,
    g_l_like := He.glo_ok X G (c.fact 14 (f := .glo "_law_like") rfl),
    b_l_like := b_l_like,
    a_l_less := _,
    d_l_less := d_l_less,
    F_l_less := F_l_less,
    g_l_less := He.glo_ok X G (c.fact 15 (f := .glo "_law_less") rfl),
    b_l_less := b_l_less,
    z_abs := He.free_ok X G (c.fact 17 (f := .free "abs") rfl),
    z_all := He.free_ok X G (c.fact 18 (f := .free "all") rfl),
    z_bool := He.free_ok X G (c.fact 19 (f := .free "bool") rfl),
    z_int := He.free_ok X G (c.fact 20 (f := .free "int") rfl),
    z_isinstance := He.free_ok X G (c.fact 21 (f := .free "isinstance") rfl),
    z_len := He.free_ok X G (c.fact 22 (f := .free "len") rfl),
    z_list := He.free_ok X G (c.fact 23 (f := .free "list") rfl),
    z_max := He.free_ok X G (c.fact 24 (f := .free "max") rfl),
    z_min := He.free_ok X G (c.fact 25 (f := .free "min") rfl),
    z_range := He.free_ok X G (c.fact 26 (f := .free "range") rfl),
    z_set := He.free_ok X G (c.fact 27 (f := .free "set") rfl),
    z_sorted := He.free_ok X G (c.fact 28 (f := .free "sorted") rfl),
    z_tuple := He.free_ok X G (c.fact 29 (f := .free "tuple") rfl),
    z_zip := He.free_ok X G (c.fact 30 (f := .free "zip") rfl) }
  have e := hfa.symm.trans (He.glo_ok X G (c.fact 16 (f := .glo "law") rfl))
  cases e
  have b := FunD.bindsA (ps := ["_law_script"]) F_law fun _ _ _ _ _ _ us hl => match us, hl with | [_], _ => rfl
  exact ⟨d_law, fun s v => b s [v] rfl, fun base _ _ => ok_law F_law T⟩
end Th
open PySem PySem.W PySem.Calls PyProof.Rows
set_option maxHeartbeats 0 in
theorem PySem.Challenge.cw_throughlines_k07_roads_of_lines_holds : PySem.Challenge.rw_throughlines_k07_roads_of_lines.Holds := by
  w_on; o_law
  refine HandSHeadRun.head_any (r := OpenLaw.row PySem.Challenge.rw_throughlines_k07_roads_of_lines) (q := view (OpenLaw.row PySem.Challenge.rw_throughlines_k07_roads_of_lines).prog [18]) (H := Th.hk) (ob := Th.ob) (M := 2000) (loose := Th.loose) (d := HandSHeadRun.topDef (OpenLaw.row PySem.Challenge.rw_throughlines_k07_roads_of_lines).prog 18) (kwd := []) Th.ob_eq
    (by kernel_rfl) (fun s => by kernel_rfl) Th.run (by kernel_rfl) (by kernel_rfl) (by kernel_rfl) (by rfl) (by first | assumption | decide +kernel) (by decide +kernel) ⟨rfl, rfl, rfl, rfl, rfl, by decide +kernel⟩ ?hw ?hc
  case hw => w_witness2
  case hc =>
    refine L2.walk_ofE (l := PySem.Challenge.rw_throughlines_k07_roads_of_lines) (n := 63) (k := 5) (x := "_law_script") (CX := L2.CX0) rfl (by decide) (by kernel_rfl) ⟨rfl, by decide, by decide⟩ ?F (fun _ _ _ _ z => z)
    intro w mg fa h Y G hmg0
    obtain ⟨K, KX, c⟩ := Y
    have hmg : mg ("law" : PySem.Str) = some (.ref fa) := by
      have e : (HandSHeadRun.topDef (OpenLaw.row PySem.Challenge.rw_throughlines_k07_roads_of_lines).prog 18).name = ("law" : PySem.Str) := by kernel_rfl
      rw [← e]
      exact hmg0
    obtain ⟨fd, hb, hF⟩ := Th.facts (P := (PySem.Challenge.rw_throughlines_k07_roads_of_lines).prog) (w := w) KX G hmg c
    exact ⟨K, fd, Th.sp_law K, KX, hb, fun H a ns hl _ hS => ⟨a, ns, rfl, hS, hl, fun _ => rfl⟩, hF⟩
